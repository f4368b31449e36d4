import PyProof.Rows.All
import Wide.All
import OpenK.AllK
import Wide.FinOn
import Lean
import PyProof.EqAt
import PyProof.EqKinds
import PyProof.TupleCall
import PyProof.Rows.SortRunsK
import PyProof.Rows.SortShellK
import PyProof.P3Eq
import OpenK.KOwn
import PyProof.InstStoreFacts
import PyProof.EnumFor
import PyProof.EnumMake
import PyProof.EnumStmt
import KE.KDictList
import PyProof.ListRange
import PyProof.Rows.SetFrom
import PyProof.WalksMore
import PyProof.AttrMissSeq
import KE.KDictOf
import PyProof.MinMaxWalk
import PyProof.Rows.CallKwBuiltin
import KE.KMinKey
import KE.KRevSl
import PyProof.SumAny
import PyProof.ZipIter
import PyProof.P3In
import PyProof.SeqI3
import KE.KSortTup
import KE.KSortKey
import PyProof.DictRoadsH
import PyProof.MeetsDict
import PyProof.TupleIter
import PyProof.DictIter
import PyProof.DictWalks
import KE.KRevIter
import PyProof.RaisesDict
import PySem.Challenge.RW_crosshall_k65_opened_and_folded
set_option compiler.extract_closed false
set_option Elab.async false
set_option linter.all false
set_option maxHeartbeats 4000000
set_option maxRecDepth 100000
local macro_rules | `(tactic|omega)=>`(tactic|first | lia | omega (config:={}))
noncomputable section
def zM:=@PySem.wpAny_bind
def zN:=@PySem.wpAny_pure
def zO:=@if_neg
def zP:=@if_pos
def zQ:=@Nat.le_refl
def zR:=@Bool.false_ne_true
def zS:=@decide_eq_true
def zT:=@decide_eq_false
def zU:=@Option.some.inj
def zV:=@Nat.ne_of_lt
def zW:=@Int.emod_lt_of_pos
def zX:=@Int.emod_nonneg
def zY:=@Nat.lt_of_lt_of_le
def zZ:=@Nat.zero_le
def z9:=@Nat.le_trans
def qa:=@False.elim
def qb:=@Array.length_toList
def qc:=@List.getElem?_eq_getElem
def qd:=@List.getElem?_eq_some_iff
def qe:=@List.length_map
def qf:=@List.mem_singleton
def qg:=@List.size_toArray
def qh:=@List.getD_eq_getElem?_getD
def qi:=@List.mem_of_getElem?
def qj:=@List.length_append
def qk:=@List.length_take
def ql:=@List.mem_cons_of_mem
def qm:=@List.mem_cons_self
def qo:=@List.mem_cons
def qp:=@List.map_cons
def qq:=@List.getElem?_map
def qr:=@List.take_length
def qt:=@List.map_append
def qu:=@List.mem_append
def qv:=@List.mem_append_right
def qw:=@List.mem_append_left
def qx:=@List.mem_iff_getElem?
def qy:=@List.mem_map
def qz:=@List.getElem?_append_right
def qA:=@List.getElem?_append_left
def qC:=@List.length_range
def qD:=@List.length_replicate
def qF:=@PySem.Heap.get?_push_of_some
def qG:=@PySem.Heap.get?_push_size
def qH:=@PySem.Heap.lt_size
def qI:=@PySem.Heap.get?_update_other
def qJ:=@PySem.F.plainAttrs_list
def qK:=@PySem.Around.under_plainId
open List (mem_filter mem_range filterMap_cons getElem_inj mem_filterMap any_eq_false length_cons append_nil nodup_cons of_mem_zip take_sublist filterMap_map length_drop length_set all_cons any_cons reverse_cons length_singleton cons_append length_nil length_filter_le map_nil nodup_nil forIn_cons lookup_cons all_eq_true take_add_one filter_append filter_eq_self not_mem_nil foldl_cons flatten_cons map_map sum_cons any_map take_of_length_le drop_length drop_of_length_le zip_cons_cons append_assoc ext_getElem? take_append_drop pairwise_iff_getElem countP_cons drop_eq_nil_of_le tail_drop eq_nil_of_length_eq_zero contains_cons getElem_map getElem_toArray range_succ any_append any_nil mapM_nil mapM_cons mapM_toArray all_toArray all_map length_zip pairwise_singleton forIn_toArray pairwise_map forIn_nil nodup_append any_eq_true zipIdx_cons zipIdx_nil length_reverse filter_cons eraseIdx_cons_zero eraseIdx_cons_succ filter_sublist length_eq_zero_iff nodup_range take_nil map_congr_left drop_zero take_eq_take_iff map_take getElem_range foldl_append take_zero getElem_mem all_eq_false mem_of_find?_eq_some cons_ne_nil map_id filter_nil mem_of_mem_take eq_of_mem_replicate map_replicate replicate_succ' replicate_succ map_eq_nil_iff pairwise_cons mem_map_of_mem pairwise_append flatMap_cons flatMap_append flatMap_singleton map_set mem_or_eq_of_mem_set getElem_cons_zero getElem_cons_succ map_drop mem_of_mem_drop perm_append_comm map_reverse mem_reverse reverse_perm length_pos_of_mem take_take mem_flatMap)
open PySem.W (Frag nsIn findIn)
namespace L2
open PySem PySem.Spec PyProof.Rows
abbrev Key:=Sum Int Str
def J3J:Key->Value->Bool
 | .inl k,v=>Value.isInt k v
 | .inr x,v=>Value.isStrOf x v
def Jg6 (w:World):Key->Int
 | .inl k=>hashInt k
 | .inr x=>hashStr w x
theorem JR:∀ {k:Key} {v:Value},J3J k v=true->(∃ i t,k=Sum.inl i/\v=Value.int i t)\/(∃ x t,k=Sum.inr x/\v=Value.str x t)
 | .inl i,v,h=>by
   obtain ⟨t,e⟩:=Value.isInt_shape (k:=i) (v:=v) h;exact .inl ⟨i,t,rfl,e⟩
 | .inr x,v,h=>by
   obtain ⟨t,e⟩:=Value.isStrOf_shape (x:=x) (v:=v) h;exact .inr ⟨x,t,rfl,e⟩
theorem JbG (i:Int)(t:Tok):J3J (.inl i) (.int i t)=true:=by simp [J3J,Value.isInt]
theorem JbF (x:Str)(t:Tok):J3J (.inr x) (.str x t)=true:=by simp [J3J,Value.isStrOf]
theorem Jfk (a b:Int):decide ((Sum.inl a:Key)=Sum.inl b)=(a == b):=by
 by_cases e:a=b
 ·subst e;simp
 ·have h:¬ (Sum.inl a:Key)=Sum.inl b:=λq=>e (Sum.inl.inj q)
  rw [zT h];exact (beq_eq_false_iff_ne.mpr e).symm
theorem Jfh (a b:Str):decide ((Sum.inr a:Key)=Sum.inr b)=decide (a=b):=by
 by_cases e:a=b
 ·subst e;simp
 ·have h:¬ (Sum.inr a:Key)=Sum.inr b:=λq=>e (Sum.inr.inj q)
  rw [zT h,zT e]
theorem Jfj (a:Int)(b:Str):decide ((Sum.inl a:Key)=Sum.inr b)=false:=zT (λq=>nomatch q)
theorem Jfi (a:Str)(b:Int):decide ((Sum.inr a:Key)=Sum.inl b)=false:=zT (λq=>nomatch q)
def J0j (prog:Program)(w:World):PySem.KeyKind prog w Key where
 is:=J3J
 hash:=Jg6 w
 inj := λv a b ha hb=>by
  rcases JR ha with ⟨i,t,rfl,rfl⟩ | ⟨x,t,rfl,rfl⟩
  ·rcases JR hb with ⟨j,u,rfl,e⟩ | ⟨y,u,rfl,e⟩
   ·injection e with e1 _;rw [e1]
   ·exact nomatch e
  ·rcases JR hb with ⟨j,u,rfl,e⟩ | ⟨y,u,rfl,e⟩
   ·exact nomatch e
   ·injection e with e1 _;rw [e1]
 byValue:=λk v h=>by
  rcases JR h with ⟨i,t,rfl,rfl⟩ | ⟨x,t,rfl,rfl⟩<;>rfl
 pyHash:=λhv h=>by
  rcases JR hv with ⟨i,t,rfl,rfl⟩ | ⟨x,t,rfl,rfl⟩
  ·exact wpAny_pyHash_int h
  ·exact wpAny_pyHash_str h
 eqBool:=λhu hv h=>by
  rcases JR hu with ⟨i,t,rfl,rfl⟩ | ⟨x,t,rfl,rfl⟩
  ·rcases JR hv with ⟨j,u,rfl,rfl⟩ | ⟨y,u,rfl,rfl⟩
   ·rw [Jfk] at h;exact wpAny_eqBool_int h
   ·rw [Jfj] at h;exact SeqAt.EqAt.int_str i t y u _ _ _ _ h
  ·rcases JR hv with ⟨j,u,rfl,rfl⟩ | ⟨y,u,rfl,rfl⟩
   ·rw [Jfi] at h;exact SeqAt.EqAt.str_int x t j u _ _ _ _ h
   ·rw [Jfh] at h;exact wpAny_eqBool_str h
 «strs»:=λk x t v h=>by
  rcases JR h with ⟨i,u,rfl,e⟩ | ⟨y,u,rfl,e⟩
  ·exact nomatch e
  ·injection e with e1 _
   subst e1;cases v<;>rfl
theorem J9b (prog:Program)(w:World)(i:Int)(t:Tok):(J0j prog w).is (.inl i) (.int i t)=true:=JbG i t
theorem J9a (prog:Program)(w:World)(x:Str)(t:Tok):(J0j prog w).is (.inr x) (.str x t)=true:=JbF x t
abbrev Ji:=Option Key
def nIs:Ji->Value->Bool
 | none,.none=>true
 | none,_=>false
 | some k,v=>J3J k v
def nH (w:World):Ji->Int
 | none=>reduceHash 0xFCA86420
 | some k=>Jg6 w k
theorem J0F:∀ {k:Ji} {v:Value},nIs k v=true->(k=none/\v=Value.none)\/∃ q,k=some q/\J3J q v=true
 | none,v,h=>by cases v<;>first | exact .inl ⟨rfl,rfl⟩ | exact nomatch h
 | some k,v,h=>.inr ⟨k,rfl,h⟩
theorem J4k {q:Key}(h:J3J q Value.none=true):False:=by
 rcases JR h with ⟨_,_,_,e⟩ | ⟨_,_,_,e⟩<;>exact nomatch e
theorem J8U {prog:Program}{w:World}{A:Around}{E:Value->Shared->Prop}{s:Shared}{Q:Int->Shared->Prop}(h:Q (reduceHash 0xFCA86420) { s with toks:=s.toks+1 }):wpAny (model prog w) A (pyHash .none) Q E s :=
 PySem.W.pyHash_slot (T:="NoneType") rfl F.slot_NoneType_hash F.entry_NoneType_hash (F.args_NoneType_hash_1 _) (beq_builtin_none _) (.inl rfl) (zM (zN (zM (wpAny_mkInt (zN ⟨_,_,rfl,h⟩)))))
theorem J9m {prog:Program}{w:World}{A:Around}{E:Value->Shared->Prop}{s:Shared}{Q:Bool->Shared->Prop}(h:Q true s):wpAny (model prog w) A (eqBool .none .none) Q E s:=by
 unfold eqBool
 try with_reducible refine wpAny_holding ?_
 show wpAny _ _ (if (Value.none == Value.none)=true then _ else _) Q E s;rw [zP (by decide)];exact zM (wpAny_rule (zN h))
def J0b (prog:Program)(w:World):PySem.KeyKind prog w Ji where
 is:=nIs
 hash:=nH w
 inj := λv a b ha hb=>by
  rcases J0F ha with ⟨rfl,rfl⟩ | ⟨q,rfl,hq⟩
  ·rcases J0F hb with ⟨rfl,_⟩ | ⟨q',rfl,hq'⟩
   ·rfl
   ·exact (J4k hq').elim
  ·rcases J0F hb with ⟨rfl,rfl⟩ | ⟨q',rfl,hq'⟩
   ·exact (J4k hq).elim
   ·rw [(J0j prog w).inj v q q' hq hq']
 byValue:=λk v h=>by
  rcases J0F h with ⟨rfl,rfl⟩ | ⟨q,rfl,hq⟩
  ·rfl
  ·exact (J0j prog w).byValue q v hq
 pyHash:=λhv h=>by
  rcases J0F hv with ⟨rfl,rfl⟩ | ⟨q,rfl,hq⟩
  ·exact J8U h
  ·exact (J0j prog w).pyHash hq h
 eqBool:=λ{A E s a b u v Q} hu hv h=>by
  rcases J0F hu with ⟨rfl,rfl⟩ | ⟨q,rfl,hq⟩
  ·rcases J0F hv with ⟨rfl,rfl⟩ | ⟨q',rfl,hq'⟩
   ·exact J9m (by simpa using h)
   ·have h':Q false s:=by simpa using h
    rcases JR hq' with ⟨i,t,rfl,rfl⟩ | ⟨x,t,rfl,rfl⟩
    ·exact SeqAt.EqAt.none_int i t _ _ _ _ h'
    ·exact SeqAt.EqAt.none_str x t _ _ _ _ h'
  ·rcases J0F hv with ⟨rfl,rfl⟩ | ⟨q',rfl,hq'⟩
   ·have h':Q false s:=by simpa using h
    rcases JR hq with ⟨i,t,rfl,rfl⟩ | ⟨x,t,rfl,rfl⟩
    ·exact SeqAt.EqAt.int_none i t _ _ _ _ h'
    ·exact SeqAt.EqAt.str_none x t _ _ _ _ h'
   ·refine (J0j prog w).eqBool hq hq' ?_
    have e:decide ((some q:Ji)=some q')=decide (q=q'):=by simp
    rw [<- e];exact h
 «strs»:=λk x t v h=>by
  rcases J0F h with ⟨rfl,e⟩ | ⟨q,rfl,hq⟩
  ·exact nomatch e
  ·exact (J0j prog w).strs q x t v hq
inductive V where
 | non | bl (b:Bool) | int (i:Int) | str (x:Str) | byt (b:Array UInt8) | flt (b:UInt64) | ref (a:Addr) | ty (n:String)
 deriving DecidableEq
def RelV:V->Value->Prop
 | .non,u=>u=Value.none
 | .bl b,u=>u=Value.bool b
 | .int i,u=>∃ t,u=Value.int i t
 | .str x,u=>∃ t,u=Value.str x t
 | .byt b,u=>∃ t,u=Value.bytes b t
 | .flt b,u=>∃ t,u=Value.float b t
 | .ref a,u=>u=Value.ref a
 | .ty n,u=>u=Value.type n
abbrev Vals:List V->List Value->Prop:=Paired RelV
theorem Vals.length {xs:List V}{us:List Value}(r:Vals xs us):xs.length=us.length:=Paired.length r
theorem Vals.get:∀ {xs:List V} {us:List Value} {i:Nat} {x:V},Vals xs us->xs[i]?=some x->∃ u,us[i]?=some u/\RelV x u
 | _,_,_,_,.nil,e=>by simp at e
 | _,_,0,_,.cons r _,e=>by simp at e;subst e;exact ⟨_,rfl,r⟩
 | _,_,i+1,x,.cons _ t,e=>by
   obtain ⟨u,h1,h2⟩:=Vals.get (i:=i) (x:=x) t (by simpa using e);exact ⟨u,by simpa using h1,h2⟩
theorem Vals.set {x:V}{u:Value}(r:RelV x u):∀ {xs:List V} {us:List Value} (i:Nat),Vals xs us->Vals (xs.set i x) (us.set i u)
 | _,_,_,.nil=>.nil
 | _,_,0,.cons _ t=>.cons r t
 | _,_,i+1,.cons q t=>.cons q (Vals.set r i t)
theorem Vals.append:∀ {xs ys:List V} {us ws:List Value},Vals xs us->Vals ys ws->Vals (xs++ys) (us++ws)
 | _,_,_,_,.nil,s=>s
 | _,_,_,_,.cons r t,s=>.cons r (Vals.append t s)
theorem Vals.take:∀ {xs:List V} {us:List Value} (n:Nat),Vals xs us->Vals (xs.take n) (us.take n)
 | _,_,0,_=>.nil
 | _,_,_+1,.nil=>.nil
 | _,_,n+1,.cons r t=>.cons r (Vals.take n t)
theorem Vals.drop:∀ {xs:List V} {us:List Value} (n:Nat),Vals xs us->Vals (xs.drop n) (us.drop n)
 | _,_,0,r=>r
 | _,_,_+1,.nil=>.nil
 | _,_,n+1,.cons _ t=>Vals.drop n t
def RelO:Option V->Option Value->Prop
 | some v,some u=>RelV v u
 | none,none=>True
 | _,_=>False
def KV {κ:Type}:List (κ×V)->List (κ×Value)->Prop:=Paired λ(p:κ×V) (q:κ×Value)=>p.1=q.1/\RelV p.2 q.2
def kV:Key->V
 | .inl i=>.int i
 | .inr x=>.str x
def nV:Ji->V
 | none=>.non
 | some k=>kV k
inductive HO where
 | lst (xs:List V)
 | tup (xs:List V)
 | dK (kvs:List (Key×V)) | dT (kvs:List (List Ji×V))
 | set (S:Int->Bool) (n:Nat)
 | ins (C dx:Addr) (fs:List (Str×V))
 | own (x:Addr)
 | xd (fs:List (Str×V))
 | met (f x:Addr)
 | rng (lo hi:Int)
 | frz (o:Obj) (u:HO)
 | tbl (ps:Array Value)
 | ext (φ:Heap->Prop)
abbrev Hp:=Addr->Option HO
def upd (H:Hp)(a:Addr)(o:HO):Hp:=λb=>if b=a then some o else H b
theorem Jd {H:Hp}{a:Addr}{o:HO}:upd H a o a=some o:=by unfold upd;rw [zP rfl]
theorem Jj {H:Hp}{a b:Addr}{o:HO}(h:b≠a):upd H a o b=H b:=by unfold upd;rw [zO h]
theorem J7v {H:Hp}{a:Addr}{o u:HO}:upd (upd H a o) a u=upd H a u:=by
 funext b;unfold upd;split<;>rfl
theorem J0S {H:Hp}{a b:Addr}{o u:HO}(h:H a=some o)(h':H b=some u)(d:o≠u):a≠b:=by
 intro e;subst e;rw [h] at h';exact d (zU h')
theorem JY {H:Hp}{a b:Addr}{o:HO}(h:H a=some o)(h':H b=none):a≠b:=by
 intro e;subst e;rw [h] at h';cases h'
section
variable (P:Program)(w:World)
def ObjOk (H:Hp)(h:Heap)(a:Addr):HO->Prop
 | .lst xs=>xs.length<=sizeLine/\∃ (its:List Value) (n:Nat),Vals xs its/\h.get? a=some { cls:=.type "list",data:=.seq its.toArray n }
 | .tup xs=>xs.length<=sizeLine/\∃ its:List Value,Vals xs its/\IsTup h a its.toArray
 | .dK kvs=>kvs.length<=sizeLine/\(a == sysModules)=false/\∃ vs,KV kvs vs/\h.DictOf (J0j P w) a vs
 | .dT kvs=>kvs.length<=sizeLine/\(a == sysModules)=false/\∃ xs:List (List Ji×Addr×Value),
  Paired (λ(p:List Ji×V) (q:List Ji×Addr×Value)=>p.1=q.1/\H q.2.1=some (.tup (p.1.map nV))/\RelV p.2 q.2.2) kvs xs /\
  ∃ o es ep,h.get? a=some o/\o.ExactDict/\o.data=.dict es ep/\es.toList=xs.map (entryOfKey (tupleKind (J0b P w)))/\(xs.map (·.1)).Nodup
 | .set S n=>h.SetOf (intKind P w) a S n
 | .ins C dx fs=>H dx=some (.own a)/\fs.length<=1000/\dx≠a/\h.get? a=some (PySem.W.instObj C dx) /\
  ∃ mA,h.Ns1 dx mA/\(∀ f,RelO (fs.lookup f) (mA f))/\PySem.Within mA (fs.map (·.1))
 | .own _=>∃ o,h.get? a=some o
 | .xd fs=>∃ mA,h.Ns1 a mA/\∀ f,RelO (fs.lookup f) (mA f)
 | .rng lo hi=>∃ t u v,h.get? a=some { cls:=.type "range",data:=.fields #[.int lo t,.int hi u,.int 1 v] }
 | .frz o u=>h.get? a=some o/\ObjOk H h a u
 | .tbl ps=>h.get? a=some { cls:=.none,data:=.fields ps }
 | .met f x=>h.get? a=some (PySem.W.methodObj (.ref f) (.ref x))
 | .ext φ=>φ h/\(∃ o,h.get? a=some o)/\∀ h1 h2:Heap,φ h1->(∀ o,h1.get? a=some o->h2.get? a=some o)->φ h2
def HOk (H:Hp)(h:Heap):Prop:=∀ a o,H a=some o->ObjOk P w H h a o
end
section
variable {P:Program}{w:World}{H H':Hp}{h h':Heap}{a:Addr}{o:HO}
theorem ObjOk.lt (x:ObjOk P w H h a o):a<h.objs.size:=by
 cases o with
 | lst xs=>obtain ⟨_,_,_,_,e⟩:=x;exact qH e
 | tup xs=>obtain ⟨_,_,_,p⟩:=x;exact p.lt
 | dK kvs=>obtain ⟨_,_,_,_,o,_,_,e,_⟩:=x;exact qH e
 | dT kvs=>obtain ⟨_,_,_,_,o,_,_,e,_⟩:=x;exact qH e
 | set S n=>obtain ⟨o,_,_,_,e,_⟩:=x;exact qH e
 | ins C dx fs=>obtain ⟨_,_,_,e,_⟩:=x;exact qH e
 | own y=>obtain ⟨_,e⟩:=x;exact qH e
 | xd fs=>obtain ⟨_,⟨_,_,_,e,_⟩,_⟩:=x;exact qH e
 | rng lo hi=>obtain ⟨_,_,_,e⟩:=x;exact qH e
 | frz ob u=>obtain ⟨e,_⟩:=x;exact qH e
 | tbl ps=>exact qH (show h.get? a=some _ from x)
 | met f y=>exact qH (show h.get? a=some _ from x)
 | ext φ=>obtain ⟨_,⟨_,e⟩,_⟩:=x;exact qH e
theorem Paired.mapP {α β:Type}{F G:α->β->Prop}:∀ {l₁:List α} {l₂:List β},Paired F l₁ l₂->(∀ a b,F a b->G a b)->Paired G l₁ l₂
 | _,_,.nil,_=>.nil
 | _,_,.cons r t,f=>.cons (f _ _ r) (Paired.mapP t f)
theorem ObjOk.stay (x:ObjOk P w H h a o)(k:∀ b u,(b=a\/H b=some (.own a))->h.get? b=some u->h'.get? b=some u)
 (ho:∀ b,H b=some (.own a)->H' b=some (.own a)) (ht:∀ b xs,H b=some (.tup xs)->H' b=some (.tup xs)):ObjOk P w H' h' a o:=by
 induction o with
 | lst xs=>obtain ⟨z,its,n,r,e⟩:=x;exact ⟨z,its,n,r,k _ _ (.inl rfl) e⟩
 | tup xs=>obtain ⟨z,its,r,ob,e,c⟩:=x;exact ⟨z,its,r,ob,k _ _ (.inl rfl) e,c⟩
 | dK kvs=>obtain ⟨z,y,vs,r,ob,es,ep,e,c⟩:=x;exact ⟨z,y,vs,r,ob,es,ep,k _ _ (.inl rfl) e,c⟩
 | dT kvs =>
   obtain ⟨z,y,xs,r,ob,es,ep,e,c⟩:=x;exact ⟨z,y,xs,Paired.mapP r λp q z=>⟨z.1,ht _ _ z.2.1,z.2.2⟩,ob,es,ep,k _ _ (.inl rfl) e,c⟩
 | set S n=>obtain ⟨ob,es,ep,t,e,c⟩:=x;exact ⟨ob,es,ep,t,k _ _ (.inl rfl) e,c⟩
 | ins C dx fs =>
   obtain ⟨d,z,ne,e,mA,⟨od,es,ep,e2,c⟩,r⟩:=x;exact ⟨ho _ d,z,ne,k _ _ (.inl rfl) e,mA,⟨od,es,ep,k _ _ (.inr d) e2,c⟩,r⟩
 | own y=>obtain ⟨ob,e⟩:=x;exact ⟨ob,k _ _ (.inl rfl) e⟩
 | xd fs=>obtain ⟨mA,⟨od,es,ep,e,c⟩,r⟩:=x;exact ⟨mA,⟨od,es,ep,k _ _ (.inl rfl) e,c⟩,r⟩
 | rng lo hi=>obtain ⟨t,u,v,e⟩:=x;exact ⟨t,u,v,k _ _ (.inl rfl) e⟩
 | frz ob u ih=>obtain ⟨e,q⟩:=x;exact ⟨k _ _ (.inl rfl) e,ih q⟩
 | tbl ps =>
   have e:h.get? a=some { cls:=.none,data:=.fields ps }:=x;show h'.get? a=some { cls:=.none,data:=.fields ps };exact k a _ (.inl rfl) e
 | met f y =>
   have e:h.get? a=some (PySem.W.methodObj (.ref f) (.ref y)):=x;show h'.get? a=some (PySem.W.methodObj (.ref f) (.ref y));exact k a _ (.inl rfl) e
 | ext φ=>obtain ⟨p,⟨o,e⟩,st⟩:=x;exact ⟨st _ _ p λo q=>k _ _ (.inl rfl) q,⟨o,k _ _ (.inl rfl) e⟩,st⟩
theorem HOk.lt (x:HOk P w H h)(e:H a=some o):a<h.objs.size:=(x a o e).lt
theorem HOk.fresh (x:HOk P w H h)(e:h.objs.size<=a):H a=none:=by
 cases q:H a with
 | none=>rfl
 | some u=>exact absurd (zY (x.lt q) e) (Nat.lt_irrefl _)
theorem HOk.kept (x:HOk P w H h)(k:∀ b u,h.get? b=some u->h'.get? b=some u):HOk P w H h':=λa o e =>
 (x a o e).stay (λb u _ q=>k b u q) (λ_ q=>q) λ_ _ q=>q
theorem HOk.laid (x:HOk P w H h)(k:∀ b u,h.get? b=some u->h'.get? b=some u)(hp:h.objs.size<=a)(new:ObjOk P w (upd H a o) h' a o):HOk P w (upd H a o) h':=λb u e=>by
 have hn:=x.fresh hp;by_cases hb:b=a
 ·subst hb;rw [Jd] at e;cases e;exact new
 ·rw [Jj hb] at e
  exact (x b u e).stay (λc v _ q=>k c v q) (λc q=>by rw [Jj (JY q hn)];exact q) λc xs q=>by rw [Jj (JY q hn)];exact q
end
def Rd (H:Hp)(a:Addr)(u:HO):Prop:=H a=some u\/∃ o,H a=some (.frz o u)
theorem Rd.ok {P:Program}{w:World}{H:Hp}{h:Heap}{a:Addr}{u:HO}(r:Rd H a u)(x:HOk P w H h):ObjOk P w H h a u:=by
 rcases r with r | ⟨o,r⟩
 ·exact x a u r
 ·obtain ⟨_,q⟩:=x a _ r
  exact q
def Mut:Option HO->Prop
 | some (.lst _)=>True
 | some (.dK _)=>True
 | some (.dT _)=>True
 | some (.set _ _)=>True
 | some (.ins _ _ _)=>True
 | some (.ext _)=>True
 | _=>False
section
variable {P:Program}{w:World}{H:Hp}{h h':Heap}{x e:Addr}{o':HO}
theorem HOk.write (ok:HOk P w H h)(mu:Mut (H x))(he:e=x\/H e=some (.own x))(k:∀ b u,b≠e->h.get? b=some u->h'.get? b=some u)(heo:∃ u,h'.get? e=some u)
 (new:ObjOk P w (upd H x o') h' x o'):HOk P w (upd H x o') h':=λb u q=>by
 have nown:∀ c y,H c=some (.own y)->c≠x:=λc y r z=>by subst z;rw [r] at mu;exact mu
 have ntup:∀ c xs,H c=some (.tup xs)->c≠x:=λc xs r z=>by subst z;rw [r] at mu;exact mu
 by_cases hb:b=x
 ·subst hb;rw [Jd] at q;cases q;exact new
 ·rw [Jj hb] at q
  by_cases hbe:b=e
  ·have q':H b=some (.own x):=by
    rcases he with z | z
    ·exact absurd (hbe.trans z) hb
    ·rw [hbe];exact z
   rw [q] at q';cases q';obtain ⟨v,hv⟩:=heo;exact ⟨v,by rw [hbe];exact hv⟩
  ·refine (ok b u q).stay (λc v hc r=>k c v ?_ r) (λc r=>by rw [Jj (nown c b r)];exact r) λc xs r=>by rw [Jj (ntup c xs r)];exact r
   rcases hc with rfl | hc
   ·exact hbe
   ·rintro rfl
    rcases he with z | z
    ·exact nown c b hc z
    ·rw [hc] at z;cases z;exact hb rfl
end
structure Un (fs ex:List Addr)(H H':Hp)(h h':Heap):Prop where
 keep:∀ b o,h.get? b=some o->H b=none->b∉fs->b∉ex->h'.get? b=some o
 slot:∀ b o,h.get? b=some o->H b=none->b∈fs->b∉ex->∃ sl,h'.get? b=some { o with slots:=sl }
 free:∀ b o,h.get? b=some o->H b=none->b∉ex->H' b=none
 there:∀ b o,h.get? b=some o->b∉ex->∃ o',h'.get? b=some o'
 tups:∀ b xs,H b=some (.tup xs)->H' b=some (.tup xs)
 frzs:∀ b o u,H b=some (.frz o u)->H' b=some (.frz o u)
 tbls:∀ b ps,H b=some (.tbl ps)->∃ more,H' b=some (.tbl (ps++more))
section
variable {fs fs' ex ex':List Addr}{H H1 H2:Hp}{h h1 h2 h':Heap}{a x e:Addr}{o:HO}
theorem Un.any (u:Un fs ex H H1 h h1){b:Addr}{ob:Obj}(q:h.get? b=some ob)(n:H b=none)(hx:b∉ex):∃ sl,h1.get? b=some { ob with slots:=sl }:=by
 by_cases hb:b∈fs
 ·exact u.slot b ob q n hb hx
 ·exact ⟨ob.slots,u.keep b ob q n hb hx⟩
theorem Un.kept (k:∀ b u,h.get? b=some u->h'.get? b=some u):Un fs ex H H h h' :=
 ⟨λb ob q _ _ _=>k b ob q,λb ob q _ _ _=>⟨ob.slots,k b ob q⟩,λ_ _ _ n _=>n,λb ob q _=>⟨ob,k b ob q⟩,λ_ _ q=>q,λ_ _ _ q=>q,λ_ ps q=>⟨#[],by rw [q];simp⟩⟩
theorem Un.refl:Un fs ex H H h h:=Un.kept λ_ _ q=>q
theorem Un.laid (k:∀ b u,h.get? b=some u->h'.get? b=some u)(hp:h.objs.size<=a)(hn:H a=none):Un fs ex H (upd H a o) h h' where
 keep:=λb u q _ _ _=>k b u q
 slot:=λb u q _ _ _=>⟨u.slots,k b u q⟩
 free:=λb u q n _=>by rw [Jj (zV (zY (qH q) hp))];exact n
 there:=λb u q _=>⟨u,k b u q⟩
 tups:=λb xs q=>by rw [Jj (JY q hn)];exact q
 frzs:=λb u xs q=>by rw [Jj (JY q hn)];exact q
 tbls:=λb ps q=>⟨#[],by rw [Jj (JY q hn),q];simp⟩
theorem Un.write (mu:Mut (H x))(he:e=x\/H e=some (.own x))(k:∀ b u,b≠e->h.get? b=some u->h'.get? b=some u)(heo:∃ u,h'.get? e=some u):Un fs ex H (upd H x o) h h':=by
 have hx:∀ b,H b=none->b≠x:=λb n z=>by subst z;rw [n] at mu;exact mu
 have hb:∀ b,H b=none->b≠e:=λb n z=>by
  subst z;rcases he with r | r
  ·exact hx b n r
  ·rw [n] at r;cases r
 have hm:∀ b u,H b=some u->¬ Mut (some u)->b≠x:=λb u q nm z=>by subst z;rw [q] at mu;exact nm mu
 refine ⟨λb u q n _ _=>k b u (hb b n) q,λb u q n _ _=>⟨u.slots,k b u (hb b n) q⟩,λb u q n _=>by rw [Jj (hx b n)];exact n,λb u q _=>?_,
  λb xs q=>by rw [Jj (hm b _ q λz=>z)];exact q,λb u xs q=>by rw [Jj (hm b _ q λz=>z)];exact q,λb ps q=>⟨#[],by rw [Jj (hm b _ q λz=>z),q];simp⟩⟩
 by_cases hbe:b=e
 ·subst hbe;exact heo
 ·exact ⟨u,k b u hbe q⟩
end
def trk (h:Heap)(H:Hp):List Addr:=(List.range h.objs.size).filter λa=>(H a).isSome
def J89 (h:Heap)(H:Hp):Heap:=PySem.W.hideAll h (trk h H)
theorem JbM (h:Heap)(H:Hp):(J89 h H).objs.size=h.objs.size:=PySem.W.hideAll_size _ _
theorem Jd3 {h:Heap}{H:Hp}{b:Addr}{o:Obj}(e:h.get? b=some o)(n:H b=none):(J89 h H).get? b=some o :=
 PySem.W.hideAll_get _ e λhm=>by
  have q:(H b).isSome=true:=(mem_filter.mp hm).2;rw [n] at q;simp at q
theorem Je8 {h:Heap}{H:Hp}{b:Addr}{o:Obj}(e:(J89 h H).get? b=some o):h.get? b=some o/\H b=none:=by
 have e':h.get? b=some o:=PySem.W.of_hideAll (trk h H) e;refine ⟨e',?_⟩;cases q:H b with
 | none=>rfl
 | some x =>
   have hm:b∈trk h H:=mem_filter.mpr ⟨mem_range.mpr (qH e'),by simp [q]⟩;have z:(J89 h H).get? b=none:=PySem.W.hideAll_none (trk h H) hm;rw [z] at e;cases e
structure Mod (K:Frag)(mg:Str->Option Value)(base:Heap):Prop where
 kin:K.In base
 glob:base.Ns mainGlobals mg
 blt:∃ mb,base.Ns builtinsNs mb/\∀ x:Str,x≠"__name__"->mb x=bootBuiltins x
 nolimit:base.NoLimit
structure Cx where
 prog:Program
 w:World
 K:Frag
 mg:Str->Option Value
 base:Heap
 A:Around
 N:List Str
 s₀:Shared
 H₀:Hp
 env:Env
 outer:List Env
 stack:List Env
 ex:List Addr
 fn:Str->Bool
 calm:Bool
 pn:List (Addr×Obj)
 xe:Value->Shared->Prop
def frs (l:List Env):List Addr:=l.filterMap (·.frame)
abbrev Cx.fs (X:Cx):List Addr:=frs X.outer
def Vis (sc:Scope)(x:Str):Prop:=sc.names.lookup x=some .local\/sc.names.lookup x=some .cell\/sc.names.lookup x=some .free
def Loc (sc:Scope)(x:Str):Prop:=sc.names.lookup x=some .local\/sc.names.lookup x=some .cell
def Jgs (env:Env)(h:Heap)(m:Str->Option Value)(x:Str)(u:Value):Prop :=
 (env.kindOf x=some .local/\m x=some u)\/((env.kindOf x=some .cell\/env.kindOf x=some .free)/\∃ c,env.cells.lookup x=some c/\h.IsCell c (some u))
structure Cx.Ok (X:Cx):Prop where
 mod:Mod X.K X.mg X.base
 kind:X.env.scope.kind=.function
 glob:X.env.globals=mainGlobals
 blt:X.env.builtins=builtinsNs
 above:X.s₀.heap.objs.size<=X.env.locals
 inj:∀ x y c,X.env.cells.lookup x=some c->X.env.cells.lookup y=some c->x=y
 has:∀ x,(X.env.kindOf x=some .cell\/X.env.kindOf x=some .free)->∃ c,X.env.cells.lookup x=some c
 cab:∀ x c,X.fn x=true->X.env.cells.lookup x=some c->X.s₀.heap.objs.size<=c
 hd:X.calm=true->X.A.handled=none
 frames:X.A.frames=some X.stack
 stk:X.stack=X.outer\/(X.stack=X.env::X.outer/\X.env.frame=some X.env.locals)
 exf:∀ b∈X.ex,b≠X.env.locals/\∀ x c,X.env.cells.lookup x=some c->c≠b
 bs:∀ b o,X.base.get? b=some o->X.s₀.heap.get? b=some o/\X.H₀ b=none
 bsz:X.base.objs.size<=X.s₀.heap.objs.size
 noex:∀ b o,X.base.get? b=some o->b∉X.ex
 exfs:∀ b∈X.ex,b∉X.fs
 funs:X.s₀.heap.FunFrames X.base X.outer
 frf:∀ b∈X.fs,X.H₀ b=none
structure Inv (X:Cx)(pins:List (Addr×Obj))(σ:List (Option V))(H:Hp)(s:Shared):Prop where
 ok:X.Ok
 os:s.os=X.s₀.os
 bare:AllBare s.gens
 base:Un X.fs X.ex X.H₀ H X.s₀.heap s.heap
 loc:∃ m,s.heap.Ns X.env.locals m/\∀ (i:Nat) (x:Str) (v:V),X.N[i]?=some x->σ[i]?=some (some v)->Vis X.env.scope x->∃ u,RelV v u/\Jgs X.env s.heap m x u
 cell:∀ x c,X.env.cells.lookup x=some c->∃ v,s.heap.IsCell c v
 free:H X.env.locals=none
 freeC:∀ x c,X.env.cells.lookup x=some c->H c=none
 pin:∀ p∈X.pn++pins,s.heap.get? p.1=some p.2/\H p.1=none/\p.1≠X.env.locals/\p.1∉X.fs/\∀ v,p.2.data≠.cell v
 hok:HOk X.prog X.w H s.heap
 len:σ.length=X.N.length
section
variable {X:Cx}{pins:List (Addr×Obj)}{σ:List (Option V)}{H H':Hp}{s:Shared}{h':Heap}
theorem Cx.Ok.nofr (ok:X.Ok){b:Addr}{o:Obj}(e:X.base.get? b=some o):b∉X.fs:=λhb=>by
 have:=(ok.funs.mem hb).1;rw [e] at this;cases this
theorem Inv.bs (I:Inv X pins σ H s):∀ b o,X.base.get? b=some o->s.heap.get? b=some o/\H b=none:=λb o e =>
 ⟨I.base.keep b o (I.ok.bs b o e).1 (I.ok.bs b o e).2 (I.ok.nofr e) (I.ok.noex b o e),I.base.free b o (I.ok.bs b o e).1 (I.ok.bs b o e).2 (I.ok.noex b o e)⟩
theorem Inv.bk (I:Inv X pins σ H s):∀ b o,X.base.get? b=some o->s.heap.get? b=some o:=λb o e=>(I.bs b o e).1
theorem Inv.mod (I:Inv X pins σ H s):Mod X.K X.mg X.base:=I.ok.mod
theorem Inv.kIn (I:Inv X pins σ H s):X.K.In s.heap:=I.ok.mod.kin.keeps I.bk
theorem Inv.lt (I:Inv X pins σ H s):X.env.locals<s.heap.objs.size:=let ⟨_,hn,_⟩:=I.loc;hn.lt
theorem Inv.sz (I:Inv X pins σ H s):X.s₀.heap.objs.size<=s.heap.objs.size:=z9 I.ok.above (Nat.le_of_lt I.lt)
theorem Inv.nofs (I:Inv X pins σ H s){a:Addr}(h:s.heap.objs.size<=a):a∉X.fs:=λhb=>by
 obtain ⟨_,o,ho,_⟩:=I.ok.funs.mem hb;exact absurd (zY (qH ho) (z9 I.sz h)) (Nat.lt_irrefl _)
theorem Inv.cne (I:Inv X pins σ H s):∀ x c,X.env.cells.lookup x=some c->c≠X.env.locals:=λx c e z=>by
 obtain ⟨v,o,ho,hd⟩:=I.cell x c e;obtain ⟨m,⟨o',es,ep,ho',hd',_⟩,_⟩:=I.loc;rw [z,ho'] at ho;cases ho;rw [hd'] at hd;cases hd
theorem Inv.funs (I:Inv X pins σ H s):s.heap.FunFrames X.base X.outer:=by
 have all:∀ (l:List Env),(∀ b∈frs l,b∈X.fs)->X.s₀.heap.FunFrames X.base l->s.heap.FunFrames X.base l:=by
  intro l
  induction l with
  | nil=>intro _ _;trivial
  | cons env r ih =>
    intro hs hl;obtain ⟨hk,⟨L,o,hf,hn,ho,hd⟩,hr⟩:=hl;have hL:L∈X.fs:=hs L (by unfold frs;rw [filterMap_cons,hf];exact qm);obtain ⟨sl,e⟩:=I.base.slot L o ho (I.ok.frf L hL) hL λz=>I.ok.exfs L z hL;exact ⟨hk,⟨L,_,hf,hn,e,hd⟩,ih (λb hb=>hs b (by unfold frs;rw [filterMap_cons,hf];exact ql _ hb)) hr⟩
 exact all X.outer (λ_ hb=>hb) I.ok.funs
theorem Inv.stack (I:Inv X pins σ H s):s.heap.FunFrames X.base X.stack:=by
 rcases I.ok.stk with e | ⟨e,hf⟩
 ·rw [e];exact I.funs
 ·rw [e]
  obtain ⟨m,hn,_⟩:=I.loc;refine .cons (by rw [I.ok.kind];decide) hf hn ?_ I.funs;exact Heap.get?_none_of_le (z9 I.ok.bsz I.ok.above)
theorem Inv.stkSub (I:Inv X pins σ H s):∀ b∈frs X.stack,b∈X.env.locals::X.fs:=λb hb=>by
 rcases I.ok.stk with e | ⟨e,hf⟩
 ·rw [e] at hb;exact ql _ hb
 ·rw [e] at hb
  unfold frs at hb;rw [filterMap_cons,hf] at hb;exact hb
theorem Inv.stkFree (I:Inv X pins σ H s):∀ b∈frs X.stack,H b=none:=λb hb=>by
 rcases qo.mp (I.stkSub b hb) with e | hb
 ·rw [e];exact I.free
 ·obtain ⟨_,o,ho,_⟩:=I.ok.funs.mem hb
  exact I.base.free b o ho (I.ok.frf b hb) λz=>I.ok.exfs b z hb
theorem Inv.step {g':Array GenState}{t':Nat}{d':Drawn}{ch:List Addr}(I:Inv X pins σ H s)
 (hch:∀ b∈ch,(b∈X.ex\/X.s₀.heap.objs.size<=b)/\b≠X.env.locals/\(∀ x c,X.env.cells.lookup x=some c->c≠b)/\∀ p∈X.pn++pins,p.1≠b)
 (keep:∀ b o,b≠X.env.locals->b∉X.fs->b∉ch->s.heap.get? b=some o->H b=none->h'.get? b=some o)
 (slot:∀ b o,b≠X.env.locals->b∈X.fs->b∉ch->s.heap.get? b=some o->H b=none->∃ sl,h'.get? b=some { o with slots:=sl }) (free:∀ b o,b∉ch->s.heap.get? b=some o->H b=none->H' b=none)
 (there:∀ b o,b∉ch->s.heap.get? b=some o->∃ o',h'.get? b=some o')
 (tups:∀ b xs,H b=some (.tup xs)->H' b=some (.tup xs)) (frzs:∀ b o u,H b=some (.frz o u)->H' b=some (.frz o u)) (tbls:∀ b ps,H b=some (.tbl ps)->∃ more,H' b=some (.tbl (ps++more)))
 (ns:∀ m,s.heap.Ns X.env.locals m->h'.Ns X.env.locals m) (hok:HOk X.prog X.w H' h') (hg:AllBare g') :
 Inv X pins σ H' { s with heap:=h',gens:=g',drawn:=d',toks:=t' }:=by
 have neL:∀ b o,X.s₀.heap.get? b=some o->b≠X.env.locals:=λb o e=>zV (zY (qH e) I.ok.above);have neC:∀ b o,X.s₀.heap.get? b=some o->b∉X.ex->b∉ch:=λb o e hx hb=>by
  rcases (hch b hb).1 with z | z
  ·exact hx z
  ·exact absurd (zY (qH e) z) (Nat.lt_irrefl _)
 have cellK:∀ x c,X.env.cells.lookup x=some c->∀ v,s.heap.IsCell c v->h'.IsCell c v:=λx c e v ⟨o,ho,hd⟩=>by
  have nch:c∉ch:=λz=>(hch c z).2.2.1 x c e rfl;by_cases hc:c∈X.fs
  ·obtain ⟨sl,q⟩:=slot c o (I.cne x c e) hc nch ho (I.freeC x c e)
   exact ⟨_,q,hd⟩
  ·exact ⟨o,keep c o (I.cne x c e) hc nch ho (I.freeC x c e),hd⟩
 refine ⟨I.ok,I.os,hg,⟨λb o e n hb hx=>?_,λb o e n hb hx=>?_,λb o e n hx=>?_,λb o e hx=>?_,λb xs e=>tups b xs (I.base.tups b xs e),λb o xs e=>frzs b o xs (I.base.frzs b o xs e),λb ps e=>?_⟩,?_,λx c e=>?_,?_,λx c e=>?_,λp hp=>?_,hok,I.len⟩
 ·exact keep b o (neL b o e) hb (neC b o e hx) (I.base.keep b o e n hb hx) (I.base.free b o e n hx)
 ·obtain ⟨sl,e1⟩:=I.base.slot b o e n hb hx
  obtain ⟨sl',e2⟩:=slot b _ (neL b o e) hb (neC b o e hx) e1 (I.base.free b o e n hx);exact ⟨sl',e2⟩
 ·obtain ⟨o',e1⟩:=I.base.there b o e hx
  exact free b o' (neC b o e hx) e1 (I.base.free b o e n hx)
 ·obtain ⟨o',e1⟩:=I.base.there b o e hx
  exact there b o' (neC b o e hx) e1
 ·obtain ⟨m1,e1⟩:=I.base.tbls b ps e
  obtain ⟨m2,e2⟩:=tbls b _ e1;exact ⟨m1++m2,by rw [e2,Array.append_assoc]⟩
 ·obtain ⟨m,hn,hl⟩:=I.loc
  refine ⟨m,ns m hn,λi x v e1 e2 e3=>?_⟩;obtain ⟨u,r,l⟩:=hl i x v e1 e2 e3;refine ⟨u,r,?_⟩;rcases l with l | ⟨k,c,e,z⟩
  ·exact .inl l
  ·exact .inr ⟨k,c,e,cellK x c e _ z⟩
 ·obtain ⟨v,z⟩:=I.cell x c e
  exact ⟨v,cellK x c e v z⟩
 ·obtain ⟨m,⟨o,_,_,ho,_⟩,_⟩:=I.loc
  exact free _ o (λz=>(hch _ z).2.1 rfl) ho I.free
 ·obtain ⟨v,o,ho,hd⟩:=I.cell x c e
  exact free c o (λz=>(hch c z).2.2.1 x c e rfl) ho (I.freeC x c e)
 ·obtain ⟨e,n,ne,nf,d⟩:=I.pin p hp
  have nch:p.1∉ch:=λz=>(hch p.1 z).2.2.2 p hp rfl;exact ⟨keep p.1 p.2 ne nf nch e n,free p.1 p.2 nch e n,ne,nf,d⟩
theorem Inv.un {t':Nat}(I:Inv X pins σ H s)(u:Un X.fs [] H H' s.heap h')(hok:HOk X.prog X.w H' h'):Inv X pins σ H' { s with heap:=h',toks:=t' }:=by
 obtain ⟨m,⟨o,es,ep,ho,r⟩,_⟩:=id I.loc;obtain ⟨sl,hL⟩:=u.any ho I.free (by simp);exact I.step (g':=s.gens) (d':=s.drawn) (ch:=[]) (λ_ z=>nomatch z) (λb o _ hb _ e n=>u.keep b o e n hb (by simp)) (λb o _ hb _ e n=>u.slot b o e n hb (by simp)) (λb o _ e n=>u.free b o e n (by simp)) (λb o _ e=>u.there b o e (by simp)) u.tups u.frzs u.tbls (λm' hm=>by
  obtain ⟨o',es',ep',ho',r'⟩:=hm;rw [ho] at ho';cases ho';exact ⟨_,es',ep',hL,r'⟩) hok I.bare
theorem Inv.call {g':Array GenState}{t':Nat}{d':Drawn}{ch:List Addr}(I:Inv X pins σ H s)(u:Un (frs X.stack) ch H H' s.heap h')(hok:HOk X.prog X.w H' h')(hg:AllBare g')
 (hch:∀ b∈ch,(b∈X.ex\/X.s₀.heap.objs.size<=b)/\b≠X.env.locals/\(∀ x c,X.env.cells.lookup x=some c->c≠b)/\∀ p∈X.pn++pins,p.1≠b) :
 Inv X pins σ H' { s with heap:=h',gens:=g',drawn:=d',toks:=t' }:=by
 obtain ⟨m,⟨o,es,ep,ho,r⟩,_⟩:=id I.loc;obtain ⟨sl,hL⟩:=u.any ho I.free λz=>(hch _ z).2.1 rfl;exact I.step (ch:=ch) hch (λb o hL hb hc e n=>u.keep b o e n (λz=>(qo.mp (I.stkSub b z)).elim hL hb) hc) (λb o _ _ hc e n=>u.any e n hc) (λb o hc e n=>u.free b o e n hc) (λb o hc e=>u.there b o e hc) u.tups u.frzs u.tbls (λm' hm=>by
  obtain ⟨o',es',ep',ho',r'⟩:=hm;rw [ho] at ho';cases ho';exact ⟨_,es',ep',hL,r'⟩) hok hg
theorem Inv.turned {t':Nat}{it:Addr}(I:Inv X pins σ H s)(k:∀ b o,b≠it->s.heap.get? b=some o->h'.get? b=some o)(hn:H it=none)(hL:it≠X.env.locals)
 (h1:it∈X.ex\/X.s₀.heap.objs.size<=it) (h2:∀ x c,X.env.cells.lookup x=some c->c≠it) (h3:∀ p∈X.pn++pins,p.1≠it):Inv X pins σ H { s with heap:=h',toks:=t' }:=by
 have nit:∀ b u,H b=some u->b≠it:=λb u e z=>by rw [z,hn] at e;cases e
 refine I.step (g':=s.gens) (d':=s.drawn) (ch:=[it]) (λb hb=>?_) (λb o _ _ hc e _=>k b o (λz=>hc (by simp [z])) e) (λb o _ _ hc e _=>⟨o.slots,k b o (λz=>hc (by simp [z])) e⟩) (λ_ _ _ _ n=>n)
  (λb o hc e=>⟨o,k b o (λz=>hc (by simp [z])) e⟩) (λ_ _ e=>e) (λ_ _ _ e=>e) (λb ps e=>⟨#[],by rw [e];simp⟩) (λm hm=>?_) (λb u e=>?_) I.bare
 ·have e:b=it:=by simpa using hb
  subst e;exact ⟨h1,hL,h2,h3⟩
 ·obtain ⟨o,es,ep,ho,r⟩:=hm
  exact ⟨o,es,ep,k _ o (Ne.symm hL) ho,r⟩
 ·refine (I.hok b u e).stay (λc v hc q=>k c v ?_ q) (λ_ q=>q) λ_ _ q=>q
  rcases hc with z | z
  ·rw [z];exact nit b u e
  ·exact nit c _ z
theorem Inv.tok (I:Inv X pins σ H s)(t:Nat):Inv X pins σ H { s with toks:=t }:=I.un (h':=s.heap) (t':=t) Un.refl I.hok
theorem Inv.kept {t':Nat}(I:Inv X pins σ H s)(k:∀ b u,s.heap.get? b=some u->h'.get? b=some u):Inv X pins σ H { s with heap:=h',toks:=t' }:=I.un (Un.kept k) (I.hok.kept k)
theorem Inv.laid {a:Addr}{o:HO}{t':Nat}(I:Inv X pins σ H s)(k:∀ b u,s.heap.get? b=some u->h'.get? b=some u)(hp:s.heap.objs.size<=a)(new:ObjOk X.prog X.w (upd H a o) h' a o) :
 Inv X pins σ (upd H a o) { s with heap:=h',toks:=t' }:=I.un (Un.laid k hp (I.hok.fresh hp)) (I.hok.laid k hp new)
theorem Inv.write {x e:Addr}{o:HO}{t':Nat}(I:Inv X pins σ H s)(mu:Mut (H x))(he:e=x\/H e=some (.own x))(k:∀ b u,b≠e->s.heap.get? b=some u->h'.get? b=some u)(heo:∃ u,h'.get? e=some u)
 (new:ObjOk X.prog X.w (upd H x o) h' x o):Inv X pins σ (upd H x o) { s with heap:=h',toks:=t' }:=I.un (Un.write mu he k heo) (I.hok.write mu he k heo new)
theorem Inv.pins_of {pins':List (Addr×Obj)}(I:Inv X pins σ H s)(h:∀ p∈pins',s.heap.get? p.1=some p.2/\H p.1=none/\p.1≠X.env.locals/\p.1∉X.fs/\∀ v,p.2.data≠.cell v):Inv X pins' σ H s :=
 ⟨I.ok,I.os,I.bare,I.base,I.loc,I.cell,I.free,I.freeC,λp hp=>(qu.mp hp).elim (λz=>I.pin p (qw _ z)) (h p),I.hok,I.len⟩
theorem J16 {N:List Str}(hN:N.Nodup){i j:Nat}{x:Str}(a:N[i]?=some x)(b:N[j]?=some x):i=j:=by
 obtain ⟨h1,e1⟩:=qd.mp a;obtain ⟨h2,e2⟩:=qd.mp b;exact (getElem_inj hN).mp (e1.trans e2.symm)
theorem store_ok2 {M:Model}{A:Around}{E:Value->Shared->Prop}{i:Nat}{x:Str}{v:V}{u:Value}{Q:Unit->Shared->Prop}(I:Inv X pins σ H s)(hN:X.N.Nodup)(hi:X.N[i]?=some x)(hx:Loc X.env.scope x)(r:RelV v u)
 (h:∀ s',Inv X pins (σ.set i (some v)) H s'->(∃ a,Heap.SameBut a s.heap s'.heap/\(a=X.env.locals\/X.env.cells.lookup x=some a))->Q () s') (hf:X.fn x=true\/X.env.scope.names.lookup x=some .local:=by first | exact .inl rfl | exact .inr rfl | assumption):wpAny M A (storeName X.env x u) Q E s:=by
 obtain ⟨m,hn,hl⟩:=id I.loc;have hcls:(X.env.scope.kind == .class||(X.env.scope.kind == .module&&X.env.locals != X.env.globals))=false:=by rw [I.ok.kind];rfl
 have hiσ:i<σ.length:=by rw [I.len];exact (qd.mp hi).1
 have cne:=I.cne;have tracked:∀ {a:Addr} {h':Heap},(∃ o,s.heap.get? a=some o/\H a=none)->Heap.SameBut a s.heap h'->HOk X.prog X.w H h':=λ{a h'} ha hs b ob e=>by
  obtain ⟨_,_,hfree⟩:=ha;refine (I.hok b ob e).stay (λc w' hc q=>(hs.2 c ?_).trans q) (λ_ q=>q) λ_ _ q=>q;rintro rfl;rcases hc with rfl | hc
  ·rw [hfree] at e;cases e
  ·rw [hfree] at hc;cases hc
 rcases hx with hk | hk
 ·refine wpAny_storeName_local hk hn (λh' hn' hs=>?_) hcls
  obtain ⟨oL,_,_,hoL,_⟩:=id hn;refine h _ ⟨I.ok,I.os,I.bare,⟨λb o e n hb hx=>?_,λb o e n hb hx=>?_,I.base.free,λb o e hx=>?_,I.base.tups,I.base.frzs,I.base.tbls⟩,⟨_,hn',λj y v' e1 e2 e3=>?_⟩,λy c e=>?_,I.free,I.freeC,λp hp=>?_,tracked ⟨oL,hoL,I.free⟩ hs,by simpa using I.len⟩ ⟨_,hs,.inl rfl⟩
  ·exact (hs.2 b (zV (zY (qH e) I.ok.above))).trans (I.base.keep b o e n hb hx)
  ·obtain ⟨sl,e1⟩:=I.base.slot b o e n hb hx
   exact ⟨sl,(hs.2 b (zV (zY (qH e) I.ok.above))).trans e1⟩
  ·obtain ⟨o',e1⟩:=I.base.there b o e hx
   exact ⟨o',(hs.2 b (zV (zY (qH e) I.ok.above))).trans e1⟩
  ·by_cases hj:j=i
   ·subst hj
    rw [hi] at e1;cases e1;rw [List.getElem?_set_self hiσ] at e2;cases e2;exact ⟨u,r,.inl ⟨hk,by simp⟩⟩
   ·rw [List.getElem?_set_ne (Ne.symm hj)] at e2
    obtain ⟨u',r',q⟩:=hl j y v' e1 e2 e3;refine ⟨u',r',?_⟩;rcases q with ⟨k,e⟩ | ⟨k,c,e,z⟩
    ·refine .inl ⟨k,?_⟩
     have:y≠x:=λe=>hj (J16 hN e1 (e ▸ hi));simp [this,e]
    ·exact .inr ⟨k,c,e,z.sameBut hs (cne y c e)⟩
  ·obtain ⟨w',z⟩:=I.cell y c e
   exact ⟨w',z.sameBut hs (cne y c e)⟩
  ·obtain ⟨e,n,ne,nf,d⟩:=I.pin p hp
   exact ⟨(hs.2 p.1 ne).trans e,n,ne,nf,d⟩
 ·have hfn:X.fn x=true:=by
   rcases hf with z | z
   ·exact z
   ·rw [z] at hk;cases hk
  obtain ⟨c,hc⟩:=I.ok.has x (.inl hk);obtain ⟨w',z⟩:=I.cell x c hc;refine wpAny_storeName_cell I.ok.kind hk hc z (λh' hc' hs=>?_);obtain ⟨oc,hoc,hocd⟩:=id z;refine h { s with heap:=h' } ⟨I.ok,I.os,I.bare,⟨λb o e n hb hx=>?_,λb o e n hb hx=>?_,I.base.free,λb o e hx=>?_,I.base.tups,I.base.frzs,I.base.tbls⟩,⟨m,hn.sameBut hs (Ne.symm (cne x c hc)),λj y v' e1 e2 e3=>?_⟩,λy c' e=>?_,I.free,I.freeC,λp hp=>?_,tracked ⟨oc,hoc,I.freeC x c hc⟩ hs,by simpa using I.len⟩ ⟨c,hs,.inr hc⟩
  ·exact (hs.2 b (zV (zY (qH e) (I.ok.cab x c hfn hc)))).trans (I.base.keep b o e n hb hx)
  ·obtain ⟨sl,e1⟩:=I.base.slot b o e n hb hx
   exact ⟨sl,(hs.2 b (zV (zY (qH e) (I.ok.cab x c hfn hc)))).trans e1⟩
  ·obtain ⟨o',e1⟩:=I.base.there b o e hx
   exact ⟨o',(hs.2 b (zV (zY (qH e) (I.ok.cab x c hfn hc)))).trans e1⟩
  ·by_cases hj:j=i
   ·subst hj
    rw [hi] at e1;cases e1;rw [List.getElem?_set_self hiσ] at e2;cases e2;exact ⟨u,r,.inr ⟨.inl hk,c,hc,hc'⟩⟩
   ·rw [List.getElem?_set_ne (Ne.symm hj)] at e2
    obtain ⟨u',r',q⟩:=hl j y v' e1 e2 e3;refine ⟨u',r',?_⟩;rcases q with q | ⟨k,c',e,z'⟩
    ·exact .inl q
    ·refine .inr ⟨k,c',e,z'.sameBut hs ?_⟩
     rintro rfl;exact hj (J16 hN e1 (I.ok.inj _ _ _ e hc ▸ hi))
  ·by_cases hcc:c'=c
   ·subst hcc;exact ⟨_,hc'⟩
   ·obtain ⟨w2,z2⟩:=I.cell y c' e
    exact ⟨w2,z2.sameBut hs hcc⟩
  ·obtain ⟨e,n,ne,nf,d⟩:=I.pin p hp
   refine ⟨(hs.2 p.1 ?_).trans e,n,ne,nf,d⟩;intro q;rw [q,hoc] at e;have q':oc=p.2:=zU e;exact d w' (by rw [<- q'];exact hocd)
theorem J2L {M:Model}{A:Around}{E:Value->Shared->Prop}{i:Nat}{x:Str}{v:V}{u:Value}{Q:Unit->Shared->Prop}(I:Inv X pins σ H s)(hN:X.N.Nodup)(hi:X.N[i]?=some x)(hx:Loc X.env.scope x)(r:RelV v u)
 (h:∀ s',Inv X pins (σ.set i (some v)) H s'->Q () s') (hf:X.fn x=true\/X.env.scope.names.lookup x=some .local:=by first | exact .inl rfl | exact .inr rfl | assumption):wpAny M A (storeName X.env x u) Q E s :=
 store_ok2 I hN hi hx r (λs' I' _=>h s' I') hf
theorem Inv.call' {s':Shared}{ch:List Addr}(I:Inv X pins σ H s)(ho:s'.os=s.os)(u:Un (frs X.stack) ch H H' s.heap s'.heap)(hok:HOk X.prog X.w H' s'.heap)(hg:AllBare s'.gens)
 (hch:∀ b∈ch,(b∈X.ex\/X.s₀.heap.objs.size<=b)/\b≠X.env.locals/\(∀ x c,X.env.cells.lookup x=some c->c≠b)/\∀ p∈X.pn++pins,p.1≠b):Inv X pins σ H' s':=by
 obtain ⟨h',g',d',t',o'⟩:=s';have e:o'=s.os:=ho;subst e;exact I.call (g':=g') (t':=t') (d':=d') u hok hg hch
end
abbrev XK:=Value->Option Addr->Hp->Prop
abbrev St:=List (Option V)
abbrev VK:=V->Hp->Prop
abbrev TE:=St->Hp->VK->Prop
abbrev TT:=St->Hp->(Bool->Hp->Prop)->Prop
abbrev TA:=St->Hp->(List V->Hp->Prop)->Prop
structure Ends where
 nx:St->Hp->Prop
 rt:VK
 bk:St->Hp->Prop:=λ_ _=>False
 ct:St->Hp->Prop:=λ_ _=>False
abbrev TS:=Ends->St->Hp->Prop
def EP (X:Cx)(pins:List (Addr×Obj))(σ:St)(Q:VK)(u:Value)(s':Shared):Prop:=∃ v H',Inv X pins σ H' s'/\RelV v u/\Q v H'
def TP (X:Cx)(pins:List (Addr×Obj))(σ:St)(Q:Bool->Hp->Prop)(b:Bool)(s':Shared):Prop:=∃ H',Inv X pins σ H' s'/\Q b H'
def AP (X:Cx)(pins:List (Addr×Obj))(σ:St)(Q:List V->Hp->Prop)(us:List Value)(s':Shared):Prop:=∃ vs H',Inv X pins σ H' s'/\Vals vs us/\Q vs H'
def SP (X:Cx)(pins:List (Addr×Obj))(D:Ends)(f:Flow)(s':Shared):Prop :=
 match f with
 | .next=>∃ σ' H',Inv X pins σ' H' s'/\D.nx σ' H'
 | .brk=>∃ σ' H',Inv X pins σ' H' s'/\D.bk σ' H'
 | .cont=>∃ σ' H',Inv X pins σ' H' s'/\D.ct σ' H'
 | .ret u=>∃ v σ' H',Inv X pins σ' H' s'/\RelV v u/\D.rt v H'
def PE (X:Cx)(e:Expr)(t:TE):Prop :=
 ∀ (pins:List (Addr×Obj)) (s:Shared) (σ:St) (H:Hp) (Q:VK),Inv X pins σ H s->t σ H Q->wpAny (model X.prog X.w) X.A (eval e X.env) (EP X pins σ Q) X.xe s
def PT (X:Cx)(e:Expr)(t:TT):Prop :=
 ∀ (pins:List (Addr×Obj)) (s:Shared) (σ:St) (H:Hp) (Q:Bool->Hp->Prop),Inv X pins σ H s->t σ H Q->wpAny (model X.prog X.w) X.A (isTrue e X.env (eval e X.env)) (TP X pins σ Q) X.xe s
def PW (X:Cx)(e:Expr)(t:TT):Prop :=
 ∀ (whole:Sem Value) (pins:List (Addr×Obj)) (s:Shared) (σ:St) (H:Hp) (Q:Bool->Hp->Prop),Inv X pins σ H s->t σ H Q->wpAny (model X.prog X.w) X.A (isTrue e X.env whole) (TP X pins σ Q) X.xe s
theorem PW.pt {X:Cx}{e:Expr}{t:TT}(h:PW X e t):PT X e t:=h _
def PA (X:Cx)(es:List Expr)(t:TA):Prop :=
 ∀ (pos:Pos) (pins:List (Addr×Obj)) (s:Shared) (σ:St) (H:Hp) (Q:List V->Hp->Prop),Inv X pins σ H s->t σ H Q->wpAny (model X.prog X.w) X.A (spliced (backTo pos (starEach es X.env))) (AP X pins σ Q) X.xe s
def PS (X:Cx)(st:Stmt)(t:TS):Prop :=
 ∀ (pins:List (Addr×Obj)) (s:Shared) (σ:St) (H:Hp) (D:Ends),Inv X pins σ H s->t D σ H->wpAny (model X.prog X.w) X.A (exec st X.env) (SP X pins D) X.xe s
def PSs (X:Cx)(st:List Stmt)(t:TS):Prop :=
 ∀ (pins:List (Addr×Obj)) (s:Shared) (σ:St) (H:Hp) (D:Ends),Inv X pins σ H s->t D σ H->wpAny (model X.prog X.w) X.A (execs st X.env) (SP X pins D) X.xe s
theorem thn {α:Type}{t:Sem α}{Q Q':α->Shared->Prop}{M:Model}{A:Around}{E:Value->Shared->Prop}{s:Shared}(h:wpAny M A t Q E s)(hQ:∀ a s,Q a s->Q' a s):wpAny M A t Q' E s:=wpAny_mono h hQ λ_ _ x=>x
section
variable {X:Cx}
def J1T (i:Nat):TE:=λσ H Q=>match σ[i]? with | some (some v)=>Q v H | _=>False
theorem JdB {i:Nat}{σ:St}{H:Hp}{Q:VK}(h:J1T i σ H Q):∃ v,σ[i]?=some (some v)/\Q v H:=by
 unfold J1T at h
 split at h
 ·rename_i v e;exact ⟨v,e,h⟩
 ·exact h.elim
def tC (v:V):TE:=λ_ H Q=>Q v H
theorem JcC {i:Nat}{x:Str}{pos:Pos}(hN:X.N[i]?=some x)(hv:Vis X.env.scope x)(hd:(x == ("__debug__":Str))=false:=by decide)(hcd:(x == ("__classdict__":Str))=false:=by decide):PE X (.Name x pos) (J1T i):=by
 intro pins s σ H Q I h;obtain ⟨v,e,h⟩:=JdB h;obtain ⟨m,hn,hl⟩:=I.loc;obtain ⟨u,r,l⟩:=hl i x v hN e hv;have fin:EP X pins σ Q u s:=⟨v,H,I,r,h⟩;rcases l with ⟨hk,hm⟩ | ⟨hk,c,hc,hcell⟩
 ·exact wpAny_Name (wpAny_loadName_local I.ok.kind hk hn hm fin) hd
 ·rcases hk with hk | hk
  ·exact wpAny_Name (wpAny_loadName_cell I.ok.kind hk hc hcell fin) hd
  ·exact wpAny_Name (wpAny_loadName_free I.ok.kind hk hc hcell fin hcd) hd
theorem Jc {i j pos}:PE X (.Constant (.int i) j pos) (tC (.int i)):=λ_ _ _ H _ I h=>wpAny_Constant_int ⟨.int i,H,I.tok _,⟨_,rfl⟩,h⟩
theorem JV {b j pos}:PE X (.Constant (.bool b) j pos) (tC (.bl b)):=λ_ _ _ H _ I h=>Constant_bool ⟨.bl b,H,I,rfl,h⟩
theorem J0W {j pos}:PE X (.Constant .none j pos) (tC .non):=λ_ _ _ H _ I h=>Constant_none ⟨.non,H,I,rfl,h⟩
theorem Jl {x j pos}:PE X (.Constant (.str x) j pos) (tC (.str x)):=λ_ _ _ H _ I h=>Calls.Constant_str ⟨.str x,H,I.tok _,⟨_,rfl⟩,h⟩
def Gl (X:Cx)(x:Str):Prop:=X.env.kindOf x=some .globalImplicit
theorem J3q {E:Value->Shared->Prop}{pins:List (Addr×Obj)}{s:Shared}{σ:St}{H:Hp}{x:Str}{u:Value}{pos:Pos}{Q:Value->Shared->Prop}(I:Inv X pins σ H s)(hg:Gl X x)(hm:X.mg x=some u)(h:Q u s)
 (hd:(x == ("__debug__":Str))=false:=by decide):wpAny (model X.prog X.w) X.A (eval (.Name x pos) X.env) Q E s :=
 Calls.Name_function_global I.ok.kind hg (Calls.loadGlobal_global (by rw [I.ok.glob];exact I.mod.glob.keeps I.bk) hm h) hd
theorem J23 {E:Value->Shared->Prop}{pins:List (Addr×Obj)}{s:Shared}{σ:St}{H:Hp}{x:Str}{u:Value}{pos:Pos}{Q:Value->Shared->Prop}(I:Inv X pins σ H s)(hg:Gl X x)(hm:X.mg x=none)(hv:bootBuiltins x=some u)(h:Q u s)
 (hn:x≠"__name__":=by decide) (hd:(x == ("__debug__":Str))=false:=by decide):wpAny (model X.prog X.w) X.A (eval (.Name x pos) X.env) Q E s:=by
 obtain ⟨mb,h1,h2⟩:=I.mod.blt;exact Calls.Name_function_global I.ok.kind hg (Calls.loadGlobal_builtin (by rw [I.ok.glob];exact I.mod.glob.keeps I.bk) hm (by rw [I.ok.blt];exact h1.keeps I.bk) ((h2 x hn).trans hv) h) hd
theorem J7Q {x:Str}{v:V}{u:Value}{pos:Pos}(hg:Gl X x)(hm:X.mg x=some u)(r:RelV v u)(hd:(x == ("__debug__":Str))=false:=by decide):PE X (.Name x pos) (tC v) :=
 λ_ _ _ H _ I h=>J3q I hg hm ⟨v,H,I,r,h⟩ hd
theorem Je3 {x:Str}{v:V}{u:Value}{pos:Pos}(hg:Gl X x)(hm:X.mg x=none)(hv:bootBuiltins x=some u)(r:RelV v u)(hn:x≠"__name__":=by decide)(hd:(x == ("__debug__":Str))=false:=by decide):PE X (.Name x pos) (tC v) :=
 λ_ _ _ H _ I h=>J23 I hg hm hv ⟨v,H,I,r,h⟩ hn hd
variable {a b:Expr}{ta tb:TE}{pos:Pos}
def PC (X:Cx)(op:CmpOp)(a b:Expr)(t:TE):Prop :=
 ∀ (pins:List (Addr×Obj)) (s:Shared) (σ:St) (H:Hp) (Q:VK),Inv X pins σ H s->t σ H Q ->
   wpAny (model X.prog X.w) X.A (eval a X.env) (λv s₁=>wpAny (model X.prog X.w) X.A (eval b X.env) (λu s₂=>wpAny (model X.prog X.w) X.A (compareOp op v u) (EP X pins σ Q) X.xe s₂) X.xe s₁) X.xe s
def tB (t:TE):TT:=λσ H Q=>t σ H λx H1=>∃ c,x=.bl c/\Q c H1
theorem J60 {op:CmpOp}{t:TE}(h:PC X op a b t)(h1:behindInMarks op b=false:=by first | exact nobehind _ (by decide) (by decide) | rfl):PT X (.Compare a [op] [b] pos) (tB t):=by
 intro pins s σ H Q I hw;refine wpAny_isTrue_Compare1 (thn (h pins s σ H _ I hw) λv s1 h1=>thn h1 λu s2 h2=>thn h2 λc s3 ⟨x,H1,I1,r1,q1⟩=>?_) h1;obtain ⟨d,rfl,q⟩:=q1;cases r1;exact wpAny_truthy_bool ⟨H1,I1,q⟩
theorem J0a {e:Expr}{t:TE}(h:PE X e t)(he:∀ whole,isTrue e X.env whole=(do let v <- whole;standAt e.pos;holding [v] (truthy v)):=by intro _;rfl):PT X e (tB t):=by
 intro pins s σ H Q I hw;refine isTrue_plain (thn (h pins s σ H _ I hw) λv s1 ⟨x,H1,I1,r1,q1⟩=>?_) (he _);obtain ⟨d,rfl,q⟩:=q1;cases r1;exact wpAny_truthy_bool ⟨H1,I1,q⟩
variable {tA tB':TT}{rest:List Expr}
def J7w (t u:TT):TT:=λσ H Q=>t σ H λc H1=>if c=true then u σ H1 Q else Q false H1
def tOr (t u:TT):TT:=λσ H Q=>t σ H λc H1=>if c=true then Q true H1 else u σ H1 Q
def Jb5 (t:TT):TT:=λσ H Q=>t σ H λc H1=>Q (!c) H1
theorem J1j (ha:PT X a tA):PW X (.BoolOp .And [a] pos) tA:=by
 intro wh pins s σ H Q I h;refine isTrue_and (thn (ha pins s σ H Q I h) λc s1 e=>?_);cases c with
 | true=>exact isTrue_and_nil e
 | false=>exact e
theorem J1E (ha:PT X a tA):PW X (.BoolOp .Or [a] pos) tA:=by
 intro wh pins s σ H Q I h;refine isTrue_or (thn (ha pins s σ H Q I h) λc s1 e=>?_);cases c with
 | false=>exact isTrue_or_nil e
 | true=>exact e
theorem J2t (ha:PT X a tA)(hb:PW X (.BoolOp .And (b::rest) pos) tB'):PW X (.BoolOp .And (a::b::rest) pos) (J7w tA tB'):=by
 intro wh pins s σ H Q I h;refine isTrue_and (thn (ha pins s σ H _ I h) λc s1 ⟨H1,I1,q1⟩=>?_);cases c with
 | true=>exact hb wh pins s1 σ H1 Q I1 q1
 | false=>exact ⟨H1,I1,q1⟩
theorem J2U (ha:PT X a tA)(hb:PW X (.BoolOp .Or (b::rest) pos) tB'):PW X (.BoolOp .Or (a::b::rest) pos) (tOr tA tB'):=by
 intro wh pins s σ H Q I h;refine isTrue_or (thn (ha pins s σ H _ I h) λc s1 ⟨H1,I1,q1⟩=>?_);cases c with
 | true=>exact ⟨H1,I1,q1⟩
 | false=>exact hb wh pins s1 σ H1 Q I1 q1
theorem J0l (ha:PT X a tA):PT X (.UnaryOp .Not a pos) (Jb5 tA):=by
 intro pins s σ H Q I h;exact isTrue_not (ha pins s σ H (λc H1=>Q (!c) H1) I h)
def J8t (ta tb:TE):TE:=λσ H Q=>ta σ H λx H1=>∃ c,x=.bl c/\if c=true then tb σ H1 Q else Q (.bl false) H1
def JdC (ta tb:TE):TE:=λσ H Q=>ta σ H λx H1=>∃ c,x=.bl c/\if c=true then Q (.bl true) H1 else tb σ H1 Q
def J8r (ta:TE):TE:=λσ H Q=>ta σ H λx H1=>∃ c,x=.bl c/\Q (.bl (!c)) H1
theorem J3V {op}{t:TE}(h:PE X a t):PE X (.BoolOp op [a] pos) t:=λpins s σ H Q I hw=>BoolOp_one (h pins s σ H Q I hw)
theorem J2V (ha:PE X a ta)(hb:PE X (.BoolOp .And (b::rest) pos) tb):PE X (.BoolOp .And (a::b::rest) pos) (J8t ta tb):=by
 intro pins s σ H Q I h;refine BoolOp_and (thn (ha pins s σ H _ I h) λv s1 ⟨x,H1,I1,r1,q1⟩=>?_);obtain ⟨c,rfl,q1⟩:=q1;cases r1;refine wpAny_truthy_bool ?_;cases c with
 | true=>exact hb pins s1 σ H1 Q I1 q1
 | false=>exact ⟨.bl false,H1,I1,rfl,q1⟩
theorem JcD (ha:PE X a ta):PE X (.UnaryOp .Not a pos) (J8r ta):=by
 intro pins s σ H Q I h;refine UnaryOp_ (thn (ha pins s σ H _ I h) λv s1 ⟨x,H1,I1,r1,q1⟩=>?_);obtain ⟨c,rfl,q1⟩:=q1;cases r1;exact not_of (wpAny_truthy_bool ⟨.bl (!c),H1,I1,rfl,q1⟩)
def tIf (t:TT)(ta tb:TE):TE:=λσ H Q=>t σ H λc H1=>if c=true then ta σ H1 Q else tb σ H1 Q
theorem J63 {c:Expr}(hc:PT X c tA)(ha:PE X a ta)(hb:PE X b tb):PE X (.IfExp c a b pos) (tIf tA ta tb):=by
 intro pins s σ H Q I h;refine wpAny_IfExp (thn (hc pins s σ H _ I h) λd s1 ⟨H1,I1,q1⟩=>?_);cases d with
 | true=>exact ha pins s1 σ H1 Q I1 q1
 | false=>exact hb pins s1 σ H1 Q I1 q1
end
def SqL (K:Frag)(H:Hp)(a:Addr)(xs:List V):Prop :=
 Rd H a (.lst xs) \/
  ∃ (o:Obj) (its:Array Value) (n:Nat),K.lookup a=some o/\o.cls=.type "list"/\o.dict=none/\o.data=.seq its n/\its.size<=sizeLine/\Vals xs its.toList
def SqT (K:Frag)(H:Hp)(a:Addr)(xs:List V):Prop :=
 Rd H a (.tup xs) \/
  ∃ (o:Obj) (its:Array Value) (n:Nat),K.lookup a=some o/\o.cls=.type "tuple"/\o.data=.seq its n/\its.size<=sizeLine/\Vals xs its.toList
def Jgq:Value->Option V
 | .none=>some .non
 | .bool b=>some (.bl b)
 | .int i _=>some (.int i)
 | .str x _=>some (.str x)
 | .bytes b _=>some (.byt b)
 | .float b _=>some (.flt b)
 | .ref a=>some (.ref a)
 | .type n=>some (.ty n)
 | _=>none
theorem RelV.abs {x:V}{u:Value}(r:RelV x u):Jgq u=some x:=by
 cases x with
 | non=>cases r;rfl
 | bl _=>cases r;rfl
 | int _=>obtain ⟨t,rfl⟩:=r;rfl
 | str _=>obtain ⟨t,rfl⟩:=r;rfl
 | byt _=>obtain ⟨t,rfl⟩:=r;rfl
 | flt _=>obtain ⟨t,rfl⟩:=r;rfl
 | ref _=>cases r;rfl
 | ty _=>cases r;rfl
theorem RelV.inj {x y:V}{u:Value}(r:RelV x u)(q:RelV y u):x=y:=zU (r.abs.symm.trans q.abs)
theorem Vals.inj:∀ {xs ys:List V} {us:List Value},Vals xs us->Vals ys us->xs=ys
 | _,_,_,.nil,.nil=>rfl
 | _,_,_,.cons r t,.cons r' t'=>by rw [r.inj r',Vals.inj t t']
section
variable {X:Cx}{pins:List (Addr×Obj)}{σ:St}{H:Hp}{s:Shared}{a:Addr}{xs ys:List V}
theorem SqL.of {K:Frag}(h:H a=some (.lst xs)):SqL K H a xs:=.inl (.inl h)
theorem SqT.of {K:Frag}(h:H a=some (.tup xs)):SqT K H a xs:=.inl (.inl h)
theorem Inv.list (I:Inv X pins σ H s)(h:SqL X.K H a xs):∃ its:List Value,Vals xs its/\PlainL s.heap a its.toArray/\xs.length<=sizeLine:=by
 rcases h with h | ⟨o,its,n,hk,hc,hd,hs,hz,r⟩
 ·obtain ⟨z,its,n,r,e⟩:=h.ok I.hok
  exact ⟨its,r,⟨_,n,e,rfl,rfl,rfl⟩,z⟩
 ·refine ⟨its.toList,r,⟨o,n,I.kIn a o hk,hc,hd,by simpa using hs⟩,?_⟩
  have e:=r.length;simp only [qb] at e;omega
theorem Inv.tuple (I:Inv X pins σ H s)(h:SqT X.K H a xs):∃ its:List Value,Vals xs its/\IsTup s.heap a its.toArray/\xs.length<=sizeLine:=by
 rcases h with h | ⟨o,its,n,hk,hc,hs,hz,r⟩
 ·obtain ⟨z,its,r,p⟩:=h.ok I.hok
  exact ⟨its,r,p,z⟩
 ·refine ⟨its.toList,r,⟨o,I.kIn a o hk,hc,n,by simpa using hs⟩,?_⟩
  have e:=r.length;simp only [qb] at e;omega
theorem Inv.list_inj (I:Inv X pins σ H s)(h:SqL X.K H a xs)(h':SqL X.K H a ys):xs=ys:=by
 obtain ⟨its,r,⟨o,n,e,_,_,d⟩,_⟩:=I.list h;obtain ⟨its',r',⟨o',n',e',_,_,d'⟩,_⟩:=I.list h';rw [e] at e';cases e';rw [d] at d';injection d' with d1 _
 have:its=its':=by simpa using congrArg Array.toList d1
 subst this;exact r.inj r'
theorem Inv.tuple_inj (I:Inv X pins σ H s)(h:SqT X.K H a xs)(h':SqT X.K H a ys):xs=ys:=by
 obtain ⟨its,r,⟨o,e,_,n,d⟩,_⟩:=I.tuple h;obtain ⟨its',r',⟨o',e',_,n',d'⟩,_⟩:=I.tuple h';rw [e] at e';cases e';rw [d] at d';injection d' with d1 _
 have:its=its':=by simpa using congrArg Array.toList d1
 subst this;exact r.inj r'
end
abbrev Cx.wish (X:Cx)(E:Value->Shared->Prop):Cx:={ X with xe:=E }
abbrev Cx.nox (X:Cx):Cx:=X.wish λ_ _=>False
theorem Cx.Ok.wish {X:Cx}(ok:X.Ok)(E:Value->Shared->Prop):(X.wish E).Ok :=
 ⟨ok.mod,ok.kind,ok.glob,ok.blt,ok.above,ok.inj,ok.has,ok.cab,ok.hd,ok.frames,ok.stk,ok.exf,ok.bs,ok.bsz,ok.noex,ok.exfs,ok.funs,ok.frf⟩
theorem Cx.Ok.unwish {X:Cx}{E:Value->Shared->Prop}(ok:(X.wish E).Ok):X.Ok :=
 ⟨ok.mod,ok.kind,ok.glob,ok.blt,ok.above,ok.inj,ok.has,ok.cab,ok.hd,ok.frames,ok.stk,ok.exf,ok.bs,ok.bsz,ok.noex,ok.exfs,ok.funs,ok.frf⟩
section
variable {X:Cx}{pins:List (Addr×Obj)}{σ:St}{H:Hp}{s:Shared}{E:Value->Shared->Prop}
theorem Inv.wish (I:Inv X pins σ H s)(E:Value->Shared->Prop):Inv (X.wish E) pins σ H s:=⟨I.ok.wish E,I.os,I.bare,I.base,I.loc,I.cell,I.free,I.freeC,I.pin,I.hok,I.len⟩
theorem Inv.unwish (I:Inv (X.wish E) pins σ H s):Inv X pins σ H s:=⟨I.ok.unwish,I.os,I.bare,I.base,I.loc,I.cell,I.free,I.freeC,I.pin,I.hok,I.len⟩
theorem SP.unwish {D:Ends}{f:Flow}{s':Shared}(h:SP (X.wish E) pins D f s'):SP X pins D f s':=by
 cases f with
 | next=>obtain ⟨σ',H',I,q⟩:=h;exact ⟨σ',H',I.unwish,q⟩
 | brk=>obtain ⟨σ',H',I,q⟩:=h;exact ⟨σ',H',I.unwish,q⟩
 | cont=>obtain ⟨σ',H',I,q⟩:=h;exact ⟨σ',H',I.unwish,q⟩
 | ret u=>obtain ⟨v,σ',H',I,r,q⟩:=h;exact ⟨v,σ',H',I.unwish,r,q⟩
theorem PSs.nox {st:List Stmt}{t:TS}(h:PSs X.nox st t):PSs X st t:=λpins s σ H D I hw =>
 wpAny_mono (h pins s σ H D (I.wish _) hw) (λ_ _ q=>q.unwish) λ_ _ z=>qa z
end
section
variable {X:Cx}{st:Stmt}{rest:List Stmt}{t u:TS}{e:Expr}{te:TE}{pos:Pos}
def J3z:TS:=λD σ H=>D.nx σ H
def J14 (t u:TS):TS:=λD σ H=>t { D with nx:=u D } σ H
theorem Jp:PSs X [] J3z:=λ_ _ σ H _ I h=>wpAny_execs_nil ⟨σ,H,I,h⟩
theorem Ja (h1:PS X st t)(h2:PSs X rest u):PSs X (st::rest) (J14 t u):=by
 intro pins s σ H D I h;refine wpAny_execs_cons (thn (h1 pins s σ H { D with nx:=u D } I h) λf s1 q=>?_);cases f with
 | next =>
   obtain ⟨σ',H',I',q⟩:=q;exact h2 pins s1 σ' H' D I' q
 | ret v=>exact q
 | brk=>exact q
 | cont=>exact q
theorem Je (h1:PS X st t):PSs X [st] t:=by
 intro pins s σ H D I h;refine wpAny_execs_cons (thn (h1 pins s σ H D I h) λf s1 q=>?_);cases f with
 | next=>exact wpAny_execs_nil q
 | ret v=>exact q
 | brk=>exact q
 | cont=>exact q
theorem Inv.quiet {pins:List (Addr×Obj)}{σ:St}{H:Hp}{s:Shared}(I:Inv X pins σ H s):interactive X.env=false:=by simp [interactive,I.ok.kind]
def J6T (te:TE):TS:=λD σ H=>te σ H λ_ H1=>D.nx σ H1
theorem JT (he:PE X e te)(hs:swapsWith e none pos.line X.env=pure false:=by rfl):PS X (.Expr e pos) (J6T te):=by
 intro pins s σ H D I h;exact wpAny_Expr_any (thn (he pins s σ H _ I h) λv s1 ⟨x,H1,I1,r1,q1⟩=>⟨σ,H1,I1,q1⟩) I.quiet hs
def Jb4 (te:TE):TS:=λD σ H=>te σ H D.rt
theorem Jk (he:PE X e te):PS X (.Return (some e) pos) (Jb4 te):=by
 intro pins s σ H D I h;exact wpAny_Return_some (thn (he pins s σ H _ I h) λv s1 ⟨x,H1,I1,r1,q1⟩=>⟨x,σ,H1,I1,r1,q1⟩)
def Jav:TS:=λD _ H=>D.rt .non H
def J2F (c:TT)(t u:TS):TS:=λD σ H=>c σ H λb H1=>if b=true then t D σ H1 else u D σ H1
theorem Jw {c:Expr}{a b:List Stmt}{tc:TT}(hc:PT X c tc)(ha:PSs X a t)(hb:PSs X b u):PS X (.If c a b pos) (J2F tc t u):=by
 intro pins s σ H D I h;refine wpAny_If (thn (hc pins s σ H _ I h) λd s1 ⟨H1,I1,q1⟩=>?_);cases d with
 | true=>exact ha pins s1 σ H1 D I1 q1
 | false=>exact hb pins s1 σ H1 D I1 q1
def J5E:TS:=λ_ _ _=>False
theorem J08:PS X st J5E:=λ_ _ _ _ _ _ h=>h.elim
end
abbrev TG:=V->St->Hp->(St->Hp->Prop)->Prop
abbrev TGs:=List V->St->Hp->(St->Hp->Prop)->Prop
def PG (X:Cx)(target:Expr)(t:TG):Prop :=
 ∀ (pins:List (Addr×Obj)) (s:Shared) (σ:St) (H:Hp) (v:V) (u:Value) (Q:St->Hp->Prop),Inv X pins σ H s->RelV v u->t v σ H Q ->
   wpAny (model X.prog X.w) X.A (assign target X.env u) (λ_ s'=>∃ σ' H',Inv X pins σ' H' s'/\Q σ' H') X.xe s
def PGs (X:Cx)(ts:List Expr)(t:TGs):Prop :=
 ∀ (pins:List (Addr×Obj)) (s:Shared) (σ:St) (H:Hp) (vs:List V) (us:List Value) (Q:St->Hp->Prop),Inv X pins σ H s->Vals vs us->t vs σ H Q ->
   wpAny (model X.prog X.w) X.A (assignInOrder ((assignEach ts X.env).map (·.2)) us) (λ_ s'=>∃ σ' H',Inv X pins σ' H' s'/\Q σ' H') X.xe s
abbrev JfH:=V->V->V->Hp->(Hp->Prop)->Prop
def JfI (X:Cx)(t:JfH):Prop :=
 ∀ (pins:List (Addr×Obj)) (s:Shared) (σ:St) (H:Hp) (o i v:V) (ov iv u:Value) (Q:Hp->Prop),Inv X pins σ H s->RelV o ov->RelV i iv->RelV v u->t o i v H Q ->
   wpAny (model X.prog X.w) X.A (setItem ov iv u) (λ_ s'=>∃ H',Inv X pins σ H' s'/\Q H') X.xe s
abbrev TIp:=V->V->Hp->VK->Prop
def PIp (X:Cx)(op:Operator)(t:TIp):Prop :=
 ∀ (pins:List (Addr×Obj)) (s:Shared) (σ:St) (H:Hp) (x y:V) (v u:Value) (Q:VK),Inv X pins σ H s->RelV x v->RelV y u->t x y H Q ->
   wpAny (model X.prog X.w) X.A (inplaceOp op v u) (EP X pins σ Q) X.xe s
section
variable {X:Cx}{pos:Pos}
def JN (i:Nat):TG:=λv σ H Q=>Q (σ.set i (some v)) H
theorem JaI {i:Nat}{x:Str}(hN:X.N.Nodup)(hi:X.N[i]?=some x)(hx:Loc X.env.scope x)(hf:X.fn x=true\/X.env.scope.names.lookup x=some .local:=by first | exact .inl rfl | exact .inr rfl | assumption):PG X (.Name x pos) (JN i):=by
 intro pins s σ H v u Q I r h;exact wpAny_assign_Name (J2L I hN hi hx r (λs' I'=>⟨_,H,I',h⟩) hf)
def J6J:TGs:=λvs σ H Q=>vs=[]/\Q σ H
def J2C (t:TG)(u:TGs):TGs:=λvs σ H Q=>∃ v r,vs=v::r/\t v σ H λσ' H'=>u r σ' H' Q
theorem J3h:PGs X [] J6J:=by
 intro pins s σ H vs us Q I r h;obtain ⟨e,h⟩:=h;subst e;cases r;exact assignInOrder_nil ⟨σ,H,I,h⟩
theorem J0r {e:Expr}{es:List Expr}{t:TG}{u:TGs}(h1:PG X e t)(h2:PGs X es u)
 (hs:(assignEach (e::es) X.env).map (·.2)=assign e X.env::(assignEach es X.env).map (·.2):=by rfl):PGs X (e::es) (J2C t u):=by
 intro pins s σ H vs us Q I r h;obtain ⟨v,vr,e1,h⟩:=h;subst e1;cases r with
 | cons r rr =>
   rw [hs];refine assignInOrder_cons (thn (h1 pins s σ H _ _ _ I r h) λ_ s1 ⟨σ1,H1,I1,q1⟩=>?_);exact h2 pins s1 σ1 H1 _ _ Q I1 rr q1
def Jel (K:Frag)(n:Nat)(t:TGs):TG:=λv σ H Q=>∃ a xs,v=.ref a/\SqT K H a xs/\xs.length=n/\t xs σ H Q
theorem Jf5 {es:List Expr}{k:Nat}{t:TGs}{n:Nat}(hc:X.calm=true)(h:PGs X es t)
 (hn:(assignEach es X.env).length=n:=by rfl) (hst:(assignEach es X.env).findIdx? (·.1)=none:=by rfl):PG X (.Tuple es k pos) (Jel X.K n t):=by
 intro pins s σ H v u Q I r hw;obtain ⟨a,xs,e1,hq,hl,hw⟩:=hw;subst e1;cases r;obtain ⟨its,rv,ht,hz⟩:=I.tuple hq;refine assign_Tuple_tuple (I.ok.hd hc) ht (by simp [hn,<- hl,rv.length]) hst λh' hx=>?_;have I1:Inv X pins σ H { s with heap:=h' }:=I.kept (t':=s.toks) λb o e=>hx b o (zV (qH e)) e;exact h pins _ σ H xs _ Q I1 (by simpa using rv) hw
def Jd5 (to ti:TE)(t:JfH):TG:=λv σ H Q=>to σ H λo H1=>ti σ H1 λi H2=>t o i v H2 λH3=>Q σ H3
theorem Jf6 {o i:Expr}{to ti:TE}{t:JfH}(ho:PE X o to)(hi:PE X i ti)(hs:JfI X t)
 (ha:∀ v,assign (.Subscript o i pos) X.env v=(do
  let ov <- holding [v] (eval o X.env)
  let iv <- holding [v,ov] (eval i X.env)
  standAt pos
  holding [v,ov,iv] (setItem ov iv v)
  release [v,ov,iv] []):=by intro _;rfl):PG X (.Subscript o i pos) (Jd5 to ti t):=by
 intro pins s σ H v u Q I r h;rw [ha];refine zM (wpAny_holding (thn (ho pins s σ H _ I h) λov s1 ⟨x,H1,I1,r1,q1⟩=>?_));refine zM (wpAny_holding (thn (hi pins s1 σ H1 _ I1 q1) λiv s2 ⟨y,H2,I2,r2,q2⟩=>?_));refine zM (wpAny_standAt (zM (wpAny_holding (thn (hs pins s2 σ H2 x y v ov iv u _ I2 r1 r2 r q2) λ_ s3 ⟨H3,I3,q3⟩=>?_))));exact wpAny_release ⟨σ,H3,I3,q3⟩
def J4t (te:TE)(g:TG):TS:=λD σ H=>te σ H λx H1=>g x σ H1 D.nx
theorem Jcx {tg e:Expr}{te:TE}{g:TG}(he:PE X e te)(hg:PG X tg g)(hs:swapsWithSole [tg] e pos.line X.env=pure false:=by rfl)(hw:swappedStores [tg] e X.env=pure none:=by rfl)
 (h1:(assignEach [tg] X.env).map (·.2)=[assign tg X.env]:=by rfl):PS X (.Assign [tg] e pos) (J4t te g):=by
 intro pins s σ H D I h;refine wpAny_Assign_stores (thn (he pins s σ H _ I h) λv s1 ⟨x,H1,I1,r1,q1⟩=>?_) hs hw;rw [h1];exact thn (hg pins s1 σ H1 x v _ I1 r1 q1) λ_ s2 q=>q
theorem Jcw {i:Nat}{x:Str}{e:Expr}{te:TE}{pos':Pos}(hN:X.N.Nodup)(hi:X.N[i]?=some x)(hx:Loc X.env.scope x)(he:PE X e te)(hs:swapsWith e (some (.Name x pos')) pos.line X.env=pure false:=by rfl)(hf:X.fn x=true\/X.env.scope.names.lookup x=some .local:=by first | exact .inl rfl | exact .inr rfl | assumption) :
 PS X (.Assign [.Name x pos'] e pos) (J4t te (JN i)):=by
 intro pins s σ H D I h;refine wpAny_Assign_Name (thn (he pins s σ H _ I h) λv s1 ⟨y,H1,I1,r1,q1⟩=>?_) hs;exact J2L I1 hN hi hx r1 (λs2 I2=>⟨_,H1,I2,q1⟩) hf
def Jc9 (i:Nat)(te:TE)(ti:TIp):TS:=λD σ H=>∃ x,σ[i]?=some (some x)/\te σ H λy H1=>ti x y H1 λz H2=>D.nx (σ.set i (some z)) H2
theorem ps_aug {i:Nat}{x:Str}{e:Expr}{te:TE}{op:Operator}{ti:TIp}{pos':Pos}(hN:X.N.Nodup)(hi:X.N[i]?=some x)(hx:Loc X.env.scope x)(he:PE X e te)(ho:PIp X op ti)(hf:X.fn x=true\/X.env.scope.names.lookup x=some .local:=by first | exact .inl rfl | exact .inr rfl | assumption) :
 PS X (.AugAssign (.Name x pos') op e pos) (Jc9 i te ti):=by
 intro pins s σ H D I h;obtain ⟨v,e1,h⟩:=h;obtain ⟨m,hn,hl⟩:=I.loc;have vis:Vis X.env.scope x:=by rcases hx with k | k;exact .inl k;exact .inr (.inl k)
 obtain ⟨u,r,l⟩:=hl i x v hi e1 vis;refine wpAny_AugAssign_Name ?_;have go:wpAny (model X.prog X.w) X.A (eval e X.env) (λw s₂=>wpAny (model X.prog X.w) X.A (inplaceOp op u w) (λr s₃=>wpAny (model X.prog X.w) X.A (storeName X.env x r) (λ_=>SP X pins D .next) X.xe s₃) X.xe s₂) X.xe s:=by
  refine thn (he pins s σ H _ I h) λw s1 ⟨y,H1,I1,r1,q1⟩=>?_;refine thn (ho pins s1 σ H1 v y u w _ I1 r r1 q1) λz s2 ⟨zv,H2,I2,r2,q2⟩=>?_;exact J2L I2 hN hi hx r2 (λs3 I3=>⟨_,H2,I3,q2⟩) hf
 rcases l with ⟨hk,hm⟩ | ⟨hk,c,hc,hcell⟩
 ·exact wpAny_loadName_local I.ok.kind hk hn hm go
 ·rcases hk with hk | hk
  ·exact wpAny_loadName_cell I.ok.kind hk hc hcell go
  ·rcases hx with k | k
   ·have:X.env.scope.names.lookup x=some .free:=hk
    rw [k] at this;cases this
   ·have:X.env.scope.names.lookup x=some .free:=hk
    rw [k] at this;cases this
end
structure It where
 go:Nat->Hp->Prop
 yld:Nat->Hp->V->Hp->Prop
 stop:Nat->Hp->Prop
def J37 (X:Cx)(pins:List (Addr×Obj))(H:Hp)(b:Addr):Prop :=
 H b=none/\b≠X.env.locals/\b∉X.fs/\(b∈X.ex\/X.s₀.heap.objs.size<=b)/\(∀ x c,X.env.cells.lookup x=some c->c≠b)/\∀ p∈X.pn++pins,p.1≠b
theorem Inv.fpOk {X:Cx}{pins:List (Addr×Obj)}{σ:St}{H H':Hp}{s:Shared}{b:Addr}(I:Inv X pins σ H s)(hb:s.heap.objs.size<=b)(hn:H' b=none):J37 X pins H' b:=by
 refine ⟨hn,Nat.ne_of_gt (zY I.lt hb),I.nofs hb,.inr (z9 I.sz hb),λx c e z=>?_,λp hp z=>?_⟩
 ·obtain ⟨v,q⟩:=I.cell x c e
  exact absurd (zY q.lt (by rw [z];exact hb)) (Nat.lt_irrefl _)
 ·exact absurd (zY (qH (I.pin p hp).1) (by rw [z];exact hb)) (Nat.lt_irrefl _)
structure Turn (P:Program)(w:World)(K:Frag)(tg:Expr)(J:It)(fp:List Addr)(it:Addr)(tn:Nat->Heap->Prop):Prop where
 mem:it∈fp
 obj:∀ i h,tn i h->∀ b∈fp,∃ o,h.get? b=some o/\∀ v,o.data≠.cell v
 keep:∀ i h h',tn i h->(∀ b∈fp,∀ o,h.get? b=some o->h'.get? b=some o)->tn i h'
 item:∀ (X:Cx),X.prog=P->X.w=w->X.K=K->X.calm=true->∀ (i:Nat) (pins:List (Addr×Obj)) (s:Shared) (σ:St) (H:Hp) (E:Value->Shared->Prop),Inv X pins σ H s->(∀ b∈fp,J37 X pins H b)->tn i s.heap->J.go i H ->
  wpAny (model P w) X.A (pyNext (.ref it)) (λr s1=>∃ u,r=some u /\
   wpAny (model P w) X.A (letOwnedTupleGo tg (.ref it) u) (λ_ s2=>∃ x H',Inv X pins σ H' s2/\RelV x u/\J.yld i H x H'/\tn (i+1) s2.heap/\∀ b∈fp,H' b=none) E s1) E s
 done:∀ (X:Cx),X.prog=P->X.w=w->X.K=K->X.calm=true->∀ (i:Nat) (pins:List (Addr×Obj)) (s:Shared) (σ:St) (H:Hp) (E:Value->Shared->Prop),Inv X pins σ H s->(∀ b∈fp,J37 X pins H b)->tn i s.heap->J.stop i H ->
  wpAny (model P w) X.A (pyNext (.ref it)) (λr s1=>r=none/\Inv X pins σ H s1) E s
 self:∀ (A:Around) (i:Nat) (s:Shared) (Q:Value->Shared->Prop) (E:Value->Shared->Prop),tn i s.heap->Q (.ref it) s->wpAny (model P w) A (pyIter (.ref it)) Q E s
abbrev TI:=St->Hp->(It->Hp->Prop)->Prop
def PIE (X:Cx)(pins:List (Addr×Obj))(σ:St)(tg:Expr)(R:It->Hp->Prop)(itv:Value)(s2:Shared):Prop :=
 ∃ (it:Addr) (fp:List Addr) (tn:Nat->Heap->Prop) (J:It) (H':Hp),itv=.ref it/\Inv X pins σ H' s2/\Turn X.prog X.w X.K tg J fp it tn/\tn 0 s2.heap/\(∀ b∈fp,J37 X pins H' b)/\R J H'
def PI (X:Cx)(tg iter:Expr)(wi:TI):Prop :=
 ∀ (pins:List (Addr×Obj)) (s:Shared) (σ:St) (H:Hp) (R:It->Hp->Prop),Inv X pins σ H s->wi σ H R ->
   wpAny (model X.prog X.w) X.A (eval iter X.env) (λv s1=>wpAny (model X.prog X.w) X.A (pyIter v) (PIE X pins σ tg R) X.xe s1) X.xe s
theorem go_of {M:Model}{A:Around}{E:Value->Shared->Prop}{s:Shared}{tg:Expr}{it:Addr}{u:Value}{o:Obj}{n:String}{vs:Array Value}{Q:Unit->Shared->Prop}(ho:s.heap.get? it=some o)(hc:o.cls=.type n)(hd:o.data=.fields vs)
 (hn:["enumerate","zip","dict_itemiterator","dict_reverseitemiterator","odict_iterator","itertools.zip_longest","itertools.pairwise"].contains n=false) (hQ:Q () s):wpAny M A (letOwnedTupleGo tg (.ref it) u) Q E s:=by
 unfold letOwnedTupleGo
 cases tg <;> first
  | exact zN hQ
  | (cases u<;>first
   | exact zN hQ
   | (refine zM (wpAny_load ho ?_)
      rw [hc,hd];show wpAny M A (if (["enumerate","zip","dict_itemiterator","dict_reverseitemiterator","odict_iterator","itertools.zip_longest","itertools.pairwise"].contains n&&vs[0]? == some (rawInt _))=true then _ else _) Q E s;rw [zO (by intro h;rw [hn,Bool.false_and] at h;cases h)];exact zN hQ))
def Itl (K:Frag)(a:Addr):It :=
 ⟨λi H=>∃ xs x,SqL K H a xs/\xs[i]?=some x,λi H x H'=>H'=H/\∀ xs,SqL K H a xs->xs[i]?=some x,λi H=>∃ xs,SqL K H a xs/\xs.length<=i⟩
def Itt (K:Frag)(a:Addr):It :=
 ⟨λi H=>∃ xs x,SqT K H a xs/\xs[i]?=some x,λi H x H'=>H'=H/\∀ xs,SqT K H a xs->xs[i]?=some x,λi H=>∃ xs,SqT K H a xs/\xs.length<=i⟩
def Itr (lo:Int)(n:Nat):It:=⟨λi _=>i<n,λi H x H'=>H'=H/\x=.int (lo+i),λi _=>n<=i⟩
theorem Jb2 {P:Program}{w:World}{K:Frag}{tg:Expr}(a it:Addr):Turn P w K tg (Itl K a) [it] it (λi h=>h.IsListIter it a i) where
 mem:=by simp
 obj:=λi h st b hb=>by
  have e:b=it:=by simpa using hb
  subst e;obtain ⟨o,e,c,d⟩:=st;exact ⟨o,e,λv z=>by rw [d] at z;cases z⟩
 keep:=λi h h' st k=>st.at λo e=>k it (by simp) o e
 item:=by
  intro X hP hw hK hc i pins s σ H E I hf st hg;subst hP hw hK;obtain ⟨xs,x,hq,hx⟩:=hg;obtain ⟨its,rv,p,hz⟩:=I.list hq;obtain ⟨u,hu,ru⟩:=rv.get hx;obtain ⟨f0,f1,f2,f3,f4,f5⟩:=hf it (by simp);refine wpAny_pyNext_list_item st p.isList (x:=u) (by simpa using hu) λh' st' sb=>?_;have I1:Inv X pins σ H { s with heap:=h' }:=I.turned (t':=s.toks) (λb o hb e=>(sb.2 b hb).trans e) f0 f1 f3 f4 f5;obtain ⟨o,e,c,d⟩:=id st';exact ⟨u,rfl,go_of (s:={ s with heap:=h' }) e c d (by decide) ⟨x,H,I1,ru,⟨rfl,λys hy=>by rw [I.list_inj hy hq];exact hx⟩,st',λb hb=>(hf b hb).1⟩⟩
 done:=by
  intro X hP hw hK hc i pins s σ H E I hf st hg;subst hP hw hK;obtain ⟨xs,hq,hx⟩:=hg;obtain ⟨its,rv,p,hz⟩:=I.list hq;obtain ⟨f0,f1,f2,f3,f4,f5⟩:=hf it (by simp);have hl:=rv.length;exact wpAny_pyNext_list_end (I.ok.hd hc) st p.isList (by simp;omega) λh' eb=>⟨rfl,I.turned (t':=s.toks) (λb o hb e=>eb b o hb e) f0 f1 f3 f4 f5⟩
 self:=λ_ _ _ _ _ st h=>wpAny_pyIter_listiter st h
theorem J9D {P:Program}{w:World}{K:Frag}{tg:Expr}(a it:Addr):Turn P w K tg (Itt K a) [it] it (λi h=>h.IsTupleIter it a i) where
 mem:=by simp
 obj:=λi h st b hb=>by
  have e:b=it:=by simpa using hb
  subst e;obtain ⟨o,e,c,d⟩:=st;exact ⟨o,e,λv z=>by rw [d] at z;cases z⟩
 keep:=λi h h' st k=>st.at λo e=>k it (by simp) o e
 item:=by
  intro X hP hw hK hc i pins s σ H E I hf st hg;subst hP hw hK;obtain ⟨xs,x,hq,hx⟩:=hg;obtain ⟨its,rv,p,hz⟩:=I.tuple hq;obtain ⟨u,hu,ru⟩:=rv.get hx;obtain ⟨f0,f1,f2,f3,f4,f5⟩:=hf it (by simp);refine wpAny_pyNext_tuple_item st (show s.heap.IsTuple a its.toArray from p) (x:=u) (by simpa using hu) λh' st' sb=>?_;have I1:Inv X pins σ H { s with heap:=h' }:=I.turned (t':=s.toks) (λb o hb e=>(sb.2 b hb).trans e) f0 f1 f3 f4 f5;obtain ⟨o,e,c,d⟩:=id st';exact ⟨u,rfl,go_of (s:={ s with heap:=h' }) e c d (by decide) ⟨x,H,I1,ru,⟨rfl,λys hy=>by rw [I.tuple_inj hy hq];exact hx⟩,st',λb hb=>(hf b hb).1⟩⟩
 done:=by
  intro X hP hw hK hc i pins s σ H E I hf st hg;subst hP hw hK;obtain ⟨xs,hq,hx⟩:=hg;obtain ⟨its,rv,p,hz⟩:=I.tuple hq;obtain ⟨f0,f1,f2,f3,f4,f5⟩:=hf it (by simp);have hl:=rv.length;exact wpAny_pyNext_tuple_end (I.ok.hd hc) st (show s.heap.IsTuple a its.toArray from p) (by simp;omega) λh' eb=>⟨rfl,I.turned (t':=s.toks) (λb o hb e=>eb b o hb e) f0 f1 f3 f4 f5⟩
 self:=λ_ _ _ _ _ st h=>wpAny_pyIter_tupleiter st h
theorem J9E {P:Program}{w:World}{K:Frag}{tg:Expr}(it:Addr)(lo:Int)(n:Nat):Turn P w K tg (Itr lo n) [it] it (λi h=>IsRangeIter h it (lo+(i:Nat) * 1) ((n:Int) - (i:Nat)) 1) where
 mem:=by simp
 obj := λi h st b hb=>by
  have e:b=it:=by simpa using hb
  subst e;exact ⟨_,st,λv z=>by
   have z':Data.fields _=Data.cell v:=z;cases z'⟩
 keep:=λi h h' st k=>k it (by simp) _ st
 item:=by
  intro X hP hw hK hc i pins s σ H E I hf st hg;subst hP hw hK;obtain ⟨f0,f1,f2,f3,f4,f5⟩:=hf it (by simp);have W:=Walks.range (prog:=X.prog) (w:=X.w) (I.ok.hd hc) it lo 1 n;refine W.item i s _ _ hg st λv h' tk hv st' kk=>?_;obtain ⟨t,rfl⟩:=hv;have I1:Inv X pins σ H { s with heap:=h',toks:=tk }:=I.turned (λb o hb e=>kk b o (by simpa using hb) e) f0 f1 f3 f4 f5;refine ⟨_,rfl,go_of (s:={ s with heap:=h',toks:=tk }) (n:="range_iterator") st' rfl rfl (by decide) ⟨.int (lo+i),H,I1,⟨t,?_⟩,⟨rfl,rfl⟩,st',λb hb=>(hf b hb).1⟩⟩;rw [Int.mul_one]
 done:=by
  intro X hP hw hK hc i pins s σ H E I hf st hg;subst hP hw hK;obtain ⟨f0,f1,f2,f3,f4,f5⟩:=hf it (by simp);exact wpAny_pyNext_range_end (I.ok.hd hc) st (by have:n<=i:=hg;omega) λh' eb=>⟨rfl,I.turned (t':=s.toks) (λb o hb e=>eb b o hb e) f0 f1 f3 f4 f5⟩
 self:=λ_ _ _ _ _ st h=>wpAny_pyIter_rangeiter st h
section
variable {X:Cx}{tg:Expr}
def J7b (K:Frag)(tl:TE):TI:=λσ H R=>tl σ H λx H1=>∃ a,x=.ref a/\(∃ xs,SqL K H1 a xs)/\R (Itl K a) H1
def JbL (K:Frag)(tl:TE):TI:=λσ H R=>tl σ H λx H1=>∃ a,x=.ref a/\(∃ xs,SqT K H1 a xs)/\R (Itt K a) H1
theorem Je1 {l:Expr}{tl:TE}(hl:PE X l tl):PI X tg l (J7b X.K tl):=by
 intro pins s σ H R I h;refine thn (hl pins s σ H _ I h) λv s1 ⟨x,H1,I1,r1,q1⟩=>?_;obtain ⟨a,e,⟨xs,hq⟩,q⟩:=q1;subst e;cases r1;obtain ⟨its,rv,p,hz⟩:=I1.list hq;refine wpAny_pyIter_list p.isList ?_;refine ⟨s1.heap.objs.size,[s1.heap.objs.size],_,_,H1,rfl,I1.kept (t':=s1.toks) λb o e=>qF _ e,Jb2 a _,⟨_,qG _ rfl,rfl,rfl⟩,λb hb=>?_,q⟩;have e:b=s1.heap.objs.size:=by simpa using hb
 subst e;exact I1.fpOk (zQ _) (I1.hok.fresh (zQ _))
theorem Jf2 {l:Expr}{tl:TE}(hl:PE X l tl):PI X tg l (JbL X.K tl):=by
 intro pins s σ H R I h;refine thn (hl pins s σ H _ I h) λv s1 ⟨x,H1,I1,r1,q1⟩=>?_;obtain ⟨a,e,⟨xs,hq⟩,q⟩:=q1;subst e;cases r1;obtain ⟨its,rv,p,hz⟩:=I1.tuple hq;refine wpAny_pyIter_tuple (show s1.heap.IsTuple a its.toArray from p) ?_;refine ⟨s1.heap.objs.size,[s1.heap.objs.size],_,_,H1,rfl,I1.kept (t':=s1.toks) λb o e=>qF _ e,J9D a _,⟨_,qG _ rfl,rfl,rfl⟩,λb hb=>?_,q⟩;have e:b=s1.heap.objs.size:=by simpa using hb
 subst e;exact I1.fpOk (zQ _) (I1.hok.fresh (zQ _))
theorem Jcp {pins:List (Addr×Obj)}{σ:St}{H:Hp}{s:Shared}{R:It->Hp->Prop}{E:Value->Shared->Prop}{lo hi:Int}{t u v:Tok}{tk:Nat}(I:Inv X pins σ H s)(h1:-(2 ^ 62)<=lo)(h2:lo<2 ^ 62)(h3:-(2 ^ 62)<=hi)(h4:hi<2 ^ 62)
 (q:R (Itr lo (hi - lo).toNat) H):wpAny (model X.prog X.w) X.A (pyIter (.ref s.heap.objs.size)) (PIE X pins σ tg R) E { s with heap:=s.heap.push { cls:=.type "range",data:=.fields #[.int lo t,.int hi u,.int 1 v] },toks:=tk }:=by
 refine wpAny_pyIter_range (IsRange.new ..) (small_one h1 h2 h3 h4) ?_;have I1:Inv X pins σ H { s with heap:=s.heap.push { cls:=.type "range",data:=.fields #[.int lo t,.int hi u,.int 1 v] },toks:=tk }:=I.kept λb o e=>qF _ e;refine ⟨(s.heap.push { cls:=.type "range",data:=.fields #[.int lo t,.int hi u,.int 1 v] }).objs.size,[(s.heap.push { cls:=.type "range",data:=.fields #[.int lo t,.int hi u,.int 1 v] }).objs.size],_,_,H,rfl,
  I1.kept (t':=tk) λb o e=>qF _ e,J9E _ lo (hi - lo).toNat,?_,λb hb=>?_,q⟩
 ·have e1:lo+((0:Nat):Int) * 1=lo:=by simp
  have e2:(((hi - lo).toNat:Nat):Int) - ((0:Nat):Int)=Builtin.Range.rangeSize lo hi 1:=by rw [rangeSize_one];split<;>omega
  show IsRangeIter _ _ (lo+((0:Nat):Int) * 1) ((((hi - lo).toNat:Nat):Int) - ((0:Nat):Int)) 1;rw [e1,e2];exact qG _ rfl
 ·have e:b=(s.heap.push { cls:=.type "range",data:=.fields #[.int lo t,.int hi u,.int 1 v] }).objs.size:=by simpa using hb
  subst e;exact I1.fpOk (zQ _) (I1.hok.fresh (zQ _))
def J7a (ta:TA):TI:=λσ H R=>ta σ H λvs H1=>∃ j:Int,vs=[.int j]/\-(2 ^ 62)<=j/\j<2 ^ 62/\R (Itr 0 j.toNat) H1
theorem J0m {a:Expr}{ta:TA}{p pos:Pos}(hg:Gl X "range")(hm:X.mg "range"=none)(ha:PA X [a] ta)(hs:starEach [a] X.env=[(false,eval a X.env)]:=by rfl):PI X tg (.Call (.Name "range" p) [a] [] pos) (J7a ta):=by
 intro pins s σ H R I h;refine Call_ (J23 I hg hm boot_range (PyProof.Rows.callWith_type1 (thn (ha pos pins s σ H _ I h) λus s1 ⟨vs,H1,I1,r1,q1⟩=>?_) hs rfl));obtain ⟨j,e,q1,q2,q⟩:=q1;subst e;cases r1 with
 | cons r rr =>
   cases rr;obtain ⟨t,rfl⟩:=r;exact call_range_1 (Jcp I1 (by omega) (by omega) q1 q2 (by simpa using q))
def JdD (wi:TI)(g:TG)(tb:TS):TS:=λD σ H=>wi σ H λJ H1=>∃ W:Nat->Nat->St->Hp->Prop,(∃ m,W 0 m σ H1)/\∀ i m σ H,W i m σ H ->
 (J.stop i H/\D.nx σ H)\/(J.go i H/\∃ N:St->Hp->Prop,(∀ σ' H',N σ' H'->∃ m',m'<m/\W (i+1) m' σ' H')/\∀ x H',J.yld i H x H'->g x σ H' λσ2 H2=>tb { D with nx:=N,ct:=N,bk:=D.nx } σ2 H2)
def J62 (fp:List Addr)(h:Heap):List (Addr×Obj):=fp.filterMap λb=>(h.get? b).map λo=>(b,o)
theorem J2x {fp:List Addr}{h:Heap}{b:Addr}{o:Obj}(hb:b∈fp)(e:h.get? b=some o):(b,o)∈J62 fp h:=mem_filterMap.mpr ⟨b,hb,by rw [e];rfl⟩
theorem Jbu {fp:List Addr}{h:Heap}{p:Addr×Obj}(hp:p∈J62 fp h):p.1∈fp/\h.get? p.1=some p.2:=by
 obtain ⟨b,hb,e⟩:=mem_filterMap.mp hp;cases q:h.get? b with
 | none=>rw [q] at e;cases e
 | some o =>
   rw [q] at e;have e':(b,o)=p:=zU e;subst e';exact ⟨hb,q⟩
theorem Inv.pinned {pins:List (Addr×Obj)}{σ:St}{H:Hp}{s:Shared}{fp:List Addr}(I:Inv X pins σ H s)(hf:∀ b∈fp,J37 X pins H b)(ho:∀ b∈fp,∃ o,s.heap.get? b=some o/\∀ v,o.data≠.cell v):Inv X (pins++J62 fp s.heap) σ H s :=
 I.pins_of λp hp=>(qu.mp hp).elim (λz=>I.pin p (qv _ z)) λz=>by
  obtain ⟨hb,e⟩:=Jbu z;obtain ⟨f0,f1,f2,_⟩:=hf p.1 hb;obtain ⟨o,e',d⟩:=ho p.1 hb;rw [e] at e';cases e';exact ⟨e,f0,f1,f2,d⟩
theorem Inv.unpinned {pins pl:List (Addr×Obj)}{σ:St}{H:Hp}{s:Shared}(I:Inv X (pins++pl) σ H s):Inv X pins σ H s:=I.pins_of λp hp=>I.pin p (qv _ (qw _ hp))
theorem J0f {iter:Expr}{body:List Stmt}{wi:TI}{g:TG}{tb:TS}{pos:Pos}(hp:PassesOwn (model X.prog X.w) X.A X.env X.xe)(hc:X.calm=true)(hi:PI X tg iter wi)(hg:PG X tg g)(hb:PSs X body tb)
 (hs:∀ x,foldedSetIterable iter X.env x=pure x:=by intro _;rfl):PS X (.For tg iter body [] pos) (JdD wi g tb):=by
 intro pins s σ H D I h;refine wpAny_For (thn (hi pins s σ H _ I h) λv s1 h1=>thn h1 λitv s2 h2=>?_) hs;obtain ⟨it,fp,tn,J,H2,e,I2,T,st2,f2,W,⟨m0,w0⟩,turn⟩:=h2;subst e;have stat:∀ {H':Hp},(∀ b∈fp,H' b=none)->∀ b∈fp,J37 X pins H' b:=λhn b hb=>⟨hn b hb,(f2 b hb).2⟩;refine codeAny_forLoop_any (λn s'=>∃ i σ' H',Inv X pins σ' H' s'/\tn i s'.heap/\(∀ b∈fp,H' b=none)/\W i n σ' H') ?_ m0 ⟨0,σ,H2,I2,st2,λb hb=>(f2 b hb).1,w0⟩;rintro n s3 ⟨i,σ3,H3,I3,st3,fr3,w3⟩;rcases turn i n σ3 H3 w3 with ⟨stop,qn⟩ | ⟨go,N,hN,step⟩
 ·refine wpAny_passesOwn hp (thn (T.done X rfl rfl rfl hc i pins s3 σ3 H3 X.xe I3 (stat fr3) st3 stop) λr s4 ⟨hr,I4⟩=>?_)
  subst hr;exact wpAny_execs_nil ⟨σ3,H3,I4,qn⟩
 ·refine wpAny_passesOwn hp (thn (T.item X rfl rfl rfl hc i pins s3 σ3 H3 X.xe I3 (stat fr3) st3 go) λr s4 ⟨u,hr,h4⟩=>?_)
  subst hr;refine wpAny_passesOwn hp (thn h4 λ_ s5 ⟨x,H5,I5,r5,y5,st5,fr5⟩=>?_);have I5':=I5.pinned (stat fr5) (T.obj _ _ st5);refine wpAny_passesOwn hp (thn (hg _ s5 σ3 H5 x u _ I5' r5 (step x H5 y5)) λ_ s6 ⟨σ6,H6,I6,q6⟩=>?_);refine wpAny_passesOwn hp (thn (hb _ s6 σ6 H6 _ I6 q6) λf s7 q7=>?_);have again:∀ {σ7:St} {H7:Hp},Inv X (pins++J62 fp s5.heap) σ7 H7 s7->N σ7 H7->∃ m,m<n/\∃ i σ' H',Inv X pins σ' H' s7/\tn i s7.heap/\(∀ b∈fp,H' b=none)/\W i m σ' H':=λ{σ7 H7} I7 n7=>by
   obtain ⟨m',hm,w7⟩:=hN σ7 H7 n7;refine ⟨m',hm,i+1,σ7,H7,I7.unpinned,T.keep _ _ _ st5 λb hb o e=>(I7.pin (b,o) (qv _ (qv _ (J2x hb e)))).1,λb hb=>?_,w7⟩;obtain ⟨o,e,d⟩:=T.obj _ _ st5 b hb;exact (I7.pin (b,o) (qv _ (qv _ (J2x hb e)))).2.1
  cases f with
  | next=>obtain ⟨σ7,H7,I7,n7⟩:=q7;exact again I7 n7
  | cont=>obtain ⟨σ7,H7,I7,n7⟩:=q7;exact again I7 n7
  | brk=>obtain ⟨σ7,H7,I7,q7⟩:=q7;exact ⟨σ7,H7,I7.unpinned,q7⟩
  | ret v=>obtain ⟨x7,σ7,H7,I7,r7,q7⟩:=q7;exact ⟨x7,σ7,H7,I7.unpinned,r7,q7⟩
end
abbrev R2:=V->V->Hp->VK->Prop
def OpR (X:Cx)(f:Value->Value->Sem Value)(r:R2):Prop :=
 ∀ (pins:List (Addr×Obj)) (s:Shared) (σ:St) (H:Hp) (x y:V) (v u:Value) (Q:VK),Inv X pins σ H s->RelV x v->RelV y u->r x y H Q ->
   wpAny (model X.prog X.w) X.A (f v u) (EP X pins σ Q) X.xe s
def UnR (X:Cx)(f:Value->Sem Value)(r:V->Hp->VK->Prop):Prop :=
 ∀ (pins:List (Addr×Obj)) (s:Shared) (σ:St) (H:Hp) (x:V) (v:Value) (Q:VK),Inv X pins σ H s->RelV x v->r x H Q ->
   wpAny (model X.prog X.w) X.A (f v) (EP X pins σ Q) X.xe s
def J04 (X:Cx)(f:Value)(r:List V->Hp->VK->Prop):Prop :=
 ∀ (pins:List (Addr×Obj)) (s:Shared) (σ:St) (H:Hp) (xs:List V) (us:List Value) (Q:VK),Inv X pins σ H s->Vals xs us->r xs H Q ->
   wpAny (model X.prog X.w) X.A (call f us) (EP X pins σ Q) X.xe s
def Jgr (X:Cx)(r:V->Hp->(Bool->Hp->Prop)->Prop):Prop :=
 ∀ (pins:List (Addr×Obj)) (s:Shared) (σ:St) (H:Hp) (x:V) (v:Value) (Q:Bool->Hp->Prop),Inv X pins σ H s->RelV x v->r x H Q ->
   wpAny (model X.prog X.w) X.A (truthy v) (TP X pins σ Q) X.xe s
def tOp (r:R2)(ta tb:TE):TE:=λσ H Q=>ta σ H λx H1=>tb σ H1 λy H2=>r x y H2 Q
def tUn (r:V->Hp->VK->Prop)(ta:TE):TE:=λσ H Q=>ta σ H λx H1=>r x H1 Q
def rI (C:Int->Int->Prop)(g:Int->Int->V):R2:=λx y H Q=>∃ i j,x=.int i/\y=.int j/\C i j/\Q (g i j) H
def rI0 (g:Int->Int->V):R2:=λx y H Q=>∃ i j,x=.int i/\y=.int j/\Q (g i j) H
def rU (g:Int->V):V->Hp->VK->Prop:=λx H Q=>∃ i,x=.int i/\Q (g i) H
section
variable {X:Cx}{a b c:Expr}{ta tb tc:TE}{pos:Pos}
theorem JfF (ha:PE X a ta)(hb:PE X b tb){pins:List (Addr×Obj)}{s:Shared}{σ:St}{H:Hp}{R:V->V->Hp->Prop}(I:Inv X pins σ H s)
 (h:ta σ H λx H1=>tb σ H1 λy H2=>R x y H2) {Q:Value->Shared->Prop} {f:Value->Value->Sem Value}
 (hf:∀ v u s2 x y H2,Inv X pins σ H2 s2->RelV x v->RelV y u->R x y H2->wpAny (model X.prog X.w) X.A (f v u) Q X.xe s2) :
 wpAny (model X.prog X.w) X.A (eval a X.env) (λv s₁=>wpAny (model X.prog X.w) X.A (eval b X.env) (λu s₂=>wpAny (model X.prog X.w) X.A (f v u) Q X.xe s₂) X.xe s₁) X.xe s:=by
 refine thn (ha pins s σ H _ I h) λv s1 ⟨x,H1,I1,r1,q1⟩=>?_;refine thn (hb pins s1 σ H1 _ I1 q1) λu s2 ⟨y,H2,I2,r2,q2⟩=>?_;exact hf v u s2 x y H2 I2 r1 r2 q2
theorem Jq {op:Operator}{r:R2}(ho:OpR X (binaryOp op) r)(ha:PE X a ta)(hb:PE X b tb):PE X (.BinOp a op b pos) (tOp r ta tb):=by
 intro pins s σ H Q I h;exact wpAny_BinOp (JfF ha hb I h λv u s2 x y H2 I2 rx ry q=>ho pins s2 σ H2 x y v u Q I2 rx ry q)
theorem JfU {op:UnaryOp}{r:V->Hp->VK->Prop}(ho:UnR X (unaryOp op) r)(ha:PE X a ta):PE X (.UnaryOp op a pos) (tUn r ta):=by
 intro pins s σ H Q I h;exact UnaryOp_ (thn (ha pins s σ H _ I h) λv s1 ⟨x,H1,I1,r1,q1⟩=>ho pins s1 σ H1 x v Q I1 r1 q1)
theorem opI {f:Value->Value->Sem Value}{C:Int->Int->Prop}{g:Int->Int->Int}
 (rule:∀ (i j:Int) (t u:Tok) (s:Shared) (Q:Value->Shared->Prop) (E:Value->Shared->Prop),C i j->Q (.int (g i j) s.toks) { s with toks:=s.toks+1 }->wpAny (model X.prog X.w) X.A (f (.int i t) (.int j u)) Q E s) :
 OpR X f (rI C λi j=>.int (g i j)):=by
 intro pins s σ H x y v u Q I rx ry h;obtain ⟨i,j,rfl,rfl,hc,q⟩:=h;obtain ⟨t,rfl⟩:=rx;obtain ⟨t',rfl⟩:=ry;exact rule i j t t' s _ _ hc ⟨.int (g i j),H,I.tok _,⟨_,rfl⟩,q⟩
theorem JfX {f:Value->Value->Sem Value}{g:Int->Int->Int}
 (rule:∀ (i j:Int) (t u:Tok) (s:Shared) (Q:Value->Shared->Prop) (E:Value->Shared->Prop),Q (.int (g i j) s.toks) { s with toks:=s.toks+1 }->wpAny (model X.prog X.w) X.A (f (.int i t) (.int j u)) Q E s) :
 OpR X f (rI0 λi j=>.int (g i j)):=by
 intro pins s σ H x y v u Q I rx ry h;obtain ⟨i,j,rfl,rfl,q⟩:=h;obtain ⟨t,rfl⟩:=rx;obtain ⟨t',rfl⟩:=ry;exact rule i j t t' s _ _ ⟨.int (g i j),H,I.tok _,⟨_,rfl⟩,q⟩
theorem Je7 {f:Value->Value->Sem Value}{g:Int->Int->Bool}
 (rule:∀ (i j:Int) (t u:Tok) (s:Shared) (Q:Value->Shared->Prop) (E:Value->Shared->Prop),Q (.bool (g i j)) s->wpAny (model X.prog X.w) X.A (f (.int i t) (.int j u)) Q E s) :
 OpR X f (rI0 λi j=>.bl (g i j)):=by
 intro pins s σ H x y v u Q I rx ry h;obtain ⟨i,j,rfl,rfl,q⟩:=h;obtain ⟨t,rfl⟩:=rx;obtain ⟨t',rfl⟩:=ry;exact rule i j t t' s _ _ ⟨.bl (g i j),H,I,rfl,q⟩
def Jgt (i j:Int):Prop:=0<=j/\j<=1000000/\i.natAbs<2 ^ 64
def CMul (i j:Int):Prop:=(-(2 ^ 64)<i/\i<2 ^ 64)\/(-(2 ^ 64)<j/\j<2 ^ 64)
theorem CMul.ok {i j:Int}(h:CMul i j):IntMulOk i j:=by
 rcases h with ⟨h1,h2⟩ | ⟨h1,h2⟩
 ·exact .of_left (intBits_le_64 h1 h2)
 ·exact .of_right (intBits_le_64 h1 h2)
theorem Jx:OpR X (binaryOp .Add) (rI0 λi j=>.int (i+j)):=JfX λ_ _ _ _ _ _ _ q=>add_int q
theorem J4L:OpR X (binaryOp .Sub) (rI0 λi j=>.int (i - j)):=JfX λ_ _ _ _ _ _ _ q=>sub_int q
theorem J1G:OpR X (binaryOp .Mult) (rI CMul λi j=>.int (i * j)):=opI λ_ _ _ _ _ _ _ hc q=>mul_int q hc.ok
theorem J2W:OpR X (binaryOp .Mod) (rI (λ_ j=>0<j) λi j=>.int (i % j)):=opI λi j _ _ _ _ _ hc q=>by
 have h1:(0:Int)<j:=hc;exact mod_int' (by omega) (by rw [Int.fmod_eq_emod_of_nonneg i (by omega)];exact q)
theorem J66:OpR X (binaryOp .Pow) (rI Jgt λi j=>.int (i ^ j.toNat)):=opI λ_ _ _ _ _ _ _ hc q=>pow_int_small hc.1 hc.2.1 hc.2.2 q
theorem unI {f:Value->Sem Value}{g:Int->Int}
 (rule:∀ (i:Int) (t:Tok) (s:Shared) (Q:Value->Shared->Prop) (E:Value->Shared->Prop),Q (.int (g i) s.toks) { s with toks:=s.toks+1 }->wpAny (model X.prog X.w) X.A (f (.int i t)) Q E s) :
 UnR X f (rU λi=>.int (g i)):=by
 intro pins s σ H x v Q I rx h;obtain ⟨i,rfl,q⟩:=h;obtain ⟨t,rfl⟩:=rx;exact rule i t s _ _ ⟨.int (g i),H,I.tok _,⟨_,rfl⟩,q⟩
theorem JeK:UnR X (unaryOp .USub) (rU λi=>.int (-i)):=unI λ_ _ _ _ _ q=>neg_int q
end
def J5Q:V->V->Bool
 | .non,.non=>true | .non,.int _=>true | .int _,.non=>true | .non,.bl _=>true | .bl _,.non=>true | .non,.str _=>true | .str _,.non=>true
 | .int _,.int _=>true | .bl _,.bl _=>true | .str _,.str _=>true | .byt _,.byt _=>true
 | .int _,.str _=>true | .str _,.int _=>true | .bl _,.str _=>true | .str _,.bl _=>true
 | _,_=>false
def rEq:R2:=λx y H Q=>J5Q x y=true/\Q (.bl (decide (x=y))) H
def rNe:R2:=λx y H Q=>J5Q x y=true/\Q (.bl (!decide (x=y))) H
theorem J8e {i j:Int}:decide (V.int i=V.int j)=(i == j):=by
 rw [Bool.eq_iff_iff];simp
theorem Jdd {i j:Bool}:decide (V.bl i=V.bl j)=(i == j):=by
 rw [Bool.eq_iff_iff];simp
theorem J8d {i j:Str}:decide (V.str i=V.str j)=(i == j):=by
 rw [Bool.eq_iff_iff];simp
theorem JaU {i j:Array UInt8}:decide (V.byt i=V.byt j)=(i.toList == j.toList):=by
 rw [Bool.eq_iff_iff];cases i;cases j;simp
section
variable {X:Cx}{a b c:Expr}{ta tb tc:TE}{pos:Pos}
theorem JD {pins:List (Addr×Obj)}{σ:St}{H:Hp}{s:Shared}{Q:VK}{k k':Bool}(I:Inv X pins σ H s)(q:Q (.bl k) H)(e:k=k'):EP X pins σ Q (.bool k') s:=by
 subst e;exact ⟨.bl k,H,I,rfl,q⟩
theorem JE:OpR X (compareOp .Eq) rEq:=by
 intro pins s σ H x y v u Q I rx ry h;obtain ⟨hs,q⟩:=h;cases x with
 | non =>
   cases rx;cases y with
   | non=>cases ry;exact PySem.EqNone.eq_none_none (JD I q (by simp))
   | bl j=>cases ry;exact PySem.EqNone.eq_none_bool (JD I q (by simp))
   | int j=>obtain ⟨t',rfl⟩:=ry;exact PySem.EqNone.eq_none_int (JD I q (by simp))
   | str j=>obtain ⟨t',rfl⟩:=ry;exact PySem.EqNone.eq_none_str (JD I q (by simp))
   | _=>exact absurd (show false=true from hs) zR
 | bl i =>
   cases rx;cases y with
   | non=>cases ry;exact PySem.EqNone.eq_bool_none (JD I q (by simp))
   | bl j=>cases ry;exact eq_bool (JD I q Jdd)
   | str j=>obtain ⟨t',rfl⟩:=ry;exact PySem.EqMixed.eq_bool_str (JD I q (by simp))
   | _=>exact absurd (show false=true from hs) zR
 | int i =>
   obtain ⟨t,rfl⟩:=rx;cases y with
   | non=>cases ry;exact PySem.EqNone.eq_int_none (JD I q (by simp))
   | int j=>obtain ⟨t',rfl⟩:=ry;exact eq_int (JD I q J8e)
   | str j=>obtain ⟨t',rfl⟩:=ry;exact PySem.EqMixed.eq_int_str (JD I q (by simp))
   | _=>exact absurd (show false=true from hs) zR
 | str i =>
   obtain ⟨t,rfl⟩:=rx;cases y with
   | non=>cases ry;exact PySem.EqNone.eq_str_none (JD I q (by simp))
   | bl j=>cases ry;exact PySem.EqMixed.eq_str_bool (JD I q (by simp))
   | int j=>obtain ⟨t',rfl⟩:=ry;exact PySem.EqMixed.eq_str_int (JD I q (by simp))
   | str j=>obtain ⟨t',rfl⟩:=ry;exact eq_str (JD I q J8d)
   | _=>exact absurd (show false=true from hs) zR
 | byt i =>
   obtain ⟨t,rfl⟩:=rx;cases y with
   | byt j=>obtain ⟨t',rfl⟩:=ry;exact PySem.W.eq_bytes (JD I q JaU)
   | _=>exact absurd (show false=true from hs) zR
 | _=>cases y<;>exact absurd (show false=true from hs) zR
theorem J70:OpR X (compareOp .NotEq) rNe:=by
 intro pins s σ H x y v u Q I rx ry h;obtain ⟨hs,q⟩:=h;cases x with
 | non =>
   cases rx;cases y with
   | non=>cases ry;exact PySem.EqNone.ne_none_none (JD I q (by simp))
   | bl j=>cases ry;exact PySem.EqNone.ne_none_bool (JD I q (by simp))
   | int j=>obtain ⟨t',rfl⟩:=ry;exact PySem.EqNone.ne_none_int (JD I q (by simp))
   | str j=>obtain ⟨t',rfl⟩:=ry;exact PySem.EqNone.ne_none_str (JD I q (by simp))
   | _=>exact absurd (show false=true from hs) zR
 | bl i =>
   cases rx;cases y with
   | non=>cases ry;exact PySem.EqNone.ne_bool_none (JD I q (by simp))
   | bl j=>cases ry;exact ne_bool (JD I q (congrArg not Jdd))
   | str j=>obtain ⟨t',rfl⟩:=ry;exact PySem.EqMixed.ne_bool_str (JD I q (by simp))
   | _=>exact absurd (show false=true from hs) zR
 | int i =>
   obtain ⟨t,rfl⟩:=rx;cases y with
   | non=>cases ry;exact PySem.EqNone.ne_int_none (JD I q (by simp))
   | int j=>obtain ⟨t',rfl⟩:=ry;exact ne_int (JD I q (congrArg not J8e))
   | str j=>obtain ⟨t',rfl⟩:=ry;exact PySem.EqMixed.ne_int_str (JD I q (by simp))
   | _=>exact absurd (show false=true from hs) zR
 | str i =>
   obtain ⟨t,rfl⟩:=rx;cases y with
   | non=>cases ry;exact PySem.EqNone.ne_str_none (JD I q (by simp))
   | bl j=>cases ry;exact PySem.EqMixed.ne_str_bool (JD I q (by simp))
   | int j=>obtain ⟨t',rfl⟩:=ry;exact PySem.EqMixed.ne_str_int (JD I q (by simp))
   | str j=>obtain ⟨t',rfl⟩:=ry;exact ne_str (JD I q (congrArg not J8d))
   | _=>exact absurd (show false=true from hs) zR
 | byt i =>
   obtain ⟨t,rfl⟩:=rx;cases y with
   | byt j=>obtain ⟨t',rfl⟩:=ry;exact PySem.W.ne_bytes (JD I q (congrArg not JaU))
   | _=>exact absurd (show false=true from hs) zR
 | _=>cases y<;>exact absurd (show false=true from hs) zR
theorem J71:OpR X (compareOp .Lt) (rI0 λi j=>.bl (decide (i<j))):=Je7 λ_ _ _ _ _ _ _ q=>lt_int q
theorem J72:OpR X (compareOp .LtE) (rI0 λi j=>.bl (decide (i<=j))):=Je7 λ_ _ _ _ _ _ _ q=>le_int q
theorem J92:OpR X (compareOp .Gt) (rI0 λi j=>.bl (decide (j<i))):=Je7 λ_ _ _ _ _ _ _ q=>gt_int q
theorem JfW:OpR X (compareOp .GtE) (rI0 λi j=>.bl (decide (j<=i))):=Je7 λ_ _ _ _ _ _ _ q=>ge_int q
theorem Jbq:OpR X (compareOp .Lt) (λx y H Q=>∃ i j,x=.str i/\y=.str j/\Q (.bl (decide (i.cps.toList<j.cps.toList))) H):=by
 intro pins s σ H x y v u Q I rx ry h;obtain ⟨i,j,rfl,rfl,q⟩:=h;obtain ⟨t,rfl⟩:=rx;obtain ⟨t',rfl⟩:=ry;exact lt_str (JD I q rfl)
theorem Jbr:OpR X (compareOp .In) (λx y H Q=>∃ i j,x=.str i/\y=.str j/\Q (.bl (!(Builtin.Str.occurrences j i 0 j.length 1).isEmpty)) H):=by
 intro pins s σ H x y v u Q I rx ry h;obtain ⟨i,j,rfl,rfl,q⟩:=h;obtain ⟨t,rfl⟩:=rx;obtain ⟨t',rfl⟩:=ry;exact in_str (JD I q rfl)
theorem J3W:OpR X (compareOp .Is) (λx y H Q=>y=.non/\Q (.bl (decide (x=.non))) H):=by
 intro pins s σ H x y v u Q I rx ry h;obtain ⟨rfl,q⟩:=h;cases ry;refine is_none_gen (JD I q ?_);cases x<;>first
  | (cases rx;rfl)
  | (obtain ⟨t,rfl⟩:=rx;rfl)
theorem JaJ:OpR X (compareOp .IsNot) (λx y H Q=>y=.non/\Q (.bl (!decide (x=.non))) H):=by
 intro pins s σ H x y v u Q I rx ry h;obtain ⟨rfl,q⟩:=h;cases ry;refine isnot_none_gen (JD I q ?_);cases x<;>first
  | (cases rx;rfl)
  | (obtain ⟨t,rfl⟩:=rx;rfl)
theorem Jm (b:Expr){op:CmpOp}(h:op≠.In:=by decide)(h2:op≠.NotIn:=by decide):behindInMarks op b=false:=by
 have e1:(op == CmpOp.In)=false:=by cases op<;>first | rfl | exact absurd rfl h
 have e2:(op == CmpOp.NotIn)=false:=by cases op<;>first | rfl | exact absurd rfl h2
 cases b<;>simp [behindInMarks,e1,e2]
theorem JL {op:CmpOp}{r:R2}(ho:OpR X (compareOp op) r)(ha:PE X a ta)(hb:PE X b tb)(hm:behindInMarks op b=false):PE X (.Compare a [op] [b] pos) (tOp r ta tb):=by
 intro pins s σ H Q I h;exact wpAny_Compare1 (JfF ha hb I h λv u s2 x y H2 I2 rx ry q=>ho pins s2 σ H2 x y v u Q I2 rx ry q) hm
def J1e (t:TE):TT:=λσ H Q=>t σ H λx H'=>∃ k,x=.bl k/\Q k H'
theorem Jo {op:CmpOp}{r:R2}(ho:OpR X (compareOp op) r)(ha:PE X a ta)(hb:PE X b tb)(hm:behindInMarks op b=false):PT X (.Compare a [op] [b] pos) (J1e (tOp r ta tb)):=by
 intro pins s σ H Q I h;refine wpAny_isTrue_Compare1 (thn (ha pins s σ H _ I h) λv s1 ⟨x,H1,I1,r1,q1⟩=>thn (hb pins s1 σ H1 _ I1 q1) λu s2 ⟨y,H2,I2,r2,q2⟩ =>
  thn (ho pins s2 σ H2 x y v u _ I2 r1 r2 q2) λc s3 ⟨z,H3,I3,r3,k,e,q3⟩=>?_) hm
 subst e;cases r3;exact wpAny_truthy_bool ⟨H3,I3,q3⟩
def J4s (r r':R2)(ta tb tc:TE):TE:=λσ H Q=>ta σ H λx H1=>tb σ H1 λy H2=>r x y H2 λz H3=>∃ k,z=.bl k /\
 (if k=true then tc σ H3 λw' H4=>r' y w' H4 Q else Q (.bl false) H3)
theorem JcF {op op':CmpOp}{r r':R2}(ho:OpR X (compareOp op) r)(ho':OpR X (compareOp op') r')(ha:PE X a ta)(hb:PE X b tb)(hc:PE X c tc)
 (hm:lastMarks [op,op'] [b,c]=false:=by with_unfolding_all rfl):PE X (.Compare a [op,op'] [b,c] pos) (J4s r r' ta tb tc):=by
 intro pins s σ H Q I h;refine Compare_chain (thn (ha pins s σ H _ I h) λv s1 ⟨x,H1,I1,r1,q1⟩=>chain_link (thn (hb pins s1 σ H1 _ I1 q1) λu s2 ⟨y,H2,I2,r2,q2⟩ =>
  thn (ho pins s2 σ H2 x y v u _ I2 r1 r2 q2) λd s3 ⟨z,H3,I3,r3,k,e,q3⟩=>?_)) hm
 subst e;cases r3;refine wpAny_truthy_bool ?_;cases k with
 | false=>exact ite_ff ⟨.bl false,H3,I3,rfl,q3⟩
 | true=>exact ite_tt (chain_last (thn (hc pins s3 σ H3 _ I3 q3) λw' s4 ⟨z',H4,I4,r4,q4⟩=>ho' pins s4 σ H4 y z' u w' Q I4 r2 r4 q4))
theorem J8V {op op':CmpOp}{r r':R2}(ho:OpR X (compareOp op) r)(ho':OpR X (compareOp op') r')(ha:PE X a ta)(hb:PE X b tb)(hc:PE X c tc)
 (hm:lastMarks [op,op'] [b,c]=false:=by with_unfolding_all rfl):PT X (.Compare a [op,op'] [b,c] pos) (J1e (J4s r r' ta tb tc)):=by
 intro pins s σ H Q I h;refine isTrue_chain (thn (ha pins s σ H _ I h) λv s1 ⟨x,H1,I1,r1,q1⟩=>test_link (thn (hb pins s1 σ H1 _ I1 q1) λu s2 ⟨y,H2,I2,r2,q2⟩ =>
  thn (ho pins s2 σ H2 x y v u _ I2 r1 r2 q2) λd s3 ⟨z,H3,I3,r3,k,e,q3⟩=>?_)) hm
 subst e;cases r3;refine wpAny_truthy_bool ?_;cases k with
 | false =>
   obtain ⟨k',e',q'⟩:=q3;cases e';exact ite_ff ⟨H3,I3,q'⟩
 | true =>
   refine ite_tt (test_last (thn (hc pins s3 σ H3 _ I3 q3) λw' s4 ⟨z',H4,I4,r4,q4⟩=>thn (ho' pins s4 σ H4 y z' u w' _ I4 r2 r4 q4) λd' s5 ⟨z2,H5,I5,r5,k2,e2,q5⟩=>?_));subst e2;cases r5;exact wpAny_truthy_bool ⟨H5,I5,q5⟩
def Jgd (K:Frag)(x:V)(H:Hp)(k:Bool):Prop :=
 match x with
 | .non=>k=false
 | .bl b=>k=b
 | .int i=>k=(i != 0)
 | .str y=>y.length<=sizeLine/\k=((y.length:Int) != 0)
 | .byt y=>y.size<=sizeLine/\k=((y.size:Int) != 0)
 | .ref p=>(∃ xs,SqL K H p xs/\k = !xs.isEmpty)\/(∃ xs,SqT K H p xs/\k = !xs.isEmpty)\/∃ kvs,H p=some (.dK kvs)/\k = !kvs.isEmpty
 | _=>False
theorem Jal {κ:Type}{kvs:List (κ×V)}{vs:List (κ×Value)}(r:KV kvs vs):(!vs.isEmpty) = !kvs.isEmpty:=by
 cases r<;>rfl
theorem J6f {xs:List V}{its:List Value}(r:Vals xs its):(!its.toArray.isEmpty) = !xs.isEmpty:=by
 cases r<;>simp
theorem J30:(sizeLine:Nat)<2 ^ 63:=by rw [sizeLine_eq];decide
theorem JeM:Jgr X (λx H Q=>∃ k,Jgd X.K x H k/\Q k H):=by
 intro pins s σ H x v Q I rx h;obtain ⟨k,e,q⟩:=h;have hl:=J30;have hs:sizeLine=16777216:=sizeLine_eq;cases x with
 | non =>
   cases rx;have e':k=false:=e;subst e';exact truthy_none ⟨H,I,q⟩
 | bl b =>
   cases rx;have e':k=b:=e;subst e';exact wpAny_truthy_bool ⟨H,I,q⟩
 | int i =>
   obtain ⟨t,rfl⟩:=rx;have e':k=(i != 0):=e;subst e';exact PySem.P.truthy_int ⟨H,I,q⟩
 | str y =>
   obtain ⟨t,rfl⟩:=rx;obtain ⟨hy,e'⟩:y.length<=sizeLine/\k=((y.length:Int) != 0):=e;subst e';exact PySem.P.truthy_str (by omega) ⟨H,I.tok _,q⟩
 | byt y =>
   obtain ⟨t,rfl⟩:=rx;obtain ⟨hy,e'⟩:y.size<=sizeLine/\k=((y.size:Int) != 0):=e;subst e';exact PySem.W.truthy_bytes (by omega) ⟨H,I.tok _,q⟩
 | ref p =>
   cases rx;have e':(∃ xs,SqL X.K H p xs/\k = !xs.isEmpty)\/(∃ xs,SqT X.K H p xs/\k = !xs.isEmpty)\/∃ kvs,H p=some (.dK kvs)/\k = !kvs.isEmpty:=e;rcases e' with ⟨xs,hx,e'⟩ | ⟨xs,hx,e'⟩ | ⟨kvs,hx,e'⟩
   ·subst e'
    obtain ⟨its,r,pl,hz⟩:=I.list hx;have hlen:=r.length;exact wpAny_truthy_list pl.isList (by simp only [qg];omega) ⟨H,I.tok _,by rw [J6f r];exact q⟩
   ·subst e'
    obtain ⟨its,r,pl,hz⟩:=I.tuple hx;have hlen:=r.length;exact truthy_tuple pl (by simp only [qg];omega) ⟨H,I.tok _,by rw [J6f r];exact q⟩
   ·subst e'
    obtain ⟨hz,hS,vs,r,m⟩:kvs.length<=sizeLine/\(p == sysModules)=false/\∃ vs,KV kvs vs/\s.heap.DictOf (J0j X.prog X.w) p vs:=I.hok p _ hx;have hlen:kvs.length=vs.length:=Paired.length r;exact wpAny_truthy_dict hS m (by omega) ⟨H,I.tok _,by rw [Jal r];exact q⟩
 | _=>exact (show False from e).elim
theorem Jcu (ha:PE X a ta)(he:∀ whole,isTrue a X.env whole=(do let v <- whole;standAt a.pos;holding [v] (truthy v))) :
 PT X a (λσ H Q=>ta σ H λx H'=>∃ k,Jgd X.K x H' k/\Q k H'):=by
 intro pins s σ H Q I h;exact isTrue_plain (thn (ha pins s σ H _ I h) λv s1 ⟨x,H1,I1,r1,q1⟩=>JeM pins s1 σ H1 x v Q I1 r1 q1) (he _)
theorem Ja7:OpR X (binaryOp .Add) (λx y H Q=>∃ i j,x=.str i/\y=.str j/\i.length+j.length<=sizeLine/\Q (.str (i++j)) H):=by
 intro pins s σ H x y v u Q I rx ry h;obtain ⟨i,j,rfl,rfl,hz,q⟩:=h;obtain ⟨t,rfl⟩:=rx;obtain ⟨t',rfl⟩:=ry;exact add_str (λt' tk=>⟨.str (i++j),H,I.tok _,⟨_,rfl⟩,q⟩) hz
theorem J0N {x:V}{us:List Value}(r:Vals [x] us):∃ u,us=[u]/\RelV x u:=by
 cases r with
 | cons r1 r2=>cases r2;exact ⟨_,rfl,r1⟩
theorem J5z {x y:V}{us:List Value}(r:Vals [x,y] us):∃ u w',us=[u,w']/\RelV x u/\RelV y w':=by
 cases r with
 | cons r1 r2 =>
   cases r2 with
   | cons r3 r4=>cases r4;exact ⟨_,_,rfl,r1,r3⟩
theorem Jdr:J04 X (.builtin "abs") (λxs H Q=>∃ i,xs=[.int i]/\Q (.int (if i<0 then -i else i)) H):=by
 intro pins s σ H xs us Q I r h;obtain ⟨i,rfl,q⟩:=h;obtain ⟨u,rfl,t,rfl⟩:=J0N r;exact call_abs_int λu tk=>⟨.int (if i<0 then -i else i),H,I.tok _,⟨_,rfl⟩,q⟩
theorem J7f (hc:X.calm=true):J04 X (.builtin "min") (λxs H Q=>∃ i j,xs=[.int i,.int j]/\Q (.int (if j<i then j else i)) H):=by
 intro pins s σ H xs us Q I r h;obtain ⟨i,j,rfl,q⟩:=h;obtain ⟨u,w',rfl,⟨t,rfl⟩,⟨t',rfl⟩⟩:=J5z r;refine min_two_ints (I.ok.hd hc) λh' tk k=>⟨_,H,I.kept k,?_,q⟩;by_cases hj:j<i
 ·rw [zP hj,zP hj];exact ⟨_,rfl⟩
 ·rw [zO hj,zO hj];exact ⟨_,rfl⟩
theorem J3u:J04 X (.type "int") (λxs H Q=>(∃ i,xs=[.int i]/\Q (.int i) H)\/∃ k,xs=[.bl k]/\Q (.int (if k then 1 else 0)) H):=by
 intro pins s σ H xs us Q I r h;rcases h with ⟨i,rfl,q⟩ | ⟨k,rfl,q⟩
 ·obtain ⟨u,rfl,t,rfl⟩:=J0N r
  exact call_int_int ⟨.int i,H,I,⟨_,rfl⟩,q⟩
 ·obtain ⟨u,rfl,r1⟩:=J0N r
  cases r1;exact call_int_bool ⟨.int (if k then 1 else 0),H,I.tok _,⟨_,rfl⟩,q⟩
def Jgf (K:Frag)(x:V)(H:Hp)(n:Nat):Prop :=
 match x with
 | .str y=>y.length<=sizeLine/\n=y.length
 | .byt y=>y.size<=sizeLine/\n=y.size
 | .ref p=>(∃ xs,SqL K H p xs/\n=xs.length)\/∃ xs,SqT K H p xs/\n=xs.length
 | _=>False
theorem Jdl:J04 X (.builtin "len") (λxs H Q=>∃ x n,xs=[x]/\Jgf X.K x H n/\Q (.int n) H):=by
 intro pins s σ H xs us Q I r h;obtain ⟨x,n,rfl,e,q⟩:=h;obtain ⟨u,rfl,rx⟩:=J0N r;have hl:=J30;have hs:sizeLine=16777216:=sizeLine_eq;cases x with
 | str y =>
   obtain ⟨t,rfl⟩:=rx;obtain ⟨hy,e'⟩:y.length<=sizeLine/\n=y.length:=e;subst e';exact len_str (by omega) ⟨.int _,H,I.tok _,⟨_,rfl⟩,q⟩
 | byt y =>
   obtain ⟨t,rfl⟩:=rx;obtain ⟨hy,e'⟩:y.size<=sizeLine/\n=y.size:=e;subst e';exact PySem.W.len_bytes (by omega) ⟨.int _,H,I.tok _,⟨_,rfl⟩,q⟩
 | ref p =>
   cases rx;have e':(∃ xs,SqL X.K H p xs/\n=xs.length)\/∃ xs,SqT X.K H p xs/\n=xs.length:=e;rcases e' with ⟨xs,hx,e'⟩ | ⟨xs,hx,e'⟩
   ·subst e'
    obtain ⟨its,r',pl,hz⟩:=I.list hx;have hlen:=r'.length;exact Calls.call_len_list pl.isList (by simp only [qg];omega) ⟨.int xs.length,H,I.tok _,⟨_,by simp only [qg];rw [hlen]⟩,q⟩
   ·subst e'
    obtain ⟨its,r',pl,hz⟩:=I.tuple hx;have hlen:=r'.length;exact len_tuple pl (by simp only [qg];omega) ⟨.int xs.length,H,I.tok _,⟨_,by simp only [qg];rw [hlen]⟩,q⟩
 | _=>exact (show False from e).elim
end
structure ObjM (h:Heap)(x dx C:Addr)(mA:Str->Option Value):Prop where
 obj:h.get? x=some (PySem.W.instObj C dx)
 ns:h.Ns1 dx mA
 ne:dx≠x
theorem J75 {h:Heap}{dx:Addr}{mA:Str->Option Value}(n:h.Ns1 dx mA):∃ od,h.get? dx=some od/\∀ name,PySem.W.lookIn name od=some (mA name):=by
 obtain ⟨o,es,ep,ho,hd,hk,_,hm⟩:=n;refine ⟨o,ho,λname=>?_⟩;have e:=hm name;unfold nsFind findBy at e;rw [<- Array.find?_toList] at e;unfold PySem.W.lookIn;rw [hd];dsimp only
 split
 ·rename_i y q
  rw [q] at e;exact congrArg some e
 ·rename_i q
  rw [q] at e;have a:es.toList.any (·.refKey)=false:=by
   rw [any_eq_false];intro y hy;obtain ⟨z,t,hkey⟩:=hk y (Array.mem_toList_iff.mp hy);simp [DictEntry.refKey,hkey]
  have a':¬ es.toList.any (·.refKey)=true:=by rw [a];exact zR
  rw [zO a'];exact congrArg some e
theorem ObjM.look {h:Heap}{x dx C:Addr}{mA:Str->Option Value}(I:ObjM h x dx C mA):∃ od,PySem.W.InstAt h x (PySem.W.instObj C dx) C (some od)/\∀ name,PySem.W.lookIn name od=some (mA name) :=
 let ⟨od,ho,hl⟩:=J75 I.ns
 ⟨od,⟨I.obj,rfl,rfl,ho⟩,hl⟩
section
variable {prog:Program}{w:World}{A:Around}{E:Value->Shared->Prop}{s:Shared}{K:Frag}{x dx C f:Addr}{mA:Str->Option Value}{name:Str}{v:Value}
theorem Jek {expr:Bool}{Q:Value->Shared->Prop}(X:K.In s.heap)(I:ObjM s.heap x dx C mA)(hg:PySem.W.plainGet K C name=true)(hh:PySem.W.hasDictIn K C=true)
 (ha:findIn K (.ref C) name=some none) (hv:mA name=some v) (hv':PySem.W.handedIn v=true) (h:Q v { s with toks:=s.toks+1 }) :
 wpAny (model prog w) A (getAttr (.ref x) name expr) Q E s:=by
 obtain ⟨od,J,hl⟩:=I.look;exact PySem.W.get_value X J (PySem.W.plainGet_of hg).1 (PySem.W.findObj_own hh ha rfl (by rw [hl,hv])) hv' h
theorem Jd4 {pl:Sem Bool}{Q:Value×List Value->Shared->Prop}(X:K.In s.heap)(I:ObjM s.heap x dx C mA)(hg:PySem.W.plainGet K C name=true)
 (hf:findIn K (.ref C) name=some (some (.ref f))) (ht:PySem.W.isFn K (.ref f)=true) (hv:mA name=none) (h:Q (.ref f,[.ref x]) s) :
 wpAny (model prog w) A (getMethod (.ref x) name pl) Q E s:=by
 obtain ⟨od,J,hl⟩:=I.look;exact PySem.W.method_fn X J (PySem.W.plainGet_of hg).1 (PySem.W.plainGet_of hg).2 hf (beq_iff_eq.mp ht) (by show (PySem.W.lookIn name od).map (·.isSome)=some false;rw [hl,hv];rfl) h
theorem JdN {ns:List Str}{Q:Unit->Shared->Prop}(X:K.In s.heap)(I:ObjM s.heap x dx C mA)
 (hs:findIn K (.ref C) "__setattr__"=some (some (.builtin "object.__setattr__"))) (hp:PySem.W.plainOver K C=true) (ht:PySem.W.takerIn K C name=some none) (hh:PySem.W.hasDictIn K C=true)
 (hw:PySem.Within mA ns) (hsz:ns.length<=sizeLine)
 (h:∀ h',ObjM h' x dx C (λy=>if y=name then some v else mA y)->Heap.SameBut dx s.heap h'->Q () { s with heap:=h',toks:=s.toks+2 }) :
 wpAny (model prog w) A (setAttr (.ref x) name v) Q E s:=by
 obtain ⟨od,J,hl⟩:=I.look;refine PySem.W.set_plain X J hs (PySem.W.osa_open (s:={ s with toks:=s.toks+1 }) (r:=none) X J hp ht λb=>?_);obtain ⟨cd,hc,hd'⟩:=PySem.W.any_some hh;have hx:s.heap.get? x=some ⟨.ref C,some dx,.plain,#[]⟩:=I.obj;refine zM (zN (zM (zM (wpAny_loadPart hx (zM (PySem.W.Looks.here (s:={ s with toks:=s.toks+1 }) (PySem.W.looks_clsIn X hc) ?_))))));rw [hd'];refine zN (a:=some dx) (zM (zN (zM ?_)));refine wpAny_nsSet1 (s:={ s with toks:=s.toks+1 }) I.ns λh' hn2 hs2=>?_;obtain ⟨oD,esD,epD,hoD,hdD,hcD⟩:=hn2.count (PySem.Within.cons name v hw);refine zM (wpAny_lookBehind hoD (by rw [hdD];exact pastItsLine_dict (z9 hcD (by rw [length_cons];omega))) ?_);exact zN (h _ ⟨(hs2.2 _ (Ne.symm I.ne)).trans I.obj,hn2,I.ne⟩ hs2)
theorem JcQ {R:Result->Shared->Prop}{vs:List Value}{kw:List (Str×Value)}(X:K.In s.heap)(hm:PySem.W.makesIn K C=true)
 (hi:findIn K (.ref C) "__init__"=some (some (.ref f))) (hf:PySem.W.typeIn K (.ref f)=some (.type "function"))
 (h:codeAny (model prog w) (A.under (.builtin "type.__call__" ⟨.ref C::vs,kw⟩)) (.call (.ref f) ⟨.ref (s.heap.objs.size+1)::vs,kw⟩) (PySem.W.InitBack (s.heap.objs.size+1) R)
  { s with heap:=(s.heap.push PySem.W.emptyDict).push (PySem.W.instObj C s.heap.objs.size) }) :
 codeAny (model prog w) A (.call (.ref C) ⟨vs,kw⟩) R s:=by
 obtain ⟨hh,g,d,t,os⟩:=s;exact PySem.W.make_core (PySem.W.makes_of X hm) (PySem.W.looks_findIn X hi) (λself=>PySem.W.bind_fn X self hf) (.inl rfl) h
end
def J02 (f:Str)(v:V):List (Str×V)->List (Str×V)
 | []=>[(f,v)]
 | (g,x)::r=>if g=f then (g,v)::r else (g,x)::J02 f v r
theorem lookup_putF (f g:Str)(v:V):∀ fs:List (Str×V),(J02 f v fs).lookup g=if g=f then some v else fs.lookup g
 | []=>by
   show List.lookup g [(f,v)]=_;by_cases h:g=f
   ·have hb:(g == f)=true:=beq_iff_eq.mpr h
    simp only [List.lookup,hb,zP h]
   ·have hb:(g == f)=false:=beq_eq_false_iff_ne.mpr h
    simp only [List.lookup,hb,zO h]
 | (k,x)::r=>by
   have ih:=lookup_putF f g v r;rw [show J02 f v ((k,x)::r)=(if k=f then (k,v)::r else (k,x)::J02 f v r) from rfl];by_cases hk:k=f
   ·rw [zP hk]
    by_cases h:g=k
    ·have hb:(g == k)=true:=beq_iff_eq.mpr h
     simp only [List.lookup,hb,zP (h.trans hk)]
    ·have hb:(g == k)=false:=beq_eq_false_iff_ne.mpr h
     simp only [List.lookup,hb,zO (λe:g=f=>h (e.trans hk.symm))]
   ·rw [zO hk]
    by_cases h:g=k
    ·have hb:(g == k)=true:=beq_iff_eq.mpr h
     simp only [List.lookup,hb,zO (λe:g=f=>hk (h.symm.trans e))]
    ·have hb:(g == k)=false:=beq_eq_false_iff_ne.mpr h
     simp only [List.lookup,hb];exact ih
theorem keys_putF (f:Str)(v:V):∀ fs:List (Str×V),f∈(J02 f v fs).map (·.1)/\∀ g,g∈fs.map (·.1)->g∈(J02 f v fs).map (·.1)
 | []=>⟨by simp [J02],λg h=>by simp at h⟩
 | (k,x)::r=>by
   obtain ⟨i1,i2⟩:=keys_putF f v r;rw [show J02 f v ((k,x)::r)=(if k=f then (k,v)::r else (k,x)::J02 f v r) from rfl];by_cases hk:k=f
   ·rw [zP hk]
    subst hk;exact ⟨by simp,λg h=>by simpa using h⟩
   ·rw [zO hk]
    refine ⟨?_,λg h=>?_⟩
    ·rw [qp]
     exact ql _ i1
    ·rw [qp] at h ⊢
     rcases qo.mp h with e | e
     ·exact qo.mpr (.inl e)
     ·exact ql _ (i2 g e)
theorem J51 (f:Str)(v:V):∀ fs:List (Str×V),(J02 f v fs).length<=fs.length+1
 | []=>by simp [J02]
 | (k,x)::r=>by
   have ih:=J51 f v r;rw [show J02 f v ((k,x)::r)=(if k=f then (k,v)::r else (k,x)::J02 f v r) from rfl];by_cases hk:k=f
   ·rw [zP hk,length_cons,length_cons];omega
   ·rw [zO hk,length_cons,length_cons];omega
theorem RelO.some_of {v:V}{o:Option Value}(r:RelO (some v) o):∃ u,o=some u/\RelV v u:=by
 cases o with
 | none=>exact (show False from r).elim
 | some u=>exact ⟨u,rfl,r⟩
theorem RelO.none_of {o:Option Value}(r:RelO none o):o=none:=by
 cases o with
 | none=>rfl
 | some u=>exact (show False from r).elim
theorem JbN {v:V}{u:Value}(r:RelV v u):PySem.W.handedIn u=true:=by
 cases v with
 | non=>cases (show u=Value.none from r);rfl
 | bl b=>cases (show u=Value.bool b from r);rfl
 | int i=>obtain ⟨t,e⟩:=(show ∃ t,u=Value.int i t from r);cases e;rfl
 | str x=>obtain ⟨t,e⟩:=(show ∃ t,u=Value.str x t from r);cases e;rfl
 | byt b=>obtain ⟨t,e⟩:=(show ∃ t,u=Value.bytes b t from r);cases e;rfl
 | flt b=>obtain ⟨t,e⟩:=(show ∃ t,u=Value.float b t from r);cases e;rfl
 | ref a=>cases (show u=Value.ref a from r);rfl
 | ty n=>cases (show u=Value.type n from r);rfl
section
variable {P:Program}{w:World}{H H':Hp}{h h':Heap}{a C dx:Addr}{fs fs':List (Str×V)}
theorem J5w (hok:HOk P w H h)(e:H a=some (.ins C dx fs)):∃ mA,ObjM h a dx C mA/\(∀ f,RelO (fs.lookup f) (mA f))/\PySem.Within mA (fs.map (·.1))/\fs.length<=1000/\H dx=some (.own a):=by
 obtain ⟨d,z,ne,ob,mA,n,r,q⟩:=(show ObjOk P w H h a (.ins C dx fs) from hok a _ e);exact ⟨mA,⟨ob,n,ne⟩,r,q,z,d⟩
end
structure Cls (K:Frag)(C:Addr):Prop where
 pg:PySem.W.plainGet K C Str.empty=true
 hd:PySem.W.hasDictIn K C=true
 po:PySem.W.plainOver K C=true
 sa:findIn K (.ref C) "__setattr__"=some (some (.builtin "object.__setattr__"))
theorem Cls.get {K:Frag}{C:Addr}(c:Cls K C)(f:Str):PySem.W.plainGet K C f=true:=c.pg
def NoAttr (K:Frag)(C:Addr)(f:Str):Prop:=findIn K (.ref C) f=some none
theorem NoAttr.taker {K:Frag}{C:Addr}{f:Str}(n:NoAttr K C f):PySem.W.takerIn K C f=some none:=by
 unfold PySem.W.takerIn;rw [show findIn K (.ref C) f=some none from n];rfl
structure Meth (K:Frag)(C:Addr)(m:Str)(f:Addr):Prop where
 at_:findIn K (.ref C) m=some (some (.ref f))
 fn:PySem.W.isFn K (.ref f)=true
 kp:PySem.W.keepIn K (.ref f)=true
section
variable {X:Cx}{pins:List (Addr×Obj)}{σ:St}{H:Hp}{s:Shared}{a C dx:Addr}{fs:List (Str×V)}{f:Str}{v:V}{A:Around}{E:Value->Shared->Prop}
theorem Jan {b:Bool}{Q:Value->Shared->Prop}(I:Inv X pins σ H s)(e:H a=some (.ins C dx fs))(c:Cls X.K C)(n:NoAttr X.K C f)(l:fs.lookup f=some v)
 (h:∀ u s',Inv X pins σ H s'->RelV v u->Q u s'):wpAny (model X.prog X.w) A (getAttr (.ref a) f b) Q E s:=by
 obtain ⟨mA,O,r,_,_,_⟩:=J5w I.hok e;obtain ⟨u,hu,ru⟩:=RelO.some_of (v:=v) (o:=mA f) (by rw [<- l];exact r f);exact Jek I.kIn O (c.get f) c.hd n hu (JbN ru) (h u _ (I.tok _) ru)
theorem J3X {m:Str}{g:Addr}{pl:Sem Bool}{Q:Value×List Value->Shared->Prop}(I:Inv X pins σ H s)(e:H a=some (.ins C dx fs))(c:Cls X.K C)(k:Meth X.K C m g)(l:fs.lookup m=none)
 (h:Q (.ref g,[.ref a]) s):wpAny (model X.prog X.w) A (getMethod (.ref a) m pl) Q E s:=by
 obtain ⟨mA,O,r,_,_,_⟩:=J5w I.hok e;have hn:mA m=none:=RelO.none_of (by rw [<- l];exact r m);exact Jd4 I.kIn O (c.get m) k.at_ k.fn hn h
theorem J9T {y:V}{u:Value}{Q:Unit->Shared->Prop}(I:Inv X pins σ H s)(e:H a=some (.ins C dx fs))(c:Cls X.K C)(n:NoAttr X.K C f)(hl:fs.length<1000)(ry:RelV y u)
 (h:∀ s',Inv X pins σ (upd H a (.ins C dx (J02 f y fs))) s'->Q () s'):wpAny (model X.prog X.w) A (setAttr (.ref a) f u) Q E s:=by
 obtain ⟨mA,O,r,wi,_,ho⟩:=J5w I.hok e;have hz:(fs.map (·.1)).length<=sizeLine:=by rw [qe,sizeLine_eq];omega
 refine JdN I.kIn O c.sa c.po n.taker c.hd wi hz λh' O' sb=>h _ ?_;have hd:∃ o,h'.get? dx=some o:=let ⟨o,_,_,e',_⟩:=O'.ns;⟨o,e'⟩;refine I.write (x:=a) (e:=dx) (by rw [e];exact True.intro) (.inr ho) (λb q hb z=>(sb.2 b hb).trans z) hd ?_;refine ⟨by rw [Jj O.ne];exact ho,?_,O.ne,O'.obj,_,O'.ns,λg=>?_,λg hg=>?_⟩
 ·have:=J51 f y fs;omega
 ·show RelO ((J02 f y fs).lookup g) (if g=f then some u else mA g)
  rw [lookup_putF];by_cases q:g=f
  ·rw [zP q,zP q];exact ry
  ·rw [zO q,zO q];exact r g
 ·by_cases q:g=f
  ·rw [q];exact (keys_putF f y fs).1
  ·refine (keys_putF f y fs).2 g (wi g λz=>hg ?_)
   show (if g=f then some u else mA g)=none;rw [zO q];exact z
theorem Inv.made (I:Inv X pins σ H s):Inv X pins σ (upd (upd H s.heap.objs.size (.own (s.heap.objs.size+1))) (s.heap.objs.size+1) (.ins C s.heap.objs.size []))
 { s with heap:=(s.heap.push PySem.W.emptyDict).push (PySem.W.instObj C s.heap.objs.size) }:=by
 have e1:(s.heap.push PySem.W.emptyDict).get? s.heap.objs.size=some PySem.W.emptyDict:=qG s.heap rfl;have e2:((s.heap.push PySem.W.emptyDict).push (PySem.W.instObj C s.heap.objs.size)).get? (s.heap.objs.size+1)=some (PySem.W.instObj C s.heap.objs.size):=by
  have:=qG (s.heap.push PySem.W.emptyDict) (o:=PySem.W.instObj C s.heap.objs.size) rfl;rwa [Heap.size_push] at this
 have e3:(s.heap.push PySem.W.emptyDict).Ns s.heap.objs.size (λ_=>none):=⟨PySem.W.emptyDict,#[],_,e1,rfl,(λe he=>absurd he (by simp)),λ_=>rfl⟩;have I1:=I.laid (a:=s.heap.objs.size) (o:=.own (s.heap.objs.size+1)) (h':=s.heap.push PySem.W.emptyDict) (t':=s.toks) (λb u q=>qF _ q) (zQ _) ⟨_,e1⟩;refine I1.laid (a:=s.heap.objs.size+1) (o:=.ins C s.heap.objs.size []) (t':=s.toks) (λb u q=>qF _ q) (Nat.le_of_eq (Heap.size_push _ _)) ?_;have ne:s.heap.objs.size≠s.heap.objs.size+1:=zV (Nat.lt_succ_self _);refine ⟨by rw [Jj ne,Jd],zZ _,ne,e2,λ_=>none,(Heap.Ns1.of_empty e3).at λo q=>qF _ q,λ_=>True.intro,λy hy=>absurd rfl hy⟩
theorem Jeq {prog:Program}{w:World}{env:Env}{e:Expr}{f:Str}{pos:Pos}{s:Shared}{Q:Value->Shared->Prop}(hb:attributeBase e f env (eval e env)=eval e env)
 (h:wpAny (model prog w) A (eval e env) (λo s₁=>wpAny (model prog w) A (getAttr o f true) Q E s₁) E s):wpAny (model prog w) A (eval (.Attribute e f pos) env) Q E s :=
 Attribute_any_ h (by rw [arm_eval_Attribute,hb])
end
def Jc7 (K:Frag)(ta:TE)(f:Str):TE:=λσ H Q=>ta σ H λx H1=>∃ a C dx fs v,x=.ref a/\H1 a=some (.ins C dx fs)/\Cls K C/\NoAttr K C f/\fs.lookup f=some v/\Q v H1
def Jcj (K:Frag)(ta tv:TE)(f:Str):TS:=λD σ H=>tv σ H λy H1=>ta σ H1 λx H2=>∃ a C dx fs,x=.ref a/\H2 a=some (.ins C dx fs)/\Cls K C/\NoAttr K C f/\fs.length<1000 /\
 D.nx σ (upd H2 a (.ins C dx (J02 f y fs)))
section
variable {X:Cx}{o e value:Expr}{f:Str}{pos pos' tpos:Pos}{ta tv:TE}
theorem J0v (he:PE X e ta)(hb:attributeBase e f X.env (eval e X.env)=eval e X.env):PE X (.Attribute e f pos) (Jc7 X.K ta f):=by
 intro pins s σ H Q I h;refine Jeq hb (thn (he pins s σ H _ I h) λu s1 ⟨x,H1,I1,rx,a,C,dx,fs,v,ex,ea,c,n,l,q⟩=>?_);subst ex;obtain rfl:u=Value.ref a:=rx;exact Jan I1 ea c n l λu' s2 I2 ru=>⟨v,H1,I2,ru,q⟩
theorem J1F (ha:PE X o ta)(hv:PE X value tv)(hs:swapsWith value (some (.Attribute o f pos')) pos.line X.env=pure false):PS X (.Assign [.Attribute o f pos'] value pos) (Jcj X.K ta tv f):=by
 intro pins s σ H D I h;refine plainObj_wpAny_Assign_Attribute (thn (hv pins s σ H _ I h) λu s1 ⟨y,H1,I1,ry,q⟩=>thn (ha pins s1 σ H1 _ I1 q) λov s2 ⟨x,H2,I2,rx,a,C,dx,fs,ex,ea,c,n,l,q2⟩=>?_) hs;subst ex;obtain rfl:ov=Value.ref a:=rx;exact J9T I2 ea c n l ry λs3 I3=>⟨σ,_,I3,q2⟩
def JdT:V->V->Hp->VK->Prop:=λx y H Q=>∃ i j,x=.int i/\y=.int j/\Q (.int (i+j)) H
end
section
variable {X:Cx}{pins:List (Addr×Obj)}{σ:St}{H:Hp}{s:Shared}{A:Around}{E:Value->Shared->Prop}{Q:Value->Shared->Prop}{c:Value}{b:Bool}
inductive TyOf (K:Frag)(H:Hp):V->Value->Prop where
 | non:TyOf K H .non (.type "NoneType")
 | bl (x:Bool):TyOf K H (.bl x) (.type "bool")
 | int (i:Int):TyOf K H (.int i) (.type "int")
 | str (x:Str):TyOf K H (.str x) (.type "str")
 | flt (x:UInt64):TyOf K H (.flt x) (.type "float")
 | lst {a:Addr} {xs:List V} (e:H a=some (.lst xs)):TyOf K H (.ref a) (.type "list")
 | frz {a:Addr} {o:Obj} {xs:List V} (e:H a=some (.frz o (.lst xs))):TyOf K H (.ref a) (.type "list")
 | tup {a:Addr} {xs:List V} (e:H a=some (.tup xs)):TyOf K H (.ref a) (.type "tuple")
 | dK {a:Addr} {kvs:List (Key×V)} (e:H a=some (.dK kvs)):TyOf K H (.ref a) (.type "dict")
 | dT {a:Addr} {kvs:List (List Ji×V)} (e:H a=some (.dT kvs)):TyOf K H (.ref a) (.type "dict")
 | ins {a C dx:Addr} {fs:List (Str×V)} (e:H a=some (.ins C dx fs)) (cl:Cls K C) (ha:findIn K (.ref C) "__class__"=some (some (.builtin "object.__class__")))
  (hn:PySem.W.specialIn K (.builtin "object.__class__") "__get__"=some (some (.builtin "getset_descriptor.__get__"))) (htk:PySem.W.takesIn K (.builtin "object.__class__")=some true)
  (hm:PySem.W.mroIn K C (.type "object")=some true):TyOf K H (.ref a) (.ref C)
theorem JbJ {x:V}{u t:Value}(I:Inv X pins σ H s)(rx:RelV x u)(ty:TyOf X.K H x t)(e:PySem.W.kitOne X.K t c=some b)(h:∀ tk,Q (.bool b) { s with toks:=tk }) :
 wpAny (model X.prog X.w) A (call (.builtin "isinstance") [u,c]) Q E s:=by
 cases ty with
 | non=>cases (show u=Value.none from rx);exact PySem.W.kia_one PySem.W.kitx_none I.kIn True.intro e (λz=>nomatch z) h
 | bl y=>cases (show u=Value.bool y from rx);exact PySem.W.kia_one PySem.W.kitx_bool I.kIn True.intro e (λz=>nomatch z) h
 | int i=>obtain ⟨t,q⟩:=(show ∃ t,u=Value.int i t from rx);cases q;exact PySem.W.kia_one PySem.W.kitx_int I.kIn True.intro e (λz=>nomatch z) h
 | str y=>obtain ⟨t,q⟩:=(show ∃ t,u=Value.str y t from rx);cases q;exact PySem.W.kia_one PySem.W.kitx_str I.kIn True.intro e (λz=>nomatch z) h
 | flt y=>obtain ⟨t,q⟩:=(show ∃ t,u=Value.float y t from rx);cases q;exact PySem.W.kia_one PySem.W.kitx_float I.kIn True.intro e (λz=>nomatch z) h
 | @lst a xs ea =>
   cases (show u=Value.ref a from rx);obtain ⟨_,_,n,_,h1⟩:=(show ObjOk X.prog X.w H s.heap a (.lst xs) from I.hok a _ ea);exact PySem.W.kia_one PySem.W.kitx_list I.kIn ⟨_,h1,rfl⟩ e (λz=>nomatch z) h
 | @frz a ob xs ea =>
   cases (show u=Value.ref a from rx);obtain ⟨_,_,_,n,_,h1⟩:=(show ObjOk X.prog X.w H s.heap a (.frz ob (.lst xs)) from I.hok a _ ea);exact PySem.W.kia_one PySem.W.kitx_list I.kIn ⟨_,h1,rfl⟩ e (λz=>nomatch z) h
 | @tup a xs ea =>
   cases (show u=Value.ref a from rx);obtain ⟨_,_,_,p⟩:=(show ObjOk X.prog X.w H s.heap a (.tup xs) from I.hok a _ ea);obtain ⟨o,h1,h2,_⟩:=p;exact PySem.W.kia_one PySem.W.kitx_tuple I.kIn ⟨o,h1,h2⟩ e (λz=>nomatch z) h
 | @dK a kvs ea =>
   cases (show u=Value.ref a from rx);obtain ⟨_,_,vs,_,p⟩:=(show ObjOk X.prog X.w H s.heap a (.dK kvs) from I.hok a _ ea);obtain ⟨o,es,ep,h1,h2,_⟩:=p;exact PySem.W.kia_one PySem.W.kitx_dict I.kIn ⟨o,h1,h2.1⟩ e (λz=>nomatch z) h
 | @dT a kvs ea =>
   cases (show u=Value.ref a from rx);obtain ⟨_,_,xs,_,o,es,ep,h1,h2,_⟩:=(show ObjOk X.prog X.w H s.heap a (.dT kvs) from I.hok a _ ea);exact PySem.W.kia_one PySem.W.kitx_dict I.kIn ⟨o,h1,h2.1⟩ e (λz=>nomatch z) h
 | @ins a C dx fs ea cl ha hn htk hm =>
   cases (show u=Value.ref a from rx);obtain ⟨mA,O,_⟩:=J5w I.hok ea;obtain ⟨od,J,_⟩:=O.look;exact PySem.W.kia_one (PySem.W.kitx_own (cl.get _) cl.hd ha hn htk hm) I.kIn J e (λz=>nomatch z) h
end
structure Room (k:Nat)(A:Around):Prop where
 hd:A.handled=none
 dp:A.depth+3 * k+5<recursionLimit
 un:A.units+16 * k+200<cLine
theorem Room.mono {j k:Nat}{A:Around}(r:Room k A)(h:j<=k):Room j A:=⟨r.hd,by have:=r.dp;omega,by have:=r.un;omega⟩
theorem Room.deeper {k:Nat}{A:Around}(r:Room (k+1) A)(env:Env):Room k (A.deeper env) :=
 ⟨r.hd,by have:=r.dp;show A.depth+1+3 * k+5<_;omega,by have:=r.un;show A.units+3+16 * k+200<_;omega⟩
theorem Room.in1 {k:Nat}{A:Around}(r:Room (k+1) A):Room k A.in1 :=
 ⟨r.hd,by have:=r.dp;show A.depth+3 * k+5<_;omega,by have:=r.un;show A.units+1+16 * k+200<_;omega⟩
theorem Jah {A:Around}{C:Addr}{us:List Value}{kw:List (Str×Value)}:(A.under (.builtin "type.__call__" ⟨.ref C::us,kw⟩)).depth=A.depth+1:=by
 first | rfl | simp [Around.under,Code.weight,Code.isCreation,Code.isGuard,Code.isCaller,Code.frames,Code.isFrame,guardIds]
theorem Jag {A:Around}{C:Addr}{us:List Value}{kw:List (Str×Value)}:(A.under (.builtin "type.__call__" ⟨.ref C::us,kw⟩)).units=A.units+1:=by
 first | rfl | simp [Around.under,Code.cUnits,Code.frames,Code.isFrame]
theorem Room.make {k:Nat}{A:Around}(r:Room (k+1) A)(C:Addr)(us:List Value)(kw:List (Str×Value)):Room k (A.under (.builtin "type.__call__" ⟨.ref C::us,kw⟩)) :=
 ⟨r.hd,by have:=r.dp;rw [Jah];omega,by have:=r.un;rw [Jag];omega⟩
theorem Room.depth {k:Nat}{A:Around}(r:Room k A):A.depth<recursionLimit:=by have:=r.dp;omega
theorem Room.units {k:Nat}{A:Around}(r:Room k A):A.units+64<cLine:=by have:=r.un;omega
def J59:TA:=λ_ H Q=>Q [] H
def J2J (ta:TE)(tr:TA):TA:=λσ H Q=>ta σ H λx H1=>tr σ H1 λxs H2=>Q (x::xs) H2
section
variable {X:Cx}{e:Expr}{es:List Expr}{te:TE}{t:TA}{pos:Pos}
theorem J9:PA X [] J59:=λ_ _ _ _ H Q I h=>Calls.spliced_nil ⟨[],H,I,.nil,h⟩
theorem Je4 (ha:PE X e te)(hr:PA X es t)(hs:starEach (e::es) X.env=(false,eval e X.env)::starEach es X.env:=by rfl):PA X (e::es) (J2J te t):=by
 intro pos pins s σ H Q I h;rw [hs];show wpAny _ _ (spliced ((false,eval e X.env)::backTo pos (starEach es X.env))) _ _ s;refine Calls.spliced_cons (thn (ha pins s σ H _ I h) λu s1 ⟨x,H1,I1,r1,q1⟩=>?_);exact thn (hr pos pins s1 σ H1 _ I1 q1) λus s2 ⟨xs,H2,I2,r2,q2⟩=>⟨x::xs,H2,I2,.cons r1 r2,q2⟩
def J9G (t:TA):TE:=λσ H Q=>t σ H λxs H1=>xs.length<=sizeLine/\∀ p,H1 p=none->Q (.ref p) (upd H1 p (.tup xs))
def Jb6 (t:TA):TE:=λσ H Q=>t σ H λxs H1=>xs.length<=sizeLine/\∀ p,H1 p=none->Q (.ref p) (upd H1 p (.lst xs))
theorem Jz {x1}(h:PA X es t):PE X (.Tuple es x1 pos) (J9G t):=by
 intro pins s σ H Q I hq;refine wpAny_Tuple_spliced (thn (h pos pins s σ H _ I hq) λus s1 ⟨xs,H1,I1,r,z,q⟩=>⟨by rw [<- r.length];exact z,?_⟩);have hf:H1 s1.heap.objs.size=none:=I1.hok.fresh (zQ _);refine ⟨.ref s1.heap.objs.size,upd H1 s1.heap.objs.size (.tup xs),I1.laid (t':=s1.toks) (λb u e=>qF _ e) (zQ _) ?_,rfl,q _ hf⟩;exact ⟨z,us,r,⟨_,qG _ rfl,rfl,_,rfl⟩⟩
theorem J0g (h:PA X es t):PE X (.List es pos) (Jb6 t):=by
 intro pins s σ H Q I hq;refine wpAny_List_spliced (thn (h pos pins s σ H _ I hq) λus s1 ⟨xs,H1,I1,r,z,q⟩=>⟨by rw [<- r.length];exact z,?_⟩);have hf:H1 s1.heap.objs.size=none:=I1.hok.fresh (zQ _);refine ⟨.ref s1.heap.objs.size,upd H1 s1.heap.objs.size (.lst xs),I1.laid (t':=s1.toks) (λb u e=>qF _ e) (zQ _) ?_,rfl,q _ hf⟩;exact ⟨z,us,0,r,qG _ rfl⟩
end
abbrev Sp:=List V->Hp->VK->XK->Prop
abbrev CXT:=List Env->Hp->Shared->XK->Value->Shared->Prop
structure Env0 (P:Program)(w:World)(K:Frag)(mg:Str->Option Value)(base:Heap)(A:Around)(outer:List Env)(s:Shared)(H:Hp):Prop where
 frames:A.frames=some outer
 mod:Mod K mg base
 bs:∀ b o,base.get? b=some o->s.heap.get? b=some o/\H b=none
 bsz:base.objs.size<=s.heap.objs.size
 funs:s.heap.FunFrames base outer
 frf:∀ b∈frs outer,H b=none
 hok:HOk P w H s.heap
 bare:AllBare s.gens
def CE (outer:List Env)(P:Program)(w:World)(H:Hp)(s:Shared)(Q:VK)(u:Value)(s':Shared):Prop :=
 ∃ v H',s'.os=s.os/\AllBare s'.gens/\Un (frs outer) [] H H' s.heap s'.heap/\HOk P w H' s'.heap/\RelV v u/\Q v H'
def CR (CX:CXT)(outer:List Env)(P:Program)(w:World)(H:Hp)(s:Shared)(Q:VK)(E:XK)(r:Result)(s':Shared):Prop :=
 match r with
 | .ok (.ret u)=>CE outer P w H s Q u s'
 | .ok _=>False
 | .error e=>CX outer H s E e s'
structure FnOk (P:Program)(w:World)(K:Frag)(mg:Str->Option Value)(base:Heap)(CX:CXT)(k:Nat)(f:Addr)(fd:FuncData)(ps:List Str)(sp:Sp):Prop where
 len:∀ vs H Q E,sp vs H Q E->vs.length=ps.length
 run:∀ (A:Around) (outer:List Env) (s:Shared) (H:Hp) (args:Args) (us:List Value) (vs:List V) (Q:VK) (E:XK),Room k A->Env0 P w K mg base A outer s H->BindsTo s fd args (ps.zip us)->Vals vs us->sp vs H Q E ->
  codeAny (model P w) A (.call (.ref f) args) (CR CX outer P w H s Q E) s
theorem Env0.make {P:Program}{w:World}{K:Frag}{mg:Str->Option Value}{base:Heap}{A:Around}{outer:List Env}{s:Shared}{H:Hp}(e:Env0 P w K mg base A outer s H)(C:Addr)(us:List Value)(kw:List (Str×Value)) :
 Env0 P w K mg base (A.under (.builtin "type.__call__" ⟨.ref C::us,kw⟩)) outer s H:=⟨by first | exact e.frames | (simpa [Around.under,Code.envs,Code.isFrame,pushEnvs] using e.frames),e.mod,e.bs,e.bsz,e.funs,e.frf,e.hok,e.bare⟩
theorem Env0.in1 {P:Program}{w:World}{K:Frag}{mg:Str->Option Value}{base:Heap}{A:Around}{outer:List Env}{s:Shared}{H:Hp}(e:Env0 P w K mg base A outer s H) :
 Env0 P w K mg base A.in1 outer s H:=⟨e.frames,e.mod,e.bs,e.bsz,e.funs,e.frf,e.hok,e.bare⟩
section
variable {X:Cx}{pins:List (Addr×Obj)}{σ:St}{H:Hp}{s s':Shared}
theorem Inv.env0 (I:Inv X pins σ H s):Env0 X.prog X.w X.K X.mg X.base X.A X.stack s H :=
 ⟨I.ok.frames,I.ok.mod,I.bs,z9 I.ok.bsz I.sz,I.stack,I.stkFree,I.hok,I.bare⟩
theorem Inv.after {Q:VK}{u:Value}(I:Inv X pins σ H s)(h:CE X.stack X.prog X.w H s Q u s'):EP X pins σ Q u s':=by
 obtain ⟨v,H',os,bare,un,hok,r,q⟩:=h;obtain ⟨hh,g,d,t,os'⟩:=s';obtain rfl:os'=s.os:=os;exact ⟨v,H',I.call (h':=hh) (g':=g) (d':=d) (t':=t) (ch:=[]) un hok bare (λb z=>absurd z (by simp)),r,q⟩
end
def J46 (sp:Sp)(dvs:List V)(E:XK)(t:TA):TE:=λσ H Q=>t σ H λvs H1=>sp (vs++dvs) H1 Q E
def J6S (C:Addr)(m:Str)(sp:Sp)(dvs:List V)(E:XK)(ta:TE)(t:TA):TE:=λσ H Q=>ta σ H λx H1=>∃ a dx fs,x=.ref a/\H1 a=some (.ins C dx fs)/\fs.lookup m=none /\
 t σ H1 λvs H2=>sp (x::(vs++dvs)) H2 Q E
def Jaw (C:Addr)(sp:Sp)(dvs:List V)(E:XK)(t:TA):TE:=λσ H Q=>t σ H λvs H1=>∀ x dx,H1 x=none->H1 dx=none->dx≠x ->
 sp (.ref x::(vs++dvs)) (upd (upd H1 dx (.own x)) x (.ins C dx [])) (λv H2=>v=.non/\Q (.ref x) H2) E
def Binds (K:Frag)(fd:FuncData)(ps:List Str)(ds:List Value):Prop :=
 ∀ (s:Shared) (us:List Value),K.In s.heap->(us++ds).length=ps.length->BindsTo s fd ⟨us,[]⟩ (ps.zip (us++ds))
theorem Binds.all {K:Frag}{fd:FuncData}{ps:List Str}(h:∀ us:List Value,us.length=ps.length->bindArgs fd ⟨us,[]⟩=pure (ps.zip us)):Binds K fd ps []:=λs us _ hl=>by
 rw [append_nil] at hl ⊢;exact .of_eq (h us hl)
def J40 (CX:CXT)(X:Cx)(E:XK):Prop:=∀ (pins:List (Addr×Obj)) (σ:St) (H:Hp) (s:Shared) (e:Value) (s':Shared),Inv X pins σ H s->CX X.stack H s E e s'->X.xe e s'
section
variable {X:Cx}{CX:CXT}{k:Nat}{f C:Addr}{fd:FuncData}{ps:List Str}{sp:Sp}{dvs:List V}{ds:List Value}{E:XK}{x m:Str}{p pos apos:Pos}{e o:Expr}{es:List Expr}{ta:TE}{t:TA}
theorem J9Z {pins:List (Addr×Obj)}{σ:St}{H:Hp}{s:Shared}{Q:VK}{us:List Value}{vs:List V}(F:FnOk X.prog X.w X.K X.mg X.base CX k f fd ps sp)(hr:Room k X.A)(hb:Binds X.K fd ps ds)(hd:Vals dvs ds)(hx:J40 CX X E)
 (I:Inv X pins σ H s) (r:Vals vs us) (h:sp (vs++dvs) H Q E):wpAny (model X.prog X.w) X.A (call (.ref f) us) (EP X pins σ Q) X.xe s:=by
 have r2:Vals (vs++dvs) (us++ds):=r.append hd;have hl:(us++ds).length=ps.length:=by rw [<- r2.length];exact F.len _ _ _ _ h
 refine wpAny_call (codeAny_mono (F.run X.A X.stack s H ⟨us,[]⟩ (us++ds) (vs++dvs) Q E hr I.env0 (hb s us I.kIn hl) r2 h) λr s' hq=>?_);cases r with
 | error e=>exact hx pins σ H s e s' I hq
 | ok fl =>
   cases fl with
   | ret u=>exact I.after hq
   | next=>exact qa hq
   | brk=>exact qa hq
   | cont=>exact qa hq
theorem Je2 (F:FnOk X.prog X.w X.K X.mg X.base CX k f fd ps sp)(hr:Room k X.A)(hg:Gl X x)(hm:X.mg x=some (.ref f))(hk:PySem.W.keepIn X.K (.ref f)=true)(hb:Binds X.K fd ps ds)(hd:Vals dvs ds)(hx:J40 CX X E)
 (ha:PA X (e::es) t) (hdb:(x == ("__debug__":Str))=false:=by decide) (he:starEach (e::es) X.env=(false,eval e X.env)::starEach es X.env:=by rfl) (hpl:(backTo pos (starEach es X.env)).any (·.1)=false:=by rfl) :
 PE X (.Call (.Name x p) (e::es) [] pos) (J46 sp dvs E t):=by
 intro pins s σ H Q I h;refine wpAny_Call_Name_kw (J3q I hg hm ?_ hdb);refine PySem.W.callWith_K (h₀:=X.base) I.ok.mod.kin hk (thn (ha pos pins s σ H _ I h) λus s1 ⟨vs,H1,I1,r,q⟩=>⟨I1.kIn,?_⟩) he hpl;exact J9Z F hr hb hd hx I1 r q
theorem J3i {pl:Sem Bool}(he:PE X o ta)(c:Cls X.K C)(hm:Meth X.K C m f)(F:FnOk X.prog X.w X.K X.mg X.base CX k f fd ps sp)(hr:Room k X.A)(hb:Binds X.K fd ps ds)(hd:Vals dvs ds)(hx:J40 CX X E)(ha:PA X (e::es) t)
 (hst:starEach (e::es) X.env=(false,eval e X.env)::starEach es X.env:=by rfl) (hpl:(backTo pos (starEach es X.env)).any (·.1)=false:=by rfl)
 (ht:eval (.Call (.Attribute o m apos) (e::es) [] pos) X.env=(do
  let ov <- eval o X.env
  standAt apos.atName
  let (f,first) <- holding [ov] (getMethod ov m pl)
  callWith pos f first (backTo pos (starEach (e::es) X.env)) (backToKw pos (keywordEach [] X.env))):=by rfl) :
 PE X (.Call (.Attribute o m apos) (e::es) [] pos) (J6S C m sp dvs E ta t):=by
 intro pins s σ H Q I h;refine PySem.W.methodCall_KW (pl:=pl) (thn (he pins s σ H _ I h) λu s1 ⟨x,H1,I1,rx,a,dx,fs,ex,ea,l,q⟩=>?_) ht;subst ex;obtain rfl:u=Value.ref a:=rx;refine J3X I1 ea c hm l ?_;refine PySem.W.callWith_K (first:=[.ref a]) (h₀:=X.base) I.ok.mod.kin hm.kp (thn (ha pos pins s1 σ H1 _ I1 q) λus s2 ⟨vs,H2,I2,r,q2⟩=>⟨I2.kIn,?_⟩) hst hpl;exact J9Z (us:=.ref a::us) (vs:=.ref a::vs) F hr hb hd hx I2 (.cons rfl r) q2
theorem J90 {pl:Sem Bool}(he:PE X o ta)(c:Cls X.K C)(hm:Meth X.K C m f)(F:FnOk X.prog X.w X.K X.mg X.base CX k f fd ps sp)(hr:Room k X.A)(hb:Binds X.K fd ps ds)(hd:Vals dvs ds)(hx:J40 CX X E)
 (ht:eval (.Call (.Attribute o m apos) [] [] pos) X.env=(do
  let ov <- eval o X.env
  standAt apos.atName
  let (f,first) <- holding [ov] (getMethod ov m pl)
  callWith pos f first (backTo pos (starEach [] X.env)) (backToKw pos (keywordEach [] X.env))):=by rfl) :
 PE X (.Call (.Attribute o m apos) [] [] pos) (J6S C m sp dvs E ta J59):=by
 intro pins s σ H Q I h;refine PySem.W.methodCall_KW (pl:=pl) (thn (he pins s σ H _ I h) λu s1 ⟨x,H1,I1,rx,a,dx,fs,ex,ea,l,q⟩=>?_) ht;subst ex;obtain rfl:u=Value.ref a:=rx;refine J3X I1 ea c hm l ?_;exact PySem.W.callWith_K0 (first:=[.ref a]) I1.kIn hm.kp (J9Z (us:=[.ref a]) (vs:=[.ref a]) F hr hb hd hx I1 (.cons rfl .nil) q)
structure Mk (K:Frag)(C f:Addr):Prop where
 makes:PySem.W.makesIn K C=true
 init:findIn K (.ref C) "__init__"=some (some (.ref f))
 fn:PySem.W.isFn K (.ref f)=true
 kp:PySem.W.keepIn K (.ref C)=true
theorem Jck {pins:List (Addr×Obj)}{σ:St}{H:Hp}{s:Shared}{Q:VK}{us:List Value}{vs:List V}(M:Mk X.K C f)(F:FnOk X.prog X.w X.K X.mg X.base CX k f fd ps sp)(hr:Room (k+1) X.A)(hb:Binds X.K fd ps ds)(hd:Vals dvs ds)
 (hx:J40 CX X E) (I:Inv X pins σ H s) (r:Vals vs us)
 (h:∀ x dx,H x=none->H dx=none->dx≠x->sp (.ref x::(vs++dvs)) (upd (upd H dx (.own x)) x (.ins C dx [])) (λv H2=>v=.non/\Q (.ref x) H2) E) :
 wpAny (model X.prog X.w) X.A (call (.ref C) us) (EP X pins σ Q) X.xe s:=by
 have hq:=h (s.heap.objs.size+1) s.heap.objs.size (I.hok.fresh (Nat.le_succ _)) (I.hok.fresh (zQ _)) (zV (Nat.lt_succ_self _));have I2:=Inv.made (C:=C) I;have r2:Vals (V.ref (s.heap.objs.size+1)::(vs++dvs)) (Value.ref (s.heap.objs.size+1)::(us++ds)):=.cons rfl (r.append hd);have hl:(Value.ref (s.heap.objs.size+1)::us++ds).length=ps.length:=by
  have e:=r2.length;rw [F.len _ _ _ _ hq] at e;exact e.symm
 refine wpAny_call (JcQ (f:=f) I.kIn M.makes M.init (beq_iff_eq.mp M.fn) (codeAny_mono (F.run _ X.stack _ _ ⟨Value.ref (s.heap.objs.size+1)::us,[]⟩ (Value.ref (s.heap.objs.size+1)::(us++ds)) _ _ E (hr.make C us [])
  (I2.env0.make C us []) (hb _ (Value.ref (s.heap.objs.size+1)::us) I2.kIn hl) r2 hq) λr s' hq'=>?_))
 cases r with
 | error e=>exact hx pins σ _ _ e s' I2 hq'
 | ok fl =>
   cases fl with
   | ret u =>
     obtain ⟨v,H',I3,rv,ev,q3⟩:=I2.after hq';subst ev;exact ⟨rv,⟨V.ref (s.heap.objs.size+1),H',I3,rfl,q3⟩⟩
   | next=>exact qa hq'
   | brk=>exact qa hq'
   | cont=>exact qa hq'
theorem J5s (M:Mk X.K C f)(F:FnOk X.prog X.w X.K X.mg X.base CX k f fd ps sp)(hr:Room (k+1) X.A)(hg:Gl X x)(hm:X.mg x=some (.ref C))(hb:Binds X.K fd ps ds)(hd:Vals dvs ds)(hx:J40 CX X E)
 (ha:PA X (e::es) t) (hdb:(x == ("__debug__":Str))=false:=by decide) (he:starEach (e::es) X.env=(false,eval e X.env)::starEach es X.env:=by rfl) (hpl:(backTo pos (starEach es X.env)).any (·.1)=false:=by rfl) :
 PE X (.Call (.Name x p) (e::es) [] pos) (Jaw C sp dvs E t):=by
 intro pins s σ H Q I h;refine wpAny_Call_Name_kw (J3q I hg hm ?_ hdb);refine PySem.W.callWith_K (h₀:=X.base) I.ok.mod.kin M.kp (thn (ha pos pins s σ H _ I h) λus s1 ⟨vs,H1,I1,r,q⟩=>⟨I1.kIn,?_⟩) he hpl;exact Jck M F hr hb hd hx I1 r q
end
def PK (X:Cx)(kws:List Keyword)(t:TA):Prop :=
 ∀ (pos:Pos) (pins:List (Addr×Obj)) (s:Shared) (σ:St) (H:Hp) (Q:List V->Hp->Prop),Inv X pins σ H s->t σ H Q->wpAny (model X.prog X.w) X.A (evalAll ((backToKw pos (keywordEach kws X.env)).map (·.2))) (AP X pins σ Q) X.xe s
section
variable {X:Cx}{CX:CXT}{k:Nat}{f C:Addr}{fd:FuncData}{ps ks:List Str}{sp:Sp}{E:XK}{x m:Str}{p pos apos kpos:Pos}{e o:Expr}{es:List Expr}{kws:List Keyword}{te ta:TE}{t tk:TA}{nm:Option Str}
theorem Jf1:PK X [] J59:=λ_ _ _ _ H Q I h=>wpAny_evalAll_nil ⟨[],H,I,.nil,h⟩
theorem JdZ (ha:PE X e te)(hr:PK X kws t):PK X (⟨nm,e,kpos⟩::kws) (J2J te t):=by
 intro pos pins s σ H Q I h;show wpAny _ _ (evalAll ((do let v <- eval e X.env;standAt pos;pure v)::(backToKw pos (keywordEach kws X.env)).map (·.2))) _ _ s;refine wpAny_evalAll_cons (zM (thn (ha pins s σ H _ I h) λu s1 ⟨x,H1,I1,r1,q1⟩=>zM (wpAny_standAt (zN ?_))));exact thn (hr pos pins s1 σ H1 _ I1 q1) λus s2 ⟨xs,H2,I2,r2,q2⟩=>⟨x::xs,H2,I2,.cons r1 r2,q2⟩
variable {g:List Value->List Value->List Value}{gV:List V->List V->List V}
end
structure FnScope (N P:List Str)(sc:Scope):Prop where
 kind:sc.kind=.function
 co:sc.isCoroutine=false
 gen:sc.isGenerator=false
 nd:N.Nodup
 pre:N.take P.length=P
 par:∀ x∈P,sc.names.lookup x=some .local\/sc.names.lookup x=some .cell
 nofree:∀ y∈sc.names,y.2≠.free
theorem J7h {kindOf:Str->Option NameKind}{x:Str}:∀ {binds:List (Str×Value)} {m:Str->Option Value},(∀ v,(x,v)∉binds)->bindL kindOf binds m x=m x
 | [],_,_=>rfl
 | (n,v)::r,m,h=>by
   unfold bindL;rw [J7h λw hw=>h w (ql _ hw)]
   split
   ·have:x≠n:=by rintro rfl;exact h v qm
    simp [this]
   ·rfl
theorem J7j {kindOf:Str->Option NameKind}{x:Str}:∀ {binds:List (Str×Value)} {m:Str->Option Value},(∀ v,(x,v)∉binds)->bindC kindOf binds m x=m x
 | [],_,_=>rfl
 | (n,v)::r,m,h=>by
   unfold bindC;rw [J7j λw hw=>h w (ql _ hw)]
   split
   ·rfl
   ·have:x≠n:=by rintro rfl;exact h v qm
    simp [this]
theorem J7i {kindOf:Str->Option NameKind}{x:Str}{v:Value}:∀ {P:List Str} {vs:List Value} {i:Nat} {m:Str->Option Value},P.Nodup->P[i]?=some x->vs[i]?=some v->kindOf x=some .local ->
 bindL kindOf (P.zip vs) m x=some v
 | [],_,_,_,_,h,_,_=>by simp at h
 | _::_,[],_,_,_,_,h,_=>by simp at h
 | p::P,w::vs,0,m,nd,h1,h2,hk=>by
   simp at h1 h2;subst h1;subst h2;show bindL kindOf ((p,w)::P.zip vs) m p=_;unfold bindL;rw [J7h λv hv=>(nodup_cons.mp nd).1 (of_mem_zip hv).1,zP hk];simp
 | p::P,w::vs,i+1,m,nd,h1,h2,hk=>by
   show bindL kindOf ((p,w)::P.zip vs) m x=_;unfold bindL;exact J7i (i:=i) (nodup_cons.mp nd).2 (by simpa using h1) (by simpa using h2) hk
theorem J7k {kindOf:Str->Option NameKind}{x:Str}{v:Value}:∀ {P:List Str} {vs:List Value} {i:Nat} {m:Str->Option Value},P.Nodup->P[i]?=some x->vs[i]?=some v->kindOf x≠some .local ->
 bindC kindOf (P.zip vs) m x=some v
 | [],_,_,_,_,h,_,_=>by simp at h
 | _::_,[],_,_,_,_,h,_=>by simp at h
 | p::P,w::vs,0,m,nd,h1,h2,hk=>by
   simp at h1 h2;subst h1;subst h2;show bindC kindOf ((p,w)::P.zip vs) m p=_;unfold bindC;rw [J7j λv hv=>(nodup_cons.mp nd).1 (of_mem_zip hv).1,zO hk];simp
 | p::P,w::vs,i+1,m,nd,h1,h2,hk=>by
   show bindC kindOf ((p,w)::P.zip vs) m x=_;unfold bindC;exact J7k (i:=i) (nodup_cons.mp nd).2 (by simpa using h1) (by simpa using h2) hk
def J26 (N:List Str)(vs:List V):St:=vs.map some++List.replicate (N.length - vs.length) none
def J4S (CX:CXT)(P:Program)(w:World)(K:Frag)(mg:Str->Option Value)(base:Heap)(N:List Str)(qual:Str)(scope:Scope)(f:Addr)(cd:Value)(A:Around)(outer:List Env)(s:Shared)(H:Hp)(E:XK):Cx where
 prog:=P
 w:=w
 K:=K
 mg:=mg
 base:=base
 A:=A.deeper (envOfC qual scope s.heap.objs.size f cd)
 N:=N
 s₀:=s
 H₀:=H
 env:=envOfC qual scope s.heap.objs.size f cd
 outer:=outer
 stack:=envOfC qual scope s.heap.objs.size f cd::outer
 ex:=[]
 calm:=true
 fn:=λ_=>true
 pn:=[]
 xe:=λe s'=>wpAny (model P w) (A.deeper (envOfC qual scope s.heap.objs.size f cd)) (leaving (envOfC qual scope s.heap.objs.size f cd) e) (λ_ s''=>CX outer H s E e s'') (λe' s''=>CX outer H s E e' s'') s'
theorem J9s {sc:Scope}{n:Nat}{x:Str}(h:sc.names.lookup x=some .cell):∃ c,(cellsFrom n sc.names []).lookup x=some c:=by
 have q:=PySem.W.cellsFrom_some sc.names n [] (.inl h);exact Option.isSome_iff_exists.mp q
theorem inv_start {CX:CXT}{P:Program}{w:World}{K:Frag}{mg:Str->Option Value}{base:Heap}{N ps:List Str}{qual:Str}{scope:Scope}{f:Addr}{cd:Value}{A:Around}{outer:List Env}{s s1:Shared}{H:Hp}{E:XK}{us:List Value}{vs:List V}
 (S:FnScope N ps scope) (hd:A.handled=none) (e0:Env0 P w K mg base A outer s H) (hl:vs.length=ps.length) (r:Vals vs us)
 (x:InCallC s s.heap.objs.size (bindL (envOfC qual scope s.heap.objs.size f cd).kindOf (ps.zip us) λ_=>none) (cellsFrom (s.heap.objs.size+1) scope.names []) (bindC (envOfC qual scope s.heap.objs.size f cd).kindOf (ps.zip us) λ_=>none) s1) :
 Inv (J4S CX P w K mg base N qual scope f cd A outer s H E) [] (J26 N vs) H s1:=by
 have hpl:ps.length<=N.length:=by have:=congrArg List.length S.pre;rw [qk] at this;omega
 obtain ⟨h1,tk,rfl,hk⟩:=x.done;have noA:∀ b:Addr,b∉(J4S CX P w K mg base N qual scope f cd A outer s H E).ex:=λb z=>absurd (show b∈([]:List Addr) from z) (by simp);refine ⟨⟨e0.mod,S.kind,rfl,rfl,zQ _,λy z c h1 h2=>?_,λy hy=>?_,λy c _ h=>?_,λ_=>hd,Around.frames_deeper e0.frames,.inr ⟨rfl,rfl⟩,λb z=>absurd z (noA b),e0.bs,e0.bsz,λb _ _=>noA b,λb z=>absurd z (noA b),e0.funs,e0.frf⟩,
  rfl,e0.bare,Un.kept hk,⟨_,x.toInCall.ns,λi y v h1 h2 h3=>?_⟩,λy c h=>⟨_,x.cell y c h⟩,e0.hok.fresh (zQ _),λy c h=>?_,λp hp=>absurd (show p∈([]:List (Addr×Obj)) from hp) (by simp),e0.hok.kept hk,?_⟩
 ·exact name_of_addr x.apart (PySem.mem_of_lookup h1) (PySem.mem_of_lookup h2)
 ·have hy:scope.names.lookup y=some .cell\/scope.names.lookup y=some .free:=hy
  rcases hy with hy | hy
  ·exact J9s hy
  ·exact absurd rfl (S.nofree _ (PySem.mem_of_lookup hy))
 ·exact Nat.le_of_lt (x.above y c (PySem.mem_of_lookup h))
 ·have hi:i<vs.length:=by
   unfold J26 at h2;by_cases hi:i<vs.length
   ·exact hi
   ·rw [qz (by simpa using hi)] at h2
    rw [List.getElem?_replicate] at h2
    split at h2<;>cases h2
  have ha:vs[i]?=some v:=by
   unfold J26 at h2;rw [qA (by simpa using hi),qq] at h2;cases e:vs[i]? with
   | none=>rw [e] at h2;cases h2
   | some a=>rw [e] at h2;cases h2;rfl
  obtain ⟨u,hu,rv⟩:=r.get ha;have hp:ps[i]?=some y:=by
   rw [<- S.pre,List.getElem?_take_of_lt (by omega)];exact h1
  have ndP:ps.Nodup:=by rw [<- S.pre];exact S.nd.sublist (take_sublist _ _)
  refine ⟨u,rv,?_⟩;rcases S.par y (qi hp) with k | k
  ·exact .inl ⟨k,J7i ndP hp hu k⟩
  ·obtain ⟨c,e⟩:=J9s (n:=s.heap.objs.size+1) k
   refine .inr ⟨.inl k,c,e,?_⟩;have q:=x.cell y c e;rw [J7k ndP hp hu (by show scope.names.lookup y≠_;rw [k];decide)] at q;exact q
 ·exact e0.hok.fresh (Nat.le_of_lt (x.above y c (PySem.mem_of_lookup h)))
 ·unfold J26
  show _=N.length;rw [qj,qe,qD];omega
theorem JeG {CX:CXT}{P:Program}{w:World}{K:Frag}{mg:Str->Option Value}{base:Heap}{k:Nat}{f:Addr}{name qual:Str}{params:Arguments}{body:List Stmt}{scope:Scope}{dV kV doc pm cdv ct oc:Value}{an od:Option Addr}
 {osl:Array (Option Value)} {N ps:List Str} {sp:Sp} (lk:K.lookup f=some ⟨oc,od,.func (PySem.W.fnOf name qual params body scope dV kV doc pm an cdv ct),osl⟩) (hcd:PySem.W.codeIn K cdv qual=true) (S:FnScope N ps scope)
 (len:∀ vs H Q E,sp vs H Q E->vs.length=ps.length)
 (hbody:∀ (A:Around) (outer:List Env) (s:Shared) (H:Hp) (vs:List V) (Q:VK) (E:XK),Room k (A.deeper (envOfC qual scope s.heap.objs.size f cdv))->sp vs H Q E ->
  ∃ t,PSs (J4S CX P w K mg base N qual scope f cdv A outer s H E) body t/\t { nx:=λ_ H'=>Q .non H',rt:=Q } (J26 N vs) H) :
 FnOk P w K mg base CX (k+1) f (PySem.W.fnOf name qual params body scope dV kV doc pm an cdv ct) ps sp:=by
 refine ⟨len,λA outer s H args us vs Q E hr e0 hb r hsp=>?_⟩;have hl:=len _ _ _ _ hsp;have KX:K.In s.heap:=e0.mod.kin.keeps λb o e=>(e0.bs b o e).1;have lim:s.heap.NoLimit:=e0.mod.nolimit.keeps λb o e=>(e0.bs b o e).1;have hkind:∀ y∈ps.zip us,scope.names.lookup y.1=some .local\/(scope.names.lookup y.1=some .cell/\((cellsFrom (s.heap.objs.size+1) scope.names []).lookup y.1).isSome=true):=λ⟨n,v⟩ hy=>by
  rcases S.par n (of_mem_zip hy).1 with q | q
  ·exact .inl q
  ·exact .inr ⟨q,PySem.W.cellsFrom_some _ _ _ (.inl q)⟩
 refine codeAny_call_function hr.depth (KX _ _ lk) rfl S.co S.gen rfl (PySem.W.codeRec_of KX hcd) (hb _ _ _ _ ?_);refine wpAny_newFunctionEnv_cells S.kind hkind λenv he s1 x=>?_;subst he;refine ⟨lim.keeps x.toInCall.keep,codeAny_func ?_⟩;obtain ⟨t,ht,hq⟩:=hbody A outer s H vs Q E (hr.deeper _) hsp;have I:Inv (J4S CX P w K mg base N qual scope f cdv A outer s H E) [] (J26 N vs) H s1:=inv_start S hr.hd e0 hl r x;refine wpAny_mono (ht [] s1 (J26 N vs) H _ I hq) (λfl s' hs=>?_) λe s' hs=>hs;have fin:∀ {σ':St} {H':Hp} {v:V} {u:Value},Inv (J4S CX P w K mg base N qual scope f cdv A outer s H E) [] σ' H' s'->RelV v u->Q v H'->CE outer P w H s Q u s' :=
  λ{σ' H' v u} J rv q=>⟨v,H',J.os,J.bare,J.base,J.hok,rv,q⟩
 cases fl with
 | ret u =>
   obtain ⟨v,σ',H',J,rv,q⟩:=hs;exact fin J rv q
 | next =>
   obtain ⟨σ',H',J,q⟩:=hs;exact fin (v:=V.non) (u:=Value.none) J rfl q
 | brk =>
   obtain ⟨_,_,_,q⟩:=hs;exact qa q
 | cont =>
   obtain ⟨_,_,_,q⟩:=hs;exact qa q
section
variable {X:Cx}{x:Str}{p pos:Pos}{e:Expr}{es:List Expr}{t:TA}{id T:String}{r:List V->Hp->VK->Prop}
def tCB (r:List V->Hp->VK->Prop)(t:TA):TE:=λσ H Q=>t σ H λvs H1=>r vs H1 Q
theorem JcG (hc:J04 X (.builtin id) r)(hg:Gl X x)(hm:X.mg x=none)(hv:bootBuiltins x=some (.builtin id))(ha:PA X (e::es) t)(hn:x≠"__name__":=by decide)(hdb:(x == ("__debug__":Str))=false:=by decide)
 (he:starEach (e::es) X.env=(false,eval e X.env)::starEach es X.env:=by rfl) (hpl:(backTo pos (starEach es X.env)).any (·.1)=false:=by rfl):PE X (.Call (.Name x p) (e::es) [] pos) (tCB r t):=by
 intro pins s σ H Q I h;refine wpAny_Call_Name_kw (J23 I hg hm hv ?_ hn hdb);exact PyProof.Rows.callWith_builtin1 (thn (ha pos pins s σ H _ I h) λus s1 ⟨vs,H1,I1,r1,q1⟩=>hc pins s1 σ H1 vs us Q I1 r1 q1) he hpl
theorem Jbn (hc:J04 X (.type T) r)(hg:Gl X x)(hm:X.mg x=none)(hv:bootBuiltins x=some (.type T))(ha:PA X (e::es) t)(hn:x≠"__name__":=by decide)(hdb:(x == ("__debug__":Str))=false:=by decide)
 (he:starEach (e::es) X.env=(false,eval e X.env)::starEach es X.env:=by rfl) (hpl:(backTo pos (starEach es X.env)).any (·.1)=false:=by rfl):PE X (.Call (.Name x p) (e::es) [] pos) (tCB r t):=by
 intro pins s σ H Q I h;refine wpAny_Call_Name_kw (J23 I hg hm hv ?_ hn hdb);exact PyProof.Rows.callWith_type1 (thn (ha pos pins s σ H _ I h) λus s1 ⟨vs,H1,I1,r1,q1⟩=>hc pins s1 σ H1 vs us Q I1 r1 q1) he hpl
end
end L2
namespace HT
open PySem PyProof.Rows
theorem rcLt_int (A:Around)(s:Shared)(a:Int)(t:Tok)(c:Int)(u:Tok)(prog:Program)(w:World)(E:Value->Shared->Prop)(Q:Value->Shared->Prop)(h:Q (.bool (decide (a<c))) s) :
 wpAny (model prog w) A (richCompare .Lt (.int a t) (.int c u)) Q E s :=
 (PyProof.Rows.lt_int h:wpAny (model prog w) A (compareOp .Lt (.int a t) (.int c u)) Q E s)
section
variable {prog:Program}{w:World}{A:Around}{E:Value->Shared->Prop}{s:Shared}
theorem cat_tup {t b:Addr}{vs ws:List Value}{Q:Value->Shared->Prop}(ht:IsTup s.heap t vs.toArray)(hb:IsTup s.heap b ws.toArray)(hv:vs≠[])
 (h1:ws=[]->Q (.ref t) s) (h2:ws≠[]->Q (.ref s.heap.objs.size) { s with heap:=s.heap.push { cls:=.type "tuple",data:=.seq (vs++ws).toArray } })
 (hsz:vs.length+ws.length<=sizeLine):wpAny (model prog w) A (binaryOp .Add (.ref t) (.ref b)) Q E s:=by
 obtain ⟨⟨cls,dd,data,sl⟩,ho,hc,n,hd⟩:=id ht;obtain ⟨⟨cls2,dd2,data2,sl2⟩,ho2,hc2,n2,hd2⟩:=id hb;simp only at hc hd hc2 hd2;subst hc hd hc2 hd2;have e:vs.toArray++ws.toArray=(vs++ws).toArray:=by simp
 by_cases hw:ws=[]
 ·exact concat_meets ⟨_,ho,rfl⟩ ⟨_,ho2,rfl⟩ noFill_tuple_add seq_tuple_add PySem.F.slot_tuple_add PySem.F.entry_tuple_add (PySem.F.args_tuple_add_2 _ _)
   (tuple_addW1 t b vs.toArray ws.toArray n n2 dd dd2 sl sl2 (by simpa using hv) (by simp [hw])) ⟨ho,ho2,h1 hw⟩
 ·refine concat_meets ⟨_,ho,rfl⟩ ⟨_,ho2,rfl⟩ noFill_tuple_add seq_tuple_add PySem.F.slot_tuple_add PySem.F.entry_tuple_add (PySem.F.args_tuple_add_2 _ _)
   (tuple_addW2 t b vs.toArray ws.toArray n n2 dd dd2 sl sl2 (by simpa using hv) (by simpa using hw) (by rw [qg,qg];exact hsz)) ⟨ho,ho2,?_⟩
  rw [e];exact h2 hw
def sIx (n d:Nat):Option Int->Nat
 | none=>d
 | some v=>if v<0 then (v+(n:Int)).toNat else min v.toNat n
theorem sIx_none (n d:Nat):sIx n d none=d:=rfl
theorem sIx_nat (n d k:Nat):sIx n d (some (k:Int))=min k n:=by
 show (if (k:Int)<0 then ((k:Int)+(n:Int)).toNat else min (k:Int).toNat n)=min k n;rw [zO (by omega),Int.toNat_natCast]
theorem JeV (n d:Nat)(hd:d<=n)(o:Option Int):sIx n d o<=n:=by
 cases o with
 | none=>exact hd
 | some v =>
   show (if v<0 then (v+(n:Int)).toNat else min v.toNat n)<=n;by_cases hv:v<0
   ·rw [zP hv];omega
   ·rw [zO hv];exact Nat.min_le_right _ _
theorem JaW (v:Int)(n d:Nat):(if v<0 then max (v+(n:Int)) 0 else min v (n:Int))=((sIx n d (some v):Nat):Int):=by
 show (if v<0 then max (v+(n:Int)) 0 else min v (n:Int))=(((if v<0 then (v+(n:Int)).toNat else min v.toNat n):Nat):Int);by_cases hv:v<0
 ·simp only [zP hv];omega
 ·simp only [zO hv];omega
theorem Jaq (lo hi:Option Int)(n:Nat):Builtin.Slice.sliceAdjust lo hi 1 (n:Int)=(((sIx n 0 lo:Nat):Int),((sIx n n hi:Nat):Int)):=by
 have h1:¬ ((1:Int)<0):=by omega
 unfold Builtin.Slice.sliceAdjust;simp only [h1,if_false];refine Prod.ext ?_ ?_
 ·cases lo with
  | none=>rfl
  | some v=>exact JaW v n 0
 ·cases hi with
  | none=>rfl
  | some v=>exact JaW v n n
theorem Ja3 (i j:Nat):Builtin.Slice.slicePlaces (i:Int) (j:Int) 1=j - i:=by
 unfold Builtin.Slice.slicePlaces;have h1:(1:Int) > 0:=by omega
 simp only [h1,if_true,Int.ediv_one]
 split<;>omega
theorem J5N {v:Value}{o:Option Int}{Q:Option Int->Shared->Prop}(p:IsPart v o)(h:Q o s):wpAny (model prog w) A (Builtin.Slice.slicePartIndex v) Q E s:=by
 cases p with
 | none=>exact slicePart_none h
 | int i t=>exact slicePart_int h
theorem J29 {sl:Addr}{vl vu:Value}{lo hi:Option Int}{n:Nat}{Q:Int×Int×Nat->Shared->Prop}(hs:s.heap.IsSliceOf sl vl vu .none)(pl:IsPart vl lo)(pu:IsPart vu hi)
 (h:Q (((sIx n 0 lo:Nat):Int),1,sIx n n hi - sIx n 0 lo) s):wpAny (model prog w) A (Builtin.Slice.sliceApplied (.ref sl) (pure (n:Int))) Q E s:=by
 obtain ⟨os,hos,hcs,hds⟩:=id hs;unfold Builtin.Slice.sliceApplied Builtin.Slice.sliceFields;refine zM (zM (wpAny_field hos hds (x:=vl) rfl (zM (wpAny_field hos hds (x:=vu) rfl (zM (wpAny_field hos hds (x:=.none) rfl (zN ?_)))))));refine zM (slicePart_none ?_);show wpAny _ _ (if ((1:Int) == 0)=true then _ else _) _ _ s;rw [zO (by decide)];refine zM (J5N pl (zM (J5N pu (zM (zN ?_)))));show wpAny _ _ (match Builtin.Slice.sliceAdjust lo hi 1 (n:Int) with | (lo,hi)=>pure (lo,(1:Int),Builtin.Slice.slicePlaces lo hi 1)) _ _ s;rw [Jaq lo hi n];show wpAny _ _ (pure (((sIx n 0 lo:Nat):Int),(1:Int),Builtin.Slice.slicePlaces ((sIx n 0 lo:Nat):Int) ((sIx n n hi:Nat):Int) 1)) _ _ s;rw [Ja3];exact zN h
theorem JcB (xs:Array Value)(i k:Nat):((List.range k).filterMap λ(m:Nat)=>xs[((i:Int)+(m:Int) * 1).toNat]?).toArray=((xs.toList.drop i).take k).toArray:=by
 have e:(λ(m:Nat)=>xs[((i:Int)+(m:Int) * 1).toNat]?)=λm=>xs[i+m]?:=by
  funext m;have:((i:Int)+(m:Int) * 1).toNat=i+m:=by omega
  rw [this]
 rw [e];have:=pick_run xs i k;rw [filterMap_map] at this;have e2:((λx=>xs[x]?)∘λx=>i+x)=λm=>xs[i+m]?:=rfl;rw [e2] at this;rw [this]
theorem getItem_tuple_cut {t sl:Addr}{items:Array Value}{vl vu:Value}{lo hi:Option Int}{Q:Value->Shared->Prop}(ht:IsTup s.heap t items)(hs:s.heap.IsSliceOf sl vl vu .none)(pl:IsPart vl lo)(pu:IsPart vu hi)
 (hw:¬ (sIx items.size 0 lo=0/\sIx items.size items.size hi=items.size))
 (h:Q (.ref s.heap.objs.size) { s with heap:=s.heap.push { cls:=.type "tuple",data:=.seq ((items.toList.drop (sIx items.size 0 lo)).take (sIx items.size items.size hi - sIx items.size 0 lo)).toArray } })
 (hsz:items.size<=sizeLine):wpAny (model prog w) A (getItem (.ref t) (.ref sl)) Q E s:=by
 have htake:sizeOk (.seq ((items.toList.drop (sIx items.size 0 lo)).take (sIx items.size items.size hi - sIx items.size 0 lo)).toArray):=by
  show ((items.toList.drop (sIx items.size 0 lo)).take (sIx items.size items.size hi - sIx items.size 0 lo)).toArray.size<=sizeLine;rw [qg,qk,length_drop,qb];omega
 have hj:sIx items.size items.size hi<=items.size:=JeV _ _ (zQ _) hi;obtain ⟨os,hos,hcs,hds⟩:=id hs;have hTs:s.TypeIs (.ref sl) "slice":=⟨os,hos,hcs⟩;unfold getItem
 try with_reducible refine wpAny_holding ?_
 first | refine zM (zN ?_) | skip
 refine zM (wpAny_sequenceKey ht.typeIs (by decide) ?_);refine zM (wpAny_callSpecial?_slot (name:=Str.ofString "__getitem__") ht.typeIs PyProof.Rows.slot_tuple_getitem
  (wpAny_call_entry PyProof.Rows.slot_tuple_getitem ht.typeIs entry_tuple_getitem ?_ (args_tuple_getitem _ _)))
 show wpAny _ _ (Builtin.Tuple.tupleItemsOf (.ref t) >>= _) _ _ s;refine zM (tupleItemsOf_ ht ?_);refine zM (wpAny_typeOf hTs ?_);rw [zP (by decide)];refine zM (J29 hs pl pu ?_);have hno:¬ ((((sIx items.size 0 lo:Nat):Int) == 0&&(1:Int) == 1&&(sIx items.size items.size hi - sIx items.size 0 lo) == items.size)=true):=by
  intro q;rw [Bool.and_eq_true,Bool.and_eq_true] at q;have q1:((sIx items.size 0 lo:Nat):Int)=0:=eq_of_beq q.1.1;have q2:sIx items.size items.size hi - sIx items.size 0 lo=items.size:=eq_of_beq q.2;exact hw ⟨by omega,by omega⟩
 show wpAny _ _ (if (((sIx items.size 0 lo:Nat):Int) == 0&&(1:Int) == 1&&(sIx items.size items.size hi - sIx items.size 0 lo) == items.size)=true then _ else _) _ _ s;rw [zO hno,JcB]
 first
  | exact zM (m:=Builtin.Tuple.tupleExact _) (wpAny_newObj_type (zN ⟨_,rfl,zN h⟩) htake)
  | exact zM (m:=Builtin.Tuple.tupleExact _) (wpAny_newObj_type (zM (zN (zN ⟨_,rfl,zN h⟩))) htake)
  | exact zM (zM (m:=Builtin.Tuple.tupleExact _) (wpAny_newObj_type (zN (zN ⟨_,rfl,zN h⟩)) htake))
  | exact zM (zM (m:=Builtin.Tuple.tupleExact _) (wpAny_newObj_type (zN ⟨_,rfl,zN h⟩) htake))
end
end HT
namespace L2
open PySem PySem.Spec PyProof.Rows
abbrev TO:=St->Hp->(Option Int->Hp->Prop)->Prop
def PO (X:Cx)(e:Option Expr)(t:TO):Prop :=
 ∀ (pins:List (Addr×Obj)) (s:Shared) (σ:St) (H:Hp) (Q:Option Int->Hp->Prop),Inv X pins σ H s->t σ H Q ->
   wpAny (model X.prog X.w) X.A (evalPart e X.env) (λu s'=>∃ o H',Inv X pins σ H' s'/\IsPart u o/\Q o H') X.xe s
def J44:TO:=λ_ H Q=>Q none H
def J8q (t:TE):TO:=λσ H Q=>t σ H λx H1=>∃ i,x=.int i/\Q (some i) H1
section
variable {X:Cx}{e:Expr}{te:TE}{lo hi:Option Expr}{tl th:TO}{pos p2:Pos}
theorem J0Q:PO X none J44:=by
 intro pins s σ H Q I h;rw [evalPart_none];exact zN ⟨none,H,I,.none,h⟩
theorem J0D (h:PE X e te):PO X (some e) (J8q te):=by
 intro pins s σ H Q I hw;rw [evalPart_some];refine thn (h pins s σ H _ I hw) λu s1 ⟨x,H1,I1,r1,q1⟩=>?_;obtain ⟨i,rfl,q⟩:=q1;obtain ⟨t,rfl⟩:=r1;exact ⟨some i,H1,I1,.int i t,q⟩
def SlR (X:Cx)(r:V->Option Int->Option Int->Hp->VK->Prop):Prop :=
 ∀ (pins:List (Addr×Obj)) (s:Shared) (σ:St) (H:Hp) (x:V) (v vl vu:Value) (lo hi:Option Int) (sl:Addr) (Q:VK),Inv X pins σ H s->RelV x v->s.heap.IsSliceOf sl vl vu .none->IsPart vl lo->IsPart vu hi->r x lo hi H Q ->
   ∃ T id,typeLookup (.type T) "__getitem__"=pure (some (.builtin id))/\s.TypeIs v T/\wpAny (model X.prog X.w) X.A (getItem v (.ref sl)) (EP X pins σ Q) X.xe s
def tSl (r:V->Option Int->Option Int->Hp->VK->Prop)(te:TE)(tl th:TO):TE:=λσ H Q=>te σ H λx H1=>tl σ H1 λl H2=>th σ H2 λu H3=>r x l u H3 Q
theorem J0s {r:V->Option Int->Option Int->Hp->VK->Prop}(hr:SlR X r)(he:PE X e te)(hl:PO X lo tl)(hu:PO X hi th):PE X (.Subscript e (.Slice lo hi none p2) pos) (tSl r te tl th):=by
 intro pins s σ H Q I h;refine Subscript_ (thn (he pins s σ H _ I h) λv s1 ⟨x,H1,I1,r1,q1⟩=>?_);refine wpAny_Slice (thn (hl pins s1 σ H1 _ I1 q1) λvl s2 ⟨l,H2,I2,pl,q2⟩=>thn (hu pins s2 σ H2 _ I2 q2) λvu s3 ⟨u,H3,I3,pu,q3⟩=>?_);rw [evalPart_none];refine zN ?_;have I4:Inv X pins σ H3 { s3 with heap:=s3.heap.push { cls:=.type "slice",data:=.fields #[vl,vu,.none] } }:=I3.kept (t':=s3.toks) λb ob q=>qF _ q;obtain ⟨T,id,hT,ht,hg⟩:=hr pins { s3 with heap:=s3.heap.push { cls:=.type "slice",data:=.fields #[vl,vu,.none] } } σ H3 x v vl vu l u s3.heap.objs.size Q I4 r1 (Heap.IsSliceOf.new ..) pl pu q3;show wpAny (model X.prog X.w) X.A (subscriptTail e (.Slice lo hi none p2) v (.ref s3.heap.objs.size)) (EP X pins σ Q) X.xe { s3 with heap:=s3.heap.push { cls:=.type "slice",data:=.fields #[vl,vu,.none] } };exact tail_any (ops:=[.ref s3.heap.objs.size,v]) ht hT hg (by with_unfolding_all rfl)
def J24 (xs:List V)(lo hi:Option Int):List V:=(xs.drop (HT.sIx xs.length 0 lo)).take (HT.sIx xs.length xs.length hi - HT.sIx xs.length 0 lo)
theorem J55 (xs:List V)(lo hi:Option Int):(J24 xs lo hi).length<=xs.length:=by
 unfold J24;rw [qk,length_drop];omega
def Jgh (K:Frag):V->Option Int->Option Int->Hp->VK->Prop:=λx lo hi H Q=>∃ a xs,x=.ref a/\SqT K H a xs /\
 ¬ (HT.sIx xs.length 0 lo=0/\HT.sIx xs.length xs.length hi=xs.length)/\∀ p,H p=none->Q (.ref p) (upd H p (.tup (J24 xs lo hi)))
theorem JeS:SlR X (Jgh X.K):=by
 intro pins s σ H x v vl vu lo hi sl Q I rx hs pl pu h;obtain ⟨a,xs,rfl,hx,hw,q⟩:=h;cases rx;obtain ⟨its,r,ht,hz⟩:=I.tuple hx;have hlen:its.toArray.size=xs.length:=by rw [qg];exact r.length.symm
 refine ⟨"tuple",_,PyProof.Rows.slot_tuple_getitem.lookup,ht.typeIs,?_⟩;refine HT.getItem_tuple_cut ht hs pl pu (by rw [hlen];exact hw) ?_ (by rw [hlen];exact hz);rw [hlen];refine ⟨.ref s.heap.objs.size,_,I.laid (t':=s.toks) (o:=.tup (J24 xs lo hi)) (λb ob q=>qF _ q) (zQ _) ?_,rfl,q _ (I.hok.fresh (zQ _))⟩;exact ⟨z9 (J55 xs lo hi) hz,_,(r.drop (HT.sIx xs.length 0 lo)).take (HT.sIx xs.length xs.length hi - HT.sIx xs.length 0 lo),IsTup.new _ _⟩
def JfS (K:Frag):R2:=λx y H Q=>∃ a b xs ys,x=.ref a/\y=.ref b/\SqT K H a xs/\SqT K H b ys/\xs≠[]/\xs.length+ys.length<=sizeLine /\
 (ys=[]->Q (.ref a) H)/\(ys≠[]->∀ p,H p=none->Q (.ref p) (upd H p (.tup (xs++ys))))
theorem Vals.nil_iff {xs:List V}{us:List Value}(r:Vals xs us):us=[]↔xs=[]:=by
 cases r with
 | nil=>simp
 | cons _ _=>simp
theorem Je5:OpR X (binaryOp .Add) (JfS X.K):=by
 intro pins s σ H x y v u Q I rx ry h;obtain ⟨a,b,xs,ys,rfl,rfl,ha,hb,hx,hz,q1,q2⟩:=h;cases rx;cases ry;obtain ⟨its,r1,p1,_⟩:=I.tuple ha;obtain ⟨its2,r2,p2,_⟩:=I.tuple hb;refine HT.cat_tup p1 p2 (λz=>hx (r1.nil_iff.mp z)) (λz=>⟨.ref a,H,I,rfl,q1 (r2.nil_iff.mp z)⟩) (λz=>?_) (by rw [<- r1.length,<- r2.length];exact hz);refine ⟨.ref s.heap.objs.size,_,I.laid (t':=s.toks) (o:=.tup (xs++ys)) (λb ob q=>qF _ q) (zQ _) ?_,rfl,q2 (λw=>z (r2.nil_iff.mpr w)) _ (I.hok.fresh (zQ _))⟩;exact ⟨by rw [qj];exact hz,_,r1.append r2,IsTup.new _ _⟩
end
def ixN (n:Nat)(i:Int):Option Nat:=if 0<=i then (if i<n then some i.toNat else none) else if -(n:Int)<=i then some (i+n).toNat else none
def atI {α:Type}(xs:List α)(i:Int):Option α:=(ixN xs.length i).bind λj=>xs[j]?
theorem JaO {n:Nat}{i:Int}{j:Nat}(h:ixN n i=some j):seqIndex? i n=some j/\j<n/\-(n:Int)<=i/\i<n:=by
 unfold ixN at h;by_cases h0:0<=i
 ·rw [zP h0] at h
  by_cases h1:i<n
  ·rw [zP h1] at h
   have e:i.toNat=j:=zU h;exact ⟨by rw [seqIndex_of h0 h1,e],by omega,by omega,h1⟩
  ·rw [zO h1] at h;cases h
 ·rw [zO h0] at h
  by_cases h1:-(n:Int)<=i
  ·rw [zP h1] at h
   have e:(i+n).toNat=j:=zU h;exact ⟨by rw [seqIndex_neg (by omega) h1,e],by omega,h1,by omega⟩
  ·rw [zO h1] at h;cases h
theorem J8k {α:Type}{xs:List α}{i:Int}{v:α}(h:atI xs i=some v):∃ j,seqIndex? i xs.length=some j/\xs[j]?=some v/\j<xs.length/\-(xs.length:Int)<=i/\i<xs.length:=by
 unfold atI at h;cases e:ixN xs.length i with
 | none=>rw [e] at h;cases h
 | some j =>
   rw [e] at h;obtain ⟨h1,h2,h3,h4⟩:=JaO e;exact ⟨j,h1,h,h2,h3,h4⟩
theorem Jg {α:Type}{xs:List α}{j:Nat}{v:α}(h:xs[j]?=some v):atI xs (j:Int)=some v:=by
 have hj:j<xs.length:=(qd.mp h).1;have e:ixN xs.length (j:Int)=some j:=by
  unfold ixN;rw [zP (by omega),zP (by omega)];simp
 unfold atI;rw [e];exact h
def Jer (b:Expr):Prop:=∀ o i,subscripted b false o i=operate [o,i] (getItem o i)
def IxR (X:Cx)(r:R2):Prop :=
 ∀ (value slice:Expr) (pins:List (Addr×Obj)) (s:Shared) (σ:St) (H:Hp) (x y:V) (v u:Value) (Q:VK),Inv X pins σ H s->RelV x v->RelV y u->r x y H Q ->
   subscripted slice false v u=operate [v,u] (getItem v u)->wpAny (model X.prog X.w) X.A (subscriptTail value slice v u) (EP X pins σ Q) X.xe s
def MtR (X:Cx)(id:String)(r:V->List V->Hp->VK->Prop):Prop :=
 ∀ (pins:List (Addr×Obj)) (s:Shared) (σ:St) (H:Hp) (x:V) (xs:List V) (v:Value) (us:List Value) (Q:VK),Inv X pins σ H s->RelV x v->Vals xs us->r x xs H Q ->
   wpAny (model X.prog X.w) X.A (call (.builtin id) (v::us)) (EP X pins σ Q) X.xe s
section
variable {X:Cx}{a b:Expr}{ta tb:TE}{pos:Pos}
theorem Jn {r:R2}(hr:IxR X r)(ha:PE X a ta)(hb:PE X b tb)(hs:Jer b):PE X (.Subscript a b pos) (tOp r ta tb):=by
 intro pins s σ H Q I h;exact Subscript_ (JfF ha hb I h λv u s2 x y H2 I2 rx ry q=>hr a b pins s2 σ H2 x y v u Q I2 rx ry q (hs _ _))
def Ja0 (K:Frag):R2:=λx y H Q=>∃ p xs i v,x=.ref p/\y=.int i/\SqL K H p xs/\atI xs i=some v/\Q v H
def J4K (K:Frag):R2:=λx y H Q=>∃ p xs i v,x=.ref p/\y=.int i/\SqT K H p xs/\atI xs i=some v/\Q v H
def JeW:R2:=λx y H Q=>∃ z i c,x=.str z/\y=.int i/\z.length<=sizeLine/\atI z.cps.toList i=some c/\Q (.str ⟨#[c]⟩) H
theorem Jee:IxR X (Ja0 X.K):=by
 intro value slice pins s σ H x y v u Q I rx ry h hs;obtain ⟨p,xs,i,z,rfl,rfl,hq,he,q⟩:=h;cases rx;obtain ⟨t,rfl⟩:=ry;obtain ⟨its,r,pl,hz⟩:=I.list hq;obtain ⟨j,h1,h2,h3,h4,h5⟩:=J8k he;obtain ⟨w,ew,rw'⟩:=r.get h2;have hl:=r.length;have hn:=J30;have fin:EP X pins σ Q w s:=⟨z,H,I,rw',q⟩;by_cases h0:0<=i
 ·have hj:i.toNat=j:=by
   rw [seqIndex_of h0 h5] at h1;exact zU h1
  exact item_listR pl.isList h0 (by omega) (by rw [hj];simpa using ew) fin hs
 ·have hj:(i+(its.toArray.size:Int)).toNat=j:=by
   rw [seqIndex_neg (by omega) h4] at h1;rw [qg,<- hl];exact zU h1
  exact subscriptTail_builtinR (x:=w) pl.isList.typeIs slot_list_getitem.lookup
   (wpAny_getItem_list_neg (Q:=λr s'=>r=w/\EP X pins σ Q r s') pl.isList (by omega) (by rw [qg]<;>omega) (by omega) (by rw [hj];simpa using ew) ⟨rfl,fin⟩) hs
theorem Jfp:IxR X (J4K X.K):=by
 intro value slice pins s σ H x y v u Q I rx ry h hs;obtain ⟨p,xs,i,z,rfl,rfl,hq,he,q⟩:=h;cases rx;obtain ⟨t,rfl⟩:=ry;obtain ⟨its,r,pl,hz⟩:=I.tuple hq;obtain ⟨j,h1,h2,h3,h4,h5⟩:=J8k he;obtain ⟨w,ew,rw'⟩:=r.get h2;have hl:=r.length;have hn:=J30;have fin:EP X pins σ Q w s:=⟨z,H,I,rw',q⟩;exact subscriptTail_builtinR (x:=w) pl.typeIs slot_tuple_getitem.lookup
  (getItem_tuple (j:=j) (Q:=λr s'=>r=w/\EP X pins σ Q r s') pl (by omega) (by omega) (by rw [qg,<- hl];exact h1) (by simpa using ew) ⟨rfl,fin⟩) hs
theorem JcZ:IxR X JeW:=by
 intro value slice pins s σ H x y v u Q I rx ry h hs;obtain ⟨z,i,c,rfl,rfl,hz,he,q⟩:=h;obtain ⟨t,rfl⟩:=rx;obtain ⟨t',rfl⟩:=ry;obtain ⟨j,h1,h2,h3,h4,h5⟩:=J8k he;have hl:z.cps.toList.length=z.length:=by simp [Str.length]
 rw [hl] at h1 h4 h5;have hn:=J30;exact tail_any (typeIs_str s z t) slot_str_getitem.lookup (getItem_str (c:=c) (by
  have e1:decide (i < -(2 ^ 63:Int))=false:=zT (by omega);have e2:decide (i≥2 ^ 63)=false:=zT (by omega);rw [e1,e2,Bool.or_false]) (by rw [h1];simpa using h2) ⟨.str ⟨#[c]⟩,H,I.tok _,⟨_,rfl⟩,q⟩) hs
theorem Jaf (its:List Value)(n j:Nat)(u:Value):Obj.mapSeq (·.setIfInBounds j u) { cls:=.type "list",data:=.seq its.toArray n }={ cls:=.type "list",data:=.seq (its.set j u).toArray n }:=by
 simp [Obj.mapSeq]
theorem Inv.lst {pins:List (Addr×Obj)}{σ:St}{H:Hp}{s:Shared}{p:Addr}{xs:List V}(I:Inv X pins σ H s)(h:H p=some (.lst xs)) :
 ∃ (its:List Value) (n:Nat),Vals xs its/\s.heap.get? p=some { cls:=.type "list",data:=.seq its.toArray n }/\xs.length<=sizeLine:=by
 obtain ⟨z,its,n,r,e⟩:=I.hok p _ h;exact ⟨its,n,r,e,z⟩
theorem Inv.lstUpd {pins:List (Addr×Obj)}{σ:St}{H:Hp}{s:Shared}{p:Addr}{xs ys:List V}{its its':List Value}{n n':Nat}{f:Obj->Obj}(I:Inv X pins σ H s)(h:H p=some (.lst xs))
 (ho:s.heap.get? p=some { cls:=.type "list",data:=.seq its.toArray n }) (hf:f { cls:=.type "list",data:=.seq its.toArray n }={ cls:=.type "list",data:=.seq its'.toArray n' }) (r:Vals ys its') (hz:ys.length<=sizeLine) (t:Nat) :
 Inv X pins σ (upd H p (.lst ys)) { s with heap:=s.heap.update p f,toks:=t }:=by
 have e:(s.heap.update p f).get? p=some { cls:=.type "list",data:=.seq its'.toArray n' }:=by
  rw [Heap.get?_update_self f ho (by rw [hf]<;>rfl),hf]
 refine I.write (x:=p) (e:=p) (by rw [h];trivial) (.inl rfl) (λb u hb q=>(qI _ _ (Ne.symm hb)).trans q) ⟨_,e⟩ ?_;exact ⟨hz,its',n',r,e⟩
def JfP:V->V->V->Hp->(Hp->Prop)->Prop:=λo i v H Q=>∃ p xs k j,o=.ref p/\i=.int k/\H p=some (.lst xs)/\ixN xs.length k=some j/\Q (upd H p (.lst (xs.set j v)))
theorem Jcf:JfI X JfP:=by
 intro pins s σ H o i v ov iv u Q I ro ri rv h;obtain ⟨p,xs,k,j,rfl,rfl,hp,hj,q⟩:=h;cases ro;obtain ⟨t,rfl⟩:=ri;obtain ⟨its,n,r,ho,hz⟩:=I.lst hp;obtain ⟨h1,h2,h3,h4⟩:=JaO hj;have hl:=r.length;have hn:=J30;have I':Inv X pins σ (upd H p (.lst (xs.set j v))) { s with heap:=s.heap.update p (Obj.mapSeq (·.setIfInBounds j u)) } :=
  I.lstUpd hp ho (Jaf its n j u) (r.set rv j) (by rw [length_set];exact hz) s.toks
 by_cases h0:0<=k
 ·have hk:k.toNat=j:=by
   rw [seqIndex_of h0 h4] at h1;exact zU h1
  exact PySem.W.ki_setAt ho h0 (by omega) (by rw [qg,<- hl];exact h4) (by rw [hk];exact ⟨_,I',q⟩)
 ·have hk:(k+(its.toArray.size:Int)).toNat=j:=by
   rw [seqIndex_neg (by omega) h3] at h1;rw [qg,<- hl];exact zU h1
  exact PySem.W.ki_setBack ho (by omega) (by rw [qg,<- hl];exact h3) (by omega) (by rw [hk];exact ⟨_,I',q⟩)
theorem J7F (lo hi:Option Int)(n:Nat):(sliceBounds lo hi none n).1=((HT.sIx n 0 lo:Nat):Int)/\(sliceBounds lo hi none n).2.1=((HT.sIx n n hi:Nat):Int)/\(sliceBounds lo hi none n).2.2=1:=by
 refine ⟨?_,?_,rfl⟩
 ·cases lo with
  | none=>simp [sliceBounds,HT.sIx]
  | some i =>
    simp only [sliceBounds,HT.sIx,Option.getD_none,show (1:Int) > 0 by decide,if_true];by_cases h:i<0
    ·simp only [h,if_true]<;>omega
    ·simp only [h,if_false]<;>omega
 ·cases hi with
  | none=>simp [sliceBounds,HT.sIx]
  | some i =>
    simp only [sliceBounds,HT.sIx,Option.getD_none,show (1:Int) > 0 by decide,if_true];by_cases h:i<0
    ·simp only [h,if_true]<;>omega
    ·simp only [h,if_false]<;>omega
theorem J6A (its:List Value)(lo hi:Option Int):slicePick its.toArray lo hi none=((its.drop (HT.sIx its.length 0 lo)).take (HT.sIx its.length its.length hi - HT.sIx its.length 0 lo)).toArray:=by
 obtain ⟨h1,h2,h3⟩:=J7F lo hi its.toArray.size;unfold slicePick;rw [h1,h2,h3];simp only [sliceRange_one,pick_run,qg]<;>rfl
def Jbi (K:Frag):V->Option Int->Option Int->Hp->VK->Prop:=λx lo hi H Q=>∃ a xs,x=.ref a/\SqL K H a xs/\∀ p,H p=none->Q (.ref p) (upd H p (.lst (J24 xs lo hi)))
theorem JdI:SlR X (Jbi X.K):=by
 intro pins s σ H x v vl vu lo hi sl Q I rx hs pl pu h;obtain ⟨a,xs,rfl,hx,q⟩:=h;cases rx;obtain ⟨its,r,ht,hz⟩:=I.list hx;have hlen:=r.length;refine ⟨"list",_,slot_list_getitem.lookup,ht.isList.typeIs,?_⟩;refine wpAny_getItem_list_slice ht.isList hs pl pu .none (by simp) ?_ (by rw [qg]<;>omega);rw [J6A,<- hlen];refine ⟨.ref s.heap.objs.size,_,I.laid (t':=s.toks) (o:=.lst (J24 xs lo hi)) (λb ob q=>qF _ q) (zQ _) ?_,rfl,q _ (I.hok.fresh (zQ _))⟩;exact ⟨z9 (J55 xs lo hi) hz,_,0,(r.drop (HT.sIx xs.length 0 lo)).take (HT.sIx xs.length xs.length hi - HT.sIx xs.length 0 lo),qG _ rfl⟩
def J54:V->Bool
 | .non=>true
 | .bl _=>true
 | .int _=>true
 | .str _=>true
 | _=>false
def eqV:V->V->Bool
 | .non,.non=>true
 | .bl a,.bl b=>a == b
 | .bl a,.int b=>(if a then 1 else 0) == b
 | .int a,.bl b=>a == (if b then 1 else 0)
 | .int a,.int b=>a == b
 | .str a,.str b=>a == b
 | _,_=>false
theorem Jfy {A:Around}{s:Shared}{y x:V}{u v:Value}(ry:RelV y u)(rx:RelV x v)(fy:J54 y=true)(fx:J54 x=true):SeqAt.EqAt A s u v (eqV y x):=by
 cases y with
 | non =>
   cases ry;cases x with
   | non=>cases rx;exact SeqAt.EqAt.same _
   | bl b=>cases rx;exact SeqAt.EqAt.none_bool b
   | int b=>obtain ⟨t,rfl⟩:=rx;exact SeqAt.EqAt.none_int b t
   | str b=>obtain ⟨t,rfl⟩:=rx;exact SeqAt.EqAt.none_str b t
   | _=>exact absurd (show false=true from fx) zR
 | bl a =>
   cases ry;cases x with
   | non=>cases rx;exact SeqAt.EqAt.bool_none a
   | bl b=>cases rx;exact SeqAt.EqAt.bool_bool a b
   | int b=>obtain ⟨t,rfl⟩:=rx;exact SeqAt.EqAt.bool_int a b t
   | str b=>obtain ⟨t,rfl⟩:=rx;exact SeqAt.EqAt.bool_str a b t
   | _=>exact absurd (show false=true from fx) zR
 | int a =>
   obtain ⟨t',rfl⟩:=ry;cases x with
   | non=>cases rx;exact SeqAt.EqAt.int_none a t'
   | bl b=>cases rx;exact SeqAt.EqAt.int_bool a t' b
   | int b=>obtain ⟨t,rfl⟩:=rx;exact SeqAt.EqAt.int_int a t' b t
   | str b=>obtain ⟨t,rfl⟩:=rx;exact SeqAt.EqAt.int_str a t' b t
   | _=>exact absurd (show false=true from fx) zR
 | str a =>
   obtain ⟨t',rfl⟩:=ry;cases x with
   | non=>cases rx;exact SeqAt.EqAt.str_none a t'
   | bl b=>cases rx;exact SeqAt.EqAt.str_bool a t' b
   | int b=>obtain ⟨t,rfl⟩:=rx;exact SeqAt.EqAt.str_int a t' b t
   | str b=>obtain ⟨t,rfl⟩:=rx;exact SeqAt.EqAt.str_str a t' b t
   | _=>exact absurd (show false=true from fx) zR
 | _=>exact absurd (show false=true from fy) zR
def eqU (x:V)(u:Value):Bool:=match u with
 | .none=>eqV .non x
 | .bool b=>eqV (.bl b) x
 | .int i _=>eqV (.int i) x
 | .str z _=>eqV (.str z) x
 | _=>false
theorem Jd7 {x y:V}{u:Value}(r:RelV y u)(f:J54 y=true):eqU x u=eqV y x:=by
 cases y with
 | non=>cases r;rfl
 | bl b=>cases r;rfl
 | int i=>obtain ⟨t,rfl⟩:=r;rfl
 | str z=>obtain ⟨t,rfl⟩:=r;rfl
 | _=>exact absurd (show false=true from f) zR
theorem J4o {x:V}:∀ {xs:List V} {us:List Value},Vals xs us->xs.all J54=true->us.any (eqU x)=xs.any λy=>eqV y x
 | _,_,.nil,_=>rfl
 | y::xs,u::us,.cons r t,f=>by
   rw [all_cons,Bool.and_eq_true] at f;rw [any_cons,any_cons,Jd7 r f.1,J4o t f.2]
theorem J2Z {A:Around}{s:Shared}{x:V}{v:Value}(rx:RelV x v)(fx:J54 x=true):∀ {xs:List V} {us:List Value},Vals xs us->xs.all J54=true->∀ u∈us,SeqAt.EqAt A s u v (eqU x u)
 | _,_,.nil,_=>λu hu=>by cases hu
 | y::xs,u::us,.cons r t,f=>λu' hu=>by
   rw [all_cons,Bool.and_eq_true] at f;rcases qo.mp hu with rfl | hu
   ·rw [Jd7 r f.1];exact Jfy r rx f.1 fx
   ·exact J2Z rx fx t f.2 u' hu
def inV (x:V)(xs:List V):Bool:=xs.any λy=>eqV y x
def rIn (K:Frag)(neg:Bool):R2:=λx y H Q=>∃ p xs,y=.ref p/\(SqL K H p xs\/SqT K H p xs)/\J54 x=true/\xs.all J54=true/\Q (.bl (if neg then !inV x xs else inV x xs)) H
theorem Jbs:OpR X (compareOp .In) (rIn X.K false):=by
 intro pins s σ H x y v u Q I rx ry h;obtain ⟨p,xs,rfl,hq,fx,fs,q⟩:=h;cases ry;rcases hq with hq | hq
 ·obtain ⟨its,r,pl,hz⟩:=I.list hq
  refine SeqAt.in_listAt (eqU x) pl.isList (λw hw=>J2Z rx fx r fs w (by simpa using hw)) ⟨.bl _,H,I,rfl,?_⟩;rw [show its.toArray.any (eqU x)=its.any (eqU x) by simp,J4o r fs];exact q
 ·obtain ⟨its,r,pl,hz⟩:=I.tuple hq
  refine SeqAt.in_tupleAt (eqU x) pl (λw hw=>J2Z rx fx r fs w (by simpa using hw)) ⟨.bl _,H,I,rfl,?_⟩;rw [show its.toArray.any (eqU x)=its.any (eqU x) by simp,J4o r fs];exact q
theorem J7T:OpR X (compareOp .NotIn) (rIn X.K true):=by
 intro pins s σ H x y v u Q I rx ry h;obtain ⟨p,xs,rfl,hq,fx,fs,q⟩:=h;cases ry;rcases hq with hq | hq
 ·obtain ⟨its,r,pl,hz⟩:=I.list hq
  refine SeqAt.notIn_listAt (eqU x) pl.isList (λw hw=>J2Z rx fx r fs w (by simpa using hw)) ⟨.bl _,H,I,rfl,?_⟩;rw [show its.toArray.any (eqU x)=its.any (eqU x) by simp,J4o r fs];exact q
 ·obtain ⟨its,r,pl,hz⟩:=I.tuple hq
  refine SeqAt.notIn_tupleAt (eqU x) pl (λw hw=>J2Z rx fx r fs w (by simpa using hw)) ⟨.bl _,H,I,rfl,?_⟩;rw [show its.toArray.any (eqU x)=its.any (eqU x) by simp,J4o r fs];exact q
theorem J8g:J04 X (.builtin "len") (λxs H Q=>∃ p ys,xs=[.ref p]/\(SqL X.K H p ys\/SqT X.K H p ys)/\Q (.int ys.length) H):=by
 intro pins s σ H xs us Q I r h;obtain ⟨p,ys,rfl,hq,q⟩:=h;obtain ⟨u,rfl,rx⟩:=J0N r;cases rx;have hn:=J30;rcases hq with hq | hq
 ·obtain ⟨its,r',pl,hz⟩:=I.list hq
  have hlen:=r'.length;exact Calls.call_len_list pl.isList (by simp only [qg]<;>omega) ⟨.int ys.length,H,I.tok _,⟨s.toks+1,by rw [qg,hlen]⟩,q⟩
 ·obtain ⟨its,r',pl,hz⟩:=I.tuple hq
  have hlen:=r'.length;exact len_tuple pl (by simp only [qg]<;>omega) ⟨.int ys.length,H,I.tok _,⟨s.toks+1,by rw [qg,hlen]⟩,q⟩
theorem J1q:J04 X (.builtin "len") (λxs H Q=>∃ z,xs=[.str z]/\z.length<=sizeLine/\Q (.int z.length) H):=by
 intro pins s σ H xs us Q I r h;obtain ⟨z,rfl,hz,q⟩:=h;obtain ⟨u,rfl,t,rfl⟩:=J0N r;have hn:=J30;exact len_str (by omega) ⟨.int z.length,H,I.tok _,⟨_,rfl⟩,q⟩
theorem J8f:J04 X (.type "list") (λxs H Q=>∃ p ys,xs=[.ref p]/\(SqL X.K H p ys\/SqT X.K H p ys)/\∀ l,H l=none->Q (.ref l) (upd H l (.lst ys))):=by
 intro pins s σ H xs us Q I r h;obtain ⟨p,ys,rfl,hq,q⟩:=h;obtain ⟨u,rfl,rx⟩:=J0N r;cases rx;have fin:∀ (its:List Value),Vals ys its->ys.length<=sizeLine->∀ (h':Heap) (c':Nat),(∀ b o',s.heap.get? b=some o'->h'.get? b=some o') ->
  h'.get? s.heap.objs.size=some { cls:=.type "list",dict:=none,data:=.seq its.toArray c',slots:=#[] }->EP X pins σ Q (.ref s.heap.objs.size) { s with heap:=h' }:=λits r' hz h' c' kp e =>
  ⟨.ref s.heap.objs.size,_,I.laid (t':=s.toks) kp (zQ _) (show ObjOk X.prog X.w _ h' _ (.lst ys) from ⟨hz,its,c',r',e⟩),rfl,q _ (I.hok.fresh (zQ _))⟩
 rcases hq with hq | hq
 ·obtain ⟨its,r',pl,hz⟩:=I.list hq
  have hlen:=r'.length;obtain ⟨o,ho,hc,n,hd⟩:=pl.isList;exact call_list_seq p (.inl rfl) ho hc hd (λh' c' kp e=>fin its r' hz h' c' kp e) (by simp only [qg]<;>omega)
 ·obtain ⟨its,r',pl,hz⟩:=I.tuple hq
  have hlen:=r'.length;obtain ⟨o,ho,hc,n,hd⟩:=pl;exact call_list_seq p (.inr rfl) ho hc hd (λh' c' kp e=>fin its r' hz h' c' kp e) (by simp only [qg]<;>omega)
theorem J6K:J04 X (.type "tuple") (λxs H Q=>∃ p ys,xs=[.ref p]/\((SqL X.K H p ys/\∀ l,H l=none->Q (.ref l) (upd H l (.tup ys)))\/(SqT X.K H p ys/\Q (.ref p) H))):=by
 intro pins s σ H xs us Q I r h;obtain ⟨p,ys,rfl,h⟩:=h;obtain ⟨u,rfl,rx⟩:=J0N r;cases rx;rcases h with ⟨hq,q⟩ | ⟨hq,q⟩
 ·obtain ⟨its,r',pl,hz⟩:=I.list hq
  have hlen:=r'.length;refine call_tuple_list pl.isList (λh' kp=>?_) (by simp only [qg]<;>omega);have I1:Inv X pins σ H { s with heap:=h' }:=I.kept (t':=s.toks) kp;have I2:Inv X pins σ (upd H h'.objs.size (.tup ys)) { s with heap:=h'.push { cls:=.type "tuple",data:=.seq its.toArray } } :=
   I1.laid (t':=s.toks) (λb o e=>qF _ e) (zQ _) (show ObjOk X.prog X.w _ _ _ (.tup ys) from ⟨hz,its,r',IsTup.new _ _⟩)
  exact ⟨.ref h'.objs.size,_,I2,rfl,q _ (I1.hok.fresh (zQ _))⟩
 ·obtain ⟨its,r',pl,hz⟩:=I.tuple hq
  exact call_tuple_same pl ⟨.ref p,H,I,rfl,q⟩
def tyV (K:Frag)(T:String)(x:V)(H:Hp):Prop:=match x with
 | .str _=>T="str"
 | .int _=>T="int"
 | .ref p=>(T="list"/\∃ xs,SqL K H p xs)\/(T="tuple"/\∃ o,K.lookup p=some o/\o.cls=.type "tuple"/\o.dict=none) \/
  (T="dict"/\((∃ kvs,H p=some (.dK kvs))\/∃ kvs,H p=some (.dT kvs)))\/(T="set"/\∃ S n,H p=some (.set S n))
 | _=>False
theorem tyV_is {pins:List (Addr×Obj)}{σ:St}{H:Hp}{s:Shared}{T:String}{x:V}{v:Value}(I:Inv X pins σ H s)(r:RelV x v)(ty:tyV X.K T x H) :
 s.TypeIs v T/\∀ a,v=.ref a->∃ ob,s.heap.get? a=some ob/\ob.dict=none:=by
 cases x with
 | str z =>
   obtain ⟨t,rfl⟩:=r;cases (show T="str" from ty);exact ⟨typeIs_str s z t,λ_ e=>nomatch e⟩
 | int i =>
   obtain ⟨t,rfl⟩:=r;cases (show T="int" from ty);exact ⟨typeIs_int s i t,λ_ e=>nomatch e⟩
 | ref p =>
   cases r;rcases ty with ⟨rfl,xs,hq⟩ | ⟨rfl,o,hk,hc,hd⟩ | ⟨rfl,hk⟩ | ⟨rfl,S,n,hk⟩
   ·obtain ⟨its,_,pl,_⟩:=I.list hq
    refine ⟨pl.isList.typeIs,λa e=>?_⟩;cases e;obtain ⟨o,n,e,c,hd,_⟩:=pl;exact ⟨o,e,hd⟩
   ·refine ⟨⟨o,I.kIn p o hk,hc⟩,λa e=>?_⟩
    cases e;exact ⟨o,I.kIn _ o hk,hd⟩
   ·have z:∃ o,s.heap.get? p=some o/\o.ExactDict:=by
     rcases hk with ⟨kvs,hk⟩ | ⟨kvs,hk⟩
     ·obtain ⟨_,_,_,_,o,_,_,e,ex,_⟩:=I.hok p _ hk
      exact ⟨o,e,ex⟩
     ·obtain ⟨_,_,_,_,o,_,_,e,ex,_⟩:=I.hok p _ hk
      exact ⟨o,e,ex⟩
    obtain ⟨o,e,ex⟩:=z;refine ⟨⟨o,e,ex.1⟩,λa e2=>?_⟩;cases e2;exact ⟨o,e,ex.2.1⟩
   ·obtain ⟨o,_,_,_,e,ex,_⟩:=I.hok p _ hk
    refine ⟨⟨o,e,ex.1⟩,λa e2=>?_⟩;cases e2;exact ⟨o,e,ex.2.1⟩
 | _=>exact qa ty
def JdE (K:Frag)(T:String)(r:V->List V->Hp->VK->Prop)(to:TE):TE:=λσ H Q=>to σ H λx H1=>tyV K T x H1/\r x [] H1 Q
def tBM (K:Frag)(T:String)(r:V->List V->Hp->VK->Prop)(to:TE)(t:TA):TE:=λσ H Q=>to σ H λx H1=>tyV K T x H1/\t σ H1 λxs H2=>r x xs H2 Q
variable {o e:Expr}{es:List Expr}{to:TE}{t:TA}{name:Str}{apos cpos:Pos}{T id:String}{r:V->List V->Hp->VK->Prop}
theorem JfV (pa:PlainAttrs T)(slot:Slot T name id)(hty:typeOf (.builtin id)=pure (.type "method_descriptor"))(hm:MtR X id r)(ho:PE X o to)(ha:PA X (e::es) t)
 (hbase:attributeBase o name X.env (eval o X.env)=eval o X.env:=by rfl)
 (hfew:((backTo cpos (starEach (e::es) X.env)).all (λx=>!x.1)&&(backToKw cpos (keywordEach [] X.env)).all (λx=>x.1.isSome)
  && decide ((e::es).length+([]:List Keyword).length+(if ([]:List Keyword).isEmpty then 0 else 1)<30))=true:=by rfl)
 (hline:(apos.endLine == cpos.line)=true:=by rfl) (hs:starEach (e::es) X.env=(false,eval e X.env)::starEach es X.env:=by rfl) (hplain:(backTo cpos (starEach es X.env)).any (·.1)=false:=by rfl) :
 PE X (.Call (.Attribute o name apos) (e::es) [] cpos) (tBM X.K T r to t):=by
 intro pins s σ H Q I h;refine wpAny_Call_method_late hbase hfew hline rfl (thn (ho pins s σ H _ I h) λv s1 ⟨x,H1,I1,r1,ty,q1⟩=>?_);obtain ⟨h1,h2⟩:=tyV_is I1 r1 ty;refine ⟨T,id,pa,slot,hty,h1,h2,?_⟩;have hA:=ha cpos pins s1 σ H1 _ I1 q1;rw [hs] at hA ⊢;refine Calls.callWith_builtin (by show (false||(backTo cpos (starEach es X.env)).any (·.1))=false;rw [hplain]<;>rfl) (Calls.evalArgs_plain ?_);exact thn hA λus s2 ⟨vs,H2,I2,r2,q2⟩=>hm pins s2 σ H2 x vs v us Q I2 r1 r2 q2
end
def MtM (X:Cx)(id:String)(r:V->List V->Hp->VK->Prop):Prop :=
 ∀ (pins:List (Addr×Obj)) (s:Shared) (σ:St) (H:Hp) (x:V) (xs:List V) (v:Value) (us:List Value) (Q:VK),Inv X pins σ H s->RelV x v->Vals xs us->r x xs H Q ->
   wpAny (model X.prog X.w) X.A (call (.builtin id) (v::us)) (EP X pins σ Q) X.xe s
theorem Vals.one:∀ {x:V} {us:List Value},Vals [x] us->∃ u,us=[u]/\RelV x u
 | _,_,.cons r .nil=>⟨_,rfl,r⟩
theorem Vals.reverse {xs:List V}{us:List Value}(h:Vals xs us):Vals xs.reverse us.reverse:=by
 induction h with
 | nil=>exact .nil
 | cons r t ih=>rw [reverse_cons,reverse_cons];exact Vals.append ih (.cons r .nil)
section
variable {X:Cx}{pins:List (Addr×Obj)}{σ:St}{H:Hp}{s:Shared}{l b:Addr}{xs ys zs:List V}
theorem Inv.lset {its its':List Value}{n:Nat}{f:Array Value->Array Value}{t':Nat}(I:Inv X pins σ H s)(hH:H l=some (.lst xs))
 (e:s.heap.get? l=some { cls:=.type "list",data:=.seq its.toArray n }) (hf:f its.toArray=its'.toArray) (hv:Vals ys its') (hz:ys.length<=sizeLine) :
 Inv X pins σ (upd H l (.lst ys)) { s with heap:=s.heap.update l (Obj.mapSeq f),toks:=t' }:=by
 have q:=PySem.IsL.update e f;rw [hf] at q;refine I.write (x:=l) (e:=l) (by rw [hH];exact trivial) (.inl rfl) (λb' u hb hu=>(qI s.heap (Obj.mapSeq f) (Ne.symm hb)).trans hu) ⟨_,q⟩ ?_;exact ⟨hz,its',_,hv,q⟩
theorem Inv.lnew {its:List Value}{t':Nat}(I:Inv X pins σ H s)(hv:Vals ys its)(hz:ys.length<=sizeLine) :
 Inv X pins σ (upd H s.heap.objs.size (.lst ys)) { s with heap:=s.heap.push { cls:=.type "list",data:=.seq its.toArray },toks:=t' } :=
 I.laid (λ_ _ q=>qF _ q) (zQ _) ⟨hz,its,0,hv,qG _ rfl⟩
theorem Inv.fresh (I:Inv X pins σ H s):H s.heap.objs.size=none:=I.hok.fresh (zQ _)
theorem Inv.lstM (I:Inv X pins σ H s)(hH:H l=some (.lst xs)):xs.length<=sizeLine/\∃ (its:List Value) (n:Nat),Vals xs its/\xs.length=its.length/\s.heap.get? l=some { cls:=.type "list",data:=.seq its.toArray n }:=by
 obtain ⟨z,its,n,r,e⟩:=I.hok l _ hH;exact ⟨z,its,n,r,r.length,e⟩
theorem JcK {n:Nat}(h:n<=sizeLine):Builtin.List.listTooLong n=false:=by
 unfold Builtin.List.listTooLong;exact zT (by omega)
end
section
variable {X:Cx}
def J7N:V->List V->Hp->VK->Prop:=λx vs H Q=>∃ l xs y,x=.ref l/\vs=[y]/\H l=some (.lst xs)/\xs.length<sizeLine/\Q .non (upd H l (.lst (xs++[y])))
theorem J0K:MtM X "list.append" J7N:=by
 intro pins s σ H x vs v us Q I rx rv h;obtain ⟨l,xs,y,rfl,rfl,hH,hz,q⟩:=h;cases rx;obtain ⟨u,rfl,ru⟩:=rv.one;obtain ⟨z,its,n,r,hl,e⟩:=I.lstM hH;refine call_meets F.slot_list_append ⟨_,e,rfl⟩ F.entry_list_append (F.args_list_append_2 _ _) (PySem.list_append l its.toArray n u (by rw [qg];omega)) ⟨e,?_⟩;refine ⟨.non,_,I.lset (its':=its++[u]) hH e (by simp) (r.append (.cons ru .nil)) ?_,rfl,q⟩;rw [qj,length_singleton];omega
def Jgj:R2:=λx y H Q=>∃ l b xs zs,x=.ref l/\y=.ref b/\H l=some (.lst xs)/\H b=some (.lst zs)/\xs.length+zs.length<=sizeLine/\∀ p,H p=none->Q (.ref p) (upd H p (.lst (xs++zs)))
theorem J7U:OpR X (binaryOp .Add) Jgj:=by
 intro pins s σ H x y v u Q I rx ry h;obtain ⟨l,b,xs,zs,rfl,rfl,hH,hB,hz,q⟩:=h;cases rx;cases ry;obtain ⟨z,its,n,r,hl,e⟩:=I.lstM hH;obtain ⟨z2,its2,n2,r2,hl2,e2⟩:=I.lstM hB;refine PySem.P.add_list e e2 ?_ (by rw [qg,qg];omega);have ea:its.toArray++its2.toArray=(its++its2).toArray:=by simp
 rw [ea];exact ⟨.ref _,_,I.lnew (t':=s.toks) (r.append r2) (by rw [qj];omega),rfl,q _ I.fresh⟩
end
section
variable {κ:Type}[DecidableEq κ]
def Jy (kvs:List (κ×V))(k:κ):Option V:=(kvs.find? λkv=>decide (kv.1=k)).map (·.2)
def JS (kvs:List (κ×V))(k:κ)(v:V):List (κ×V) :=
 if (kvs.any λkv=>decide (kv.1=k))=true then kvs.map (λkv=>if kv.1=k then (kv.1,v) else kv) else kvs++[(k,v)]
def J2D (kvs:List (κ×V))(k:κ):List (κ×V):=kvs.filter λkv=>decide (kv.1≠k)
theorem J0w {p:κ×V}{r:List (κ×V)}{k:κ}(e:p.1=k):Jy (p::r) k=some p.2:=by simp [Jy,List.find?_cons,e]
theorem J0x {p:κ×V}{r:List (κ×V)}{k:κ}(e:¬ p.1=k):Jy (p::r) k=Jy r k:=by simp [Jy,List.find?_cons,e]
theorem J1t (k:κ):∀ kvs:List (κ×V),(kvs.any λkv=>decide (kv.1=k))=(Jy kvs k).isSome
 | []=>rfl
 | p::r=>by
   rw [any_cons];by_cases e:p.1=k
   ·simp only [J0w e,zS e,Bool.true_or,Option.isSome_some]
   ·rw [J0x e,zT e,Bool.false_or];exact J1t k r
theorem J8m (k j:κ)(y:V):∀ kvs:List (κ×V),Jy (kvs.map λkv=>if kv.1=k then (kv.1,y) else kv) j=(Jy kvs j).map λx=>if j=k then y else x
 | []=>rfl
 | p :: r=>by
   have ih:=J8m k j y r;rw [qp];by_cases h:p.1=k
   ·rw [zP h]
    by_cases e:p.1=j
    ·rw [J0w (p:=(p.1,y)) e,J0w e,Option.map_some,zP (e.symm.trans h)]
    ·rw [J0x (p:=(p.1,y)) e,J0x e,ih]
   ·rw [zO h]
    by_cases e:p.1=j
    ·rw [J0w (p:=p) e,J0w e,Option.map_some,zO (λz=>h (e.trans z))]
    ·rw [J0x (p:=p) e,J0x e,ih]
theorem J6P (k j:κ)(y:V):∀ kvs:List (κ×V),Jy kvs k=none->Jy (kvs++[(k,y)]) j=if j=k then some y else Jy kvs j
 | [],_=>by
   by_cases e:k=j
   ·rw [zP e.symm];exact J0w (p:=(k,y)) e
   ·rw [zO (λz=>e z.symm)];exact J0x (p:=(k,y)) e
 | p::r,hn=>by
   rw [cons_append];have hk:¬ p.1=k:=λz=>by rw [J0w z] at hn;cases hn
   rw [J0x hk] at hn;have ih:=J6P k j y r hn;by_cases e:p.1=j
   ·rw [J0w e,J0w e,zO (λz=>hk (e.trans z))]
   ·rw [J0x e,J0x e,ih]
theorem J42 (kvs:List (κ×V))(k j:κ)(y:V):Jy (JS kvs k y) j=if j=k then some y else Jy kvs j:=by
 unfold JS;by_cases a:(kvs.any λkv=>decide (kv.1=k))=true
 ·rw [zP a,J8m]
  rw [J1t] at a;by_cases e:j=k
  ·obtain ⟨x,hx⟩:=Option.isSome_iff_exists.mp a
   rw [zP e,e,hx,Option.map_some,zP rfl]
  ·rw [zO e]
   cases Jy kvs j with
   | none=>rfl
   | some x=>rw [Option.map_some,zO e]
 ·rw [zO a]
  refine J6P k j y kvs ?_;rw [J1t] at a;cases q:Jy kvs k with
  | none=>rfl
  | some x=>rw [q] at a;exact (a rfl).elim
theorem J0L (kvs:List (κ×V))(k:κ)(v:V):(JS kvs k v).length<=kvs.length+1:=by
 unfold JS
 split
 ·rw [qe];omega
 ·rw [qj,length_cons,length_nil];omega
theorem putK_new {kvs:List (κ×V)}{k:κ}(v:V)(h:Jy kvs k=none):JS kvs k v=kvs++[(k,v)]:=by
 unfold JS;rw [J1t,h];exact zO (by decide)
theorem RelO.isSome_eq {o:Option V}{u:Option Value}(r:RelO o u):o.isSome=u.isSome:=by
 cases o with
 | none=>cases u with
   | none=>rfl
   | some _=>exact (show False from r).elim
 | some _=>cases u with
   | none=>exact (show False from r).elim
   | some _=>rfl
theorem KV.val {kvs:List (κ×V)}{vs:List (κ×Value)}(r:KV kvs vs)(k:κ):RelO (Jy kvs k) (valueAt vs k):=by
 unfold KV at r
 induction r with
 | nil=>exact True.intro
 | @cons p q ps qs h t ih =>
   obtain ⟨h1,h2⟩:=h;by_cases e:p.1=k
   ·have e':q.1=k:=h1.symm.trans e
    have b:valueAt (q::qs) k=some q.2:=by simp [valueAt,List.find?_cons,e']
    rw [J0w e,b];exact h2
   ·have e':¬ q.1=k:=λz=>e (h1.trans z)
    have b:valueAt (q::qs) k=valueAt qs k:=by simp [valueAt,List.find?_cons,e']
    rw [J0x e,b];exact ih
theorem KV.any {kvs:List (κ×V)}{vs:List (κ×Value)}(r:KV kvs vs)(k:κ):(kvs.any λkv=>decide (kv.1=k))=vs.any λkv=>decide (kv.1=k):=by
 unfold KV at r
 induction r with
 | nil=>rfl
 | cons h t ih=>rw [any_cons,any_cons,ih,h.1]
theorem KV.repl {kvs:List (κ×V)}{vs:List (κ×Value)}(r:KV kvs vs)(k:κ){y:V}{u:Value}(ry:RelV y u) :
 KV (kvs.map λkv=>if kv.1=k then (kv.1,y) else kv) (vs.map λkv=>if kv.1=k then (kv.1,u) else kv):=by
 unfold KV at r ⊢
 induction r with
 | nil=>exact .nil
 | @cons p q ps qs h t ih =>
   rw [qp,qp];refine .cons ?_ ih;obtain ⟨h1,h2⟩:=h;by_cases e:p.1=k
   ·rw [zP e,zP (h1.symm.trans e)];exact ⟨h1,ry⟩
   ·rw [zO e,zO (λz=>e (h1.trans z))];exact ⟨h1,h2⟩
theorem KV.put {kvs:List (κ×V)}{vs:List (κ×Value)}(r:KV kvs vs)(k:κ){y:V}{u:Value}(ry:RelV y u):KV (JS kvs k y) (stored vs k u):=by
 unfold JS stored;rw [r.any k];by_cases e:(vs.any λkv=>decide (kv.1=k))=true
 ·rw [zP e,zP e];exact r.repl k ry
 ·rw [zO e,zO e];exact Paired.snoc r ⟨rfl,ry⟩
theorem KV.keys {kvs:List (κ×V)}{vs:List (κ×Value)}(r:KV kvs vs):kvs.map (·.1)=vs.map (·.1):=by
 unfold KV at r
 induction r with
 | nil=>rfl
 | cons h t ih=>rw [qp,qp,ih,h.1]
theorem KV.length {kvs:List (κ×V)}{vs:List (κ×Value)}(r:KV kvs vs):kvs.length=vs.length:=Paired.length r
theorem J9p (kvs:List (κ×V))(k:κ):(J2D kvs k).length<=kvs.length:=length_filter_le _ _
end
theorem J78 {P:Program}{w:World}{k:Key}{u:Value}(r:RelV (kV k) u):(J0j P w).is k u=true:=by
 cases k with
 | inl i=>obtain ⟨t,e⟩:=(show ∃ t,u=Value.int i t from r);subst e;exact J9b P w i t
 | inr x=>obtain ⟨t,e⟩:=(show ∃ t,u=Value.str x t from r);subst e;exact J9a P w x t
theorem Jg1 {P:Program}{w:World}{k:Ji}{u:Value}(r:RelV (nV k) u):(J0b P w).is k u=true:=by
 cases k with
 | none=>cases (show u=Value.none from r);rfl
 | some k=>exact J78 (P:=P) (w:=w) (k:=k) r
theorem J79 {P:Program}{w:World}:∀ {ks:List Ji} {us:List Value},Vals (ks.map nV) us->ItemsAre (J0b P w) ks us
 | [],_,r=>by rw [map_nil] at r;cases r;exact .nil
 | k::ks,_,r=>by
   rw [qp] at r;cases r with
   | cons h t=>exact .cons (Jg1 h) (J79 t)
abbrev KT (H:Hp):List (List Ji×V)->List (List Ji×Addr×Value)->Prop:=Paired λp q=>p.1=q.1/\H q.2.1=some (.tup (p.1.map nV))/\RelV p.2 q.2.2
theorem KT.val {H:Hp}{kvs:List (List Ji×V)}{xs:List (List Ji×Addr×Value)}(r:KT H kvs xs)(k:List Ji):RelO (Jy kvs k) ((atKey xs k).map (·.2)):=by
 induction r with
 | nil=>exact True.intro
 | @cons p q ps qs h t ih =>
   obtain ⟨h1,_,h2⟩:=h;by_cases e:p.1=k
   ·have e':q.1=k:=h1.symm.trans e
    have b:atKey (q::qs) k=some q.2:=by simp [atKey,List.find?_cons,e']
    rw [J0w e,b];exact h2
   ·have e':¬ q.1=k:=λz=>e (h1.trans z)
    have b:atKey (q::qs) k=atKey qs k:=by simp [atKey,List.find?_cons,e']
    rw [J0x e,b];exact ih
theorem KT.repl {H:Hp}{kvs:List (List Ji×V)}{xs:List (List Ji×Addr×Value)}(r:KT H kvs xs)(k:List Ji){y:V}{u:Value}(ry:RelV y u) :
 KT H (kvs.map λkv=>if kv.1=k then (kv.1,y) else kv) (xs.map (putAt k u)):=by
 induction r with
 | nil=>exact .nil
 | @cons p q ps qs h t ih =>
   rw [qp,qp];refine .cons ?_ ih;obtain ⟨h1,h2,h3⟩:=h;unfold putAt;by_cases e:p.1=k
   ·rw [zP e,zP (h1.symm.trans e)];exact ⟨h1,h2,ry⟩
   ·rw [zO e,zO (λz=>e (h1.trans z))];exact ⟨h1,h2,h3⟩
theorem KT.put {H:Hp}{kvs:List (List Ji×V)}{xs:List (List Ji×Addr×Value)}(r:KT H kvs xs)(k:List Ji){b:Addr}{y:V}{u:Value}(hb:H b=some (.tup (k.map nV)))(ry:RelV y u) :
 KT H (JS kvs k y) (storedH xs k b u):=by
 have e:(kvs.any λkv=>decide (kv.1=k))=(atKey xs k).isSome:=by
  rw [J1t,(r.val k).isSome_eq,Option.isSome_map]
 unfold JS storedH;rw [e];by_cases q:(atKey xs k).isSome=true
 ·rw [zP q,zP q];exact r.repl k ry
 ·rw [zO q,zO q];exact Paired.snoc r ⟨rfl,hb,ry⟩
theorem KT.keeps {H H':Hp}{kvs:List (List Ji×V)}{xs:List (List Ji×Addr×Value)}(r:KT H kvs xs)(ht:∀ b ys,H b=some (.tup ys)->H' b=some (.tup ys)):KT H' kvs xs :=
 Paired.mapP r λ_ _ z=>⟨z.1,ht _ _ z.2.1,z.2.2⟩
section
variable {P:Program}{w:World}{H:Hp}{h:Heap}{a:Addr}
theorem Jew {u:HO}(ok:HOk P w H h)(e:Rd H a u):ObjOk P w H h a u:=e.ok ok
theorem J7c {kvs:List (Key×V)}(ok:HOk P w H h)(e:Rd H a (.dK kvs)):kvs.length<=sizeLine/\(a == sysModules)=false/\∃ vs,KV kvs vs/\h.DictOf (J0j P w) a vs :=
 show ObjOk P w H h a (.dK kvs) from Jew ok e
theorem Jda {kvs:List (Key×V)}(ok:HOk P w H h)(e:H a=some (.dK kvs)):kvs.length<=sizeLine/\(a == sysModules)=false/\∃ vs,KV kvs vs/\h.DictOf (J0j P w) a vs:=J7c ok (.inl e)
theorem J32 {ks:List Ji}(ok:HOk P w H h)(e:H a=some (.tup (ks.map nV))):(tupleKind (J0b P w)).is h ks a:=by
 obtain ⟨_,its,r,o,h1,h2,n,h3⟩:=(show ObjOk P w H h a (.tup (ks.map nV)) from ok a _ e);exact ⟨o,its.toArray,n,h1,h2,h3,by simpa using J79 r⟩
theorem dt_rd {kvs:List (List Ji×V)}(ok:HOk P w H h)(e:Rd H a (.dT kvs)):kvs.length<=sizeLine/\(a == sysModules)=false /\
 ∃ xs,KT H kvs xs/\h.DictOfH (tupleKind (J0b P w)) a xs:=by
 obtain ⟨z,y,xs,r,o,es,ep,h1,h2,h3,h4,h5⟩:=(show ObjOk P w H h a (.dT kvs) from Jew ok e);refine ⟨z,y,xs,r,o,es,ep,h1,h2,h3,h4,λx hx=>?_,h5⟩;have all:∀ {l:List (List Ji×V)} {m:List (List Ji×Addr×Value)},KT H l m->∀ x∈m,(tupleKind (J0b P w)).is h x.1 x.2.1:=by
  intro l m q
  induction q with
  | nil=>intro x hx;exact nomatch hx
  | @cons p q ps qs hq t ih =>
    intro x hx;rcases qo.mp hx with e | hx
    ·subst e
     exact J32 ok (by rw [<- hq.1];exact hq.2.1)
    ·exact ih x hx
 exact all r x hx
theorem JaS {kvs:List (List Ji×V)}(ok:HOk P w H h)(e:H a=some (.dT kvs)):kvs.length<=sizeLine/\(a == sysModules)=false /\
 ∃ xs,KT H kvs xs/\h.DictOfH (tupleKind (J0b P w)) a xs:=dt_rd ok (.inl e)
end
def DGet (H:Hp)(a:Addr)(y:V)(r:Option V):Prop :=
 (∃ kvs k,Rd H a (.dK kvs)/\y=kV k/\r=Jy kvs k)\/∃ kvs k b,Rd H a (.dT kvs)/\y=.ref b/\H b=some (.tup (k.map nV))/\r=Jy kvs k
def DPut (H:Hp)(a:Addr)(y v:V)(H':Hp):Prop :=
 (∃ kvs k,H a=some (.dK kvs)/\y=kV k/\kvs.length<sizeLine/\H'=upd H a (.dK (JS kvs k v))) \/
 ∃ kvs k b,H a=some (.dT kvs)/\y=.ref b/\H b=some (.tup (k.map nV))/\kvs.length<sizeLine/\H'=upd H a (.dT (JS kvs k v))
theorem DGet.k {H:Hp}{a:Addr}{kvs:List (Key×V)}{k:Key}(e:H a=some (.dK kvs)):DGet H a (kV k) (Jy kvs k):=.inl ⟨kvs,k,.inl e,rfl,rfl⟩
theorem DGet.t {H:Hp}{a b:Addr}{kvs:List (List Ji×V)}{k:List Ji}(e:H a=some (.dT kvs))(eb:H b=some (.tup (k.map nV))):DGet H a (.ref b) (Jy kvs k):=.inr ⟨kvs,k,b,.inl e,rfl,eb,rfl⟩
theorem DPut.k {H:Hp}{a:Addr}{kvs:List (Key×V)}{k:Key}{v:V}(e:H a=some (.dK kvs))(hl:kvs.length<sizeLine):DPut H a (kV k) v (upd H a (.dK (JS kvs k v))):=.inl ⟨kvs,k,e,rfl,hl,rfl⟩
theorem DPut.t {H:Hp}{a b:Addr}{kvs:List (List Ji×V)}{k:List Ji}{v:V}(e:H a=some (.dT kvs))(eb:H b=some (.tup (k.map nV)))(hl:kvs.length<sizeLine) :
 DPut H a (.ref b) v (upd H a (.dT (JS kvs k v))):=.inr ⟨kvs,k,b,e,rfl,eb,hl,rfl⟩
section
variable {X:Cx}{pins:List (Addr×Obj)}{σ:St}{H:Hp}{s:Shared}{a:Addr}{y v:V}{u r:Value}{o:Option V}{A:Around}{E:Value->Shared->Prop}
theorem Inv.big (I:Inv X pins σ H s):sysModules<s.heap.objs.size:=by
 have h:mainGlobals<s.heap.objs.size:=(I.mod.glob.keeps I.bk).lt;exact Nat.lt_trans (by decide) h
theorem JbP {Q:Value->Shared->Prop}(hu:A.units+1<cLine)(I:Inv X pins σ H s)(g:DGet H a y (some v))(ry:RelV y u)(h:∀ w' s',Inv X pins σ H s'->RelV v w'->Q w' s') :
 wpAny (model X.prog X.w) A (getItem (.ref a) u) Q E s:=by
 rcases g with ⟨kvs,k,e,ey,l⟩ | ⟨kvs,k,b,e,ey,eb,l⟩
 ·subst ey
  obtain ⟨z,hd,vs,rel,dd⟩:=J7c I.hok e;obtain ⟨w',hw,rw'⟩:=RelO.some_of (v:=v) (o:=valueAt vs k) (by rw [l];exact rel.val k);exact wpAny_getItem_of (J78 ry) dd.mapOf hw (h w' _ (I.tok _) rw')
 ·subst ey
  cases (show u=Value.ref b from ry);obtain ⟨z,hd,xs,rel,dd⟩:=dt_rd I.hok e;obtain ⟨w',hw,rw'⟩:=RelO.some_of (v:=v) (o:=(atKey xs k).map (·.2)) (by rw [l];exact rel.val k);obtain ⟨p,hp,hp2⟩:=Option.map_eq_some_iff.mp hw;refine wpAny_getItem_heap (tupleKind_room_in1 hu) (J32 I.hok eb) dd hp ?_;rw [hp2];exact h w' _ (I.tok _) rw'
theorem Jgn {Q:Value->Shared->Prop}(hu:A.units+1<cLine)(I:Inv X pins σ H s)(g:DGet H a y o)(ry:RelV y u)(h:∀ s',Inv X pins σ H s'->Q (.bool o.isSome) s') :
 wpAny (model X.prog X.w) A (compareOp .In u (.ref a)) Q E s:=by
 rcases g with ⟨kvs,k,e,ey,l⟩ | ⟨kvs,k,b,e,ey,eb,l⟩
 ·subst ey
  obtain ⟨z,hd,vs,rel,dd⟩:=J7c I.hok e;refine wpAny_in_of (J78 ry) hd dd.mapOf ?_;rw [<- (rel.val k).isSome_eq,<- l];exact h _ (I.tok _)
 ·subst ey
  cases (show u=Value.ref b from ry);obtain ⟨z,hd,xs,rel,dd⟩:=dt_rd I.hok e;refine wpAny_in_heap (tupleKind_room_in1 hu) (J32 I.hok eb) hd dd ?_;have q:=(rel.val k).isSome_eq;rw [Option.isSome_map] at q;rw [<- q,<- l];exact h _ (I.tok _)
theorem Jep {Q:Value->Shared->Prop}(hu:A.units+1<cLine)(I:Inv X pins σ H s)(g:DGet H a y o)(ry:RelV y u)(h:∀ s',Inv X pins σ H s'->Q (.bool (!o.isSome)) s') :
 wpAny (model X.prog X.w) A (compareOp .NotIn u (.ref a)) Q E s:=by
 rcases g with ⟨kvs,k,e,ey,l⟩ | ⟨kvs,k,b,e,ey,eb,l⟩
 ·subst ey
  obtain ⟨z,hd,vs,rel,dd⟩:=J7c I.hok e;refine wpAny_notIn_of (J78 ry) hd dd.mapOf ?_;rw [<- (rel.val k).isSome_eq,<- l];exact h _ (I.tok _)
 ·subst ey
  cases (show u=Value.ref b from ry);obtain ⟨z,hd,xs,rel,dd⟩:=dt_rd I.hok e;refine wpAny_notIn_heap (tupleKind_room_in1 hu) (J32 I.hok eb) hd dd ?_;have q:=(rel.val k).isSome_eq;rw [Option.isSome_map] at q;rw [<- q,<- l];exact h _ (I.tok _)
theorem J3t {h':Heap}{t':Nat}{ob:HO}(I:Inv X pins σ H s)(mu:Mut (H a))(hs:Heap.SameBut a s.heap h')(he:∃ q,h'.get? a=some q)(new:ObjOk X.prog X.w (upd H a ob) h' a ob) :
 Inv X pins σ (upd H a ob) { s with heap:=h',toks:=t' } :=
 I.write (x:=a) (e:=a) mu (.inl rfl) (λb q hb z=>(hs.2 b hb).trans z) he new
theorem Jdb {P:Program}{w:World}{H':Hp}{h':Heap}{kvs:List (Key×V)}{vs:List (Key×Value)}(z:kvs.length<=sizeLine)(hd:(a == sysModules)=false)(rel:KV kvs vs)(dd:h'.DictOf (J0j P w) a vs) :
 ObjOk P w H' h' a (.dK kvs):=⟨z,hd,vs,rel,dd⟩
theorem JbO {H':Hp}{Q:Unit->Shared->Prop}(hu:A.units+1<cLine)(I:Inv X pins σ H s)(g:DPut H a y v H')(ry:RelV y u)(rv:RelV v r)(h:∀ s',Inv X pins σ H' s'->Q () s') :
 wpAny (model X.prog X.w) A (setItem (.ref a) u r) Q E s:=by
 rcases g with ⟨kvs,k,e,ey,l,eH⟩ | ⟨kvs,k,b,e,ey,eb,l,eH⟩
 ·subst ey eH
  obtain ⟨z,hd,vs,rel,dd⟩:=Jda I.hok e;have hz:vs.length<=sizeLine:=by rw [<- rel.length];exact z
  have hl:(JS kvs k v).length<=sizeLine:=by have:=J0L kvs k v;omega
  refine wpAny_setItem_pairs (hsz:=hz) (J78 ry) dd λh' dd' hs=>h _ ?_;have he:∃ q,h'.get? a=some q:=let ⟨q,_,_,hq,_⟩:=dd';⟨q,hq⟩;exact J3t I (by rw [e];exact True.intro) hs he (Jdb hl hd (rel.put k rv) dd')
 ·subst ey eH
  cases (show u=Value.ref b from ry);obtain ⟨z,hd,xs,rel,dd⟩:=JaS I.hok e;have hz:xs.length<=sizeLine:=by rw [<- Paired.length rel];exact z
  have hl:(JS kvs k v).length<=sizeLine:=by have:=J0L kvs k v;omega
  refine wpAny_setItem_heap (hsz:=hz) (tupleKind_room_in1 hu) (J32 I.hok eb) dd λh' dd' hs=>h _ ?_;obtain ⟨q,es,ep,hq,h2,h3,h4,_,h5⟩:=dd';refine J3t I (by rw [e];exact True.intro) hs ⟨q,hq⟩ ⟨hl,hd,_,(rel.put k eb rv).keeps λc ys ec=>?_,q,es,ep,hq,h2,h3,h4,h5⟩;rw [Jj (J0S ec e (λz=>nomatch z))];exact ec
end
section
variable {X:Cx}{pins:List (Addr×Obj)}{σ:St}{H:Hp}{s:Shared}{a:Addr}{kvs:List (Key×V)}{k:Key}{u:Value}{A:Around}{E:Value->Shared->Prop}
theorem Jga {Q:Value->Shared->Prop}(I:Inv X pins σ H s)(e:Rd H a (.dK kvs))(h:∀ t s',Inv X pins σ H s'->Q (.int kvs.length t) s'):wpAny (model X.prog X.w) A (call (.builtin "len") [.ref a]) Q E s:=by
 obtain ⟨z,hd,vs,rel,dd⟩:=J7c I.hok e;refine call_len_dict hd dd (by rw [<- rel.length];rw [sizeLine_eq] at z;omega) ?_;rw [<- rel.length];exact h _ _ (I.tok _)
end
def Jge (i:Expr):Prop:=∀ ov iv,subscripted i false ov iv=operate [ov,iv] (getItem ov iv)
theorem JdF {prog:Program}{w:World}{A:Around}{E:Value->Shared->Prop}{s:Shared}{env:Env}{value slice:Expr}{pos:Pos}{T id:String}{Q:Value->Shared->Prop}
 (hl:typeLookup (.type T) "__getitem__"=pure (some (.builtin id))) (hs:Jge slice)
 (h:wpAny (model prog w) A (eval value env) (λo s₁=>wpAny (model prog w) A (eval slice env) (λi s₂=>s₂.TypeIs o T/\wpAny (model prog w) A (getItem o i) Q E s₂) E s₁) E s) :
 wpAny (model prog w) A (eval (.Subscript value slice pos) env) Q E s:=by
 refine Subscript_ (wpAny_mono h (λo s₁ h₁=>wpAny_mono h₁ (λi s₂ h₂=>?_) λ_ _ x=>x) λ_ _ x=>x);obtain ⟨hT,h₂⟩:=h₂;unfold subscriptTail;refine zM ?_;rw [getitemInPython_of_ne hT.not_modules];refine zM (wpAny_specialOf hT hl ?_);have fin:wpAny (model prog w) A (subscripted slice false o i) (λr s₃=>wpAny (model prog w) A (letTemporaryGo value o r >>= λ_=>pure r) Q E s₃) E s₂:=by
  rw [hs o i];exact wpAny_operating (wpAny_mono h₂ (λr s₃ h₃=>zM (wpAny_letTemporaryGo (zN h₃))) λ_ _ x=>x)
 first
  | exact zN (zM fin)
  | exact zM (zN (zM fin))
  | exact zM fin
theorem J9r {X:Cx}{pins:List (Addr×Obj)}{σ:St}{H:Hp}{s:Shared}{a:Addr}{y:V}{o:Option V}(I:Inv X pins σ H s)(g:DGet H a y o):s.TypeIs (.ref a) "dict":=by
 rcases g with ⟨kvs,k,e,_,_⟩ | ⟨kvs,k,b,e,_,_,_⟩
 ·obtain ⟨_,_,vs,_,dd⟩:=J7c I.hok e
  exact dd.typeIs
 ·obtain ⟨_,_,xs,_,dd⟩:=dt_rd I.hok e
  exact dd.typeIs
def J8s (td ty:TE):TE:=λσ H Q=>td σ H λx H1=>ty σ H1 λy H2=>∃ a v,x=.ref a/\DGet H2 a y (some v)/\Q v H2
def Jc8 (ty td:TE):TE:=λσ H Q=>ty σ H λy H1=>td σ H1 λx H2=>∃ a o,x=.ref a/\DGet H2 a y o/\Q (.bl o.isSome) H2
def J45 (ty td:TE):TE:=λσ H Q=>ty σ H λy H1=>td σ H1 λx H2=>∃ a o,x=.ref a/\DGet H2 a y o/\Q (.bl (!o.isSome)) H2
def J8N (td ty tv:TE):TS:=λD σ H=>tv σ H λv H1=>td σ H1 λx H2=>ty σ H2 λy H3=>∃ a H4,x=.ref a/\DPut H3 a y v H4/\D.nx σ H4
section
variable {X:Cx}{o i e value:Expr}{pos pos' tpos:Pos}{td ty tv:TE}
theorem JQ (hu:X.A.units+1<cLine)(ho:PE X o td)(hi:PE X i ty)(hs:Jge i):PE X (.Subscript o i pos) (J8s td ty):=by
 intro pins s σ H Q I h;refine JdF PySem.F.slot_dict_getitem.lookup hs (thn (ho pins s σ H _ I h) λu s1 ⟨x,H1,I1,rx,q1⟩=>thn (hi pins s1 σ H1 _ I1 q1) λiv s2 ⟨y,H2,I2,ry,a,v,ex,g,q2⟩=>?_);subst ex;obtain rfl:u=Value.ref a:=rx;exact ⟨J9r I2 g,JbP hu I2 g ry λw' s3 I3 rw'=>⟨v,H2,I3,rw',q2⟩⟩
theorem J7S (hu:X.A.units+1<cLine)(hi:PE X i ty)(ho:PE X o td):PC X .In i o (Jc8 ty td):=by
 intro pins s σ H Q I h;refine thn (hi pins s σ H _ I h) λiv s1 ⟨y,H1,I1,ry,q1⟩=>thn (ho pins s1 σ H1 _ I1 q1) λu s2 ⟨x,H2,I2,rx,a,ov,ex,g,q2⟩=>?_;subst ex;obtain rfl:u=Value.ref a:=rx;exact Jgn hu I2 g ry λs3 I3=>⟨.bl ov.isSome,H2,I3,rfl,q2⟩
theorem Jbo (hu:X.A.units+1<cLine)(hi:PE X i ty)(ho:PE X o td):PC X .NotIn i o (J45 ty td):=by
 intro pins s σ H Q I h;refine thn (hi pins s σ H _ I h) λiv s1 ⟨y,H1,I1,ry,q1⟩=>thn (ho pins s1 σ H1 _ I1 q1) λu s2 ⟨x,H2,I2,rx,a,ov,ex,g,q2⟩=>?_;subst ex;obtain rfl:u=Value.ref a:=rx;exact Jep hu I2 g ry λs3 I3=>⟨.bl (!ov.isSome),H2,I3,rfl,q2⟩
theorem J1k (hu:X.A.units+1<cLine)(ho:PE X o td)(hi:PE X i ty)(hv:PE X value tv)(hs:swapsWith value (some (.Subscript o i pos')) pos.line X.env=pure false) :
 PS X (.Assign [.Subscript o i pos'] value pos) (J8N td ty tv):=by
 intro pins s σ H D I h;refine wpAny_Assign_Subscript (thn (hv pins s σ H _ I h) λr s1 ⟨v,H1,I1,rv,q1⟩=>thn (ho pins s1 σ H1 _ I1 q1) λu s2 ⟨x,H2,I2,rx,q2⟩=>thn (hi pins s2 σ H2 _ I2 q2) λiv s3 ⟨y,H3,I3,ry,a,H4,ex,g,q3⟩=>?_) hs;subst ex;obtain rfl:u=Value.ref a:=rx;exact JbO hu I3 g ry rv λs4 I4=>⟨σ,H4,I4,q3⟩
end
theorem J9q {P:Program}{w:World}{H:Hp}(h:Heap)(hb:sysModules<h.objs.size):ObjOk P w H (h.push { cls:=.type "dict",data:=.dict #[] }) h.objs.size (.dK []) :=
 ⟨zZ _,beq_eq_false_iff_ne.mpr (Ne.symm (zV hb)),[],.nil,Heap.DictOf.new h⟩
theorem Jd9 {P:Program}{w:World}{H:Hp}(h:Heap)(hb:sysModules<h.objs.size):ObjOk P w H (h.push { cls:=.type "dict",data:=.dict #[] }) h.objs.size (.dT []) :=
 ⟨zZ _,beq_eq_false_iff_ne.mpr (Ne.symm (zV hb)),[],.nil,_,#[],0,qG _ rfl,⟨rfl,rfl,rfl⟩,rfl,rfl,nodup_nil⟩
def J5H:TE:=λ_ H Q=>∀ p,H p=none->Q (.ref p) (upd H p (.dK []))
section
variable {X:Cx}{pos:Pos}
theorem J64:PE X (.Dict [] [] pos) J5H:=λpins s σ H Q I h =>
 wpAny_Dict_empty ⟨.ref s.heap.objs.size,_,I.laid (a:=s.heap.objs.size) (o:=.dK []) (t':=s.toks) (λ_ _ q=>qF _ q) (zQ _) (J9q s.heap I.big),rfl,h _ (I.hok.fresh (zQ _))⟩
end
def J2G:List (TE×TE)->St->Hp->(List (V×V)->Hp->Prop)->Prop
 | [],_,H,Q=>Q [] H
 | (tk,tv)::r,σ,H,Q=>tk σ H λx H1=>tv σ H1 λy H2=>J2G r σ H2 λps H3=>Q ((x,y)::ps) H3
abbrev VV:List (V×V)->List (Value×Value)->Prop:=Paired λp q=>RelV p.1 q.1/\RelV p.2 q.2
def PPs (X:Cx)(pos:Pos)(keys:List (Option Expr))(values:List Expr)(trs:List (TE×TE)):Prop :=
 ∀ (pins:List (Addr×Obj)) (s:Shared) (σ:St) (H:Hp) (Q:List (V×V)->Hp->Prop),Inv X pins σ H s->J2G trs σ H Q ->
   wpAny (model X.prog X.w) X.A (evalPairs (pairTrees keys values X.env pos)) (λvs s'=>∃ ps H',Inv X pins σ H' s'/\VV ps vs/\Q ps H') X.xe s
theorem J2u {X:Cx}{pos:Pos}:PPs X pos [] [] []:=λpins s σ H Q I h=>pairTrees_nil_walk ⟨[],H,I,.nil,h⟩
theorem J09 {X:Cx}{pos:Pos}{k v:Expr}{ks:List (Option Expr)}{vs:List Expr}{tk tv:TE}{trs:List (TE×TE)}(hk:PE X k tk)(hv:PE X v tv)(hr:PPs X pos ks vs trs) :
 PPs X pos (some k::ks) (v::vs) ((tk,tv)::trs):=λpins s σ H Q I h =>
 pairTrees_cons_walk (thn (hk pins s σ H _ I h) λu s1 ⟨x,H1,I1,rx,q1⟩=>thn (hv pins s1 σ H1 _ I1 q1) λw2 s2 ⟨y,H2,I2,ry,q2⟩ =>
  thn (hr pins s2 σ H2 _ I2 q2) λws s3 ⟨ps,H3,I3,rel,q3⟩=>⟨(x,y)::ps,H3,I3,.cons ⟨rx,ry⟩ rel,q3⟩)
def J0p (kvs more:List (Key×V)):List (Key×V):=more.foldl (λacc kv=>JS acc kv.1 kv.2) kvs
theorem KV.merge:∀ {more:List (Key×V)} {rs:List (Key×Value)} {kvs:List (Key×V)} {vs:List (Key×Value)},KV more rs->KV kvs vs->KV (J0p kvs more) (merged vs rs):=by
 intro more rs kvs vs r;unfold KV at r
 induction r generalizing kvs vs with
 | nil=>intro q;exact q
 | @cons p q ps qs h t ih =>
   intro r0;have e:KV (JS kvs p.1 p.2) (stored vs q.1 q.2):=by
    have:=r0.put p.1 h.2;rw [<- h.1];exact this
   exact ih e
theorem J3I:∀ (more kvs:List (Key×V)),(J0p kvs more).length<=kvs.length+more.length
 | [],kvs=>by show kvs.length<=kvs.length+0;omega
 | p::r,kvs=>by
   have h1:=J3I r (JS kvs p.1 p.2);have h2:=J0L kvs p.1 p.2;show (J0p (JS kvs p.1 p.2) r).length<=_;rw [length_cons];omega
theorem J6l {P:Program}{w:World}:∀ {kvs:List (Key×V)} {ws:List (Value×Value)},VV (kvs.map λkv=>(kV kv.1,kv.2)) ws->∃ rs,Carries (J0j P w) ws rs/\KV kvs rs
 | [],_,r=>by rw [map_nil] at r;cases r;exact ⟨[],True.intro,.nil⟩
 | p :: kvs,_,r=>by
   rw [qp] at r;cases r with
   | @cons a b as bs h t =>
     obtain ⟨rs,c,q⟩:=J6l (P:=P) (w:=w) t;obtain ⟨b1,b2⟩:=b;exact ⟨(p.1,b2)::rs,⟨J78 h.1,rfl,c⟩,.cons ⟨rfl,h.2⟩ q⟩
def J4W (trs:List (TE×TE)):TE:=λσ H Q=>∀ p,H p=none->J2G trs σ (upd H p (.dK [])) λps H2=>H2 p=some (.dK [])/\∃ kvs:List (Key×V),ps=kvs.map (λkv=>(kV kv.1,kv.2))/\kvs.length<=15/\Q (.ref p) (upd H2 p (.dK (J0p [] kvs)))
theorem J3j {X:Cx}{pos:Pos}{keys:List (Option Expr)}{values:List Expr}{trs:List (TE×TE)}(h:PPs X pos keys values trs)(hall:keys.all (·.isSome)=true)(hl:keys.length=values.length)(h0:keys≠[])
 (h15:keys.length<=15):PE X (.Dict keys values pos) (J4W trs):=by
 intro pins s σ H Q I q;have hn:=I.hok.fresh (zQ s.heap.objs.size);have I1:=I.laid (a:=s.heap.objs.size) (o:=.dK []) (h':=s.heap.push { cls:=.type "dict",data:=.dict #[] }) (t':=s.toks) (λ_ _ q=>qF _ q) (zQ _) (J9q s.heap I.big);refine wpAny_Dict_walk (knd:=J0j X.prog X.w) hall hl h0 h15 (thn (h pins _ σ _ _ I1 (q _ hn)) λws s2 ⟨ps,H2,I2,rel,e,kvs,ep,lk,q2⟩=>?_);subst ep;obtain ⟨rs,c,rk⟩:=J6l (P:=X.prog) (w:=X.w) rel;obtain ⟨z,hd,vs0,r0,dd⟩:=Jda I2.hok e;cases r0;refine ⟨rs,c,dd,λh' dd' hs=>⟨.ref s.heap.objs.size,_,?_,rfl,q2⟩⟩;have hz:(J0p [] kvs).length<=sizeLine:=by
  have h1:=J3I kvs [];rw [length_nil] at h1;rw [sizeLine_eq];omega
 have he:∃ q,h'.get? s.heap.objs.size=some q:=let ⟨q,_,_,hq,_⟩:=dd';⟨q,hq⟩;exact J3t I2 (by rw [e];exact True.intro) hs he (Jdb hz hd (rk.merge .nil) dd')
structure M2 (X:Cx)(o:Expr)(m:Str)(apos:Pos)(e f:Expr)(cpos:Pos):Prop where
 base:attributeBase o m X.env (eval o X.env)=eval o X.env
 few:((backTo cpos (starEach [e,f] X.env)).all (λx=>!x.1)&&(backToKw cpos (keywordEach [] X.env)).all (λx=>x.1.isSome)
  && decide (([e,f]:List Expr).length+([]:List Keyword).length+(if ([]:List Keyword).isEmpty then 0 else 1)<30))=true
 line:(apos.endLine == cpos.line)=true
 trees:backTo cpos (starEach [e,f] X.env)=[(false,eval e X.env),(false,eval f X.env)]
end L2
namespace Att
open PySem PySem.W PySem.Calls PyProof.Rows
theorem J5l {P:Params}{h:Heap}:∀ (ns:List Int) (vs:List Value),WellAll P h vs (ns.map WData.int)->IntsAre vs ns:=by
 intro ns
 induction ns with
 | nil =>
   intro vs w;rw [map_nil] at w;cases w;exact .nil
 | cons n ns ih =>
   intro vs w;rw [qp] at w;cases w with
   | cons a b =>
     cases a;exact .cons _ _ (ih _ b)
theorem Jbd {l:OpenLaw}{n:Nat}(hn:l.most=some n){P:Params}{h:Heap}{args:List WData}{vals:List Value}
 (hpre:l.row.toRowW.claim.pre args=true) (hwl:WellAll P h vals args) :
 ∃ a vs ns,vals=[Value.ref a]/\args=[WData.list (ns.map WData.int)]/\h.get? a=some { cls:=.type "list",data:=.seq vs.toArray }/\IntsAre vs ns/\ns.length<=n:=by
 have hsh:WShape.hasAll [] args [.list .int]=true:=(pre_splitW hpre).1;have hc:l.pre.holds [] { args:=args }=true:=(pre_splitW hpre).2;obtain ⟨d,r,rfl,h1,h2⟩:=hasAllW_cons hsh;obtain rfl:=hasAllW_nil h2;obtain ⟨xs,rfl,h3⟩:=hasW_list h1;obtain ⟨ns,rfl⟩:=items_int h3;have hlen:ns.length<=n:=by
  unfold OpenLaw.pre at hc;have h4:(WTm.not (.lt (.lit (.int (n:Int))) (.len (.arg 0)))).holds [] { args:=[.list (ns.map .int)] }=true:=by
   have h4:=(holds_andW hc).1;rw [hn] at h4;exact h4
  have h5:=condW_of h4 (w_not (w_lt w_lit (w_len_list (w_arg rfl))));rw [qe] at h5;refine Nat.le_of_not_lt λq=>?_;have q':(n:Int)<((ns.length:Nat):Int):=by omega
  first
   | (rw [zS q'] at h5;exact absurd h5 (by decide))
   | (simp at h5;omega)
 cases hwl with
 | cons w1 w2 =>
   cases w2;cases w1 with
   | list ho hall=>exact ⟨_,_,ns,rfl,rfl,ho,J5l ns _ hall,hlen⟩
theorem Jbm (l:OpenLaw)(args:List WData):l.row.toRowW.claim.post args (.bool true) args=true :=
 postW_of (r:=l.row.toRowW) (X:=(true == true))
  (show WShape.has [] (.bool true) .bool=true by first | rfl | decide | simp [WShape.has,WShape.arms,WShape.armsAll])
  (show (WTm.eq .res (.lit (.bool true))).value [] { args:=args,res:=some (.bool true),after:=args }=some (.bool (true == true)) from w_eq_bool (w_res rfl) w_lit) rfl
theorem attach_call {l:OpenLaw}{n:Nat}{q:Program}{loose:List Str}{XP:(Str->Option Value)->Heap->Prop}{YP:World->Heap->Prop}{d:DefRec}
 (hn:l.most=some n) (hdf:d.params.defaults=[])
 (call:∀ (w:World) (s₀ s₁:Shared) (mg mb:Str->Option Value) (fa:Addr) (o:Obj) (pm cd doc:Value) (a:Addr) (vs:List Value) (ns:List Int),
  Ground q loose [] XP w s₀ mg mb s₁.heap->YP w s₁.heap ->
  s₁.heap.get? fa=some o->o.data=.func (docDef d.name d.params d.body d.scope pm cd doc)->s₁.heap.CodeRec cd d.name->mg d.name=some (.ref fa) ->
  s₁.heap.get? a=some { cls:=.type "list",data:=.seq vs.toArray }->IntsAre vs ns->ns.length<=n->s₁.gens=#[] ->
  codeAny (model l.prog w) callerA (.call (.ref fa) ⟨[.ref a],[]⟩) (λr s'=>r=.ok (.ret (.bool true))/\OldK s₁.heap s'.heap/\s'.os=s₁.os/\AllBare s'.gens) s₁) :
 WalkO q loose XP YP l.row.toRowW d [] (λf vs=>PySem.call f vs):=by
 intro w s₀ s₁ mg mb G Y fa o pm cd doc dV kV ho hd hcd hD hmg hg args vals as hpre hlay hrd hwl hlo;obtain rfl:dV=.none:=Dflts.none hD hdf;obtain rfl:kV=.none:=Dflts.noKw hD;obtain ⟨a,vs,ns,rfl,rfl,hobj,hints,hlen⟩:=Jbd hn hpre hwl;refine enter_call (codeAny_mono (call w s₀ s₁ mg mb fa o pm cd doc a vs ns G Y ho (fd_plain hd) hcd hmg hobj hints hlen hg) λr s' hq=>?_);obtain ⟨rfl,h2,h3,h4⟩:=hq;exact ⟨.inl ⟨.bool true,.bool true,[],rfl,λ_=>rfl,.bool true,Jbm l _,λ_=>⟨List.Pairwise.nil,λ_ hm=>(nomatch hm)⟩⟩,h2,h3,h4⟩
end Att
namespace L2
open PySem PySem.Spec PyProof.Rows
theorem J6O:∀ {vs:List Value} {ns:List Int},IntsAre vs ns->Vals (ns.map V.int) vs
 | _,_,.nil=>.nil
 | _,_,.cons n t h=>.cons ⟨t,rfl⟩ (J6O h)
def JfJ (H:Hp):Prop:=∀ b,H b=none\/∃ o xs,H b=some (.frz o (.lst xs))
theorem law_call {P:Program}{w:World}{K:Frag}{mg mb:Str->Option Value}{CX:CXT}{k:Nat}{fa a:Addr}{fd:FuncData}{x:Str}{sp:Sp}{s₁:Shared}{vs:List Value}{ns:List Int}
 (KX:K.In s₁.heap) (hns:s₁.heap.Ns mainGlobals mg) (hb:s₁.heap.Ns builtinsNs mb) (hbb:∀ x:Str,x≠"__name__"->mb x=bootBuiltins x) (hlim:s₁.heap.NoLimit) (hg:s₁.gens=#[])
 (ha:s₁.heap.get? a=some { cls:=.type "list",data:=.seq vs.toArray }) (hi:IntsAre vs ns) (hl:ns.length<=sizeLine) (hr:Room k callerA)
 (F:∀ base:Heap,K.In base->base.Ns mainGlobals mg->FnOk P w K mg base CX k fa fd [x] sp) (hbind:∀ (s:Shared) (u:Value),BindsTo s fd ⟨[u],[]⟩ [(x,u)])
 (hsp:∀ H:Hp,JfJ H->SqL K H a (ns.map V.int)->sp [.ref a] H (λv _=>v=.bl true) λ_ _ _=>False)
 (hCX:∀ H e s',CX [] H s₁ (λ_ _ _=>False) e s'->False) :
 codeAny (model P w) callerA (.call (.ref fa) ⟨[.ref a],[]⟩) (λr s'=>r=.ok (.ret (.bool true))/\OldK s₁.heap s'.heap/\s'.os=s₁.os/\AllBare s'.gens) s₁:=by
 have rv:=J6O hi;have lenV:=hi.length
 have core : ∀ H:Hp,JfJ H->SqL K H a (ns.map V.int)->HOk P w H s₁.heap->(∀ b,H b≠none->b=a)->(H a≠none->K.lookup a=none) ->
  codeAny (model P w) callerA (.call (.ref fa) ⟨[.ref a],[]⟩) (λr s'=>r=.ok (.ret (.bool true))/\OldK s₁.heap s'.heap/\s'.os=s₁.os/\AllBare s'.gens) s₁:=by
  intro H hO hS hok hA hK;have base_of:∀ {b:Addr} {o:Obj},s₁.heap.get? b=some o->H b=none->(J89 s₁.heap H).get? b=some o:=λe n=>Jd3 e n;have noA:∀ {b:Addr} {o:Obj} {es:Array DictEntry} {ep:Nat},s₁.heap.get? b=some o->o.data=.dict es ep->H b=none:=λ{b o es ep} e d=>by
   cases q:H b with
   | none=>rfl
   | some u =>
     have e':b=a:=hA b (by rw [q];simp);subst e';rw [ha] at e;cases e;have d':Data.seq vs.toArray _=Data.dict es ep:=d;cases d'
  have nsK:∀ {b:Addr} {m:Str->Option Value},s₁.heap.Ns b m->(J89 s₁.heap H).Ns b m:=λ{b m} ⟨o,es,ep,e,d,r⟩=>⟨o,es,ep,base_of e (noA e d),d,r⟩;have hKb:K.In (J89 s₁.heap H):=λb o e=>base_of (KX b o e) (by
   cases q:H b with
   | none=>rfl
   | some u =>
     have e':b=a:=hA b (by rw [q];simp);subst e';rw [hK (by rw [q];simp)] at e;cases e)
  have hM:Mod K mg (J89 s₁.heap H):=⟨hKb,nsK hns,⟨mb,nsK hb,hbb⟩,let ⟨mc,h1,h2⟩:=hlim;⟨mc,nsK h1,h2⟩⟩;have e0:Env0 P w K mg (J89 s₁.heap H) callerA [] s₁ H:=⟨rfl,hM,λb o e=>Je8 e,Nat.le_of_eq (JbM _ _),trivial,λb hb=>absurd (show b∈([]:List Addr) from hb) (by simp),hok,.of_eq hg⟩;refine codeAny_mono ((F _ hKb (nsK hns)).run callerA [] s₁ H ⟨[.ref a],[]⟩ [.ref a] [.ref a] _ _ hr e0 (hbind s₁ (.ref a)) (.cons rfl .nil) (hsp H hO hS)) λr s' h=>?_;cases r with
  | error e=>exact (hCX H e s' h).elim
  | ok fl =>
    cases fl with
    | next=>exact qa h
    | brk=>exact qa h
    | cont=>exact qa h
    | ret u =>
      obtain ⟨v,H',os,bare,un,hok',r',q⟩:=h;have q':v=.bl true:=q;subst q';obtain rfl:u=Value.bool true:=r';refine ⟨rfl,OldK.of_keep λb o e=>?_,os,bare⟩;cases q:H b with
      | none=>exact un.keep b o e q (by intro z;exact absurd (show b∈([]:List Addr) from z) (by simp)) (by simp)
      | some u =>
        rcases hO b with z | ⟨ob,xs,z⟩
        ·rw [q] at z;cases z
        ·have z2:=un.frzs b ob _ z
         obtain ⟨e1,_⟩:=hok b _ z;obtain ⟨e2,_⟩:=hok' b _ z2;rw [e] at e1;cases e1;exact e2
 cases hk:K.lookup a with
 | some o =>
   have e:=KX a o hk;rw [ha] at e;cases e;refine core (λ_=>none) (λ_=>.inl rfl) (.inr ⟨_,vs.toArray,_,hk,rfl,rfl,rfl,by rw [qg,lenV];exact hl,by simpa using rv⟩) (λb u z=>by have z':(none:Option HO)=some u:=z;cases z') (λb z=>absurd rfl z) λz=>absurd rfl z
 | none =>
   refine core (λb=>if b=a then some (.frz { cls:=.type "list",data:=.seq vs.toArray } (.lst (ns.map V.int))) else none) (λb=>?_) (.inl (.inr ⟨{ cls:=.type "list",data:=.seq vs.toArray },zP rfl⟩)) (λb u z=>?_) (λb z=>?_) λ_=>hk
   ·by_cases hb:b=a
    ·exact .inr ⟨_,_,zP hb⟩
    ·exact .inl (zO hb)
   ·by_cases hb:b=a
    ·have z':=(zP hb).symm.trans z
     cases z';subst hb;exact ⟨ha,by rw [qe];exact hl,vs,_,rv,ha⟩
    ·have z':=(zO hb).symm.trans z
     cases z'
   ·by_cases hb:b=a
    ·exact hb
    ·exact absurd (zO hb) z
abbrev KOf {K:Frag}{h:Heap}(_:K.In h):Frag:=K
theorem walk_of {l:PySem.W.OpenLaw}{n k:Nat}{q:Program}{loose:List Str}{XP:(Str->Option Value)->Heap->Prop}{YP:World->Heap->Prop}{d:DefRec}{K:Params->Frag}{CX:World->CXT}{sp:World->Sp}{x:Str}
 (hn:l.most=some n) (hn2:n<=sizeLine) (hdf:d.params.defaults=[]) (hr:Room k callerA)
 (hY:∀ (w:World) (h:Heap),YP w h->(K w.params).In h)
 (F:∀ (w:World) (mg:Str->Option Value) (fa:Addr) (h:Heap),(K w.params).In h->h.Ns mainGlobals mg->mg d.name=some (.ref fa) ->
  ∃ fd:FuncData,(∀ (s:Shared) (u:Value),BindsTo s fd ⟨[u],[]⟩ [(x,u)]) /\
    ∀ base:Heap,(K w.params).In base->base.Ns mainGlobals mg->FnOk l.prog w (K w.params) mg base (CX w) k fa fd [x] (sp w))
 (hsp:∀ (w:World) (H:Hp) (a:Addr) (ns:List Int),ns.length<=n->JfJ H->SqL (K w.params) H a (ns.map V.int)->sp w [.ref a] H (λv _=>v=.bl true) λ_ _ _=>False)
 (hCX:∀ (w:World) (H:Hp) (s:Shared) (e:Value) (s':Shared),CX w [] H s (λ_ _ _=>False) e s'->False) :
 PySem.W.WalkO q loose XP YP l.row.toRowW d [] (λf vs=>PySem.call f vs):=by
 refine Att.attach_call hn hdf λw s₀ s₁ mg mb fa o pm cd doc a vs ns G Y ho hd hcd hmg hobj hints hlen hg=>?_;have KX:=hY w _ Y;obtain ⟨fd,hb,hF⟩:=F w mg fa _ KX G.T.g hmg;exact law_call KX G.T.g G.T.b G.T.builtins G.T.nolimit hg hobj hints (z9 hlen hn2) hr hF hb (λH hO hS=>hsp w H a ns hlen hO hS) λH e s'=>hCX w H s₁ e s'
def J13 (s:Stmt):Arguments:=match s with
 | .FunctionDef _ a _ _ _ _ _ _ _ _=>a
 | _=>{ posonlyargs:=[],args:=[],vararg:=none,kwonlyargs:=[],kw_defaults:=[],kwarg:=none,defaults:=[] }
def J0H (s:Stmt):List Stmt:=match s with
 | .FunctionDef _ _ b _ _ _ _ _ _ _=>b
 | _=>[]
def Jf (s:Stmt):Scope:=match s with
 | .FunctionDef _ _ _ _ _ _ sc _ _ _=>sc
 | _=>{ kind:=.function,names:=[],isGenerator:=false,isCoroutine:=false }
abbrev CX0:CXT:=λ_ _ _ _ _ _=>False
abbrev E0:XK:=λ_ _ _=>False
theorem J2e {X:Cx}:J40 CX0 X E0:=λ_ _ _ _ _ _ _ h=>h.elim
structure Fun (K:Frag)(x qual:Str)(st:Stmt)(f:Addr)(fd:FuncData):Prop where
 ex:∃ (oc:Value) (od:Option Addr) (kV doc pm:Value) (an:Option Addr) (cdv ct:Value) (osl:Array (Option Value)),
  fd=PySem.W.fnOf x qual (J13 st) (J0H st) (Jf st) .none kV doc pm an cdv ct/\K.lookup f=some ⟨oc,od,.func fd,osl⟩/\PySem.W.codeIn K cdv qual=true
 kp:PySem.W.keepIn K (.ref f)=true
section
variable {P:Program}{w:World}{K:Frag}{mg:Str->Option Value}{base:Heap}
theorem Fun.ok {x qual:Str}{st:Stmt}{f:Addr}{fd:FuncData}{N ps:List Str}{k:Nat}{sp:Sp}(F:Fun K x qual st f fd)(S:FnScope N ps (Jf st))(len:∀ vs H Q E,sp vs H Q E->vs.length=ps.length)
 (hbody:∀ (cdv:Value) (A:Around) (outer:List Env) (s:Shared) (H:Hp) (vs:List V) (Q:VK) (E:XK),Room k (A.deeper (envOfC qual (Jf st) s.heap.objs.size f cdv))->sp vs H Q E ->
  ∃ t,PSs (J4S CX0 P w K mg base N qual (Jf st) f cdv A outer s H E).nox (J0H st) t/\t { nx:=λ_ H'=>Q .non H',rt:=Q } (J26 N vs) H):FnOk P w K mg base CX0 (k+1) f fd ps sp:=by
 obtain ⟨oc,od,kV,doc,pm,an,cdv,ct,osl,rfl,lk,hcd⟩:=F.ex;refine JeG lk hcd S len λA outer s H vs Q E hr hsp=>?_;obtain ⟨t,h,q⟩:=hbody cdv A outer s H vs Q E hr hsp;exact ⟨t,h.nox,q⟩
theorem Fun.binds {x qual:Str}{st:Stmt}{f:Addr}{fd:FuncData}{ps:List Str}(F:Fun K x qual st f fd)
 (h:∀ (kV doc pm:Value) (an:Option Addr) (cdv ct:Value) (us:List Value),us.length=ps.length->bindArgs (PySem.W.fnOf x qual (J13 st) (J0H st) (Jf st) .none kV doc pm an cdv ct) ⟨us,[]⟩=pure (ps.zip us)):Binds K fd ps []:=by
 obtain ⟨oc,od,kV,doc,pm,an,cdv,ct,osl,rfl,lk,hcd⟩:=F.ex;exact .all (h kV doc pm an cdv ct)
theorem Jfu {x qual:Str}{st:Stmt}{f:Addr}{oc:Value}{od an:Option Addr}{osl:Array (Option Value)}{kV doc pm cdv ct:Value}(l:K.lookup f=some ⟨oc,od,.func (PySem.W.fnOf x qual (J13 st) (J0H st) (Jf st) .none kV doc pm an cdv ct),osl⟩)
 (c:PySem.W.codeIn K cdv qual=true) (k:PySem.W.keepIn K (.ref f)=true):Fun K x qual st f (PySem.W.fnOf x qual (J13 st) (J0H st) (Jf st) .none kV doc pm an cdv ct):=⟨⟨oc,od,kV,doc,pm,an,cdv,ct,osl,rfl,l,c⟩,k⟩
end
theorem JH {A:Around}{k:Nat}(hr:Room k A):A.units+1<cLine:=Nat.lt_of_le_of_lt (Nat.add_le_add_left (by decide:1<=64) _) hr.units
theorem Jg9 {c A B:Prop}[Decidable c](h1:c->A)(h2:¬ c->B):if c then A else B:=by
 by_cases h:c
 ·rw [zP h]
  exact h1 h
 ·rw [zO h]
  exact h2 h
def Same (H H':Hp):Prop:=∀ b o,H b=some o->H' b=some o
theorem Same.refl (H:Hp):Same H H:=λ_ _ h=>h
theorem Same.trans {H H1 H2:Hp}(a:Same H H1)(b:Same H1 H2):Same H H2:=λc o h=>b c o (a c o h)
theorem Same.seq {K:Frag}{H H':Hp}{a:Addr}{xs:List V}(e:Same H H')(h:SqL K H a xs):SqL K H' a xs:=by
 rcases h with (h | ⟨o,h⟩) | h
 ·exact .inl (.inl (e _ _ h))
 ·exact .inl (.inr ⟨o,e _ _ h⟩)
 ·exact .inr h
section
variable {X:Cx}
theorem JbU:J04 X (.builtin "len") (λxs H Q=>∃ a kvs,xs=[V.ref a]/\H a=some (.dK kvs)/\Q (.int kvs.length) H):=by
 intro pins s σ H xs us Q I r h;obtain ⟨a,kvs,rfl,ha,q⟩:=h;obtain ⟨u,rfl,ru⟩:=J0N r;cases ru;exact Jga I (.inl ha) λt s' I'=>⟨.int kvs.length,H,I',⟨t,rfl⟩,q⟩
end
abbrev Jcl (ifs:List Expr)(env:Env):Sem Bool :=
 forIn ifs true λc r=>if r=true then do let ok <- isTrue c env (eval c env);pure (ForInStep.yield ok) else pure (ForInStep.yield r)
theorem JbR {prog:Program}{w:World}{A:Around}{R:Result->Shared->Prop}{s:Shared}{elt tg iter:Expr}{ifs:List Expr}{scope:Scope}{pos:Pos}{it acc:Value}{env:Env}(I:Nat->Shared->Prop)
 (turn : ∀ n s,I n s->wpAny (model prog w) A (pyNext it) (λr s1=>match r with
  | none=>R (.ok .next) s1
  | some v=>wpAny (model prog w) A (letOwnedTupleGo tg it v) (λ_ s2=>wpAny (model prog w) A (assign tg env v) (λ_ s3=>wpAny (model prog w) A (Jcl ifs env) (λok s4 =>
   if ok=true then wpAny (model prog w) A (eval elt env) (λx s5=>wpAny (model prog w) A (call (.builtin "list.append") [acc,x]) (λ_ s6=>∃ m,m<n/\I m s6) (λ_ _=>False) s5) (λ_ _=>False) s4
   else ∃ m,m<n/\I m s4) (λ_ _=>False) s3) (λ_ _=>False) s2) (λ_ _=>False) s1) (λ_ _=>False) s)
 (n:Nat) (h:I n s):codeAny (model prog w) A (.compLoop (.ListComp elt [⟨tg,iter,ifs,0⟩] scope pos) 0 it acc env) R s:=by
 refine codeAny_loop rfl I (λn s hI=>?_) n h;show wpAny _ A ((compTurn (.ListComp elt [⟨tg,iter,ifs,0⟩] scope pos) 0 it acc env).onRaise (λx=>do noteFrame x env;theTreesLotGoes x)) _ _ s;refine wpAny_noted (wpAny_noRaise ?_);rw [compTurn_list];refine zM (wpAny_standAt (zM (thn (turn n s hI) λr s1 h1=>?_)));cases r with
 | none=>exact zN h1
 | some v =>
   refine zM (thn h1 λ_ s2 h2=>zM (thn h2 λ_ s3 h3=>zM (thn h3 λok s4 h4=>?_)));cases ok with
   | false=>exact zN ⟨rfl,h4⟩
   | true=>exact zM (zM (thn h4 λx s5 h5=>zM (thn h5 λ_ s6 h6=>zN (zN ⟨rfl,h6⟩))))
theorem closure_go (env:Env):∀ (names:List (Str×NameKind)) (cs:List (Str×Addr)),(∀ n,(n,NameKind.free)∈names->∃ c,env.cells.lookup n=some c)->(∀ n c,cs.lookup n=some c->env.cells.lookup n=some c) ->
 ∃ cl,(forIn names cs λ(p:Str×NameKind) (r:List (Str×Addr))=>(if p.2 == NameKind.free then do let c <- cellOf env p.1;pure (ForInStep.yield ((p.1,c)::r)) else pure (ForInStep.yield r):Sem (ForInStep (List (Str×Addr)))))=pure cl /\
   (∀ n c,cl.lookup n=some c->env.cells.lookup n=some c)/\(∀ n,((n,NameKind.free)∈names\/∃ c,cs.lookup n=some c)->∃ c,cl.lookup n=some c)
 | [],cs,_,hcs=>⟨cs,rfl,hcs,λn h=>h.elim (λz=>nomatch z) id⟩
 | (m,k)::r,cs,hn,hcs=>by
   cases hk:k == NameKind.free with
   | false =>
     obtain ⟨cl,e,h1,h2⟩:=closure_go env r cs (λn z=>hn n (ql _ z)) hcs;refine ⟨cl,?_,h1,λn z=>h2 n ?_⟩
     ·rw [forIn_cons];simp only [hk];exact e
     ·rcases z with z | z
      ·rcases qo.mp z with q | q
       ·cases q;simp at hk
       ·exact .inl q
      ·exact .inr z
   | true =>
     have ek:k=NameKind.free:=by simpa using hk
     subst ek;obtain ⟨c,hc⟩:=hn m qm;obtain ⟨cl,e,h1,h2⟩:=closure_go env r ((m,c)::cs) (λn z=>hn n (ql _ z)) (λn c' z=>by
      by_cases q:n=m
      ·subst q;simp [lookup_cons] at z;subst z;exact hc
      ·rw [lookup_cons,beq_eq_false_iff_ne.mpr q] at z;exact hcs n c' z)
     refine ⟨cl,?_,h1,λn z=>h2 n ?_⟩
     ·rw [forIn_cons];simp only [cellOf,hc];exact e
     ·rcases z with z | ⟨c',z⟩
      ·rcases qo.mp z with q | q
       ·cases q;exact .inr ⟨c,by simp [lookup_cons]⟩
       ·exact .inl q
      ·by_cases q:n=m
       ·subst q;exact .inr ⟨c,by simp [lookup_cons]⟩
       ·exact .inr ⟨c',by rw [lookup_cons,beq_eq_false_iff_ne.mpr q];exact z⟩
theorem Jap {scope:Scope}{env:Env}(hn:∀ n,(n,NameKind.free)∈scope.names->∃ c,env.cells.lookup n=some c) :
 ∃ cl,closureFor scope env=pure cl/\(∀ n c,cl.lookup n=some c->env.cells.lookup n=some c)/\(∀ n,(n,NameKind.free)∈scope.names->∃ c,cl.lookup n=some c):=by
 obtain ⟨cl,e,h1,h2⟩:=closure_go env scope.names [] hn (λ_ _ z=>nomatch z);refine ⟨cl,?_,h1,λn z=>h2 n (.inl z)⟩;unfold closureFor;simp only [bind_pure];exact e
def JU (names onames:List (Str×NameKind)):List (Str×NameKind) :=
 names.map λ(n,k)=>if (k == .free&&onames.lookup n == some .cell) then (n,.cell) else (n,k)
def Jdi (sc osc:Scope)(N rest:List Str):Bool :=
 (sc.kind == .function&&osc.kind == .function&&sc.names.all λy=>y.2 != .cell&&(y.2 != .local||sc.names.lookup y.1 == some .local)&&(y.2 != .free||osc.names.lookup y.1 == some .cell||osc.names.lookup y.1 == some .free))
 && N.length == rest.length&&(N.zip rest).all λp=>match (JU sc.names osc.names).lookup p.2 with
  | some .local=>false
  | some .cell=>p.1 == p.2&&(p.2,NameKind.free)∈sc.names&&(osc.names.lookup p.2 == some .cell||osc.names.lookup p.2 == some .free)
  | some .free=>p.1 == p.2&&(p.2,NameKind.free)∈sc.names&&(osc.names.lookup p.2 == some .cell||osc.names.lookup p.2 == some .free)
  | _=>true
structure CompSc (sc osc:Scope)(N rest:List Str):Prop where
 kind:sc.kind=.function
 okind:osc.kind=.function
 cell:∀ y∈sc.names,y.2≠.cell
 loc:∀ y∈sc.names,y.2=.local->sc.names.lookup y.1=some .local
 free:∀ n,(n,NameKind.free)∈sc.names->osc.names.lookup n=some .cell\/osc.names.lookup n=some .free
 len:N.length=rest.length
 look:∀ (i:Nat) x,rest[i]?=some x->((JU sc.names osc.names).lookup x=some .local\/(JU sc.names osc.names).lookup x=some .cell\/(JU sc.names osc.names).lookup x=some .free) ->
  N[i]?=some x/\(x,NameKind.free)∈sc.names/\(osc.names.lookup x=some .cell\/osc.names.lookup x=some .free)/\((JU sc.names osc.names).lookup x=some .cell\/(JU sc.names osc.names).lookup x=some .free)
theorem Jv {sc osc:Scope}{N rest:List Str}(h:Jdi sc osc N rest=true):CompSc sc osc N rest:=by
 unfold Jdi at h;simp only [Bool.and_eq_true,beq_iff_eq,all_eq_true] at h;obtain ⟨⟨⟨⟨hk,hok⟩,hy⟩,hl⟩,hz⟩:=h;refine ⟨hk,hok,λy z e=>?_,λy z e=>?_,λn z=>?_,hl,λi x e v=>?_⟩
 ·have:=(hy y z).1.1;rw [e] at this;simp at this
 ·have:=(hy y z).1.2;rw [e] at this;simpa using this
 ·have:=(hy _ z).2;simpa using this
 ·have hi:i<rest.length:=(qd.mp e).1
  have hi':i<N.length:=by omega
  have hN:N[i]?=some N[i]:=qc hi';have hm:(N[i],x)∈N.zip rest:=by
   refine qi (i:=i) ?_;rw [List.getElem?_zip_eq_some];exact ⟨hN,e⟩
  have q:=hz _ hm;dsimp only at q;rcases v with v | v | v
  ·rw [v] at q;simp at q
  ·rw [v] at q;simp only [Bool.and_eq_true,beq_iff_eq,Bool.or_eq_true,decide_eq_true_eq] at q
   obtain ⟨⟨q1,q2⟩,q3⟩:=q;exact ⟨by rw [hN,q1],q2,q3,.inl v⟩
  ·rw [v] at q;simp only [Bool.and_eq_true,beq_iff_eq,Bool.or_eq_true,decide_eq_true_eq] at q
   obtain ⟨⟨q1,q2⟩,q3⟩:=q;exact ⟨by rw [hN,q1],q2,q3,.inr v⟩
theorem J1Z {sc:Scope}{env:Env}(hk:env.scope.kind=.function):(relabel sc env).names=JU sc.names env.scope.names:=by
 unfold relabel JU Env.kindOf;simp [hk]
theorem Jcn {names onames:List (Str×NameKind)}(hc:∀ y∈names,y.2≠.cell){x:Str}(h:(JU names onames).lookup x=some .cell\/(JU names onames).lookup x=some .free):(x,NameKind.free)∈names:=by
 have hm:(x,NameKind.cell)∈JU names onames\/(x,NameKind.free)∈JU names onames:=h.imp PySem.mem_of_lookup PySem.mem_of_lookup;rcases hm with hm | hm
 ·obtain ⟨⟨n,k⟩,hn,e⟩:=qy.mp hm
  dsimp only at e
  split at e
  ·rename_i hh;cases e;simp at hh;obtain ⟨rfl,_⟩:=hh;exact hn
  ·cases e;exact absurd rfl (hc _ hn)
 ·obtain ⟨⟨n,k⟩,hn,e⟩:=qy.mp hm
  dsimp only at e
  split at e
  ·cases e
  ·cases e;exact hn
def JZ (X:Cx)(scope:Scope)(N':List Str)(cl:List (Str×Addr))(s2:Shared)(H2:Hp)(C:Addr)(fp:List Addr):Cx :=
 { X with N:=N',s₀:=s2,H₀:=H2,env:=compEnvC scope cl C X.env,outer:=X.stack,stack:=X.stack,ex:=fp,fn:=λ_=>false,pn:=[],xe:=λ_ _=>False }
section
variable {X:Cx}{pins:List (Addr×Obj)}{σ:St}{H2:Hp}{s2:Shared}{scope:Scope}{own rest:List Str}{cl:List (Str×Addr)}{fp:List Addr}{C:Addr}
theorem JbS (I:Inv X pins σ H2 s2)(S:CompSc scope X.env.scope X.N rest)(h1:∀ n c,cl.lookup n=some c->X.env.cells.lookup n=some c)(h2:∀ n,(n,NameKind.free)∈scope.names->∃ c,cl.lookup n=some c)
 (hC:s2.heap.objs.size<=C) (hf:∀ b∈fp,J37 X pins H2 b) (ho:∀ b∈fp,∃ o,s2.heap.get? b=some o):(JZ X scope (own++rest) cl s2 H2 C fp).Ok where
 mod:=I.ok.mod
 kind:=S.kind
 glob:=I.ok.glob
 blt:=I.ok.blt
 above:=hC
 inj:=λx y c e1 e2=>I.ok.inj x y c (h1 x c e1) (h1 y c e2)
 has:=λx hx=>h2 x (Jcn S.cell (by
  have e:(JZ X scope (own++rest) cl s2 H2 C fp).env.kindOf x=(JU scope.names X.env.scope.names).lookup x:=congrArg (List.lookup x) (J1Z (sc:=scope) I.ok.kind);rw [e] at hx;exact hx))
 cab:=λ_ _ z=>nomatch z
 hd:=I.ok.hd
 frames:=I.ok.frames
 stk:=.inl rfl
 exf:=λb hb=>by
  obtain ⟨o,e⟩:=ho b hb;exact ⟨zV (zY (qH e) hC),λx c e=>(hf b hb).2.2.2.2.1 x c (h1 x c e)⟩
 bs:=I.bs
 bsz:=z9 I.ok.bsz I.sz
 noex:=λb o e hb=>by
  rcases (hf b hb).2.2.2.1 with z | z
  ·exact I.ok.noex b o e z
  ·exact absurd (zY (qH e) (z9 I.ok.bsz z)) (Nat.lt_irrefl _)
 exfs:=λb hb z=>by
  rcases qo.mp (I.stkSub b z) with q | q
  ·exact (hf b hb).2.1 q
  ·exact (hf b hb).2.2.1 q
 funs:=I.stack
 frf:=I.stkFree
theorem comp_start {h1:Heap}{t1:Nat}(I:Inv X pins σ H2 s2)(S:CompSc scope X.env.scope X.N rest)(hc1:∀ n c,cl.lookup n=some c->X.env.cells.lookup n=some c)(hc2:∀ n,(n,NameKind.free)∈scope.names->∃ c,cl.lookup n=some c)
 (hC:s2.heap.objs.size<=C) (hf:∀ b∈fp,J37 X pins H2 b) (ho:∀ b∈fp,∃ o,s2.heap.get? b=some o)
 (old:∀ b o,s2.heap.get? b=some o->h1.get? b=some o) (ns:h1.Ns C λ_=>none) :
 Inv (JZ X scope (own++rest) cl s2 H2 C fp) [] (List.replicate own.length none++σ) H2 { s2 with heap:=h1,toks:=t1 }:=by
 obtain ⟨m,hn,hl⟩:=id I.loc;have hv:∀ x,Vis (JZ X scope (own++rest) cl s2 H2 C fp).env.scope x->((JU scope.names X.env.scope.names).lookup x=some .local\/(JU scope.names X.env.scope.names).lookup x=some .cell\/(JU scope.names X.env.scope.names).lookup x=some .free):=λx z=>by
  have e:(JZ X scope (own++rest) cl s2 H2 C fp).env.scope.names=JU scope.names X.env.scope.names:=J1Z (sc:=scope) I.ok.kind;unfold Vis at z;rw [e] at z;exact z
 refine ⟨JbS I S hc1 hc2 hC hf ho,rfl,I.bare,Un.kept old,⟨_,ns,λi x v e1 e2 e3=>?_⟩,λx c e=>?_,I.hok.fresh hC,λx c e=>I.freeC x c (hc1 x c e),λp hp=>absurd (show p∈([]:List (Addr×Obj)) from hp) (by simp),I.hok.kept old,?_⟩
 ·have e1':(own++rest)[i]?=some x:=e1
  by_cases hi:i<own.length
  ·rw [qA (by simpa using hi),List.getElem?_replicate] at e2
   split at e2<;>cases e2
  ·have hi':own.length<=i:=Nat.le_of_not_lt hi
   rw [qz (by simpa using hi'),qD] at e2;rw [qz hi'] at e1';obtain ⟨q1,q2,q3,q4⟩:=S.look _ x e1' (hv x e3);obtain ⟨u,r,l⟩:=hl (i - own.length) x v q1 e2 (q3.elim (λz=>.inr (.inl z)) λz=>.inr (.inr z));refine ⟨u,r,.inr ⟨?_,?_⟩⟩
   ·have e:(JZ X scope (own++rest) cl s2 H2 C fp).env.kindOf x=(JU scope.names X.env.scope.names).lookup x:=congrArg (List.lookup x) (J1Z (sc:=scope) I.ok.kind)
    rw [e];exact q4
   ·rcases l with ⟨k,_⟩ | ⟨_,c,e,z⟩
    ·have k':X.env.scope.names.lookup x=some .local:=k
     rcases q3 with q3 | q3<;>(rw [q3] at k';cases k')
    ·obtain ⟨c',e'⟩:=hc2 x q2
     have e2:=hc1 x c' e';rw [e] at e2;cases e2;obtain ⟨o,q,d⟩:=z;exact ⟨c,e',o,old c o q,d⟩
 ·obtain ⟨v,o,q,d⟩:=I.cell x c (hc1 x c e)
  exact ⟨v,o,old c o q,d⟩
 ·show _=(own++rest).length
  have:=I.len;have:=S.len;simp only [qj,qD];omega
theorem Jdh {H':Hp}{s':Shared}{σ':St}{D:Addr}{ys:List V}{its:List Value}{n:Nat}{pins':List (Addr×Obj)}(I:Inv X pins σ H2 s2)(J:Inv (JZ X scope (own++rest) cl s2 H2 C fp) pins' σ' H' s')(hf:∀ b∈fp,J37 X pins H2 b)
 (hD:s2.heap.objs.size<=D) (hDn:H' D=none) (hDo:s'.heap.get? D=some { cls:=.type "list",data:=.seq its.toArray n }) (r:Vals ys its) (hz:ys.length<=sizeLine) :
 Inv X pins σ (upd H' D (.lst ys)) s':=by
 have u:Un (frs X.stack) fp H2 H' s2.heap s'.heap:=J.base;have nD:∀ b o,s2.heap.get? b=some o->b≠D:=λb o e=>zV (zY (qH e) hD);refine I.call' (ch:=fp) J.os ⟨u.keep,u.slot,λb o e n hx=>?_,u.there,λb xs e=>?_,λb o v e=>?_,λb ps e=>?_⟩ (λb o e=>?_) J.bare λb hb=>?_
 ·rw [Jj (nD b o e)];exact u.free b o e n hx
 ·rw [Jj (JY (u.tups b xs e) hDn)];exact u.tups b xs e
 ·rw [Jj (JY (u.frzs b o v e) hDn)];exact u.frzs b o v e
 ·obtain ⟨more,q⟩:=u.tbls b ps e
  exact ⟨more,by rw [Jj (JY q hDn)];exact q⟩
 ·by_cases hb:b=D
  ·subst hb;rw [Jd] at e;cases e;exact ⟨hz,its,n,r,hDo⟩
  ·rw [Jj hb] at e
   exact (J.hok b o e).stay (λc v _ q=>q) (λc q=>by rw [Jj (JY q hDn)];exact q) λc xs q=>by rw [Jj (JY q hDn)];exact q
 ·obtain ⟨_,f1,_,f3,f4,f5⟩:=hf b hb
  exact ⟨f3,f1,f4,f5⟩
end
def PTs (X:Cx)(ifs:List Expr)(t:TT):Prop :=
 ∀ (pins:List (Addr×Obj)) (s:Shared) (σ:St) (H:Hp) (Q:Bool->Hp->Prop),Inv X pins σ H s->t σ H Q->wpAny (model X.prog X.w) X.A (Jcl ifs X.env) (TP X pins σ Q) X.xe s
def Jb3:TT:=λ_ H Q=>Q true H
theorem JI {X:Cx}:PTs X [] Jb3:=λ_ _ _ H _ I h=>wpAny_tests_nil ⟨H,I,h⟩
theorem J5q {X:Cx}{c:Expr}{t:TT}(h:PT X c t):PTs X [c] t:=λpins s σ H Q I q=>wpAny_tests_one (h pins s σ H Q I q)
def J6r (J:It)(g:TG)(tt:TT)(te:TE)(fin:List V->Hp->Prop)(σ0:St)(H1:Hp):Prop :=
 ∃ W : Nat->Nat->List V->St->Hp->Prop,(∃ m,W 0 m [] σ0 H1)/\∀ i m ys σ H,W i m ys σ H ->
   (J.stop i H/\fin ys H)\/(J.go i H/\ys.length<sizeLine/\∃ N:List V->St->Hp->Prop,(∀ ys' σ' H',N ys' σ' H'->∃ m',m'<m/\W (i+1) m' ys' σ' H') /\
    ∀ x H',J.yld i H x H'->g x σ H' λσ2 H2=>tt σ2 H2 λb H3=>if b=true then te σ2 H3 λy H4=>N (ys++[y]) σ2 H4 else N ys σ2 H3)
section
variable {X:Cx}{pins:List (Addr×Obj)}{σ:St}{H2:Hp}{s2:Shared}{scope:Scope}{own rest:List Str}{cl:List (Str×Addr)}{fp:List Addr}{E:Value->Shared->Prop}
theorem comp_run {elt tg iter:Expr}{ifs:List Expr}{pos:Pos}{J:It}{it:Addr}{tn:Nat->Heap->Prop}{g:TG}{tt:TT}{te:TE}{fin:List V->Hp->Prop}{RR:Value->Addr->Result->Shared->Prop}{D:Nat}(hD:s2.heap.objs.size=D)(hcalm:X.calm=true)
 (I:Inv X pins σ H2 s2) (S:CompSc scope X.env.scope X.N rest) (hc1:∀ n c,cl.lookup n=some c->X.env.cells.lookup n=some c) (hc2:∀ n,(n,NameKind.free)∈scope.names->∃ c,cl.lookup n=some c)
 (T:Turn X.prog X.w X.K tg J fp it tn) (st:tn 0 s2.heap) (hf:∀ b∈fp,J37 X pins H2 b)
 (hg:PG (JZ X scope (own++rest) cl s2 H2 (D+1:Nat) fp) tg g) (ht:PTs (JZ X scope (own++rest) cl s2 H2 (D+1:Nat) fp) ifs tt)
 (he:PE (JZ X scope (own++rest) cl s2 H2 (D+1:Nat) fp) elt te)
 (hw:J6r J g tt te fin (List.replicate own.length none++σ) H2)
 (hR:∀ (s':Shared) (H':Hp) (ys:List V),Inv X pins σ (upd H' D (.lst ys)) s'->(∃ m,s'.heap.Ns (D+1:Nat) m)->H' D=none->H' (D+1:Nat)=none->fin ys H'->RR (.ref D) (D+1:Nat) (.ok .next) s') :
 wpAny (model X.prog X.w) X.A (newList []) (λacc s3=>wpAny (model X.prog X.w) X.A (newFunctionEnv scope X.env.globals cl [] X.env.qual none .none (some X.env)) (λcenv s4 =>
  codeAny (model X.prog X.w) X.A (.compStart (.ListComp elt [⟨tg,iter,ifs,0⟩] scope pos) 0 (.ref it) acc { cenv with scope:=relabel scope X.env }) (RR acc cenv.locals) s4) E s3) E s2:=by
 refine wpAny_newObj_type (wpAny_newFunctionEnv S.cell (by intro y hy;simp at hy) (λh1 hns hsb=>?_) S.kind);dsimp only at hns hsb ⊢;generalize hHp:s2.heap.push { cls:=.type "list",dict:=none,data:=.seq ([]:List Value).toArray }=Hp2 at hns hsb ⊢;have hC:Hp2.objs.size=s2.heap.objs.size+1:=by rw [<- hHp,Heap.size_push]
 rw [hD] at hC;rw [hC] at hns hsb ⊢;rw [hD];have nDC:D≠D+1:=zV (Nat.lt_succ_self _);have below:∀ b o,s2.heap.get? b=some o->b<D:=λb o e=>by rw [<- hD];exact qH e
 have old:∀ b o,s2.heap.get? b=some o->h1.get? b=some o:=λb o e=>by
  exact hsb.extBut b o (zV (Nat.lt_succ_of_lt (below b o e))) (qF _ (hHp ▸ qF _ e))
 have hDo:h1.get? D=some { cls:=.type "list",data:=.seq ([]:List Value).toArray 0 } :=
  hsb.extBut _ _ nDC (qF _ (by rw [<- hHp,<- hD];exact qG _ rfl))
 have hfo:∀ b∈fp,∃ o,s2.heap.get? b=some o:=λb hb=>let ⟨o,e,_⟩:=T.obj 0 _ st b hb;⟨o,e⟩;have st1:tn 0 h1:=T.keep _ _ _ st λb hb o e=>old b o e;have J0:Inv (JZ X scope (own++rest) cl s2 H2 (D+1:Nat) fp) [] (List.replicate own.length none++σ) H2 { s2 with heap:=h1,toks:=s2.toks } :=
  comp_start I S hc1 hc2 (by omega) hf hfo old hns
 have nfs:D∉(JZ X scope (own++rest) cl s2 H2 (D+1:Nat) fp).fs:=λz=>by
  have z':D∈frs X.stack:=z;rcases qo.mp (I.stkSub D z') with q | q
  ·exact Nat.lt_irrefl D (by have h:=I.lt;rw [<- q,hD] at h;exact h)
  ·exact I.nofs (Nat.le_of_eq hD) q
 have ncl:∀ x c,(JZ X scope (own++rest) cl s2 H2 (D+1:Nat) fp).env.cells.lookup x=some c->c≠D:=λx c e z=>by
  obtain ⟨v,o,q,d⟩:=I.cell x c (hc1 x c e);exact zV (below c o q) z
 have loop:∀ s3:Shared,s3={ s2 with heap:=h1,toks:=s2.toks } ->
  codeAny (model X.prog X.w) X.A (.compLoop (.ListComp elt [⟨tg,iter,ifs,0⟩] scope pos) 0 (.ref it) (.ref D) (compEnvC scope cl (D+1) X.env)) (RR (.ref D) (D+1)) s3:=by
  rintro s3 rfl;obtain ⟨W,⟨m0,w0⟩,turn⟩:=hw;refine JbR (λm s'=>∃ (i:Nat) (ys:List V) (its:List Value) (n:Nat) (σ':St) (H':Hp),Inv (JZ X scope (own++rest) cl s2 H2 (D+1:Nat) fp) [] σ' H' s'/\tn i s'.heap/\(∀ b∈fp,H' b=none) /\
   s'.heap.get? D=some { cls:=.type "list",data:=.seq its.toArray n }/\H' D=none/\Vals ys its/\ys.length<=sizeLine/\W i m ys σ' H') ?_ m0
   ⟨0,[],[],0,_,H2,J0,st1,λb hb=>(hf b hb).1,hDo,by rw [<- hD];exact I.fresh,.nil,by simp,w0⟩
  rintro m s3 ⟨i,ys,its,n,σ3,H3,J3,st3,fr3,ho3,hn3,r3,z3,w3⟩;have pin:∀ {σ':St} {H':Hp} {s':Shared},Inv (JZ X scope (own++rest) cl s2 H2 (D+1:Nat) fp) [] σ' H' s'->s'.heap.get? D=some { cls:=.type "list",data:=.seq its.toArray n }->H' D=none ->
   Inv (JZ X scope (own++rest) cl s2 H2 (D+1:Nat) fp) [(D,{ cls:=.type "list",data:=.seq its.toArray n })] σ' H' s':=λ{σ' H' s'} K1 K2 K3 =>
   K1.pins_of λp hp=>by
    have e:p=(D,{ cls:=.type "list",data:=.seq its.toArray n }):=by simpa using hp
    subst e;exact ⟨K2,K3,nDC,nfs,λv z=>nomatch z⟩
  have fpk:∀ {H':Hp},(∀ b∈fp,H' b=none)->∀ b∈fp,J37 (JZ X scope (own++rest) cl s2 H2 (D+1:Nat) fp) [(D,{ cls:=.type "list",data:=.seq its.toArray n })] H' b:=λ{H'} fr b hb=>by
   obtain ⟨o,e⟩:=hfo b hb;have lt:=below b o e;refine ⟨fr b hb,zV (Nat.lt_succ_of_lt lt),?_,.inl hb,λx c q=>(hf b hb).2.2.2.2.1 x c (hc1 x c q),λp hp=>?_⟩
   ·intro z
    have z':b∈frs X.stack:=z;rcases qo.mp (I.stkSub b z') with q | q
    ·exact (hf b hb).2.1 q
    ·exact (hf b hb).2.2.1 q
   ·have e:p=(D,{ cls:=.type "list",data:=.seq its.toArray n }):=by
     have hp':p∈[(D,({ cls:=.type "list",data:=.seq its.toArray n }:Obj))]:=hp;simpa using hp'
    subst e;exact Nat.ne_of_gt lt
  have J3p:=pin J3 ho3 hn3;rcases turn i m ys σ3 H3 w3 with ⟨stop,q⟩ | ⟨go,hlt,N,hN,step⟩
  ·refine thn (T.done (JZ X scope (own++rest) cl s2 H2 (D+1:Nat) fp) rfl rfl rfl hcalm i _ s3 σ3 H3 _ J3p (fpk fr3) st3 stop) λr s4 ⟨hr,J4⟩=>?_
   subst hr;have ho4:=J4.pin _ (qv _ qm);refine hR s4 H3 ys (Jdh I J4 hf (by omega) hn3 ho4.1 r3 z3) ?_ hn3 J4.free q;obtain ⟨mm,hmm,_⟩:=J4.loc;exact ⟨mm,hmm⟩
  ·refine thn (T.item (JZ X scope (own++rest) cl s2 H2 (D+1:Nat) fp) rfl rfl rfl hcalm i _ s3 σ3 H3 _ J3p (fpk fr3) st3 go) λr s4 ⟨u,hr,h4⟩=>?_
   subst hr;refine thn h4 λ_ s5 ⟨x,H5,J5,r5,y5,st5,fr5⟩=>?_;have J5':=J5.pinned (fpk fr5) (T.obj _ _ st5);refine thn (hg _ s5 σ3 H5 x u _ J5' r5 (step x H5 y5)) λ_ s6 ⟨σ6,H6,J6,q6⟩=>?_;refine thn (ht _ s6 σ6 H6 _ J6 q6) λb s7 ⟨H7,J7,q7⟩=>?_;have stay:∀ {σ':St} {H':Hp} {s':Shared},Inv (JZ X scope (own++rest) cl s2 H2 (D+1:Nat) fp) ([(D,{ cls:=.type "list",data:=.seq its.toArray n })]++J62 fp s5.heap) σ' H' s' ->
    Inv (JZ X scope (own++rest) cl s2 H2 (D+1:Nat) fp) [] σ' H' s'/\tn (i+1) s'.heap/\(∀ b∈fp,H' b=none)/\s'.heap.get? D=some { cls:=.type "list",data:=.seq its.toArray n }/\H' D=none:=λ{σ' H' s'} K1=>by
    refine ⟨K1.pins_of λp hp=>absurd hp (by simp),T.keep _ _ _ st5 λb hb o e=>(K1.pin (b,o) (qv _ (qv _ (J2x hb e)))).1,λb hb=>?_,?_,?_⟩
    ·obtain ⟨o,e,d⟩:=T.obj _ _ st5 b hb
     exact (K1.pin (b,o) (qv _ (qv _ (J2x hb e)))).2.1
    ·exact (K1.pin (D,_) (qv _ (qw _ qm))).1
    ·exact (K1.pin (D,_) (qv _ (qw _ qm))).2.1
   cases b with
   | false =>
     rw [zO zR] at q7 ⊢;obtain ⟨k1,k2,k3,k4,k5⟩:=stay J7;obtain ⟨m',hm,w'⟩:=hN _ _ _ q7;exact ⟨m',hm,i+1,ys,its,n,σ6,H7,k1,k2,k3,k4,k5,r3,z3,w'⟩
   | true =>
     rw [zP rfl] at q7 ⊢;refine thn (he _ s7 σ6 H7 _ J7 q7) λxv s8 ⟨y,H8,J8,r8,q8⟩=>?_;obtain ⟨k1,k2,k3,k4,k5⟩:=stay J8;refine call_meets F.slot_list_append ⟨_,k4,rfl⟩ F.entry_list_append (F.args_list_append_2 _ _) (PySem.list_append D its.toArray n xv (by rw [qg,<- r3.length];omega)) ⟨k4,?_⟩;obtain ⟨m',hm,w'⟩:=hN _ _ _ q8;have ho9:=PySem.IsL.update k4 (λa=>a.push xv);have ek:∀ b o,b≠D->s8.heap.get? b=some o->(s8.heap.update D (Obj.mapSeq (λa=>a.push xv))).get? b=some o:=λb o hb e=>(qI s8.heap (Obj.mapSeq _) (Ne.symm hb)).trans e;refine ⟨m',hm,i+1,ys++[y],its++[xv],(if ((its.toArray.push xv).size == its.toArray.size)=true then n else n+1),σ6,H8,k1.turned (it:=D) (t':=s8.toks) ek k5 nDC (.inr (show s2.heap.objs.size<=D by omega)) ncl (λp hp=>absurd (show p∈([]:List (Addr×Obj)) from hp) (by simp)),?_,k3,?_,k5,r3.append (.cons r8 .nil),?_,w'⟩
     ·refine T.keep _ _ _ k2 λb hb o e=>ek b o ?_ e
      obtain ⟨o',e'⟩:=hfo b hb;exact zV (below b o' e')
     ·have e2:its.toArray.push xv=(its++[xv]).toArray:=by simp
      rw [<- e2];exact ho9
     ·simp only [qj,length_cons,length_nil];omega
 exact codeAny_compStart_list (loop _ rfl) (T.self X.A 0 _ _ _ st1 (loop _ rfl))
end
def J5I (k:Nat)(wi:TI)(g:TG)(tt:TT)(te:TE):TE:=λσ H Q=>wi σ H λJ H1=>J6r J g tt te (λys H'=>∀ D,H' D=none->Q (.ref D) (upd H' D (.lst ys))) (List.replicate k none++σ) H1
section
variable {X:Cx}{elt tg iter:Expr}{ifs:List Expr}{scope:Scope}{pos:Pos}{wi:TI}{g:TG}{tt:TT}{te:TE}
theorem Inv.closed {pins:List (Addr×Obj)}{σ:St}{H:Hp}{s:Shared}{N rest:List Str}(I:Inv X pins σ H s)(S:CompSc scope X.env.scope N rest) :
 ∃ cl,closureFor scope X.env=pure cl/\(∀ n c,cl.lookup n=some c->X.env.cells.lookup n=some c)/\(∀ n,(n,NameKind.free)∈scope.names->∃ c,cl.lookup n=some c) :=
 Jap λn z=>I.ok.has n (S.free n z)
theorem Inv.letgo {pins pins':List (Addr×Obj)}{σ σ':St}{H H':Hp}{s s':Shared}{b:Addr}{h':Heap}(I:Inv X pins σ H s)(J:Inv X pins σ' H' s')(hb:s.heap.objs.size<=b)(hn:H' b=none)(sb:Heap.SameBut b s'.heap h'):Inv X pins σ' H' { s' with heap:=h' }:=by
 obtain ⟨f0,f1,f2,f3,f4,f5⟩:=I.fpOk hb hn;exact J.turned (t':=s'.toks) (λc o hc e=>(sb.2 c hc).trans e) f0 f1 f3 f4 f5
theorem JJ (own rest:List Str)(hcalm:X.calm=true)(S:CompSc scope X.env.scope X.N rest)(hi:PI X tg iter wi)
 (hg:∀ cl s2 H2 C fp,PG (JZ X scope (own++rest) cl s2 H2 C fp) tg g) (ht:∀ cl s2 H2 C fp,PTs (JZ X scope (own++rest) cl s2 H2 C fp) ifs tt) (he:∀ cl s2 H2 C fp,PE (JZ X scope (own++rest) cl s2 H2 C fp) elt te)
 (hs:∀ x,foldedSetIterable iter X.env x=pure x:=by intro _;rfl):PE X (.ListComp elt [⟨tg,iter,ifs,0⟩] scope pos) (J5I own.length wi g tt te):=by
 intro pins s σ H Q I h;obtain ⟨cl,hcl,hc1,hc2⟩:=I.closed S;rw [eval_ListComp];refine wpAny_comprehension_free (use:=none) rfl hs hcl S.kind S.loc (thn (hi pins s σ H _ I h) λv s1 h1=>thn h1 λitv s2 h2=>?_);obtain ⟨it,fp,tn,J,H2,e,I2,T,st,hf,hw⟩:=h2;subst e;refine comp_run (RR:=λacc C=>compPost (model X.prog X.w) X.A X.xe none (EP X pins σ Q) acc C) (D:=s2.heap.objs.size) rfl hcalm I2 S hc1 hc2 T st hf (hg _ _ _ _ _) (ht _ _ _ _ _) (he _ _ _ _ _) hw ?_;intro s' H' ys J' ⟨m,hm⟩ hD hC q;refine ⟨m,hm,λh' sb=>⟨.ref s2.heap.objs.size,_,I2.letgo (pins':=pins) (b:=(s2.heap.objs.size+1:Nat)) J' (Nat.le_succ _) ?_ sb,rfl,q _ hD⟩⟩;rw [Jj (Nat.ne_of_gt (Nat.lt_succ_self _))];exact hC
theorem J5r {i:Nat}{y:Str}{py spos:Pos}(own rest:List Str)(hcalm:X.calm=true)(S:CompSc scope X.env.scope X.N rest)(hN:X.N.Nodup)(hy:X.N[i]?=some y)(hl:X.env.scope.names.lookup y=some .local)(hi:PI X tg iter wi)
 (hg:∀ cl s2 H2 C fp,PG (JZ X scope (own++rest) cl s2 H2 C fp) tg g) (ht:∀ cl s2 H2 C fp,PTs (JZ X scope (own++rest) cl s2 H2 C fp) ifs tt) (he:∀ cl s2 H2 C fp,PE (JZ X scope (own++rest) cl s2 H2 C fp) elt te)
 (hsw:swapsWith (.ListComp elt [⟨tg,iter,ifs,0⟩] scope pos) (some (.Name y py)) spos.line X.env=pure true:=by rfl)
 (hs:∀ x,foldedSetIterable iter X.env x=pure x:=by intro _;rfl):PS X (.Assign [.Name y py] (.ListComp elt [⟨tg,iter,ifs,0⟩] scope pos) spos) (J4t (J5I own.length wi g tt te) (JN i)):=by
 intro pins s σ H D I h;obtain ⟨cl,hcl,hc1,hc2⟩:=I.closed S;rw [exec_Assign_Name_used _ _ _ _ hsw];refine zM (wpAny_standAt (zM ?_));show wpAny _ X.A (do let _ <- comprehension (.ListComp elt [⟨tg,iter,ifs,0⟩] scope pos) scope X.env _ (newList []) false (eval iter X.env) (some (assign (.Name y py) X.env))) _ _ s;refine zM (wpAny_mono (wpAny_comprehension_free (use:=some (assign (.Name y py) X.env)) (Q:=λ_ s'=>SP X pins D .next s') rfl hs hcl S.kind S.loc (thn (hi pins s σ H _ I h) λv s1 h1=>thn h1 λitv s2 h2=>?_)) (λ_ s' hq=>zN (zN hq)) λ_ _ e=>e);obtain ⟨it,fp,tn,J,H2,e,I2,T,st,hf,hw⟩:=h2;subst e;refine comp_run (RR:=λacc C=>compPost (model X.prog X.w) X.A X.xe (some (assign (.Name y py) X.env)) (λ_ s'=>SP X pins D .next s') acc C) (D:=s2.heap.objs.size) rfl hcalm I2 S hc1 hc2 T st hf (hg _ _ _ _ _) (ht _ _ _ _ _) (he _ _ _ _ _) hw ?_;intro s' H' ys J' ⟨m,hm⟩ hD hC q;show wpAny _ X.A (assign (.Name y py) X.env (.ref s2.heap.objs.size)) _ _ s';refine wpAny_assign_Name (store_ok2 (v:=.ref s2.heap.objs.size) J' hN hy (.inl hl) rfl (λs3 J3 ⟨a,sb,ha⟩=>?_) (.inr hl));have hne:s2.heap.objs.size+1≠a:=by
  rcases ha with ha | ha
  ·rw [ha];exact Nat.ne_of_gt (Nat.lt_succ_of_lt I2.lt)
  ·obtain ⟨v,o,e,d⟩:=I2.cell y a ha
   exact Nat.ne_of_gt (Nat.lt_succ_of_lt (qH e))
 refine ⟨m,hm.sameBut sb hne,λh' sb'=>⟨_,_,I2.letgo (pins':=pins) (b:=(s2.heap.objs.size+1:Nat)) J3 (Nat.le_succ _) ?_ sb',q _ hD⟩⟩;rw [Jj (Nat.ne_of_gt (Nat.lt_succ_self _))];exact hC
end
structure Walk (J:It)(xs:List V)(ok:Hp->Prop):Prop where
 go:∀ i H,ok H->i<xs.length->J.go i H
 yld:∀ i H x H',ok H->i<xs.length->J.yld i H x H'->H'=H/\xs[i]?=some x
 stop:∀ H,ok H->J.stop xs.length H
theorem JC {K:Frag}{a:Addr}{xs:List V}:Walk (Itl K a) xs (λH=>SqL K H a xs) where
 go:=λi H q hi=>⟨xs,xs[i],q,by simp [hi]⟩
 yld:=λi H x H' q _ y=>⟨y.1,y.2 xs q⟩
 stop:=λH q=>⟨xs,q,zQ _⟩
theorem J0q {K:Frag}{a:Addr}{xs:List V}:Walk (Itt K a) xs (λH=>SqT K H a xs) where
 go:=λi H q hi=>⟨xs,xs[i],q,by simp [hi]⟩
 yld:=λi H x H' q _ y=>⟨y.1,y.2 xs q⟩
 stop:=λH q=>⟨xs,q,zQ _⟩
def J4I (lo:Int)(n:Nat):List V:=(List.range n).map λ(i:Nat)=>V.int (lo+i)
theorem JK (lo:Int)(n:Nat):(J4I lo n).length=n:=by simp [J4I]
theorem J5X {lo:Int}{n i:Nat}(h:i<n):(J4I lo n)[i]?=some (.int (lo+i)):=by simp [J4I,h]
theorem J07 {lo:Int}{n:Nat}:Walk (Itr lo n) (J4I lo n) (λ_=>True) where
 go:=λi H _ hi=>by rw [JK] at hi;exact hi
 yld:=λi H x H' _ hi y=>⟨y.1,by rw [JK] at hi;rw [J5X hi,y.2]⟩
 stop:=λH _=>Nat.le_of_eq (JK lo n).symm
theorem Jd6 {J:It}{xs:List V}{ok:Hp->Prop}(w:Walk J xs ok){g:TG}{tb:TS}{D:Ends}{σ:St}{H:Hp}(Pv:Nat->St->Hp->Prop)(h0:Pv 0 σ H)(hl:∀ i σ H,i<=xs.length->Pv i σ H->ok H)
 (hs:∀ i x σ H,xs[i]?=some x->Pv i σ H->g x σ H λσ2 H2=>tb { D with nx:=Pv (i+1),ct:=Pv (i+1),bk:=D.nx } σ2 H2) (hd:∀ σ H,Pv xs.length σ H->D.nx σ H) :
 ∃ W:Nat->Nat->St->Hp->Prop,(∃ m,W 0 m σ H)/\∀ i m σ H,W i m σ H ->
   (J.stop i H/\D.nx σ H)\/(J.go i H/\∃ N:St->Hp->Prop,(∀ σ' H',N σ' H'->∃ m',m'<m/\W (i+1) m' σ' H')/\∀ x H',J.yld i H x H'->g x σ H' λσ2 H2=>tb { D with nx:=N,ct:=N,bk:=D.nx } σ2 H2):=by
 refine ⟨λi m σ H=>m=xs.length - i/\i<=xs.length/\Pv i σ H,⟨xs.length,by simp,zZ _,h0⟩,?_⟩;rintro i m σ H ⟨rfl,hi,p⟩;have q:=hl i σ H hi p;by_cases hlt:i<xs.length
 ·refine .inr ⟨w.go i H q hlt,Pv (i+1),λσ' H' p'=>⟨xs.length - (i+1),by omega,rfl,hlt,p'⟩,λx H' y=>?_⟩
  obtain ⟨e,y'⟩:=w.yld i H x H' q hlt y;subst e;exact hs i x σ _ y' p
 ·have e:i=xs.length:=by omega
  subst e;exact .inl ⟨w.stop H q,hd σ H p⟩
theorem JM {J:It}{xs:List V}{ok:Hp->Prop}(w:Walk J xs ok){tt:TT}{te:TE}{fin:List V->Hp->Prop}{σ:St}{H:Hp}(hz:xs.length<=sizeLine)(Pv:Nat->List V->Hp->Prop)(h0:Pv 0 [] H)(hl:∀ i ys H,i<=xs.length->Pv i ys H->ok H)
 (hlen:∀ i ys H,Pv i ys H->ys.length<=i)
 (hs:∀ i x ys H,xs[i]?=some x->Pv i ys H->tt (some x::σ) H λb H3=>if b=true then te (some x::σ) H3 λy H4=>(∃ o,some x::σ=o::σ)/\Pv (i+1) (ys++[y]) H4 else (∃ o,some x::σ=o::σ)/\Pv (i+1) ys H3) (hd:∀ ys H,Pv xs.length ys H->fin ys H) :
 J6r J (JN 0) tt te fin (List.replicate 1 none++σ) H:=by
 refine ⟨λi m ys σ' H=>m=xs.length - i/\i<=xs.length/\(∃ o,σ'=o::σ)/\Pv i ys H,⟨xs.length,by simp,zZ _,⟨none,rfl⟩,h0⟩,?_⟩;rintro i m ys σ' H ⟨rfl,hi,⟨o,rfl⟩,p⟩;have hy:=hlen i ys H p;have q:=hl i ys H hi p;by_cases hlt:i<xs.length
 ·refine .inr ⟨w.go i H q hlt,by omega,λys' σ' H'=>(∃ o,σ'=o::σ)/\Pv (i+1) ys' H',λys' σ' H' p'=>⟨xs.length - (i+1),by omega,rfl,hlt,p'⟩,λx H' y=>?_⟩
  obtain ⟨e,y'⟩:=w.yld i H x H' q hlt y;subst e;exact hs i x ys _ y' p
 ·have e:i=xs.length:=by omega
  subst e;exact .inl ⟨w.stop H q,hd ys H p⟩
def sgn (c:Nat):V:=.str ⟨#[c]⟩
def Its (z:Str):It:=⟨λi _=>i<z.cps.size,λi H x H'=>H'=H/\∃ c,z.cps[i]?=some c/\x=sgn c,λi _=>i=z.cps.size⟩
theorem J5A {P:Program}{w:World}{K:Frag}{tg:Expr}{it:Addr}{T:String}{z:Str}{t:Tok}(hT:["enumerate","zip","dict_itemiterator","dict_reverseitemiterator","odict_iterator","itertools.zip_longest","itertools.pairwise"].contains T=false)
 (W:∀ A:Around,A.handled=none->Walks P w A it [it] [it] z.cps.size (SignAt z) (λi h=>h.IsStrIter it T z t i)) (S:∀ (A:Around) (i:Nat) (s:Shared) (Q:Value->Shared->Prop) (E:Value->Shared->Prop),s.heap.IsStrIter it T z t i->Q (.ref it) s->wpAny (model P w) A (pyIter (.ref it)) Q E s) :
 Turn P w K tg (Its z) [it] it (λi h=>h.IsStrIter it T z t i) where
 mem:=by simp
 obj:=λi h st b hb=>by
  have e:b=it:=by simpa using hb
  subst e;obtain ⟨o,e,c,d⟩:=st;exact ⟨o,e,λv z=>by rw [d] at z;cases z⟩
 keep:=λi h h' st k=>by obtain ⟨o,e,r⟩:=st;exact ⟨o,k it (by simp) o e,r⟩
 item:=by
  intro X hP hw hK hc i pins s σ H E I hf st hg;subst hP hw hK;obtain ⟨f0,f1,f2,f3,f4,f5⟩:=hf it (by simp);refine (W X.A (I.ok.hd hc)).item i s _ E hg st λv h' tk hP st' k=>?_;obtain ⟨c,u,hcu,rfl⟩:=hP;have I1:Inv X pins σ H { s with heap:=h',toks:=tk }:=I.turned (t':=tk) (λb o hb e=>k b o (by simpa using hb) e) f0 f1 f3 f4 f5;obtain ⟨o,e,c',d⟩:=id st';exact ⟨_,rfl,go_of (s:={ s with heap:=h',toks:=tk }) e c' d hT ⟨sgn c,H,I1,⟨u,rfl⟩,⟨rfl,c,hcu,rfl⟩,st',λb hb=>(hf b hb).1⟩⟩
 done:=by
  intro X hP hw hK hc i pins s σ H E I hf st hg;subst hP hw hK;obtain ⟨f0,f1,f2,f3,f4,f5⟩:=hf it (by simp);have hg':i=z.cps.size:=hg;subst hg';exact (W X.A (I.ok.hd hc)).done s _ E st λh' tk k=>⟨rfl,I.turned (t':=tk) (λb o hb e=>k b o (by simpa using hb) e) f0 f1 f3 f4 f5⟩
 self:=λA i s Q E st h=>S A i s Q E st h
section
variable {X:Cx}{tg:Expr}
def Jd1 (tl:TE):TI:=λσ H R=>tl σ H λx H1=>∃ z,x=.str z/\R (Its z) H1
theorem Jf3 {l:Expr}{tl:TE}(hl:PE X l tl):PI X tg l (Jd1 tl):=by
 intro pins s σ H R I h;refine thn (hl pins s σ H _ I h) λv s1 ⟨x,H1,I1,r1,q1⟩=>?_;obtain ⟨z,e,q⟩:=q1;subst e;obtain ⟨t,rfl⟩:=r1;have fp:∀ (o:Obj),∀ b∈[s1.heap.objs.size],J37 X pins H1 b:=λo b hb=>by
  have e:b=s1.heap.objs.size:=by simpa using hb
  subst e;exact I1.fpOk (zQ _) (I1.hok.fresh (zQ _))
 cases ha:z.cps.all (·<128)
 ·refine wpAny_pyIter_wide ha ?_
  exact ⟨s1.heap.objs.size,[s1.heap.objs.size],_,_,H1,rfl,I1.kept (t':=s1.toks) λb o e=>qF _ e,
   J5A (by decide) (λA hA=>Walks.strWide hA _ z t) (λ_ _ _ _ _ st h=>wpAny_pyIter_striter_wide st h),⟨_,qG _ rfl,rfl,rfl⟩,fp default,q⟩
 ·refine wpAny_pyIter_ascii ha ?_
  exact ⟨s1.heap.objs.size,[s1.heap.objs.size],_,_,H1,rfl,I1.kept (t':=s1.toks) λb o e=>qF _ e,
   J5A (by decide) (λA hA=>Walks.strAscii hA _ z t) (λ_ _ _ _ _ st h=>wpAny_pyIter_striter_ascii st h),⟨_,qG _ rfl,rfl,rfl⟩,fp default,q⟩
end
def J7G (z:Str):List V:=z.cps.toList.map sgn
theorem J5O (z:Str):(J7G z).length=z.length:=by simp [J7G,Str.length]
mutual
def Rep (K:Frag)(H:Hp):PyData->V->Prop
 | .none,v=>v=.non
 | .bool b,v=>v=.bl b
 | .int i,v=>v=.int i
 | .str x,v=>v=.str x
 | .list ds,v=>∃ a xs,v=.ref a/\SqL K H a xs/\Reps K H ds xs
 | .tuple ds,v=>∃ a xs,v=.ref a/\SqT K H a xs/\Reps K H ds xs
 | .dict _,_=>False
def Reps (K:Frag)(H:Hp):List PyData->List V->Prop
 | [],vs=>vs=[]
 | d::ds,vs=>∃ v r,vs=v::r/\Rep K H d v/\Reps K H ds r
end
section
variable {X:Cx}{pins:List (Addr×Obj)}{σ:St}{H:Hp}{s:Shared}
mutual
theorem Rep.reads (I:Inv X pins σ H s):∀ (d:PyData) (v:V) (u:Value),Rep X.K H d v->RelV v u->∃ as,Reads s.heap u d as
 | .none,v,u,h,r=>by
   have e:v=.non:=by simpa [Rep] using h
   subst e;cases r;exact ⟨_,.none⟩
 | .bool b,v,u,h,r=>by
   have e:v=.bl b:=by simpa [Rep] using h
   subst e;cases r;exact ⟨_,.bool b⟩
 | .int i,v,u,h,r=>by
   have e:v=.int i:=by simpa [Rep] using h
   subst e;obtain ⟨t,rfl⟩:=r;exact ⟨_,.int i t⟩
 | .str x,v,u,h,r=>by
   have e:v=.str x:=by simpa [Rep] using h
   subst e;obtain ⟨t,rfl⟩:=r;exact ⟨_,.str x t⟩
 | .list ds,v,u,h,r=>by
   obtain ⟨a,xs,rfl,hs,hr⟩:∃ a xs,v=.ref a/\SqL X.K H a xs/\Reps X.K H ds xs:=by simpa only [Rep] using h
   cases r;obtain ⟨its,rv,p,hz⟩:=I.list hs;obtain ⟨o,ho,hc,n,hd⟩:=p.isList;obtain ⟨as,q⟩:=Reps.reads I ds xs its hr rv;exact ⟨_,.list ho hc hd (by simpa using q)⟩
 | .tuple ds,v,u,h,r=>by
   obtain ⟨a,xs,rfl,hs,hr⟩:∃ a xs,v=.ref a/\SqT X.K H a xs/\Reps X.K H ds xs:=by simpa only [Rep] using h
   cases r;obtain ⟨its,rv,p,hz⟩:=I.tuple hs;obtain ⟨o,ho,hc,n,hd⟩:=p;obtain ⟨as,q⟩:=Reps.reads I ds xs its hr rv;exact ⟨_,.tuple ho hc hd (by simpa using q)⟩
 | .dict _,v,u,h,r=>by simp [Rep] at h
theorem Reps.reads (I:Inv X pins σ H s):∀ (ds:List PyData) (vs:List V) (us:List Value),Reps X.K H ds vs->Vals vs us->∃ as,ReadsAll s.heap us ds as
 | [],vs,us,h,r=>by
   have e:vs=[]:=by simpa [Reps] using h
   subst e;cases r;exact ⟨_,.nil⟩
 | d :: ds,vs,us,h,r=>by
   obtain ⟨v,q,rfl,h1,h2⟩:∃ v r,vs=v::r/\Rep X.K H d v/\Reps X.K H ds r:=by simpa only [Reps] using h
   cases r with
   | cons r1 r2 =>
     obtain ⟨as,q1⟩:=Rep.reads I d v _ h1 r1;obtain ⟨bs,q2⟩:=Reps.reads I ds q _ h2 r2;exact ⟨_,.cons q1 q2⟩
end
end
section
variable {X:Cx}
def J8S (K:Frag)(neg:Bool):R2:=λx y H Q=>∃ d e,Rep K H d x/\Rep K H e y/\SeqAt.shaped d=true/\SeqAt.shaped e=true/\Q (.bl (if neg then !PyData.eqv d e else PyData.eqv d e)) H
theorem Jfa (hu:X.A.units+64<cLine):OpR X (compareOp .Eq) (J8S X.K false):=by
 intro pins s σ H x y v u Q I rx ry h;obtain ⟨d,e,h1,h2,h3,h4,q⟩:=h;obtain ⟨as,q1⟩:=Rep.reads I d x v h1 rx;obtain ⟨bs,q2⟩:=Rep.reads I e y u h2 ry;exact eq_dataH q1 q2 h3 h4 hu (JD I q rfl)
def Jgi (K:Frag):List V->Hp->VK->Prop:=λxs H Q=>∃ x T t b,xs=[x,.ty T]/\TyOf K H x t/\PySem.W.kitOne K t (.type T)=some b/\Q (.bl b) H
theorem Jdm:J04 X (.builtin "isinstance") (Jgi X.K):=by
 intro pins s σ H xs us Q I r h;obtain ⟨x,T,t,b,rfl,ty,e,q⟩:=h;obtain ⟨u,c,rfl,ru,rc⟩:=J5z r;cases rc;exact JbJ I ru ty e λtk=>⟨.bl b,H,I.tok _,rfl,q⟩
theorem J6m:∀ {bs:List Bool} {us:List Value},Vals (bs.map V.bl) us->LSm.BoolsAre us bs
 | [],_,.nil=>.nil
 | _::_,_,.cons r t=>by cases r;exact .cons _ (J6m t)
def J8T (K:Frag)(g:List Bool->Bool):List V->Hp->VK->Prop:=λxs H Q=>∃ a bs,xs=[.ref a]/\SqL K H a (bs.map V.bl)/\Q (.bl (g bs)) H
theorem Jdq (hc:X.calm=true):J04 X (.builtin "all") (J8T X.K λbs=>bs.all id):=by
 intro pins s σ H xs us Q I r h;obtain ⟨a,bs,rfl,hs,q⟩:=h;obtain ⟨u,rfl,ru⟩:=J0N r;cases ru;obtain ⟨its,rv,p,hz⟩:=I.list hs;have hl:=p.isList;have hb:=J6m rv;have hlt:a<s.heap.objs.size:=by obtain ⟨_,e,_⟩:=hl;exact qH e
 refine call_all_walk (wpAny_pyIter_list hl ?_);refine ⟨s.heap.objs.size,[s.heap.objs.size,a],[s.heap.objs.size],its.toArray.size,_,_,λi=>(bs[i]?).getD true,rfl,Walks.list (A:=X.A.in1) (I.ok.hd hc) _ a (zV hlt) its.toArray,
  ⟨⟨_,qG _ rfl,rfl,rfl⟩,hl.push _⟩,λi v s' Q' E' hP hQ=>?_,λh' tk hk=>?_⟩
 ·obtain ⟨b,e,rfl⟩:=hb.get i v (by simpa using hP)
  simp only [e,Option.getD_some] at hQ;exact wpAny_truthy_bool hQ
 ·have e:((List.range its.toArray.size).all λi=>(bs[i]?).getD true)=bs.all id:=by
   rw [qg,hb.length];exact LSm.range_all bs
  rw [e];exact ⟨.bl (bs.all id),H,I.kept (LSm.kept_iter hk),rfl,q⟩
theorem Jdp (hc:X.calm=true):J04 X (.builtin "any") (J8T X.K λbs=>bs.any id):=by
 intro pins s σ H xs us Q I r h;obtain ⟨a,bs,rfl,hs,q⟩:=h;obtain ⟨u,rfl,ru⟩:=J0N r;cases ru;obtain ⟨its,rv,p,hz⟩:=I.list hs;have hl:=p.isList;have hb:=J6m rv;have hlt:a<s.heap.objs.size:=by obtain ⟨_,e,_⟩:=hl;exact qH e
 refine call_any_walk (wpAny_pyIter_list hl ?_);refine ⟨s.heap.objs.size,[s.heap.objs.size,a],[s.heap.objs.size],its.toArray.size,_,_,λi=>(bs[i]?).getD false,rfl,Walks.list (A:=X.A.in1) (I.ok.hd hc) _ a (zV hlt) its.toArray,
  ⟨⟨_,qG _ rfl,rfl,rfl⟩,hl.push _⟩,λi v s' Q' E' hP hQ=>?_,λh' tk hk=>?_⟩
 ·obtain ⟨b,e,rfl⟩:=hb.get i v (by simpa using hP)
  simp only [e,Option.getD_some] at hQ;exact wpAny_truthy_bool hQ
 ·have e:((List.range its.toArray.size).any λi=>(bs[i]?).getD false)=bs.any id:=by
   rw [qg,hb.length];exact LSm.range_any bs
  rw [e];exact ⟨.bl (bs.any id),H,I.kept (LSm.kept_iter hk),rfl,q⟩
theorem Jax:∀ {ys:List Str} {us:List Value},Vals (ys.map V.str) us->StrsAre us ys
 | [],_,.nil=>.nil
 | _::_,_,.cons r t=>by obtain ⟨k,rfl⟩:=r;exact .cons _ _ (Jax t)
def Jcr (K:Frag):V->List V->Hp->VK->Prop:=λx vs H Q=>∃ z a ys,x=.str z/\vs=[.ref a]/\SqL K H a (ys.map V.str)/\(ys.map (·.length)).sum+ys.length * z.length<=16777216/\Q (.str (Txt.join z ys)) H
theorem Jea:MtR X "str.join" (Jcr X.K):=by
 intro pins s σ H x vs v us Q I rx rv h;obtain ⟨z,a,ys,rfl,rfl,hs,hz,q⟩:=h;obtain ⟨t,rfl⟩:=rx;obtain ⟨u,rfl,ru⟩:=rv.one;cases ru;obtain ⟨its,r2,p,_⟩:=I.list hs;exact join_list p.isList (by simpa using Jax r2) hz λt' k=>⟨.str _,H,I.tok _,⟨_,rfl⟩,q⟩
end
section
variable {X:Cx}
structure DefOk (K:Frag)(mg:Str->Option Value)(x:Str)(st:Stmt)(ps:List Str)(f:Addr)(fd:FuncData):Prop where
 F:Fun K x x st f fd
 b:Binds K fd ps []
 m:mg x=some (.ref f)
theorem pvl (i:Nat){x:Str}{pos:Pos}(hN:X.N[i]?=some x:=by rfl)(hv:X.env.scope.names.lookup x=some .local:=by rfl)(hd:(x == ("__debug__":Str))=false:=by decide)(hcd:(x == ("__classdict__":Str))=false:=by decide):PE X (.Name x pos) (J1T i):=JcC hN (.inl hv) hd hcd
theorem pvc (i:Nat){x:Str}{pos:Pos}(hN:X.N[i]?=some x:=by rfl)(hv:X.env.scope.names.lookup x=some .cell:=by rfl)(hd:(x == ("__debug__":Str))=false:=by decide)(hcd:(x == ("__classdict__":Str))=false:=by decide):PE X (.Name x pos) (J1T i):=JcC hN (.inr (.inl hv)) hd hcd
theorem pgl (i:Nat){x:Str}{pos:Pos}(hN:X.N.Nodup)(hi:X.N[i]?=some x:=by rfl)(hv:X.env.scope.names.lookup x=some .local:=by rfl):PG X (.Name x pos) (JN i):=JaI hN hi (.inl hv) (.inr hv)
theorem pgc (i:Nat){x:Str}{pos:Pos}(hN:X.N.Nodup)(hi:X.N[i]?=some x:=by rfl)(hv:X.env.scope.names.lookup x=some .cell:=by rfl)(hf:X.fn x=true:=by rfl):PG X (.Name x pos) (JN i):=JaI hN hi (.inr hv) (.inl hf)
theorem psl (i:Nat){x:Str}{pos pos':Pos}{e:Expr}{te:TE}(hN:X.N.Nodup)(he:PE X e te)(hi:X.N[i]?=some x:=by rfl)(hv:X.env.scope.names.lookup x=some .local:=by rfl)(hs:swapsWith e (some (.Name x pos')) pos.line X.env=pure false:=by rfl) :
 PS X (.Assign [.Name x pos'] e pos) (J4t te (JN i)):=Jcw hN hi (.inl hv) he hs (.inr hv)
theorem psc (i:Nat){x:Str}{pos pos':Pos}{e:Expr}{te:TE}(hN:X.N.Nodup)(he:PE X e te)(hi:X.N[i]?=some x:=by rfl)(hv:X.env.scope.names.lookup x=some .cell:=by rfl)(hs:swapsWith e (some (.Name x pos')) pos.line X.env=pure false:=by rfl)(hf:X.fn x=true:=by rfl) :
 PS X (.Assign [.Name x pos'] e pos) (J4t te (JN i)):=Jcw hN hi (.inr hv) he hs (.inl hf)
theorem pgi {x:Str}{i:Int}{pos:Pos}(hm:∃ tk,X.mg x=some (.int i tk))(hg:Gl X x:=by rfl)(hd:(x == ("__debug__":Str))=false:=by decide):PE X (.Name x pos) (tC (.int i)):=let ⟨t,e⟩:=hm;J7Q hg e ⟨t,rfl⟩ hd
theorem pgs {x:Str}{z:Str}{pos:Pos}(hm:∃ tk,X.mg x=some (.str z tk))(hg:Gl X x:=by rfl)(hd:(x == ("__debug__":Str))=false:=by decide):PE X (.Name x pos) (tC (.str z)):=let ⟨t,e⟩:=hm;J7Q hg e ⟨t,rfl⟩ hd
theorem pty {x:Str}{T:String}{pos:Pos}(hm:X.mg x=none)(hv:bootBuiltins x=some (.type T))(hg:Gl X x:=by rfl)(hn:x≠"__name__":=by decide)(hd:(x == ("__debug__":Str))=false:=by decide):PE X (.Name x pos) (tC (.ty T)):=Je3 hg hm hv rfl hn hd
end
theorem Same.new {H H':Hp}(e:Same H H'){p:Addr}(h:H' p=none)(o:HO):Same H (upd H' p o):=λb q z=>by
 rw [Jj (JY (e b q z) h)];exact e b q z
theorem Same.upd_new {H:Hp}{p:Addr}(h:H p=none)(o:HO):Same H (upd H p o):=(Same.refl H).new h o
theorem Same.set {H H':Hp}(e:Same H H'){p:Addr}(h:H p=none)(o:HO):Same H (upd H' p o):=λb q z=>by
 rw [Jj (JY z h)];exact e b q z
theorem Same.seqT {K:Frag}{H H':Hp}{a:Addr}{xs:List V}(e:Same H H')(h:SqT K H a xs):SqT K H' a xs:=by
 rcases h with (h | ⟨o,h⟩) | h
 ·exact .inl (.inl (e _ _ h))
 ·exact .inl (.inr ⟨o,e _ _ h⟩)
 ·exact .inr h
theorem JA:bootBuiltins "len"=some (.builtin "len"):=by decide +kernel
theorem J35:bootBuiltins "all"=some (.builtin "all"):=by decide +kernel
theorem JfC:bootBuiltins "any"=some (.builtin "any"):=by decide +kernel
theorem JfD:bootBuiltins "abs"=some (.builtin "abs"):=by decide +kernel
theorem Jds:bootBuiltins "min"=some (.builtin "min"):=by decide +kernel
theorem J7g:bootBuiltins "sorted"=some (.builtin "sorted"):=by decide +kernel
theorem Jr:bootBuiltins "isinstance"=some (.builtin "isinstance"):=by decide +kernel
theorem J4T:bootBuiltins "int"=some (.type "int"):=by decide +kernel
theorem J8h:bootBuiltins "str"=some (.type "str"):=by decide +kernel
theorem J8i:bootBuiltins "bool"=some (.type "bool"):=by decide +kernel
theorem J1r:bootBuiltins "list"=some (.type "list"):=by decide +kernel
theorem J03:bootBuiltins "tuple"=some (.type "tuple"):=by decide +kernel
theorem Jb {n:Nat}(h:n<=1000000):n<=sizeLine:=by rw [sizeLine_eq];omega
theorem JbZ {z:Str}:Walk (Its z) (J7G z) (λ_=>True) where
 go:=λi H _ hi=>by rw [J5O] at hi;exact hi
 yld:=λi H x H' _ hi y=>by
  obtain ⟨e,c,hc,hx⟩:=y;refine ⟨e,?_⟩;rw [hx,J7G,qq];have:z.cps.toList[i]?=some c:=by simpa using hc
  rw [this];rfl
 stop:=λH _=>J5O z
theorem JF {α:Type}{xs:List α}{i:Nat}{x:α}(h:xs[i]?=some x):xs.take (i+1)=xs.take i++[x]:=by rw [take_add_one,h];rfl
theorem comp_of {α:Type}{J:It}{as:List α}{g:α->V}{ok:Hp->Prop}(w:Walk J (as.map g) ok){tt:TT}{te:TE}{fin:List V->Hp->Prop}{σ:St}{H:Hp}(hz:as.length<=sizeLine)(h0:∀ H',Same H H'->ok H')(p:α->Bool)(f:α->V)
 (ht:∀ a H1 Q,a∈as->Same H H1->(∀ H2,Same H1 H2->Q (p a) H2)->tt (some (g a)::σ) H1 Q)
 (he:∀ a H1 Q,a∈as->p a=true->Same H H1->(∀ H2,Same H1 H2->Q (f a) H2)->te (some (g a)::σ) H1 Q)
 (hd:∀ H',Same H H'->fin ((as.filter p).map f) H'):J6r J (JN 0) tt te fin (none::σ) H:=by
 refine JM w (by rw [qe];exact hz) (λi ys H'=>Same H H'/\ys=((as.take i).filter p).map f) ⟨Same.refl H,rfl⟩ (λi ys H' _ q=>h0 H' q.1) (λi ys H' q=>?_) (λi x ys H' hx q=>?_) (λys H' q=>?_)
 ·rw [q.2,qe]
  exact z9 (length_filter_le _ _) (by rw [qk];omega)
 ·obtain ⟨s1,e⟩:=q
  rw [qq] at hx;cases ha:as[i]? with
  | none=>rw [ha] at hx;cases hx
  | some a =>
    rw [ha] at hx;have hx':g a=x:=zU hx;subst hx';have hm:a∈as:=qi ha;refine ht a H' _ hm s1 λH2 s2=>?_;cases hp:p a with
    | false =>
      rw [zO zR];exact ⟨⟨_,rfl⟩,s1.trans s2,by rw [e,JF ha,filter_append,qt];simp [hp]⟩
    | true =>
      rw [zP rfl];exact he a H2 _ hm hp (s1.trans s2) λH3 s3=>⟨⟨_,rfl⟩,(s1.trans s2).trans s3,by rw [e,JF ha,filter_append,qt];simp [hp]⟩
 ·obtain ⟨s1,e⟩:=q
  rw [e,qe,qr];exact hd H' s1
theorem J0i {α:Type}(as:List α):as.filter (λ_=>true)=as:=filter_eq_self.mpr λ_ _=>rfl
theorem Jfs (g:Str)(c:Nat):(!(Builtin.Str.occurrences g ⟨#[c]⟩ 0 g.length 1).isEmpty)=decide (c∈g.cps.toList):=PySem.StrLaws.found_one g c
def J3g:List String:=["NoneType","bool","int","str","list","tuple","dict"]
structure Pl (K:Frag)(H:Hp)(x:V)(T:String):Prop where
 ty:TyOf K H x (.type T)
 mem:T∈J3g
 sz:∀ z,x=.str z->z.length<=sizeLine
def J6e (T S:String):Bool:=T == S||(T == "bool"&&S == "int")
theorem JbK {K:Frag}{T S:String}(hT:T∈J3g)(hS:S∈J3g):PySem.W.kitOne K (.type T) (.type S)=some (J6e T S):=by
 simp only [J3g,qo,not_mem_nil,or_false] at hT hS;rcases hT with rfl | rfl | rfl | rfl | rfl | rfl | rfl<;>rcases hS with rfl | rfl | rfl | rfl | rfl | rfl | rfl<;>rfl
theorem Pl.of_str {K:Frag}{H:Hp}{z:Str}(h:z.length<=sizeLine):Pl K H (.str z) "str":=⟨.str z,by decide,λ_ e=>by cases e;exact h⟩
theorem Pl.of_int {K:Frag}{H:Hp}{i:Int}:Pl K H (.int i) "int":=⟨.int i,by decide,λ_ e=>by cases e⟩
theorem Pl.of_non {K:Frag}{H:Hp}:Pl K H .non "NoneType":=⟨.non,by decide,λ_ e=>by cases e⟩
theorem Pl.of_lst {K:Frag}{H:Hp}{a:Addr}{xs:List V}(h:H a=some (.lst xs)):Pl K H (.ref a) "list":=⟨.lst h,by decide,λ_ e=>by cases e⟩
theorem Pl.of_tup {K:Frag}{H:Hp}{a:Addr}{xs:List V}(h:H a=some (.tup xs)):Pl K H (.ref a) "tuple":=⟨.tup h,by decide,λ_ e=>by cases e⟩
theorem Pl.name {K:Frag}{H:Hp}{x:V}{T:String}(h:Pl K H x T) :
 (T="NoneType"/\x=.non)\/(∃ b,T="bool"/\x=.bl b)\/(∃ i,T="int"/\x=.int i)\/(∃ z,T="str"/\x=.str z/\z.length<=sizeLine)\/(∃ a,(T="list"\/T="tuple"\/T="dict")/\x=.ref a):=by
 obtain ⟨ty,hm,hz⟩:=h;generalize hv:Value.type T=t at ty;cases ty with
 | non=>cases hv;exact .inl ⟨rfl,rfl⟩
 | bl b=>cases hv;exact .inr (.inl ⟨b,rfl,rfl⟩)
 | int i=>cases hv;exact .inr (.inr (.inl ⟨i,rfl,rfl⟩))
 | str z=>cases hv;exact .inr (.inr (.inr (.inl ⟨z,rfl,rfl,hz z rfl⟩)))
 | flt x=>cases hv;simp [J3g] at hm
 | lst e=>cases hv;exact .inr (.inr (.inr (.inr ⟨_,.inl rfl,rfl⟩)))
 | frz e=>cases hv;exact .inr (.inr (.inr (.inr ⟨_,.inl rfl,rfl⟩)))
 | tup e=>cases hv;exact .inr (.inr (.inr (.inr ⟨_,.inr (.inl rfl),rfl⟩)))
 | dK e=>cases hv;exact .inr (.inr (.inr (.inr ⟨_,.inr (.inr rfl),rfl⟩)))
 | dT e=>cases hv;exact .inr (.inr (.inr (.inr ⟨_,.inr (.inr rfl),rfl⟩)))
 | ins e c h1 h2 h3 h4=>cases hv
def Jbk (K:Frag):List V->Hp->VK->Prop:=λxs H Q=>∃ x S T,xs=[x,.ty S]/\Pl K H x T/\S∈J3g/\Q (.bl (J6e T S)) H
theorem Jdo {X:Cx}:J04 X (.builtin "isinstance") (Jbk X.K):=by
 intro pins s σ H xs us Q I r h;obtain ⟨x,S,T,rfl,p,hS,q⟩:=h;exact Jdm pins s σ H _ us Q I r ⟨x,S,.type T,_,rfl,p.ty,JbK p.mem hS,q⟩
section
variable {X:Cx}
def JfR (K:Frag):R2:=λx y H Q=>∃ a b xs,x=.ref a/\y=.ref b/\SqL K H a xs/\SqL K H b []/\Q (.bl xs.isEmpty) H
theorem Jbt (hu:X.A.units+64<cLine):OpR X (compareOp .Eq) (JfR X.K):=by
 intro pins s σ H x y v u Q I rx ry h;obtain ⟨a,b,xs,rfl,rfl,h1,h2,q⟩:=h;cases rx;cases ry;obtain ⟨its,r1,p1,_⟩:=I.list h1;obtain ⟨it2,r2,p2,_⟩:=I.list h2;have e2:it2=[]:=by cases r2;rfl
 subst e2;have hl:=r1.length;cases xs with
 | nil =>
   have e1:its=[]:=by cases r1;rfl
   subst e1;exact SeqAt.eq_listAt (e:=λ_=>true) p1.isList p2.isList rfl (by omega) (λj h1 _=>absurd h1 (by simp)) (JD I q (by simp))
 | cons z zs =>
   refine SeqAt.eq_list_lengthsAt p1.isList p2.isList ?_ (by omega) (JD I q rfl);rw [qg,qg,<- hl];simp
end
theorem Jfr {K:Frag}{H:Hp}{p:Addr}{xs:List V}{i:Int}{Q:VK}(h:SqL K H p xs)(h0:0<=i)(h1:i<xs.length)(q:∀ v,xs[i.toNat]?=some v->Q v H):Ja0 K (.ref p) (.int i) H Q:=by
 have hj:i.toNat<xs.length:=by omega
 refine ⟨p,xs,i,xs[i.toNat],rfl,rfl,h,?_,q _ (qc hj)⟩;have e:=Jg (qc hj);rwa [Int.toNat_of_nonneg h0] at e
theorem Jfq {K:Frag}{H:Hp}{p:Addr}{xs:List V}{i:Int}{Q:VK}(h:SqT K H p xs)(h0:0<=i)(h1:i<xs.length)(q:∀ v,xs[i.toNat]?=some v->Q v H):J4K K (.ref p) (.int i) H Q:=by
 have hj:i.toNat<xs.length:=by omega
 refine ⟨p,xs,i,xs[i.toNat],rfl,rfl,h,?_,q _ (qc hj)⟩;have e:=Jg (qc hj);rwa [Int.toNat_of_nonneg h0] at e
theorem Jd0 {H:Hp}{z:Str}{i:Int}{Q:VK}(hz:z.length<=sizeLine)(h0:0<=i)(h1:i<z.length)(q:∀ c,z.cps.toList[i.toNat]?=some c->Q (sgn c) H):JeW (.str z) (.int i) H Q:=by
 have hl:z.cps.toList.length=z.length:=by simp [Str.length]
 have hj:i.toNat<z.cps.toList.length:=by omega
 refine ⟨z,i,z.cps.toList[i.toNat],rfl,rfl,hz,?_,q _ (qc hj)⟩;have e:=Jg (qc hj);rwa [Int.toNat_of_nonneg h0] at e
theorem Jej (parts:List Str)(acc:Array Nat):(parts.foldl (λacc p=>acc++(#[]:Array Nat)++p.cps) acc).toList=acc.toList++(parts.map λp=>p.cps.toList).flatten:=by
 induction parts generalizing acc with
 | nil=>simp
 | cons a r ih=>rw [foldl_cons,ih];simp
theorem JcY (parts:List Str):(Txt.join (Str.ofString "") parts).cps.toList=(parts.map λp=>p.cps.toList).flatten:=by
 show (Builtin.Str.glued (Str.ofString "") parts).cps.toList=_;have e:(Str.ofString "").cps=#[]:=by decide
 unfold Builtin.Str.glued;rw [e];cases parts with
 | nil=>rfl
 | cons a r =>
   show (r.foldl _ a.cps).toList=_;rw [Jej];simp
theorem J6j:∀ cs:List Nat,((cs.map λc=>(⟨#[c]⟩:Str)).map λp=>p.cps.toList).flatten=cs
 | []=>rfl
 | a::r=>by
   have ih:=J6j r;simp only [qp,flatten_cons,ih];rfl
theorem J9H {z:Str}{cs:List Nat}(h:z.cps.toList=cs):z=⟨cs.toArray⟩:=by
 subst h;cases z with
 | mk a=>rfl
theorem Jak (cs:List Nat):Txt.join (Str.ofString "") (cs.map λc=>⟨#[c]⟩)=⟨cs.toArray⟩ :=
 J9H ((JcY (cs.map λc=>(⟨#[c]⟩:Str))).trans (J6j cs))
theorem J6t (cs:List Nat):cs.map sgn=(cs.map λc=>(⟨#[c]⟩:Str)).map V.str:=by rw [map_map];rfl
theorem Jca (cs:List Nat):((cs.map λc=>(⟨#[c]⟩:Str)).map (·.length)).sum=cs.length:=by
 induction cs with
 | nil=>rfl
 | cons a r ih=>simp only [qp,sum_cons,ih,length_cons];show 1+_=_;omega
theorem J9f {K:Frag}{H:Hp}{p:Addr}{cs:List Nat}{Q:VK}(h:SqL K H p (cs.map sgn))(hl:cs.length<=1000000)(q:Q (.str ⟨cs.toArray⟩) H):Jcr K (.str (Str.ofString "")) [.ref p] H Q:=by
 refine ⟨Str.ofString "",p,cs.map λc=>⟨#[c]⟩,rfl,rfl,by rw [<- J6t];exact h,?_,?_⟩
 ·rw [Jca,qe]
  have e:(Str.ofString "").length=0:=by decide
  rw [e];omega
 ·rw [Jak];exact q
section
variable {X:Cx}{K:Frag}(e:X.K=K)
include e
theorem J0G:J04 X (.builtin "isinstance") (Jbk K):=by subst e;exact Jdo
theorem J53 (hc:X.calm=true):J04 X (.builtin "all") (J8T K λbs=>bs.all id):=by subst e;exact Jdq hc
theorem Jg8 (hc:X.calm=true):J04 X (.builtin "any") (J8T K λbs=>bs.any id):=by subst e;exact Jdp hc
def J8Q (K:Frag):List V->Hp->VK->Prop:=λxs H Q=>∃ p ys,xs=[.ref p]/\(SqL K H p ys\/SqT K H p ys)/\Q (.int ys.length) H
theorem JW:J04 X (.builtin "len") (J8Q K):=by subst e;exact J8g
def J8P (K:Frag):List V->Hp->VK->Prop:=λxs H Q=>∃ x n,xs=[x]/\Jgf K x H n/\Q (.int n) H
theorem JcV:J04 X (.builtin "len") (J8P K):=by subst e;exact Jdl
def J4e (K:Frag):List V->Hp->VK->Prop:=λxs H Q=>∃ p ys,xs=[.ref p]/\(SqL K H p ys\/SqT K H p ys)/\∀ l,H l=none->Q (.ref l) (upd H l (.lst ys))
theorem J86:J04 X (.type "list") (J4e K):=by subst e;exact J8f
def J2d (K:Frag):List V->Hp->VK->Prop:=λxs H Q=>∃ p ys,xs=[.ref p]/\((SqL K H p ys/\∀ l,H l=none->Q (.ref l) (upd H l (.tup ys)))\/(SqT K H p ys/\Q (.ref p) H))
theorem J1P:J04 X (.type "tuple") (J2d K):=by subst e;exact J6K
theorem J05:IxR X (Ja0 K):=by subst e;exact Jee
theorem Ju:IxR X (J4K K):=by subst e;exact Jfp
theorem J52:SlR X (Jbi K):=by subst e;exact JdI
theorem J6d (hu:X.A.units+64<cLine):OpR X (compareOp .Eq) (J8S K false):=by subst e;exact Jfa hu
theorem Jg7 (hu:X.A.units+64<cLine):OpR X (compareOp .Eq) (JfR K):=by subst e;exact Jbt hu
theorem JcX:OpR X (compareOp .In) (rIn K false):=by subst e;exact Jbs
theorem Jed:OpR X (compareOp .NotIn) (rIn K true):=by subst e;exact J7T
theorem JcW:MtR X "str.join" (Jcr K):=by subst e;exact Jea
theorem J0B {tg l:Expr}{tl:TE}(hl:PE X l tl):PI X tg l (J7b K tl):=by subst e;exact Je1 hl
theorem J2g {tg l:Expr}{tl:TE}(hl:PE X l tl):PI X tg l (JbL K tl):=by subst e;exact Jf2 hl
theorem J77 {es:List Expr}{k:Nat}{t:TGs}{n:Nat}{pos:Pos}(hc:X.calm=true)(h:PGs X es t)(hn:(assignEach es X.env).length=n:=by rfl)(hst:(assignEach es X.env).findIdx? (·.1)=none:=by rfl):PG X (.Tuple es k pos) (Jel K n t):=by subst e;exact Jf5 hc h hn hst
theorem Jgl {o a:Expr}{es:List Expr}{to:TE}{t:TA}{name:Str}{apos cpos:Pos}{T id:String}{r:V->List V->Hp->VK->Prop}(pa:PlainAttrs T)(slot:Slot T name id)(hty:typeOf (.builtin id)=pure (.type "method_descriptor"))(hm:MtR X id r)(ho:PE X o to)(ha:PA X (a::es) t)
 (hbase:attributeBase o name X.env (eval o X.env)=eval o X.env:=by rfl)
 (hfew:((backTo cpos (starEach (a::es) X.env)).all (λx=>!x.1)&&(backToKw cpos (keywordEach [] X.env)).all (λx=>x.1.isSome)
  && decide ((a::es).length+([]:List Keyword).length+(if ([]:List Keyword).isEmpty then 0 else 1)<30))=true:=by rfl)
 (hline:(apos.endLine == cpos.line)=true:=by rfl) (hs:starEach (a::es) X.env=(false,eval a X.env)::starEach es X.env:=by rfl) (hplain:(backTo cpos (starEach es X.env)).any (·.1)=false:=by rfl) :
 PE X (.Call (.Attribute o name apos) (a::es) [] cpos) (tBM K T r to t):=by subst e;exact JfV pa slot hty hm ho ha hbase hfew hline hs hplain
end
def JB:Expr->Bool
 | .Starred _ _=>false
 | _=>true
theorem JG {e:Expr}{es:List Expr}{env:Env}(h:JB e=true):starEach (e::es) env=(false,eval e env)::starEach es env:=by
 cases e<;>first | rfl | cases h
theorem J6U {env:Env}:∀ {es:List Expr},es.all JB=true->(starEach es env).any (·.1)=false
 | [],_=>rfl
 | e::es,h=>by
   rw [all_cons,Bool.and_eq_true] at h;rw [JG h.1,any_cons,J6U h.2];rfl
theorem J0u {env:Env}{pos:Pos}{es:List Expr}(h:es.all JB=true):(backTo pos (starEach es env)).any (·.1)=false:=by
 have:=J6U (env:=env) h;unfold backTo;rw [any_map];exact this
section
variable {X:Cx}{e:Expr}{es:List Expr}{te:TE}{t:TA}
theorem pal (hn:JB e=true)(ha:PE X e te)(hr:PA X es t):PA X (e::es) (J2J te t):=Je4 ha hr (JG hn)
theorem Jh {x:Str}{st:Stmt}{ps:List Str}{f:Addr}{fd:FuncData}{k:Nat}{sp:Sp}{p pos:Pos}(D:DefOk X.K X.mg x st ps f fd)(G:FnOk X.prog X.w X.K X.mg X.base CX0 k f fd ps sp)(hr:Room k X.A)
 (hg:Gl X x) (hdb:(x == ("__debug__":Str))=false) (hn:(e::es).all JB=true) (ha:PA X (e::es) t) :
 PE X (.Call (.Name x p) (e::es) [] pos) (J46 sp [] E0 t) :=
 have h:JB e=true/\es.all JB=true:=by rw [all_cons,Bool.and_eq_true] at hn;exact hn
 Je2 G hr hg D.m D.F.kp D.b .nil J2e ha hdb (JG h.1) (J0u h.2)
theorem Jt {x:Str}{p pos:Pos}{id:String}{r:List V->Hp->VK->Prop}(hc:J04 X (.builtin id) r)(hm:X.mg x=none)(hv:bootBuiltins x=some (.builtin id))(hg:Gl X x)(hn:x≠"__name__")(hdb:(x == ("__debug__":Str))=false)
 (hs:(e::es).all JB=true) (ha:PA X (e::es) t):PE X (.Call (.Name x p) (e::es) [] pos) (tCB r t) :=
 have h:JB e=true/\es.all JB=true:=by rw [all_cons,Bool.and_eq_true] at hs;exact hs
 JcG hc hg hm hv ha hn hdb (JG h.1) (J0u h.2)
theorem J0z {x:Str}{p pos:Pos}{T:String}{r:List V->Hp->VK->Prop}(hc:J04 X (.type T) r)(hm:X.mg x=none)(hv:bootBuiltins x=some (.type T))(hg:Gl X x)(hn:x≠"__name__")(hdb:(x == ("__debug__":Str))=false)
 (hs:(e::es).all JB=true) (ha:PA X (e::es) t):PE X (.Call (.Name x p) (e::es) [] pos) (tCB r t) :=
 have h:JB e=true/\es.all JB=true:=by rw [all_cons,Bool.and_eq_true] at hs;exact hs
 Jbn hc hg hm hv ha hn hdb (JG h.1) (J0u h.2)
theorem Jdu {env:Env}{pos:Pos}{es:List Expr}(h:es.all JB=true):(backTo pos (starEach es env)).all (λx=>!x.1)=true:=by
 have:=J0u (env:=env) (pos:=pos) h;rw [any_eq_false] at this;rw [all_eq_true];intro x hx;have:=this x hx;simpa using this
theorem J1Q {K:Frag}{o a:Expr}{to:TE}{name:Str}{apos cpos:Pos}{T id:String}{r:V->List V->Hp->VK->Prop}(ek:X.K=K)(pa:PlainAttrs T)(slot:Slot T name id)(hty:typeOf (.builtin id)=pure (.type "method_descriptor"))(hm:MtR X id r)
 (hbase:attributeBase o name X.env (eval o X.env)=eval o X.env) (hs:(a::es).all JB=true) (hsz:decide ((a::es).length+0+0<30)=true) (hline:(apos.endLine == cpos.line)=true) (ho:PE X o to) (ha:PA X (a::es) t) :
 PE X (.Call (.Attribute o name apos) (a::es) [] cpos) (tBM K T r to t) :=
 have h:JB a=true/\es.all JB=true:=by rw [all_cons,Bool.and_eq_true] at hs;exact hs
 Jgl ek pa slot hty hm ho ha hbase (by rw [Jdu hs];exact hsz) hline (JG h.1) (J0u h.2)
end
def ForW (J:It)(g:TG)(tb:TS)(D:Ends)(σ:St)(H1:Hp):Prop:=∃ W:Nat->Nat->St->Hp->Prop,(∃ m,W 0 m σ H1)/\∀ i m σ H,W i m σ H ->
 (J.stop i H/\D.nx σ H)\/(J.go i H/\∃ N:St->Hp->Prop,(∀ σ' H',N σ' H'->∃ m',m'<m/\W (i+1) m' σ' H')/\∀ x H',J.yld i H x H'->g x σ H' λσ2 H2=>tb { D with nx:=N,ct:=N,bk:=D.nx } σ2 H2)
theorem J0h {wi:TI}{g:TG}{tb:TS}{D:Ends}{σ:St}{H:Hp}(h:wi σ H λJ H1=>ForW J g tb D σ H1):JdD wi g tb D σ H:=h
theorem ForW.of {g:TG}{tb:TS}{D:Ends}{σ:St}{H:Hp}{J:It}{xs:List V}{ok:Hp->Prop}(w:Walk J xs ok)(Pv:Nat->St->Hp->Prop)(h0:Pv 0 σ H)(hl:∀ i σ H,i<=xs.length->Pv i σ H->ok H)
 (hs:∀ i x σ H,xs[i]?=some x->Pv i σ H->g x σ H λσ2 H2=>tb { D with nx:=Pv (i+1),ct:=Pv (i+1),bk:=D.nx } σ2 H2) (hd:∀ σ H,Pv xs.length σ H->D.nx σ H):ForW J g tb D σ H:=Jd6 w Pv h0 hl hs hd
def Jgb {α:Type}(xs:List α)(lo hi:Option Int):List α:=(xs.drop (HT.sIx xs.length 0 lo)).take (HT.sIx xs.length xs.length hi - HT.sIx xs.length 0 lo)
section
variable {X:Cx}
def JfQ:R2:=λx y H Q=>match x,y with
 | .int i,.int j=>Q (.bl (decide (i<j))) H
 | .str a,.str b=>Q (.bl (decide (a.cps.toList<b.cps.toList))) H
 | _,_=>False
theorem Jf8:OpR X (compareOp .Lt) JfQ:=by
 intro pins s σ H x y v u Q I rx ry h;cases x with
 | int i =>
   cases y with
   | int j=>exact J71 pins s σ H _ _ v u Q I rx ry ⟨i,j,rfl,rfl,h⟩
   | _=>exact qa h
 | str a =>
   cases y with
   | str b=>exact Jbq pins s σ H _ _ v u Q I rx ry ⟨a,b,rfl,rfl,h⟩
   | _=>exact qa h
 | _=>exact qa (by cases y<;>exact h)
end
end L2
namespace L2
open PySem
theorem J0e {lo:Int}{n i:Nat}{x:V}(h:(J4I lo n)[i]?=some x):i<n/\x=.int (lo+i):=by
 have hi:i<n:=by have:=(qd.mp h).1;rwa [JK] at this
 rw [J5X hi] at h;cases h;exact ⟨hi,rfl⟩
end L2
namespace L2
open PySem PySem.Spec PyProof.Rows PySem.NumText
theorem Jdf {α:Type}(xs:List α)(k:Nat):Jgb xs (some (k:Int)) none=xs.drop k:=by
 unfold Jgb;rw [HT.sIx_nat,HT.sIx_none];by_cases h:k<=xs.length
 ·rw [Nat.min_eq_left h,take_of_length_le (by rw [length_drop];omega)]
 ·rw [Nat.min_eq_right (by omega),drop_length,drop_of_length_le (by omega)];simp
end L2
namespace L2
open PySem PySem.Spec PyProof.Rows
open AutoSeq1 (wpAny_loadPart')
open MeetsSeq MeetsSeq2 MeetsSeq3 SeqRoads2
def JfK (A:Around)(s:Shared)(x y:Value)(r:Bool):Prop:=∀ (prog:Program) (w:World) (E:Value->Shared->Prop) (Q:Value->Shared->Prop),Q (.bool r) s->wpAny (model prog w) A (richCompare .Lt x y) Q E s
inductive LexAt (A:Around)(s:Shared):List Value->List Value->Bool->Prop
 | nn:LexAt A s [] [] false
 | nc {y ys}:LexAt A s [] (y::ys) true
 | cn {x xs}:LexAt A s (x::xs) [] false
 | ne {x y xs ys r}:SeqAt.EqAt A s x y false->JfK A s x y r->LexAt A s (x::xs) (y::ys) r
 | eq {x y xs ys r}:SeqAt.EqAt A s x y true->LexAt A s xs ys r->LexAt A s (x::xs) (y::ys) r
theorem tuple_ltAt (l b:Addr)(its its2:Array Value)(n n2:Nat)(dd dd2:Option Addr)(sl sl2:Array (Option Value))(r:Bool) :
 Meets (Builtin.«tuple.__lt__» ⟨[.ref l,.ref b],[]⟩)
  (λA R s=>s.heap.get? l=some { cls:=.type "tuple",dict:=dd,data:=.seq its n,slots:=sl }/\s.heap.get? b=some { cls:=.type "tuple",dict:=dd2,data:=.seq its2 n2,slots:=sl2 } /\
   LexAt A.in1 s its.toList its2.toList r/\R (.ok (.ret (.bool r))) s) :=
 .of_wp λprog w A R s h=>by
  obtain ⟨hp,g,d,tk,os⟩:=s;obtain ⟨hl,hb,he,h⟩:=h;have f2:=AutoSeq1.sub_tuple_tuple
  wp_walk using wpAny_loadPart' hl,wpAny_loadPart' hb,wpAny_forIn_list _ (λrest b s'=>b.1=none/\s'=⟨hp,g,d,tk,os⟩/\∃ i xs ys,rest=xs.zip ys/\its.size=i+xs.length/\its2.size=i+ys.length/\LexAt A.in1 ⟨hp,g,d,tk,os⟩ xs ys r) _
  case turn =>
   rintro ⟨x,y⟩ rest b s' ⟨hb',rfl,i,xs,ys,hz,z1,z2,hx⟩;cases hx with
   | nn=>cases hz
   | nc=>cases hz
   | cn=>cases hz
   | ne e1 e2 =>
     rw [zip_cons_cons] at hz;injection hz with h1 h2
     injection h1 with h3 h4
     subst h3 h4;refine zM (e1 prog w _ _ ?_);have e3:=e2 prog w;generalize richCompare CmpOp.Lt x y=rc at e3 ⊢
     wp_walk
     refine e3 _ _ ?_
     wp_walk
     exact ⟨_,rfl,h⟩
   | eq e1 e2 =>
     rw [zip_cons_cons] at hz;injection hz with h1 h2
     injection h1 with h3 h4
     subst h3 h4;refine zM (e1 prog w _ _ ?_)
     wp_walk
     exact ⟨rfl,rfl,i+1,_,_,h2,by simp at z1;omega,by simp at z2;omega,e2⟩
  case fin =>
   rintro ⟨b1,b2⟩ s' ⟨hb',rfl,i,xs,ys,hz,z1,z2,hx⟩;simp only at hb';subst hb'
   wp_walk
   have e:Builtin.Tuple.tupleCompareSizes .Lt its.size its2.size=.bool r:=by
    show Value.bool (decide (its.size<its2.size))=_;cases hx with
    | nn=>rw [zT (by simp at z1 z2;omega)]
    | nc=>rw [zS (by simp at z1 z2;omega)]
    | cn=>rw [zT (by simp at z1 z2;omega)]
    | ne=>cases hz
    | eq=>cases hz
   first
    | exact ⟨_,rfl,by rw [e];exact h⟩
    | (rw [e];exact ⟨_,rfl,h⟩)
  case h =>
   exact ⟨rfl,rfl,0,_,_,rfl,by simp,by simp,he⟩
def ltS:V->V->Option Bool
 | .int i,.int j=>some (decide (i<j))
 | .str a,.str b=>some (decide (a.cps.toList<b.cps.toList))
 | _,_=>none
def J9c:List V->List V->Option Bool
 | [],[]=>some false
 | [],_::_=>some true
 | _::_,[]=>some false
 | x::xs,y::ys=>match ltS x y with
   | none=>none
   | some r=>if x=y then J9c xs ys else some r
theorem Jff {A:Around}{s:Shared}{x y:V}{u v:Value}{r:Bool}(h:ltS x y=some r)(rx:RelV x u)(ry:RelV y v):SeqAt.EqAt A s u v (decide (x=y))/\JfK A s u v r:=by
 cases x<;>cases y<;>first
  | (cases (show none=some r from h);done)
  | skip
 ·rename_i i j
  obtain ⟨t,rfl⟩:=rx;obtain ⟨t',rfl⟩:=ry;cases h;refine ⟨?_,λprog w E Q q=>HT.rcLt_int _ _ _ _ _ _ _ _ _ _ q⟩;rw [J8e];exact SeqAt.EqAt.int_int _ _ _ _
 ·rename_i i j
  obtain ⟨t,rfl⟩:=rx;obtain ⟨t',rfl⟩:=ry;cases h;refine ⟨?_,λprog w E Q q=>lt_str q⟩;rw [J8d];exact SeqAt.EqAt.str_str _ _ _ _
theorem lexV_at {A:Around}{s:Shared}:∀ {xs ys:List V} {us vs:List Value} {r:Bool},Vals xs us->Vals ys vs->J9c xs ys=some r->LexAt A s us vs r
 | [],[],_,_,_,.nil,.nil,h=>by cases h;exact .nn
 | [],_::_,_,_,_,.nil,.cons _ _,h=>by cases h;exact .nc
 | _::_,[],_,_,_,.cons _ _,.nil,h=>by cases h;exact .cn
 | x :: xs,y::ys,_,_,r,.cons rx t,.cons ry t',h=>by
   unfold J9c at h
   split at h
   ·cases h
   ·rename_i r' e
    obtain ⟨h1,h2⟩:=Jff (A:=A) (s:=s) e rx ry
    split at h
    ·rename_i exy
     rw [zS exy] at h1;exact .eq h1 (lexV_at t t' h)
    ·rename_i exy
     rw [zT exy] at h1;cases h;exact .ne h1 h2
end L2
namespace L2
open PySem PyProof.Rows
structure Held (T:Prop):Prop where
 out:T
theorem Jgp {T R:Prop}(f:Held T->R)(t:T):R:=f ⟨t⟩
abbrev Up (rk:Value->Nat)(l:List Keyed):Prop:=l.Pairwise λx y=>rk x.1<=rk y.1
def Cmp (prog:Program)(w:World)(A:Around)(s:Shared)(kd:SortKind)(D:Value->Prop)(rk:Value->Nat):Prop :=
 ∀ (E:Value->Shared->Prop) (x y:Value) (Q:Bool->Shared->Prop),D x->D y->Q (decide (rk x<rk y)) s->wpAny (model prog w) A (keyLt' kd x y) Q E s
section
variable {prog:Program}{w:World}{A:Around}{E:Value->Shared->Prop}{s:Shared}{kd:SortKind}{D:Value->Prop}{rk:Value->Nat}
theorem JeO (C:Cmp prog w A s kd D rk){st:SortSt}{x y:Keyed}{Q:Option Bool->SortSt->Prop}(hk:kindOf st=kd)(hx:D x.1)(hy:D y.1)(h:Q (some (decide (rk x.1<rk y.1))) st):wpS (model prog w) A E s (lt' x y) Q st:=by
 rw [lt'_eq];refine wpS_bind (wpS_get ?_);rw [hk];exact wpS_bind (wpS_lift (wpAny_attempt (C _ _ _ _ hx hy ⟨rfl,wpS_pure h⟩)))
theorem J8o {arr:Array Keyed}{i:Nat}{p:Keyed}{st:SortSt}{Q:Keyed->SortSt->Prop}{M:Model}(hp:arr[i]?=some p)(h:Q p st):wpS M A E s (elem' arr i) Q st:=by
 rw [elem'_eq,hp];exact wpS_pure h
end
def ra (rk:Value->Nat)(arr:Array Keyed)(i:Nat):Nat :=
 match arr[i]? with
 | some p=>rk p.1
 | none=>0
def Inc (rk:Value->Nat)(arr:Array Keyed)(lo n:Nat):Prop:=∀ i j,i<=j->j<n->ra rk arr (lo+i)<=ra rk arr (lo+j)
def Dec (rk:Value->Nat)(arr:Array Keyed)(lo n:Nat):Prop:=∀ i j,i<=j->j<n->ra rk arr (lo+j)<=ra rk arr (lo+i)
theorem J4J {rk:Value->Nat}{xs:Array Keyed}{i j:Nat}(hj:j<=xs.size)(k:Nat):ra rk (mirror xs i j ((j - i) / 2)) k=if i<=k/\k<j then ra rk xs (i+j - 1 - k) else ra rk xs k:=by
 unfold ra;rw [getElem?_mirror_all hj];by_cases q:i<=k/\k<j
 ·rw [zP q,zP q]
 ·rw [zO q,zO q]
theorem J6Y {rk:Value->Nat}{xs:Array Keyed}{src d:Nat}(hs:src<xs.size)(hd:d<=src)(k:Nat):ra rk (bubble xs src d) k=if k=src - d then ra rk xs src else if src - d<k/\k<=src then ra rk xs (k - 1) else ra rk xs k:=by
 unfold ra;rw [getElem?_bubble hs d hd];by_cases q:k=src - d
 ·rw [zP q,zP q]
 ·rw [zO q,zO q]
  by_cases q2:src - d<k/\k<=src
  ·rw [zP q2,zP q2]
  ·rw [zO q2,zO q2]
theorem J2s {rk:Value->Nat}{xs:Array Keyed}{i j:Nat}(hj:j<=xs.size)(h:∀ k,i<=k->k<j->ra rk xs k=ra rk xs (j - 1))(k:Nat):ra rk (mirror xs i j ((j - i) / 2)) k=ra rk xs k:=by
 rw [J4J hj]
 split
 ·rw [h _ (by omega) (by omega),h k (by omega) (by omega)]
 ·rfl
structure SB (st0 st:SortSt)(lo n:Nat):Prop where
 kind:kindOf st=kindOf st0
 failed:failedOf st=failedOf st0
 pend:pendingOf st=pendingOf st0
 perm:(arrOf st).Perm (arrOf st0)
 out:∀ i,(i<lo\/lo+n<=i)->(arrOf st)[i]?=(arrOf st0)[i]?
theorem SB.refl (st:SortSt)(lo n:Nat):SB st st lo n:=⟨rfl,rfl,rfl,Array.Perm.refl _,λ_ _=>rfl⟩
theorem SB.size {st0 st:SortSt}{lo n:Nat}(h:SB st0 st lo n):(arrOf st).size=(arrOf st0).size:=h.perm.size_eq
theorem SB.mirr {st0 st:SortSt}{lo n i j:Nat}(h:SB st0 st lo n)(hi:lo<=i)(hj:j<=lo+n)(hz:lo+n<=(arrOf st0).size):SB st0 (setArr st (mirror (arrOf st) i j ((j - i) / 2))) lo n :=
 ⟨h.kind,h.failed,h.pend,(mirror_perm _ _ _ _).trans h.perm,λk hk=>by
  show (mirror (arrOf st) i j ((j - i) / 2))[k]?=_;rw [getElem?_mirror_all (by rw [h.size];omega),zO (by omega)];exact h.out k hk⟩
theorem SB.bubb {st0 st:SortSt}{lo n src d:Nat}(h:SB st0 st lo n)(hs:src<lo+n)(hd:lo+d<=src)(hz:lo+n<=(arrOf st0).size):SB st0 (setArr st (bubble (arrOf st) src d)) lo n :=
 ⟨h.kind,h.failed,h.pend,(bubble_perm _ _ _).trans h.perm,λk hk=>by
  show (PyProof.Rows.bubble (arrOf st) src d)[k]?=_;rw [getElem?_bubble (by rw [h.size];omega) d (by omega),zO (by omega),zO (by omega)];exact h.out k hk⟩
section
variable {prog:Program}{w:World}{A:Around}{E:Value->Shared->Prop}{s:Shared}{kd:SortKind}{D:Value->Prop}{rk:Value->Nat}
theorem J25 (C:Cmp prog w A s kd D rk){st0 st:SortSt}{lo n i j:Nat}{Q:Option Bool->SortSt->Prop}(hB:SB st0 st lo n)(hk:kindOf st0=kd)(hD:∀ p∈(arrOf st0).toList,D p.1)(hi:i<(arrOf st0).size)(hj:j<(arrOf st0).size)
 (h:Q (some (decide (ra rk (arrOf st) i<ra rk (arrOf st) j))) st):wpS (model prog w) A E s (ltAt' i j) Q st:=by
 have at':∀ i,i<(arrOf st0).size->∃ p,(arrOf st)[i]?=some p/\D p.1/\ra rk (arrOf st) i=rk p.1:=λi hi=>by
  have hi':i<(arrOf st).size:=by rw [hB.size];exact hi
  have e:(arrOf st)[i]?=some (arrOf st)[i]:=getElem?_pos (arrOf st) i hi';exact ⟨_,e,hD _ ((Array.perm_iff_toList_perm.mp hB.perm).mem_iff.mp (by simp)),by unfold ra;rw [e]⟩
 obtain ⟨p,ep,dp,rp⟩:=at' i hi;obtain ⟨q,eq,dq,rq⟩:=at' j hj;rw [rp,rq] at h;rw [ltAt'_eq];exact wpS_bind (wpS_get (wpS_bind (J8o ep (wpS_bind (J8o eq (JeO C (hB.kind.trans hk) dp dq h))))))
theorem J9g {arr:Array Keyed}{lo x:Nat}(h:Inc rk arr lo x)(hx:1<=x)(hl:ra rk arr (lo+(x - 1))<=ra rk arr (lo+x)):Inc rk arr lo (x+1):=λi j hij hj=>by
 by_cases hjx:j<x
 ·exact h i j hij hjx
 ·obtain rfl:j=x:=by omega
  by_cases hi:i=j
  ·subst hi;exact zQ _
  ·exact z9 (h i (j - 1) (by omega) (by omega)) hl
theorem J4m {arr:Array Keyed}{lo x:Nat}(h:Dec rk arr lo x)(hx:1<=x)(hl:ra rk arr (lo+x)<=ra rk arr (lo+(x - 1))):Dec rk arr lo (x+1):=λi j hij hj=>by
 by_cases hjx:j<x
 ·exact h i j hij hjx
 ·obtain rfl:j=x:=by omega
  by_cases hi:i=j
  ·subst hi;exact zQ _
  ·exact z9 hl (h i (j - 1) (by omega) (by omega))
theorem tim_countRun (C:Cmp prog w A s kd D rk){st:SortSt}{lo nrem:Nat}{Q:Option Nat->SortSt->Prop}(hk:kindOf st=kd)(hD:∀ p∈(arrOf st).toList,D p.1)(hz:lo+nrem<=(arrOf st).size)(h1:1<=nrem)
 (h:∀ m st',SB st st' lo nrem->1<=m->m<=nrem->Inc rk (arrOf st') lo m->Q (some m) st'):wpS (model prog w) A E s (countRun' lo nrem) Q st:=by
 rw [countRun'_eq];refine wpS_bind (wpS_mono (wpS_forRange (I:=λx c st'=>st'=st/\c=(none,x)/\Inc rk (arrOf st) lo x) (Q:=λc st'=>st'=st/\∃ n,c=(none,n)/\1<=n/\n<=nrem/\Inc rk (arrOf st) lo n/\(n=nrem\/ra rk (arrOf st) (lo+n)<ra rk (arrOf st) (lo+n - 1))) ?step ?fin ⟨rfl,rfl,λi j hij hj=>by obtain rfl:i=j:=(by omega);exact zQ _⟩) ?post)
 case fin =>
  rintro c st' ⟨e,rfl,hs⟩;rw [show max 1 nrem=nrem by omega] at hs ⊢;exact ⟨e,nrem,rfl,h1,zQ _,hs,.inl rfl⟩
 case step =>
  rintro x c st' hx1 hx2 ⟨e,rfl,hs⟩;rw [e];dsimp only;refine wpS_bind (J25 C (SB.refl st lo nrem) hk hD (by omega) (by omega) ?_);dsimp only;by_cases hl:ra rk (arrOf st) (lo+x)<ra rk (arrOf st) (lo+x - 1)
  ·rw [zP (zS hl)]
   exact wpS_pure ⟨rfl,x,rfl,hx1,by omega,hs,.inr hl⟩
  ·rw [zO (by rw [zT hl];exact zR)]
   exact wpS_pure ⟨rfl,rfl,J9g hs hx1 (by rw [show lo+(x - 1)=lo+x - 1 by omega];omega)⟩
 case post =>
  rintro c st1 ⟨e,n,rfl,n1,n2,hs,hor⟩;rw [e];clear e st1;dsimp only;by_cases hn:(n == nrem)=true
  ·rw [zP hn]
   exact wpS_pure (h n st (SB.refl _ _ _) n1 n2 hs)
  rw [zO hn];have hne:¬ n=nrem:=λz=>hn (beq_iff_eq.mpr z);have hlt:=hor.resolve_left hne;have goD:∀ st2:SortSt,SB st st2 lo nrem->(∀ i,ra rk (arrOf st2) i=ra rk (arrOf st) i)->(∀ i,i<n->ra rk (arrOf st) (lo+i)=ra rk (arrOf st) (lo+(n - 1)))->Dec rk (arrOf st2) lo (n+1):=λst2 _ e1 e2=>J4m (λi j hij hj=>by rw [e1,e1,e2 i (by omega),e2 j hj];exact zQ _) n1 (by rw [e1,e1,show lo+(n - 1)=lo+n - 1 by omega];omega);apply Jgp
  ·intro key
   by_cases hg:n > 1
   case' pos =>
    rw [zP hg];refine wpS_bind (J25 C (SB.refl st lo nrem) hk hD (by omega) (by omega) ?_);dsimp only;by_cases hr:ra rk (arrOf st) lo<ra rk (arrOf st) (lo+n - 1)
    case pos =>
     rw [zP (zS hr)];exact wpS_pure (h n st (SB.refl _ _ _) n1 n2 hs)
    rw [zO (by rw [zT hr];exact zR)];refine wpS_bind (wpS_reverse ?_);have hall:∀ k,lo<=k->k<lo+n->ra rk (arrOf st) k=ra rk (arrOf st) (lo+n - 1):=λk k1 k2=>by
     have a1:=hs 0 (k - lo) (by omega) (by omega);have a2:=hs (k - lo) (n - 1) (by omega) (by omega);rw [show lo+(k - lo)=k by omega] at a1 a2;rw [Nat.add_zero] at a1;rw [show lo+(n - 1)=lo+n - 1 by omega] at a2;omega
    have hS:=(SB.refl st lo nrem).mirr (i:=lo) (j:=lo+n) (zQ _) (by omega) hz;have hDc:=goD _ hS (J2s (by omega) hall) (λi hi=>by rw [hall (lo+i) (by omega) (by omega),show lo+(n - 1)=lo+n - 1 by omega])
    revert hS hDc
    generalize setArr st (mirror (arrOf st) lo (lo+n) ((lo+n - lo) / 2))=st2
    revert st2
    exact key.out
   case' neg =>
    rw [zO hg];exact key.out st (SB.refl st lo nrem) (goD st (SB.refl st lo nrem) (λ_=>rfl) (λi hi=>by rw [show i=n - 1 by omega]))
  ·intro st2 hS hDc
   have hnn:n+1<=nrem:=by omega
   refine wpS_bind (wpS_lift (wpAny_rule ⟨rfl,?_⟩));refine wpS_bind (wpS_mono (wpS_forRange (I:=λx c st'=>∃ neq,c=(none,x,neq)/\SB st st' lo nrem/\Dec rk (arrOf st') lo x/\neq+1<=x/\∀ i,x - (neq+1)<=i->i<x->ra rk (arrOf st') (lo+i)=ra rk (arrOf st') (lo+(x - 1)))
    (Q:=λc st'=>∃ m neq,c=(none,m,neq)/\SB st st' lo nrem/\n+1<=m/\m<=nrem/\Dec rk (arrOf st') lo m/\neq+1<=m/\∀ i,m - (neq+1)<=i->i<m->ra rk (arrOf st') (lo+i)=ra rk (arrOf st') (lo+(m - 1))) ?stepD ?finD ⟨0,rfl,hS,hDc,by omega,λi h1 h2=>by congr 1;omega⟩) ?postD)
   case finD =>
    rintro c st' ⟨neq,rfl,hB,hd,q1,q2⟩;rw [show max (n+1) nrem=nrem by omega] at hd q1 q2 ⊢;exact ⟨nrem,neq,rfl,hB,hnn,zQ _,hd,q1,q2⟩
   case stepD =>
    rintro x c st' hx1 hx2 ⟨neq,rfl,hB,hd,q1,q2⟩;dsimp only;have hsz:lo+x<=(arrOf st').size:=by rw [hB.size];omega
    refine wpS_bind (J25 C hB hk hD (by omega) (by omega) ?_);dsimp only;by_cases hl:ra rk (arrOf st') (lo+x)<ra rk (arrOf st') (lo+x - 1)
    ·rw [zP (zS hl)]
     have hl':ra rk (arrOf st') (lo+x)<=ra rk (arrOf st') (lo+(x - 1)):=by rw [show lo+(x - 1)=lo+x - 1 by omega];omega
     by_cases hq:neq > 0
     ·rw [zP hq]
      refine wpS_bind (wpS_reverse ?_);have he:∀ k,lo+x - (neq+1)<=k->k<lo+x->ra rk (arrOf st') k=ra rk (arrOf st') (lo+x - 1):=λk k1 k2=>by
       have:=q2 (k - lo) (by omega) (by omega);rw [show lo+(k - lo)=k by omega,show lo+(x - 1)=lo+x - 1 by omega] at this;exact this
      have em:=J2s (rk:=rk) (i:=lo+x - (neq+1)) hsz he;refine wpS_pure ⟨0,rfl,hB.mirr (by omega) (by omega) hz,J4m (λi j hij hj=>?_) (by omega) ?_,by omega,λi h1 h2=>by congr 1;omega⟩
      ·show ra rk (mirror _ _ _ _) _<=ra rk (mirror _ _ _ _) _
       rw [em,em];exact hd i j hij hj
      ·show ra rk (mirror _ _ _ _) _<=ra rk (mirror _ _ _ _) _
       rw [em,em];exact hl'
     ·rw [zO hq]
      exact wpS_pure ⟨0,rfl,hB,J4m hd (by omega) hl',by omega,λi h1 h2=>by congr 1;omega⟩
    ·rw [zO (by rw [zT hl];exact zR)]
     refine wpS_bind (J25 C hB hk hD (by omega) (by omega) ?_);dsimp only;by_cases hm:ra rk (arrOf st') (lo+x - 1)<ra rk (arrOf st') (lo+x)
     ·rw [zP (zS hm)]
      exact wpS_pure ⟨x,neq,rfl,hB,hx1,by omega,hd,q1,q2⟩
     ·rw [zO (by rw [zT hm];exact zR)]
      have he:ra rk (arrOf st') (lo+x)=ra rk (arrOf st') (lo+(x - 1)):=by rw [show lo+(x - 1)=lo+x - 1 by omega];omega
      refine wpS_pure ⟨neq+1,rfl,hB,J4m hd (by omega) (by omega),by omega,λi h1 h2=>?_⟩;rw [show x+1 - 1=x by omega];by_cases hi:i=x
      ·rw [hi]
      ·rw [q2 i (by omega) (by omega),he]
   case postD =>
    rintro c st3 ⟨m,neq,rfl,hB,m1,m2,hd,q1,q2⟩;dsimp only;have hsz:lo+m<=(arrOf st3).size:=by rw [hB.size];omega
    by_cases hq:neq > 0
    case' pos =>
     rw [zP hq];refine wpS_bind (wpS_reverse ?_);have he:∀ k,lo+m - (neq+1)<=k->k<lo+m->ra rk (arrOf st3) k=ra rk (arrOf st3) (lo+m - 1):=λk k1 k2=>by
      have:=q2 (k - lo) (by omega) (by omega);rw [show lo+(k - lo)=k by omega,show lo+(m - 1)=lo+m - 1 by omega] at this;exact this
     have em:=J2s (rk:=rk) (i:=lo+m - (neq+1)) hsz he;have hB4:=hB.mirr (i:=lo+m - (neq+1)) (j:=lo+m) (by omega) (by omega) hz;have hd4:Dec rk (arrOf (setArr st3 (mirror (arrOf st3) (lo+m - (neq+1)) (lo+m) ((lo+m - (lo+m - (neq+1))) / 2)))) lo m:=λi j hij hj=>by
      show ra rk (mirror _ _ _ _) _<=ra rk (mirror _ _ _ _) _;rw [em,em];exact hd i j hij hj
     generalize setArr st3 (mirror (arrOf st3) (lo+m - (neq+1)) (lo+m) ((lo+m - (lo+m - (neq+1))) / 2))=st4 at *
    case' neg =>
     rw [zO hq];have hB4:=hB;have hd4:=hd;generalize hst4:st3=st4 at hB4 hd4 ⊢
    all_goals
     refine wpS_bind (wpS_reverse ?_);have hsz4:lo+m<=(arrOf st4).size:=by rw [hB4.size];omega
     have hB5:=hB4.mirr (i:=lo) (j:=lo+m) (zQ _) (by omega) hz;have hi5:Inc rk (arrOf (setArr st4 (mirror (arrOf st4) lo (lo+m) ((lo+m - lo) / 2)))) lo m:=λi j hij hj=>by
      show ra rk (mirror _ _ _ _) _<=ra rk (mirror _ _ _ _) _;rw [J4J hsz4,J4J hsz4,zP (by omega),zP (by omega)];have:=hd4 (m - 1 - j) (m - 1 - i) (by omega) (by omega);rw [show lo+(m - 1 - j)=lo+(lo+m) - 1 - (lo+j) by omega,show lo+(m - 1 - i)=lo+(lo+m) - 1 - (lo+i) by omega] at this;exact this
     generalize setArr st4 (mirror (arrOf st4) lo (lo+m) ((lo+m - lo) / 2))=st5 at *;refine wpS_bind (wpS_mono (wpS_forRange (I:=λx c st'=>st'=st5/\c=(none,x)/\Inc rk (arrOf st5) lo x) (Q:=λc st'=>st'=st5/\∃ n,c=(none,n)/\1<=n/\n<=nrem/\Inc rk (arrOf st5) lo n) ?stepE ?finE ⟨rfl,rfl,hi5⟩) ?postE)
     case finE =>
      rintro c st' ⟨e,rfl,hs⟩;rw [show max m nrem=nrem by omega] at hs ⊢;exact ⟨e,nrem,rfl,h1,zQ _,hs⟩
     case stepE =>
      rintro x c st' hx1 hx2 ⟨e,rfl,hs⟩;rw [e];dsimp only;refine wpS_bind (J25 C hB5 hk hD (by omega) (by omega) ?_);dsimp only;by_cases hl:ra rk (arrOf st5) (lo+x)<ra rk (arrOf st5) (lo+x - 1)
      ·rw [zP (zS hl)]
       exact wpS_pure ⟨rfl,x,rfl,by omega,by omega,hs⟩
      ·rw [zO (by rw [zT hl];exact zR)]
       exact wpS_pure ⟨rfl,rfl,J9g hs (by omega) (by rw [show lo+(x - 1)=lo+x - 1 by omega];omega)⟩
     case postE =>
      rintro c st6 ⟨e,z,rfl,z1,z2,hs⟩;rw [e];exact wpS_pure (h z st5 hB5 z1 z2 hs)
end
section
variable {prog:Program}{w:World}{A:Around}{E:Value->Shared->Prop}{s:Shared}{kd:SortKind}{D:Value->Prop}{rk:Value->Nat}
theorem tim_binarySort (C:Cmp prog w A s kd D rk){st0 st:SortSt}{lo nn n ok:Nat}{Q:Bool->SortSt->Prop}(hk:kindOf st0=kd)(hD:∀ p∈(arrOf st0).toList,D p.1)(hz:lo+nn<=(arrOf st0).size)(hn:n<=nn)(hok:ok<=n)(hB:SB st0 st lo nn)(hs:Inc rk (arrOf st) lo ok)
 (h:∀ st',SB st0 st' lo nn->Inc rk (arrOf st') lo n->Q true st'):wpS (model prog w) A E s (binarySort' lo n ok) Q st:=by
 rw [binarySort'_eq];refine wpS_bind (wpS_mono (wpS_forRange (I:=λk c st'=>c=(none,())/\SB st0 st' lo nn/\Inc rk (arrOf st') lo (min k n)) (Q:=λc st'=>c=(none,())/\SB st0 st' lo nn/\Inc rk (arrOf st') lo n) ?step ?fin ?init) ?post)
 case post =>
  rintro c st' ⟨rfl,hB',hs'⟩;exact wpS_pure (h st' hB' hs')
 case init =>
  refine ⟨rfl,hB,λi j hij hj=>?_⟩;by_cases h1:ok=0
  ·obtain rfl:i=j:=by omega
   exact zQ _
  ·exact hs i j hij (by omega)
 case fin =>
  rintro c st' ⟨hc,hB',hs'⟩;refine ⟨hc,hB',?_⟩;rwa [show min (max (max ok 1) n) n=n by omega] at hs'
 case step =>
  rintro k c st1 hak hkn ⟨rfl,hB',hs'⟩;rw [show min k n=k by omega] at hs';refine wpS_bind (wpS_mono (wpS_forRange (I:=λx c st''=>st''=st1/\∃ l r,c=(none,l,r)/\l<=r/\r<=k/\r - l<=k - x/\(∀ i,i<l->ra rk (arrOf st1) (lo+i)<=ra rk (arrOf st1) (lo+k))/\(∀ i,r<=i->i<k->ra rk (arrOf st1) (lo+k)<ra rk (arrOf st1) (lo+i)))
   (Q:=λc st''=>st''=st1/\∃ l r,c=(none,l,r)/\l<=k/\(∀ i,i<l->ra rk (arrOf st1) (lo+i)<=ra rk (arrOf st1) (lo+k))/\(∀ i,l<=i->i<k->ra rk (arrOf st1) (lo+k)<ra rk (arrOf st1) (lo+i))) ?istep ?ifin ?iinit) ?ipost)
  case iinit=>exact ⟨rfl,0,k,rfl,by omega,by omega,by omega,λi hi=>by omega,λi h1 h2=>by omega⟩
  case ifin =>
   rintro c st2 ⟨e,l,r,rfl,hlr,hrk,hm,hlo,hhi⟩;obtain rfl:l=r:=by omega
   exact ⟨e,l,l,rfl,hrk,hlo,hhi⟩
  case istep =>
   rintro x c st2 _ hxk ⟨e,l,r,rfl,hlr,hrk,hm,hlo,hhi⟩;rw [e];dsimp only;by_cases hge:l≥r
   ·rw [zP hge]
    obtain rfl:l=r:=by omega
    exact wpS_pure ⟨rfl,l,l,rfl,hrk,hlo,hhi⟩
   ·rw [zO hge]
    refine wpS_bind (J25 C hB' hk hD (by omega) (by omega) ?_);dsimp only;by_cases hless:ra rk (arrOf st1) (lo+k)<ra rk (arrOf st1) (lo+(l+r) / 2)
    ·rw [zP (zS hless)]
     exact wpS_pure ⟨rfl,l,(l+r) / 2,rfl,by omega,by omega,by omega,hlo,λi h1 h2=>zY hless (hs' _ _ h1 h2)⟩
    ·rw [zO (by rw [zT hless];exact zR)]
     exact wpS_pure ⟨rfl,(l+r) / 2+1,r,rfl,by omega,by omega,by omega,λi h1=>z9 (hs' i ((l+r) / 2) (by omega) (by omega)) (by omega),hhi⟩
  case ipost =>
   rintro c st2 ⟨e,l,r,rfl,hlk,hlo,hhi⟩;rw [e];show wpS _ _ _ _ (do moveDown' (lo+k) (lo+l);pure (ForInStep.yield (none,()))) _ _;rw [moveDown'_eq];refine wpS_bind (wpS_modify (wpS_pure ⟨rfl,hB'.bubb (by omega) (by omega) hz,?_⟩));rw [show min (k+1) n=k+1 by omega];have hks:lo+k<(arrOf st1).size:=by rw [hB'.size];omega
   intro i j hij hj;show ra rk (bubble (arrOf st1) (lo+k) (lo+k - (lo+l))) (lo+i)<=ra rk (bubble (arrOf st1) (lo+k) (lo+k - (lo+l))) (lo+j);rw [J6Y hks (by omega),J6Y hks (by omega),show lo+k - (lo+k - (lo+l))=lo+l by omega];have s1:∀ z,l<z->lo+z - 1=lo+(z - 1):=λz hz=>by omega
   by_cases a1:lo+i=lo+l
   ·rw [zP a1]
    by_cases a2:lo+j=lo+l
    ·rw [zP a2];exact zQ _
    ·rw [zO a2,zP (by omega),s1 j (by omega)]
     exact Nat.le_of_lt (hhi _ (by omega) (by omega))
   ·rw [zO a1]
    by_cases a3:lo+l<lo+i/\lo+i<=lo+k
    ·rw [zP a3,zO (by omega),zP (by omega),s1 i (by omega),s1 j (by omega)]
     exact hs' _ _ (by omega) (by omega)
    ·rw [zO a3]
     by_cases a2:lo+j=lo+l
     ·rw [zP a2];exact hlo _ (by omega)
     ·rw [zO a2]
      by_cases a4:lo+l<lo+j/\lo+j<=lo+k
      ·rw [zP a4,s1 j (by omega)]
       exact hs' _ _ (by omega) (by omega)
      ·rw [zO a4]
       exact hs' _ _ hij (by omega)
end
def Runs (rk:Value->Nat):Nat->List (Nat×Nat×Nat)->List Keyed->Prop
 | _,[],L=>L=[]
 | b,x::ps,L=>x.1=b/\0<x.2.1/\∃ l L',L=l++L'/\l.length=x.2.1/\Up rk l/\Runs rk (b+x.2.1) ps L'
section
variable {rk:Value->Nat}
theorem Runs.put:∀ {ps1 ps2:List (Nat×Nat×Nat)} {b:Nat} {L1 L2:List Keyed},Runs rk b ps1 L1->Runs rk (b+L1.length) ps2 L2->Runs rk b (ps1++ps2) (L1++L2)
 | [],ps2,b,L1,L2,h,r=>by
   cases (show L1=[] from h);exact r
 | x::ps1,ps2,b,L1,L2,⟨h1,h2,l,L',e,hl,u,r1⟩,r=>by
   subst e;refine ⟨h1,h2,l,L'++L2,by rw [append_assoc],hl,u,Runs.put r1 ?_⟩;rw [qj,<- Nat.add_assoc,hl] at r;exact r
end
structure Core (kd:SortKind)(rk:Value->Nat)(a₀:Array Keyed)(lo:Nat)(R:List Keyed)(st:SortSt):Prop where
 kind:kindOf st=kd
 failed:failedOf st=none
 perm:(arrOf st).Perm a₀
 runs:∃ L,(arrOf st).toList=L++R/\L.length=lo/\Runs rk 0 (pendingOf st).toList L
section
variable {prog:Program}{w:World}{A:Around}{E:Value->Shared->Prop}{s:Shared}{kd:SortKind}{D:Value->Prop}{rk:Value->Nat}{a₀:Array Keyed}
theorem Core.dom {lo:Nat}{R:List Keyed}{st:SortSt}(h:Core kd rk a₀ lo R st)(hD:∀ p∈a₀.toList,D p.1):∀ p∈(arrOf st).toList,D p.1:=λp hp=>hD p ((Array.perm_iff_toList_perm.mp h.perm).mem_iff.mp hp)
theorem Core.rest {lo:Nat}{R:List Keyed}{st:SortSt}(h:Core kd rk a₀ lo R st):lo+R.length=a₀.size:=by
 obtain ⟨L,e,hL,_⟩:=h.runs;rw [<- h.perm.size_eq,<- qb,e,qj,hL]
theorem Core.push {lo n:Nat}{l R:List Keyed}{st:SortSt}(h:Core kd rk a₀ lo (l++R) st)(hl:l.length=n)(h1:1<=n)(u:Up rk l):Core kd rk a₀ (lo+n) R (setPending st ((pendingOf st).push (lo,n,0))):=by
 obtain ⟨L,e,hL,r⟩:=h.runs;refine ⟨h.kind,h.failed,h.perm,L++l,by rw [append_assoc];exact e,by rw [qj,hL,hl],?_⟩;show Runs rk 0 ((pendingOf st).push (lo,n,0)).toList (L++l);rw [Array.toList_push];exact r.put ⟨by rw [Nat.zero_add];exact hL.symm,h1,l,[],by simp,hl,u,rfl⟩
theorem Core.found {lo n:Nat}{R:List Keyed}{st st2:SortSt}(h:Core kd rk a₀ lo R st)(hB:SB st st2 lo (a₀.size - lo))(hi:Inc rk (arrOf st2) lo n)(hn:n<=a₀.size - lo):∃ l R',Core kd rk a₀ lo (l++R') st2/\l.length=n/\Up rk l:=by
 have hr:=h.rest;obtain ⟨L,e,hL,r⟩:=h.runs;have hsz:(arrOf st2).size=a₀.size:=hB.size.trans h.perm.size_eq;have et:(arrOf st2).toList.take lo=L:=by
  refine ext_getElem? λi=>?_;by_cases q:i<lo
  ·rw [List.getElem?_take_of_lt q,Array.getElem?_toList,hB.out i (.inl q),<- Array.getElem?_toList,e,qA (by omega)]
  ·rw [List.getElem?_eq_none (by rw [qk];omega),List.getElem?_eq_none (by omega)]
 have e2:(arrOf st2).toList=L++((((arrOf st2).toList.drop lo).take n)++(((arrOf st2).toList.drop lo).drop n)):=by
  rw [take_append_drop,<- et,take_append_drop]
 have hl:(((arrOf st2).toList.drop lo).take n).length=n:=by
  rw [qk,length_drop,qb];omega
 refine ⟨_,_,⟨hB.kind.trans h.kind,hB.failed.trans h.failed,hB.perm.trans h.perm,L,e2,hL,by rw [hB.pend];exact r⟩,hl,?_⟩;refine pairwise_iff_getElem.mpr λi j hi' hj' hij=>?_;have at':∀ i (hi:i<(((arrOf st2).toList.drop lo).take n).length),rk ((((arrOf st2).toList.drop lo).take n)[i]).1=ra rk (arrOf st2) (lo+i):=λi hi=>by
  have q:(((arrOf st2).toList.drop lo).take n)[i]?=(arrOf st2)[lo+i]?:=by rw [List.getElem?_take_of_lt (by omega),List.getElem?_drop,Array.getElem?_toList]
  rw [qc hi] at q;unfold ra;rw [<- q]
 rw [at' i hi',at' j hj'];exact hi i j (by omega) (by omega)
end
theorem J3Z {α:Type}{p q:α->Bool}:∀ {l:List α},(∀ z∈l,p z=true->q z=true)->l.countP p<=l.countP q
 | [],_=>zQ _
 | x::l,h=>by
   have ih:=J3Z (p:=p) (q:=q) (l:=l) λz hz=>h z (ql _ hz);rw [countP_cons,countP_cons];have hx:=h x qm;cases e:p x with
   | true=>rw [hx e];simp;exact ih
   | false=>simp;split<;>omega
theorem J56 {α:Type}{p q:α->Bool}{a:α}:∀ {l:List α},(∀ z∈l,p z=true->q z=true)->a∈l->q a=true->p a=false->l.countP p<l.countP q
 | x :: l,h,ha,h1,h2=>by
   have sub:∀ z∈l,p z=true->q z=true:=λz hz=>h z (ql _ hz);rw [countP_cons,countP_cons];rcases qo.mp ha with rfl | ha
   ·have:=J3Z sub
    rw [h1,h2];simp;omega
   ·have ih:=J56 sub ha h1 h2
    have hx:=h x qm;cases e:p x with
    | true=>rw [hx e];simp;exact ih
    | false=>simp;split<;>omega
def J1D (O:KeyOrd)(l:List O.α)(x:O.α):Nat:=l.countP λz=>O.blt z x
theorem JaB {O:KeyOrd}{l:List O.α}{a b:O.α}(ha:a∈l):decide (J1D O l a<J1D O l b)=O.blt a b:=by
 cases e:O.blt a b with
 | true=>exact zS (J56 (λz _ hz=>O.trans z a b hz e) ha e (O.irrefl a))
 | false =>
   refine zT (Nat.not_lt.mpr (J3Z λz _ hz=>?_));rcases O.negTrans z a b hz with q | q
   ·exact q
   ·rw [e] at q;cases q
theorem JdS {O:KeyOrd}{l:List O.α}{a b:O.α}(hb:b∈l)(h:J1D O l a<=J1D O l b):O.blt b a=false:=by
 rw [<- JaB (l:=l) hb];exact zT (by omega)
end L2
namespace L2
open PySem PySem.Spec PyProof.Rows
open AutoSeq1 (wpAny_loadPart')
open MeetsSeq MeetsSeq2 MeetsSeq3 SeqRoads2
theorem lt_loop (l b:Addr)(us vs:Array Value)(n n2:Nat)(r:Bool) :
 ∀ (xs ys:List Value) (i:Nat),us.toList.drop i=xs->vs.toList.drop i=ys->i<=us.size->i<=vs.size->Meets (Builtin.«list.__eq__.loop» ⟨[.ref l,.ref b,rawInt i,rawInt 0],[]⟩)
   (λA R s=>s.heap.get? l=some (seqObj "list" us n)/\s.heap.get? b=some (seqObj "list" vs n2)/\LexAt A.in1 s xs ys r/\R (.ok (.ret (.bool r))) s):=by
 intro xs
 induction xs with
 | nil =>
   intro ys i ex ey h1 h2 prog w A R s h;obtain ⟨hp,g,d,tk,os⟩:=s;obtain ⟨q1,q2,he,h⟩:=h;have z1:us.size<=i:=by simpa using ex
   wp_walk using wpAny_loadPart' q1,wpAny_loadPart' q2
   have hi1:us[((i:Nat):Int).toNat]?=none:=by simp;omega
   rw [hi1]
   wp_walk using wpAny_loadPart' q1,wpAny_loadPart' q2
   show R (.ok (.ret (.bool (decide (us.size<vs.size))))) _;have e:decide (us.size<vs.size)=r:=by
    cases he with
    | nn =>
      have z2:vs.size<=i:=by simpa using ey
      exact zT (by omega)
    | nc =>
      have z2:¬ vs.size<=i:=λz=>by
       have:vs.toList.drop i=[]:=drop_eq_nil_of_le (by simpa using z);rw [this] at ey;cases ey
      exact zS (by omega)
   rw [e];exact h
 | cons x xs ih =>
   intro ys i ex ey h1 h2 prog w A R s h;obtain ⟨hp,g,d,tk,os⟩:=s;obtain ⟨q1,q2,he,h⟩:=h;have z1:i<us.size:=by
    by_cases z:i<us.size
    ·exact z
    ·have:us.toList.drop i=[]:=drop_eq_nil_of_le (by simp;omega)
     rw [this] at ex;cases ex
   have e1:us[((i:Nat):Int).toNat]?=some x:=by
    have:(us.toList.drop i)[0]?=some x:=by rw [ex];rfl
    rw [List.getElem?_drop] at this;simpa using this
   have d1:us.toList.drop (i+1)=xs:=by rw [<- tail_drop,ex];rfl
   wp_walk using wpAny_loadPart' q1,wpAny_loadPart' q2
   cases ys with
   | nil =>
     have z2:vs.size<=i:=by simpa using ey
     have e2:vs[((i:Nat):Int).toNat]?=none:=by simp;omega
     rw [e1,e2]
     wp_walk using wpAny_loadPart' q1,wpAny_loadPart' q2
     show R (.ok (.ret (.bool (decide (us.size<vs.size))))) _;cases he;rw [zT (by omega)];exact h
   | cons y ys =>
     have z2:i<vs.size:=by
      by_cases z:i<vs.size
      ·exact z
      ·have:vs.toList.drop i=[]:=drop_eq_nil_of_le (by simp;omega)
       rw [this] at ey;cases ey
     have e2:vs[((i:Nat):Int).toNat]?=some y:=by
      have:(vs.toList.drop i)[0]?=some y:=by rw [ey];rfl
      rw [List.getElem?_drop] at this;simpa using this
     have d2:vs.toList.drop (i+1)=ys:=by rw [<- tail_drop,ey];rfl
     rw [e1,e2];cases he with
     | eq a1 a2 =>
       refine zM (a1 prog w _ _ ?_)
       wp_walk
       rw [show ((i:Int)+1)=((i+1:Nat):Int) by push_cast;rfl];refine ⟨plainId_quiet plain_eq_loop _,codeAny_builtin entry_eq_loop ?_⟩;rw [qK plain_eq_loop _];exact ih ys (i+1) d1 d2 (by omega) (by omega) prog w A R _ ⟨q1,q2,a2,h⟩
     | ne a1 a2 =>
       refine zM (a1 prog w _ _ ?_)
       wp_walk using wpAny_loadPart' q1,wpAny_loadPart' q2
       rw [e1,e2];show wpAny (model prog w) A.in1 (richCompare CmpOp.Lt x y >>= _) _ _ _;refine zM (a2 prog w _ _ ?_)
       wp_walk
       exact h
theorem JbA (l b:Addr)(us vs:Array Value)(n n2:Nat)(r:Bool) :
 Meets (Builtin.«list.__lt__» ⟨[.ref l,.ref b],[]⟩)
  (λA R s=>s.heap.get? l=some (seqObj "list" us n)/\s.heap.get? b=some (seqObj "list" vs n2)/\LexAt A.in1 s us.toList vs.toList r/\R (.ok (.ret (.bool r))) s):=by
 intro prog w A R s h;obtain ⟨hp,g,d,tk,os⟩:=s;obtain ⟨q1,q2,he,h⟩:=h;have f3:=AutoSeq1.sub_list_list
 wp_walk using wpAny_loadPart' q1,wpAny_loadPart' q2
 refine ⟨plainId_quiet plain_eq_loop _,codeAny_builtin entry_eq_loop ?_⟩;rw [qK plain_eq_loop _];exact lt_loop l b us vs n n2 r _ _ 0 rfl rfl (zZ _) (zZ _) prog w A R _ ⟨q1,q2,he,h⟩
theorem J3K {s:Shared}{a:Addr}{us:Array Value}{n:Nat}(h:s.heap.get? a=some (seqObj "list" us n)):s.TypeIs (.ref a) "list":=⟨_,h,rfl⟩
section
variable {prog:Program}{w:World}{A:Around}{E:Value->Shared->Prop}{s:Shared}
theorem Ja8 {a b:Addr}{us vs:Array Value}{n n2:Nat}{r:Bool}{Q:Bool->Shared->Prop}(hu:A.units<cLine)(h1:s.heap.get? a=some (seqObj "list" us n))(h2:s.heap.get? b=some (seqObj "list" vs n2))(hl:LexAt A.in1 s us.toList vs.toList r)(h:Q r s) :
 wpAny (model prog w) A (oneLt' true (.ref a) (.ref b)) Q E s:=by
 rw [oneLt'_eq];simp only [if_true];refine zM (wpAny_cRoomFor hu ?_);refine zM (wpAny_callSpecialIfBound?_slot (J3K h1) F.slot_list_lt ?_);refine call_meets F.slot_list_lt (J3K h1) F.entry_list_lt (F.args_list_lt_2 _ _) (JbA a b us vs n n2 r) ⟨h1,h2,?_,?_⟩
 ·exact hl
 ·exact wpAny_truthy_bool h
end
end L2
namespace L2
open PySem PySem.Spec PyProof.Rows
def prV:Ji->List V
 | none=>[.int 1,.int 0]
 | some k=>[.int 0,kV k]
def prD:Ji->PyData
 | none=>.tuple [.int 1,.int 0]
 | some (.inl i)=>.tuple [.int 0,.int i]
 | some (.inr x)=>.tuple [.int 0,.str x]
def ltN:Ji->Ji->Bool
 | none,_=>false
 | some _,none=>true
 | some (.inl i),some (.inl j)=>decide (i<j)
 | some (.inl _),some (.inr _)=>true
 | some (.inr _),some (.inl _)=>false
 | some (.inr x),some (.inr y)=>decide (x.cps.toList<y.cps.toList)
def JaM:Ji->Ji->Bool
 | some (.inl _),some (.inr _)=>false
 | some (.inr _),some (.inl _)=>false
 | _,_=>true
def J0R:List Ji->List Ji->Bool
 | [],[]=>false
 | [],_::_=>true
 | _::_,[]=>false
 | a::as,b::bs=>if a=b then J0R as bs else ltN a b
def J76:List Ji->List Ji->Bool
 | a::as,b::bs=>JaM a b&&(if a=b then J76 as bs else true)
 | _,_=>true
theorem JdG {x y:Str}(h:x.cps.toList=y.cps.toList):x=y:=by
 cases x;cases y;simp only [Str.mk.injEq];exact Array.toList_inj.mp h
theorem Jai:∀ a,ltN a a=false
 | none=>rfl
 | some (.inl i)=>by simp [ltN]
 | some (.inr x)=>by simp only [ltN,decide_eq_false_iff_not];exact List.lt_irrefl _
theorem Jby:∀ a b c,ltN a b=true->ltN b c=true->ltN a c=true
 | none,_,_,h,_=>by cases h
 | some _,none,_,_,h=>by cases h
 | some _,some _,none,_,_=>rfl
 | some (.inl i),some (.inl j),some (.inl k),h1,h2=>by simp only [ltN,decide_eq_true_eq] at *;omega
 | some (.inl i),some (.inl j),some (.inr k),h1,h2=>rfl
 | some (.inl i),some (.inr j),some (.inl k),h1,h2=>by cases h2
 | some (.inl i),some (.inr j),some (.inr k),h1,h2=>rfl
 | some (.inr i),some (.inl j),some c,h1,h2=>by cases h1
 | some (.inr i),some (.inr j),some (.inl k),h1,h2=>by cases h2
 | some (.inr i),some (.inr j),some (.inr k),h1,h2=>by simp only [ltN,decide_eq_true_eq] at *;exact List.lt_trans h1 h2
theorem Jbz:∀ a b,ltN a b=false->ltN b a=false->a=b
 | none,none,_,_=>rfl
 | none,some _,_,h=>by cases h
 | some _,none,h,_=>by cases h
 | some (.inl i),some (.inl j),h1,h2=>by simp only [ltN,decide_eq_false_iff_not] at *;rw [show i=j by omega]
 | some (.inl i),some (.inr j),h1,h2=>by cases h1
 | some (.inr i),some (.inl j),h1,h2=>by cases h2
 | some (.inr i),some (.inr j),h1,h2=>by
   simp only [ltN,decide_eq_false_iff_not] at *;rw [JdG (List.le_antisymm (List.not_lt.mp h2) (List.not_lt.mp h1))]
theorem J31:∀ a,J0R a a=false
 | []=>rfl
 | a::as=>by rw [J0R,zP rfl];exact J31 as
theorem lexN_trans:∀ a b c,J0R a b=true->J0R b c=true->J0R a c=true
 | [],[],_,h,_=>by cases h
 | [],_::_,[],_,h=>by cases h
 | [],_::_,_::_,_,_=>rfl
 | _::_,[],_,h,_=>by cases h
 | _::_,_::_,[],_,h=>by cases h
 | a :: as,b::bs,c::cs,h1,h2=>by
   rw [J0R] at h1 h2 ⊢;by_cases e1:a=b
   ·subst e1
    rw [zP rfl] at h1;by_cases e2:a=c
    ·rw [zP e2] at h2 ⊢;exact lexN_trans as bs cs h1 h2
    ·rw [zO e2] at h2 ⊢;exact h2
   ·rw [zO e1] at h1
    by_cases e2:b=c
    ·subst e2;rw [zO e1];exact h1
    ·rw [zO e2] at h2
     have h3:=Jby a b c h1 h2;rw [zO (λe=>by rw [e,Jai] at h3;cases h3)];exact h3
theorem J2y:∀ a b,J0R a b=false->J0R b a=false->a=b
 | [],[],_,_=>rfl
 | [],_::_,h,_=>by cases h
 | _::_,[],_,h=>by cases h
 | a :: as,b::bs,h1,h2=>by
   rw [J0R] at h1 h2;by_cases e:a=b
   ·subst e
    rw [zP rfl] at h1 h2;rw [J2y as bs h1 h2]
   ·rw [zO e] at h1
    rw [zO (Ne.symm e)] at h2;exact absurd (Jbz a b h1 h2) e
theorem JbB {a b:List Ji}(h:J0R a b=true):J0R b a=false:=by
 cases e:J0R b a with
 | false=>rfl
 | true=>have:=lexN_trans a b a h e;rw [J31] at this;cases this
def J1l:KeyOrd where
 α:=List Ji
 blt:=J0R
 irrefl:=J31
 trans:=lexN_trans
 negTrans:=λa b c h=>by
  cases e1:J0R a b with
  | true=>first | exact .inl rfl | exact .inr rfl
  | false =>
    cases e2:J0R b c with
    | true=>first | exact .inr rfl | exact .inl rfl
    | false =>
      exfalso;cases e3:J0R b a with
      | true=>have:=lexN_trans b a c e3 h;rw [e2] at this;cases this
      | false =>
        have:=J2y a b e1 e3;subst this;rw [h] at e2;cases e2
 total:=J2y
theorem JeZ {a b:Ji}(hl:JaM a b=true)(hne:a≠b):J9c (prV a) (prV b)=some (ltN a b):=by
 match a,b,hl,hne with
 | none,none,_,h=>exact absurd rfl h
 | none,some k,_,_=>simp [prV,J9c,ltS,ltN]
 | some k,none,_,_=>simp [prV,J9c,ltS,ltN]
 | some (.inl i),some (.inl j),_,h =>
   have:i≠j:=λe=>h (by rw [e]);simp [prV,J9c,ltS,ltN,kV,this]
 | some (.inr i),some (.inr j),_,h =>
   have:i≠j:=λe=>h (by rw [e]);simp [prV,J9c,ltS,ltN,kV,this]
theorem Jf0 (a b:Ji):PyData.eqv (prD a) (prD b)=decide (a=b):=by
 match a,b with
 | none,none=>simp [prD,PyData.eqv,PyData.eqvAll]
 | none,some (.inl j)=>simp [prD,PyData.eqv,PyData.eqvAll]
 | none,some (.inr j)=>simp [prD,PyData.eqv,PyData.eqvAll]
 | some (.inl i),none=>simp [prD,PyData.eqv,PyData.eqvAll]
 | some (.inr i),none=>simp [prD,PyData.eqv,PyData.eqvAll]
 | some (.inl i),some (.inl j) =>
   by_cases e:i=j
   ·simp [prD,PyData.eqv,PyData.eqvAll,e]
   ·simp [prD,PyData.eqv,PyData.eqvAll,e]
 | some (.inl i),some (.inr j)=>simp [prD,PyData.eqv,PyData.eqvAll]
 | some (.inr i),some (.inl j)=>simp [prD,PyData.eqv,PyData.eqvAll]
 | some (.inr i),some (.inr j) =>
   by_cases e:i=j
   ·simp [prD,PyData.eqv,PyData.eqvAll,e]
   ·simp [prD,PyData.eqv,PyData.eqvAll,e]
def J4V (h:Heap)(u:Value)(k:Ji):Prop:=∃ p its,u=.ref p/\IsTup h p its.toArray/\Vals (prV k) its
theorem J8W {h:Heap}{u:Value}{k:Ji}(x:J4V h u k):∃ as,Reads h u (prD k) as:=by
 obtain ⟨p,its,rfl,⟨o,e,c,n,d⟩,r⟩:=x
 match k,r with
 | none,r =>
   have r:Vals [V.int 1,V.int 0] its:=r;cases r with
   | cons h1 t=>cases t with
     | cons h2 t=>cases t;obtain ⟨_,rfl⟩:=h1;obtain ⟨_,rfl⟩:=h2;exact ⟨_,.tuple e c d (.cons (.int _ _) (.cons (.int _ _) .nil))⟩
 | some (.inl i),r =>
   have r:Vals [V.int 0,V.int i] its:=r;cases r with
   | cons h1 t=>cases t with
     | cons h2 t=>cases t;obtain ⟨_,rfl⟩:=h1;obtain ⟨_,rfl⟩:=h2;exact ⟨_,.tuple e c d (.cons (.int _ _) (.cons (.int _ _) .nil))⟩
 | some (.inr i),r =>
   have r:Vals [V.int 0,V.str i] its:=r;cases r with
   | cons h1 t=>cases t with
     | cons h2 t=>cases t;obtain ⟨_,rfl⟩:=h1;obtain ⟨_,rfl⟩:=h2;exact ⟨_,.tuple e c d (.cons (.int _ _) (.cons (.str _ _) .nil))⟩
def okN:Ji->Prop
 | some (.inr x)=>PyData.strOk x=true
 | _=>True
theorem J7P (k:Ji)(ok:okN k):(prD k).canLay0=true/\(prD k).depth<=1:=by
 match k,ok with
 | none,_=>simp [prD,PyData.canLay0,PyData.canLayAll0,PyData.depth,PyData.depthAll]
 | some (.inl i),_=>simp [prD,PyData.canLay0,PyData.canLayAll0,PyData.depth,PyData.depthAll]
 | some (.inr i),h=>simp [prD,PyData.canLay0,PyData.canLayAll0,PyData.depth,PyData.depthAll,(show PyData.strOk i=true from h)]
section
variable {A:Around}{s:Shared}
theorem JdY {u v:Value}{a b:Ji}(hu:A.units+2<cLine)(o1:okN a)(o2:okN b)(x:J4V s.heap u a)(y:J4V s.heap v b):SeqAt.EqAt A s u v (decide (a=b)):=by
 obtain ⟨as,r1⟩:=J8W x;obtain ⟨bs,r2⟩:=J8W y;rw [<- Jf0];refine SeqAt.eqAt_reads _ _ A s u v _ _ r1 r2 (J7P a o1).1 (J7P b o2).1 ?_;have:=Nat.min_le_left (prD a).depth (prD b).depth;have:=(J7P a o1).2;omega
theorem JdX {u v:Value}{a b:Ji}(hu:A.units<cLine)(x:J4V s.heap u a)(y:J4V s.heap v b)(hl:JaM a b=true)(hne:a≠b):JfK A s u v (ltN a b):=by
 obtain ⟨p,its,rfl,⟨⟨c1,d1,t1,sl1⟩,e,c,n,d⟩,r⟩:=x;obtain ⟨q,its2,rfl,⟨⟨c2,d2,t2,sl2⟩,e2,c',n2,d'⟩,r2⟩:=y;cases (show c1=.type "tuple" from c);cases (show c2=.type "tuple" from c');cases (show t1=.seq its.toArray n from d);cases (show t2=.seq its2.toArray n2 from d');intro prog w E Q h;exact richCompare_meets_room (op:=.Lt) ⟨_,e,rfl⟩ ⟨_,e2,rfl⟩ F.slot_tuple_lt F.entry_tuple_lt (F.args_tuple_lt_2 _ _) (tuple_ltAt p q _ _ _ _ _ _ _ _ (ltN a b)) ⟨e,e2,lexV_at r r2 (JeZ hl hne),by simp,h⟩ hu
theorem JaN (hu:A.units+2<cLine):∀ {us vs:List Value} {as bs:List Ji},Paired (J4V s.heap) us as->Paired (J4V s.heap) vs bs->(∀ a∈as,okN a)->(∀ b∈bs,okN b)->J76 as bs=true->LexAt A s us vs (J0R as bs)
 | _,_,_,_,.nil,.nil,_,_,_=>.nn
 | _,_,_,_,.nil,.cons _ _,_,_,_=>.nc
 | _,_,_,_,.cons _ _,.nil,_,_,_=>.cn
 | _,_,a::as,b::bs,.cons x t,.cons y t',o1,o2,h=>by
   rw [J76,Bool.and_eq_true] at h;rw [J0R];have e1:=JdY hu (o1 a qm) (o2 b qm) x y;by_cases e:a=b
   ·rw [zS e] at e1
    rw [zP e];refine .eq e1 (JaN hu t t' (λz hz=>o1 z (ql _ hz)) (λz hz=>o2 z (ql _ hz)) ?_);have h2:=h.2;rw [zP e] at h2;exact h2
   ·rw [zT e] at e1
    rw [zO e];exact .ne e1 (JdX (by omega) x y h.1 e)
end
end L2
namespace L2
open PySem PyProof.Rows
theorem J6I {n:Nat}(h:n<64):minRun' n n 0=n:=by
 cases n with
 | zero=>rfl
 | succ n=>rw [minRun'_succ,zP h];try rfl
section
variable {prog:Program}{w:World}{A:Around}{E:Value->Shared->Prop}{s:Shared}{kd:SortKind}{D:Value->Prop}{rk:Value->Nat}{a₀:Array Keyed}
theorem tim_small (C:Cmp prog w A s kd D rk)(hD:∀ p∈a₀.toList,D p.1)(h64:a₀.size<64){st:SortSt}{Q:Unit->SortSt->Prop}(hk:kindOf st=kd)(hf:failedOf st=none)(hp:(arrOf st).Perm a₀)(hq:pendingOf st=#[])
 (h:∀ st',(arrOf st').Perm a₀->failedOf st'=none->Up rk (arrOf st').toList->Q () st'):wpS (model prog w) A E s sortRuns' Q st:=by
 have hsz:(arrOf st).size=a₀.size:=hp.size_eq;rw [sortRuns'_eq];refine wpS_bind (wpS_get ?_);dsimp only;rw [hsz,J6I h64];refine wpS_bind (wpS_mono (wpS_forRange (I:=λx c st'=>∃ lo R,c=(none,lo)/\((lo=0/\x=0/\pendingOf st'=#[])\/(lo=a₀.size/\(pendingOf st').size<=1))/\Core kd rk a₀ lo R st') (Q:=λc st'=>c=(none,a₀.size)/\(pendingOf st').size<=1/\Core kd rk a₀ a₀.size [] st') ?step ?fin ⟨0,(arrOf st).toList,rfl,.inl ⟨rfl,rfl,hq⟩,hk,hf,hp,[],rfl,rfl,by rw [hq];exact rfl⟩) ?post)
 case fin =>
  rintro c st' ⟨lo,R,rfl,h1,hc⟩;rcases h1 with ⟨rfl,h0,hp0⟩ | ⟨rfl,h1⟩
  ·have hR:R=[]:=eq_nil_of_length_eq_zero (by have:=hc.rest;omega)
   have e0:a₀.size=0:=h0;refine ⟨by rw [e0],by rw [hp0];simp,?_⟩;rw [e0];exact hR ▸ hc
  ·have hR:R=[]:=eq_nil_of_length_eq_zero (by have:=hc.rest;omega)
   exact ⟨rfl,h1,hR ▸ hc⟩
 case step =>
  rintro x c st1 _ hx ⟨lo,R,rfl,h1,hc⟩;dsimp only;by_cases hlo:lo≥a₀.size
  ·rw [zP hlo]
   rcases h1 with ⟨rfl,h0,hp0⟩ | ⟨rfl,h1⟩
   ·omega
   ·have hR:R=[]:=eq_nil_of_length_eq_zero (by have:=hc.rest;omega)
    exact wpS_pure ⟨rfl,h1,hR ▸ hc⟩
  rw [zO hlo];obtain ⟨rfl,rfl,hp0⟩:lo=0/\x=0/\pendingOf st1=#[]:=by
   rcases h1 with z | ⟨z,_⟩
   ·exact z
   ·omega
  have hz:0+(a₀.size - 0)<=(arrOf st1).size:=by rw [hc.perm.size_eq];omega
  refine wpS_bind (tim_countRun C hc.kind (hc.dom hD) hz (by omega) λm st2 hB m1 m2 hi=>?_);dsimp only;by_cases hm:m<a₀.size
  case' pos =>
   rw [zP hm];refine wpS_bind (wpS_lift (wpAny_rule ⟨rfl,?_⟩));refine wpS_bind (tim_binarySort C hc.kind (hc.dom hD) hz (n:=min (a₀.size - 0) a₀.size) (by omega) (by omega) hB hi λst3 hB3 hi3=>?_);rw [zO (by simp)];have n1:1<=min (a₀.size - 0) a₀.size:=by omega
   have n2:min (a₀.size - 0) a₀.size<=a₀.size - 0:=by omega
   have n3:min (a₀.size - 0) a₀.size=a₀.size:=by omega
   generalize min (a₀.size - 0) a₀.size=n at *
  case' neg =>
   rw [zO hm];have n1:=m1;have n2:=m2;have n3:m=a₀.size:=by omega
   have hi3:=hi;have hB3:=hB;generalize hn:m=n at *;generalize hst3:st2=st3 at *
  all_goals
   obtain ⟨l,R',hc3,hl,hu⟩:=hc.found hB3 hi3 n2;have hp3:pendingOf st3=#[]:=by rw [<- hp0];exact hB3.pend
   refine wpS_bind (wpS_get ?_);rw [hp3];refine wpS_bind (wpS_modify (wpS_pure ⟨0+n,R',rfl,.inr ⟨by omega,?_⟩,?_⟩))
   ·show ((pendingOf st3).push (0,n,0)).size<=1
    rw [hp3];simp
   ·exact hc3.push hl n1 hu
 case post =>
  rintro c st1 ⟨rfl,h1,hc⟩;dsimp only;refine wpS_bind (wpS_mono (wpS_forRange (I:=λx c st'=>c=(none,())/\Core kd rk a₀ a₀.size [] st'/\(pendingOf st').size<=1) (Q:=λc st'=>c=(none,())/\Core kd rk a₀ a₀.size [] st'/\(pendingOf st').size<=1) ?stepF (λ_ _ z=>z) ⟨rfl,hc,h1⟩) ?postF)
  case stepF =>
   rintro y c st2 _ hy ⟨rfl,h2,h3⟩;refine wpS_bind (wpS_get ?_);rw [zP h3];exact wpS_pure ⟨rfl,h2,h3⟩
  case postF =>
   rintro c st2 ⟨rfl,h2,h3⟩;refine wpS_pure (h st2 h2.perm h2.failed ?_);obtain ⟨L,e,hL,r⟩:=h2.runs;rw [e,append_nil];have hlen:(pendingOf st2).toList.length<=1:=by rw [qb];exact h3
   generalize (pendingOf st2).toList=ps at r hlen
   match ps,r,hlen with
   | [],r,_=>cases (show L=[] from r);exact .nil
   | [p],⟨_,_,l,L',e2,_,u,r2⟩,_ =>
     cases (show L'=[] from r2);rw [e2,append_nil];exact u
   | _::_::_,_,hlen=>simp at hlen
end
end L2
namespace L2
open PySem PySem.Spec PyProof.Rows
def Trc (H:Hp)(h G:Heap)(e:Addr)(C:Value)(ed:Option Addr)(fl:Value):Prop :=
 G.get? e=none/\H e=none/\∃ oe vs,h.get? e=some oe/\oe.cls=C/\oe.dict=ed/\oe.data=.fields vs/\1<vs.size /\
  ((vs[1]?=some .none/\fl=.none)\/∃ T oT ts,vs[1]?=some (.ref T)/\G.get? T=none/\T≠e/\H T=none/\h.get? T=some oT/\oT.data=.fields ts/\ts[3]?=some fl)
structure Kp (H:Hp)(G:Heap)(fs:List Addr)(h h':Heap):Prop where
 keep:∀ b o,h.get? b=some o->b∉fs->(G.get? b≠none\/H b≠none)->h'.get? b=some o
 slot:∀ b o,h.get? b=some o->b∈fs->∃ sl,h'.get? b=some { o with slots:=sl }
 there:∀ b o,h.get? b=some o->∃ o',h'.get? b=some o'
 size:h.objs.size<=h'.objs.size
theorem Kp.refl (H:Hp)(G:Heap)(fs:List Addr)(h:Heap):Kp H G fs h h:=⟨λ_ _ e _ _=>e,λ_ o e _=>⟨o.slots,e⟩,λ_ o e=>⟨o,e⟩,zQ _⟩
section
variable {M:Model}{A:Around}{E:Value->Shared->Prop}{s:Shared}{Q:Unit->Shared->Prop}{base:Heap}{env:Env}{outer:List Env}{L e:Addr}{C:Value}{ed:Option Addr}{G:Heap}{H:Hp}
theorem J9n {oe:Obj}{vs:Array Value}{head:Value}{hadNext:Bool}(hfr:A.frames=some (env::outer))(hl:s.heap.FunFrames base (env::outer))(hf:env.frame=some L)
 (he:s.heap.get? e=some oe) (hd:oe.data=.fields vs) (hsz:1<vs.size)
 (h:∀ h' T oT ts,s.heap.objs.size<=T->h'.get? e=some (oe.mapFields (·.setIfInBounds 1 (.ref T)))->h'.get? T=some oT->oT.data=.fields ts->ts[3]?=some (rawInt L) ->
  (∀ b o,b≠e->s.heap.get? b=some o->b∉frs (env::outer)->h'.get? b=some o)->(∀ b o,b≠e->s.heap.get? b=some o->∃ sl,h'.get? b=some { o with slots:=sl })->s.heap.objs.size<=h'.objs.size->Q () { s with heap:=h' }) :
 wpAny M A (do let a <- frameOf env;let pl <- entryPlaceOf L hadNext;let b <- EntryCells.newEntry head a .none (rawInt L) .none pl;setField (.ref e) 1 b) Q E s:=by
 have hene:e∉frs (env::outer):=λhm=>by
  obtain ⟨_,o,ho,hnf⟩:=hl.mem hm;rw [he] at ho;cases ho;exact hnf vs hd
 refine zM (wpAny_frameOf_fun hfr hl hf λh₁ hs₁=>?_);refine zM (wpAny_entryPlaceOf λpl hpl=>?_);unfold EntryCells.newEntry newFields;refine zM (wpAny_newObj_type ?_ (hpl.sizeOk5 _ _ _ _ _));have he₁:h₁.get? e=some oe:=(hs₁.2.1 e hene).trans he;generalize hO:({ cls:=.type "traceback",dict:=none,data:=.fields ([head,.ref L,.none,rawInt L,.none]++(if pl.isEmpty then List.replicate 6 Value.none else pl)).toArray }:Obj)=O;have he₂:=qF (h:=h₁) O he₁;have hTe:h₁.objs.size≠e:=Nat.ne_of_gt (qH he₁);refine wpAny_setField he₂ hd hsz (h _ h₁.objs.size O _ (Nat.le_of_eq hs₁.1.symm) (Heap.get?_update_self _ he₂ (Obj.isFreed_of_fields (Obj.data_mapFields hd _))) ?_ (by rw [<- hO]) ?_ ?_ ?_ ?_)
 ·rw [qI _ _ (Ne.symm hTe)]
  exact qG h₁ (by rw [<- hO];rfl)
 ·first | (simp;done) | (rcases hpl with rfl | ⟨_,_,_,_,_,_,_,rfl⟩<;>simp)
 ·intro b o hb ho hn
  rw [qI _ _ (Ne.symm hb)];exact qF _ ((hs₁.2.1 b hn).trans ho)
 ·intro b o hb ho
  obtain ⟨sl,e1⟩:=hs₁.2.2 b o ho;exact ⟨sl,by rw [qI _ _ (Ne.symm hb)];exact qF _ e1⟩
 ·rw [Heap.size_after_update,Heap.size_push,hs₁.1]
  exact Nat.le_succ _
theorem note_wp (hfr:A.frames=some (env::outer))(hl:s.heap.FunFrames base (env::outer))(hf:env.frame=some L)(hH:∀ b,s.heap.objs.size<=b->H b=none)(hG:∀ b,s.heap.objs.size<=b->G.get? b=none)(t:Trc H s.heap G e C ed .none)
 (h:∀ h',Trc H h' G e C ed (rawInt L)->h'.FunFrames base (env::outer)->Kp H G (frs (env::outer)) s.heap h'->Q () { s with heap:=h' }):wpAny M A (noteFrame (.ref e) env) Q E s:=by
 obtain ⟨hn,hHe,oe,vs,he,hc,hdi,hd,hsz,ht⟩:=t;unfold noteFrame;simp only [hf];have nfr:∀ b o ws,s.heap.get? b=some o->o.data=.fields ws->b∉frs (env::outer):=λb o ws ho hw hm=>by
  obtain ⟨_,o',ho',hnf⟩:=hl.mem hm;rw [ho] at ho';cases ho';exact hnf ws hw
 have fin:∀ (s1:Shared) (h':Heap) (T:Addr) (oT:Obj) (ts:Array Value),s.heap.objs.size<=T->h'.get? e=some (oe.mapFields (·.setIfInBounds 1 (.ref T)))->h'.get? T=some oT->oT.data=.fields ts->ts[3]?=some (rawInt L) ->
  (∀ b o,s.heap.get? b=some o->b∉frs (env::outer)->(G.get? b≠none\/H b≠none)->h'.get? b=some o)->(∀ b o,s.heap.get? b=some o->(∀ ws,o.data≠.fields ws)->∃ sl,h'.get? b=some { o with slots:=sl }) ->
  (∀ b o,s.heap.get? b=some o->∃ o',h'.get? b=some o')->s.heap.objs.size<=h'.objs.size->Q () { s with heap:=h' }:=by
  intro s1 h' T oT ts hT e1 e2 e3 e4 k1 k2 k3 k4;have le:e<s.heap.objs.size:=qH he;refine h h' ⟨hn,hHe,_,_,e1,by rw [Obj.cls_mapFields];exact hc,?_,Obj.data_mapFields hd _,by simpa using hsz,.inr ⟨T,oT,ts,by simp [hsz],hG T hT,Nat.ne_of_gt (zY le hT),hH T hT,e2,e3,e4⟩⟩ (hl.of_keeps λb o hb hnf=>?_) ⟨k1,λb o hb hm=>?_,k3,k4⟩
  ·rw [<- hdi]
   obtain ⟨c,d,dt,sl⟩:=oe;cases dt<;>rfl
  ·obtain ⟨sl,q⟩:=k2 b o hb hnf
   exact ⟨_,q,rfl⟩
  ·obtain ⟨_,o',ho',hnf⟩:=hl.mem hm
   rw [hb] at ho';cases ho';exact k2 b o hb hnf
 have nee:∀ b o,s.heap.get? b=some o->(G.get? b≠none\/H b≠none)->b≠e:=λb o hb hx z=>by
  subst z;rcases hx with hx | hx
  ·exact hx hn
  ·exact hx hHe
 rcases ht with ⟨h1,_⟩ | ⟨T,oT,ts,h1,hT,hTe,hHT,gT,hdT,h3⟩
 ·refine zM (wpAny_field he hd h1 ?_)
  rw [zO (by decide)];refine J9n hfr hl hf he hd hsz λh' T' oT' ts' q1 q2 q3 q4 q5 q6 q7 q8=>fin s h' T' oT' ts' q1 q2 q3 q4 q5 (λb o hb hm hx=>q6 b o (nee b o hb hx) hb hm) (λb o hb hnf=>q7 b o (λz=>?_) hb) (λb o hb=>?_) q8
  ·subst z
   rw [he] at hb;cases hb;exact hnf vs hd
  ·by_cases z:b=e
   ·subst z
    exact ⟨_,q2⟩
   ·obtain ⟨sl,q⟩:=q7 b o z hb
    exact ⟨_,q⟩
 ·refine zM (wpAny_field he hd h1 ?_)
  rw [zP (show (Value.ref T != Value.none)=true from by simp)];refine zM (wpAny_field gT hdT h3 ?_);rw [zO (show ¬ ((Value.none == rawInt L)=true) from by simp [rawInt])];refine zM (wpAny_setField gT hdT (Array.getElem?_eq_some_iff.mp h3).1 ?_);have other:∀ b,b≠T->(s.heap.update T (Obj.mapFields (·.setIfInBounds 3 Value.none))).get? b=s.heap.get? b:=λb hb=>qI _ _ (Ne.symm hb);have self:=Heap.get?_update_self (Obj.mapFields (·.setIfInBounds 3 Value.none)) gT (Obj.isFreed_of_fields (Obj.data_mapFields hdT _));have neT:∀ b o,s.heap.get? b=some o->(G.get? b≠none\/H b≠none)->b≠T:=λb o hb hx z=>by
   subst z;rcases hx with hx | hx
   ·exact hx hT
   ·exact hx hHT
  have neF:∀ b o,s.heap.get? b=some o->(∀ ws,o.data≠.fields ws)->b≠T:=λb o hb hnf z=>by
   subst z;rw [gT] at hb;cases hb;exact hnf ts hdT
  have sz:(s.heap.update T (Obj.mapFields (·.setIfInBounds 3 Value.none))).objs.size=s.heap.objs.size:=Heap.size_after_update ..;refine J9n hfr (hl.of_keeps λb o hb hnf=>⟨o,(other b (neF b o hb hnf)).trans hb,rfl⟩) hf ((other e (Ne.symm hTe)).trans he) hd hsz
   λh' T' oT' ts' q1 q2 q3 q4 q5 q6 q7 q8=>fin s h' T' oT' ts' (by rw [sz] at q1;exact q1) q2 q3 q4 q5 (λb o hb hm hx=>q6 b o (nee b o hb hx) ((other b (neT b o hb hx)).trans hb) hm)
    (λb o hb hnf=>q7 b o (λz=>?_) ((other b (neF b o hb hnf)).trans hb)) (λb o hb=>?_) (by rw [sz] at q8;exact q8)
  ·subst z
   rw [he] at hb;cases hb;exact hnf vs hd
  ·by_cases z:b=e
   ·subst z
    exact ⟨_,q2⟩
   ·by_cases y:b=T
    ·subst y
     obtain ⟨sl,q⟩:=q7 b _ z self;exact ⟨_,q⟩
    ·obtain ⟨sl,q⟩:=q7 b o z ((other b y).trans hb)
     exact ⟨_,q⟩
theorem flight_wp {fl:Value}(hl:s.heap.FunFrames base outer)(t:Trc H s.heap G e C ed fl)
 (h:∀ h',Trc H h' G e C ed .none->h'.FunFrames base outer->Kp H G [] s.heap h'->(∀ b o,s.heap.get? b=some o->(∀ ws,o.data≠.fields ws)->h'.get? b=some o)->Q () { s with heap:=h' }):wpAny M A (setFlight (.ref e) none) Q E s:=by
 obtain ⟨hn,hHe,oe,vs,he,hc,hdi,hd,hsz,ht⟩:=t;unfold setFlight;rcases ht with ⟨h1,_⟩ | ⟨T,oT,ts,h1,hT,hTe,hHT,gT,hdT,h3⟩
 ·refine zM (wpAny_field he hd h1 ?_)
  rw [zO (by decide)];exact zN (h s.heap ⟨hn,hHe,oe,vs,he,hc,hdi,hd,hsz,.inl ⟨h1,rfl⟩⟩ hl (Kp.refl ..) λ_ _ e _=>e)
 ·have hs3:3<ts.size:=(Array.getElem?_eq_some_iff.mp h3).1
  refine zM (wpAny_field he hd h1 ?_);rw [zP (show (Value.ref T != Value.none)=true from by simp)];have other:∀ b,b≠T->(s.heap.update T (Obj.mapFields (·.setIfInBounds 3 ((none:Option Addr).elim Value.none λf=>rawInt f)))).get? b=s.heap.get? b:=λb hb=>qI _ _ (Ne.symm hb);have self:=Heap.get?_update_self (Obj.mapFields (·.setIfInBounds 3 ((none:Option Addr).elim Value.none λf=>rawInt f))) gT (Obj.isFreed_of_fields (Obj.data_mapFields hdT _));refine wpAny_setField gT hdT hs3 (h _ ⟨hn,hHe,oe,vs,(other e (Ne.symm hTe)).trans he,hc,hdi,hd,hsz,.inr ⟨T,_,_,h1,hT,hTe,hHT,self,Obj.data_mapFields hdT _,by simp [hs3]⟩⟩ (hl.of_keeps λb o hb hnf=>⟨o,(other b λz=>?_).trans hb,rfl⟩)
   ⟨λb o hb _ hx=>(other b λz=>?_).trans hb,λ_ _ _ hm=>(nomatch hm),λb o hb=>?_,Nat.le_of_eq (Heap.size_after_update ..).symm⟩ λb o hb hnf=>(other b λz=>?_).trans hb)
  ·subst z
   rw [gT] at hb;cases hb;exact hnf ts hdT
  ·subst z
   rcases hx with hx | hx
   ·exact hx hT
   ·exact hx hHT
  ·by_cases z:b=T
   ·subst z
    exact ⟨_,self⟩
   ·exact ⟨o,(other b z).trans hb⟩
  ·subst z
   rw [gT] at hb;cases hb;exact hnf ts hdT
end
def CXE (P:Program)(w:World):CXT:=λouter H s E e s'=>∃ a C ed H',e=.ref a/\s'.os=s.os/\AllBare s'.gens/\Un (frs outer) [] H H' s.heap s'.heap/\HOk P w H' s'.heap/\Trc H' s'.heap s.heap a C ed .none/\E C ed H'
theorem Trc.older {H:Hp}{h G G':Heap}{e:Addr}{C:Value}{ed:Option Addr}{fl:Value}(t:Trc H h G e C ed fl)(hm:∀ b,G.get? b=none->G'.get? b=none):Trc H h G' e C ed fl:=by
 obtain ⟨hn,hHe,oe,vs,he,hc,hdi,hd,hsz,ht⟩:=t;refine ⟨hm _ hn,hHe,oe,vs,he,hc,hdi,hd,hsz,?_⟩;rcases ht with ht | ⟨T,oT,ts,h1,hT,r⟩
 ·exact .inl ht
 ·exact .inr ⟨T,oT,ts,h1,hm _ hT,r⟩
theorem J9j {h:Heap}{b:Addr}(hb:h.objs.size<=b):h.get? b=none:=Heap.get?_none_of_le hb
theorem Inv.back {X:Cx}{pins:List (Addr×Obj)}{σ:St}{H:Hp}{s:Shared}(I:Inv X pins σ H s)(hex:X.ex=[])(b:Addr)(e:s.heap.get? b=none):X.s₀.heap.get? b=none:=by
 cases q:X.s₀.heap.get? b with
 | none=>rfl
 | some o =>
   obtain ⟨o',e'⟩:=I.base.there b o q (by rw [hex];simp);rw [e] at e';cases e'
structure Cov (X:Cx)(pins:List (Addr×Obj))(G:Heap):Prop where
 loc:G.get? X.env.locals≠none
 cell:∀ x c,X.env.cells.lookup x=some c->G.get? c≠none
 pin:∀ p∈X.pn++pins,G.get? p.1≠none
 old:∀ b,G.get? b=none->X.s₀.heap.get? b=none
theorem Inv.cov {X:Cx}{pins:List (Addr×Obj)}{σ:St}{H:Hp}{s:Shared}(I:Inv X pins σ H s)(hex:X.ex=[]):Cov X pins s.heap :=
 ⟨by obtain ⟨m,⟨o,_,_,ho,_⟩,_⟩:=I.loc;rw [ho];simp,λx c e=>by obtain ⟨v,o,ho,_⟩:=I.cell x c e;rw [ho];simp,λp hp=>by rw [(I.pin p hp).1];simp,I.back hex⟩
structure Told (X:Cx)(S:St->Prop)(E:XK):Prop where
 ex:X.ex=[]
 on:∀ pins σ H s a C ed G,S σ->Inv X pins σ H s->Trc H s.heap G a C ed .none->Cov X pins G->(∀ b,s.heap.get? b=none->G.get? b=none)->E C ed H->X.xe (.ref a) s
theorem Told.passes {X:Cx}{S:St->Prop}{E:XK}(T:Told X S E){pins:List (Addr×Obj)}{σ:St}{H:Hp}{s s':Shared}{e:Value}(hS:S σ)(I:Inv X pins σ H s)(h:CXE X.prog X.w X.stack H s E e s'):X.xe e s':=by
 obtain ⟨a,C,ed,H',rfl,os,bare,un,hok,t,q⟩:=h;have J:Inv X pins σ H' s':=I.call' os un hok bare (λb z=>absurd z (by simp));refine T.on pins σ H' s' a C ed s.heap hS J t (I.cov T.ex) (λb e=>?_) q;cases z:s.heap.get? b with
 | none=>rfl
 | some o =>
   obtain ⟨o',e'⟩:=un.there b o z (by simp);rw [e] at e';cases e'
theorem Kp.hok {P:Program}{w:World}{H:Hp}{G:Heap}{fs:List Addr}{h h':Heap}(k:Kp H G fs h h')(hf:∀ b∈fs,H b=none)(ok:HOk P w H h):HOk P w H h':=λa o e =>
 (ok a o e).stay (λb u hb q=>by
  have hn:H b≠none:=by
   rcases hb with rfl | hb
   ·rw [e];simp
   ·rw [hb];simp
  exact k.keep b u q (λz=>hn (hf b z)) (.inr hn)) (λ_ q=>q) λ_ _ q=>q
theorem JbE {X:Cx}{pins:List (Addr×Obj)}{σ:St}{H:Hp}{s:Shared}{a:Addr}{C:Value}{ed:Option Addr}{E:XK}{E':Value->Shared->Prop}(hf:X.env.frame=some X.env.locals)(hst:X.stack=X.env::X.outer)(hex:X.ex=[])
 (I:Inv X pins σ H s) (t:Trc H s.heap X.s₀.heap a C ed .none) (q:E C ed H) :
 wpAny (model X.prog X.w) X.A (leaving X.env (.ref a)) (λ_ s'=>CXE X.prog X.w X.outer X.H₀ X.s₀ E (.ref a) s') E' s:=by
 have stk:s.heap.FunFrames X.base (X.env::X.outer):=hst ▸ I.stack;have sfr:∀ b∈frs (X.env::X.outer),H b=none:=hst ▸ I.stkFree;unfold leaving;refine zM (note_wp (hst ▸ I.ok.frames) stk hf (λb hb=>I.hok.fresh hb) (λb hb=>I.back hex b (J9j hb)) t λh1 t1 f1 k1=>?_);refine flight_wp (s:={ s with heap:=h1 }) (outer:=X.env::X.outer) f1 t1 λh2 t2 f2 k2 _=>?_;have hlt:∀ b o,X.s₀.heap.get? b=some o->X.s₀.heap.get? b≠none:=λb o e=>by rw [e];simp
 have hnl:∀ b o,X.s₀.heap.get? b=some o->b≠X.env.locals:=λb o e=>zV (zY (qH e) I.ok.above);have mem:∀ b,b∈frs (X.env::X.outer)->b=X.env.locals\/b∈frs X.outer:=λb hb=>by
  unfold frs at hb ⊢;rw [filterMap_cons,hf] at hb;exact qo.mp hb
 have mem2:∀ b,b∈frs X.outer->b∈frs (X.env::X.outer):=λb hb=>by
  unfold frs at hb ⊢;rw [filterMap_cons,hf];exact ql _ hb
 refine ⟨a,C,ed,H,rfl,I.os,I.bare,⟨λb o e hn hb _=>?_,λb o e hn hb _=>?_,λb o e hn _=>?_,λb o e _=>?_,I.base.tups,I.base.frzs,I.base.tbls⟩,k2.hok (λ_ z=>absurd z (by simp)) (k1.hok sfr I.hok),t2,q⟩
 ·have e1:=I.base.keep b o e hn hb (by rw [hex];simp)
  have e2:=k1.keep b o e1 (λz=>(mem b z).elim (hnl b o e) hb) (.inl (hlt b o e));exact k2.keep b o e2 (by simp) (.inl (hlt b o e))
 ·obtain ⟨sl,e1⟩:=I.base.slot b o e hn hb (by rw [hex];simp)
  obtain ⟨sl',e2⟩:=k1.slot b _ e1 (mem2 b hb);exact ⟨sl',k2.keep b _ e2 (by simp) (.inl (hlt b o e))⟩
 ·exact I.base.free b o e hn (by rw [hex];simp)
 ·obtain ⟨o1,e1⟩:=I.base.there b o e (by rw [hex];simp)
  obtain ⟨o2,e2⟩:=k1.there b o1 e1;exact k2.there b o2 e2
theorem J2i {P:Program}{w:World}{K:Frag}{mg:Str->Option Value}{base:Heap}{N:List Str}{qual:Str}{scope:Scope}{f:Addr}{cd:Value}{A:Around}{outer:List Env}{s:Shared}{H:Hp}{E:XK} :
 Told (J4S (CXE P w) P w K mg base N qual scope f cd A outer s H E) (λ_=>True) E:=⟨rfl,λ_ _ _ _ _ _ _ _ _ I t c _ q=>JbE (X:=J4S (CXE P w) P w K mg base N qual scope f cd A outer s H E) rfl rfl rfl I (t.older c.old) q⟩
theorem Fun.okX {P:Program}{w:World}{K:Frag}{mg:Str->Option Value}{base:Heap}{x qual:Str}{st:Stmt}{f:Addr}{fd:FuncData}{N ps:List Str}{k:Nat}{sp:Sp}(F:Fun K x qual st f fd)(S:FnScope N ps (Jf st))(len:∀ vs H Q E,sp vs H Q E->vs.length=ps.length)
 (hbody:∀ (cdv:Value) (A:Around) (outer:List Env) (s:Shared) (H:Hp) (vs:List V) (Q:VK) (E:XK),Room k (A.deeper (envOfC qual (Jf st) s.heap.objs.size f cdv))->sp vs H Q E ->
  ∃ t,PSs (J4S (CXE P w) P w K mg base N qual (Jf st) f cdv A outer s H E) (J0H st) t/\t { nx:=λ_ H'=>Q .non H',rt:=Q } (J26 N vs) H):FnOk P w K mg base (CXE P w) (k+1) f fd ps sp:=by
 obtain ⟨oc,od,kV,doc,pm,an,cdv,ct,osl,rfl,lk,hcd⟩:=F.ex;exact JeG lk hcd S len λA outer s H vs Q E hr hsp=>hbody cdv A outer s H vs Q E hr hsp
section
variable {X:Cx}{k:Nat}{f C:Addr}{fd:FuncData}{ps:List Str}{sp:Sp}{x m:Str}{p pos apos:Pos}{e o:Expr}{es:List Expr}{ta:TE}{t:TA}{S:St->Prop}{E:XK}
theorem Jay {pins:List (Addr×Obj)}{σ:St}{H:Hp}{s:Shared}{Q:VK}{us:List Value}{vs:List V}(T:Told X S E)(F:FnOk X.prog X.w X.K X.mg X.base (CXE X.prog X.w) k f fd ps sp)(hr:Room k X.A)(hb:Binds X.K fd ps [])(hS:S σ)
 (I:Inv X pins σ H s) (r:Vals vs us) (h:sp vs H Q E):wpAny (model X.prog X.w) X.A (call (.ref f) us) (EP X pins σ Q) X.xe s:=by
 have hl:(us++([]:List Value)).length=ps.length:=by rw [append_nil,<- r.length];exact F.len _ _ _ _ h
 have bd:=hb s us I.kIn hl;rw [append_nil] at bd;refine wpAny_call (codeAny_mono (F.run X.A X.stack s H ⟨us,[]⟩ us vs Q E hr I.env0 bd r h) λr s' hq=>?_)
 match r,hq with
 | .error e,hq=>exact T.passes hS I hq
 | .ok (.ret u),hq=>exact I.after hq
 | .ok .next,hq=>exact qa hq
 | .ok .brk,hq=>exact qa hq
 | .ok .cont,hq=>exact qa hq
def J5J (S:St->Prop)(sp:Sp)(E:XK)(t:TA):TE:=λσ H Q=>t σ H λvs H1=>S σ/\sp vs H1 Q E
theorem J7R {st:Stmt}(T:Told X S E)(D:DefOk X.K X.mg x st ps f fd)(G:FnOk X.prog X.w X.K X.mg X.base (CXE X.prog X.w) k f fd ps sp)(hr:Room k X.A)
 (hg:Gl X x) (hdb:(x == ("__debug__":Str))=false) (hn:(e::es).all JB=true) (ha:PA X (e::es) t) :
 PE X (.Call (.Name x p) (e::es) [] pos) (J5J S sp E t):=by
 have hs:JB e=true/\es.all JB=true:=by rw [all_cons,Bool.and_eq_true] at hn;exact hn
 intro pins s σ H Q I h;refine wpAny_Call_Name_kw (J3q I hg D.m ?_ hdb);refine PySem.W.callWith_K (h₀:=X.base) I.ok.mod.kin D.F.kp (thn (ha pos pins s σ H _ I h) λus s1 ⟨vs,H1,I1,r,hS,q⟩=>⟨I1.kIn,?_⟩) (JG hs.1) (J0u hs.2);exact Jay T G hr D.b hS I1 r q
end
abbrev vbm:List Value:=[.type "ValueError",.type "Exception",.type "BaseException",.type "object"]
theorem Jfb {K:Frag}{h:Heap}{N:Addr}{mg:Str->Option Value}{n:Str}{r:Option Value}(X:K.In h)(G:h.Ns N mg)(e:nsIn K N n=some r):mg n=r:=by
 obtain ⟨o,es,ep,ho,hd,_,hf⟩:=G;unfold nsIn at e
 split at e
 ·rename_i q
  have z:=X _ _ q;rw [ho] at z;cases z;cases hd;rw [<- hf];unfold nsFind findBy;rw [<- Array.find?_toList]
  split at e
  ·rename_i he
   rw [he];exact zU e
  ·rename_i he
   rw [he]
   split at e
   ·cases e
   ·exact zU e
 ·cases e
def exB (K:Frag)(C:Addr)(ini:Option Value):Bool:=match K.lookup C with
 | some ⟨.type "type",_,.cls cd,sl⟩=>(match cd.mro,sl.toList with
   | .ref C'::bm,[_,_,_,_,some (.builtin n),_]=>C' == C&&(n == "ValueError.__new__"&&(PySem.W.tailIn K vbm bm&&(!cd.hasDel&&(PySem.W.nsOkIn K cd.ns&&nsIn K cd.ns "__init__" == some ini))))
   | _,_=>false)
 | _=>false
theorem J8c {K:Frag}{h:Heap}{C:Addr}{ini:Option Value}(X:K.In h)(q:exB K C ini=true) :
 ∃ nm qn N bs bm hd sn sub ab col dd k0 k1 k2 k3 k5,h.get? C=some (excClassObj nm qn C N bs bm hd sn sub ab col dd k0 k1 k2 k3 k5 "ValueError.__new__")/\(∃ mN,h.Ns N mN/\mN "__init__"=ini)/\OwnTail h vbm bm:=by
 unfold exB at q
 split at q
 ·rename_i dd cd sl ho
  split at q
  ·rename_i C' bm k0 k1 k2 k3 n k5 hm hs
   simp only [Bool.and_eq_true,beq_iff_eq,Bool.not_eq_true'] at q;obtain ⟨rfl,rfl,ht,hdel,hok,hni⟩:=q;obtain ⟨nm,bs,mro,ns,qn,hd,sn,sub,ab,col,del⟩:=cd;obtain ⟨l⟩:=sl;dsimp only at hm hdel hok hni hs;subst hm hdel hs;have hN:h.Ns ns (h.nsMap ns):=.of_isNs (PySem.W.isNs_of_in X hok);exact ⟨nm,qn,ns,bs,bm,hd,sn,sub,ab,col,dd,k0,k1,k2,k3,k5,X _ _ ho,⟨_,hN,Jfb X hN hni⟩,PySem.W.tail_of_in X ht⟩
  ·cases q
 ·cases q
theorem J9l {h:Heap}{bm:List Value}(T:OwnTail h vbm bm):bm.contains (.type "BaseException")=true:=T.hasType (by decide)
theorem ObjOk.got {P:Program}{w:World}{H:Hp}{h:Heap}{a:Addr}{o:HO}(x:ObjOk P w H h a o):∃ u,h.get? a=some u:=by
 cases o with
 | lst xs=>obtain ⟨_,_,_,_,e⟩:=x;exact ⟨_,e⟩
 | tup xs=>obtain ⟨_,_,_,_,e,_⟩:=x;exact ⟨_,e⟩
 | dK kvs=>obtain ⟨_,_,_,_,o,_,_,e,_⟩:=x;exact ⟨_,e⟩
 | dT kvs=>obtain ⟨_,_,_,_,o,_,_,e,_⟩:=x;exact ⟨_,e⟩
 | set S n=>obtain ⟨o,_,_,_,e,_⟩:=x;exact ⟨_,e⟩
 | ins C dx fs=>obtain ⟨_,_,_,e,_⟩:=x;exact ⟨_,e⟩
 | own y=>exact x
 | xd fs=>obtain ⟨_,⟨_,_,_,e,_⟩,_⟩:=x;exact ⟨_,e⟩
 | rng lo hi=>obtain ⟨_,_,_,e⟩:=x;exact ⟨_,e⟩
 | frz ob u=>obtain ⟨e,_⟩:=x;exact ⟨_,e⟩
 | tbl ps=>exact ⟨_,(show h.get? a=some _ from x)⟩
 | met f y=>exact ⟨_,(show h.get? a=some _ from x)⟩
 | ext φ=>obtain ⟨_,e,_⟩:=x;exact e
theorem HOk.unheld {P:Program}{w:World}{H:Hp}{h:Heap}{a:Addr}(x:HOk P w H h)(e:h.get? a=none):H a=none:=by
 cases q:H a with
 | none=>rfl
 | some o =>
   obtain ⟨u,e'⟩:=(x a o q).got;rw [e] at e';cases e'
theorem JcR {H:Hp}{h h' G:Heap}{e:Addr}{C:Value}{vs:List Value}(m:Heap.MadeExcOf h h' e C vs)(hG:∀ b,h.get? b=none->G.get? b=none)(hH:∀ b,h.get? b=none->H b=none):Trc H h' G e C none .none:=by
 obtain ⟨t,he,_,_⟩:=m.there;exact ⟨hG e m.new,hH e m.new,_,_,he,rfl,rfl,rfl,Nat.lt_of_sub_eq_succ rfl,.inl ⟨rfl,rfl⟩⟩
section
variable {X:Cx}{e:Expr}{es:List Expr}{t:TA}{S:St->Prop}{E:XK}
def J5D (S:St->Prop)(E:XK)(C:Addr)(t:TA):TS:=λ_ σ H=>t σ H λvs H1=>S σ/\vs.length<=sizeLine/\E (.ref C) none H1
theorem J61 {x:Str}{np cpos pos:Pos}{C:Addr}(T:Told X S E)(hcalm:X.calm=true)(q:exB X.K C none=true)(hg:Gl X x)(hm:X.mg x=some (.ref C))(hdb:(x == ("__debug__":Str))=false)(hn:(e::es).all JB=true)(ha:PA X (e::es) t) :
 PS X (.Raise (some (.Call (.Name x np) (e::es) [] cpos)) none pos) (J5D S E C t):=by
 intro pins s σ H D I h;have hs:JB e=true/\es.all JB=true:=by rw [all_cons,Bool.and_eq_true] at hn;exact hn
 obtain ⟨nm,qn,N,bs,bm,hd,sn,sub,ab,col,dd,k0,k1,k2,k3,k5,hC,⟨mN,hN,hni⟩,TL⟩:=J8c I.ok.mod.kin q;have F:=PySem.F.excBase_ValueError;refine wpAny_Raise_call_subU (nm:=nm) (q:=qn) (C:=C) (N:=N) (bs:=bs) (bm:=bm) (hdct:=hd) (sn:=sn) (sub:=sub) (ab:=ab) (col:=col) (dd:=dd) (k0:=k0) (k1:=k1) (k2:=k2) (k3:=k3) (k5:=k5) F (by decide) F (J9l TL) (I.ok.hd hcalm) (J0u hn) hni (J3q I hg hm ⟨rfl,?_⟩ hdb);have hst:=JG (es:=es) (env:=X.env) hs.1;have ha2:=ha cpos pins s σ H _ I h;rw [hst] at ha2 ⊢;refine Calls.evalArgs_plain (thn ha2 λus s1 z=>?_);obtain ⟨vs,H1,I1,r,hS,hl,qE⟩:=z;refine ⟨rfl,by rw [<- r.length];exact hl,I1.bk _ _ hC,hN.keeps I1.bk,TL.keeps I1.bk,λh' a m=>?_⟩;have J:Inv X pins σ H1 { s1 with heap:=h' }:=by
  have:=I1.kept (h':=h') (t':=s1.toks) m.keeps;exact this
 refine T.on pins σ H1 _ a (.ref C) none s1.heap hS J (JcR m (λb hb=>hb) λb hb=>I1.hok.unheld hb) (I1.cov T.ex) (λb hb=>?_) qE;cases z:s1.heap.get? b with
 | none=>rfl
 | some o =>
   have:=m.keeps b o z;rw [show h'.get? b=none from hb] at this;cases this
end
section
variable {X:Cx}{pins:List (Addr×Obj)}{σ:St}{H:Hp}{s:Shared}{G:Heap}
theorem Inv.kp {h':Heap}(I:Inv X pins σ H s)(c:Cov X pins G)(k:Kp H G (frs X.stack) s.heap h'):Inv X pins σ H { s with heap:=h' }:=by
 have any:∀ b o,s.heap.get? b=some o->G.get? b≠none->∃ sl,h'.get? b=some { o with slots:=sl }:=λb o e hg=>by
  by_cases hb:b∈frs X.stack
  ·exact k.slot b o e hb
  ·exact ⟨o.slots,k.keep b o e hb (.inl hg)⟩
 have hG:∀ b o,X.s₀.heap.get? b=some o->G.get? b≠none:=λb o e z=>by
  have:=c.old b z;rw [e] at this;cases this
 have nL:∀ b o,X.s₀.heap.get? b=some o->b≠X.env.locals:=λb o e=>zV (zY (qH e) I.ok.above);have cellK:∀ x cc,X.env.cells.lookup x=some cc->∀ v,s.heap.IsCell cc v->h'.IsCell cc v:=λx cc e v ⟨o,ho,hd⟩=>by
  obtain ⟨sl,q⟩:=any cc o ho (c.cell x cc e);exact ⟨_,q,hd⟩
 refine ⟨I.ok,I.os,I.bare,⟨λb o e hn hb hx=>?_,λb o e hn hb hx=>?_,I.base.free,λb o e hx=>?_,I.base.tups,I.base.frzs,I.base.tbls⟩,?_,λx cc e=>?_,I.free,I.freeC,λp hp=>?_,k.hok I.stkFree I.hok,I.len⟩
 ·exact k.keep b o (I.base.keep b o e hn hb hx) (λz=>(qo.mp (I.stkSub b z)).elim (nL b o e) hb) (.inl (hG b o e))
 ·obtain ⟨sl,e1⟩:=I.base.slot b o e hn hb hx
  obtain ⟨sl',e2⟩:=any b _ e1 (hG b o e);exact ⟨sl',e2⟩
 ·obtain ⟨o1,e1⟩:=I.base.there b o e hx
  exact k.there b o1 e1
 ·obtain ⟨m,⟨o,es,ep,ho,r⟩,hl⟩:=I.loc
  obtain ⟨sl,q⟩:=any _ o ho c.loc;refine ⟨m,⟨_,es,ep,q,r⟩,λi x v e1 e2 e3=>?_⟩;obtain ⟨u,ru,l⟩:=hl i x v e1 e2 e3;refine ⟨u,ru,?_⟩;rcases l with l | ⟨kk,cc,e,z⟩
  ·exact .inl l
  ·exact .inr ⟨kk,cc,e,cellK x cc e _ z⟩
 ·obtain ⟨v,z⟩:=I.cell x cc e
  exact ⟨v,cellK x cc e v z⟩
 ·obtain ⟨e,n,ne,nf,d⟩:=I.pin p hp
  exact ⟨k.keep p.1 p.2 e (λz=>(qo.mp (I.stkSub p.1 z)).elim ne nf) (.inl (c.pin p hp)),n,ne,nf,d⟩
theorem Inv.hold {a:Addr}{o:HO}(I:Inv X pins σ H s)(c:Cov X pins G)(ha:G.get? a=none)(hH:H a=none)(ok:ObjOk X.prog X.w (upd H a o) s.heap a o):Inv X pins σ (upd H a o) s:=by
 have ne:∀ b,G.get? b≠none->b≠a:=λb h z=>by subst z;exact h ha
 have ne2:∀ b u,H b=some u->b≠a:=λb u h z=>by subst z;rw [hH] at h;cases h
 have neo:∀ b o',X.s₀.heap.get? b=some o'->b≠a:=λb o' e z=>by
  subst z;have:=c.old b ha;rw [e] at this;cases this
 refine ⟨I.ok,I.os,I.bare,⟨I.base.keep,I.base.slot,λb o' e hn hx=>by rw [Jj (neo b o' e)];exact I.base.free b o' e hn hx,I.base.there,λb xs e=>?_,λb o' u e=>?_,λb ps e=>?_⟩,I.loc,I.cell,by rw [Jj (ne _ c.loc)];exact I.free,λx cc e=>by rw [Jj (ne _ (c.cell x cc e))];exact I.freeC x cc e,λp hp=>?_,λb u e=>?_,I.len⟩
 ·have:=I.base.tups b xs e
  rw [Jj (ne2 b _ this)];exact this
 ·have:=I.base.frzs b o' u e
  rw [Jj (ne2 b _ this)];exact this
 ·obtain ⟨m,this⟩:=I.base.tbls b ps e
  exact ⟨m,by rw [Jj (ne2 b _ this)];exact this⟩
 ·obtain ⟨e,n,r⟩:=I.pin p hp
  exact ⟨e,by rw [Jj (ne _ (c.pin p hp))];exact n,r⟩
 ·by_cases z:b=a
  ·subst z
   rw [Jd] at e;cases e;exact ok
  ·rw [Jj z] at e
   exact (I.hok b u e).stay (λ_ _ _ q=>q) (λd q=>by rw [Jj (ne2 d _ q)];exact q) λd xs q=>by rw [Jj (ne2 d _ q)];exact q
theorem name_gone {M:Model}{A:Around}{E:Value->Shared->Prop}{i:Nat}{n:Str}{pos:Pos}{Q:Unit->Shared->Prop}(I:Inv X pins σ H s)(hN:X.N.Nodup)(hi:X.N[i]?=some n)(hk:X.env.scope.names.lookup n=some .local)
 (h:∀ s',Inv X pins (σ.set i none) H s'->Q () s'):wpAny M A (do bindName X.env n .none;unbindBehindTheSuite X.env n pos) Q E s:=by
 refine zM (wpAny_bindName (J2L (v:=.non) I hN hi (.inl hk) rfl (λs1 I1=>?_) (.inr hk)));have hcls:(X.env.scope.kind == .class||(X.env.scope.kind == .module&&X.env.locals != X.env.globals))=false:=by rw [I.ok.kind];rfl
 have hiσ:i<σ.length:=by rw [I.len];exact (qd.mp hi).1
 obtain ⟨m,hn,hl⟩:=id I1.loc;obtain ⟨u,ru,l⟩:=hl i n .non hi (List.getElem?_set_self hiσ) (.inl hk);have hv:m n=some u:=by
  rcases l with l | ⟨l,_⟩
  ·exact l.2
  ·have l2:X.env.scope.names.lookup n=some .cell\/X.env.scope.names.lookup n=some .free:=l
   rw [hk] at l2;rcases l2 with l2 | l2<;>cases l2
 unfold unbindBehindTheSuite;refine wpAny_onRaise (wpAny_unbindName_local hk hn hv hcls λh' u' hn' hs=>h _ ?_);obtain ⟨oL,_,_,hoL,_⟩:=id hn;refine ⟨I1.ok,I1.os,I1.bare,⟨λb o e n hb hx=>?_,λb o e n hb hx=>?_,I1.base.free,λb o e hx=>?_,I1.base.tups,I1.base.frzs,I1.base.tbls⟩,⟨_,hn',λj y v' e1 e2 e3=>?_⟩,λy c e=>?_,I1.free,I1.freeC,λp hp=>?_,λb ob e=>?_,by simpa using I.len⟩
 ·exact (hs.2 b (zV (zY (qH e) I1.ok.above))).trans (I1.base.keep b o e n hb hx)
 ·obtain ⟨sl,e1⟩:=I1.base.slot b o e n hb hx
  exact ⟨sl,(hs.2 b (zV (zY (qH e) I1.ok.above))).trans e1⟩
 ·obtain ⟨o',e1⟩:=I1.base.there b o e hx
  exact ⟨o',(hs.2 b (zV (zY (qH e) I1.ok.above))).trans e1⟩
 ·by_cases hj:j=i
  ·subst hj
   rw [List.getElem?_set_self hiσ] at e2;cases e2
  ·rw [List.getElem?_set_ne (Ne.symm hj)] at e2
   obtain ⟨w,rw',q⟩:=hl j y v' e1 (by rw [List.getElem?_set_ne (Ne.symm hj)];exact e2) e3;refine ⟨w,rw',?_⟩;rcases q with ⟨kk,e⟩ | ⟨kk,c,e,z⟩
   ·refine .inl ⟨kk,?_⟩
    have:y≠n:=λe=>hj (J16 hN e1 (e ▸ hi));simp [this,e]
   ·exact .inr ⟨kk,c,e,z.sameBut hs (I1.cne y c e)⟩
 ·obtain ⟨w',z⟩:=I1.cell y c e
  exact ⟨w',z.sameBut hs (I1.cne y c e)⟩
 ·obtain ⟨e,n,ne,nf,d⟩:=I1.pin p hp
  exact ⟨(hs.2 p.1 ne).trans e,n,ne,nf,d⟩
 ·refine (I1.hok b ob e).stay (λc w' hc q=>(hs.2 c ?_).trans q) (λ_ q=>q) λ_ _ q=>q
  rintro rfl;rcases hc with rfl | hc
  ·rw [I1.free] at e;cases e
  ·rw [I1.free] at hc;cases hc
end
def ExO (a:Addr)(C:Value)(ed:Option Addr):HO:=.ext λh=>∃ oe vs,h.get? a=some oe/\oe.cls=C/\oe.dict=ed/\oe.data=.fields vs
theorem Jfv {P:Program}{w:World}{H:Hp}{h:Heap}{a:Addr}{C:Value}{ed:Option Addr}(x:∃ oe vs,h.get? a=some oe/\oe.cls=C/\oe.dict=ed/\oe.data=.fields vs):ObjOk P w H h a (ExO a C ed) :=
 ⟨x,(let ⟨oe,_,e,_⟩:=x;⟨oe,e⟩),λh1 h2 ⟨oe,vs,e,r⟩ k=>⟨oe,vs,k oe e,r⟩⟩
def Cx.inTry (X:Cx)(pins:List (Addr×Obj))(W:Value->Shared->Prop):Cx:={ X with xe:=W,pn:=X.pn++pins }
def Cx.inHand (X:Cx)(a:Addr):Cx:={ X with A:=X.A.mark (some (.ref a)),calm:=false,xe:=λ_ _=>False }
section
variable {X:Cx}{pins:List (Addr×Obj)}{σ:St}{H:Hp}{s:Shared}{G:Heap}{W:Value->Shared->Prop}
theorem Inv.inTry (I:Inv X pins σ H s):Inv (X.inTry pins W) [] σ H s :=
 have ok:=I.ok
 ⟨⟨ok.mod,ok.kind,ok.glob,ok.blt,ok.above,ok.inj,ok.has,ok.cab,ok.hd,ok.frames,ok.stk,ok.exf,ok.bs,ok.bsz,ok.noex,ok.exfs,ok.funs,ok.frf⟩,I.os,I.bare,I.base,I.loc,I.cell,I.free,I.freeC,
   λp hp=>I.pin p (by rw [append_nil] at hp;exact hp),I.hok,I.len⟩
theorem Inv.offTry {pins':List (Addr×Obj)}(I:Inv (X.inTry pins W) pins' σ H s):Inv X pins σ H s :=
 have ok:=I.ok
 ⟨⟨ok.mod,ok.kind,ok.glob,ok.blt,ok.above,ok.inj,ok.has,ok.cab,ok.hd,ok.frames,ok.stk,ok.exf,ok.bs,ok.bsz,ok.noex,ok.exfs,ok.funs,ok.frf⟩,I.os,I.bare,I.base,I.loc,I.cell,I.free,I.freeC,
   λp hp=>I.pin p (qw _ hp),I.hok,I.len⟩
theorem Cov.offTry {pins':List (Addr×Obj)}(c:Cov (X.inTry pins W) pins' G):Cov X pins G:=⟨c.loc,c.cell,λp hp=>c.pin p (qw _ hp),c.old⟩
theorem Inv.inHand {a:Addr}(I:Inv X pins σ H s):Inv (X.inHand a) pins σ H s :=
 have ok:=I.ok
 ⟨⟨ok.mod,ok.kind,ok.glob,ok.blt,ok.above,ok.inj,ok.has,ok.cab,(λz=>nomatch z),ok.frames,ok.stk,ok.exf,ok.bs,ok.bsz,ok.noex,ok.exfs,ok.funs,ok.frf⟩,I.os,I.bare,I.base,I.loc,I.cell,I.free,I.freeC,I.pin,I.hok,I.len⟩
theorem Inv.offHand {a:Addr}(I:Inv (X.inHand a) pins σ H s)(ox:X.Ok):Inv X pins σ H s:=⟨ox,I.os,I.bare,I.base,I.loc,I.cell,I.free,I.freeC,I.pin,I.hok,I.len⟩
end
def JfM (X:Cx)(pins:List (Addr×Obj))(σ:St)(E:XK):Value->Shared->Prop:=λe s=>∃ a C ed H G,e=.ref a/\Inv X pins σ H s/\Trc H s.heap G a C ed .none/\Cov X pins G/\(∀ b,s.heap.get? b=none->G.get? b=none)/\E C ed H
theorem J8n {X:Cx}{pins:List (Addr×Obj)}{σ:St}{E:XK}(hex:X.ex=[]):Told (X.inTry pins (JfM X pins σ E)) (λσ'=>σ'=σ) E :=
 ⟨hex,λ_ _ H _ a C ed G hS I t c hG q=>⟨a,C,ed,H,G,rfl,by subst hS;exact I.offTry,t,c.offTry,hG,q⟩⟩
def PH (X:Cx)(hs:List ExceptHandler)(th:Value->Option Addr->TS):Prop :=
 ∀ (pins:List (Addr×Obj)) (s:Shared) (σ:St) (H:Hp) (D:Ends) (a:Addr) (C:Value) (ed:Option Addr) (G:Heap),Inv X pins σ H s->Trc H s.heap G a C ed .none->Cov X pins G->th C ed D σ H ->
   wpAny (model X.prog X.w) X.A (handleBy (.ref a) X.env hs) (SP X pins D) X.xe s
theorem Jf4 {X:Cx}:PH X [] (λ_ _ _ _ _=>False):=λ_ _ _ _ _ _ _ _ _ _ _ _ h=>h.elim
def Jcb (K:Frag)(C B:Addr):Bool:=match K.lookup C with
 | some ⟨_,_,.cls cd,_⟩=>cd.mro.contains (.ref B)
 | _=>false
theorem JeQ {K:Frag}{h:Heap}{C B:Addr}{ini:Option Value}{nm qn:Str}{N:Addr}{bs bm:List Value}{hd:Bool}{sn:List Str}{sub:List Value}{ab:Bool}{col:Option Bool}{dd:Option Addr}{k0 k1 k2 k3 k5:Option Value}{nw:String}(X:K.In h)(q:exB K C ini=true)
 (hC:h.get? C=some (excClassObj nm qn C N bs bm hd sn sub ab col dd k0 k1 k2 k3 k5 nw)):Jcb K C B=(Value.ref C::bm).contains (.ref B):=by
 unfold exB at q
 split at q
 ·rename_i ho
  have e:=X _ _ ho;rw [hC] at e;cases e;unfold Jcb;rw [ho]
 ·cases q
theorem Jbx {M:Model}{A:Around}{E:Value->Shared->Prop}{h:Heap}{g:Array GenState}{d:Drawn}{t:Nat}{os:OsState}{e C B:Addr}{oe:Obj}{Q:Bool->Shared->Prop}
 {nm qn:Str} {N:Addr} {bs bm:List Value} {hd:Bool} {sn:List Str} {sub:List Value} {ab:Bool} {col:Option Bool} {dd:Option Addr} {k0 k1 k2 k3 k5:Option Value} {nw:String}
 {nm' qn':Str} {N':Addr} {bs' bm':List Value} {hd':Bool} {sn':List Str} {sub':List Value} {ab':Bool} {col':Option Bool} {dd':Option Addr} {l0 l1 l2 l3 l5:Option Value} {nw':String}
 (hC:h.get? C=some (excClassObj nm qn C N bs bm hd sn sub ab col dd k0 k1 k2 k3 k5 nw)) (hB:h.get? B=some (excClassObj nm' qn' B N' bs' bm' hd' sn' sub' ab' col' dd' l0 l1 l2 l3 l5 nw'))
 (he:h.get? e=some oe) (hcls:oe.cls=.ref C) (hbase:bm'.contains (.type "BaseException")=true) (hq:Q ((Value.ref C::bm).contains (.ref B)) ⟨h,g,d,t,os⟩):wpAny M A (excMatches (.ref e) (.ref B)) Q E ⟨h,g,d,t,os⟩:=by
 have hcB:(Value.ref B::bm').contains (.type "BaseException")=true:=by rw [contains_cons,hbase,Bool.or_true]
 have f:=tc_notTuple;unfold excMatches
 repeat (first | (with_reducible refine wpAny_loadPart_at he ?_;rw [hcls]) | with_reducible refine wpAny_loadPart_at hB ?_ | (with_reducible refine wpAny_isSubtype_exc hB ?_;rw [hcB]) | with_reducible refine wpAny_isSubtype_exc hC ?_ | wp_step)
 cases hb:(Value.ref C::bm).contains (.ref B)<;>(rw [hb] at hq;wp_walk;exact hq)
def JcI (i:Nat)(D:Ends):Ends:={ nx:=λσ H=>D.nx (σ.set i none) H,rt:=D.rt,bk:=λσ H=>D.bk (σ.set i none) H,ct:=λσ H=>D.ct (σ.set i none) H }
def tAs (K:Frag)(B:Addr)(i:Nat)(ts:TS)(thr:Value->Option Addr->TS):Value->Option Addr->TS:=λC ed D σ H=>∃ Cc ini b,C=.ref Cc/\exB K Cc ini=true/\Jcb K Cc B=b /\
 if b=true then (∀ a,H a=none->ts (JcI i D) (σ.set i (some (.ref a))) (upd H a (ExO a C ed))) else thr C ed D σ H
section
variable {X:Cx}
theorem Kp.wide' {H:Hp}{G:Heap}{h h':Heap}{fs:List Addr}(k:Kp H G [] h h')(hd:∀ b∈fs,∀ o,h.get? b=some o->∃ sl,h'.get? b=some { o with slots:=sl }):Kp H G fs h h' :=
 ⟨λb o e _ hx=>k.keep b o e (by simp) hx,λb o e hm=>hd b hm o e,k.there,k.size⟩
theorem ph_as {x n:Str}{np hpos:Pos}{b₀:Stmt}{suite:List Stmt}{rest:List ExceptHandler}{ts:TS}{thr:Value->Option Addr->TS}{B:Addr}{i:Nat}{inB:Option Value}(hg:Gl X x)(hm:X.mg x=some (.ref B))(qB:exB X.K B inB=true)(hdb:(x == ("__debug__":Str))=false)
 (hN:X.N.Nodup) (hi:X.N[i]?=some n) (hk:X.env.scope.names.lookup n=some .local) (hsu:∀ a,PSs (X.inHand a) (b₀::suite) ts) (hr:PH X rest thr) :
 PH X (.ExceptHandler (some (.Name x np)) (some n) (b₀::suite) hpos::rest) (tAs X.K B i ts thr):=by
 intro pins s σ H D a C ed G I t c h;obtain ⟨Cc,ini,b,rfl,q,hb,h⟩:=h;have Ih:Inv (X.inHand a) pins σ H s:=I.inHand;refine wpAny_handleBy_cons (codeAny_handlers_test (J3q (X:=X.inHand a) Ih hg hm ?_ hdb)) (by intro z;cases z);obtain ⟨_,qn,N,bs,bm,hd,sn,sub,ab,col,dd,k0,k1,k2,k3,k5,hC,_,TL⟩:=J8c I.kIn q;obtain ⟨_,qn',N',bs',bm',hd',sn',sub',ab',col',dd',l0,l1,l2,l3,l5,hB,_,TB⟩:=J8c I.kIn qB;obtain ⟨ha,hHa,oe,vs,he,hcl,hdi,hda,hsz,htb⟩:=id t;obtain ⟨sh,sg,sd,stk,sos⟩:=s;refine Jbx hC hB he hcl (J9l TB) ?_;rw [<- JeQ I.kIn q hC,hb];cases b with
 | false =>
   rw [zO zR] at h;exact hr pins _ σ H D a _ ed G I t c h
 | true =>
   rw [zP rfl] at h;refine codeAny_handlers_suite_as ?_;refine flight_wp (outer:=X.stack) I.stack t λh1 t1 f1 kp1 kn1=>?_;have I1:Inv X pins σ H { heap:=h1,gens:=sg,drawn:=sd,toks:=stk,os:=sos }:=I.kp c (kp1.wide' λb hm o e=>?_)
   ·have Ia:Inv X pins σ (upd H a (ExO a (.ref Cc) ed)) { heap:=h1,gens:=sg,drawn:=sd,toks:=stk,os:=sos }:=by
     obtain ⟨_,_,oe1,vs1,he1,hcl1,hdi1,hda1,_⟩:=id t1;exact I1.hold c ha hHa (Jfv ⟨oe1,vs1,he1,hcl1,hdi1,hda1⟩)
    refine J2L (X:=X.inHand a) (v:=.ref a) Ia.inHand hN hi (.inl hk) rfl (λs2 I2=>?_) (.inr hk);refine wpAny_mono (hsu a pins s2 _ _ _ I2 (h a hHa)) (λf s3 z=>?_) λ_ _ z=>z.elim;show wpAny _ X.A (do bindName X.env n .none;unbindBehindTheSuite X.env n hpos) _ _ s3;cases f with
    | next =>
      obtain ⟨σ',H',J,z⟩:=z;exact name_gone (J.offHand I.ok) hN hi hk λs4 J4=>⟨_,H',J4,z⟩
    | brk =>
      obtain ⟨σ',H',J,z⟩:=z;exact name_gone (J.offHand I.ok) hN hi hk λs4 J4=>⟨_,H',J4,z⟩
    | cont =>
      obtain ⟨σ',H',J,z⟩:=z;exact name_gone (J.offHand I.ok) hN hi hk λs4 J4=>⟨_,H',J4,z⟩
    | ret u =>
      obtain ⟨v,σ',H',J,rv,z⟩:=z;exact name_gone (J.offHand I.ok) hN hi hk λs4 J4=>⟨v,_,H',J4,rv,z⟩
   ·obtain ⟨_,o',ho',hnf⟩:=I.stack.mem hm
    have e':=ho'.symm.trans e;cases e';exact ⟨o.slots,kn1 b o ho' hnf⟩
def Jc5 (tb:St->XK->TS)(th:Value->Option Addr->TS):TS:=λD σ H=>tb σ (λC ed H'=>th C ed D σ H') D σ H
theorem ps_try {body:List Stmt}{h₀:ExceptHandler}{hs:List ExceptHandler}{pos:Pos}{tb:St->XK->TS}{th:Value->Option Addr->TS}(hst:X.stack=X.env::X.outer)(hfr:X.env.frame=some X.env.locals)
 (hb:∀ (pins:List (Addr×Obj)) (σ:St) (E:XK),PSs (X.inTry pins (JfM X pins σ E)) body (tb σ E)) (hh:PH X (h₀::hs) th):PS X (.Try body (h₀::hs) [] [] pos) (Jc5 tb th):=by
 intro pins s σ H D I h;refine wpAny_Try_except (wpAny_mono (hb pins σ _ [] s σ H D I.inTry h) (λf s1 z=>?_) λe s1 z=>?_)
 ·cases f with
  | next =>
    obtain ⟨σ',H',J,z⟩:=z;exact wpAny_execs_nil ⟨σ',H',J.offTry,z⟩
  | brk =>
    obtain ⟨σ',H',J,z⟩:=z;exact ⟨σ',H',J.offTry,z⟩
  | cont =>
    obtain ⟨σ',H',J,z⟩:=z;exact ⟨σ',H',J.offTry,z⟩
  | ret u =>
    obtain ⟨v,σ',H',J,rv,z⟩:=z;exact ⟨v,σ',H',J.offTry,rv,z⟩
 ·obtain ⟨a,C,ed,H',G,rfl,J,t,c,hG,q⟩:=z
  refine note_wp (hst ▸ J.ok.frames) (hst ▸ J.stack) hfr (λb hb=>J.hok.fresh hb) ?_ t λh1 t1 f1 k1=>?_
  ·exact λb hb=>hG b (J9j hb)
  ·have J1:Inv X pins σ H' { s1 with heap:=h1 }:=J.kp c (hst ▸ k1)
   refine flight_wp (s:={ s1 with heap:=h1 }) (outer:=X.env::X.outer) f1 t1 λh2 t2 f2 k2 kn2=>?_;have J2:Inv X pins σ H' { s1 with heap:=h2 }:=J1.kp c (k2.wide' λb hm o e=>?_)
   ·exact hh pins _ σ H' D a C ed G J2 t2 c q
   ·have fs1:h1.FunFrames X.base X.stack:=hst ▸ f1
    obtain ⟨_,o',ho',hnf⟩:=fs1.mem hm;have e':=ho'.symm.trans e;cases e';exact ⟨o.slots,kn2 b o ho' hnf⟩
end
section
variable {prog:Program}{w:World}{A:Around}{E:Value->Shared->Prop}{s:Shared}{K:Frag}{a C:Addr}{ox:Obj}{od:Option Obj}{name:Str}
structure XCls (K:Frag)(C:Addr):Prop where
 ga:findIn K (.ref C) "__getattribute__"=some (some (.builtin "BaseException.__getattribute__"))
 gh:findIn K (.ref C) "__getattr__"=some none
 base:PySem.W.mroIn K C (.type "BaseException")=some true
 obj:PySem.W.mroIn K C (.type "object")=some true
 hd:PySem.W.hasDictIn K C=true
 cl:findIn K (.ref C) "__class__"=some (some (.builtin "object.__class__"))
 cg:PySem.W.specialIn K (.builtin "object.__class__") "__get__"=some (some (.builtin "getset_descriptor.__get__"))
 ct:PySem.W.takesIn K (.builtin "object.__class__")=some true
theorem JbY {tk:Tok}{R:Result->Shared->Prop}(c:XCls K C)(X:K.In s.heap)(I:PySem.W.InstAt s.heap a ox C od)
 (h:wpAny (model prog w) A.in1 (Builtin.«object.__getattribute__» ⟨[.ref a,.str name tk],[]⟩) (λfin s'=>match fin with | .done f=>R (.ok f) s' | .again c'=>c'.quiet=true/\codeAny (model prog w) A c' R s') (λe s'=>R (.error e) s') s) :
 codeAny (model prog w) A (.call (.builtin "BaseException.__getattribute__") ⟨[.ref a,.str name tk],[]⟩) R s:=by
 have hi:PySem.W.Looks (model prog w) s.heap (isInstance (.ref a) (.type "BaseException")) true:=I.type.andThen (PySem.W.looks_mroIn X c.base);have hk:builtinKind "BaseException.__getattribute__"=some .slot:=by decide +kernel
 have hs:splitId "BaseException.__getattribute__"=some ("BaseException","__getattribute__"):=by decide +kernel
 refine codeAny_call_builtin PySem.F.attr_ValueError.ga.plain PySem.F.entry_bexc_ga (@PySem.W.check_slot (model prog w) _ _ s "BaseException.__getattribute__" "BaseException" "__getattribute__" (.ref a) [.str name tk] [] _ hk hs hi (PySem.F.args_bexc_ga _ _) ?_);exact h
theorem Jdy {tk:Tok}{fill expr:Bool}{v:Value}{Q:Value->Shared->Prop}(c:XCls K C)(X:K.In s.heap)(I:PySem.W.InstAt s.heap a ox C od)(hh:PySem.W.handedIn v=true)
 (h:∀ R:Result->Shared->Prop,R (.ok (.ret v)) s->codeAny (model prog w) A (.call (.builtin "BaseException.__getattribute__") ⟨[.ref a,.str name tk],[]⟩) R s) (q:Q v s) :
 wpAny (model prog w) A (getAttrBy (.ref a) (.str name tk) fill expr) Q E s:=by
 obtain ⟨sh,g,d,t,os⟩:=s;have L0:=I.type (M:=model prog w);have L1:=PySem.W.looks_findIn (M:=model prog w) X c.ga;have L2:=PySem.W.looks_findIn (M:=model prog w) X c.gh;have f3:=PySem.F.attr_ValueError.ga.bind (.ref a);have hx2:(Value.builtin "BaseException.__getattribute__" == Value.builtin "object.__getattribute__")=false:=by decide +kernel
 unfold getAttrBy;refine wpAny_holding (zM (L0.at (zM (L1.at ?_))));dsimp only;rw [hx2,Bool.and_false,zO zR];unfold getAttrByItsOwn hookBefore;refine zM ?_;rw [zP (show onTheHeap (Value.ref C)=true from rfl)];refine L2.at (zM (wpAny_attempt (wpAny_holding ?_)));unfold callGetattribute boundAndCalled;rw [zO (by cases expr<;>decide)];rw [f3];refine zM (zN (wpAny_call (h _ ?_)));show wpAny _ _ (handedOut v) _ _ _;rw [PySem.W.handedOut_of hh];exact zN q
theorem J9A {tk:Tok}{R:Result->Shared->Prop}(c:XCls K C)(X:K.In s.heap)(I:PySem.W.InstAt s.heap a ox C od)(q:R (.ok (.ret (.ref C))) s) :
 codeAny (model prog w) A (.call (.builtin "BaseException.__getattribute__") ⟨[.ref a,.str "__class__" tk],[]⟩) R s:=by
 have hf:PySem.W.findObj K C od "__class__"=some (.bind (.builtin "getset_descriptor.__get__") (.builtin "object.__class__")):=by
  obtain ⟨cd,hc,_⟩:=PySem.W.any_some c.hd;unfold PySem.W.findObj;rw [hc,Option.bind_some,c.cl,Option.bind_some];simp [c.cg,c.ct]
 refine JbY c X I ?_;obtain ⟨sh,g,d,t,os⟩:=s;have L0:=I.type (M:=model prog w);have L1:=PySem.W.looks_find (M:=model prog w) X I hf;unfold Builtin.«object.__getattribute__»;refine zM (zN (zM (zN (zM (L0.at (zM (L1.at ?_)))))));dsimp only;refine zM (wpAny_holding (wpAny_call (PySem.W.class_get (s:=⟨sh,g,d,t,os⟩) X I c.obj ?_)));exact zN q
end
section
variable {K:Frag}{a C:Addr}
theorem J6c (c:XCls K C):PySem.W.KitX K (.ref a) (.ref C) (λh=>∃ ox od,PySem.W.InstAt h a ox C od) where
 ty:=λ_ _ _ ⟨_,_,I⟩=>I.type
 it:=λ_ _ X _=>by
  obtain ⟨cd,hc,_⟩:=PySem.W.any_some c.hd;unfold PySem.W.clsIn at hc
  split at hc
  ·rename_i ho
   intro A' Q' E' s' k q;unfold isType loadHead;exact zM (wpAny_loadPart (k _ _ (X _ _ ho)) (zN q))
  ·cases hc
 ne:=λh tp dd its n sl X htp=>by
  obtain ⟨cd,hc,_⟩:=PySem.W.any_some c.hd;refine Bool.eq_false_iff.mpr λq=>?_;have e:C=tp:=Value.ref.inj (beq_iff_eq.mp q);subst e;unfold PySem.W.clsIn at hc
  split at hc
  ·rename_i ho
   have z:=(X _ _ ho).symm.trans htp;cases z
  ·cases hc
 ca:=λ{prog w A E Q s} X p k=>by
  obtain ⟨ox,od,I⟩:=p;unfold getAttr? getAttrBy?;refine zM (wpAny_mkText (zM (wpAny_attempt ?_)));refine Jdy (s:={ s with toks:=s.toks+1 }) c X I rfl (λR q=>J9A (s:={ s with toks:=s.toks+1 }) c X I q) ?_;exact zN k
end
def JfG (H:Hp)(ed:Option Addr):Prop:=ed=none\/∃ dx fs,ed=some dx/\H dx=some (.xd fs)
section
variable {P:Program}{w:World}{H:Hp}{h:Heap}{a C:Addr}{ed:Option Addr}
theorem J9k (hok:HOk P w H h)(e:H a=some (ExO a (.ref C) ed))(hd:JfG H ed):∃ ox od,PySem.W.InstAt h a ox C od:=by
 obtain ⟨⟨oe,vs,e1,e2,e3,e4⟩,_⟩:=(show ObjOk P w H h a (ExO a (.ref C) ed) from hok a _ e);have hn:PySem.W.notCls oe=true:=by
  obtain ⟨c,d,dt,sl⟩:=oe;cases e4;rfl
 rcases hd with rfl | ⟨dx,fs,rfl,hx⟩
 ·exact ⟨oe,none,e1,e2,hn,by rw [e3];trivial⟩
 ·obtain ⟨mA,hns,_⟩:=(show ObjOk P w H h dx (.xd fs) from hok dx _ hx)
  obtain ⟨od,ho,_⟩:=J75 hns;exact ⟨oe,some od,e1,e2,hn,by rw [e3];exact ho⟩
end
section
variable {X:Cx}
def Jbj (K:Frag):List V->Hp->VK->Prop:=λxs H Q=>∃ a C ed b,H a=some (ExO a (.ref C) ed)/\JfG H ed/\XCls K C/\((∃ B,xs=[.ref a,.ref B]/\PySem.W.kitOne K (.ref C) (.ref B)=some b)\/∃ S,xs=[.ref a,.ty S]/\PySem.W.kitOne K (.ref C) (.type S)=some b)/\Q (.bl b) H
theorem Jdn:J04 X (.builtin "isinstance") (Jbj X.K):=by
 intro pins s σ H xs us Q I r h;obtain ⟨a,C,ed,b,e,hd,c,hx,q⟩:=h;have J:=J9k I.hok e hd;rcases hx with ⟨B,rfl,hk⟩ | ⟨S,rfl,hk⟩
 ·obtain ⟨u,z,rfl,ru,rz⟩:=J5z r
  cases (show u=Value.ref a from ru);cases (show z=Value.ref B from rz);exact PySem.W.kia_one (J6c c) I.kIn J hk (λz=>nomatch z) λtk=>⟨.bl b,H,I.tok _,rfl,q⟩
 ·obtain ⟨u,z,rfl,ru,rz⟩:=J5z r
  cases (show u=Value.ref a from ru);cases rz;exact PySem.W.kia_one (J6c c) I.kIn J hk (λz=>nomatch z) λtk=>⟨.bl b,H,I.tok _,rfl,q⟩
theorem JeF {K:Frag}(e:X.K=K):J04 X (.builtin "isinstance") (Jbj K):=by subst e;exact Jdn
end
section
variable {X:Cx}{k:Nat}{f C:Addr}{fd:FuncData}{ps:List Str}{sp:Sp}{x m:Str}{p pos apos:Pos}{e o:Expr}{es:List Expr}{ta:TE}{t:TA}{S:St->Prop}{E:XK}
def J5F (S:St->Prop)(C:Addr)(m:Str)(sp:Sp)(E:XK)(ta:TE)(t:TA):TE:=λσ H Q=>ta σ H λx H1=>∃ a dx fs,x=.ref a/\H1 a=some (.ins C dx fs)/\fs.lookup m=none/\t σ H1 λvs H2=>S σ/\sp (x::vs) H2 Q E
theorem J4f {pl:Sem Bool}(T:Told X S E)(he:PE X o ta)(c:Cls X.K C)(hm:Meth X.K C m f)(F:FnOk X.prog X.w X.K X.mg X.base (CXE X.prog X.w) k f fd ps sp)(hr:Room k X.A)(hb:Binds X.K fd ps [])(hn:(e::es).all JB=true)(ha:PA X (e::es) t)
 (ht:eval (.Call (.Attribute o m apos) (e::es) [] pos) X.env=(do
  let ov <- eval o X.env
  standAt apos.atName
  let (f,first) <- holding [ov] (getMethod ov m pl)
  callWith pos f first (backTo pos (starEach (e::es) X.env)) (backToKw pos (keywordEach [] X.env)))) :
 PE X (.Call (.Attribute o m apos) (e::es) [] pos) (J5F S C m sp E ta t):=by
 have hs:JB e=true/\es.all JB=true:=by rw [all_cons,Bool.and_eq_true] at hn;exact hn
 intro pins s σ H Q I h;refine PySem.W.methodCall_KW (pl:=pl) (thn (he pins s σ H _ I h) λu s1 ⟨x,H1,I1,rx,a,dx,fs,ex,ea,l,q⟩=>?_) ht;subst ex;obtain rfl:u=Value.ref a:=rx;refine J3X I1 ea c hm l ?_;refine PySem.W.callWith_K (first:=[.ref a]) (h₀:=X.base) I.ok.mod.kin hm.kp (thn (ha pos pins s1 σ H1 _ I1 q) λus s2 ⟨vs,H2,I2,r,hS,q2⟩=>⟨I2.kIn,?_⟩) (JG hs.1) (J0u hs.2);exact Jay (us:=.ref a::us) (vs:=.ref a::vs) T F hr hb hS I2 (.cons rfl r) q2
end
def J2B (s:Stmt)(j:Nat):Stmt:=match s with
 | .ClassDef _ _ _ b _ _ _ _ _ _ _=>b.getD j (.Pass ⟨0,0,0,0⟩)
 | _=>.Pass ⟨0,0,0,0⟩
structure MthOk (K:Frag)(x qual:Str)(st:Stmt)(ps:List Str)(f:Addr)(fd:FuncData):Prop where
 F:Fun K x qual st f fd
 b:Binds K fd ps []
 fn:PySem.W.isFn K (.ref f)=true
structure ExcOk (K:Frag)(mg:Str->Option Value)(x:Str)(c:Addr)(ini:Option Value):Prop where
 m:mg x=some (.ref c)
 x:exB K c ini=true
 kp:PySem.W.keepIn K (.ref c)=true
 xc:XCls K c
 sa:findIn K (.ref c) "__setattr__"=some (some (.builtin "object.__setattr__"))
structure OwnOk (K:Frag)(mg:Str->Option Value)(x:Str)(c fi:Addr):Prop where
 m:mg x=some (.ref c)
 cls:Cls K c
 mkr:Mk K c fi
theorem Jfw {K:Frag}{h:Heap}{mg:Str->Option Value}{x:Str}{c:Addr}{ini:Option Value}(X:K.In h)(G:h.Ns mainGlobals mg)(a:nsIn K mainGlobals x=some (some (.ref c)))(e:exB K c ini=true)(kp:PySem.W.keepIn K (.ref c)=true)
 (ga:findIn K (.ref c) "__getattribute__"=some (some (.builtin "BaseException.__getattribute__"))) (gh:findIn K (.ref c) "__getattr__"=some none) (ba:PySem.W.mroIn K c (.type "BaseException")=some true) (ob:PySem.W.mroIn K c (.type "object")=some true) (hd:PySem.W.hasDictIn K c=true)
 (cl:findIn K (.ref c) "__class__"=some (some (.builtin "object.__class__"))) (cg:PySem.W.specialIn K (.builtin "object.__class__") "__get__"=some (some (.builtin "getset_descriptor.__get__"))) (ct:PySem.W.takesIn K (.builtin "object.__class__")=some true)
 (sa:findIn K (.ref c) "__setattr__"=some (some (.builtin "object.__setattr__"))):ExcOk K mg x c ini:=⟨PySem.W.mg_of X G a,e,kp,⟨ga,gh,ba,ob,hd,cl,cg,ct⟩,sa⟩
theorem Ja6 {K:Frag}{h:Heap}{mg:Str->Option Value}{x:Str}{c fi:Addr}(X:K.In h)(G:h.Ns mainGlobals mg)(a:nsIn K mainGlobals x=some (some (.ref c)))(pg:PySem.W.plainGet K c Str.empty=true)(hd:PySem.W.hasDictIn K c=true)(po:PySem.W.plainOver K c=true)
 (sa:findIn K (.ref c) "__setattr__"=some (some (.builtin "object.__setattr__"))) (ma:PySem.W.makesIn K c=true) (i:findIn K (.ref c) "__init__"=some (some (.ref fi))) (fn:PySem.W.isFn K (.ref fi)=true) (kp:PySem.W.keepIn K (.ref c)=true):OwnOk K mg x c fi :=
 ⟨PySem.W.mg_of X G a,⟨pg,hd,po,sa⟩,⟨ma,i,fn,kp⟩⟩
section
variable {X:Cx}
theorem J8Y {x:Str}{c:Addr}{pos:Pos}(hm:X.mg x=some (.ref c))(hg:Gl X x)(hd:(x == ("__debug__":Str))=false):PE X (.Name x pos) (tC (.ref c)):=J7Q hg hm rfl hd
end
theorem J6M:bootBuiltins "ValueError"=some (.type "ValueError"):=by decide +kernel
theorem JdA {X:Cx}(hex:X.ex=[]):Told X (λ_=>True) (λ_ _ _=>False):=⟨hex,λ_ _ _ _ _ _ _ _ _ _ _ _ _ q=>q.elim⟩
def Ite (K:Frag)(a:Addr):It where
 go:=λi H=>∃ xs x,SqL K H a xs/\xs[i]?=some x
 yld:=λi H y H'=>∃ p x,H p=none/\y=.ref p/\(∀ ys,SqL K H a ys->ys[i]?=some x)/\H'=upd H p (.tup [.int i,x])
 stop:=λi H=>∃ xs,SqL K H a xs/\xs.length<=i
theorem turn_enum {P:Program}{w:World}{K:Frag}{elts:List Expr}{x1:Nat}{tpos:Pos}(a e it:Addr)(hne:e≠it):Turn P w K (.Tuple elts x1 tpos) (Ite K a) [e,it] e (λi h=>∃ old,IsEnum h e it i old/\h.IsListIter it a i) where
 mem:=by simp
 obj := λi h st b hb=>by
  obtain ⟨old,h1,o,h2,c,d⟩:=st;rcases qo.mp hb with rfl | hb
  ·exact ⟨_,h1,λv z=>nomatch z⟩
  ·cases qf.mp hb
   exact ⟨o,h2,λv z=>by rw [d] at z;cases z⟩
 keep:=λi h h' st k=>by
  obtain ⟨old,h1,h2⟩:=st;exact ⟨old,k e (by simp) _ h1,h2.at λo z=>k it (by simp) o z⟩
 item:=by
  intro X hP hw hK hc i pins s σ H E I hf st hg;subst hP hw hK;obtain ⟨xs,x,hq,hx⟩:=hg;obtain ⟨its,rv,p,hz⟩:=I.list hq;obtain ⟨u,hu,ru⟩:=rv.get hx;obtain ⟨old,h1,h2⟩:=st;obtain ⟨f0,f1,f2,f3,f4,f5⟩:=hf e (by simp);obtain ⟨g0,g1,g2,g3,g4,g5⟩:=hf it (by simp);have fr:H s.heap.objs.size=none:=I.hok.fresh (zQ _);have pe:s.heap.objs.size≠e:=Nat.ne_of_gt (qH h1);refine wpAny_pyNext_enum_item h1 h2 p.isList (x:=u) (by simpa using hu) hne λh' out st' tup sz k=>⟨.ref s.heap.objs.size,rfl,?_⟩;refine wpAny_letOwnedTupleGo_enum (s:={ s with heap:=h',toks:=s.toks+1 }) out λh'' he' sb=>?_;have kk:∀ b o,b∉[e,it]->s.heap.get? b=some o->h''.get? b=some o:=λb o hb z =>
   (sb.2 b (λq=>hb (by simp [q]))).trans (k b o (λq=>hb (by simp [q])) (λq=>hb (by simp [q])) z)
  have kt:h''.get? s.heap.objs.size=some { cls:=.type "tuple",data:=.seq #[.int i s.toks,u] }:=(sb.2 _ pe).trans tup;have nt:∀ b v,H b=some v->b∉[e,it]:=λb v z hb=>by
   rcases qo.mp hb with rfl | hb
   ·rw [f0] at z;cases z
   ·cases qf.mp hb
    rw [g0] at z;cases z
  have np:∀ b v,H b=some v->b≠s.heap.objs.size:=λb v z q=>by subst q;rw [fr] at z;cases z
  have up:∀ b v,H b=some v->upd H s.heap.objs.size (.tup [.int i,x]) b=some v:=λb v z=>by rw [Jj (np b v z)];exact z
  refine ⟨.ref s.heap.objs.size,upd H s.heap.objs.size (.tup [.int i,x]),?_,rfl,⟨_,x,fr,rfl,λys hy=>by rw [I.list_inj hy hq];exact hx,rfl⟩,⟨u,he',st'.at λo z=>(sb.2 it (Ne.symm hne)).trans z⟩,λb hb=>?_⟩
  ·show Inv X pins σ _ { s with heap:=h'',gens:=s.gens,drawn:=s.drawn,toks:=s.toks+1 }
   refine Inv.step (s:=s) (h':=h'') (t':=s.toks+1) (g':=s.gens) (d':=s.drawn) (ch:=[e,it]) I (λb hb=>?_) (λb o _ _ hb z _=>kk b o hb z) (λb o _ _ hb z _=>⟨o.slots,kk b o hb z⟩) (λb o _ z n=>by rw [Jj (zV (qH z))];exact n) (λb o hb z=>⟨o,kk b o hb z⟩)
    (λb ys z=>up b _ z) (λb o v z=>up b _ z) (λb ps z=>⟨#[],by rw [Array.append_empty];exact up b _ z⟩) (λm hm=>?_) (λb v z=>?_) I.bare
   ·rcases qo.mp hb with rfl | hb
    ·exact ⟨f3,f1,f4,f5⟩
    ·cases qf.mp hb
     exact ⟨g3,g1,g4,g5⟩
   ·obtain ⟨o,es,ep,ho,r⟩:=hm
    refine ⟨o,es,ep,kk _ o (λhb=>?_) ho,r⟩;rcases qo.mp hb with q | hb
    ·exact f1 q.symm
    ·exact g1 (qf.mp hb).symm
   ·by_cases q:b=s.heap.objs.size
    ·subst q
     rw [Jd] at z;cases z;exact ⟨Jb (Nat.le_of_ble_eq_true rfl),[.int i s.toks,u],.cons ⟨_,rfl⟩ (.cons ru .nil),_,kt,rfl,_,rfl⟩
    ·rw [Jj q] at z
     refine (I.hok b v z).stay (λc o hc y=>kk c o ?_ y) (λc y=>up c _ y) λc ys y=>up c _ y;rcases hc with rfl | hc
     ·exact nt _ _ z
     ·exact nt _ _ hc
  ·rcases qo.mp hb with rfl | hb
   ·rw [Jj (Ne.symm pe)];exact f0
   ·cases qf.mp hb
    obtain ⟨o,h2',_⟩:=h2;rw [Jj (zV (qH h2'))];exact g0
 done:=by
  intro X hP hw hK hc i pins s σ H E I hf st hg;subst hP hw hK;obtain ⟨xs,hq,hx⟩:=hg;obtain ⟨its,rv,p,hz⟩:=I.list hq;obtain ⟨old,h1,h2⟩:=st;obtain ⟨g0,g1,g2,g3,g4,g5⟩:=hf it (by simp);have hl:=rv.length;exact wpAny_pyNext_enum_end (I.ok.hd hc) h1 h2 p.isList (by simp;omega) λh' eb=>⟨rfl,I.turned (t':=s.toks) (λb o hb z=>eb b o hb z) g0 g1 g3 g4 g5⟩
 self:=λ_ _ _ _ _ st h=>by
  obtain ⟨old,h1,h2⟩:=st;exact wpAny_pyIter_enum h1 h
section
variable {X:Cx}
def Jd2 (K:Frag)(ta:TA):TI:=λσ H R=>ta σ H λvs H1=>∃ a,vs=[.ref a]/\(∃ xs,SqL K H1 a xs)/\R (Ite K a) H1
theorem JaH {a:Expr}{ta:TA}{p pos tpos:Pos}{elts:List Expr}{x1:Nat}(hg:Gl X "enumerate")(hm:X.mg "enumerate"=none)(ha:PA X [a] ta)(hn:JB a=true):PI X (.Tuple elts x1 tpos) (.Call (.Name "enumerate" p) [a] [] pos) (Jd2 X.K ta):=by
 intro pins s σ H R I h;refine Call_ (J23 I hg hm boot_enumerate (PyProof.Rows.callWith_type1 (thn (ha pos pins s σ H _ I h) λus s1 ⟨vs,H1,I1,r1,q1⟩=>?_) (JG hn) rfl));obtain ⟨l,e,⟨xs,hq⟩,q⟩:=q1;subst e;cases r1 with
 | cons r rr =>
   cases rr;cases (show _=Value.ref l from r);obtain ⟨its,rv,pl,hz⟩:=I1.list hq;refine call_enumerate_list pl.isList λh' he st sz k=>?_;refine wpAny_pyIter_enum (s:={ s1 with heap:=h' }) he ?_;refine ⟨s1.heap.objs.size+1,[s1.heap.objs.size+1,s1.heap.objs.size],_,_,H1,rfl,I1.kept (t':=s1.toks) k,turn_enum l _ _ (Nat.succ_ne_self _),⟨_,he,st⟩,λb hb=>?_,q⟩;rcases qo.mp hb with rfl | hb
   ·exact I1.fpOk (Nat.le_succ _) (I1.hok.fresh (Nat.le_succ _))
   ·cases qf.mp hb
    exact I1.fpOk (zQ _) (I1.hok.fresh (zQ _))
end
theorem ForW.enum {K:Frag}{a:Addr}{xs:List V}{g:TG}{tb:TS}{D:Ends}{σ:St}{H:Hp}(Pv:Nat->St->Hp->Prop)(h0:Pv 0 σ H)(hl:∀ i σ H,Pv i σ H->SqL K H a xs)
 (hs:∀ (i:Nat) x σ H p,xs[i]?=some x->Pv i σ H->H p=none->g (.ref p) σ (upd H p (.tup [.int i,x])) λσ2 H2=>tb { D with nx:=Pv (i+1),ct:=Pv (i+1),bk:=D.nx } σ2 H2)
 (hd:∀ σ H,Pv xs.length σ H->D.nx σ H):ForW (Ite K a) g tb D σ H:=by
 refine ⟨λi m σ H=>Pv i σ H/\i<=xs.length/\m=xs.length - i,⟨_,h0,zZ _,rfl⟩,λi m σ H ⟨h1,h2,h3⟩=>?_⟩;have sq:=hl i σ H h1;by_cases e:i=xs.length
 ·subst e
  exact .inl ⟨⟨xs,sq,zQ _⟩,hd σ H h1⟩
 ·have lt:i<xs.length:=Nat.lt_of_le_of_ne h2 e
  refine .inr ⟨⟨xs,xs[i],sq,qc lt⟩,Pv (i+1),λσ' H' z=>⟨xs.length - (i+1),by omega,z,lt,rfl⟩,λx H' hy=>?_⟩;obtain ⟨p,x',hp,rfl,hx,rfl⟩:=hy;exact hs i x' σ H p (hx xs sq) h1 hp
section
variable {prog:Program}{w:World}{A:Around}{E:Value->Shared->Prop}{s:Shared}{T:String}{r d:Addr}{n:Nat}{P:Nat->Value->Prop}{OK:Heap->Prop}
theorem Jbl {R:Result->Shared->Prop}(K:PySem.W.KdlSrc prog w T r d n P OK)(hh:A.handled=none)(hok:OK s.heap)(hn:n<=sizeLine)
 (hR:∀ h' tk acc' c',(∀ b o,s.heap.get? b=some o->h'.get? b=some o)->h'.get? s.heap.objs.size=some { cls:=.type "list",dict:=none,data:=.seq acc' c',slots:=#[] }->ItemsOf P acc' n->R (.ok (.ret (.ref s.heap.objs.size))) { s with heap:=h',toks:=tk }) :
 codeAny (model prog w) A (.builtin "proto.collect" ⟨[.ref r],[]⟩) R s:=by
 refine codeAny_builtin PySem.F.entry_proto_collect ?_;rw [qK PySem.F.plain_proto_collect _];show wpAny _ A.in1 (newList [] >>= λl=>again (.builtin "list.__iadd__" ⟨[l,.ref r],[]⟩)) _ _ s;refine zM (wpAny_newObj_type ?_);refine zN ⟨plainId_quiet PySem.F.plain_list_iadd _,codeAny_builtin PySem.F.entry_list_iadd ?_⟩;rw [qK PySem.F.plain_list_iadd _];have hlt:=K.there _ hok;have hS:(s.heap.push { cls:=.type "list",data:=.seq ([]:List Value).toArray }).get? s.heap.objs.size=some { cls:=.type "list",data:=.seq #[] 0 }:=qG _ rfl;show wpAny _ A.in1 (Builtin.List.listExtendWith (.ref s.heap.objs.size) (.ref r) (.ref s.heap.objs.size)) _ _ _;exact PySem.W.kdl_extend (s:={ s with heap:=s.heap.push { cls:=.type "list",data:=.seq ([]:List Value).toArray } }) (A:=A) K hh (K.keep _ _ hok λb _ o e=>qF _ e) s.heap.objs.size (Nat.ne_of_gt hlt.1) (Nat.ne_of_gt hlt.2) (.ref s.heap.objs.size) 0 hS
  (λh' tk acc' c' hk hS' hacc=>hR h' tk acc' c' (λb o e=>hk b o (zV (qH e)) (qF _ e)) hS' hacc) hn
theorem J57 {Q:List Value->Shared->Prop}(K:PySem.W.KdlSrc prog w T r d n P OK)(hh:A.handled=none)(hok:OK s.heap)(hn:n<=sizeLine)
 (hQ:∀ h' tk acc',(∀ b o,s.heap.get? b=some o->h'.get? b=some o)->s.heap.objs.size<h'.objs.size->ItemsOf P acc' n->Q acc'.toList { s with heap:=h',toks:=tk }):wpAny (model prog w) A (collect (.ref r)) Q E s:=by
 unfold collect;refine zM (wpAny_runValue (Jbl K hh hok hn λh' tk acc' c' hk hS' hacc=>?_));show wpAny _ A (load s.heap.objs.size >>= _) _ _ _;refine zM (wpAny_load hS' ?_);exact zN (hQ h' tk acc' hk (qH hS') hacc)
theorem J9R {ns:List Int}{Q:Value->Shared->Prop}(K:PySem.W.KdlSrc prog w T r d n P OK)(hh:A.handled=none)(hok:OK s.heap)(hn:n<64)(hI:∀ acc:Array Value,ItemsOf P acc n->IntsAre acc.toList ns)
 (hQ:∀ h' tk p vs' ns' e,(∀ b o,s.heap.get? b=some o->h'.get? b=some o)->s.heap.objs.size<=p->h'.get? p=some (seqObj "list" vs' e)->IntsAre vs'.toList ns'->ns'.Perm ns->ns'.Pairwise (·<=·)->Q (.ref p) { s with heap:=h',toks:=tk }) :
 wpAny (model prog w) A (call (.builtin "sorted") [.ref r]) Q E s:=by
 refine Calls.call_function_entry kind_sorted plain_sorted entry_sorted (args_sorted1 _) ?_;unfold Builtin.«sorted»;refine zM (m:=checkCount "sorted" 1 1 _) (zN ?_);refine zM (J57 K hh hok (by rw [sizeLine_eq];omega) λh1 tk acc hk hsz hacc=>?_);refine zM (wpAny_newList ?_ (hsz:=by rw [qb,hacc.1,sizeLine_eq];omega));have hoL:(h1.push (seqObj "list" acc.toList.toArray 0)).get? h1.objs.size=some (seqObj "list" acc.toList.toArray 0):=qG _ rfl;show wpAny _ _ _ _ _ { s with heap:=h1.push (seqObj "list" acc.toList.toArray 0),toks:=tk };refine zM (wpAny_holding (wpAny_call_entry slot_list_sort ⟨_,hoL,rfl⟩ entry_list_sort (list_sort_tree hoL (hI acc hacc) (by rw [qb,hacc.1];exact hn) λout ns' a1 a2 a3=>⟨_,rfl,?_⟩) (args_list_sort _)));obtain ⟨e,he⟩:=sortedHeap_at (out:=out) hoL;exact zN ⟨_,rfl,hQ _ tk h1.objs.size out ns' e (λb o eb=>by
  rw [sortedHeap_old (zV (qH (hk b o eb))) (by rw [size_push'];exact Nat.lt_succ_of_lt (qH (hk b o eb)))];exact qF _ (hk b o eb)) (Nat.le_of_lt hsz) he a1 a2 a3⟩
end
theorem J6g:∀ {us:List Value} {ks:List Int},us.length=ks.length->(∀ (i:Nat) v k,us[i]?=some v->ks[i]?=some k->∃ t,v=Value.int k t)->IntsAre us ks
 | [],[],_,_=>.nil
 | [],_::_,h,_=>by cases h
 | _::_,[],h,_=>by cases h
 | u::us,k::ks,h,f=>by
   obtain ⟨t,rfl⟩:=f 0 u k rfl rfl;exact .cons k t (J6g (by simpa using h) λi v k' a b=>f (i+1) v k' (by simpa using a) (by simpa using b))
theorem J41:∀ {us:List Value} {ks:List Int},IntsAre us ks->Vals (ks.map V.int) us
 | _,_,.nil=>.nil
 | _,_,.cons _ _ t=>.cons ⟨_,rfl⟩ (J41 t)
theorem JbH {i:Int}{v:Value}(h:J3J (.inl i) v=true):∃ t,v=Value.int i t:=by
 have h':Value.isInt i v=true:=h;cases v with
 | int j t =>
   have e:(j == i)=true\/(i == j)=true:=by first | exact .inl h' | exact .inr h'
   rcases e with e | e
   ·exact ⟨t,by rw [beq_iff_eq.mp e]⟩
   ·exact ⟨t,by rw [beq_iff_eq.mp e]⟩
 | _=>cases h'
section
variable {X:Cx}
def J5Y:List V->Hp->VK->Prop:=λxs H Q=>∃ d kvs,∃ ks:List Int,xs=[.ref d]/\H d=some (.dK kvs)/\kvs.map (·.1)=ks.map Sum.inl/\kvs.length<64 /\
 ∀ p,∀ ms:List Int,H p=none->ms.Perm ks->ms.Pairwise (·<=·)->Q (.ref p) (upd H p (.lst (ms.map V.int)))
theorem J4n (hc:X.calm=true):J04 X (.builtin "sorted") J5Y:=by
 intro pins s σ H xs us Q I r h;obtain ⟨d,kvs,ks,rfl,hH,hk,h64,q⟩:=h;obtain ⟨u,rfl,ru⟩:=J0N r;cases ru;obtain ⟨z,hd,vs,rel,dd⟩:=Jda I.hok hH;have hlen:=rel.length;obtain ⟨o,es,ep,ho,hx,hdat,hkn,hp,hnd⟩:=id dd;have hkl:ks.length=kvs.length:=by have:=congrArg List.length hk;simpa using this.symm
 have hm:s.heap.DictAt (J0j X.prog X.w) d vs ep:=⟨o,es,ho,hx,hdat,hkn,hp,hnd⟩;refine J9R (ns:=ks) (PySem.W.kdl_dict (kvs:=vs) (ep:=ep) hd) (I.ok.hd hc) hm (by omega) (λacc hacc=>?_) (λh' tk p vs' ns' e hkp hpz hpe hi hperm hsort=>?_)
 ·refine J6g (by rw [qb,hacc.1];omega) λi v k hv hki=>?_
  obtain ⟨k',x,hx',hy'⟩:=hacc.2 i v (by rw [<- Array.getElem?_toList];exact hv);have e1:vs.map (·.1)=ks.map Sum.inl:=by rw [<- hk];exact rel.keys.symm
  have e2:(vs.map (·.1))[i]?=some k':=by rw [qq,hx'];rfl
  rw [e1,qq,hki] at e2;cases e2;exact JbH hy'
 ·have hv:=J41 hi
  refine ⟨.ref p,upd H p (.lst (ns'.map V.int)),I.laid (t':=tk) hkp hpz (show ObjOk X.prog X.w _ h' _ (.lst (ns'.map V.int)) from ⟨by rw [qe,hperm.length_eq,sizeLine_eq];omega,vs'.toList,e,hv,hpe⟩),rfl,q p ns' (I.hok.fresh hpz) hperm hsort⟩
end
open AutoSeq1 (wpAny_loadPart')
section
variable {X:Cx}
def J3f (K:Frag):V->List V->Hp->VK->Prop:=λx vs H Q=>∃ l,∃ ns:List Str,∃ z,∃ j:Nat,x=.ref l/\vs=[.str z]/\SqL K H l (ns.map V.str)/\ns[j]?=some z/\(∀ m,m<j->ns[m]?≠some z)/\Q (.int j) H
theorem Jbw:MtR X "list.index" (J3f X.K):=by
 intro pins s σ H x vs v us Q I rx rv h;obtain ⟨l,ns,z,j,rfl,rfl,hq,hj,hno,q⟩:=h;cases rx;obtain ⟨u,rfl,ru⟩:=J0N rv;obtain ⟨tz,rfl⟩:=ru;obtain ⟨its,rvs,pl,hz⟩:=I.list hq;obtain ⟨⟨c1,d1,t1,sl1⟩,e1,hc,n1,hd⟩:=pl.isList;cases (show c1=.type "list" from hc);cases (show t1=.seq its.toArray n1 from hd);have hget:∀ (m:Nat) y,its[m]?=some y->∃ w t,ns[m]?=some w/\y=Value.str w t:=λm y hy=>by
  have hm:m<(ns.map V.str).length:=by rw [rvs.length];exact (qd.mp hy).1
  obtain ⟨u',hu',ru'⟩:=rvs.get (i:=m) (x:=(ns.map V.str)[m]) (qc hm);rw [hy] at hu';cases hu';rw [getElem_map] at ru';obtain ⟨t,rfl⟩:=ru';exact ⟨_,t,qc (by simpa using hm),rfl⟩
 have hjl:j<its.length:=by rw [<- rvs.length,qe];exact (qd.mp hj).1
 have hlen:(ns.map V.str).length<=sizeLine:=hz;have hsm:(j:Int)<2 ^ 63 - 1:=by
  have h2:its.length<=sizeLine:=by rw [<- rvs.length];exact hlen
  rw [sizeLine_eq] at h2;omega
 let e:Value->Bool:=λv=>match v with
  | .str w _=>w == z
  | _=>false
 refine call_meets F.slot_list_index ⟨_,e1,rfl⟩ F.entry_list_index (F.args_list_index_2 _ _) (SeqAt.list_indexAt l its.toArray n1 d1 sl1 (.str z tz) e j (by simpa using hjl) hsm ?_ ?_) ⟨e1,λy hy=>?_,?_⟩
 ·obtain ⟨w,t,h1,h2⟩:=hget j its[j] (qc hjl)
  rw [hj] at h1;cases h1;show e its.toArray[j]=true;rw [getElem_toArray,h2];show (z == z)=true;simp
 ·intro m hm hmj
  have hm':m<its.length:=by simpa using hm
  obtain ⟨w,t,h1,h2⟩:=hget m its[m] (qc hm');show e its.toArray[m]=false;rw [getElem_toArray,h2];show (w == z)=false;rw [beq_eq_false_iff_ne];intro z';exact hno m hmj (by rw [h1,z'])
 ·have hy':y∈its:=by simpa using hy
  obtain ⟨m,hm⟩:=qx.mp hy';obtain ⟨w,t,h1,rfl⟩:=hget m y hm;exact SeqAt.EqAt.str_str _ _ _ _
 ·exact ⟨.int j,H,I.tok _,⟨_,rfl⟩,q⟩
theorem J9e {K:Frag}(e:X.K=K):MtR X "list.index" (J3f K):=by subst e;exact Jbw
end
def unl {α:Type}[BEq α](val:Nat->α):Nat->Nat
 | 0=>0
 | i+1=>if ((List.range i).map val).any (· == val i) then unl val i else unl val i+1
theorem J9C {α:Type}[BEq α](val:Nat->α):∀ i,unl val i<=i
 | 0=>zQ _
 | i+1=>by
   have:=J9C val i;unfold unl
   split<;>omega
theorem JcP {α:Type}[DecidableEq α][BEq α][LawfulBEq α](val:Nat->α)(i:Nat)(k:α):((List.range (i+1)).map val).any (· == k)=(((List.range i).map val).any (· == k)||decide (k=val i)):=by
 rw [range_succ,qt,any_append];congr 1;simp only [qp,map_nil,any_cons,any_nil,Bool.or_false];by_cases e:k=val i
 ·rw [e];simp
 ·rw [zT e,beq_eq_false_iff_ne]
  exact λz=>e z.symm
section
variable {prog:Program}{w:World}{A:Around}{R:Result->Shared->Prop}{I:Addr}{fp wr:List Addr}{G:Array GenState->Array GenState->Prop}{n:Nat}{P:Nat->Value->Prop}{St:Nat->Shared->Prop}
variable {α:Type}[DecidableEq α][BEq α][LawfulBEq α]{knd:PySem.KeyKind prog w α}
theorem J8F (W:WalksS prog w A.in1 I fp wr G n P St){b:Addr}(nb:b∉fp){val:Nat->α}(hv:∀ i v,P i v->knd.is (val i) v=true/\v.scannable=true)(room:n+1<scanBound) :
 ∀ (m i:Nat) (s:Shared),n - i=m->i<=n->St i s->s.heap.SetOf knd b (λk=>((List.range i).map val).any (· == k)) (unl val i) ->
   (∀ s',Moved (b::wr) G s s'->s'.heap.SetOf knd b (λk=>((List.range n).map val).any (· == k)) (unl val n)->R (.ok (.ret .none)) s') ->
   codeAny (model prog w) A (.builtin "set.update.loop" ⟨[.ref b,.ref I],[]⟩) R s:=by
 have nw:b∉wr:=λz=>nb (W.sub _ z);have more:∀ c∈wr,c∈b::wr:=λc hc=>ql _ hc;have same:∀ {s s':Shared} {S:α->Bool} {k:Nat},s.heap.SetOf knd b S k->Moved wr G s s'->s'.heap.SetOf knd b S k:=λ{s s' S k} h hm=>by
  obtain ⟨o,es,ep,t,ho,r⟩:=h;exact ⟨o,es,ep,t,hm.heap b _ nw ho,r⟩
 intro m
 induction m with
 | zero =>
   intro i s hm hi hst hS hR;obtain rfl:i=n:=by omega
   refine codeAny_builtin PyProof.Rows.F.entry_set_update_loop ?_;rw [qK PyProof.Rows.F.plain_set_update_loop _];show wpAny _ A.in1 (pyNext (.ref I) >>= _) _ _ s;exact zM (W.done s _ _ hst λs' mv=>zN (hR s' (mv.mono more) (same hS mv)))
 | succ m ih =>
   intro i s hm hi hst hS hR;have lt:i<n:=by omega
   refine codeAny_builtin PyProof.Rows.F.entry_set_update_loop ?_;rw [qK PyProof.Rows.F.plain_set_update_loop _];show wpAny _ A.in1 (pyNext (.ref I) >>= _) _ _ s;refine zM (W.item i s _ _ lt hst λv s' hP hst' mv=>?_);obtain ⟨hk,hsc⟩:=hv i v hP;show wpAny _ A.in1 (holding [v] (setAdd b v) >>= _) _ _ s';refine zM (wpAny_holding ?_);unfold setAdd;refine wpAny_holding (zM (knd.pyHash (k:=val i) hk ?_));have:=J9C val i;have hS':=same hS mv;refine wpAny_setAddHashed_of (knd:=knd) (s:={ s' with toks:=s'.toks+1 }) hk hsc hS' (by omega) λh' sb hS2=>?_;have hS3:h'.SetOf knd b (λk=>((List.range (i+1)).map val).any (· == k)) (unl val (i+1)):=SetOf_congr hS2 (λk=>(JcP val i k).symm) rfl;refine zN ⟨plainId_quiet PyProof.Rows.F.plain_set_update_loop _,ih (i+1) _ (by omega) lt (W.frame _ s' _ _ hst' (Nat.le_succ _) λc hc o e=>?_) hS3 λs'' mv' hS4=>?_⟩
   ·rw [sb.2 c (λz:c=b=>nb (by rw [<- z];exact hc))];exact e
   ·refine hR s'' (Moved.trans W.gtrans ((mv.mono more).then_heap (Nat.le_succ _) λc o hc e=>?_) mv') hS4
    rw [sb.2 c (λz:c=b=>hc (by rw [z];exact qm))];exact e
end
section
variable {prog:Program}{w:World}{A:Around}{E:Value->Shared->Prop}{s:Shared}
abbrev J0d (led:Bool):Obj:={ cls:=.type "set",dict:=none,data:=.set #[] 0 (.fresh 0 0 led) }
set_option maxHeartbeats 3200000 in
theorem set_call {x:Value}{Q:Value->Shared->Prop}{Z:Heap->Prop}
 (fill:∀ (led:Bool) (E':Value->Shared->Prop) (Q':Unit->Shared->Prop),(∀ h' tk,Z h'->Q' () { s with heap:=h',toks:=tk })->wpAny (model prog w) A.in1.in1 (Builtin.Frozenset.updateFrom "set.__init__" s.heap.objs.size x) Q' E' { s with heap:=s.heap.push (J0d led) })
 (h:∀ (h':Heap) (tk:Nat),Z h'->Q (.ref s.heap.objs.size) { s with heap:=h',toks:=tk }):wpAny (model prog w) A (call (.type "set") [x]) Q E s:=by
 obtain ⟨c,tl,hmro⟩:=PySem.F.called_set.mro;have g1:=PySem.F.called_set.made;have g2:=PySem.F.called_set.sub;have g3:=PySem.F.called_set.notType;have g4:=PySem.F.called_set.canCreate;have g5:=PySem.F.typeCall_set_1 x;refine wpAny_call (codeAny_of_tree ?_);show wpAny _ _ (callAny (.type "set") _) _ _ _;refine zN ⟨Code.quiet_builtin _ (by decide +kernel),codeAny_builtin PySem.F.entry_type_call ?_⟩;rw [Around.under_plain (weight_type_call_type "set" [x] []) rfl]
 repeat (any_goals (first | assumption | wp_step))
 refine codeAny_mono (code_set_new_1 x (E:=E) (Q₁:=λv s1=>∃ led:Bool,v=.ref s.heap.objs.size/\s1={ s with heap:=s.heap.push (J0d led) }) λled=>⟨led,rfl,rfl⟩) λr s1 hr=>?_
 match r,hr with
 | .error e,hr=>exact hr
 | .ok .next,hr=>exact hr.elim
 | .ok .brk,hr=>exact hr.elim
 | .ok .cont,hr=>exact hr.elim
 | .ok (.ret v),hr =>
   obtain ⟨led,rfl,rfl⟩:=hr;have at0:(s.heap.push (J0d led)).get? s.heap.objs.size=some (J0d led):=qG _ rfl;have hT:Shared.TypeIs { s with heap:=s.heap.push (J0d led) } (.ref s.heap.objs.size) "set":=⟨_,at0,rfl⟩;have i1:=PySem.F.called_set.init.lookup;have i2:=PySem.F.called_set.init.bind (.ref s.heap.objs.size)
   repeat (any_goals (first | assumption | wp_step))
   refine codeAny_mono (codeAny_call_builtin (R:=wants (λr s2=>r=.none/\∃ h' tk,s2={ s with heap:=h',toks:=tk }/\Z h') E) PySem.F.called_set.init.plain PySem.F.entry_set_init (check_set_init_1 hT ?_)) λr2 s2 hr2=>?_
   ·have at1:({ s with heap:=s.heap.push (J0d led) }:Shared).heap.get? s.heap.objs.size=some (J0d led):=at0
    unfold Builtin.«set.__init__» noKeywords;generalize hU:Builtin.Frozenset.updateFrom=U
    wp_walk
    subst hU;exact fill led _ _ λh' tk z=>zN ⟨rfl,h',tk,rfl,z⟩
   ·match r2,hr2 with
    | .error e,hr2=>exact hr2
    | .ok .next,hr2=>exact hr2.elim
    | .ok .brk,hr2=>exact hr2.elim
    | .ok .cont,hr2=>exact hr2.elim
    | .ok (.ret v),hr2 =>
      obtain ⟨rfl,h',tk,rfl,z⟩:=hr2
      repeat (any_goals (first | assumption | wp_step))
      exact h _ _ z
variable {α:Type}[DecidableEq α][BEq α][LawfulBEq α]{knd:PySem.KeyKind prog w α}
def J9z (knd:PySem.KeyKind prog w α)(b:Addr)(val:Nat->α)(n:Nat)(h h':Heap):Prop :=
 h'.SetOf knd b (λk=>((List.range n).map val).any (· == k)) (unl val n)/\∀ c o,c<b->h.get? c=some o->h'.get? c=some o
theorem JdM {l:Addr}{items:Array Value}{val:Nat->α}{Q:Value->Shared->Prop}(hh:A.handled=none)(hl:s.heap.IsList l items)(hv:∀ (i:Nat) v,items[i]?=some v->knd.is (val i) v=true/\v.scannable=true)(room:items.size+1<scanBound)
 (h:∀ (h':Heap) (tk:Nat),J9z knd s.heap.objs.size val items.size s.heap h'->Q (.ref s.heap.objs.size) { s with heap:=h',toks:=tk }):wpAny (model prog w) A (call (.type "set") [.ref l]) Q E s:=by
 refine set_call (Z:=J9z knd s.heap.objs.size val items.size s.heap) (λled E' Q' q=>?_) h;obtain ⟨ol,hol,hcl,nl,hdl⟩:=id hl;obtain ⟨ocls,odict,odata,oslots⟩:=ol;simp only at hcl hdl;subst hcl;subst hdl;have at1:(s.heap.push (J0d led)).get? l=some { cls:=.type "list",dict:=odict,data:=.seq items nl,slots:=oslots }:=qF _ hol;have k1:=PySem.F.sub_list_set;have k2:=PySem.F.sub_list_frozenset;have k3:(Value.type "list" == Value.type "dict")=false:=by decide
 have hl1:(s.heap.push (J0d led)).IsList l items:=⟨_,at1,rfl,nl,rfl⟩;unfold Builtin.Frozenset.updateFrom;generalize hP:pyIter=PI
 wp_walk
 subst hP;refine wpAny_pyIter_list hl1 ?_;refine zM (wpAny_runValue ?_);have ll:l<s.heap.objs.size:=qH hol;have sz:(s.heap.push (J0d led)).objs.size=s.heap.objs.size+1:=Heap.size_push ..;refine J8F (val:=val) ((Walks.list (by simp [hh]) _ l (by rw [sz];exact zV (Nat.lt_succ_of_lt ll)) items).toS) (b:=s.heap.objs.size) (by rw [sz];simp;exact Nat.ne_of_gt ll) hv room (items.size - 0) 0 _ (by omega) (zZ _) ⟨⟨_,qG _ rfl,rfl,rfl⟩,hl1.push _⟩ ?_ ?_
 ·have g:=qF (h:=s.heap.push (J0d led)) { cls:=.type "list_iterator",data:=.fields #[.ref l,.int 0 0] } (qG (o:=J0d led) s.heap rfl)
  exact SetOf_congr ((setObjOf_fresh (knd:=knd) led).setOf g (by unfold scanBound;omega)) (λ_=>rfl) rfl
 ·intro s' mv hS
  obtain ⟨h',g',d',tk',os'⟩:=s';obtain rfl:g'=s.gens:=mv.gens;obtain rfl:d'=s.drawn:=mv.drawn;obtain rfl:os'=s.os:=mv.os;show wpAny _ _ _ _ _ _;refine zN ?_;refine q h' tk' ⟨hS,λc o hc e=>?_⟩;refine mv.heap c o ?_ (qF _ (qF _ e));rw [sz];simp only [qo,not_mem_nil,or_false,not_or];exact ⟨zV hc,zV (Nat.lt_succ_of_lt hc)⟩
theorem J6s:isSubtype (.type "tuple") (.type "set")=pure false:=by rw [isSubtype_type];kernel_rfl
theorem J3x:isSubtype (.type "tuple") (.type "frozenset")=pure false:=by rw [isSubtype_type];kernel_rfl
theorem JdL {l:Addr}{items:Array Value}{val:Nat->α}{Q:Value->Shared->Prop}(hh:A.handled=none)(hl:s.heap.IsTuple l items)(hv:∀ (i:Nat) v,items[i]?=some v->knd.is (val i) v=true/\v.scannable=true)(room:items.size+1<scanBound)
 (h:∀ (h':Heap) (tk:Nat),J9z knd s.heap.objs.size val items.size s.heap h'->Q (.ref s.heap.objs.size) { s with heap:=h',toks:=tk }):wpAny (model prog w) A (call (.type "set") [.ref l]) Q E s:=by
 refine set_call (Z:=J9z knd s.heap.objs.size val items.size s.heap) (λled E' Q' q=>?_) h;obtain ⟨ol,hol,hcl,nl,hdl⟩:=id hl;obtain ⟨ocls,odict,odata,oslots⟩:=ol;simp only at hcl hdl;subst hcl;subst hdl;have at1:(s.heap.push (J0d led)).get? l=some { cls:=.type "tuple",dict:=odict,data:=.seq items nl,slots:=oslots }:=qF _ hol;have k1:=J6s;have k2:=J3x;have k3:(Value.type "tuple" == Value.type "dict")=false:=by decide
 have hl1:(s.heap.push (J0d led)).IsTuple l items:=⟨_,at1,rfl,nl,rfl⟩;unfold Builtin.Frozenset.updateFrom;generalize hP:pyIter=PI
 wp_walk
 subst hP;refine wpAny_pyIter_tuple hl1 ?_;refine zM (wpAny_runValue ?_);have ll:l<s.heap.objs.size:=qH hol;have sz:(s.heap.push (J0d led)).objs.size=s.heap.objs.size+1:=Heap.size_push ..;refine J8F (val:=val) ((Walks.tuple (by simp [hh]) _ l (by rw [sz];exact zV (Nat.lt_succ_of_lt ll)) items).toS) (b:=s.heap.objs.size) (by rw [sz];simp;exact Nat.ne_of_gt ll) hv room (items.size - 0) 0 _ (by omega) (zZ _) ⟨⟨_,qG _ rfl,rfl,rfl⟩,hl1.at λo e=>qF _ e⟩ ?_ ?_
 ·have g:=qF (h:=s.heap.push (J0d led)) { cls:=.type "tuple_iterator",data:=.fields #[.ref l,.int 0 0] } (qG (o:=J0d led) s.heap rfl)
  exact SetOf_congr ((setObjOf_fresh (knd:=knd) led).setOf g (by unfold scanBound;omega)) (λ_=>rfl) rfl
 ·intro s' mv hS
  obtain ⟨h',g',d',tk',os'⟩:=s';obtain rfl:g'=s.gens:=mv.gens;obtain rfl:d'=s.drawn:=mv.drawn;obtain rfl:os'=s.os:=mv.os;show wpAny _ _ _ _ _ _;refine zN ?_;refine q h' tk' ⟨hS,λc o hc e=>?_⟩;refine mv.heap c o ?_ (qF _ (qF _ e));rw [sz];simp only [qo,not_mem_nil,or_false,not_or];exact ⟨zV hc,zV (Nat.lt_succ_of_lt hc)⟩
end
def SzO (b:Addr)(n:Nat):HO:=.ext λh=>∃ o es ep t,h.get? b=some o/\o.ExactSet/\o.data=.set es ep t/\t.fits es.size=true/\es.size=n
theorem JeP {P:Program}{w:World}{H:Hp}{h:Heap}{a:Addr}{n:Nat}(x:∃ o es ep t,h.get? a=some o/\o.ExactSet/\o.data=.set es ep t/\t.fits es.size=true/\es.size=n):ObjOk P w H h a (SzO a n) :=
 ⟨x,(let ⟨o,_,_,_,e,_⟩:=x;⟨o,e⟩),λ_ _ ⟨o,es,ep,t,e,r⟩ k=>⟨o,es,ep,t,k o e,r⟩⟩
theorem JfB:bootBuiltins "set"=some (.type "set"):=by decide +kernel
section
variable {X:Cx}
def Jcq (K:Frag):List V->Hp->VK->Prop:=λxs H Q=>∃ a,∃ zs:List Str,xs=[.ref a]/\(SqL K H a (zs.map V.str)\/SqT K H a (zs.map V.str))/\zs.length<=1000/\∀ p,H p=none->Q (.ref p) (upd H p (SzO p (unl (λi=>zs.getD i Str.empty) zs.length)))
theorem Jcc {zs:List Str}{its:List Value}(r:Vals (zs.map V.str) its)(P:Program)(w:World):∀ (i:Nat) v,its.toArray[i]?=some v->(strKind P w).is (zs.getD i Str.empty) v=true/\v.scannable=true:=λi v hv=>by
 have hv':its[i]?=some v:=by simpa using hv
 have hm:i<zs.length:=by
  have:=r.length;rw [qe] at this;rw [this];exact (qd.mp hv').1
 obtain ⟨u,hu,ru⟩:=r.get (i:=i) (x:=V.str zs[i]) (by rw [qq,qc hm];rfl);rw [hv'] at hu;cases hu;obtain ⟨t,rfl⟩:=ru;rw [qh,qc hm];exact ⟨strKind_is _ _ _ _,rfl⟩
theorem J8G {α:Type}[DecidableEq α][BEq α][LawfulBEq α]{knd:PySem.KeyKind X.prog X.w α}{val:Nat->α}{m:Nat}{pins:List (Addr×Obj)}{s:Shared}{σ:St}{H:Hp}{Q:VK}(I:Inv X pins σ H s)(q:∀ p,H p=none->Q (.ref p) (upd H p (SzO p (unl val m)))) :
 ∀ (h':Heap) (tk:Nat),J9z knd s.heap.objs.size val m s.heap h'->EP X pins σ Q (.ref s.heap.objs.size) { s with heap:=h',toks:=tk }:=λh' tk ⟨⟨o,es,ep,t,ho,hex,hd,_,_,_,hf,hn⟩,kp⟩ =>
 ⟨.ref s.heap.objs.size,_,I.laid (t':=tk) (λb u e=>kp b u (qH e) e) (zQ _) (JeP ⟨o,es,ep,t,ho,hex,hd,hf,hn⟩),rfl,q _ (I.hok.fresh (zQ _))⟩
theorem JbT (hc:X.calm=true):J04 X (.type "set") (Jcq X.K):=by
 intro pins s σ H xs us Q I r h;obtain ⟨p,zs,rfl,hq,hz,q⟩:=h;obtain ⟨u,rfl,rx⟩:=J0N r;cases rx;rcases hq with hq | hq
 ·obtain ⟨its,r',pl,_⟩:=I.list hq
  have hl:=r'.length;rw [qe] at hl;have hsz:its.toArray.size=zs.length:=by rw [qg,<- hl]
  refine JdM (knd:=strKind X.prog X.w) (I.ok.hd hc) pl.isList (Jcc r' _ _) (by rw [hsz];unfold scanBound;omega) ?_;rw [hsz];exact J8G I q
 ·obtain ⟨its,r',pl,_⟩:=I.tuple hq
  have hl:=r'.length;rw [qe] at hl;have hsz:its.toArray.size=zs.length:=by rw [qg,<- hl]
  refine JdL (knd:=strKind X.prog X.w) (I.ok.hd hc) pl (Jcc r' _ _) (by rw [hsz];unfold scanBound;omega) ?_;rw [hsz];exact J8G I q
def JaD:List V->Hp->VK->Prop:=λxs H Q=>∃ a n,xs=[.ref a]/\H a=some (SzO a n)/\n<=1000/\Q (.int n) H
theorem J9t:J04 X (.builtin "len") JaD:=by
 intro pins s σ H xs us Q I r h;obtain ⟨a,n,rfl,ha,hn,q⟩:=h;obtain ⟨u,rfl,rx⟩:=J0N r;cases rx;obtain ⟨⟨o,es,ep,t,e,hex,hd,hf,hs⟩,_⟩:=(show ObjOk X.prog X.w H s.heap a (SzO a n) from I.hok a _ ha);refine call_len_set e hex hd hf (by rw [hs];omega) ?_;rw [hs];exact ⟨.int n,H,I.tok _,⟨_,rfl⟩,q⟩
theorem Jfn {K:Frag}(e:X.K=K)(hc:X.calm=true):J04 X (.type "set") (Jcq K):=by subst e;exact JbT hc
end
section
variable {X:Cx}
def Jct (K:Frag):R2:=λx y H Q=>∃ a b xs ys,x=.ref a/\y=.ref b/\SqT K H a xs/\SqT K H b ys/\xs.length+ys.length<=sizeLine /\
 (xs=[]->Q (.ref b) H)/\(xs≠[]->ys=[]->Q (.ref a) H)/\(xs≠[]->ys≠[]->∀ p,H p=none->Q (.ref p) (upd H p (.tup (xs++ys))))
theorem Je6:OpR X (binaryOp .Add) (Jct X.K):=by
 intro pins s σ H x y v u Q I rx ry h;obtain ⟨a,b,xs,ys,rfl,rfl,ha,hb,hz,q0,q1,q2⟩:=h;by_cases hx:xs=[]
 ·cases rx
  cases ry;obtain ⟨its,r1,p1,_⟩:=I.tuple ha;obtain ⟨its2,r2,p2,_⟩:=I.tuple hb;have e1:its=[]:=r1.nil_iff.mpr hx;obtain ⟨⟨cls,dd,data,sl⟩,ho,hc,n,hd⟩:=id p1;obtain ⟨⟨cls2,dd2,data2,sl2⟩,ho2,hc2,n2,hd2⟩:=id p2;simp only at hc hd hc2 hd2;subst hc hd hc2 hd2;exact concat_meets ⟨_,ho,rfl⟩ ⟨_,ho2,rfl⟩ noFill_tuple_add seq_tuple_add PySem.F.slot_tuple_add PySem.F.entry_tuple_add (PySem.F.args_tuple_add_2 _ _)
   (tuple_addW0 a b its.toArray its2.toArray n n2 dd dd2 sl sl2 (by simp [e1])) ⟨ho,ho2,⟨.ref b,H,I,rfl,q0 hx⟩⟩
 ·exact Je5 pins s σ H _ _ v u Q I rx ry ⟨a,b,xs,ys,rfl,rfl,ha,hb,hx,hz,q1 hx,q2 hx⟩
theorem J87 {K:Frag}(e:X.K=K):OpR X (binaryOp .Add) (Jct K):=by subst e;exact Je6
end
section
variable {X:Cx}
def J8p:TS:=λ_ _ _=>False
theorem Jcv {rest:List Stmt}:PSs X rest J8p:=λ_ _ _ _ _ _ h=>h.elim
theorem JaA:∀ {Bs:List Addr} {its:List Value},Vals (Bs.map V.ref) its->its=Bs.map Value.ref
 | [],_,r=>by cases r;rfl
 | b :: Bs,_,r=>by
   cases r with
   | cons h t =>
     cases (show _=Value.ref b from h);rw [JaA t];rfl
def Jex (K:Frag):List V->Hp->VK->Prop:=λxs H Q=>∃ a tp C ed b,∃ Bs:List Addr,xs=[.ref a,.ref tp]/\H a=some (ExO a (.ref C) ed)/\JfG H ed/\XCls K C/\SqT K H tp (Bs.map V.ref)/\PySem.W.kitAny K (.ref C) (Bs.map Value.ref)=some b/\Q (.bl b) H
theorem JbV:J04 X (.builtin "isinstance") (Jex X.K):=by
 intro pins s σ H xs us Q I r h;obtain ⟨a,tp,C,ed,b,Bs,rfl,e,hd,c,ht,hk,q⟩:=h;obtain ⟨u,z,rfl,ru,rz⟩:=J5z r;cases (show u=Value.ref a from ru);cases (show z=Value.ref tp from rz);have J:=J9k I.hok e hd;obtain ⟨its,r',pl,_⟩:=I.tuple ht;obtain ⟨⟨tc,td,tdat,tsl⟩,ho,hc,n,hdat⟩:=pl;simp only at hc hdat;subst hc;subst hdat;obtain rfl:=JaA r';exact PySem.W.kia_tup (J6c c) I.kIn J ho hk (λz=>nomatch z) λtk=>⟨.bl b,H,I.tok _,rfl,q⟩
theorem Jfo {K:Frag}(e:X.K=K):J04 X (.builtin "isinstance") (Jex K):=by subst e;exact JbV
end
end L2
namespace L2
open PySem PySem.Spec PyProof.Rows HT
section
variable {prog:Program}{w:World}{A:Around}{E:Value->Shared->Prop}{s:Shared}
theorem J3y {t sl:Addr}{items:Array Value}{vl vu:Value}{lo hi:Option Int}{Q:Value->Shared->Prop}(ht:IsTup s.heap t items)(hs:s.heap.IsSliceOf sl vl vu .none)(pl:IsPart vl lo)(pu:IsPart vu hi)
 (hw:sIx items.size 0 lo=0/\sIx items.size items.size hi=items.size) (h:Q (.ref t) s):wpAny (model prog w) A (getItem (.ref t) (.ref sl)) Q E s:=by
 obtain ⟨os,hos,hcs,hds⟩:=id hs;have hTs:s.TypeIs (.ref sl) "slice":=⟨os,hos,hcs⟩;unfold getItem
 try with_reducible refine wpAny_holding ?_
 first | refine zM (zN ?_) | skip
 refine zM (wpAny_sequenceKey ht.typeIs (by decide) ?_);refine zM (wpAny_callSpecial?_slot (name:=Str.ofString "__getitem__") ht.typeIs PyProof.Rows.slot_tuple_getitem
  (wpAny_call_entry PyProof.Rows.slot_tuple_getitem ht.typeIs entry_tuple_getitem ?_ (args_tuple_getitem _ _)))
 show wpAny _ _ (Builtin.Tuple.tupleItemsOf (.ref t) >>= _) _ _ s;refine zM (tupleItemsOf_ ht ?_);refine zM (wpAny_typeOf hTs ?_);rw [zP (by decide)];refine zM (J29 hs pl pu ?_);show wpAny _ _ (if (((sIx items.size 0 lo:Nat):Int) == 0&&(1:Int) == 1&&(sIx items.size items.size hi - sIx items.size 0 lo) == items.size)=true then _ else _) _ _ s;rw [zP (by rw [hw.1,hw.2];simp)];refine zM ?_;unfold Builtin.Tuple.tupleIsExact;refine zM (wpAny_typeOf ht.typeIs (zN ?_));rw [zP (by decide)];exact zM (wpAny_rule (zN ⟨_,rfl,zN h⟩))
end
section
variable {X:Cx}
def JaC (K:Frag):V->Option Int->Option Int->Hp->VK->Prop:=λx lo hi H Q=>∃ a xs,x=.ref a/\SqT K H a xs /\
 ((HT.sIx xs.length 0 lo=0/\HT.sIx xs.length xs.length hi=xs.length)->Q (.ref a) H)/\(¬ (HT.sIx xs.length 0 lo=0/\HT.sIx xs.length xs.length hi=xs.length)->∀ p,H p=none->Q (.ref p) (upd H p (.tup (J24 xs lo hi))))
theorem JdH:SlR X (JaC X.K):=by
 intro pins s σ H x v vl vu lo hi sl Q I rx hs pl pu h;obtain ⟨a,xs,rfl,hx,q1,q2⟩:=h;by_cases hw:HT.sIx xs.length 0 lo=0/\HT.sIx xs.length xs.length hi=xs.length
 ·cases rx
  obtain ⟨its,r,ht,hz⟩:=I.tuple hx;have hlen:its.toArray.size=xs.length:=by rw [qg];exact r.length.symm
  exact ⟨"tuple",_,PyProof.Rows.slot_tuple_getitem.lookup,ht.typeIs,J3y ht hs pl pu (by rw [hlen];exact hw) ⟨.ref a,H,I,rfl,q1 hw⟩⟩
 ·exact JeS pins s σ H _ v vl vu lo hi sl Q I rx hs pl pu ⟨a,xs,rfl,hx,hw,q2 hw⟩
theorem J85 {K:Frag}(e:X.K=K):SlR X (JaC K):=by subst e;exact JdH
end
end L2
namespace L2
open PySem PySem.Spec PyProof.Rows
def gtV:V->V->Bool
 | .int i,.int j=>decide (j<i)
 | .str a,.str b=>decide (b.cps.toList<a.cps.toList)
 | _,_=>false
section
variable {X:Cx}
def JfO:V->V->Bool
 | .int _,.int _=>true
 | .str _,.str _=>true
 | _,_=>false
def Jcs:R2:=λx y H Q=>JfO x y=true/\Q (.bl (gtV x y)) H
theorem Jf9:OpR X (compareOp .Gt) Jcs:=by
 intro pins s σ H x y v u Q I rx ry h;obtain ⟨hk,h⟩:=h;cases x with
 | int i =>
   cases y with
   | int j=>exact J92 pins s σ H _ _ v u Q I rx ry ⟨i,j,rfl,rfl,h⟩
   | _=>cases hk
 | str a =>
   cases y with
   | str b =>
     obtain ⟨t,rfl⟩:=rx;obtain ⟨t',rfl⟩:=ry;exact P.gt_str (JD I h rfl)
   | _=>cases hk
 | _=>cases y<;>cases hk
end
def Itz (K:Frag)(a b:Addr):It where
 go:=λi H=>∃ xs ys x y,SqL K H a xs/\SqL K H b ys/\xs[i]?=some x/\ys[i]?=some y
 yld:=λi H v H'=>∃ p x y,H p=none/\v=.ref p/\(∀ zs,SqL K H a zs->zs[i]?=some x)/\(∀ zs,SqL K H b zs->zs[i]?=some y)/\H'=upd H p (.tup [x,y])
 stop:=λi H=>∃ xs ys,SqL K H a xs/\SqL K H b ys/\(xs.length<=i\/ys.length<=i)
theorem turn_zip {P:Program}{w:World}{K:Frag}{elts:List Expr}{x1:Nat}{tpos:Pos}(z TI TO i1 i2 a b:Addr)(D:ZipApart z TI TO i1 i2 a b) :
 Turn P w K (.Tuple elts x1 tpos) (Itz K a b) [z,TI,TO,i1,i2] z (λi h=>IsZip h z TI TO .none/\IsPair h TI (.ref i1) (.ref i2)/\(∃ x y,IsPair h TO x y)/\h.IsListIter i1 a i/\h.IsListIter i2 b i) where
 mem:=by simp
 obj:=λi h st c hc=>by
  obtain ⟨h1,h2,⟨x,y,h3⟩,⟨o4,e4,_,d4⟩,⟨o5,e5,_,d5⟩⟩:=st;simp only [qo,not_mem_nil,or_false] at hc;rcases hc with rfl | rfl | rfl | rfl | rfl
  ·exact ⟨_,h1,λv z=>nomatch z⟩
  ·exact ⟨_,h2,λv z=>nomatch z⟩
  ·exact ⟨_,h3,λv z=>nomatch z⟩
  ·exact ⟨_,e4,λv z=>by rw [d4] at z;cases z⟩
  ·exact ⟨_,e5,λv z=>by rw [d5] at z;cases z⟩
 keep:=λi h h' st k=>by
  obtain ⟨h1,h2,⟨x,y,h3⟩,h4,h5⟩:=st;exact ⟨k z (by simp) _ h1,k TI (by simp) _ h2,⟨x,y,k TO (by simp) _ h3⟩,h4.at λo e=>k i1 (by simp) o e,h5.at λo e=>k i2 (by simp) o e⟩
 item:=by
  intro X hP hw hK hc i pins s σ H E I hf st hg;subst hP hw hK;obtain ⟨xs,ys,x,y,hqa,hqb,hx,hy⟩:=hg;obtain ⟨ia,ra,pa,_⟩:=I.list hqa;obtain ⟨ib,rb,pb,_⟩:=I.list hqb;obtain ⟨u,hu,ru⟩:=ra.get hx;obtain ⟨v,hv,rv⟩:=rb.get hy;obtain ⟨h1,h2,⟨ox,oy,h3⟩,h4,h5⟩:=st;have fr:H s.heap.objs.size=none:=I.hok.fresh (zQ _);have pz:s.heap.objs.size≠z:=Nat.ne_of_gt (qH h1);refine wpAny_pyNext_zip_item D h1 h2 h3 h4 h5 pa.isList pb.isList (x:=u) (y:=v) (by simpa using hu) (by simpa using hv) λh' out to' st1 st2 tup sz k=>⟨.ref s.heap.objs.size,rfl,?_⟩;refine wpAny_letOwnedTupleGo_zip (s:={ s with heap:=h' }) out λh'' hz' sb=>?_;have kk:∀ c o,c∉[z,TI,TO,i1,i2]->s.heap.get? c=some o->h''.get? c=some o:=λc o hb e =>
   (sb.2 c (λq=>hb (by simp [q]))).trans (k c o (λq=>hb (by simp [q])) (λq=>hb (by simp [q])) (λq=>hb (by simp [q])) (λq=>hb (by simp [q])) e)
  have kt:h''.get? s.heap.objs.size=some { cls:=.type "tuple",data:=.seq #[u,v] }:=(sb.2 _ pz).trans tup;have nt:∀ c w',H c=some w'->c∉[z,TI,TO,i1,i2]:=λc w' e hb=>by
   rw [(hf c hb).1] at e;cases e
  have np:∀ c w',H c=some w'->c≠s.heap.objs.size:=λc w' e q=>by subst q;rw [fr] at e;cases e
  have up:∀ c w',H c=some w'->upd H s.heap.objs.size (.tup [x,y]) c=some w':=λc w' e=>by rw [Jj (np c w' e)];exact e
  have lts:∀ c∈[z,TI,TO,i1,i2],c<s.heap.objs.size:=λc hc=>by
   obtain ⟨o4,e4,_,_⟩:=h4;obtain ⟨o5,e5,_,_⟩:=h5;simp only [qo,not_mem_nil,or_false] at hc;rcases hc with rfl | rfl | rfl | rfl | rfl
   ·exact qH h1
   ·exact qH h2
   ·exact qH h3
   ·exact qH e4
   ·exact qH e5
  refine ⟨.ref s.heap.objs.size,upd H s.heap.objs.size (.tup [x,y]),?_,rfl,⟨_,x,y,fr,rfl,λzs hz=>by rw [I.list_inj hz hqa];exact hx,λzs hz=>by rw [I.list_inj hz hqb];exact hy,rfl⟩,⟨hz',(sb.2 TI D.TIz).trans (k TI _ D.TIz D.TITO D.TIi1 D.TIi2 h2),⟨u,v,(sb.2 TO D.TOz).trans to'⟩,st1.at λo e=>(sb.2 i1 D.i1z).trans e,st2.at λo e=>(sb.2 i2 D.i2z).trans e⟩,λc hc=>?_⟩
  ·show Inv X pins σ _ { s with heap:=h'',gens:=s.gens,drawn:=s.drawn,toks:=s.toks }
   refine Inv.step (s:=s) (h':=h'') (t':=s.toks) (g':=s.gens) (d':=s.drawn) (ch:=[z,TI,TO,i1,i2]) I (λc hc=>?_) (λc o _ _ hb e _=>kk c o hb e) (λc o _ _ hb e _=>⟨o.slots,kk c o hb e⟩) (λc o _ e n=>by rw [Jj (zV (qH e))];exact n) (λc o hb e=>⟨o,kk c o hb e⟩)
    (λc zs e=>up c _ e) (λc o w' e=>up c _ e) (λc ps e=>⟨#[],by rw [Array.append_empty];exact up c _ e⟩) (λm hm=>?_) (λc w' e=>?_) I.bare
   ·obtain ⟨f0,f1,f2,f3,f4,f5⟩:=hf c hc
    exact ⟨f3,f1,f4,f5⟩
   ·obtain ⟨o,es,ep,ho,r⟩:=hm
    exact ⟨o,es,ep,kk _ o (λhb=>(hf _ hb).2.1 rfl) ho,r⟩
   ·by_cases q:c=s.heap.objs.size
    ·subst q
     rw [Jd] at e;cases e;exact ⟨Jb (Nat.le_of_ble_eq_true rfl),[u,v],.cons ru (.cons rv .nil),_,kt,rfl,_,rfl⟩
    ·rw [Jj q] at e
     refine (I.hok c w' e).stay (λd o hd y=>kk d o ?_ y) (λd y=>up d _ y) λd zs y=>up d _ y;rcases hd with rfl | hd
     ·exact nt _ _ e
     ·exact nt _ _ hd
  ·rw [Jj (zV (lts c hc))]
   exact (hf c hc).1
 done:=by
  intro X hP hw hK hc i pins s σ H E I hf st hg;subst hP hw hK;obtain ⟨xs,ys,hqa,hqb,hx⟩:=hg;obtain ⟨ia,ra,pa,_⟩:=I.list hqa;obtain ⟨ib,rb,pb,_⟩:=I.list hqb;obtain ⟨h1,h2,⟨ox,oy,h3⟩,h4,h5⟩:=st;have la:=ra.length;have lb:=rb.length;refine wpAny_pyNext_zip_end (I.ok.hd hc) D h1 h2 h3 h4 h5 pa.isList pb.isList (by
   rcases hx with hx | hx
   ·left;simp;omega
   ·right;simp;omega) λh' k=>⟨rfl,?_⟩
  have kk:∀ c o,c∉[z,TI,TO,i1,i2]->s.heap.get? c=some o->h'.get? c=some o:=λc o hb e =>
   k c o (λq=>hb (by simp [q])) (λq=>hb (by simp [q])) (λq=>hb (by simp [q])) (λq=>hb (by simp [q])) e
  have nt:∀ c w',H c=some w'->c∉[z,TI,TO,i1,i2]:=λc w' e hb=>by
   rw [(hf c hb).1] at e;cases e
  show Inv X pins σ _ { s with heap:=h',gens:=s.gens,drawn:=s.drawn,toks:=s.toks };refine Inv.step (s:=s) (h':=h') (t':=s.toks) (g':=s.gens) (d':=s.drawn) (ch:=[z,TI,TO,i1,i2]) I (λc hc=>?_) (λc o _ _ hb e _=>kk c o hb e) (λc o _ _ hb e _=>⟨o.slots,kk c o hb e⟩) (λ_ _ _ _ n=>n) (λc o hb e=>⟨o,kk c o hb e⟩)
   (λ_ _ e=>e) (λ_ _ _ e=>e) (λc ps e=>⟨#[],by rw [Array.append_empty];exact e⟩) (λm hm=>?_) (λc w' e=>?_) I.bare
  ·obtain ⟨f0,f1,f2,f3,f4,f5⟩:=hf c hc
   exact ⟨f3,f1,f4,f5⟩
  ·obtain ⟨o,es,ep,ho,r⟩:=hm
   exact ⟨o,es,ep,kk _ o (λhb=>(hf _ hb).2.1 rfl) ho,r⟩
  ·refine (I.hok c w' e).stay (λd o hd y=>kk d o ?_ y) (λd y=>y) λd zs y=>y
   rcases hd with rfl | hd
   ·exact nt _ _ e
   ·exact nt _ _ hd
 self:=λ_ _ _ _ _ st h=>wpAny_pyIter_zip st.1 h
theorem J9u:bootBuiltins "zip"=some (.type "zip"):=by decide +kernel
theorem Jdg {K:Frag}{a b:Addr}{xs ys:List V}{g:TG}{tt:TT}{te:TE}{fin:List V->Hp->Prop}{σ:St}{H:Hp}(hz:xs.length<=sizeLine)(Pv:Nat->List V->St->Hp->Prop)(h0:Pv 0 [] σ H)(hl:∀ i zs σ H,Pv i zs σ H->(SqL K H a xs/\SqL K H b ys)/\zs.length<=i)
 (hs:∀ (i:Nat) x y zs σ H p,xs[i]?=some x->ys[i]?=some y->Pv i zs σ H->H p=none->g (.ref p) σ (upd H p (.tup [x,y])) λσ2 H2=>tt σ2 H2 λb H3=>if b=true then te σ2 H3 λy H4=>Pv (i+1) (zs++[y]) σ2 H4 else Pv (i+1) zs σ2 H3)
 (hd:∀ zs σ H,Pv (min xs.length ys.length) zs σ H->fin zs H):J6r (Itz K a b) g tt te fin σ H:=by
 refine ⟨λi m zs σ H=>m=min xs.length ys.length - i/\i<=min xs.length ys.length/\Pv i zs σ H,⟨_,rfl,zZ _,h0⟩,?_⟩;rintro i m zs σ H ⟨rfl,hi,p⟩;obtain ⟨⟨sa,sb⟩,hy⟩:=hl i zs σ H p;by_cases e:i=min xs.length ys.length
 ·subst e
  exact .inl ⟨⟨xs,ys,sa,sb,by omega⟩,hd zs σ H p⟩
 ·have lt:i<min xs.length ys.length:=Nat.lt_of_le_of_ne hi e
  have lx:i<xs.length:=by omega
  have ly:i<ys.length:=by omega
  refine .inr ⟨⟨xs,ys,xs[i],ys[i],sa,sb,qc lx,qc ly⟩,by omega,Pv (i+1),λzs' σ' H' z=>⟨min xs.length ys.length - (i+1),by omega,rfl,lt,z⟩,λv H' hv=>?_⟩;obtain ⟨q,x',y',hq,rfl,hx,hy,rfl⟩:=hv;exact hs i x' y' zs σ H q (hx xs sa) (hy ys sb) p hq
section
variable {X:Cx}
theorem JfT (K:Frag)(i j:Nat){x y:Str}{p1 p2 pos:Pos}{k:Nat}(hN:X.N.Nodup)(e:X.K=K:=by rfl)(hc:X.calm=true:=by rfl)(hi:X.N[i]?=some x:=by rfl)(hj:X.N[j]?=some y:=by rfl)(hv:X.env.scope.names.lookup x=some .local:=by rfl)(hw:X.env.scope.names.lookup y=some .local:=by rfl)
 (h1:(assignEach [.Name x p1,.Name y p2] X.env).map (·.2)=assign (.Name x p1) X.env::(assignEach [.Name y p2] X.env).map (·.2):=by rfl) (h2:(assignEach [.Name y p2] X.env).map (·.2)=assign (.Name y p2) X.env::(assignEach [] X.env).map (·.2):=by rfl)
 (hn:(assignEach [.Name x p1,.Name y p2] X.env).length=2:=by rfl) (hst:(assignEach [.Name x p1,.Name y p2] X.env).findIdx? (·.1)=none:=by rfl):PG X (.Tuple [.Name x p1,.Name y p2] k pos) (Jel K 2 (J2C (JN i) (J2C (JN j) J6J))) :=
 J77 e hc (J0r (pgl i hN hi hv) (J0r (pgl j hN hj hw) J3h h2) h1) hn hst
end
section
variable {X:Cx}
def JeX (K:Frag)(neg:Bool):R2:=λx y H Q=>∃ d es,Rep K H d x/\Rep K H (.list es) y/\SeqAt.shaped d=true/\SeqAt.shaped (.list es)=true/\Q (.bl (if neg then !es.any (λe=>PyData.eqv e d) else es.any (λe=>PyData.eqv e d))) H
theorem J5P {d:PyData}(h:SeqAt.shaped d=true):d.canLay0=true/\d.depth<=64:=by
 unfold SeqAt.shaped at h;rw [Bool.and_eq_true] at h;exact ⟨h.1,by have:=of_decide_eq_true h.2;omega⟩
theorem Jbp (hu:X.A.units+64<cLine):OpR X (compareOp .NotIn) (JeX X.K true):=by
 intro pins s σ H x y v u Q I rx ry h;obtain ⟨d,es,h1,h2,h3,h4,q⟩:=h;obtain ⟨as,q1⟩:=Rep.reads I d x v h1 rx;obtain ⟨bs,q2⟩:=Rep.reads I _ y u h2 ry;have l1:=J5P h3;have l2:=J5P h4;have l3:PyData.canLayAll0 es=true:=by simpa [PyData.canLay0] using l2.1
 refine SeqAt.notIn_list_reads q2 q1 l3 l1.1 ?_ (JD I q rfl);have:=Nat.min_le_left (PyData.depthAll es) d.depth;have l5:PyData.depthAll es+1<=64:=by simpa [PyData.depth] using l2.2
 omega
theorem JcU {K:Frag}(e:X.K=K)(hu:X.A.units+64<cLine):OpR X (compareOp .NotIn) (JeX K true):=by subst e;exact Jbp hu
theorem J88 {M:Model}{A:Around}{E:Value->Shared->Prop}{s:Shared}{a b:Value}{Q:Value->Shared->Prop}(ha:s.TypeIs a "list")(hb:s.TypeIs b "list")
 (hc:wpAny M A (call (.builtin "list.__iadd__") [a,b]) Q E s):wpAny M A (inplaceOp .Add a b) Q E s:=by
 have hi:typeLookup (.type "list") (dunderI "add")=pure (some (.builtin "list.__iadd__")):=F.slot_list_iadd.lookup;have hq:isSeqSlot (some (.builtin "list.__iadd__"))=true:=by decide +kernel
 unfold inplaceOp;refine wpAny_holding ?_;have hfi:fillsInplaceSlot (.type "list") "add" (Operator.Add == .Add)=pure false:=by
  unfold fillsInplaceSlot;show (typeLookup (.type "list") (dunderI "add") >>= λfi=>pure (fi.isSome&&!isSeqSlot fi))=pure false;rw [hi,pure_bind,hq];rfl
 have hsi:seqSlot? (.type "list") (dunderI "add")=pure (some (.builtin "list.__iadd__")):=PyProof.Rows.seqSlot_of hi hq;refine zM (wpAny_typeOf ha (zM (wpAny_of_eq hfi ?_)));show wpAny M A (if false=true then _ else _) Q E s;rw [zO zR];refine zM (binaryOp1_none (nm:="add") ha hb noFill_list_add ?_);refine zM (wpAny_of_eq hsi ?_);exact zM (wpAny_rule hc)
def J8R:V->V->Hp->VK->Prop:=λx y H Q=>∃ l b xs zs,x=.ref l/\y=.ref b/\H l=some (.lst xs)/\H b=some (.lst zs)/\xs.length+zs.length<=sizeLine/\Q (.ref l) (upd H l (.lst (xs++zs)))
theorem Jef:PIp X .Add J8R:=by
 intro pins s σ H x y v u Q I rx ry h;obtain ⟨l,b,xs,zs,rfl,rfl,hH,hB,hz,q⟩:=h;cases rx;cases ry;obtain ⟨z,its,n,r,hl,e⟩:=I.lstM hH;obtain ⟨z2,its2,n2,r2,hl2,e2⟩:=I.lstM hB;have hsz:its.toArray.size+its2.toArray.size<=sizeLine:=by rw [qg,qg];omega
 have hlong:¬ (!its.toArray.isEmpty&&Builtin.List.listTooLong (its.toArray.size+its2.toArray.size))=true:=by
  rw [JcK hsz,Bool.and_false];exact zR
 refine J88 ⟨_,e,rfl⟩ ⟨_,e2,rfl⟩ (call_meets F.slot_list_iadd ⟨_,e,rfl⟩ F.entry_list_iadd (F.args_list_iadd_2 _ _)
  (AutoSeq1.list___iadd___list_list_0 l its.toArray n b its2.toArray n2 hlong (by rw [qg];omega) (by omega)) ⟨e,e2,?_⟩)
 refine ⟨.ref l,_,I.lset (its':=its++its2) hH e (by simp) (r.append r2) ?_,rfl,q⟩;rw [qj];omega
end
theorem Jao {J:It}{xs:List V}{ok:Hp->Prop}(w:Walk J xs ok){g:TG}{tt:TT}{te:TE}{fin:List V->Hp->Prop}{σ:St}{H:Hp}(hz:xs.length<=sizeLine)(Pv:Nat->List V->St->Hp->Prop)(h0:Pv 0 [] σ H)(hl:∀ i zs σ H,Pv i zs σ H->ok H/\zs.length<=i)
 (hs:∀ (i:Nat) x zs σ H,xs[i]?=some x->Pv i zs σ H->g x σ H λσ2 H2=>tt σ2 H2 λb H3=>if b=true then te σ2 H3 λy H4=>Pv (i+1) (zs++[y]) σ2 H4 else Pv (i+1) zs σ2 H3)
 (hd:∀ zs σ H,Pv xs.length zs σ H->fin zs H):J6r J g tt te fin σ H:=by
 refine ⟨λi m zs σ H=>m=xs.length - i/\i<=xs.length/\Pv i zs σ H,⟨_,rfl,zZ _,h0⟩,?_⟩;rintro i m zs σ H ⟨rfl,hi,p⟩;obtain ⟨q,hy⟩:=hl i zs σ H p;by_cases hlt:i<xs.length
 ·refine .inr ⟨w.go i H q hlt,by omega,Pv (i+1),λzs' σ' H' z=>⟨xs.length - (i+1),by omega,rfl,hlt,z⟩,λx H' y=>?_⟩
  obtain ⟨e,y'⟩:=w.yld i H x H' q hlt y;subst e;exact hs i x zs σ _ y' p
 ·have e:i=xs.length:=by omega
  subst e;exact .inl ⟨w.stop H q,hd zs σ H p⟩
structure ExcM (mg:Str->Option Value)(n:Str)(a:Addr):Prop where
 m:mg n=some (.ref a)
end L2
namespace L2
open PySem PySem.Spec PyProof.Rows PySem.W
section
variable {X:Cx}{pins:List (Addr×Obj)}{σ:St}{H:Hp}{s:Shared}{E:Value->Shared->Prop}
theorem Inv.turnedL {h':Heap}{t':Nat}{ch:List Addr}(I:Inv X pins σ H s)(k:∀ b o,b∉ch->s.heap.get? b=some o->h'.get? b=some o)(f:∀ b∈ch,J37 X pins H b):Inv X pins σ H { s with heap:=h',toks:=t' }:=by
 have nit:∀ b u,H b=some u->b∉ch:=λb u e z=>by rw [(f b z).1] at e;cases e
 refine I.step (g':=s.gens) (d':=s.drawn) (ch:=ch) (λb hb=>?_) (λb o _ _ hc e _=>k b o hc e) (λb o _ _ hc e _=>⟨o.slots,k b o hc e⟩) (λ_ _ _ _ n=>n)
  (λb o hc e=>⟨o,k b o hc e⟩) (λ_ _ e=>e) (λ_ _ _ e=>e) (λb ps e=>⟨#[],by rw [e];simp⟩) (λm hm=>?_) (λb u e=>?_) I.bare
 ·obtain ⟨_,h1,_,h3,h4,h5⟩:=f b hb
  exact ⟨h3,h1,h4,h5⟩
 ·obtain ⟨o,es,ep,ho,r⟩:=hm
  exact ⟨o,es,ep,k _ o (λz=>(f _ z).2.1 rfl) ho,r⟩
 ·refine (I.hok b u e).stay (λc v hc q=>k c v ?_ q) (λ_ q=>q) λ_ _ q=>q
  rcases hc with z | z
  ·rw [z];exact nit b u e
  ·exact nit c _ z
end
theorem J7s {α β:Type}{M:Model}{A:Around}{E:Value->Shared->Prop}{s:Shared}{f:α->Sem β}{b:β}:∀ {l:List α} {Q:List β->Shared->Prop},(∀ x∈l,∀ Q':β->Shared->Prop,Q' b s->wpAny M A (f x) Q' E s)->Q (l.map λ_=>b) s->wpAny M A (l.mapM f) Q E s
 | [],Q,_,h=>by rw [mapM_nil];exact zN h
 | x::l,Q,hf,h=>by
   rw [mapM_cons];refine zM (hf x qm _ ?_);exact zM (J7s (λy hy=>hf y (ql _ hy)) (zN h))
def J4p (h:Heap)(v:Value)(ks:List Ji):Prop:=∃ k items n,v=.ref k/\h.get? k=some (seqObj "list" items n)/\Paired (J4V h) items.toList ks
theorem prV_inj {a b:Ji}{its:List Value}(h1:Vals (prV a) its)(h2:Vals (prV b) its):a=b:=by
 have sec:∀ {x y x' y':V} {its:List Value},Vals [x,y] its->Vals [x',y'] its->∃ u v,RelV x u/\RelV x' u/\RelV y v/\RelV y' v:=by
  intro x y x' y' its r1 r2;cases r1 with
  | cons p1 t1=>cases t1 with
    | cons p2 t2=>cases t2;cases r2 with
      | cons q1 t3=>cases t3 with
        | cons q2 t4=>exact ⟨_,_,p1,q1,p2,q2⟩
 match a,b,h1,h2 with
 | none,none,_,_=>rfl
 | none,some k,h1,h2 =>
   obtain ⟨u,v,p1,p2,_,_⟩:=sec (show Vals [V.int 1,V.int 0] its from h1) (show Vals [V.int 0,kV k] its from h2);obtain ⟨t,rfl⟩:=p1;obtain ⟨t',e⟩:=p2;cases e
 | some k,none,h1,h2 =>
   obtain ⟨u,v,p1,p2,_,_⟩:=sec (show Vals [V.int 0,kV k] its from h1) (show Vals [V.int 1,V.int 0] its from h2);obtain ⟨t,rfl⟩:=p1;obtain ⟨t',e⟩:=p2;cases e
 | some j,some k,h1,h2 =>
   obtain ⟨u,v,_,_,p1,p2⟩:=sec (show Vals [V.int 0,kV j] its from h1) (show Vals [V.int 0,kV k] its from h2);cases j<;>cases k
   ·obtain ⟨t,rfl⟩:=p1;obtain ⟨t',e⟩:=p2;cases e;rfl
   ·obtain ⟨t,rfl⟩:=p1;obtain ⟨t',e⟩:=p2;cases e
   ·obtain ⟨t,rfl⟩:=p1;obtain ⟨t',e⟩:=p2;cases e
   ·obtain ⟨t,rfl⟩:=p1;obtain ⟨t',e⟩:=p2;cases e;rfl
theorem JcA {h:Heap}{u:Value}{a b:Ji}(x:J4V h u a)(y:J4V h u b):a=b:=by
 obtain ⟨p,its,rfl,⟨o,e,_,n,d⟩,r⟩:=x;obtain ⟨q,its2,e0,⟨o2,e2,_,n2,d2⟩,r2⟩:=y;cases e0;rw [e] at e2;cases e2;rw [d] at d2;injection d2 with d3
 have:its=its2:=by simpa using d3
 subst this;exact prV_inj r r2
theorem JaF {h:Heap}:∀ {us:List Value} {as bs:List Ji},Paired (J4V h) us as->Paired (J4V h) us bs->as=bs
 | _,_,_,.nil,.nil=>rfl
 | _,_,_,.cons x t,.cons y t'=>by rw [JcA x y,JaF t t']
theorem JbI {h:Heap}{v:Value}{as bs:List Ji}(x:J4p h v as)(y:J4p h v bs):as=bs:=by
 obtain ⟨k,its,n,rfl,e,r⟩:=x;obtain ⟨k2,its2,n2,e0,e2,r2⟩:=y;cases e0;rw [e] at e2;injection e2 with e3
 injection e3 with _ _ e4 _
 injection e4 with e5 _
 subst e5;exact JaF r r2
open Classical in
def J01 (h:Heap)(v:Value):List Ji:=if x:∃ ks,J4p h v ks then x.choose else []
theorem J4P {h:Heap}{v:Value}{ks:List Ji}(x:J4p h v ks):J01 h v=ks:=by
 unfold J01;rw [dif_pos ⟨ks,x⟩];exact JbI (Classical.choose_spec (⟨ks,x⟩:∃ ks,J4p h v ks)) x
section
variable {prog:Program}{w:World}{A:Around}{E:Value->Shared->Prop}{s:Shared}
def J3v (L:List (List Ji)):Prop:=(∀ a∈L,∀ k∈a,okN k)/\∀ a∈L,∀ b∈L,J76 a b=true
theorem Jgo {L:List (List Ji)}(hu:A.units+3<cLine)(hL:J3v L):Cmp prog w A s oneType' (λv=>∃ ks,J4p s.heap v ks/\ks∈L) (λv=>J1D J1l L (J01 s.heap v)):=by
 rintro E x y Q ⟨as,hx,ha⟩ ⟨bs,hy,hb⟩ h;rw [keyLt'_oneType];have e0:decide (J1D J1l L (J01 s.heap x)<J1D J1l L (J01 s.heap y))=J0R as bs:=by
  simp only [J4P hx,J4P hy];exact JaB (O:=J1l) (l:=L) (a:=as) (b:=bs) ha
 have h0:Q (J0R as bs) s:=by rw [<- e0];exact h
 obtain ⟨k,its,n,rfl,e,r⟩:=hx;obtain ⟨k2,its2,n2,rfl,e2,r2⟩:=hy;exact Ja8 (by omega) e e2 (JaN (show A.units+1+2<cLine by omega) r r2 (hL.1 as ha) (hL.1 bs hb) (hL.2 as ha bs hb)) h0
theorem kind_lists {keys:Array Value}{Q:SortKind->Shared->Prop}(hk:∀ v∈keys.toList,∃ ks,J4p s.heap v ks)(h2:2<=keys.size)(h:Q oneType' s):wpAny (model prog w) A (keyKind' keys) Q E s:=by
 have ty:∀ v∈keys.toList,s.TypeIs v "list":=λv hv=>by
  obtain ⟨ks,k,its,n,rfl,e,_⟩:=hk v hv;exact J3K e
 obtain ⟨l⟩:=keys
 match l,h2,ty with
 | x :: y::l,h2,ty =>
   rw [keyKind'_eq,mapM_toArray];refine zM (zM (J7s (b:=none) (λv hv Q' q=>?_) (zN ?_)))
   ·show wpAny _ _ (typeOf v >>= λt=>if t != .type "tuple" then pure none else _) _ _ _
    refine zM (wpAny_typeOf (ty v hv) ?_);rw [zP (by decide)];exact zN q
   ·rw [zO (by simp),zO (by simp)]
    refine zM ?_;rw [oneTypeOnly'_eq,mapM_toArray];refine zM (zM (J7s (b:=Value.type "list") (λv hv Q' q=>wpAny_typeOf (ty v hv) q) (zN ?_)));have h0:((x::y::l).map λ_=>Value.type "list").toArray[0]?=some (Value.type "list"):=by simp
    rw [h0];have hall:(((x::y::l).map λ_=>Value.type "list").toArray.all λz=>z == Value.type "list")=true:=by
     simp only [all_toArray,all_map,all_eq_true];intro _ _;rfl
    simp only [hall,if_true];exact zN (zN h)
theorem Jgm {a kS:Addr}{vs:List Value}{keys:Array Value}{L:List (List Ji)}{e e1:Nat}{P:PySem.Fin->Shared->Prop}(hu:A.units+3<cLine)(hL:J3v L)(ha:s.heap.get? a=some (seqObj "list" #[] e1))(hk:s.heap.get? kS=some (seqObj "list" keys e))(hka:kS≠a)
 (hi:∀ v∈keys.toList,∃ ks,J4p s.heap v ks/\ks∈L) (hl:keys.size=vs.length) (h1000:vs.length<=63)
 (h:∀ (h':Heap) tk e2 (ps:List (Value×Value)),(∀ b o,b≠a->b≠kS->s.heap.get? b=some o->h'.get? b=some o)->ps.Perm (keys.toList.zip vs)->Up (λv=>J1D J1l L (J01 s.heap v)) ps->h'.get? a=some (seqObj "list" (ps.map (·.2)).toArray e2)->(∃ o,h'.get? kS=some o)->P (.done (.ret .none)) { s with heap:=h',toks:=tk }) :
 wpAny (model prog w) A (ksk_end a false vs.toArray e1 (.ref kS) keys) P E s:=by
 have tail:∀ st:SortSt,failedOf st=none->(arrOf st).toList.Perm (keys.toList.zip vs)->Up (λv=>J1D J1l L (J01 s.heap v)) (arrOf st).toList->wpAny (model prog w) A (ksk_tail a false e1 (.ref kS) st) P E s:=λst hf hp hup=>by
  have s1:=Heap.SameBut.update s.heap kS (Obj.mapSeq λ_=>(#[]:Array Value));have na1:(s.heap.update kS (Obj.mapSeq λ_=>(#[]:Array Value))).get? a=some (seqObj "list" #[] e1):=(s1.2 a hka.symm).trans ha;have nk1:=get?_update_seq hk (λ_=>(#[]:Array Value));have hsz:((arrOf st).map (·.2)).size=vs.length:=by
   rw [Array.size_map,<- qb,hp.length_eq,length_zip,qb,hl,Nat.min_self]
  unfold ksk_tail;dsimp only;refine zM (listUpdate_at hk rfl ?_ (by rw [hl,sizeLine_eq];omega) (zZ _));refine zM (wpAny_letGo ?_);refine zM (seqEpoch_at na1 rfl ?_);refine zM (listUpdate_at na1 rfl ?_ (zZ _) (by simp only [Bool.false_eq_true,if_false];rw [hsz,sizeLine_eq];omega));rw [hf];simp only [bne_self_eq_false,Bool.false_eq_true,if_false];have s2:=Heap.SameBut.update (s.heap.update kS (Obj.mapSeq λ_=>(#[]:Array Value))) a (Obj.mapSeq λ_=>(arrOf st).map (·.2));obtain ⟨e2,he2⟩:∃ e2,((s.heap.update kS (Obj.mapSeq λ_=>(#[]:Array Value))).update a (Obj.mapSeq λ_=>(arrOf st).map (·.2))).get? a=some (seqObj "list" ((arrOf st).map (·.2)) e2):=⟨_,get?_update_seq na1 _⟩;have ea:(((arrOf st).toList.map (·.2)).toArray:Array Value)=(arrOf st).map (·.2):=by apply Array.ext';simp
  exact zN (h _ _ e2 (arrOf st).toList (λb o hb hb2 eb=>(s2.2 b hb).trans ((s1.2 b hb2).trans eb)) hp hup (by rw [ea];exact he2) ⟨_,(s2.2 kS hka).trans nk1⟩)
 have hz:(keys.zip vs.toArray).toList=keys.toList.zip vs:=by simp
 unfold ksk_end;simp only [Bool.false_eq_true,if_false];by_cases h2:vs.toArray.size<2
 ·rw [zP h2,zP h2]
  refine zM (zN ?_);rw [StateT.run_pure];refine zM (zN ?_);dsimp only;refine tail _ rfl (by show (keys.zip vs.toArray).toList.Perm _;rw [hz]) ?_;show Up _ (keys.zip vs.toArray).toList;have hl1:(keys.zip vs.toArray).toList.length<=1:=by rw [hz,length_zip];simp at h2;omega
  generalize (keys.zip vs.toArray).toList=l at hl1
  match l,hl1 with
  | [],_=>exact .nil
  | [x],_=>exact pairwise_singleton _ _
  | _::_::_,hl1=>simp at hl1
 ·rw [zO h2,zO h2]
  refine zM (kind_lists (λv hv=>let ⟨ks,x,_⟩:=hi v hv;⟨ks,x⟩) (by rw [hl];simp at h2;omega) ?_);refine zM (wpAny_mono (tim_small (Jgo hu hL) (h64:=by rw [Array.size_zip,hl];simp;omega) (a₀:=keys.zip vs.toArray) (st:=SortSt.mk' oneType' (keys.zip vs.toArray) #[] 7 none) (Q:=λ_ st'=>failedOf st'=none/\(arrOf st').toList.Perm (keys.toList.zip vs)/\Up (λv=>J1D J1l L (J01 s.heap v)) (arrOf st').toList) (λp hp=>?_) rfl rfl (Array.Perm.refl _) rfl λst' a1 a2 a3=>⟨a2,by rw [<- hz];exact Array.perm_iff_toList_perm.mp a1,a3⟩) ?_ λ_ _ e=>e)
  ·rw [hz] at hp
   exact hi p.1 (of_mem_zip hp).1
  ·rintro ⟨⟨⟩,st'⟩ s' ⟨rfl,hf,hp,hup⟩
   exact tail st' hf hp hup
end
def DictEs (h:Heap)(d:Addr)(es:Array DictEntry)(ep:Nat):Prop:=∃ o,h.get? d=some o/\o.ExactDict/\o.data=.dict es ep
section
variable {prog:Program}{w:World}{A:Around}{E:Value->Shared->Prop}{s:Shared}{d:Addr}{es:Array DictEntry}{ep:Nat}
theorem DictEs.typeIs (x:DictEs s.heap d es ep):s.TypeIs (.ref d) "dict":=let ⟨o,e,c,_⟩:=x;⟨o,e,c.1⟩
theorem Jen {Q:Value->Shared->Prop}(hd:(d == sysModules)=false)(hm:DictEs s.heap d es ep)
 (q:Q (.ref s.heap.objs.size) { s with heap:=s.heap.push { cls:=.type "dict_keyiterator",data:=.fields #[.ref d,.int 0 0,.int es.size 0,.int ep 0] } }):wpAny (model prog w) A (pyIter (.ref d)) Q E s:=by
 obtain ⟨o,g1,g2,g3⟩:=id hm;have ty:=hm.typeIs;refine wpAny_pyIter_slot ty F.slot_dict_iter (wpAny_call_entry F.slot_dict_iter ty F.entry_dict_iter ?_ (F.args_dict_iter_1 _));unfold Builtin.«dict.__iter__»;refine zM ?_;unfold Builtin.Dict.dictSlotNone;refine zM (wpAny_notOrdered_dict ty (zN ?_));show wpAny _ _ (Builtin.Dict.showsAll d >>= _) _ _ s;unfold Builtin.Dict.showsAll;rw [zO (λz=>by rw [hd] at z;cases z)];refine zM (zN (zM (wpAny_dictEntries g1 g3 (zM (wpAny_dictEpoch g1 g3 ?_)))));refine zM (wpAny_newObj_type (zN ⟨_,rfl,"dict_keyiterator",_,⟨_,qG _ rfl,rfl⟩,F.slot_dict_keyiterator_next.lookup,?_⟩));simpa [rawInt] using q
theorem Jem {it:Addr}{i:Nat}{Q:Option Value->Shared->Prop}(t:s.heap.IsKeyIter it d i es.size ep)(hm:DictEs s.heap d es ep)(hi:i<es.size)(en:DictEntry)(hx:es[i]?=some en)
 (q:∀ h',h'.IsKeyIter it d (i+1) es.size ep->Heap.SameBut it s.heap h'->Q (some en.key) { s with heap:=h' }):wpAny (model prog w) A (pyNext (.ref it)) Q E s:=by
 obtain ⟨oi,g1,g2,g3⟩:=id t;obtain ⟨o,f1,f2,f3⟩:=id hm;have ty:=t.typeIs;have sl:=F.slot_dict_keyiterator_next;unfold pyNext;refine zM (wpAny_attempt (wpAny_callSpecial?_slot (name:=Str.ofString "__next__") ty sl (wpAny_call_entry sl ty F.entry_dict_keyiterator_next ?_ (F.args_dict_keyiterator_next_1 _))));refine zM (zN (zM (zM ?_)))
 first | refine zM (wpAny_typeNameOfWhole_keyiter ty (zN ?_)) | refine zM (wpAny_typeNameOf_keyiter ty (zN ?_))
 refine zM (wpAny_fieldsOf g1 g3 ?_);have ow:Builtin.Dict_items.ownsTuple "dict_keyiterator"=false:=by decide
 simp only [ow,Bool.false_eq_true,if_false];show wpAny _ _ (if (Value.ref d == Value.none)=true then _ else _) _ _ s;rw [zO (λz:(Value.ref d == Value.none)=true=>by cases z)];refine zM (zN (zM (wpAny_dictEntries f1 f3 ?_)));rw [zO (by simp)];refine zM (zN (zM (wpAny_dictEpoch f1 f3 ?_)));rw [zO (by simp)];refine zN ?_;have e0:es[i]=en:=zU ((Array.getElem?_eq_getElem hi).symm.trans hx);simp only [show ¬ ((i:Int)<0) from by omega,if_false,Int.toNat_natCast,hx];refine zM ?_
 first | refine zM (wpAny_typeNameOfWhole_keyiter ty (zN ?_)) | refine zM (wpAny_typeNameOf_keyiter ty (zN ?_))
 refine zM (wpAny_isOneOf_keyiter ty ?_);show wpAny _ _ (setField (.ref it) 1 (rawInt ((i:Int)+1)) >>= _) _ _ s;refine zM (wpAny_setField g1 g3 (by simp) ?_);have t2:(s.heap.update it (Obj.mapFields (·.setIfInBounds 1 (rawInt ((i:Int)+1))))).IsKeyIter it d (i+1) es.size ep :=
  ⟨_,Heap.get?_update_self _ g1 (Obj.isFreed_of_fields (Obj.data_mapFields g3 _)),(Obj.cls_mapFields ..).trans g2,by rw [Obj.data_mapFields g3];simp [rawInt]⟩
 refine zM (wpAny_holding (zM (wpAny_isOneOf_keyiter (s:={ s with heap:=s.heap.update it (Obj.mapFields (·.setIfInBounds 1 (rawInt ((i:Int)+1)))) }) t2.typeIs ?_)));show wpAny _ _ (pure en.key) _ _ _;exact zN (zN ⟨_,rfl,zN (q _ t2 (Heap.SameBut.update ..))⟩)
theorem Jfx {it:Addr}{Q:Option Value->Shared->Prop}(hh:A.handled=none)(t:s.heap.IsKeyIter it d es.size es.size ep)(hm:DictEs s.heap d es ep)
 (q:∀ h',Heap.ExtBut it s.heap h'->Q none { s with heap:=h' }):wpAny (model prog w) A (pyNext (.ref it)) Q E s:=by
 obtain ⟨oi,g1,g2,g3⟩:=id t;obtain ⟨o,f1,f2,f3⟩:=id hm;have ty:=t.typeIs;have sl:=F.slot_dict_keyiterator_next;unfold pyNext;refine zM (wpAny_attempt (wpAny_callSpecial?_slot (name:=Str.ofString "__next__") ty sl (wpAny_call_entry sl ty F.entry_dict_keyiterator_next ?_ (F.args_dict_keyiterator_next_1 _))));refine zM (zN (zM (zM ?_)))
 first | refine zM (wpAny_typeNameOfWhole_keyiter ty (zN ?_)) | refine zM (wpAny_typeNameOf_keyiter ty (zN ?_))
 refine zM (wpAny_fieldsOf g1 g3 ?_);have ow:Builtin.Dict_items.ownsTuple "dict_keyiterator"=false:=by decide
 simp only [ow,Bool.false_eq_true,if_false];show wpAny _ _ (if (Value.ref d == Value.none)=true then _ else _) _ _ s;rw [zO (λz:(Value.ref d == Value.none)=true=>by cases z)];refine zM (zN (zM (wpAny_dictEntries f1 f3 ?_)));rw [zO (by simp)];refine zM (zN (zM (wpAny_dictEpoch f1 f3 ?_)));rw [zO (by simp)];refine zN ?_;simp only [show ¬ ((es.size:Int)<0) from by omega,if_false,Int.toNat_natCast,Array.getElem?_eq_none (zQ _)];refine zM ?_
 first | refine zM (wpAny_typeNameOfWhole_keyiter ty (zN ?_)) | refine zM (wpAny_typeNameOf_keyiter ty (zN ?_))
 show wpAny _ _ (setField (.ref it) 0 .none >>= _) _ _ s;refine zM (wpAny_setField g1 g3 (by simp) ?_);show wpAny _ _ (newExc (.type "StopIteration") [] >>= _) _ _ _;refine zM ?_;simp only [newExc,newTuple];refine zM (wpAny_newObj_type ?_ (by size_fits));refine zM (m:=firstArgMember _ _) (wpAny_of_eq (a:=Value.none) (by first | rfl | (simp only [firstArgMember];rfl)) (wpAny_newObj_type ?_ (by size_fits)));simp only [raiseNew];refine zM (wpAny_handled ?_);rw [(hh:A.in1.handled=none)];refine zM (zN ?_);refine wpAny_throw ?_;refine zM (wpAny_isInstance (b:=true) (T:="StopIteration") ⟨_,qG _ rfl,rfl⟩ isSubtype_stop ?_);exact zN (q _ (((Heap.SameBut.update ..).extBut.push _).push _))
theorem DictEs.ext {h h':Heap}{b:Addr}(x:DictEs h d es ep)(k:Heap.ExtBut b h h')(hb:d≠b):DictEs h' d es ep:=let ⟨o,e,r⟩:=x;⟨o,k d o hb e,r⟩
theorem DictEs.at {h h':Heap}(x:DictEs h d es ep)(k:∀ o,h.get? d=some o->h'.get? d=some o):DictEs h' d es ep:=let ⟨o,e,r⟩:=x;⟨o,k o e,r⟩
theorem DictEs.lt {h:Heap}(x:DictEs h d es ep):d<h.objs.size:=let ⟨_,e,_⟩:=x;qH e
theorem es_src (lo:(d == sysModules)=false):KdlSrc prog w "dict" d d es.size (λi v=>∃ en,es[i]?=some en/\v=en.key) (λh=>DictEs h d es ep) where
 type:=λ_ x=>x.typeIs
 there:=λ_ x=>⟨x.lt,x.lt⟩
 keep:=λ_ _ x k=>x.at λo e=>k d (.inl rfl) o e
 notList:=by decide
 notTuple:=by decide
 hint:=λ_ _ _ _ x q=>kdl_hint_dict x.typeIs q
 iter:=λA s hh x=>by
  have hne:d≠s.heap.objs.size:=zV x.lt;refine ⟨_,λi h=>h.IsKeyIter s.heap.objs.size d i es.size ep/\DictEs h d es ep,λ_ _ q=>Jen lo x q,?_,⟨⟨_,qG _ rfl,rfl,rfl⟩,x.at λo e=>qF _ e⟩⟩;exact {
   sub:=λb hb=>qo.mpr (.inl (qf.mp hb))
   frame:=λi h h' st k=>⟨let ⟨o,e,r⟩:=st.1;⟨o,k _ (by simp) o e,r⟩,st.2.at λo e=>k d (by simp) o e⟩
   item:=λi s' Q E hi st q=>by
    refine Jem st.1 st.2 hi es[i] (Array.getElem?_eq_getElem hi) λh' t2 sb=>?_;exact q _ h' s'.toks ⟨_,Array.getElem?_eq_getElem hi,rfl⟩ ⟨t2,st.2.ext sb.extBut hne⟩ λb o hb e=>sb.extBut b o (λz=>hb (by simp [z])) e
   done:=λs' Q E st q=>Jfx hh st.1 st.2 λh' x'=>q h' s'.toks λb o hb e=>x' b o (λz=>hb (by simp [z])) e
   self:=λi s' Q E st q=>wpAny_pyIter_keyiter st.1 q }
end
def Prs (H:Hp)(us:List V)(ks:List Ji):Prop:=Paired (λ(u:V) (k:Ji)=>∃ p,u=.ref p/\H p=some (.tup (prV k))) us ks
theorem Prs.mono {H H':Hp}{us:List V}{ks:List Ji}(s:Same H H')(h:Prs H us ks):Prs H' us ks:=Paired.mapP h λ_ _ ⟨p,e,q⟩=>⟨p,e,s _ _ q⟩
def KeyV (H:Hp)(v:V)(ks:List Ji):Prop:=∃ l us,v=.ref l/\H l=some (.lst us)/\Prs H us ks
theorem KeyV.mono {H H':Hp}{v:V}{ks:List Ji}(s:Same H H')(h:KeyV H v ks):KeyV H' v ks:=let ⟨l,us,e,a,b⟩:=h;⟨l,us,e,s _ _ a,b.mono s⟩
theorem Jcy {P:Program}{w:World}{H:Hp}{h:Heap}(ok:HOk P w H h):∀ {us:List V} {ks:List Ji} {its:List Value},Prs H us ks->Vals us its->Paired (J4V h) its ks
 | _,_,_,.nil,.nil=>.nil
 | _,_,_,.cons ⟨p,e,q⟩ t,.cons r t'=>by
   subst e;refine .cons ?_ (Jcy ok t t');obtain ⟨_,its,rv,tp⟩:=(show ObjOk P w H h p (.tup _) from ok p _ q);exact ⟨p,its,r,tp,rv⟩
theorem KeyV.is {P:Program}{w:World}{H:Hp}{h:Heap}{v:V}{u:Value}{ks:List Ji}(ok:HOk P w H h)(x:KeyV H v ks)(r:RelV v u):J4p h u ks:=by
 obtain ⟨l,us,rfl,e,q⟩:=x;obtain ⟨_,its,n,rv,g⟩:=(show ObjOk P w H h l (.lst us) from ok l _ e);exact ⟨l,its.toArray,n,r,g,by simpa using Jcy ok q rv⟩
section
variable {X:Cx}{pins:List (Addr×Obj)}{σ:St}{s:Shared}{E:Value->Shared->Prop}
def Jdw (X:Cx)(pins:List (Addr×Obj))(σ:St)(H0:Hp)(A:Around)(f:Value)(vs:List Value)(kss:List (List Ji)):Prop :=
 ∀ (i:Nat) v ks,vs[i]?=some v->kss[i]?=some ks->∀ (pl:List (Addr×Obj)) (H:Hp) (s':Shared),Same H0 H->Inv X (pins++pl) σ H s' ->
   wpAny (model X.prog X.w) A (call f [v]) (λu s''=>∃ H' x,Same H H'/\Inv X (pins++pl) σ H' s''/\RelV x u/\KeyV H' x ks) (λ_ _=>False) s'
def KeysV (H:Hp)(us:List Value)(kss:List (List Ji)):Prop:=Paired (λ(u:Value) (ks:List Ji)=>∃ x,RelV x u/\KeyV H x ks) us kss
theorem KeysV.mono {H H':Hp}{us:List Value}{kss:List (List Ji)}(s:Same H H')(h:KeysV H us kss):KeysV H' us kss:=Paired.mapP h λ_ _ ⟨x,r,q⟩=>⟨x,r,q.mono s⟩
theorem restT {A:Around}{f:Value}{a kS:Addr}{vs:List Value}{kss:List (List Ji)}{H:Hp}{e1:Nat}{P:PySem.Fin->Shared->Prop}(hu:A.units+3<cLine)(hL:J3v kss)(I:Inv X pins σ H s)
 (ha:s.heap.get? a=some (seqObj "list" #[] e1)) (hk:s.heap.get? kS=some (seqObj "list" #[] 0)) (hka:kS≠a) (fa:J37 X pins H a) (fk:J37 X pins H kS) (hl:kss.length=vs.length) (h1000:vs.length<=63) (KO:Jdw X pins σ H A f vs kss)
 (h:∀ s' Hn,Same H Hn->Inv X pins σ Hn s'->Hn a=none->Hn kS=none->(∃ o,s'.heap.get? a=some o)->∀ (keys:Array Value),KeysV Hn keys.toList kss->∀ h' tk e2 (ps:List (Value×Value)),(∀ b o,b≠a->b≠kS->s'.heap.get? b=some o->h'.get? b=some o)->(∃ o,h'.get? kS=some o)->ps.Perm (keys.toList.zip vs) ->
  Up (λv=>J1D J1l kss (J01 s'.heap v)) ps->h'.get? a=some (seqObj "list" (ps.map (·.2)).toArray e2)->P (.done (.ret .none)) { s' with heap:=h',toks:=tk }) :
 wpAny (model X.prog X.w) A (ksk_rest a f false vs.toArray e1 (.ref kS)) P E s:=by
 unfold ksk_rest;refine zM (wpAny_rule ?_);rw [forIn_toArray];refine zM (ksk_fold (λi s'=>∃ kA e Hi,Same H Hi/\Inv X pins σ Hi s'/\Hi a=none/\Hi kS=none/\s'.heap.get? a=some (seqObj "list" #[] e1)/\s'.heap.get? kS=some (seqObj "list" kA e)/\KeysV Hi kA.toList (kss.take i)) vs 0 s
  ⟨#[],0,H,Same.refl _,I,fa.1,fk.1,ha,hk,by simpa [KeysV] using Paired.nil⟩ ?step ?done)
 case step =>
  rintro j x s' hx ⟨kA,e,Hi,sm,J,nA,nK,na,nk,hi⟩;simp only [Nat.zero_add] at hi ⊢;have hj:j<vs.length:=(qd.mp hx).1;obtain ⟨ks,hkj⟩:∃ ks,kss[j]?=some ks:=⟨_,qc (by omega)⟩;have hz:kA.size<=vs.length:=by
   have h1:=Paired.length hi;rw [qb,qk] at h1;omega
  have J2:Inv X (pins++[(a,seqObj "list" #[] e1),(kS,seqObj "list" kA e)]) σ Hi s':=J.pins_of λp hp=>by
   rcases qu.mp hp with hp | hp
   ·exact J.pin p (qv _ hp)
   ·rcases qo.mp hp with rfl | hp
    ·exact ⟨na,nA,fa.2.1,fa.2.2.1,λv=>by simp [seqObj]⟩
    ·rw [qf.mp hp]
     exact ⟨nk,nK,fk.2.1,fk.2.2.1,λv=>by simp [seqObj]⟩
  refine zM (wpAny_attempt (wpAny_mono (KO j x ks hx hkj _ Hi s' sm J2) (λu s'' he=>?_) λ_ _ hF=>hF.elim));obtain ⟨H',y,sm2,J3,ry,ky⟩:=he;dsimp only;have p1:=J3.pin (a,seqObj "list" #[] e1) (qv _ (qv _ (.head _)));have p2:=J3.pin (kS,seqObj "list" kA e) (qv _ (qv _ (.tail _ (.head _))));have na3:=p1.1;have nk3:=p2.1;have J4:Inv X pins σ H' s'':=J3.unpinned;have s1:=Heap.SameBut.update s''.heap kS (Obj.mapSeq (·.push u));obtain ⟨c2,hc2⟩:∃ c2,(s''.heap.update kS (Obj.mapSeq (·.push u))).get? kS=some (seqObj "list" (kA.push u) c2):=⟨_,get?_update_seq nk3 (·.push u)⟩;have ek:kss.take (j+1)=kss.take j++[ks]:=by rw [take_add_one,hkj];simp
  have ea:(kA.push u).toList=kA.toList++[u]:=by simp
  refine zM (listUpdate_at nk3 rfl ?_ (by rw [sizeLine_eq];omega) (z9 (Nat.le_of_eq (Array.size_push ..)) (by rw [sizeLine_eq];omega)));have kp:∀ b o,b≠kS->s''.heap.get? b=some o->(s''.heap.update kS (Obj.mapSeq (·.push u))).get? b=some o:=λb o hb eb=>(s1.2 b hb).trans eb;exact zN ⟨rfl,kA.push u,c2,H',sm.trans sm2,J4.turned (t':=s''.toks) kp p2.2.1 fk.2.1 fk.2.2.2.1 fk.2.2.2.2.1 fk.2.2.2.2.2,p1.2.1,p2.2.1,kp _ _ hka.symm na3,hc2,by rw [ea,ek];exact Paired.snoc (hi.mono sm2) ⟨y,ry,ky⟩⟩
 case done =>
  rintro s' ⟨kA,e,Hi,sm,J,nA,nK,na,nk,hi⟩;have e3:kss.take (0+vs.length)=kss:=take_of_length_le (by omega);rw [e3] at hi;have hsz:kA.size=vs.length:=by
   have h1:=Paired.length hi;rw [qb] at h1;omega
  refine zM (listItems_at nk rfl ?_);refine Jgm hu hL na nk hka (λv hv=>?_) hsz h1000 λh' tk e2 ps kp pp up ga gk=>h s' Hi sm J nA nK ⟨_,na⟩ kA hi h' tk e2 ps kp gk pp up ga;obtain ⟨i,hiv⟩:=qx.mp hv;have hil:=(qd.mp hiv).1;have hlk:kA.toList.length=kss.length:=Paired.length hi;obtain ⟨ks,hks⟩:∃ ks,kss[i]?=some ks:=⟨_,qc (by omega)⟩;have gp:∀ {us:List Value} {ls:List (List Ji)} (n:Nat) {u:Value} {k:List Ji},KeysV Hi us ls->us[n]?=some u->ls[n]?=some k->∃ x,RelV x u/\KeyV Hi x k:=by
   intro us ls n
   induction n generalizing us ls with
   | zero =>
     intro u k q h1 h2;cases q with
     | nil=>cases h1
     | cons r t=>cases h1;cases h2;exact r
   | succ n ih =>
     intro u k q h1 h2;cases q with
     | nil=>cases h1
     | cons r t=>exact ih t (by simpa using h1) (by simpa using h2)
  obtain ⟨x,rx,kx⟩:=gp i hi hiv hks;exact ⟨ks,kx.is J.hok rx,qi hks⟩
end
def TupsV (H:Hp)(ts:List V)(kss:List (List Ji)):Prop:=Paired (λ(x:V) (ks:List Ji)=>∃ b,x=.ref b/\H b=some (.tup (ks.map nV))) ts kss
theorem TupsV.mono {H H':Hp}{ts:List V}{kss:List (List Ji)}(s:Same H H')(h:TupsV H ts kss):TupsV H' ts kss:=Paired.mapP h λ_ _ ⟨b,e,q⟩=>⟨b,e,s _ _ q⟩
def Jco:Value->V
 | .ref b=>.ref b
 | _=>.non
section
variable {X:Cx}{pins:List (Addr×Obj)}{σ:St}{H:Hp}{s:Shared}{E:Value->Shared->Prop}
theorem sorted_dT {d q:Addr}{kvs:List (List Ji×V)}{Q:VK}(I:Inv X pins σ H s)(hex:X.ex=[])(hc:X.calm=true)(hu:X.A.units+8<cLine)(hd:H d=some (.dT kvs))(h1000:kvs.length<=63)(hL:J3v (kvs.map (·.1)))
 (KO:∀ vs,vs.length=kvs.length->(∀ (i:Nat) v ks,vs[i]?=some v->(kvs.map (·.1))[i]?=some ks->∃ b,v=.ref b/\H b=some (.tup (ks.map nV)))->Jdw X pins σ H X.A.in1.in1 (.ref q) vs (kvs.map (·.1)))
 (hQ:∀ Hn D ts kss,Same H Hn->Hn D=none->TupsV Hn ts kss->kss.Perm (kvs.map (·.1))->kss.Pairwise (λa b=>J0R a b=true)->Q (.ref D) (upd Hn D (.lst ts))) :
 wpAny (model X.prog X.w) X.A (call (.builtin "sorted") [.ref d] [(Str.ofString "key",.ref q)]) (EP X pins σ Q) E s:=by
 obtain ⟨_,lo,xs,kt,o,es,ep,g1,g2,g3,g4,_,nd⟩:=JaS I.hok hd;have hxl:xs.length=kvs.length:=kt.length.symm;have hel:es.size=kvs.length:=by rw [<- qb,g4,qe,hxl]
 have nd':(kvs.map (·.1)).Nodup:=by
  have e:kvs.map (·.1)=xs.map (·.1):=by
   have all:∀ {l:List (List Ji×V)} {m:List (List Ji×Addr×Value)},KT H l m->l.map (·.1)=m.map (·.1):=by
    intro l m z
    induction z with
    | nil=>rfl
    | cons z _ ih=>simp only [qp,ih,z.1]
   exact all kt
  rw [e];exact nd
 refine call_function_entry_kw kind_sorted plain_sorted entry_sorted (ksk_s1 _ _) ?_;unfold Builtin.«sorted»;refine zM (m:=checkCount "sorted" 1 1 _) (zN ?_);refine zM (J57 (es_src (es:=es) (ep:=ep) lo) (I.ok.hd hc) ⟨o,g1,g2,g3⟩ (by rw [hel,sizeLine_eq];omega) λh1 tk acc hk hsz hacc=>?_);have hvl:acc.toList.length=kvs.length:=by rw [qb,hacc.1,hel]
 have hvs:∀ (i:Nat) v ks,acc.toList[i]?=some v->(kvs.map (·.1))[i]?=some ks->∃ b,v=.ref b/\H b=some (.tup (ks.map nV)):=by
  intro i v ks hv hks;obtain ⟨en,he,rfl⟩:=hacc.2 i v (by rw [<- Array.getElem?_toList];exact hv);rw [entry_at g4] at he;obtain ⟨x,hx,rfl⟩:=Option.map_eq_some_iff.mp he;have all:∀ {l:List (List Ji×V)} {m:List (List Ji×Addr×Value)} (i:Nat) {x:List Ji×Addr×Value} {ks:List Ji},KT H l m->m[i]?=some x->(l.map (·.1))[i]?=some ks->H x.2.1=some (.tup (ks.map nV)):=by
   intro l m i
   induction i generalizing l m with
   | zero =>
     intro x ks z h1 h2;cases z with
     | nil=>cases h1
     | cons z _=>cases h1;cases h2;exact z.2.1
   | succ i ih =>
     intro x ks z h1 h2;cases z with
     | nil=>cases h1
     | cons z t=>exact ih t (by simpa using h1) (by simpa using h2)
  exact ⟨x.2.1,rfl,all i kt hx hks⟩
 generalize acc.toList=vs at *;refine zM (wpAny_newList ?_ (hsz:=by rw [sizeLine_eq];omega));have hoL:(h1.push (seqObj "list" vs.toArray 0)).get? h1.objs.size=some (seqObj "list" vs.toArray 0):=qG _ rfl;have hsL:(h1.push (seqObj "list" vs.toArray 0)).objs.size=h1.objs.size+1:=Heap.size_push ..;have kL:∀ b o,s.heap.get? b=some o->(h1.push (seqObj "list" vs.toArray 0)).get? b=some o:=λb o e=>qF _ (hk b o e);show wpAny _ _ _ _ _ { s with heap:=h1.push (seqObj "list" vs.toArray 0),toks:=tk };generalize h1.push (seqObj "list" vs.toArray 0)=h2 at *;have haz:s.heap.objs.size<=h1.objs.size:=Nat.le_of_lt hsz;refine zM (wpAny_holding (wpAny_call_entry_kw slot_list_sort ⟨_,hoL,rfl⟩ entry_list_sort ?body (ksk_l1 _ _)))
 case body =>
  show wpAny (model X.prog X.w) X.A.in1.in1 (Builtin.«list.sort» ⟨[.ref h1.objs.size],[(Str.ofString "key",.ref q)]⟩) _ _ _;rw [ksk_t1];unfold ksk_tree;refine zM (listItems_at hoL rfl ?_);refine zM (listUpdate_at hoL rfl ?_ (by rw [qg,sizeLine_eq];omega) (zZ _));obtain ⟨e1,ho1⟩:∃ e1,(h2.update h1.objs.size (Obj.mapSeq λ_=>(#[]:Array Value))).get? h1.objs.size=some (seqObj "list" #[] e1):=⟨_,get?_update_seq hoL λ_=>#[]⟩;have s3:(h2.update h1.objs.size (Obj.mapSeq λ_=>(#[]:Array Value))).objs.size=h1.objs.size+1:=by rw [Heap.size_update,hsL]
  have k3:∀ b o,s.heap.get? b=some o->(h2.update h1.objs.size (Obj.mapSeq λ_=>(#[]:Array Value))).get? b=some o:=λb o e=>(qI _ _ (Nat.ne_of_gt (zY (qH e) haz))).trans (kL b o e);refine zM (seqEpoch_at ho1 rfl ?_);generalize h2.update h1.objs.size (Obj.mapSeq λ_=>(#[]:Array Value))=h3 at *;refine zM (wpAny_newTuple ?_ (by show vs.length<=_;rw [sizeLine_eq];omega));have ho4:(h3.push (seqObj "tuple" vs.toArray 0)).get? h1.objs.size=some (seqObj "list" #[] e1):=qF _ ho1;have s4:(h3.push (seqObj "tuple" vs.toArray 0)).objs.size=h1.objs.size+2:=by rw [Heap.size_push,s3]
  have k4:∀ b o,s.heap.get? b=some o->(h3.push (seqObj "tuple" vs.toArray 0)).get? b=some o:=λb o e=>qF _ (k3 b o e);show wpAny _ _ _ _ _ { s with heap:=h3.push (seqObj "tuple" vs.toArray 0),toks:=tk };generalize h3.push (seqObj "tuple" vs.toArray 0)=h4 at *;refine zM (wpAny_newList ?_ (zZ _));have hoK:(h4.push (seqObj "list" #[] 0)).get? h4.objs.size=some (seqObj "list" #[] 0):=qG _ rfl;have ho5:(h4.push (seqObj "list" #[] 0)).get? h1.objs.size=some (seqObj "list" #[] e1):=qF _ ho4;have k5:∀ b o,s.heap.get? b=some o->(h4.push (seqObj "list" #[] 0)).get? b=some o:=λb o e=>qF _ (k4 b o e);show wpAny _ _ _ _ _ { s with heap:=h4.push (seqObj "list" #[] 0),toks:=tk };generalize h4.push (seqObj "list" #[] 0)=h5 at *;refine wpAny_holding ?_;have hkz2:s.heap.objs.size<=h4.objs.size:=by rw [s4];omega
  have fa:J37 X pins H h1.objs.size:=I.fpOk haz (I.hok.fresh haz);have fk:J37 X pins H h4.objs.size:=I.fpOk hkz2 (I.hok.fresh hkz2);have I5:Inv X pins σ H { s with heap:=h5,toks:=tk }:=I.kept k5;have hka:h4.objs.size≠h1.objs.size:=by rw [s4];exact Nat.ne_of_gt (Nat.lt_add_of_pos_right (by decide))
  refine restT (s:={ s with heap:=h5,toks:=tk }) (show X.A.units+1+1+3<cLine by omega) hL I5 ho5 hoK hka fa fk (by rw [qe,hvl]) (by omega) (KO vs hvl hvs) λs' Hn sm J nA nK _ keys kv h' tk' e2 ps kp _ pp up ga=>⟨_,rfl,?_⟩;have J2:Inv X pins σ Hn { s' with heap:=h',toks:=tk' }:=J.turnedL (ch:=[h1.objs.size,h4.objs.size]) (λb o hb e=>by
   simp only [qo,not_mem_nil,or_false,not_or] at hb;exact kp b o hb.1 hb.2 e) λb hb=>by
   rcases qo.mp hb with rfl | hb
   ·exact ⟨nA,fa.2⟩
   ·rw [qf.mp hb];exact ⟨nK,fk.2⟩
  have hln:s.heap.get? h1.objs.size=none:=Heap.get?_none_of_le haz;have hlk:keys.toList.length=(kvs.map (·.1)).length:=Paired.length kv;have at_:∀ (i:Nat) p,(keys.toList.zip vs)[i]?=some p->∃ ks b,(kvs.map (·.1))[i]?=some ks/\J01 s'.heap p.1=ks/\p.2=.ref b/\Hn b=some (.tup (ks.map nV)):=by
   intro i p hp;rw [List.getElem?_zip_eq_some] at hp;have hil:=(qd.mp hp.1).1;obtain ⟨ks,hks⟩:∃ ks,(kvs.map (·.1))[i]?=some ks:=⟨_,qc (by omega)⟩;have gp:∀ {us:List Value} {ls:List (List Ji)} (n:Nat) {u:Value} {k:List Ji},KeysV Hn us ls->us[n]?=some u->ls[n]?=some k->∃ x,RelV x u/\KeyV Hn x k:=by
    intro us ls n
    induction n generalizing us ls with
    | zero =>
      intro u k q h1 h2;cases q with
      | nil=>cases h1
      | cons r t=>cases h1;cases h2;exact r
    | succ n ih =>
      intro u k q h1 h2;cases q with
      | nil=>cases h1
      | cons r t=>exact ih t (by simpa using h1) (by simpa using h2)
   obtain ⟨x,rx,kx⟩:=gp i kv hp.1 hks;obtain ⟨b,eb,hb⟩:=hvs i p.2 ks hp.2 hks;exact ⟨ks,b,hks,J4P (kx.is J.hok rx),eb,sm _ _ hb⟩
  have mem_:∀ p∈ps,∃ b,p.2=.ref b/\Hn b=some (.tup ((J01 s'.heap p.1).map nV))/\J01 s'.heap p.1∈kvs.map (·.1):=λp hp=>by
   obtain ⟨i,hi⟩:=qx.mp (pp.mem_iff.mp hp);obtain ⟨ks,b,h1,h2,h3,h4⟩:=at_ i p hi;exact ⟨b,h3,by rw [h2];exact h4,by rw [h2];exact qi h1⟩
  have hperm:(ps.map λp=>J01 s'.heap p.1).Perm (kvs.map (·.1)):=by
   have e:(keys.toList.zip vs).map (λp=>J01 s'.heap p.1)=kvs.map (·.1):=by
    have hzl:(keys.toList.zip vs).length=kvs.length:=by rw [length_zip,hlk,qe,hvl,Nat.min_self]
    apply ext_getElem?;intro i;rw [qq];by_cases hi:i<(keys.toList.zip vs).length
    ·obtain ⟨ks,b,h1,h2,_,_⟩:=at_ i _ (qc hi)
     rw [qc hi,h1,Option.map_some,h2]
    ·rw [List.getElem?_eq_none (by omega),List.getElem?_eq_none (by rw [qe];omega)];rfl
   rw [<- e];exact pp.map _
  have hpw:(ps.map λp=>J01 s'.heap p.1).Pairwise (λa b=>J0R a b=true):=by
   have hnd:(ps.map λp=>J01 s'.heap p.1).Nodup:=hperm.nodup_iff.mpr nd';rw [pairwise_map];have hnd2:ps.Pairwise λx y=>J01 s'.heap x.1≠J01 s'.heap y.1:=by
    have:=hnd;unfold List.Nodup at this;rwa [pairwise_map] at this
   refine List.Pairwise.imp_of_mem (λ{x y} hx hy hxy=>?_) (hnd2.and up);have h1:=JdS (O:=J1l) (l:=kvs.map (·.1)) (a:=J01 s'.heap x.1) (b:=J01 s'.heap y.1) (mem_ y hy).choose_spec.2.2 hxy.2;have h1:J0R (J01 s'.heap y.1) (J01 s'.heap x.1)=false:=h1;cases h2:J0R (J01 s'.heap x.1) (J01 s'.heap y.1) with
   | true=>rfl
   | false=>exact absurd (J2y _ _ h2 h1) hxy.1
  have tups:∀ l:List (Value×Value),(∀ p∈l,p∈ps)->TupsV Hn (l.map λp=>Jco p.2) (l.map λp=>J01 s'.heap p.1)/\Vals (l.map λp=>Jco p.2) (l.map (·.2)):=by
   intro l
   induction l with
   | nil=>intro _;exact ⟨.nil,.nil⟩
   | cons p l ih =>
     intro hp;obtain ⟨i1,i2⟩:=ih λz hz=>hp z (ql _ hz);obtain ⟨b,e,hb,_⟩:=mem_ p (hp p qm);refine ⟨.cons ⟨b,by show Jco p.2=_;rw [e];rfl,hb⟩ i1,.cons ?_ i2⟩;show RelV (Jco p.2) p.2;rw [e];rfl
  obtain ⟨t1,t2⟩:=tups ps λ_ z=>z;have hpl:ps.length<=63:=by rw [pp.length_eq,length_zip,hvl];omega
  refine zN ⟨_,rfl,.ref h1.objs.size,upd Hn h1.objs.size (.lst (ps.map λp=>Jco p.2)),J2.hold (I.cov hex) hln nA ?_,rfl,hQ _ _ _ _ sm nA t1 hperm hpw⟩;exact ⟨by rw [qe,sizeLine_eq];omega,ps.map (·.2),e2,t2,ga⟩
end
def J2I (tk tv:TE):TE:=λσ H Q=>∀ p,H p=none->tk σ (upd H p (.dT [])) λx H1=>tv σ H1 λy H2=>H2 p=some (.dT [])/\∃ b,∃ ks:List Ji,x=.ref b/\H2 b=some (.tup (ks.map nV))/\Q (.ref p) (upd H2 p (.dT [(ks,y)]))
def JeH (p:Addr)(Q:VK):List (V×V)->Hp->Prop
 | [(x,y)],H2=>H2 p=some (.dT [])/\∃ b,∃ ks:List Ji,x=.ref b/\H2 b=some (.tup (ks.map nV))/\Q (.ref p) (upd H2 p (.dT [(ks,y)]))
 | _,_=>False
section
variable {X:Cx}{pos:Pos}
theorem Jb7 {pins:List (Addr×Obj)}{σ:St}{H2:Hp}{s2:Shared}{E:Value->Shared->Prop}{p b:Addr}{ks:List Ji}{y:V}{u2:Value}{Q:VK}(hu:X.A.units+1<cLine)(I2:Inv X pins σ H2 s2)(e:H2 p=some (.dT []))(eb:H2 b=some (.tup (ks.map nV)))(r2:RelV y u2)(q2:Q (.ref p) (upd H2 p (.dT [(ks,y)]))) :
 wpAny (model X.prog X.w) X.A (storeAll p [(.ref b,u2)]) (λ_ s3=>EP X pins σ Q (.ref p) s3) E s2:=by
 obtain ⟨z,hd,xs,rel,dd⟩:=JaS I2.hok e;cases rel;unfold storeAll;rw [forIn_cons];refine zM (zM ?_);refine wpAny_dictSet_heap (hsz:=zZ _) (show X.A.units<cLine by omega) (J32 I2.hok eb) dd λh' dd' hs=>?_;refine zN ?_;dsimp only;rw [forIn_nil];refine zN ?_;obtain ⟨q,es,ep,hq,h2,h3,h4,_,h5⟩:=dd';have kt:KT H2 (JS [] ks y) (storedH [] ks b u2):=KT.put .nil ks eb r2;refine ⟨.ref p,upd H2 p (.dT [(ks,y)]),?_,rfl,q2⟩;have hsz:(JS ([]:List (List Ji×V)) ks y).length<=sizeLine:=by rw [sizeLine_eq];show 1<=_;omega
 refine J3t (ob:=.dT (JS [] ks y)) I2 (by rw [e];exact True.intro) hs ⟨q,hq⟩ ⟨hsz,hd,_,kt.keeps λc ys ec=>?_,q,es,ep,hq,h2,h3,h4,h5⟩;rw [Jj (J0S ec e (λz=>nomatch z))];exact ec
theorem J15 {k v:Expr}{tk tv:TE}(hu:X.A.units+1<cLine)(hk:PE X k tk)(hv:PE X v tv):PE X (.Dict [some k] [v] pos) (J2I tk tv):=by
 intro pins s σ H Q I q;have hn:=I.hok.fresh (zQ s.heap.objs.size);have I1:=I.laid (a:=s.heap.objs.size) (o:=.dT []) (h':=s.heap.push { cls:=.type "dict",data:=.dict #[] }) (t':=s.toks) (λ_ _ q=>qF _ q) (zQ _) (Jd9 s.heap I.big);refine wpAny_Dict_any rfl rfl (by simp) (by simp) ?_;have q1:J2G [(tk,tv)] σ (upd H s.heap.objs.size (.dT [])) (JeH s.heap.objs.size Q):=q _ hn;have pp:=(J09 (pos:=pos) hk hv J2u) pins _ σ _ (JeH s.heap.objs.size Q) I1 q1;refine thn pp λws s2 ⟨ps,H2,I2,rel,h⟩=>?_;cases rel with
 | nil=>exact qa h
 | @cons x1 u1 xr ur r t =>
   cases t with
   | cons r3 t3=>exact qa h
   | nil =>
     obtain ⟨x,y⟩:=x1;obtain ⟨u,u2⟩:=u1;obtain ⟨r1,r2⟩:=r;obtain ⟨e,b,ks,ex,eb,q2⟩:=(show H2 s.heap.objs.size=some (.dT [])/\∃ b,∃ ks:List Ji,x=.ref b/\H2 b=some (.tup (ks.map nV))/\Q (.ref s.heap.objs.size) (upd H2 s.heap.objs.size (.dT [(ks,y)])) from h);have r1:RelV x u:=r1;have r2:RelV y u2:=r2;subst ex;cases (show u=Value.ref b from r1);exact Jb7 hu I2 e eb r2 q2
theorem JdR {pins:List (Addr×Obj)}{σ:St}{H:Hp}{s:Shared}{Q:VK}{us:List Value}{vs:List V}{k:Nat}{f:Addr}{fd:FuncData}{ps:List Str}{sp:Sp}(F:FnOk X.prog X.w X.K X.mg X.base CX0 k f fd ps sp)(hr:Room (k+2) X.A)(hb:Binds X.K fd ps [])
 (I:Inv X pins σ H s) (r:Vals vs us) (h:sp vs H Q E0):wpAny (model X.prog X.w) X.A.in1.in1 (call (.ref f) us) (EP X pins σ Q) (λ_ _=>False) s:=by
 have hl:(us++([]:List Value)).length=ps.length:=by rw [append_nil,<- r.length];exact F.len _ _ _ _ h
 have bd:=hb s us I.kIn hl;rw [append_nil] at bd;refine wpAny_call (codeAny_mono (F.run X.A.in1.in1 X.stack s H ⟨us,[]⟩ us vs Q E0 hr.in1.in1 I.env0.in1.in1 bd r h) λrr s' hq=>?_)
 match rr,hq with
 | .error e,hq=>exact hq.elim
 | .ok (.ret u),hq=>exact I.after hq
 | .ok .next,hq=>exact qa hq
 | .ok .brk,hq=>exact qa hq
 | .ok .cont,hq=>exact qa hq
def J5C (sp:Sp)(ta:TA):TE:=λσ H Q=>ta σ H λvs H1=>∃ d kvs,vs=[V.ref d]/\H1 d=some (.dT kvs)/\kvs.length<=63/\J3v (kvs.map (·.1)) /\
 (∀ ks∈kvs.map (·.1),∀ H2 b,Same H1 H2->H2 b=some (.tup (ks.map nV))->sp [.ref b] H2 (λv H3=>Same H2 H3/\KeyV H3 v ks) E0) /\
 ∀ Hn D ts kss,Same H1 Hn->Hn D=none->TupsV Hn ts kss->kss.Perm (kvs.map (·.1))->kss.Pairwise (λa b=>J0R a b=true)->Q (.ref D) (upd Hn D (.lst ts))
theorem J8Z {a:Expr}{ta:TA}{p pos kp np:Pos}{y:Str}{k:Nat}{f:Addr}{fd:FuncData}{ps:List Str}{sp:Sp}(F:FnOk X.prog X.w X.K X.mg X.base CX0 k f fd ps sp)(hr:Room (k+2) X.A)(hb:Binds X.K fd ps [])(hmy:X.mg y=some (.ref f))(hgy:Gl X y)(hdy:(y == ("__debug__":Str))=false)
 (hc:X.calm=true) (hex:X.ex=[]) (hg:Gl X "sorted") (hm:X.mg "sorted"=none) (hn:JB a=true) (ha:PA X [a] ta) :
 PE X (.Call (.Name "sorted" p) [a] [⟨some "key",.Name y np,kp⟩] pos) (J5C sp ta):=by
 intro pins s σ H Q I h;refine wpAny_Call_Name_kw (J23 I hg hm (show bootBuiltins "sorted"=some (.builtin "sorted") from rfl) ?_);refine PyProof.Rows.callWith_kw (thn (ha pos pins s σ H _ I h) λus s1 ⟨vs,H1,I1,r1,q1⟩=>?_) (by rw [JG hn];rfl) (by rw [JG hn];rfl);obtain ⟨d,kvs,rfl,hd,h1000,hL,hk,hq⟩:=q1;obtain ⟨u1,rfl,ru⟩:=J0N r1;cases (show u1=Value.ref d from ru);refine thn ((JdZ (J8Y hmy hgy hdy) Jf1) pos pins s1 σ H1 (λzs H2=>zs=[V.ref f]/\H2=H1) I1 ⟨rfl,rfl⟩) λws s2 ⟨zs,H2,I2,rz,ez,eH⟩=>?_;subst ez;subst eH;obtain ⟨w',rfl,rw'⟩:=J0N rz;cases (show w'=Value.ref f from rw');refine sorted_dT I2 hex hc (by have:=hr.un;omega) hd h1000 hL (λvs hvl hvs i v ks hv hks pl Hi s' sm J=>?_) hq;obtain ⟨b,rfl,hb2⟩:=hvs i v ks hv hks;exact thn (JdR (vs:=[.ref b]) F hr hb J (.cons rfl .nil) (hk ks (qi hks) Hi b sm (sm _ _ hb2))) λu s3 ⟨x,H3,J3,rx,sm3,kx⟩=>⟨H3,x,sm3,J3,rx,kx⟩
end
end L2
namespace L2
open PySem PySem.Spec PyProof.Rows
section
variable {prog:Program}{w:World}{K:Type}[DecidableEq K](knd:PySem.KeyKind prog w K)
inductive ItemsT (h:Heap):List (List K)->List Value->Prop
 | nil:ItemsT h [] []
 | cons {ks:List K} {b:Addr} {kss:List (List K)} {vs:List Value}:IsTupleKey knd h ks b->ItemsT h kss vs->ItemsT h (ks::kss) (.ref b::vs)
def IsNest (h:Heap)(kss:List (List K))(a:Addr):Prop:=∃ ob its m,h.get? a=some ob/\ob.cls=.type "tuple"/\ob.data=.seq its m/\ItemsT knd h kss its.toList
variable {knd}
theorem ItemsT.inj {h:Heap}{x y:List (List K)}{vs:List Value}(hx:ItemsT knd h x vs)(hy:ItemsT knd h y vs):x=y:=by
 induction hx generalizing y with
 | nil=>cases hy;rfl
 | cons k1 _ ih =>
   cases hy with
   | cons k2 t2=>rw [k1.inj k2,ih t2]
theorem IsNest.ty {s:Shared}{kss:List (List K)}{a:Addr}(x:IsNest knd s.heap kss a):s.TypeIs (.ref a) "tuple":=by
 obtain ⟨ob,_,_,e,c,_⟩:=x;exact ⟨ob,e,c⟩
theorem IsNest.inj {h:Heap}{a:Addr}{x y:List (List K)}(hx:IsNest knd h x a)(hy:IsNest knd h y a):x=y:=by
 obtain ⟨o1,i1,m1,e1,_,d1,t1⟩:=hx;obtain ⟨o2,i2,m2,e2,_,d2,t2⟩:=hy;rw [e1] at e2;cases e2;rw [d1] at d2;cases d2;exact t1.inj t2
theorem ItemsT.keeps {h h':Heap}{d:Addr}{o:Obj}{es ep}(ho:h.get? d=some o)(hd:o.data=.dict es ep)(hs:Heap.SameBut d h h'){kss:List (List K)}{vs:List Value}(x:ItemsT knd h kss vs):ItemsT knd h' kss vs:=by
 induction x with
 | nil=>exact .nil
 | cons k _ ih=>exact .cons (k.keeps ho hd hs) ih
theorem IsNest.keeps {h h':Heap}{kss:List (List K)}{a d:Addr}{o:Obj}{es ep}(x:IsNest knd h kss a)(ho:h.get? d=some o)(hd:o.data=.dict es ep)(hs:Heap.SameBut d h h'):IsNest knd h' kss a:=by
 obtain ⟨ob,its,m,e,c,dd,t⟩:=x;have ne:a≠d:=λz=>by
  subst z;rw [e] at ho;cases ho;rw [dd] at hd;cases hd
 exact ⟨ob,its,m,(hs.2 a ne).trans e,c,dd,t.keeps ho hd hs⟩
def J6b (knd:PySem.KeyKind prog w K)(kss:List (List K)):Int:=reduceHash (Builtin.Tuple.tupleHashOf (kss.map (tupleKeyHash knd)))
def J1J:List (List K)->Nat
 | []=>0
 | ks::kss=>J1J kss+(ks.length+1)
theorem J99 (kss:List (List K))(ks:List K):J1J (kss++[ks])=J1J kss+(ks.length+1):=by
 induction kss with
 | nil=>simp [J1J]
 | cons a t ih=>simp only [cons_append,J1J,ih];omega
variable {A:Around}{E:Value->Shared->Prop}{s:Shared}
theorem hash_nest {kss:List (List K)}{a:Addr}{Q:Int->Shared->Prop}(hu:A.units+1<cLine)(hk:IsNest knd s.heap kss a)(h:Q (J6b knd kss) { s with toks:=s.toks+(J1J kss+1) }):wpAny (model prog w) A (pyHash (.ref a)) Q E s:=by
 have hT:=hk.ty;obtain ⟨ob,its,m,e,_,dd,t⟩:=hk;refine PySem.W.pyHash_slot (T:="tuple") hT F.slot_tuple_hash F.entry_tuple_hash (F.args_tuple_hash_1 _) (beq_builtin_none _) (.inr (by omega)) ?_;show wpAny _ _ (Builtin.Tuple.tupleItemsOf (.ref a) >>= _) _ _ s;refine zM (wpAny_tupleItemsOf e dd (zM ?_));rw [<- Array.forIn_toList];refine wpAny_forIn_list _ (λrest (b:Array Int) s'=>∃ p q,kss=p++q/\ItemsT knd s.heap q rest/\b.toList=p.map (tupleKeyHash knd)/\s'={ s with toks:=s.toks+J1J p }) _ ?_ ?_ _ _ ⟨[],kss,rfl,t,rfl,rfl⟩
 ·rintro x rest b s' ⟨p,q,rfl,tq,hb,rfl⟩
  cases tq with
  | @cons ks c kss' vs k1 tq' =>
    refine zM (wpAny_pyHash_tuple (A:=A.in1) (s:={ s with toks:=s.toks+J1J p }) hu k1 ?_);have fin:∃ p' q',p++ks::kss'=p'++q'/\ItemsT knd s.heap q' rest/\(b.push (tupleKeyHash knd ks)).toList=p'.map (tupleKeyHash knd)/\({ s with toks:=s.toks+J1J p+(ks.length+1) }:Shared)={ s with toks:=s.toks+J1J p' } :=
     ⟨p++[ks],kss',by simp,tq',by simp [hb],by rw [J99,Nat.add_assoc]⟩
    first
     | exact zN fin
     | exact zM (zN (zN fin))
 ·rintro b s' ⟨p,q,rfl,tq,hb,rfl⟩
  cases tq;rw [append_nil] at h;show wpAny _ _ (retInt (Builtin.Tuple.tupleHashOf b.toList)) _ _ _;rw [hb];exact zM (wpAny_mkInt (zN ⟨_,_,rfl,by simpa [J6b,Nat.add_assoc] using h⟩))
theorem nest_eq_tree {x y:List (List K)}{a b:Addr}{P:Fin->Shared->Prop}(hu:A.units<cLine)(hx:IsNest knd s.heap x a)(hy:IsNest knd s.heap y b)(h:P (.done (.ret (.bool (decide (x=y))))) s) :
 wpAny (model prog w) A (Builtin.«tuple.__eq__» ⟨[.ref a,.ref b],[]⟩) P E s:=by
 have tb:=hy.ty;obtain ⟨oa,ia,na,ea,_,da,ta⟩:=hx;obtain ⟨ob,ib,nb,eb,_,db,tq⟩:=hy;show wpAny _ _ (isInstance (.ref b) (.type "tuple") >>= _) _ _ s;refine zM (wpAny_isInstance tb isSubtype_tuple_tuple ?_);simp only [Bool.not_true,Bool.false_eq_true,if_false];refine zM (wpAny_tupleItemsOf ea da (zM (wpAny_tupleItemsOf eb db (zM ?_))));refine wpAny_forIn_list _ (λrest r s'=>r.1=none/\s'=s/\∃ p q u v,rest=List.zip u v/\ItemsT knd s.heap p u/\ItemsT knd s.heap q v/\decide (p=q)=decide (x=y)/\(u.length == v.length)=(ia.size == ib.size)) _ ?_ ?_ _ _ ⟨rfl,rfl,x,y,ia.toList,ib.toList,rfl,ta,tq,rfl,by simp⟩
 ·rintro ⟨u1,v1⟩ rest r s' ⟨hr,rfl,p,q,u,v,hz,hp,hq,hde,hln⟩
  cases hp with
  | nil=>simp at hz
  | @cons k1 c1 p' u' g1 hp' =>
    cases hq with
    | nil=>simp at hz
    | @cons k2 c2 q' v' g2 hq' =>
      simp only [zip_cons_cons,List.cons.injEq,Prod.mk.injEq] at hz;obtain ⟨⟨rfl,rfl⟩,rfl⟩:=hz;refine zM (wpAny_eqBool_tuple hu g1 g2 ?_);by_cases ek:k1=k2
      ·subst ek
       rw [zS rfl];simp only [Bool.not_true,Bool.false_eq_true,if_false];refine zN ⟨rfl,rfl,p',q',u',v',rfl,hp',hq',?_,by simpa using hln⟩;rw [<- hde];simp
      ·rw [zT ek]
       simp only [Bool.not_false,if_true];have ef:decide (x=y)=false:=by rw [<- hde];simp [ek]
       rw [ef] at h;exact zM (zN (zN (zN h)))
 ·rintro ⟨r1,r2⟩ s' ⟨hr,rfl,p,q,u,v,hz,hp,hq,hde,hln⟩
  simp only at hr;subst hr;have ef:(ia.size == ib.size)=decide (x=y):=by
   rw [<- hde,<- hln];cases hp with
   | nil =>
     cases hq with
     | nil=>simp
     | cons _ _=>simp
   | cons _ _ =>
     cases hq with
     | nil=>simp
     | cons _ _=>simp at hz
  refine zN ?_;show P (.done (.ret (.bool (ia.size == ib.size)))) s';rw [ef];exact h
theorem Jeo {x y:List (List K)}{a b:Addr}{Q:Bool->Shared->Prop}(hu:A.units+1<cLine)(hx:IsNest knd s.heap x a)(hy:IsNest knd s.heap y b)(h:Q (decide (x=y)) s):wpAny (model prog w) A (eqBool (.ref a) (.ref b)) Q E s:=by
 unfold eqBool
 try with_reducible refine wpAny_holding ?_
 by_cases c:a=b
 ·subst c
  obtain rfl:=hx.inj hy;show wpAny _ _ (if (Value.ref a == Value.ref a)=true then _ else _) Q E s;rw [zP (by simp)];exact zM (wpAny_rule (zN (by simpa using h)))
 ·show wpAny _ _ (if (Value.ref a == Value.ref b)=true then _ else _) Q E s
  rw [zO (λz=>c (by have e:=eq_of_beq z;cases e;rfl))];exact zM (wpAny_richCompare_same_room (op:=.Eq) hx.ty hy.ty F.slot_tuple_eq (wpAny_call_entry F.slot_tuple_eq hx.ty F.entry_tuple_eq (nest_eq_tree (A:=A.in1) hu hx hy ⟨_,rfl,(λz=>nomatch z),wpAny_truthy_bool h⟩) (F.args_tuple_eq_2 _ _)) (by omega))
theorem Ja2 {n:Nat}{ks:List K}{a:Addr}{Q:Bool->Shared->Prop}(hk:IsTupleKey knd s.heap ks a)(h:Q true s):wpAny (model prog w) A (eqIsQuiet (n+1) (.ref a)) Q E s:=by
 have hT:=hk.typeIs;obtain ⟨ob,its,m,e,_,dd,t⟩:=hk;unfold eqIsQuiet;refine zM (wpAny_specialOf hT F.slot_tuple_eq.lookup ?_);show wpAny _ _ (isInstance (.ref a) (.type "tuple") >>= _) _ _ s;refine zM (wpAny_isInstance hT isSubtype_tuple_tuple ?_);simp only [Bool.not_true,Bool.false_eq_true,if_false];refine zM (wpAny_seqItems e dd (zM ?_));show wpAny _ _ (forIn its _ _) _ _ s;rw [<- Array.forIn_toList];refine wpAny_forIn_list _ (λrest r s'=>r.1=none/\s'=s/\∀ v∈rest,carriedByValue v=true) _ ?_ ?_ _ _ ⟨rfl,rfl,t.byValue⟩
 ·rintro v rest r s' ⟨hr,rfl,al⟩
  rw [eqIsQuiet_byValue _ (al v qm)];refine zM (zN ?_);simp only [Bool.not_true,Bool.false_eq_true,if_false];exact zN ⟨rfl,rfl,λu hm=>al u (ql _ hm)⟩
 ·rintro ⟨r1,r2⟩ s' ⟨hr,rfl,_⟩
  simp only at hr;subst hr;exact zN h
theorem Ja1 {kss:List (List K)}{a:Addr}{Q:Bool->Shared->Prop}(hk:IsNest knd s.heap kss a)(h:Q true s):wpAny (model prog w) A (eqIsQuiet 8 (.ref a)) Q E s:=by
 have hT:=hk.ty;obtain ⟨ob,its,m,e,_,dd,t⟩:=hk;unfold eqIsQuiet;refine zM (wpAny_specialOf hT F.slot_tuple_eq.lookup ?_);show wpAny _ _ (isInstance (.ref a) (.type "tuple") >>= _) _ _ s;refine zM (wpAny_isInstance hT isSubtype_tuple_tuple ?_);simp only [Bool.not_true,Bool.false_eq_true,if_false];refine zM (wpAny_seqItems e dd (zM ?_));show wpAny _ _ (forIn its _ _) _ _ s;rw [<- Array.forIn_toList];refine wpAny_forIn_list _ (λrest r s'=>r.1=none/\s'=s/\∃ q,ItemsT knd s.heap q rest) _ ?_ ?_ _ _ ⟨rfl,rfl,kss,t⟩
 ·rintro v rest r s' ⟨hr,rfl,q,tq⟩
  cases tq with
  | cons k1 tq' =>
    refine zM (Ja2 (n:=6) k1 ?_);simp only [Bool.not_true,Bool.false_eq_true,if_false];exact zN ⟨rfl,rfl,_,tq'⟩
 ·rintro ⟨r1,r2⟩ s' ⟨hr,rfl,_⟩
  simp only at hr;subst hr;exact zN h
end
def J2Y {prog:Program}{w:World}{K:Type}[DecidableEq K](knd:PySem.KeyKind prog w K):HeapKind prog w (List (List K)) where
 is:=IsNest knd
 hash:=J6b knd
 draws:=λkss=>J1J kss+1
 room:=λA=>A.units+1<cLine
 inj:=λa b=>a.inj b
 keeps:=λx a b c=>x.keeps a b c
 pyHash:=λa b c=>hash_nest a b c
 eqBool:=λa b c d=>Jeo a b c d
 quiet:=λa b=>Ja1 a b
section
variable {prog:Program}{w:World}{K:Type}[DecidableEq K]{knd:HeapKind prog w K}{A:Around}{E:Value->Shared->Prop}{s:Shared}
theorem setdef_heap {d a:Addr}{xs:List (K×Addr×Value)}{k:K}{v:Value}{Q:Value->Shared->Prop}(hu:knd.room A)(hk:knd.is s.heap k a)(hm:s.heap.DictOfH knd d xs)(hl:xs.length<=sizeLine)
 (q1:∀ p,atKey xs k=some p->Q p.2 { s with toks:=s.toks+knd.draws k })
 (q2:atKey xs k=none->∀ h',h'.DictOfH knd d (storedH xs k a v)->Heap.SameBut d s.heap h'->Q v { s with heap:=h',toks:=s.toks+knd.draws k }) :
 wpAny (model prog w) A (dictSetDefault d (.ref a) v) Q E s:=by
 obtain ⟨ob,es,ep,e,hc,hd,he,al,nd⟩:=hm;unfold dictSetDefault
 try with_reducible refine wpAny_holding ?_
 refine zM (knd.pyHash hu hk (zM (wpAny_dictFind_heap (s:={ s with toks:=s.toks+knd.draws k }) hu hk e hd he al nd ?_ ?_)))
 ·intro no
  have nk:k∉xs.map (·.1):=not_mem_keys_of_get no;have ks:=atKey_none_of_get no;have sb:∀ f,Heap.SameBut d s.heap (s.heap.update d f):=λf=>Heap.SameBut.update ..;refine zM (wpAny_rule (zM (wpAny_updateDictKeys (hz:=by have z:=size_of_entries he;omega) (s:={ s with toks:=s.toks+knd.draws k }) e hd (zN (q2 ks _ ⟨_,_,ep+1,Heap.get?_update_self _ e (Obj.isFreed_of_dict (Obj.data_mapDictKeys hd _)),hc.mapDictKeys _,Obj.data_mapDictKeys hd _,?_,λx hx=>?_,?_⟩ (Heap.SameBut.update ..))))))
  ·rw [storedH_new ks]
   simp [he,entryOfKey]
  ·rw [storedH_new ks] at hx
   rcases qu.mp hx with hx | hx
   ·exact knd.keeps (al x hx) e hd (Heap.SameBut.update ..)
   ·cases qf.mp hx
    exact knd.keeps hk e hd (Heap.SameBut.update ..)
  ·rw [storedH_new ks,qt,nodup_append]
   refine ⟨nd,by simp,λx hx y hy z=>?_⟩;rw [qp,map_nil,qf] at hy;subst hy z;exact nk hx
 ·intro j p hj
  refine zM (wpAny_dictEntries (s:={ s with toks:=s.toks+knd.draws k }) e hd ?_);rw [entry_at he j,hj];exact zM (wpAny_rule (zN (q1 p (atKey_of_get nd hj))))
theorem J4j (knd:HeapKind prog w K)(d a:Addr)(hd:(d == sysModules)=false)(v:Value) :
 MeetsIn prog w (Builtin.«dict.setdefault» ⟨[.ref d,.ref a,v],[]⟩) (λA R s=>knd.room A.in1/\∃ k xs,knd.is s.heap k a/\s.heap.DictOfH knd d xs/\xs.length<=sizeLine /\
  (∀ p,atKey xs k=some p->R (.ok (.ret p.2)) { s with toks:=s.toks+knd.draws k }) /\
  (atKey xs k=none->∀ h',h'.DictOfH knd d (storedH xs k a v)->Heap.SameBut d s.heap h'->R (.ok (.ret v)) { s with heap:=h',toks:=s.toks+knd.draws k })) :=
 .of_wp λA R s ⟨hu,k,xs,hk,hm,hl,q1,q2⟩=>by
  unfold Builtin.«dict.setdefault»;refine zM ?_;unfold Builtin.Dict.keyAndDefault;refine zM (wpAny_notOrdered_dict hm.typeIs ?_);show wpAny _ _ (pure (d,Value.ref a,some v)) _ _ s;refine zN ?_;show wpAny _ _ (if (d == sysModules)=true then _ else (dictSetDefault d (.ref a) v >>= _)) _ _ s;rw [zO (by rw [hd];decide)];exact zM (setdef_heap hu hk hm hl (λp e=>zN ⟨_,rfl,q1 p e⟩) λe h' m' s'=>zN ⟨_,rfl,q2 e h' m' s'⟩)
end
abbrev NPK:=List (List Ji)
def dN (P:Program)(w:World)(a:Addr)(xs:List (NPK×Addr×Value)):HO:=.ext λh=>∃ o es ep,h.get? a=some o/\o.ExactDict/\o.data=.dict es ep/\es.toList=xs.map (entryOfKey (J2Y (J0b P w)))/\(xs.map (·.1)).Nodup
def NKeyAt (H:Hp)(b:Addr)(kss:NPK):Prop:=∃ bs:List Addr,H b=some (.tup (bs.map V.ref))/\Paired (λ(c:Addr) (ks:List Ji)=>H c=some (.tup (ks.map nV))) bs kss
theorem NKeyAt.mono {H H':Hp}{b:Addr}{kss:NPK}(t:∀ c ys,H c=some (.tup ys)->H' c=some (.tup ys))(h:NKeyAt H b kss):NKeyAt H' b kss:=by
 obtain ⟨bs,h1,h2⟩:=h;exact ⟨bs,t _ _ h1,Paired.mapP h2 λ_ _ e=>t _ _ e⟩
def NRel (H:Hp)(kvs:List (NPK×V))(xs:List (NPK×Addr×Value)):Prop:=Paired (λ(p:NPK×V) (q:NPK×Addr×Value)=>p.1=q.1/\NKeyAt H q.2.1 p.1/\RelV p.2 q.2.2) kvs xs
theorem NRel.mono {H H':Hp}{kvs:List (NPK×V)}{xs:List (NPK×Addr×Value)}(t:∀ c ys,H c=some (.tup ys)->H' c=some (.tup ys))(h:NRel H kvs xs):NRel H' kvs xs:=Paired.mapP h λ_ _ e=>⟨e.1,e.2.1.mono t,e.2.2⟩
def ND (P:Program)(w:World)(H:Hp)(a:Addr)(kvs:List (NPK×V)):Prop:=(a == sysModules)=false/\∃ xs,H a=some (dN P w a xs)/\NRel H kvs xs
theorem ND.mono {P:Program}{w:World}{H H':Hp}{a:Addr}{kvs:List (NPK×V)}(t:∀ c ys,H c=some (.tup ys)->H' c=some (.tup ys))(e:H' a=H a)(h:ND P w H a kvs):ND P w H' a kvs:=by
 obtain ⟨h1,xs,h2,h3⟩:=h;exact ⟨h1,xs,e.trans h2,h3.mono t⟩
section
variable {P:Program}{w:World}{H:Hp}{h:Heap}{a b:Addr}
theorem JcN (ok:HOk P w H h):∀ {bs:List Addr} {kss:NPK} {its:List Value},Paired (λ(c:Addr) (ks:List Ji)=>H c=some (.tup (ks.map nV))) bs kss->Vals (bs.map V.ref) its->ItemsT (J0b P w) h kss its
 | _,_,_,.nil,.nil=>.nil
 | _,_,_,.cons r t,.cons q v=>by
   cases (show _=Value.ref _ from q);exact .cons (J32 ok r) (JcN ok t v)
theorem JaL {kss:NPK}(ok:HOk P w H h)(k:NKeyAt H b kss):IsNest (J0b P w) h kss b:=by
 obtain ⟨bs,e,r⟩:=k;obtain ⟨_,its,v,o,h1,h2,n,h3⟩:=(show ObjOk P w H h b (.tup (bs.map V.ref)) from ok b _ e);exact ⟨o,its.toArray,n,h1,h2,h3,by simpa using JcN ok r v⟩
theorem Je9 {kvs:List (NPK×V)}{xs:List (NPK×Addr×Value)}(ok:HOk P w H h)(r:NRel H kvs xs):∀ x∈xs,IsNest (J0b P w) h x.1 x.2.1:=by
 unfold NRel at r
 induction r with
 | nil=>intro x hx;cases hx
 | cons q t ih =>
   intro x hx;rcases qo.mp hx with rfl | hx
   ·rw [<- q.1]
    exact JaL ok q.2.1
   ·exact ih x hx
theorem JeA {xs:List (NPK×Addr×Value)}{kvs:List (NPK×V)}(ok:HOk P w H h)(e:H a=some (dN P w a xs))(r:NRel H kvs xs):h.DictOfH (J2Y (J0b P w)) a xs:=by
 obtain ⟨⟨o,es,ep,h1,h2,h3,h4,h5⟩,_,_⟩:=(show ObjOk P w H h a (dN P w a xs) from ok a _ e);exact ⟨o,es,ep,h1,h2,h3,h4,Je9 ok r,h5⟩
theorem JaK {k:NPK}{kvs:List (NPK×V)}{xs:List (NPK×Addr×Value)}(r:NRel H kvs xs):(Jy kvs k=none/\atKey xs k=none)\/∃ v p,Jy kvs k=some v/\atKey xs k=some p/\RelV v p.2:=by
 unfold NRel at r;unfold Jy atKey
 induction r with
 | nil=>exact .inl ⟨rfl,rfl⟩
 | @cons p q ps qs hq _ ih =>
   rw [List.find?_cons,List.find?_cons];by_cases c:p.1=k
   ·rw [zS c,zS (hq.1.symm.trans c)]
    exact .inr ⟨p.2,q.2,rfl,rfl,hq.2.2⟩
   ·rw [zT c,zT (λz=>c (hq.1.trans z))]
    exact ih
theorem JcJ {k:NPK}{kvs:List (NPK×V)}{xs:List (NPK×Addr×Value)}{v:V}{u:Value}(r:NRel H kvs xs)(hk:NKeyAt H b k)(rv:RelV v u)(n1:Jy kvs k=none)(n2:atKey xs k=none):NRel H (JS kvs k v) (storedH xs k b u):=by
 rw [storedH_new n2];have e:JS kvs k v=kvs++[(k,v)]:=by
  unfold JS;rw [zO];intro z;rw [any_eq_true] at z;obtain ⟨x,hx,hd⟩:=z;unfold Jy at n1;rw [Option.map_eq_none_iff,List.find?_eq_none] at n1;exact n1 x hx hd
 rw [e];exact Paired.snoc r ⟨rfl,hk,rv⟩
theorem JeI {H':Hp}{h':Heap}{xs:List (NPK×Addr×Value)}(d:h'.DictOfH (J2Y (J0b P w)) a xs):ObjOk P w H' h' a (dN P w a xs):=by
 obtain ⟨o,es,ep,h1,h2,h3,h4,_,h5⟩:=d;exact ⟨⟨o,es,ep,h1,h2,h3,h4,h5⟩,⟨o,h1⟩,λg1 g2 ⟨o,es,ep,q1,q2⟩ k=>⟨o,es,ep,k _ q1,q2⟩⟩
end
section
variable {X:Cx}{pins:List (Addr×Obj)}{σ:St}{H:Hp}{s:Shared}{a b:Addr}{k:NPK}{kvs:List (NPK×V)}{d:V}{r:Value}{A:Around}{E:Value->Shared->Prop}
theorem JfZ (I:Inv X pins σ H s)(g:ND X.prog X.w H a kvs):s.TypeIs (.ref a) "dict"/\∀ b,Value.ref a=.ref b->∃ ob,s.heap.get? b=some ob/\ob.dict=none:=by
 obtain ⟨_,xs,e,rel⟩:=g;have dd:=JeA I.hok e rel;refine ⟨dd.typeIs,λc q=>?_⟩;cases q;obtain ⟨ob,_,_,h1,h2,_⟩:=dd;exact ⟨ob,h1,h2.2.1⟩
theorem n_setdef {Q:Value->Shared->Prop}(hu:A.units+2<cLine)(I:Inv X pins σ H s)(g:ND X.prog X.w H a kvs)(hk:NKeyAt H b k)(rd:RelV d r)(hl:kvs.length<=sizeLine)
 (h1:∀ v w' s',Jy kvs k=some v->Inv X pins σ H s'->RelV v w'->Q w' s')
 (h2:Jy kvs k=none->∀ xs s',ND X.prog X.w (upd H a (dN X.prog X.w a xs)) a (JS kvs k d)->Inv X pins σ (upd H a (dN X.prog X.w a xs)) s'->Q r s') :
 wpAny (model X.prog X.w) A (call (.builtin "dict.setdefault") [.ref a,.ref b,r]) Q E s:=by
 obtain ⟨hd,xs,e,rel⟩:=g;have dd:=JeA I.hok e rel;refine call_meetsIn PySem.F.slot_dict_setdefault dd.typeIs PySem.F.entry_dict_setdefault (PySem.F.args_dict_setdefault_3 _ _ _) (J4j (J2Y (J0b X.prog X.w)) a b hd r) ⟨hu,k,xs,JaL I.hok hk,dd,by rw [<- Paired.length rel];exact hl,λp ep=>?_,λen h' dd' hs=>?_⟩
 ·rcases JaK (k:=k) rel with ⟨_,e2⟩ | ⟨v,p',e1,e2,rv⟩
  ·rw [e2] at ep;cases ep
  ·rw [e2] at ep
   cases ep;exact h1 v _ _ e1 (I.tok _) rv
 ·rcases JaK (k:=k) rel with ⟨e1,e2⟩ | ⟨v,p',e1,e2,rv⟩
  ·have tk:∀ c ys,H c=some (.tup ys)->upd H a (dN X.prog X.w a (storedH xs k b r)) c=some (.tup ys):=λc ys z=>by
    rw [Jj (J0S z e (λq=>nomatch q))];exact z
   refine h2 e1 (storedH xs k b r) _ ⟨hd,_,Jd,(JcJ rel hk rd e1 e2).mono tk⟩ ?_;exact J3t I (by rw [e];exact True.intro) hs (let ⟨q,_,_,hq,_⟩:=dd';⟨q,hq⟩) (JeI dd')
  ·rw [e2] at en;cases en
end
def J5G (P:Program)(w:World):TE:=λ_ H Q=>∀ p xs,H p=none->ND P w (upd H p (dN P w p xs)) p []->Q (.ref p) (upd H p (dN P w p xs))
def J2H (P:Program)(w:World)(td ty tx:TE):TE:=λσ H Q=>td σ H λx H1=>∃ a kvs,x=.ref a/\ND P w H1 a kvs/\ty σ H1 λy H2=>tx σ H2 λz H3=>∃ b kvs k,y=.ref b/\ND P w H3 a kvs/\NKeyAt H3 b k/\kvs.length<=sizeLine /\
 (∀ v,Jy kvs k=some v->Q v H3)/\(Jy kvs k=none->∀ xs,ND P w (upd H3 a (dN P w a xs)) a (JS kvs k z)->Q z (upd H3 a (dN P w a xs)))
section
variable {X:Cx}{o e f:Expr}{pos apos cpos:Pos}{td ty tx:TE}
theorem JcE:PE X (.Dict [] [] pos) (J5G X.prog X.w):=λpins s σ H Q I h=>by
 have hp:H s.heap.objs.size=none:=I.hok.fresh (zQ _);have sy:(s.heap.objs.size == sysModules)=false:=beq_eq_false_iff_ne.mpr (Ne.symm (zV I.big));have dd:(s.heap.push { cls:=.type "dict",data:=.dict #[] }).DictOfH (J2Y (J0b X.prog X.w)) s.heap.objs.size []:=⟨_,#[],0,qG _ rfl,⟨rfl,rfl,rfl⟩,rfl,rfl,(λ_ z=>nomatch z),nodup_nil⟩;exact wpAny_Dict_empty ⟨.ref s.heap.objs.size,_,I.laid (a:=s.heap.objs.size) (o:=dN X.prog X.w s.heap.objs.size []) (t':=s.toks) (λ_ _ q=>qF _ q) (zQ _) (JeI dd),rfl,h _ [] hp ⟨sy,[],Jd,.nil⟩⟩
theorem Ja4 (hu:X.A.units+64<cLine)(ho:PE X o td)(he:PE X e ty)(hf:PE X f tx)(m:M2 X o "setdefault" apos e f cpos):PE X (.Call (.Attribute o "setdefault" apos) [e,f] [] cpos) (J2H X.prog X.w td ty tx):=by
 intro pins s σ H Q I h;refine wpAny_Call_method m.base m.few m.line PySem.F.plainAttrs_dict PySem.F.slot_dict_setdefault PySem.F.type_dict_setdefault (thn (ho pins s σ H _ I h) λu s1 ⟨x,H1,I1,rx,a,kv,ex,d,q1⟩=>?_);subst ex;obtain rfl:u=Value.ref a:=rx;obtain ⟨t1,t2⟩:=JfZ I1 d;refine ⟨t1,t2,?_⟩;rw [m.trees];refine Calls.callWith_builtin rfl (Calls.evalArgs_plain (Calls.spliced_cons (thn (he pins s1 σ H1 _ I1 q1) λiv s2 ⟨y,H2,I2,ry,q2⟩=>Calls.spliced_cons (thn (hf pins s2 σ H2 _ I2 q2) λfv s3 ⟨z,H3,I3,rz,b,kvs,k,ey,g,hk,hl,q3,q4⟩=>Calls.spliced_nil ?_))));subst ey;obtain rfl:iv=Value.ref b:=ry;exact n_setdef (by omega) I3 g hk rz hl (λv w' s4 ev I4 rv=>⟨v,H3,I4,rv,q3 v ev⟩) λen xs s4 g4 I4=>⟨z,_,I4,rz,q4 en xs g4⟩
end
section
variable {prog:Program}{w:World}{A:Around}{E:Value->Shared->Prop}{s:Shared}
theorem J6a {it t:Addr}{i:Nat}{its:Array Value}{x:Value}{Q:Value->Shared->Prop}(hi:s.heap.IsTupleIter it t i)(ht:s.heap.IsTuple t its)(hx:its[i]?=some x)(q:∀ h',h'.IsTupleIter it t (i+1)->Heap.SameBut it s.heap h'->Q x { s with heap:=h' }) :
 wpAny (model prog w) A (Builtin.SmallTypes.nextOf (.ref it)) Q E s:=by
 obtain ⟨o,ho,hc,hd⟩:=id hi;obtain ⟨ot,hot,_,nt,hdt⟩:=ht;unfold Builtin.SmallTypes.nextOf;have ty:=hi.typeIs;refine zM (wpAny_callSpecial?_slot (name:=Str.ofString "__next__") ty F.slot_tuple_iterator_next (wpAny_call_entry F.slot_tuple_iterator_next ty F.entry_tuple_iterator_next ?_ (F.args_tuple_iterator_next_1 _)));show wpAny _ _ (field (.ref it) 0 >>= _) _ _ s;refine zM (wpAny_field ho hd (x:=.ref t) rfl ?_);show wpAny _ _ (if (Value.ref t == Value.none)=true then _ else _) _ _ s;rw [zO (show (Value.ref t == Value.none)≠true from zR)];show wpAny _ _ (field (.ref it) 1 >>= _) _ _ s;refine zM (wpAny_field ho hd (x:=.int i 0) rfl ?_);show wpAny _ _ (seqItems? (.ref t) >>= _) _ _ s;refine zM (wpAny_seqItems hot hdt ?_);simp only [Int.toNat_natCast,hx];refine zM (wpAny_setField ho hd (by simp) (zN ⟨x,rfl,zN (q _ ⟨_,Heap.get?_update_self _ ho (Obj.isFreed_of_fields (Obj.data_mapFields hd _)),(Obj.cls_mapFields ..).trans hc,?_⟩ (Heap.SameBut.update ..))⟩));rw [Obj.data_mapFields hd];simp [rawInt]
theorem Jb0 {z TI TO i1 i2 l1 l2:Addr}{k1 k2:Nat}{xs ys:Array Value}{x y a b:Value}{Q:Value->Shared->Prop}(D:ZipApart z TI TO i1 i2 l1 l2)(hz:IsZip s.heap z TI TO .none)(hTI:IsPair s.heap TI (.ref i1) (.ref i2))(hTO:IsPair s.heap TO a b)
 (h1:s.heap.IsTupleIter i1 l1 k1) (h2:s.heap.IsTupleIter i2 l2 k2) (hl1:s.heap.IsTuple l1 xs) (hl2:s.heap.IsTuple l2 ys) (hx:xs[k1]?=some x) (hy:ys[k2]?=some y)
 (q:∀ h',IsZip h' z TI TO (rawInt s.heap.objs.size)->IsPair h' TO x y->h'.IsTupleIter i1 l1 (k1+1)->h'.IsTupleIter i2 l2 (k2+1)->IsPair h' s.heap.objs.size x y->(∀ c o,c≠z->c≠TO->c≠i1->c≠i2->s.heap.get? c=some o->h'.get? c=some o)->Q (.ref s.heap.objs.size) { s with heap:=h' }) :
 wpAny (model prog w) A (Builtin.«zip.__next__» ⟨[.ref z],[]⟩) (λfin s'=>∃ v,fin=.done (.ret v)/\Q v s') E s:=by
 show wpAny _ _ (field (.ref z) 2 >>= _) _ _ _;refine zM (wpAny_field hz rfl (x:=.bool false) rfl ?_);show wpAny _ _ (field (.ref z) 3 >>= _) _ _ _;refine zM (wpAny_field hz rfl (x:=.ref TI) rfl (zM (wpAny_seqItems hTI rfl ?_)));show wpAny _ _ (Builtin.SmallTypes.ownedTupleIsFree (.ref z) >>= _) _ _ _;refine zM ?_;unfold Builtin.SmallTypes.ownedTupleIsFree;refine zM (wpAny_field hz rfl (x:=.none) rfl (zN ?_));simp only [if_true];refine zM (wpAny_rule (zM (wpAny_field hz rfl (x:=.ref TO) rfl (zM (wpAny_setField_rec hz (by simp) λg1 z1 e1=>?_)))))
 replace z1:IsZip g1 z TI TO .ellipsis:=z1
 refine zM ?_;simp only [zipIdx_cons,zipIdx_nil,forIn_cons,forIn_nil];refine zM (zM (wpAny_onRaise ?_));show wpAny _ _ (Builtin.SmallTypes.nextOf (.ref i1) >>= _) _ _ _;refine zM (J6a (h1.extBut e1.extBut D.i1z) (hl1.extBut e1.extBut D.l1z) hx λg2 it1 e2=>zN ?_);have o2:IsPair g2 TO a b:=e2.extBut _ _ D.TOi1 (e1.extBut _ _ D.TOz hTO);refine zM (wpAny_seqItems o2 rfl (zM (wpAny_updateSeq_pair o2 λg3 o3 e3=>zM (wpAny_letGo (zN ?_)))))
 replace o3:IsPair g3 TO x b:=o3
 refine zM (zM (wpAny_onRaise ?_));show wpAny _ _ (Builtin.SmallTypes.nextOf (.ref i2) >>= _) _ _ _;have it2:g3.IsTupleIter i2 l2 k2:=((h2.extBut e1.extBut D.i2z).extBut e2.extBut (Ne.symm D.i12)).extBut e3.extBut (Ne.symm D.TOi2);have tp2:g3.IsTuple l2 ys:=((hl2.extBut e1.extBut D.l2z).extBut e2.extBut D.l2i1).extBut e3.extBut D.l2TO;refine zM (J6a it2 tp2 hy λg4 it3 e4=>zN ?_);have o4:IsPair g4 TO x b:=e4.extBut _ _ D.TOi2 o3;refine zM (wpAny_seqItems o4 rfl (zM (wpAny_updateSeq_pair o4 λg5 o5 e5=>zM (wpAny_letGo (zN (zN ?_))))))
 replace o5:IsPair g5 TO x y:=o5
 refine zM (wpAny_seqItems o5 rfl (zM (wpAny_newTuple ?_)));have sz:g5.objs.size=s.heap.objs.size:=by rw [e5.1,e4.1,e3.1,e2.1,e1.1]
 have z5:IsZip g5 z TI TO .ellipsis:=e5.extBut _ _ (Ne.symm D.TOz) (e4.extBut _ _ (Ne.symm D.i2z) (e3.extBut _ _ (Ne.symm D.TOz) (e2.extBut _ _ (Ne.symm D.i1z) z1)));have kp:∀ c o,c≠z->c≠TO->c≠i1->c≠i2->s.heap.get? c=some o->g5.get? c=some o:=λc o c1 c2 c3 c4 e=>e5.extBut _ _ c2 (e4.extBut _ _ c4 (e3.extBut _ _ c2 (e2.extBut _ _ c3 (e1.extBut _ _ c1 e))));have j1:g5.IsTupleIter i1 l1 (k1+1):=((it1.extBut e3.extBut (Ne.symm D.TOi1)).extBut e4.extBut D.i12).extBut e5.extBut (Ne.symm D.TOi1);have j2:g5.IsTupleIter i2 l2 (k2+1):=it3.extBut e5.extBut (Ne.symm D.TOi2);show wpAny _ _ (Builtin.SmallTypes.ownedTupleHandOut (.ref z) (.ref g5.objs.size) >>= _) _ _ _;refine zM ?_;unfold Builtin.SmallTypes.ownedTupleHandOut;have z6:IsZip (g5.push { cls:=.type "tuple",data:=.seq #[x,y] }) z TI TO .ellipsis:=qF _ z5;refine zM (wpAny_setField_rec z6 (by simp) λg7 z7 e7=>?_)
 replace z7:IsZip g7 z TI TO (rawInt g5.objs.size):=z7
 refine wpAny_setField_rec z7 (by simp) λg8 z8 e8=>?_
 replace z8:IsZip g8 z TI TO (rawInt g5.objs.size):=z8
 have up:∀ c o,c≠z->g5.get? c=some o->g8.get? c=some o:=λc o c1 e=>e8.extBut _ _ c1 (e7.extBut _ _ c1 (qF _ e));have zl:g5.objs.size≠z:=Nat.ne_of_gt (qH z5);have p8:IsPair g8 g5.objs.size x y:=e8.extBut _ _ zl (e7.extBut _ _ zl (qG _ rfl));rw [sz] at z8 p8;refine zN ⟨_,rfl,?_⟩;show Q (.ref g5.objs.size) _;rw [sz];obtain ⟨b1,f1,r1⟩:=j1;obtain ⟨b2,f2,r2⟩:=j2;exact q g8 z8 (up _ _ D.TOz o5) ⟨b1,up _ _ D.i1z f1,r1⟩ ⟨b2,up _ _ D.i2z f2,r2⟩ p8 λc o c1 c2 c3 c4 e=>up c o c1 (kp c o c1 c2 c3 c4 e)
theorem J8l {z TI TO i1 i2 l1 l2:Addr}{k1 k2:Nat}{xs ys:Array Value}{x y a b:Value}{Q:Option Value->Shared->Prop}(D:ZipApart z TI TO i1 i2 l1 l2)(hz:IsZip s.heap z TI TO .none)(hTI:IsPair s.heap TI (.ref i1) (.ref i2))(hTO:IsPair s.heap TO a b)
 (h1:s.heap.IsTupleIter i1 l1 k1) (h2:s.heap.IsTupleIter i2 l2 k2) (hl1:s.heap.IsTuple l1 xs) (hl2:s.heap.IsTuple l2 ys) (hx:xs[k1]?=some x) (hy:ys[k2]?=some y)
 (q:∀ h',IsZip h' z TI TO (rawInt s.heap.objs.size)->IsPair h' TO x y->h'.IsTupleIter i1 l1 (k1+1)->h'.IsTupleIter i2 l2 (k2+1)->IsPair h' s.heap.objs.size x y->(∀ c o,c≠z->c≠TO->c≠i1->c≠i2->s.heap.get? c=some o->h'.get? c=some o)->Q (some (.ref s.heap.objs.size)) { s with heap:=h' }) :
 wpAny (model prog w) A (pyNext (.ref z)) Q E s:=by
 have ty:s.TypeIs (.ref z) "zip":=⟨_,hz,rfl⟩;unfold pyNext;have st:=Jb0 (prog:=prog) (w:=w) (A:=A.in1) (E:=λ_ _=>False) (Q:=λv s'=>wpAny (model prog w) A (pure (some v)) Q E s') D hz hTI hTO h1 h2 hl1 hl2 hx hy λh' a1 a2 a3 a4 a5 a6=>zN (q h' a1 a2 a3 a4 a5 a6);exact zM (wpAny_attempt (wpAny_callSpecial?_slot (name:=Str.ofString "__next__") ty F.slot_zip_next (wpAny_call_entry F.slot_zip_next ty F.entry_zip_next (wpAny_mono st (λ_ _ z=>z) λ_ _ z=>z.elim) (F.args_zip_next_1 _))))
end
abbrev zt1 (h:Heap)(a:Addr):Heap:=h.push { cls:=.type "tuple_iterator",data:=.fields #[.ref a,.int 0 0] }
abbrev zt2 (h:Heap)(a b:Addr):Heap:=zt1 (zt1 h a) b
abbrev zt3 (h:Heap)(a b:Addr):Heap:=(zt2 h a b).push { cls:=.type "tuple",data:=.seq #[.ref h.objs.size,.ref (zt1 h a).objs.size] }
abbrev zt4 (h:Heap)(a b:Addr):Heap:=(zt3 h a b).push { cls:=.type "tuple",data:=.seq #[.none,.none] }
abbrev zt5 (h:Heap)(a b:Addr):Heap:=(zt4 h a b).push { cls:=.type "zip",data:=.fields #[.none,.bool false,.bool false,.ref (zt2 h a b).objs.size,.ref (zt3 h a b).objs.size] }
theorem Jae (a b:Addr)(xs ys:Array Value):Meets (Builtin.«zip.__new__» ⟨[.type "zip",.ref a,.ref b],[]⟩) (λ_ R s=>s.heap.IsTuple a xs/\s.heap.IsTuple b ys/\R (.ok (.ret (.ref (zt4 s.heap a b).objs.size))) { s with heap:=zt5 s.heap a b }) :=
 .of_wp λprog w A R s h=>by
  obtain ⟨hp,g,d,tk,os⟩:=s;obtain ⟨ha,hb,h⟩:=h;have hsub:=sub_zip;have h1:Heap.IsTuple (Shared.heap ⟨hp,g,d,tk,os⟩) a xs:=ha;have h2:Heap.IsTuple (Shared.heap ⟨zt1 hp a,g,d,tk,os⟩) b ys:=Heap.IsTuple.push hb _
  wp_walk using wpAny_pyIter_tuple h1,wpAny_pyIter_tuple h2
  exact ⟨_,rfl,h⟩
section
variable {prog:Program}{w:World}{A:Around}{E:Value->Shared->Prop}{s:Shared}
theorem J7e {a b:Addr}{xs ys:Array Value}{Q:Value->Shared->Prop}(ha:s.heap.IsTuple a xs)(hb:s.heap.IsTuple b ys)
 (h:∀ h',IsZip h' (s.heap.objs.size+4) (s.heap.objs.size+2) (s.heap.objs.size+3) .none->IsPair h' (s.heap.objs.size+2) (.ref s.heap.objs.size) (.ref (s.heap.objs.size+1))->IsPair h' (s.heap.objs.size+3) .none .none->h'.IsTupleIter s.heap.objs.size a 0->h'.IsTupleIter (s.heap.objs.size+1) b 0->(∀ c o,s.heap.get? c=some o->h'.get? c=some o)->Q (.ref (s.heap.objs.size+4)) { s with heap:=h' }) :
 wpAny (model prog w) A (call (.type "zip") [.ref a,.ref b]) Q E s:=by
 refine callType_new F.called_zip (by decide) (F.typeCall_zip_2 _ _) (F.newCall_zip_2 _ _) (λobj=>F.args_object_init_3 obj _ _) F.entry_zip_new (Jae a b xs ys) ⟨ha,hb,?_⟩;have n1:(zt1 s.heap a).objs.size=s.heap.objs.size+1:=Heap.size_push ..;have n2:(zt2 s.heap a b).objs.size=s.heap.objs.size+2:=by rw [Heap.size_push,n1]
 have n3:(zt3 s.heap a b).objs.size=s.heap.objs.size+3:=by rw [Heap.size_push,n2]
 have n4:(zt4 s.heap a b).objs.size=s.heap.objs.size+4:=by rw [Heap.size_push,n3]
 have up:∀ {h:Heap} {o u:Obj} {c:Addr},h.get? c=some u->(h.push o).get? c=some u:=λe=>qF _ e;have q5:(zt5 s.heap a b).get? (zt4 s.heap a b).objs.size=some _:=qG _ rfl;have q4:(zt5 s.heap a b).get? (zt3 s.heap a b).objs.size=some _:=up (qG _ rfl);have q3:(zt5 s.heap a b).get? (zt2 s.heap a b).objs.size=some _:=up (up (qG _ rfl));have q2:(zt5 s.heap a b).get? (zt1 s.heap a).objs.size=some _:=up (up (up (qG _ rfl)));have q1:(zt5 s.heap a b).get? s.heap.objs.size=some _:=up (up (up (up (qG _ rfl))));show _/\_;rw [n2,n3,n4] at q5;rw [n1,n2] at q3;rw [n3] at q4;rw [n1] at q2;rw [n4];exact ⟨⟨_,q5,rfl⟩,h _ q5 q3 q4 ⟨_,q1,rfl,rfl⟩ ⟨_,q2,rfl,rfl⟩ λc o e=>up (up (up (up (up e))))⟩
end
theorem IsTupleIter.at {h h':Heap}{it t:Addr}{i:Nat}(x:h.IsTupleIter it t i)(k:∀ o,h.get? it=some o->h'.get? it=some o):h'.IsTupleIter it t i:=let ⟨o,e,r⟩:=x;⟨o,k o e,r⟩
section
variable {prog:Program}{w:World}{A:Around}{E:Value->Shared->Prop}{s:Shared}
theorem J4g {it t:Addr}{i:Nat}{its:Array Value}{Q:Value->Shared->Prop}(hh:A.handled=none)(hi:s.heap.IsTupleIter it t i)(ht:s.heap.IsTuple t its)(hx:its[i]?=none)
 (q:∀ h' e,Heap.ExtBut it s.heap h'->(∃ o,h'.get? e=some o/\o.cls=.type "StopIteration")->E (.ref e) { s with heap:=h' }):wpAny (model prog w) A (Builtin.SmallTypes.nextOf (.ref it)) Q E s:=by
 obtain ⟨o,ho,hc,hd⟩:=id hi;obtain ⟨ot,hot,_,nt,hdt⟩:=ht;unfold Builtin.SmallTypes.nextOf;have ty:=hi.typeIs;refine zM (wpAny_callSpecial?_slot (name:=Str.ofString "__next__") ty F.slot_tuple_iterator_next (wpAny_call_entry F.slot_tuple_iterator_next ty F.entry_tuple_iterator_next ?_ (F.args_tuple_iterator_next_1 _)));show wpAny _ _ (field (.ref it) 0 >>= _) _ _ s;refine zM (wpAny_field ho hd (x:=.ref t) rfl ?_);show wpAny _ _ (if (Value.ref t == Value.none)=true then _ else _) _ _ s;rw [zO (show (Value.ref t == Value.none)≠true from zR)];show wpAny _ _ (field (.ref it) 1 >>= _) _ _ s;refine zM (wpAny_field ho hd (x:=.int i 0) rfl ?_);show wpAny _ _ (seqItems? (.ref t) >>= _) _ _ s;refine zM (wpAny_seqItems hot hdt ?_);simp only [Int.toNat_natCast,hx];refine zM (wpAny_rule (zM (wpAny_setField ho hd (by simp) ?_)));show wpAny _ _ (newExc (.type "StopIteration") [] >>= _) _ _ _;refine zM ?_;simp only [newExc,newTuple];refine zM (wpAny_newObj_type ?_ (by size_fits));refine zM (m:=firstArgMember _ _) (wpAny_of_eq (a:=Value.none) (by first | rfl | (simp only [firstArgMember];rfl)) (wpAny_newObj_type ?_ (by size_fits)));simp only [raiseNew];refine zM (wpAny_handled ?_)
 first | rw [show A.in1.handled=none from hh];refine zM (zN (wpAny_throw ?_)) | rw [hh];refine zM (zN (wpAny_throw ?_))
 exact q _ _ (((Heap.SameBut.update ..).extBut.push _).push _) ⟨_,qG _ rfl,rfl⟩
theorem JaZ {z TI TO i1 i2 l1 l2:Addr}{k1 k2:Nat}{xs ys:Array Value}{a b:Value}{Q:Fin->Shared->Prop}(hh:A.handled=none)(D:ZipApart z TI TO i1 i2 l1 l2)(hz:IsZip s.heap z TI TO .none)(hTI:IsPair s.heap TI (.ref i1) (.ref i2))(hTO:IsPair s.heap TO a b)
 (h1:s.heap.IsTupleIter i1 l1 k1) (h2:s.heap.IsTupleIter i2 l2 k2) (hl1:s.heap.IsTuple l1 xs) (hl2:s.heap.IsTuple l2 ys) (hn:xs[k1]?=none\/ys[k2]?=none)
 (q:∀ h' e,(∀ c o,c≠z->c≠TO->c≠i1->c≠i2->s.heap.get? c=some o->h'.get? c=some o)->(∃ o,h'.get? e=some o/\o.cls=.type "StopIteration")->E (.ref e) { s with heap:=h' }):wpAny (model prog w) A (Builtin.«zip.__next__» ⟨[.ref z],[]⟩) Q E s:=by
 show wpAny _ _ (field (.ref z) 2 >>= _) _ _ _;refine zM (wpAny_field hz rfl (x:=.bool false) rfl ?_);show wpAny _ _ (field (.ref z) 3 >>= _) _ _ _;refine zM (wpAny_field hz rfl (x:=.ref TI) rfl (zM (wpAny_seqItems hTI rfl ?_)));show wpAny _ _ (Builtin.SmallTypes.ownedTupleIsFree (.ref z) >>= _) _ _ _;refine zM ?_;unfold Builtin.SmallTypes.ownedTupleIsFree;refine zM (wpAny_field hz rfl (x:=.none) rfl (zN ?_));simp only [if_true];refine zM (wpAny_rule (zM (wpAny_field hz rfl (x:=.ref TO) rfl (zM (wpAny_setField_rec hz (by simp) λg1 z1 e1=>?_)))))
 replace z1:IsZip g1 z TI TO .ellipsis:=z1
 refine zM ?_;simp only [zipIdx_cons,zipIdx_nil,forIn_cons,forIn_nil];refine zM (zM (wpAny_onRaise ?_));show wpAny _ _ (Builtin.SmallTypes.nextOf (.ref i1) >>= _) _ _ _;cases ex:xs[k1]? with
 | none =>
   refine zM (J4g hh (h1.extBut e1.extBut D.i1z) (hl1.extBut e1.extBut D.l1z) ex λg2 e e2 he=>?_);obtain ⟨oe,ho,hc⟩:=he;have z2:IsZip g2 z TI TO .ellipsis:=e2 _ _ (Ne.symm D.i1z) z1;have ne:e≠z:=λx=>by subst x;rw [z2] at ho;cases ho;simp at hc
   exact wpAny_setField_rec z2 (by simp) λg3 _ e3=>q g3 e (λc o c1 _ c3 _ x=>e3.extBut _ _ c1 (e2 _ _ c3 (e1.extBut _ _ c1 x))) ⟨oe,e3.extBut _ _ ne ho,hc⟩
 | some x =>
   have ey:ys[k2]?=none:=by
    rcases hn with h | h
    ·rw [ex] at h;cases h
    ·exact h
   refine zM (J6a (h1.extBut e1.extBut D.i1z) (hl1.extBut e1.extBut D.l1z) ex λg2 it1 e2=>zN ?_);have o2:IsPair g2 TO a b:=e2.extBut _ _ D.TOi1 (e1.extBut _ _ D.TOz hTO);refine zM (wpAny_seqItems o2 rfl (zM (wpAny_updateSeq_pair o2 λg3 o3 e3=>zM (wpAny_letGo (zN ?_)))));refine zM (zM (wpAny_onRaise ?_));show wpAny _ _ (Builtin.SmallTypes.nextOf (.ref i2) >>= _) _ _ _;have it2:g3.IsTupleIter i2 l2 k2:=((h2.extBut e1.extBut D.i2z).extBut e2.extBut (Ne.symm D.i12)).extBut e3.extBut (Ne.symm D.TOi2);have tp2:g3.IsTuple l2 ys:=((hl2.extBut e1.extBut D.l2z).extBut e2.extBut D.l2i1).extBut e3.extBut D.l2TO;refine zM (J4g hh it2 tp2 ey λg4 e e4 he=>?_);obtain ⟨oe,ho,hc⟩:=he;have z4:IsZip g4 z TI TO .ellipsis:=e4 _ _ (Ne.symm D.i2z) (e3.extBut _ _ (Ne.symm D.TOz) (e2.extBut _ _ (Ne.symm D.i1z) z1));have ne:e≠z:=λx=>by subst x;rw [z4] at ho;cases ho;simp at hc
   exact wpAny_setField_rec z4 (by simp) λg5 _ e5=>q g5 e (λc o c1 c2 c3 c4 x=>e5.extBut _ _ c1 (e4 _ _ c4 (e3.extBut _ _ c2 (e2.extBut _ _ c3 (e1.extBut _ _ c1 x))))) ⟨oe,e5.extBut _ _ ne ho,hc⟩
theorem JbX {z TI TO i1 i2 l1 l2:Addr}{k1 k2:Nat}{xs ys:Array Value}{a b:Value}{Q:Option Value->Shared->Prop}(hh:A.handled=none)(D:ZipApart z TI TO i1 i2 l1 l2)(hz:IsZip s.heap z TI TO .none)(hTI:IsPair s.heap TI (.ref i1) (.ref i2))(hTO:IsPair s.heap TO a b)
 (h1:s.heap.IsTupleIter i1 l1 k1) (h2:s.heap.IsTupleIter i2 l2 k2) (hl1:s.heap.IsTuple l1 xs) (hl2:s.heap.IsTuple l2 ys) (hn:xs[k1]?=none\/ys[k2]?=none)
 (q:∀ h',(∀ c o,c≠z->c≠TO->c≠i1->c≠i2->s.heap.get? c=some o->h'.get? c=some o)->Q none { s with heap:=h' }):wpAny (model prog w) A (pyNext (.ref z)) Q E s:=by
 have ty:s.TypeIs (.ref z) "zip":=⟨_,hz,rfl⟩;unfold pyNext;refine zM (wpAny_attempt (wpAny_callSpecial?_slot (name:=Str.ofString "__next__") ty F.slot_zip_next (wpAny_call_entry F.slot_zip_next ty F.entry_zip_next (JaZ hh D hz hTI hTO h1 h2 hl1 hl2 hn λh' e kp ⟨o,ho,hc⟩=>?_) (F.args_zip_next_1 _))));exact zM (wpAny_isInstance (T:="StopIteration") (b:=true) ⟨o,ho,hc⟩ isSubtype_stop (zN (q _ kp)))
end
def Jdx (K:Frag)(a b:Addr):It where
 go:=λi H=>∃ xs ys x y,SqT K H a xs/\SqT K H b ys/\xs[i]?=some x/\ys[i]?=some y
 yld:=λi H v H'=>∃ p x y,H p=none/\v=.ref p/\(∀ zs,SqT K H a zs->zs[i]?=some x)/\(∀ zs,SqT K H b zs->zs[i]?=some y)/\H'=upd H p (.tup [x,y])
 stop:=λi H=>∃ xs ys,SqT K H a xs/\SqT K H b ys/\(xs.length<=i\/ys.length<=i)
theorem turn_zipU {P:Program}{w:World}{K:Frag}{elts:List Expr}{x1:Nat}{tpos:Pos}(z TI TO i1 i2 a b:Addr)(D:ZipApart z TI TO i1 i2 a b) :
 Turn P w K (.Tuple elts x1 tpos) (Jdx K a b) [z,TI,TO,i1,i2] z (λi h=>IsZip h z TI TO .none/\IsPair h TI (.ref i1) (.ref i2)/\(∃ x y,IsPair h TO x y)/\h.IsTupleIter i1 a i/\h.IsTupleIter i2 b i) where
 mem:=by simp
 obj:=λi h st c hc=>by
  obtain ⟨h1,h2,⟨x,y,h3⟩,⟨o4,e4,_,d4⟩,o5,e5,_,d5⟩:=st;simp only [qo,not_mem_nil,or_false] at hc;rcases hc with rfl | rfl | rfl | rfl | rfl
  ·exact ⟨_,h1,λv z=>nomatch z⟩
  ·exact ⟨_,h2,λv z=>nomatch z⟩
  ·exact ⟨_,h3,λv z=>nomatch z⟩
  ·exact ⟨_,e4,λv z=>by rw [d4] at z;cases z⟩
  ·exact ⟨_,e5,λv z=>by rw [d5] at z;cases z⟩
 keep:=λi h h' st k=>by
  obtain ⟨h1,h2,⟨x,y,h3⟩,h4,h5⟩:=st;exact ⟨k z (by simp) _ h1,k TI (by simp) _ h2,⟨x,y,k TO (by simp) _ h3⟩,IsTupleIter.at h4 λo e=>k i1 (by simp) o e,IsTupleIter.at h5 λo e=>k i2 (by simp) o e⟩
 item:=by
  intro X hP hw hK hc i pins s σ H E I hf st hg;subst hP hw hK;obtain ⟨xs,ys,x,y,hqa,hqb,hx,hy⟩:=hg;obtain ⟨ia,ra,pa,_⟩:=I.tuple hqa;obtain ⟨ib,rb,pb,_⟩:=I.tuple hqb;obtain ⟨u,hu,ru⟩:=ra.get hx;obtain ⟨v,hv,rv⟩:=rb.get hy;obtain ⟨h1,h2,⟨ox,oy,h3⟩,h4,h5⟩:=st;have fr:H s.heap.objs.size=none:=I.hok.fresh (zQ _);have pz:s.heap.objs.size≠z:=Nat.ne_of_gt (qH h1);refine J8l D h1 h2 h3 h4 h5 (show s.heap.IsTuple a ia.toArray from pa) (show s.heap.IsTuple b ib.toArray from pb) (x:=u) (y:=v) (by simpa using hu) (by simpa using hv) λh' out to' st1 st2 tup k=>⟨.ref s.heap.objs.size,rfl,?_⟩;refine wpAny_letOwnedTupleGo_zip (s:={ s with heap:=h' }) out λh'' hz' sb=>?_;have kk:∀ c o,c∉[z,TI,TO,i1,i2]->s.heap.get? c=some o->h''.get? c=some o:=λc o hb e =>
   (sb.2 c (λq=>hb (by simp [q]))).trans (k c o (λq=>hb (by simp [q])) (λq=>hb (by simp [q])) (λq=>hb (by simp [q])) (λq=>hb (by simp [q])) e)
  have kt:h''.get? s.heap.objs.size=some { cls:=.type "tuple",data:=.seq #[u,v] }:=(sb.2 _ pz).trans tup;have nt:∀ c w',H c=some w'->c∉[z,TI,TO,i1,i2]:=λc w' e hb=>by
   rw [(hf c hb).1] at e;cases e
  have np:∀ c w',H c=some w'->c≠s.heap.objs.size:=λc w' e q=>by subst q;rw [fr] at e;cases e
  have up:∀ c w',H c=some w'->upd H s.heap.objs.size (.tup [x,y]) c=some w':=λc w' e=>by rw [Jj (np c w' e)];exact e
  have lts:∀ c∈[z,TI,TO,i1,i2],c<s.heap.objs.size:=λc hc=>by
   obtain ⟨o4,e4,_,_⟩:=h4;obtain ⟨o5,e5,_,_⟩:=h5;simp only [qo,not_mem_nil,or_false] at hc;rcases hc with rfl | rfl | rfl | rfl | rfl
   ·exact qH h1
   ·exact qH h2
   ·exact qH h3
   ·exact qH e4
   ·exact qH e5
  refine ⟨.ref s.heap.objs.size,upd H s.heap.objs.size (.tup [x,y]),?_,rfl,⟨_,x,y,fr,rfl,λzs hz=>by rw [I.tuple_inj hz hqa];exact hx,λzs hz=>by rw [I.tuple_inj hz hqb];exact hy,rfl⟩,⟨hz',(sb.2 TI D.TIz).trans (k TI _ D.TIz D.TITO D.TIi1 D.TIi2 h2),⟨u,v,(sb.2 TO D.TOz).trans to'⟩,IsTupleIter.at st1 λo e=>(sb.2 i1 D.i1z).trans e,IsTupleIter.at st2 λo e=>(sb.2 i2 D.i2z).trans e⟩,λc hc=>?_⟩
  ·show Inv X pins σ _ { s with heap:=h'',gens:=s.gens,drawn:=s.drawn,toks:=s.toks }
   refine Inv.step (s:=s) (h':=h'') (t':=s.toks) (g':=s.gens) (d':=s.drawn) (ch:=[z,TI,TO,i1,i2]) I (λc hc=>?_) (λc o _ _ hb e _=>kk c o hb e) (λc o _ _ hb e _=>⟨o.slots,kk c o hb e⟩) (λc o _ e n=>by rw [Jj (zV (qH e))];exact n) (λc o hb e=>⟨o,kk c o hb e⟩)
    (λc zs e=>up c _ e) (λc o w' e=>up c _ e) (λc ps e=>⟨#[],by rw [Array.append_empty];exact up c _ e⟩) (λm hm=>?_) (λc w' e=>?_) I.bare
   ·obtain ⟨f0,f1,f2,f3,f4,f5⟩:=hf c hc
    exact ⟨f3,f1,f4,f5⟩
   ·obtain ⟨o,es,ep,ho,r⟩:=hm
    exact ⟨o,es,ep,kk _ o (λhb=>(hf _ hb).2.1 rfl) ho,r⟩
   ·by_cases q:c=s.heap.objs.size
    ·subst q
     rw [Jd] at e;cases e;exact ⟨Jb (Nat.le_of_ble_eq_true rfl),[u,v],.cons ru (.cons rv .nil),_,kt,rfl,_,rfl⟩
    ·rw [Jj q] at e
     refine (I.hok c w' e).stay (λd o hd y=>kk d o ?_ y) (λd y=>up d _ y) λd zs y=>up d _ y;rcases hd with rfl | hd
     ·exact nt _ _ e
     ·exact nt _ _ hd
  ·rw [Jj (zV (lts c hc))]
   exact (hf c hc).1
 done:=by
  intro X hP hw hK hc i pins s σ H E I hf st hg;subst hP hw hK;obtain ⟨xs,ys,hqa,hqb,hx⟩:=hg;obtain ⟨ia,ra,pa,_⟩:=I.tuple hqa;obtain ⟨ib,rb,pb,_⟩:=I.tuple hqb;obtain ⟨h1,h2,⟨ox,oy,h3⟩,h4,h5⟩:=st;have la:=ra.length;have lb:=rb.length;refine JbX (I.ok.hd hc) D h1 h2 h3 h4 h5 (show s.heap.IsTuple a ia.toArray from pa) (show s.heap.IsTuple b ib.toArray from pb) (by
   rcases hx with hx | hx
   ·left;simp;omega
   ·right;simp;omega) λh' k=>⟨rfl,?_⟩
  have kk:∀ c o,c∉[z,TI,TO,i1,i2]->s.heap.get? c=some o->h'.get? c=some o:=λc o hb e =>
   k c o (λq=>hb (by simp [q])) (λq=>hb (by simp [q])) (λq=>hb (by simp [q])) (λq=>hb (by simp [q])) e
  have nt:∀ c w',H c=some w'->c∉[z,TI,TO,i1,i2]:=λc w' e hb=>by
   rw [(hf c hb).1] at e;cases e
  show Inv X pins σ _ { s with heap:=h',gens:=s.gens,drawn:=s.drawn,toks:=s.toks };refine Inv.step (s:=s) (h':=h') (t':=s.toks) (g':=s.gens) (d':=s.drawn) (ch:=[z,TI,TO,i1,i2]) I (λc hc=>?_) (λc o _ _ hb e _=>kk c o hb e) (λc o _ _ hb e _=>⟨o.slots,kk c o hb e⟩) (λ_ _ _ _ n=>n) (λc o hb e=>⟨o,kk c o hb e⟩)
   (λ_ _ e=>e) (λ_ _ _ e=>e) (λc ps e=>⟨#[],by rw [Array.append_empty];exact e⟩) (λm hm=>?_) (λc w' e=>?_) I.bare
  ·obtain ⟨f0,f1,f2,f3,f4,f5⟩:=hf c hc
   exact ⟨f3,f1,f4,f5⟩
  ·obtain ⟨o,es,ep,ho,r⟩:=hm
   exact ⟨o,es,ep,kk _ o (λhb=>(hf _ hb).2.1 rfl) ho,r⟩
  ·refine (I.hok c w' e).stay (λd o hd y=>kk d o ?_ y) (λd y=>y) λd zs y=>y
   rcases hd with rfl | hd
   ·exact nt _ _ e
   ·exact nt _ _ hd
 self:=λ_ _ _ _ _ st h=>wpAny_pyIter_zip st.1 h
section
variable {X:Cx}
def J9h (K:Frag)(ta:TA):TI:=λσ H R=>ta σ H λvs H1=>∃ a b,vs=[.ref a,.ref b]/\(∃ xs,SqT K H1 a xs)/\(∃ ys,SqT K H1 b ys)/\R (Jdx K a b) H1
theorem Jfl {K:Frag}{a b:Expr}{ta:TA}{p pos tpos:Pos}{elts:List Expr}{x1:Nat}(e:X.K=K)(hg:Gl X "zip")(hm:X.mg "zip"=none)(ha:PA X [a,b] ta)(hn:JB a=true)(hn2:JB b=true):PI X (.Tuple elts x1 tpos) (.Call (.Name "zip" p) [a,b] [] pos) (J9h K ta):=by
 subst e;intro pins s σ H R I h;refine Call_ (J23 I hg hm J9u (PyProof.Rows.callWith_type1 (thn (ha pos pins s σ H _ I h) λus s1 ⟨vs,H1,I1,r1,q1⟩=>?_) (JG hn) (by rw [JG hn2];rfl)));obtain ⟨l,m,e,⟨xs,hq⟩,⟨ys,hq2⟩,q⟩:=q1;subst e;obtain ⟨u,v,rfl,ru,rv⟩:=J5z r1;cases (show u=Value.ref l from ru);cases (show v=Value.ref m from rv);obtain ⟨ia,ra,pa,_⟩:=I1.tuple hq;obtain ⟨ib,rb,pb,_⟩:=I1.tuple hq2;have la:l<s1.heap.objs.size:=by obtain ⟨o,e,_⟩:=pa;exact qH e
 have lb:m<s1.heap.objs.size:=by obtain ⟨o,e,_⟩:=pb;exact qH e
 refine J7e (show s1.heap.IsTuple l ia.toArray from pa) (show s1.heap.IsTuple m ib.toArray from pb) λh' hz hTI hTO st1 st2 k=>?_;refine wpAny_pyIter_zip (s:={ s1 with heap:=h' }) hz ?_;refine ⟨s1.heap.objs.size+4,[s1.heap.objs.size+4,s1.heap.objs.size+2,s1.heap.objs.size+3,s1.heap.objs.size,s1.heap.objs.size+1],_,_,H1,rfl,I1.kept (t':=s1.toks) k,turn_zipU _ _ _ _ _ l m ?_,⟨hz,hTI,⟨_,_,hTO⟩,st1,st2⟩,λc hc=>?_,q⟩
 ·have la':Nat.lt l s1.heap.objs.size:=la
  have lb':Nat.lt m s1.heap.objs.size:=lb;generalize s1.heap.objs.size=N at *;constructor<;>first | exact zV (by simp only [Nat.lt_eq] at *;omega) | exact Nat.ne_of_gt (by simp only [Nat.lt_eq] at *;omega)
 ·have hle:s1.heap.objs.size<=c:=by
   simp only [qo,not_mem_nil,or_false] at hc;rcases hc with rfl | rfl | rfl | rfl | rfl
   ·exact Nat.le_add_right _ _
   ·exact Nat.le_add_right _ _
   ·exact Nat.le_add_right _ _
   ·exact zQ _
   ·exact Nat.le_add_right _ _
  exact I1.fpOk hle (I1.hok.fresh hle)
end
theorem ForW.zipU {K:Frag}{a b:Addr}{xs ys:List V}{g:TG}{tb:TS}{D:Ends}{σ:St}{H:Hp}(Pv:Nat->St->Hp->Prop)(h0:Pv 0 σ H)(hl:∀ i σ H,Pv i σ H->SqT K H a xs/\SqT K H b ys)
 (hs:∀ (i:Nat) x y σ H p,xs[i]?=some x->ys[i]?=some y->Pv i σ H->H p=none->g (.ref p) σ (upd H p (.tup [x,y])) λσ2 H2=>tb { D with nx:=Pv (i+1),ct:=Pv (i+1),bk:=D.nx } σ2 H2)
 (hd:∀ σ H,Pv (min xs.length ys.length) σ H->D.nx σ H):ForW (Jdx K a b) g tb D σ H:=by
 refine ⟨λi m σ H=>Pv i σ H/\i<=min xs.length ys.length/\m=min xs.length ys.length - i,⟨_,h0,zZ _,rfl⟩,λi m σ H ⟨h1,h2,h3⟩=>?_⟩;obtain ⟨sa,sb⟩:=hl i σ H h1;by_cases e:i=min xs.length ys.length
 ·subst e
  exact .inl ⟨⟨xs,ys,sa,sb,by omega⟩,hd σ H h1⟩
 ·have lt:i<min xs.length ys.length:=Nat.lt_of_le_of_ne h2 e
  have lx:i<xs.length:=by omega
  have ly:i<ys.length:=by omega
  refine .inr ⟨⟨xs,ys,xs[i],ys[i],sa,sb,qc lx,qc ly⟩,Pv (i+1),λσ' H' z=>⟨min xs.length ys.length - (i+1),by omega,z,lt,rfl⟩,λv H' hy=>?_⟩;obtain ⟨p,x',y',hp,rfl,hx,hy,rfl⟩:=hy;exact hs i x' y' σ H p (hx xs sa) (hy ys sb) h1 hp
theorem JbQ {K:Frag}{a b:Addr}{xs ys:List V}{g:TG}{tt:TT}{te:TE}{fin:List V->Hp->Prop}{σ:St}{H:Hp}(hz:xs.length<=sizeLine)(Pv:Nat->List V->St->Hp->Prop)(h0:Pv 0 [] σ H)(hl:∀ i zs σ H,Pv i zs σ H->(SqT K H a xs/\SqT K H b ys)/\zs.length<=i)
 (hs:∀ (i:Nat) x y zs σ H p,xs[i]?=some x->ys[i]?=some y->Pv i zs σ H->H p=none->g (.ref p) σ (upd H p (.tup [x,y])) λσ2 H2=>tt σ2 H2 λb H3=>if b=true then te σ2 H3 λy H4=>Pv (i+1) (zs++[y]) σ2 H4 else Pv (i+1) zs σ2 H3)
 (hd:∀ zs σ H,Pv (min xs.length ys.length) zs σ H->fin zs H):J6r (Jdx K a b) g tt te fin σ H:=by
 refine ⟨λi m zs σ H=>m=min xs.length ys.length - i/\i<=min xs.length ys.length/\Pv i zs σ H,⟨_,rfl,zZ _,h0⟩,?_⟩;rintro i m zs σ H ⟨rfl,hi,p⟩;obtain ⟨⟨sa,sb⟩,hy⟩:=hl i zs σ H p;by_cases e:i=min xs.length ys.length
 ·subst e
  exact .inl ⟨⟨xs,ys,sa,sb,by omega⟩,hd zs σ H p⟩
 ·have lt:i<min xs.length ys.length:=Nat.lt_of_le_of_ne hi e
  have lx:i<xs.length:=by omega
  have ly:i<ys.length:=by omega
  refine .inr ⟨⟨xs,ys,xs[i],ys[i],sa,sb,qc lx,qc ly⟩,by omega,Pv (i+1),λzs' σ' H' z=>⟨min xs.length ys.length - (i+1),by omega,rfl,lt,z⟩,λv H' hv=>?_⟩;obtain ⟨q,x',y',hq,rfl,hx,hy,rfl⟩:=hv;exact hs i x' y' zs σ H q (hx xs sa) (hy ys sb) p hq
theorem Jaj:typeLookup (.type "list_reverseiterator") (Str.ofString "__len__")=pure none:=by rw [typeLookup_type,builtinLookup_eq_fast];kernel_rfl
theorem JcS:typeLookup (.type "list_reverseiterator") (Str.ofString "__length_hint__")=pure (some (.builtin "list_reverseiterator.__length_hint__")):=by rw [typeLookup_type,builtinLookup_eq_fast];kernel_rfl
section
variable {prog:Program}{w:World}{A:Around}{E:Value->Shared->Prop}{s:Shared}
theorem J5y {it l:Addr}{i:Int}{Q:Bool->Shared->Prop}(hit:s.heap.IsRevIter it l i)(h:Q false s):wpAny (model prog w) A (Builtin.List.listLengthHint (.ref it)) Q E s:=by
 unfold Builtin.List.listLengthHint;refine zM (wpAny_specialOf hit.typeIs Jaj ?_);show wpAny _ A (specialOf (Value.ref it) (Str.ofString "__length_hint__") >>= _) _ _ _;refine zM (wpAny_specialOf hit.typeIs JcS ?_);generalize hid:("list_reverseiterator.__length_hint__":String)=id0
 wp_delta
 rw [show splitId id0=some ("list_reverseiterator","__length_hint__") from by subst hid;decide +kernel];subst hid;refine zM (wpAny_isInstance (T:="list_reverseiterator") (b:=true) hit.typeIs (by rw [isSubtype_type];kernel_rfl) ?_);refine wpAny_ite_split (λhab=>absurd hab (by decide)) (λ_=>?_);refine wpAny_ite_split (λ_=>?_) (λhab=>absurd (by decide +kernel) hab);exact wpAny_ite_split (λhab=>absurd hab (by decide)) (λ_=>zN h)
theorem J4q {R:Result->Shared->Prop}{it l:Addr}{items:Array Value}(hh:A.handled=none)(hit:s.heap.IsRevIter it l ((items.size:Int) - 1))(hl:s.heap.IsList l items)(hlen:items.size<=sizeLine)(S:Addr)(res:Value)(c₀:Nat)
 (hS:s.heap.get? S=some { cls:=.type "list",data:=.seq #[] c₀ }) (hSl:S≠l)
 (hR:∀ h' tk acc' c',(∀ b o,b≠S->b≠it->s.heap.get? b=some o->h'.get? b=some o)->h'.get? S=some { cls:=.type "list",dict:=none,data:=.seq acc' c',slots:=#[] } ->
  ItemsOf (λi v=>items[items.size - 1 - i]?=some v) acc' items.size->R (.ok (.ret res)) { s with heap:=h',toks:=tk }) :
 wpAny (model prog w) A.in1 (Builtin.List.listExtendWith (.ref S) (.ref it) res)
  (λfin s'=>match fin with | .done f=>R (.ok f) s' | .again c'=>c'.quiet=true/\codeAny (model prog w) A c' R s') (λe s'=>R (.error e) s') s:=by
 have hSi:S≠it:=λe=>by
  obtain ⟨o,ho,hc,_⟩:=hit;rw [<- e,hS] at ho;cases ho;injection hc with hc
  exact absurd hc (by decide)
 have hne:l≠it:=λe=>by
  obtain ⟨o,ho,hc,_⟩:=hit;obtain ⟨o',ho',hc',_⟩:=hl;rw [e,ho] at ho';cases ho';rw [hc] at hc';injection hc' with hc'
  exact absurd hc' (by decide)
 have W:=(Walks.listRev (prog:=prog) (w:=w) (A:=A.in1) hh it l hne items).toS;have hSf:S∉[it,l]:=λhm=>by
  rcases qo.mp hm with e | e
  ·exact hSi e
  ·exact hSl (qf.mp e)
 unfold Builtin.List.listExtendWith;refine zM (wpAny_typeOf (T:="list_reverseiterator") hit.typeIs ?_);have h1:Builtin.List.listSameRef (.ref S) (.ref it)=false:=by simp [Builtin.List.listSameRef,hSi]
 have h2:(Value.type "list_reverseiterator" == Value.type "list")=false:=by decide
 have h3:(Value.type "list_reverseiterator" == Value.type "tuple")=false:=by decide
 simp only [h1,h2,h3,Bool.or_false,Bool.false_eq_true,if_false];refine zM (wpAny_pyIter_revIter hit ?_);refine zM (wpAny_holding (J5y hit ?_));refine wpAny_ite_split (λhab=>absurd hab (by decide)) (λ_=>zN ⟨plainId_quiet F.plain_extend_loop _,?_⟩);refine codeAny_extend_loopS W hlen S hSf res items.size 0 _ #[] c₀ rfl (zZ _) ⟨zZ _,by simpa using hit,hl⟩ hS (ItemsOf.nil _) λs' acc' c' hm hS' hacc=>?_;rw [Moved.eq_with hm];refine hR s'.heap s'.toks acc' c' (λb o hb hb2 e=>hm.heap b o (λhmem=>?_) e) hS' hacc;rcases qo.mp hmem with e' | hmem
 ·exact hb e'
 ·exact hb2 (qf.mp hmem)
theorem J3w {R:Result->Shared->Prop}{it l:Addr}{items:Array Value}(hh:A.handled=none)(hit:s.heap.IsRevIter it l ((items.size:Int) - 1))(hl:s.heap.IsList l items)(hlen:items.size<=sizeLine)(S:Addr)
 (hS:s.heap.get? S=some { cls:=.type "list",data:=.seq #[] }) (hSl:S≠l)
 (hR:∀ h' tk acc' c',(∀ b o,b≠S->b≠it->s.heap.get? b=some o->h'.get? b=some o)->h'.get? S=some { cls:=.type "list",dict:=none,data:=.seq acc' c',slots:=#[] } ->
  ItemsOf (λi v=>items[items.size - 1 - i]?=some v) acc' items.size->R (.ok (.ret .none)) { s with heap:=h',toks:=tk }) :
 wpAny (model prog w) A.in1 (Builtin.«list.__init__» ⟨[.ref S,.ref it],[]⟩)
  (λfin s'=>match fin with | .done f=>R (.ok f) s' | .again c'=>c'.quiet=true/\codeAny (model prog w) A c' R s') (λe s'=>R (.error e) s') s:=by
 have hSi:it≠S:=λe=>by
  obtain ⟨o,ho,hc,_⟩:=hit;rw [e,hS] at ho;cases ho;injection hc with hc
  exact absurd hc (by decide)
 show wpAny _ _ (do let old <- Builtin.List.listItems (.ref S);Builtin.List.listUpdate (.ref S) (λ_=>#[]);letGo old.toList.reverse;Builtin.List.listExtendWith (.ref S) (.ref it) .none) _ _ s;refine zM ?_;unfold Builtin.List.listItems;refine zM (wpAny_seqItems hS rfl (zN ?_));show wpAny _ _ (updateSeq S (λ_=>#[]) >>= λ_=>letGo (#[]:Array Value).toList.reverse >>= λ_=>Builtin.List.listExtendWith (.ref S) (.ref it) .none) _ _ s;refine zM (wpAny_updateSeq hS rfl ?_);have hS₂:=Heap.get?_update_self (Obj.mapSeq (λ_=>(#[]:Array Value))) hS rfl;have oth:∀ b o,b≠S->s.heap.get? b=some o->(s.heap.update S (Obj.mapSeq (λ_=>(#[]:Array Value)))).get? b=some o :=
  λb o hb e=>(qI _ _ (Ne.symm hb)).trans e
 refine zM (wpAny_letGo ?_);refine J4q hh (hit.at λo e=>oth it o hSi e) (hl.at λo e=>oth l o (Ne.symm hSl) e) hlen S .none _ hS₂ hSl λh' tk acc' c' hk hS' hacc=>?_;exact hR h' tk acc' c' (λb o hb hb2 e=>hk b o hb hb2 (oth b o hb e)) hS' hacc
theorem J6L {Q:Value->Shared->Prop}{it l:Addr}{items:Array Value}(hh:A.handled=none)(hit:s.heap.IsRevIter it l ((items.size:Int) - 1))(hl:s.heap.IsList l items)(hlen:items.size<=sizeLine)
 (hQ:∀ h' tk acc' c',(∀ b o,b≠it->s.heap.get? b=some o->h'.get? b=some o) ->
  h'.get? s.heap.objs.size=some { cls:=.type "list",dict:=none,data:=.seq acc' c',slots:=#[] }->ItemsOf (λi v=>items[items.size - 1 - i]?=some v) acc' items.size->Q (.ref s.heap.objs.size) { s with heap:=h',toks:=tk }) :
 wpAny (model prog w) A (call (.type "list") [.ref it]) Q E s:=by
 refine callType_codes (Q₁:=λobj s₁=>obj=.ref s.heap.objs.size/\s₁={ s with heap:=s.heap.push { cls:=.type "list",data:=.seq #[] } }) F.called_list (F.typeCall_list_1 _) F.entry_list_init
  (code_list_new _ ⟨rfl,rfl⟩) λobj s₁ h₁=>?_
 obtain ⟨rfl,rfl⟩:=h₁;have hS:(s.heap.push { cls:=.type "list",data:=.seq #[] }).get? s.heap.objs.size=some { cls:=.type "list",data:=.seq #[] }:=qG _ rfl;have hSl:s.heap.objs.size≠l:=λe=>by
  obtain ⟨o,ho,_⟩:=hl;exact absurd (qH ho) (by rw [<- e];exact Nat.lt_irrefl _)
 refine ⟨⟨_,hS,rfl⟩,F.args_list_init_2 _ _,J3w (A:=A.in1) hh (hit.at λo e=>qF _ e) (hl.at λo e=>qF _ e) hlen _ hS hSl λh' tk acc' c' hk hS' hacc=>?_⟩;exact ⟨rfl,hQ h' tk acc' c' (λb o hb e=>hk b o (zV (qH e)) hb (qF _ e)) hS' hacc⟩
end
section
variable {X:Cx}{K:Frag}{e:Expr}{te:TE}{p1 p2 q1 q2:Pos}
def Jc6 (K:Frag)(te:TE):TE:=λσ H Q=>te σ H λx H1=>∃ l xs,x=.ref l/\SqL K H1 l xs/\∀ D,H1 D=none->Q (.ref D) (upd H1 D (.lst xs.reverse))
theorem Ja5 (ek:X.K=K)(hc:X.calm=true)(hm1:X.mg "list"=none)(hm2:X.mg "reversed"=none)(hg1:Gl X "list")(hg2:Gl X "reversed")(hs:JB e=true)(he:PE X e te):PE X (.Call (.Name "list" p1) [.Call (.Name "reversed" p2) [e] [] q2] [] q1) (Jc6 K te):=by
 subst ek;intro pins s σ H Q I h;refine wpAny_Call_Name_kw (J23 I hg1 hm1 J1r ?_ (by decide) (by decide));refine PyProof.Rows.callWith_type1 ?_ (JG rfl) (J0u rfl);rw [JG (e:=.Call (.Name "reversed" p2) [e] [] q2) (es:=[]) rfl];refine Calls.spliced_cons (wpAny_Call_Name_kw (J23 I hg2 hm2 boot_reversed ?_ (by decide) (by decide)));refine PyProof.Rows.callWith_type1 ?_ (JG hs) (J0u rfl);rw [JG (e:=e) (es:=[]) hs];refine Calls.spliced_cons (thn (he pins s σ H _ I h) λu s1 ⟨x,H1,I1,r1,q1⟩=>Calls.spliced_nil ?_);obtain ⟨l,xs,rfl,hq,q⟩:=q1;cases r1;obtain ⟨its,r,pl,hz⟩:=I1.list hq;have hl:=pl.isList;refine call_reversed_list hl (Calls.spliced_nil ?_);have hlen:its.toArray.size<=sizeLine:=by rw [qg,<- r.length];exact hz
 have hit:(s1.heap.push (revObj l ((its.toArray.size:Int) - 1))).IsRevIter s1.heap.objs.size l ((its.toArray.size:Int) - 1):=⟨_,qG _ rfl,rfl,rfl⟩;have hl2:(s1.heap.push (revObj l ((its.toArray.size:Int) - 1))).IsList l its.toArray:=hl.at λo e=>qF _ e;refine J6L (s:={ s1 with heap:=s1.heap.push (revObj l ((its.toArray.size:Int) - 1)) }) (I1.ok.hd hc) hit hl2 hlen λh' tk acc c' hk hS hacc=>?_;have hsz:(s1.heap.push (revObj l ((its.toArray.size:Int) - 1))).objs.size=s1.heap.objs.size+1:=Heap.size_push ..;dsimp only at hS ⊢;rw [hsz] at hS ⊢;have hsz2:acc.size=its.length:=by have:=hacc.1;simpa using this
 have ea:acc.toList=its.reverse:=by
  refine ext_getElem? λj=>?_;rw [Array.getElem?_toList];by_cases hj:j<acc.size
  ·have e1:=hacc.2 j _ (Array.getElem?_eq_getElem hj)
   rw [Array.getElem?_eq_getElem hj,<- e1,List.getElem?_toArray,List.getElem?_reverse (by omega)];simp
  ·rw [Array.getElem?_eq_none (by omega),List.getElem?_eq_none (by rw [length_reverse];omega)]
 refine ⟨.ref (s1.heap.objs.size+1:Nat),_,I1.laid (t':=tk) (o:=.lst xs.reverse) (λb o e=>hk b o (zV (qH e)) (qF _ e)) (Nat.le_succ _) ?_,rfl,q _ (I1.hok.fresh (Nat.le_succ _))⟩;exact ⟨by rw [length_reverse];exact hz,acc.toList,c',by rw [ea];exact r.reverse,by rw [Array.toArray_toList];exact hS⟩
end
end L2
namespace PySem
section
variable {prog:Program}{w:World}{K:Type}[DecidableEq K]{knd:HeapKind prog w K}{A:Around}{E:Value->Shared->Prop}{s:Shared}
def lessH (xs:List (K×Addr×Value))(k:K):List (K×Addr×Value):=xs.filter λx=>decide (x.1≠k)
theorem JbC {xs:List (K×Addr×Value)}{k:K}:∀ {j:Nat} {p:Addr×Value},(xs.map (·.1)).Nodup->xs[j]?=some (k,p)->lessH xs k=xs.eraseIdx j:=by
 induction xs with
 | nil=>intro j p _ h;simp at h
 | cons x r ih =>
   intro j p hn h;rw [qp,nodup_cons] at hn;cases j with
   | zero =>
     rw [List.getElem?_cons_zero] at h;obtain rfl:=zU h;have e:lessH r k=r:=filter_eq_self.mpr λy hy=>zS λz=>hn.1 (qy.mpr ⟨y,hy,z⟩);unfold lessH at e ⊢;rw [filter_cons,zO (by simp),e,eraseIdx_cons_zero]
   | succ j =>
     rw [List.getElem?_cons_succ] at h;have hx:x.1≠k:=λz=>hn.1 (z ▸ qy.mpr ⟨_,qi h,rfl⟩);have e:=ih hn.2 h;unfold lessH at e ⊢;rw [filter_cons,zP (zS hx),e,eraseIdx_cons_succ]
theorem JaV {α β:Type}(f:α->β):∀ (l:List α) (j:Nat),(l.map f).eraseIdx j=(l.eraseIdx j).map f
 | [],_=>rfl
 | _::_,0=>rfl
 | _::l,j+1=>congrArg _ (JaV f l j)
theorem Jc4 {d a:Addr}{xs:List (K×Addr×Value)}{k:K}{Q:Option DictEntry->Shared->Prop}(hu:knd.room A)(hkey:knd.is s.heap k a)(hm:s.heap.DictOfH knd d xs)(hz:xs.length<=sizeLine)
 (q0:atKey xs k=none->Q none { s with toks:=s.toks+knd.draws k })
 (q1:∀ e h',(atKey xs k).map (·.2)=some e.val->h'.DictOfH knd d (lessH xs k)->Heap.SameBut d s.heap h'->Q (some e) { s with heap:=h',toks:=s.toks+knd.draws k }) :
 wpAny (model prog w) A (Builtin.Dict.takeOut d (.ref a)) Q E s:=by
 obtain ⟨o,es,ep,ho,hc,hd,he,his,hn⟩:=hm;have hes:es.size<=sizeLine:=by rw [size_of_entries he];exact hz
 unfold Builtin.Dict.takeOut
 try with_reducible refine wpAny_holding ?_
 refine zM (knd.pyHash hu hkey (zM (wpAny_dictFind_heap (s:={ s with toks:=s.toks+knd.draws k }) hu hkey ho hd he his hn (λno=>?_) λj p hj=>?_)))
 ·exact zN (q0 (atKey_none_of_get no))
 ·have ej:es[j]?=some (entryOfKey knd (k,p)):=by rw [entry_at he j,hj];rfl
  refine zM (wpAny_dictEntries (s:={ s with toks:=s.toks+knd.draws k }) ho hd ?_);rw [ej];refine zM (wpAny_updateDictKeys (hz:=hes) (s:={ s with toks:=s.toks+knd.draws k }) ho hd (zN (q1 _ _ (by rw [atKey_of_get hn hj];rfl) ⟨_,_,ep+1,Heap.get?_update_self _ ho (Obj.isFreed_of_dict (Obj.data_mapDictKeys hd _)),hc.mapDictKeys _,Obj.data_mapDictKeys hd _,?_,λx hx=>?_,?_⟩ (Heap.SameBut.update ..))))
  ·rw [JbC hn hj]
   obtain ⟨l⟩:=es;have he':l=xs.map (entryOfKey knd):=he;have z:((⟨l⟩:Array DictEntry).eraseIdxIfInBounds j).toList=l.eraseIdx j:=by simp
   rw [z,he',JaV]
  ·exact knd.keeps (his x (mem_filter.mp hx).1) ho hd (Heap.SameBut.update ..)
  ·exact List.Nodup.sublist (List.Sublist.map _ filter_sublist) hn
end
end PySem
namespace L2
open PySem
theorem KT.less {H:Hp}{kvs:List (List Ji×V)}{xs:List (List Ji×Addr×Value)}(r:KT H kvs xs)(k:List Ji):KT H (J2D kvs k) (PySem.lessH xs k):=by
 unfold KT at r ⊢
 induction r with
 | nil=>exact .nil
 | @cons x y l m h t ih =>
   unfold J2D PySem.lessH at ih ⊢;rw [filter_cons,filter_cons];by_cases c:x.1=k
   ·rw [zO (by simpa using c),zO (by simpa using h.1.symm.trans c)]
    exact ih
   ·rw [zP (zS c),zP (show decide (y.1≠k)=true from zS λz=>c (h.1.trans z))]
    exact .cons h ih
section
variable {X:Cx}
theorem J98 {o:Option V}(r:RelO o none):o=none:=by
 cases o with
 | none=>rfl
 | some v=>exact r.elim
def J5Z:V->List V->Hp->VK->Prop:=λx vs H Q=>∃ d kvs k b more,x=.ref d/\vs=.ref b::more/\H d=some (.dT kvs)/\H b=some (.tup (k.map nV)) /\
 (more=[]\/∃ z,more=[z])/\(∀ v,Jy kvs k=some v->Q v (upd H d (.dT (J2D kvs k))))/\(Jy kvs k=none->∃ z,more=[z]/\Q z H)
theorem d_popT {pins:List (Addr×Obj)}{σ:St}{H:Hp}{s:Shared}{a b:Addr}{kvs:List (List Ji×V)}{k:List Ji}{A:Around}{E:Value->Shared->Prop}{more:List Value}{Q:Value->Shared->Prop}(hu:A.units+1<cLine)(I:Inv X pins σ H s)(e:H a=some (.dT kvs))(eb:H b=some (.tup (k.map nV)))(hm:more=[]\/∃ x,more=[x])
 (h1:∀ v w' s',Jy kvs k=some v->Inv X pins σ (upd H a (.dT (J2D kvs k))) s'->RelV v w'->Q w' s') (h0:Jy kvs k=none->∃ x,more=[x]/\∀ s',Inv X pins σ H s'->Q x s'):wpAny (model X.prog X.w) A (call (.builtin "dict.pop") (.ref a::.ref b::more)) Q E s:=by
 obtain ⟨z,hd,xs,rel,dd⟩:=JaS I.hok e;have hz:xs.length<=sizeLine:=by rw [<- Paired.length rel];exact z
 have ha:argsOk "dict.pop" ⟨.ref a::.ref b::more,[]⟩:=by
  rcases hm with q | ⟨x,q⟩
  ·subst q;exact PySem.F.args_dict_pop_2 _ _
  ·subst q;exact PySem.F.args_dict_pop_3 _ _ _
 have kk:=J32 I.hok eb;have ty:s.TypeIs (.ref a) "dict":=by
  obtain ⟨o,es,ep,ho,hc,_⟩:=dd;exact ⟨o,ho,hc.1⟩
 have kp:keyPart (.ref b)=none:=rfl;have new:∀ h' t',h'.DictOfH (tupleKind (J0b X.prog X.w)) a (PySem.lessH xs k)->Heap.SameBut a s.heap h'->Inv X pins σ (upd H a (.dT (J2D kvs k))) { s with heap:=h',toks:=t' }:=λh' t' dd' hs=>by
  obtain ⟨q,es,ep,hq,h2,h3,h4,_,h5⟩:=dd';refine J3t I (by rw [e];exact True.intro) hs ⟨q,hq⟩ ⟨z9 (J9p kvs k) z,hd,_,(KT.less rel k).keeps λc ys ec=>?_,q,es,ep,hq,h2,h3,h4,h5⟩;rw [Jj (J0S ec e (λz=>nomatch z))];exact ec
 have rv:=rel.val k;refine call_meetsIn (S:=λA' R s'=>A'=A/\s'=s/\∀ r s2,Q r s2->R (.ok (.ret r)) s2) PySem.F.slot_dict_pop ty PySem.F.entry_dict_pop ha (.of_wp λA' R s' ⟨hA,es,hR⟩=>?_) ⟨rfl,rfl,λr s2 q=>q⟩;subst es hA;have room:(tupleKind (J0b X.prog X.w)).room A'.in1:=tupleKind_room_in1 hu;obtain ⟨o,ess,ep,ho,hc,hda,he,his,hn⟩:=id dd
 have go : ∀ dflt:Option Value,(more=[]/\dflt=none\/∃ x,more=[x]/\dflt=some x)->wpAny (model X.prog X.w) A'.in1 (do
  let empty <- if (keyPart (.ref b)).isSome then pure false else do pure (<- dictEntries a).isEmpty
  let old <- if empty then do rule "dict.pop.empty";pure none else Builtin.Dict.takeOut a (.ref b)
  if old.isNone then Builtin.Dict.missedRemoval a (.ref b)
  match old,dflt with
  | some e,_=>do letGo [e.key] [e.val];ret e.val
  | none,some x=>do rule "dict.pop.default";ret x
  | none,none=>do rule "dict.pop.keyerror";raiseNew (<- newExc (.type "KeyError") [.ref b])) (λfin s''=>∃ v,fin=.done (.ret v)/\R (.ok (.ret v)) s'') (λe s''=>R (.error e) s'') s':=by
  intro dflt hdf;have none_end:∀ t',Jy kvs k=none->wpAny (model X.prog X.w) A'.in1 (do
   Builtin.Dict.missedRemoval a (.ref b)
   match (none:Option DictEntry),dflt with
   | some e,_=>do letGo [e.key] [e.val];ret e.val
   | none,some x=>do rule "dict.pop.default";ret x
   | none,none=>do rule "dict.pop.keyerror";raiseNew (<- newExc (.type "KeyError") [.ref b])) (λfin s''=>∃ v,fin=.done (.ret v)/\R (.ok (.ret v)) s'') (λe s''=>R (.error e) s'') { s' with toks:=t' }:=λt' no=>by
   obtain ⟨x,ex,q⟩:=h0 no;rcases hdf with ⟨e1,_⟩ | ⟨x',e1,rfl⟩
   ·rw [e1] at ex;cases ex
   ·rw [e1] at ex
    cases ex;refine zM (wpAny_missedRemoval_other hd ?_);exact zM (wpAny_rule (zN ⟨x,rfl,hR _ _ (q _ (I.tok _))⟩))
  simp only [kp,Option.isSome_none,Bool.false_eq_true,if_false];refine zM (wpAny_dictEntries ho hda (zM (zN ?_)));by_cases em:ess.isEmpty=true
  ·rw [zP em]
   have no:Jy kvs k=none:=by
    have:xs=[]:=by
     have:=size_of_entries he;rw [Array.isEmpty_iff_size_eq_zero] at em;exact length_eq_zero_iff.mp (by omega)
    subst this;exact J98 rv
   refine zM (wpAny_rule (zM (zN ?_)));simp only [Option.isNone_none,if_true];exact none_end s'.toks no
  ·rw [zO em]
   refine zM (Jc4 room kk dd hz (λhno=>?_) λe h' hev hd' hs'=>?_)
   ·simp only [Option.isNone_none,if_true]
    exact none_end _ (J98 (by rw [hno] at rv;exact rv))
   ·simp only [Option.isNone_some,Bool.false_eq_true,if_false]
    rw [hev] at rv;obtain ⟨v,hv,rv'⟩:∃ v,Jy kvs k=some v/\RelV v e.val:=by
     cases q:Jy kvs k with
     | none=>rw [q] at rv;exact rv.elim
     | some v=>rw [q] at rv;exact ⟨v,rfl,rv⟩
    exact zM (wpAny_letGo (zN ⟨e.val,rfl,hR _ _ (h1 v _ _ hv (new _ _ hd' hs') rv')⟩))
 unfold Builtin.«dict.pop»;refine zM ?_;unfold Builtin.Dict.keyAndDefault;refine zM (wpAny_notOrdered_dict ty ?_);rcases hm with q | ⟨x,q⟩
 ·subst q
  show wpAny _ _ (pure (a,Value.ref b,none)) _ _ _;exact zN (go none (.inl ⟨rfl,rfl⟩))
 ·subst q
  show wpAny _ _ (pure (a,Value.ref b,some x)) _ _ _;exact zN (go (some x) (.inr ⟨x,rfl,rfl⟩))
theorem mt_dpopT (hu:X.A.units+1<cLine):MtR X "dict.pop" J5Z:=by
 intro pins s σ H x vs v us Q I rx rv h;obtain ⟨d,kvs,k,b,more,rfl,rfl,hH,hb,hm,q1,q0⟩:=h;cases rx;cases rv with
 | cons r1 r2 =>
   cases (show _=Value.ref b from r1);refine d_popT hu I hH hb ?_ (λv w' s' hv I' rw'=>⟨v,_,I',rw',q1 v hv⟩) λno=>?_
   ·rcases hm with rfl | ⟨z,rfl⟩
    ·cases r2
     exact .inl rfl
    ·obtain ⟨u,rfl,_⟩:=J0N r2
     exact .inr ⟨u,rfl⟩
   ·obtain ⟨z,rfl,q⟩:=q0 no
    obtain ⟨u,rfl,ru⟩:=J0N r2;exact ⟨u,rfl,λs' I'=>⟨z,_,I',ru,q⟩⟩
end
end L2
namespace L2
open PySem PySem.W PyProof PyProof.Rows
section
variable {X:Cx}
theorem JdP (i j:Int):J5Q (.int i) (.int j)=true:=rfl
theorem JdQ (i j:Bool):J5Q (.bl i) (.bl j)=true:=rfl
theorem JdO (i j:Str):J5Q (.str i) (.str j)=true:=rfl
def J9i (K:Frag)(ta:TA):TI:=λσ H R=>ta σ H λvs H1=>∃ a b,vs=[.ref a,.ref b]/\(((∃ xs,SqL K H1 a xs)/\(∃ ys,SqL K H1 b ys)/\R (Itz K a b) H1)\/((∃ xs,SqT K H1 a xs)/\(∃ ys,SqT K H1 b ys)/\R (Jdx K a b) H1))
theorem Jdv {N l m:Nat}(la:l<N)(lb:m<N):ZipApart (N+4) (N+2) (N+3) N (N+1) l m:=by
 constructor<;>first | exact zV (by omega) | exact Nat.ne_of_gt (by omega)
theorem J5x {N c:Nat}(hc:c∈[N+4,N+2,N+3,N,N+1]):N<=c:=by
 simp only [qo,not_mem_nil,or_false] at hc;omega
theorem Jfm {K:Frag}{a b:Expr}{ta:TA}{p pos tpos:Pos}{elts:List Expr}{x1:Nat}(e:X.K=K)(hg:Gl X "zip")(hm:X.mg "zip"=none)(ha:PA X [a,b] ta)(hn:JB a=true)(hn2:JB b=true):PI X (.Tuple elts x1 tpos) (.Call (.Name "zip" p) [a,b] [] pos) (J9i K ta):=by
 subst e;intro pins s σ H R I h;refine Call_ (J23 I hg hm J9u (PyProof.Rows.callWith_type1 (thn (ha pos pins s σ H _ I h) λus s1 ⟨vs,H1,I1,r1,q1⟩=>?_) (JG hn) (by rw [JG hn2];rfl)));obtain ⟨l,m,e,q⟩:=q1;subst e;obtain ⟨u,v,rfl,ru,rv⟩:=J5z r1;cases (show u=Value.ref l from ru);cases (show v=Value.ref m from rv);rcases q with ⟨⟨xs,hq⟩,⟨ys,hq2⟩,q⟩ | ⟨⟨xs,hq⟩,⟨ys,hq2⟩,q⟩
 ·obtain ⟨ia,ra,pa,_⟩:=I1.list hq
  obtain ⟨ib,rb,pb,_⟩:=I1.list hq2;obtain ⟨oa,ea,_⟩:=pa.isList;obtain ⟨ob,eb,_⟩:=pb.isList;refine call_zip_2 pa.isList pb.isList λh' hz hTI hTO st1 st2 sz k=>?_;refine wpAny_pyIter_zip (s:={ s1 with heap:=h' }) hz ?_;exact ⟨s1.heap.objs.size+4,[s1.heap.objs.size+4,s1.heap.objs.size+2,s1.heap.objs.size+3,s1.heap.objs.size,s1.heap.objs.size+1],_,_,H1,rfl,I1.kept (t':=s1.toks) k,turn_zip _ _ _ _ _ l m (Jdv (qH ea) (qH eb)),⟨hz,hTI,⟨_,_,hTO⟩,st1,st2⟩,λc hc=>I1.fpOk (J5x hc) (I1.hok.fresh (J5x hc)),q⟩
 ·obtain ⟨ia,ra,pa,_⟩:=I1.tuple hq
  obtain ⟨ib,rb,pb,_⟩:=I1.tuple hq2;obtain ⟨oa,ea,_⟩:=id pa;obtain ⟨ob,eb,_⟩:=id pb;refine J7e (show s1.heap.IsTuple l ia.toArray from pa) (show s1.heap.IsTuple m ib.toArray from pb) λh' hz hTI hTO st1 st2 k=>?_;refine wpAny_pyIter_zip (s:={ s1 with heap:=h' }) hz ?_;exact ⟨s1.heap.objs.size+4,[s1.heap.objs.size+4,s1.heap.objs.size+2,s1.heap.objs.size+3,s1.heap.objs.size,s1.heap.objs.size+1],_,_,H1,rfl,I1.kept (t':=s1.toks) k,turn_zipU _ _ _ _ _ l m (Jdv (qH ea) (qH eb)),⟨hz,hTI,⟨_,_,hTO⟩,st1,st2⟩,λc hc=>I1.fpOk (J5x hc) (I1.hok.fresh (J5x hc)),q⟩
end
end L2
namespace NS
open PySem L2
seal L2.PE L2.PT L2.PA L2.PS L2.PSs L2.PG L2.PI L2.PTs L2.PW L2.PO L2.PGs L2.PPs L2.OpR L2.J04 L2.IxR L2.SlR L2.UnR L2.JfI
def top (i:Nat):Stmt:=PySem.Challenge.pw_crosshall_k65_opened_and_folded.main.body.getD i (.Pass ⟨0,0,0,0⟩)
abbrev J1f:Stmt:=top 14
abbrev J1b:Stmt:=top 15
abbrev J4H:Stmt:=top 16
abbrev J4G:Stmt:=top 17
abbrev J2O:Stmt:=top 18
abbrev J3Q:Stmt:=top 19
abbrev J2N:Stmt:=top 20
abbrev J3R:Stmt:=top 24
abbrev J1z:Stmt:=top 25
abbrev J3U:Stmt:=top 26
abbrev J2Q:Stmt:=top 27
abbrev J2P:Stmt:=top 31
abbrev J1y:Stmt:=top 32
abbrev J3e:Stmt:=top 37
abbrev J1g:Stmt:=top 38
abbrev J2q:Stmt:=top 39
abbrev J1h:Stmt:=top 40
abbrev J2p:Stmt:=top 41
abbrev J2m:Stmt:=top 42
abbrev J3M:Stmt:=top 43
abbrev J0O:Stmt:=top 44
abbrev J3T:Stmt:=top 45
abbrev J1x:Stmt:=top 47
abbrev J3S:Stmt:=top 50
abbrev J2o:Stmt:=top 53
abbrev J1X:Stmt:=top 54
abbrev J10:Stmt:=top 55
abbrev J7M:Stmt:=top 56
abbrev J19:Stmt:=top 57
abbrev J2b:Stmt:=top 58
abbrev J8M:Stmt:=top 60
abbrev J1a:Stmt:=top 61
abbrev J5W:Stmt:=top 64
abbrev J5U:Stmt:=top 65
abbrev J3b:Stmt:=top 66
abbrev J2n:Stmt:=top 67
abbrev J3P:Stmt:=top 68
abbrev J3c:Stmt:=top 69
abbrev J5o:Stmt:=top 70
abbrev J4b:Stmt:=top 71
abbrev J4E:Stmt:=top 72
abbrev J2c:Stmt:=top 73
abbrev J1w:Stmt:=top 74
abbrev J3a:Stmt:=top 75
abbrev J5p:Stmt:=top 76
abbrev J3d:Stmt:=top 77
abbrev J4c:Stmt:=top 78
abbrev J4F:Stmt:=top 79
abbrev J0Z:Stmt:=top 80
abbrev J4d:Stmt:=top 81
abbrev J5T:Stmt:=top 82
abbrev J3O:Stmt:=top 83
abbrev J3N:Stmt:=top 84
abbrev J5V:Stmt:=top 85
abbrev s_law:Stmt:=top 86
abbrev J0V:Stmt:=J2B (top 28) 0
abbrev J1A:Stmt:=J2B (top 28) 1
abbrev J2S:Stmt:=J2B (top 28) 2
abbrev J2R:Stmt:=J2B (top 28) 5
abbrev J1c:Stmt:=J2B (top 28) 6
abbrev J1d:Stmt:=J2B (top 51) 0
abbrev J1B:Stmt:=J2B (top 51) 1
abbrev J2T:Stmt:=J2B (top 51) 2
abbrev J0P:Stmt:=J2B (top 51) 4
abbrev J2r:Stmt:=J2B (top 51) 5
abbrev J0C:Stmt:=J2B (top 62) 0
abbrev J1i:Stmt:=J2B (top 62) 4
abbrev J1m:List Str:=["text","signs"]
abbrev J3o:List Str:=["thing"]
abbrev J1n:List Str:=["thing"]
abbrev J1o:List Str:=["fields","view","name"]
abbrev J2v:List Str:=["path"]
abbrev J0c:List Str:=["fields","names","row","values"]
abbrev J12:List Str:=["fields","sieve"]
abbrev J0J:List Str:=["fields","sieve","row"]
abbrev J50:List Str:=["sheet","view","sieve","fields","pairs"]
abbrev J3l:List Str:=["_law_script","_law_at","_law_count","_law_signs","_law_way","_law_size","_law_place","_law_texts_here","_law_k","_law_base","_law_row_here"]
abbrev J2w:List Str:=["_law_script","_law_letters","_law_many","_law_names"]
abbrev J3m:List Str:=["_law_script","_law_fields_here","_law_words","_law_pools_here","_law_k","_law_pool","_law_j","_law_value"]
abbrev J5t:List Str:=["_law_script","_law_at","_law_pools_here"]
abbrev JcO:List Str:=["_law_script","_law_fields_here","_law_names","_law_turn","_law_first","_law_second","_law_figures","_law_k","_law_field","_law_word"]
abbrev J0t:List Str:=["_law_fields_here","_law_sieve_here","_law_row_here","_law_value"]
abbrev J0A:List Str:=["_law_state","_law_side","_law_names"]
abbrev J3k:List Str:=["_law_state","_law_rows"]
abbrev J5u:List Str:=["_law_path"]
abbrev J3n:List Str:=["_law_state","_law_side","_law_found","_law_places_here","_law_number_here","_law_path","_law_many"]
abbrev J4h:List Str:=["_law_found","_law_due"]
abbrev J11:List Str:=["_law_script","_law_at","_law_state","_law_side","_law_pools_here","_law_heads_here","_law_way","_law_path","_law_row_here","_law_places_here"]
abbrev J4i:List Str:=["_law_heads_here","_law_path"]
abbrev Jg0:List Str:=["_law_script","_law_state","_law_pools_here","_law_table","_law_look","_law_still","_law_opens","_law_first","_law_k","_law_side"]
abbrev J0E:List Str:=["self","fields","view","rows","laid"]
abbrev J1p:List Str:=["self","side","path","many"]
theorem J6C:FnScope ["text","signs"] ["text","signs"] (Jf J1f):=⟨rfl,rfl,rfl,by decide +kernel,rfl,by decide +kernel,by decide +kernel⟩
theorem J4B:FnScope ["thing","signs"] ["thing","signs"] (Jf J1b):=⟨rfl,rfl,rfl,by decide +kernel,rfl,by decide +kernel,by decide +kernel⟩
theorem J9Y:FnScope ["thing"] ["thing"] (Jf J4H):=⟨rfl,rfl,rfl,by decide +kernel,rfl,by decide +kernel,by decide +kernel⟩
theorem J9W:FnScope ["thing"] ["thing"] (Jf J4G):=⟨rfl,rfl,rfl,by decide +kernel,rfl,by decide +kernel,by decide +kernel⟩
theorem J7I:FnScope ["thing"] ["thing"] (Jf J2O):=⟨rfl,rfl,rfl,by decide +kernel,rfl,by decide +kernel,by decide +kernel⟩
theorem J8J:FnScope ["kind","thing"] ["kind","thing"] (Jf J3Q):=⟨rfl,rfl,rfl,by decide +kernel,rfl,by decide +kernel,by decide +kernel⟩
theorem J7H:FnScope ["value"] ["value"] (Jf J2N):=⟨rfl,rfl,rfl,by decide +kernel,rfl,by decide +kernel,by decide +kernel⟩
theorem J8K:FnScope ["thing"] ["thing"] (Jf J3R):=⟨rfl,rfl,rfl,by decide +kernel,rfl,by decide +kernel,by decide +kernel⟩
theorem J18:FnScope ["fields","seen","field"] ["fields"] (Jf J1z):=⟨rfl,rfl,rfl,by decide +kernel,rfl,by decide +kernel,by decide +kernel⟩
theorem J2M:FnScope ["fields","name","place","field"] ["fields","name"] (Jf J3U):=⟨rfl,rfl,rfl,by decide +kernel,rfl,by decide +kernel,by decide +kernel⟩
theorem J2l:FnScope ["fields","row","place","thing"] ["fields","row"] (Jf J2Q):=⟨rfl,rfl,rfl,by decide +kernel,rfl,by decide +kernel,by decide +kernel⟩
theorem J7J:FnScope ["thing"] ["thing"] (Jf J2P):=⟨rfl,rfl,rfl,by decide +kernel,rfl,by decide +kernel,by decide +kernel⟩
theorem J2z:FnScope ["fields","figure","kind"] ["fields","figure"] (Jf J1y):=⟨rfl,rfl,rfl,by decide +kernel,rfl,by decide +kernel,by decide +kernel⟩
theorem J9X:FnScope ["thing"] ["thing"] (Jf J3e):=⟨rfl,rfl,rfl,by decide +kernel,rfl,by decide +kernel,by decide +kernel⟩
theorem J6D:FnScope ["thing"] ["thing"] (Jf J1g):=⟨rfl,rfl,rfl,by decide +kernel,rfl,by decide +kernel,by decide +kernel⟩
theorem J3F:FnScope ["view","names"] ["view"] (Jf J2q):=⟨rfl,rfl,rfl,by decide +kernel,rfl,by decide +kernel,by decide +kernel⟩
theorem J3E:FnScope ["fields","view","name"] ["fields","view"] (Jf J1h):=⟨rfl,rfl,rfl,by decide +kernel,rfl,by decide +kernel,by decide +kernel⟩
theorem J1W:FnScope ["fields","names","path","name","value"] ["fields","names","path"] (Jf J2p):=⟨rfl,rfl,rfl,by decide +kernel,rfl,by decide +kernel,by decide +kernel⟩
theorem J8H:FnScope ["path"] ["path"] (Jf J2m):=⟨rfl,rfl,rfl,by decide +kernel,rfl,by decide +kernel,by decide +kernel⟩
theorem J8I:FnScope ["view","side"] ["view","side"] (Jf J3M):=⟨rfl,rfl,rfl,by decide +kernel,rfl,by decide +kernel,by decide +kernel⟩
theorem J3D:FnScope ["fields","names","row","values"] ["fields","names","row"] (Jf J0O):=⟨rfl,rfl,rfl,by decide +kernel,rfl,by decide +kernel,by decide +kernel⟩
theorem J1N:FnScope ["fields","names","rows","heads","row","path"] ["fields","names","rows"] (Jf J3T):=⟨rfl,rfl,rfl,by decide +kernel,rfl,by decide +kernel,by decide +kernel⟩
theorem J5f:FnScope ["table","side","path"] ["table","side","path"] (Jf J1x):=⟨rfl,rfl,rfl,by decide +kernel,rfl,by decide +kernel,by decide +kernel⟩
theorem J8L:FnScope ["table","side","kids","by","pairs","there"] ["table","side","kids","by"] (Jf J3S):=⟨rfl,rfl,rfl,by decide +kernel,rfl,by decide +kernel,by decide +kernel⟩
theorem J6B:FnScope ["kind","value"] ["kind","value"] (Jf J2o):=⟨rfl,rfl,rfl,by decide +kernel,rfl,by decide +kernel,by decide +kernel⟩
theorem J1v:FnScope ["fields","sieve","name","kind"] ["fields","sieve"] (Jf J1X):=⟨rfl,rfl,rfl,by decide +kernel,rfl,by decide +kernel,by decide +kernel⟩
theorem J5S:FnScope ["fields","sieve"] ["fields","sieve"] (Jf J10):=⟨rfl,rfl,rfl,by decide +kernel,rfl,by decide +kernel,by decide +kernel⟩
theorem Jci:FnScope ["form","value","other"] ["form","value","other"] (Jf J7M):=⟨rfl,rfl,rfl,by decide +kernel,rfl,by decide +kernel,by decide +kernel⟩
theorem J2a:FnScope ["fields","sieve","row","value"] ["fields","sieve","row"] (Jf J19):=⟨rfl,rfl,rfl,by decide +kernel,rfl,by decide +kernel,by decide +kernel⟩
theorem J9U:FnScope ["fields","sieve","row"] ["fields","sieve","row"] (Jf J2b):=⟨rfl,rfl,rfl,by decide +kernel,rfl,by decide +kernel,by decide +kernel⟩
theorem J9V:FnScope ["sheet","view","sieve","fields","pairs"] ["sheet","view","sieve"] (Jf J8M):=⟨rfl,rfl,rfl,by decide +kernel,rfl,by decide +kernel,by decide +kernel⟩
theorem JX:FnScope ["fields","view","pairs","boxes","number","row","others","one","other"] ["fields","view","pairs"] (Jf J1a):=⟨rfl,rfl,rfl,by decide +kernel,rfl,by decide +kernel,by decide +kernel⟩
theorem Jbg:FnScope ["_law_script","_law_k"] ["_law_script","_law_k"] (Jf J5W):=⟨rfl,rfl,rfl,by decide +kernel,rfl,by decide +kernel,by decide +kernel⟩
theorem J6X:FnScope ["_law_script","_law_k","_law_many","_law_prime"] ["_law_script","_law_k","_law_many"] (Jf J5U):=⟨rfl,rfl,rfl,by decide +kernel,rfl,by decide +kernel,by decide +kernel⟩
theorem J0y:FnScope ["_law_script","_law_at","_law_count","_law_signs","_law_way","_law_size","_law_place","_law_texts_here","_law_k","_law_base","_law_row_here"] ["_law_script","_law_at","_law_count","_law_signs"] (Jf J3b):=⟨rfl,rfl,rfl,by decide +kernel,rfl,by decide +kernel,by decide +kernel⟩
theorem J1M:FnScope ["_law_script","_law_letters","_law_many","_law_names"] ["_law_script"] (Jf J2n):=⟨rfl,rfl,rfl,by decide +kernel,rfl,by decide +kernel,by decide +kernel⟩
theorem J4Z:FnScope ["_law_script","_law_at","_law_way"] ["_law_script","_law_at"] (Jf J3P):=⟨rfl,rfl,rfl,by decide +kernel,rfl,by decide +kernel,by decide +kernel⟩
theorem J0n:FnScope ["_law_script","_law_fields_here","_law_words","_law_pools_here","_law_k","_law_pool","_law_j","_law_value"] ["_law_script","_law_fields_here"] (Jf J3c):=⟨rfl,rfl,rfl,by decide +kernel,rfl,by decide +kernel,by decide +kernel⟩
theorem Jcg:FnScope ["_law_script","_law_at","_law_pools_here"] ["_law_script","_law_at","_law_pools_here"] (Jf J5o):=⟨rfl,rfl,rfl,by decide +kernel,rfl,by decide +kernel,by decide +kernel⟩
theorem J0k:FnScope ["_law_script","_law_fields_here","_law_names","_law_turn","_law_first","_law_second","_law_figures","_law_k","_law_field","_law_word"] ["_law_script","_law_fields_here"] (Jf J4b):=⟨rfl,rfl,rfl,by decide +kernel,rfl,by decide +kernel,by decide +kernel⟩
theorem J2j:FnScope ["_law_script","_law_at","_law_fields_here","_law_pools_here","_law_way","_law_k","_law_plain"] ["_law_script","_law_at","_law_fields_here","_law_pools_here"] (Jf J4E):=⟨rfl,rfl,rfl,by decide +kernel,rfl,by decide +kernel,by decide +kernel⟩
theorem J6W:FnScope ["_law_fields_here","_law_sieve_here","_law_row_here","_law_value"] ["_law_fields_here","_law_sieve_here","_law_row_here"] (Jf J2c):=⟨rfl,rfl,rfl,by decide +kernel,rfl,by decide +kernel,by decide +kernel⟩
theorem J4Y:FnScope ["_law_state","_law_side","_law_names"] ["_law_state","_law_side"] (Jf J1w):=⟨rfl,rfl,rfl,by decide +kernel,rfl,by decide +kernel,by decide +kernel⟩
theorem J5R:FnScope ["_law_state","_law_rows"] ["_law_state"] (Jf J3a):=⟨rfl,rfl,rfl,by decide +kernel,rfl,by decide +kernel,by decide +kernel⟩
theorem Jch:FnScope ["_law_path"] ["_law_path"] (Jf J5p):=⟨rfl,rfl,rfl,by decide +kernel,rfl,by decide +kernel,by decide +kernel⟩
theorem J0U:FnScope ["_law_state","_law_side","_law_found","_law_places_here","_law_number_here","_law_path","_law_many"] ["_law_state","_law_side"] (Jf J3d):=⟨rfl,rfl,rfl,by decide +kernel,rfl,by decide +kernel,by decide +kernel⟩
theorem Jbe:FnScope ["_law_found","_law_due"] ["_law_found","_law_due"] (Jf J4c):=⟨rfl,rfl,rfl,by decide +kernel,rfl,by decide +kernel,by decide +kernel⟩
theorem J2k:FnScope ["_law_script","_law_fields_here","_law_pools_here","_law_state"] ["_law_script"] (Jf J4F):=⟨rfl,rfl,rfl,by decide +kernel,rfl,by decide +kernel,by decide +kernel⟩
theorem JP:FnScope ["_law_script","_law_at","_law_state","_law_side","_law_pools_here","_law_heads_here","_law_way","_law_path","_law_row_here","_law_places_here"] ["_law_script","_law_at","_law_state","_law_side","_law_pools_here"] (Jf J0Z):=⟨rfl,rfl,rfl,by decide +kernel,rfl,by decide +kernel,by decide +kernel⟩
theorem Jbf:FnScope ["_law_heads_here","_law_path"] ["_law_heads_here","_law_path"] (Jf J4d):=⟨rfl,rfl,rfl,by decide +kernel,rfl,by decide +kernel,by decide +kernel⟩
theorem J39:FnScope ["_law_state","_law_opens","_law_side","_law_path","_law_told","_law_kid"] ["_law_state","_law_opens","_law_side","_law_path"] (Jf J5T):=⟨rfl,rfl,rfl,by decide +kernel,rfl,by decide +kernel,by decide +kernel⟩
theorem J1L:FnScope ["_law_script","_law_state","_law_pools_here","_law_sheet","_law_k","_law_row_here"] ["_law_script","_law_state","_law_pools_here"] (Jf J3O):=⟨rfl,rfl,rfl,by decide +kernel,rfl,by decide +kernel,by decide +kernel⟩
theorem J1K:FnScope ["_law_look","_law_word","_law_side","_law_path","_law_caught","e"] ["_law_look","_law_word","_law_side","_law_path"] (Jf J3N):=⟨rfl,rfl,rfl,by decide +kernel,rfl,by decide +kernel,by decide +kernel⟩
theorem J1s:FnScope ["_law_script","_law_at","_law_look","_law_state","_law_opens","_law_pools_here","_law_side","_law_word","_law_path","_law_heads_here","_law_caught"] ["_law_script","_law_at","_law_look","_law_state","_law_opens","_law_pools_here"] (Jf J5V):=⟨rfl,rfl,rfl,by decide +kernel,rfl,by decide +kernel,by decide +kernel⟩
theorem J1V:FnScope ["_law_script","_law_state","_law_pools_here","_law_table","_law_look","_law_still","_law_opens","_law_first","_law_k","_law_side"] ["_law_script"] (Jf s_law):=⟨rfl,rfl,rfl,by decide +kernel,rfl,by decide +kernel,by decide +kernel⟩
theorem J4a:FnScope ["self","fields"] ["self","fields"] (Jf J0V):=⟨rfl,rfl,rfl,by decide +kernel,rfl,by decide +kernel,by decide +kernel⟩
theorem J5g:FnScope ["self"] ["self"] (Jf J1A):=⟨rfl,rfl,rfl,by decide +kernel,rfl,by decide +kernel,by decide +kernel⟩
theorem J49:FnScope ["self","row","number"] ["self","row"] (Jf J2S):=⟨rfl,rfl,rfl,by decide +kernel,rfl,by decide +kernel,by decide +kernel⟩
theorem J7K:FnScope ["self","number"] ["self","number"] (Jf J2R):=⟨rfl,rfl,rfl,by decide +kernel,rfl,by decide +kernel,by decide +kernel⟩
theorem J4C:FnScope ["self"] ["self"] (Jf J1c):=⟨rfl,rfl,rfl,by decide +kernel,rfl,by decide +kernel,by decide +kernel⟩
theorem J4D:FnScope ["self","table"] ["self","table"] (Jf J1d):=⟨rfl,rfl,rfl,by decide +kernel,rfl,by decide +kernel,by decide +kernel⟩
theorem J5h:FnScope ["self","side","path"] ["self","side","path"] (Jf J1B):=⟨rfl,rfl,rfl,by decide +kernel,rfl,by decide +kernel,by decide +kernel⟩
theorem J7L:FnScope ["self","side","path"] ["self","side","path"] (Jf J2T):=⟨rfl,rfl,rfl,by decide +kernel,rfl,by decide +kernel,by decide +kernel⟩
theorem J0o:FnScope ["self","side","path","told","kid"] ["self","side","path"] (Jf J0P):=⟨rfl,rfl,rfl,by decide +kernel,rfl,by decide +kernel,by decide +kernel⟩
theorem J6E:FnScope ["self","side"] ["self","side"] (Jf J2r):=⟨rfl,rfl,rfl,by decide +kernel,rfl,by decide +kernel,by decide +kernel⟩
theorem J1O:FnScope ["self","fields","view","rows","laid"] ["self","fields","view","rows"] (Jf J0C):=⟨rfl,rfl,rfl,by decide +kernel,rfl,by decide +kernel,by decide +kernel⟩
theorem J3G:FnScope ["self","side","path","many"] ["self","side","path"] (Jf J1i):=⟨rfl,rfl,rfl,by decide +kernel,rfl,by decide +kernel,by decide +kernel⟩
structure Txt (K:Frag)(mg:Str->Option Value)(f:Nat->Addr)(fd:Nat->FuncData):Prop where
 wZ:DefOk K mg "is_made_of" J1f ["text","signs"] (f 14) (fd 14)
 wG:DefOk K mg "is_short_text" J1b ["thing","signs"] (f 15) (fd 15)
 ya:DefOk K mg "is_name" J4H ["thing"] (f 16) (fd 16)
 yb:DefOk K mg "is_word" J4G ["thing"] (f 17) (fd 17)
 yc:DefOk K mg "is_number" J2O ["thing"] (f 18) (fd 18)
 wH:DefOk K mg "is_value" J3Q ["kind","thing"] (f 19) (fd 19)
 yd:DefOk K mg "order_key" J2N ["value"] (f 20) (fd 20)
 ye:DefOk K mg "is_field" J3R ["thing"] (f 24) (fd 24)
 yf:DefOk K mg "asked_fields" J1z ["fields"] (f 25) (fd 25)
 wp:DefOk K mg "field_at" J3U ["fields","name"] (f 26) (fd 26)
 yg:DefOk K mg "asked_row" J2Q ["fields","row"] (f 27) (fd 27)
 yh:DefOk K mg "is_figure" J2P ["thing"] (f 31) (fd 31)
 yi:DefOk K mg "asked_figure" J1y ["fields","figure"] (f 32) (fd 32)
 wI:DefOk K mg "is_side" J3e ["thing"] (f 37) (fd 37)
 yj:DefOk K mg "is_figures" J1g ["thing"] (f 38) (fd 38)
 yk:DefOk K mg "asked_form" J2q ["view"] (f 39) (fd 39)
 yl:DefOk K mg "asked_view" J1h ["fields","view"] (f 40) (fd 40)
 ym:DefOk K mg "asked_path" J2p ["fields","names","path"] (f 41) (fd 41)
 wJ:DefOk K mg "path_key" J2m ["path"] (f 42) (fd 42)
 yn:DefOk K mg "names_of" J3M ["view","side"] (f 43) (fd 43)
 wy:DefOk K mg "paths_over" J0O ["fields","names","row"] (f 44) (fd 44)
 wK:DefOk K mg "heads_of" J3T ["fields","names","rows"] (f 45) (fd 45)
 wL:DefOk K mg "asked_parent" J1x ["table","side","path"] (f 47) (fd 47)
 yo:DefOk K mg "in_order" J3S ["table","side","kids","by"] (f 50) (fd 50)
 yp:DefOk K mg "is_of_kind" J2o ["kind","value"] (f 53) (fd 53)
 yq:DefOk K mg "asked_plain" J1X ["fields","sieve"] (f 54) (fd 54)
 wz:DefOk K mg "asked_sieve" J10 ["fields","sieve"] (f 55) (fd 55)
 yr:DefOk K mg "holds" J7M ["form","value","other"] (f 56) (fd 56)
 yt:DefOk K mg "plain_lets_by" J19 ["fields","sieve","row"] (f 57) (fd 57)
 wt:DefOk K mg "lets_by" J2b ["fields","sieve","row"] (f 58) (fd 58)
 yu:DefOk K mg "lay" J8M ["sheet","view","sieve"] (f 60) (fd 60)
 yv:DefOk K mg "laid_in_boxes" J1a ["fields","view","pairs"] (f 61) (fd 61)
 wM:DefOk K mg "_law_cell" J5W ["_law_script","_law_k"] (f 64) (fd 64)
 wb:DefOk K mg "_law_draw" J5U ["_law_script","_law_k","_law_many"] (f 65) (fd 65)
 wN:DefOk K mg "_law_texts" J3b ["_law_script","_law_at","_law_count","_law_signs"] (f 66) (fd 66)
 yw:DefOk K mg "_law_fields" J2n ["_law_script"] (f 67) (fd 67)
 yx:DefOk K mg "_law_number" J3P ["_law_script","_law_at"] (f 68) (fd 68)
 yy:DefOk K mg "_law_pools" J3c ["_law_script","_law_fields_here"] (f 69) (fd 69)
 wO:DefOk K mg "_law_row" J5o ["_law_script","_law_at","_law_pools_here"] (f 70) (fd 70)
 yz:DefOk K mg "_law_view" J4b ["_law_script","_law_fields_here"] (f 71) (fd 71)
 yA:DefOk K mg "_law_sieve" J4E ["_law_script","_law_at","_law_fields_here","_law_pools_here"] (f 72) (fd 72)
 wu:DefOk K mg "_law_lets" J2c ["_law_fields_here","_law_sieve_here","_law_row_here"] (f 73) (fd 73)
 wP:DefOk K mg "_law_places" J1w ["_law_state","_law_side"] (f 74) (fd 74)
 yB:DefOk K mg "_law_there" J3a ["_law_state"] (f 75) (fd 75)
 wQ:DefOk K mg "_law_key" J5p ["_law_path"] (f 76) (fd 76)
 wA:DefOk K mg "_law_heads" J3d ["_law_state","_law_side"] (f 77) (fd 77)
 wB:DefOk K mg "_law_same" J4c ["_law_found","_law_due"] (f 78) (fd 78)
 yC:DefOk K mg "_law_begin" J4F ["_law_script"] (f 79) (fd 79)
 yD:DefOk K mg "_law_some_path" J0Z ["_law_script","_law_at","_law_state","_law_side","_law_pools_here"] (f 80) (fd 80)
 wR:DefOk K mg "_law_kids" J4d ["_law_heads_here","_law_path"] (f 81) (fd 81)
 wC:DefOk K mg "_law_seen" J5T ["_law_state","_law_opens","_law_side","_law_path"] (f 82) (fd 82)
 yE:DefOk K mg "_law_tables" J3O ["_law_script","_law_state","_law_pools_here"] (f 83) (fd 83)
 yF:DefOk K mg "_law_turned" J3N ["_law_look","_law_word","_law_side","_law_path"] (f 84) (fd 84)
 yG:DefOk K mg "_law_deed" J5V ["_law_script","_law_at","_law_look","_law_state","_law_opens","_law_pools_here"] (f 85) (fd 85)
 yH:DefOk K mg "law" s_law ["_law_script"] (f 86) (fd 86)
 yI:MthOk K "__init__" "Sheet.__init__" J0V ["self","fields"] (f 29000) (fd 29000)
 yJ:MthOk K "fields" "Sheet.fields" J1A ["self"] (f 29001) (fd 29001)
 yK:MthOk K "put" "Sheet.put" J2S ["self","row"] (f 29002) (fd 29002)
 yL:MthOk K "row" "Sheet.row" J2R ["self","number"] (f 29005) (fd 29005)
 yM:MthOk K "numbers" "Sheet.numbers" J1c ["self"] (f 29006) (fd 29006)
 wS:MthOk K "__init__" "Look.__init__" J1d ["self","table"] (f 52000) (fd 52000)
 yN:MthOk K "open_up" "Look.open_up" J1B ["self","side","path"] (f 52001) (fd 52001)
 yO:MthOk K "fold" "Look.fold" J2T ["self","side","path"] (f 52002) (fd 52002)
 wT:MthOk K "shown_from" "Look.shown_from" J0P ["self","side","path"] (f 52004) (fd 52004)
 wU:MthOk K "shown" "Look.shown" J2r ["self","side"] (f 52005) (fd 52005)
 yP:MthOk K "__init__" "Table.__init__" J0C ["self","fields","view","rows"] (f 63000) (fd 63000)
 wV:MthOk K "kids" "Table.kids" J1i ["self","side","path"] (f 63004) (fd 63004)
 y9:ExcM mg "CrossError" (f 2)
 zc:ExcM mg "NoRow" (f 6)
 zd:ExcM mg "NoSuch" (f 7)
 ze:ExcM mg "NoField" (f 8)
 zf:ExcM mg "NoKind" (f 9)
 wj:ExcOk K mg "NoHead" (f 5) none
 wf:OwnOk K mg "Sheet" (f 28) (f 29000)
 zg:Meth K (f 28) "fields" (f 29001)
 zh:Meth K (f 28) "put" (f 29002)
 zi:Meth K (f 28) "row" (f 29005)
 zj:Meth K (f 28) "numbers" (f 29006)
 we:OwnOk K mg "Look" (f 51) (f 52000)
 zk:Meth K (f 51) "open_up" (f 52001)
 zm:Meth K (f 51) "fold" (f 52002)
 yQ:Meth K (f 51) "shown_from" (f 52004)
 yR:Meth K (f 51) "shown" (f 52005)
 wk:OwnOk K mg "Table" (f 62) (f 63000)
 yS:Meth K (f 62) "kids" (f 63004)
 wW:findIn K (.ref (f 28)) "given"=some none
 wX:findIn K (.ref (f 28)) "kept_fields"=some none
 ww:findIn K (.ref (f 28)) "kept_rows"=some none
 yT:findIn K (.ref (f 51)) "orders"=some none
 wx:findIn K (.ref (f 51)) "table"=some none
 wD:findIn K (.ref (f 51)) "unfolded"=some none
 zn:findIn K (.ref (f 62)) "boxes"=some none
 yU:findIn K (.ref (f 62)) "kept_fields"=some none
 yV:findIn K (.ref (f 62)) "kept_heads"=some none
 yW:findIn K (.ref (f 62)) "kept_view"=some none
 zo:PySem.W.kitOne K (.ref (f 5)) (.ref (f 2))=some true
 zp:Jcb K (f 5) (f 5)=true
 zL:PySem.W.kitOne K (.ref (f 5)) (.ref (f 5))=some true
 zq:PySem.W.kitOne K (.ref (f 5)) (.ref (f 6))=some false
 zr:PySem.W.kitOne K (.ref (f 5)) (.ref (f 7))=some false
 zt:PySem.W.kitOne K (.ref (f 5)) (.ref (f 8))=some false
 zu:PySem.W.kitOne K (.ref (f 5)) (.ref (f 9))=some false
 zw:PySem.W.kitOne K (.ref (f 5)) (.type "ValueError")=some true
 zx:mg "ValueError"=none
 zy:mg "abs"=none
 wo:mg "all"=none
 zz:mg "any"=none
 wY:mg "bool"=none
 yX:mg "enumerate"=none
 wq:mg "int"=none
 wc:mg "isinstance"=none
 wa:mg "len"=none
 wm:mg "list"=none
 yY:mg "min"=none
 wl:mg "range"=none
 zA:mg "reversed"=none
 zB:mg "set"=none
 wE:mg "sorted"=none
 wF:mg "str"=none
 wg:mg "tuple"=none
 yZ:mg "zip"=none
 y3:∃ tk,mg "LETTERS"=some (.str "abcdefghijklmnopqrstuvwxyz" tk)
 zC:∃ tk,mg "FIGURES"=some (.str "0123456789" tk)
 zD:∃ tk,mg "MOST_SIGNS"=some (.int (12) tk)
 zE:mg "KINDS"=some (.ref (f 22))
 zF:∀ H,SqT K H (f 22) [.str "word",.str "number"]
 zG:∃ tk,mg "MOST_FIELDS"=some (.int (8) tk)
 zH:mg "NAMED_FORMS"=some (.ref (f 30))
 zI:∀ H,SqT K H (f 30) [.str "sum",.str "greatest",.str "least",.str "unlike"]
 zJ:∃ tk,mg "MOST_NAMES"=some (.int (3) tk)
 zK:∃ tk,mg "MOST_FIGURES"=some (.int (4) tk)
theorem JbD {α:Type}{C:List α->Prop}(h:C [])(us:List α)(e:us.length=0):C us:=(length_eq_zero_iff.mp e) ▸ h
theorem J22 {α:Type}{n:Nat}{C:List α->Prop}(h:∀ (a:α) (us:List α),us.length=n->C (a::us))(us:List α)(e:us.length=n+1):C us:=by
 cases us with
 | nil=>cases e
 | cons a r=>exact h a r (Nat.succ.inj e)
theorem JeE {fd:FuncData}{ps:List Str}(h:∀ a:Value,bindArgs fd ⟨[a],[]⟩=pure (ps.zip [a]))(us:List Value)(e:us.length=1):bindArgs fd ⟨us,[]⟩=pure (ps.zip us):=by
 revert us
 exact J22 λa=>JbD (h a)
theorem JeD {fd:FuncData}{ps:List Str}(h:∀ a b:Value,bindArgs fd ⟨[a,b],[]⟩=pure (ps.zip [a,b]))(us:List Value)(e:us.length=2):bindArgs fd ⟨us,[]⟩=pure (ps.zip us):=by
 revert us
 exact J22 λa=>J22 λb=>JbD (h a b)
theorem JeC {fd:FuncData}{ps:List Str}(h:∀ a b c:Value,bindArgs fd ⟨[a,b,c],[]⟩=pure (ps.zip [a,b,c]))(us:List Value)(e:us.length=3):bindArgs fd ⟨us,[]⟩=pure (ps.zip us):=by
 revert us
 exact J22 λa=>J22 λb=>J22 λc=>JbD (h a b c)
theorem JeB {fd:FuncData}{ps:List Str}(h:∀ a b c d:Value,bindArgs fd ⟨[a,b,c,d],[]⟩=pure (ps.zip [a,b,c,d]))(us:List Value)(e:us.length=4):bindArgs fd ⟨us,[]⟩=pure (ps.zip us):=by
 revert us
 exact J22 λa=>J22 λb=>J22 λc=>J22 λd=>JbD (h a b c d)
theorem Jg4 {fd:FuncData}{ps:List Str}(h:∀ a b c d e:Value,bindArgs fd ⟨[a,b,c,d,e],[]⟩=pure (ps.zip [a,b,c,d,e]))(us:List Value)(e:us.length=5):bindArgs fd ⟨us,[]⟩=pure (ps.zip us):=by
 revert us
 exact J22 λa=>J22 λb=>J22 λc=>J22 λd=>J22 λe=>JbD (h a b c d e)
theorem Jg3 {fd:FuncData}{ps:List Str}(h:∀ a b c d e f:Value,bindArgs fd ⟨[a,b,c,d,e,f],[]⟩=pure (ps.zip [a,b,c,d,e,f]))(us:List Value)(e:us.length=6):bindArgs fd ⟨us,[]⟩=pure (ps.zip us):=by
 revert us
 exact J22 λa=>J22 λb=>J22 λc=>J22 λd=>J22 λe=>J22 λf=>JbD (h a b c d e f)
theorem dkm {K:Frag}{h:Heap}{mg:Str->Option Value}{x:Str}{st:Stmt}{ps:List Str}{f:Addr}{fd:FuncData}(X:K.In h)(G:h.Ns mainGlobals mg)(F:Fun K x x st f fd)(hb:∀ kV doc pm an cdv ct (us:List Value),us.length=ps.length->bindArgs (PySem.W.fnOf x x (J13 st) (J0H st) (Jf st) .none kV doc pm an cdv ct) ⟨us,[]⟩=pure (ps.zip us))(a:nsIn K mainGlobals x=some (some (.ref f))):DefOk K mg x st ps f fd:=⟨F,F.binds hb,PySem.W.mg_of X G a⟩
theorem txt_mk {K:Frag}{h:Heap}{mg:Str->Option Value}(X:K.In h)(G:h.Ns mainGlobals mg)
 {f14 f15 f16 f17 f18 f19 f20 f24 f25 f26 f27 f31 f32 f37 f38 f39 f40 f41 f42 f43 f44 f45 f47 f50 f53 f54 f55 f56 f57 f58 f60 f61 f64 f65 f66 f67 f68 f69 f70 f71 f72 f73 f74 f75 f76 f77 f78 f79 f80 f81 f82 f83 f84 f85 f86 f29000 f29001 f29002 f29005 f29006 f52000 f52001 f52002 f52004 f52005 f63000 f63004:Addr} {d14 d15 d16 d17 d18 d19 d20 d24 d25 d26 d27 d31 d32 d37 d38 d39 d40 d41 d42 d43 d44 d45 d47 d50 d53 d54 d55 d56 d57 d58 d60 d61 d64 d65 d66 d67 d68 d69 d70 d71 d72 d73 d74 d75 d76 d77 d78 d79 d80 d81 d82 d83 d84 d85 d86 d29000 d29001 d29002 d29005 d29006 d52000 d52001 d52002 d52004 d52005 d63000 d63004:FuncData}
 {f2:Addr}
 {f5:Addr}
 {f6:Addr}
 {f7:Addr}
 {f8:Addr}
 {f9:Addr}
 {f28:Addr}
 {f51:Addr}
 {f62:Addr}
 (a2:nsIn K mainGlobals "CrossError"=some (some (.ref f2)))
 (a5:nsIn K mainGlobals "NoHead"=some (some (.ref f5)))
 (a6:nsIn K mainGlobals "NoRow"=some (some (.ref f6)))
 (a7:nsIn K mainGlobals "NoSuch"=some (some (.ref f7)))
 (a8:nsIn K mainGlobals "NoField"=some (some (.ref f8)))
 (a9:nsIn K mainGlobals "NoKind"=some (some (.ref f9)))
 (a28:nsIn K mainGlobals "Sheet"=some (some (.ref f28)))
 (a51:nsIn K mainGlobals "Look"=some (some (.ref f51)))
 (a62:nsIn K mainGlobals "Table"=some (some (.ref f62)))
 (a14:nsIn K mainGlobals "is_made_of"=some (some (.ref f14)))
 (l14:Fun K "is_made_of" "is_made_of" J1f f14 d14)
 (a15:nsIn K mainGlobals "is_short_text"=some (some (.ref f15)))
 (l15:Fun K "is_short_text" "is_short_text" J1b f15 d15)
 (a16:nsIn K mainGlobals "is_name"=some (some (.ref f16)))
 (l16:Fun K "is_name" "is_name" J4H f16 d16)
 (a17:nsIn K mainGlobals "is_word"=some (some (.ref f17)))
 (l17:Fun K "is_word" "is_word" J4G f17 d17)
 (a18:nsIn K mainGlobals "is_number"=some (some (.ref f18)))
 (l18:Fun K "is_number" "is_number" J2O f18 d18)
 (a19:nsIn K mainGlobals "is_value"=some (some (.ref f19)))
 (l19:Fun K "is_value" "is_value" J3Q f19 d19)
 (a20:nsIn K mainGlobals "order_key"=some (some (.ref f20)))
 (l20:Fun K "order_key" "order_key" J2N f20 d20)
 (a24:nsIn K mainGlobals "is_field"=some (some (.ref f24)))
 (l24:Fun K "is_field" "is_field" J3R f24 d24)
 (a25:nsIn K mainGlobals "asked_fields"=some (some (.ref f25)))
 (l25:Fun K "asked_fields" "asked_fields" J1z f25 d25)
 (a26:nsIn K mainGlobals "field_at"=some (some (.ref f26)))
 (l26:Fun K "field_at" "field_at" J3U f26 d26)
 (a27:nsIn K mainGlobals "asked_row"=some (some (.ref f27)))
 (l27:Fun K "asked_row" "asked_row" J2Q f27 d27)
 (a31:nsIn K mainGlobals "is_figure"=some (some (.ref f31)))
 (l31:Fun K "is_figure" "is_figure" J2P f31 d31)
 (a32:nsIn K mainGlobals "asked_figure"=some (some (.ref f32)))
 (l32:Fun K "asked_figure" "asked_figure" J1y f32 d32)
 (a37:nsIn K mainGlobals "is_side"=some (some (.ref f37)))
 (l37:Fun K "is_side" "is_side" J3e f37 d37)
 (a38:nsIn K mainGlobals "is_figures"=some (some (.ref f38)))
 (l38:Fun K "is_figures" "is_figures" J1g f38 d38)
 (a39:nsIn K mainGlobals "asked_form"=some (some (.ref f39)))
 (l39:Fun K "asked_form" "asked_form" J2q f39 d39)
 (a40:nsIn K mainGlobals "asked_view"=some (some (.ref f40)))
 (l40:Fun K "asked_view" "asked_view" J1h f40 d40)
 (a41:nsIn K mainGlobals "asked_path"=some (some (.ref f41)))
 (l41:Fun K "asked_path" "asked_path" J2p f41 d41)
 (a42:nsIn K mainGlobals "path_key"=some (some (.ref f42)))
 (l42:Fun K "path_key" "path_key" J2m f42 d42)
 (a43:nsIn K mainGlobals "names_of"=some (some (.ref f43)))
 (l43:Fun K "names_of" "names_of" J3M f43 d43)
 (a44:nsIn K mainGlobals "paths_over"=some (some (.ref f44)))
 (l44:Fun K "paths_over" "paths_over" J0O f44 d44)
 (a45:nsIn K mainGlobals "heads_of"=some (some (.ref f45)))
 (l45:Fun K "heads_of" "heads_of" J3T f45 d45)
 (a47:nsIn K mainGlobals "asked_parent"=some (some (.ref f47)))
 (l47:Fun K "asked_parent" "asked_parent" J1x f47 d47)
 (a50:nsIn K mainGlobals "in_order"=some (some (.ref f50)))
 (l50:Fun K "in_order" "in_order" J3S f50 d50)
 (a53:nsIn K mainGlobals "is_of_kind"=some (some (.ref f53)))
 (l53:Fun K "is_of_kind" "is_of_kind" J2o f53 d53)
 (a54:nsIn K mainGlobals "asked_plain"=some (some (.ref f54)))
 (l54:Fun K "asked_plain" "asked_plain" J1X f54 d54)
 (a55:nsIn K mainGlobals "asked_sieve"=some (some (.ref f55)))
 (l55:Fun K "asked_sieve" "asked_sieve" J10 f55 d55)
 (a56:nsIn K mainGlobals "holds"=some (some (.ref f56)))
 (l56:Fun K "holds" "holds" J7M f56 d56)
 (a57:nsIn K mainGlobals "plain_lets_by"=some (some (.ref f57)))
 (l57:Fun K "plain_lets_by" "plain_lets_by" J19 f57 d57)
 (a58:nsIn K mainGlobals "lets_by"=some (some (.ref f58)))
 (l58:Fun K "lets_by" "lets_by" J2b f58 d58)
 (a60:nsIn K mainGlobals "lay"=some (some (.ref f60)))
 (l60:Fun K "lay" "lay" J8M f60 d60)
 (a61:nsIn K mainGlobals "laid_in_boxes"=some (some (.ref f61)))
 (l61:Fun K "laid_in_boxes" "laid_in_boxes" J1a f61 d61)
 (a64:nsIn K mainGlobals "_law_cell"=some (some (.ref f64)))
 (l64:Fun K "_law_cell" "_law_cell" J5W f64 d64)
 (a65:nsIn K mainGlobals "_law_draw"=some (some (.ref f65)))
 (l65:Fun K "_law_draw" "_law_draw" J5U f65 d65)
 (a66:nsIn K mainGlobals "_law_texts"=some (some (.ref f66)))
 (l66:Fun K "_law_texts" "_law_texts" J3b f66 d66)
 (a67:nsIn K mainGlobals "_law_fields"=some (some (.ref f67)))
 (l67:Fun K "_law_fields" "_law_fields" J2n f67 d67)
 (a68:nsIn K mainGlobals "_law_number"=some (some (.ref f68)))
 (l68:Fun K "_law_number" "_law_number" J3P f68 d68)
 (a69:nsIn K mainGlobals "_law_pools"=some (some (.ref f69)))
 (l69:Fun K "_law_pools" "_law_pools" J3c f69 d69)
 (a70:nsIn K mainGlobals "_law_row"=some (some (.ref f70)))
 (l70:Fun K "_law_row" "_law_row" J5o f70 d70)
 (a71:nsIn K mainGlobals "_law_view"=some (some (.ref f71)))
 (l71:Fun K "_law_view" "_law_view" J4b f71 d71)
 (a72:nsIn K mainGlobals "_law_sieve"=some (some (.ref f72)))
 (l72:Fun K "_law_sieve" "_law_sieve" J4E f72 d72)
 (a73:nsIn K mainGlobals "_law_lets"=some (some (.ref f73)))
 (l73:Fun K "_law_lets" "_law_lets" J2c f73 d73)
 (a74:nsIn K mainGlobals "_law_places"=some (some (.ref f74)))
 (l74:Fun K "_law_places" "_law_places" J1w f74 d74)
 (a75:nsIn K mainGlobals "_law_there"=some (some (.ref f75)))
 (l75:Fun K "_law_there" "_law_there" J3a f75 d75)
 (a76:nsIn K mainGlobals "_law_key"=some (some (.ref f76)))
 (l76:Fun K "_law_key" "_law_key" J5p f76 d76)
 (a77:nsIn K mainGlobals "_law_heads"=some (some (.ref f77)))
 (l77:Fun K "_law_heads" "_law_heads" J3d f77 d77)
 (a78:nsIn K mainGlobals "_law_same"=some (some (.ref f78)))
 (l78:Fun K "_law_same" "_law_same" J4c f78 d78)
 (a79:nsIn K mainGlobals "_law_begin"=some (some (.ref f79)))
 (l79:Fun K "_law_begin" "_law_begin" J4F f79 d79)
 (a80:nsIn K mainGlobals "_law_some_path"=some (some (.ref f80)))
 (l80:Fun K "_law_some_path" "_law_some_path" J0Z f80 d80)
 (a81:nsIn K mainGlobals "_law_kids"=some (some (.ref f81)))
 (l81:Fun K "_law_kids" "_law_kids" J4d f81 d81)
 (a82:nsIn K mainGlobals "_law_seen"=some (some (.ref f82)))
 (l82:Fun K "_law_seen" "_law_seen" J5T f82 d82)
 (a83:nsIn K mainGlobals "_law_tables"=some (some (.ref f83)))
 (l83:Fun K "_law_tables" "_law_tables" J3O f83 d83)
 (a84:nsIn K mainGlobals "_law_turned"=some (some (.ref f84)))
 (l84:Fun K "_law_turned" "_law_turned" J3N f84 d84)
 (a85:nsIn K mainGlobals "_law_deed"=some (some (.ref f85)))
 (l85:Fun K "_law_deed" "_law_deed" J5V f85 d85)
 (a86:nsIn K mainGlobals "law"=some (some (.ref f86)))
 (l86:Fun K "law" "law" s_law f86 d86)
 (a29000:findIn K (.ref f28) "__init__"=some (some (.ref f29000)))
 (l29000:Fun K "__init__" "Sheet.__init__" J0V f29000 d29000)
 (b29000:PySem.W.isFn K (.ref f29000)=true)
 (a29001:findIn K (.ref f28) "fields"=some (some (.ref f29001)))
 (l29001:Fun K "fields" "Sheet.fields" J1A f29001 d29001)
 (b29001:PySem.W.isFn K (.ref f29001)=true)
 (a29002:findIn K (.ref f28) "put"=some (some (.ref f29002)))
 (l29002:Fun K "put" "Sheet.put" J2S f29002 d29002)
 (b29002:PySem.W.isFn K (.ref f29002)=true)
 (a29005:findIn K (.ref f28) "row"=some (some (.ref f29005)))
 (l29005:Fun K "row" "Sheet.row" J2R f29005 d29005)
 (b29005:PySem.W.isFn K (.ref f29005)=true)
 (a29006:findIn K (.ref f28) "numbers"=some (some (.ref f29006)))
 (l29006:Fun K "numbers" "Sheet.numbers" J1c f29006 d29006)
 (b29006:PySem.W.isFn K (.ref f29006)=true)
 (a52000:findIn K (.ref f51) "__init__"=some (some (.ref f52000)))
 (l52000:Fun K "__init__" "Look.__init__" J1d f52000 d52000)
 (b52000:PySem.W.isFn K (.ref f52000)=true)
 (a52001:findIn K (.ref f51) "open_up"=some (some (.ref f52001)))
 (l52001:Fun K "open_up" "Look.open_up" J1B f52001 d52001)
 (b52001:PySem.W.isFn K (.ref f52001)=true)
 (a52002:findIn K (.ref f51) "fold"=some (some (.ref f52002)))
 (l52002:Fun K "fold" "Look.fold" J2T f52002 d52002)
 (b52002:PySem.W.isFn K (.ref f52002)=true)
 (a52004:findIn K (.ref f51) "shown_from"=some (some (.ref f52004)))
 (l52004:Fun K "shown_from" "Look.shown_from" J0P f52004 d52004)
 (b52004:PySem.W.isFn K (.ref f52004)=true)
 (a52005:findIn K (.ref f51) "shown"=some (some (.ref f52005)))
 (l52005:Fun K "shown" "Look.shown" J2r f52005 d52005)
 (b52005:PySem.W.isFn K (.ref f52005)=true)
 (a63000:findIn K (.ref f62) "__init__"=some (some (.ref f63000)))
 (l63000:Fun K "__init__" "Table.__init__" J0C f63000 d63000)
 (b63000:PySem.W.isFn K (.ref f63000)=true)
 (a63004:findIn K (.ref f62) "kids"=some (some (.ref f63004)))
 (l63004:Fun K "kids" "Table.kids" J1i f63004 d63004)
 (b63004:PySem.W.isFn K (.ref f63004)=true)
 (XW:exB K f5 none=true)
 (XG:PySem.W.keepIn K (.ref f5)=true)
 (XB:findIn K (.ref f5) "__getattribute__"=some (some (.builtin "BaseException.__getattribute__")))
 (Xz:findIn K (.ref f5) "__getattr__"=some none)
 (XA:PySem.W.mroIn K f5 (.type "BaseException")=some true)
 (XF:PySem.W.mroIn K f5 (.type "object")=some true)
 (Xy:PySem.W.hasDictIn K f5=true)
 (XJ:findIn K (.ref f5) "__class__"=some (some (.builtin "object.__class__")))
 (XH:PySem.W.specialIn K (.builtin "object.__class__") "__get__"=some (some (.builtin "getset_descriptor.__get__")))
 (XI:PySem.W.takesIn K (.builtin "object.__class__")=some true)
 (XD:findIn K (.ref f5) "__setattr__"=some (some (.builtin "object.__setattr__")))
 (XX:PySem.W.plainGet K f28 Str.empty=true)
 (XN:PySem.W.hasDictIn K f28=true)
 (XT:PySem.W.plainOver K f28=true)
 (XQ:findIn K (.ref f28) "__setattr__"=some (some (.builtin "object.__setattr__")))
 (XO:PySem.W.makesIn K f28=true)
 (XM:PySem.W.keepIn K (.ref f28)=true)
 (Yh:PySem.W.plainGet K f51 Str.empty=true)
 (Yc:PySem.W.hasDictIn K f51=true)
 (Yg:PySem.W.plainOver K f51=true)
 (Ya:findIn K (.ref f51) "__setattr__"=some (some (.builtin "object.__setattr__")))
 (Yf:PySem.W.makesIn K f51=true)
 (Ye:PySem.W.keepIn K (.ref f51)=true)
 (XR:PySem.W.plainGet K f62 Str.empty=true)
 (XY:PySem.W.hasDictIn K f62=true)
 (XZ:PySem.W.plainOver K f62=true)
 (XV:findIn K (.ref f62) "__setattr__"=some (some (.builtin "object.__setattr__")))
 (XS:PySem.W.makesIn K f62=true)
 (XL:PySem.W.keepIn K (.ref f62)=true)
 (Xo:findIn K (.ref f28) "given"=some none)
 (Xa:findIn K (.ref f28) "kept_fields"=some none)
 (Xe:findIn K (.ref f28) "kept_rows"=some none)
 (Xn:findIn K (.ref f51) "orders"=some none)
 (Xq:findIn K (.ref f51) "table"=some none)
 (Xj:findIn K (.ref f51) "unfolded"=some none)
 (Xp:findIn K (.ref f62) "boxes"=some none)
 (Xb:findIn K (.ref f62) "kept_fields"=some none)
 (Xd:findIn K (.ref f62) "kept_heads"=some none)
 (Xf:findIn K (.ref f62) "kept_view"=some none)
 (Xc:PySem.W.kitOne K (.ref f5) (.ref f2)=some true)
 (Xl:Jcb K f5 f5=true)
 (Xk:PySem.W.kitOne K (.ref f5) (.ref f5)=some true)
 (Xm:PySem.W.kitOne K (.ref f5) (.ref f6)=some false)
 (Xh:PySem.W.kitOne K (.ref f5) (.ref f7)=some false)
 (Xg:PySem.W.kitOne K (.ref f5) (.ref f8)=some false)
 (Xi:PySem.W.kitOne K (.ref f5) (.ref f9)=some false)
 (XE:PySem.W.kitOne K (.ref f5) (.type "ValueError")=some true)
 (Xw:nsIn K mainGlobals "ValueError"=some none)
 (Yu:nsIn K mainGlobals "abs"=some none)
 (Yt:nsIn K mainGlobals "all"=some none)
 (Yo:nsIn K mainGlobals "any"=some none)
 (Ym:nsIn K mainGlobals "bool"=some none)
 (XC:nsIn K mainGlobals "enumerate"=some none)
 (Yq:nsIn K mainGlobals "int"=some none)
 (Xu:nsIn K mainGlobals "isinstance"=some none)
 (Yw:nsIn K mainGlobals "len"=some none)
 (Yn:nsIn K mainGlobals "list"=some none)
 (Ys:nsIn K mainGlobals "min"=some none)
 (Yl:nsIn K mainGlobals "range"=some none)
 (XU:nsIn K mainGlobals "reversed"=some none)
 (Yv:nsIn K mainGlobals "set"=some none)
 (Yi:nsIn K mainGlobals "sorted"=some none)
 (Yp:nsIn K mainGlobals "str"=some none)
 (Yk:nsIn K mainGlobals "tuple"=some none)
 (Yr:nsIn K mainGlobals "zip"=some none)
 {tk_LETTERS:Tok} (Yd:nsIn K mainGlobals "LETTERS"=some (some (.str "abcdefghijklmnopqrstuvwxyz" tk_LETTERS)))
 {tk_FIGURES:Tok} (Yb:nsIn K mainGlobals "FIGURES"=some (some (.str "0123456789" tk_FIGURES)))
 {tk_MOST_SIGNS:Tok} (Xv:nsIn K mainGlobals "MOST_SIGNS"=some (some (.int (12) tk_MOST_SIGNS)))
 {f22:Addr} {od22:Option Addr} {sl22:Array (Option Value)} {n22:Nat} {tk22_0 tk22_1:Tok} (Yj:nsIn K mainGlobals "KINDS"=some (some (.ref f22))) (l22:K.lookup f22=some ⟨.type "tuple",od22,.seq #[.str "word" tk22_0,.str "number" tk22_1] n22,sl22⟩)
 {tk_MOST_FIELDS:Tok} (Xt:nsIn K mainGlobals "MOST_FIELDS"=some (some (.int (8) tk_MOST_FIELDS)))
 {f30:Addr} {od30:Option Addr} {sl30:Array (Option Value)} {n30:Nat} {tk30_0 tk30_1 tk30_2 tk30_3:Tok} (Xs:nsIn K mainGlobals "NAMED_FORMS"=some (some (.ref f30))) (l30:K.lookup f30=some ⟨.type "tuple",od30,.seq #[.str "sum" tk30_0,.str "greatest" tk30_1,.str "least" tk30_2,.str "unlike" tk30_3] n30,sl30⟩)
 {tk_MOST_NAMES:Tok} (Xx:nsIn K mainGlobals "MOST_NAMES"=some (some (.int (3) tk_MOST_NAMES)))
 {tk_MOST_FIGURES:Tok} (Xr:nsIn K mainGlobals "MOST_FIGURES"=some (some (.int (4) tk_MOST_FIGURES)))
 : ∃ f fd,Txt K mg f fd/\f 86=f86/\∃ kV dc pm an cd ct,fd 86=PySem.W.fnOf "law" "law" (J13 s_law) (J0H s_law) (Jf s_law) .none kV dc pm an cd ct:=by
 obtain ⟨kV,dc,pm,an,cd,ct,e⟩:∃ kV dc pm an cd ct,d86=PySem.W.fnOf "law" "law" (J13 s_law) (J0H s_law) (Jf s_law) .none kV dc pm an cd ct:=by
  obtain ⟨⟨_,_,kV,dc,pm,an,cd,ct,_,e,_⟩,_⟩:=l86;exact ⟨kV,dc,pm,an,cd,ct,e⟩
 refine ⟨λi=>match i with | 14=>f14 | 15=>f15 | 16=>f16 | 17=>f17 | 18=>f18 | 19=>f19 | 20=>f20 | 24=>f24 | 25=>f25 | 26=>f26 | 27=>f27 | 31=>f31 | 32=>f32 | 37=>f37 | 38=>f38 | 39=>f39 | 40=>f40 | 41=>f41 | 42=>f42 | 43=>f43 | 44=>f44 | 45=>f45 | 47=>f47 | 50=>f50 | 53=>f53 | 54=>f54 | 55=>f55 | 56=>f56 | 57=>f57 | 58=>f58 | 60=>f60 | 61=>f61 | 64=>f64 | 65=>f65 | 66=>f66 | 67=>f67 | 68=>f68 | 69=>f69 | 70=>f70 | 71=>f71 | 72=>f72 | 73=>f73 | 74=>f74 | 75=>f75 | 76=>f76 | 77=>f77 | 78=>f78 | 79=>f79 | 80=>f80 | 81=>f81 | 82=>f82 | 83=>f83 | 84=>f84 | 85=>f85 | 86=>f86 | 29000=>f29000 | 29001=>f29001 | 29002=>f29002 | 29005=>f29005 | 29006=>f29006 | 52000=>f52000 | 52001=>f52001 | 52002=>f52002 | 52004=>f52004 | 52005=>f52005 | 63000=>f63000 | 63004=>f63004 | 2=>f2 | 5=>f5 | 6=>f6 | 7=>f7 | 8=>f8 | 9=>f9 | 28=>f28 | 51=>f51 | 62=>f62 | 22=>f22 | 30=>f30 | _=>0,λi=>match i with | 14=>d14 | 15=>d15 | 16=>d16 | 17=>d17 | 18=>d18 | 19=>d19 | 20=>d20 | 24=>d24 | 25=>d25 | 26=>d26 | 27=>d27 | 31=>d31 | 32=>d32 | 37=>d37 | 38=>d38 | 39=>d39 | 40=>d40 | 41=>d41 | 42=>d42 | 43=>d43 | 44=>d44 | 45=>d45 | 47=>d47 | 50=>d50 | 53=>d53 | 54=>d54 | 55=>d55 | 56=>d56 | 57=>d57 | 58=>d58 | 60=>d60 | 61=>d61 | 64=>d64 | 65=>d65 | 66=>d66 | 67=>d67 | 68=>d68 | 69=>d69 | 70=>d70 | 71=>d71 | 72=>d72 | 73=>d73 | 74=>d74 | 75=>d75 | 76=>d76 | 77=>d77 | 78=>d78 | 79=>d79 | 80=>d80 | 81=>d81 | 82=>d82 | 83=>d83 | 84=>d84 | 85=>d85 | 86=>d86 | 29000=>d29000 | 29001=>d29001 | 29002=>d29002 | 29005=>d29005 | 29006=>d29006 | 52000=>d52000 | 52001=>d52001 | 52002=>d52002 | 52004=>d52004 | 52005=>d52005 | 63000=>d63000 | 63004=>d63004 | _=>d86,⟨?_,?_,?_,?_,?_,?_,?_,?_,?_,?_,?_,?_,?_,?_,?_,?_,?_,?_,?_,?_,?_,?_,?_,?_,?_,?_,?_,?_,?_,?_,?_,?_,?_,?_,?_,?_,?_,?_,?_,?_,?_,?_,?_,?_,?_,?_,?_,?_,?_,?_,?_,?_,?_,?_,?_,?_,?_,?_,?_,?_,?_,?_,?_,?_,?_,?_,?_,?_,?_,?_,?_,?_,?_,?_,?_,?_,?_,?_,?_,?_,?_,?_,?_,?_,?_,?_,?_,?_,?_,?_,?_,?_,?_,?_,?_,?_,?_,?_,?_,?_,?_,?_,?_,?_,?_,?_,?_,?_,?_,?_,?_,?_,?_,?_,?_,?_,?_,?_,?_,?_,?_,?_,?_,?_,?_,?_,?_,?_,?_,?_,?_⟩,rfl,kV,dc,pm,an,cd,ct,e⟩
 any_goals first | assumption | exact PySem.W.mg_none_of X G (by assumption) | exact dkm X G (by assumption) (λ_ _ _ _ _ _=>by first | exact JeE λ_=>rfl | exact JeD λ_ _=>rfl | exact JeC λ_ _ _=>rfl | exact JeB λ_ _ _ _=>rfl | exact Jg4 λ_ _ _ _ _=>rfl | exact Jg3 λ_ _ _ _ _ _=>rfl) (by assumption) | exact ⟨‹_›,‹Fun ..›.binds (λ_ _ _ _ _ _=>by first | exact JeE λ_=>rfl | exact JeD λ_ _=>rfl | exact JeC λ_ _ _=>rfl | exact JeB λ_ _ _ _=>rfl),‹_›⟩ | exact ⟨PySem.W.mg_of X G (by assumption)⟩ | exact ⟨_,PySem.W.mg_of X G (by assumption)⟩ | exact ⟨by assumption,by assumption,‹Fun ..›.kp⟩ | exact PySem.W.mg_of X G (by assumption)
 ·exact (Jfw X G a5 XW XG XB Xz XA XF Xy XJ XH XI XD)
 ·exact (Ja6 X G a28 XX XN XT XQ XO a29000 b29000 XM)
 ·exact (Ja6 X G a51 Yh Yc Yg Ya Yf a52000 b52000 Ye)
 ·exact (Ja6 X G a62 XR XY XZ XV XS a63000 b63000 XL)
 ·exact (λ_=>.inr ⟨_,_,_,l22,rfl,rfl,Jb (Nat.le_of_ble_eq_true rfl),(.cons ⟨_,rfl⟩ (.cons ⟨_,rfl⟩ .nil))⟩)
 ·exact (λ_=>.inr ⟨_,_,_,l30,rfl,rfl,Jb (Nat.le_of_ble_eq_true rfl),(.cons ⟨_,rfl⟩ (.cons ⟨_,rfl⟩ (.cons ⟨_,rfl⟩ (.cons ⟨_,rfl⟩ .nil))))⟩)
open Lean in
local macro_rules | `(tactic|walk_at $s:str)=>do
 let g:=λ(t:String)=>(t.splitOn ",").toArray.mapM λx=>`(Parser.Tactic.simpLemma|$(mkIdent x.toName):ident)
 let b:="J2I,J5C,Jcs,J9h,JdT,J5E,J2H,J5G,L2.J26,J14,J3z,J2F,Jb4,Jav,J4t,J6T,JN,J1T,L2.tC,L2.tOp,L2.tUn,J46,L2.tCB,J2J,J59,J1e,L2.tB,Jb5,J7w,L2.tOr,J8t,JdC,J8r,L2.tIf,J4s,Jb6,J9G,L2.tBM,JdE,L2.rI,L2.rI0,L2.rU,L2.rEq,L2.rNe,J5I,Jd1,J7b,JbL,J7a,Jb3,Jbk,J8T,J8Q,J8P,J4e,J4W,J2G,L2.tSl,J8q,J44,Jbi,J5J,J5D,Jc5,L2.tAs,JcI,J5F,Jbj,Jc7,Jcj,J6S,J5Y,J5Z,J9i,J8R,Jc9,J5H,Jc8,J45,J8s,J8N,J3f,J8p,Jd5,List.map_cons,List.map_nil,List.cons_append,List.nil_append,List.length_cons,List.length_nil,List.getElem?_cons_zero,List.getElem?_cons_succ,Option.some.injEq,exists_eq_left',exists_eq_left,List.set_cons_zero,List.set_cons_succ,List.cons.injEq,and_true,true_and,V.int.injEq,V.str.injEq,V.bl.injEq,V.ref.injEq,V.ty.injEq,exists_and_left,exists_and_right,List.append_nil,reduceCtorEq,false_and,and_false,exists_false,or_false,false_or,decide_true,decide_false,Bool.not_true,Bool.not_false,if_true,if_false,Bool.false_eq_true,ite_true,ite_false,and_assoc,Nat.reduceAdd,Nat.reduceSub,List.replicate_succ,List.replicate_zero,Nat.zero_add,Nat.add_zero,Nat.sub_self"
 let n:=λ(x:String)=>mkIdent x.toName
 match s.getString.splitOn " " with
 | ["ok",p,h]=>`(tactic|refine $(mkIdent (`T++p.toName++`F.ok)) $(n h) (fun $(n "vs") $(n "H") $(n "Q") $(n "E") $(n "h")=>?_) (fun $(n "cdv") $(n "A") $(n "outer") $(n "s") $(n "H") $(n "vs") $(n "Q") $(n "E") $(n "hr") $(n "h")=>?_))
 | ["ln"]=>let h:=n "h";`(tactic|first | (cases $h:ident with | mk=>subst_vars;rfl) | ((repeat obtain ⟨_,$h:ident⟩:=$h:ident);subst_vars;rfl))
 | ["nw",p,h,k,u,y]=>`(tactic|(generalize $(n "e_"):ident:$(n "upd") _ $(n p) _ = $(n k) at *;have $(n u):ident:=$(n "nwS") $(n h) $(n "e_");have $(n y):ident:=$(n "nwY") $(n "e_");clear $(n "e_")))
 | x=>do
  let d←g "J4S,L2.Cx.inTry,L2.Cx.inHand"
  let m:=match x with
   | ["py"]=>some ",J5Q,J2d"
   | ["dl"]=>some ",JdP,JdQ,JdO,J2d,Int.reduceEq,Int.reduceLT,Int.reduceLE,decide_eq_true_eq"
   | ["dt"]=>some ",J5Q"
   | ["dc"]=>some ",J5Q,J2d"
   | _=>none
  let some m:=m | Macro.throwUnsupported
  let e←g (b++m)
  let q←`(Parser.Tactic.simpLemma|↓reduceIte)
  let e:=if x==["dl"] then e.push q else e
  `(tactic|((try dsimp only [$d,*]);simp only [$e,*]))
section
variable {P:Program}{w:World}{K:Frag}{mg:Str->Option Value}{base:Heap}{f:Nat->Addr}{fd:Nat->FuncData}
variable {H H':Hp}{a b d dr fg l n0 n1 o p r u0 u1:Addr}{fvs ps xp xs ys:List V}{kds ns:List Str}{i j m n:Nat}{kd sd sg z:Str}{kvs:List (Key×V)}{sv v x:V}{av:Addr->Prop}{is0 is1:List Nat}{gs:List Fg}{rss:List (List V)}{Q:VK}{F:List V->Bool}{ks:List Int}{nrs:List NR}{σ:St}{A R:TS}{D:Ends}
theorem nwS {G:Hp}{X:HO}(h:H p=none)(e:upd H p X=G):Same H G:=e ▸ Same.upd_new h X
theorem nwY {G:Hp}{X:HO}(e:upd H p X=G):G p=some X:=e ▸ Jd
def J21 (z g:Str):Bool:=z.cps.toList.all λc=>decide (c∈g.cps.toList)
def J6v (_:Frag):Sp:=λvs H Q _=>∃ z g,vs=[.str z,.str g]/\z.length<=sizeLine/\∀ H',Same H H'->Q (.bl (J21 z g)) H'
theorem J6G (T:Txt K mg f fd):FnOk P w K mg base CX0 1 (f 14) (fd 14) ["text","signs"] (J6v K):=by
 walk_at "ok wZ J6C"
 ·walk_at "ln"
 ·obtain ⟨z,g,rfl,hz,k⟩:=h
  refine ⟨_,(Je (Jk (Jt (J53 rfl rfl) T.wo J35 rfl (by decide) (by decide) rfl (pal rfl (JJ ["sign"] J1m rfl (show CompSc _ (Jf J1f) J1m J1m from Jv (by decide +kernel)) (Jf3 (pvl 0)) (λ_ _ _ _ _=>(pgl 0 (show ("sign"::J1m:List Str).Nodup by decide +kernel))) (λ_ _ _ _ _=>JI) (λ_ _ _ _ _=>(JL Jbr (pvl 0) (pvc 2) rfl))) J9)))),?_⟩;walk_at "py";refine comp_of (as:=z.cps.toList) (g:=sgn) JbZ (by rw [qb];exact hz) (λ_ _=>trivial) (λ_=>true) (λc=>.bl (decide (c∈g.cps.toList))) (λc H1 Q _ _ q=>q H1 (Same.refl _)) (λc H1 Q _ _ _ q=>?_) (λH' s1 D hD=>?_)
  ·walk_at "py"
   unfold sgn;walk_at "py";rw [Jfs];exact q H1 (Same.refl _)
  ·refine ⟨z.cps.toList.map λc=>decide (c∈g.cps.toList),.of (by rw [Jd,J0i,map_map];rfl),?_⟩
   have e:(z.cps.toList.map λc=>decide (c∈g.cps.toList)).all id=J21 z g:=by unfold J21;rw [all_map];rfl
   rw [e];exact k _ (s1.new hD _)
def J1U (x:V)(g:Str):Bool:=match x with
 | .str z=>decide (1<=z.length)&&(decide (z.length<=12)&&J21 z g)
 | _=>false
def J4x (K:Frag):Sp:=λvs H Q _=>∃ x g T,vs=[x,.str g]/\Pl K H x T/\∀ H',Same H H'->Q (.bl (J1U x g)) H'
theorem ok_is_short_text (T:Txt K mg f fd):FnOk P w K mg base CX0 2 (f 15) (fd 15) ["thing","signs"] (J4x K):=by
 walk_at "ok wG J4B"
 ·walk_at "ln"
 ·obtain ⟨x,g,t,rfl,p,k⟩:=h
  refine ⟨_,(Ja (Jw (J0l (J0a (Jt (J0G rfl) T.wc Jr rfl (by decide) (by decide) rfl (pal rfl (pvl 0) (pal rfl (pty T.wF J8h) J9)))))
   (Je (Jk JV))
   Jp)
   (Je (Jk (J2V (JcF J72 J72 Jc (Jt J1q T.wa JA rfl (by decide) (by decide) rfl (pal rfl (pvl 0) J9)) (pgi T.zD)) (J3V (Jh T.wZ (J6G T) (hr.mono (by decide)) rfl (by decide) rfl (pal rfl (pvl 0) (pal rfl (pvl 1) J9)))))))),?_⟩
  walk_at "py";refine ⟨t,p,by decide,?_⟩;rcases p.name with ⟨rfl,rfl⟩ | ⟨b,rfl,rfl⟩ | ⟨i,rfl,rfl⟩ | ⟨z,rfl,rfl,hz⟩ | ⟨a,rfl | rfl | rfl,rfl⟩
  case inr.inr.inr.inl =>
   rw [show J6e "str" "str"=true from rfl];walk_at "py";refine ⟨hz,?_⟩;by_cases h1:(1:Int)<=(z.length:Int)
   ·by_cases h2:(z.length:Int)<=12
    ·rw [zP (zS h1),zP (zS h2)]
     refine ⟨z,g,rfl,hz,λH' s1=>?_⟩;have e:J1U (.str z) g=J21 z g:=by
      show (decide (1<=z.length)&&(decide (z.length<=12)&&J21 z g))=_;rw [zS (by omega),zS (by omega)];rfl
     rw [<- e];exact k H' s1
    ·rw [zP (zS h1),zO (by simpa using h2)]
     have e:J1U (.str z) g=false:=by
      show (decide (1<=z.length)&&(decide (z.length<=12)&&J21 z g))=_;rw [zT (show ¬ z.length<=12 by omega),Bool.false_and,Bool.and_false]
     rw [<- e];exact k H (Same.refl H)
   ·rw [zO (by simpa using h1)]
    have e:J1U (.str z) g=false:=by
     show (decide (1<=z.length)&&(decide (z.length<=12)&&J21 z g))=_;rw [zT (show ¬ 1<=z.length by omega),Bool.false_and]
    rw [<- e];exact k H (Same.refl H)
  all_goals
   rw [zP (by decide)];exact k H (Same.refl H)
abbrev J00:Str:="abcdefghijklmnopqrstuvwxyz"
abbrev J3s:Str:="0123456789"
def J9O (K:Frag):Sp:=λvs H Q _=>∃ x T,vs=[x]/\Pl K H x T/\∀ H',Same H H'->Q (.bl (J1U x (J00++J3s))) H'
theorem Jaa (T:Txt K mg f fd):FnOk P w K mg base CX0 3 (f 17) (fd 17) ["thing"] (J9O K):=by
 walk_at "ok yb J9W"
 ·walk_at "ln"
 ·obtain ⟨x,t,rfl,p,k⟩:=h
  refine ⟨_,(Je (Jk (Jh T.wG (ok_is_short_text T) (hr.mono (by decide)) rfl (by decide) rfl (pal rfl (pvl 0) (pal rfl (Jq Ja7 (pgs T.y3) (pgs T.zC)) J9))))),?_⟩;walk_at "py";exact ⟨Jb (by decide),x,_,t,rfl,p,k⟩
def JfY (x:V):Bool:=match x with
 | .int i=>decide ((if i<0 then -i else i)<10 ^ 60)
 | _=>false
def J7z (K:Frag):Sp:=λvs H Q _=>∃ x T,vs=[x]/\Pl K H x T/\Q (.bl (JfY x)) H
theorem J7W (T:Txt K mg f fd):FnOk P w K mg base CX0 1 (f 18) (fd 18) ["thing"] (J7z K):=by
 walk_at "ok yc J7I"
 ·walk_at "ln"
 ·obtain ⟨x,t,rfl,p,k⟩:=h
  refine ⟨_,(Ja (Jw (PW.pt (J2U (J0l (J0a (Jt (J0G rfl) T.wc Jr rfl (by decide) (by decide) rfl (pal rfl (pvl 0) (pal rfl (pty T.wq J4T) J9))))) (J1E (J0a (Jt (J0G rfl) T.wc Jr rfl (by decide) (by decide) rfl (pal rfl (pvl 0) (pal rfl (pty T.wY J8i) J9)))))))
   (Je (Jk JV))
   Jp)
   (Je (Jk (JL J71 (Jt Jdr T.zy JfD rfl (by decide) (by decide) rfl (pal rfl (pvl 0) J9)) (Jq J66 Jc Jc) (Jm _))))),?_⟩
  walk_at "py";refine ⟨t,p,by decide,?_⟩;rcases p.name with ⟨rfl,rfl⟩ | ⟨b,rfl,rfl⟩ | ⟨i,rfl,rfl⟩ | ⟨z,rfl,rfl,hz⟩ | ⟨a,rfl | rfl | rfl,rfl⟩
  case inr.inr.inl =>
   rw [show J6e "int" "int"=true from rfl];walk_at "py";refine ⟨"int",p,by decide,?_⟩;rw [show J6e "int" "bool"=false from rfl];walk_at "py";exact ⟨⟨by decide,by decide,by decide⟩,k⟩
  case inr.inl =>
   rw [show J6e "bool" "int"=true from rfl];walk_at "py";refine ⟨"bool",p,by decide,?_⟩;rw [show J6e "bool" "bool"=true from rfl];walk_at "py";exact k
  all_goals
   rw [zP (by decide)];exact k
def J7u (kd:Str)(x:V):Bool:=if x=.non then true else if kd="number" then JfY x else J1U x (J00++J3s)
def J8B (K:Frag):Sp:=λvs H Q _=>∃ kd x T,vs=[.str kd,x]/\Pl K H x T/\∀ H',Same H H'->Q (.bl (J7u kd x)) H'
theorem ok_is_value (T:Txt K mg f fd):FnOk P w K mg base CX0 4 (f 19) (fd 19) ["kind","thing"] (J8B K):=by
 walk_at "ok wH J8J"
 ·walk_at "ln"
 ·obtain ⟨kd,x,t,rfl,p,k⟩:=h
  refine ⟨_,(Ja (Jw (Jo J3W (pvl 1) J0W (Jm _))
   (Je (Jk JV))
   Jp)
   (Ja (Jw (Jo JE (pvl 0) Jl (Jm _))
   (Je (Jk (Jh T.yc (J7W T) (hr.mono (by decide)) rfl (by decide) rfl (pal rfl (pvl 1) J9))))
   Jp)
   (Je (Jk (Jh T.yb (Jaa T) (hr.mono (by decide)) rfl (by decide) rfl (pal rfl (pvl 1) J9)))))),?_⟩
  walk_at "py";by_cases c:x=.non
  ·rw [zP (zS c)]
   unfold J7u at k;rw [zP c] at k;exact k H (Same.refl H)
  ·rw [zO (by simpa using c)]
   unfold J7u at k;rw [zO c] at k;by_cases hk:kd=Str.ofString "number"
   ·rw [zP (zS hk)]
    rw [zP hk] at k;exact ⟨x,t,rfl,p,k H (Same.refl H)⟩
   ·rw [zO (by simpa using hk)]
    rw [zO hk] at k;exact ⟨x,t,rfl,p,k⟩
def J9Q (K:Frag):Sp:=λvs H Q _=>∃ x T,vs=[x]/\Pl K H x T/\∀ H',Same H H'->Q (.bl (J1U x J00)) H'
theorem Jab (T:Txt K mg f fd):FnOk P w K mg base CX0 3 (f 16) (fd 16) ["thing"] (J9Q K):=by
 walk_at "ok ya J9Y"
 ·walk_at "ln"
 ·obtain ⟨x,t,rfl,p,k⟩:=h
  refine ⟨_,(Je (Jk (Jh T.wG (ok_is_short_text T) (hr.mono (by decide)) rfl (by decide) rfl (pal rfl (pvl 0) (pal rfl (pgs T.y3) J9))))),?_⟩;walk_at "py";exact ⟨x,_,t,rfl,p,k⟩
def Wrd (z:Str):Prop:=1<=z.length/\z.length<=12/\∀ c∈z.cps.toList,c∈(J00++J3s).cps.toList
theorem Jet:∀ c∈(J00++J3s).cps.toList,c<1114112:=by decide +kernel
abbrev JdJ:Str:="abcdefghijklmnopqrstuvwxyz0123456789"
theorem J9S:JdJ=J00++J3s:=by decide +kernel
def FldsK (H:Hp)(xs:List V)(ns kds:List Str):Prop:=ns.length=xs.length/\kds.length=xs.length/\ns.Nodup/\∀ (i:Nat) x n kd,xs[i]?=some x->ns[i]?=some n->kds[i]?=some kd->∃ p,x=.ref p/\H p=some (.tup [.str n,.str kd])
theorem FldsK.mono (s:Same H H')(h:FldsK H xs ns kds):FldsK H' xs ns kds:=⟨h.1,h.2.1,h.2.2.1,λi x n kd a b c=>by
 obtain ⟨p,e,g⟩:=h.2.2.2 i x n kd a b c;exact ⟨p,e,s _ _ g⟩⟩
theorem FldsK.at (h:FldsK H xs ns kds)(hi:i<xs.length):∃ p n kd,xs[i]?=some (.ref p)/\ns[i]?=some n/\kds[i]?=some kd/\H p=some (.tup [.str n,.str kd]):=by
 have h1:i<ns.length:=by rw [h.1];exact hi
 have h2:i<kds.length:=by rw [h.2.1];exact hi
 obtain ⟨p,e,g⟩:=h.2.2.2 i _ _ _ (qc hi) (qc h1) (qc h2);exact ⟨p,_,_,by rw [qc hi,e],qc h1,qc h2,g⟩
def J4X (K:Frag):Sp:=λvs H Q _=>∃ l xs ns kds n,∃ i:Nat,vs=[.ref l,.str n]/\H l=some (.lst xs)/\FldsK H xs ns kds/\ns[i]?=some n/\∀ H',Same H H'->Q (.int i) H'
theorem ok_field_at (T:Txt K mg f fd):FnOk P w K mg base CX0 1 (f 26) (fd 26) ["fields","name"] (J4X K):=by
 walk_at "ok wp J2M"
 ·walk_at "ln"
 ·obtain ⟨l,xs,ns,kds,n,i,rfl,hl,hF,hi,k⟩:=h
  refine ⟨_,(Ja (J0f PassesOwn.never rfl (JaH rfl T.yX (pal rfl (pvl 0) J9) rfl) (J77 rfl rfl (J0r (pgl 2 J2M.nd) (J0r (pgl 3 J2M.nd) J3h)))
   (Je (Jw (Jo JE (Jn (Ju rfl) (pvl 3) Jc (λ_ _=>rfl)) (pvl 1) (Jm _))
   (Je (Jk (pvl 2)))
   Jp)))
   (Je J08)),?_⟩
  walk_at "py";refine J0h ?_;unfold Jd2;walk_at "py";refine ⟨⟨xs,.of hl⟩,ForW.enum (xs:=xs) (λj σ H'=>(∃ v2 v3,σ=[some (V.ref l),some (V.str n),v2,v3])/\n∉ns.take j/\Same H H') ⟨⟨none,none,rfl⟩,by simp,Same.refl _⟩ (λ_ _ _ q=>q.2.2.seq (.of hl)) ?_ ?_⟩
  ·rintro j x σ H1 p hx ⟨⟨v2,v3,rfl⟩,hnot,s1⟩ hp
   have s2:=s1.new hp (HO.tup [V.int (j:Int),x]);refine ⟨p,_,rfl,.of Jd,rfl,?_⟩;generalize upd H1 p (HO.tup [V.int (j:Int),x])=H2 at *;obtain ⟨q,nj,kd,hxq,hj,_,hq⟩:=hF.at (qd.mp hx).1;obtain rfl:x=.ref q:=zU (hx.symm.trans hxq);simp only [J2C,J6J,JN];walk_at "py";refine Jfq (.of (s2 _ _ hq)) (by decide) (by simp) λv hv=>?_;obtain rfl:V.str nj=v:=by simpa using hv
   refine ⟨rfl,?_⟩;by_cases e:nj=n
   ·subst e
    rw [zP (by simp)];obtain rfl:=J16 hF.2.2.1 hi hj;exact k _ s2
   ·rw [zO (by simpa using e)]
    refine ⟨⟨_,rfl⟩,?_,s2⟩;rw [JF hj];intro z;rcases qu.mp z with z | z
    ·exact hnot z
    ·exact e (qf.mp z).symm
  ·rintro σ H1 ⟨⟨v2,v3,rfl⟩,hnot,s1⟩
   rw [<- hF.1,qr] at hnot;exact absurd (qi hi) hnot
abbrev JO:Str:="word"
abbrev J1I:Str:="number"
def Jes (b:Nat)(n:Str):Prop:=n.length<=b/\∀ c∈n.cps.toList,c<1114112
abbrev J9y (z:Str):Prop:=∀ c∈z.cps.toList,c<1114112
theorem J2K (h:J9y z):PyData.strOk z=true:=by
 simp only [PyData.strOk];rw [Array.all_eq_true_iff_forall_mem];intro c hc';exact zS (h c (by simpa using hc'))
def Jar (kd:Str)(x:V):Prop:=(kd=JO/\∃ z,x=.str z/\Jes 12 z)\/(kd=J1I/\∃ i,x=.int i)
def J58 (kds:List Str)(rs:List V):Prop:=rs.length=kds.length/\∀ (i:Nat) x kd,rs[i]?=some x->kds[i]?=some kd->x=.non\/Jar kd x
abbrev Jgc:Str:="abcdefghijklmnopqrstuvwxyz0123456789"
theorem Jgk:∀ d:Nat,d<26->J00.cps.toList[d]?=some (97+d):=by decide +kernel
theorem Jgg:J00.length=26:=by decide
theorem J5k {α:Type}{f:Nat->α}(h:∀ i j,i<m->j<m->f i=f j->i=j):((List.range m).map f).Nodup:=by
 unfold List.Nodup;rw [pairwise_map];refine List.Pairwise.imp_of_mem (λ{a b} ha hb hn e=>hn (h a b (mem_range.mp ha) (mem_range.mp hb) e)) nodup_range
def ch (sg:Str)(i:Int):Nat:=sg.cps.toList.getD (i % (sg.length:Int)).toNat 0
theorem J6k (h:1<=sg.length)(i:Int):sg.cps.toList[(i % (sg.length:Int)).toNat]?=some (ch sg i):=by
 have h1:=zW i (show (0:Int)<sg.length by omega);have h0:=zX i (show (sg.length:Int)≠0 by omega);have hl:(i % (sg.length:Int)).toNat<sg.cps.toList.length:=by rw [show sg.cps.toList.length=sg.length by simp [Str.length]];omega
 unfold ch;rw [qh,qc hl];rfl
theorem Jdj (h:1<=sg.length)(i:Int):ch sg i∈sg.cps.toList:=qi (J6k h i)
theorem Jeb (z:Str):z.cps.toList.length=z.length:=by simp [Str.length]
def Nam (n:Str):Prop:=1<=n.length/\n.length<=12/\∀ c∈n.cps.toList,c∈J00.cps.toList
theorem Nam.wrd {n:Str}(h:Nam n):Wrd n:=⟨h.1,h.2.1,λc hc=>by rw [PySem.W.KT.app_list];exact qw _ (h.2.2 c hc)⟩
theorem JeJ {n:Str}(h:1<=n.length/\n.length<=12/\∀ c∈n.cps.toList,c∈Jgc.cps.toList):Wrd n:=⟨h.1,h.2.1,λc hc=>by rw [<- J9S];exact h.2.2 c hc⟩
def KdV (kd:Str)(x:V):Prop:=(kd=JO/\∃ z,x=.str z/\Wrd z)\/(kd=J1I/\∃ i,x=.int i/\i.natAbs<10 ^ 60)
theorem Jfe:∀ c∈J00.cps.toList,c<1114112:=by decide +kernel
theorem J2E (h:H d=some (.dK kvs))(e:Jy kvs (.inr z)=some v):DGet H d (.str z) (some v):=by
 have:=DGet.k (k:=.inr z) h;rwa [e] at this
def RowS (kds:List Str)(rs:List V):Prop:=rs.length=kds.length/\∀ (i:Nat) x kd,rs[i]?=some x->kds[i]?=some kd->x=.non\/KdV kd x
theorem KdV.of (h:KdV kd x):Jar kd x:=by
 rcases h with ⟨e,z,e2,hz⟩ | ⟨e,i,e2,_⟩
 ·exact .inl ⟨e,z,e2,hz.2.1,λc hc=>Jet c (hz.2.2 c hc)⟩
 ·exact .inr ⟨e,i,e2⟩
theorem RowS.ok {rs:List V}(h:RowS kds rs):J58 kds rs:=⟨h.1,λi x kd a b=>(h.2 i x kd a b).imp id KdV.of⟩
def toN:V->Ji
 | .int i=>some (.inl i)
 | .str z=>some (.inr z)
 | _=>none
def TyN (t:Str)(k:Ji):Prop:=k=none\/(t=JO/\∃ z,k=some (.inr z)/\Jes 12 z)\/(t=J1I/\∃ i,k=some (.inl i))
theorem J9F {t:Str}(h:v=.non\/Jar t v):nV (toN v)=v/\TyN t (toN v):=by
 rcases h with rfl | ⟨e,z,rfl,hz⟩ | ⟨e,i,rfl⟩
 ·exact ⟨rfl,.inl rfl⟩
 ·exact ⟨rfl,.inr (.inl ⟨e,z,rfl,hz⟩)⟩
 ·exact ⟨rfl,.inr (.inr ⟨e,i,rfl⟩)⟩
def TyL:List Str->List Ji->Prop
 | _,[]=>True
 | [],_::_=>False
 | t::ts,k::ks=>TyN t k/\TyL ts ks
theorem TyN.ok {t:Str}{k:Ji}(h:TyN t k):okN k:=by
 rcases h with rfl | ⟨_,z,rfl,hz⟩ | ⟨_,i,rfl⟩
 ·trivial
 ·exact J2K hz.2
 ·trivial
theorem TyN.like {t:Str}{a b:Ji}(h:TyN t a)(h':TyN t b):JaM a b=true:=by
 rcases h with rfl | ⟨e,z,rfl,hz⟩ | ⟨e,i,rfl⟩
 ·cases b<;>rfl
 ·rcases h' with rfl | ⟨_,z',rfl,_⟩ | ⟨e',j,rfl⟩
  ·rfl
  ·rfl
  ·rw [e] at e';exact absurd e' (by decide)
 ·rcases h' with rfl | ⟨e',z',rfl,_⟩ | ⟨_,j,rfl⟩
  ·rfl
  ·rw [e] at e';exact absurd e' (by decide)
  ·rfl
theorem TyL.ok:∀ {ts:List Str} {ks:List Ji},TyL ts ks->∀ k∈ks,okN k
 | _,[],_,k,hk=>nomatch hk
 | [],_::_,h,_,_=>qa h
 | t::ts,k::ks,h,x,hx=>by
   rcases qo.mp hx with rfl | hx
   ·exact h.1.ok
   ·exact TyL.ok h.2 x hx
theorem TyL.like:∀ {ts:List Str} {as bs:List Ji},TyL ts as->TyL ts bs->J76 as bs=true
 | _,[],[],_,_=>rfl
 | _,[],_::_,_,_=>rfl
 | _,_::_,[],_,_=>rfl
 | [],_::_,_::_,h,_=>qa h
 | t::ts,a::as,b::bs,h,h'=>by
   rw [J76,h.1.like h'.1,Bool.true_and]
   split
   ·exact TyL.like h.2 h'.2
   ·rfl
theorem TyL.take:∀ {ts:List Str} {ks:List Ji} (n:Nat),TyL ts ks->TyL ts (ks.take n)
 | _,[],n,_=>by rw [take_nil];cases ‹List Str›<;>trivial
 | [],_::_,_,h=>qa h
 | t::ts,k::ks,0,_=>trivial
 | t::ts,k::ks,n+1,h=>⟨h.1,TyL.take n h.2⟩
def pj (is:List Nat)(rs:List V):List Ji:=is.map λi=>toN (rs.getD i .non)
theorem J8X {kds:List Str}{rs:List V}(h:J58 kds rs):∀ {is:List Nat},(∀ i∈is,i<kds.length)->TyL (is.map λi=>kds.getD i JO) (pj is rs)/\(pj is rs).map nV=is.map λi=>rs.getD i .non
 | [],_=>⟨trivial,rfl⟩
 | i :: is,hi=>by
   obtain ⟨h1,h2⟩:=J8X h (is:=is) λj hj=>hi j (ql _ hj);have hil:=hi i qm;have hir:i<rs.length:=by rw [h.1];exact hil
   have e1:rs.getD i .non=rs[i]:=by rw [qh,qc hir];rfl
   have e2:kds.getD i JO=kds[i]:=by rw [qh,qc hil];rfl
   obtain ⟨q1,q2⟩:=J9F (h.2 i rs[i] kds[i] (qc hir) (qc hil));refine ⟨⟨?_,h1⟩,?_⟩
   ·dsimp only;rw [e1,e2];exact q2
   ·rw [qp,<- h2]
    show nV (toN (rs.getD i .non))::(pj is rs).map nV=_;rw [e1,q1]
def J5m (a:List (List Ji))(k:List Ji):Bool:=a.any λx=>decide (x=k)
theorem J4l {a:List (List Ji)}{k:List Ji}:J5m a k=true↔k∈a:=by
 unfold J5m;rw [any_eq_true];exact ⟨λ⟨x,hx,e⟩=>of_decide_eq_true e ▸ hx,λh=>⟨k,h,zS rfl⟩⟩
def J4U (a:List (List Ji))(k:List Ji):List (List Ji):=if J5m a k=true then a else a++[k]
theorem J2h {a:List (List Ji)}{k x:List Ji}:x∈J4U a k↔x∈a\/x=k:=by
 unfold J4U;by_cases h:J5m a k=true
 ·rw [zP h];exact ⟨.inl,λz=>z.elim id λe=>by rw [e];exact J4l.mp h⟩
 ·rw [zO h,qu,qf]
theorem J6Z (kvs:List (List Ji×V))(k:List Ji)(v:V):(JS kvs k v).map (·.1)=J4U (kvs.map (·.1)) k:=by
 have e0:J5m (kvs.map (·.1)) k=kvs.any λkv=>decide (kv.1=k):=by
  unfold J5m;rw [any_map];rfl
 unfold J4U;rw [e0];cases e:Jy kvs k with
 | none =>
   have:(kvs.any λkv=>decide (kv.1=k))=false:=by rw [J1t,e];rfl
   rw [this,zO (by simp),putK_new v e,qt];rfl
 | some u =>
   have:(kvs.any λkv=>decide (kv.1=k))=true:=by rw [J1t,e];rfl
   rw [this,zP rfl];unfold JS;rw [zP this,map_map];apply map_congr_left;intro p _;simp only [Function.comp]
   first | rfl | (split<;>simp_all)
def J0Y (is:List Nat)(a:List (List Ji))(rs:List V):List (List Ji):=(List.range (is.length+1)).foldl (λa m=>J4U a ((pj is rs).take m)) a
def Jdt (is:List Nat)(rss:List (List V)):List (List Ji):=rss.foldl (J0Y is) [[]]
def J7x (K:Frag):Sp:=λvs H Q _=>∃ k:Ji,vs=[nV k]/\∀ p,H p=none->Q (.ref p) (upd H p (.tup (prV k)))
theorem J7V (T:Txt K mg f fd):FnOk P w K mg base CX0 1 (f 20) (fd 20) ["value"] (J7x K):=by
 walk_at "ok yd J7H"
 ·walk_at "ln"
 ·obtain ⟨kk,rfl,k⟩:=h
  refine ⟨_,(Je (Jk (J63 (Jo J3W (pvl 0) J0W (Jm _)) (Jz (pal rfl Jc (pal rfl Jc J9))) (Jz (pal rfl Jc (pal rfl (pvl 0) J9)))))),?_⟩;walk_at "dl"
  match kk,k with
  | none,k =>
    simp only [nV];rw [zP trivial];exact ⟨Jb (by decide),k⟩
  | some (.inl i),k=>exact Jg9 (λz=>absurd (show V.int i=V.non from z) (by simp)) λ_=>⟨Jb (by decide),k⟩
  | some (.inr i),k=>exact Jg9 (λz=>absurd (show V.str i=V.non from z) (by simp)) λ_=>⟨Jb (by decide),k⟩
def J8u (K:Frag):Sp:=λvs H Q _=>∃ (b:Addr) (ks:List Ji),vs=[.ref b]/\H b=some (.tup (ks.map nV))/\ks.length<=8/\∀ H' v,Same H H'->KeyV H' v ks->Q v H'
theorem J93 (T:Txt K mg f fd):FnOk P w K mg base CX0 2 (f 42) (fd 42) ["path"] (J8u K):=by
 walk_at "ok wJ J8H"
 ·walk_at "ln"
 ·obtain ⟨b,ks,rfl,hb,hl,k⟩:=h
  refine ⟨_,(Je (Jk (JJ ["value"] J2v rfl (show CompSc _ (Jf J2m) J2v J2v from Jv (by decide +kernel)) (J2g rfl (pvl 0)) (λ_ _ _ _ _=>(pgl 0 (show ("value"::J2v:List Str).Nodup by decide +kernel))) (λ_ _ _ _ _=>JI) (λ_ _ _ _ _=>(Jh T.yd (J7V T) (hr.mono (by decide)) rfl (by decide) rfl (pal rfl (pvl 0) J9)))))),?_⟩;walk_at "dl";refine ⟨⟨_,.of hb⟩,?_⟩;refine JM (J0q (xs:=ks.map nV)) (Jb (by rw [qe];omega)) (λj ys H'=>Same H H'/\Prs H' ys (ks.take j)) ⟨Same.refl _,.nil⟩ (λ_ _ H' _ q=>q.1.seqT (.of hb)) (λj ys H' q=>by
   have:=Paired.length q.2;rw [this,qk];omega) (λj x ys H2 hx q=>?_) (λys H2 q D hD=>?_)
  ·rw [qq] at hx
   obtain ⟨kk,hkk,rfl⟩:=Option.map_eq_some_iff.mp hx;walk_at "dl";refine ⟨kk,rfl,λp hp=>⟨⟨_,rfl⟩,q.1.new hp _,?_⟩⟩;rw [take_add_one,hkk];exact Paired.snoc (q.2.mono (Same.upd_new hp _)) ⟨p,rfl,Jd⟩
  ·rw [qe,qr] at q
   exact k _ _ (q.1.new hD _) ⟨D,ys,rfl,Jd,q.2.mono (Same.upd_new hD _)⟩
theorem none_of (s:Same H H')(h:H' p=none):H p=none:=by
 cases e:H p with
 | none=>rfl
 | some u=>rw [s _ _ e] at h;cases h
theorem J34 {k:Nat}:J24 xs none (some (k:Int))=xs.take k:=by
 unfold J24;rw [HT.sIx_none,HT.sIx_nat,drop_zero,Nat.sub_zero];rw [take_eq_take_iff];omega
inductive Q_paths_over (K:Frag)(vs:List V)(H:Hp)(Q:VK):Prop
 | mk (l ln r:Addr) (xs rs:List V) (ns kds:List Str) (is:List Nat) (u0_:vs=[.ref l,.ref ln,.ref r]) (u1_:H l=some (.lst xs)) (u2_:FldsK H xs ns kds) (u3_:H ln=some (.tup (is.map λi=>V.str (ns.getD i JO)))) (u4_:(∀ i∈is,i<kds.length)) (u5_:is.length<=8) (u6_:H r=some (.tup rs)) (u7_:J58 kds rs) (u8_:∀ H' p ts,H p=none->Same H H'->H' p=some (.lst ts)->TupsV H' ts ((List.range (is.length+1)).map λm=>(pj is rs).take m)->Q (.ref p) H'):Q_paths_over K vs H Q
def J6u (K:Frag):Sp:=λvs H Q _=>Q_paths_over K vs H Q
theorem J20 (T:Txt K mg f fd):FnOk P w K mg base CX0 2 (f 44) (fd 44) ["fields","names","row"] (J6u K):=by
 walk_at "ok wy J3D"
 ·walk_at "ln"
 ·obtain ⟨l,ln,r,xs,rs,ns,kds,is,rfl,hl,hF,hn,hi,hz,hr',hR,k⟩:=h
  refine ⟨_,(Ja (psc 3 J3D.nd (JJ ["name"] J0c rfl (show CompSc _ (Jf J0O) J0c J0c from Jv (by decide +kernel)) (J2g rfl (pvl 1)) (λ_ _ _ _ _=>(pgl 0 (show ("name"::J0c:List Str).Nodup by decide +kernel))) (λ_ _ _ _ _=>JI) (λ_ _ _ _ _=>(Jn (Ju rfl) (pvc 3) (Jh T.wp (ok_field_at T) (hr.mono (by decide)) rfl (by decide) rfl (pal rfl (pvc 1) (pal rfl (pvl 0) J9))) (λ_ _=>rfl)))))
   (Je (Jk (JJ ["many"] J0c rfl (show CompSc _ (Jf J0O) J0c J0c from Jv (by decide +kernel)) (J0m rfl T.wl (pal rfl (Jq Jx (Jt (JW rfl) T.wa JA rfl (by decide) (by decide) rfl (pal rfl (pvc 3) J9)) Jc) J9)) (λ_ _ _ _ _=>(pgl 0 (show ("many"::J0c:List Str).Nodup by decide +kernel))) (λ_ _ _ _ _=>JI) (λ_ _ _ _ _=>(J0z (J1P rfl) T.wg J03 rfl (by decide) (by decide) rfl (pal rfl (J0s (J52 rfl) (pvc 4) J0Q (J0D (pvl 0))) J9))))))),?_⟩
  generalize hB:Jb4 (J5I _ (J7a _) _ _ _)=B;walk_at "dl";refine ⟨⟨_,.of hn⟩,?_⟩;refine comp_of (as:=is) (g:=λi=>V.str (ns.getD i JO)) J0q (Jb (by omega)) (λH' q=>q.seqT (.of hn)) (λ_=>true) (λi=>rs.getD i .non) (λn H1 Q' _ s1 q=>?_) (λn H1 Q' hin _ s1 q=>?_) (λH1 s1 D hD=>?_)
  ·exact q H1 (Same.refl _)
  ·have hil:=hi n hin
   have hin':n<ns.length:=by rw [hF.1,<- hF.2.1];exact hil
   have hir:n<rs.length:=by rw [hR.1];exact hil
   walk_at "dl";refine ⟨xs,s1 _ _ hl,⟨ns,⟨kds,hF.mono s1⟩,n,by rw [qc hin',qh,qc hin'];rfl,λH2 s2=>?_⟩⟩;exact ⟨r,rs,_,_,rfl,rfl,.of ((s1.trans s2) _ _ hr'),Jg (by rw [qc hir,qh,qc hir];rfl),q H2 s2⟩
  obtain ⟨ty,enV⟩:=J8X hR hi;rw [filter_eq_self.mpr (λ_ _=>rfl),<- enV];have hpl:(pj is rs).length=is.length:=by simp [pj]
  walk_at "nw D hD H2 u_ gD"
  have s2:=s1.trans u_;clear hD;subst hB;walk_at "dl";refine ⟨_,.inl (.of gD),?_⟩;rw [qe,hpl];refine ⟨by omega,by omega,?_⟩;rw [show ((is.length:Int)+1).toNat=is.length+1 by omega];refine JM J07 (by rw [JK];exact Jb (by omega)) (λj ys H'=>Same H2 H'/\TupsV H' ys ((List.range j).map λm=>(pj is rs).take m)) ⟨Same.refl _,.nil⟩ (λ_ _ _ _ _=>trivial) (λj ys H' q=>by
   have:=Paired.length q.2;rw [this,qe,qC];omega) (λj x ys H3 hx q=>?_) (λys H3 q D3 hD3=>?_)
  ·obtain ⟨hj,rfl⟩:=J0e hx
   walk_at "dl";refine ⟨_,.of (q.1 _ _ gD),λp hp=>⟨_,.inl ⟨.of Jd,λl2 hl2=>⟨⟨_,rfl⟩,(q.1.new hp _).new hl2 _,?_⟩⟩⟩⟩;have w2:=(Same.upd_new hp (HO.lst (J24 ((pj is rs).map nV) none (some (0+(j:Int)))))).new hl2 (HO.tup (J24 ((pj is rs).map nV) none (some (0+(j:Int)))));have e0:J24 ((pj is rs).map nV) none (some (0+(j:Int)))=((pj is rs).take j).map nV:=by rw [Int.zero_add,J34,map_take]
   rw [range_succ,qt];exact Paired.snoc (q.2.mono w2) ⟨l2,rfl,by rw [Jd,e0]⟩
  ·rw [JK] at q
   exact k _ _ _ (none_of (s2.trans q.1) hD3) ((s2.trans q.1).new hD3 _) Jd (q.2.mono (Same.upd_new hD3 _))
def Rows (H:Hp)(kds:List Str)(xs:List V)(rs:List (List V)):Prop:=Paired (λ(x:V) (r:List V)=>∃ p,x=.ref p/\H p=some (.tup r)/\J58 kds r) xs rs
theorem Rows.mono {rs:List (List V)}(s:Same H H')(h:Rows H kds xs rs):Rows H' kds xs rs:=Paired.mapP h λ_ _ ⟨p,e,a,b⟩=>⟨p,e,s _ _ a,b⟩
theorem Paired.ix {α β:Type}{F:α->β->Prop}:∀ {xs:List α} {ys:List β} (_:Paired F xs ys) {i:Nat} {x:α},xs[i]?=some x->∃ y,ys[i]?=some y/\F x y
 | _,_,.nil,i,x,h=>by simp at h
 | _,_,.cons r t,0,x,h=>by cases h;exact ⟨_,rfl,r⟩
 | _,_,.cons r t,i+1,x,h=>Paired.ix t (i:=i) (by simpa using h)
theorem J7q {is:List Nat}{rs:List V}(hR:J58 kds rs)(hi:∀ i∈is,i<kds.length)(m:Nat):TyL (is.map λi=>kds.getD i JO) ((pj is rs).take m):=TyL.take m (J8X hR hi).1
theorem J9w {tys:List Str}{L:List (List Ji)}(h:∀ a∈L,TyL tys a):J3v L:=⟨λa ha=>(h a ha).ok,λa ha b hb=>(h a ha).like (h b hb)⟩
theorem J6q (a:List (List Ji))(k:List Ji):(J4U a k).length<=a.length+1:=by
 unfold J4U
 split
 ·omega
 ·rw [qj];exact zQ _
theorem TyL.len:∀ {ts:List Str} {ks:List Ji},TyL ts ks->ks.length<=ts.length
 | _,[],_=>zZ _
 | [],_::_,h=>qa h
 | _::_,_::_,h=>Nat.succ_le_succ (TyL.len h.2)
theorem TupsV.put {ts:List V}{kss:List (List Ji)}{o u:HO}(h:TupsV H ts kss)(hp:H p=some u)(hu:∀ zs,HO.tup zs≠u):TupsV (upd H p o) ts kss:=Paired.mapP h λ_ _ ⟨b,e,q⟩=>⟨b,e,(Jj (J0S q hp (hu _))).trans q⟩
theorem Jbh {β:Type}{f:Nat->β}{y:β}(h:((List.range n).map f)[i]?=some y):i<n/\y=f i:=by
 rw [qq] at h;obtain ⟨a,ha,rfl⟩:=Option.map_eq_some_iff.mp h;obtain ⟨h1,h2⟩:=qd.mp ha;rw [getElem_range] at h2;rw [qC] at h1;exact ⟨h1,by rw [h2]⟩
def J36 (is:List Nat)(rs:List V)(m:Nat)(a:List (List Ji)):List (List Ji):=(List.range m).foldl (λa m=>J4U a ((pj is rs).take m)) a
theorem J0X (is:List Nat)(rs:List V)(m:Nat)(a:List (List Ji)):J36 is rs (m+1) a=J4U (J36 is rs m a) ((pj is rs).take m):=by
 unfold J36;rw [range_succ,foldl_append];rfl
theorem J6i {α β:Type}{f:α->β->α}{a:α}{l:List β}{x:β}(h:l[j]?=some x):(l.take (j+1)).foldl f a=f ((l.take j).foldl f a) x:=by
 rw [JF h,foldl_append];rfl
inductive Q_heads_of (K:Frag)(vs:List V)(H:Hp)(Q:VK):Prop
 | mk (l ln lr:Addr) (xs xr:List V) (rss:List (List V)) (ns kds:List Str) (is:List Nat) (u0_:vs=[.ref l,.ref ln,.ref lr]) (u1_:H l=some (.lst xs)) (u2_:FldsK H xs ns kds) (u3_:H ln=some (.tup (is.map λi=>V.str (ns.getD i JO)))) (u4_:(∀ i∈is,i<kds.length)) (u5_:is.length<=3) (u6_:H lr=some (.lst xr)) (u7_:Rows H kds xr rss) (u8_:rss.length<=20) (u9_:∀ H' p ts kss,Same H H'->H' p=some (.lst ts)->TupsV H' ts kss->kss.Perm (Jdt is rss)->kss.Pairwise (λa b=>J0R a b=true)->(∀ a∈kss,TyL (is.map λi=>kds.getD i JO) a)->Q (.ref p) H'):Q_heads_of K vs H Q
def J8E (K:Frag):Sp:=λvs H Q _=>Q_heads_of K vs H Q
theorem ok_heads_of (T:Txt K mg f fd):FnOk P w K mg base CX0 5 (f 45) (fd 45) ["fields","names","rows"] (J8E K):=by
 walk_at "ok wK J1N"
 ·walk_at "ln"
 ·obtain ⟨l,ln,lr,xs,xr,rss,ns,kds,is,rfl,hl,hF,hn,hi,hz,hlr,hR,hrz,k⟩:=h
  refine ⟨_,(Ja (psl 3 J1N.nd (J15 (JH hr) (Jz J9) JV))
   (Ja (J0f PassesOwn.never rfl (J0B rfl (pvl 2)) (pgl 4 J1N.nd)
   (Je (J0f PassesOwn.never rfl (J0B rfl (Jh T.wy (J20 T) (hr.mono (by decide)) rfl (by decide) rfl (pal rfl (pvl 0) (pal rfl (pvl 1) (pal rfl (pvl 4) J9))))) (pgl 5 J1N.nd)
   (Je (J1k (JH hr) (pvl 3) (pvl 5) JV rfl)))))
   (Je (Jk (J8Z (J93 T) (hr.mono (by decide)) T.wJ.b T.wJ.m rfl (by decide) rfl rfl rfl T.wE rfl (pal rfl (pvl 3) J9)))))),?_⟩
  walk_at "dl";intro p hp;refine ⟨zZ _,λp1 hp1=>?_⟩;have ne:p≠p1:=λe=>by rw [<- e,Jd] at hp1;cases hp1
  refine ⟨(Jj ne).trans Jd,[],Jd,?_⟩;have s1:Same H (upd (upd (upd H p (HO.dT [])) p1 (HO.tup [])) p (HO.dT [([],V.bl true)])):=((Same.upd_new hp _).new hp1 _).set hp _;have g1:upd (upd (upd H p (HO.dT [])) p1 (HO.tup [])) p (HO.dT [([],V.bl true)]) p=some (HO.dT [([],V.bl true)]):=Jd;generalize upd (upd (upd H p (HO.dT [])) p1 (HO.tup [])) p (HO.dT [([],V.bl true)])=H1 at *;refine J0h ?_;walk_at "dl";refine ⟨⟨_,.of (s1 _ _ hlr)⟩,?_⟩;have hrl:=Paired.length hR;refine ForW.of JC (λj σ H'=>(∃ v4 v5,σ=[some (V.ref l),some (V.ref ln),some (V.ref lr),some (V.ref p),v4,v5])/\Same H H'/\∃ kvs,H' p=some (.dT kvs)/\kvs.map (·.1)=(rss.take j).foldl (J0Y is) [[]]/\kvs.length<=1+3 * j/\[]∈kvs.map (·.1)/\∀ a∈kvs.map (·.1),TyL (is.map λi=>kds.getD i JO) a) ⟨⟨none,none,rfl⟩,s1,_,g1,rfl,by simp,qm,λa ha=>by
   obtain rfl:a=[]:=by simpa using ha
   cases is<;>trivial⟩ (λ_ _ _ _ q=>q.2.1.seq (.of hlr)) ?_ ?_
  ·rintro j x σ H2 hx ⟨⟨v4,v5,rfl⟩,s2,kvs,g2,ek,hkl,hnl,hty⟩
   obtain ⟨rs,hrs,q,rfl,hq,hok⟩:=Paired.ix hR hx;have hj:j<rss.length:=(qd.mp hrs).1;simp only [JN];refine J0h ?_;walk_at "dl";refine ⟨l,ln,q,xs,rs,ns,kds,is,rfl,s2 _ _ hl,hF.mono s2,s2 _ _ hn,hi,(by omega),s2 _ _ hq,hok,λH3 pl ts _ s3 g3 hts=>?_⟩;have htl:=Paired.length hts;rw [qe,qC] at htl;refine ⟨pl,rfl,⟨_,.of g3⟩,ForW.of JC (λi σ H'=>(∃ v5,σ=[some (V.ref l),some (V.ref ln),some (V.ref lr),some (V.ref p),some (V.ref q),v5])/\Same H H'/\H' pl=some (.lst ts)/\TupsV H' ts ((List.range (is.length+1)).map λm=>(pj is rs).take m)/\∃ kvs,H' p=some (.dT kvs)/\kvs.map (·.1)=J36 is rs i ((rss.take j).foldl (J0Y is) [[]])/\kvs.length<=1+3 * j+(i - 1)/\[]∈kvs.map (·.1)/\∀ a∈kvs.map (·.1),TyL (is.map λi=>kds.getD i JO) a) ⟨⟨v5,rfl⟩,s2.trans s3,g3,hts,kvs,s3 _ _ g2,ek,hkl,hnl,hty⟩ (λ_ _ _ _ q=>.of q.2.2.1) ?_ ?_⟩
   ·rintro i y σ H4 hy ⟨⟨v5,rfl⟩,s4,gp,tp,kvs',g4,ek',hkl',hnl',hty'⟩
    obtain ⟨ks,hks,b,rfl,hb⟩:=Paired.ix tp hy;obtain ⟨hi2,rfl⟩:=Jbh hks;walk_at "dl";have e1:=J6Z kvs' ((pj is rs).take i) (V.bl true);refine ⟨_,DPut.t g4 hb (by rw [sizeLine_eq];omega),⟨_,rfl⟩,s4.set hp _,(Jj (J0S gp g4 (λz=>nomatch z))).trans gp,TupsV.put tp g4 (λ_ z=>nomatch z),_,Jd,?_,?_,?_,?_⟩
    ·rw [e1,ek',J0X]
    ·have e2:=congrArg List.length e1
     rw [qe] at e2;cases i with
     | zero =>
       rw [take_zero,J4U,zP (J4l.mpr hnl'),qe] at e2;rw [take_zero];omega
     | succ i =>
       have:=J6q (kvs'.map (·.1)) ((pj is rs).take (i+1));rw [qe] at this;omega
    ·rw [e1]
     exact J2h.mpr (.inl hnl')
    ·rw [e1]
     intro a ha;rcases J2h.mp ha with ha | rfl
     ·exact hty' a ha
     ·exact J7q hok hi i
   ·rintro σ H4 ⟨⟨v5,rfl⟩,s4,gp,tp,kvs',g4,ek',hkl',hnl',hty'⟩
    refine ⟨⟨_,_,rfl⟩,s4,kvs',g4,?_,by omega,hnl',hty'⟩;rw [ek',J6i hrs,htl];rfl
  ·rintro σ H2 ⟨⟨v4,v5,rfl⟩,s2,kvs,g2,ek,hkl,hnl,hty⟩
   rw [hrl,qr] at ek;walk_at "dl";refine ⟨kvs,g2,by omega,J9w hty,λks hks H3 b s3 hb=>⟨b,ks,rfl,hb,?_,λH4 v s4 kv=>⟨s4,kv⟩⟩,λHn D ts kss sn hD tt pm pw=>?_⟩
   ·have:=(hty ks hks).len
    rw [qe] at this;omega
   ·exact k _ _ _ _ ((s2.trans sn).new hD _) Jd (tt.mono (Same.upd_new hD _)) (by unfold Jdt;rw [<- ek];exact pm) pw λa ha=>hty a (pm.mem_iff.mp ha)
def Fl (v:V):Prop:=v=.non\/(∃ i,v=.int i)\/∃ z,v=.str z/\Jes 12 z
theorem Fl.pl {K:Frag}(h:Fl v):∃ T,Pl K H v T:=by
 rcases h with rfl | ⟨i,rfl⟩ | ⟨z,rfl,hz⟩
 ·exact ⟨_,.of_non⟩
 ·exact ⟨_,.of_int⟩
 ·exact ⟨_,.of_str (Jb (by have:=hz.1;omega))⟩
theorem Fl.nk (h:Fl v):nV (toN v)=v/\okN (toN v):=by
 rcases h with rfl | ⟨i,rfl⟩ | ⟨z,rfl,hz⟩
 ·exact ⟨rfl,trivial⟩
 ·exact ⟨rfl,trivial⟩
 ·exact ⟨rfl,J2K hz.2⟩
def nmT (ns:List Str)(is:List Nat):HO:=.tup (is.map λi=>V.str (ns.getD i JO))
def okP (kds:List Str)(is:List Nat)(ps:List V):Bool:=decide (ps.length<=is.length)&&(List.range ps.length).all λj=>J7u (kds.getD (is.getD j 0) JO) (ps.getD j .non)
structure Side (H:Hp)(l ln:Addr)(xs:List V)(ns kds:List Str)(is:List Nat):Prop where
 l:H l=some (.lst xs)
 F:FldsK H xs ns kds
 n:H ln=some (nmT ns is)
 i:∀ i∈is,i<kds.length
 few:is.length<=8
theorem Side.mono {ln:Addr}{is:List Nat}(s:Same H H')(h:Side H l ln xs ns kds is):Side H' l ln xs ns kds is:=⟨s _ _ h.l,h.F.mono s,s _ _ h.n,h.i,h.few⟩
theorem Side.at {ln:Addr}{is:List Nat}(h:Side H l ln xs ns kds is)(hj:j<is.length):∃ i n kd p,is[j]?=some i/\is.getD j 0=i/\ns[i]?=some n/\ns.getD i JO=n/\kds[i]?=some kd/\kds.getD i JO=kd/\xs[i]?=some (.ref p)/\H p=some (.tup [.str n,.str kd]):=by
 have e:=qc hj;have hi:=h.i _ (getElem_mem hj);obtain ⟨p,n,kd,e1,e2,e3,e4⟩:=h.F.at (i:=is[j]) (by rw [<- h.F.2.1];exact hi);exact ⟨is[j],n,kd,p,e,by rw [qh,e];rfl,e2,by rw [qh,e2];rfl,e3,by rw [qh,e3];rfl,e1,e4⟩
def J6x (K:Frag)(f:Nat->Addr):Sp:=λvs H Q E=>∃ (l ln lp:Addr) (xs ps:List V) (ns kds:List Str) (is:List Nat),vs=[.ref l,.ref ln,.ref lp]/\Side H l ln xs ns kds is/\H lp=some (.tup ps)/\(∀ v∈ps,Fl v)/\(okP kds is ps=true->∀ H',Same H H'->Q (.bl true) H')/\(okP kds is ps=false->∀ H',Same H H'->E (.ref (f 5)) none H')
theorem ok_asked_path (T:Txt K mg f fd):FnOk P w K mg base (CXE P w) 5 (f 41) (fd 41) ["fields","names","path"] (J6x K f):=by
 refine T.ym.F.okX J1W (λvs H Q E h=>?_) (λcdv A outer s H vs Q E hr h=>?_)
 ·walk_at "ln"
 ·obtain ⟨l,ln,lp,xs,ps,ns,kds,is,rfl,hs,hp,hfl,k1,k0⟩:=h
  have hn:=hs.n;unfold nmT at hn;have few:=hs.few;refine ⟨_,(Ja (Jw (Jo J92 (Jt (JW rfl) T.wa JA rfl (by decide) (by decide) rfl (pal rfl (pvl 2) J9)) (Jt (JW rfl) T.wa JA rfl (by decide) (by decide) rfl (pal rfl (pvl 1) J9)) (Jm _))
   (Je (J61 J2i rfl T.wj.x rfl T.wj.m (by decide) rfl (pal rfl Jl J9)))
   Jp)
   (Ja (J0f PassesOwn.leaving rfl (Jfl rfl rfl T.yZ (pal rfl (pvl 1) (pal rfl (pvl 2) J9)) rfl rfl) (J77 rfl rfl (J0r (pgl 3 J1W.nd) (J0r (pgl 4 J1W.nd) J3h)))
   (Je (Jw (J0l (J0a (Jh T.wH (ok_is_value T) (hr.mono (by decide)) rfl (by decide) rfl (pal rfl (Jn (Ju rfl) (Jn (J05 rfl) (pvl 0) (Jh T.wp (ok_field_at T) (hr.mono (by decide)) rfl (by decide) rfl (pal rfl (pvl 0) (pal rfl (pvl 3) J9))) (λ_ _=>rfl)) Jc (λ_ _=>rfl)) (pal rfl (pvl 4) J9)))))
   (Je (J61 J2i rfl T.wj.x rfl T.wj.m (by decide) rfl (pal rfl Jl J9)))
   Jp)))
   (Je (Jk JV)))),?_⟩
  walk_at "dc";refine ⟨_,.inr (.of hp),_,.inr (.of hn),?_⟩;rw [qe];by_cases hl:is.length<ps.length
  ·rw [zP (zS (by omega))]
   exact ⟨Jb (by decide),k0 (by unfold okP;rw [zT (by omega),Bool.false_and]) H (Same.refl _)⟩
  ·rw [zO (by simp;omega)]
   refine J0h ?_;walk_at "dc";refine ⟨⟨_,.of hn⟩,⟨_,.of hp⟩,ForW.zipU (xs:=is.map λi=>V.str (ns.getD i JO)) (ys:=ps) (λj σ H'=>(∃ v3 v4,σ=[some (V.ref l),some (V.ref ln),some (V.ref lp),v3,v4])/\Same H H'/\∀ m,m<j->J7u (kds.getD (is.getD m 0) JO) (ps.getD m .non)=true) ⟨⟨none,none,rfl⟩,Same.refl _,λ_ hm=>absurd hm (by omega)⟩ (λ_ _ _ q=>⟨q.2.1.seqT (.of hn),q.2.1.seqT (.of hp)⟩) ?_ ?_⟩
   ·rintro j x y σ H1 p hx hy ⟨⟨v3,v4,rfl⟩,s1,al⟩ hp0
    have hjp:=(qd.mp hy).1;obtain ⟨i,n,kd,pf,a1,a2,a3,a4,a5,a6,a7,a8⟩:=hs.at (show j<is.length by omega);rw [qq,a1] at hx;obtain rfl:V.str n=x:=by rw [<- a4];exact zU hx
    have ey:ps.getD j .non=y:=by rw [qh,hy];rfl
    have s2:=s1.new hp0 (HO.tup [V.str n,y]);refine ⟨p,_,rfl,.of Jd,rfl,?_⟩;generalize upd H1 p (HO.tup [V.str n,y])=H2 at *;simp only [J2C,J6J,JN];walk_at "dc";have hs2:=hs.mono s2;refine ⟨l,xs,ns,kds,n,i,rfl,hs2.l,hs2.F,a3,λH3 s3=>?_⟩;have S3:=s2.trans s3;have hs3:=hs.mono S3;obtain ⟨T,hT⟩:=(hfl y (qi hy)).pl (K:=K) (H:=H3);refine ⟨l,xs,_,_,rfl,rfl,.of hs3.l,Jg a7,pf,_,_,_,rfl,rfl,.of (S3 _ _ a8),Jg (j:=1) rfl,kd,y,T,rfl,hT,λH4 s4=>⟨_,rfl,?_⟩⟩;cases hv:J7u kd y with
    | true =>
      rw [zO (by decide)];refine ⟨⟨_,rfl⟩,S3.trans s4,λm hm=>?_⟩;rcases Nat.lt_succ_iff_lt_or_eq.mp hm with hm | rfl
      ·exact al m hm
      ·rw [a2,a6,ey,hv]
    | false =>
      rw [zP (by decide)];refine ⟨Jb (by decide),k0 ?_ H4 (S3.trans s4)⟩;unfold okP;rw [Bool.and_eq_false_iff];right;rw [all_eq_false];exact ⟨j,mem_range.mpr hjp,by rw [a2,a6,ey,hv];decide⟩
   ·rintro σ H1 ⟨⟨v3,v4,rfl⟩,s1,al⟩
    walk_at "dc";refine k1 ?_ H1 s1;unfold okP;rw [zS (by omega),Bool.true_and,all_eq_true];intro j hj;have:=mem_range.mp hj;exact al j (by rw [qe];omega)
def nkD:Ji->PyData
 | none=>.none
 | some (.inl i)=>.int i
 | some (.inr z)=>.str z
theorem Jad {K:Frag}:∀ k:Ji,Rep K H (nkD k) (nV k)
 | none=>by simp [Rep,nkD,nV]
 | some (.inl i)=>by simp [Rep,nkD,nV,kV]
 | some (.inr z)=>by simp [Rep,nkD,nV,kV]
theorem J69:∀ {k:Ji},okN k->PyData.canLay0 (nkD k)=true/\PyData.depth (nkD k)=0
 | none,_=>by simp [nkD,PyData.canLay0,PyData.depth]
 | some (.inl i),_=>by simp [nkD,PyData.canLay0,PyData.depth]
 | some (.inr z),h=>by
   have h:PyData.strOk z=true:=h;simp [nkD,PyData.canLay0,PyData.depth,h]
theorem Jez:∀ a b:Ji,PyData.eqv (nkD a) (nkD b)=decide (a=b)
 | none,none=>by simp [nkD,PyData.eqv]
 | none,some (.inl _)=>by simp [nkD,PyData.eqv]
 | none,some (.inr _)=>by simp [nkD,PyData.eqv]
 | some (.inl _),none=>by simp [nkD,PyData.eqv]
 | some (.inr _),none=>by simp [nkD,PyData.eqv]
 | some (.inl i),some (.inl j)=>by simp [nkD,PyData.eqv];rfl
 | some (.inl i),some (.inr j)=>by simp [nkD,PyData.eqv]
 | some (.inr i),some (.inl j)=>by simp [nkD,PyData.eqv]
 | some (.inr i),some (.inr j)=>by simp [nkD,PyData.eqv];rfl
theorem J83 {K:Frag}{H:Hp}:∀ ks:List Ji,(∀ k∈ks,okN k)->Reps K H (ks.map nkD) (ks.map nV)/\PyData.canLayAll0 (ks.map nkD)=true/\PyData.depthAll (ks.map nkD)=0
 | [],_=>by simp [Reps,PyData.canLayAll0,PyData.depthAll]
 | k :: ks,h=>by
   obtain ⟨r1,r2,r3⟩:=J83 (K:=K) (H:=H) ks λx hx=>h x (ql _ hx);obtain ⟨q1,q2⟩:=J69 (h k qm);refine ⟨?_,?_,?_⟩
   ·simp only [qp,Reps]
    exact ⟨_,_,rfl,Jad k,r1⟩
   ·simp [PyData.canLayAll0,q1,r2]
   ·simp [PyData.depthAll,q2,r3]
theorem Jac:∀ as bs:List Ji,PyData.eqvAll (as.map nkD) (bs.map nkD)=decide (as=bs)
 | [],[]=>by simp [PyData.eqvAll]
 | [],_::_=>by simp [PyData.eqvAll]
 | _::_,[]=>by simp [PyData.eqvAll]
 | a::as,b::bs=>by
   simp only [qp,PyData.eqvAll,Jez,Jac as bs];by_cases h:a=b<;>simp [h]
def ksD (ks:List Ji):PyData:=.tuple (ks.map nkD)
theorem J5v {K:Frag}{ks:List Ji}(hb:H b=some (.tup (ks.map nV)))(h:∀ k∈ks,okN k):Rep K H (ksD ks) (.ref b):=by
 simp only [ksD,Rep];exact ⟨b,_,rfl,.of hb,(J83 ks h).1⟩
theorem J3r {ks:List Ji}(h:∀ k∈ks,okN k):PyData.canLay0 (ksD ks)=true/\PyData.depth (ksD ks)=1:=by
 obtain ⟨_,q2,q3⟩:=J83 (K:=[]) (H:=λ_=>none) ks h;exact ⟨by simp [ksD,PyData.canLay0,q2],by simp [ksD,PyData.depth,q3]⟩
theorem J9d {K:Frag}{H:Hp}:∀ {xs:List V} {kss:List (List Ji)},TupsV H xs kss->(∀ a∈kss,∀ k∈a,okN k)->Reps K H (kss.map ksD) xs/\PyData.canLayAll0 (kss.map ksD)=true/\PyData.depthAll (kss.map ksD)<=1
 | _,_,.nil,_=>by simp [Reps,PyData.canLayAll0,PyData.depthAll]
 | _,_,.cons (a:=x) (b:=ks) ⟨b,e,hb⟩ t,h=>by
   obtain ⟨r1,r2,r3⟩:=J9d (K:=K) t λa ha=>h a (ql _ ha);obtain ⟨q1,q2⟩:=J3r (h _ qm);refine ⟨?_,?_,?_⟩
   ·simp only [qp,Reps]
    exact ⟨_,_,rfl,e ▸ J5v hb (h _ qm),r1⟩
   ·simp [PyData.canLayAll0,q1,r2]
   ·simp only [qp,PyData.depthAll,q2]
    omega
theorem RowS.fl {rs:List V}(h:RowS kds rs)(hi:i<kds.length):rs[i]?=some (rs.getD i .non)/\Fl (rs.getD i .non):=by
 have hl:i<rs.length:=by rw [h.1];exact hi
 have e:=qc hl;have e2:rs.getD i .non=rs[i]:=by rw [qh,e];rfl
 rw [e2];refine ⟨e,?_⟩;rcases h.2 i _ _ e (qc hi) with h | h
 ·exact .inl h
 ·rcases h with ⟨_,z,e,hz⟩ | ⟨_,j,e,_⟩
  ·exact .inr (.inr ⟨z,e,hz.2.1,λc hc=>Jet c (hz.2.2 c hc)⟩)
  ·exact .inr (.inl ⟨j,e⟩)
theorem J1R {α:Type}{l:List α}{x d:α}(h:l[m]?=some x):l.getD m d=x:=by rw [qh,h];rfl
inductive Q_names_of (K:Frag)(vs:List V)(H:Hp)(Q:VK):Prop
 | mk (v:Addr) (a b c:V) (sd:Str) (u0_:vs=[.ref v,.str sd]) (u1_:H v=some (.tup [a,b,c])) (u2_:Q (if sd="rows" then a else b) H):Q_names_of K vs H Q
def J8v (K:Frag):Sp:=λvs H Q _=>Q_names_of K vs H Q
theorem J94 (T:Txt K mg f fd):FnOk P w K mg base CX0 1 (f 43) (fd 43) ["view","side"] (J8v K):=by
 walk_at "ok yn J8I"
 ·walk_at "ln"
 ·obtain ⟨v,a,b,c,sd,rfl,hv,k⟩:=h
  refine ⟨_,(Je (Jk (J63 (Jo JE (pvl 1) Jl (Jm _)) (Jn (Ju rfl) (pvl 0) Jc (λ_ _=>rfl)) (Jn (Ju rfl) (pvl 0) Jc (λ_ _=>rfl))))),?_⟩;walk_at "dc";by_cases e:sd=Str.ofString "rows"
  ·rw [zP (by simpa using e)]
   rw [zP e] at k;exact ⟨v,_,_,_,rfl,rfl,.of hv,Jg (j:=0) rfl,k⟩
  ·rw [zO (by simpa using e)]
   rw [zO e] at k;exact ⟨v,_,_,_,rfl,rfl,.of hv,Jg (j:=1) rfl,k⟩
def PrAt' (H:Hp)(kds:List Str)(x:V):Prop:=∃ (p r:Addr) (n:Int) (rs:List V),x=.ref p/\H p=some (.tup [.int n,.ref r])/\H r=some (.tup rs)/\RowS kds rs
theorem PrAt'.mono (t:∀ c ys,H c=some (.tup ys)->H' c=some (.tup ys))(h:PrAt' H kds x):PrAt' H' kds x:=by
 obtain ⟨p,r,n,rs,e,h1,h2,h3⟩:=h;exact ⟨p,r,n,rs,e,t _ _ h1,t _ _ h2,h3⟩
def BoxOk (H:Hp)(kds:List Str)(av:Addr->Prop)(m:Nat)(kvs:List (NPK×V)):Prop:=∀ kv∈kvs,∃ l xp,kv.2=.ref l/\H l=some (.lst xp)/\¬ av l/\xp.length<=m/\∀ x∈xp,PrAt' H kds x
theorem BoxOk.go {kvs:List (NPK×V)}(t:∀ c ys,H c=some (.tup ys)->H' c=some (.tup ys))(g:∀ c ys,H c=some (.lst ys)->H' c=some (.lst ys))(h:BoxOk H kds av m kvs):BoxOk H' kds av m kvs:=λkv hk=>by
 obtain ⟨l,xp,e,h1,h2,h3,h4⟩:=h kv hk;exact ⟨l,xp,e,g _ _ h1,h2,h3,λx hx=>(h4 x hx).mono t⟩
theorem BoxOk.mono {kvs:List (NPK×V)}(s:Same H H')(h:BoxOk H kds av m kvs):BoxOk H' kds av m kvs:=h.go (λ_ _ z=>s _ _ z) λ_ _ z=>s _ _ z
theorem BoxOk.off {kvs:List (NPK×V)}(hp:H p=none)(h:BoxOk H kds av m kvs):BoxOk H kds (λc=>av c\/c=p) m kvs:=λkv hk=>by
 obtain ⟨l,xp,e,h1,h2,h3,h4⟩:=h kv hk;refine ⟨l,xp,e,h1,λz=>?_,h3,h4⟩;rcases z with z | rfl
 ·exact h2 z
 ·rw [hp] at h1;cases h1
theorem BoxOk.less {av':Addr->Prop}{m':Nat}{kvs:List (NPK×V)}(hm:m<=m')(ha:∀ x,av' x->av x)(h:BoxOk H kds av m kvs):BoxOk H kds av' m' kvs:=λkv hk=>by
 obtain ⟨l,xp,e,h1,h2,h3,h4⟩:=h kv hk;exact ⟨l,xp,e,h1,λz=>h2 (ha l z),by omega,h4⟩
theorem BoxOk.more {kvs:List (NPK×V)}(h:BoxOk H kds av m kvs)(hl:H l=some (.lst xp))(hm:xp.length<=m)(ho:∀ x∈xp,PrAt' H kds x)(hx:PrAt' H kds x):BoxOk (upd H l (.lst (xp++[x]))) kds av (m+1) kvs:=λkv hk=>by
 obtain ⟨l',xp',e,h1,h0,h2,h3⟩:=h kv hk;have t:∀ c ys,H c=some (.tup ys)->upd H l (.lst (xp++[x])) c=some (.tup ys):=λc ys z=>by
  rw [Jj (J0S z hl (λq=>nomatch q))];exact z
 by_cases c:l'=l
 ·subst c
  refine ⟨l',xp++[x],e,Jd,h0,by rw [qj,length_singleton];omega,λy hy=>?_⟩;rcases qu.mp hy with hy | hy
  ·exact (ho y hy).mono t
  ·rw [qf.mp hy];exact hx.mono t
 ·exact ⟨l',xp',e,by rw [Jj c];exact h1,h0,by omega,λy hy=>(h3 y hy).mono t⟩
theorem ND.same {P:Program}{w:World}{kvs:List (NPK×V)}(s:Same H H')(h:ND P w H a kvs):ND P w H' a kvs:=by
 obtain ⟨h1,xs,h2,h3⟩:=h;exact ⟨h1,xs,s _ _ h2,h3.mono λc ys z=>s _ _ z⟩
theorem Jde {P:Program}{w:World}{c:Addr}{kvs:List (NPK×V)}{o:HO}(g:ND P w H a kvs)(h:H c=some o)(ho:∀ φ,o≠.ext φ):c≠a:=λz=>by
 obtain ⟨_,xs,e,_⟩:=g;rw [z,e] at h;exact ho _ (zU h).symm
theorem JaX {P:Program}{w:World}{H0:Hp}{kvs:List (NPK×V)}{rs:List V}{n:Int}(s:Same H0 H)(hav:∀ c,H0 c≠none->av c)(g:ND P w H b kvs)(h:BoxOk H kds av m kvs)(hl:H l=some (.lst xp))(hla:¬ av l)(hm:xp.length<=m)(ho:∀ x∈xp,PrAt' H kds x)(hp:H p=some (.tup [.int n,.ref r]))(hr:H r=some (.tup rs))(hR:RowS kds rs) :
 Same H0 (upd H l (.lst (xp++[.ref p])))/\(∀ c ys,H c=some (.tup ys)->upd H l (.lst (xp++[.ref p])) c=some (.tup ys))/\ND P w (upd H l (.lst (xp++[.ref p]))) b kvs/\BoxOk (upd H l (.lst (xp++[.ref p]))) kds av (m+1) kvs:=by
 have hl0:H0 l=none:=by
  cases q:H0 l with
  | none=>rfl
  | some u=>exact absurd (hav l (by rw [q];simp)) hla
 have t:∀ c ys,H c=some (.tup ys)->upd H l (.lst (xp++[.ref p])) c=some (.tup ys):=λc ys z=>by
  rw [Jj (J0S z hl (λq=>nomatch q))];exact z
 exact ⟨s.set hl0 _,t,ND.mono t (Jj (Ne.symm (Jde g hl λφ z=>nomatch z))) g,h.more hl hm ho ⟨p,r,n,rs,rfl,hp,hr,hR⟩⟩
theorem Jc1 {κ:Type}[DecidableEq κ]{kvs:List (κ×V)}{k:κ}(h:Jy kvs k=some v):∃ kv∈kvs,kv.2=v:=by
 unfold Jy at h;obtain ⟨kv,h1,h2⟩:=Option.map_eq_some_iff.mp h;exact ⟨kv,mem_of_find?_eq_some h1,h2⟩
theorem putK_new {κ:Type}[DecidableEq κ]{kvs:List (κ×V)}{k:κ}(h:Jy kvs k=none):JS kvs k v=kvs++[(k,v)]:=by
 unfold JS;rw [zO];intro z;rw [any_eq_true] at z;obtain ⟨x,hx,hd⟩:=z;unfold Jy at h;rw [Option.map_eq_none_iff,List.find?_eq_none] at h;exact h x hx hd
structure View (H:Hp)(v n0 n1 fg:Addr)(ns kds:List Str)(is0 is1:List Nat):Prop where
 v:H v=some (.tup [.ref n0,.ref n1,.ref fg])
 n0:H n0=some (nmT ns is0)
 n1:H n1=some (nmT ns is1)
 i0:∀ i∈is0,i<kds.length
 i1:∀ i∈is1,i<kds.length
 few0:is0.length<=3
 few1:is1.length<=3
theorem View.mono {v:Addr}(s:Same H H')(h:View H v n0 n1 fg ns kds is0 is1):View H' v n0 n1 fg ns kds is0 is1:=⟨s _ _ h.v,s _ _ h.n0,s _ _ h.n1,h.i0,h.i1,h.few0,h.few1⟩
inductive Q_laid_in_boxes (K:Frag)(vs:List V)(H:Hp)(Q:VK):Prop
 | mk (l v lp n0 n1 fg:Addr) (xs xp:List V) (ns kds:List Str) (is0 is1:List Nat) (u0_:vs=[.ref l,.ref v,.ref lp]) (u1_:H l=some (.lst xs)) (u2_:FldsK H xs ns kds) (u3_:View H v n0 n1 fg ns kds is0 is1) (u4_:H lp=some (.lst xp)) (u5_:xp.length<=40) (u6_:(∀ x∈xp,PrAt' H kds x)) (u7_:∀ H' b,Same H H'->Q (.ref b) H'):Q_laid_in_boxes K vs H Q
def J4v (K:Frag):Sp:=λvs H Q _=>Q_laid_in_boxes K vs H Q
theorem ok_laid_in_boxes (T:Txt K mg f fd):FnOk P w K mg base CX0 3 (f 61) (fd 61) ["fields","view","pairs"] (J4v K):=by
 walk_at "ok yv JX"
 ·walk_at "ln"
 ·obtain ⟨l,v,lp,n0,n1,fg,xs,xp,ns,kds,is0,is1,rfl,hl,hF,hV,hlp,hxl,hx,k⟩:=h
  refine ⟨_,(Ja (psl 3 JX.nd JcE)
   (Ja (J0f PassesOwn.never rfl (J0B rfl (pvl 2)) (J77 rfl rfl (J0r (pgl 4 JX.nd) (J0r (pgl 5 JX.nd) J3h)))
   (Ja (psl 6 JX.nd (Jh T.wy (J20 T) (hr.mono (by decide)) rfl (by decide) rfl (pal rfl (pvl 0) (pal rfl (Jn (Ju rfl) (pvl 1) Jc (λ_ _=>rfl)) (pal rfl (pvl 5) J9)))))
   (Je (J0f PassesOwn.never rfl (J0B rfl (Jh T.wy (J20 T) (hr.mono (by decide)) rfl (by decide) rfl (pal rfl (pvl 0) (pal rfl (Jn (Ju rfl) (pvl 1) Jc (λ_ _=>rfl)) (pal rfl (pvl 5) J9))))) (pgl 7 JX.nd)
   (Je (J0f PassesOwn.never rfl (J0B rfl (pvl 6)) (pgl 8 JX.nd)
   (Je (JT (J1Q rfl qJ PySem.F.slot_list_append PySem.F.type_list_append J0K rfl rfl rfl rfl (Ja4 hr.units (pvl 3) (Jz (pal rfl (pvl 7) (pal rfl (pvl 8) J9))) (J0g J9) ⟨rfl,rfl,rfl,rfl⟩) (pal rfl (Jz (pal rfl (pvl 4) (pal rfl (pvl 5) J9))) J9))))))))))
   (Je (Jk (pvl 3))))),?_⟩
  walk_at "dc";intro b zs hb hnd
  walk_at "nw b hb H1 s1 y_"
  refine J0h ?_;walk_at "dc";refine ⟨⟨_,.of (s1 _ _ hlp)⟩,ForW.of (JC (xs:=xp)) (λj σ H'=>(∃ v4 v5 v6 v7 v8,σ=[some (V.ref l),some (V.ref v),some (V.ref lp),some (V.ref b),v4,v5,v6,v7,v8])/\Same H H'/\∃ kvs m,ND P w H' b kvs/\BoxOk H' kds (λc=>H c≠none) m kvs/\m<=16 * j/\kvs.length<=16 * j) ⟨⟨none,none,none,none,none,rfl⟩,s1,[],0,hnd,(λ_ z=>nomatch z),zQ _,zQ _⟩ (λ_ _ _ _ q=>q.2.1.seq (.of hlp)) ?_ ?_⟩
  ·rintro j x σ H2 hxj ⟨⟨v4,v5,v6,v7,v8,rfl⟩,s2,kvs,m,h1,h2,h3,h4⟩
   obtain ⟨p,r,n,rs,rfl,hp,hr',hR⟩:=(hx x (qi hxj)).mono λc ys z=>s2 _ _ z;refine ⟨p,_,rfl,.of hp,rfl,?_⟩;simp only [J2C,J6J,JN];walk_at "dc";have hV2:=hV.mono s2;have nm1:=hV2.n1;unfold nmT at nm1;refine ⟨v,_,_,_,rfl,rfl,.of hV2.v,Jg (j:=1) rfl,l,n1,r,xs,rs,ns,kds,is1,rfl,s2 _ _ hl,hF.mono s2,nm1,hV.i1,by have:=hV.few1;omega,hr',hR.ok,λH3 po1 ts1 f3 s3 g3 t3=>?_⟩;have hV3:=hV2.mono s3;have nm0:=hV3.n0;unfold nmT at nm0;have S3:=s2.trans s3;have hlt1:=Paired.length t3;rw [qe,qC] at hlt1;have b3:=(h2.off f3).mono s3;have d3:=ND.same s3 h1;refine J0h ?_;walk_at "dc";refine ⟨v,_,_,_,rfl,rfl,.of hV3.v,Jg (j:=0) rfl,l,n0,r,xs,rs,ns,kds,is0,rfl,S3 _ _ hl,hF.mono S3,nm0,hV.i0,by have:=hV.few0;omega,s3 _ _ hr',hR.ok,λH4 po0 ts0 f4 s4 g4 t4=>?_⟩;have hlt0:=Paired.length t4;rw [qe,qC] at hlt0;have b4:=(b3.off f4).mono s4;have d4:=ND.same s4 d3;have f0:=hV.few0;have f1:=hV.few1;have S4:=S3.trans s4;have t3':=t3.mono s4;have g3':=s4 _ _ g3;have hp4:=s4 _ _ (s3 _ _ hp);have hr4:=s4 _ _ (s3 _ _ hr');refine ⟨po0,rfl,⟨_,.of g4⟩,ForW.of (JC (xs:=ts0)) (λi σ H'=>(∃ v7 v8,σ=[some (V.ref l),some (V.ref v),some (V.ref lp),some (V.ref b),some (V.int n),some (V.ref r),some (V.ref po1),v7,v8])/\Same H H'/\(∀ c ys,H4 c=some (.tup ys)->H' c=some (.tup ys))/\H' po0=some (.lst ts0)/\H' po1=some (.lst ts1)/\∃ kvs m,ND P w H' b kvs/\BoxOk H' kds (λc=>(H c≠none\/c=po1)\/c=po0) m kvs/\m<=16 * j+4 * i/\kvs.length<=16 * j+4 * i) ⟨⟨v7,v8,rfl⟩,S4,(λ_ _ z=>z),g4,g3',kvs,m,d4,b4,by omega,by omega⟩ (λ_ _ _ _ q=>.of q.2.2.2.1) ?_ ?_⟩
   ·rintro i one σ H5 hone ⟨⟨v7,v8,rfl⟩,s5,t5,p0,p1,kvs,m,h1,h2,h3,h4⟩
    obtain ⟨k0,_,b0,rfl,hb0⟩:=Paired.ix t4 hone;simp only [JN];refine J0h ?_;walk_at "dc";refine ⟨⟨_,.of p1⟩,ForW.of (JC (xs:=ts1)) (λe σ H'=>(∃ v8,σ=[some (V.ref l),some (V.ref v),some (V.ref lp),some (V.ref b),some (V.int n),some (V.ref r),some (V.ref po1),some (V.ref b0),v8])/\Same H H'/\(∀ c ys,H4 c=some (.tup ys)->H' c=some (.tup ys))/\H' po0=some (.lst ts0)/\H' po1=some (.lst ts1)/\∃ kvs m,ND P w H' b kvs/\BoxOk H' kds (λc=>(H c≠none\/c=po1)\/c=po0) m kvs/\m<=16 * j+4 * i+e/\kvs.length<=16 * j+4 * i+e) ⟨⟨v8,rfl⟩,s5,t5,p0,p1,kvs,m,h1,h2,by omega,by omega⟩ (λ_ _ _ _ q=>.of q.2.2.2.2.1) ?_ ?_⟩
    ·rintro e other σ H6 hother ⟨⟨v8,rfl⟩,s6,t6,p0,p1,kvs,m,h1,h2,h3,h4⟩
     obtain ⟨k1,_,b1,rfl,hb1⟩:=Paired.ix t3' hother;simp only [JN];walk_at "dc";have hj:=(qd.mp hxj).1;have hi:=(qd.mp hone).1;have he:=(qd.mp hother).1;have hb06:=t6 _ _ hb0;have hb16:=t6 _ _ hb1;have hp6:=t6 _ _ hp4;have hr6:=t6 _ _ hr4;refine ⟨⟨kvs,h1⟩,Jb (by decide),λpk hpk=>⟨Jb (by decide),λpl hpl=>?_⟩⟩
     walk_at "nw pk hpk H7 u1 gk"
     have u2:=Same.upd_new hpl (HO.lst []);have gl:upd H7 pl (HO.lst []) pl=some (.lst []):=Jd;have hpl0:=none_of (s6.trans u1) hpl;have npl:pl≠po0/\pl≠po1:=⟨(λz=>by rw [z,u1 _ _ p0] at hpl;cases hpl),(λz=>by rw [z,u1 _ _ p1] at hpl;cases hpl)⟩;have npb:pl≠b:=λz=>by
      obtain ⟨_,zs,ez,_⟩:=id h1;rw [z,u1 _ _ ez] at hpl;cases hpl
     generalize upd H7 pl (HO.lst [])=H8 at *;have u:=u1.trans u2;have s8:=s6.trans u;have d8:=ND.same u h1;have b8:=h2.mono u;have key:NKeyAt H8 pk [k0,k1]:=⟨[b0,b1],u2 _ _ gk,.cons (u _ _ hb06) (.cons (u _ _ hb16) .nil)⟩;refine ⟨kvs,d8,[k0,k1],key,by rw [sizeLine_eq];omega,λvv hvv=>?_,λhno zs hzs=>?_⟩
     ·obtain ⟨kv,hkv,rfl⟩:=Jc1 hvv
      obtain ⟨l',xp',e',q1,q2,q3,q4⟩:=b8 kv hkv;rw [e'];refine ⟨.inl ⟨rfl,_,.of q1⟩,Jb (by decide),λp2 hp2=>?_⟩
      walk_at "nw p2 hp2 H9 u3 g2"
      obtain ⟨w1,w2,w3,w4⟩:=JaX (s8.trans u3) (λc hc=>.inl (.inl hc)) (ND.same u3 d8) (b8.mono u3) (u3 _ _ q1) q2 q3 (λx hx=>(q4 x hx).mono λc ys z=>u3 _ _ z) g2 (u3 _ _ (u _ _ hr6)) hR;refine ⟨l',_,_,rfl,rfl,u3 _ _ q1,Jb (by omega),⟨_,rfl⟩,w1,λc ys z=>w2 _ _ (u3 _ _ (u _ _ (t6 _ _ z))),?_,?_,kvs,w3,m+1,w4,by omega,by omega⟩
      ·rw [Jj (λz=>q2 (.inr z.symm))]
       exact u3 _ _ (u _ _ p0)
      ·rw [Jj (λz=>q2 (.inl (.inr z.symm)))]
       exact u3 _ _ (u _ _ p1)
     ·have t9:∀ c ys,H8 c=some (.tup ys)->upd H8 b (dN P w b zs) c=some (.tup ys):=λc ys z=>by
       rw [Jj (Jde d8 z λφ q=>nomatch q)];exact z
      have l9:∀ c ys,H8 c=some (.lst ys)->upd H8 b (dN P w b zs) c=some (.lst ys):=λc ys z=>by
       rw [Jj (Jde d8 z λφ q=>nomatch q)];exact z
      have s9:Same H (upd H8 b (dN P w b zs)):=s8.set hb _;have b9:=b8.go t9 l9;generalize upd H8 b (dN P w b zs)=H9 at *;rw [putK_new hno] at hzs;refine ⟨.inl ⟨rfl,_,.of (l9 _ _ gl)⟩,Jb (by decide),λp2 hp2=>?_⟩
      walk_at "nw p2 hp2 H10 u3 g2"
      have bn:BoxOk H10 kds (λc=>(H c≠none\/c=po1)\/c=po0) m (kvs++[([k0,k1],V.ref pl)]):=λkv hkv=>by
       rcases qu.mp hkv with hkv | hkv
       ·exact b9.mono u3 kv hkv
       ·rw [qf.mp hkv]
        exact ⟨pl,[],rfl,u3 _ _ (l9 _ _ gl),λz=>by
         rcases z with (z | z) | z
         ·exact z hpl0
         ·exact npl.2 z
         ·exact npl.1 z,zZ _,λ_ z=>nomatch z⟩
      obtain ⟨w1,w2,w3,w4⟩:=JaX (s9.trans u3) (λc hc=>.inl (.inl hc)) (ND.same u3 hzs) bn (u3 _ _ (l9 _ _ gl)) (λz=>by
       rcases z with (z | z) | z
       ·exact z hpl0
       ·exact npl.2 z
       ·exact npl.1 z) (zZ _) (λ_ z=>nomatch z) g2 (u3 _ _ (t9 _ _ (u _ _ hr6))) hR
      refine ⟨pl,_,_,rfl,rfl,u3 _ _ (l9 _ _ gl),Jb (by decide),⟨_,rfl⟩,w1,λc ys z=>w2 _ _ (u3 _ _ (t9 _ _ (u _ _ (t6 _ _ z)))),?_,?_,_,w3,m+1,w4,by omega,by rw [qj,length_singleton];omega⟩
      ·rw [Jj (Ne.symm npl.1)]
       exact u3 _ _ (l9 _ _ (u _ _ p0))
      ·rw [Jj (Ne.symm npl.2)]
       exact u3 _ _ (l9 _ _ (u _ _ p1))
    ·rintro σ H6 ⟨⟨v8,rfl⟩,s6,t6,p0,p1,kvs,m,h1,h2,h3,h4⟩
     exact ⟨⟨_,_,rfl⟩,s6,t6,p0,p1,kvs,h1,m,h2,by omega,by omega⟩
   ·rintro σ H5 ⟨⟨v7,v8,rfl⟩,s5,t5,p0,p1,kvs,m,h1,h2,h3,h4⟩
    exact ⟨⟨_,_,_,_,_,rfl⟩,s5,kvs,h1,m,h2.less (zQ _) (λ_ z=>.inl (.inl z)),by omega,by omega⟩
  ·rintro σ H2 ⟨⟨v4,v5,v6,v7,v8,rfl⟩,s2,kvs,m,h1,h2,h3,h4⟩
   walk_at "dc";exact k _ b s2
def HdOk (hd kd:Str):Prop:=(hd="sum"/\kd=J1I)\/hd="greatest"\/hd="least"\/hd="unlike"
abbrev Fg:Type:=Option (Str×Nat)
def FgAt (H:Hp)(ns kds:List Str)(fv:V)(g:Fg):Prop:=∃ q,fv=.ref q/\((g=none/\H q=some (.tup [.str "count"]))\/∃ (hd n:Str) (j:Nat) (kd:Str),g=some (hd,j)/\H q=some (.tup [.str hd,.str n])/\ns[j]?=some n/\kds[j]?=some kd/\HdOk hd kd)
theorem FgAt.tup {H H':Hp}{fv:V}{g:Fg}{ns kds:List Str}(t:∀ c ys,H c=some (.tup ys)->H' c=some (.tup ys))(h:FgAt H ns kds fv g):FgAt H' ns kds fv g:=by
 obtain ⟨q,e,⟨e2,h⟩ | ⟨hd,n,j,kd,e2,h1,h2⟩⟩:=h
 ·exact ⟨q,e,.inl ⟨e2,t _ _ h⟩⟩
 ·exact ⟨q,e,.inr ⟨hd,n,j,kd,e2,t _ _ h1,h2⟩⟩
def FgsAt (H:Hp)(ns kds:List Str)(fvs:List V)(gs:List Fg):Prop:=Paired (FgAt H ns kds) fvs gs
theorem FgsAt.tup {H H':Hp}{fvs:List V}{gs:List Fg}{ns kds:List Str}(t:∀ c ys,H c=some (.tup ys)->H' c=some (.tup ys))(h:FgsAt H ns kds fvs gs):FgsAt H' ns kds fvs gs:=Paired.mapP h λ_ _ q=>q.tup t
structure Base (H:Hp)(l v n0 n1 fg:Addr)(xs fvs:List V)(gs:List Fg)(ns kds:List Str)(is0 is1:List Nat):Prop where
 l:H l=some (.lst xs)
 F:FldsK H xs ns kds
 kk:∀ kd∈kds,kd=JO\/kd=J1I
 vw:View H v n0 n1 fg ns kds is0 is1
 fg:H fg=some (.tup fvs)
 fs:FgsAt H ns kds fvs gs
 fl:fvs.length<=60
theorem Base.mono {v:Addr}(s:Same H H')(h:Base H l v n0 n1 fg xs fvs gs ns kds is0 is1):Base H' l v n0 n1 fg xs fvs gs ns kds is0 is1:=⟨s _ _ h.l,h.F.mono s,h.kk,h.vw.mono s,s _ _ h.fg,h.fs.tup λ_ _ z=>s _ _ z,h.fl⟩
def Jc3 (lf v pd bx:Addr):List (Str×V):=[("kept_fields",.ref lf),("kept_view",.ref v),("kept_heads",.ref pd),("boxes",.ref bx)]
def tb2 (lf v:Addr):List (Str×V):=[("kept_fields",.ref lf),("kept_view",.ref v)]
def tb3 (lf v pd:Addr):List (Str×V):=[("kept_fields",.ref lf),("kept_view",.ref v),("kept_heads",.ref pd)]
theorem JdV (lf v:Addr):J02 "kept_view" (.ref v) (J02 "kept_fields" (.ref lf) [])=tb2 lf v:=by
 show (if (("kept_fields":Str)="kept_view") then _ else _)=_;rw [zO (by decide)];rfl
theorem JdU (lf v pd:Addr):J02 "kept_heads" (.ref pd) (tb2 lf v)=tb3 lf v pd:=by
 unfold tb2;rw [J02,zO (by decide),J02,zO (by decide),J02];rfl
theorem JeY (lf v pd bx:Addr):J02 "boxes" (.ref bx) (tb3 lf v pd)=Jc3 lf v pd bx:=by
 unfold tb3;rw [J02,zO (by decide),J02,zO (by decide),J02,zO (by decide),J02];rfl
def HdsAt (H:Hp)(h:Addr)(kss:List (List Ji)):Prop:=∃ ts,H h=some (.lst ts)/\TupsV H ts kss
theorem HdsAt.mono {h:Addr}{kss:List (List Ji)}(s:Same H H')(x:HdsAt H h kss):HdsAt H' h kss:=by
 obtain ⟨ts,h1,h2⟩:=x;exact ⟨ts,s _ _ h1,h2.mono s⟩
inductive TabAt (f:Nat->Addr)(H:Hp)(t:Addr)(ns kds:List Str)(is0 is1:List Nat)(kss0 kss1:List (List Ji)):Prop
 | mk (dx lf v pd bx n0 n1 fg h0 h1:Addr) (xs fvs:List V) (gs:List Fg) (hk:List (Key×V)) (u0_:H t=some (.ins (f 62) dx (Jc3 lf v pd bx))) (u1_:Base H lf v n0 n1 fg xs fvs gs ns kds is0 is1) (u2_:H pd=some (.dK hk)) (u3_:Jy hk (.inr "rows")=some (.ref h0)) (u4_:Jy hk (.inr "columns")=some (.ref h1)) (u5_:HdsAt H h0 kss0) (u6_:HdsAt H h1 kss1):TabAt f H t ns kds is0 is1 kss0 kss1
theorem TabAt.mono {f:Nat->Addr}{t:Addr}{kss0 kss1:List (List Ji)}(s:Same H H')(h:TabAt f H t ns kds is0 is1 kss0 kss1):TabAt f H' t ns kds is0 is1 kss0 kss1:=by
 obtain ⟨dx,lf,v,pd,bx,n0,n1,fg,h0,h1,xs,fvs,gs,hk,a1,a2,a3,a4,a5,a6,a7⟩:=h;exact ⟨dx,lf,v,pd,bx,n0,n1,fg,h0,h1,xs,fvs,gs,hk,s _ _ a1,a2.mono s,s _ _ a3,a4,a5,a6.mono s,a7.mono s⟩
def PrsR (H:Hp)(kds:List Str)(xp:List V)(rss:List (List V)):Prop:=Paired (λ(x:V) (rs:List V)=>∃ (p r:Addr) (n:Int),x=.ref p/\H p=some (.tup [.int n,.ref r])/\H r=some (.tup rs)/\RowS kds rs) xp rss
theorem PrsR.mono (s:Same H H')(h:PrsR H kds xp rss):PrsR H' kds xp rss:=Paired.mapP h λ_ _ ⟨p,r,n,e,a,b,c⟩=>⟨p,r,n,e,s _ _ a,s _ _ b,c⟩
theorem PrsR.all (h:PrsR H kds xp rss):∀ x∈xp,PrAt' H kds x:=λx hx=>by
 obtain ⟨i,hi⟩:=qx.mp hx;obtain ⟨rs,_,p,r,n,e,a,b,c⟩:=Paired.ix h hi;exact ⟨p,r,n,rs,e,a,b,c⟩
def J0T (is:List Nat)(kds:List Str)(rss:List (List V))(kss:List (List Ji)):Prop:=kss.Perm (Jdt is rss)/\kss.Pairwise (λa b=>J0R a b=true)/\∀ a∈kss,TyL (is.map λi=>kds.getD i JO) a
inductive Q_Table___init__ (K:Frag)(f:Nat->Addr)(vs:List V)(H:Hp)(Q:VK):Prop
 | mk (G:Hp) (o dx l v lp n0 n1 fg:Addr) (xs fvs xp:List V) (gs:List Fg) (ns kds:List Str) (is0 is1:List Nat) (rss:List (List V)) (u0_:vs=[.ref o,.ref l,.ref v,.ref lp]) (u1_:Same G H) (u2_:G o=none) (u3_:H o=some (.ins (f 62) dx [])) (u4_:Base G l v n0 n1 fg xs fvs gs ns kds is0 is1) (u5_:G lp=some (.lst xp)) (u6_:xp.length<=20) (u7_:PrsR G kds xp rss) (u8_:∀ H' kss0 kss1,Same G H'->TabAt f H' o ns kds is0 is1 kss0 kss1->J0T is0 kds rss kss0->J0T is1 kds rss kss1->Q .non H'):Q_Table___init__ K f vs H Q
def J47 (K:Frag)(f:Nat->Addr):Sp:=λvs H Q _=>Q_Table___init__ K f vs H Q
theorem ok_Table___init__ (T:Txt K mg f fd):FnOk P w K mg base CX0 6 (f 63000) (fd 63000) ["self","fields","view","rows"] (J47 K f):=by
 walk_at "ok yP J1O"
 ·walk_at "ln"
 ·obtain ⟨G,o,dx,l,v,lp,n0,n1,fg,xs,fvs,xp,gs,ns,kds,is0,is1,rss,rfl,s0,hGo,ho,hB,hlp,hxl,hP,k⟩:=h
  refine ⟨_,(Ja (J1F (pvl 0) (J0z (J86 rfl) T.wm J1r rfl (by decide) (by decide) rfl (pal rfl (pvl 1) J9)) rfl)
   (Ja (J1F (pvl 0) (pvl 2) rfl)
   (Ja (J5r ["number","row"] J0E rfl (show CompSc _ (Jf J0C) J0E J0E from Jv (by decide +kernel)) J1O.nd (i:=4) rfl rfl (J0B rfl (pvl 3)) (λ_ _ _ _ _=>(JfT K 0 1 (show ("number"::"row"::J0E:List Str).Nodup by decide +kernel))) (λ_ _ _ _ _=>JI) (λ_ _ _ _ _=>(pvl 1)))
   (Ja (J1F (pvl 0) (J3j (J09 Jl (Jh T.wK (ok_heads_of T) (hr.mono (by decide)) rfl (by decide) rfl (pal rfl (pvl 1) (pal rfl (Jn (Ju rfl) (pvl 2) Jc (λ_ _=>rfl)) (pal rfl (pvl 4) J9)))) (J09 Jl (Jh T.wK (ok_heads_of T) (hr.mono (by decide)) rfl (by decide) rfl (pal rfl (pvl 1) (pal rfl (Jn (Ju rfl) (pvl 2) Jc (λ_ _=>rfl)) (pal rfl (pvl 4) J9)))) J2u)) rfl rfl (cons_ne_nil _ _) (by show 2<=15;decide)) rfl)
   (Je (J1F (pvl 0) (Jh T.yv (ok_laid_in_boxes T) (hr.mono (by decide)) rfl (by decide) rfl (pal rfl (pvl 1) (pal rfl (pvl 2) (pal rfl (pvl 3) J9)))) rfl)))))),?_⟩
  walk_at "dc";refine ⟨_,.inl (.of (s0 _ _ hB.l)),λlf hlf=>?_⟩;have s1:=s0.new hlf (HO.lst xs);have gf:upd H lf (HO.lst xs) lf=some (.lst xs):=Jd;have ho1:=Same.upd_new hlf (HO.lst xs) _ _ ho;have nfo:lf≠o:=λz=>by rw [z,ho] at hlf;cases hlf
  generalize upd H lf (HO.lst xs)=H1 at *;refine ⟨_,_,_,ho1,T.wk.cls,T.yU,by decide,_,_,_,Jd,T.wk.cls,T.yW,by simp [J02],?_⟩;rw [J7v,JdV];have s2:=s1.set hGo (.ins (f 62) dx (tb2 lf v));have ho2:upd H1 o (.ins (f 62) dx (tb2 lf v)) o=some (.ins (f 62) dx (tb2 lf v)):=Jd;have gf2:upd H1 o (.ins (f 62) dx (tb2 lf v)) lf=some (.lst xs):=by rw [Jj nfo];exact gf
  generalize upd H1 o (.ins (f 62) dx (tb2 lf v))=H2 at *;clear gf ho1 s1 hlf;refine ⟨⟨_,.of (s2 _ _ hlp)⟩,Jao (JC (xs:=xp)) (Jb (by omega)) (λj zs σ H'=>(∃ v0 v1,σ=[v0,v1,some (V.ref o),some (V.ref l),some (V.ref v),some (V.ref lp),none])/\Same H2 H'/\Rows H' kds zs (rss.take j)) ⟨⟨none,none,rfl⟩,Same.refl _,.nil⟩ (λj zs σ H' q=>⟨(s2.trans q.2.1).seq (.of hlp),by have:=Paired.length q.2.2;rw [this,qk];omega⟩) ?_ ?_⟩
  ·rintro i x zs σ H3 hx ⟨⟨v0,v1,rfl⟩,t1,hR⟩
   obtain ⟨rs,hrs,p,r,n,rfl,h1,h2,h3⟩:=Paired.ix (hP.mono (s2.trans t1)) hx;refine ⟨p,_,rfl,.of h1,rfl,?_⟩;simp only [J2C,J6J,JN];walk_at "dc";exact ⟨⟨_,rfl⟩,t1,by rw [JF hrs];exact Paired.snoc hR ⟨r,rfl,h2,h3.ok⟩⟩
  ·rintro zs σ H3 ⟨⟨v0,v1,rfl⟩,t1,hR⟩ D hD p hp
   have hpl:=Paired.length hP;rw [hpl,qr] at hR;have u1:=t1.new hD (HO.lst zs);have gD:upd H3 D (HO.lst zs) D=some (.lst zs):=Jd;have hR1:=hR.mono (Same.upd_new hD (HO.lst zs));generalize upd H3 D (HO.lst zs)=H4 at *;have u2:=u1.new hp (HO.dK []);have w2:=Same.upd_new hp (HO.dK []);have gp:upd H4 p (HO.dK []) p=some (.dK []):=Jd;have npo:p≠o:=λz=>by rw [z,u1 _ _ ho2] at hp;cases hp
   generalize upd H4 p (HO.dK [])=H5 at *;have s5:=s2.trans u2;have hV5:=hB.vw.mono s5;have nm0:=hV5.n0;unfold nmT at nm0;have f0:=hV5.few0;have f1:=hV5.few1;have hp0:G p=none:=none_of (s2.trans u1) hp;refine ⟨v,_,_,_,rfl,rfl,.of hV5.v,Jg (j:=0) rfl,l,n0,D,xs,zs,rss,ns,kds,is0,rfl,s5 _ _ hB.l,hB.F.mono s5,nm0,hV5.i0,by omega,w2 _ _ gD,hR1.mono w2,by omega,λH6 h0 ts0 kss0 s6 g0 t0 pm0 pw0 ty0=>?_⟩;have S6:=s5.trans s6;have hV6:=hV5.mono s6;have nm1:=hV6.n1;unfold nmT at nm1;refine ⟨v,_,_,_,rfl,rfl,.of hV6.v,Jg (j:=1) rfl,l,n1,D,xs,zs,rss,ns,kds,is1,rfl,S6 _ _ hB.l,hB.F.mono S6,nm1,hV5.i1,by omega,s6 _ _ (w2 _ _ gD),(hR1.mono w2).mono s6,by omega,λH7 h1 ts1 kss1 s7 g1 t1' pm1 pw1 ty1=>?_⟩;have S7:=S6.trans s7;refine ⟨s7 _ _ (s6 _ _ gp),[(.inr "rows",.ref h0),(.inr "columns",.ref h1)],rfl,(by show 2<=15;decide),?_⟩;have s8:=S7.set hp0 (HO.dK (J0p [] [(.inr "rows",.ref h0),(.inr "columns",.ref h1)]));have gp8:upd H7 p (HO.dK (J0p [] [(.inr "rows",.ref h0),(.inr "columns",.ref h1)])) p=some (HO.dK (J0p [] [(.inr "rows",.ref h0),(.inr "columns",.ref h1)])):=Jd;have kp8:∀ c u,H7 c=some u->u≠.dK []->upd H7 p (HO.dK (J0p [] [(.inr "rows",.ref h0),(.inr "columns",.ref h1)])) c=some u:=λc u z nu=>by
    rw [Jj (λe=>nu (by rw [e,s7 _ _ (s6 _ _ gp)] at z;exact (zU z).symm))];exact z
   have ho8:=kp8 _ _ (s7 _ _ (s6 _ _ (u2 _ _ ho2))) (λz=>nomatch z);have gf8:=kp8 _ _ (s7 _ _ (s6 _ _ (u2 _ _ gf2))) (λz=>nomatch z);have g08:=kp8 _ _ (s7 _ _ g0) (λz=>nomatch z);have g18:=kp8 _ _ g1 (λz=>nomatch z);have t08:TupsV (upd H7 p (HO.dK (J0p [] [(.inr "rows",.ref h0),(.inr "columns",.ref h1)]))) ts0 kss0:=Paired.mapP (t0.mono s7) λ_ _ ⟨b,e,q⟩=>⟨b,e,kp8 _ _ q (λz=>nomatch z)⟩;have t18:TupsV (upd H7 p (HO.dK (J0p [] [(.inr "rows",.ref h0),(.inr "columns",.ref h1)]))) ts1 kss1:=Paired.mapP t1' λ_ _ ⟨b,e,q⟩=>⟨b,e,kp8 _ _ q (λz=>nomatch z)⟩;generalize upd H7 p (HO.dK (J0p [] [(.inr "rows",.ref h0),(.inr "columns",.ref h1)]))=H8 at *;refine ⟨_,_,_,ho8,T.wk.cls,T.yV,(by show 2<1000;decide),?_⟩;rw [JdU];have s9:=s8.set hGo (.ins (f 62) dx (tb3 lf v p));have ho9:upd H8 o (.ins (f 62) dx (tb3 lf v p)) o=some (.ins (f 62) dx (tb3 lf v p)):=Jd;have kp9:∀ c u,H8 c=some u->(∀ a b d,u≠.ins a b d)->upd H8 o (.ins (f 62) dx (tb3 lf v p)) c=some u:=λc u z nu=>by
    rw [Jj (λe=>nu _ _ _ (by rw [e,ho8] at z;exact (zU z).symm))];exact z
   have gp9:=kp9 _ _ gp8 (λ_ _ _ z=>nomatch z);have gf9:=kp9 _ _ gf8 (λ_ _ _ z=>nomatch z);have g09:=kp9 _ _ g08 (λ_ _ _ z=>nomatch z);have g19:=kp9 _ _ g18 (λ_ _ _ z=>nomatch z);have t09:TupsV (upd H8 o (.ins (f 62) dx (tb3 lf v p))) ts0 kss0:=Paired.mapP t08 λ_ _ ⟨b,e,q⟩=>⟨b,e,kp9 _ _ q (λ_ _ _ z=>nomatch z)⟩;have t19:TupsV (upd H8 o (.ins (f 62) dx (tb3 lf v p))) ts1 kss1:=Paired.mapP t18 λ_ _ ⟨b,e,q⟩=>⟨b,e,kp9 _ _ q (λ_ _ _ z=>nomatch z)⟩;generalize upd H8 o (.ins (f 62) dx (tb3 lf v p))=H9 at *;have hB9:=hB.mono s9;refine ⟨l,v,lp,n0,n1,fg,xs,xp,ns,kds,is0,is1,rfl,hB9.l,hB9.F,hB9.vw,s9 _ _ hlp,(by omega),(hP.mono s9).all,λH10 bx s10=>?_⟩;refine ⟨_,_,_,s10 _ _ ho9,T.wk.cls,T.zn,(by show 3<1000;decide),?_⟩;rw [JeY];have S10:=s9.trans s10;have s11:=S10.set hGo (.ins (f 62) dx (Jc3 lf v p bx));have kpB:∀ c u,H10 c=some u->(∀ a b d,u≠.ins a b d)->upd H10 o (.ins (f 62) dx (Jc3 lf v p bx)) c=some u:=λc u z nu=>by
    rw [Jj (λe=>nu _ _ _ (by rw [e,s10 _ _ ho9] at z;exact (zU z).symm))];exact z
   have tkB:∀ c ys,H10 c=some (.tup ys)->upd H10 o (.ins (f 62) dx (Jc3 lf v p bx)) c=some (.tup ys):=λc ys z=>kpB _ _ z (λ_ _ _ q=>nomatch q);have hB11:=hB.mono s11;refine k _ kss0 kss1 s11 ⟨dx,lf,v,p,bx,n0,n1,fg,h0,h1,xs,fvs,gs,_,Jd,⟨kpB _ _ (s10 _ _ gf9) (λ_ _ _ z=>nomatch z),hB11.F,hB.kk,hB11.vw,hB11.fg,hB11.fs,hB.fl⟩,kpB _ _ (s10 _ _ gp9) (λ_ _ _ z=>nomatch z),rfl,rfl,⟨ts0,kpB _ _ (s10 _ _ g09) (λ_ _ _ z=>nomatch z),Paired.mapP (t09.mono s10) λ_ _ ⟨b,e,q⟩=>⟨b,e,tkB _ _ q⟩⟩,⟨ts1,kpB _ _ (s10 _ _ g19) (λ_ _ _ z=>nomatch z),Paired.mapP (t19.mono s10) λ_ _ ⟨b,e,q⟩=>⟨b,e,tkB _ _ q⟩⟩⟩ ⟨pm0,pw0,ty0⟩ ⟨pm1,pw1,ty1⟩
theorem Jd8 {K:Frag}{as bs:List Ji}{neg:Bool}(ha:H a=some (.tup (as.map nV)))(hb:H b=some (.tup (bs.map nV)))(oa:∀ k∈as,okN k)(ob:∀ k∈bs,okN k)(q:Q (.bl (if neg then !decide (as=bs) else decide (as=bs))) H):J8S K neg (.ref a) (.ref b) H Q:=by
 have sh:∀ {ks:List Ji},(∀ k∈ks,okN k)->SeqAt.shaped (ksD ks)=true:=λ{ks} h=>by
  unfold SeqAt.shaped;rw [(J3r h).1,(J3r h).2];rfl
 refine ⟨_,_,J5v ha oa,J5v hb ob,sh oa,sh ob,?_⟩;have e:PyData.eqv (ksD as) (ksD bs)=decide (as=bs):=by
  unfold ksD;simp only [PyData.eqv];exact Jac as bs
 rw [e];exact q
theorem J4R (h:∀ v∈ps,Fl v):(ps.map toN).map nV=ps/\∀ k∈ps.map toN,okN k:=by
 refine ⟨?_,λk hk=>?_⟩
 ·rw [map_map]
  conv=>rhs;rw [<- map_id ps]
  exact map_congr_left λv hv=>(h v hv).nk.1
 ·obtain ⟨v,hv,rfl⟩:=qy.mp hk
  exact (h v hv).nk.2
def J06 (ps:List V)(h:List Ji):Bool:=decide (h.length=ps.length+1)&&decide (h.take ps.length=ps.map toN)
def Sel (sd:Str)(is0 is1:List Nat)(kss0 kss1:List (List Ji))(is:List Nat)(kss:List (List Ji)):Prop:=(sd="rows"/\is=is0/\kss=kss0)\/(sd="columns"/\is=is1/\kss=kss1)
def J6z (K:Frag)(f:Nat->Addr):Sp:=λvs H Q E=>∃ (t lp:Addr) (sd:Str) (ps:List V) (ns kds:List Str) (is0 is1 is:List Nat) (kss0 kss1 kss:List (List Ji)),vs=[.ref t,.str sd,.ref lp]/\TabAt f H t ns kds is0 is1 kss0 kss1/\Sel sd is0 is1 kss0 kss1 is kss/\kss.length<=1000/\(∀ a∈kss,∀ k∈a,okN k)/\H lp=some (.tup ps)/\(∀ v∈ps,Fl v) /\
 (okP kds is ps=true->∀ H' q ts,H q=none->Same H H'->H' q=some (.lst ts)->TupsV H' ts (kss.filter (J06 ps))->Q (.ref q) H')/\(okP kds is ps=false->∀ H',Same H H'->E (.ref (f 5)) none H')
theorem ok_Table_kids (T:Txt K mg f fd):FnOk P w K mg base (CXE P w) 6 (f 63004) (fd 63004) ["self","side","path"] (J6z K f):=by
 refine T.wV.F.okX J3G (λvs H Q E h=>?_) (λcdv A outer s H vs Q E hr h=>?_)
 ·walk_at "ln"
 ·obtain ⟨t,lp,sd,ps,ns,kds,is0,is1,is,kss0,kss1,kss,rfl,hT,hsel,hkl,hko,hp,hfl,k1,k0⟩:=h
  obtain ⟨dx,lf,v,pd,bx,n0,n1,fg,h0,h1,xs,fvs,gs,hk,a1,a2,a3,a4,a5,a6,a7⟩:=hT;refine ⟨_,(Ja (JT (J7R J2i T.ym (ok_asked_path T) (hr.mono (by decide)) rfl (by decide) rfl (pal rfl (J0v (pvl 0) rfl) (pal rfl (Jh T.yn (J94 T) (hr.mono (by decide)) rfl (by decide) rfl (pal rfl (J0v (pvl 0) rfl) (pal rfl (pvl 1) J9))) (pal rfl (pvc 2) J9)))))
   (Ja (psc 3 J3G.nd (Jt (JW rfl) T.wa JA rfl (by decide) (by decide) rfl (pal rfl (pvc 2) J9)))
   (Je (Jk (JJ ["head"] J1p rfl (show CompSc _ (Jf J1i) J1p J1p from Jv (by decide +kernel)) (J0B rfl (JQ (JH hr) (J0v (pvl 0) rfl) (pvl 1) (λ_ _=>rfl))) (λ_ _ _ _ _=>(pgl 0 (show ("head"::J1p:List Str).Nodup by decide +kernel))) (λ_ _ _ _ _=>(J5q (PW.pt (J2t (Jo JE (Jt (JW rfl) T.wa JA rfl (by decide) (by decide) rfl (pal rfl (pvl 0) J9)) (Jq Jx (pvc 4) Jc) (Jm _)) (J1j (Jo (J6d rfl hr.units) (J0s (J85 rfl) (pvl 0) J0Q (J0D (pvc 4))) (pvc 3) (Jm _))))))) (λ_ _ _ _ _=>(pvl 0))))))),?_⟩
  walk_at "dc";refine ⟨_,_,_,a1,T.wk.cls,T.yU,.ref lf,rfl,_,_,_,a1,T.wk.cls,T.yW,.ref v,rfl,v,_,_,_,sd,rfl,a2.vw.v,?_⟩;have hsd:∃ ln hh,(if sd="rows" then V.ref n0 else V.ref n1)=.ref ln/\Side H lf ln xs ns kds is/\Jy hk (.inr sd)=some (.ref hh)/\HdsAt H hh kss:=by
   have f0:=a2.vw.few0;have f1:=a2.vw.few1;rcases hsel with ⟨rfl,rfl,rfl⟩ | ⟨rfl,rfl,rfl⟩
   ·exact ⟨n0,h0,by rw [zP rfl],⟨a2.l,a2.F,a2.vw.n0,a2.vw.i0,by omega⟩,a4,a6⟩
   ·exact ⟨n1,h1,by rw [zO (by decide)],⟨a2.l,a2.F,a2.vw.n1,a2.vw.i1,by omega⟩,a5,a7⟩
  obtain ⟨ln,hh,e1,hS,hv,ts,g0,t0⟩:=hsd;rw [e1];refine ⟨lf,ln,lp,xs,ps,ns,kds,is,rfl,hS,hp,hfl,λhok H1 s1=>?_,λhno H1 s1=>k0 hno H1 s1⟩;refine ⟨_,.inr (.of (s1 _ _ hp)),_,_,_,s1 _ _ a1,T.wk.cls,T.yV,.ref pd,rfl,pd,rfl,.ref hh,J2E (s1 _ _ a3) hv,hh,rfl,⟨_,.of (s1 _ _ g0)⟩,?_⟩;have htl:=Paired.length t0;obtain ⟨fm,fo⟩:=J4R hfl;refine JM (JC (xs:=ts)) (Jb (by omega)) (λi ys H'=>Same H1 H'/\TupsV H' ys ((kss.take i).filter (J06 ps))) ⟨Same.refl _,.nil⟩ (λ_ _ H' _ q=>(s1.trans q.1).seq (.of g0)) (λi ys H' q=>by
   have e:=Paired.length q.2;have l1:=length_filter_le (J06 ps) (kss.take i);rw [qk] at l1;omega) (λi x ys H3 hx q=>?_) (λys H3 q D hD=>?_)
  ·obtain ⟨t1,hys⟩:=q
   have S3:=s1.trans t1;obtain ⟨ks,hks,b,rfl,hb⟩:=Paired.ix t0 hx;have hb3:=S3 _ _ hb;have okk:=hko ks (qi hks);have ef:(kss.take (i+1)).filter (J06 ps)=(kss.take i).filter (J06 ps)++if J06 ps ks=true then [ks] else []:=by
    rw [JF hks,filter_append];congr 1;rw [filter_cons,filter_nil]
   rw [ef];walk_at "dc";refine ⟨_,.inr (.of hb3),?_⟩;rw [qe];by_cases hl:ks.length=ps.length+1
   ·rw [zP (zS (by omega))]
    refine ⟨b,_,rfl,.of hb3,λhw=>?_,λ_ p3 hp3=>?_⟩
    ·have:=hw.2
     rw [HT.sIx_nat,qe] at this;omega
    ·have ec:J24 (ks.map nV) none (some (ps.length:Int))=(ks.take ps.length).map nV:=by rw [J34,map_take]
     rw [ec]
     walk_at "nw p3 hp3 H4 u g3"
     have hp4:=(S3.trans u) _ _ hp;rw [<- fm] at hp4;refine Jd8 g3 hp4 (λk hk=>okk k (mem_of_mem_take hk)) fo ⟨_,rfl,?_⟩;by_cases he:ks.take ps.length=ps.map toN
     ·have kb:J06 ps ks=true:=by unfold J06;rw [zS hl,zS he];rfl
      rw [zO zR,zP (zS he),kb,zP rfl];exact ⟨⟨_,rfl⟩,t1.trans u,Paired.snoc (hys.mono u) ⟨b,rfl,u _ _ hb3⟩⟩
     ·have kb:J06 ps ks=false:=by unfold J06;rw [zT he,Bool.and_false]
      rw [zO zR,zO (by simpa using he),kb,zO (by decide),append_nil];exact ⟨⟨_,rfl⟩,t1.trans u,hys.mono u⟩
   ·have kb:J06 ps ks=false:=by unfold J06;rw [zT hl,Bool.false_and]
    rw [zO (by simp;omega),kb,zO (by decide),append_nil];exact ⟨⟨_,rfl⟩,t1,hys⟩
  ·obtain ⟨t1,hys⟩:=q
   rw [htl,qr] at hys;exact k1 hok _ D _ (none_of (s1.trans t1) hD) ((s1.trans t1).new hD _) Jd (hys.mono (Same.upd_new hD _))
abbrev JcT:List V:=[.str "word",.str "number"]
def JdK (l d:Addr)(g:Int):List (Str×V):=[("kept_fields",.ref l),("kept_rows",.ref d),("given",.int g)]
theorem Jbv {n:Str}(h:Nam n):J1U (.str n) J00=true:=by
 have e:J21 n J00=true:=all_eq_true.mpr λc hc=>zS (h.2.2 c hc);unfold J1U;simp [h.1,h.2.1,e]
theorem Jc0 (h:v=.non\/KdV kd v):J7u kd v=true:=by
 rcases h with rfl | ⟨rfl,z,rfl,hz⟩ | ⟨rfl,i,rfl,hi⟩
 ·rfl
 ·have e:J21 z (J00++J3s)=true:=all_eq_true.mpr λc hc=>zS (hz.2.2 c hc)
  unfold J7u;rw [zO (λq=>nomatch q),zO (by decide)];unfold J1U;simp [hz.1,hz.2.1,e]
 ·unfold J7u
  rw [zO (λq=>nomatch q),zP rfl];have:(if i<0 then -i else i)<10 ^ 60:=by split<;>omega
  exact zS this
def J8C (K:Frag):Sp:=λvs H Q _=>∃ (p:Addr) (n kd:Str),vs=[.ref p]/\H p=some (.tup [.str n,.str kd])/\Nam n/\(kd=JO\/kd=J1I)/\∀ H',Same H H'->Q (.bl true) H'
theorem J96 (T:Txt K mg f fd):FnOk P w K mg base CX0 4 (f 24) (fd 24) ["thing"] (J8C K):=by
 walk_at "ok ye J8K"
 ·walk_at "ln"
 ·obtain ⟨p,n,kd,rfl,hp,hn,hkd,k⟩:=h
  refine ⟨_,(Ja (Jw (PW.pt (J2U (J0l (J0a (Jt (J0G rfl) T.wc Jr rfl (by decide) (by decide) rfl (pal rfl (pvl 0) (pal rfl (pty T.wg J03) J9))))) (J1E (Jo J70 (Jt (JW rfl) T.wa JA rfl (by decide) (by decide) rfl (pal rfl (pvl 0) J9)) Jc (Jm _)))))
   (Je (Jk JV))
   Jp)
   (Je (Jk (J2V (Jh T.ya (Jab T) (hr.mono (by decide)) rfl (by decide) rfl (pal rfl (Jn (Ju rfl) (pvl 0) Jc (λ_ _=>rfl)) J9)) (J3V (JL (JcX rfl) (Jn (Ju rfl) (pvl 0) Jc (λ_ _=>rfl)) (J8Y T.zE rfl (by decide)) rfl)))))),?_⟩
  walk_at "dc";refine ⟨_,Pl.of_tup hp,by decide,?_⟩;rw [show J6e "tuple" "tuple"=true from rfl];walk_at "dc";refine ⟨_,.inr (.of hp),?_⟩;rw [zO (by simp)];refine ⟨p,_,_,_,rfl,rfl,.of hp,Jg (j:=0) rfl,_,_,rfl,.of_str (Jb (by have:=hn.2.1;omega)),λH1 s1=>⟨_,rfl,?_⟩⟩;rw [Jbv hn,zP rfl];refine ⟨p,_,_,_,rfl,rfl,.of (s1 _ _ hp),Jg (j:=1) rfl,_,JcT,rfl,.inr (T.zF H1),rfl,by decide,?_⟩;rw [zO zR,show inV (V.str kd) JcT=true by rcases hkd with rfl | rfl<;>rfl];exact k H1 s1
inductive Q_asked_fields (K:Frag)(vs:List V)(H:Hp)(Q:VK):Prop
 | mk (a:Addr) (xs:List V) (ns kds:List Str) (u0_:vs=[.ref a]) (u1_:H a=some (.lst xs)) (u2_:FldsK H xs ns kds) (u3_:(∀ n∈ns,Nam n)) (u4_:(∀ kd∈kds,kd=JO\/kd=J1I)) (u5_:1<=xs.length) (u6_:xs.length<=8) (u7_:∀ H',Same H H'->Q (.bl true) H'):Q_asked_fields K vs H Q
def J5c (K:Frag):Sp:=λvs H Q _=>Q_asked_fields K vs H Q
theorem ok_asked_fields (T:Txt K mg f fd):FnOk P w K mg base CX0 5 (f 25) (fd 25) ["fields"] (J5c K):=by
 walk_at "ok yf J18"
 ·walk_at "ln"
 ·obtain ⟨a,xs,ns,kds,rfl,ha,hF,hnm,hkk,h1,h8,k⟩:=h
  refine ⟨_,(Ja (Jw (J0l (J0a (Jt (J0G rfl) T.wc Jr rfl (by decide) (by decide) rfl (pal rfl (pvl 0) (pal rfl (pty T.wm J1r) J9)))))
   (Je J08)
   Jp)
   (Ja (Jw (J0l (J8V J72 J72 Jc (Jt (JW rfl) T.wa JA rfl (by decide) (by decide) rfl (pal rfl (pvl 0) J9)) (pgi T.zG)))
   (Je J08)
   Jp)
   (Ja (psl 1 J18.nd J64)
   (Ja (J0f PassesOwn.never rfl (J0B rfl (pvl 0)) (pgl 2 J18.nd)
   (Ja (Jw (J0l (J0a (Jh T.ye (J96 T) (hr.mono (by decide)) rfl (by decide) rfl (pal rfl (pvl 2) J9))))
   (Je J08)
   Jp)
   (Ja (Jw (J60 (J7S (JH hr) (Jn (Ju rfl) (pvl 2) Jc (λ_ _=>rfl)) (pvl 1)))
   (Je J08)
   Jp)
   (Je (J1k (JH hr) (pvl 1) (Jn (Ju rfl) (pvl 2) Jc (λ_ _=>rfl)) JV rfl)))))
   (Je (Jk JV)))))),?_⟩
  walk_at "dc";refine ⟨_,Pl.of_lst ha,by decide,?_⟩;rw [show J6e "list" "list"=true from rfl];walk_at "dc";refine ⟨xs,.inl (.of ha),?_⟩;rw [zP (zS (by omega)),zO (by rw [zS (by omega)];decide)];intro p hp
  walk_at "nw p hp H1 t1 g1"
  refine J0h ?_;walk_at "dc";refine ⟨⟨xs,t1.seq (.of ha)⟩,?_⟩;refine ForW.of JC (λj σ H'=>(∃ v2 kvs,σ=[some (V.ref a),some (V.ref p),v2]/\H' p=some (.dK kvs)/\kvs.length<=j/\∀ n:Str,(Jy kvs (.inr n)).isSome=decide (n∈ns.take j))/\Same H H') ⟨⟨none,[],rfl,g1,zQ _,λn=>by simp [Jy]⟩,t1⟩ (λ_ _ _ _ q=>q.2.seq (.of ha)) ?_ ?_
  ·rintro j x σ H2 hx ⟨⟨v2,kvs,rfl,gk,hkl,hkv⟩,s2⟩
   have hj:=(qd.mp hx).1;obtain ⟨q,n,kd,e1,hn,hk,hq⟩:=hF.at hj;obtain rfl:x=.ref q:=zU (hx.symm.trans e1);walk_at "dc";refine ⟨_,n,kd,rfl,s2 _ _ hq,hnm n (qi hn),hkk kd (qi hk),λH3 s3=>⟨_,rfl,?_⟩⟩;rw [zO (by decide)];have hnot:n∉ns.take j:=λhin=>by
    obtain ⟨i,hi⟩:=qx.mp hin;have hij:i<j:=by
     have:=(qd.mp hi).1;rw [qk] at this;omega
    rw [List.getElem?_take_of_lt hij] at hi;have:=J16 hF.2.2.1 hi hn;omega
   have hq3:=s3 _ _ (s2 _ _ hq);refine ⟨q,_,_,_,rfl,rfl,.of hq3,Jg (j:=0) rfl,_,DGet.k (k:=.inr n) (s3 _ _ gk),?_⟩;rw [hkv n,zT hnot,zO zR];refine ⟨q,_,_,_,rfl,rfl,.of hq3,Jg (j:=0) rfl,_,DPut.k (k:=.inr n) (s3 _ _ gk) (by rw [sizeLine_eq];omega),⟨_,Jd,z9 (J0L _ _ _) (by omega),λn'=>?_⟩,(s2.trans s3).set hp _⟩;rw [J42,JF hn];by_cases e:n'=n
   ·subst e
    rw [zP rfl];simp
   ·rw [zO (λz=>e (Sum.inr.inj z)),hkv n',decide_eq_decide]
    simp [e]
  ·rintro σ H2 ⟨⟨v2,kvs,rfl,gk,hkl,hkv⟩,s2⟩
   walk_at "dc";exact k _ s2
inductive Q_asked_row (K:Frag)(vs:List V)(H:Hp)(Q:VK):Prop
 | mk (l r:Addr) (xs rs:List V) (ns kds:List Str) (u0_:vs=[.ref l,.ref r]) (u1_:H l=some (.lst xs)) (u2_:FldsK H xs ns kds) (u3_:H r=some (.lst rs)) (u4_:RowS kds rs) (u5_:∀ H',Same H H'->Q (.bl true) H'):Q_asked_row K vs H Q
def J7B (K:Frag):Sp:=λvs H Q _=>Q_asked_row K vs H Q
theorem J7Y (T:Txt K mg f fd):FnOk P w K mg base CX0 5 (f 27) (fd 27) ["fields","row"] (J7B K):=by
 walk_at "ok yg J2l"
 ·walk_at "ln"
 ·obtain ⟨l,r,xs,rs,ns,kds,rfl,hl,hF,hr',hR,k⟩:=h
  have hL1:=hF.2.1;have hL2:=hR.1;refine ⟨_,(Ja (J0f PassesOwn.never rfl (JaH rfl T.yX (pal rfl (pvl 1) J9) rfl) (J77 rfl rfl (J0r (pgl 2 J2l.nd) (J0r (pgl 3 J2l.nd) J3h)))
   (Je (Jw (PW.pt (J2U (Jo JfW (pvl 2) (Jt (JW rfl) T.wa JA rfl (by decide) (by decide) rfl (pal rfl (pvl 0) J9)) (Jm _)) (J1E (J0l (J0a (Jh T.wH (ok_is_value T) (hr.mono (by decide)) rfl (by decide) rfl (pal rfl (Jn (Ju rfl) (Jn (J05 rfl) (pvl 0) (pvl 2) (λ_ _=>rfl)) Jc (λ_ _=>rfl)) (pal rfl (pvl 3) J9))))))))
   (Je J08)
   Jp)))
   (Ja (Jw (Jo J71 (Jt (JW rfl) T.wa JA rfl (by decide) (by decide) rfl (pal rfl (pvl 1) J9)) (Jt (JW rfl) T.wa JA rfl (by decide) (by decide) rfl (pal rfl (pvl 0) J9)) (Jm _))
   (Je J08)
   Jp)
   (Je (Jk JV)))),?_⟩
  walk_at "dc";refine J0h ?_;unfold Jd2;walk_at "dc";refine ⟨⟨rs,.of hr'⟩,ForW.enum (xs:=rs) (λj σ H'=>(∃ v2 v3,σ=[some (V.ref l),some (V.ref r),v2,v3])/\Same H H') ⟨⟨none,none,rfl⟩,Same.refl _⟩ (λ_ _ _ q=>q.2.seq (.of hr')) ?_ ?_⟩
  ·rintro j x σ H1 p hx ⟨⟨v2,v3,rfl⟩,s1⟩ hp
   have s2:=s1.new hp (HO.tup [V.int (j:Int),x]);refine ⟨p,_,rfl,.of Jd,rfl,?_⟩;generalize upd H1 p (HO.tup [V.int (j:Int),x])=H2 at *;simp only [J2C,J6J,JN];walk_at "dc";have hj:=(qd.mp hx).1;obtain ⟨q,n,kd,e1,hn,hk,hq⟩:=hF.at (i:=j) (by omega);obtain ⟨b1,b2⟩:=hR.fl (i:=j) (by omega);have ex:rs.getD j .non=x:=J1R hx;rw [ex] at b2;obtain ⟨Ty,hTy⟩:=b2.pl (K:=K) (H:=H2);refine ⟨xs,.inl (s2.seq (.of hl)),?_⟩;rw [zO (by simp;omega)];refine ⟨l,xs,_,_,rfl,rfl,.of (s2 _ _ hl),Jg e1,q,_,_,_,rfl,rfl,.of (s2 _ _ hq),Jg (j:=1) rfl,kd,x,Ty,rfl,hTy,λH3 s3=>⟨_,rfl,?_⟩⟩;rw [Jc0 (hR.2 j x kd hx hk),zO (by decide)];exact ⟨⟨_,rfl⟩,s2.trans s3⟩
  ·rintro σ H1 ⟨⟨v2,v3,rfl⟩,s1⟩
   walk_at "dc";refine ⟨rs,.inl (s1.seq (.of hr')),xs,.inl (s1.seq (.of hl)),?_⟩;rw [zO (by simp;omega)];exact k H1 s1
structure ShAt (f:Nat->Addr)(H:Hp)(o l d:Addr)(g:Int)(xs:List V)(kvs:List (Key×V)):Prop where
 o:∃ dx,H o=some (.ins (f 28) dx (JdK l d g))
 l:H l=some (.lst xs)
 d:H d=some (.dK kvs)
theorem ShAt.mono {f:Nat->Addr}{g:Int}(s:Same H H')(h:ShAt f H o l d g xs kvs):ShAt f H' o l d g xs kvs:=⟨h.o.imp λ_ z=>s _ _ z,s _ _ h.l,s _ _ h.d⟩
inductive Q_Sheet___init__ (K:Frag)(f:Nat->Addr)(vs:List V)(H:Hp)(Q:VK):Prop
 | mk (G:Hp) (a dx l:Addr) (xs:List V) (ns kds:List Str) (u0_:vs=[.ref a,.ref l]) (u1_:Same G H) (u2_:G a=none) (u3_:H a=some (.ins (f 28) dx [])) (u4_:G l=some (.lst xs)) (u5_:FldsK G xs ns kds) (u6_:(∀ n∈ns,Nam n)) (u7_:(∀ kd∈kds,kd=JO\/kd=J1I)) (u8_:1<=xs.length) (u9_:xs.length<=8) (u10_:∀ H' lf d,Same G H'->G d=none->G lf=none->ShAt f H' a lf d 0 xs []->Q .non H'):Q_Sheet___init__ K f vs H Q
def J48 (K:Frag)(f:Nat->Addr):Sp:=λvs H Q _=>Q_Sheet___init__ K f vs H Q
theorem ok_Sheet___init__ (T:Txt K mg f fd):FnOk P w K mg base CX0 6 (f 29000) (fd 29000) ["self","fields"] (J48 K f):=by
 walk_at "ok yI J4a"
 ·walk_at "ln"
 ·obtain ⟨G,a,dx,l,xs,ns,kds,rfl,s0,hGa,ha,hl,hF,hnm,hkk,h1,h8,k⟩:=h
  refine ⟨_,(Ja (JT (Jh T.yf (ok_asked_fields T) (hr.mono (by decide)) rfl (by decide) rfl (pal rfl (pvl 1) J9)))
   (Ja (J1F (pvl 0) (J0z (J86 rfl) T.wm J1r rfl (by decide) (by decide) rfl (pal rfl (pvl 1) J9)) rfl)
   (Ja (J1F (pvl 0) J64 rfl)
   (Je (J1F (pvl 0) Jc rfl))))),?_⟩
  walk_at "dc";refine ⟨l,xs,ns,kds,rfl,s0 _ _ hl,hF.mono s0,hnm,hkk,h1,h8,λH1 s1=>?_⟩;have S1:=s0.trans s1;refine ⟨xs,.inl (.of (S1 _ _ hl)),λp hp=>?_⟩;have ha1:=s1 _ _ ha;have nap:a≠p:=JY ha1 hp;have hp0:=none_of S1 hp;have S2:=S1.new hp (HO.lst xs);have ha2:=Same.upd_new hp (HO.lst xs) _ _ ha1;have gp:upd H1 p (HO.lst xs) p=some (.lst xs):=Jd;generalize upd H1 p (HO.lst xs)=H2 at *;refine ⟨_,_,_,ha2,T.wf.cls,T.wX,by decide,λd hd=>?_⟩;have nad:d≠a:=λz=>by subst z;rw [Jd] at hd;cases hd
  refine ⟨_,_,_,by rw [Jj (Ne.symm nad),Jd],T.wf.cls,T.ww,by simp [J02],_,_,_,Jd,T.wf.cls,T.wW,?_,?_⟩
  ·simp [J02]
   split<;>simp
  ·rw [Jj nad] at hd
   have hd0:=none_of S2 hd;have ndp:d≠p:=λz=>by rw [z,gp] at hd;cases hd
   rw [J7v];refine k _ p d ((((S2.set hGa _).set hd0 _)).set hGa _) hd0 hp0 ⟨⟨dx,Jd⟩,?_,?_⟩
   ·rw [Jj (Ne.symm nap),Jj (Ne.symm ndp),Jj (Ne.symm nap)]
    exact gp
   ·rw [Jj nad]
    exact Jd
inductive Q_Sheet_fields (K:Frag)(f:Nat->Addr)(vs:List V)(H:Hp)(Q:VK):Prop
 | mk (o l d:Addr) (g:Int) (xs:List V) (kvs:List (Key×V)) (u0_:vs=[.ref o]) (u1_:ShAt f H o l d g xs kvs) (u2_:∀ H' p,Same H H'->H' p=some (.lst xs)->Q (.ref p) H'):Q_Sheet_fields K f vs H Q
def J5d (K:Frag)(f:Nat->Addr):Sp:=λvs H Q _=>Q_Sheet_fields K f vs H Q
theorem J5i (T:Txt K mg f fd):FnOk P w K mg base CX0 1 (f 29001) (fd 29001) ["self"] (J5d K f):=by
 walk_at "ok yJ J5g"
 ·walk_at "ln"
 ·obtain ⟨o,l,d,g,xs,kvs,rfl,hS,k⟩:=h
  obtain ⟨dx,ho⟩:=hS.o;refine ⟨_,(Je (Jk (J0z (J86 rfl) T.wm J1r rfl (by decide) (by decide) rfl (pal rfl (J0v (pvl 0) rfl) J9)))),?_⟩;walk_at "dc";exact ⟨_,_,_,ho,T.wf.cls,T.wX,_,rfl,l,rfl,xs,.inl (.of hS.l),λp hp=>k _ p (Same.upd_new hp _) Jd⟩
def J7C (K:Frag)(f:Nat->Addr):Sp:=λvs H Q _=>∃ (o l d:Addr) (g n:Int) (xs:List V) (kvs:List (Key×V)) (v:V),vs=[.ref o,.int n]/\ShAt f H o l d g xs kvs/\Jy kvs (.inl n)=some v/\Q v H
theorem J7Z (T:Txt K mg f fd):FnOk P w K mg base CX0 1 (f 29005) (fd 29005) ["self","number"] (J7C K f):=by
 walk_at "ok yL J7K"
 ·walk_at "ln"
 ·obtain ⟨o,l,d,g,n,xs,kvs,v,rfl,hS,hv,k⟩:=h
  obtain ⟨dx,ho⟩:=hS.o;refine ⟨_,(Ja (Jw (J60 (Jbo (JH hr) (pvl 1) (J0v (pvl 0) rfl)))
   (Je J08)
   Jp)
   (Je (Jk (JQ (JH hr) (J0v (pvl 0) rfl) (pvl 1) (λ_ _=>rfl))))),?_⟩
  walk_at "dc";refine ⟨_,_,_,ho,T.wf.cls,T.ww,_,rfl,d,rfl,_,DGet.k (k:=Sum.inl n) hS.d,?_⟩;rw [hv,zO (by simp)];exact ⟨_,_,_,ho,T.wf.cls,T.ww,_,rfl,d,rfl,v,by rw [<- hv];exact DGet.k (k:=Sum.inl n) hS.d,k⟩
inductive Q_Sheet_put (K:Frag)(f:Nat->Addr)(vs:List V)(H:Hp)(Q:VK):Prop
 | mk (o l d r:Addr) (g:Int) (xs rs:List V) (ns kds:List Str) (kvs:List (Key×V)) (u0_:vs=[.ref o,.ref r]) (u1_:ShAt f H o l d g xs kvs) (u2_:FldsK H xs ns kds) (u3_:H r=some (.lst rs)) (u4_:RowS kds rs) (u5_:kvs.length<1000) (u6_:∀ H' dx t,Same H H'->H t=none->H' t=some (.tup rs)->Q (.int g) (upd (upd H' d (.dK (JS kvs (.inl g) (.ref t)))) o (.ins (f 28) dx (JdK l d (g+1))))):Q_Sheet_put K f vs H Q
def J7D (K:Frag)(f:Nat->Addr):Sp:=λvs H Q _=>Q_Sheet_put K f vs H Q
theorem J80 (T:Txt K mg f fd):FnOk P w K mg base CX0 6 (f 29002) (fd 29002) ["self","row"] (J7D K f):=by
 walk_at "ok yK J49"
 ·walk_at "ln"
 ·obtain ⟨o,l,d,r,g,xs,rs,ns,kds,kvs,rfl,hS,hF,hr',hR,hz,k⟩:=h
  obtain ⟨dx,ho⟩:=hS.o;refine ⟨_,(Ja (JT (Jh T.yg (J7Y T) (hr.mono (by decide)) rfl (by decide) rfl (pal rfl (J0v (pvl 0) rfl) (pal rfl (pvl 1) J9))))
   (Ja (psl 2 J49.nd (J0v (pvl 0) rfl))
   (Ja (J1k (JH hr) (J0v (pvl 0) rfl) (pvl 2) (J0z (J1P rfl) T.wg J03 rfl (by decide) (by decide) rfl (pal rfl (pvl 1) J9)) rfl)
   (Ja (J1F (pvl 0) (Jq Jx (pvl 2) Jc) rfl)
   (Je (Jk (pvl 2))))))),?_⟩
  walk_at "dc";refine ⟨_,_,_,ho,T.wf.cls,T.wX,_,rfl,l,r,xs,rs,ns,kds,rfl,hS.l,hF,hr',hR,λH1 s1=>?_⟩;have ndo:d≠o:=λz=>by have:=hS.d;rw [z,ho] at this;cases this
  have ho2:=s1 _ _ ho;refine ⟨_,_,_,ho2,T.wf.cls,T.wW,_,rfl,rs,.inl ⟨.of (s1 _ _ hr'),λp hp=>?_⟩⟩;have ho3:=Same.upd_new hp (HO.tup rs) _ _ ho2;exact ⟨_,_,_,ho3,T.wf.cls,T.ww,_,rfl,d,rfl,_,DPut.k (k:=Sum.inl g) (Same.upd_new hp (HO.tup rs) _ _ (s1 _ _ hS.d)) (Jb (by omega)),g,rfl,_,_,_,by rw [Jj (Ne.symm ndo)];exact ho3,T.wf.cls,T.wW,(by show 3<1000;decide),k _ dx p (s1.new hp _) (none_of s1 hp) Jd⟩
inductive Q_Sheet_numbers (K:Frag)(f:Nat->Addr)(vs:List V)(H:Hp)(Q:VK):Prop
 | mk (o l d:Addr) (g:Int) (xs:List V) (kvs:List (Key×V)) (ks:List Int) (u0_:vs=[.ref o]) (u1_:ShAt f H o l d g xs kvs) (u2_:kvs.map (·.1)=ks.map Sum.inl) (u3_:kvs.length<64) (u4_:∀ p,∀ ms:List Int,H p=none->ms.Perm ks->ms.Pairwise (·<=·)->Q (.ref p) (upd H p (.lst (ms.map V.int)))):Q_Sheet_numbers K f vs H Q
def J4y (K:Frag)(f:Nat->Addr):Sp:=λvs H Q _=>Q_Sheet_numbers K f vs H Q
theorem J4O (T:Txt K mg f fd):FnOk P w K mg base CX0 1 (f 29006) (fd 29006) ["self"] (J4y K f):=by
 walk_at "ok yM J4C"
 ·walk_at "ln"
 ·obtain ⟨o,l,d,g,xs,kvs,ks,rfl,hS,hk,h64,k⟩:=h
  obtain ⟨dx,ho⟩:=hS.o;refine ⟨_,(Je (Jk (Jt (J4n rfl) T.wE J7g rfl (by decide) (by decide) rfl (pal rfl (J0v (pvl 0) rfl) J9)))),?_⟩;walk_at "dc";exact ⟨_,_,_,ho,T.wf.cls,T.ww,_,rfl,d,rfl,kvs,hS.d,ks,hk,h64,k⟩
theorem J91 {x1 x2:Str}(h1:J9y x1)(h2:J9y x2):SeqAt.shaped (.tuple [.str x1,.str x2])=true:=by
 simp [SeqAt.shaped,PyData.canLay0,PyData.canLayAll0,PyData.depth,PyData.depthAll,J2K h1,J2K h2]
def Word4 (hd:Str):Prop:=hd="sum"\/hd="greatest"\/hd="least"\/hd="unlike"
theorem Word4.ok {hd:Str}(h:Word4 hd):hd≠"count"/\J9y hd/\inV (.str hd) [.str "sum",.str "greatest",.str "least",.str "unlike"]=true:=by
 rcases h with rfl | rfl | rfl | rfl<;>exact ⟨by decide,by decide +kernel,by decide⟩
theorem J5B (zs:List Str)(e:Str):∀ k,k<=zs.length->(List.range k).map (λi=>zs.getD i e)=zs.take k
 | 0,_=>rfl
 | k+1,h=>by
   have hk:k<zs.length:=h;rw [range_succ,qt,J5B zs e k (by omega),JF (qc hk)];simp [qh,qc hk]
theorem unl_take (zs:List Str)(e:Str):∀ k,k<=zs.length->(unl (λi=>zs.getD i e) k=k↔(zs.take k).Nodup)
 | 0,_=>by simp [unl]
 | k + 1,h=>by
   have hk:k<zs.length:=h;have ih:=unl_take zs e k (by omega);have le:=J9C (λi=>zs.getD i e) k;have ek:zs.getD k e=zs[k]:=by simp [qh,qc hk]
   rw [JF (qc hk)];unfold unl;rw [J5B zs e k (by omega),ek];have en:(zs.take k++[zs[k]]).Nodup↔(zs.take k).Nodup/\zs[k]∉zs.take k:=by
    rw [nodup_append];constructor
    ·rintro ⟨a,_,c⟩
     exact ⟨a,λz=>c _ z _ (qf.mpr rfl) rfl⟩
    ·rintro ⟨a,c⟩
     exact ⟨a,by simp,λx hx y hy z=>c (by rw [qf.mp hy] at z;rw [<- z];exact hx)⟩
   rw [en];by_cases c:zs[k]∈zs.take k
   ·rw [zP (by rw [any_eq_true];exact ⟨_,c,by simp⟩)]
    constructor
    ·intro z
     omega
    ·exact λz=>absurd c z.2
   ·rw [zO (by rw [any_eq_true];rintro ⟨x,hx,z⟩;exact c (by rw [<- eq_of_beq z];exact hx))]
    rw [<- ih];constructor
    ·exact λz=>⟨by omega,c⟩
    ·exact λz=>by have:=z.1;omega
theorem Jdz (zs:List Str)(e:Str):unl (λi=>zs.getD i e) zs.length=zs.length↔zs.Nodup:=by
 have:=unl_take zs e zs.length (zQ _);rwa [qr] at this
theorem HdOk.w4 {hd:Str}(h:HdOk hd kd):Word4 hd:=by
 rcases h with ⟨e,_⟩ | e | e | e
 ·exact .inl e
 ·exact .inr (.inl e)
 ·exact .inr (.inr (.inl e))
 ·exact .inr (.inr (.inr e))
theorem Nam.nm {n:Str}(h:Nam n):Jes 12 n:=⟨h.2.1,λc hc=>Jfe c (h.2.2 c hc)⟩
def J7A (K:Frag):Sp:=λvs H Q _=>∃ (v:V) (g:Fg) (ns kds:List Str),vs=[v]/\FgAt H ns kds v g/\(∀ n∈ns,Nam n)/\∀ H',Same H H'->Q (.bl true) H'
theorem J7X (T:Txt K mg f fd):FnOk P w K mg base CX0 1 (f 31) (fd 31) ["thing"] (J7A K):=by
 walk_at "ok yh J7J"
 ·walk_at "ln"
 ·obtain ⟨v,g,ns,kds,rfl,⟨p,rfl,hg⟩,hnm,k⟩:=h
  refine ⟨_,(Ja (Jw (J0l (J0a (Jt (J0G rfl) T.wc Jr rfl (by decide) (by decide) rfl (pal rfl (pvl 0) (pal rfl (pty T.wg J03) J9)))))
   (Je (Jk JV))
   Jp)
   (Ja (Jw (Jo (J6d rfl hr.units) (pvl 0) (Jz (pal rfl Jl J9)) (Jm _))
   (Je (Jk JV))
   Jp)
   (Je (Jk (J2V (JL JE (Jt (JW rfl) T.wa JA rfl (by decide) (by decide) rfl (pal rfl (pvl 0) J9)) Jc (Jm _)) (J2V (JL (JcX rfl) (Jn (Ju rfl) (pvl 0) Jc (λ_ _=>rfl)) (J8Y T.zH rfl (by decide)) rfl) (J3V (Jt (J0G rfl) T.wc Jr rfl (by decide) (by decide) rfl (pal rfl (Jn (Ju rfl) (pvl 0) Jc (λ_ _=>rfl)) (pal rfl (pty T.wF J8h) J9)))))))))),?_⟩
  walk_at "dc";have vc:J9y ("count":Str):=by decide +kernel
  have rc:∀ (G:Hp) c,G c=some (.tup [.str "count"])->Rep K G (.tuple [.str "count"]) (.ref c):=λG c hc=>by
   simp only [Rep];exact ⟨c,_,rfl,.of hc,by simp [Reps,Rep]⟩
  have sc:SeqAt.shaped (.tuple [.str "count"])=true:=by simp [SeqAt.shaped,PyData.canLay0,PyData.canLayAll0,PyData.depth,PyData.depthAll,J2K vc]
  rcases hg with ⟨_,hp⟩ | ⟨hd,n,j,kd,_,hp,hn,hk,hw⟩
  ·refine ⟨_,Pl.of_tup hp,by decide,?_⟩
   rw [zO (by decide)];refine ⟨Jb (by decide),λq hq=>?_⟩
   walk_at "nw q hq H2 u gq"
   refine ⟨_,_,rc H2 p (u _ _ hp),rc H2 q gq,sc,sc,_,rfl,?_⟩;rw [zO zR,zP (by simp [PyData.eqv,PyData.eqvAll])];exact k H2 u
  ·obtain ⟨w1,w2,w3⟩:=hw.w4.ok
   have hn:=(hnm n (qi hn)).nm;refine ⟨_,Pl.of_tup hp,by decide,?_⟩;rw [zO (by decide)];refine ⟨Jb (by decide),λq hq=>?_⟩
   walk_at "nw q hq H2 u gq"
   refine ⟨.tuple [.str hd,.str n],_,by simp only [Rep];exact ⟨p,_,rfl,.of (u _ _ hp),by simp [Reps,Rep]⟩,rc H2 q gq,J91 w2 hn.2,sc,_,rfl,?_⟩;rw [zO zR,zO (by simp [PyData.eqv,PyData.eqvAll])];have hn13:=hn.1;refine ⟨_,.inr (.of (u _ _ hp)),?_⟩;rw [zP (by simp)];refine ⟨p,_,_,_,rfl,rfl,.of (u _ _ hp),Jg (j:=0) rfl,_,_,rfl,.inr (T.zI H2),by rfl,by decide,_,rfl,?_⟩;rw [zO zR,zP w3];exact ⟨p,_,_,_,rfl,rfl,.of (u _ _ hp),Jg (j:=1) rfl,"str",.of_str (Jb (by omega)),by decide,k H2 u⟩
def J5b (K:Frag):Sp:=λvs H Q _=>∃ (l:Addr) (v:V) (xs:List V) (ns kds:List Str) (g:Fg),vs=[.ref l,v]/\H l=some (.lst xs)/\FldsK H xs ns kds/\FgAt H ns kds v g/\∀ H',Same H H'->Q (.bl true) H'
theorem ok_asked_figure (T:Txt K mg f fd):FnOk P w K mg base CX0 2 (f 32) (fd 32) ["fields","figure"] (J5b K):=by
 walk_at "ok yi J2z"
 ·walk_at "ln"
 ·obtain ⟨l,v,xs,ns,kds,g,rfl,hl,hF,⟨p,rfl,hg⟩,k⟩:=h
  refine ⟨_,(Ja (Jw (Jo JE (Jn (Ju rfl) (pvl 1) Jc (λ_ _=>rfl)) Jl (Jm _))
   (Je (Jk JV))
   Jp)
   (Ja (psl 2 J2z.nd (Jn (Ju rfl) (Jn (J05 rfl) (pvl 0) (Jh T.wp (ok_field_at T) (hr.mono (by decide)) rfl (by decide) rfl (pal rfl (pvl 0) (pal rfl (Jn (Ju rfl) (pvl 1) Jc (λ_ _=>rfl)) J9))) (λ_ _=>rfl)) Jc (λ_ _=>rfl)))
   (Ja (Jw (PW.pt (J2t (Jo JE (Jn (Ju rfl) (pvl 1) Jc (λ_ _=>rfl)) Jl (Jm _)) (J1j (Jo J70 (pvl 2) Jl (Jm _)))))
   (Je J08)
   Jp)
   (Je (Jk JV))))),?_⟩
  walk_at "dc";rcases hg with ⟨_,hp⟩ | ⟨hd,n,j,kd,_,hp,hj,hkd,hw⟩
  ·refine ⟨p,_,_,_,rfl,rfl,.of hp,Jg (j:=0) rfl,rfl,?_⟩
   rw [zP (by decide)];exact k H (Same.refl H)
  ·refine ⟨p,_,_,_,rfl,rfl,.of hp,Jg (j:=0) rfl,rfl,?_⟩
   rw [zO (by simpa using hw.w4.ok.1)];refine ⟨p,_,_,_,rfl,rfl,.of hp,Jg (j:=1) rfl,l,xs,ns,kds,n,j,rfl,hl,hF,hj,λH1 s1=>?_⟩;obtain ⟨p',n',kd',e1,e2,e3,e4⟩:=hF.at (show j<xs.length by rw [<- hF.1];exact (qd.mp hj).1);obtain rfl:kd=kd':=zU (hkd.symm.trans e3);refine ⟨l,xs,_,_,rfl,rfl,.of (s1 _ _ hl),Jg e1,p',_,_,_,rfl,rfl,.of (s1 _ _ e4),Jg (j:=1) rfl,p,_,_,_,rfl,rfl,.of (s1 _ _ hp),Jg (j:=0) rfl,rfl,?_⟩;by_cases c:hd="sum"
   ·have hkn:kd=J1I:=by rcases hw with ⟨_,e⟩ | rfl | rfl | rfl;exact e;all_goals exact absurd c (by decide)
    rw [zP (by simpa using c)];refine ⟨rfl,?_⟩;rw [zO (by rw [hkn];decide)];exact k H1 s1
   ·rw [zO (by simpa using c)]
    exact k H1 s1
def nmS (ns:List Str)(is:List Nat):List Str:=is.map λi=>ns.getD i JO
theorem JcL (ns:List Str)(is:List Nat):nmT ns is=.tup ((nmS ns is).map V.str):=by
 unfold nmT nmS;rw [map_map];rfl
theorem J82 {is:List Nat}(hi:∀ i∈is,i<ns.length)(hz:z∈nmS ns is):∃ i:Nat,ns[i]?=some z:=by
 obtain ⟨i,h,rfl⟩:=qy.mp hz;exact ⟨i,by rw [J1R (qc (hi i h))];exact qc (hi i h)⟩
theorem JcM {ns:List Str}:∀ {is:List Nat},ns.Nodup->(∀ i∈is,i<ns.length)->is.Nodup->(nmS ns is).Nodup
 | [],_,_,_=>nodup_nil
 | i::is,hn,hi,nd=>by
   rw [nodup_cons] at nd;unfold nmS;rw [qp,nodup_cons];refine ⟨λz=>?_,JcM hn (λj hj=>hi j (ql _ hj)) nd.2⟩;obtain ⟨j,hj,e⟩:=qy.mp z;have h1:=qc (hi i qm);have h2:=qc (hi j (ql _ hj));rw [J1R h1,J1R h2] at e;have:=J16 hn h2 (by rw [h1,e]);exact nd.1 (this ▸ hj)
def J9P (K:Frag):Sp:=λvs H Q _=>∃ p,∃ zs:List Str,vs=[.ref p]/\H p=some (.tup (zs.map V.str))/\(∀ z∈zs,z.length<=13)/\zs.length<=3/\∀ H',Same H H'->Q (.bl true) H'
theorem J68 (T:Txt K mg f fd):FnOk P w K mg base CX0 1 (f 37) (fd 37) ["thing"] (J9P K):=by
 walk_at "ok wI J9X"
 ·walk_at "ln"
 ·obtain ⟨p,zs,rfl,hp,h13,c,k⟩:=h
  refine ⟨_,(Ja (Jw (PW.pt (J2U (J0l (J0a (Jt (J0G rfl) T.wc Jr rfl (by decide) (by decide) rfl (pal rfl (pvl 0) (pal rfl (pty T.wg J03) J9))))) (J1E (Jo J92 (Jt (JW rfl) T.wa JA rfl (by decide) (by decide) rfl (pal rfl (pvl 0) J9)) (pgi T.zJ) (Jm _)))))
   (Je (Jk JV))
   Jp)
   (Je (Jk (Jt (J53 rfl rfl) T.wo J35 rfl (by decide) (by decide) rfl (pal rfl (JJ ["name"] J3o rfl (show CompSc _ (Jf J3e) J3o J3o from Jv (by decide +kernel)) (J2g rfl (pvl 0)) (λ_ _ _ _ _=>(pgl 0 (show ("name"::J3o:List Str).Nodup by decide +kernel))) (λ_ _ _ _ _=>JI) (λ_ _ _ _ _=>(Jt (J0G rfl) T.wc Jr rfl (by decide) (by decide) rfl (pal rfl (pvl 0) (pal rfl (pty T.wF J8h) J9))))) J9))))),?_⟩
  walk_at "dc";refine ⟨_,Pl.of_tup hp,by decide,?_⟩;rw [zO (by decide)];refine ⟨_,.inr (.of hp),?_⟩;rw [qe,zO (by simp;omega)];refine ⟨⟨_,.of hp⟩,?_⟩;refine comp_of (as:=zs) (g:=V.str) J0q (Jb (by omega)) (λH' s=>s.seqT (.of hp)) (λ_=>true) (λ_=>.bl true) (λ_ H1 Q _ _ q=>q H1 (Same.refl _)) (λz H1 Q hz _ s1 q=>?_) (λH1 s1 D hD=>?_)
  ·walk_at "dc"
   have:=h13 z hz;exact ⟨"str",.of_str (Jb (by omega)),by decide,q H1 (Same.refl _)⟩
  ·rw [J0i]
   refine ⟨zs.map λ_=>true,.of (by rw [Jd,map_map];rfl),?_⟩;have e:(zs.map λ_=>true).all id=true:=by rw [all_map];simp
   rw [e];exact k _ (s1.new hD (HO.lst (zs.map λ_=>V.bl true)))
theorem Jau :(List.replicate n true).all id=true:=by rw [all_eq_true];intro x hx;rw [eq_of_mem_replicate hx];rfl
inductive Q_is_figures (K:Frag)(vs:List V)(H:Hp)(Q:VK):Prop
 | mk (p:Addr) (fvs:List V) (gs:List Fg) (ns kds:List Str) (u0_:vs=[.ref p]) (u1_:H p=some (.tup fvs)) (u2_:FgsAt H ns kds fvs gs) (u3_:(∀ n∈ns,Nam n)) (u4_:1<=fvs.length) (u5_:fvs.length<=4) (u6_:∀ H',Same H H'->Q (.bl true) H'):Q_is_figures K vs H Q
def J3B (K:Frag):Sp:=λvs H Q _=>Q_is_figures K vs H Q
theorem J6H (T:Txt K mg f fd):FnOk P w K mg base CX0 2 (f 38) (fd 38) ["thing"] (J3B K):=by
 walk_at "ok yj J6D"
 ·walk_at "ln"
 ·obtain ⟨p,fvs,gs,ns,kds,rfl,hp,hg,hnm,c1,c4,k⟩:=h
  refine ⟨_,(Ja (Jw (PW.pt (J2U (J0l (J0a (Jt (J0G rfl) T.wc Jr rfl (by decide) (by decide) rfl (pal rfl (pvl 0) (pal rfl (pty T.wg J03) J9))))) (J1E (J0l (J8V J72 J72 Jc (Jt (JW rfl) T.wa JA rfl (by decide) (by decide) rfl (pal rfl (pvl 0) J9)) (pgi T.zK))))))
   (Je (Jk JV))
   Jp)
   (Je (Jk (Jt (J53 rfl rfl) T.wo J35 rfl (by decide) (by decide) rfl (pal rfl (JJ ["figure"] J1n rfl (show CompSc _ (Jf J1g) J1n J1n from Jv (by decide +kernel)) (J2g rfl (pvl 0)) (λ_ _ _ _ _=>(pgl 0 (show ("figure"::J1n:List Str).Nodup by decide +kernel))) (λ_ _ _ _ _=>JI) (λ_ _ _ _ _=>(Jh T.yh (J7X T) (hr.mono (by decide)) rfl (by decide) rfl (pal rfl (pvl 0) J9)))) J9))))),?_⟩
  walk_at "dc";refine ⟨_,Pl.of_tup hp,by decide,?_⟩;rw [zO (by decide)];refine ⟨_,.inr (.of hp),?_⟩;rw [zP (zS (by omega)),zO (by simp;omega)];refine ⟨⟨_,.of hp⟩,?_⟩;refine JM (J0q (xs:=fvs)) (Jb (by omega)) (λi ys H'=>Same H H'/\ys=(List.replicate i true).map V.bl) ⟨Same.refl _,rfl⟩ (λ_ _ H' _ q=>q.1.seqT (.of hp)) (λi ys H' q=>by rw [q.2,qe,qD];exact zQ _) (λi x ys H3 hx q=>?_) (λys H3 q D hD=>?_)
  ·obtain ⟨t1,rfl⟩:=q
   obtain ⟨g,_,hA⟩:=Paired.ix hg hx;walk_at "dc";exact ⟨g,ns,⟨kds,hA.tup λ_ _ z=>t1 _ _ z⟩,hnm,λH4 s4=>⟨⟨_,rfl⟩,t1.trans s4,by rw [map_replicate,<- replicate_succ',replicate_succ]⟩⟩
  ·obtain ⟨t1,rfl⟩:=q
   refine ⟨_,.of Jd,?_⟩;rw [Jau];exact k _ (t1.new hD _)
structure VwOk (H:Hp)(l v n0 n1 fg:Addr)(xs fvs:List V)(gs:List Fg)(ns kds:List Str)(is0 is1:List Nat):Prop where
 b:Base H l v n0 n1 fg xs fvs gs ns kds is0 is1
 nd:(is0++is1).Nodup
 nm:∀ n∈ns,Nam n
 g1:1<=fvs.length
 g4:fvs.length<=4
theorem VwOk.mono {v:Addr}(s:Same H H')(h:VwOk H l v n0 n1 fg xs fvs gs ns kds is0 is1):VwOk H' l v n0 n1 fg xs fvs gs ns kds is0 is1:=⟨h.b.mono s,h.nd,h.nm,h.g1,h.g4⟩
inductive Q_asked_form (K:Frag)(vs:List V)(H:Hp)(Q:VK):Prop
 | mk (l v n0 n1 fg:Addr) (xs fvs:List V) (gs:List Fg) (ns kds:List Str) (is0 is1:List Nat) (u0_:vs=[.ref v]) (u1_:VwOk H l v n0 n1 fg xs fvs gs ns kds is0 is1) (u2_:∀ H',Same H H'->Q (.bl true) H'):Q_asked_form K vs H Q
def J6y (K:Frag):Sp:=λvs H Q _=>Q_asked_form K vs H Q
theorem ok_asked_form (T:Txt K mg f fd):FnOk P w K mg base CX0 3 (f 39) (fd 39) ["view"] (J6y K):=by
 walk_at "ok yk J3F"
 ·walk_at "ln"
 ·obtain ⟨l,v,n0,n1,fg,xs,fvs,gs,ns,kds,is0,is1,rfl,hV,k⟩:=h
  have h1:=hV.b.vw.v;have h2:=hV.b.vw.n0;have h3:=hV.b.vw.n1;rw [JcL] at h2 h3;have hnl:kds.length=ns.length:=by rw [hV.b.F.2.1,hV.b.F.1]
  have i0:∀ i∈is0,i<ns.length:=λi hi=>by rw [<- hnl];exact hV.b.vw.i0 i hi
  have i1:∀ i∈is1,i<ns.length:=λi hi=>by rw [<- hnl];exact hV.b.vw.i1 i hi
  have nd:(nmS ns is0++nmS ns is1).Nodup:=by
   have:=JcM hV.b.F.2.2.1 (is:=is0++is1) (λi hi=>(qu.mp hi).elim (i0 i) (i1 i)) hV.nd;unfold nmS at *;rwa [qt] at this
  have l13:∀ {is:List Nat},(∀ i∈is,i<ns.length)->∀ z∈nmS ns is,z.length<=13:=λhi z hz=>by
   obtain ⟨i,e⟩:=J82 hi hz;have:=(hV.nm z (qi e)).2.1;omega
  have m0:=l13 i0;have m1:=l13 i1;have f0:(nmS ns is0).length<=3:=by unfold nmS;rw [qe];exact hV.b.vw.few0
  have f1:(nmS ns is1).length<=3:=by unfold nmS;rw [qe];exact hV.b.vw.few1
  generalize nmS ns is0=za at *;generalize nmS ns is1=zb at *;refine ⟨_,(Ja (Jw (PW.pt (J2U (J0l (J0a (Jt (J0G rfl) T.wc Jr rfl (by decide) (by decide) rfl (pal rfl (pvl 0) (pal rfl (pty T.wg J03) J9))))) (J1E (Jo J70 (Jt (JW rfl) T.wa JA rfl (by decide) (by decide) rfl (pal rfl (pvl 0) J9)) Jc (Jm _)))))
   (Je J08)
   Jp)
   (Ja (Jw (PW.pt (J2U (J0l (J0a (Jh T.wI (J68 T) (hr.mono (by decide)) rfl (by decide) rfl (pal rfl (Jn (Ju rfl) (pvl 0) Jc (λ_ _=>rfl)) J9)))) (J1E (J0l (J0a (Jh T.wI (J68 T) (hr.mono (by decide)) rfl (by decide) rfl (pal rfl (Jn (Ju rfl) (pvl 0) Jc (λ_ _=>rfl)) J9)))))))
   (Je J08)
   Jp)
   (Ja (psl 1 J3F.nd (Jq (J87 rfl) (Jn (Ju rfl) (pvl 0) Jc (λ_ _=>rfl)) (Jn (Ju rfl) (pvl 0) Jc (λ_ _=>rfl))))
   (Ja (Jw (Jo J71 (Jt J9t T.wa JA rfl (by decide) (by decide) rfl (pal rfl (J0z (Jfn rfl rfl) T.zB JfB rfl (by decide) (by decide) rfl (pal rfl (pvl 1) J9)) J9)) (Jt (JW rfl) T.wa JA rfl (by decide) (by decide) rfl (pal rfl (pvl 1) J9)) (Jm _))
   (Je J08)
   Jp)
   (Ja (Jw (J0l (J0a (Jh T.yj (J6H T) (hr.mono (by decide)) rfl (by decide) rfl (pal rfl (Jn (Ju rfl) (pvl 0) Jc (λ_ _=>rfl)) J9))))
   (Je J08)
   Jp)
   (Je (Jk JV))))))),?_⟩
  generalize hX:J14 (J4t _ (JN 1)) _=X;generalize hY:J14 (J2F (tOr (Jb5 (tB (J46 _ _ _ _))) _) _ _) _=Y;walk_at "dc";refine ⟨_,Pl.of_tup h1,by decide,?_⟩;rw [zO (by decide)];refine ⟨_,.inr (.of h1),?_⟩;rw [zO (by simp)];subst hY;walk_at "dc";refine ⟨v,_,_,_,rfl,rfl,.of h1,Jg (j:=0) rfl,n0,za,rfl,h2,m0,f0,λH1 s1=>⟨_,rfl,?_⟩⟩;rw [zO (by decide)];refine ⟨v,_,_,_,rfl,rfl,.of (s1 _ _ h1),Jg (j:=1) rfl,n1,zb,rfl,s1 _ _ h3,m1,f1,λH2 s2=>⟨_,rfl,?_⟩⟩;rw [zO (by decide)];have S2:=s1.trans s2;subst hX;walk_at "dc";have rest:∀ (G:Hp) (q:Addr),Same H G->G q=some (.tup ((za++zb).map V.str))->Jcq K [V.ref q] G λx_1 H1=>JaD [x_1] H1 λx_2 H1=>∃ p_1,V.ref q=V.ref p_1/\∃ x,(SqL K H1 p_1 x\/SqT K H1 p_1 x)/\∃ i,x_2=V.int i /\
   if decide (i<↑x.length)=true then False
   else J4K K (V.ref v) (V.int 2) H1 λx H1=>J3B K [x] H1 (λx H1=>∃ c,x=V.bl c/\if (!c)=true then False else Q (V.bl true) H1) E0:=by
   intro G q sG hq;have hl:(za++zb).length=za.length+zb.length:=qj;have iff:=Jdz (za++zb) Str.empty;refine ⟨q,za++zb,rfl,.inr (.of hq),by omega,λd hd=>?_⟩
   walk_at "nw d hd G2 u gd"
   have em:=iff.mpr nd;generalize unl (λi=>(za++zb).getD i Str.empty) (za++zb).length=m at *;have S:=sG.trans u;have hV2:=hV.mono S;refine ⟨d,m,rfl,gd,by omega,q,rfl,_,.inr (.of (u _ _ hq)),_,rfl,?_⟩;rw [qe,zO (by simp;omega)];refine ⟨v,_,_,_,rfl,rfl,.of (S _ _ h1),Jg (j:=2) rfl,fg,fvs,gs,ns,kds,rfl,hV2.b.fg,hV2.b.fs,hV.nm,hV.g1,hV.g4,λG3 s3=>⟨_,rfl,?_⟩⟩;rw [zO (by decide)];exact k G3 (S.trans s3)
  refine ⟨v,_,_,_,rfl,rfl,.of (S2 _ _ h1),Jg (j:=0) rfl,v,_,_,_,rfl,rfl,.of (S2 _ _ h1),Jg (j:=1) rfl,n0,n1,_,_,rfl,rfl,.of (S2 _ _ h2),.of (S2 _ _ h3),Jb (by rw [qe,qe];omega),λz=>?_,λ_ z=>?_,λ_ _ q hq=>?_⟩
  ·obtain rfl:za=[]:=map_eq_nil_iff.mp z
   exact rest H2 n1 S2 (S2 _ _ h3)
  ·obtain rfl:zb=[]:=map_eq_nil_iff.mp z
   exact rest H2 n0 S2 (by rw [append_nil];exact S2 _ _ h2)
  ·exact rest _ q (S2.new hq _) (by rw [Jd,qt])
inductive Q_asked_view (K:Frag)(vs:List V)(H:Hp)(Q:VK):Prop
 | mk (l v n0 n1 fg:Addr) (xs fvs:List V) (gs:List Fg) (ns kds:List Str) (is0 is1:List Nat) (u0_:vs=[.ref l,.ref v]) (u1_:VwOk H l v n0 n1 fg xs fvs gs ns kds is0 is1) (u2_:∀ H',Same H H'->Q (.bl true) H'):Q_asked_view K vs H Q
def J6w (K:Frag):Sp:=λvs H Q _=>Q_asked_view K vs H Q
theorem ok_asked_view (T:Txt K mg f fd):FnOk P w K mg base CX0 4 (f 40) (fd 40) ["fields","view"] (J6w K):=by
 walk_at "ok yl J3E"
 ·walk_at "ln"
 ·obtain ⟨l,v,n0,n1,fg,xs,fvs,gs,ns,kds,is0,is1,rfl,hV,k⟩:=h
  refine ⟨_,(Ja (JT (Jh T.yk (ok_asked_form T) (hr.mono (by decide)) rfl (by decide) rfl (pal rfl (pvl 1) J9)))
   (Ja (J0f PassesOwn.never rfl (J2g rfl (Jq (J87 rfl) (Jn (Ju rfl) (pvl 1) Jc (λ_ _=>rfl)) (Jn (Ju rfl) (pvl 1) Jc (λ_ _=>rfl)))) (pgl 2 J3E.nd)
   (Je (JT (Jh T.wp (ok_field_at T) (hr.mono (by decide)) rfl (by decide) rfl (pal rfl (pvc 0) (pal rfl (pvl 2) J9))))))
   (Je (Jk (Jt (J53 rfl rfl) T.wo J35 rfl (by decide) (by decide) rfl (pal rfl (JJ ["figure"] J1o rfl (show CompSc _ (Jf J1h) J1o J1o from Jv (by decide +kernel)) (J2g rfl (Jn (Ju rfl) (pvl 1) Jc (λ_ _=>rfl))) (λ_ _ _ _ _=>(pgl 0 (show ("figure"::J1o:List Str).Nodup by decide +kernel))) (λ_ _ _ _ _=>JI) (λ_ _ _ _ _=>(Jh T.yi (ok_asked_figure T) (hr.mono (by decide)) rfl (by decide) rfl (pal rfl (pvc 1) (pal rfl (pvl 0) J9))))) J9)))))),?_⟩
  walk_at "dc";refine ⟨l,v,n0,n1,fg,xs,fvs,gs,ns,kds,is0,is1,rfl,hV,λH1 s1=>?_⟩;have hV1:=hV.mono s1;have h1:=hV1.b.vw.v;have h2:=hV1.b.vw.n0;have h3:=hV1.b.vw.n1;rw [JcL] at h2 h3;have hnl:kds.length=ns.length:=by rw [hV.b.F.2.1,hV.b.F.1]
  have hz:∀ z∈nmS ns is0++nmS ns is1,∃ i:Nat,ns[i]?=some z:=λz hz=>(qu.mp hz).elim (J82 λi hi=>by rw [<- hnl];exact hV.b.vw.i0 i hi) (J82 λi hi=>by rw [<- hnl];exact hV.b.vw.i1 i hi);have f0:(nmS ns is0).length<=3:=by unfold nmS;rw [qe];exact hV.b.vw.few0
  have f1:(nmS ns is1).length<=3:=by unfold nmS;rw [qe];exact hV.b.vw.few1
  generalize nmS ns is0=za at *;generalize nmS ns is1=zb at *;refine J0h ?_;walk_at "dc";generalize hD0:(Ends.mk _ _ _ _:Ends)=D0;have fin:∀ (v2:Option V) (G:Hp),Same H1 G->D0.nx [some (V.ref l),some (V.ref v),v2] G:=by
   intro v2 G sG;subst hD0;walk_at "dc";have g4:=hV.g4;have bG:=hV1.b.mono sG;refine ⟨v,_,_,_,rfl,rfl,.of (sG _ _ h1),Jg (j:=2) rfl,fg,rfl,⟨_,.of bG.fg⟩,?_⟩;refine JM (J0q (xs:=fvs)) (Jb (by omega)) (λi ys H'=>Same G H'/\ys=(List.replicate i true).map V.bl) ⟨Same.refl _,rfl⟩ (λ_ _ H' _ q=>q.1.seqT (.of bG.fg)) (λi ys H' q=>by rw [q.2,qe,qD];exact zQ _) (λi x ys H3 hx q=>?_) (λys H3 q D hD=>?_)
   ·obtain ⟨t1,rfl⟩:=q
    have b3:=bG.mono t1;obtain ⟨g,_,hA⟩:=Paired.ix b3.fs hx;walk_at "dc";exact ⟨xs,b3.l,ns,kds,b3.F,⟨g,hA⟩,λH4 s4=>⟨⟨_,rfl⟩,t1.trans s4,by rw [map_replicate,<- replicate_succ',replicate_succ]⟩⟩
   ·obtain ⟨t1,rfl⟩:=q
    refine ⟨_,.of Jd,?_⟩;rw [Jau];exact k _ (((s1.trans sG).trans t1).new hD _)
  have loop:∀ (G:Hp) (q:Addr),Same H1 G->G q=some (.tup ((za++zb).map V.str))->(∃ a,V.ref q=V.ref a/\(∃ xs,SqT K G a xs)/\ForW (Itt K a) (JN 2) (J6T (J46 (J4X K) [] E0 (J2J (J1T 0) (J2J (J1T 2) J59)))) D0 [some (V.ref l),some (V.ref v),none] G):=by
   intro G q sG hq;refine ⟨q,rfl,⟨_,.of hq⟩,?_⟩;refine ForW.of (J0q (xs:=(za++zb).map V.str)) (λi σ H'=>(∃ v2,σ=[some (V.ref l),some (V.ref v),v2])/\Same G H') ⟨⟨_,rfl⟩,Same.refl _⟩ (λ_ _ H' _ q=>q.2.seqT (.of hq)) ?_ ?_
   ·rintro i x σ H2 hx ⟨⟨v2,rfl⟩,s2⟩
    rw [qq] at hx;obtain ⟨n,hn,rfl⟩:=Option.map_eq_some_iff.mp hx;obtain ⟨j,hj⟩:=hz n (qi hn);have b2:=hV1.b.mono (sG.trans s2);walk_at "dc";exact ⟨l,xs,ns,kds,n,j,rfl,b2.l,b2.F,hj,λH3 s3=>⟨⟨_,rfl⟩,s2.trans s3⟩⟩
   ·rintro σ H2 ⟨⟨v2,rfl⟩,s2⟩
    exact fin v2 H2 (sG.trans s2)
  refine ⟨v,_,_,_,rfl,rfl,.of h1,Jg (j:=0) rfl,v,_,_,_,rfl,rfl,.of h1,Jg (j:=1) rfl,n0,n1,_,_,rfl,rfl,.of h2,.of h3,Jb (by rw [qe,qe];omega),λz=>?_,λ_ z=>?_,λ_ _ q hq=>?_⟩
  ·obtain rfl:za=[]:=map_eq_nil_iff.mp z
   exact loop H1 n1 (Same.refl _) h3
  ·obtain rfl:zb=[]:=map_eq_nil_iff.mp z
   exact loop H1 n0 (Same.refl _) (by rw [append_nil];exact h2)
  ·exact loop _ q (Same.upd_new hq _) (by rw [Jd,qt])
def PlainJ (H:Hp)(kds:List Str)(j:Nat)(n:Str)(v:V)(F:List V->Bool):Prop:=∃ p,v=.ref p/\((H p=some (.tup [.str "lacks",.str n])/\F=λrs=>decide (rs[j]?=some .non)) \/
 (∃ x kd,H p=some (.tup [.str "is",.str n,x])/\kds[j]?=some kd/\Jar kd x/\F=λrs=>decide (rs[j]?=some x)) \/
 (∃ i:Int,H p=some (.tup [.str "under",.str n,.int i])/\kds[j]?=some J1I/\F=λrs=>match rs[j]? with | some (.int k)=>decide (k<i) | _=>false) \/
 ∃ i:Int,H p=some (.tup [.str "over",.str n,.int i])/\kds[j]?=some J1I/\F=λrs=>match rs[j]? with | some (.int k)=>decide (k > i) | _=>false)
def Plain (H:Hp)(ns kds:List Str)(v:V)(F:List V->Bool):Prop:=∃ (j:Nat) (n:Str),ns[j]?=some n/\PlainJ H kds j n v F
def JaY (H H':Hp):Prop:=∀ b ys,H b=some (.tup ys)->H' b=some (.tup ys)
theorem Same.t (s:Same H H'):JaY H H':=λb ys h=>s b _ h
theorem PlainJ.mono {n:Str}(s:JaY H H')(h:PlainJ H kds j n v F):PlainJ H' kds j n v F:=by
 obtain ⟨p,rfl,h⟩:=h;refine ⟨p,rfl,?_⟩;rcases h with ⟨h,r⟩ | ⟨x,kd,h,r⟩ | ⟨i,h,r⟩ | ⟨i,h,r⟩
 ·exact .inl ⟨s _ _ h,r⟩
 ·exact .inr (.inl ⟨x,kd,s _ _ h,r⟩)
 ·exact .inr (.inr (.inl ⟨i,s _ _ h,r⟩))
 ·exact .inr (.inr (.inr ⟨i,s _ _ h,r⟩))
theorem Plain.mono (s:JaY H H')(h:Plain H ns kds v F):Plain H' ns kds v F:=by
 obtain ⟨j,n,e,h⟩:=h;exact ⟨j,n,e,h.mono s⟩
theorem PlainJ.form {n:Str}(h:PlainJ H kds j n v F):∃ p fm rest,v=.ref p/\H p=some (.tup (.str fm::.str n::rest))/\fm≠"not"/\fm≠"all"/\fm≠"some":=by
 obtain ⟨p,rfl,h⟩:=h;rcases h with ⟨h,r⟩ | ⟨x,kd,h,r⟩ | ⟨i,h,r⟩ | ⟨i,h,r⟩
 ·exact ⟨p,_,_,rfl,h,by decide,by decide,by decide⟩
 ·exact ⟨p,_,_,rfl,h,by decide,by decide,by decide⟩
 ·exact ⟨p,_,_,rfl,h,by decide,by decide,by decide⟩
 ·exact ⟨p,_,_,rfl,h,by decide,by decide,by decide⟩
def Sv (ns kds:List Str):Nat->Hp->V->(List V->Bool)->Prop
 | 0,H,v,F=>Plain H ns kds v F
 | d + 1,H,v,F=>Plain H ns kds v F\/∃ p,v=.ref p/\((∃ x G,H p=some (.tup [.str "not",x])/\Sv ns kds d H x G/\F=λrs=>!(G rs)) \/
   ∃ (q:Addr) (cs:List (V×(List V->Bool))),H q=some (.tup (cs.map Prod.fst))/\cs.length<=60/\(∀ c∈cs,Sv ns kds d H c.1 c.2) /\
     ((H p=some (.tup [.str "all",.ref q])/\F=λrs=>cs.all λc=>c.2 rs)\/(H p=some (.tup [.str "some",.ref q])/\F=λrs=>cs.any λc=>c.2 rs)))
theorem Sv.mono (s:JaY H H'):∀ {d:Nat} {v:V} {F:List V->Bool},Sv ns kds d H v F->Sv ns kds d H' v F
 | 0,_,_,h=>Plain.mono s h
 | d + 1,v,F,h=>by
   rcases h with h | ⟨p,rfl,h⟩
   ·exact .inl (h.mono s)
   ·refine .inr ⟨p,rfl,?_⟩
    rcases h with ⟨x,G,h1,h2,h3⟩ | ⟨q,cs,h1,h2,h3,h4⟩
    ·exact .inl ⟨x,G,s _ _ h1,h2.mono s,h3⟩
    ·refine .inr ⟨q,cs,s _ _ h1,h2,λc hc=>(h3 c hc).mono s,?_⟩
     rcases h4 with ⟨h4,h5⟩ | ⟨h4,h5⟩
     ·exact .inl ⟨s _ _ h4,h5⟩
     ·exact .inr ⟨s _ _ h4,h5⟩
theorem Sv.up :∀ {d:Nat} {v:V} {F:List V->Bool},Sv ns kds d H v F->Sv ns kds (d+1) H v F
 | 0,_,_,h=>.inl h
 | d + 1,v,F,h=>by
   rcases h with h | ⟨p,rfl,h⟩
   ·exact .inl h
   ·refine .inr ⟨p,rfl,?_⟩
    rcases h with ⟨x,G,h1,h2,h3⟩ | ⟨q,cs,h1,h2,h3,h4⟩
    ·exact .inl ⟨x,G,h1,h2.up,h3⟩
    ·exact .inr ⟨q,cs,h1,h2,λc hc=>(h3 c hc).up,h4⟩
theorem Sv.le {d e:Nat}(hd:d<=e)(h:Sv ns kds d H v F):Sv ns kds e H v F:=by
 induction hd with
 | refl=>exact h
 | step _ ih=>exact ih.up
theorem Sv.of_tup {q:Addr}{cs:List (V×(List V->Bool))}{fm:V}(hq:H q=some (.tup (cs.map Prod.fst)))(hp:H p=some (.tup [fm,.ref q]))(hl:cs.length<=60)(hS:∀ c∈cs,Sv ns kds m H c.1 c.2)(hf:fm=.str "all"\/fm=.str "some") :
 ∃ F,Sv ns kds (m+1) H (.ref p) F:=by
 rcases hf with rfl | rfl
 ·exact ⟨_,.inr ⟨p,rfl,.inr ⟨q,cs,hq,hl,hS,.inl ⟨hp,rfl⟩⟩⟩⟩
 ·exact ⟨_,.inr ⟨p,rfl,.inr ⟨q,cs,hq,hl,hS,.inr ⟨hp,rfl⟩⟩⟩⟩
theorem Sv.out {dp:Nat}(h:Sv ns kds dp H v F):Plain H ns kds v F\/∃ d p,dp=d+1/\v=.ref p/\((∃ x G,H p=some (.tup [.str "not",x])/\Sv ns kds d H x G/\F=λrs=>!(G rs)) \/
 ∃ (q:Addr) (cs:List (V×(List V->Bool))),H q=some (.tup (cs.map Prod.fst))/\cs.length<=60/\(∀ c∈cs,Sv ns kds d H c.1 c.2) /\
   ((H p=some (.tup [.str "all",.ref q])/\F=λrs=>cs.all λc=>c.2 rs)\/(H p=some (.tup [.str "some",.ref q])/\F=λrs=>cs.any λc=>c.2 rs))):=by
 cases dp with
 | zero=>exact .inl h
 | succ d =>
   rcases h with h | ⟨p,e,h⟩
   ·exact .inl h
   ·exact .inr ⟨d,p,rfl,e,h⟩
def J5L (K:Frag):Sp:=λvs H Q _=>∃ fm x y,vs=[.str fm,x,y]/\((fm="is"/\J5Q x y=true/\Q (.bl (decide (x=y))) H)\/∃ i k,x=.int i/\y=.int k/\((fm="under"/\Q (.bl (decide (i<k))) H)\/(fm="over"/\Q (.bl (decide (i > k))) H)))
theorem JcH (T:Txt K mg f fd):FnOk P w K mg base CX0 1 (f 56) (fd 56) ["form","value","other"] (J5L K):=by
 walk_at "ok yr Jci"
 ·obtain ⟨fm,x,y,rfl,_⟩:=h;rfl
 ·obtain ⟨fm,x,y,rfl,k⟩:=h
  refine ⟨_,(Ja (Jw (Jo JE (pvl 0) Jl (Jm _))
   (Je (Jk (JL JE (pvl 1) (pvl 2) (Jm _))))
   Jp)
   (Je (Jk (J63 (Jo JE (pvl 0) Jl (Jm _)) (JL J71 (pvl 1) (pvl 2) (Jm _)) (JL J92 (pvl 1) (pvl 2) (Jm _)))))),?_⟩
  walk_at "dc";rcases k with ⟨rfl,hs,k⟩ | ⟨i,j,rfl,rfl,⟨rfl,k⟩ | ⟨rfl,k⟩⟩
  ·rw [zP (by decide)]
   exact ⟨hs,k⟩
  ·rw [zO (by decide),zP (by decide)]
   exact ⟨_,rfl,_,rfl,k⟩
  ·rw [zO (by decide),zO (by decide)]
   exact ⟨_,rfl,_,rfl,k⟩
def Ask (H:Hp)(ns kds:List Str)(l a:Addr)(rs:List V):Prop:=∃ xs,H l=some (.lst xs)/\FldsK H xs ns kds/\H a=some (.tup rs)/\J58 kds rs
theorem Ask.mono {rs:List V}(s:Same H H')(h:Ask H ns kds l a rs):Ask H' ns kds l a rs:=by
 obtain ⟨xs,h1,h2,h3,h4⟩:=h;exact ⟨xs,s _ _ h1,h2.mono s,s _ _ h3,h4⟩
def J4u (K:Frag):Sp:=λvs H Q _=>∃ l v a ns kds rs F,vs=[.ref l,v,.ref a]/\Ask H ns kds l a rs/\Plain H ns kds v F/\∀ H',Same H H'->Q (.bl (F rs)) H'
theorem Jcm {rs:List V}(h:J58 kds rs)(e:kds[j]?=some kd):∃ y,rs[j]?=some y/\(y=.non\/Jar kd y):=by
 have hj:j<rs.length:=by rw [h.1];exact (qd.mp e).1
 exact ⟨_,qc hj,h.2 j _ kd (qc hj) e⟩
theorem ok_plain_lets_by (T:Txt K mg f fd):FnOk P w K mg base CX0 2 (f 57) (fd 57) ["fields","sieve","row"] (J4u K):=by
 walk_at "ok yt J2a"
 ·walk_at "ln"
 ·obtain ⟨l,v,a,ns,kds,rs,F,rfl,⟨xs,hl,hF,ha,hr'⟩,⟨j,n,hj,hp⟩,k⟩:=h
  refine ⟨_,(Ja (psl 3 J2a.nd (Jn (Ju rfl) (pvl 2) (Jh T.wp (ok_field_at T) (hr.mono (by decide)) rfl (by decide) rfl (pal rfl (pvl 0) (pal rfl (Jn (Ju rfl) (pvl 1) Jc (λ_ _=>rfl)) J9))) (λ_ _=>rfl)))
   (Ja (Jw (Jo JE (Jn (Ju rfl) (pvl 1) Jc (λ_ _=>rfl)) Jl (Jm _))
   (Je (Jk (JL J3W (pvl 3) J0W (Jm _))))
   Jp)
   (Je (Jk (J2V (JL JaJ (pvl 3) J0W (Jm _)) (J3V (Jh T.yr (JcH T) (hr.mono (by decide)) rfl (by decide) rfl (pal rfl (Jn (Ju rfl) (pvl 1) Jc (λ_ _=>rfl)) (pal rfl (pvl 3) (pal rfl (Jn (Ju rfl) (pvl 1) Jc (λ_ _=>rfl)) J9)))))))))),?_⟩
  walk_at "dc";obtain ⟨p,fm,rest,rfl,hp1,_⟩:=hp.form;refine ⟨p,_,_,_,rfl,rfl,.of hp1,Jg (j:=1) rfl,?_⟩;refine ⟨l,xs,ns,kds,n,j,rfl,hl,hF,hj,λH1 s1=>?_⟩;have hjx:j<kds.length:=by rw [hF.2.1,<- hF.1];exact (qd.mp hj).1
  obtain ⟨y,hy,hk⟩:=Jcm hr' (qc hjx);refine ⟨a,rs,_,y,rfl,rfl,.of (s1 _ _ ha),Jg hy,?_⟩;have e0:∀ ys,H p=some (.tup ys)->H1 p=some (.tup ys):=λys=>s1 _ _;obtain ⟨p',e,hp⟩:=hp;cases e;have go:∀ (fm:Str) (x:V) (b:Bool),H p=some (.tup [.str fm,.str n,x])->fm≠"lacks"->F rs=b->(y=.non->b=false)->(y≠.non->∀ R:VK,R (.bl b) H1->J5L K [.str fm,y,x] H1 R E0) ->
   J4K K (V.ref p) (V.int 0) H1 λx H1=>J5Q x (V.str (Str.ofString "lacks"))=true/\if decide (x=V.str (Str.ofString "lacks"))=true then Q (V.bl (decide (y=V.non))) H1
    else if (!decide (y=V.non))=true then J4K K (V.ref p) (V.int 0) H1 λx H1=>J4K K (V.ref p) (V.int 2) H1 λx_1 H1=>J5L K [x,y,x_1] H1 Q E0 else Q (V.bl false) H1:=by
   intro fm x b h hn e hb q;refine ⟨p,_,_,_,rfl,rfl,.of (e0 _ h),Jg (j:=0) rfl,rfl,?_⟩;rw [zO (by simpa using hn)];have k1:=k H1 s1;rw [e] at k1;by_cases hy0:y=.non
   ·rw [zO (by simpa using hy0),<- hb hy0]
    exact k1
   ·rw [zP (by simpa using hy0)]
    exact ⟨p,_,_,_,rfl,rfl,.of (e0 _ h),Jg (j:=0) rfl,p,_,_,_,rfl,rfl,.of (e0 _ h),Jg (j:=2) rfl,q hy0 Q k1⟩
  rcases hp with ⟨h,rfl⟩ | ⟨x,kd,h,hkd,hx,rfl⟩ | ⟨i,h,hkd,rfl⟩ | ⟨i,h,hkd,rfl⟩
  ·refine ⟨p,_,_,_,rfl,rfl,.of (e0 _ h),Jg (j:=0) rfl,rfl,?_⟩
   rw [zP (by decide)];have e:decide (rs[j]?=some V.non)=decide (y=V.non):=by rw [hy];simp
   rw [<- e];exact k H1 s1
  ·rw [qc hjx] at hkd
   cases hkd;refine go _ x (decide (y=x)) h (by decide) (by show decide (rs[j]?=some x)=_;rw [hy];simp) (λz=>by subst z;rcases hx with ⟨_,z,rfl,_⟩ | ⟨_,i,rfl⟩<;>simp) (λhn R r=>⟨_,y,x,rfl,.inl ⟨rfl,?_,r⟩⟩);rcases hx with ⟨e,z,rfl,_⟩ | ⟨e,z,rfl⟩<;>rcases hk with rfl | ⟨e',z',rfl,_⟩ | ⟨e',z',rfl⟩<;>rfl
  ·rw [qc hjx,Option.some.injEq] at hkd
   rw [hkd] at hk;rcases hk with rfl | ⟨e',_⟩ | ⟨_,m,rfl⟩
   ·exact go _ (.int i) false h (by decide) (by show (match rs[j]? with | some (.int k)=>decide (k<i) | _=>false)=_;rw [hy]) (λ_=>rfl) λz=>absurd rfl z
   ·exact absurd e' (by decide)
   ·exact go _ (.int i) (decide (m<i)) h (by decide) (by show (match rs[j]? with | some (.int k)=>decide (k<i) | _=>false)=_;rw [hy]) (λz=>nomatch z) λ_ R r=>⟨_,_,_,rfl,.inr ⟨m,i,rfl,rfl,.inl ⟨rfl,r⟩⟩⟩
  ·rw [qc hjx,Option.some.injEq] at hkd
   rw [hkd] at hk;rcases hk with rfl | ⟨e',_⟩ | ⟨_,m,rfl⟩
   ·exact go _ (.int i) false h (by decide) (by show (match rs[j]? with | some (.int k)=>decide (k > i) | _=>false)=_;rw [hy]) (λ_=>rfl) λz=>absurd rfl z
   ·exact absurd e' (by decide)
   ·exact go _ (.int i) (decide (m > i)) h (by decide) (by show (match rs[j]? with | some (.int k)=>decide (k > i) | _=>false)=_;rw [hy]) (λz=>nomatch z) λ_ R r=>⟨_,_,_,rfl,.inr ⟨m,i,rfl,rfl,.inr ⟨rfl,r⟩⟩⟩
def J3L (K:Frag):Nat->Sp
 | 0=>λ_ _ _ _=>False
 | d+1=>λvs H Q _=>∃ l v a ns kds rs F,vs=[.ref l,v,.ref a]/\Ask H ns kds l a rs/\Sv ns kds d H v F/\∀ H',Same H H'->Q (.bl (F rs)) H'
theorem st_lets_by (T:Txt K mg f fd)(dp:Nat)(ih:FnOk P w K mg base CX0 (3+dp) (f 58) (fd 58) ["fields","sieve","row"] (J3L K dp)):FnOk P w K mg base CX0 (3+dp+1) (f 58) (fd 58) ["fields","sieve","row"] (J3L K (dp+1)):=by
 walk_at "ok wt J9U"
 ·walk_at "ln"
 ·obtain ⟨l,v,a,ns,kds,rs,F,rfl,hA,hS,k⟩:=h
  refine ⟨_,(Ja (Jw (Jo JE (Jn (Ju rfl) (pvl 1) Jc (λ_ _=>rfl)) Jl (Jm _))
   (Je (Jk (JcD (Jh T.wt ih (hr.mono (by omega)) rfl (by decide) rfl (pal rfl (pvc 0) (pal rfl (Jn (Ju rfl) (pvl 1) Jc (λ_ _=>rfl)) (pal rfl (pvc 2) J9)))))))
   Jp)
   (Ja (Jw (Jo JE (Jn (Ju rfl) (pvl 1) Jc (λ_ _=>rfl)) Jl (Jm _))
   (Je (Jk (Jt (J53 rfl rfl) T.wo J35 rfl (by decide) (by decide) rfl (pal rfl (JJ ["inner"] J0J rfl (show CompSc _ (Jf J2b) J0J J0J from Jv (by decide +kernel)) (J2g rfl (Jn (Ju rfl) (pvl 1) Jc (λ_ _=>rfl))) (λ_ _ _ _ _=>(pgl 0 (show ("inner"::J0J:List Str).Nodup by decide +kernel))) (λ_ _ _ _ _=>JI) (λ_ _ _ _ _=>(Jh T.wt ih (hr.mono (by omega)) rfl (by decide) rfl (pal rfl (pvc 1) (pal rfl (pvl 0) (pal rfl (pvc 3) J9)))))) J9))))
   Jp)
   (Ja (Jw (Jo JE (Jn (Ju rfl) (pvl 1) Jc (λ_ _=>rfl)) Jl (Jm _))
   (Je (Jk (Jt (Jg8 rfl rfl) T.zz JfC rfl (by decide) (by decide) rfl (pal rfl (JJ ["inner"] J0J rfl (show CompSc _ (Jf J2b) J0J J0J from Jv (by decide +kernel)) (J2g rfl (Jn (Ju rfl) (pvl 1) Jc (λ_ _=>rfl))) (λ_ _ _ _ _=>(pgl 0 (show ("inner"::J0J:List Str).Nodup by decide +kernel))) (λ_ _ _ _ _=>JI) (λ_ _ _ _ _=>(Jh T.wt ih (hr.mono (by omega)) rfl (by decide) rfl (pal rfl (pvc 1) (pal rfl (pvl 0) (pal rfl (pvc 3) J9)))))) J9))))
   Jp)
   (Je (Jk (Jh T.yt (ok_plain_lets_by T) (hr.mono (by omega)) rfl (by decide) rfl (pal rfl (pvc 0) (pal rfl (pvl 1) (pal rfl (pvc 2) J9))))))))),?_⟩
  walk_at "dc";rcases hS.out with hp | ⟨d,p,rfl,rfl,⟨x,G,h1,h2,rfl⟩ | ⟨q,cs,h1,h2,h3,⟨h4,rfl⟩ | ⟨h4,rfl⟩⟩⟩
  ·obtain ⟨j,n,hj,hpj⟩:=hp
   obtain ⟨p,fm,rest,rfl,hp1,n1,n2,n3⟩:=hpj.form;have ix0:∀ R:VK,R (.str fm) H->J4K K (.ref p) (.int 0) H R:=λR r=>⟨p,_,_,_,rfl,rfl,.of hp1,Jg (j:=0) rfl,r⟩;refine ix0 _ ⟨rfl,?_⟩;rw [zO (by simpa using n1)];refine ix0 _ ⟨rfl,?_⟩;rw [zO (by simpa using n2)];refine ix0 _ ⟨rfl,?_⟩;rw [zO (by simpa using n3)];exact ⟨l,_,a,ns,kds,rs,F,rfl,hA,⟨j,n,hj,hpj⟩,k⟩
  ·refine ⟨p,_,_,_,rfl,rfl,.of h1,Jg (j:=0) rfl,rfl,?_⟩
   rw [zP (by decide)];exact ⟨p,_,_,_,rfl,rfl,.of h1,Jg (j:=1) rfl,l,x,a,ns,kds,rs,G,rfl,hA,h2,λH1 s1=>⟨_,rfl,k H1 s1⟩⟩
  ·refine ⟨p,_,_,_,rfl,rfl,.of h4,Jg (j:=0) rfl,rfl,?_⟩
   rw [zO (by decide)];refine ⟨p,_,_,_,rfl,rfl,.of h4,Jg (j:=0) rfl,rfl,?_⟩;rw [zP (by decide)];refine ⟨p,_,_,_,rfl,rfl,.of h4,Jg (j:=1) rfl,q,rfl,⟨_,.of h1⟩,?_⟩;refine comp_of (as:=cs) (g:=Prod.fst) J0q (Jb (by omega)) (λH' s=>s.seqT (.of h1)) (λ_=>true) (λc=>.bl (c.2 rs)) (λ_ H1 Q _ _ q=>q H1 (Same.refl _)) (λc H1 Q hc _ s1 q=>?_) (λH1 s1 D hD=>?_)
   ·walk_at "dc"
    exact ⟨l,c.1,a,ns,kds,rs,c.2,rfl,hA.mono s1,(h3 c hc).mono (Same.t s1),q⟩
   ·rw [J0i]
    refine ⟨cs.map λc=>c.2 rs,.of (by rw [Jd,map_map];rfl),?_⟩;have e:(cs.map λc=>c.2 rs).all id=cs.all λc=>c.2 rs:=by rw [all_map];rfl
    rw [e];exact k _ (s1.new hD _)
  ·refine ⟨p,_,_,_,rfl,rfl,.of h4,Jg (j:=0) rfl,rfl,?_⟩
   rw [zO (by decide)];refine ⟨p,_,_,_,rfl,rfl,.of h4,Jg (j:=0) rfl,rfl,?_⟩;rw [zO (by decide)];refine ⟨p,_,_,_,rfl,rfl,.of h4,Jg (j:=0) rfl,rfl,?_⟩;rw [zP (by decide)];refine ⟨p,_,_,_,rfl,rfl,.of h4,Jg (j:=1) rfl,q,rfl,⟨_,.of h1⟩,?_⟩;refine comp_of (as:=cs) (g:=Prod.fst) J0q (Jb (by omega)) (λH' s=>s.seqT (.of h1)) (λ_=>true) (λc=>.bl (c.2 rs)) (λ_ H1 Q _ _ q=>q H1 (Same.refl _)) (λc H1 Q hc _ s1 q=>?_) (λH1 s1 D hD=>?_)
   ·walk_at "dc"
    exact ⟨l,c.1,a,ns,kds,rs,c.2,rfl,hA.mono s1,(h3 c hc).mono (Same.t s1),q⟩
   ·rw [J0i]
    refine ⟨cs.map λc=>c.2 rs,.of (by rw [Jd,map_map];rfl),?_⟩;have e:(cs.map λc=>c.2 rs).any id=cs.any λc=>c.2 rs:=by rw [any_map];rfl
    rw [e];exact k _ (s1.new hD _)
theorem J67 (T:Txt K mg f fd):∀ dp:Nat,FnOk P w K mg base CX0 (3+dp) (f 58) (fd 58) ["fields","sieve","row"] (J3L K dp)
 | 0=>⟨λ_ _ _ _ h=>qa h,λ_ _ _ _ _ _ _ _ _ _ _ _ _ h=>qa h⟩
 | dp+1=>st_lets_by T dp (J67 T dp)
theorem JaP {n:Str}{zs:List Str}:inV (.str n) (zs.map V.str)=true↔n∈zs:=by
 unfold inV;rw [any_map,any_eq_true];constructor
 ·rintro ⟨y,hy,e⟩
  have e2:eqV (.str y) (.str n)=true:=e;have:y=n:=by simpa [eqV] using e2
  rw [<- this];exact hy
 ·intro h
  exact ⟨n,h,by show eqV (.str n) (.str n)=true;simp [eqV]⟩
def J3A (K:Frag):Sp:=λvs H Q _=>∃ (kd:Str) (x:V),vs=[.str kd,x]/\(kd=JO\/kd=J1I)/\Jar kd x/\Q (.bl true) H
theorem J6F (T:Txt K mg f fd):FnOk P w K mg base CX0 1 (f 53) (fd 53) ["kind","value"] (J3A K):=by
 walk_at "ok yp J6B"
 ·walk_at "ln"
 ·obtain ⟨kd,x,rfl,hk,hx,k⟩:=h
  refine ⟨_,(Ja (Jw (Jo JE (pvl 0) Jl (Jm _))
   (Je (Jk (Jt (J0G rfl) T.wc Jr rfl (by decide) (by decide) rfl (pal rfl (pvl 1) (pal rfl (pty T.wq J4T) J9)))))
   Jp)
   (Je (Jk (Jt (J0G rfl) T.wc Jr rfl (by decide) (by decide) rfl (pal rfl (pvl 1) (pal rfl (pty T.wF J8h) J9)))))),?_⟩
  walk_at "dc";rcases hx with ⟨rfl,z,rfl,hz⟩ | ⟨rfl,i,rfl⟩
  ·rw [zO (by decide)]
   exact ⟨_,.of_str (Jb (by have:=hz.1;omega)),by decide,k⟩
  ·rw [zP (by decide)]
   exact ⟨_,.of_int,by decide,k⟩
inductive Q_asked_plain (K:Frag)(vs:List V)(H:Hp)(Q:VK):Prop
 | mk (l:Addr) (v:V) (xs:List V) (ns kds:List Str) (F:List V->Bool) (u0_:vs=[.ref l,v]) (u1_:H l=some (.lst xs)) (u2_:FldsK H xs ns kds) (u3_:(∀ kd∈kds,kd=JO\/kd=J1I)) (u4_:Plain H ns kds v F) (u5_:∀ H',Same H H'->Q (.bl true) H'):Q_asked_plain K vs H Q
def J5M (K:Frag):Sp:=λvs H Q _=>Q_asked_plain K vs H Q
theorem ok_asked_plain (T:Txt K mg f fd):FnOk P w K mg base CX0 2 (f 54) (fd 54) ["fields","sieve"] (J5M K):=by
 walk_at "ok yq J1v"
 ·walk_at "ln"
 ·obtain ⟨l,v,xs,ns,kds,F,rfl,hl,hF,hkk,⟨j,n,hj,hp⟩,k⟩:=h
  refine ⟨_,(Ja (psl 2 J1v.nd (Jn (Ju rfl) (pvl 1) Jc (λ_ _=>rfl)))
   (Ja (psl 3 J1v.nd (Jn (Ju rfl) (Jn (J05 rfl) (pvl 0) (Jh T.wp (ok_field_at T) (hr.mono (by decide)) rfl (by decide) rfl (pal rfl (pvl 0) (pal rfl (pvl 2) J9))) (λ_ _=>rfl)) Jc (λ_ _=>rfl)))
   (Ja (Jw (PW.pt (J2t (Jo (JcX rfl) (Jn (Ju rfl) (pvl 1) Jc (λ_ _=>rfl)) (Jz (pal rfl Jl (pal rfl Jl J9))) rfl) (J1j (Jo J70 (pvl 3) Jl (Jm _)))))
   (Je J08)
   Jp)
   (Ja (Jw (PW.pt (J2t (Jo JE (Jn (Ju rfl) (pvl 1) Jc (λ_ _=>rfl)) Jl (Jm _)) (J1j (J0l (J0a (Jh T.yp (J6F T) (hr.mono (by decide)) rfl (by decide) rfl (pal rfl (pvl 3) (pal rfl (Jn (Ju rfl) (pvl 1) Jc (λ_ _=>rfl)) J9))))))))
   (Je J08)
   Jp)
   (Je (Jk JV)))))),?_⟩
  walk_at "dc";obtain ⟨p,fm,rest,rfl,hp1,_⟩:=hp.form;refine ⟨p,_,_,_,rfl,rfl,.of hp1,Jg (j:=1) rfl,l,xs,ns,kds,n,j,rfl,hl,hF,hj,λH1 s1=>?_⟩;obtain ⟨p',n',kd,e1,e2,e3,e4⟩:=hF.at (show j<xs.length by rw [<- hF.1];exact (qd.mp hj).1);refine ⟨l,xs,_,_,rfl,rfl,.of (s1 _ _ hl),Jg e1,p',_,_,_,rfl,rfl,.of (s1 _ _ e4),Jg (j:=1) rfl,?_⟩;have hp1':=s1 _ _ hp1;refine ⟨p,_,_,_,rfl,rfl,.of hp1',Jg (j:=0) rfl,Jb (by decide),λc hc=>?_⟩
  walk_at "nw c hc H2 s2 gc"
  obtain ⟨u1,u2⟩:((fm="under"\/fm="over")->kd=J1I)/\(fm="is"->∃ x,H p=some (.tup [.str "is",.str n,x])/\Jar kd x):=by
   obtain ⟨p2,e,hp⟩:=hp;cases e;have same:∀ {a:Str} {r:List V},H p=some (.tup (.str a::r))->fm=a:=λh=>by
    rw [hp1] at h;injection h with h
    injection h with h
    injection h with h _
    injection h
   rcases hp with ⟨h,_⟩ | ⟨x,kd',h,hk',hx,_⟩ | ⟨i,h,hk',_⟩ | ⟨i,h,hk',_⟩
   ·rw [same h]
    exact ⟨λz=>by rcases z with z | z<;>exact absurd z (by decide),λz=>absurd z (by decide)⟩
   ·rw [same h]
    obtain rfl:=zU (hk'.symm.trans e3);exact ⟨λz=>by rcases z with z | z<;>exact absurd z (by decide),λ_=>⟨x,h,hx⟩⟩
   ·rw [same h]
    exact ⟨λ_=>zU (e3.symm.trans hk'),λz=>absurd z (by decide)⟩
   ·rw [same h]
    exact ⟨λ_=>zU (e3.symm.trans hk'),λz=>absurd z (by decide)⟩
  have S2:=s1.trans s2;have isq:J4K K (V.ref p) (V.int 0) H2 λx H1=>J5Q x (V.str (Str.ofString "is"))=true/\if decide (x=V.str (Str.ofString "is"))=true then J4K K (V.ref p) (V.int 2) H1 λx H1=>J3A K [V.str kd,x] H1 (λx H1=>∃ c,x=V.bl c/\if (!c)=true then False else Q (V.bl true) H1) E0 else Q (V.bl true) H1:=by
   refine ⟨p,_,_,_,rfl,rfl,.of (s2 _ _ hp1'),Jg (j:=0) rfl,rfl,?_⟩;by_cases ci:fm="is"
   ·rw [zP (by simpa using ci)]
    obtain ⟨x,hx,hk⟩:=u2 ci;refine ⟨p,_,_,_,rfl,rfl,.of (S2 _ _ hx),Jg (j:=2) rfl,kd,x,rfl,hkk kd (qi e3),hk,_,rfl,?_⟩;rw [zO (by decide)];exact k _ S2
   ·rw [zO (by simpa using ci)]
    exact k _ S2
  refine ⟨c,_,rfl,.inr (.of gc),rfl,by decide,_,rfl,?_⟩;rw [zO zR];by_cases cu:fm="under"\/fm="over"
  ·have iv:inV (V.str fm) [V.str (Str.ofString "under"),V.str (Str.ofString "over")]=true:=by
    clear u1 u2 hp1 hp1' isq;rcases cu with rfl | rfl<;>decide
   rw [zP iv];refine ⟨rfl,?_⟩;rw [zO (by rw [u1 cu];decide)];exact isq
  ·rw [zO (λz=>by
    have:=(JaP (zs:=["under","over"])).mp z;rcases qo.mp this with e | e
    ·exact cu (.inl e)
    ·exact cu (.inr (qf.mp e)))]
   exact isq
def J1u (K:Frag):Nat->Sp
 | 0=>λ_ _ _ _=>False
 | d+1=>λvs H Q _=>∃ (l:Addr) (v:V) (xs:List V) (ns kds:List Str) (F:List V->Bool),vs=[.ref l,v]/\H l=some (.lst xs)/\FldsK H xs ns kds/\(∀ kd∈kds,kd=JO\/kd=J1I)/\Sv ns kds d H v F/\∀ H',Same H H'->Q (.bl true) H'
theorem st_asked_sieve (T:Txt K mg f fd)(dp:Nat)(ih:FnOk P w K mg base CX0 (3+dp) (f 55) (fd 55) ["fields","sieve"] (J1u K dp)):FnOk P w K mg base CX0 (3+dp+1) (f 55) (fd 55) ["fields","sieve"] (J1u K (dp+1)):=by
 walk_at "ok wz J5S"
 ·walk_at "ln"
 ·obtain ⟨l,v,xs,ns,kds,F,rfl,hl,hF,hkk,hS,k⟩:=h
  refine ⟨_,(Ja (Jw (Jo JE (Jn (Ju rfl) (pvl 1) Jc (λ_ _=>rfl)) Jl (Jm _))
   (Je (Jk (Jh T.wz ih (hr.mono (by omega)) rfl (by decide) rfl (pal rfl (pvc 0) (pal rfl (Jn (Ju rfl) (pvl 1) Jc (λ_ _=>rfl)) J9)))))
   Jp)
   (Ja (Jw (Jo (JcX rfl) (Jn (Ju rfl) (pvl 1) Jc (λ_ _=>rfl)) (Jz (pal rfl Jl (pal rfl Jl J9))) rfl)
   (Je (Jk (Jt (J53 rfl rfl) T.wo J35 rfl (by decide) (by decide) rfl (pal rfl (JJ ["inner"] J12 rfl (show CompSc _ (Jf J10) J12 J12 from Jv (by decide +kernel)) (J2g rfl (Jn (Ju rfl) (pvl 1) Jc (λ_ _=>rfl))) (λ_ _ _ _ _=>(pgl 0 (show ("inner"::J12:List Str).Nodup by decide +kernel))) (λ_ _ _ _ _=>JI) (λ_ _ _ _ _=>(Jh T.wz ih (hr.mono (by omega)) rfl (by decide) rfl (pal rfl (pvc 1) (pal rfl (pvl 0) J9))))) J9))))
   Jp)
   (Je (Jk (Jh T.yq (ok_asked_plain T) (hr.mono (by omega)) rfl (by decide) rfl (pal rfl (pvc 0) (pal rfl (pvl 1) J9))))))),?_⟩
  walk_at "dc";rcases hS.out with hp | ⟨d,p,rfl,rfl,⟨x,G,h1,h2,rfl⟩ | ⟨q,cs,h1,h2,h3,h4⟩⟩
  ·obtain ⟨j,n,hj,hpj⟩:=hp
   obtain ⟨p,fm,rest,rfl,hp1,n1,n2,n3⟩:=hpj.form;refine ⟨p,_,_,_,rfl,rfl,.of hp1,Jg (j:=0) rfl,rfl,?_⟩;rw [zO (by simpa using n1)];refine ⟨p,_,_,_,rfl,rfl,.of hp1,Jg (j:=0) rfl,Jb (by decide),λc hc=>?_⟩
   walk_at "nw c hc H1 s1 gc"
   refine ⟨c,_,rfl,.inr (.of gc),rfl,by decide,_,rfl,?_⟩;rw [zO zR,zO (λz=>by
    have:=(JaP (zs:=["all","some"])).mp z;rcases qo.mp this with e | e
    ·exact n2 e
    ·exact n3 (qf.mp e))]
   exact ⟨l,_,xs,ns,kds,F,rfl,s1 _ _ hl,hF.mono s1,hkk,⟨j,n,hj,hpj.mono (Same.t s1)⟩,λH' s=>k _ (s1.trans s)⟩
  ·refine ⟨p,_,_,_,rfl,rfl,.of h1,Jg (j:=0) rfl,rfl,?_⟩
   rw [zP (by decide)];exact ⟨p,_,_,_,rfl,rfl,.of h1,Jg (j:=1) rfl,l,x,xs,ns,kds,G,rfl,hl,hF,hkk,h2,k⟩
  ·obtain ⟨fm,hfm,hp⟩:∃ fm,(fm="all"\/fm="some")/\H p=some (.tup [.str fm,.ref q]):=by
    rcases h4 with ⟨h4,_⟩ | ⟨h4,_⟩
    ·exact ⟨_,.inl rfl,h4⟩
    ·exact ⟨_,.inr rfl,h4⟩
   refine ⟨p,_,_,_,rfl,rfl,.of hp,Jg (j:=0) rfl,rfl,?_⟩;rw [zO (by rcases hfm with rfl | rfl<;>decide)];refine ⟨p,_,_,_,rfl,rfl,.of hp,Jg (j:=0) rfl,Jb (by decide),λc hc=>?_⟩
   walk_at "nw c hc H1 s1 gc"
   refine ⟨c,_,rfl,.inr (.of gc),rfl,by decide,_,rfl,?_⟩;rw [zO zR,zP (by rcases hfm with rfl | rfl<;>decide)];refine ⟨p,_,_,_,rfl,rfl,.of (s1 _ _ hp),Jg (j:=1) rfl,q,rfl,⟨_,.of (s1 _ _ h1)⟩,?_⟩;refine comp_of (as:=cs) (g:=Prod.fst) J0q (Jb (by omega)) (λH' s=>(s1.trans s).seqT (.of h1)) (λ_=>true) (λc=>.bl true) (λ_ H1 Q _ _ q=>q H1 (Same.refl _)) (λc H2 Q hc _ s2 q=>?_) (λH2 s2 D hD=>?_)
   ·walk_at "dc"
    have S2:=s1.trans s2;exact ⟨l,c.1,xs,ns,kds,c.2,rfl,S2 _ _ hl,hF.mono S2,hkk,(h3 c hc).mono (Same.t S2),q⟩
   ·rw [J0i]
    refine ⟨cs.map λc=>true,.of (by rw [Jd,map_map];rfl),?_⟩;have e:(cs.map λc=>true).all id=true:=by rw [all_map];simp
    rw [e];exact k _ ((s1.trans s2).new hD _)
theorem J2X (T:Txt K mg f fd):∀ dp:Nat,FnOk P w K mg base CX0 (3+dp) (f 55) (fd 55) ["fields","sieve"] (J1u K dp)
 | 0=>⟨λ_ _ _ _ h=>qa h,λ_ _ _ _ _ _ _ _ _ _ _ _ _ h=>qa h⟩
 | dp+1=>st_asked_sieve T dp (J2X T dp)
theorem J7t:∀ {kvs:List (Key×V)} {i:Nat} {k:Key} {v:V},(kvs.map (·.1)).Nodup->kvs[i]?=some (k,v)->Jy kvs k=some v
 | [],i,k,v,_,e=>by simp at e
 | kv::kvs,i,k,v,nd,e=>by
   rw [qp,nodup_cons] at nd;unfold Jy;rw [List.find?_cons];cases i with
   | zero =>
     obtain rfl:kv=(k,v):=by simpa using e
     rw [zS rfl];rfl
   | succ i =>
     have e2:kvs[i]?=some (k,v):=by simpa using e
     have ne:kv.1≠k:=λz=>nd.1 (by rw [z];exact qy.mpr ⟨(k,v),qi e2,rfl⟩);rw [zT ne];exact J7t nd.2 e2
theorem perm_one {α:Type}{le:α->α->Prop}(anti:∀ a b,le a b->le b a->a=b):∀ {xs ys:List α},xs.Perm ys->xs.Pairwise le->ys.Pairwise le->xs=ys
 | [],ys,p,_,_=>(List.Perm.nil_eq p)
 | a::as,[],p,_,_=>absurd p.length_eq (by simp)
 | a :: as,b::bs,p,h1,h2=>by
   rw [pairwise_cons] at h1 h2;have e:a=b:=by
    rcases qo.mp (p.mem_iff.mp qm) with e | h
    ·exact e
    ·rcases qo.mp (p.mem_iff.mpr qm) with e | h'
     ·exact e.symm
     ·exact anti a b (h1.1 b h') (h2.1 a h)
   subst e;rw [perm_one anti p.cons_inv h1.2 h2.2]
structure RwK (H:Hp)(kds:List Str)(kvs:List (Key×V))(ks:List Int):Prop where
 k:kvs.map (·.1)=ks.map Sum.inl
 up:ks.Pairwise (·<·)
 r:∀ kv∈kvs,∃ r rs,kv.2=.ref r/\H r=some (.tup rs)/\RowS kds rs
theorem RwK.tup {H H':Hp}{kds:List Str}{kvs:List (Key×V)}{ks:List Int}(t:∀ c ys,H c=some (.tup ys)->H' c=some (.tup ys))(h:RwK H kds kvs ks):RwK H' kds kvs ks:=⟨h.k,h.up,λkv hk=>by
 obtain ⟨r,rs,e,a,b⟩:=h.r kv hk;exact ⟨r,rs,e,t _ _ a,b⟩⟩
theorem RwK.mono (s:Same H H')(h:RwK H kds kvs ks):RwK H' kds kvs ks:=h.tup λ_ _ z=>s _ _ z
theorem RwK.len (h:RwK H kds kvs ks):kvs.length=ks.length:=by
 have:=congrArg List.length h.k;rwa [qe,qe] at this
theorem RwK.nd (h:RwK H kds kvs ks):(kvs.map (·.1)).Nodup:=by
 rw [h.k];unfold List.Nodup;rw [pairwise_map];exact h.up.imp λ{a b} q e=>by injection e with e;omega
theorem RwK.at (h:RwK H kds kvs ks){n:Int}(hn:ks[i]?=some n):∃ r rs,kvs[i]?=some (.inl n,.ref r)/\Jy kvs (.inl n)=some (.ref r)/\H r=some (.tup rs)/\RowS kds rs:=by
 have hi:i<kvs.length:=by rw [h.len];exact (qd.mp hn).1
 have e:=qc hi;obtain ⟨r,rs,e1,e2,e3⟩:=h.r _ (getElem_mem hi);have ek:kvs[i].1=.inl n:=by
  have:=congrArg (λl=>l[i]?) h.k;simp only [qq,e,hn,Option.map_some,Option.some.injEq] at this;exact this
 have ev:kvs[i]=(.inl n,.ref r):=by rw [<- ek,<- e1]
 rw [ev] at e;exact ⟨r,rs,e,J7t h.nd e,e2,e3⟩
theorem RwK.no (h:RwK H kds kvs ks){n:Int}(hn:n∉ks):Jy kvs (.inl n)=none:=by
 cases e:Jy kvs (.inl n) with
 | none=>rfl
 | some v =>
   unfold Jy at e;obtain ⟨kv,h1,_⟩:=Option.map_eq_some_iff.mp e;have h2:=List.find?_some h1;have h3:kv.1∈kvs.map (·.1):=mem_map_of_mem (mem_of_find?_eq_some h1);rw [h.k,of_decide_eq_true h2] at h3;obtain ⟨m,hm,e2⟩:=qy.mp h3;injection e2 with e2
   exact absurd (e2 ▸ hm) hn
theorem RwK.put {g:Int}{rs:List V}(h:RwK H kds kvs ks)(hg:∀ n∈ks,n<g)(hr:H r=some (.tup rs))(hR:RowS kds rs):RwK H kds (JS kvs (.inl g) (.ref r)) (ks++[g]):=by
 rw [putK_new (h.no λz=>by have:=hg g z;omega)];refine ⟨?_,?_,λkv hk=>?_⟩
 ·rw [qt,qt,h.k]
  rfl
 ·rw [pairwise_append]
  exact ⟨h.up,pairwise_singleton _ _,λa ha b hb=>by rw [qf.mp hb];exact hg a ha⟩
 ·rcases qu.mp hk with hk | hk
  ·exact h.r kv hk
  ·rw [qf.mp hk]
   exact ⟨r,rs,rfl,hr,hR⟩
abbrev NR:Type:=Int×List V
def PrsN (H:Hp)(kds:List Str)(xp:List V)(nrs:List NR):Prop:=Paired (λ(x:V) (nr:NR)=>∃ (p r:Addr),x=.ref p/\H p=some (.tup [.int nr.1,.ref r])/\H r=some (.tup nr.2)/\RowS kds nr.2) xp nrs
theorem PrsN.mono (s:Same H H')(h:PrsN H kds xp nrs):PrsN H' kds xp nrs:=Paired.mapP h λ_ _ ⟨p,r,e,a,b,c⟩=>⟨p,r,e,s _ _ a,s _ _ b,c⟩
theorem PrsN.rs {H:Hp}{kds:List Str}:∀ {xp:List V} {nrs:List NR},PrsN H kds xp nrs->PrsR H kds xp (nrs.map Prod.snd)
 | _,_,.nil=>.nil
 | _,_,.cons r t=>.cons (let ⟨p,q,e,a,b,c⟩:=r;⟨p,q,_,e,a,b,c⟩) (PrsN.rs t)
def RwN (H:Hp)(kds:List Str)(kvs:List (Key×V))(nrs:List NR):Prop:=Paired (λ(kv:Key×V) (nr:NR)=>kv.1=.inl nr.1/\∃ r,kv.2=.ref r/\H r=some (.tup nr.2)/\RowS kds nr.2) kvs nrs
theorem RwN.mono (s:Same H H')(h:RwN H kds kvs nrs):RwN H' kds kvs nrs:=Paired.mapP h λ_ _ ⟨e,r,e2,a,b⟩=>⟨e,r,e2,s _ _ a,b⟩
theorem RwK.rows {H:Hp}{kds:List Str}:∀ {kvs:List (Key×V)} {ks:List Int},kvs.map (·.1)=ks.map Sum.inl->(∀ kv∈kvs,∃ r rs,kv.2=.ref r/\H r=some (.tup rs)/\RowS kds rs)->∃ nrs,RwN H kds kvs nrs/\nrs.map (·.1)=ks
 | [],ks,e,_=>by
   cases ks with
   | nil=>exact ⟨[],.nil,rfl⟩
   | cons=>cases e
 | kv::kvs,ks,e,h=>by
   cases ks with
   | nil=>cases e
   | cons k ks =>
     rw [qp,qp] at e;injection e with e1 e2
     obtain ⟨nrs,hr,he⟩:=RwK.rows e2 λv hv=>h v (ql _ hv);obtain ⟨r,rs,h1,h2,h3⟩:=h kv qm;exact ⟨(k,rs)::nrs,.cons ⟨e1,r,h1,h2,h3⟩ hr,by rw [qp,he]⟩
inductive Q_lay (K:Frag)(f:Nat->Addr)(vs:List V)(H:Hp)(Q:VK):Prop
 | mk (o v l d n0 n1 fg:Addr) (sv:V) (g:Int) (xs fvs:List V) (kvs:List (Key×V)) (ks:List Int) (gs:List Fg) (ns kds:List Str) (is0 is1:List Nat) (nrs:List NR) (F:List V->Bool) (u0_:vs=[.ref o,.ref v,sv]) (u1_:ShAt f H o l d g xs kvs) (u2_:VwOk H l v n0 n1 fg xs fvs gs ns kds is0 is1) (u3_:Sv ns kds 4 H sv F) (u4_:RwK H kds kvs ks) (u5_:RwN H kds kvs nrs) (u6_:kvs.length<=16) (u7_:∀ H' t kss0 kss1,Same H H'->TabAt f H' t ns kds is0 is1 kss0 kss1->J0T is0 kds ((nrs.filter λnr=>F nr.2).map Prod.snd) kss0->J0T is1 kds ((nrs.filter λnr=>F nr.2).map Prod.snd) kss1->Q (.ref t) H'):Q_lay K f vs H Q
def JeR (K:Frag)(f:Nat->Addr):Sp:=λvs H Q _=>Q_lay K f vs H Q
theorem ok_lay (T:Txt K mg f fd):FnOk P w K mg base CX0 9 (f 60) (fd 60) ["sheet","view","sieve"] (JeR K f):=by
 walk_at "ok yu J9V"
 ·walk_at "ln"
 ·obtain ⟨o,v,l,d,n0,n1,fg,sv,g,xs,fvs,kvs,ks,gs,ns,kds,is0,is1,nrs,F,rfl,hS,hV,hSv,hK,hP,h20,k⟩:=h
  obtain ⟨dx,ho⟩:=hS.o;have hlk:=hK.len;have hlr:=Paired.length hP;refine ⟨_,(Ja (psc 3 J9V.nd (J90 (pvc 0) T.wf.cls T.zg (J5i T) (hr.mono (by decide)) T.yJ.b .nil J2e rfl))
   (Ja (JT (Jh T.yl (ok_asked_view T) (hr.mono (by decide)) rfl (by decide) rfl (pal rfl (pvc 3) (pal rfl (pvl 1) J9))))
   (Ja (JT (Jh T.wz (J2X T 5) (hr.mono (by decide)) rfl (by decide) rfl (pal rfl (pvc 3) (pal rfl (pvc 2) J9))))
   (Ja (J5r ["number"] J50 rfl (show CompSc _ (Jf J8M) J50 J50 from Jv (by decide +kernel)) J9V.nd (i:=4) rfl rfl (J0B rfl (J90 (pvc 0) T.wf.cls T.zj (J4O T) (hr.mono (by decide)) T.yM.b .nil J2e rfl)) (λ_ _ _ _ _=>(pgl 0 (show ("number"::J50:List Str).Nodup by decide +kernel))) (λ_ _ _ _ _=>JI) (λ_ _ _ _ _=>(Jz (pal rfl (pvl 0) (pal rfl (J3i (pvc 1) T.wf.cls T.zi (J7Z T) (hr.mono (by decide)) T.yL.b .nil J2e (pal rfl (pvl 0) J9) rfl rfl rfl) J9)))))
   (Je (Jk (J5s T.wk.mkr (ok_Table___init__ T) (hr.mono (by decide)) rfl T.wk.m T.yP.b .nil J2e (pal rfl (pvc 3) (pal rfl (pvl 1) (pal rfl (JJ ["pair"] J50 rfl (show CompSc _ (Jf J8M) J50 J50 from Jv (by decide +kernel)) (J0B rfl (pvl 4)) (λ_ _ _ _ _=>(pgl 0 (show ("pair"::J50:List Str).Nodup by decide +kernel))) (λ_ _ _ _ _=>(J5q (J0a (Jh T.wt (J67 T 5) (hr.mono (by decide)) rfl (by decide) rfl (pal rfl (pvc 4) (pal rfl (pvc 3) (pal rfl (Jn (Ju rfl) (pvl 0) Jc (λ_ _=>rfl)) J9))))))) (λ_ _ _ _ _=>(pvl 0))) J9))) (by decide) rfl rfl))))))),?_⟩
  walk_at "dc";refine ⟨_,_,ho,rfl,o,l,d,g,xs,kvs,rfl,hS,λH1 lc s1 gl=>?_⟩;have hV1:VwOk H1 lc v n0 n1 fg xs fvs gs ns kds is0 is1:=by
   have h:=hV.mono s1;exact ⟨⟨gl,h.b.F,h.b.kk,h.b.vw,h.b.fg,h.b.fs,h.b.fl⟩,h.nd,h.nm,h.g1,h.g4⟩
  refine ⟨lc,v,n0,n1,fg,xs,fvs,gs,ns,kds,is0,is1,rfl,hV1,λH2 s2=>?_⟩;have S2:=s1.trans s2;refine ⟨lc,sv,xs,ns,kds,F,rfl,s2 _ _ gl,hV.b.F.mono S2,hV.b.kk,hSv.mono (Same.t S2),λH3 s3=>?_⟩;have S3:=S2.trans s3;refine ⟨_,_,S3 _ _ ho,rfl,o,l,d,g,xs,kvs,ks,rfl,hS.mono S3,hK.k,by omega,λpm ms hpm hms hup=>?_⟩;obtain rfl:ms=ks:=perm_one (le:=λa b:Int=>a<=b) (λa b h1 h2=>by omega) hms hup (hK.up.imp λ{a b} q=>by omega)
  walk_at "nw pm hpm H4 u4 g4"
  have S4:=S3.trans u4;refine ⟨pm,rfl,⟨_,.of g4⟩,?_⟩;refine JM (JC (xs:=ms.map V.int)) (by rw [qe];exact Jb (by omega)) (λi ys H'=>Same H4 H'/\PrsN H' kds ys (nrs.take i)) ⟨Same.refl _,.nil⟩ (λ_ _ H' _ q=>q.1.seq (.of g4)) (λi ys H' q=>by rw [Paired.length q.2,qk];omega) (λi x ys H5 hx q=>?_) (λys H5 q D hD=>?_)
  ·obtain ⟨t1,hys⟩:=q
   have S5:=S4.trans t1;rw [qq] at hx;obtain ⟨n,hn,rfl⟩:=Option.map_eq_some_iff.mp hx;obtain ⟨r,rs,e1,e2,e3,e4⟩:=hK.at hn;obtain ⟨⟨n',rs'⟩,hrs,en,r',e5,e6,e7⟩:=Paired.ix hP e1;obtain rfl:n=n':=by injection en
   obtain rfl:r'=r:=by injection e5 with e5;exact e5.symm
   walk_at "dc";refine ⟨_,_,S5 _ _ ho,rfl,⟨l,d,⟨g,xs,kvs,hS.mono S5,_,e2,Jb (by decide),λp hp=>⟨⟨_,rfl⟩,t1.new hp _,?_⟩⟩⟩⟩;have u:=Same.upd_new hp (HO.tup [V.int n,V.ref r']);rw [JF hrs];exact Paired.snoc (PrsN.mono u hys) ⟨p,r',rfl,Jd,u _ _ (S5 _ _ e6),e7⟩
  ·obtain ⟨t1,hys⟩:=q
   rw [qe,show ms.length=nrs.length by omega,qr] at hys;have hyl:=Paired.length hys;have u6:=t1.new hD (HO.lst ys);have g6:upd H5 D (HO.lst ys) D=some (.lst ys):=Jd;have hys6:=PrsN.mono (Same.upd_new hD (HO.lst ys)) hys;generalize upd H5 D (HO.lst ys)=H6 at *;have S6:=S4.trans u6;have y6:=(s2.trans s3).trans (u4.trans u6);unfold Jaw;walk_at "dc";refine ⟨⟨_,.of g6⟩,?_⟩;refine JM (JC (xs:=ys)) (Jb (by omega)) (λi zs H'=>Same H6 H'/\PrsN H' kds zs ((nrs.take i).filter λnr=>F nr.2)) ⟨Same.refl _,.nil⟩ (λ_ _ H' _ q=>q.1.seq (.of g6)) (λi zs H' q=>by
    have e:=Paired.length q.2;have l1:=length_filter_le (λnr:NR=>F nr.2) (nrs.take i);rw [qk] at l1;omega) (λi x zs H7 hx q=>?_) (λzs H7 q D2 hD2=>?_)
   ·obtain ⟨t2,hz⟩:=q
    obtain ⟨⟨n,rs⟩,hnr,pp,r,rfl,e1,e2,e3⟩:=Paired.ix (hys6.mono t2) hx;rw [JF hnr,filter_append,filter_cons,filter_nil];have y7:=y6.trans t2;walk_at "dc";refine ⟨pp,_,_,_,rfl,rfl,.of e1,Jg (j:=1) rfl,lc,sv,r,ns,kds,rs,F,rfl,⟨xs,y7 _ _ gl,hV.b.F.mono (S6.trans t2),e2,e3.ok⟩,hSv.mono (Same.t (S6.trans t2)),λH8 s8=>⟨_,rfl,?_⟩⟩;cases hF:F rs with
    | true =>
      rw [zP rfl,zP rfl];exact ⟨⟨_,rfl⟩,t2.trans s8,Paired.snoc (hz.mono s8) ⟨pp,r,rfl,s8 _ _ e1,s8 _ _ e2,e3⟩⟩
    | false =>
      rw [zO zR,zO zR,append_nil];exact ⟨⟨_,rfl⟩,t2.trans s8,hz.mono s8⟩
   ·obtain ⟨t2,hz⟩:=q
    rw [hyl,qr] at hz;have hzl:=Paired.length hz;have lz:=length_filter_le (λnr:NR=>F nr.2) nrs;have w8:=t2.new hD2 (HO.lst zs);have g8:upd H7 D2 (HO.lst zs) D2=some (.lst zs):=Jd;have hz8:=hz.mono (Same.upd_new hD2 (HO.lst zs));generalize upd H7 D2 (HO.lst zs)=G at *;intro ot dt hot hdt hne;have hn1:upd G dt (.own ot) ot=none:=by rw [Jj (Ne.symm hne)];exact hot
    have SG:Same H G:=S6.trans w8;have hVG:=hV1.mono (((s2.trans s3).trans u4).trans (u6.trans w8));exact ⟨G,ot,dt,lc,v,D2,n0,n1,fg,xs,fvs,zs,gs,ns,kds,is0,is1,_,rfl,(Same.upd_new hdt _).new hn1 _,hot,Jd,hVG.b,g8,by omega,hz8.rs,λH9 kss0 kss1 s9 hT hk0 hk1=>⟨rfl,k H9 ot kss0 kss1 (SG.trans s9) hT hk0 hk1⟩⟩
def OpAt (H:Hp)(op u0 u1:Addr):Prop:=∃ hk,H op=some (.dK hk)/\Jy hk (.inr "rows")=some (.ref u0)/\Jy hk (.inr "columns")=some (.ref u1)
theorem OpAt.mono {op:Addr}(s:Same H H')(h:OpAt H op u0 u1):OpAt H' op u0 u1:=h.imp λ_ z=>⟨s _ _ z.1,z.2⟩
theorem Jdc (k:∀ H' op w0 w1,Same H H'->H op=none->H w0=none->H w1=none->w0≠w1->OpAt H' op w0 w1->H' w0=some (.dT [([],.bl true)])->H' w1=some (.dT [([],.bl true)])->Q (.ref op) H') :
 J4W [(tC (V.str (Str.ofString "rows")),J2I (J9G J59) (tC (V.bl true))),(tC (V.str (Str.ofString "columns")),J2I (J9G J59) (tC (V.bl true)))] σ H Q:=by
 walk_at "dl";intro p hp p1 hp1;refine ⟨zZ _,λp2 hp2=>?_⟩
 walk_at "nw p hp H2 u2 gp2"
 walk_at "nw p1 hp1 H3 u3 g3"
 walk_at "nw p2 hp2 H4 u4 g4"
 refine ⟨u4 _ _ g3,[],g4,λp3 hp3=>⟨zZ _,λp4 hp4=>?_⟩⟩;have hp1G:=none_of u2 hp1;have s5:=(u2.trans (u3.trans u4)).set hp1G (HO.dT [([],.bl true)]);have gp5:upd H4 p1 (HO.dT [([],.bl true)]) p=some (HO.dK []):=by
  rw [Jj (λe=>by rw [<- e,gp2] at hp1;cases hp1)];exact u4 _ _ (u3 _ _ gp2)
 have g5:upd H4 p1 (HO.dT [([],.bl true)]) p1=some (HO.dT [([],.bl true)]):=Jd;generalize upd H4 p1 (HO.dT [([],.bl true)])=H5 at *
 walk_at "nw p3 hp3 H6 u6 g6"
 walk_at "nw p4 hp4 H7 u7 g7"
 refine ⟨u7 _ _ g6,[],g7,?_⟩;have hp3G:=none_of s5 hp3;have s8:=(s5.trans (u6.trans u7)).set hp3G (HO.dT [([],.bl true)]);have k8:∀ c x,H5 c=some x->upd H7 p3 (HO.dT [([],.bl true)]) c=some x:=λc x z=>by
  rw [Jj (λe=>by rw [e,hp3] at z;cases z)];exact u7 _ _ (u6 _ _ z)
 have gp8:=k8 _ _ gp5;have g18:=k8 _ _ g5;have g38:upd H7 p3 (HO.dT [([],.bl true)]) p3=some (HO.dT [([],.bl true)]):=Jd;have n13:p1≠p3:=λe=>by rw [<- e,g5] at hp3;cases hp3
 generalize upd H7 p3 (HO.dT [([],.bl true)])=H8 at *;refine ⟨gp8,[(.inr "rows",.ref p1),(.inr "columns",.ref p3)],rfl,(by show 2<=15;decide),?_⟩;have s9:=s8.set hp (HO.dK (J0p [] [(.inr "rows",.ref p1),(.inr "columns",.ref p3)]));have k9:∀ c x,H8 c=some x->x≠.dK []->upd H8 p (HO.dK (J0p [] [(.inr "rows",.ref p1),(.inr "columns",.ref p3)])) c=some x:=λc x z n=>by
  rw [Jj (λe=>n (by rw [e,gp8] at z;exact (zU z).symm))];exact z
 exact k _ p p1 p3 s9 hp hp1G hp3G n13 ⟨_,Jd,rfl,rfl⟩ (k9 _ _ g18 (λz=>nomatch z)) (k9 _ _ g38 (λz=>nomatch z))
def Jfg (t un od:Addr):List (Str×V):=[("table",.ref t),("unfolded",.ref un),("orders",.ref od)]
theorem JaE (t un:Addr):J02 (Str.ofString "unfolded") (V.ref un) (J02 (Str.ofString "table") (V.ref t) [])=([("table",V.ref t),("unfolded",V.ref un)]:List (Str×V)):=by
 show (if ((Str.ofString "table":Str)=Str.ofString "unfolded") then _ else _)=_;rw [zO (by decide)];rfl
theorem JdW (t un od:Addr):J02 (Str.ofString "orders") (V.ref od) ([("table",V.ref t),("unfolded",V.ref un)]:List (Str×V))=Jfg t un od:=by
 rw [J02,zO (by decide),J02,zO (by decide),J02];rfl
structure LkAt (f:Nat->Addr)(H:Hp)(o t un od u0 u1:Addr):Prop where
 o:∃ dx,H o=some (.ins (f 51) dx (Jfg t un od))
 un:∃ hk,H un=some (.dK hk)/\Jy hk (.inr "rows")=some (.ref u0)/\Jy hk (.inr "columns")=some (.ref u1)
 od:∃ hk,H od=some (.dK hk)/\Jy hk (.inr "rows")=some .non/\Jy hk (.inr "columns")=some .non
theorem LkAt.go {f:Nat->Addr}{t un od:Addr}(g:∀ c x,H c=some x->(∀ kvs,x≠.dT kvs)->H' c=some x)(h:LkAt f H o t un od u0 u1):LkAt f H' o t un od u0 u1 :=
 ⟨h.o.imp λ_ z=>g _ _ z (λ_ e=>nomatch e),h.un.imp λ_ z=>⟨g _ _ z.1 (λ_ e=>nomatch e),z.2⟩,h.od.imp λ_ z=>⟨g _ _ z.1 (λ_ e=>nomatch e),z.2⟩⟩
theorem LkAt.mono {f:Nat->Addr}{t un od:Addr}(s:Same H H')(h:LkAt f H o t un od u0 u1):LkAt f H' o t un od u0 u1:=h.go λ_ _ z _=>s _ _ z
inductive Q_Look___init__ (K:Frag)(f:Nat->Addr)(vs:List V)(H:Hp)(Q:VK):Prop
 | mk (G:Hp) (o t dx:Addr) (u0_:vs=[.ref o,.ref t]) (u1_:Same G H) (u2_:G o=none) (u3_:H o=some (.ins (f 51) dx [])) (u4_:∀ H' un od u0 u1,Same G H'->LkAt f H' o t un od u0 u1->G u0=none->G u1=none->u0≠u1->H' u0=some (.dT [([],.bl true)])->H' u1=some (.dT [([],.bl true)])->Q .non H'):Q_Look___init__ K f vs H Q
def J4z (K:Frag)(f:Nat->Addr):Sp:=λvs H Q _=>Q_Look___init__ K f vs H Q
theorem J2f (T:Txt K mg f fd):FnOk P w K mg base CX0 1 (f 52000) (fd 52000) ["self","table"] (J4z K f):=by
 walk_at "ok wS J4D"
 ·walk_at "ln"
 ·obtain ⟨G,o,t,dx,rfl,s0,hGo,ho,k⟩:=h
  refine ⟨_,(Ja (J1F (pvl 0) (pvl 1) rfl)
   (Ja (J1F (pvl 0) (J3j (J09 Jl (J15 (JH hr) (Jz J9) JV) (J09 Jl (J15 (JH hr) (Jz J9) JV) J2u)) rfl rfl (cons_ne_nil _ _) (by show 2<=15;decide)) rfl)
   (Je (J1F (pvl 0) (J3j (J09 Jl J0W (J09 Jl J0W J2u)) rfl rfl (cons_ne_nil _ _) (by show 2<=15;decide)) rfl)))),?_⟩
  generalize hD:J4W [(_,J2I _ _),_]=TD;walk_at "dc";refine ⟨_,_,_,ho,T.we.cls,T.wx,by decide,?_⟩;have s1:=s0.set hGo (.ins (f 51) dx (J02 (Str.ofString "table") (V.ref t) []));have ho1:upd H o (.ins (f 51) dx (J02 (Str.ofString "table") (V.ref t) [])) o=some (.ins (f 51) dx (J02 (Str.ofString "table") (V.ref t) [])):=Jd;generalize upd H o (HO.ins (f 51) dx (J02 (Str.ofString "table") (V.ref t) []))=H1 at *;subst hD;refine Jdc λH9 p p1 p3 s19 _ np1 np3 n13 hO g19 g39=>?_;have hp1G:=none_of s1 np1;have hp3G:=none_of s1 np3;have s9:=s1.trans s19;have ho9:=s19 _ _ ho1;obtain ⟨hkO,gp9,eO1,eO2⟩:=hO;refine ⟨_,_,_,ho9,T.we.cls,T.wD,(by show 1<1000;decide),λq hq=>?_⟩;have s10:=s9.set hGo (.ins (f 51) dx (J02 (Str.ofString "unfolded") (V.ref p) (J02 (Str.ofString "table") (V.ref t) [])));have k10:∀ c x,H9 c=some x->(∀ a b d,x≠.ins a b d)->upd H9 o (.ins (f 51) dx (J02 (Str.ofString "unfolded") (V.ref p) (J02 (Str.ofString "table") (V.ref t) []))) c=some x:=λc x z n=>by
   rw [Jj (λe=>n _ _ _ (by rw [e,ho9] at z;exact (zU z).symm))];exact z
  have gp10:=k10 _ _ gp9 (λ_ _ _ z=>nomatch z);have g1a:=k10 _ _ g19 (λ_ _ _ z=>nomatch z);have g3a:=k10 _ _ g39 (λ_ _ _ z=>nomatch z);have ho10:upd H9 o (.ins (f 51) dx (J02 (Str.ofString "unfolded") (V.ref p) (J02 (Str.ofString "table") (V.ref t) []))) o=some (.ins (f 51) dx (J02 (Str.ofString "unfolded") (V.ref p) (J02 (Str.ofString "table") (V.ref t) []))):=Jd;generalize upd H9 o (HO.ins (f 51) dx (J02 (Str.ofString "unfolded") (V.ref p) (J02 (Str.ofString "table") (V.ref t) [])))=H10 at *;clear k10 gp9 g19 g39 ho9;have u:=Same.upd_new hq (HO.dK (J0p [] [(.inr "rows",.non),(.inr "columns",.non)]));refine ⟨Jd,[(.inr "rows",.non),(.inr "columns",.non)],rfl,(by show 2<=15;decide),?_⟩;rw [J7v];have gq:upd H10 q (HO.dK (J0p [] [(.inr "rows",.non),(.inr "columns",.non)])) q=some (HO.dK (J0p [] [(.inr "rows",.non),(.inr "columns",.non)])):=Jd;generalize upd H10 q (HO.dK (J0p [] [(.inr "rows",.non),(.inr "columns",.non)]))=H11 at *;have ho11:=u _ _ ho10;refine ⟨_,_,_,ho11,T.we.cls,T.yT,?_,?_⟩
  ·rw [JaE]
   show 2<1000;decide
  rw [JaE,JdW];have k12:∀ c x,H11 c=some x->(∀ a b d,x≠.ins a b d)->upd H11 o (.ins (f 51) dx (Jfg t p q)) c=some x:=λc x z n=>by
   rw [Jj (λe=>n _ _ _ (by rw [e,ho11] at z;exact (zU z).symm))];exact z
  exact k _ p q p1 p3 ((s10.trans u).set hGo _) ⟨⟨dx,Jd⟩,⟨_,k12 _ _ (u _ _ gp10) (λ_ _ _ z=>nomatch z),eO1,eO2⟩,⟨_,k12 _ _ gq (λ_ _ _ z=>nomatch z),rfl,rfl⟩⟩ hp1G hp3G n13 (k12 _ _ (u _ _ g1a) (λ_ _ _ z=>nomatch z)) (k12 _ _ (u _ _ g3a) (λ_ _ _ z=>nomatch z))
def J65 (kds:List Str)(is:List Nat)(kss:List (List Ji))(ps:List V):Bool:=okP kds is ps&&!(kss.filter (J06 ps)).isEmpty
def J5a (K:Frag)(f:Nat->Addr):Sp:=λvs H Q E=>∃ (t lp:Addr) (sd:Str) (ps:List V) (ns kds:List Str) (is0 is1 is:List Nat) (kss0 kss1 kss:List (List Ji)),vs=[.ref t,.str sd,.ref lp]/\TabAt f H t ns kds is0 is1 kss0 kss1/\Sel sd is0 is1 kss0 kss1 is kss/\kss.length<=100/\(∀ a∈kss,∀ k∈a,okN k)/\H lp=some (.tup ps)/\(∀ v∈ps,Fl v) /\
 (J65 kds is kss ps=true->∀ H',Same H H'->Q (.bl true) H')/\(J65 kds is kss ps=false->∀ H',Same H H'->E (.ref (f 5)) none H')
theorem J2A (T:Txt K mg f fd):FnOk P w K mg base (CXE P w) 7 (f 47) (fd 47) ["table","side","path"] (J5a K f):=by
 refine T.wL.F.okX J5f (λvs H Q E h=>?_) (λcdv A outer s H vs Q E hr h=>?_)
 ·walk_at "ln"
 ·obtain ⟨t,lp,sd,ps,ns,kds,is0,is1,is,kss0,kss1,kss,rfl,hT,hsel,hkl,hko,hp,hfl,k1,k0⟩:=h
  unfold J65 at k1 k0;obtain ⟨dx,lf,v,pd,bx,n0,n1,fg,h0,h1,xs,fvs,gs,hk,a1,_⟩:=id hT;refine ⟨_,(Ja (Jw (J0l (Jcu (J4f J2i (pvl 0) T.wk.cls T.yS (ok_Table_kids T) (hr.mono (by decide)) T.wV.b rfl (pal rfl (pvl 1) (pal rfl (pvl 2) J9)) rfl) (λ_=>rfl)))
   (Je (J61 J2i rfl T.wj.x rfl T.wj.m (by decide) rfl (pal rfl Jl J9)))
   Jp)
   (Je (Jk JV))),?_⟩
  walk_at "dc";refine ⟨_,_,a1,rfl,t,lp,sd,ps,ns,kds,is0,is1,is,kss0,kss1,kss,rfl,hT,hsel,by omega,hko,hp,hfl,λok H1 q ts _ s1 gq tq=>?_,λno H1 s1=>k0 (by rw [no];rfl) H1 s1⟩;rw [ok,Bool.true_and] at k1 k0;have e:ts.isEmpty=(kss.filter (J06 ps)).isEmpty:=by
   generalize kss.filter (J06 ps)=fl at tq;cases tq<;>rfl
  refine ⟨_,.inl ⟨ts,.of gq,rfl⟩,?_⟩;rw [e];cases hE:(kss.filter (J06 ps)).isEmpty with
  | true =>
    rw [zP (by decide)];exact ⟨Jb (by decide),k0 (by rw [hE];rfl) H1 s1⟩
  | false =>
    rw [zO (by decide)];exact k1 (by rw [hE];rfl) H1 s1
def sdU (sd:Str)(u0 u1:Addr):Addr:=if sd="rows" then u0 else u1
structure Lks (f:Nat->Addr)(H:Hp)(o t un od u0 u1:Addr)(sd:Str)(ns kds:List Str)(is0 is1 is:List Nat)(kss0 kss1 kss:List (List Ji)):Prop where
 lk:LkAt f H o t un od u0 u1
 tab:TabAt f H t ns kds is0 is1 kss0 kss1
 sel:Sel sd is0 is1 kss0 kss1 is kss
 le:kss.length<=61
 ok:∀ a∈kss,∀ k∈a,okN k
 hd:∀ a∈kss,okP kds is (a.map nV)=true/\a.length<=is.length/\∀ k∈a,Fl (nV k)
theorem Lks.mono {f:Nat->Addr}{t un od:Addr}{is:List Nat}{kss0 kss1 kss:List (List Ji)}(s:Same H H')(h:Lks f H o t un od u0 u1 sd ns kds is0 is1 is kss0 kss1 kss):Lks f H' o t un od u0 u1 sd ns kds is0 is1 is kss0 kss1 kss:=⟨h.lk.mono s,h.tab.mono s,h.sel,h.le,h.ok,h.hd⟩
theorem Lks.un {f:Nat->Addr}{t un od:Addr}{is:List Nat}{kss0 kss1 kss:List (List Ji)}(h:Lks f H o t un od u0 u1 sd ns kds is0 is1 is kss0 kss1 kss):∃ hk,H un=some (.dK hk)/\Jy hk (.inr sd)=some (.ref (sdU sd u0 u1)):=by
 obtain ⟨hk,h1,h2,h3⟩:=h.lk.un;refine ⟨hk,h1,?_⟩;rcases h.sel with ⟨rfl,_⟩ | ⟨rfl,_⟩
 ·exact h2
 ·exact h3
theorem Lks.od {f:Nat->Addr}{t un od:Addr}{is:List Nat}{kss0 kss1 kss:List (List Ji)}(h:Lks f H o t un od u0 u1 sd ns kds is0 is1 is kss0 kss1 kss):∃ hk,H od=some (.dK hk)/\Jy hk (.inr sd)=some .non:=by
 obtain ⟨hk,h1,h2,h3⟩:=h.lk.od;refine ⟨hk,h1,?_⟩;rcases h.sel with ⟨rfl,_⟩ | ⟨rfl,_⟩
 ·exact h2
 ·exact h3
def Put (u:Addr)(kvs:List (List Ji×V))(H1 H2:Hp):Prop:=H2 u=some (.dT kvs)/\∀ c,c≠u->H2 c=H1 c
theorem Put.upd (H:Hp)(u:Addr)(kvs:List (List Ji×V)):Put u kvs H (upd H u (.dT kvs)):=⟨Jd,λ_ n=>Jj n⟩
def J5e (K:Frag)(f:Nat->Addr):Sp:=λvs H Q E=>∃ (o t un od u0 u1 lp:Addr) (sd:Str) (ps:List V) (ns kds:List Str) (is0 is1 is:List Nat) (kss0 kss1 kss:List (List Ji)) (kvs:List (List Ji×V)),vs=[.ref o,.str sd,.ref lp]/\Lks f H o t un od u0 u1 sd ns kds is0 is1 is kss0 kss1 kss/\H lp=some (.tup ps)/\(∀ v∈ps,Fl v)/\H (sdU sd u0 u1)=some (.dT kvs)/\kvs.length<=1000 /\
 (J65 kds is kss ps=true->∀ H1 H2,Same H H1->Put (sdU sd u0 u1) (JS kvs (ps.map toN) (.bl true)) H1 H2->Q .non H2)/\(J65 kds is kss ps=false->∀ H',Same H H'->E (.ref (f 5)) none H')
theorem J5j (T:Txt K mg f fd):FnOk P w K mg base (CXE P w) 8 (f 52001) (fd 52001) ["self","side","path"] (J5e K f):=by
 refine T.yN.F.okX J5h (λvs H Q E h=>?_) (λcdv A outer s H vs Q E hr h=>?_)
 ·walk_at "ln"
 ·obtain ⟨o,t,un,od,u0,u1,lp,sd,ps,ns,kds,is0,is1,is,kss0,kss1,kss,kvs,rfl,hL,hp,hfl,hu,hkl,k1,k0⟩:=h
  obtain ⟨dx,ho⟩:=hL.lk.o;obtain ⟨hk,hn,hv⟩:=hL.un;have le:=hL.le;refine ⟨_,(Ja (JT (J7R J2i T.wL (J2A T) (hr.mono (by decide)) rfl (by decide) rfl (pal rfl (J0v (pvl 0) rfl) (pal rfl (pvl 1) (pal rfl (pvl 2) J9)))))
   (Je (J1k (JH hr) (JQ (JH hr) (J0v (pvl 0) rfl) (pvl 1) (λ_ _=>rfl)) (pvl 2) JV rfl))),?_⟩
  walk_at "dc";refine ⟨_,_,_,ho,T.we.cls,T.wx,_,rfl,t,lp,sd,ps,ns,kds,is0,is1,is,kss0,kss1,kss,rfl,hL.tab,hL.sel,by omega,hL.ok,hp,hfl,λok H1 s1=>?_,k0⟩;have hp1:=s1 _ _ hp;rw [<- (J4R hfl).1] at hp1;exact ⟨_,_,_,s1 _ _ ho,T.we.cls,T.wD,_,rfl,un,rfl,_,J2E (s1 _ _ hn) hv,_,rfl,_,DPut.t (s1 _ _ hu) hp1 (by rw [sizeLine_eq];omega),k1 ok H1 _ s1 (.upd _ _ _)⟩
theorem J9o {κ:Type}[DecidableEq κ]{kvs:List (κ×V)}{k:κ}(h:Jy kvs k=none):J2D kvs k=kvs:=by
 unfold J2D;unfold Jy at h;rw [Option.map_eq_none_iff,List.find?_eq_none] at h;exact filter_eq_self.mpr λx hx=>zS λe=>h x hx (zS e)
def J7E (K:Frag)(f:Nat->Addr):Sp:=λvs H Q E=>∃ (o t un od u0 u1 lp:Addr) (sd:Str) (ps:List V) (ns kds:List Str) (is0 is1 is:List Nat) (kss0 kss1 kss:List (List Ji)) (kvs:List (List Ji×V)),vs=[.ref o,.str sd,.ref lp]/\Lks f H o t un od u0 u1 sd ns kds is0 is1 is kss0 kss1 kss/\H lp=some (.tup ps)/\(∀ v∈ps,Fl v)/\H (sdU sd u0 u1)=some (.dT kvs) /\
 (J65 kds is kss ps=true->∀ H1 H2,Same H H1->Put (sdU sd u0 u1) (J2D kvs (ps.map toN)) H1 H2->Q .non H2)/\(J65 kds is kss ps=false->∀ H',Same H H'->E (.ref (f 5)) none H')
theorem J81 (T:Txt K mg f fd):FnOk P w K mg base (CXE P w) 8 (f 52002) (fd 52002) ["self","side","path"] (J7E K f):=by
 refine T.yO.F.okX J7L (λvs H Q E h=>?_) (λcdv A outer s H vs Q E hr h=>?_)
 ·walk_at "ln"
 ·obtain ⟨o,t,un,od,u0,u1,lp,sd,ps,ns,kds,is0,is1,is,kss0,kss1,kss,kvs,rfl,hL,hp,hfl,hu,k1,k0⟩:=h
  obtain ⟨dx,ho⟩:=hL.lk.o;obtain ⟨hk,hn,hv⟩:=hL.un;have le:=hL.le;refine ⟨_,(Ja (JT (J7R J2i T.wL (J2A T) (hr.mono (by decide)) rfl (by decide) rfl (pal rfl (J0v (pvl 0) rfl) (pal rfl (pvl 1) (pal rfl (pvl 2) J9)))))
   (Je (JT (J1Q rfl PySem.F.plainAttrs_dict PySem.F.slot_dict_pop PySem.F.type_dict_pop (mt_dpopT (JH hr)) rfl rfl rfl rfl (JQ (JH hr) (J0v (pvl 0) rfl) (pvl 1) (λ_ _=>rfl)) (pal rfl (pvl 2) (pal rfl J0W J9)))))),?_⟩
  walk_at "dc";refine ⟨_,_,_,ho,T.we.cls,T.wx,_,rfl,t,lp,sd,ps,ns,kds,is0,is1,is,kss0,kss1,kss,rfl,hL.tab,hL.sel,by omega,hL.ok,hp,hfl,λok H1 s1=>?_,k0⟩;have hp1:=s1 _ _ hp;rw [<- (J4R hfl).1] at hp1;refine ⟨_,_,_,s1 _ _ ho,T.we.cls,T.wD,_,rfl,un,rfl,_,J2E (s1 _ _ hn) hv,?_⟩;exact ⟨.inr (.inr (.inl ⟨rfl,.inr ⟨kvs,s1 _ _ hu⟩⟩)),_,rfl,kvs,s1 _ _ hu,_,hp1,⟨_,rfl⟩,λv hv=>k1 ok H1 _ s1 (.upd _ _ _),λno=>⟨⟨_,rfl⟩,k1 ok H1 H1 s1 ⟨by rw [J9o no];exact s1 _ _ hu,λ_ _=>rfl⟩⟩⟩
def J8D (K:Frag):Sp:=λvs H Q _=>∃ a b c,vs=[a,b,c,.non]/\Q c H
theorem J97 (T:Txt K mg f fd):FnOk P w K mg base CX0 1 (f 50) (fd 50) ["table","side","kids","by"] (J8D K):=by
 walk_at "ok yo J8L"
 ·walk_at "ln"
 ·obtain ⟨a,b,c,rfl,k⟩:=h
  refine ⟨_,(Ja (Jw (Jo J3W (pvc 3) J0W (Jm _))
   (Je (Jk (pvl 2)))
   Jp)
   Jcv),?_⟩
  walk_at "dc";exact k
theorem Paired.app {α β:Type}{F:α->β->Prop}:∀ {xs:List α} {ys:List β} {xs':List α} {ys':List β},Paired F xs ys->Paired F xs' ys'->Paired F (xs++xs') (ys++ys')
 | _,_,_,_,.nil,h=>h
 | _,_,_,_,.cons r t,h=>.cons r (Paired.app t h)
def shw (kss:List (List Ji))(op:List Ji->Bool):Nat->List Ji->List (List Ji)
 | 0,_=>[]
 | d+1,ks=>ks::if op ks then (kss.filter (J06 (ks.map nV))).flatMap (shw kss op d) else []
theorem JaR {α β:Type}{g:α->List β}{m:Nat}:∀ (l:List α),(∀ a,(g a).length<=m)->(l.flatMap g).length<=l.length * m
 | [],_=>by simp
 | a::l,h=>by
   rw [flatMap_cons,qj,length_cons,Nat.add_mul,Nat.one_mul,Nat.add_comm];exact Nat.add_le_add (JaR l h) (h a)
theorem J4A {kss:List (List Ji)}{op:List Ji->Bool}(h:kss.length<=61):∀ (d:Nat) (ks:List Ji),(shw kss op d ks).length<=62 ^ d
 | 0,_=>by simp [shw]
 | d + 1,ks=>by
   unfold shw;rw [length_cons,Nat.pow_succ];have p:1<=62 ^ d:=Nat.one_le_pow _ _ (by decide)
   split
   ·have a:=JaR (g:=shw kss op d) (kss.filter (J06 (ks.map nV))) (J4A h d)
    have b:=length_filter_le (J06 (ks.map nV)) kss;have c:=Nat.mul_le_mul_right (62 ^ d) (z9 b h);omega
   ·simp
    omega
def J0I (K:Frag)(f:Nat->Addr):Nat->Sp
 | 0=>λ_ _ _ _=>False
 | dp+1=>λvs H Q _=>∃ (o t un od u0 u1 lp:Addr) (sd:Str) (ks:List Ji) (ns kds:List Str) (is0 is1 is:List Nat) (kss0 kss1 kss:List (List Ji)) (kvs:List (List Ji×V)),vs=[.ref o,.str sd,.ref lp]/\Lks f H o t un od u0 u1 sd ns kds is0 is1 is kss0 kss1 kss/\H lp=some (.tup (ks.map nV))/\okP kds is (ks.map nV)=true/\(∀ k∈ks,Fl (nV k))/\is.length+1<=ks.length+(dp+1)/\dp+1<=4/\H (sdU sd u0 u1)=some (.dT kvs) /\
   ∀ H' q ts,H q=none->Same H H'->H' q=some (.lst ts)->TupsV H' ts (shw kss (λk=>(Jy kvs k).isSome) (dp+1) ks)->Q (.ref q) H'
theorem st_Look_shown_from (T:Txt K mg f fd)(dp:Nat)(ih:FnOk P w K mg base CX0 (7+dp) (f 52004) (fd 52004) ["self","side","path"] (J0I K f dp)):FnOk P w K mg base CX0 (7+dp+1) (f 52004) (fd 52004) ["self","side","path"] (J0I K f (dp+1)):=by
 walk_at "ok wT J0o"
 ·walk_at "ln"
 ·obtain ⟨o,t,un,od,u0,u1,lp,sd,ks,ns,kds,is0,is1,is,kss0,kss1,kss,kvs,rfl,hL,hp,hok,hfl,hd,h4,hu,k⟩:=h
  obtain ⟨dx,ho⟩:=hL.lk.o;obtain ⟨hk,hn,hv⟩:=hL.un;obtain ⟨hk2,hn2,hv2⟩:=hL.od;obtain ⟨dt,lf,v,pd,bx,n0,n1,fg,h0,h1,xs,fvs,gs,hkt,at1,_⟩:=id hL.tab;have le:=hL.le;refine ⟨_,(Ja (psl 3 J0o.nd (J0g (pal rfl (pvl 2) J9)))
   (Ja (Jw (J60 (J7S (JH hr) (pvl 2) (JQ (JH hr) (J0v (pvl 0) rfl) (pvl 1) (λ_ _=>rfl))))
   (Je (J0f PassesOwn.never rfl (J0B rfl (Jh T.yo (J97 T) (hr.mono (by omega)) rfl (by decide) rfl (pal rfl (J0v (pvl 0) rfl) (pal rfl (pvl 1) (pal rfl (J4f (JdA rfl) (J0v (pvl 0) rfl) T.wk.cls T.yS (ok_Table_kids T) (hr.mono (by omega)) T.wV.b rfl (pal rfl (pvl 1) (pal rfl (pvl 2) J9)) rfl) (pal rfl (JQ (JH hr) (J0v (pvl 0) rfl) (pvl 1) (λ_ _=>rfl)) J9)))))) (pgl 4 J0o.nd)
   (Je (ps_aug J0o.nd (i:=3) rfl (.inl rfl) (J3i (pvl 0) T.we.cls T.yQ ih (hr.mono (by omega)) T.wT.b .nil J2e (pal rfl (pvl 1) (pal rfl (pvl 4) J9)) rfl rfl rfl) Jef))))
   Jp)
   (Je (Jk (pvl 3))))),?_⟩
  walk_at "dc";refine ⟨Jb (by decide),λp hp0=>?_⟩
  walk_at "nw p hp0 H1 u gp"
  refine ⟨_,_,_,u _ _ ho,T.we.cls,T.wD,_,rfl,un,rfl,_,J2E (u _ _ hn) hv,_,rfl,_,DGet.t (u _ _ hu) (u _ _ hp),?_⟩;unfold shw at k;cases hO:(Jy kvs ks).isSome with
  | false =>
    rw [zO zR];rw [hO,zO zR] at k;exact k H1 p _ hp0 u gp (.cons ⟨lp,rfl,u _ _ hp⟩ .nil)
  | true =>
    rw [zP rfl];rw [hO,zP rfl] at k;refine J0h ?_;walk_at "dc";refine ⟨_,_,_,u _ _ ho,T.we.cls,T.wx,_,rfl,_,_,_,u _ _ ho,T.we.cls,T.wx,_,rfl,?_⟩;have hL1:=hL.mono u;have hflv:∀ v∈ks.map nV,Fl v:=λv hv=>by
     obtain ⟨k,hk,rfl⟩:=qy.mp hv;exact hfl k hk
    refine ⟨t,rfl,_,_,u _ _ at1,rfl,t,lp,sd,_,ns,kds,is0,is1,is,kss0,kss1,kss,rfl,hL1.tab,hL.sel,by omega,hL.ok,u _ _ hp,hflv,λ_ H2 kq ts nk s2 gk tk=>?_,λno=>by rw [hok] at no;cases no⟩;have S2:=u.trans s2;refine ⟨_,_,_,S2 _ _ ho,T.we.cls,T.yT,_,rfl,od,rfl,_,J2E (S2 _ _ hn2) hv2,_,_,_,rfl,kq,rfl,⟨_,.of gk⟩,?_⟩;have nkp:kq≠p:=λe=>by rw [e,gp] at nk;cases nk
    have hfs:∀ a∈kss.filter (J06 (ks.map nV)),a∈kss/\a.length=ks.length+1:=λa ha=>by
     obtain ⟨h1,h2⟩:=mem_filter.mp ha;unfold J06 at h2;rw [Bool.and_eq_true,decide_eq_true_eq,qe] at h2;exact ⟨h1,h2.1⟩
    have lf:=z9 (length_filter_le (J06 (ks.map nV)) kss) le;generalize kss.filter (J06 (ks.map nV))=fl at *;have hpw:62 ^ dp * 62<=14776336:=by
     have:=Nat.pow_le_pow_right (show 0<62 by decide) (show dp<=3 by omega);omega
    have ltk:=Paired.length tk;refine ForW.of (JC (xs:=ts)) (λj σ H'=>(∃ v4,σ=[some (V.ref o),some (V.str sd),some (V.ref lp),some (V.ref p),v4])/\Same H H'/\H' kq=some (.lst ts)/\TupsV H' ts fl/\∃ ys,H' p=some (.lst ys)/\TupsV H' ys (ks::(fl.take j).flatMap (shw kss (λk=>(Jy kvs k).isSome) dp))) ⟨⟨none,rfl⟩,S2,gk,tk,_,s2 _ _ gp,.cons ⟨lp,rfl,S2 _ _ hp⟩ .nil⟩ (λ_ _ _ _ q=>.of q.2.2.1) ?_ ?_
    ·rintro j x σ H3 hx ⟨⟨v4,rfl⟩,s3,gk3,tk3,ys,gp3,ty⟩
     obtain ⟨a,ha,b,rfl,hb⟩:=Paired.ix tk3 hx;obtain ⟨a1,a2⟩:=hfs a (qi ha);have hL3:=hL.mono s3;obtain ⟨d1,d2,d3⟩:=hL.hd a a1;obtain ⟨dp,rfl⟩:∃ m,dp=m+1:=⟨dp - 1,by omega⟩;simp only [JN];walk_at "dc";refine ⟨_,_,s3 _ _ ho,rfl,o,t,un,od,u0,u1,b,sd,a,ns,kds,is0,is1,is,kss0,kss1,kss,kvs,rfl,hL3,hb,d1,d3,by omega,by omega,s3 _ _ hu,λH4 q zs nq s4 gq tz=>?_⟩;have gp4:=s4 _ _ gp3;refine ⟨q,rfl,ys,gp4,zs,gq,?_,⟨_,rfl⟩,(s3.trans s4).set hp0 _,?_,TupsV.put (tk3.mono s4) gp4 (λ_ z=>nomatch z),_,Jd,?_⟩
     ·have l1:=Paired.length ty
      have l2:=Paired.length tz;have l3:=JaR (g:=shw kss (λk=>(Jy kvs k).isSome) (dp+1)) (fl.take j) (J4A le (dp+1));have l4:=J4A (op:=λk=>(Jy kvs k).isSome) le (dp+1) a;have l5:=(qd.mp ha).1;rw [qk,Nat.min_eq_left (by omega)] at l3;have l6:=Nat.mul_le_mul_right (62 ^ (dp+1)) (show j+1<=61 by omega);rw [length_cons] at l1;rw [sizeLine_eq,l1,l2];have l7:(j+1) * 62 ^ (dp+1)=j * 62 ^ (dp+1)+62 ^ (dp+1):=Nat.succ_mul _ _;omega
     ·rw [Jj nkp]
      exact s4 _ _ gk3
     ·rw [JF ha,flatMap_append,flatMap_singleton]
      exact TupsV.put (Paired.app (ty.mono s4) tz) gp4 (λ_ z=>nomatch z)
    ·rintro σ H3 ⟨⟨v4,rfl⟩,s3,gk3,tk3,ys,gp3,ty⟩
     walk_at "dc";rw [ltk,qr] at ty;exact k H3 p ys hp0 s3 gp3 ty
theorem J1H (T:Txt K mg f fd):∀ dp:Nat,FnOk P w K mg base CX0 (7+dp) (f 52004) (fd 52004) ["self","side","path"] (J0I K f dp)
 | 0=>⟨λ_ _ _ _ h=>qa h,λ_ _ _ _ _ _ _ _ _ _ _ _ _ h=>qa h⟩
 | dp+1=>st_Look_shown_from T dp (J1H T dp)
def J3C (_:Program)(_:World)(K:Frag)(f:Nat->Addr):Sp:=λvs H Q _=>∃ (o t un od u0 u1:Addr) (sd:Str) (ns kds:List Str) (is0 is1 is:List Nat) (kss0 kss1 kss:List (List Ji)) (kvs:List (List Ji×V)),vs=[.ref o,.str sd]/\Lks f H o t un od u0 u1 sd ns kds is0 is1 is kss0 kss1 kss/\is.length<=3/\H (sdU sd u0 u1)=some (.dT kvs) /\
 ∀ H' q ts,H q=none->Same H H'->H' q=some (.lst ts)->TupsV H' ts (shw kss (λk=>(Jy kvs k).isSome) 4 [])->Q (.ref q) H'
theorem J3H (T:Txt K mg f fd):FnOk P w K mg base CX0 12 (f 52005) (fd 52005) ["self","side"] (J3C P w K f):=by
 walk_at "ok wU J6E"
 ·walk_at "ln"
 ·obtain ⟨o,t,un,od,u0,u1,sd,ns,kds,is0,is1,is,kss0,kss1,kss,kvs,rfl,hL,h3,hu,k⟩:=h
  obtain ⟨dx,ho⟩:=hL.lk.o;refine ⟨_,(Je (Jk (J3i (pvl 0) T.we.cls T.yQ (J1H T 4) (hr.mono (by decide)) T.wT.b .nil J2e (pal rfl (pvl 1) (pal rfl (Jz J9) J9)) rfl rfl rfl))),?_⟩;walk_at "dc";refine ⟨_,_,ho,rfl,Jb (by decide),λp hp=>?_⟩
  walk_at "nw p hp H1 u gp"
  exact ⟨o,t,un,od,u0,u1,p,sd,[],ns,kds,is0,is1,is,kss0,kss1,kss,kvs,rfl,hL.mono u,gp,rfl,(λ_ z=>nomatch z),(by show is.length+1<=0+4;omega),(by decide),u _ _ hu,λH2 q ts nq s2 gq tq=>k H2 q ts (none_of u nq) (u.trans s2) gq tq⟩
def J7d (ns:List Int)(k:Int):Int:=if ns.length=0 then 0 else ns.getD (k % ns.length).toNat 0
def J7O (k:Int):Int:=([10007,10009,10037,10039,10061,10067,10069]:List Int).getD (k % 7).toNat 1
theorem Jcz {k:Int}(h:0<=k):∃ j:Nat,k % 7=(j:Int)/\([V.int 10007,V.int 10009,V.int 10037,V.int 10039,V.int 10061,V.int 10067,V.int 10069]:List V)[j]?=some (.int (J7O k))/\0<J7O k:=by
 obtain ⟨j,e,l⟩:∃ j:Nat,k % 7=(j:Int)/\j<7:=⟨(k % 7).toNat,by omega,by omega⟩;refine ⟨j,e,?_⟩;unfold J7O;rw [e,Int.toNat_natCast]
 match j,l with
 | 0,_ | 1,_ | 2,_ | 3,_ | 4,_ | 5,_ | 6,_=>exact ⟨rfl,by decide⟩
def drw (ns:List Int)(k m:Int):Int:=(J7d ns k % 999983+k * k+3 * k) * 48271 % J7O k % m
theorem J33 {ns:List Int}{k m:Int}(h:0<m):0<=drw ns k m/\drw ns k m<m:=⟨zX _ (by omega),zW _ h⟩
theorem J0M {ns:List Int}{k:Int}(h:0<m):∃ i:Nat,drw ns k (m:Int)=(i:Int)/\i<m:=by
 have:=J33 (ns:=ns) (k:=k) (m:=(m:Int)) (by omega);exact ⟨(drw ns k m).toNat,by omega,by omega⟩
inductive Q_l_cell (K:Frag)(vs:List V)(H:Hp)(Q:VK):Prop
 | mk (a:Addr) (ns:List Int) (k:Int) (u0_:vs=[.ref a,.int k]) (u1_:SqL K H a (ns.map V.int)) (u2_:0<=k) (u3_:Q (.int (J7d ns k)) H):Q_l_cell K vs H Q
def Jbc (K:Frag):Sp:=λvs H Q _=>Q_l_cell K vs H Q
theorem J74 (T:Txt K mg f fd):FnOk P w K mg base CX0 1 (f 64) (fd 64) ["_law_script","_law_k"] (Jbc K):=by
 walk_at "ok wM Jbg"
 ·walk_at "ln"
 ·obtain ⟨a,ns,i,rfl,hs,h0,k⟩:=h
  unfold J7d at k;refine ⟨_,(Ja (Jw (Jo JE (Jt (JW rfl) T.wa JA rfl (by decide) (by decide) rfl (pal rfl (pvl 0) J9)) Jc (Jm _))
   (Je (Jk Jc))
   Jp)
   (Je (Jk (Jn (J05 rfl) (pvl 0) (Jq J2W (pvl 1) (Jt (JW rfl) T.wa JA rfl (by decide) (by decide) rfl (pal rfl (pvl 0) J9))) (λ_ _=>rfl))))),?_⟩
  walk_at "dl";refine ⟨_,.inl hs,?_⟩;rw [qe];by_cases c:ns.length=0
  ·rw [zP c] at k
   rw [zP (by omega)];exact k
  ·rw [zO c] at k
   rw [zO (by omega)];refine ⟨_,.inl hs,?_⟩;rw [qe];refine ⟨by omega,?_⟩;have b1:=zX i (show (ns.length:Int)≠0 by omega);have b2:=zW i (show (0:Int)<ns.length by omega);obtain ⟨j,hj'⟩:∃ j:Nat,i % (ns.length:Int)=(j:Int):=⟨(i % (ns.length:Int)).toNat,by omega⟩;rw [hj'] at b2 k ⊢;have hj:j<ns.length:=by omega
   rw [Int.toNat_natCast,qh,qc hj] at k;exact ⟨a,_,_,.int ns[j],rfl,rfl,hs,Jg (by rw [qq,qc hj];rfl),k⟩
inductive Q_l_draw (K:Frag)(vs:List V)(H:Hp)(Q:VK):Prop
 | mk (a:Addr) (ns:List Int) (k m:Int) (u0_:vs=[.ref a,.int k,.int m]) (u1_:SqL K H a (ns.map V.int)) (u2_:0<=k) (u3_:k<100000) (u4_:0<m) (u5_:∀ H',Same H H'->Q (.int (drw ns k m)) H'):Q_l_draw K vs H Q
def Jba (K:Frag):Sp:=λvs H Q _=>Q_l_draw K vs H Q
theorem Js (T:Txt K mg f fd):FnOk P w K mg base CX0 2 (f 65) (fd 65) ["_law_script","_law_k","_law_many"] (Jba K):=by
 walk_at "ok wb J6X"
 ·walk_at "ln"
 ·obtain ⟨a,ns,i,m,rfl,hs,h0,h1,hm,k⟩:=h
  unfold drw at k;refine ⟨_,(Ja (psl 3 J6X.nd (Jn (J05 rfl) (J0g (pal rfl Jc (pal rfl Jc (pal rfl Jc (pal rfl Jc (pal rfl Jc (pal rfl Jc (pal rfl Jc J9)))))))) (Jq J2W (pvl 1) Jc) (λ_ _=>rfl)))
   (Je (Jk (Jq J2W (Jq J2W (Jq J1G (Jq Jx (Jq Jx (Jq J2W (Jh T.wM (J74 T) (hr.mono (by decide)) rfl (by decide) rfl (pal rfl (pvl 0) (pal rfl (pvl 1) J9))) Jc) (Jq J1G (pvl 1) (pvl 1))) (Jq J1G Jc (pvl 1))) Jc) (pvl 3)) (pvl 2))))),?_⟩
  walk_at "dl";refine ⟨Jb (by decide),λp hp=>?_⟩;have u:=Same.upd_new hp (HO.lst [V.int 10007,V.int 10009,V.int 10037,V.int 10039,V.int 10061,V.int 10067,V.int 10069]);obtain ⟨j,e1,e2,e3⟩:=Jcz h0;rw [e1];exact ⟨p,_,_,_,rfl,rfl,.of Jd,Jg e2,a,ns,i,rfl,u.seq hs,h0,_,rfl,.inl ⟨by omega,by omega⟩,.inl ⟨by omega,by omega⟩,.inr ⟨by decide,by decide⟩,_,rfl,e3,hm,k _ u⟩
def chA (ns:List Int)(sg:Str)(k:Int):Nat:=ch sg (drw ns k sg.length)
def J1Y (ns:List Int)(sg:Str)(b:Int):List Nat:=(List.range 12).map λ(j:Nat)=>chA ns sg (b+(0+(j:Int)))
def txA (ns:List Int)(sg:Str)(b way:Int)(size place k:Nat):List Nat :=
 if way=2 then (J1Y ns sg (b+4+12 * (0+(k:Int)) * 0)).take (k+1) else ((J1Y ns sg (b+4+12 * (0+(k:Int)) * (if way=1 then 1 else 0))).set place (ch sg (drw ns (b+3) sg.length+(0+(k:Int))))).take size
theorem J1C {ns:List Int}{b:Int}:(J1Y ns sg b).length=12:=by unfold J1Y;rw [qe,qC]
theorem ixD {ns:List Int}{k:Int}(h1:1<=sg.length)(h36:sg.length<=36)(q:Q (sgn (chA ns sg k)) H):JeW (.str sg) (.int (drw ns k sg.length)) H Q:=by
 have b:=J33 (ns:=ns) (k:=k) (m:=(sg.length:Int)) (by omega);refine Jd0 (Jb (by omega)) b.1 b.2 λc hc=>?_;have e:=J6k h1 (drw ns k sg.length);rw [Int.emod_eq_of_lt b.1 b.2] at e;obtain rfl:c=chA ns sg k:=zU (hc.symm.trans e);exact q
inductive Q_l_texts (K:Frag)(vs:List V)(H:Hp)(Q:VK):Prop
 | mk (a:Addr) (ns:List Int) (b:Int) (n:Nat) (sg:Str) (u0_:vs=[.ref a,.int b,.int n,.str sg]) (u1_:SqL K H a (ns.map V.int)) (u2_:0<=b) (u3_:b<10000) (u4_:n<=12) (u5_:1<=sg.length) (u6_:sg.length<=36) (u7_:∀ H' q (way:Int) (size place:Nat),1<=size->size<=12->place<size->Same H H'->H q=none->H' q=some (.lst ((List.range n).map λk=>V.str ⟨(txA ns sg b way size place k).toArray⟩))->Q (.ref q) H'):Q_l_texts K vs H Q
def J9J (K:Frag):Sp:=λvs H Q _=>Q_l_texts K vs H Q
theorem ok_l_texts (T:Txt K mg f fd):FnOk P w K mg base CX0 3 (f 66) (fd 66) ["_law_script","_law_at","_law_count","_law_signs"] (J9J K):=by
 walk_at "ok wN J0y"
 ·walk_at "ln"
 ·obtain ⟨a,ns,b,n,sg,rfl,hs,b0,b1,hn,l1,l36,k⟩:=h
  refine ⟨_,(Ja (psl 4 J0y.nd (Jh T.wb (Js T) (hr.mono (by decide)) rfl (by decide) rfl (pal rfl (pvc 0) (pal rfl (pvl 1) (pal rfl Jc J9)))))
   (Ja (psl 5 J0y.nd (Jq Jx Jc (Jh T.wb (Js T) (hr.mono (by decide)) rfl (by decide) rfl (pal rfl (pvc 0) (pal rfl (Jq Jx (pvl 1) Jc) (pal rfl Jc J9))))))
   (Ja (psl 6 J0y.nd (Jh T.wb (Js T) (hr.mono (by decide)) rfl (by decide) rfl (pal rfl (pvc 0) (pal rfl (Jq Jx (pvl 1) Jc) (pal rfl (pvl 5) J9)))))
   (Ja (psl 7 J0y.nd (J0g J9))
   (Ja (J0f PassesOwn.never rfl (J0m rfl T.wl (pal rfl (pvl 2) J9)) (pgl 8 J0y.nd)
   (Ja (psc 9 J0y.nd (Jq Jx (Jq Jx (pvl 1) Jc) (Jq J1G (Jq J1G Jc (pvl 8)) (J0z J3u T.wq J4T rfl (by decide) (by decide) rfl (pal rfl (JL JE (pvl 4) Jc (Jm _)) J9)))))
   (Ja (J5r ["_law_j"] J3l rfl (show CompSc _ (Jf J3b) J3l J3l from Jv (by decide +kernel)) J0y.nd (i:=10) rfl rfl (J0m rfl T.wl (pal rfl Jc J9)) (λ_ _ _ _ _=>(pgl 0 (show ("_law_j"::J3l:List Str).Nodup by decide +kernel))) (λ_ _ _ _ _=>JI) (λ_ _ _ _ _=>(Jn JcZ (pvc 4) (Jh T.wb (Js T) (hr.mono (by decide)) rfl (by decide) rfl (pal rfl (pvc 1) (pal rfl (Jq Jx (pvc 10) (pvl 0)) (pal rfl (Jt J1q T.wa JA rfl (by decide) (by decide) rfl (pal rfl (pvc 4) J9)) J9)))) (λ_ _=>rfl))))
   (Je (Jw (Jo JE (pvl 4) Jc (Jm _))
   (Je (JT (J1Q rfl qJ PySem.F.slot_list_append PySem.F.type_list_append J0K rfl rfl rfl rfl (pvl 7) (pal rfl (J1Q rfl PySem.F.plainAttrs_str PySem.F.slot_str_join PySem.F.type_str_join (JcW rfl) rfl rfl rfl rfl Jl (pal rfl (J0s (J52 rfl) (pvl 10) J0Q (J0D (Jq Jx (pvl 8) Jc))) J9)) J9))))
   (Ja (Jcx (Jn JcZ (pvc 3) (Jq J2W (Jq Jx (Jh T.wb (Js T) (hr.mono (by decide)) rfl (by decide) rfl (pal rfl (pvc 0) (pal rfl (Jq Jx (pvl 1) Jc) (pal rfl (Jt J1q T.wa JA rfl (by decide) (by decide) rfl (pal rfl (pvc 3) J9)) J9)))) (pvl 8)) (Jt J1q T.wa JA rfl (by decide) (by decide) rfl (pal rfl (pvc 3) J9))) (λ_ _=>rfl)) (Jf6 (pvl 10) (pvl 6) Jcf))
   (Je (JT (J1Q rfl qJ PySem.F.slot_list_append PySem.F.type_list_append J0K rfl rfl rfl rfl (pvl 7) (pal rfl (J1Q rfl PySem.F.plainAttrs_str PySem.F.slot_str_join PySem.F.type_str_join (JcW rfl) rfl rfl rfl rfl Jl (pal rfl (J0s (J52 rfl) (pvl 10) J0Q (J0D (pvl 5))) J9)) J9))))))))))
   (Je (Jk (pvl 7)))))))),?_⟩
  walk_at "dl";have w1:=J33 (ns:=ns) (k:=b) (m:=3) (by decide);obtain ⟨z,ez,hz⟩:=J0M (ns:=ns) (k:=b+1) (m:=12) (by decide);obtain ⟨pl,ep,hpl⟩:=J0M (ns:=ns) (k:=b+2) (m:=z+1) (by omega);rw [show ((z+1:Nat):Int)=1+(z:Int) by omega] at ep;refine ⟨a,ns,b,3,rfl,hs,b0,by omega,by decide,λH1 s1=>⟨a,ns,b+1,12,rfl,s1.seq hs,by omega,by omega,by decide,λH2 s2=>?_⟩⟩;rw [show drw ns (b+1) 12=(z:Int) from ez];refine ⟨_,rfl,a,ns,b+2,_,rfl,(s1.trans s2).seq hs,by omega,by omega,by omega,λH3 s3=>⟨Jb (by decide),λp hp=>?_⟩⟩;rw [ep];have S3:=(s1.trans s2).trans s3;have hpH:=none_of S3 hp
  walk_at "nw p hp H4 u_ g4"
  have s4:=S3.trans u_;generalize drw ns b 3=way at *;clear ez ep;refine J0h ?_;walk_at "dl";refine ⟨by omega,by omega,?_⟩;rw [Int.toNat_natCast];refine ForW.of J07 (λj σ H'=>(∃ v8 v9 v10,σ=[some (V.ref a),some (V.int b),some (V.int (n:Int)),some (V.str sg),some (V.int way),some (V.int (1+(z:Int))),some (V.int (pl:Int)),some (V.ref p),v8,v9,v10])/\H' p=some (.lst ((List.range j).map λk=>V.str ⟨(txA ns sg b way (z+1) pl k).toArray⟩))/\Same H H') ⟨⟨none,none,none,rfl⟩,g4,s4⟩ (λ_ _ _ _ _=>trivial) ?_ ?_
  ·rintro j x σ H5 hx ⟨⟨v8,v9,v10,rfl⟩,g5,s5⟩
   obtain ⟨hj,rfl⟩:=J0e hx;simp only [JN];walk_at "dl";have hS5:=s5.seq hs;have hb:∃ bs:Int,b+4+12 * (0+(j:Int)) * (if way=1 then 1 else 0)=bs/\0<=bs/\bs<20000/\CMul (12 * (0+(j:Int))) (if way=1 then 1 else 0):=by
    by_cases c:way=1
    ·rw [zP c]
     exact ⟨_,rfl,by omega,by omega,.inl ⟨by omega,by omega⟩⟩
    ·rw [zO c]
     exact ⟨_,rfl,by omega,by omega,.inl ⟨by omega,by omega⟩⟩
   obtain ⟨bs,ebs,c0,c1,cm⟩:=hb;rw [ebs];refine ⟨.inl ⟨by omega,by omega⟩,cm,by decide,by decide,?_⟩;refine comp_of (as:=List.range 12) (g:=λi=>V.int (0+(i:Int))) J07 (Jb (by decide)) (λ_ _=>trivial) (λ_=>true) (λi=>sgn (chA ns sg (bs+(0+(i:Int))))) (λ_ H1 Q _ _ q=>q H1 (Same.refl _)) (λi H6 Q hi _ t6 q=>?_) (λH6 s6 D hD=>?_)
   ·have hi:=mem_range.mp hi
    walk_at "dl";exact ⟨Jb (by omega),a,ns,_,_,rfl,t6.seq hS5,by omega,by omega,by omega,λH7 s7=>ixD l1 l36 (q H7 s7)⟩
   ·rw [J0i,show (List.range 12).map (λ(i:Nat)=>sgn (chA ns sg (bs+(0+(i:Int)))))=(J1Y ns sg bs).map sgn by unfold J1Y;rw [map_map];rfl]
    have hrl:=J1C (ns:=ns) (sg:=sg) (b:=bs);have s7:=s6.new hD (HO.lst ((J1Y ns sg bs).map sgn));have g7:upd H6 D (HO.lst ((J1Y ns sg bs).map sgn)) D=some (.lst ((J1Y ns sg bs).map sgn)):=Jd;have nDp:D≠p:=λe=>by rw [e,s6 _ _ g5] at hD;cases hD
    have hDH:=none_of (s5.trans s6) hD;generalize upd H6 D (HO.lst ((J1Y ns sg bs).map sgn))=H7 at *;have etx:∀ q,txA ns sg b way (z+1) pl j=q->(List.range (j+1)).map (λk=>V.str ⟨(txA ns sg b way (z+1) pl k).toArray⟩)=(List.range j).map (λk=>V.str ⟨(txA ns sg b way (z+1) pl k).toArray⟩)++[V.str ⟨q.toArray⟩]:=λq e=>by rw [range_succ,qt,<- e];rfl
    have hlj:((List.range j).map λk=>V.str ⟨(txA ns sg b way (z+1) pl k).toArray⟩).length<sizeLine:=by rw [qe,qC,sizeLine_eq];omega
    by_cases hw:way=2
    ·rw [zP hw]
     have e1:txA ns sg b way (z+1) pl j=(J1Y ns sg bs).take (j+1):=by
      unfold txA;rw [zP hw,<- ebs,zO (show ¬ way=1 by omega)]
     refine ⟨.inl ⟨rfl,_,.of (s7 _ _ g5)⟩,rfl,_,.of g7,λp3 hp3=>?_⟩;have u8:=Same.upd_new hp3 (HO.lst (((J1Y ns sg bs).take (j+1)).map sgn));rw [show (0+(j:Int)+1)=((j+1:Nat):Int) by omega,J34,<- map_take];refine J9f (.of Jd) (by rw [qk];omega) ⟨p,_,_,rfl,rfl,u8 _ _ (s7 _ _ g5),hlj,⟨_,rfl⟩,?_,(((s5.trans s7).trans u8).set hpH _)⟩;rw [Jd,etx _ e1]
    ·rw [zO hw]
     have e1:txA ns sg b way (z+1) pl j=((J1Y ns sg bs).set pl (ch sg (drw ns (b+3) sg.length+(0+(j:Int))))).take (z+1):=by
      unfold txA;rw [zO hw,ebs]
     refine ⟨Jb (by omega),a,ns,b+3,_,rfl,(s5.trans s7).seq hs,by omega,by omega,by omega,λH8 s8=>⟨_,rfl,Jb (by omega),by omega,?_⟩⟩;refine Jd0 (Jb (by omega)) (zX _ (by omega)) (zW _ (by omega)) λc hc=>?_;obtain rfl:c=ch sg (drw ns (b+3) sg.length+(0+(j:Int))):=zU (hc.symm.trans (J6k l1 _));generalize ch sg (drw ns (b+3) sg.length+(0+(j:Int)))=cc at *;have g8:=s8 _ _ g7;have S8:=s5.trans (s7.trans s8);refine ⟨D,_,_,pl,rfl,rfl,g8,by rw [qe,hrl];unfold ixN;rw [zP (by omega),zP (by omega)];rfl,?_⟩;have s9:=S8.set hDH (HO.lst (((J1Y ns sg bs).map sgn).set pl (sgn cc)));have g9:upd H8 D (HO.lst (((J1Y ns sg bs).map sgn).set pl (sgn cc))) D=some (.lst (((J1Y ns sg bs).map sgn).set pl (sgn cc))):=Jd;have gp9:upd H8 D (HO.lst (((J1Y ns sg bs).map sgn).set pl (sgn cc))) p=some (.lst ((List.range j).map λk=>V.str ⟨(txA ns sg b way (z+1) pl k).toArray⟩)):=by rw [Jj (Ne.symm nDp)];exact s8 _ _ (s7 _ _ g5)
     rw [<- map_set] at g9 gp9 s9 ⊢;generalize upd H8 D (HO.lst (((J1Y ns sg bs).set pl cc).map sgn))=H9 at *;refine ⟨.inl ⟨rfl,_,.of gp9⟩,rfl,_,.of g9,λp3 hp3=>?_⟩;have u8:=Same.upd_new hp3 (HO.lst ((((J1Y ns sg bs).set pl cc).take (z+1)).map sgn));rw [show (1+(z:Int))=((z+1:Nat):Int) by omega,J34,<- map_take];refine J9f (.of Jd) (by rw [qk,length_set];omega) ⟨p,_,_,rfl,rfl,u8 _ _ gp9,hlj,⟨_,rfl⟩,?_,((s9.trans u8).set hpH _)⟩;rw [Jd,etx _ e1]
  ·rintro σ H5 ⟨⟨v8,v9,v10,rfl⟩,g5,s5⟩
   rw [JK] at g5;walk_at "dl";exact k H5 p way (z+1) pl (by omega) (by omega) (by omega) s5 hpH g5
theorem Jaz {ns:List Int}{b:Int}(h:1<=sg.length):∀ c∈J1Y ns sg b,c∈sg.cps.toList:=λc hc=>by
 unfold J1Y at hc;obtain ⟨i,_,rfl⟩:=qy.mp hc;exact Jdj h _
theorem Jeu {ns:List Int}{b way:Int}{size place k:Nat}(h:1<=sg.length)(s1:1<=size)(s12:size<=12)(hk:k<12):1<=(txA ns sg b way size place k).length/\(txA ns sg b way size place k).length<=12/\∀ c∈txA ns sg b way size place k,c∈sg.cps.toList:=by
 unfold txA
 split
 ·rw [qk,J1C]
  exact ⟨by omega,by omega,λc hc=>Jaz h c (mem_of_mem_take hc)⟩
 ·rw [qk,length_set,J1C]
  refine ⟨by omega,by omega,λc hc=>?_⟩;rcases mem_or_eq_of_mem_set (mem_of_mem_take hc) with h1 | rfl
  ·exact Jaz h c h1
  ·exact Jdj h _
theorem JfA {d:Int}(hn:sg.cps.toList.Nodup)(h:1<=sg.length)(hi:i<sg.length)(hj:j<sg.length)(e:ch sg (d+(0+(i:Int)))=ch sg (d+(0+(j:Int)))):i=j:=by
 have e1:=J6k h (d+(0+(i:Int)));have e2:=J6k h (d+(0+(j:Int)));rw [e] at e1;have hl:=Jeb sg;have b1:=zX (d+(0+(i:Int))) (show (sg.length:Int)≠0 by omega);have b2:=zX (d+(0+(j:Int))) (show (sg.length:Int)≠0 by omega);have b3:=zW (d+(0+(i:Int))) (show (0:Int)<sg.length by omega);have e3:=(List.getElem?_inj (by rw [hl];omega) hn).mp (e1.trans e2.symm);have e4:(d+(0+(i:Int))) % (sg.length:Int)=(d+(0+(j:Int))) % (sg.length:Int):=by omega
 have e5:=Int.emod_emod_of_dvd (d+(0+(i:Int)) - (d+(0+(j:Int)))) (Int.dvd_refl (sg.length:Int));have e6:(d+(0+(i:Int)) - (d+(0+(j:Int)))) % (sg.length:Int)=0:=by rw [Int.sub_emod,e4,Int.sub_self,Int.zero_emod]
 rw [show d+(0+(i:Int)) - (d+(0+(j:Int)))=(i:Int) - j by omega] at e6;obtain ⟨q,hq⟩:=Int.dvd_of_emod_eq_zero e6;have h0:q=0:=by
  rcases Int.lt_trichotomy q 0 with c | c | c
  ·have:=Int.mul_le_mul_of_nonneg_left (show q<=-1 by omega) (show (0:Int)<=sg.length by omega)
   omega
  ·exact c
  ·have:=Int.mul_le_mul_of_nonneg_left (show 1<=q by omega) (show (0:Int)<=sg.length by omega)
   omega
 rw [h0,Int.mul_zero] at hq;omega
theorem JfL {ns:List Int}{b way:Int}{size place:Nat}(hn:sg.cps.toList.Nodup)(h:1<=sg.length)(s12:size<=12)(hp:place<size)(n12:n<=12)(nl:n<=sg.length):((List.range n).map λk=>(⟨(txA ns sg b way size place k).toArray⟩:Str)).Nodup:=by
 refine J5k λi j hi hj e=>?_;have e:txA ns sg b way size place i=txA ns sg b way size place j:=by
  injection e with e
  injection e
 unfold txA at e;by_cases c:way=2
 ·rw [zP c,zP c] at e
  have:=congrArg List.length e;rw [qk,qk,J1C,J1C] at this;omega
 ·rw [zO c,zO c] at e
  have:=congrArg (λl=>l[place]?) e;simp only [List.getElem?_take,zP hp] at this;rw [List.getElem?_set_self (by rw [J1C];omega),List.getElem?_set_self (by rw [J1C];omega)] at this;exact JfA hn h (by omega) (by omega) (zU this)
theorem Jfd:J00.cps.toList.Nodup:=by decide +kernel
theorem JeL {K:Frag}{ns:List Int}{k:Int}(g:H p=some (.lst [V.str (Str.ofString "word"),V.str (Str.ofString "number")])):∃ kd:Str,(∀ Q:VK,Q (.str kd) H->Ja0 K (.ref p) (.int (drw ns k 2)) H Q)/\(kd=JO\/kd=J1I):=by
 have b:=J33 (ns:=ns) (k:=k) (m:=2) (by decide);rcases (by omega:drw ns k 2=0\/drw ns k 2=1) with e | e
 ·rw [e]
  exact ⟨_,λQ q=>⟨p,_,_,_,rfl,rfl,.of g,Jg (j:=0) rfl,q⟩,.inl rfl⟩
 ·rw [e]
  exact ⟨_,λQ q=>⟨p,_,_,_,rfl,rfl,.of g,Jg (j:=1) rfl,q⟩,.inr rfl⟩
def J8A (K:Frag):Sp:=λvs H Q _=>∃ (a:Addr) (is:List Int),vs=[.ref a]/\SqL K H a (is.map V.int) /\
 ∀ H' q xs ns kds,Same H H'->H q=none->H' q=some (.lst xs)->FldsK H' xs ns kds->(∀ n∈ns,Nam n)->(∀ kd∈kds,kd=JO\/kd=J1I)->1<=xs.length->xs.length<=8->Q (.ref q) H'
theorem ok_l_fields (T:Txt K mg f fd):FnOk P w K mg base CX0 4 (f 67) (fd 67) ["_law_script"] (J8A K):=by
 walk_at "ok yw J1M"
 ·walk_at "ln"
 ·obtain ⟨a,is,rfl,hs,k⟩:=h
  refine ⟨_,(Ja (psl 1 J1M.nd Jl)
   (Ja (psl 2 J1M.nd (Jq Jx Jc (Jh T.wb (Js T) (hr.mono (by decide)) rfl (by decide) rfl (pal rfl (pvc 0) (pal rfl Jc (pal rfl Jc J9))))))
   (Ja (psc 3 J1M.nd (Jh T.wN (ok_l_texts T) (hr.mono (by decide)) rfl (by decide) rfl (pal rfl (pvc 0) (pal rfl Jc (pal rfl (pvl 2) (pal rfl (pvl 1) J9))))))
   (Je (Jk (JJ ["_law_k"] J2w rfl (show CompSc _ (Jf J2n) J2w J2w from Jv (by decide +kernel)) (J0m rfl T.wl (pal rfl (pvl 2) J9)) (λ_ _ _ _ _=>(pgl 0 (show ("_law_k"::J2w:List Str).Nodup by decide +kernel))) (λ_ _ _ _ _=>JI) (λ_ _ _ _ _=>(Jz (pal rfl (Jn (J05 rfl) (pvc 4) (pvl 0) (λ_ _=>rfl)) (pal rfl (Jn (J05 rfl) (J0g (pal rfl Jl (pal rfl Jl J9))) (Jh T.wb (Js T) (hr.mono (by decide)) rfl (by decide) rfl (pal rfl (pvc 1) (pal rfl (Jq Jx Jc (pvl 0)) (pal rfl Jc J9)))) (λ_ _=>rfl)) J9)))))))))),?_⟩
  walk_at "dl";obtain ⟨m,em,hm⟩:=J0M (ns:=is) (k:=10) (m:=8) (by decide);refine ⟨a,is,10,8,rfl,hs,by decide,by decide,by decide,λH1 s1=>?_⟩;rw [show drw is 10 8=(m:Int) from em];refine ⟨_,rfl,?_⟩;rw [show (1+(m:Int))=((m+1:Nat):Int) by omega];refine ⟨a,is,20,m+1,_,rfl,s1.seq hs,by decide,by decide,by omega,by decide,by decide,λH2 q way size place z1 z2 z3 s2 nq gq=>?_⟩;have nd:=JfL (ns:=is) (b:=20) (way:=way) (n:=m+1) Jfd (by decide) z2 z3 (by omega) (by rw [show J00.length=26 from rfl];omega);have nm:∀ n∈(List.range (m+1)).map λk=>(⟨(txA is J00 20 way size place k).toArray⟩:Str),Nam n:=λn hn=>by
   obtain ⟨i,hi,rfl⟩:=qy.mp hn;have:=mem_range.mp hi;have t:=Jeu (ns:=is) (sg:=J00) (b:=20) (way:=way) (place:=place) (k:=i) (by decide) z1 z2 (by omega);exact t
  have zl:((List.range (m+1)).map λk=>(⟨(txA is J00 20 way size place k).toArray⟩:Str)).length=m+1:=by rw [qe,qC]
  rw [show (List.range (m+1)).map (λk=>V.str ⟨(txA is J00 20 way size place k).toArray⟩)=((List.range (m+1)).map λk=>(⟨(txA is J00 20 way size place k).toArray⟩:Str)).map V.str by rw [map_map];rfl] at gq;generalize ((List.range (m+1)).map λk=>(⟨(txA is J00 20 way size place k).toArray⟩:Str))=zs at *;have S2:=s1.trans s2;refine ⟨by omega,by omega,?_⟩;rw [Int.toNat_natCast];refine JM J07 (by rw [JK];exact Jb (by omega)) (λj ys H'=>Same H2 H'/\ys.length=j/\∃ kds:List Str,kds.length=j/\(∀ kd∈kds,kd=JO\/kd=J1I)/\∀ (i:Nat) x n kd,ys[i]?=some x->zs[i]?=some n->kds[i]?=some kd->∃ p,x=.ref p/\H' p=some (.tup [.str n,.str kd])) ⟨Same.refl _,rfl,[],rfl,(λ_ h=>nomatch h),λ_ _ _ _ h=>by simp at h⟩ (λ_ _ _ _ _=>trivial) (λj ys H' q=>Nat.le_of_eq q.2.1) (λj x ys H3 hx q=>?_) (λys H3 q D hD=>?_)
  ·obtain ⟨hj,rfl⟩:=J0e hx
   obtain ⟨t1,t2,kds,t3,t4,t5⟩:=q;obtain ⟨n,hn⟩:∃ n,zs[j]?=some n:=⟨_,qc (by rw [zl];exact hj)⟩;walk_at "dl";rw [Int.zero_add];refine ⟨q,_,_,_,rfl,rfl,.of (t1 _ _ gq),Jg (by rw [qq,hn];rfl),Jb (by decide),λp hp=>?_⟩
   walk_at "nw p hp H4 u gp"
   refine ⟨a,is,200+(j:Int),2,rfl,((S2.trans t1).trans u).seq hs,by omega,by omega,by decide,λH5 s5=>?_⟩;obtain ⟨kd,e,hk2⟩:=JeL (ns:=is) (k:=200+(j:Int)) (K:=K) (s5 _ _ gp);refine e _ ⟨Jb (by decide),λr hr=>?_⟩;have u3:=Same.upd_new hr (HO.tup [V.str n,V.str kd]);have u45:=u.trans (s5.trans u3);refine ⟨⟨_,rfl⟩,t1.trans u45,by simp [t2],kds++[kd],by simp [t3],λkd' hk'=>?_,λi x n' kd' hx' hn' hk'=>?_⟩
   ·rcases qu.mp hk' with h | h
    ·exact t4 kd' h
    ·rw [qf.mp h]
     exact hk2
   ·by_cases hi:i<ys.length
    ·rw [qA hi] at hx'
     rw [qA (by omega)] at hk';obtain ⟨p',e1,e2⟩:=t5 i x n' kd' hx' hn' hk';exact ⟨p',e1,u45 _ _ e2⟩
    ·have hil:=(qd.mp hx').1
     rw [qj,length_singleton] at hil;obtain rfl:i=j:=by omega
     rw [qz (by omega),t2,Nat.sub_self] at hx';rw [qz (by omega),t3,Nat.sub_self] at hk';obtain rfl:V.ref r=x:=zU hx';obtain rfl:kd=kd':=zU hk';obtain rfl:n=n':=zU (hn.symm.trans hn');exact ⟨r,rfl,Jd⟩
  ·obtain ⟨t1,t2,kds,t3,t4,t5⟩:=q
   rw [JK] at t2 t3;have u:=t1.new hD (HO.lst ys);exact k _ D ys zs kds (S2.trans u) (none_of (S2.trans t1) hD) Jd ⟨by omega,by omega,nd,λi x n kd a b c=>(t5 i x n kd a b c).imp λ_ z=>⟨z.1,Same.upd_new hD _ _ _ z.2⟩⟩ nm t4 (by omega) (by omega)
inductive Q_l_number (K:Frag)(vs:List V)(H:Hp)(Q:VK):Prop
 | mk (a:Addr) (is:List Int) (b:Int) (u0_:vs=[.ref a,.int b]) (u1_:SqL K H a (is.map V.int)) (u2_:0<=b) (u3_:b<10000) (u4_:∀ H' i,Same H H'->i.natAbs<10 ^ 60->Q (.int i) H'):Q_l_number K vs H Q
def J8z (K:Frag):Sp:=λvs H Q _=>Q_l_number K vs H Q
theorem ok_l_number (T:Txt K mg f fd):FnOk P w K mg base CX0 3 (f 68) (fd 68) ["_law_script","_law_at"] (J8z K):=by
 walk_at "ok yx J4Z"
 ·walk_at "ln"
 ·obtain ⟨a,is,b,rfl,hs,b0,b1,k⟩:=h
  refine ⟨_,(Ja (psl 2 J4Z.nd (Jh T.wb (Js T) (hr.mono (by decide)) rfl (by decide) rfl (pal rfl (pvl 0) (pal rfl (pvl 1) (pal rfl Jc J9)))))
   (Ja (Jw (Jo J71 (pvl 2) Jc (Jm _))
   (Je (Jk (Jq J4L (Jh T.wb (Js T) (hr.mono (by decide)) rfl (by decide) rfl (pal rfl (pvl 0) (pal rfl (Jq Jx (pvl 1) Jc) (pal rfl Jc J9)))) Jc)))
   Jp)
   (Ja (Jw (Jo JE (pvl 2) Jc (Jm _))
   (Je (Jk (Jq J1G (Jq J4L Jc (Jq J1G Jc (Jh T.wb (Js T) (hr.mono (by decide)) rfl (by decide) rfl (pal rfl (pvl 0) (pal rfl (Jq Jx (pvl 1) Jc) (pal rfl Jc J9)))))) (Jq J2W (Jh T.wM (J74 T) (hr.mono (by decide)) rfl (by decide) rfl (pal rfl (pvl 0) (pal rfl (Jq Jx (pvl 1) Jc) J9))) (Jq J66 Jc Jc)))))
   Jp)
   (Je (Jk (Jn (J05 rfl) (J0g (pal rfl (Jq J4L (Jq J66 Jc Jc) Jc) (pal rfl (Jq J4L Jc (Jq J66 Jc Jc)) (pal rfl (Jq J66 Jc Jc) J9)))) (Jh T.wb (Js T) (hr.mono (by decide)) rfl (by decide) rfl (pal rfl (pvl 0) (pal rfl (Jq Jx (pvl 1) Jc) (pal rfl Jc J9)))) (λ_ _=>rfl))))))),?_⟩
  walk_at "dl";refine ⟨a,is,b,4,rfl,hs,b0,by omega,by decide,λH1 s1=>⟨_,rfl,?_⟩⟩;by_cases c:drw is b 4<2
  ·rw [zP c]
   refine ⟨a,is,b+1,9,rfl,s1.seq hs,by omega,by omega,by decide,λH2 s2=>⟨_,rfl,k _ _ (s1.trans s2) ?_⟩⟩;have:=J33 (ns:=is) (k:=b+1) (m:=9) (by decide);omega
  ·rw [zO c]
   refine ⟨rfl,?_⟩;by_cases c2:drw is b 4=2
   ·rw [zP (congrArg V.int c2)]
    refine ⟨a,is,b+2,2,rfl,s1.seq hs,by omega,by omega,by decide,λH2 s2=>⟨_,rfl,.inl ⟨by decide,?_⟩,?_⟩⟩
    ·have:=J33 (ns:=is) (k:=b+2) (m:=2) (by decide)
     omega
    have w:=J33 (ns:=is) (k:=b+2) (m:=2) (by decide);refine ⟨a,is,b+1,rfl,(s1.trans s2).seq hs,by omega,⟨by decide,by decide,by decide⟩,_,rfl,by decide,.inl ⟨by omega,by omega⟩,k _ _ (s1.trans s2) ?_⟩;have p1:=zX (J7d is (b+1)) (show (10 ^ Int.toNat 60:Int)≠0 by decide);have p2:=zW (J7d is (b+1)) (show (0:Int)<10 ^ Int.toNat 60 by decide);generalize J7d is (b+1) % 10 ^ Int.toNat 60=e at *;rcases (by omega:drw is (b+2) 2=0\/drw is (b+2) 2=1) with h | h
    ·rw [h,show (1 - 2 * 0:Int)=1 from rfl,Int.one_mul]
     rw [show Int.toNat 60=60 from rfl] at p2;omega
    ·rw [h,show (1 - 2 * 1:Int)=-1 from rfl,Int.neg_one_mul]
     rw [show Int.toNat 60=60 from rfl] at p2;omega
   ·rw [zO λe=>c2 (V.int.inj e)]
    refine ⟨⟨by decide,by decide,by decide⟩,⟨by decide,by decide,by decide⟩,⟨by decide,by decide,by decide⟩,Jb (by decide),λp hp=>?_⟩
    walk_at "nw p hp H2 u gp"
    refine ⟨a,is,b+1,3,rfl,(s1.trans u).seq hs,by omega,by omega,by decide,λH3 s3=>?_⟩;have w:=J33 (ns:=is) (k:=b+1) (m:=3) (by decide);have S3:=(s1.trans u).trans s3;rcases (by omega:drw is (b+1) 3=0\/drw is (b+1) 3=1\/drw is (b+1) 3=2) with h | h | h
    ·rw [h]
     exact ⟨p,_,_,_,rfl,rfl,.of (s3 _ _ gp),Jg (j:=0) rfl,k _ _ S3 (by decide)⟩
    ·rw [h]
     exact ⟨p,_,_,_,rfl,rfl,.of (s3 _ _ gp),Jg (j:=1) rfl,k _ _ S3 (by decide)⟩
    ·rw [h]
     exact ⟨p,_,_,_,rfl,rfl,.of (s3 _ _ gp),Jg (j:=2) rfl,k _ _ S3 (by decide)⟩
theorem Paired.mapP' {α β:Type}{F G:α->β->Prop}:∀ {xs:List α} {ys:List β},Paired F xs ys->(∀ x y,x∈xs->F x y->G x y)->Paired G xs ys
 | _,_,.nil,_=>.nil
 | _,_,.cons r t,h=>.cons (h _ _ qm r) (Paired.mapP' t λx y hx=>h x y (ql _ hx))
def PoolAt (H:Hp)(kd:Str)(x:V):Prop:=∃ p vs,x=.ref p/\H p=some (.lst (vs++[.non]))/\1<=vs.length/\vs.length<=4/\∀ v∈vs,KdV kd v
def Pools (H:Hp)(xs:List V)(kds:List Str):Prop:=Paired (λx kd=>PoolAt H kd x) xs kds
theorem PoolAt.mono (s:Same H H')(h:PoolAt H kd x):PoolAt H' kd x:=let ⟨p,vs,e,g,r⟩:=h;⟨p,vs,e,s _ _ g,r⟩
theorem Pools.mono (s:Same H H')(h:Pools H xs kds):Pools H' xs kds:=Paired.mapP h λ_ _ q=>q.mono s
abbrev J6V:Str:="0123456789abcdefghijklmnopqrstuvwxyz"
theorem JeU:∀ c∈J6V.cps.toList,c∈Jgc.cps.toList:=by decide +kernel
inductive Q_l_pools (K:Frag)(vs:List V)(H:Hp)(Q:VK):Prop
 | mk (a l:Addr) (is:List Int) (xs:List V) (ns kds:List Str) (u0_:vs=[.ref a,.ref l]) (u1_:SqL K H a (is.map V.int)) (u2_:H l=some (.lst xs)) (u3_:FldsK H xs ns kds) (u4_:(∀ n∈ns,Nam n)) (u5_:(∀ kd∈kds,kd=JO\/kd=J1I)) (u6_:xs.length<=8) (u7_:∀ H' q ps,Same H H'->H' q=some (.lst ps)->Pools H' ps kds->Q (.ref q) H'):Q_l_pools K vs H Q
def J9L (K:Frag):Sp:=λvs H Q _=>Q_l_pools K vs H Q
theorem ok_l_pools (T:Txt K mg f fd):FnOk P w K mg base CX0 4 (f 69) (fd 69) ["_law_script","_law_fields_here"] (J9L K):=by
 walk_at "ok yy J0n"
 ·walk_at "ln"
 ·obtain ⟨a,l,is,xs,ns,kds,rfl,hs,hl,hF,hnm,hkk,h8,k⟩:=h
  have hxk:kds.length=xs.length:=hF.2.1;refine ⟨_,(Ja (psl 2 J0n.nd (Jh T.wN (ok_l_texts T) (hr.mono (by decide)) rfl (by decide) rfl (pal rfl (pvl 0) (pal rfl Jc (pal rfl Jc (pal rfl Jl J9))))))
   (Ja (Jw (Jo JE (Jh T.wb (Js T) (hr.mono (by decide)) rfl (by decide) rfl (pal rfl (pvl 0) (pal rfl Jc (pal rfl Jc J9)))) Jc (Jm _))
   (Je (psl 2 J0n.nd (Jq J7U (JJ ["_law_field"] J3m rfl (show CompSc _ (Jf J3c) J3m J3m from Jv (by decide +kernel)) (J0B rfl (pvl 1)) (λ_ _ _ _ _=>(pgl 0 (show ("_law_field"::J3m:List Str).Nodup by decide +kernel))) (λ_ _ _ _ _=>JI) (λ_ _ _ _ _=>(Jn (Ju rfl) (pvl 0) Jc (λ_ _=>rfl)))) (pvl 2))))
   Jp)
   (Ja (psl 3 J0n.nd (J0g J9))
   (Ja (J0f PassesOwn.never rfl (J0m rfl T.wl (pal rfl (Jt (JW rfl) T.wa JA rfl (by decide) (by decide) rfl (pal rfl (pvl 1) J9)) J9)) (pgl 4 J0n.nd)
   (Ja (psl 5 J0n.nd (J0g J9))
   (Ja (J0f PassesOwn.never rfl (J0m rfl T.wl (pal rfl (Jq Jx Jc (Jh T.wb (Js T) (hr.mono (by decide)) rfl (by decide) rfl (pal rfl (pvl 0) (pal rfl (Jq Jx Jc (pvl 4)) (pal rfl Jc J9))))) J9)) (pgl 6 J0n.nd)
   (Ja (psl 7 J0n.nd (Jn (J05 rfl) (pvl 2) (Jq J2W (Jq Jx (Jh T.wb (Js T) (hr.mono (by decide)) rfl (by decide) rfl (pal rfl (pvl 0) (pal rfl (Jq Jx Jc (pvl 4)) (pal rfl (Jt (JW rfl) T.wa JA rfl (by decide) (by decide) rfl (pal rfl (pvl 2) J9)) J9)))) (pvl 6)) (Jt (JW rfl) T.wa JA rfl (by decide) (by decide) rfl (pal rfl (pvl 2) J9))) (λ_ _=>rfl)))
   (Ja (Jw (Jo JE (Jn (Ju rfl) (Jn (J05 rfl) (pvl 1) (pvl 4) (λ_ _=>rfl)) Jc (λ_ _=>rfl)) Jl (Jm _))
   (Je (psl 7 J0n.nd (Jh T.yx (ok_l_number T) (hr.mono (by decide)) rfl (by decide) rfl (pal rfl (pvl 0) (pal rfl (Jq Jx (Jq Jx Jc (Jq J1G Jc (pvl 4))) (Jq J1G Jc (pvl 6))) J9)))))
   Jp)
   (Je (JT (J1Q rfl qJ PySem.F.slot_list_append PySem.F.type_list_append J0K rfl rfl rfl rfl (pvl 5) (pal rfl (pvl 7) J9)))))))
   (Je (JT (J1Q rfl qJ PySem.F.slot_list_append PySem.F.type_list_append J0K rfl rfl rfl rfl (pvl 3) (pal rfl (Jq J7U (pvl 5) (J0g (pal rfl J0W J9))) J9)))))))
   (Je (Jk (pvl 3))))))),?_⟩
  generalize hB:J14 (J4t (Jb6 J59) (JN 3)) _=B
  have tl : ∀ (H1:Hp) (W:Addr) (zs:List Str),Same H H1->H1 W=some (.lst (zs.map V.str))->1<=zs.length->zs.length<=12->(∀ z∈zs,Wrd z)->B { nx:=λ_ H'=>Q V.non H',rt:=Q } [some (V.ref a),some (V.ref l),some (V.ref W),none,none,none,none,none] H1:=by
   intro H1 W zs s1 gW z1 z12 hz;subst hB;walk_at "dl";refine ⟨Jb (by decide),λq hq=>?_⟩;have s2:=s1.new hq (HO.lst []);have u2:=Same.upd_new hq (HO.lst []);have g2:upd H1 q (HO.lst []) q=some (.lst []):=Jd;have hqH:=none_of s1 hq;generalize upd H1 q (HO.lst [])=H2 at *;refine J0h ?_;walk_at "dl";refine ⟨_,.inl (.of (s2 _ _ hl)),by omega,by omega,?_⟩;rw [Int.toNat_natCast];refine ForW.of J07 (λj σ H'=>(∃ v4 v5 v6 v7,σ=[some (V.ref a),some (V.ref l),some (V.ref W),some (V.ref q),v4,v5,v6,v7])/\Same H1 H'/\∃ ps,H' q=some (.lst ps)/\Pools H' ps (kds.take j)/\∀ x∈ps,x≠V.ref q) ⟨⟨none,none,none,none,rfl⟩,u2,[],g2,.nil,λ_ z=>nomatch z⟩ (λ_ _ _ _ _=>trivial) ?_ ?_
   ·rintro j x σ H5 hx ⟨⟨v4,v5,v6,v7,rfl⟩,s5,ps,g5,P5,hne⟩
    obtain ⟨hj,rfl⟩:=J0e hx;rw [Int.zero_add];simp only [JN];walk_at "dl";refine ⟨Jb (by decide),λpl hpl=>?_⟩
    walk_at "nw pl hpl H6 u6 g6"
    obtain ⟨pf,n,kd,e1,en,ek,ef⟩:=hF.at (i:=j) hj;have hkd:=hkk kd (qi ek);obtain ⟨m,em,hm⟩:=J0M (ns:=is) (k:=370+(j:Int)) (m:=4) (by decide);have S5:=s1.trans s5;refine J0h ?_;walk_at "dl";refine ⟨a,is,370+(j:Int),4,rfl,(S5.trans u6).seq hs,by omega,by omega,by decide,λH7 s7=>?_⟩;rw [show drw is (370+(j:Int)) 4=(m:Int) from em];refine ⟨_,rfl,by omega,by omega,?_⟩;rw [show (1+(m:Int)).toNat=m+1 by omega];refine ForW.of J07 (λi σ H'=>(∃ v6 v7,σ=[some (V.ref a),some (V.ref l),some (V.ref W),some (V.ref q),some (V.int (j:Int)),some (V.ref pl),v6,v7])/\Same H5 H'/\∃ vs,H' pl=some (.lst vs)/\vs.length=i/\∀ v∈vs,KdV kd v) ⟨⟨_,_,rfl⟩,u6.trans s7,[],s7 _ _ g6,rfl,λ_ z=>nomatch z⟩ (λ_ _ _ _ _=>trivial) ?_ ?_
    ·rintro i y σ H8 hy ⟨⟨v6,v7,rfl⟩,s8,vs,g8,lv,hv⟩
     obtain ⟨hi,rfl⟩:=J0e hy;rw [Int.zero_add];simp only [JN];walk_at "dl";have S8:=S5.trans s8;have gW8:=s8 _ _ (s5 _ _ gW);have fin:∀ (H9:Hp) (v:V),Same H8 H9->KdV kd v->tyV K "list" (V.ref pl) H9/\J7N (V.ref pl) [v] H9 λ_ H1=>(∃ y,some v=y)/\Same H5 H1/\∃ vs,H1 pl=some (HO.lst vs)/\vs.length=i+1/\∀ v∈vs,KdV kd v:=λH9 v s9 hk =>
      ⟨.inl ⟨rfl,_,.of (s9 _ _ g8)⟩,pl,_,_,rfl,rfl,s9 _ _ g8,by rw [lv,sizeLine_eq];omega,⟨_,rfl⟩,(s8.trans s9).set hpl _,_,Jd,by rw [qj,lv];rfl,λw hw=>by
       rcases qu.mp hw with hw | hw
       ·exact hv w hw
       ·rw [qf.mp hw];exact hk⟩
     refine ⟨_,.inl (.of gW8),a,is,380+(j:Int),_,rfl,S8.seq hs,by omega,by omega,by rw [qe];omega,λH9 s9=>⟨_,rfl,_,.inl (.of (s9 _ _ gW8)),by rw [qe];omega,?_⟩⟩;refine Jfr (.of (s9 _ _ gW8)) (zX _ (by rw [qe];omega)) (zW _ (by rw [qe];omega)) λwv hwv=>?_;obtain ⟨z,hz1,rfl⟩:=qy.mp (qi hwv);refine ⟨l,_,_,_,rfl,rfl,.of (s9 _ _ (S8 _ _ hl)),Jg e1,pf,_,_,_,rfl,rfl,.of (s9 _ _ (S8 _ _ ef)),Jg (j:=1) rfl,rfl,?_⟩;by_cases c:kd=J1I
     ·rw [zP (congrArg V.str c)]
      exact ⟨.inl ⟨by omega,by omega⟩,.inl ⟨by omega,by omega⟩,a,is,_,rfl,(S8.trans s9).seq hs,by omega,by omega,λH10 w s10 hw=>fin H10 _ (s9.trans s10) (.inr ⟨c,w,rfl,hw⟩)⟩
     ·rw [zO λe=>c (V.str.inj e)]
      exact fin H9 _ s9 (.inl ⟨hkd.resolve_right c,z,rfl,hz z hz1⟩)
    ·rintro σ H8 ⟨⟨v6,v7,rfl⟩,s8,vs,g8,lv,hv⟩
     walk_at "dl";rw [JK] at lv;refine ⟨.inl ⟨rfl,_,.of (s8 _ _ g5)⟩,Jb (by decide),λp1 hp1=>?_⟩
     walk_at "nw p1 hp1 H9 u9 g9"
     refine ⟨pl,p1,_,_,rfl,rfl,u9 _ _ g8,g9,by rw [lv,sizeLine_eq];show m+1+1<=_;omega,λr hr=>?_⟩
     walk_at "nw r hr H10 u10 g10"
     have S10:=s8.trans (u9.trans u10);have gq:=S10 _ _ g5;have nrq:r≠q:=λe=>by rw [e,u9 _ _ (s8 _ _ g5)] at hr;cases hr
     refine ⟨q,_,_,rfl,rfl,gq,?_,⟨_,rfl⟩,(s5.trans S10).set hq _,_,Jd,?_,λx hx=>?_⟩
     ·have:=Paired.length P5
      rw [qk] at this;rw [sizeLine_eq];omega
     ·rw [JF ek]
      refine Paired.snoc (Paired.mapP' P5 λx kd hx ⟨p,vs,e,g,r⟩=>⟨p,vs,e,?_,r⟩) ⟨r,vs,rfl,by rw [Jj nrq];exact g10,by omega,by omega,hv⟩;rw [Jj (λz=>hne x hx (by rw [e,z]))];exact S10 _ _ g
     ·rcases qu.mp hx with hx | hx
      ·exact hne x hx
      ·rw [qf.mp hx]
       exact λz=>nrq (V.ref.inj z)
   ·rintro σ H5 ⟨⟨v4,v5,v6,v7,rfl⟩,s5,ps,g5,P5,hne⟩
    walk_at "dl";rw [JK,<- hxk,qr] at P5;exact k H5 q ps (s1.trans s5) g5 P5
  walk_at "dl";refine ⟨a,is,300,4,_,rfl,hs,by decide,by decide,by decide,by decide,by decide,λH1 q way size place z1 z2 z3 s1 nq gq=>?_⟩;have wd:∀ z∈(List.range 4).map λk=>(⟨(txA is J6V 300 way size place k).toArray⟩:Str),Wrd z:=λn hn=>by
   obtain ⟨i,hi,rfl⟩:=qy.mp hn;have:=mem_range.mp hi;have t:=Jeu (ns:=is) (sg:=J6V) (b:=300) (way:=way) (place:=place) (k:=i) (by decide) z1 z2 (by omega);exact JeJ ⟨t.1,t.2.1,λc hc=>JeU c (t.2.2 c hc)⟩
  have zl:((List.range 4).map λk=>(⟨(txA is J6V 300 way size place k).toArray⟩:Str)).length=4:=by rw [qe,qC]
  rw [show (List.range 4).map (λk=>V.str ⟨(txA is (Str.ofString "0123456789abcdefghijklmnopqrstuvwxyz") 300 way size place k).toArray⟩)=((List.range 4).map λk=>(⟨(txA is J6V 300 way size place k).toArray⟩:Str)).map V.str by rw [map_map];rfl] at gq;generalize ((List.range 4).map λk=>(⟨(txA is J6V 300 way size place k).toArray⟩:Str))=zs at *;refine ⟨a,is,299,3,rfl,s1.seq hs,by decide,by decide,by decide,λH2 s2=>⟨rfl,?_⟩⟩;have S2:=s1.trans s2;by_cases c:drw is 299 3=0
  ·rw [zP (congrArg V.int c)]
   refine ⟨⟨_,.of (S2 _ _ hl)⟩,?_⟩;refine JM (JC (xs:=xs)) (Jb (by omega)) (λi ys H'=>H'=H2/\ys=(ns.take i).map V.str) ⟨rfl,rfl⟩ (λ_ _ H' _ q=>by rw [q.1];exact .of (S2 _ _ hl)) (λi ys H' q=>by rw [q.2,qe,qk];omega) (λi x ys H3 hx q=>?_) (λys H3 q D hD=>?_)
   ·obtain ⟨rfl,rfl⟩:=q
    obtain ⟨pf,n,kd,e1,en,ek,ef⟩:=hF.at (i:=i) (qd.mp hx).1;obtain rfl:x=.ref pf:=zU (hx.symm.trans e1);walk_at "dl";exact ⟨pf,_,_,_,rfl,rfl,.of (S2 _ _ ef),Jg (j:=0) rfl,⟨_,rfl⟩,rfl,by rw [JF en,qt];rfl⟩
   ·obtain ⟨rfl,rfl⟩:=q
    rw [<- hF.1,qr]
    walk_at "nw D hD H4 u3 g3"
    have hln:=hF.1;refine ⟨D,q,_,_,rfl,rfl,g3,u3 _ _ (s2 _ _ gq),by rw [qe,qe,sizeLine_eq];omega,λr hr=>?_⟩;refine tl _ r (ns++zs) ((S2.trans u3).new hr _) (by rw [qt];exact Jd) (by rw [qj];omega) (by rw [qj];omega) λz hz=>?_;rcases qu.mp hz with hz | hz
    ·exact (hnm z hz).wrd
    ·exact wd z hz
  ·rw [zO λe=>c (V.int.inj e)]
   exact tl H2 q zs S2 (s2 _ _ gq) (by omega) (by omega) wd
theorem JaG {K:Frag}{q:Addr}(g:H q=some (.lst ps))(h:Pools H ps kds)(hk:kds[j]?=some kd):∃ p vs,(∀ Q:VK,Q (.ref p) H->Ja0 K (.ref q) (.int (j:Int)) H Q)/\H p=some (.lst (vs++[.non]))/\1<=vs.length/\vs.length<=4/\∀ v∈vs,KdV kd v:=by
 have hj:j<ps.length:=by rw [Paired.length h];exact (qd.mp hk).1
 have e:=qc hj;obtain ⟨kd',hk',p,vs,ep,r⟩:=Paired.ix h e;obtain rfl:kd=kd':=zU (hk.symm.trans hk');rw [ep] at e;exact ⟨p,vs,λQ k=>⟨q,_,_,_,rfl,rfl,.of g,Jg e,k⟩,r⟩
inductive Q_l_row (K:Frag)(vs:List V)(H:Hp)(Q:VK):Prop
 | mk (a q:Addr) (is:List Int) (b:Int) (ps:List V) (kds:List Str) (u0_:vs=[.ref a,.int b,.ref q]) (u1_:SqL K H a (is.map V.int)) (u2_:0<=b) (u3_:b<10000) (u4_:H q=some (.lst ps)) (u5_:Pools H ps kds) (u6_:kds.length<=8) (u7_:∀ H' r rs,H r=none->Same H H'->H' r=some (.lst rs)->RowS kds rs->Q (.ref r) H'):Q_l_row K vs H Q
def Jcd (K:Frag):Sp:=λvs H Q _=>Q_l_row K vs H Q
theorem ok_l_row (T:Txt K mg f fd):FnOk P w K mg base CX0 3 (f 70) (fd 70) ["_law_script","_law_at","_law_pools_here"] (Jcd K):=by
 walk_at "ok wO Jcg"
 ·walk_at "ln"
 ·obtain ⟨a,q,is,b,ps,kds,rfl,hs,b0,b1,hq,hP,h8,k⟩:=h
  have hpl:=Paired.length hP;refine ⟨_,(Je (Jk (JJ ["_law_k"] J5t rfl (show CompSc _ (Jf J5o) J5t J5t from Jv (by decide +kernel)) (J0m rfl T.wl (pal rfl (Jt (JW rfl) T.wa JA rfl (by decide) (by decide) rfl (pal rfl (pvc 2) J9)) J9)) (λ_ _ _ _ _=>(pgl 0 (show ("_law_k"::J5t:List Str).Nodup by decide +kernel))) (λ_ _ _ _ _=>JI) (λ_ _ _ _ _=>(Jn (J05 rfl) (Jn (J05 rfl) (pvc 3) (pvl 0) (λ_ _=>rfl)) (Jh T.wb (Js T) (hr.mono (by decide)) rfl (by decide) rfl (pal rfl (pvc 1) (pal rfl (Jq Jx (pvc 2) (pvl 0)) (pal rfl (Jt (JW rfl) T.wa JA rfl (by decide) (by decide) rfl (pal rfl (Jn (J05 rfl) (pvc 3) (pvl 0) (λ_ _=>rfl)) J9)) J9)))) (λ_ _=>rfl)))))),?_⟩;walk_at "dl";refine ⟨_,.inl (.of hq),by omega,by omega,?_⟩;rw [Int.toNat_natCast];refine JM J07 (by rw [JK];exact Jb (by omega)) (λj ys H'=>Same H H'/\ys.length=j/\∀ (i:Nat) x kd,ys[i]?=some x->kds[i]?=some kd->x=.non\/KdV kd x) ⟨Same.refl _,rfl,λ_ _ _ h=>by simp at h⟩ (λ_ _ _ _ _=>trivial) (λj ys H' q=>Nat.le_of_eq q.2.1) (λj x ys H3 hx q=>?_) (λys H3 q D hD=>?_)
  ·obtain ⟨hj,rfl⟩:=J0e hx
   obtain ⟨t1,t2,t3⟩:=q;have hk:=qc (show j<kds.length by omega);generalize kds[j]=kd at hk;walk_at "dl";rw [Int.zero_add];obtain ⟨p,vs,e,gp,l1,l4,hv⟩:=JaG (K:=K) (t1 _ _ hq) (hP.mono t1) hk;refine e _ (e _ ⟨p,rfl,_,.inl (.of gp),a,is,b+(j:Int),_,rfl,t1.seq hs,by omega,by omega,by rw [qj];show (0:Int)<((vs.length+1:Nat):Int);omega,λH4 s4=>?_⟩);obtain ⟨i,ei,hi⟩:=J0M (ns:=is) (k:=b+(j:Int)) (m:=(vs++[V.non]).length) (by rw [qj];show 0<vs.length+1;omega);rw [ei];have hxv:=qc hi;generalize (vs++[V.non])[i]=x at hxv;refine ⟨p,_,_,x,rfl,rfl,.of (s4 _ _ gp),Jg hxv,⟨_,rfl⟩,t1.trans s4,by rw [qj,t2];rfl,λi' y kd' hy hk'=>?_⟩;by_cases c:i'<ys.length
   ·rw [qA c] at hy
    exact t3 i' y kd' hy hk'
   ·have hil:=(qd.mp hy).1
    rw [qj,length_singleton] at hil;obtain rfl:i'=j:=by omega
    rw [qz (by omega),t2,Nat.sub_self] at hy;obtain rfl:x=y:=zU hy;obtain rfl:kd=kd':=zU (hk.symm.trans hk');rcases qu.mp (qi hxv) with h | h
    ·exact .inr (hv x h)
    ·exact .inl (qf.mp h)
  ·obtain ⟨t1,t2,t3⟩:=q
   rw [JK] at t2;exact k _ D ys (none_of t1 hD) (t1.new hD _) Jd ⟨by omega,t3⟩
theorem J4r {K:Frag}(h:H p=some (.lst ys))(q:∀ l G,Same H G->G l=some (.tup ys)->Q (.ref l) G):J2d K [.ref p] H Q:=by
 unfold J2d;exact ⟨p,ys,rfl,.inl ⟨.of h,λl hl=>q l _ (Same.upd_new hl _) Jd⟩⟩
def nmL (ns:List Str)(js:List Nat):List V:=js.map λi=>V.str (ns.getD i JO)
theorem Jat {zs:List V}{o:HO}(h:H p=some (.lst zs)):∀ c ys,H c=some (.tup ys)->upd H p o c=some (.tup ys):=λc ys hc=>by
 rw [Jj (λe=>by rw [e,h] at hc;exact nomatch hc)];exact hc
theorem Jfz {a:Nat}:∃ k,k<=m/\J24 xs (some (a:Int)) (some ((a:Int)+m))=(xs.drop (min a xs.length)).take k:=by
 refine ⟨HT.sIx xs.length xs.length (some ((a:Int)+m)) - HT.sIx xs.length 0 (some (a:Int)),?_,?_⟩
 ·rw [show (a:Int)+m=((a+m:Nat):Int) by omega,HT.sIx_nat,HT.sIx_nat]
  omega
 ·unfold J24
  rw [HT.sIx_nat]
theorem Jfc {js:List Nat}{a k:Nat}(h:js.Nodup):(js.take a++(js.drop (min a js.length)).take k).Nodup:=by
 have e:js.take a=js.take (min a js.length):=by
  rw [take_eq_take_iff];omega
 rw [e];refine List.Sublist.nodup ?_ h;have:=(List.Sublist.refl (js.take (min a js.length))).append (take_sublist k (js.drop (min a js.length)));rwa [take_append_drop] at this
theorem Jg2 {i:Int}(h:i=(n:Int)):(if i<4 then i else 4)=((min n 4:Nat):Int):=by
 split<;>omega
inductive Q_l_view (K:Frag)(vs:List V)(H:Hp)(Q:VK):Prop
 | mk (a l:Addr) (is:List Int) (xs:List V) (ns kds:List Str) (u0_:vs=[.ref a,.ref l]) (u1_:SqL K H a (is.map V.int)) (u2_:H l=some (.lst xs)) (u3_:FldsK H xs ns kds) (u4_:(∀ n∈ns,Nam n)) (u5_:(∀ kd∈kds,kd=JO\/kd=J1I)) (u6_:1<=xs.length) (u7_:xs.length<=8) (u8_:∀ H' v n0 n1 fg fvs gs is0 is1,Same H H'->VwOk H' l v n0 n1 fg xs fvs gs ns kds is0 is1->Q (.ref v) H'):Q_l_view K vs H Q
def Jb8 (K:Frag):Sp:=λvs H Q _=>Q_l_view K vs H Q
theorem ok_l_view (T:Txt K mg f fd):FnOk P w K mg base CX0 3 (f 71) (fd 71) ["_law_script","_law_fields_here"] (Jb8 K):=by
 walk_at "ok yz J0k"
 ·walk_at "ln"
 ·obtain ⟨a,l,is,xs,ns,kds,rfl,hs,hl,hF,hnm,hkk,h1,h8,k⟩:=h
  have hxn:ns.length=xs.length:=hF.1;have hxk:kds.length=xs.length:=hF.2.1;refine ⟨_,(Ja (J5r ["_law_field"] ["_law_script","_law_fields_here","_law_names","_law_turn","_law_first","_law_second","_law_figures","_law_k","#8","_law_word"] rfl (show CompSc _ (Jf J4b) JcO ["_law_script","_law_fields_here","_law_names","_law_turn","_law_first","_law_second","_law_figures","_law_k","#8","_law_word"] from Jv (by decide +kernel)) J0k.nd (i:=2) rfl rfl (J0B rfl (pvl 1)) (λ_ _ _ _ _=>(pgl 0 (show (["_law_field","_law_script","_law_fields_here","_law_names","_law_turn","_law_first","_law_second","_law_figures","_law_k","#8","_law_word"]:List Str).Nodup by decide +kernel))) (λ_ _ _ _ _=>JI) (λ_ _ _ _ _=>(Jn (Ju rfl) (pvl 0) Jc (λ_ _=>rfl))))
   (Ja (psl 3 J0k.nd (Jh T.wb (Js T) (hr.mono (by decide)) rfl (by decide) rfl (pal rfl (pvl 0) (pal rfl Jc (pal rfl (Jt (JW rfl) T.wa JA rfl (by decide) (by decide) rfl (pal rfl (pvl 2) J9)) J9)))))
   (Ja (psl 2 J0k.nd (Jq J7U (J0s (J52 rfl) (pvl 2) (J0D (pvl 3)) J0Q) (J0s (J52 rfl) (pvl 2) J0Q (J0D (pvl 3)))))
   (Ja (Jw (Jo JE (Jh T.wb (Js T) (hr.mono (by decide)) rfl (by decide) rfl (pal rfl (pvl 0) (pal rfl Jc (pal rfl Jc J9)))) Jc (Jm _))
   (Je (psl 2 J0k.nd (Ja5 rfl rfl T.wm T.zA rfl rfl rfl (pvl 2))))
   Jp)
   (Ja (psl 4 J0k.nd (Jh T.wb (Js T) (hr.mono (by decide)) rfl (by decide) rfl (pal rfl (pvl 0) (pal rfl Jc (pal rfl (Jt (J7f rfl) T.yY Jds rfl (by decide) (by decide) rfl (pal rfl Jc (pal rfl (Jq Jx (Jt (JW rfl) T.wa JA rfl (by decide) (by decide) rfl (pal rfl (pvl 2) J9)) Jc) J9))) J9)))))
   (Ja (psl 5 J0k.nd (Jq Jx (pvl 4) (Jh T.wb (Js T) (hr.mono (by decide)) rfl (by decide) rfl (pal rfl (pvl 0) (pal rfl Jc (pal rfl (Jt (J7f rfl) T.yY Jds rfl (by decide) (by decide) rfl (pal rfl Jc (pal rfl (Jq Jx (Jq J4L (Jt (JW rfl) T.wa JA rfl (by decide) (by decide) rfl (pal rfl (pvl 2) J9)) (pvl 4)) Jc) J9))) J9))))))
   (Ja (psl 6 J0k.nd (J0g J9))
   (Ja (J0f PassesOwn.never rfl (J0m rfl T.wl (pal rfl (Jq Jx Jc (Jh T.wb (Js T) (hr.mono (by decide)) rfl (by decide) rfl (pal rfl (pvl 0) (pal rfl Jc (pal rfl Jc J9))))) J9)) (pgl 7 J0k.nd)
   (Ja (psl 8 J0k.nd (Jn (J05 rfl) (pvl 1) (Jh T.wb (Js T) (hr.mono (by decide)) rfl (by decide) rfl (pal rfl (pvl 0) (pal rfl (Jq Jx Jc (pvl 7)) (pal rfl (Jt (JW rfl) T.wa JA rfl (by decide) (by decide) rfl (pal rfl (pvl 1) J9)) J9)))) (λ_ _=>rfl)))
   (Ja (psl 9 J0k.nd (Jn (J05 rfl) (J0g (pal rfl Jl (pal rfl Jl (pal rfl Jl (pal rfl Jl (pal rfl Jl J9)))))) (Jh T.wb (Js T) (hr.mono (by decide)) rfl (by decide) rfl (pal rfl (pvl 0) (pal rfl (Jq Jx Jc (pvl 7)) (pal rfl Jc J9)))) (λ_ _=>rfl)))
   (Je (Jw (Jo JE (pvl 9) Jl (Jm _))
   (Je (JT (J1Q rfl qJ PySem.F.slot_list_append PySem.F.type_list_append J0K rfl rfl rfl rfl (pvl 6) (pal rfl (Jz (pal rfl (pvl 9) J9)) J9))))
   (Je (Jw (PW.pt (J2t (Jo JE (pvl 9) Jl (Jm _)) (J1j (Jo JE (Jn (Ju rfl) (pvl 8) Jc (λ_ _=>rfl)) Jl (Jm _)))))
   (Je (JT (J1Q rfl qJ PySem.F.slot_list_append PySem.F.type_list_append J0K rfl rfl rfl rfl (pvl 6) (pal rfl (Jz (pal rfl Jl (pal rfl (Jn (Ju rfl) (pvl 8) Jc (λ_ _=>rfl)) J9))) J9))))
   (Je (JT (J1Q rfl qJ PySem.F.slot_list_append PySem.F.type_list_append J0K rfl rfl rfl rfl (pvl 6) (pal rfl (Jz (pal rfl (pvl 9) (pal rfl (Jn (Ju rfl) (pvl 8) Jc (λ_ _=>rfl)) J9))) J9)))))))))))
   (Je (Jk (Jz (pal rfl (J0z (J1P rfl) T.wg J03 rfl (by decide) (by decide) rfl (pal rfl (J0s (J52 rfl) (pvl 2) J0Q (J0D (pvl 4))) J9)) (pal rfl (J0z (J1P rfl) T.wg J03 rfl (by decide) (by decide) rfl (pal rfl (J0s (J52 rfl) (pvl 2) (J0D (pvl 4)) (J0D (pvl 5))) J9)) (pal rfl (J0z (J1P rfl) T.wg J03 rfl (by decide) (by decide) rfl (pal rfl (pvl 6) J9)) J9)))))))))))))),?_⟩
  generalize hB:J14 (J4t _ (JN 4)) _=B
  have tl : ∀ (H1:Hp) (lm:Addr) (js:List Nat) (tn:V),Same H H1->H1 lm=some (.lst (nmL ns js))->js.length=xs.length->(∀ j∈js,j<kds.length)->js.Nodup->B { nx:=λ_ H'=>Q V.non H',rt:=Q } [some (V.ref a),some (V.ref l),some (V.ref lm),some tn,none,none,none,none,none,none] H1:=by
   intro H1 lm js tn s1 gm hjl hjs hnd;subst hB;walk_at "dl";have ln:(nmL ns js).length=xs.length:=by unfold nmL;rw [qe];exact hjl
   refine ⟨_,.inl (.of gm),?_⟩;rw [ln,Jg2 (n:=xs.length+1) (by omega)];obtain ⟨fi,efi,hfi⟩:=J0M (ns:=is) (k:=602) (m:=min (xs.length+1) 4) (by omega);refine ⟨a,is,602,_,rfl,s1.seq hs,by decide,by decide,by omega,λH2 s2=>⟨_,.inl (.of (s2 _ _ gm)),?_⟩⟩;rw [efi,ln];refine ⟨_,rfl,?_⟩;rw [Jg2 (n:=xs.length - fi+1) (by omega)];obtain ⟨se,ese,hse⟩:=J0M (ns:=is) (k:=603) (m:=min (xs.length - fi+1) 4) (by omega);refine ⟨a,is,603,_,rfl,(s1.trans s2).seq hs,by decide,by decide,by omega,λH3 s3=>⟨_,rfl,?_⟩⟩;rw [ese];refine ⟨_,rfl,Jb (by decide),λlg hlg=>?_⟩;have S3:=s2.trans s3;have u4:=S3.new hlg (HO.lst []);have g4:upd H3 lg (HO.lst []) lg=some (.lst []):=Jd;have hlg1:=none_of S3 hlg;generalize upd H3 lg (HO.lst [])=H4 at *;refine J0h ?_;walk_at "dl";obtain ⟨m,em,hm⟩:=J0M (ns:=is) (k:=604) (m:=4) (by decide);refine ⟨a,is,604,4,rfl,(s1.trans u4).seq hs,by decide,by decide,by decide,λH5 s5=>?_⟩;rw [show drw is 604 4=(m:Int) from em];refine ⟨_,rfl,by omega,by omega,?_⟩;rw [show (1+(m:Int)).toNat=m+1 by omega];have u5:=u4.trans s5;refine ForW.of J07 (λj σ H'=>(∃ v7 v8 v9,σ=[some (V.ref a),some (V.ref l),some (V.ref lm),some tn,some (V.int (fi:Int)),some (V.int ((fi:Int)+(se:Int))),some (V.ref lg),v7,v8,v9])/\Same H1 H'/\∃ fvs gs,H' lg=some (.lst fvs)/\fvs.length=j/\FgsAt H' ns kds fvs gs) ⟨⟨none,none,none,rfl⟩,u5,[],[],s5 _ _ g4,rfl,.nil⟩ (λ_ _ _ _ _=>trivial) ?_ ?_
   ·rintro j x σ H6 hx ⟨⟨v7,v8,v9,rfl⟩,s6,fvs,gs,g6,l6,F6⟩
    obtain ⟨hj,rfl⟩:=J0e hx;rw [Int.zero_add];have S6:=s1.trans s6;have ty:∀ H7,Same H6 H7->tyV K "list" (V.ref lg) H7:=λH7 s7=>.inl ⟨rfl,_,.of (s7 _ _ g6)⟩;have fin:∀ (H7:Hp) (q:Addr) (g:Fg) (o:Option V),Same H6 H7->FgAt H7 ns kds (.ref q) g->J7N (V.ref lg) [.ref q] H7 λ_ H1_1=>(∃ y,o=y)/\Same H1 H1_1/\∃ fvs,H1_1 lg=some (HO.lst fvs)/\fvs.length=j+1/\∃ gs,FgsAt H1_1 ns kds fvs gs:=λH7 q g o s7 hg =>
     ⟨lg,_,_,rfl,rfl,s7 _ _ g6,by rw [l6,sizeLine_eq];omega,⟨_,rfl⟩,(s6.trans s7).set hlg1 _,_,Jd,by rw [qj,l6];rfl,gs++[g],Paired.snoc (FgsAt.tup (Jat (s7 _ _ g6)) (FgsAt.tup (λ_ _ z=>s7 _ _ z) F6)) (hg.tup (Jat (s7 _ _ g6)))⟩
    simp only [JN];walk_at "dl";obtain ⟨i,ei,hi⟩:=J0M (ns:=is) (k:=610+(j:Int)) (m:=xs.length) (by omega);obtain ⟨pf,n,kd,e1,e2,e3,e4⟩:=hF.at hi;refine ⟨_,.inl (.of (S6 _ _ hl)),a,is,610+(j:Int),_,rfl,S6.seq hs,by omega,by omega,by omega,λH7 s7=>?_⟩;rw [ei];refine ⟨l,_,_,_,rfl,rfl,.of (s7 _ _ (S6 _ _ hl)),Jg e1,Jb (by decide),λpw hpw=>?_⟩
    walk_at "nw pw hpw H8 u_ g8"
    have w8:=s7.trans u_;obtain ⟨wi,ewi,hwi⟩:=J0M (ns:=is) (k:=620+(j:Int)) (m:=5) (by decide);refine ⟨a,is,620+(j:Int),5,rfl,(S6.trans w8).seq hs,by omega,by omega,by decide,λH9 s9=>?_⟩;rw [show drw is (620+(j:Int)) 5=(wi:Int) from ewi];have w9:=w8.trans s9;have ef:=w9 _ _ (S6 _ _ e4);have cnt:∀ p,H9 p=none->FgAt (upd H9 p (.tup [.str (Str.ofString "count")])) ns kds (.ref p) none:=λp hp=>⟨p,rfl,.inl ⟨rfl,Jd⟩⟩;have nmd:∀ p (hd:Str),H9 p=none->HdOk hd kd->FgAt (upd H9 p (.tup [.str hd,.str n])) ns kds (.ref p) (some (hd,i)):=λp hd hp hh=>⟨p,rfl,.inr ⟨hd,n,i,kd,rfl,Jd,e2,e3,hh⟩⟩;refine ⟨pw,_,_,_,rfl,rfl,.of (s9 _ _ g8),Jg (qc hwi),?_⟩;have hwi:wi<5:=hwi;rcases (by omega:wi=0\/wi=1\/wi=2\/wi=3\/wi=4) with rfl | rfl | rfl | rfl | rfl<;>dsimp only [getElem_cons_zero,getElem_cons_succ]
    ·exact ⟨rfl,by rw [zP rfl];exact ⟨ty _ w9,Jb (by decide),λp hp=>fin _ p _ _ (w9.new hp _) (cnt p hp)⟩⟩
    ·refine ⟨rfl,?_⟩
     rw [zO (by decide)];refine ⟨rfl,?_⟩;rw [zP rfl];refine ⟨pf,_,_,_,rfl,rfl,.of ef,Jg (j:=1) rfl,rfl,?_⟩;by_cases c:kd=JO
     ·rw [zP (congrArg V.str c)]
      exact ⟨ty _ w9,pf,_,_,_,rfl,rfl,.of ef,Jg (j:=0) rfl,Jb (by decide),λp hp=>fin _ p _ _ (w9.new hp _) (nmd p _ hp (.inr (.inr (.inr rfl))))⟩
     ·rw [zO λe=>c (V.str.inj e)]
      exact ⟨ty _ w9,pf,_,_,_,rfl,rfl,.of ef,Jg (j:=0) rfl,Jb (by decide),λp hp=>fin _ p _ _ (w9.new hp _) (nmd p _ hp (.inl ⟨rfl,(hkk kd (qi e3)).resolve_left c⟩))⟩
    all_goals
     refine ⟨rfl,?_⟩;rw [zO (by decide)];refine ⟨rfl,?_⟩;rw [zO (by decide)];exact ⟨ty _ w9,pf,_,_,_,rfl,rfl,.of ef,Jg (j:=0) rfl,Jb (by decide),λp hp=>fin _ p _ _ (w9.new hp _) (nmd p _ hp (.inr (by decide)))⟩
   ·rintro σ H6 ⟨⟨v7,v8,v9,rfl⟩,s6,fvs,gs,g6,l6,F6⟩
    rw [JK] at l6;walk_at "dt";obtain ⟨ck,hck,em⟩:=Jfz (xs:=nmL ns js) (a:=fi) (m:=se);rw [ln,<- hjl] at em;have em2:((nmL ns js).drop (min fi js.length)).take ck=nmL ns ((js.drop (min fi js.length)).take ck):=by unfold nmL;rw [map_take,map_drop]
    refine ⟨_,.of (s6 _ _ gm),λp1 hp1=>J4r Jd λn0 G2 w2' u2=>⟨nmL ns js,?_⟩⟩;have w2:=(Same.upd_new hp1 _).trans w2';have ec:J24 (nmL ns js) none (some (fi:Int))=nmL ns (js.take fi):=(J34 (xs:=nmL ns js) (k:=fi)).trans (by unfold nmL;rw [map_take]);rw [ec] at u2;refine ⟨.of (w2 _ _ (s6 _ _ gm)),λp2 hp2=>J4r Jd λn1 G4 w4' u4=>?_⟩;have y4:=(Same.upd_new hp2 _).trans w4';have w4:=w2.trans y4;rw [em,em2] at u4;refine J4r (w4 _ _ g6) λfg G5 y5 u5=>⟨Jb (by decide),λvw hvw=>?_⟩;have w5:=w4.trans y5;have w6:=w5.new hvw (HO.tup [V.ref n0,V.ref n1,V.ref fg]);have y6:=Same.upd_new hvw (HO.tup [V.ref n0,V.ref n1,V.ref fg]);have SE:=(s1.trans s6).trans w6;refine k _ vw n0 n1 fg fvs gs (js.take fi) ((js.drop (min fi js.length)).take ck) SE ⟨⟨SE _ _ hl,hF.mono SE,hkk,⟨Jd,y6 _ _ (y5 _ _ (y4 _ _ u2)),y6 _ _ (y5 _ _ u4),λi hi=>hjs i (mem_of_mem_take hi),λi hi=>hjs i (mem_of_mem_drop (mem_of_mem_take hi)),?_,?_⟩,y6 _ _ u5,FgsAt.tup (λ_ _ z=>w6 _ _ z) F6,by omega⟩,Jfc hnd,hnm,by omega,by omega⟩
    ·rw [qk];omega
    ·rw [qk];omega
  walk_at "dl";refine ⟨⟨_,.of hl⟩,?_⟩;refine JM (JC (xs:=xs)) (Jb (by omega)) (λi ys H'=>Same H H'/\ys=nmL ns (List.range i)) ⟨Same.refl _,rfl⟩ (λ_ _ H' _ q=>q.1.seq (.of hl)) (λi ys H' q=>by rw [q.2];unfold nmL;rw [qe,qC];exact zQ _) (λi x ys H3 hx q=>?_) (λys H3 q D hD=>?_)
  ·obtain ⟨t1,rfl⟩:=q
   obtain ⟨p,n,kd,e1,e2,e3,e4⟩:=hF.at (qd.mp hx).1;obtain rfl:x=.ref p:=zU (hx.symm.trans e1);walk_at "dl";refine ⟨p,_,_,_,rfl,rfl,.of (t1 _ _ e4),Jg (j:=0) rfl,⟨_,rfl⟩,t1,?_⟩;unfold nmL;rw [range_succ,qt,qp,map_nil,J1R e2]
  ·obtain ⟨t1,rfl⟩:=q
   walk_at "nw D hD H4 u_ g1"
   have s1:=t1.trans u_;have ln:(nmL ns (List.range xs.length)).length=xs.length:=by unfold nmL;rw [qe,qC]
   obtain ⟨c,ec,hcl⟩:=J0M (ns:=is) (k:=600) (m:=xs.length) (by omega);refine ⟨_,.inl (.of g1),?_⟩;rw [ln];refine ⟨a,is,600,_,rfl,s1.seq hs,by decide,by decide,by omega,λH4' s4'=>?_⟩;rw [ec];refine ⟨_,rfl,_,.of (s4' _ _ g1),λp hp=>⟨_,rfl,?_⟩⟩;have e1:J24 (nmL ns (List.range xs.length)) (some (c:Int)) none=nmL ns ((List.range xs.length).drop c):=(Jdf (nmL ns (List.range xs.length)) c).trans (by unfold nmL;rw [map_drop]);have e2:J24 (nmL ns (List.range xs.length)) none (some (c:Int))=nmL ns ((List.range xs.length).take c):=(J34 (xs:=nmL ns (List.range xs.length)) (k:=c)).trans (by unfold nmL;rw [map_take]);rw [e1]
   walk_at "nw p hp H5 w2 g2"
   refine ⟨_,.of (w2 _ _ (s4' _ _ g1)),λp2 hp2=>?_⟩;rw [e2]
   walk_at "nw p2 hp2 H6 w3 g3"
   have S6:=(s1.trans s4').trans (w2.trans w3);have el:((List.range xs.length).drop c++(List.range xs.length).take c).length=xs.length:=by
    rw [qj,length_drop,qk,qC];omega
   have em:∀ j∈(List.range xs.length).drop c++(List.range xs.length).take c,j<kds.length:=λj hj=>by
    rw [hxk];rcases qu.mp hj with h | h
    ·exact mem_range.mp (mem_of_mem_drop h)
    ·exact mem_range.mp (mem_of_mem_take h)
   have en:((List.range xs.length).drop c++(List.range xs.length).take c).Nodup:=by
    refine (perm_append_comm.nodup_iff).mpr ?_;rw [take_append_drop];exact nodup_range
   have eL:nmL ns ((List.range xs.length).drop c)++nmL ns ((List.range xs.length).take c)=nmL ns ((List.range xs.length).drop c++(List.range xs.length).take c):=by unfold nmL;rw [qt]
   refine ⟨p,p2,_,_,rfl,rfl,w3 _ _ g2,g3,?_,λp3 hp3=>?_⟩
   ·unfold nmL
    rw [qe,qe,<- qj,el,sizeLine_eq];omega
   rw [eL];generalize (List.range xs.length).drop c++(List.range xs.length).take c=js at *
   walk_at "nw p3 hp3 H7 u_ g7"
   have S7:=S6.trans u_;refine ⟨a,is,601,2,rfl,S7.seq hs,by decide,by decide,by decide,λH8 s8=>⟨rfl,?_⟩⟩;by_cases c2:drw is 601 2=0
   ·rw [zP (congrArg V.int c2)]
    refine ⟨p3,_,rfl,.of (s8 _ _ g7),λD2 hD2=>?_⟩;refine tl _ D2 js.reverse _ ((S7.trans s8).new hD2 _) (by rw [Jd];unfold nmL;rw [map_reverse]) (by rw [length_reverse];exact el) (λj hj=>em j (mem_reverse.mp hj)) ((reverse_perm js).nodup_iff.mpr en)
   ·rw [zO λe=>c2 (V.int.inj e)]
    exact tl H8 p3 js _ (S7.trans s8) (s8 _ _ g7) el em en
inductive Q_l_sieve (K:Frag)(vs:List V)(H:Hp)(Q:VK):Prop
 | mk (a l q:Addr) (is:List Int) (b:Int) (xs ps:List V) (ns kds:List Str) (u0_:vs=[.ref a,.int b,.ref l,.ref q]) (u1_:SqL K H a (is.map V.int)) (u2_:0<=b) (u3_:b<10000) (u4_:H l=some (.lst xs)) (u5_:FldsK H xs ns kds) (u6_:(∀ kd∈kds,kd=JO\/kd=J1I)) (u7_:1<=xs.length) (u8_:xs.length<=8) (u9_:H q=some (.lst ps)) (u10_:Pools H ps kds) (u11_:∀ H' v F,Same H H'->Sv ns kds 1 H' v F->Q v H'):Q_l_sieve K vs H Q
def J9K (K:Frag):Sp:=λvs H Q _=>Q_l_sieve K vs H Q
theorem ok_l_sieve (T:Txt K mg f fd):FnOk P w K mg base CX0 3 (f 72) (fd 72) ["_law_script","_law_at","_law_fields_here","_law_pools_here"] (J9K K):=by
 walk_at "ok yA J2j"
 ·walk_at "ln"
 ·obtain ⟨a,l,q,is,b,xs,ps,ns,kds,rfl,hs,b0,b1,hl,hF,hkk,h1,h8,hq,hP,k⟩:=h
  have hxk:kds.length=xs.length:=hF.2.1;refine ⟨_,(Ja (psl 4 J2j.nd (Jh T.wb (Js T) (hr.mono (by decide)) rfl (by decide) rfl (pal rfl (pvl 0) (pal rfl (pvl 1) (pal rfl Jc J9)))))
   (Ja (psl 5 J2j.nd (Jh T.wb (Js T) (hr.mono (by decide)) rfl (by decide) rfl (pal rfl (pvl 0) (pal rfl (Jq Jx (pvl 1) Jc) (pal rfl (Jt (JW rfl) T.wa JA rfl (by decide) (by decide) rfl (pal rfl (pvl 2) J9)) J9)))))
   (Ja (psl 6 J2j.nd (Jz (pal rfl Jl (pal rfl (Jn (Ju rfl) (Jn (J05 rfl) (pvl 2) (pvl 5) (λ_ _=>rfl)) Jc (λ_ _=>rfl)) (pal rfl (Jn (J05 rfl) (Jn (J05 rfl) (pvl 3) (pvl 5) (λ_ _=>rfl)) (Jh T.wb (Js T) (hr.mono (by decide)) rfl (by decide) rfl (pal rfl (pvl 0) (pal rfl (Jq Jx (pvl 1) Jc) (pal rfl (Jq J4L (Jt (JW rfl) T.wa JA rfl (by decide) (by decide) rfl (pal rfl (Jn (J05 rfl) (pvl 3) (pvl 5) (λ_ _=>rfl)) J9)) Jc) J9)))) (λ_ _=>rfl)) J9)))))
   (Ja (Jw (Jo JE (pvl 4) Jc (Jm _))
   (Je (Jk (Jz (pal rfl Jl (pal rfl (Jn (Ju rfl) (Jn (J05 rfl) (pvl 2) (pvl 5) (λ_ _=>rfl)) Jc (λ_ _=>rfl)) J9)))))
   Jp)
   (Ja (Jw (Jo JE (pvl 4) Jc (Jm _))
   (Je (Jk (pvl 6)))
   Jp)
   (Ja (Jw (Jo JE (pvl 4) Jc (Jm _))
   (Je (Jk (Jz (pal rfl Jl (pal rfl (pvl 6) J9)))))
   Jp)
   (Ja (Jw (Jo JE (pvl 4) Jc (Jm _))
   (Je (Jk (Jz (pal rfl Jl (pal rfl (Jz (pal rfl (pvl 6) (pal rfl (Jz (pal rfl Jl (pal rfl (Jn (Ju rfl) (Jn (J05 rfl) (pvl 2) (Jh T.wb (Js T) (hr.mono (by decide)) rfl (by decide) rfl (pal rfl (pvl 0) (pal rfl (Jq Jx (pvl 1) Jc) (pal rfl (Jt (JW rfl) T.wa JA rfl (by decide) (by decide) rfl (pal rfl (pvl 2) J9)) J9)))) (λ_ _=>rfl)) Jc (λ_ _=>rfl)) J9))) J9))) J9)))))
   Jp)
   (Ja (Jw (PW.pt (J2t (Jo JE (pvl 4) Jc (Jm _)) (J1j (Jo JE (Jn (Ju rfl) (Jn (J05 rfl) (pvl 2) (pvl 5) (λ_ _=>rfl)) Jc (λ_ _=>rfl)) Jl (Jm _)))))
   (Je (Jk (Jz (pal rfl (Jn (J05 rfl) (J0g (pal rfl Jl (pal rfl Jl J9))) (Jh T.wb (Js T) (hr.mono (by decide)) rfl (by decide) rfl (pal rfl (pvl 0) (pal rfl (Jq Jx (pvl 1) Jc) (pal rfl Jc J9)))) (λ_ _=>rfl)) (pal rfl (Jn (Ju rfl) (pvl 6) Jc (λ_ _=>rfl)) (pal rfl (Jn (Ju rfl) (pvl 6) Jc (λ_ _=>rfl)) J9))))))
   Jp)
   (Ja (Jw (PW.pt (J2t (Jo JE (pvl 4) Jc (Jm _)) (J1j (Jo JE (Jh T.wb (Js T) (hr.mono (by decide)) rfl (by decide) rfl (pal rfl (pvl 0) (pal rfl (Jq Jx (pvl 1) Jc) (pal rfl Jc J9)))) Jc (Jm _)))))
   (Je (Jk (Jz (pal rfl Jl (pal rfl (Jz J9) J9)))))
   Jp)
   (Je (Jk (Jz (pal rfl Jl (pal rfl (Jz J9) J9)))))))))))))),?_⟩
  generalize hB:J14 (J2F (J1e _) _ _) _=B;walk_at "dl";obtain ⟨i,ei,hi⟩:=J0M (ns:=is) (k:=b+1) (m:=xs.length) (by omega);obtain ⟨pf,n,kd,e1,e2,e3,e4⟩:=hF.at hi;refine ⟨a,is,b,9,rfl,hs,b0,by omega,by decide,λH1 s1=>⟨_,.inl (.of (s1 _ _ hl)),a,is,b+1,_,rfl,s1.seq hs,by omega,by omega,by omega,λH2 s2=>?_⟩⟩;rw [ei];have S2:=s1.trans s2;obtain ⟨p,vs,e,gp,l1,l4,hv⟩:=JaG (K:=K) (S2 _ _ hq) (hP.mono S2) e3;refine ⟨l,_,_,_,rfl,rfl,.of (S2 _ _ hl),Jg e1,pf,_,_,_,rfl,rfl,.of (S2 _ _ e4),Jg (j:=0) rfl,e _ (e _ ⟨p,rfl,_,.inl (.of gp),?_⟩)⟩;rw [show (((vs++[V.non]).length:Nat):Int) - 1=(vs.length:Int) by rw [qj];show ((vs.length+1:Nat):Int) - 1=_;omega];refine ⟨a,is,b+2,_,rfl,S2.seq hs,by omega,by omega,by omega,λH3 s3=>?_⟩;obtain ⟨y,ey,hy⟩:=J0M (ns:=is) (k:=b+2) (m:=vs.length) (by omega);have hvy:(vs++[V.non])[y]?=some vs[y]:=by rw [qA hy,qc hy]
  have hvk:=hv vs[y] (getElem_mem hy);generalize vs[y]=v at hvy hvk;rw [ey];refine ⟨p,_,_,v,rfl,rfl,.of (s3 _ _ gp),Jg hvy,Jb (by decide),λpp hpp=>?_⟩;have S3:=S2.trans s3
  walk_at "nw pp hpp H4 u_ g4"
  have S4:=S3.trans u_;have pl:∀ H',Same H4 H'->Plain H' ns kds (.ref pp) λrs=>decide (rs[i]?=some v):=λH' s=>⟨i,n,e2,pp,rfl,.inr (.inl ⟨v,kd,s _ _ g4,e3,hvk.of,rfl⟩)⟩;have lk:∀ (H':Hp) (r:Addr) (j:Nat) (m:Str),ns[j]?=some m->H' r=some (.tup [.str (Str.ofString "lacks"),.str m])->Plain H' ns kds (.ref r) λrs=>decide (rs[j]?=some .non):=λH' r j m hm g=>⟨j,m,hm,r,rfl,.inl ⟨g,rfl⟩⟩;have ef:=S4 _ _ e4;have gl:=S4 _ _ hl;clear e hvy hv gp l1 l4 hpp S3 s3 S2 s2 s1;generalize drw is b 9=way;subst hB;walk_at "dl";have emp:∀ (H1:Hp) (fm:Str),Same H4 H1->(V.str fm=.str "all"\/V.str fm=.str "some")->0<=sizeLine/\∀ p,H1 p=none->2<=sizeLine/\∀ p1,upd H1 p (HO.tup []) p1=none->Q (V.ref p1) (upd (upd H1 p (HO.tup [])) p1 (HO.tup [V.str fm,V.ref p])):=λH1 fm s1 hf=>⟨Jb (by decide),λp hp=>⟨Jb (by decide),λp1 hp1=>by
   have u1:=Same.upd_new hp (HO.tup []);have u2:=Same.upd_new hp1 (HO.tup [V.str fm,V.ref p]);obtain ⟨F,hF⟩:=Sv.of_tup (ns:=ns) (kds:=kds) (m:=0) (cs:=[]) (u2 _ _ Jd) Jd (by decide) (λ_ z=>nomatch z) hf;exact k _ _ F (S4.trans (s1.trans (u1.trans u2))) hF⟩⟩
  by_cases c3:way=3
  ·rw [zP c3]
   exact ⟨l,_,_,_,rfl,rfl,.of gl,Jg e1,pf,_,_,_,rfl,rfl,.of ef,Jg (j:=0) rfl,Jb (by decide),λr hr=>k _ _ _ (S4.new hr _) (.inl (lk _ r i n e2 Jd))⟩
  rw [zO c3];by_cases c4:way=4
  ·rw [zP c4]
   exact k _ _ _ S4 (.inl (pl H4 (Same.refl _)))
  rw [zO c4];by_cases c5:way=5
  ·rw [zP c5]
   exact ⟨Jb (by decide),λr hr=>k _ _ _ (S4.new hr _) (.inr ⟨r,rfl,.inl ⟨_,_,Jd,pl _ (Same.upd_new hr _),rfl⟩⟩)⟩
  rw [zO c5];by_cases c6:way=6
  ·rw [zP c6]
   obtain ⟨i2,ei2,hi2⟩:=J0M (ns:=is) (k:=b+3) (m:=xs.length) (by omega);obtain ⟨pf2,m,kd2,f1,f2,f3,f4⟩:=hF.at hi2;refine ⟨_,.inl (.of gl),a,is,b+3,_,rfl,S4.seq hs,by omega,by omega,by omega,λH5 s5=>?_⟩;rw [ei2];refine ⟨l,_,_,_,rfl,rfl,.of (s5 _ _ gl),Jg f1,pf2,_,_,_,rfl,rfl,.of ((S4.trans s5) _ _ f4),Jg (j:=0) rfl,Jb (by decide),λr hr=>⟨Jb (by decide),λr2 hr2=>⟨Jb (by decide),λr3 hr3=>?_⟩⟩⟩
   walk_at "nw r hr H6 u1 y1"
   walk_at "nw r2 hr2 H7 u2 y2"
   have u3:=Same.upd_new hr3 (HO.tup [V.str (Str.ofString "some"),V.ref r2]);have U:=s5.trans (u1.trans (u2.trans u3));obtain ⟨F,hF⟩:=Sv.of_tup (ns:=ns) (kds:=kds) (m:=0) (cs:=[(.ref pp,_),(.ref r,_)]) (u3 _ _ y2) Jd (by show 2<=60;decide) (λc hc=>by
    rcases qo.mp hc with rfl | hc
    ·exact pl _ U
    ·rw [qf.mp hc]
     exact lk _ r i2 m f2 (u3 _ _ (u2 _ _ y1))) (.inr rfl)
   exact k _ _ F (S4.trans U) hF
  rw [zO c6];by_cases c7:way=7
  ·rw [zP c7]
   refine ⟨l,_,_,_,rfl,rfl,.of gl,Jg e1,pf,_,_,_,rfl,rfl,.of ef,Jg (j:=1) rfl,rfl,?_⟩;by_cases ck:kd=J1I
   ·rw [zP (congrArg V.str ck)]
    refine ⟨Jb (by decide),λr hr=>?_⟩
    walk_at "nw r hr H5 u1 y1"
    obtain ⟨z,rfl⟩:∃ z,v=.int z:=by
     rcases hvk with ⟨e,_⟩ | ⟨_,z,e,_⟩
     ·rw [ck] at e;cases e
     ·exact ⟨z,e⟩
    rw [ck] at e3;refine ⟨a,is,b+4,2,rfl,(S4.trans u1).seq hs,by omega,by omega,by decide,λH6 s6=>?_⟩;have w:=J33 (ns:=is) (k:=b+4) (m:=2) (by decide);have g6:=s6 _ _ (u1 _ _ g4);have S6:=(S4.trans u1).trans s6;rcases (by omega:drw is (b+4) 2=0\/drw is (b+4) 2=1) with h | h
    ·rw [h]
     exact ⟨r,_,_,_,rfl,rfl,.of (s6 _ _ y1),Jg (j:=0) rfl,pp,_,_,_,rfl,rfl,.of g6,Jg (j:=1) rfl,pp,_,_,_,rfl,rfl,.of g6,Jg (j:=2) rfl,Jb (by decide),λr2 hr2=>k _ _ _ (S6.new hr2 _) (.inl ⟨i,n,e2,r2,rfl,.inr (.inr (.inl ⟨z,Jd,e3,rfl⟩))⟩)⟩
    ·rw [h]
     exact ⟨r,_,_,_,rfl,rfl,.of (s6 _ _ y1),Jg (j:=1) rfl,pp,_,_,_,rfl,rfl,.of g6,Jg (j:=1) rfl,pp,_,_,_,rfl,rfl,.of g6,Jg (j:=2) rfl,Jb (by decide),λr2 hr2=>k _ _ _ (S6.new hr2 _) (.inl ⟨i,n,e2,r2,rfl,.inr (.inr (.inr ⟨z,Jd,e3,rfl⟩))⟩)⟩
   ·rw [zO λe=>ck (V.str.inj e),zO (by omega)]
    exact emp H4 _ (Same.refl _) (.inl rfl)
  rw [zO c7];by_cases c8:way=8
  ·rw [zP c8]
   refine ⟨a,is,b+4,3,rfl,S4.seq hs,by omega,by omega,by decide,λH5 s5=>⟨rfl,?_⟩⟩;by_cases c0:drw is (b+4) 3=0
   ·rw [zP (congrArg V.int c0)]
    exact emp H5 _ s5 (.inr rfl)
   ·rw [zO λe=>c0 (V.int.inj e)]
    exact emp H5 _ s5 (.inl rfl)
  ·rw [zO c8]
   exact emp H4 _ (Same.refl _) (.inl rfl)
def J4w (K:Frag):Nat->Sp
 | 0=>λ_ _ _ _=>False
 | d+1=>λvs H Q _=>∃ l v a ns kds rs F,vs=[.ref l,v,.ref a]/\Ask H ns kds l a rs/\ns.length<=8/\Sv ns kds d H v F/\∀ H',Same H H'->Q (.bl (F rs)) H'
theorem Jey {K:Frag}{x y:Ji}(hx:okN x)(hy:okN y)(q:Q (.bl (decide (x=y))) H):J8S K false (nV x) (nV y) H Q:=by
 have sh:∀ {k:Ji},okN k->SeqAt.shaped (nkD k)=true:=λ{k} hk=>by
  unfold SeqAt.shaped;rw [(J69 hk).1,(J69 hk).2];rfl
 refine ⟨_,_,Jad x,Jad y,sh hx,sh hy,?_⟩;rw [Jez];exact q
theorem J7n {α:Type}(f:α->Bool):∀ cs:List α,(!inV (.bl false) (cs.map λc=>V.bl (f c)))=cs.all f
 | []=>rfl
 | c::cs=>by
   show (!(eqV (.bl (f c)) (.bl false)||inV (.bl false) (cs.map λc=>V.bl (f c))))=(f c&&cs.all f);rw [<- J7n f cs];cases f c<;>rfl
theorem J7m {α:Type}(f:α->Bool):∀ cs:List α,inV (.bl true) (cs.map λc=>V.bl (f c))=cs.any f
 | []=>rfl
 | c::cs=>by
   show (eqV (.bl (f c)) (.bl true)||inV (.bl true) (cs.map λc=>V.bl (f c)))=(f c||cs.any f);rw [<- J7m f cs];cases f c<;>rfl
theorem st_l_lets (T:Txt K mg f fd)(dp:Nat)(ih:FnOk P w K mg base CX0 (1+dp) (f 73) (fd 73) ["_law_fields_here","_law_sieve_here","_law_row_here"] (J4w K dp)):FnOk P w K mg base CX0 (1+dp+1) (f 73) (fd 73) ["_law_fields_here","_law_sieve_here","_law_row_here"] (J4w K (dp+1)):=by
 walk_at "ok wu J6W"
 ·walk_at "ln"
 ·obtain ⟨l,v,a,ns,kds,rs,F,rfl,hA,hfew,hS,k⟩:=h
  refine ⟨_,(Ja (Jw (Jo JE (Jn (Ju rfl) (pvl 1) Jc (λ_ _=>rfl)) Jl (Jm _))
   (Je (Jk (JcD (Jh T.wu ih (hr.mono (by omega)) rfl (by decide) rfl (pal rfl (pvc 0) (pal rfl (Jn (Ju rfl) (pvl 1) Jc (λ_ _=>rfl)) (pal rfl (pvc 2) J9)))))))
   Jp)
   (Ja (Jw (Jo JE (Jn (Ju rfl) (pvl 1) Jc (λ_ _=>rfl)) Jl (Jm _))
   (Je (Jk (JL (Jed rfl) JV (JJ ["_law_one"] J0t rfl (show CompSc _ (Jf J2c) J0t J0t from Jv (by decide +kernel)) (J2g rfl (Jn (Ju rfl) (pvl 1) Jc (λ_ _=>rfl))) (λ_ _ _ _ _=>(pgl 0 (show ("_law_one"::J0t:List Str).Nodup by decide +kernel))) (λ_ _ _ _ _=>JI) (λ_ _ _ _ _=>(Jh T.wu ih (hr.mono (by omega)) rfl (by decide) rfl (pal rfl (pvc 1) (pal rfl (pvl 0) (pal rfl (pvc 3) J9)))))) rfl)))
   Jp)
   (Ja (Jw (Jo JE (Jn (Ju rfl) (pvl 1) Jc (λ_ _=>rfl)) Jl (Jm _))
   (Je (Jk (JL (JcX rfl) JV (JJ ["_law_one"] J0t rfl (show CompSc _ (Jf J2c) J0t J0t from Jv (by decide +kernel)) (J2g rfl (Jn (Ju rfl) (pvl 1) Jc (λ_ _=>rfl))) (λ_ _ _ _ _=>(pgl 0 (show ("_law_one"::J0t:List Str).Nodup by decide +kernel))) (λ_ _ _ _ _=>JI) (λ_ _ _ _ _=>(Jh T.wu ih (hr.mono (by omega)) rfl (by decide) rfl (pal rfl (pvc 1) (pal rfl (pvl 0) (pal rfl (pvc 3) J9)))))) rfl)))
   Jp)
   (Ja (psl 3 J6W.nd (Jn (Ju rfl) (pvc 2) (J1Q rfl qJ PySem.F.slot_list_index PySem.F.type_list_index (J9e rfl) rfl rfl rfl rfl (JJ ["_law_field"] J0t rfl (show CompSc _ (Jf J2c) J0t J0t from Jv (by decide +kernel)) (J0B rfl (pvc 0)) (λ_ _ _ _ _=>(pgl 0 (show ("_law_field"::J0t:List Str).Nodup by decide +kernel))) (λ_ _ _ _ _=>JI) (λ_ _ _ _ _=>(Jn (Ju rfl) (pvl 0) Jc (λ_ _=>rfl)))) (pal rfl (Jn (Ju rfl) (pvl 1) Jc (λ_ _=>rfl)) J9)) (λ_ _=>rfl)))
   (Ja (Jw (Jo JE (Jn (Ju rfl) (pvl 1) Jc (λ_ _=>rfl)) Jl (Jm _))
   (Je (Jk (JL J3W (pvl 3) J0W (Jm _))))
   Jp)
   (Ja (Jw (PW.pt (J2U (Jo JE (Jn (Ju rfl) (pvl 1) Jc (λ_ _=>rfl)) Jl (Jm _)) (J1E (Jo J3W (pvl 3) J0W (Jm _)))))
   (Je (Jk (J2V (JL JaJ (pvl 3) J0W (Jm _)) (J3V (JL (J6d rfl hr.units) (pvl 3) (Jn (Ju rfl) (pvl 1) Jc (λ_ _=>rfl)) (Jm _))))))
   Jp)
   (Je (Jk (Jn (J05 rfl) (J0g (pal rfl (JL Jf8 (pvl 3) (Jn (Ju rfl) (pvl 1) Jc (λ_ _=>rfl)) (Jm _)) (pal rfl (JL Jf9 (pvl 3) (Jn (Ju rfl) (pvl 1) Jc (λ_ _=>rfl)) (Jm _)) J9))) (J0z J3u T.wq J4T rfl (by decide) (by decide) rfl (pal rfl (JL JE (Jn (Ju rfl) (pvl 1) Jc (λ_ _=>rfl)) Jl (Jm _)) J9)) (λ_ _=>rfl)))))))))),?_⟩
  generalize hB:J14 (J4t _ (JN 3)) _=B;walk_at "dc";rcases hS.out with hp | ⟨d,p,rfl,rfl,⟨x,G,h1,h2,rfl⟩ | ⟨q,cs,h1,h2,h3,⟨h4,rfl⟩ | ⟨h4,rfl⟩⟩⟩
  ·obtain ⟨j,n,hj,hpj⟩:=hp
   obtain ⟨p,fm,rest,rfl,hp1,n1,n2,n3⟩:=hpj.form;have ix0:∀ R:VK,R (.str fm) H->J4K K (.ref p) (.int 0) H R:=λR r=>⟨p,_,_,_,rfl,rfl,.of hp1,Jg (j:=0) rfl,r⟩;refine ix0 _ ⟨rfl,?_⟩;rw [zO (by simpa using n1)];refine ix0 _ ⟨rfl,?_⟩;rw [zO (by simpa using n2)];refine ix0 _ ⟨rfl,?_⟩;rw [zO (by simpa using n3)];obtain ⟨xs,g1,g2,g4,g5⟩:=hA;have hjk:j<kds.length:=by rw [g2.2.1,<- g2.1];exact (qd.mp hj).1
   obtain ⟨y,hy,hk⟩:=Jcm g5 (qc hjk);subst hB;walk_at "dl";refine ⟨⟨_,.of g1⟩,?_⟩;refine JM (JC (xs:=xs)) (Jb (by have:=g2.1;have:=hfew;omega)) (λi ys H'=>H'=H/\ys=(ns.take i).map V.str) ⟨rfl,rfl⟩ (λ_ _ H' _ q=>by rw [q.1];exact .of g1) (λi ys H' q=>by rw [q.2,qe,qk];omega) (λi x ys H3 hx q=>?_) (λys H3 q D hD=>?_)
   ·obtain ⟨rfl,rfl⟩:=q
    obtain ⟨pf,n',kd',e1,en,ek,ef⟩:=g2.at (i:=i) (qd.mp hx).1;obtain rfl:x=.ref pf:=zU (hx.symm.trans e1);walk_at "dl";exact ⟨pf,_,_,_,rfl,rfl,.of ef,Jg (j:=0) rfl,⟨_,rfl⟩,rfl,by rw [JF en,qt];rfl⟩
   ·obtain ⟨rfl,rfl⟩:=q
    rw [<- g2.1,qr]
    walk_at "nw D hD H4 u3 g3"
    refine ⟨.inl ⟨rfl,_,.of g3⟩,p,_,_,_,rfl,rfl,.of (u3 _ _ hp1),Jg (j:=1) rfl,ns,n,rfl,.of g3,j,hj,λm hm z=>absurd (J16 g2.2.2.1 z hj) (by omega),a,rs,_,y,rfl,rfl,.of (u3 _ _ g4),Jg hy,?_⟩;have hkd:=qc hjk;generalize kds[j]=kd at hkd hk;have S:Same H3 H4:=u3;obtain ⟨p',ep,hp⟩:=hpj.mono (Same.t u3);obtain rfl:p=p':=V.ref.inj ep;have ix:∀ (G:Hp) (fm:Str) (r:List V) (R:VK),G p=some (.tup (.str fm::r))->R (.str fm) G->J4K K (.ref p) (.int 0) G R:=λG fm r R h q=>⟨p,_,_,_,rfl,rfl,.of h,Jg (j:=0) rfl,q⟩;have i2:∀ (a b x:V) (R:VK),H4 p=some (.tup [a,b,x])->R x H4->J4K K (.ref p) (.int 2) H4 R:=λa b x R h q=>⟨p,_,_,_,rfl,rfl,.of h,Jg (j:=2) rfl,q⟩;rcases hp with ⟨h,rfl⟩ | ⟨x,kd',h,hkd',hx,rfl⟩ | ⟨i,h,hkd',rfl⟩ | ⟨i,h,hkd',rfl⟩
    ·refine ix _ _ _ _ h ⟨rfl,?_⟩
     rw [zP rfl,show decide (y=V.non)=decide (rs[j]?=some V.non) by rw [hy];simp];exact k _ S
    all_goals
     obtain rfl:=zU (hkd.symm.trans hkd');refine ix _ _ _ _ h ⟨rfl,?_⟩;rw [zO (by decide)];refine ix _ _ _ _ h ⟨rfl,?_⟩
    ·rw [zP rfl]
     have k:Q (V.bl (decide (y=x))) H4:=by
      rw [show decide (y=x)=decide (rs[j]?=some x) by rw [hy];simp];exact k _ S
     by_cases hn:y=.non
     ·rw [zO (by simpa using hn)]
      rw [zT (by rw [hn];rcases hx with ⟨_,z,rfl,_⟩ | ⟨_,i,rfl⟩<;>simp)] at k;exact k
     ·rw [zP (by simpa using hn)]
      refine i2 _ _ _ _ h ?_;obtain ⟨a1,a2⟩:=J9F (.inr (hk.resolve_left hn));obtain ⟨b1,b2⟩:=J9F (.inr hx);have e:decide (toN y=toN x)=decide (y=x):=decide_eq_decide.mpr ⟨λz=>by rw [<- a1,<- b1,z],λz=>by rw [z]⟩;rw [<- e] at k;have:=Jey (K:=K) (H:=H4) (Q:=Q) a2.ok b2.ok k;rwa [a1,b1] at this
    all_goals
     rw [zO (by decide)];have hm:y=.non\/∃ m,y=.int m:=by
      rcases hk with h | ⟨e,_⟩ | ⟨_,m,h⟩
      ·exact .inl h
      ·cases e
      ·exact .inr ⟨m,h⟩
     rcases hm with rfl | ⟨m,rfl⟩
     ·rw [zP rfl,zO (by decide)]
      simp only [hy] at k;exact k _ S
     ·rw [zO (by simp)]
      simp only [hy] at k;refine i2 _ _ _ _ h ?_;unfold JfQ;refine i2 _ _ _ _ h ⟨rfl,Jb (by decide),λp1 hp1=>ix _ _ _ _ (Same.upd_new hp1 _ _ _ h) ⟨rfl,?_⟩⟩
      first
      | rw [zP rfl]
        exact ⟨p1,_,_,_,rfl,rfl,.of Jd,Jg (j:=1) rfl,k _ (S.new hp1 _)⟩
      | rw [zO (by decide)]
        exact ⟨p1,_,_,_,rfl,rfl,.of Jd,Jg (j:=0) rfl,k _ (S.new hp1 _)⟩
  ·refine ⟨p,_,_,_,rfl,rfl,.of h1,Jg (j:=0) rfl,rfl,?_⟩
   rw [zP (by decide)];exact ⟨p,_,_,_,rfl,rfl,.of h1,Jg (j:=1) rfl,l,x,a,ns,kds,rs,G,rfl,hA,hfew,h2,λH1 s1=>⟨_,rfl,k H1 s1⟩⟩
  all_goals
   refine ⟨p,_,_,_,rfl,rfl,.of h4,Jg (j:=0) rfl,rfl,?_⟩;rw [zO (by decide)];refine ⟨p,_,_,_,rfl,rfl,.of h4,Jg (j:=0) rfl,rfl,?_⟩
   first
   | rw [zP (by decide)]
   | rw [zO (by decide)]
     refine ⟨p,_,_,_,rfl,rfl,.of h4,Jg (j:=0) rfl,rfl,?_⟩;rw [zP (by decide)]
   refine ⟨p,_,_,_,rfl,rfl,.of h4,Jg (j:=1) rfl,q,rfl,⟨_,.of h1⟩,?_⟩;refine comp_of (as:=cs) (g:=Prod.fst) J0q (Jb (by omega)) (λH' s=>s.seqT (.of h1)) (λ_=>true) (λc=>.bl (c.2 rs)) (λ_ H1 Q _ _ q=>q H1 (Same.refl _)) (λc H1 Q hc _ s1 q=>?_) (λH1 s1 D hD=>?_)
   ·walk_at "dc"
    exact ⟨l,c.1,a,ns,kds,rs,c.2,rfl,hA.mono s1,hfew,(h3 c hc).mono (Same.t s1),q⟩
   ·rw [J0i]
    refine ⟨D,_,rfl,.inl (.of Jd),rfl,?_,?_⟩
    ·rw [all_map,all_eq_true]
     intro _ _;rfl
    ·first
     | rw [zP rfl,J7n λc:V×(List V->Bool)=>c.2 rs]
     | rw [zO zR,J7m λc:V×(List V->Bool)=>c.2 rs]
     exact k _ (s1.new hD _)
theorem J73 (T:Txt K mg f fd):∀ dp:Nat,FnOk P w K mg base CX0 (1+dp) (f 73) (fd 73) ["_law_fields_here","_law_sieve_here","_law_row_here"] (J4w K dp)
 | 0=>⟨λ_ _ _ _ h=>qa h,λ_ _ _ _ _ _ _ _ _ _ _ _ _ h=>qa h⟩
 | dp+1=>st_l_lets T dp (J73 T dp)
structure StAt (H:Hp)(d l v n0 n1 fg dr:Addr)(sv:V)(xs fvs:List V)(gs:List Fg)(ns kds:List Str)(is0 is1:List Nat)(nrs:List NR)(F:List V->Bool):Prop where
 d:∃ kvs,H d=some (.dK kvs)/\Jy kvs (.inr "fields")=some (.ref l)/\Jy kvs (.inr "view")=some (.ref v)/\Jy kvs (.inr "rows")=some (.ref dr)/\Jy kvs (.inr "sieve")=some sv
 vw:VwOk H l v n0 n1 fg xs fvs gs ns kds is0 is1
 sv:Sv ns kds 1 H sv F
 rw:∃ kvs ks,H dr=some (.dK kvs)/\RwK H kds kvs ks/\RwN H kds kvs nrs/\kvs.length<=12
 x8:xs.length<=8
theorem StAt.mono {v:Addr}(s:Same H H')(h:StAt H d l v n0 n1 fg dr sv xs fvs gs ns kds is0 is1 nrs F):StAt H' d l v n0 n1 fg dr sv xs fvs gs ns kds is0 is1 nrs F :=
 ⟨h.d.imp λ_ z=>⟨s _ _ z.1,z.2⟩,h.vw.mono s,h.sv.mono (Same.t s),h.rw.imp λ_ z=>z.imp λ_ y=>⟨s _ _ y.1,y.2.1.mono s,y.2.2.1.mono s,y.2.2.2⟩,h.x8⟩
def sdI (sd:Str)(is0 is1:List Nat):List Nat:=if sd="columns" then is1 else is0
inductive Q_l_places (K:Frag)(vs:List V)(H:Hp)(Q:VK):Prop
 | mk (d l v n0 n1 fg dr:Addr) (sd:Str) (sv:V) (xs fvs:List V) (gs:List Fg) (ns kds:List Str) (is0 is1:List Nat) (nrs:List NR) (F:List V->Bool) (u0_:vs=[.ref d,.str sd]) (u1_:StAt H d l v n0 n1 fg dr sv xs fvs gs ns kds is0 is1 nrs F) (u2_:∀ H' q,Same H H'->H' q=some (.lst ((sdI sd is0 is1).map λ(i:Nat)=>V.int (i:Int)))->Q (.ref q) H'):Q_l_places K vs H Q
def J8y (K:Frag):Sp:=λvs H Q _=>Q_l_places K vs H Q
theorem ok_l_places (T:Txt K mg f fd):FnOk P w K mg base CX0 1 (f 74) (fd 74) ["_law_state","_law_side"] (J8y K):=by
 walk_at "ok wP J4Y"
 ·walk_at "ln"
 ·obtain ⟨d,l,v,n0,n1,fg,dr,sd,sv,xs,fvs,gs,ns,kds,is0,is1,nrs,F,rfl,hS,k⟩:=h
  obtain ⟨kvs,hd,k1,k2,k3,k4⟩:=hS.d;have g1:=hS.vw.b.l;have g2:=hS.vw.b.F;have x8:=hS.x8;refine ⟨_,(Ja (psc 2 J4Y.nd (JJ ["_law_field"] J0A rfl (show CompSc _ (Jf J1w) J0A J0A from Jv (by decide +kernel)) (J0B rfl (JQ (JH hr) (pvl 0) Jl (λ_ _=>rfl))) (λ_ _ _ _ _=>(pgl 0 (show ("_law_field"::J0A:List Str).Nodup by decide +kernel))) (λ_ _ _ _ _=>JI) (λ_ _ _ _ _=>(Jn (Ju rfl) (pvl 0) Jc (λ_ _=>rfl)))))
   (Je (Jk (JJ ["_law_name"] J0A rfl (show CompSc _ (Jf J1w) J0A J0A from Jv (by decide +kernel)) (J2g rfl (Jn (Ju rfl) (JQ (JH hr) (pvl 0) Jl (λ_ _=>rfl)) (J0z J3u T.wq J4T rfl (by decide) (by decide) rfl (pal rfl (JL JE (pvl 1) Jl (Jm _)) J9)) (λ_ _=>rfl))) (λ_ _ _ _ _=>(pgl 0 (show ("_law_name"::J0A:List Str).Nodup by decide +kernel))) (λ_ _ _ _ _=>JI) (λ_ _ _ _ _=>(J1Q rfl qJ PySem.F.slot_list_index PySem.F.type_list_index (J9e rfl) rfl rfl rfl rfl (pvc 3) (pal rfl (pvl 0) J9))))))),?_⟩
  walk_at "dl";refine ⟨_,J2E hd k1,l,rfl,⟨_,.of g1⟩,?_⟩;refine JM (JC (xs:=xs)) (Jb (by omega)) (λi ys H'=>H'=H/\ys=(ns.take i).map V.str) ⟨rfl,rfl⟩ (λ_ _ H' _ q=>by rw [q.1];exact .of g1) (λi ys H' q=>by rw [q.2,qe,qk];omega) (λi x ys H3 hx q=>?_) (λys H3 q D hD=>?_)
  ·obtain ⟨rfl,rfl⟩:=q
   obtain ⟨pf,n',kd',e1,en,ek,ef⟩:=g2.at (i:=i) (qd.mp hx).1;obtain rfl:x=.ref pf:=zU (hx.symm.trans e1);walk_at "dl";exact ⟨pf,_,_,_,rfl,rfl,.of ef,Jg (j:=0) rfl,⟨_,rfl⟩,rfl,by rw [JF en,qt];rfl⟩
  ·obtain ⟨rfl,rfl⟩:=q
   rw [<- g2.1,qr]
   walk_at "nw D hD H4 u3 g3"
   have hV:=(hS.vw.mono u3).b.vw;have hsd:∃ ln is,(if sd="columns" then (1:Int) else 0)=(if sd="columns" then (1:Int) else 0)/\atI [V.ref n0,V.ref n1,V.ref fg] (if sd="columns" then 1 else 0)=some (.ref ln)/\H4 ln=some (nmT ns is)/\sdI sd is0 is1=is/\(∀ i∈is,i<kds.length)/\is.length<=3:=by
    unfold sdI;by_cases c:sd="columns"
    ·rw [zP c,zP c]
     exact ⟨n1,is1,rfl,Jg (j:=1) rfl,hV.n1,rfl,hV.i1,hV.few1⟩
    ·rw [zO c,zO c]
     exact ⟨n0,is0,rfl,Jg (j:=0) rfl,hV.n0,rfl,hV.i0,hV.few0⟩
   obtain ⟨ln,is,_,a1,a2,a3,a4,a5⟩:=hsd;rw [a3] at k;unfold nmT at a2;refine ⟨_,J2E (u3 _ _ hd) k2,v,_,_,.ref ln,rfl,rfl,.of hV.v,?_,ln,rfl,⟨_,.of a2⟩,?_⟩
   ·exact a1
   refine comp_of (as:=is) (g:=λi=>V.str (ns.getD i JO)) J0q (Jb (by omega)) (λH' s=>s.seqT (.of a2)) (λ_=>true) (λi=>V.int (i:Int)) (λ_ H1 Q _ _ q=>q H1 (Same.refl _)) (λi H1 Q hc _ s1 q=>?_) (λH1 s1 D2 hD2=>?_)
   ·walk_at "dl"
    have hik:=a4 i hc;have e1:ns[i]?=some (ns.getD i JO):=by rw [qh,qc (by rw [g2.1,<- g2.2.1];exact hik)];rfl
    exact ⟨.inl ⟨rfl,_,.of (s1 _ _ g3)⟩,ns,.of (s1 _ _ g3),i,e1,λm hm z=>absurd (J16 g2.2.2.1 z e1) (by omega),q _ (Same.refl _)⟩
   ·rw [J0i]
    exact k _ D2 (u3.trans (s1.new hD2 _)) Jd
inductive Q_l_there (K:Frag)(vs:List V)(H:Hp)(Q:VK):Prop
 | mk (d l v n0 n1 fg dr:Addr) (sv:V) (xs fvs:List V) (gs:List Fg) (ns kds:List Str) (is0 is1:List Nat) (nrs:List NR) (F:List V->Bool) (u0_:vs=[.ref d]) (u1_:StAt H d l v n0 n1 fg dr sv xs fvs gs ns kds is0 is1 nrs F) (u2_:∀ H' q,Same H H'->H' q=some (.lst ((nrs.filter λnr=>F nr.2).map λnr=>V.int nr.1))->Q (.ref q) H'):Q_l_there K vs H Q
def J9I (K:Frag):Sp:=λvs H Q _=>Q_l_there K vs H Q
theorem ok_l_there (T:Txt K mg f fd):FnOk P w K mg base CX0 7 (f 75) (fd 75) ["_law_state"] (J9I K):=by
 walk_at "ok yB J5R"
 ·walk_at "ln"
 ·obtain ⟨d,l,v,n0,n1,fg,dr,sv,xs,fvs,gs,ns,kds,is0,is1,nrs,F,rfl,hS,k⟩:=h
  obtain ⟨kvs,hd,k1,k2,k3,k4⟩:=hS.d;obtain ⟨rws,ks,hr',hK,hN,h12⟩:=hS.rw;have hlk:=hK.len;have hlr:=Paired.length hN;have x8:=hS.x8;have hln:=hS.vw.b.F.1;refine ⟨_,(Ja (psc 1 J5R.nd (JQ (JH hr) (pvc 0) Jl (λ_ _=>rfl)))
   (Je (Jk (JJ ["_law_number_here"] J3k rfl (show CompSc _ (Jf J3a) J3k J3k from Jv (by decide +kernel)) (J0B rfl (Jt (J4n rfl) T.wE J7g rfl (by decide) (by decide) rfl (pal rfl (pvc 1) J9))) (λ_ _ _ _ _=>(pgl 0 (show ("_law_number_here"::J3k:List Str).Nodup by decide +kernel))) (λ_ _ _ _ _=>(J5q (J0a (Jh T.wu (J73 T 5) (hr.mono (by decide)) rfl (by decide) rfl (pal rfl (JQ (JH hr) (pvc 1) Jl (λ_ _=>rfl)) (pal rfl (JQ (JH hr) (pvc 1) Jl (λ_ _=>rfl)) (pal rfl (JQ (JH hr) (pvc 2) (pvl 0) (λ_ _=>rfl)) J9))))))) (λ_ _ _ _ _=>(pvl 0)))))),?_⟩
  walk_at "dl";refine ⟨_,J2E hd k3,dr,rfl,rws,hr',ks,hK.k,by omega,λpm ms hpm hms hup=>?_⟩;obtain rfl:ms=ks:=perm_one (le:=λa b:Int=>a<=b) (λa b h1 h2=>by omega) hms hup (hK.up.imp λ{a b} q=>by omega)
  walk_at "nw pm hpm H1 u1 g1"
  refine ⟨⟨_,.of g1⟩,?_⟩;refine JM (JC (xs:=ms.map V.int)) (by rw [qe];exact Jb (by omega)) (λi ys H'=>Same H1 H'/\ys=((nrs.take i).filter λnr=>F nr.2).map λnr=>V.int nr.1) ⟨Same.refl _,rfl⟩ (λ_ _ H' _ q=>q.1.seq (.of g1)) (λi ys H' q=>by
   have l1:=length_filter_le (λnr:NR=>F nr.2) (nrs.take i);rw [qk] at l1;rw [q.2,qe];omega) (λi x ys H5 hx q=>?_) (λys H5 q D hD=>?_)
  ·obtain ⟨t1,rfl⟩:=q
   have S5:=u1.trans t1;rw [qq] at hx;obtain ⟨n,hn,rfl⟩:=Option.map_eq_some_iff.mp hx;obtain ⟨r,rs,e1,e2,e3,e4⟩:=hK.at hn;obtain ⟨⟨n',rs'⟩,hrs,en,r',e5,e6,e7⟩:=Paired.ix hN e1;obtain rfl:n=n':=by injection en
   obtain rfl:r'=r:=by injection e5 with e5;exact e5.symm
   have hS5:=hS.mono S5;walk_at "dl";refine ⟨_,J2E (S5 _ _ hd) k1,_,J2E (S5 _ _ hd) k4,_,.inl ⟨_,.inl n,.inl (S5 _ _ hr'),rfl,e2.symm⟩,l,sv,r',ns,kds,rs',F,rfl,⟨xs,hS5.vw.b.l,hS5.vw.b.F,S5 _ _ e6,e7.ok⟩,by omega,hS5.sv.le (by decide),λH6 s6=>⟨_,rfl,?_⟩⟩;rw [JF hrs,filter_append,filter_cons,filter_nil];cases hF:F rs' with
   | true =>
     rw [zP rfl,zP rfl,qt];exact ⟨⟨_,rfl⟩,t1.trans s6,rfl⟩
   | false =>
     rw [zO zR,zO zR,append_nil];exact ⟨⟨_,rfl⟩,t1.trans s6,rfl⟩
  ·obtain ⟨t1,rfl⟩:=q
   rw [qe,show ms.length=nrs.length by omega,qr];exact k _ D (u1.trans (t1.new hD _)) Jd
def Jce (K:Frag):Sp:=λvs H Q _=>∃ (b:Addr) (ks:List Ji),vs=[.ref b]/\H b=some (.tup (ks.map nV))/\ks.length<=8/\∀ H' v,Same H H'->KeyV H' v ks->Q v H'
theorem ok_l_key (T:Txt K mg f fd):FnOk P w K mg base CX0 1 (f 76) (fd 76) ["_law_path"] (Jce K):=by
 walk_at "ok wQ Jch"
 ·walk_at "ln"
 ·obtain ⟨b,ks,rfl,hb,hl,k⟩:=h
  refine ⟨_,(Je (Jk (JJ ["_law_value"] J5u rfl (show CompSc _ (Jf J5p) J5u J5u from Jv (by decide +kernel)) (J2g rfl (pvl 0)) (λ_ _ _ _ _=>(pgl 0 (show ("_law_value"::J5u:List Str).Nodup by decide +kernel))) (λ_ _ _ _ _=>JI) (λ_ _ _ _ _=>(Jn (J05 rfl) (J0g (pal rfl (Jz (pal rfl Jc (pal rfl (pvl 0) J9))) (pal rfl (Jz (pal rfl Jc (pal rfl Jc J9))) J9))) (J0z J3u T.wq J4T rfl (by decide) (by decide) rfl (pal rfl (JL J3W (pvl 0) J0W (Jm _)) J9)) (λ_ _=>rfl)))))),?_⟩;walk_at "dl";refine ⟨⟨_,.of hb⟩,?_⟩;refine JM (J0q (xs:=ks.map nV)) (by rw [qe];exact Jb (by omega)) (λi ys H'=>Same H H'/\Prs H' ys (ks.take i)) ⟨Same.refl _,.nil⟩ (λ_ _ H' _ q=>q.1.seqT (.of hb)) (λi ys H' q=>by rw [Paired.length q.2,qk];omega) (λi x ys H2 hx q=>?_) (λys H2 q D hD=>?_)
  ·obtain ⟨t1,hy⟩:=q
   rw [qq] at hx;obtain ⟨kk,hkk,rfl⟩:=Option.map_eq_some_iff.mp hx;walk_at "dl";refine ⟨Jb (by decide),λp1 hp1=>⟨Jb (by decide),λp2 hp2=>⟨Jb (by decide),λp3 hp3=>?_⟩⟩⟩
   walk_at "nw p1 hp1 H3 u1 g1"
   walk_at "nw p2 hp2 H4 u2 g2"
   walk_at "nw p3 hp3 H5 u3 g3"
   have U:=u1.trans (u2.trans u3);rw [JF hkk];cases kk with
   | none =>
     rw [zP (by rfl)];exact ⟨p3,_,_,_,rfl,rfl,.of g3,Jg (j:=1) rfl,⟨_,rfl⟩,t1.trans U,Paired.snoc (hy.mono U) ⟨p2,rfl,u3 _ _ g2⟩⟩
   | some kk =>
     rw [zO (by cases kk<;>simp [nV,kV])];exact ⟨p3,_,_,_,rfl,rfl,.of g3,Jg (j:=0) rfl,⟨_,rfl⟩,t1.trans U,Paired.snoc (hy.mono U) ⟨p1,rfl,u3 _ _ (u2 _ _ g1)⟩⟩
  ·obtain ⟨t1,hy⟩:=q
   rw [qe,qr] at hy;exact k _ _ (t1.new hD _) ⟨D,_,rfl,Jd,hy.mono (Same.upd_new hD _)⟩
theorem J7r {a:List (List Ji)}{k x:List Ji}(h:x∈a):x∈J4U a k:=J2h.mpr (.inl h)
theorem J6o {is:List Nat}{rs:List V}{x:List Ji}{a:List (List Ji)}(h:x∈a):∀ m,x∈J36 is rs m a
 | 0=>h
 | m+1=>by rw [J0X];exact J7r (J6o h m)
theorem J6p {is:List Nat}{rs:List V}{x:List Ji}{a:List (List Ji)}(h:x∈a):x∈J0Y is a rs:=J6o h (is.length+1)
theorem J84 {is:List Nat}:∀ {rss:List (List V)} {a:List (List Ji)},[]∈a->[]∈rss.foldl (J0Y is) a
 | [],_,h=>h
 | rs::rss,a,h=>J84 (rss:=rss) (J6p h)
theorem JbW {is:List Nat}{rs:List V}{a:List (List Ji)}(h:[]∈a):J36 is rs 1 a=a:=by
 show J4U a ((pj is rs).take 0)=a;rw [take_zero];unfold J4U;rw [zP (J4l.mpr h)]
theorem Je0 {is:List Nat}{rs:List V}(hR:J58 kds rs)(hi:∀ i∈is,i<kds.length)(m:Nat):((pj is rs).take m).map nV=(is.take m).map λi=>rs.getD i .non:=by
 rw [map_take,(J8X hR hi).2,map_take]
theorem Jev {K:Frag}{k:Nat}(ha:H a=some (.tup xs))(q:∀ c H',Same H H'->H' c=some (.tup (xs.take k))->Q (.ref c) H'):JaC K (.ref a) none (some (k:Int)) H Q :=
 ⟨a,xs,rfl,.of ha,λhw=>q a H (Same.refl _) (by
  have:=hw.2;rw [HT.sIx_nat] at this;rw [take_of_length_le (by omega)];exact ha),λ_ p hp=>q p _ (Same.upd_new hp _) (by rw [Jd,J34])⟩
theorem RwN.row (h:RwN H kds kvs nrs)(nd:(kvs.map (·.1)).Nodup){nr:NR}(hm:nr∈nrs):∃ r,Jy kvs (.inl nr.1)=some (.ref r)/\H r=some (.tup nr.2)/\RowS kds nr.2:=by
 obtain ⟨i,hi⟩:=qx.mp hm;have e:=qc (show i<kvs.length by rw [Paired.length h];exact (qd.mp hi).1);obtain ⟨nr',hn,e1,r,e2,e3,e4⟩:=Paired.ix h e;obtain rfl:nr=nr':=zU (hi.symm.trans hn);refine ⟨r,J7t (i:=i) nd ?_,e3,e4⟩;rw [e,<- e1,<- e2]
def J8O (rs:List V)(i:Nat):V:=rs.getD i .non
def rsF (nrs:List NR)(F:List V->Bool):List (List V):=(nrs.filter λnr=>F nr.2).map Prod.snd
inductive Q_l_heads (K:Frag)(vs:List V)(H:Hp)(Q:VK):Prop
 | mk (d l v n0 n1 fg dr:Addr) (sd:Str) (sv:V) (xs fvs:List V) (gs:List Fg) (ns kds:List Str) (is0 is1:List Nat) (nrs:List NR) (F:List V->Bool) (u0_:vs=[.ref d,.str sd]) (u1_:StAt H d l v n0 n1 fg dr sv xs fvs gs ns kds is0 is1 nrs F) (u2_:∀ H' p ts kss,Same H H'->H' p=some (.lst ts)->TupsV H' ts kss->J0T (sdI sd is0 is1) kds (rsF nrs F) kss->Q (.ref p) H'):Q_l_heads K vs H Q
def J9M (K:Frag):Sp:=λvs H Q _=>Q_l_heads K vs H Q
theorem ok_l_heads (T:Txt K mg f fd):FnOk P w K mg base CX0 8 (f 77) (fd 77) ["_law_state","_law_side"] (J9M K):=by
 walk_at "ok wA J0U"
 ·walk_at "ln"
 ·obtain ⟨d,l,v,n0,n1,fg,dr,sd,sv,xs,fvs,gs,ns,kds,is0,is1,nrs,F,rfl,hS,k⟩:=h
  obtain ⟨kvs,hd,k1,k2,k3,k4⟩:=hS.d;obtain ⟨rws,ks,hr',hK,hN,h12⟩:=hS.rw;have hlr:=Paired.length hN;have hi:∀ i∈sdI sd is0 is1,i<kds.length:=by unfold sdI;split;exact hS.vw.b.vw.i1;exact hS.vw.b.vw.i0
  have h3:(sdI sd is0 is1).length<=3:=by unfold sdI;split;exact hS.vw.b.vw.few1;exact hS.vw.b.vw.few0
  refine ⟨_,(Ja (psl 2 J0U.nd (J15 (JH hr) (Jz J9) JV))
   (Ja (psl 3 J0U.nd (Jh T.wP (ok_l_places T) (hr.mono (by decide)) rfl (by decide) rfl (pal rfl (pvc 0) (pal rfl (pvl 1) J9))))
   (Ja (J0f PassesOwn.never rfl (J0B rfl (Jh T.yB (ok_l_there T) (hr.mono (by decide)) rfl (by decide) rfl (pal rfl (pvc 0) J9))) (pgc 4 J0U.nd)
   (Ja (psl 5 J0U.nd (J0z (J1P rfl) T.wg J03 rfl (by decide) (by decide) rfl (pal rfl (JJ ["_law_k"] J3n rfl (show CompSc _ (Jf J3d) J3n J3n from Jv (by decide +kernel)) (J0B rfl (pvl 3)) (λ_ _ _ _ _=>(pgl 0 (show ("_law_k"::J3n:List Str).Nodup by decide +kernel))) (λ_ _ _ _ _=>JI) (λ_ _ _ _ _=>(Jn (Ju rfl) (JQ (JH hr) (JQ (JH hr) (pvc 1) Jl (λ_ _=>rfl)) (pvc 5) (λ_ _=>rfl)) (pvl 0) (λ_ _=>rfl)))) J9)))
   (Je (J0f PassesOwn.never rfl (J0m rfl T.wl (pal rfl (Jt (JW rfl) T.wa JA rfl (by decide) (by decide) rfl (pal rfl (pvl 5) J9)) J9)) (pgl 6 J0U.nd)
   (Je (J1k (JH hr) (pvl 2) (J0s (J85 rfl) (pvl 5) J0Q (J0D (Jq Jx (pvl 6) Jc))) JV rfl))))))
   (Je (Jk (J8Z (ok_l_key T) (hr.mono (by decide)) T.wQ.b T.wQ.m rfl (by decide) rfl rfl rfl T.wE rfl (pal rfl (pvl 2) J9))))))),?_⟩
  walk_at "dl";intro p hp;refine ⟨zZ _,λp1 hp1=>?_⟩;have ne:p≠p1:=λe=>by rw [<- e,Jd] at hp1;cases hp1
  refine ⟨(Jj ne).trans Jd,[],Jd,?_⟩;have s1:Same H (upd (upd (upd H p (HO.dT [])) p1 (HO.tup [])) p (HO.dT [([],V.bl true)])):=((Same.upd_new hp _).new hp1 _).set hp _;have g1:upd (upd (upd H p (HO.dT [])) p1 (HO.tup [])) p (HO.dT [([],V.bl true)]) p=some (HO.dT [([],V.bl true)]):=Jd;generalize upd (upd (upd H p (HO.dT [])) p1 (HO.tup [])) p (HO.dT [([],V.bl true)])=H1 at *;refine ⟨d,l,v,n0,n1,fg,dr,sd,sv,xs,fvs,gs,ns,kds,is0,is1,nrs,F,rfl,hS.mono s1,λH2 pc s2 gc=>?_⟩;generalize sdI sd is0 is1=is at *;have S2:=s1.trans s2;refine J0h ?_;walk_at "dl";refine ⟨d,l,v,n0,n1,fg,dr,sv,xs,fvs,gs,ns,kds,is0,is1,nrs,F,rfl,hS.mono S2,λH3 pt s3 gt=>?_⟩;have S3:=S2.trans s3;have hf:=length_filter_le (λnr:NR=>F nr.2) nrs;have hfm:∀ nr∈nrs.filter λnr=>F nr.2,nr∈nrs:=λnr h=>(mem_filter.mp h).1;unfold rsF at k;generalize (nrs.filter λnr=>F nr.2)=fs at *;have hrow:∀ nr∈fs,∃ r,Jy rws (.inl nr.1)=some (.ref r)/\H r=some (.tup nr.2)/\RowS kds nr.2:=λnr h=>hN.row hK.nd (hfm nr h);have hpd:∀ (c:Addr) (o:HO),H3 c=some o->(∀ z,o≠.dT z)->c≠p:=λc o h n e=>n _ (by rw [e,s3 _ _ (s2 _ _ g1)] at h;exact (zU h).symm);have npt:=hpd _ _ gt (λ_ z=>nomatch z);have npc:=hpd _ _ (s3 _ _ gc) (λ_ z=>nomatch z);refine ⟨pt,rfl,⟨_,.of gt⟩,ForW.of (JC (xs:=fs.map λnr=>V.int nr.1)) (λj σ H'=>(∃ v4 v5 v6,σ=[some (V.ref d),some (V.str sd),some (V.ref p),some (V.ref pc),v4,v5,v6])/\Same H H'/\H' pt=some (.lst (fs.map λnr=>V.int nr.1))/\H' pc=some (.lst (is.map λ(i:Nat)=>V.int (i:Int)))/\∃ kv2,H' p=some (.dT kv2)/\kv2.map (·.1)=((fs.map Prod.snd).take j).foldl (J0Y is) [[]]/\kv2.length<=1+3 * j/\∀ a∈kv2.map (·.1),TyL (is.map λi=>kds.getD i JO) a) ⟨⟨none,none,none,rfl⟩,S3,gt,s3 _ _ gc,_,s3 _ _ (s2 _ _ g1),rfl,by simp,λa ha=>by
   obtain rfl:a=[]:=by simpa using ha
   cases is<;>trivial⟩ (λ_ _ _ _ q=>.of q.2.2.1) ?_ ?_⟩
  ·rintro j x σ H5 hx ⟨⟨v4,v5,v6,rfl⟩,s5,gt5,gc5,kv2,g5,ek,hkl,hty⟩
   rw [qq] at hx;obtain ⟨nr,hnr,rfl⟩:=Option.map_eq_some_iff.mp hx;obtain ⟨r,hv,hrr,hR⟩:=hrow nr (qi hnr);have hok:=hR.ok;have hj:=(qd.mp hnr).1;have hnil:[]∈kv2.map (·.1):=by rw [ek];exact J84 qm
   have hrs:(fs.map Prod.snd)[j]?=some nr.2:=by rw [qq,hnr];rfl
   simp only [JN];walk_at "dl";refine ⟨⟨_,.of gc5⟩,?_⟩;refine comp_of (as:=is) (g:=λi:Nat=>V.int i) JC (Jb (by omega)) (λH' q=>q.seq (.of gc5)) (λ_=>true) (λi=>J8O nr.2 i) (λn H6 Q' _ s6 q=>q H6 (Same.refl _)) (λn H8 Q' hin _ s8 q=>?_) (λH8 s8 D2 hD2=>?_)
   ·have hil:=hi n hin
    have hir:n<nr.2.length:=by rw [hok.1];exact hil
    have S8:=s5.trans s8;walk_at "dl";refine ⟨_,J2E (S8 _ _ hd) k3,dr,rfl,_,.inl ⟨_,.inl nr.1,.inl (S8 _ _ hr'),rfl,hv.symm⟩,r,_,_,_,rfl,rfl,.of (S8 _ _ hrr),Jg ?_,q H8 (Same.refl _)⟩;unfold J8O;rw [qc hir,qh,qc hir];rfl
   ·rw [J0i,show is.map (J8O nr.2)=(pj is nr.2).map nV from ((J8X hok hi).2).symm]
    have pjl:(pj is nr.2).length=is.length:=by unfold pj;rw [qe]
    have tyk:∀ m,TyL (is.map λi=>kds.getD i JO) ((pj is nr.2).take m):=J7q hok hi;refine ⟨_,.inl ⟨.of Jd,λpp hpp=>?_⟩⟩;have u9:=(s8.new hD2 (HO.lst ((pj is nr.2).map nV))).new hpp (HO.tup ((pj is nr.2).map nV));have g9:upd (upd H8 D2 (HO.lst ((pj is nr.2).map nV))) pp (HO.tup ((pj is nr.2).map nV)) pp=some (HO.tup ((pj is nr.2).map nV)):=Jd;generalize upd (upd H8 D2 (HO.lst ((pj is nr.2).map nV))) pp (HO.tup ((pj is nr.2).map nV))=H9 at *;have S9:=s5.trans u9;refine J0h ?_;walk_at "dl";refine ⟨_,.inr (.of g9),by rw [qe];omega,by rw [qe];omega,?_⟩;rw [Int.toNat_natCast,qe,pjl];refine ForW.of (J07 (n:=is.length)) (λi σ H'=>(∃ v6,σ=[some (V.ref d),some (V.str sd),some (V.ref p),some (V.ref pc),some (V.int nr.1),some (V.ref pp),v6])/\Same H H'/\H' pt=some (.lst (fs.map λnr=>V.int nr.1))/\H' pc=some (.lst (is.map λ(i:Nat)=>V.int (i:Int)))/\H' pp=some (.tup ((pj is nr.2).map nV))/\∃ kv2,H' p=some (.dT kv2)/\kv2.map (·.1)=J36 is nr.2 (i+1) (((fs.map Prod.snd).take j).foldl (J0Y is) [[]])/\kv2.length<=1+3 * j+i/\∀ a∈kv2.map (·.1),TyL (is.map λi=>kds.getD i JO) a) ⟨⟨_,rfl⟩,S9,u9 _ _ gt5,u9 _ _ gc5,g9,kv2,u9 _ _ g5,by rw [ek] at hnil ⊢;exact (JbW hnil).symm,hkl,hty⟩ (λ_ _ _ _ _=>trivial) ?_ ?_
    ·rintro i x σ H6 hx ⟨⟨v6,rfl⟩,s6,gt6,gc6,gpp,kv3,g6,ek3,hkl3,hty3⟩
     obtain ⟨hi2,rfl⟩:=J0e hx;simp only [JN];walk_at "dl";rw [show (0+(i:Int)+1)=((i+1:Nat):Int) by omega];refine Jev gpp λc H7 w7 g7=>?_;rw [<- map_take] at g7;have g67:=w7 _ _ g6;have e1':=J6Z kv3 ((pj is nr.2).take (i+1)) (V.bl true);refine ⟨_,DPut.t g67 g7 (by rw [sizeLine_eq];omega),⟨_,rfl⟩,(s6.trans w7).set hp _,?_,?_,?_,_,Jd,?_,?_,?_⟩
     ·rw [Jj npt];exact w7 _ _ gt6
     ·rw [Jj npc];exact w7 _ _ gc6
     ·rw [Jj (λe=>by rw [e,g6] at gpp;cases gpp)];exact w7 _ _ gpp
     ·rw [e1',ek3,J0X is nr.2 (i+1)]
     ·have e2':=congrArg List.length e1'
      have:=J6q (kv3.map (·.1)) ((pj is nr.2).take (i+1));rw [qe] at e2' this;omega
     ·rw [e1']
      intro a ha;rcases J2h.mp ha with ha | rfl
      ·exact hty3 a ha
      ·exact tyk (i+1)
    ·rintro σ H6 ⟨⟨v6,rfl⟩,s6,gt6,gc6,gpp,kv3,g6,ek3,hkl3,hty3⟩
     rw [JK] at ek3 hkl3;refine ⟨⟨_,_,_,rfl⟩,s6,gt6,gc6,kv3,g6,?_,by omega,hty3⟩;rw [ek3,J6i hrs];rfl
  ·rintro σ H5 ⟨⟨v4,v5,v6,rfl⟩,s5,gt5,gc5,kv2,g5,ek,hkl,hty⟩
   rw [qe] at ek hkl;rw [show fs.length=(fs.map Prod.snd).length by rw [qe],qr] at ek;walk_at "dl";refine ⟨kv2,g5,by omega,J9w hty,λkk hkk H3 b s3 hb=>⟨b,kk,rfl,hb,?_,λH4 v s4 kv=>⟨s4,kv⟩⟩,λHn D ts kss sn hD tt pm pw=>?_⟩
   ·have:=(hty kk hkk).len
    rw [qe] at this;omega
   ·exact k _ _ _ _ ((s5.trans sn).new hD _) Jd (tt.mono (Same.upd_new hD _)) ⟨by unfold Jdt;rw [<- ek];exact pm,pw,λa ha=>hty a (pm.mem_iff.mp ha)⟩
theorem Fl.pl' {K:Frag}(h:Fl v):∃ T,Pl K H v T/\J6e T "list"=false/\J6e T "tuple"=false:=by
 rcases h with rfl | ⟨i,rfl⟩ | ⟨z,rfl,hz⟩
 ·exact ⟨_,.of_non,by decide,by decide⟩
 ·exact ⟨_,.of_int,by decide,by decide⟩
 ·exact ⟨_,.of_str (Jb (by have:=hz.1;omega)),by decide,by decide⟩
def SmA (H:Hp):Nat->V->V->Prop
 | 0,x,y=>x=y/\Fl x
 | d+1,x,y=>∃ a b xs ys,x=.ref a/\y=.ref b/\((H a=some (.lst xs)/\H b=some (.lst ys))\/(H a=some (.tup xs)/\H b=some (.tup ys)))/\Paired (SmA H d) xs ys/\xs.length<=sizeLine
theorem SmA.mono {H H':Hp}(s:Same H H'):∀ {d:Nat} {x y:V},SmA H d x y->SmA H' d x y
 | 0,_,_,h=>h
 | d+1,_,_,h=>by
   obtain ⟨a,b,xs,ys,e1,e2,h1,h2,h3⟩:=h;exact ⟨a,b,xs,ys,e1,e2,h1.imp (λz=>⟨s _ _ z.1,s _ _ z.2⟩) (λz=>⟨s _ _ z.1,s _ _ z.2⟩),Paired.mapP h2 λ_ _ z=>SmA.mono s z,h3⟩
def J28 (K:Frag):Nat->Sp
 | 0=>λ_ _ _ _=>False
 | d+1=>λvs H Q _=>∃ x y,vs=[x,y]/\SmA H d x y/\∀ H',Same H H'->Q (.bl true) H'
theorem st_l_same (T:Txt K mg f fd)(dp:Nat)(ih:FnOk P w K mg base CX0 (1+dp) (f 78) (fd 78) ["_law_found","_law_due"] (J28 K dp)):FnOk P w K mg base CX0 (1+dp+1) (f 78) (fd 78) ["_law_found","_law_due"] (J28 K (dp+1)):=by
 walk_at "ok wB Jbe"
 ·walk_at "ln"
 ·obtain ⟨x,y,rfl,hS,k⟩:=h
  refine ⟨_,(Ja (Jw (PW.pt (J2U (J0a (Jt (J0G rfl) T.wc Jr rfl (by decide) (by decide) rfl (pal rfl (pvl 1) (pal rfl (pty T.wm J1r) J9)))) (J1E (J0a (Jt (J0G rfl) T.wc Jr rfl (by decide) (by decide) rfl (pal rfl (pvl 1) (pal rfl (pty T.wg J03) J9)))))))
   (Ja (Jw (PW.pt (J2U (Jo J70 (Jt (J0G rfl) T.wc Jr rfl (by decide) (by decide) rfl (pal rfl (pvl 0) (pal rfl (pty T.wm J1r) J9))) (Jt (J0G rfl) T.wc Jr rfl (by decide) (by decide) rfl (pal rfl (pvl 1) (pal rfl (pty T.wm J1r) J9))) (Jm _)) (J1E (Jo J70 (Jt (J0G rfl) T.wc Jr rfl (by decide) (by decide) rfl (pal rfl (pvl 0) (pal rfl (pty T.wg J03) J9))) (Jt (J0G rfl) T.wc Jr rfl (by decide) (by decide) rfl (pal rfl (pvl 1) (pal rfl (pty T.wg J03) J9))) (Jm _)))))
   (Je (Jk JV))
   Jp)
   (Je (Jk (J2V (JL JE (Jt (JcV rfl) T.wa JA rfl (by decide) (by decide) rfl (pal rfl (pvl 0) J9)) (Jt (JcV rfl) T.wa JA rfl (by decide) (by decide) rfl (pal rfl (pvl 1) J9)) (Jm _)) (J3V (Jt (J53 rfl rfl) T.wo J35 rfl (by decide) (by decide) rfl (pal rfl (JJ ["_law_one","_law_other"] J4h rfl (show CompSc _ (Jf J4c) J4h J4h from Jv (by decide +kernel)) (Jfm rfl rfl T.yZ (pal rfl (pvl 0) (pal rfl (pvl 1) J9)) rfl rfl) (λ_ _ _ _ _=>(JfT K 0 1 (show ("_law_one"::"_law_other"::J4h:List Str).Nodup by decide +kernel))) (λ_ _ _ _ _=>JI) (λ_ _ _ _ _=>(Jh T.wB ih (hr.mono (by omega)) rfl (by decide) rfl (pal rfl (pvl 0) (pal rfl (pvl 1) J9))))) J9)))))))
   Jp)
   (Je (Jk (J2V (JL JE (Jt (J0G rfl) T.wc Jr rfl (by decide) (by decide) rfl (pal rfl (pvl 0) (pal rfl (pty T.wY J8i) J9))) (Jt (J0G rfl) T.wc Jr rfl (by decide) (by decide) rfl (pal rfl (pvl 1) (pal rfl (pty T.wY J8i) J9))) (Jm _)) (J3V (JL (J6d rfl hr.units) (pvl 0) (pvl 1) (Jm _))))))),?_⟩
  walk_at "dl";cases dp with
  | zero =>
    obtain ⟨rfl,hf⟩:=hS;obtain ⟨T,hT,t1,t2⟩:=hf.pl' (K:=K) (H:=H);refine ⟨T,hT,by decide,?_⟩;rw [t1,zO zR];refine ⟨T,hT,by decide,?_⟩;rw [t2,zO zR];refine ⟨T,hT,by decide,T,hT,by decide,?_⟩;rw [zP (by simp)];have:=Jey (K:=K) (H:=H) (Q:=Q) hf.nk.2 hf.nk.2 (by rw [zS rfl];exact k H (Same.refl _));rwa [hf.nk.1] at this
  | succ d =>
    obtain ⟨a,b,xs,ys,rfl,rfl,h1,h2,h3⟩:=hS;have hl:=Paired.length h2;have fin:∀ (H1:Hp) (zs:List V),Same H H1->zs=(List.replicate xs.length true).map V.bl->∀ D,H1 D=none->∃ x:List Bool,SqL K (upd H1 D (HO.lst zs)) D (x.map V.bl)/\Q (V.bl (x.all id)) (upd H1 D (HO.lst zs)):=λH1 zs s1 e D hD=>⟨List.replicate xs.length true,by rw [e];exact .of Jd,by rw [Jau];exact k _ (s1.new hD _)⟩;have stp:∀ (i:Nat) (x y:V) (zs:List V) (σ:St) (H1:Hp) (p:Addr),xs[i]?=some x->ys[i]?=some y->((∃ v0 v1,σ=[v0,v1,some (V.ref a),some (V.ref b)])/\Same H H1/\zs=(List.replicate i true).map V.bl)->H1 p=none->Jel K 2 (J2C (JN 0) (J2C (JN 1) J6J)) (V.ref p) σ (upd H1 p (HO.tup [x,y])) λσ2 H2=>Jb3 σ2 H2 λb1 H3=>if b1=true then J46 (J28 K (d+1)) [] E0 (J2J (J1T 0) (J2J (J1T 1) J59)) σ2 H3 λy H4=>(∃ v0 v1,σ2=[v0,v1,some (V.ref a),some (V.ref b)])/\Same H H4/\zs++[y]=(List.replicate (i+1) true).map V.bl else (∃ v0 v1,σ2=[v0,v1,some (V.ref a),some (V.ref b)])/\Same H H3/\zs=(List.replicate (i+1) true).map V.bl:=by
     rintro i x y zs σ H1 p hx hy ⟨⟨v0,v1,rfl⟩,s1,rfl⟩ hp;obtain ⟨y',hy',hxy⟩:=Paired.ix h2 hx;obtain rfl:y=y':=zU (hy.symm.trans hy');have s2:=s1.new hp (HO.tup [x,y]);refine ⟨p,_,rfl,.of Jd,rfl,?_⟩;generalize upd H1 p (HO.tup [x,y])=H2 at *;simp only [J2C,J6J,JN];walk_at "dl";exact ⟨x,y,rfl,hxy.mono s2,λH3 s3=>⟨⟨_,rfl⟩,s2.trans s3,by rw [show V.bl true::(List.replicate i true).map V.bl=(List.replicate (i+1) true).map V.bl from rfl,replicate_succ',qt];rfl⟩⟩
    rcases h1 with ⟨ha,hb⟩ | ⟨ha,hb⟩
    ·refine ⟨_,Pl.of_lst hb,by decide,?_⟩
     rw [zP (by decide)];refine ⟨_,Pl.of_lst ha,by decide,_,Pl.of_lst hb,by decide,?_⟩;rw [zO (by decide)];refine ⟨_,Pl.of_lst ha,by decide,_,Pl.of_lst hb,by decide,?_⟩;rw [zO (by decide)];refine ⟨xs.length,.inl ⟨xs,.of ha,rfl⟩,ys.length,.inl ⟨ys,.of hb,rfl⟩,?_⟩;rw [zP (by omega)];refine ⟨a,rfl,b,rfl,.inl ⟨⟨_,.of ha⟩,⟨_,.of hb⟩,?_⟩⟩;refine Jdg (xs:=xs) (ys:=ys) h3 (λi zs σ H'=>(∃ v0 v1,σ=[v0,v1,some (V.ref a),some (V.ref b)])/\Same H H'/\zs=(List.replicate i true).map V.bl) ⟨⟨_,_,rfl⟩,Same.refl _,rfl⟩ (λi zs σ H' q=>⟨⟨q.2.1.seq (.of ha),q.2.1.seq (.of hb)⟩,by rw [q.2.2,qe,qD];exact zQ _⟩) stp ?_
     ·rintro zs σ H1 ⟨⟨v0,v1,rfl⟩,s1,e⟩
      rw [hl,Nat.min_self,<- hl] at e;exact fin H1 zs s1 e
    ·refine ⟨_,Pl.of_tup hb,by decide,?_⟩
     rw [zO (by decide)];refine ⟨_,Pl.of_tup hb,by decide,?_⟩;rw [zP (by decide)];refine ⟨_,Pl.of_tup ha,by decide,_,Pl.of_tup hb,by decide,?_⟩;rw [zO (by decide)];refine ⟨_,Pl.of_tup ha,by decide,_,Pl.of_tup hb,by decide,?_⟩;rw [zO (by decide)];refine ⟨xs.length,.inr ⟨xs,.of ha,rfl⟩,ys.length,.inr ⟨ys,.of hb,rfl⟩,?_⟩;rw [zP (by omega)];refine ⟨a,rfl,b,rfl,.inr ⟨⟨_,.of ha⟩,⟨_,.of hb⟩,?_⟩⟩;refine JbQ (xs:=xs) (ys:=ys) h3 (λi zs σ H'=>(∃ v0 v1,σ=[v0,v1,some (V.ref a),some (V.ref b)])/\Same H H'/\zs=(List.replicate i true).map V.bl) ⟨⟨_,_,rfl⟩,Same.refl _,rfl⟩ (λi zs σ H' q=>⟨⟨q.2.1.seqT (.of ha),q.2.1.seqT (.of hb)⟩,by rw [q.2.2,qe,qD];exact zQ _⟩) stp ?_
     ·rintro zs σ H1 ⟨⟨v0,v1,rfl⟩,s1,e⟩
      rw [hl,Nat.min_self,<- hl] at e;exact fin H1 zs s1 e
theorem J4N (T:Txt K mg f fd):∀ dp:Nat,FnOk P w K mg base CX0 (1+dp) (f 78) (fd 78) ["_law_found","_law_due"] (J28 K dp)
 | 0=>⟨λ_ _ _ _ h=>qa h,λ_ _ _ _ _ _ _ _ _ _ _ _ _ h=>qa h⟩
 | dp+1=>st_l_same T dp (J4N T dp)
theorem VwOk.go {v:Addr}(g:∀ c x,H c=some x->(∀ z,x≠.dK z)->H' c=some x)(h:VwOk H l v n0 n1 fg xs fvs gs ns kds is0 is1):VwOk H' l v n0 n1 fg xs fvs gs ns kds is0 is1 :=
 have t:∀ c ys,H c=some (.tup ys)->H' c=some (.tup ys):=λc ys z=>g _ _ z (λ_ e=>nomatch e)
 ⟨⟨g _ _ h.b.l (λ_ e=>nomatch e),⟨h.b.F.1,h.b.F.2.1,h.b.F.2.2.1,λi x n kd a b c=>(h.b.F.2.2.2 i x n kd a b c).imp λ_ q=>⟨q.1,t _ _ q.2⟩⟩,h.b.kk,⟨t _ _ h.b.vw.v,t _ _ h.b.vw.n0,t _ _ h.b.vw.n1,h.b.vw.i0,h.b.vw.i1,h.b.vw.few0,h.b.vw.few1⟩,t _ _ h.b.fg,h.b.fs.tup t,h.b.fl⟩,h.nd,h.nm,h.g1,h.g4⟩
theorem Pools.go (g:∀ c x,H c=some x->(∀ z,x≠.dK z)->H' c=some x)(h:Pools H xs kds):Pools H' xs kds:=Paired.mapP h λ_ _ ⟨p,vs,e,z,r⟩=>⟨p,vs,e,g _ _ z (λ_ e=>nomatch e),r⟩
def J9N (K:Frag):Sp:=λvs H Q _=>∃ (a:Addr) (is:List Int),vs=[.ref a]/\SqL K H a (is.map V.int) /\
 ∀ H' p d l v n0 n1 fg dr q kvs sv xs fvs ps gs ns kds is0 is1 F,Same H H'->H' p=some (.tup [.ref d,.ref q])->H' d=some (.dK kvs)->Jy kvs (.inr "fields")=some (.ref l)->Jy kvs (.inr "view")=some (.ref v)->Jy kvs (.inr "rows")=some (.ref dr)->Jy kvs (.inr "sieve")=some sv->kvs.length<=100->H d=none->H dr=none->d≠dr->H' dr=some (.dK [])->VwOk H' l v n0 n1 fg xs fvs gs ns kds is0 is1->Sv ns kds 1 H' sv F->H' q=some (.lst ps)->Pools H' ps kds->1<=xs.length->xs.length<=8->Q (.ref p) H'
theorem Ja9 (T:Txt K mg f fd):FnOk P w K mg base CX0 5 (f 79) (fd 79) ["_law_script"] (J9N K):=by
 walk_at "ok yC J2k"
 ·walk_at "ln"
 ·obtain ⟨a,is,rfl,hs,k⟩:=h
  refine ⟨_,(Ja (psl 1 J2k.nd (Jh T.yw (ok_l_fields T) (hr.mono (by decide)) rfl (by decide) rfl (pal rfl (pvl 0) J9)))
   (Ja (psl 2 J2k.nd (Jh T.yy (ok_l_pools T) (hr.mono (by decide)) rfl (by decide) rfl (pal rfl (pvl 0) (pal rfl (pvl 1) J9))))
   (Ja (psl 3 J2k.nd (J3j (J09 Jl (pvl 1) (J09 Jl (Jh T.yz (ok_l_view T) (hr.mono (by decide)) rfl (by decide) rfl (pal rfl (pvl 0) (pal rfl (pvl 1) J9))) (J09 Jl J64 (J09 Jl Jc J2u)))) rfl rfl (cons_ne_nil _ _) (by show 4<=15;decide)))
   (Ja (J1k (JH hr) (pvl 3) Jl (Jh T.yA (ok_l_sieve T) (hr.mono (by decide)) rfl (by decide) rfl (pal rfl (pvl 0) (pal rfl Jc (pal rfl (pvl 1) (pal rfl (pvl 2) J9))))) rfl)
   (Je (Jk (Jz (pal rfl (pvl 3) (pal rfl (pvl 2) J9))))))))),?_⟩
  walk_at "dl";refine ⟨a,is,rfl,hs,λH1 l xs ns kds s1 nl gl hF hnm hkk h1 h8=>⟨a,l,is,xs,ns,kds,rfl,s1.seq hs,gl,hF,hnm,hkk,h8,λH2 q ps s2 gq hP=>?_⟩⟩;intro d hd;have S2:=s1.trans s2;have hdH:=none_of S2 hd
  walk_at "nw d hd H3 u3 g3"
  have T3:=s2.trans u3;refine ⟨a,l,is,xs,ns,kds,rfl,(s1.trans T3).seq hs,T3 _ _ gl,hF.mono T3,hnm,hkk,h1,h8,λH4 v n0 n1 fg fvs gs is0 is1 s4 hV dr hdr=>?_⟩;have u5:=Same.upd_new hdr (HO.dK []);have g5:upd H4 dr (HO.dK []) dr=some (HO.dK []):=Jd;have hdrH:=none_of ((s1.trans T3).trans s4) hdr;have ndr:d≠dr:=λe=>by rw [<- e,s4 _ _ g3] at hdr;cases hdr
  generalize upd H4 dr (HO.dK [])=H5 at *;have gd5:=u5 _ _ (s4 _ _ g3);refine ⟨gd5,[(.inr "fields",.ref l),(.inr "view",.ref v),(.inr "rows",.ref dr),(.inr "given",.int 0)],rfl,(by show 4<=15;decide),?_⟩;generalize hkv:J0p [] _=kv0;have s6:=(((s1.trans T3).trans s4).trans u5).set hdH (HO.dK kv0);have k6:∀ c x,H5 c=some x->x≠.dK []->upd H5 d (HO.dK kv0) c=some x:=λc x z n=>by
   rw [Jj (λe=>n (by rw [e,gd5] at z;exact (zU z).symm))];exact z
  have gd6:upd H5 d (HO.dK kv0) d=some (HO.dK kv0):=Jd;have gr6:upd H5 d (HO.dK kv0) dr=some (HO.dK []):=by rw [Jj (Ne.symm ndr)];exact g5
  generalize upd H5 d (HO.dK kv0)=H6 at *;have go6:∀ c x,H5 c=some x->(∀ z,x≠.dK z)->H6 c=some x:=λc x z n=>k6 c x z (n []);have hV6:=(hV.mono u5).go go6;have hP6:=((hP.mono (u3.trans s4)).mono u5).go go6;have gq6:=go6 _ _ (u5 _ _ (s4 _ _ (u3 _ _ gq))) (λ_ z=>nomatch z);refine ⟨a,l,q,is,640,xs,ps,ns,kds,rfl,s6.seq hs,by decide,by decide,hV6.b.l,hV6.b.F,hkk,h1,h8,gq6,hP6,λH7 sv F s7 hSv=>?_⟩;have gd7:=s7 _ _ gd6;refine ⟨_,DPut.k (k:=Sum.inr "sieve") gd7 (by rw [sizeLine_eq,<- hkv];show 4<_;decide),Jb (by decide),λp hp=>?_⟩;have s8:=(s6.trans s7).set hdH (HO.dK (JS kv0 (.inr "sieve") sv));have go8:∀ c x,H7 c=some x->(∀ z,x≠.dK z)->upd H7 d (HO.dK (JS kv0 (.inr "sieve") sv)) c=some x:=λc x z n=>by
   rw [Jj (λe=>n _ (by rw [e,gd7] at z;exact (zU z).symm))];exact z
  have gd8:upd H7 d (HO.dK (JS kv0 (.inr "sieve") sv)) d=some (HO.dK (JS kv0 (.inr "sieve") sv)):=Jd;have gr8:upd H7 d (HO.dK (JS kv0 (.inr "sieve") sv)) dr=some (HO.dK []):=by rw [Jj (Ne.symm ndr)];exact s7 _ _ gr6
  generalize upd H7 d (HO.dK (JS kv0 (.inr "sieve") sv))=H8 at *;have u9:=Same.upd_new hp (HO.tup [V.ref d,V.ref q]);have hV9:=((hV6.mono s7).go go8).mono u9;have hP9:=((hP6.mono s7).go go8).mono u9;refine k _ p d l v n0 n1 fg dr q (JS kv0 (.inr "sieve") sv) sv xs fvs ps gs ns kds is0 is1 F (s8.trans u9) Jd (u9 _ _ gd8) ?_ ?_ ?_ ?_ (z9 (J0L _ _ _) (by rw [<- hkv];exact (by decide:5<=100))) hdH hdrH ndr (u9 _ _ gr8) hV9 (hSv.mono λb ys z=>u9 _ _ (go8 _ _ z (λ_ e=>nomatch e))) (u9 _ _ (go8 _ _ (s7 _ _ gq6) (λ_ e=>nomatch e))) hP9 h1 h8<;>rw [<- hkv]<;>rfl
theorem JeN (k:Ji):toN (nV k)=k:=by
 cases k with
 | none=>rfl
 | some x=>cases x<;>rfl
def HdV (kds:List Str)(is:List Nat)(ks:List Ji):Prop:=okP kds is (ks.map nV)=true/\∀ v∈ks.map nV,Fl v
theorem HdV.ok {is:List Nat}{ks:List Ji}(h:HdV kds is ks):∀ k∈ks,okN k:=λk hk=>by
 have:=(h.2 _ (mem_map_of_mem hk)).nk.2;rwa [JeN] at this
theorem J7o (is:List Nat)(rs:List V)(a:List (List Ji)):∀ m,(J36 is rs m a).length<=a.length+m
 | 0=>zQ _
 | m+1=>by
   rw [J0X];have h1:=J6q (J36 is rs m a) ((pj is rs).take m);have h2:=J7o is rs a m;omega
theorem J9v (is:List Nat):∀ (rss:List (List V)) (a:List (List Ji)),(rss.foldl (J0Y is) a).length<=a.length+(is.length+1) * rss.length
 | [],a=>zQ _
 | rs::rss,a=>by
   have h1:=J9v is rss (J0Y is a rs);have h2:(J0Y is a rs).length<=a.length+(is.length+1):=J7o is rs a (is.length+1);rw [foldl_cons,length_cons,Nat.mul_succ];omega
theorem J9x {is:List Nat}{rs:List V}{x:List Ji}{a:List (List Ji)}:∀ m,x∈J36 is rs m a->x∈a\/∃ m,x=(pj is rs).take m
 | 0,h=>.inl h
 | m+1,h=>by
   rw [J0X] at h;rcases J2h.mp h with h | h
   ·exact J9x m h
   ·exact .inr ⟨m,h⟩
theorem J8j {is:List Nat}{x:List Ji}:∀ {rss:List (List V)} {a:List (List Ji)},x∈rss.foldl (J0Y is) a->x∈a\/∃ rs∈rss,∃ m,x=(pj is rs).take m
 | [],_,h=>.inl h
 | rs::rss,a,h=>by
   rcases J8j (rss:=rss) h with h | ⟨rs',h1,h2⟩
   ·rcases J9x (is.length+1) h with h | ⟨m,h⟩
    ·exact .inl h
    ·exact .inr ⟨rs,qm,m,h⟩
   ·exact .inr ⟨rs',ql _ h1,h2⟩
theorem Jft {is:List Nat}{rs:List V}(hR:RowS kds rs)(hi:∀ i∈is,i<kds.length)(m:Nat):HdV kds is ((pj is rs).take m):=by
 have e:((pj is rs).take m).map nV=(is.take m).map λi=>rs.getD i .non:=Je0 hR.ok hi m;unfold HdV;rw [e];refine ⟨?_,λv hv=>?_⟩
 ·unfold okP
  rw [qe,qk,zS (by omega),Bool.true_and,all_eq_true];intro j hj;have hj:=mem_range.mp hj;have hji:j<is.length:=by omega
  have h1:=qc hji;have hil:=hi _ (getElem_mem hji);have h2:((is.take m).map λi=>rs.getD i V.non)[j]?=some (rs.getD is[j] .non):=by
   rw [qq,List.getElem?_take,zP (by omega),h1];rfl
  rw [J1R h1,J1R h2,J1R (qc hil)];exact Jc0 (hR.2 _ _ _ (hR.fl hil).1 (qc hil))
 ·obtain ⟨i,h,rfl⟩:=qy.mp hv
  exact (hR.fl (hi i (mem_of_mem_take h))).2
theorem J6h {is:List Nat}{kss:List (List Ji)}(h:J0T is kds rss kss)(hi:∀ i∈is,i<kds.length)(hr:∀ rs∈rss,RowS kds rs):∀ a∈kss,HdV kds is a:=λa ha=>by
 rcases J8j (h.1.mem_iff.mp ha) with e | ⟨rs,h1,m,rfl⟩
 ·rw [qf.mp e]
  exact ⟨by unfold okP;rfl,λ_ z=>nomatch z⟩
 ·exact Jft (hr rs h1) hi m
theorem Jeh {is:List Nat}{kss:List (List Ji)}(h:J0T is kds rss kss):0<kss.length:=length_pos_of_mem (h.1.mem_iff.mpr (J84 (rss:=rss) qm))
theorem J8a {is:List Nat}{kss kss':List (List Ji)}(h:J0T is kds rss kss)(h':J0T is kds rss kss'):kss'=kss :=
 perm_one (le:=λa b=>J0R a b=true) (λa b h1 h2=>by rw [JbB h1] at h2;cases h2) (h'.1.trans h.1.symm) h'.2.1 h.2.1
theorem J8b {is:List Nat}{kss:List (List Ji)}(h:J0T is kds rss kss)(hi:is.length<=3)(hr:rss.length<=12):kss.length<=61:=by
 have z1:(Jdt is rss).length<=1+(is.length+1) * rss.length:=J9v is rss [[]];have z2:=Nat.mul_le_mul (show is.length+1<=4 by omega) hr;rw [h.1.length_eq];omega
theorem HdV.le {is:List Nat}{ks:List Ji}(h:HdV kds is ks):ks.length<=is.length:=by
 have:=h.1;unfold okP at this;rw [Bool.and_eq_true,decide_eq_true_eq,qe] at this;exact this.1
theorem StAt.rows {v:Addr}(h:StAt H d l v n0 n1 fg dr sv xs fvs gs ns kds is0 is1 nrs F):(∀ rs∈rsF nrs F,RowS kds rs)/\(rsF nrs F).length<=12:=by
 obtain ⟨rws,ks,hr',hK,hN,h12⟩:=h.rw;refine ⟨λrs hrs=>?_,?_⟩
 ·unfold rsF at hrs
  obtain ⟨nr,h1,rfl⟩:=qy.mp hrs;obtain ⟨r,_,_,h2⟩:=hN.row hK.nd (mem_filter.mp h1).1;exact h2
 ·unfold rsF
  have:=length_filter_le (λnr:NR=>F nr.2) nrs;have:=Paired.length hN;rw [qe];omega
theorem StAt.side {v:Addr}(h:StAt H d l v n0 n1 fg dr sv xs fvs gs ns kds is0 is1 nrs F)(sd:Str):(∀ i∈sdI sd is0 is1,i<kds.length)/\(sdI sd is0 is1).length<=3:=by
 unfold sdI
 split
 ·exact ⟨h.vw.b.vw.i1,h.vw.b.vw.few1⟩
 ·exact ⟨h.vw.b.vw.i0,h.vw.b.vw.few0⟩
theorem Jdk {K:Frag}(ha:H a=some (.tup xs))(hb:H b=some (.tup ys))(fx:∀ w∈xs,Fl w)(fy:∀ w∈ys,Fl w)(hl:xs.length+ys.length<=sizeLine)(k:∀ (G:Hp) (c:Addr),Same H G->G c=some (.tup (xs++ys))->(∀ w∈xs++ys,Fl w)->Q (.ref c) G):Jct K (.ref a) (.ref b) H Q:=by
 have f:∀ w∈xs++ys,Fl w:=λw hw=>(qu.mp hw).elim (fx w) (fy w);exact ⟨a,b,xs,ys,rfl,rfl,.of ha,.of hb,hl,λe=>k H b (Same.refl _) (by rw [e];exact hb) f,λ_ e=>k H a (Same.refl _) (by rw [e,append_nil];exact ha) f,λ_ _ p hp=>k _ p (Same.upd_new hp _) Jd f⟩
theorem JfN {K:Frag}{lo hi:Option Int}(ha:H a=some (.tup xs))(fx:∀ w∈xs,Fl w)(k:∀ (c:Addr) (G:Hp) (zs:List V),Same H G->G c=some (.tup zs)->(∀ w∈zs,Fl w)->zs.length<=xs.length->Q (.ref c) G):JaC K (.ref a) lo hi H Q :=
 ⟨a,xs,rfl,.of ha,λ_=>k a H xs (Same.refl _) ha fx (zQ _),λ_ p hp=>k p _ _ (Same.upd_new hp _) Jd (λw hw=>by
  unfold J24 at hw;exact fx w (mem_of_mem_drop (mem_of_mem_take hw))) (by
  unfold J24;rw [qk,length_drop];omega)⟩
theorem J4Q {i c:Int}(hv:σ[n]?=some (some (V.int i)))(hne:i≠c)(h:R D σ H):J14 (J2F (J1e (tOp rEq (J1T n) (tC (V.int c)))) A J3z) R D σ H:=by
 unfold J14 J2F J1e tOp J1T;rw [hv];exact ⟨rfl,_,rfl,by dsimp only;rw [zO (by simpa using hne)];exact h⟩
theorem JaQ {i:Int}(hv:σ[n]?=some (some (V.int i)))(h:A { D with nx:=R D } σ H):J14 (J2F (J1e (tOp rEq (J1T n) (tC (V.int i)))) A J3z) R D σ H:=by
 unfold J14 J2F J1e tOp J1T;rw [hv];exact ⟨rfl,_,rfl,by dsimp only;rw [zP (by simp)];exact h⟩
theorem Jam {T:TT}{i c:Int}(hv:σ[n]?=some (some (V.int i)))(hne:i≠c)(h:R D σ H):J14 (J2F (J7w (J1e (tOp rEq (J1T n) (tC (V.int c)))) T) A J3z) R D σ H:=by
 unfold J14 J2F J7w J1e tOp J1T;rw [hv];exact ⟨rfl,_,rfl,by dsimp only;rw [zO (by simpa using hne)];exact h⟩
theorem Jeg {T:TT}{i:Int}(hv:σ[n]?=some (some (V.int i)))(h:J14 (J2F T A J3z) R D σ H):J14 (J2F (J7w (J1e (tOp rEq (J1T n) (tC (V.int i)))) T) A J3z) R D σ H:=by
 unfold J14 J2F J7w J1e tOp J1T;rw [hv];exact ⟨rfl,_,rfl,by dsimp only;rw [zP (by simp)];exact h⟩
inductive Q_l_some_path (K:Frag)(vs:List V)(H:Hp)(Q:VK):Prop
 | mk (a d l v n0 n1 fg dr q:Addr) (is:List Int) (b:Int) (sd:Str) (sv:V) (xs fvs ps:List V) (gs:List Fg) (ns kds:List Str) (is0 is1:List Nat) (nrs:List NR) (F:List V->Bool) (u0_:vs=[.ref a,.int b,.ref d,.str sd,.ref q]) (u1_:SqL K H a (is.map V.int)) (u2_:0<=b) (u3_:b<9000) (u4_:StAt H d l v n0 n1 fg dr sv xs fvs gs ns kds is0 is1 nrs F) (u5_:1<=xs.length) (u6_:H q=some (.lst ps)) (u7_:Pools H ps kds) (u8_:∀ H' lp ws,Same H H'->H' lp=some (.tup ws)->(∀ w∈ws,Fl w)->Q (.ref lp) H'):Q_l_some_path K vs H Q
def J5K (K:Frag):Sp:=λvs H Q _=>Q_l_some_path K vs H Q
theorem ok_l_some_path (T:Txt K mg f fd):FnOk P w K mg base CX0 9 (f 80) (fd 80) ["_law_script","_law_at","_law_state","_law_side","_law_pools_here"] (J5K K):=by
 walk_at "ok yD JP"
 ·walk_at "ln"
 ·obtain ⟨a,d,l,v,n0,n1,fg,dr,q,is,b,sd,sv,xs,fvs,ps,gs,ns,kds,is0,is1,nrs,F,rfl,hs,b0,b1,hS,h1,hq,hP,k⟩:=h
  have x8:=hS.x8;have hxk:=hS.vw.b.F.2.1;refine ⟨_,(Ja (psl 5 JP.nd (Jh T.wA (ok_l_heads T) (hr.mono (by decide)) rfl (by decide) rfl (pal rfl (pvl 2) (pal rfl (pvl 3) J9))))
   (Ja (psl 6 JP.nd (Jh T.wb (Js T) (hr.mono (by decide)) rfl (by decide) rfl (pal rfl (pvl 0) (pal rfl (pvl 1) (pal rfl Jc J9)))))
   (Ja (psl 7 JP.nd (Jn (J05 rfl) (pvl 5) (Jh T.wb (Js T) (hr.mono (by decide)) rfl (by decide) rfl (pal rfl (pvl 0) (pal rfl (Jq Jx (pvl 1) Jc) (pal rfl (Jt (JW rfl) T.wa JA rfl (by decide) (by decide) rfl (pal rfl (pvl 5) J9)) J9)))) (λ_ _=>rfl)))
   (Ja (psc 8 JP.nd (Jh T.wO (ok_l_row T) (hr.mono (by decide)) rfl (by decide) rfl (pal rfl (pvl 0) (pal rfl (Jq Jx (pvl 1) Jc) (pal rfl (pvl 4) J9)))))
   (Ja (psl 9 JP.nd (Jh T.wP (ok_l_places T) (hr.mono (by decide)) rfl (by decide) rfl (pal rfl (pvl 2) (pal rfl (pvl 3) J9))))
   (Ja (Jw (Jo JE (pvl 6) Jc (Jm _))
   (Je (psl 7 JP.nd (J0z (J1P rfl) T.wg J03 rfl (by decide) (by decide) rfl (pal rfl (JJ ["_law_k"] J11 rfl (show CompSc _ (Jf J0Z) J11 J11 from Jv (by decide +kernel)) (J0B rfl (J0s (J52 rfl) (pvl 9) J0Q (J0D (Jh T.wb (Js T) (hr.mono (by decide)) rfl (by decide) rfl (pal rfl (pvl 0) (pal rfl (Jq Jx (pvl 1) Jc) (pal rfl (Jq Jx (Jt (JW rfl) T.wa JA rfl (by decide) (by decide) rfl (pal rfl (pvl 9) J9)) Jc) J9))))))) (λ_ _ _ _ _=>(pgl 0 (show ("_law_k"::J11:List Str).Nodup by decide +kernel))) (λ_ _ _ _ _=>JI) (λ_ _ _ _ _=>(Jn (J05 rfl) (pvc 9) (pvl 0) (λ_ _=>rfl)))) J9))))
   Jp)
   (Ja (Jw (Jo JE (pvl 6) Jc (Jm _))
   (Je (psl 7 JP.nd (Jq (J87 rfl) (pvl 7) (Jz (pal rfl (Jn (J05 rfl) (pvc 8) (Jh T.wb (Js T) (hr.mono (by decide)) rfl (by decide) rfl (pal rfl (pvl 0) (pal rfl (Jq Jx (pvl 1) Jc) (pal rfl (Jt (JW rfl) T.wa JA rfl (by decide) (by decide) rfl (pal rfl (pvc 8) J9)) J9)))) (λ_ _=>rfl)) J9)))))
   Jp)
   (Ja (Jw (PW.pt (J2t (Jo JE (pvl 6) Jc (Jm _)) (J1j (Jo J92 (Jt (JW rfl) T.wa JA rfl (by decide) (by decide) rfl (pal rfl (pvl 7) J9)) Jc (Jm _)))))
   (Je (psl 7 JP.nd (Jq (J87 rfl) (J0s (J85 rfl) (pvl 7) J0Q (J0D (JfU JeK Jc))) (Jz (pal rfl (Jn (J05 rfl) (J0g (pal rfl Jc (pal rfl Jl (pal rfl Jl (pal rfl Jl J9))))) (Jh T.wb (Js T) (hr.mono (by decide)) rfl (by decide) rfl (pal rfl (pvl 0) (pal rfl (Jq Jx (pvl 1) Jc) (pal rfl Jc J9)))) (λ_ _=>rfl)) J9)))))
   Jp)
   (Je (Jk (pvl 7))))))))))),?_⟩
  generalize hB:J14 (J2F (J1e _) _ _) _=B;walk_at "dl";refine ⟨d,l,v,n0,n1,fg,dr,sd,sv,xs,fvs,gs,ns,kds,is0,is1,nrs,F,rfl,hS,λH1 hp ts kss s1 gh tt hk=>?_⟩;have hpos:=Jeh hk;have hhd:=J6h hk (hS.side sd).1 hS.rows.1;have l3:=(hS.side sd).2;have lts:=Paired.length tt;refine ⟨a,is,b,8,rfl,s1.seq hs,b0,by omega,by decide,λH2 s2=>?_⟩;obtain ⟨i,ei,hi⟩:=J0M (ns:=is) (k:=b+1) (m:=ts.length) (by omega);refine ⟨hp,rfl,_,.inl (.of (s2 _ _ gh)),a,is,b+1,_,rfl,(s1.trans s2).seq hs,by omega,by omega,by omega,λH3 s3=>?_⟩;rw [ei];have hti:=qc hi;generalize ts[i]=tv at hti;obtain ⟨ks,hks,lp,rfl,glp⟩:=Paired.ix tt hti;have S3:=s1.trans (s2.trans s3);have hkv:=hhd ks (qi hks);refine ⟨hp,_,_,_,rfl,rfl,.of (s3 _ _ (s2 _ _ gh)),Jg hti,a,q,is,b+8,ps,kds,rfl,S3.seq hs,by omega,by omega,S3 _ _ hq,hP.mono S3,by omega,λH4 r rs nr s4 gr hR=>?_⟩;have S4:=S3.trans s4;refine ⟨d,l,v,n0,n1,fg,dr,sd,sv,xs,fvs,gs,ns,kds,is0,is1,nrs,F,rfl,hS.mono S4,λH5 pc s5 gc=>?_⟩;have S5:=S4.trans s5;have glp5:=s5 _ _ (s4 _ _ (s3 _ _ (s2 _ _ glp)));have gr5:=s5 _ _ gr;have hfl:∀ i:Nat,i<kds.length->Fl (rs.getD i .non):=λi hi=>(hR.fl (i:=i) hi).2;clear gh tt hti hks glp gr;generalize drw is b 8=way;have hjs:=(hS.side sd).1;generalize sdI sd is0 is1=js at *;subst hB;by_cases c0:way=0
  ·subst c0
   refine JaQ rfl ?_;generalize hB1:J14 _ _=B1;walk_at "dl";refine ⟨_,.inl (.of gc),?_⟩;obtain ⟨m,em,hm⟩:=J0M (ns:=is) (k:=b+2) (m:=js.length+1) (by omega);rw [qe,show (js.length:Int)+1=((js.length+1:Nat):Int) by omega];refine ⟨a,is,b+2,_,rfl,S5.seq hs,by omega,by omega,by omega,λH6 s6=>?_⟩;rw [em];refine ⟨_,rfl,_,.of (s6 _ _ gc),λp hp=>?_⟩;have ec:J24 (js.map λ(i:Nat)=>V.int (i:Int)) none (some (m:Int))=(js.take m).map λ(i:Nat)=>V.int (i:Int):=by rw [J34,map_take]
   rw [ec]
   walk_at "nw p hp H7 u_ g7"
   have u7:=s6.trans u_;refine ⟨⟨_,.of g7⟩,?_⟩;refine comp_of (as:=js.take m) (g:=λi:Nat=>V.int i) JC (Jb (by rw [qk];omega)) (λH' q=>q.seq (.of g7)) (λ_=>true) (λi=>J8O rs i) (λn H6 Q' _ s6 q=>q H6 (Same.refl _)) (λn H8 Q' hin _ s8 q=>?_) (λH8 s8 D2 hD2=>?_)
   ·have hil:=hjs n (mem_of_mem_take hin)
    have hir:n<rs.length:=by rw [hR.1];exact hil
    walk_at "dl";refine ⟨r,_,_,_,rfl,rfl,.of (s8 _ _ (u7 _ _ gr5)),Jg ?_,q H8 (Same.refl _)⟩;unfold J8O;rw [qc hir,qh,qc hir];rfl
   ·rw [J0i]
    subst hB1;refine ⟨_,.inl ⟨.of Jd,λpp hpp=>J4Q rfl (by decide) (Jam rfl (by decide) (k _ pp _ (S5.trans (u7.trans ((s8.new hD2 _).new hpp _))) Jd λw hw=>?_))⟩⟩;obtain ⟨i,hi,rfl⟩:=qy.mp hw;exact hfl i (hjs i (mem_of_mem_take hi))
  by_cases c1:way=1
  ·subst c1
   refine J4Q rfl (by decide) (JaQ rfl ?_);generalize hB1:J14 _ _=B1;walk_at "dl";have hRl:=hR.1;obtain ⟨m,em,hm⟩:=J0M (ns:=is) (k:=b+3) (m:=rs.length) (by omega);refine ⟨_,.inl (.of gr5),a,is,b+3,_,rfl,S5.seq hs,by omega,by omega,by omega,λH6 s6=>?_⟩;rw [em];have hx:=qc hm;have hfx:Fl rs[m]:=by
    have:=hfl m (by omega);rwa [qh,hx] at this
   generalize rs[m]=x at hx hfx;refine ⟨r,_,_,_,rfl,rfl,.of (s6 _ _ gr5),Jg hx,Jb (by decide),λp hp=>?_⟩;exact Jdk (s6.new hp _ _ _ glp5) Jd hkv.2 (λw hw=>by rw [qf.mp hw];exact hfx) (by have:=hkv.le;rw [qe,sizeLine_eq];show ks.length+1<=_;omega) λG c s g f=>hB1 ▸ Jam rfl (by decide) (k G c _ ((S5.trans (s6.new hp _)).trans s) g f)
  by_cases c2:way=2
  ·subst c2
   refine J4Q rfl (by decide) (J4Q rfl (by decide) (Jeg rfl ?_));walk_at "dl";refine ⟨_,.inr (.of glp5),?_⟩;by_cases cl:(0:Int)<((ks.map nV).length:Int)
   ·rw [zP cl]
    refine JfN glp5 hkv.2 λc H6 zs s6 g6 f6 l6=>⟨Jb (by decide),λp hp=>?_⟩;have hf4:∀ x∈([V.int 0,V.str (Str.ofString "ash"),V.str (Str.ofString "-5"),V.str (Str.ofString "no")]:List V),Fl x:=λx hx=>by
     rcases qo.mp hx with rfl | hx
     ·exact .inr (.inl ⟨_,rfl⟩)
     rcases qo.mp hx with rfl | hx
     ·exact .inr (.inr ⟨_,rfl,by decide,by decide +kernel⟩)
     rcases qo.mp hx with rfl | hx
     ·exact .inr (.inr ⟨_,rfl,by decide,by decide +kernel⟩)
     rw [qf.mp hx];exact .inr (.inr ⟨_,rfl,by decide,by decide +kernel⟩)
    have h4:([V.int 0,V.str (Str.ofString "ash"),V.str (Str.ofString "-5"),V.str (Str.ofString "no")]:List V).length=4:=rfl;generalize [V.int 0,V.str (Str.ofString "ash"),V.str (Str.ofString "-5"),V.str (Str.ofString "no")]=o4 at *
    walk_at "nw p hp H7 y7 g7"
    have u7:=s6.trans y7;obtain ⟨m,em,hm⟩:=J0M (ns:=is) (k:=b+4) (m:=4) (by decide);refine ⟨a,is,b+4,4,rfl,(S5.trans u7).seq hs,by omega,by omega,by decide,λH8 s8=>?_⟩;rw [show drw is (b+4) 4=(m:Int) from em];have hx:=qc (show m<o4.length by omega);have hfx:=hf4 _ (qi hx);generalize o4[m]=x at hx hfx;refine ⟨p,_,_,_,rfl,rfl,.of (s8 _ _ g7),Jg hx,Jb (by decide),λp2 hp2=>?_⟩;have:=hkv.le;exact Jdk ((y7.trans s8).new hp2 _ _ _ g6) Jd f6 (λw hw=>by rw [qf.mp hw];exact hfx) (by rw [qe] at l6;rw [sizeLine_eq];show zs.length+1<=_;omega) λG c s g f=>k G c _ ((S5.trans ((u7.trans s8).new hp2 _)).trans s) g f
   ·rw [zO cl]
    exact k _ lp _ S5 glp5 hkv.2
  ·exact J4Q rfl c0 (J4Q rfl c1 (Jam rfl c2 (k _ lp _ S5 glp5 hkv.2)))
inductive Q_l_kids (K:Frag)(vs:List V)(H:Hp)(Q:VK):Prop
 | mk (h lp:Addr) (ts ps:List V) (kss:List (List Ji)) (u0_:vs=[.ref h,.ref lp]) (u1_:H h=some (.lst ts)) (u2_:TupsV H ts kss) (u3_:kss.length<=100) (u4_:(∀ a∈kss,∀ k∈a,okN k)) (u5_:H lp=some (.tup ps)) (u6_:(∀ v∈ps,Fl v)) (u7_:∀ H' q ts,Same H H'->H' q=some (.lst ts)->TupsV H' ts (kss.filter (J06 ps))->Q (.ref q) H'):Q_l_kids K vs H Q
def Jb9 (K:Frag):Sp:=λvs H Q _=>Q_l_kids K vs H Q
theorem ok_l_kids (T:Txt K mg f fd):FnOk P w K mg base CX0 1 (f 81) (fd 81) ["_law_heads_here","_law_path"] (Jb9 K):=by
 walk_at "ok wR Jbf"
 ·walk_at "ln"
 ·obtain ⟨h,lp,ts,ps,kss,rfl,g0,t0,hkl,hko,hp,hfl,k⟩:=h
  have htl:=Paired.length t0;obtain ⟨fm,fo⟩:=J4R hfl;refine ⟨_,(Je (Jk (JJ ["_law_head"] J4i rfl (show CompSc _ (Jf J4d) J4i J4i from Jv (by decide +kernel)) (J0B rfl (pvl 0)) (λ_ _ _ _ _=>(pgl 0 (show ("_law_head"::J4i:List Str).Nodup by decide +kernel))) (λ_ _ _ _ _=>(J5q (PW.pt (J2t (Jo JE (Jt (JW rfl) T.wa JA rfl (by decide) (by decide) rfl (pal rfl (pvl 0) J9)) (Jq Jx (Jt (JW rfl) T.wa JA rfl (by decide) (by decide) rfl (pal rfl (pvc 2) J9)) Jc) (Jm _)) (J1j (Jo (J6d rfl hr.units) (J0s (J85 rfl) (pvl 0) J0Q (J0D (Jt (JW rfl) T.wa JA rfl (by decide) (by decide) rfl (pal rfl (pvc 2) J9)))) (pvc 2) (Jm _))))))) (λ_ _ _ _ _=>(pvl 0))))),?_⟩;walk_at "dl";refine ⟨⟨_,.of g0⟩,?_⟩;refine JM (JC (xs:=ts)) (Jb (by omega)) (λi ys H'=>Same H H'/\TupsV H' ys ((kss.take i).filter (J06 ps))) ⟨Same.refl _,.nil⟩ (λ_ _ H' _ q=>q.1.seq (.of g0)) (λi ys H' q=>by
   have e:=Paired.length q.2;have l1:=length_filter_le (J06 ps) (kss.take i);rw [qk] at l1;omega) (λi x ys H3 hx q=>?_) (λys H3 q D hD=>?_)
  ·obtain ⟨t1,hys⟩:=q
   obtain ⟨ks,hks,b,rfl,hb⟩:=Paired.ix t0 hx;have hb3:=t1 _ _ hb;have hp3:=t1 _ _ hp;have okk:=hko ks (qi hks);have ef:(kss.take (i+1)).filter (J06 ps)=(kss.take i).filter (J06 ps)++if J06 ps ks=true then [ks] else []:=by
    rw [JF hks,filter_append];congr 1;rw [filter_cons,filter_nil]
   rw [ef];walk_at "dl";refine ⟨_,.inr (.of hb3),_,.inr (.of hp3),?_⟩;rw [qe];by_cases hl:ks.length=ps.length+1
   ·rw [zP (by omega)]
    refine ⟨_,.inr (.of hp3),Jev hb3 λc H4 u g4=>?_⟩;rw [<- map_take] at g4;have hp4:=u _ _ hp3;rw [<- fm] at hp4;refine Jd8 g4 hp4 (λk hk=>okk k (mem_of_mem_take hk)) fo ⟨_,rfl,?_⟩;by_cases he:ks.take ps.length=ps.map toN
    ·have kb:J06 ps ks=true:=by unfold J06;rw [zS hl,zS he];rfl
     rw [zO zR,zP (zS he),kb,zP rfl];exact ⟨⟨_,rfl⟩,t1.trans u,Paired.snoc (hys.mono u) ⟨b,rfl,u _ _ hb3⟩⟩
    ·have kb:J06 ps ks=false:=by unfold J06;rw [zT he,Bool.and_false]
     rw [zO zR,zO (by simpa using he),kb,zO (by decide),append_nil];exact ⟨⟨_,rfl⟩,t1.trans u,hys.mono u⟩
   ·have kb:J06 ps ks=false:=by unfold J06;rw [zT hl,Bool.false_and]
    rw [zO (by omega),kb,zO (by decide),append_nil];exact ⟨⟨_,rfl⟩,t1,hys⟩
  ·obtain ⟨t1,hys⟩:=q
   rw [htl,qr] at hys;exact k _ D _ (t1.new hD _) Jd (hys.mono (Same.upd_new hD _))
theorem OpAt.get {op:Addr}(h:OpAt H op u0 u1)(hs:sd="rows"\/sd="columns"):DGet H op (.str sd) (some (.ref (sdU sd u0 u1))):=by
 obtain ⟨hk,h1,h2,h3⟩:=h;rcases hs with rfl | rfl
 ·exact J2E h1 h2
 ·exact J2E h1 h3
def J38 (K:Frag):Nat->Sp
 | 0=>λ_ _ _ _=>False
 | dp+1=>λvs H Q _=>∃ (d op l v n0 n1 fg dr u0 u1 lp:Addr) (sd:Str) (ks:List Ji) (sv:V) (xs fvs:List V) (gs:List Fg) (ns kds:List Str) (is0 is1:List Nat) (nrs:List NR) (F:List V->Bool) (kss:List (List Ji)) (kvs:List (List Ji×V)),vs=[.ref d,.ref op,.str sd,.ref lp]/\StAt H d l v n0 n1 fg dr sv xs fvs gs ns kds is0 is1 nrs F/\OpAt H op u0 u1/\(sd="rows"\/sd="columns")/\J0T (sdI sd is0 is1) kds (rsF nrs F) kss/\H lp=some (.tup (ks.map nV))/\(∀ k∈ks,Fl (nV k))/\(sdI sd is0 is1).length+1<=ks.length+(dp+1)/\dp+1<=4/\H (sdU sd u0 u1)=some (.dT kvs) /\
   ∀ H' q ts,Same H H'->H' q=some (.lst ts)->TupsV H' ts (shw kss (λk=>(Jy kvs k).isSome) (dp+1) ks)->Q (.ref q) H'
theorem st_l_seen (T:Txt K mg f fd)(dp:Nat)(ih:FnOk P w K mg base CX0 (9+dp) (f 82) (fd 82) ["_law_state","_law_opens","_law_side","_law_path"] (J38 K dp)):FnOk P w K mg base CX0 (9+dp+1) (f 82) (fd 82) ["_law_state","_law_opens","_law_side","_law_path"] (J38 K (dp+1)):=by
 walk_at "ok wC J39"
 ·walk_at "ln"
 ·obtain ⟨d,op,l,v,n0,n1,fg,dr,u0,u1,lp,sd,ks,sv,xs,fvs,gs,ns,kds,is0,is1,nrs,F,kss,kvs,rfl,hS,hO,hsd,hk,hp,hfl,hd,h4,hu,k⟩:=h
  have le:=J8b hk (hS.side sd).2 hS.rows.2;have hhd:=J6h hk (hS.side sd).1 hS.rows.1;refine ⟨_,(Ja (psl 4 J39.nd (J0g (pal rfl (pvl 3) J9)))
   (Ja (Jw (J60 (J7S (JH hr) (pvl 3) (JQ (JH hr) (pvl 1) (pvl 2) (λ_ _=>rfl))))
   (Je (J0f PassesOwn.never rfl (J0B rfl (Jh T.wR (ok_l_kids T) (hr.mono (by omega)) rfl (by decide) rfl (pal rfl (Jh T.wA (ok_l_heads T) (hr.mono (by omega)) rfl (by decide) rfl (pal rfl (pvl 0) (pal rfl (pvl 2) J9))) (pal rfl (pvl 3) J9)))) (pgl 5 J39.nd)
   (Je (psl 4 J39.nd (Jq J7U (pvl 4) (Jh T.wC ih (hr.mono (by omega)) rfl (by decide) rfl (pal rfl (pvl 0) (pal rfl (pvl 1) (pal rfl (pvl 2) (pal rfl (pvl 5) J9))))))))))
   Jp)
   (Je (Jk (pvl 4))))),?_⟩
  walk_at "dl";refine ⟨Jb (by decide),λp hp0=>?_⟩
  walk_at "nw p hp0 H1 u gp"
  refine ⟨_,(hO.mono u).get hsd,_,rfl,_,DGet.t (u _ _ hu) (u _ _ hp),?_⟩;unfold shw at k;cases hOp:(Jy kvs ks).isSome with
  | false =>
    rw [zO zR];rw [hOp,zO zR] at k;exact k H1 p _ u gp (.cons ⟨lp,rfl,u _ _ hp⟩ .nil)
  | true =>
    rw [zP rfl];rw [hOp,zP rfl] at k;refine J0h ?_;walk_at "dl";refine ⟨d,l,v,n0,n1,fg,dr,sd,sv,xs,fvs,gs,ns,kds,is0,is1,nrs,F,rfl,hS.mono u,λH2 hq ts2 kss' s2 gh2 tt2 hk'=>?_⟩;obtain rfl:=J8a hk hk';have hflv:∀ v∈ks.map nV,Fl v:=λv hv=>by
     obtain ⟨k,hk,rfl⟩:=qy.mp hv;exact hfl k hk
    refine ⟨hq,lp,ts2,_,kss',rfl,gh2,tt2,by omega,λa ha=>(hhd a ha).ok,s2 _ _ (u _ _ hp),hflv,λH3 kq ts s3 gk tk=>?_⟩;have S3:=u.trans (s2.trans s3);refine ⟨kq,rfl,⟨_,.of gk⟩,?_⟩;have hfs:∀ a∈kss'.filter (J06 (ks.map nV)),a∈kss'/\a.length=ks.length+1:=λa ha=>by
     obtain ⟨h1,h2⟩:=mem_filter.mp ha;unfold J06 at h2;rw [Bool.and_eq_true,decide_eq_true_eq,qe] at h2;exact ⟨h1,h2.1⟩
    have lf:=z9 (length_filter_le (J06 (ks.map nV)) kss') le;generalize kss'.filter (J06 (ks.map nV))=fl at *;have hpw:62 ^ dp * 62<=14776336:=by
     have:=Nat.pow_le_pow_right (show 0<62 by decide) (show dp<=3 by omega);omega
    have ltk:=Paired.length tk;refine ForW.of (JC (xs:=ts)) (λj σ H'=>∃ (p:Addr) (ys:List V) (v5:Option V),σ=[some (V.ref d),some (V.ref op),some (V.str sd),some (V.ref lp),some (V.ref p),v5]/\Same H3 H'/\H' p=some (.lst ys)/\TupsV H' ys (ks::(fl.take j).flatMap (shw kss' (λk=>(Jy kvs k).isSome) dp))) ⟨p,_,none,rfl,Same.refl _,s3 _ _ (s2 _ _ gp),.cons ⟨lp,rfl,S3 _ _ hp⟩ .nil⟩ (λ_ _ _ _ ⟨_,_,_,_,q,_⟩=>q.seq (.of gk)) ?_ ?_
    ·rintro j x σ H4 hx ⟨p,ys,v5,rfl,s4,gp4,ty⟩
     obtain ⟨a,ha,b,rfl,hb⟩:=Paired.ix (tk.mono s4) hx;obtain ⟨a1,a2⟩:=hfs a (qi ha);have S4:=S3.trans s4;have hda:=hhd a a1;have hdl:=hda.le;obtain ⟨dp,rfl⟩:∃ m,dp=m+1:=⟨dp - 1,by omega⟩;simp only [JN];walk_at "dl";refine ⟨d,op,l,v,n0,n1,fg,dr,u0,u1,b,sd,a,sv,xs,fvs,gs,ns,kds,is0,is1,nrs,F,kss',kvs,rfl,hS.mono S4,hO.mono S4,hsd,hk,hb,λk hk=>hda.2 _ (mem_map_of_mem hk),by omega,by omega,S4 _ _ hu,λH5 q zs s5 gq tz=>?_⟩;have gp5:=s5 _ _ gp4;refine ⟨p,q,ys,zs,rfl,rfl,gp5,gq,?_,λr hr=>?_⟩
     ·have l1:=Paired.length ty
      have l2:=Paired.length tz;have l3:=JaR (g:=shw kss' (λk=>(Jy kvs k).isSome) (dp+1)) (fl.take j) (J4A le (dp+1));have l4:=J4A (op:=λk=>(Jy kvs k).isSome) le (dp+1) a;have l5:=(qd.mp ha).1;rw [qk,Nat.min_eq_left (by omega)] at l3;have l6:=Nat.mul_le_mul_right (62 ^ (dp+1)) (show j+1<=61 by omega);rw [length_cons] at l1;rw [sizeLine_eq,l1,l2];have l7:(j+1) * 62 ^ (dp+1)=j * 62 ^ (dp+1)+62 ^ (dp+1):=Nat.succ_mul _ _;omega
     ·refine ⟨r,rfl,(s4.trans s5).new hr _,_,Jd,?_⟩
      rw [JF ha,flatMap_append,flatMap_singleton];exact TupsV.mono (Same.upd_new hr _) (Paired.app (ty.mono s5) tz)
    ·rintro σ H4 ⟨p,ys,v5,rfl,s4,gp4,ty⟩
     walk_at "dl";rw [ltk,qr] at ty;exact k H4 p ys (S3.trans s4) gp4 ty
theorem J4M (T:Txt K mg f fd):∀ dp:Nat,FnOk P w K mg base CX0 (9+dp) (f 82) (fd 82) ["_law_state","_law_opens","_law_side","_law_path"] (J38 K dp)
 | 0=>⟨λ_ _ _ _ h=>qa h,λ_ _ _ _ _ _ _ _ _ _ _ _ _ h=>qa h⟩
 | dp+1=>st_l_seen T dp (J4M T dp)
theorem J43 {u o:HO}(h:H p=some u)(hu:∀ ys,u≠.tup ys){c:Addr}(hc:H c=some (.tup ys)):upd H p o c=some (.tup ys):=by
 rw [Jj (λe=>by rw [e,h] at hc;exact hu _ (zU hc))];exact hc
theorem RwN.tup {H H':Hp}{kds:List Str}{kvs:List (Key×V)}{nrs:List NR}(t:∀ c ys,H c=some (.tup ys)->H' c=some (.tup ys))(h:RwN H kds kvs nrs):RwN H' kds kvs nrs:=Paired.mapP h λ_ _ ⟨e,r,e2,a,b⟩=>⟨e,r,e2,t _ _ a,b⟩
def J9B (j:Nat):List Int:=(List.range j).map λ(i:Nat)=>(i:Int)
theorem Jb1 (j:Nat):J9B (j+1)=J9B j++[(j:Int)]:=by unfold J9B;rw [range_succ,qt];rfl
theorem Jas :∀ n∈J9B j,n<(j:Int):=λn hn=>by
 unfold J9B at hn;obtain ⟨i,hi,rfl⟩:=qy.mp hn;have:=mem_range.mp hi;omega
structure RwJ (H:Hp)(kds:List Str)(kvs:List (Key×V))(nrs:List NR)(j:Nat):Prop where
 k:RwK H kds kvs (J9B j)
 n:RwN H kds kvs nrs
theorem RwJ.tup {H H':Hp}{kds:List Str}{kvs:List (Key×V)}{nrs:List NR}{j:Nat}(t:∀ c ys,H c=some (.tup ys)->H' c=some (.tup ys))(h:RwJ H kds kvs nrs j):RwJ H' kds kvs nrs j:=⟨h.k.tup t,h.n.tup t⟩
theorem RwJ.put {rs:List V}(h:RwJ H kds kvs nrs j)(hr:H r=some (.tup rs))(hR:RowS kds rs):RwJ H kds (JS kvs (.inl (j:Int)) (.ref r)) (nrs++[((j:Int),rs)]) (j+1):=by
 refine ⟨by rw [Jb1];exact h.k.put Jas hr hR,?_⟩;rw [putK_new (h.k.no λz=>by have:=Jas _ z;omega)];exact Paired.snoc h.n ⟨rfl,r,rfl,hr,hR⟩
theorem RwJ.len (h:RwJ H kds kvs nrs j):kvs.length=j:=by
 rw [h.k.len];unfold J9B;rw [qe,qC]
inductive Q_l_tables (K:Frag)(f:Nat->Addr)(vs:List V)(H:Hp)(Q:VK):Prop
 | mk (G:Hp) (a d l v n0 n1 fg dr q:Addr) (is:List Int) (kvs:List (Key×V)) (sv:V) (xs fvs ps:List V) (gs:List Fg) (ns kds:List Str) (is0 is1:List Nat) (F:List V->Bool) (u0_:vs=[.ref a,.ref d,.ref q]) (u1_:Same G H) (u2_:G d=none) (u3_:G dr=none) (u4_:d≠dr) (u5_:SqL K G a (is.map V.int)) (u6_:H d=some (.dK kvs)) (u7_:kvs.length<=100) (u8_:Jy kvs (.inr "fields")=some (.ref l)) (u9_:Jy kvs (.inr "view")=some (.ref v)) (u10_:Jy kvs (.inr "rows")=some (.ref dr)) (u11_:Jy kvs (.inr "sieve")=some sv) (u12_:H dr=some (.dK [])) (u13_:VwOk G l v n0 n1 fg xs fvs gs ns kds is0 is1) (u14_:Sv ns kds 1 G sv F) (u15_:G q=some (.lst ps)) (u16_:Pools G ps kds) (u17_:1<=xs.length) (u18_:xs.length<=8) (u19_:∀ H' t nrs kss0 kss1,Same G H'->StAt H' d l v n0 n1 fg dr sv xs fvs gs ns kds is0 is1 nrs F->TabAt f H' t ns kds is0 is1 kss0 kss1->J0T is0 kds (rsF nrs F) kss0->J0T is1 kds (rsF nrs F) kss1->Q (.ref t) H'):Q_l_tables K f vs H Q
def J8x (K:Frag)(f:Nat->Addr):Sp:=λvs H Q _=>Q_l_tables K f vs H Q
theorem ok_l_tables (T:Txt K mg f fd):FnOk P w K mg base CX0 10 (f 83) (fd 83) ["_law_script","_law_state","_law_pools_here"] (J8x K f):=by
 walk_at "ok yE J1L"
 ·walk_at "ln"
 ·obtain ⟨G,a,d,l,v,n0,n1,fg,dr,q,is,kvs,sv,xs,fvs,ps,gs,ns,kds,is0,is1,F,rfl,s0,hGd,hGr,ndr,hs,hd,hkl,k1,k2,k3,k4,hdr,hV,hSv,hq,hP,h1,h8,k⟩:=h
  have hkx:kds.length<=8:=by rw [hV.b.F.2.1];exact h8
  refine ⟨_,(Ja (psl 3 J1L.nd (J5s T.wf.mkr (ok_Sheet___init__ T) (hr.mono (by decide)) rfl T.wf.m T.yI.b .nil J2e (pal rfl (J0z (J86 rfl) T.wm J1r rfl (by decide) (by decide) rfl (pal rfl (JQ (JH hr) (pvl 1) Jl (λ_ _=>rfl)) J9)) J9) (by decide) rfl rfl))
   (Ja (J0f PassesOwn.never rfl (J0m rfl T.wl (pal rfl (Jq Jx Jc (Jh T.wb (Js T) (hr.mono (by decide)) rfl (by decide) rfl (pal rfl (pvl 0) (pal rfl Jc (pal rfl Jc J9))))) J9)) (pgl 4 J1L.nd)
   (Ja (psl 5 J1L.nd (Jh T.wO (ok_l_row T) (hr.mono (by decide)) rfl (by decide) rfl (pal rfl (pvl 0) (pal rfl (Jq Jx Jc (Jq J1G Jc (pvl 4))) (pal rfl (pvl 2) J9)))))
   (Ja (JT (J3i (pvl 3) T.wf.cls T.zh (J80 T) (hr.mono (by decide)) T.yK.b .nil J2e (pal rfl (pvl 5) J9) rfl rfl rfl))
   (Je (J1k (JH hr) (JQ (JH hr) (pvl 1) Jl (λ_ _=>rfl)) (pvl 4) (J0z (J1P rfl) T.wg J03 rfl (by decide) (by decide) rfl (pal rfl (pvl 5) J9)) rfl)))))
   (Ja (J1k (JH hr) (pvl 1) Jl (Jt JbU T.wa JA rfl (by decide) (by decide) rfl (pal rfl (JQ (JH hr) (pvl 1) Jl (λ_ _=>rfl)) J9)) rfl)
   (Je (Jk (Jh T.yu (ok_lay T) (hr.mono (by decide)) rfl (by decide) rfl (pal rfl (pvl 3) (pal rfl (JQ (JH hr) (pvl 1) Jl (λ_ _=>rfl)) (pal rfl (JQ (JH hr) (pvl 1) Jl (λ_ _=>rfl)) J9))))))))),?_⟩
  generalize hB:J14 (JdD _ _ _) _=B;walk_at "dl";unfold Jaw;walk_at "dl";refine ⟨_,J2E hd k1,l,rfl,_,.inl (.of (s0 _ _ hV.b.l)),λlc hlc o dx ho hdx hne=>?_⟩
  walk_at "nw lc hlc H1 u1 gc"
  have hn1:upd H1 dx (.own o) o=none:=by rw [Jj (Ne.symm hne)];exact ho
  have S1:=s0.trans u1;refine ⟨H1,o,dx,lc,xs,ns,kds,rfl,(Same.upd_new hdx _).new hn1 _,ho,Jd,gc,hV.b.F.mono S1,hV.nm,hV.b.kk,h1,h8,λH2 lf ds s2 hds _ hS=>⟨rfl,?_⟩⟩;have S2:=S1.trans s2;have hoG:=none_of S1 ho;have hdsG:=none_of S1 hds;have gd2:=s2 _ _ (u1 _ _ hd);have gr2:=s2 _ _ (u1 _ _ hdr);have nsd:ds≠d:=λe=>by rw [e,u1 _ _ hd] at hds;cases hds
  have nsr:ds≠dr:=λe=>by rw [e,u1 _ _ hdr] at hds;cases hds
  clear hn1 hne hdx gc hlc ho hds u1 S1 s2 hd hdr s0;subst hB;walk_at "dl";refine J0h ?_;walk_at "dl";obtain ⟨m,em,hm⟩:=J0M (ns:=is) (k:=1) (m:=10) (by decide);refine ⟨a,is,1,10,rfl,S2.seq hs,by decide,by decide,by decide,λH3 s3=>?_⟩;rw [show drw is 1 10=(m:Int) from em];refine ⟨_,rfl,by omega,by omega,?_⟩;rw [show (2+(m:Int)).toNat=m+2 by omega];refine ForW.of J07 (λj σ H'=>(∃ v4 v5,σ=[some (V.ref a),some (V.ref d),some (V.ref q),some (V.ref o),v4,v5])/\Same G H'/\H' d=some (.dK kvs)/\∃ rws rwl nrs,ShAt f H' o lf ds (j:Int) xs rws/\H' dr=some (.dK rwl)/\RwJ H' kds rws nrs j/\RwJ H' kds rwl nrs j) ⟨⟨none,none,rfl⟩,S2.trans s3,s3 _ _ gd2,[],[],[],hS.mono s3,s3 _ _ gr2,⟨⟨rfl,List.Pairwise.nil,λ_ z=>nomatch z⟩,.nil⟩,⟨⟨rfl,List.Pairwise.nil,λ_ z=>nomatch z⟩,.nil⟩⟩ (λ_ _ _ _ _=>trivial) ?_ ?_
  ·rintro j x σ H4 hx ⟨⟨v4,v5,rfl⟩,s4,gd4,rws,rwl,nrs,hS4,gr4,J1,J2⟩
   obtain ⟨hj,rfl⟩:=J0e hx;rw [Int.zero_add];simp only [JN];walk_at "dl";refine ⟨.inl ⟨by omega,by omega⟩,a,q,is,700+10 * (j:Int),ps,kds,rfl,s4.seq hs,by omega,by omega,s4 _ _ hq,hP.mono s4,hkx,λH5 r rs nr5 s5 gr5 hR=>?_⟩;have S5:=s4.trans s5;have hS5:=hS4.mono s5;obtain ⟨dx5,ho5⟩:=hS5.o;have l1:=J1.len;have l2:=J2.len;refine ⟨_,_,ho5,rfl,o,lf,ds,r,_,xs,rs,ns,kds,rws,rfl,hS5,hV.b.F.mono S5,gr5,hR,by omega,λH6 dx6 t6 s6 nt6 gt6=>?_⟩;have S6:=S5.trans s6;have hS6:=hS5.mono s6;obtain ⟨dx7,ho6⟩:=hS6.o;have nod:o≠ds:=J0S ho6 hS6.d (λz=>nomatch z);have gd6:=s6 _ _ (s5 _ _ gd4);have gR6:=s6 _ _ (s5 _ _ gr4);have nld:lf≠ds:=J0S hS6.l hS6.d (λz=>nomatch z);have nlo:lf≠o:=J0S hS6.l ho6 (λz=>nomatch z);have nor:o≠dr:=J0S ho6 gR6 (λz=>nomatch z);have noD:o≠d:=J0S ho6 gd6 (λz=>nomatch z);generalize hd7:HO.dK (JS rws (.inl (j:Int)) (.ref t6))=O1;generalize hi7:HO.ins (f 28) dx6 (JdK lf ds ((j:Int)+1))=O2;have tk:∀ c ys,H6 c=some (.tup ys)->upd (upd H6 ds O1) o O2 c=some (.tup ys):=λc ys z=>J43 (u:=.ins (f 28) dx7 (JdK lf ds (j:Int))) (by rw [Jj nod];exact ho6) (λ_ z=>nomatch z) (J43 hS6.d (λ_ z=>nomatch z) z);have S7:=(S6.set hdsG O1).set hoG O2;have hS7:ShAt f (upd (upd H6 ds O1) o O2) o lf ds ((j:Int)+1) xs (JS rws (.inl (j:Int)) (.ref t6)):=⟨⟨dx6,by rw [hi7];exact Jd⟩,by rw [Jj nlo,Jj nld];exact hS6.l,by rw [hd7,Jj (Ne.symm nod)];exact Jd⟩;have gd7:upd (upd H6 ds O1) o O2 d=some (.dK kvs):=by rw [Jj (Ne.symm noD),Jj (Ne.symm nsd)];exact gd6
   have gr7:upd (upd H6 ds O1) o O2 dr=some (.dK rwl):=by rw [Jj (Ne.symm nor),Jj (Ne.symm nsr)];exact gR6
   have grl7:upd (upd H6 ds O1) o O2 r=some (.lst rs):=by rw [Jj (J0S (s6 _ _ gr5) ho6 (λz=>nomatch z)),Jj (J0S (s6 _ _ gr5) hS6.d (λz=>nomatch z))];exact s6 _ _ gr5
   have s46:=s5.trans s6;have J17:=(J1.tup λc ys z=>tk _ _ (s46 _ _ z)).put (tk _ _ gt6) hR;have J27:=J2.tup λc ys z=>tk _ _ (s46 _ _ z);generalize upd (upd H6 ds O1) o O2=H7 at *;refine ⟨r,rfl,_,.inl ⟨.of grl7,λt8 ht8=>?_⟩⟩
   walk_at "nw t8 ht8 H8 u8 g8"
   refine ⟨_,J2E (u8 _ _ gd7) k3,dr,rfl,_,DPut.k (k:=Sum.inl (j:Int)) (u8 _ _ gr7) (by rw [sizeLine_eq];omega),⟨_,rfl⟩,(S7.trans u8).set hGr _,?_,?_⟩
   ·rw [Jj ndr];exact u8 _ _ gd7
   have tk9:∀ c ys,H8 c=some (.tup ys)->upd H8 dr (.dK (JS rwl (.inl (j:Int)) (.ref t8))) c=some (.tup ys):=λc ys z=>J43 (u8 _ _ gr7) (λ_ z=>nomatch z) z;have hS8:=hS7.mono u8;obtain ⟨dx8,ho8⟩:=hS8.o;have hS9:ShAt f (upd H8 dr (.dK (JS rwl (.inl (j:Int)) (.ref t8)))) o lf ds ((j:Int)+1) xs (JS rws (.inl (j:Int)) (.ref t6)):=⟨⟨dx8,by rw [Jj nor];exact ho8⟩,by rw [Jj (J0S hS8.l (u8 _ _ gr7) (λz=>nomatch z))];exact hS8.l,by rw [Jj nsr];exact hS8.d⟩;exact ⟨_,hS9,_,Jd,_,J17.tup λc ys z=>tk9 _ _ (u8 _ _ z),((J27.tup λc ys z=>u8 _ _ z).put g8 hR).tup tk9⟩
  ·rintro σ H4 ⟨⟨v4,v5,rfl⟩,s4,gd4,rws,rwl,nrs,hS4,gr4,J1,J2⟩
   rw [JK] at hS4 J1 J2;walk_at "dl";have l1:=J1.len;have l2:=J2.len;have cut:∀ (k:Str) (x y:V),k≠"given"->Jy kvs (.inr k)=some x->Jy (JS kvs (.inr "given") y) (.inr k)=some x:=λk x y n e=>by
    rw [J42,zO (λz=>n (by injection z))];exact e
   refine ⟨_,J2E gd4 k3,dr,rfl,rwl,gr4,_,DPut.k (k:=Sum.inr "given") gd4 (by rw [sizeLine_eq];omega),?_⟩;have k1:=cut _ _ (.int rwl.length) (by decide) k1;have k2:=cut _ _ (.int rwl.length) (by decide) k2;have k3:=cut _ _ (.int rwl.length) (by decide) k3;have k4:=cut _ _ (.int rwl.length) (by decide) k4;have s5:=s4.set hGd (.dK (JS kvs (.inr "given") (.int rwl.length)));have kp:∀ c x,H4 c=some x->c≠d->upd H4 d (.dK (JS kvs (.inr "given") (.int rwl.length))) c=some x:=λc x z n=>by rw [Jj n];exact z
   have tk:∀ c ys,H4 c=some (.tup ys)->upd H4 d (.dK (JS kvs (.inr "given") (.int rwl.length))) c=some (.tup ys):=λc ys z=>J43 gd4 (λ_ z=>nomatch z) z;obtain ⟨dx5,ho5⟩:=hS4.o;have hS5:ShAt f (upd H4 d (.dK (JS kvs (.inr "given") (.int rwl.length)))) o lf ds _ xs rws:=⟨⟨dx5,kp _ _ ho5 (J0S ho5 gd4 (λz=>nomatch z))⟩,kp _ _ hS4.l (J0S hS4.l gd4 (λz=>nomatch z)),kp _ _ hS4.d nsd⟩;have gr5:=kp _ _ gr4 (Ne.symm ndr);have gd5:upd H4 d (.dK (JS kvs (.inr "given") (.int rwl.length))) d=some (.dK (JS kvs (.inr "given") (.int rwl.length))):=Jd;have J1:=J1.tup tk;have J2:=J2.tup tk;generalize upd H4 d (.dK (JS kvs (.inr "given") (.int rwl.length)))=H5 at *;have hV5:=hV.mono s5;refine ⟨_,J2E gd5 k2,_,J2E gd5 k4,o,v,lf,ds,n0,n1,fg,sv,_,xs,fvs,rws,_,gs,ns,kds,is0,is1,nrs,F,rfl,hS5,⟨⟨hS5.l,hV5.b.F,hV5.b.kk,hV5.b.vw,hV5.b.fg,hV5.b.fs,hV5.b.fl⟩,hV.nd,hV.nm,hV.g1,hV.g4⟩,(hSv.mono (Same.t s5)).le (by decide),J1.k,J1.n,by omega,λH6 t kss0 kss1 s6 hT hk0 hk1=>?_⟩;exact k H6 t nrs kss0 kss1 (s5.trans s6) ⟨⟨_,s6 _ _ gd5,k1,k2,k3,k4⟩,hV5.mono s6,hSv.mono (Same.t (s5.trans s6)),⟨_,_,s6 _ _ gr5,J2.k.mono s6,J2.n.mono s6,by omega⟩,h8⟩ hT hk0 hk1
def J1S (wd:Str)(kvs:List (List Ji×V))(k:List Ji):List (List Ji×V):=if wd="open" then JS kvs k (.bl true) else J2D kvs k
inductive Q_l_turned (K:Frag)(f:Nat->Addr)(vs:List V)(H:Hp)(Q:VK):Prop
 | mk (o t un od u0 u1 lp:Addr) (wd sd:Str) (ps:List V) (ns kds:List Str) (is0 is1 is:List Nat) (kss0 kss1 kss:List (List Ji)) (kvs:List (List Ji×V)) (u0_:vs=[.ref o,.str wd,.str sd,.ref lp]) (u1_:Lks f H o t un od u0 u1 sd ns kds is0 is1 is kss0 kss1 kss) (u2_:H lp=some (.tup ps)) (u3_:(∀ v∈ps,Fl v)) (u4_:H (sdU sd u0 u1)=some (.dT kvs)) (u5_:kvs.length<=1000) (u6_:(J65 kds is kss ps=true->∀ H1 H2 c,Same H H1->Put (sdU sd u0 u1) (J1S wd kvs (ps.map toN)) H1 H2->H2 c=some (.tup [])->Q (.ref c) H2)) (u7_:(J65 kds is kss ps=false->∀ H' c,Same H H'->H' c=some (.tup [.bl true,.bl true,.bl false])->Q (.ref c) H')):Q_l_turned K f vs H Q
def J8w (K:Frag)(f:Nat->Addr):Sp:=λvs H Q _=>Q_l_turned K f vs H Q
theorem J95 (T:Txt K mg f fd):FnOk P w K mg base CX0 9 (f 84) (fd 84) ["_law_look","_law_word","_law_side","_law_path"] (J8w K f):=by
 walk_at "ok yF J1K"
 ·walk_at "ln"
 ·obtain ⟨o,t,un,od,u0,u1,lp,wd,sd,ps,ns,kds,is0,is1,is,kss0,kss1,kss,kvs,rfl,hL,hp,hfl,hu,hkl,k1,k0⟩:=h
  obtain ⟨dx,ho⟩:=hL.lk.o;refine ⟨_,(Ja (psl 4 J1K.nd (Jz J9))
   (Ja (ps_try rfl rfl (λ_ _ _=>(Je (Jw (Jo JE (pvl 1) Jl (Jm _))
   (Je (JT (J4f (J8n rfl) (pvl 0) T.we.cls T.zk (J5j T) (hr.mono (by decide)) T.yN.b rfl (pal rfl (pvl 2) (pal rfl (pvl 3) J9)) rfl)))
   (Je (JT (J4f (J8n rfl) (pvl 0) T.we.cls T.zm (J81 T) (hr.mono (by decide)) T.yO.b rfl (pal rfl (pvl 2) (pal rfl (pvl 3) J9)) rfl))))))
   (ph_as rfl T.wj.m T.wj.x (by decide) J1K.nd (i:=5) rfl rfl (λ_=>(Je (psl 4 J1K.nd (Jz (pal rfl (Jt (JeF rfl) T.wc Jr rfl (by decide) (by decide) rfl (pal rfl (pvl 5) (pal rfl (J8Y T.y9.m rfl (by decide)) J9))) (pal rfl (Jt (JeF rfl) T.wc Jr rfl (by decide) (by decide) rfl (pal rfl (pvl 5) (pal rfl (pty T.zx J6M) J9))) (pal rfl (Jt (Jfo rfl) T.wc Jr rfl (by decide) (by decide) rfl (pal rfl (pvl 5) (pal rfl (Jz (pal rfl (J8Y T.ze.m rfl (by decide)) (pal rfl (J8Y T.zf.m rfl (by decide)) (pal rfl (J8Y T.zc.m rfl (by decide)) (pal rfl (J8Y T.zd.m rfl (by decide)) J9))))) J9))) J9)))))))
   Jf4))
   (Je (Jk (pvl 4))))),?_⟩
  walk_at "dc";refine ⟨Jb (by decide),λc hc=>?_⟩
  walk_at "nw c hc H1 u gc"
  have ncu:c≠sdU sd u0 u1:=λe=>by rw [e,hu] at hc;cases hc
  unfold J1S at k1;by_cases cw:wd=Str.ofString "open"
  case' pos =>
   rw [zP (zS cw)];rw [zP (show wd="open" from cw)] at k1;refine ⟨_,_,u _ _ ho,rfl,t,un,od,u0,u1,ps,ns,kds,is0,is1,is,kss0,kss1,kss,hL.mono u,u _ _ hp,hfl,kvs,u _ _ hu,hkl,λok H2 H3 s2 pt=>k1 ok H2 H3 c (u.trans s2) pt (by rw [pt.2 c ncu];exact s2 _ _ gc),λno H2 s2=>?_⟩
  case' neg =>
   rw [zO (by simpa using cw)];rw [zO (show ¬ wd="open" from cw)] at k1;refine ⟨_,_,u _ _ ho,rfl,t,un,od,u0,u1,ps,ns,kds,is0,is1,is,kss0,kss1,kss,hL.mono u,u _ _ hp,hfl,kvs,u _ _ hu,λok H2 H3 s2 pt=>k1 ok H2 H3 c (u.trans s2) pt (by rw [pt.2 c ncu];exact s2 _ _ gc),λno H2 s2=>?_⟩
  all_goals
   refine ⟨f 5,rfl,⟨_,T.wj.x⟩,?_⟩;rw [zP T.zp];intro x hx
   walk_at "nw x hx H3 u_ xo"
   have u7:=s2.trans u_;refine ⟨x,f 5,none,xo,.inl rfl,T.wj.xc,rfl,_,T.zo,x,f 5,none,xo,.inl rfl,T.wj.xc,rfl,_,T.zw,Jb (by decide),λp hp=>?_⟩
   walk_at "nw p hp H4 y8 g8"
   have u8:=u7.trans y8;refine ⟨x,p,f 5,none,false,[f 8,f 9,f 6,f 7],rfl,y8 _ _ xo,.inl rfl,T.wj.xc,.of g8,?_,Jb (by decide),λr hr=>k0 no _ r (u.trans (u8.new hr _)) Jd⟩;simp only [qp,map_nil,PySem.W.kitAny,T.zt,T.zu,T.zq,T.zr]
theorem J7p {is:List Nat}{rs:List V}{m:Nat}{a:List (List Ji)}:∀ {n:Nat},m<n->(pj is rs).take m∈J36 is rs n a
 | n+1,h=>by
   rw [J0X];by_cases e:m=n
   ·exact J2h.mpr (.inr (by rw [e]))
   ·exact J7r (J7p (n:=n) (by omega))
theorem J7l {is:List Nat}{x:List Ji}:∀ {rss:List (List V)} {a:List (List Ji)},x∈a->x∈rss.foldl (J0Y is) a
 | [],_,h=>h
 | rs::rss,a,h=>J7l (rss:=rss) (J6p h)
theorem J6n {is:List Nat}{rs:List V}{m:Nat}(hm:m<=is.length):∀ {rss:List (List V)} {a:List (List Ji)},rs∈rss->(pj is rs).take m∈rss.foldl (J0Y is) a
 | rs'::rss,a,h=>by
   rcases qo.mp h with rfl | h
   ·exact J7l (rss:=rss) (J7p (n:=is.length+1) (by omega))
   ·exact J6n hm (rss:=rss) h
theorem Jec (kss:List (List Ji))(ks:List Ji):(kss.map ksD).any (λe=>PyData.eqv e (ksD ks))=J5m kss ks:=by
 induction kss with
 | nil=>rfl
 | cons c bs ih =>
   have:PyData.eqv (ksD c) (ksD ks)=decide (c=ks):=by simp only [ksD,PyData.eqv];exact Jac c ks
   rw [qp,any_cons,ih,this];rfl
theorem Jg5 {K:Frag}{ks:List Ji}{kss:List (List Ji)}{neg:Bool}(hb:H b=some (.tup (ks.map nV)))(hk:∀ k∈ks,okN k)(ha:H a=some (.lst xs))(ht:TupsV H xs kss)(hks:∀ a∈kss,∀ k∈a,okN k)
 (q:Q (.bl (if neg then !J5m kss ks else J5m kss ks)) H):JeX K neg (.ref b) (.ref a) H Q:=by
 obtain ⟨r1,r2,r3⟩:=J9d (K:=K) ht hks;obtain ⟨q1,q2⟩:=J3r hk;refine ⟨_,_,J5v hb hk,by simp only [Rep];exact ⟨a,xs,rfl,.of ha,r1⟩,?_,?_,by rw [Jec];exact q⟩
 ·simp only [SeqAt.shaped,q1,q2];decide
 ·simp only [SeqAt.shaped,PyData.canLay0,PyData.depth,r2,Bool.true_and]
  exact zS (by omega)
theorem Jei {is:List Nat}{kss:List (List Ji)}{a:List Ji}(h:J0T is kds rss kss)(ha:a∈kss)(n:Nat):a.take n∈kss:=by
 rcases J8j (h.1.mem_iff.mp ha) with e | ⟨rs,h1,m,rfl⟩
 ·rw [qf.mp e,take_nil]
  exact h.1.mem_iff.mpr (J84 qm)
 ·have l:(pj is rs).length=is.length:=by unfold pj;rw [qe]
  rw [take_take];by_cases c:min n m<=is.length
  ·exact h.1.mem_iff.mpr (J6n c h1)
  ·have:=J6n (is:=is) (m:=is.length) (a:=[[]]) (zQ _) h1
   rw [take_of_length_le (by omega)] at this ⊢;exact h.1.mem_iff.mpr this
theorem Jf7 {is:List Nat}{kss:List (List Ji)}(h:J0T is kds rss kss)(hi:∀ i∈is,i<kds.length)(hr:∀ rs∈rss,RowS kds rs)(hf:∀ v∈ps,Fl v):J65 kds is kss ps=(J5m kss (ps.map toN)&&!(kss.filter (J06 ps)).isEmpty):=by
 unfold J65;cases e:(kss.filter (J06 ps)).isEmpty with
 | true=>rw [Bool.not_true,Bool.and_false,Bool.and_false]
 | false =>
   rw [Bool.not_false,Bool.and_true,Bool.and_true];obtain ⟨b,hb⟩:∃ b,b∈kss.filter (J06 ps):=by
    cases q:kss.filter (J06 ps) with
    | nil=>rw [q] at e;cases e
    | cons b _=>exact ⟨b,qm⟩
   obtain ⟨b1,b2⟩:=mem_filter.mp hb;unfold J06 at b2;rw [Bool.and_eq_true,decide_eq_true_eq,decide_eq_true_eq] at b2;have m:ps.map toN∈kss:=by rw [<- b2.2];exact Jei h b1 _
   have o:=(J6h h hi hr _ m).1;rw [(J4R hf).1] at o;rw [o,J4l.mpr m]
def Eqv (k j:List (List Ji×V)):Prop:=∀ x,(Jy k x).isSome=(Jy j x).isSome
def bU (b:Bool)(u0 u1:Addr):Addr:=if b then u0 else u1
def Opn (H:Hp)(u0 u1 w0 w1:Addr)(m:Nat):Prop:=∃ kk jj:Bool->List (List Ji×V),∀ b,H (bU b u0 u1)=some (.dT (kk b))/\H (bU b w0 w1)=some (.dT (jj b))/\Eqv (kk b) (jj b)/\(kk b).length<=m/\(jj b).length<=m
structure Wld (K:Frag)(f:Nat->Addr)(G:Hp)(a o d op q t un od u0 u1 w0 w1 l v n0 n1 fg dr:Addr)(is:List Int)(sv:V)(xs fvs ps:List V)(gs:List Fg)(ns kds:List Str)(is0 is1:List Nat)(nrs:List NR)(F:List V->Bool)(kss0 kss1:List (List Ji)):Prop where
 s:SqL K G a (is.map V.int)
 lk:LkAt f G o t un od u0 u1
 tb:TabAt f G t ns kds is0 is1 kss0 kss1
 st:StAt G d l v n0 n1 fg dr sv xs fvs gs ns kds is0 is1 nrs F
 h0:J0T is0 kds (rsF nrs F) kss0
 h1:J0T is1 kds (rsF nrs F) kss1
 op:OpAt G op w0 w1
 q:G q=some (.lst ps)
 P:Pools G ps kds
 x1:1<=xs.length
 nu:∀ b,G (bU b u0 u1)=none
 nw:∀ b,G (bU b w0 w1)=none
 un:u0≠u1
 wn:w0≠w1
 uw:∀ b c,bU b u0 u1≠bU c w0 w1
theorem J6Q {κ:Type}[DecidableEq κ](kvs:List (κ×V))(k j:κ):Jy (J2D kvs k) j=if j=k then none else Jy kvs j:=by
 unfold Jy J2D
 induction kvs with
 | nil=>split<;>rfl
 | cons x r ih =>
   rw [filter_cons];by_cases c:x.1=k
   ·rw [zO (by simpa using c),ih]
    by_cases e:j=k
    ·rw [zP e,zP e]
    ·rw [zO e,zO e,List.find?_cons_of_neg (by simpa using λz=>e (z.symm.trans c))]
   ·rw [zP (by simpa using c)]
    by_cases d:x.1=j
    ·rw [List.find?_cons_of_pos (by simpa using d),List.find?_cons_of_pos (by simpa using d),zO (λe=>c (d.trans e))]
    ·rw [List.find?_cons_of_neg (by simpa using d),List.find?_cons_of_neg (by simpa using d),ih]
theorem Eqv.done {k j:List (List Ji×V)}(h:Eqv k j)(wd:Str)(x:List Ji):Eqv (J1S wd k x) (J1S wd j x):=λy=>by
 unfold J1S
 split
 ·rw [J42,J42]
  split
  ·rfl
  ·exact h y
 ·rw [J6Q,J6Q]
  split
  ·rfl
  ·exact h y
theorem JaT (wd:Str)(k:List (List Ji×V))(x:List Ji):(J1S wd k x).length<=k.length+1:=by
 unfold J1S
 split
 ·exact J0L k x _
 ·exact Nat.le_succ_of_le (J9p k x)
theorem JfE {K:Frag}{bs:List Bool}(ha:H a=some (.tup (bs.map V.bl)))(hb:H b=some (.tup (bs.map V.bl)))(hl:bs.length<=3)(q:Q (.bl true) H):J8S K false (.ref a) (.ref b) H Q:=by
 have r:∀ bs:List Bool,Reps K H (bs.map PyData.bool) (bs.map V.bl)/\PyData.canLayAll0 (bs.map PyData.bool)=true/\PyData.depthAll (bs.map PyData.bool)=0:=λbs=>by
  induction bs with
  | nil=>exact ⟨by simp only [map_nil,Reps],rfl,rfl⟩
  | cons x r ih=>exact ⟨by simp only [qp,Reps];exact ⟨_,_,rfl,by simp only [Rep],ih.1⟩,by simp [PyData.canLayAll0,PyData.canLay0,ih.2.1],by simp [PyData.depthAll,PyData.depth,ih.2.2]⟩
 have e:PyData.eqv (.tuple (bs.map PyData.bool)) (.tuple (bs.map PyData.bool))=true:=by
  simp only [PyData.eqv];clear ha hb hl q
  induction bs with
  | nil=>rfl
  | cons x r ih =>
    simp only [qp,PyData.eqvAll,PyData.eqv,ih];cases x<;>rfl
 refine ⟨.tuple (bs.map PyData.bool),.tuple (bs.map PyData.bool),by simp only [Rep];exact ⟨a,_,rfl,.of ha,(r bs).1⟩,by simp only [Rep];exact ⟨b,_,rfl,.of hb,(r bs).1⟩,?_,?_,by rw [e];exact q⟩ <;>
 simp [SeqAt.shaped,PyData.canLay0,PyData.depth,(r bs).2.1,(r bs).2.2]
inductive Q_l_deed (K:Frag)(f:Nat->Addr)(vs:List V)(H:Hp)(Q:VK):Prop
 | mk (G:Hp) (a o d op q t un od u0 u1 w0 w1 l v n0 n1 fg dr:Addr) (is:List Int) (b:Int) (sv:V) (xs fvs ps:List V) (gs:List Fg) (ns kds:List Str) (is0 is1:List Nat) (nrs:List NR) (F:List V->Bool) (kss0 kss1:List (List Ji)) (m:Nat) (u0_:vs=[.ref a,.int b,.ref o,.ref d,.ref op,.ref q]) (u1_:0<=b) (u2_:b<8000) (u3_:Wld K f G a o d op q t un od u0 u1 w0 w1 l v n0 n1 fg dr is sv xs fvs ps gs ns kds is0 is1 nrs F kss0 kss1) (u4_:Same G H) (u5_:Opn H u0 u1 w0 w1 m) (u6_:m<=100) (u7_:∀ H',Same G H'->Opn H' u0 u1 w0 w1 (m+1)->Q (.bl true) H'):Q_l_deed K f vs H Q
def Jbb (K:Frag)(f:Nat->Addr):Sp:=λvs H Q _=>Q_l_deed K f vs H Q
theorem ok_l_deed (T:Txt K mg f fd):FnOk P w K mg base CX0 10 (f 85) (fd 85) ["_law_script","_law_at","_law_look","_law_state","_law_opens","_law_pools_here"] (Jbb K f):=by
 walk_at "ok yG J1s"
 ·walk_at "ln"
 ·obtain ⟨G,a,o,d,op,q,t,un,od,u0,u1,w0,w1,l,v,n0,n1,fg,dr,is,b,sv,xs,fvs,ps,gs,ns,kds,is0,is1,nrs,F,kss0,kss1,m,rfl,b0,b8,hW,s0,⟨kk,jj,hO⟩,hm,k⟩:=h
  refine ⟨_,(Ja (psl 6 J1s.nd (Jn (J05 rfl) (J0g (pal rfl Jl (pal rfl Jl J9))) (Jh T.wb (Js T) (hr.mono (by decide)) rfl (by decide) rfl (pal rfl (pvl 0) (pal rfl (pvl 1) (pal rfl Jc J9)))) (λ_ _=>rfl)))
   (Ja (psl 7 J1s.nd (Jn (J05 rfl) (J0g (pal rfl Jl (pal rfl Jl (pal rfl Jl J9)))) (Jh T.wb (Js T) (hr.mono (by decide)) rfl (by decide) rfl (pal rfl (pvl 0) (pal rfl (Jq Jx (pvl 1) Jc) (pal rfl Jc J9)))) (λ_ _=>rfl)))
   (Ja (psl 8 J1s.nd (Jh T.yD (ok_l_some_path T) (hr.mono (by decide)) rfl (by decide) rfl (pal rfl (pvl 0) (pal rfl (Jq Jx (pvl 1) Jc) (pal rfl (pvl 3) (pal rfl (pvl 6) (pal rfl (pvl 5) J9)))))))
   (Ja (psl 9 J1s.nd (Jh T.wA (ok_l_heads T) (hr.mono (by decide)) rfl (by decide) rfl (pal rfl (pvl 3) (pal rfl (pvl 6) J9))))
   (Ja (psl 10 J1s.nd (Jh T.yF (J95 T) (hr.mono (by decide)) rfl (by decide) rfl (pal rfl (pvl 2) (pal rfl (pvl 7) (pal rfl (pvl 6) (pal rfl (pvl 8) J9))))))
   (Ja (Jw (PW.pt (J2U (Jo (JcU rfl hr.units) (pvl 8) (pvl 9) rfl) (J1E (Jo (Jg7 rfl hr.units) (Jh T.wR (ok_l_kids T) (hr.mono (by decide)) rfl (by decide) rfl (pal rfl (pvl 9) (pal rfl (pvl 8) J9))) (J0g J9) (Jm _)))))
   (Je (Jk (JL (J6d rfl hr.units) (pvl 10) (Jz (pal rfl JV (pal rfl JV (pal rfl JV J9)))) (Jm _))))
   Jp)
   (Ja (Jw (Jo JE (pvl 7) Jl (Jm _))
   (Je (J1k (JH hr) (JQ (JH hr) (pvl 4) (pvl 6) (λ_ _=>rfl)) (pvl 8) JV rfl))
   (Je (Jw (J60 (J7S (JH hr) (pvl 8) (JQ (JH hr) (pvl 4) (pvl 6) (λ_ _=>rfl))))
   (Je (JT (J1Q rfl PySem.F.plainAttrs_dict PySem.F.slot_dict_pop PySem.F.type_dict_pop (mt_dpopT (JH hr)) rfl rfl rfl rfl (JQ (JH hr) (pvl 4) (pvl 6) (λ_ _=>rfl)) (pal rfl (pvl 8) J9))))
   Jp)))
   (Je (Jk (JL (J6d rfl hr.units) (pvl 10) (Jz J9) (Jm _))))))))))),?_⟩
  generalize hB:J14 (J2F _ _ _) _=B
  have tl : ∀ (H8:Hp) (lp hq c:Addr) (sd wd:Str) (ws ts:List V) (kss:List (List Ji)) (par:Bool),(sd="rows"\/sd="columns")->(wd="open"\/wd="fold")->Same G H8->H8 lp=some (.tup ws)->(∀ w∈ws,Fl w)->H8 hq=some (.lst ts)->TupsV H8 ts kss->kss.length<=61->(∀ a∈kss,∀ k∈a,okN k)->(J5m kss (ws.map toN)&&!(kss.filter (J06 ws)).isEmpty)=par->H8 c=some (.tup (if par=true then [] else [.bl true,.bl true,.bl false]))->(∀ b',H8 (bU b' u0 u1)=some (.dT (if par=true/\b'=decide (sd="rows") then J1S wd (kk b') (ws.map toN) else kk b'))/\H8 (bU b' w0 w1)=some (.dT (jj b')))->B { nx:=λ_ H'=>Q V.non H',rt:=Q } [some (V.ref a),some (V.int b),some (V.ref o),some (V.ref d),some (V.ref op),some (V.ref q),some (V.str sd),some (V.str wd),some (V.ref lp),some (V.ref hq),some (V.ref c)] H8:=by
   intro H8 lp hq c sd wd ws ts kss par hsd hwd s8 glp hfw gh tt hle hok hpar gc hU;obtain ⟨fm,fo⟩:=J4R hfw;have glp':=glp;rw [<- fm] at glp';subst hB;walk_at "dl";have yes:∀ (H9:Hp) (bs:List Bool) (p:Addr),H9 c=some (.tup (bs.map V.bl))->H9 p=none->bs.length<=3->(∀ H',Same H9 H'->Q (.bl true) H')->J8S K false (V.ref c) (V.ref p) (upd H9 p (.tup (bs.map V.bl))) Q:=λH9 bs p g hp hl kq=>by
    refine JfE (Same.upd_new hp _ _ _ g) Jd hl (kq _ (Same.upd_new hp _))
   have opn:∀ (H9:Hp),Same G H9->(∀ b',H9 (bU b' u0 u1)=some (.dT (if par=true/\b'=decide (sd="rows") then J1S wd (kk b') (ws.map toN) else kk b'))/\H9 (bU b' w0 w1)=some (.dT (if par=true/\b'=decide (sd="rows") then J1S wd (jj b') (ws.map toN) else jj b')))->Q (.bl true) H9:=λH9 s9 h9=>by
    refine k H9 s9 ⟨_,_,λb'=>⟨(h9 b').1,(h9 b').2,?_⟩⟩;obtain ⟨_,_,e,l1,l2⟩:=hO b';by_cases cc:par=true/\b'=decide (sd="rows")
    ·rw [zP cc,zP cc]
     exact ⟨e.done _ _,z9 (JaT _ _ _) (by omega),z9 (JaT _ _ _) (by omega)⟩
    ·rw [zO cc,zO cc]
     exact ⟨e,by omega,by omega⟩
   have bad:par=false->∀ H9,Same H8 H9->3<=sizeLine/\∀ p,H9 p=none->J8S K false (V.ref c) (V.ref p) (upd H9 p (HO.tup [V.bl true,V.bl true,V.bl false])) Q:=λe H9 s9=>by
    subst e;rw [zO zR] at gc;refine ⟨Jb (by decide),λp hp=>yes H9 [true,true,false] p (s9 _ _ gc) hp (by decide) λH' s'=>opn H' (s8.trans (s9.trans s')) λb'=>?_⟩;have h:=hU b';rw [zO (λz=>nomatch z.1)] at h ⊢;exact ⟨s' _ _ (s9 _ _ h.1),by rw [zO (λz=>nomatch z.1)];exact s' _ _ (s9 _ _ h.2)⟩
   refine Jg5 glp' fo gh tt hok ⟨_,rfl,?_⟩;rw [zP rfl];cases hN:J5m kss (ws.map toN) with
   | false =>
     rw [hN,Bool.false_and] at hpar;rw [zP (by decide)];exact bad hpar.symm H8 (Same.refl _)
   | true =>
     rw [hN,Bool.true_and] at hpar;rw [zO (by decide)];refine ⟨hq,lp,ts,ws,kss,rfl,gh,tt,by omega,hok,glp,hfw,λH9 q9 ts9 s9 g9 t9=>⟨Jb (by decide),λp9 hp9=>?_⟩⟩
     walk_at "nw p9 hp9 H10 u10 g10"
     have S10:=s9.trans u10;have ee:ts9.isEmpty=(kss.filter (J06 ws)).isEmpty:=by
      generalize kss.filter (J06 ws)=fl at t9;cases t9<;>rfl
     refine ⟨q9,p9,ts9,rfl,rfl,.of (u10 _ _ g9),.of g10,_,rfl,?_⟩;rw [ee];cases hE:(kss.filter (J06 ws)).isEmpty with
     | true =>
       rw [hE,Bool.not_true] at hpar;rw [zP rfl];exact bad hpar.symm H10 S10
     | false =>
       rw [hE,Bool.not_false] at hpar;subst hpar;rw [zO zR];rw [zP rfl] at gc;have eU:sdU sd w0 w1=bU (decide (sd="rows")) w0 w1:=by
        unfold sdU bU;by_cases c:sd="rows"
        ·rw [zP c,zP (zS c)]
        ·rw [zO c,zO (by simpa using c)]
       have gw:=S10 _ _ (hU (decide (sd="rows"))).2;have glw:=(hO (decide (sd="rows"))).2.2.2.2;have wn:=hW.wn;have uw:=hW.uw;have nw:=hW.nw;have get:=(hW.op.mono (s8.trans S10)).get hsd;have glp10:=S10 _ _ glp';generalize hbb:decide (sd="rows")=bb at *;rw [eU] at get;have fin:∀ H11:Hp,(∀ c',c'≠bU bb w0 w1->H11 c'=H10 c')->H11 (bU bb w0 w1)=some (.dT (J1S wd (jj bb) (ws.map toN)))->0<=sizeLine/\∀ p,H11 p=none->J8S K false (V.ref c) (V.ref p) (upd H11 p (HO.tup [])) Q:=λH11 e11 g11=>⟨Jb (by decide),λp hp=>yes H11 [] p (by rw [e11 c (λe=>by rw [<- e,S10 _ _ gc] at gw;cases gw)];exact S10 _ _ gc) hp (by decide) λH' s'=>opn H' (λx y h=>s' _ _ (by rw [e11 x (λe=>by rw [e,nw] at h;cases h)];exact (s8.trans S10) _ _ h)) λb'=>⟨s' _ _ (by rw [e11 _ (uw _ _)];exact S10 _ _ (hU b').1),s' _ _ (by
        by_cases c:b'=bb
        ·rw [zP ⟨rfl,c⟩,c]
         exact g11
        ·rw [zO (λz=>c z.2),e11 _ (λe=>by cases b'<;>cases bb<;>first | exact c rfl | exact wn e | exact wn e.symm)]
         exact S10 _ _ (hU b').2)⟩⟩
       rcases hwd with rfl | rfl
       ·rw [zP rfl]
        exact ⟨_,get,_,rfl,_,DPut.t gw glp10 (by rw [sizeLine_eq];omega),fin _ (λc' n=>Jj n) (by unfold J1S;rw [zP rfl];exact Jd)⟩
       ·rw [zO (by decide)]
        refine ⟨_,get,_,rfl,_,DGet.t gw glp10,?_⟩;cases hv:Jy (jj bb) (ws.map toN) with
        | none =>
          rw [zO (by decide)];exact fin H10 (λ_ _=>rfl) (by unfold J1S;rw [zO (by decide),J9o hv];exact gw)
        | some x =>
          rw [zP (by rfl)];exact ⟨_,get,.inr (.inr (.inl ⟨rfl,.inr ⟨_,gw⟩⟩)),_,rfl,_,gw,_,glp10,λv hv'=>fin _ (λc' n=>Jj n) (by unfold J1S;rw [zO (by decide)];exact Jd),λno=>by rw [hv] at no;cases no⟩
  walk_at "dl";refine ⟨Jb (by decide),λp1 hp1=>?_⟩
  walk_at "nw p1 hp1 H1 y1 g1"
  refine ⟨a,is,b,2,rfl,(s0.trans y1).seq hW.s,b0,by omega,by decide,λH2 s2=>?_⟩;have hsd:∃ sd:Str,(∀ R:VK,R (.str sd) H2->Ja0 K (.ref p1) (.int (drw is b 2)) H2 R)/\(sd="rows"\/sd="columns"):=by
   have w:=J33 (ns:=is) (k:=b) (m:=2) (by decide);rcases (by omega:drw is b 2=0\/drw is b 2=1) with h | h
   ·rw [h]
    exact ⟨_,λR r=>⟨p1,_,_,_,rfl,rfl,.of (s2 _ _ g1),Jg (j:=0) rfl,r⟩,.inl rfl⟩
   ·rw [h]
    exact ⟨_,λR r=>⟨p1,_,_,_,rfl,rfl,.of (s2 _ _ g1),Jg (j:=1) rfl,r⟩,.inr rfl⟩
  obtain ⟨sd,esd,hsd⟩:=hsd;refine esd _ ⟨Jb (by decide),λp2 hp2=>?_⟩
  walk_at "nw p2 hp2 H3 u3 g3"
  have T3:=y1.trans (s2.trans u3);refine ⟨a,is,b+1,3,rfl,(s0.trans T3).seq hW.s,by omega,by omega,by decide,λH4 s4=>?_⟩;have hwd:∃ wd:Str,(∀ R:VK,R (.str wd) H4->Ja0 K (.ref p2) (.int (drw is (b+1) 3)) H4 R)/\(wd="open"\/wd="fold"):=by
   have w:=J33 (ns:=is) (k:=b+1) (m:=3) (by decide);rcases (by omega:drw is (b+1) 3=0\/drw is (b+1) 3=1\/drw is (b+1) 3=2) with h | h | h
   ·rw [h]
    exact ⟨_,λR r=>⟨p2,_,_,_,rfl,rfl,.of (s4 _ _ g3),Jg (j:=0) rfl,r⟩,.inl rfl⟩
   ·rw [h]
    exact ⟨_,λR r=>⟨p2,_,_,_,rfl,rfl,.of (s4 _ _ g3),Jg (j:=1) rfl,r⟩,.inl rfl⟩
   ·rw [h]
    exact ⟨_,λR r=>⟨p2,_,_,_,rfl,rfl,.of (s4 _ _ g3),Jg (j:=2) rfl,r⟩,.inr rfl⟩
  obtain ⟨wd,ewd,hwd⟩:=hwd;have T4:=T3.trans s4;have S4:=s0.trans T4;refine ewd _ ⟨a,d,l,v,n0,n1,fg,dr,q,is,b+2,sd,sv,xs,fvs,ps,gs,ns,kds,is0,is1,nrs,F,rfl,S4.seq hW.s,by omega,by omega,hW.st.mono S4,hW.x1,S4 _ _ hW.q,hW.P.mono S4,λH5 lp ws s5 glp hfw=>?_⟩;have S5:=S4.trans s5;refine ⟨d,l,v,n0,n1,fg,dr,sd,sv,xs,fvs,gs,ns,kds,is0,is1,nrs,F,rfl,hW.st.mono S5,λH6 hq ts kss s6 gh tt hk=>?_⟩;have S6:=S5.trans s6;have T6:=T4.trans (s5.trans s6);have sel:Sel sd is0 is1 kss0 kss1 (sdI sd is0 is1) kss:=by
   rcases hsd with rfl | rfl
   ·exact .inl ⟨rfl,rfl,J8a hW.h0 hk⟩
   ·exact .inr ⟨rfl,rfl,J8a hW.h1 hk⟩
  have hsi:=hW.st.side sd;have hrw:=hW.st.rows;have hle:=J8b hk hsi.2 hrw.2;have hhd:=J6h hk hsi.1 hrw.1;have hL:Lks f H6 o t un od u0 u1 sd ns kds is0 is1 (sdI sd is0 is1) kss0 kss1 kss:=⟨hW.lk.mono S6,hW.tb.mono S6,sel,hle,λa ha=>(hhd a ha).ok,λa ha=>⟨(hhd a ha).1,(hhd a ha).le,λk hk=>(hhd a ha).2 _ (mem_map_of_mem hk)⟩⟩;have eU:∀ x y,sdU sd x y=bU (decide (sd="rows")) x y:=λx y=>by
   unfold sdU bU;by_cases c:sd="rows"
   ·rw [zP c,zP (zS c)]
   ·rw [zO c,zO (by simpa using c)]
  have hpi:=Jf7 (ps:=ws) hk hsi.1 hrw.1 hfw;refine ⟨o,t,un,od,u0,u1,lp,wd,sd,ws,ns,kds,is0,is1,sdI sd is0 is1,kss0,kss1,kss,kk (decide (sd="rows")),rfl,hL,s6 _ _ glp,hfw,by rw [eU];exact T6 _ _ (hO _).1,by have:=(hO (decide (sd="rows"))).2.2.2.1;omega,λok H7 H8 c s7 pt gc=>?_,λno H7 c s7 gc=>?_⟩
  ·have nt:∀ x y,H7 x=some y->(∀ z,y≠.dT z)->H8 x=some y:=λx y h n=>by
    rw [pt.2 x (λe=>n _ (by rw [e,eU,s7 _ _ (T6 _ _ (hO _).1)] at h;exact (zU h).symm))];exact h
   refine tl H8 lp hq c sd wd ws ts kss true hsd hwd (λx y h=>?_) (nt _ _ (s7 _ _ (s6 _ _ glp)) (λ_ z=>nomatch z)) hfw (nt _ _ (s7 _ _ gh) (λ_ z=>nomatch z)) (Paired.mapP (tt.mono s7) λ_ _ ⟨b,e,z⟩=>⟨b,e,nt _ _ z (λ_ z=>nomatch z)⟩) hle (λa ha=>(hhd a ha).ok) (hpi ▸ ok) (by rw [zP rfl];exact gc) λb'=>⟨?_,?_⟩
   ·rw [pt.2 x (λe=>by rw [e,eU,hW.nu] at h;cases h)]
    exact (S6.trans s7) _ _ h
   ·by_cases c:b'=decide (sd="rows")
    ·rw [zP ⟨rfl,c⟩,c,<- eU]
     exact pt.1
    ·rw [zO (λz=>c z.2),pt.2 _ (λe=>c (by
      rw [eU] at e
      revert e
      generalize decide (sd="rows")=bb at c ⊢;intro e;have un:=hW.un;cases b'<;>cases bb<;>first | rfl | exact absurd e un | exact absurd e (Ne.symm un)))]
     exact s7 _ _ (T6 _ _ (hO b').1)
   ·rw [pt.2 _ (λe=>by rw [eU] at e;exact hW.uw _ _ e.symm)]
    exact s7 _ _ (T6 _ _ (hO b').2.1)
  ·exact tl H7 lp hq c sd wd ws ts kss false hsd hwd (S6.trans s7) (s7 _ _ (s6 _ _ glp)) hfw (s7 _ _ gh) (tt.mono s7) hle (λa ha=>(hhd a ha).ok) (hpi ▸ no) (by rw [zO zR];exact gc) λb'=>⟨by rw [zO (λz=>nomatch z.1)];exact s7 _ _ (T6 _ _ (hO b').1),s7 _ _ (T6 _ _ (hO b').2.1)⟩
theorem JeT {kss:List (List Ji)}{k j:List (List Ji×V)}(h:Eqv k j):shw kss (λx=>(Jy k x).isSome)=shw kss (λx=>(Jy j x).isSome):=by
 rw [show (λx=>(Jy k x).isSome)=λx=>(Jy j x).isSome from funext h]
theorem shw_in {kss:List (List Ji)}{op:List Ji->Bool}:∀ (d:Nat) (ks:List Ji),∀ a∈shw kss op d ks,a=ks\/a∈kss
 | 0,_,_,h=>by unfold shw at h;exact nomatch h
 | d + 1,ks,a,h=>by
   unfold shw at h;rcases qo.mp h with h | h
   ·exact .inl h
   ·split at h
    ·obtain ⟨b,hb,ha⟩:=mem_flatMap.mp h
     rcases shw_in d b a ha with rfl | h
     ·exact .inr (mem_filter.mp hb).1
     ·exact .inr h
    ·exact nomatch h
theorem J6N {H:Hp}:∀ {xs:List V},(∀ x∈xs,Fl x)->Paired (SmA H 0) xs xs
 | [],_=>.nil
 | x::xs,h=>.cons ⟨rfl,h x qm⟩ (J6N λy hy=>h y (ql _ hy))
theorem J6R {H:Hp}:∀ {ts ts':List V} {kss:List (List Ji)},TupsV H ts kss->TupsV H ts' kss->(∀ a∈kss,(∀ k∈a,Fl (nV k))/\a.length<=100)->Paired (SmA H 1) ts ts'
 | _,_,_,.nil,.nil,_=>.nil
 | _,_,_,.cons r t,.cons r' t',h=>by
   obtain ⟨b,e,g⟩:=r;obtain ⟨b',e',g'⟩:=r';have h0:=h _ qm;refine .cons ⟨b,b',_,_,e,e',.inr ⟨g,g'⟩,J6N λx hx=>?_,?_⟩ (J6R t t' λa ha=>h a (ql _ ha))
   ·obtain ⟨k,hk,rfl⟩:=qy.mp hx
    exact h0.1 k hk
   ·rw [qe,sizeLine_eq]
    omega
theorem Jc2 {y:V}(h:([V.str (Str.ofString "rows"),V.str (Str.ofString "columns")]:List V)[i]?=some y):∃ sd:Str,y=.str sd/\(sd="rows"\/sd="columns"):=by
 rcases qo.mp (qi h) with h | h
 ·exact ⟨_,h,.inl rfl⟩
 ·exact ⟨_,qf.mp h,.inr rfl⟩
def J5n (H:Hp)(d e:Addr):Hp:=λc=>if c=d\/c=e then none else H c
open Classical in
def J3Y (H:Hp)(u0 u1 w0 w1:Addr):Hp:=λc=>if ∃ b,c=bU b u0 u1\/c=bU b w0 w1 then none else H c
theorem Opn.mono {w0 w1:Addr}(s:Same H H')(h:Opn H u0 u1 w0 w1 m):Opn H' u0 u1 w0 w1 m:=let ⟨kk,jj,h⟩:=h;⟨kk,jj,λb=>⟨s _ _ (h b).1,s _ _ (h b).2.1,(h b).2.2⟩⟩
def J7y (K:Frag):Sp:=λvs H Q _=>∃ (a:Addr) (ns:List Int),vs=[.ref a]/\SqL K H a (ns.map V.int)/\ns.length<=63/\∀ H',Q (.bl true) H'
theorem ok_law (T:Txt K mg f fd):FnOk P w K mg base CX0 14 (f 86) (fd 86) ["_law_script"] (J7y K):=by
 walk_at "ok yH J1V"
 ·walk_at "ln"
 ·obtain ⟨a,is,rfl,hs,_,k⟩:=h
  refine ⟨_,(Ja (Jcx (Jh T.yC (Ja9 T) (hr.mono (by decide)) rfl (by decide) rfl (pal rfl (pvl 0) J9)) (J77 rfl rfl (J0r (pgc 1 J1V.nd) (J0r (pgl 2 J1V.nd) J3h))))
   (Ja (psl 3 J1V.nd (Jh T.yE (ok_l_tables T) (hr.mono (by decide)) rfl (by decide) rfl (pal rfl (pvl 0) (pal rfl (pvc 1) (pal rfl (pvl 2) J9)))))
   (Ja (psl 4 J1V.nd (J5s T.we.mkr (J2f T) (hr.mono (by decide)) rfl T.we.m T.wS.b .nil J2e (pal rfl (pvl 3) J9) (by decide) rfl rfl))
   (Ja (psc 5 J1V.nd (J5s T.we.mkr (J2f T) (hr.mono (by decide)) rfl T.we.m T.wS.b .nil J2e (pal rfl (pvl 3) J9) (by decide) rfl rfl))
   (Ja (psl 6 J1V.nd (J3j (J09 Jl (J15 (JH hr) (Jz J9) JV) (J09 Jl (J15 (JH hr) (Jz J9) JV) J2u)) rfl rfl (cons_ne_nil _ _) (by show 2<=15;decide)))
   (Ja (psc 7 J1V.nd (J3j (J09 Jl (J15 (JH hr) (Jz J9) JV) (J09 Jl (J15 (JH hr) (Jz J9) JV) J2u)) rfl rfl (cons_ne_nil _ _) (by show 2<=15;decide)))
   (Ja (J0f PassesOwn.never rfl (J0m rfl T.wl (pal rfl (Jq Jx Jc (Jh T.wb (Js T) (hr.mono (by decide)) rfl (by decide) rfl (pal rfl (pvl 0) (pal rfl Jc (pal rfl Jc J9))))) J9)) (pgl 8 J1V.nd)
   (Ja (Jw (J0l (J0a (Jh T.yG (ok_l_deed T) (hr.mono (by decide)) rfl (by decide) rfl (pal rfl (pvl 0) (pal rfl (Jq Jx Jc (Jq J1G Jc (pvl 8))) (pal rfl (pvl 4) (pal rfl (pvc 1) (pal rfl (pvl 6) (pal rfl (pvl 2) J9)))))))))
   (Je (Jk JV))
   Jp)
   (Je (J0f PassesOwn.never rfl (J0B rfl (J0g (pal rfl Jl (pal rfl Jl J9)))) (pgl 9 J1V.nd)
   (Je (Jw (J0l (J0a (Jh T.wB (J4N T 3) (hr.mono (by decide)) rfl (by decide) rfl (pal rfl (J3i (pvl 4) T.we.cls T.yR (J3H T) (hr.mono (by decide)) T.wU.b .nil J2e (pal rfl (pvl 9) J9) rfl rfl rfl) (pal rfl (Jh T.wC (J4M T 4) (hr.mono (by decide)) rfl (by decide) rfl (pal rfl (pvc 1) (pal rfl (pvl 6) (pal rfl (pvl 9) (pal rfl (Jz J9) J9))))) J9)))))
   (Je (Jk JV))
   Jp))))))
   (Je (Jk (Jt (J53 rfl rfl) T.wo J35 rfl (by decide) (by decide) rfl (pal rfl (JJ ["_law_side"] ["_law_script","_law_state","_law_pools_here","_law_table","_law_look","_law_still","_law_opens","_law_first","_law_k","#9"] rfl (show CompSc _ (Jf s_law) Jg0 ["_law_script","_law_state","_law_pools_here","_law_table","_law_look","_law_still","_law_opens","_law_first","_law_k","#9"] from Jv (by decide +kernel)) (J0B rfl (J0g (pal rfl Jl (pal rfl Jl J9)))) (λ_ _ _ _ _=>(pgl 0 (show (["_law_side","_law_script","_law_state","_law_pools_here","_law_table","_law_look","_law_still","_law_opens","_law_first","_law_k","#9"]:List Str).Nodup by decide +kernel))) (λ_ _ _ _ _=>JI) (λ_ _ _ _ _=>(Jh T.wB (J4N T 3) (hr.mono (by decide)) rfl (by decide) rfl (pal rfl (J3i (pvc 6) T.we.cls T.yR (J3H (P:=P) (w:=w) T) (hr.mono (by decide)) T.wU.b .nil J2e (pal rfl (pvl 0) J9) rfl rfl rfl) (pal rfl (Jh T.wC (J4M T 4) (hr.mono (by decide)) rfl (by decide) rfl (pal rfl (pvc 2) (pal rfl (pvc 8) (pal rfl (pvl 0) (pal rfl (Jz J9) J9))))) J9))))) J9))))))))))),?_⟩
  generalize hB:J14 (JdD _ _ _) _=B;generalize hD:J4W _=TD;walk_at "dl";refine ⟨a,is,rfl,hs,λH1 p d l v n0 n1 fg dr q kvs sv xs fvs ps gs ns kds is0 is1 F s1 gp gd kf kv kr ks hkl hd0 hdr0 ndr gdr hV hSv gq hP x1 x8=>?_⟩;refine ⟨p,_,rfl,.of gp,rfl,?_⟩;simp only [J2C,J6J,JN];walk_at "dl";have cG:∀ c x,H1 c=some x->c≠d->c≠dr->J5n H1 d dr c=some x:=λc x h n1 n2=>by
   unfold J5n;rw [zO (λz=>z.elim n1 n2)];exact h
  have go:∀ c x,H1 c=some x->(∀ z,x≠.dK z)->J5n H1 d dr c=some x:=λc x h n=>cG c x h (λe=>n _ (by rw [e,gd] at h;exact (zU h).symm)) (λe=>n _ (by rw [e,gdr] at h;exact (zU h).symm));have sG:Same (J5n H1 d dr) H1:=λc x h=>by
   unfold J5n at h
   split at h
   ·cases h
   ·exact h
  have sHG:Same H (J5n H1 d dr):=λc x h=>cG c x (s1 _ _ h) (λe=>by rw [e,hd0] at h;cases h) (λe=>by rw [e,hdr0] at h;cases h);have nd1:J5n H1 d dr d=none:=by unfold J5n;rw [zP (.inl rfl)]
  have nd2:J5n H1 d dr dr=none:=by unfold J5n;rw [zP (.inr rfl)]
  have hVG:=hV.go go;have hPG:=hP.go go;have hSG:Sv ns kds 1 (J5n H1 d dr) sv F:=hSv.mono λb ys z=>go _ _ z (λ_ e=>nomatch e);have gqG:=go _ _ gq (λ_ e=>nomatch e);generalize J5n H1 d dr=G at *;refine ⟨G,a,d,l,v,n0,n1,fg,dr,q,is,kvs,sv,xs,fvs,ps,gs,ns,kds,is0,is1,F,rfl,sG,nd1,nd2,ndr,sHG.seq hs,gd,hkl,kf,kv,kr,ks,gdr,hVG,hSG,gqG,hPG,x1,x8,λH2 t nrs kss0 kss1 s2 hSt hT hk0 hk1=>?_⟩;have hs2:=(sHG.trans s2).seq hs;have gq2:=s2 _ _ gqG;have hP2:=hPG.mono s2;clear cG go sG sHG nd1 nd2 hVG hPG hSG gqG hV hSv gq hP gdr ndr hdr0 hd0 hkl ks kr kv kf gd gp s1 hs s2;unfold Jaw;walk_at "dl";intro o dx ho hdx hne;have hn1:upd H2 dx (.own o) o=none:=by rw [Jj (Ne.symm hne)];exact ho
  refine ⟨H2,o,t,dx,rfl,(Same.upd_new hdx _).new hn1 _,ho,Jd,λH3 un od u0 u1 s3 hLk nu0 nu1 nuu g0 g1=>⟨rfl,?_⟩⟩;clear hn1 hne hdx ho;intro o2 dx2 ho2 hdx2 hne2;have hn2:upd H3 dx2 (.own o2) o2=none:=by rw [Jj (Ne.symm hne2)];exact ho2
  refine ⟨H3,o2,t,dx2,rfl,(Same.upd_new hdx2 _).new hn2 _,ho2,Jd,λH4 un2 od2 v0 v1 s4 hLk2 nv0 nv1 nvv gv0 gv1=>⟨rfl,?_⟩⟩;clear hn2 hne2 hdx2 ho2;subst hD;refine Jdc λH5 op w0 w1 s5 _ nw0 nw1 nww hOp gw0 gw1=>Jdc λH6 fo f0 f1 s6 _ nf0 nf1 nff hOf gf0 gf1=>?_;have S46:=s5.trans s6;have S36:=s4.trans S46;have S26:=s3.trans S36;have hu:∀ b,H6 (bU b u0 u1)=some (.dT [([],.bl true)]):=λb=>by cases b;exact S36 _ _ g1;exact S36 _ _ g0
  have hw:∀ b,H6 (bU b w0 w1)=some (.dT [([],.bl true)]):=λb=>by cases b;exact s6 _ _ gw1;exact s6 _ _ gw0
  have hu4:∀ b,H4 (bU b u0 u1)=some (.dT [([],.bl true)]):=λb=>by cases b;exact s4 _ _ g1;exact s4 _ _ g0
  have hw4:∀ b,H4 (bU b w0 w1)=none:=λb=>by cases b;exact nw1;exact nw0
  have hu2:∀ b,H2 (bU b u0 u1)=none:=λb=>by cases b;exact nu1;exact nu0
  have huw:∀ b c,bU b u0 u1≠bU c w0 w1:=λb c e=>by have h:=hu4 b;rw [e,hw4 c] at h;cases h
  have cG:∀ c x,H6 c=some x->(∀ b,c≠bU b u0 u1)->(∀ b,c≠bU b w0 w1)->J3Y H6 u0 u1 w0 w1 c=some x:=λc x h n1 n2=>by
   unfold J3Y;rw [zO]
   ·exact h
   ·rintro ⟨b,z | z⟩
    ·exact n1 b z
    ·exact n2 b z
  have go:∀ c x,H6 c=some x->(∀ z,x≠.dT z)->J3Y H6 u0 u1 w0 w1 c=some x:=λc x h n=>cG c x h (λb e=>n _ (by rw [e,hu] at h;exact (zU h).symm)) (λb e=>n _ (by rw [e,hw] at h;exact (zU h).symm));have sG:Same (J3Y H6 u0 u1 w0 w1) H6:=λc x h=>by
   unfold J3Y at h
   split at h
   ·cases h
   ·exact h
  have s2G:Same H2 (J3Y H6 u0 u1 w0 w1):=λc x h=>cG c x (S26 _ _ h) (λb e=>by rw [e,hu2] at h;cases h) (λb e=>by have z:=(s3.trans s4) _ _ h;rw [e,hw4] at z;cases z);have hv:∀ b,J3Y H6 u0 u1 w0 w1 (bU b v0 v1)=some (.dT [([],.bl true)]):=λb=>by
   have g4:H4 (bU b v0 v1)=some (.dT [([],.bl true)]):=by cases b;exact gv1;exact gv0
   have n3:H3 (bU b v0 v1)=none:=by cases b;exact nv1;exact nv0
   exact cG _ _ (S46 _ _ g4) (λb' e=>by rw [e] at n3;cases b';rw [show bU false u0 u1=u1 from rfl,g1] at n3;cases n3;rw [show bU true u0 u1=u0 from rfl,g0] at n3;cases n3) (λb' e=>by rw [e,hw4] at g4;cases g4)
  have hf:∀ b,J3Y H6 u0 u1 w0 w1 (bU b f0 f1)=some (.dT [([],.bl true)]):=λb=>by
   have n5:H5 (bU b f0 f1)=none:=by cases b;exact nf1;exact nf0
   exact cG _ _ (by cases b;exact gf1;exact gf0) (λb' e=>by rw [e,s5 _ _ (hu4 b')] at n5;cases n5) (λb' e=>by rw [e] at n5;cases b';rw [show bU false w0 w1=w1 from rfl,gw1] at n5;cases n5;rw [show bU true w0 w1=w0 from rfl,gw0] at n5;cases n5)
  have nGu:∀ b,J3Y H6 u0 u1 w0 w1 (bU b u0 u1)=none:=λb=>by unfold J3Y;rw [zP ⟨b,.inl rfl⟩]
  have nGw:∀ b,J3Y H6 u0 u1 w0 w1 (bU b w0 w1)=none:=λb=>by unfold J3Y;rw [zP ⟨b,.inr rfl⟩]
  have lk1:=(hLk.mono S36).go go;have lk2:=(hLk2.mono S46).go go;have op1:OpAt (J3Y H6 u0 u1 w0 w1) op w0 w1:=(hOp.mono s6).imp λ_ z=>⟨go _ _ z.1 (λ_ e=>nomatch e),z.2⟩;have op2:OpAt (J3Y H6 u0 u1 w0 w1) fo f0 f1:=hOf.imp λ_ z=>⟨go _ _ z.1 (λ_ e=>nomatch e),z.2⟩;have hO0:Opn H6 u0 u1 w0 w1 1:=⟨λ_=>[([],.bl true)],λ_=>[([],.bl true)],λb=>⟨hu b,hw b,λ_=>rfl,zQ _,zQ _⟩⟩;generalize J3Y H6 u0 u1 w0 w1=G at *;have hW:Wld K f G a o d op q t un od u0 u1 w0 w1 l v n0 n1 fg dr is sv xs fvs ps gs ns kds is0 is1 nrs F kss0 kss1:=⟨s2G.seq hs2,lk1,hT.mono s2G,hSt.mono s2G,hk0,hk1,op1,s2G _ _ gq2,hP2.mono s2G,x1,nGu,nGw,nuu,nww,huw⟩;clear cG go s2G hu hw hu4 hw4 hu2 huw S26 S36 S46 hLk hLk2 hOp hOf g0 g1 gv0 gv1 gw0 gw1 gf0 gf1 nf0 nf1 nff nw0 nw1 nww nv0 nv1 nvv nu0 nu1 nuu s3 s4 s5 s6 hT hSt hk0 hk1 hP2 gq2 hs2 lk1 op1 nGu nGw;have eU:∀ (sd:Str) x y,sdU sd x y=bU (decide (sd="rows")) x y:=λsd x y=>by
   unfold sdU bU;by_cases c:sd="rows"
   ·rw [zP c,zP (zS c)]
   ·rw [zO c,zO (by simpa using c)]
  have side:∀ (H7:Hp) (o' un' od' y0 y1 op' z0 z1:Addr) (sd:Str) (kv jv:List (List Ji×V)) (R:VK),(sd="rows"\/sd="columns")->Same G H7->LkAt f G o' t un' od' y0 y1->OpAt G op' z0 z1->H7 (sdU sd y0 y1)=some (.dT kv)->H7 (sdU sd z0 z1)=some (.dT jv)->Eqv kv jv->(∀ H',Same H7 H'->R (.bl true) H')->J3C P w K f [V.ref o',V.str sd] H7 (λx H8=>0<=sizeLine/\∀ p,H8 p=none->J38 K 4 [V.ref d,V.ref op',V.str sd,V.ref p] (upd H8 p (HO.tup [])) (λy H9=>J28 K 3 [x,y] H9 R E0) E0) E0:=λH7 o' un' od' y0 y1 op' z0 z1 sd kv jv R hsd s7 hlk hop gy gz he hR=>by
   have hsi:=hW.st.side sd;have hrw:=hW.st.rows;have hk:∃ kss,J0T (sdI sd is0 is1) kds (rsF nrs F) kss/\Sel sd is0 is1 kss0 kss1 (sdI sd is0 is1) kss:=by
    rcases hsd with rfl | rfl
    ·exact ⟨kss0,hW.h0,.inl ⟨rfl,rfl,rfl⟩⟩
    ·exact ⟨kss1,hW.h1,.inr ⟨rfl,rfl,rfl⟩⟩
   obtain ⟨kss,hk,sel⟩:=hk;have hle:=J8b hk hsi.2 hrw.2;have hhd:=J6h hk hsi.1 hrw.1;have hL:Lks f H7 o' t un' od' y0 y1 sd ns kds is0 is1 (sdI sd is0 is1) kss0 kss1 kss:=⟨hlk.mono s7,hW.tb.mono s7,sel,hle,λa ha=>(hhd a ha).ok,λa ha=>⟨(hhd a ha).1,(hhd a ha).le,λk hk=>(hhd a ha).2 _ (mem_map_of_mem hk)⟩⟩;refine ⟨o',t,un',od',y0,y1,sd,ns,kds,is0,is1,sdI sd is0 is1,kss0,kss1,kss,kv,rfl,hL,hsi.2,gy,λH8 q8 ts8 _ s8 g8 t8=>⟨Jb (by decide),λp hp=>?_⟩⟩;have u9:=Same.upd_new hp (HO.tup []);have S9:=s8.trans u9;refine ⟨d,op',l,v,n0,n1,fg,dr,z0,z1,p,sd,[],sv,xs,fvs,gs,ns,kds,is0,is1,nrs,F,kss,jv,rfl,hW.st.mono (s7.trans S9),hop.mono (s7.trans S9),hsd,hk,Jd,(λ_ z=>nomatch z),(by have:=hsi.2;show _<=0+4;omega),(by decide),S9 _ _ gz,λH10 q10 ts10 s10 g10 t10=>?_⟩;rw [JeT he] at t8;have S10:=u9.trans s10;have hl:=Paired.length t8;refine ⟨V.ref q8,V.ref q10,rfl,⟨q8,q10,ts8,ts10,rfl,rfl,.inl ⟨S10 _ _ g8,g10⟩,J6R (t8.mono S10) t10 λa ha=>?_,?_⟩,λH' s'=>hR H' (s8.trans (S10.trans s'))⟩
   ·rcases shw_in _ _ a ha with rfl | ha
    ·exact ⟨(λ_ z=>nomatch z),zZ _⟩
    ·have:=(hhd a ha).le
     have:=hsi.2;exact ⟨λk hk=>(hhd a ha).2 _ (mem_map_of_mem hk),by omega⟩
   ·rw [hl,sizeLine_eq]
    exact z9 (J4A hle 4 []) (by decide)
  subst hB;walk_at "dl";refine J0h ?_;walk_at "dl";obtain ⟨m,em,hm⟩:=J0M (ns:=is) (k:=2) (m:=17) (by decide);refine ⟨a,is,2,17,rfl,sG.seq hW.s,by decide,by decide,by decide,λH7 s7=>?_⟩;rw [show drw is 2 17=(m:Int) from em];refine ⟨_,rfl,by omega,by omega,?_⟩;rw [show (4+(m:Int)).toNat=m+4 by omega];refine ForW.of J07 (λj σ H'=>(∃ v8 v9,σ=[some (V.ref a),some (V.ref d),some (V.ref q),some (V.ref t),some (V.ref o),some (V.ref o2),some (V.ref op),some (V.ref fo),v8,v9])/\Same G H'/\Opn H' u0 u1 w0 w1 (1+j)) ⟨⟨none,none,rfl⟩,sG.trans s7,hO0.mono s7⟩ (λ_ _ _ _ _=>trivial) ?_ ?_
  ·rintro j x σ H8 hx ⟨⟨v8,v9,rfl⟩,s8,hO⟩
   obtain ⟨hj,rfl⟩:=J0e hx;rw [Int.zero_add];simp only [JN];walk_at "dl";refine ⟨.inl ⟨by omega,by omega⟩,G,a,o,d,op,q,t,un,od,u0,u1,w0,w1,l,v,n0,n1,fg,dr,is,_,sv,xs,fvs,ps,gs,ns,kds,is0,is1,nrs,F,kss0,kss1,1+j,rfl,by omega,by omega,hW,s8,hO,by omega,λH9 s9 hO9=>⟨_,rfl,?_⟩⟩;rw [zO (by decide)];refine J0h ?_;walk_at "dl";refine ⟨Jb (by decide),λp hp=>?_⟩
   walk_at "nw p hp H10 u10 g10"
   refine ⟨⟨_,.of g10⟩,ForW.of (JC (xs:=[V.str (Str.ofString "rows"),V.str (Str.ofString "columns")])) (λi σ H'=>(∃ v9,σ=[some (V.ref a),some (V.ref d),some (V.ref q),some (V.ref t),some (V.ref o),some (V.ref o2),some (V.ref op),some (V.ref fo),some (V.int (j:Int)),v9])/\Same H10 H') ⟨⟨_,rfl⟩,Same.refl _⟩ (λ_ _ _ _ q=>q.2.seq (.of g10)) ?_ ?_⟩
   ·rintro i y σ H11 hy ⟨⟨v9,rfl⟩,s11⟩
    obtain ⟨sd,rfl,hsd⟩:=Jc2 hy;have S11:=s9.trans (u10.trans s11);obtain ⟨kk,jj,hO11⟩:=hO9.mono (u10.trans s11);obtain ⟨dx,ho⟩:=(hW.lk.mono S11).o;have hb:=hO11 (decide (sd="rows"));simp only [JN];walk_at "dl";refine ⟨_,_,ho,rfl,side H11 o un od u0 u1 op w0 w1 sd _ _ _ hsd S11 hW.lk hW.op (by rw [eU];exact hb.1) (by rw [eU];exact hb.2.1) hb.2.2.1 λH' s'=>⟨_,rfl,?_⟩⟩;rw [zO (by decide)];exact ⟨⟨_,rfl⟩,s11.trans s'⟩
   ·rintro σ H11 ⟨⟨v9,rfl⟩,s11⟩
    exact ⟨⟨_,_,rfl⟩,s9.trans (u10.trans s11),by rw [Nat.add_assoc] at hO9;exact hO9.mono (u10.trans s11)⟩
  ·rintro σ H8 ⟨⟨v8,v9,rfl⟩,s8,hO⟩
   walk_at "dl";refine ⟨Jb (by decide),λp hp=>?_⟩
   walk_at "nw p hp H10 u10 g10"
   refine ⟨⟨_,.of g10⟩,?_⟩;refine JM (JC (xs:=[V.str (Str.ofString "rows"),V.str (Str.ofString "columns")])) (Jb (by decide)) (λi ys H'=>Same H10 H'/\ys=(List.replicate i true).map V.bl) ⟨Same.refl _,rfl⟩ (λ_ _ H' _ q=>q.1.seq (.of g10)) (λi ys H' q=>by rw [q.2,qe,qD];exact zQ _) (λi y ys H11 hy q=>?_) (λys H11 q D hD=>?_)
   ·obtain ⟨s11,rfl⟩:=q
    obtain ⟨sd,rfl,hsd⟩:=Jc2 hy;have S11:=s8.trans (u10.trans s11);obtain ⟨dx,ho⟩:=(lk2.mono S11).o;walk_at "dl";obtain ⟨o',t',un',od',y0,y1,sd',ns',kds',i0',i1',is',k0',k1',ks',kv',ev,hL',h3',hu',hk'⟩:=side H11 o2 un2 od2 v0 v1 fo f0 f1 sd _ _ (λy H4=>(∃ o,some (V.str sd)=o)/\Same H10 H4/\(List.replicate i true).map V.bl++[y]=V.bl true::(List.replicate i true).map V.bl) hsd S11 lk2 op2 (by rw [eU];exact S11 _ _ (hv _)) (by rw [eU];exact S11 _ _ (hf _)) (λ_=>rfl) λH' s'=>⟨⟨_,rfl⟩,s11.trans s',by rw [show V.bl true::(List.replicate i true).map V.bl=(List.replicate (i+1) true).map V.bl from rfl,replicate_succ',qt];rfl⟩;cases ev;exact ⟨_,_,ho,rfl,t',un',od',y0,y1,ns',kds',i0',i1',is',k0',k1',ks',hL',h3',kv',hu',hk'⟩
   ·obtain ⟨s11,rfl⟩:=q
    refine ⟨_,.of Jd,?_⟩;rw [Jau];exact k _
end
theorem walk {l:PySem.W.OpenLaw}{q:Program}{loose:List Str}{XP:(Str->Option Value)->Heap->Prop}{YP:World->Heap->Prop}{d:DefRec}{K:Params->Frag}(hn:l.most=some 63)(hdf:d.params.defaults=[])
 (hY:∀ (w:World) (h:Heap),YP w h->(K w.params).In h)
 (F:∀ (w:World) (mg:Str->Option Value) (fa:Addr) (h:Heap),(K w.params).In h->h.Ns mainGlobals mg->mg d.name=some (.ref fa) ->
  ∃ fd:FuncData,(∀ (s:Shared) (u:Value),BindsTo s fd ⟨[u],[]⟩ [("_law_script",u)])/\∀ base:Heap,(K w.params).In base->base.Ns mainGlobals mg->FnOk l.prog w (K w.params) mg base CX0 14 fa fd ["_law_script"] (J7y (K w.params))) :
 PySem.W.WalkO q loose XP YP l.row.toRowW d [] (λf vs=>PySem.call f vs) :=
 L2.walk_of (n:=63) (k:=14) (x:="_law_script") (CX:=λ_=>CX0) (sp:=λw=>J7y (K w.params)) hn (by decide) hdf ⟨rfl,by decide,by decide⟩ hY F (λ_ _ a ns hl _ hS=>⟨a,ns,rfl,hS,hl,λ_=>rfl⟩) λ_ _ _ _ _ z=>z
theorem all_mk {l:PySem.W.OpenLaw}{w:World}{K:Frag}{h:Heap}{mg:Str->Option Value}{fa:Addr}(X:K.In h)(G:h.Ns mainGlobals mg)(hfa:mg "law"=some (.ref fa))(T:∃ f fd,Txt K mg f fd/\f 86=f 86/\∃ kV dc pm an cd ct,fd 86=PySem.W.fnOf "law" "law" (J13 s_law) (J0H s_law) (Jf s_law) .none kV dc pm an cd ct) :
 ∃ fd:FuncData,(∀ (s:Shared) (v:Value),BindsTo s fd ⟨[v],[]⟩ [("_law_script",v)])/\∀ base:Heap,K.In base->base.Ns mainGlobals mg->FnOk l.prog w K mg base CX0 14 fa fd ["_law_script"] (J7y K):=by
 obtain ⟨f,fd,T,_,kV,dc,pm,an,cd,ct,e⟩:=T;have e2:=hfa.symm.trans T.yH.m;cases e2;exact ⟨fd 86,λs v=>by rw [e];exact .of_eq rfl,λbase _ _=>ok_law T⟩
end NS
open Lean in
local macro_rules | `(command|#print $s:str)=>do
 let v:=λ(c:Char)=>if c.toNat<58 then c.toNat-48 else if c.toNat<91 then c.toNat-55 else c.toNat-61
 return mkNullNode (←(s.getString.splitOn " ").toArray.mapM λx=>`(command|def $(mkIdent (.mkSimple s!"tw{x.foldl (fun n c=>62*n+v c) 0}")):ident:=0))
namespace PySem.W.Fast
#print "2CUjAKQCl9b R6y7juugMk 6vLH5lwwZb gY7HUIVLld D2PrUouxM2x O16XdCOVYR FMlv4ck0Efp KTI3fJDFhGn ISEITPNtygz 90NnL77TMSb AMylwO1Wd4x Dk2SOa0iAmG GdfrpJXGv6n Amcma5c73zo AXsHVbBZZiV 8wzTe57xz3B 25FDww2DLpZ 4y2vVRJ8lw7 BMmY2NWpQ1M FS3XE3xU1tH BnIIVfjrrNK IJHMAZWcRlh CSFRhUdpbhI 7W8S0Cdi4XL 80r7wTaSUCv 21dXOsuOCeP GzWnsiIyhlI AT2q69dVnJj 5rrtAdLZYJo 6KIAsW3VAkA LPdPB78uyRK H8fP97e6O8W 1Dui5KWGrnD Gy23TL8zNLA 73csMZpBdUy 5pWFLpuS4RW JuYIRN5IqTZ 3XV0fnRKUha HxQq7fLq2xF 3hNHXeUgJGA A8or6wMcgRk 1ZzeNFg1N3d 2ZIcOYpQJWX CS9cBPy9GXd 3f9SDfaolkn En46OFlASPi Ft5WeOWNHVH 6VsXuiPpsrd CS54z0cghxm DNyTtBN53ts 1FDi7DhE0T0 BJltB40uTKC 9pliSWcSuj3 AIWKVoOje7p DxWPLERjOYp GWpCIjpbKZV 8pHjpxKkDQT F0TpUEm4cWa 6dwwASCEaJu D3VnKlikm1C Hc6y966fTbo 1KL8eCxecbK k0RGC3uXDm 6Atr72ZAqGp 8ELd6DrpX23 C6iYoyWuLMO 41ZhhHQ6W41 DPNZMhzfkcg FK5eCEiBYdO 9ark4Vjt6BB 4TmQ6UMVK1f 3HKzSpcy6Ts 16kXHcEJHxh 46oMdnZniTs 5XqgU96JeXA J2LMMAH3QA4 EiFahWajieo 3W8xpFxvyOK K91pkXmSqOE 3GU6xDATIh8 FkSk9UGweTQ FKczewZYVnm HmO168oUZdY AewttKnbNpw TlF0wJj3dG 89kLMs15SIp 9cO3Mtfd2h2 LCWVNZVBgeU DIE4sZdJu9f DCoT4rJeObg KvCZBKGgMAr 7cGkKxJgDMF I7tFm75rON9 Kan9Zmc2O7 6qnrSofpGtW 2oO6b6x9xIZ 6pRlIic6AWu KcCZ1afsB1E 78vUrl6N6pt 9YytY1lU3AK CLVqKUARqwk 1KdJXLL9TeD LSzzvQA9EHS 5hb4GCK5SAT Ke4nn8NulEQ D3UvzYyBEHk 12eMbdajas4 ITAWuOiJRnx HL66GSsCt4A CvF1YbDCJw6 LFt2ApR7EOH 1LhWNEoXz4E I6CBQZjlqik 3MBvTUbsvrz DKFuYMQvokR Iw7wnGXBMH5 GokgGYpMR1 CgJWuJhQqYy 6ScEMHDJ9TO 7Tn5M7CubNK 97QoJnWGPOi JS0ouimhcff CnAbXpxTEq3 FDUMSJ58LnS 4EiqkkFeRJR 6alvBu920E8 DTVttfTOuzA AggkLkorVZP 3WE27Vy9ayT 82z0leKNIkV 56eA4FKHAQ9 AQnCJf8yRcj 3ZzhOkEhGkz 7uP90856DvV GqK1SDlRYLD IJd1oh53BXM 7VE6SkxoX0c 259CY0m0eVQ 22h1vYG7CIi 2jvZaDX8xpY 4z9EgGTZ9vJ A8YgGT6AhWf 1CFy9w5Iy4d 2aqvIoI82KM Ehk8p5wZhiY 7GKoE7HqwIv CcZ8ZGhy1uY 20KHQAQEg1a HGVhl9WoAMU 5Vkq4iSHn8a 62APrtan4iJ BlfVyZnQ8eA WROysXwSmw Cr2aq93CwcG K4ky8EPlqt3 1zoKvDD9T6l JXQkx0qCbBr 7RyBIrqFLND 2fZjl5u5NXL HPY2pZKXZ0U L5Ka5if0d8X KDpbyIUSacH EtyETz15dkN AraVLpi2uPc 4QYgmOjZ63b G4eMgqh1GaT 5lmAtSD56BL Fn3P11n0p08 CNzJHLq90H3 9EUzwH1eY10 IbcODEOLBY3 5lygJR3bkV6 4Tx5ihju3L5 9ciWhqUGmcl FSsFltSkYdd KGRMvZDsrYN GKSs5P4rpU4 vvgJvb4sCB 370rYDr4xOC GK8UVttDnXM B6J7DxN3kPe HIgJlOvwOSX 1FOMkUABIxa 6DDt9hCj3c CIXx5V9fppV 57qPIwkmMk FRFBYcW6kk8 6wb1NmyuMLO 2f0fk5GyEFr JPA0nxmnamH IZoF6uR7ijG 6p9lm5Attws Gyx6jJGWyfw Lkx0scwALEb 4jrf08yEuej GAsAZpaNUDu Kf9Ns7JxMb9 K6zbxfbHhHP 6nDFkrefQY8 1CaFcVl5UNb 9Kfp3Ck6PUy 2SPQtdW5qPy IuUylpUxrq E7KGT5Gy4SB K6ANYxLkgJ6 I7TvPciddRL FBzyuEa3JT4 12p1NBGE87u 2zw0zmNjkN7 HARmfSHaBXu JgIgZoGHm1O AzUYwakJtde FqRM8ArZSDv HebF0XeUBTQ FWcIBp2TnlX 32zBLuCq8Gs JR2gVqV1mBT C0QoMiDS2x4 K9itURuGhuG DHAaE7fQyHT 8r01OmrOWUy CRjdN9h2Cwz 9TJ0cs1fKDP 44cRK1QhSGU LTcxGcP6rBo CCruuUd8NBW DJHtkcSfhYU Khv5G9kBs3w 4j3UnmXTsnz Buj0cHfamyF BAq1MjqHILS Lt3aLiLZsma 677UcDhVhvC QHYoCrxRHU JTjsuuNmTqz 9KsMrYSvJGD GLI7O7No20O iGuARj4Evq Dzxhp7GFuUN B2ZDGNKKGwN CTKVUvaMMIQ H1dcMoaJ7Ob CXFo5tBV7yh 9zVW4EGOm1S JUd1f8tIQoT AnJMA52SLzs 7IbOXVrAivG 4u1tjjvz3Yi 67J7xVvHDrU 5riPTMFnozV IBQRXLL1I8A 68KIxXIOxQ8 Y5JoIrym4M Gtg4M4Prb8 GgUzoX4AQXG DqtgSbBimFg K2TdQj1GeLR uSc42DvVMe 2LvFn7PZ1mc 9hWCqL4fA0i AfytANFtDKK DPFIPQ7FPbd KmeIMogUdAc HwCObTbrrvu EWbXxHvATo6 2dRwCb5i3Ml 8yIg4whhk7P 4yO5B6V5wvX 5ch41tpgf5A LRVm8u0TTXT JlRgMVmYAsz HhevDrUDGdb LbJdBdu2Vkc Hx2H9fTYtQU HQUu4TZTDh4 3U70cusf6yr DoedHGAm9Pc 8gs3qUrBqGH DqljUl6bAvT 8dJdA9MGXcl 40I6i3CVXxO GKIIUJnJsWz 4IEjYmrLqW1 HuwMUOejBhN K0eQqBxLAR7 DU2LtARTdys A9ggGqP5FRy FWM4dQaYmtP KEH93Nf6IgA LgzRMbBiTPD 9dA6iVoBgLa 1nR1yzLjSpK 1qYvUhKRkja DvMf93NAXgp BAAF7qynqeV Lz29MvAbKC 2dNW72DWnf 6s3k2XIvXAH 3JSulblFSfU 2caaEHtAVS9 IaKCOEc30oZ 5vTBnQIUa0N LVlvubEFXOF 4Tw5VzAvifk LgePbTpJ2a8 BVsHB0cTkB7 IOSsftwoRrw 7HMKqyaQPQ6 7TXOO15rHI2 55LUihAfHhK 6rfjjRcNFlb KjS1iQaoGoI KCb9aSgXSfm C8erCW8SQ5z KD87ASzEKiS 7pzjb8zSGUi 1rAjC0FvLCv FuNV0UpQ6fO 9xY8rY1fEo9 2PceSwIN1Aq 76f5NwRcufv E0gWqA5nqd9 5vV1Xdpw5WP 5DE7iWFsQdf 501fENRWXrY 1uUykUoIpeR FJiZnZ7sp1L 62awUVM64by GTCi7BhDe42 9JaW1eCm8nz 3nHpm9PP5TW I5BckkudMJC IrWbeyAy5mX 7AxmeGSglpL M8wys7JpCT 6HqBOoRSUcP BAvoHPFfslS Iw3KA5QG0Bk 6myoPb8YoCJ 6bZUudi8vWl KwJaSkUpKMW GVKs0TWKwZH 9PX0w6oWPRZ oQKfWhrKsA LYEheyb5C4f Bpn2Z23dh4p 774NlKvWKNW AAibkIDmSYe JueGbigHlfL 5t5TKWJf7bP AhiXVPBwU2L LP2QBdE1pom 6byGD2Jutu7 JKB0FI5XlD4 DLHJu9Ki9NW L0sfptubXJB GijQonpiDsm 9ph8uUZV3Fj IMx1kjc208Y 8pmY3a0iS3v 9h6spgefLf8 Kxkq010NL5X JcaxhctsiKe LVud77qYW2L CmdSLG0jM7n 2Ef5UqbeBR8 8QvKqzjdLW6 KdFUAZD7FlC ECWxmCHsvIR 909UyPcjUE8 KWIE0B0V0Uq 4hLJvCCQj8G INjl9tBgt0j 2IEAy3aHYW0 2hjJDPpRPtv AqgflZyknBe 3LZe6Ry5HHS AleZUnmeG60 Bh6tIYFFJV9 8M63gOjbNPm 8ZGc8rYbQQx J1bWTPxucqD Cpasomr5Sf8 PxR0wb4gDA 1qKcfDo6Zeh DKXmhXM8h24 HjOU6kLyDop J57l5Tg2bCj JNDupfuUk4t AbusNfyb2xa 6JG9b5pNIQu EMwxeLOiuyf 5DhsOH0vTSM DHydL1vQsMH Df1L07cLbHp 5c5w1MJ13Oi FY7Qa3TOk54 97Cnmlt0mRf KMy7Xsxdd7 84hPO2vkzKZ LjAqJ5XhwUo 4MD7BTAvyr7 JI2zJnYLfoA 6eipjtLeXUq 3RaDnyYDf1d EEG88ZvaLbT KS8nRVseTaP 3T8iOwiUBwN KWptCJ8DAaT LneCZLC2cqg FbeHVfoSbke 4xsXvr6g7UL 8wxVWbFXe2t 5SG2epffZrH Gh5w34UPM9L BXp7Vs908f5 1x20oBb9ISK 1WJbOUCGU4T HAnkCu9DWFZ 2TsyoZwMz0L 7xp00D1P9s6 69F6x6AMhz3 DxotJL2eVJ1 5yPOxQhlASP Fl2nqukhBir KZYR5XOL2Nc CeFogLqN83x K9sBOoaHlZ5 1WcBN7bGptp Gi31wiJMp1P E1Js0R1P63g 95VAVXKemQr 1MMVDErFfOd KF99Et5tjQj DBdPGRkE1WV 9NFppxXbugU 9p7MYzh5bxZ GeizUtUsiOX JXw8KNAcFeT D73nj7ylDM5 E7M7asOlOOG 7nr6bZF72vd 5cVIGFBIofX CN7ESaWEWIL FuM45XF9wWF Jrvg1xTIyLm CThRr8gZN0M 4Ibnf3wIi7J KAWUjZw9LVL 7tdvFBt1wU0 6X2XbkKkffg EVWYlUorQdG Dwh2eecx58j EEoyxyQacPF E9zML8gS3UN Esn9Wpic476 JFp16qW3Rbh 7NtzKKQMc2A KIeyQbBiAm4 LLJ20NpT7P3 KzyrUPj1l0V 8OpZW6S44BP DOEVEzWIuzi 5TPq3MVmpY7 7j1xKaQNKpi DwkM3Aa4r7Q 5CzIfsSo10k I8Svw41PKXK CYMMSNSXeS9 4ZIVsS9Y8J6 3ji7yvsFLa1 5yQztPsqULA fCa9UIKWkG 8JCOCtN1fdb 3Ou355LFZDx 65kXQ6KdLbY KJhtETNMXez 5sABblsLcDX JxNRrplMHt 6exdVKoSsey 58IF7x2fLR7 HAiSVyi8P1g 5BdGagXiO7n FQ7LI9FmYXR 8HoRabPGj8X IaP2OBG0LiO 6mmiwE5I7Ku D5P2BwOK2eh DQMts22sjev 77EMOhCsUlt 9BkXUVVhc5a GELOxXxFvlC H2TFyoBtV1z DdPMT1FMpRb 2OozE1BxJ4V LkAyy8Wi50v 6umxaxi4mQr Dfc5yTwI3TS 1KIrfLc5U3O BTfQmWOlUWE 99kc0SclCiX 3RMzjEeUIhK CwYsgyXuVeP BSLdsMgjJEV 4efbfJsglG9 JfFdiB8SAEP G3HCdAJpdqT 9IDq9y6NGZi 8FJr3zDh3bE 3xoS5XguTHa 97pvegBsi2v 1RPPj7k9gBx 1XgnOHBlB3d 5TSF6MaByPJ 94q02VNOJOJ L9tdMOKx3M7 CcZjLtgSjcU ExcG9GunApa HeFKmsmc6R4 Eqo2PQyoQuq Idge6FJ66hP J8EQVlVHWk4 Ge78hcLBd3T 3midVtmvi4z AutQDJtVfBy KJjlIBIzygF A2qqtcJ2IbV LcWCOcVLIwS 6jVu70l9QuU F2szrDJprSt LamApdMFPkd ArA08f8hFzk FvqrZi4UsBb IShJ0akEBoU GD02sYdW9xB I8qUBVyAAQC 64PXHDspRff D0s3cx8N6k6 2LtZS6QB1WP HnMtBlMjWKR Kf5llpbutlY 3wEaLZPNpLT Bp9RZuzAVx9 DT50RzX2uDe IFj0FnDxCtE K7ypxPPigDd IsoGiWLgeU2 L9NBK3hG9ZM 9AuCyympBcH Gl1RoMo2WSO 34IMLXTNlAm 1mRVVDG3j2m Jlrc9qfAl7M 7WjF5FPwMBW 72Kkm0RBVKV 2r6bxTKlLPR 8ZFpDEO2mNh HW3MaG8NueK el2DObeNrJ 1j8MuPsFnAs LR0encIZ8U9 28VeJv9rp12 HUgPeyPCUHe F6DZulaY3g7 9YyYY7Mp1G3 A12TSWOBmPb AeqK4iAkqJj CZZRwwyeWPX 6uT0ZW16hXr B0bMsAceFrN 1XmU4XjKdAo Hqbcy1AT7zy 6Xqv2pLR2k2 5HZtFr2L8cj Ad7cPdyFJlQ Jmg5tzwARFz 3dRWm6wAa5x 4B3W1uEZXlj HpdtuDbjkDD 4xKBjSQaYCE 8IIgRYIpWGi CVmyUkLLMhC GTWvNiudfWB IiVdbca63uL 3GX2G4NlG7w 5lFrRpUihut LLD0XaHegGa HdRryntmc1B 8EYS9L9JVoW 1MBtxqXvFD7 3CIue6RWuwg BgSJkQcfhhm 5EScAZHSGwg FjaAAWw94no 6P1msvnfSfm A7mM4apj6LB 1JaioPiVWhQ EeekRiECzlt Eyq3rJzTFgf AUHZmy4pPFa 6Rsz3Wa66tJ 2wttT9NExis cVvRmAiDIQ 9fusxo8uunD GDbb8o2BfZ3 15Z9mZ5FQol 7rVEPRIDvxE 3beWEMm3mRg 1QqKiX4CFK4 CIZm4oYmMBS B5mjB0ktnmQ FJoLrBEAJO 4FAoDSYetkQ JheH0SnKmZ1 7K3njJ60N48 8eH4rTIYtkj BTFMN80FJWA AcK2kdEKKyg 29f3aSC3zhP Dw4ajhCeoHc FwrfCGymu5s Hp0zvun0s1Q GLtMpZjpAWR HbuAHURcuhR JiOSk24Jj9N FYKPVlOXOgZ 6XGCBArIlLi CZ1khBDo4dZ FJ7mpGXDPJQ 4eBqYhfTtrQ 3EPdSv3COA7 NovoIzX6iB 3hrnhyp2vYG E3EDI4mrIbj HhuAiHrDD8x 3dTEruCT8qZ A9mUo4MwzeS DZSb6oYL7Qq 6D6DJDp8iCJ HM9uvNZkfXV 1qUdNWROwBT BvQJEXzujw8 AW3k63XQ96h IaXOIocsieR 2uYm9B7TZaN AV4FWNf9NIM DzfjLRVlEJM KPeDLZdIo0d 4cCNvmgLo58 7Fr96PxwP1w EwrTLNcFKtf AQCUgwGyTK9 Ix8dDhujk6A 4L8GevDq1ct 7tzZ95zDjvT 300LwSXEnk 5MBtrfv6PAq 2kkBJekUR1E 85tQhn0XIII JKfT2htSKNC IxikzW1xXkQ FhHFfgUaQOJ EJAp1HVhzrT 3A9gCLMPGDo 274DcBbxqgO"
end PySem.W.Fast
open PySem PySem.W PyProof.Rows
set_option maxRecDepth 100000 in
set_option maxHeartbeats 0 in
theorem PySem.Challenge.cw_crosshall_k65_opened_and_folded_holds : PySem.Challenge.rw_crosshall_k65_opened_and_folded.Holds := by
 w_on;o_law;k_head;(case hw=>w_witness2)
 k_fill
 refine NS.walk (l:=PySem.Challenge.rw_crosshall_k65_opened_and_folded) rfl rfl (λw h Y=>by first | exact PySem.W.kIn_of Y | exact PySem.W.km_in_of Y) ?F
 case F =>
  intro w mg fa h KX G hmg;refine NS.all_mk KX G hmg ?_
  suffices TT:∃ f fd,NS.Txt (L2.KOf KX) mg f fd/\f 86=f 86/\∃ kV dc pm an cd ct,fd 86=PySem.W.fnOf "law" "law" (L2.J13 NS.s_law) (L2.J0H NS.s_law) (L2.Jf NS.s_law) .none kV dc pm an cd ct from TT
  dsimp only [L2.KOf];obtain ⟨f,fd,T,_,z⟩:∃ f fd,NS.Txt _ mg f fd/\f 86=_/\∃ kV dc pm an cd ct,fd 86=PySem.W.fnOf "law" "law" (L2.J13 NS.s_law) (L2.J0H NS.s_law) (L2.Jf NS.s_law) .none kV dc pm an cd ct:=by
   refine' NS.txt_mk KX G ?a2 ?a5 ?a6 ?a7 ?a8 ?a9 ?a28 ?a51 ?a62 ?a14 ?l14 ?a15 ?l15 ?a16 ?l16 ?a17 ?l17 ?a18 ?l18 ?a19 ?l19 ?a20 ?l20 ?a24 ?l24 ?a25 ?l25 ?a26 ?l26 ?a27 ?l27 ?a31 ?l31 ?a32 ?l32 ?a37 ?l37 ?a38 ?l38 ?a39 ?l39 ?a40 ?l40 ?a41 ?l41 ?a42 ?l42 ?a43 ?l43 ?a44 ?l44 ?a45 ?l45 ?a47 ?l47 ?a50 ?l50 ?a53 ?l53 ?a54 ?l54 ?a55 ?l55 ?a56 ?l56 ?a57 ?l57 ?a58 ?l58 ?a60 ?l60 ?a61 ?l61 ?a64 ?l64 ?a65 ?l65 ?a66 ?l66 ?a67 ?l67 ?a68 ?l68 ?a69 ?l69 ?a70 ?l70 ?a71 ?l71 ?a72 ?l72 ?a73 ?l73 ?a74 ?l74 ?a75 ?l75 ?a76 ?l76 ?a77 ?l77 ?a78 ?l78 ?a79 ?l79 ?a80 ?l80 ?a81 ?l81 ?a82 ?l82 ?a83 ?l83 ?a84 ?l84 ?a85 ?l85 ?a86 ?l86 ?a29000 ?l29000 ?b29000 ?a29001 ?l29001 ?b29001 ?a29002 ?l29002 ?b29002 ?a29005 ?l29005 ?b29005 ?a29006 ?l29006 ?b29006 ?a52000 ?l52000 ?b52000 ?a52001 ?l52001 ?b52001 ?a52002 ?l52002 ?b52002 ?a52004 ?l52004 ?b52004 ?a52005 ?l52005 ?b52005 ?a63000 ?l63000 ?b63000 ?a63004 ?l63004 ?b63004 ?zXW ?zXG ?zXB ?zXz ?zXA ?zXF ?zXy ?zXJ ?zXH ?zXI ?zXD ?zXX ?zXN ?zXT ?zXQ ?zXO ?zXM ?zYh ?zYc ?zYg ?zYa ?zYf ?zYe ?zXR ?zXY ?zXZ ?zXV ?zXS ?zXL ?zXo ?zXa ?zXe ?zXn ?zXq ?zXj ?zXp ?zXb ?zXd ?zXf ?zXc ?zXl ?zXk ?zXm ?zXh ?zXg ?zXi ?zXE ?zXw ?zYu ?zYt ?zYo ?zYm ?zXC ?zYq ?zXu ?zYw ?zYn ?zYs ?zYl ?zXU ?zYv ?zYi ?zYp ?zYk ?zYr ?zYd ?zYb ?zXv ?zYj ?l22 ?zXt ?zXs ?l30 ?zXx ?zXr
   (case a2 | a5 | a6 | a7 | a8 | a9 | a28 | a51 | a62 | a14 | a15 | a16 | a17 | a18 | a19 | a20 | a24 | a25 | a26 | a27 | a31 | a32 | a37 | a38 | a39 | a40 | a41 | a42 | a43 | a44 | a45 | a47 | a50 | a53 | a54 | a55 | a56 | a57 | a58 | a60 | a61 | a64 | a65 | a66 | a67 | a68 | a69 | a70 | a71 | a72 | a73 | a74 | a75 | a76 | a77 | a78 | a79 | a80 | a81 | a82 | a83 | a84 | a85 | a86 | a29000 | b29000 | a29001 | b29001 | a29002 | b29002 | a29005 | b29005 | a29006 | b29006 | a52000 | b52000 | a52001 | b52001 | a52002 | b52002 | a52004 | b52004 | a52005 | b52005 | a63000 | b63000 | a63004 | b63004 | zXG | zXB | zXz | zXA | zXF | zXy | zXJ | zXH | zXI | zXD | zXX | zXN | zXT | zXQ | zXO | zXM | zYh | zYc | zYg | zYa | zYf | zYe | zXR | zXY | zXZ | zXV | zXS | zXL | zXo | zXa | zXe | zXn | zXq | zXj | zXp | zXb | zXd | zXf | zXw | zYu | zYt | zYo | zYm | zXC | zYq | zXu | zYw | zYn | zYs | zYl | zXU | zYv | zYi | zYp | zYk | zYr | zYd | zYb | zXv | zYj | l22 | zXt | zXs | l30 | zXx | zXr=>k_is)
   (case l14 | l15 | l16 | l17 | l18 | l19 | l20 | l24 | l25 | l26 | l27 | l31 | l32 | l37 | l38 | l39 | l40 | l41 | l42 | l43 | l44 | l45 | l47 | l50 | l53 | l54 | l55 | l56 | l57 | l58 | l60 | l61 | l64 | l65 | l66 | l67 | l68 | l69 | l70 | l71 | l72 | l73 | l74 | l75 | l76 | l77 | l78 | l79 | l80 | l81 | l82 | l83 | l84 | l85 | l86 | l29000 | l29001 | l29002 | l29005 | l29006 | l52000 | l52001 | l52002 | l52004 | l52005 | l63000 | l63004=>refine' L2.Jfu ?l ?c ?k;(case l=>k_is);(case c | k=>k_is))
   (case zXW=>kernel_rfl)
   (case zXc | zXl | zXk | zXm | zXh | zXg | zXi | zXE=>rfl)
  exact ⟨f,fd,T,rfl,z⟩