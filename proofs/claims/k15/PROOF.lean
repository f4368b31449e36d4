import PyProof.Rows.All
import Wide.All
import OpenK.AllK
import Wide.FinOn
import Lean
import PyProof.EqAt
import PyProof.EqKinds
import PyProof.TupleCall
import PyProof.Rows.SortRunsK
import PyProof.P3Eq
import OpenK.KOwn
import PyProof.InstStoreFacts
import PyProof.EnumFor
import PyProof.EnumMake
import PyProof.EnumStmt
import KE.KDictList
import PyProof.ListRange
import PyProof.Rows.SetFrom
import PyProof.WalksMore
import PyProof.AttrMissSeq
import KE.KDictOf
import PyProof.MinMaxWalk
import PyProof.Rows.CallKwBuiltin
import KE.KMinKey
import KE.KRevSl
import PyProof.SumAny
import PyProof.ZipIter
import PyProof.P3In
import PyProof.SeqI3
import KE.KSortTup
import KE.KSortKey
import PyProof.DictRoadsH
import PyProof.MeetsDict
import PyProof.TupleIter
import PyProof.DictIter
import PyProof.DictWalks
import PySem.Challenge.RW_crosshall_k15_whole_boxes_open_to_rows
set_option compiler.extract_closed false
set_option Elab.async false
set_option linter.all false
set_option maxHeartbeats 4000000
set_option maxRecDepth 100000
local macro_rules | `(tactic|walk_at "s")=>`(tactic|exact ⟨rfl,rfl,rfl,by decide +kernel,rfl,by decide +kernel,by decide +kernel⟩)
local macro_rules | `(tactic|omega)=>`(tactic|first | lia | omega (config:={}))
noncomputable section
def zq:=@PySem.wpAny_bind
def zr:=@PySem.wpAny_pure
def zt:=@if_neg
def zu:=@if_pos
def zv:=@Nat.le_refl
def zw:=@Bool.false_ne_true
def zx:=@decide_eq_true
def zy:=@decide_eq_false
def zA:=@Option.some.inj
def zB:=@Nat.ne_of_lt
def zC:=@Int.emod_lt_of_pos
def zD:=@Int.emod_nonneg
def zE:=@Nat.lt_of_lt_of_le
def zF:=@Nat.zero_le
def zG:=@Nat.le_trans
def zH:=@False.elim
def zI:=@Array.length_toList
def zJ:=@List.getElem?_eq_getElem
def zK:=@List.getElem?_eq_some_iff
def zL:=@List.length_map
def zM:=@List.mem_singleton
def zN:=@List.size_toArray
def zO:=@List.getD_eq_getElem?_getD
def zP:=@List.mem_of_getElem?
def zQ:=@List.length_append
def zR:=@List.length_take
def zS:=@List.mem_cons_of_mem
def zT:=@List.mem_cons_self
def zU:=@List.mem_cons
def zV:=@List.map_cons
def zW:=@List.getElem?_map
def zX:=@List.take_length
def zY:=@List.map_append
def zZ:=@List.mem_append
def z0:=@List.mem_append_right
def z9:=@List.mem_append_left
def qa:=@List.mem_iff_getElem?
def qb:=@List.mem_map
def qc:=@List.getElem?_append_right
def qd:=@List.getElem?_append_left
def qe:=@List.length_range
def qf:=@List.append_assoc
def qg:=@List.length_replicate
def qh:=@PySem.Heap.get?_push_of_some
def qi:=@PySem.Heap.get?_push_size
def qj:=@PySem.Heap.lt_size
def qk:=@PySem.Heap.get?_update_other
def ql:=@PySem.F.plainAttrs_list
def qm:=@PySem.W.mg_none_of
def qo:=@PySem.Around.under_plainId
open List (mem_filter mem_range filterMap_cons getElem_inj mem_filterMap any_eq_false length_cons append_nil nodup_cons of_mem_zip take_sublist filterMap_map length_drop all_cons any_cons reverse_cons length_singleton cons_append length_nil filter_cons length_filter_le map_nil nodup_nil forIn_cons lookup_cons all_eq_true take_add_one filter_append filter_eq_self not_mem_nil foldl_cons flatten_cons map_map sum_cons any_map range_succ filterMap_append eq_nil_of_length_eq_zero drop_zero take_of_length_le drop_length drop_of_length_le zip_cons_cons extract_eq_drop_take mem_of_mem_drop mem_of_mem_take mem_reverse mem_or_eq_of_mem_set zipIdx_cons set_append_right set_cons_zero eraseIdx_append_of_length_le take_append_drop drop_eq_getElem_cons drop_eq_nil_of_le tail_drop getElem_map getElem_toArray any_append any_nil any_eq_true nodup_append getElem_mem length_reverse foldl_append mapM_nil mapM_cons mapM_toArray all_toArray all_map forIn_toArray forIn_nil zipIdx_nil length_eq_zero_iff pairwise_map nodup_range append_cancel_left eq_of_mem_replicate cons_ne_nil map_take take_nil map_congr_left take_eq_take_iff getElem_range reverse_reverse flatMap_append take_zero mem_map_of_mem map_replicate replicate_succ' replicate_succ map_eq_nil_iff map_drop perm_append_comm map_reverse reverse_perm pairwise_cons filter_nil mem_of_find?_eq_some pairwise_append pairwise_singleton filter_sublist nil_append map_id length_zipWith forall_mem_cons lt_of_le_of_lt getElem_take pairwise_iff_getElem)
open PySem.W (nsIn)
namespace L2
open PySem PySem.Spec PyProof.Rows
abbrev Key:=Sum Int Str
def J34:Key->Value->Bool
 | .inl k,v=>Value.isInt k v
 | .inr x,v=>Value.isStrOf x v
def JeN (w:World):Key->Int
 | .inl k=>hashInt k
 | .inr x=>hashStr w x
theorem JO:∀ {k:Key} {v:Value},J34 k v=true->(∃ i t,k=Sum.inl i/\v=Value.int i t)\/(∃ x t,k=Sum.inr x/\v=Value.str x t)
 | .inl i,v,h=>by
   obtain ⟨t,e⟩:=Value.isInt_shape (k:=i) (v:=v) h;exact .inl ⟨i,t,rfl,e⟩
 | .inr x,v,h=>by
   obtain ⟨t,e⟩:=Value.isStrOf_shape (x:=x) (v:=v) h;exact .inr ⟨x,t,rfl,e⟩
theorem Jag (i:Int)(t:Tok):J34 (.inl i) (.int i t)=true:=by simp [J34,Value.isInt]
theorem Jaf (x:Str)(t:Tok):J34 (.inr x) (.str x t)=true:=by simp [J34,Value.isStrOf]
theorem Jed (a b:Int):decide ((Sum.inl a:Key)=Sum.inl b)=(a == b):=by
 by_cases e:a=b
 ·subst e;simp
 ·have h:¬ (Sum.inl a:Key)=Sum.inl b:=fun q=>e (Sum.inl.inj q)
  rw [zy h];exact (beq_eq_false_iff_ne.mpr e).symm
theorem Jea (a b:Str):decide ((Sum.inr a:Key)=Sum.inr b)=decide (a=b):=by
 by_cases e:a=b
 ·subst e;simp
 ·have h:¬ (Sum.inr a:Key)=Sum.inr b:=fun q=>e (Sum.inr.inj q)
  rw [zy h,zy e]
theorem Jec (a:Int)(b:Str):decide ((Sum.inl a:Key)=Sum.inr b)=false:=zy (fun q=>nomatch q)
theorem Jeb (a:Str)(b:Int):decide ((Sum.inr a:Key)=Sum.inl b)=false:=zy (fun q=>nomatch q)
def J01 (prog:Program)(w:World):PySem.KeyKind prog w Key where
 is:=J34
 hash:=JeN w
 inj := fun v a b ha hb=>by
  rcases JO ha with ⟨i,t,rfl,rfl⟩ | ⟨x,t,rfl,rfl⟩
  ·rcases JO hb with ⟨j,u,rfl,e⟩ | ⟨y,u,rfl,e⟩
   ·injection e with e1 _;rw [e1]
   ·exact nomatch e
  ·rcases JO hb with ⟨j,u,rfl,e⟩ | ⟨y,u,rfl,e⟩
   ·exact nomatch e
   ·injection e with e1 _;rw [e1]
 byValue:=fun k v h=>by
  rcases JO h with ⟨i,t,rfl,rfl⟩ | ⟨x,t,rfl,rfl⟩<;>rfl
 pyHash:=fun hv h=>by
  rcases JO hv with ⟨i,t,rfl,rfl⟩ | ⟨x,t,rfl,rfl⟩
  ·exact wpAny_pyHash_int h
  ·exact wpAny_pyHash_str h
 eqBool:=fun hu hv h=>by
  rcases JO hu with ⟨i,t,rfl,rfl⟩ | ⟨x,t,rfl,rfl⟩
  ·rcases JO hv with ⟨j,u,rfl,rfl⟩ | ⟨y,u,rfl,rfl⟩
   ·rw [Jed] at h;exact wpAny_eqBool_int h
   ·rw [Jec] at h;exact SeqAt.EqAt.int_str i t y u _ _ _ _ h
  ·rcases JO hv with ⟨j,u,rfl,rfl⟩ | ⟨y,u,rfl,rfl⟩
   ·rw [Jeb] at h;exact SeqAt.EqAt.str_int x t j u _ _ _ _ h
   ·rw [Jea] at h;exact wpAny_eqBool_str h
 «strs»:=fun k x t v h=>by
  rcases JO h with ⟨i,u,rfl,e⟩ | ⟨y,u,rfl,e⟩
  ·exact nomatch e
  ·injection e with e1 _
   subst e1;cases v<;>rfl
theorem J7Z (prog:Program)(w:World)(i:Int)(t:Tok):(J01 prog w).is (.inl i) (.int i t)=true:=Jag i t
theorem J7Y (prog:Program)(w:World)(x:Str)(t:Tok):(J01 prog w).is (.inr x) (.str x t)=true:=Jaf x t
abbrev Jq:=Option Key
def nIs:Jq->Value->Bool
 | none,.none=>true
 | none,_=>false
 | some k,v=>J34 k v
def nH (w:World):Jq->Int
 | none=>reduceHash 0xFCA86420
 | some k=>JeN w k
theorem J0G:∀ {k:Jq} {v:Value},nIs k v=true->(k=none/\v=Value.none)\/∃ q,k=some q/\J34 q v=true
 | none,v,h=>by cases v<;>first | exact .inl ⟨rfl,rfl⟩ | exact nomatch h
 | some k,v,h=>.inr ⟨k,rfl,h⟩
theorem J3J {q:Key}(h:J34 q Value.none=true):False:=by
 rcases JO h with ⟨_,_,_,e⟩ | ⟨_,_,_,e⟩<;>exact nomatch e
theorem J7L {prog:Program}{w:World}{A:Around}{E:Value->Shared->Prop}{s:Shared}{Q:Int->Shared->Prop}(h:Q (reduceHash 0xFCA86420) { s with toks:=s.toks+1 }):wpAny (model prog w) A (pyHash .none) Q E s :=
 PySem.W.pyHash_slot (T:="NoneType") rfl F.slot_NoneType_hash F.entry_NoneType_hash (F.args_NoneType_hash_1 _) (beq_builtin_none _) (.inl rfl) (zq (zr (zq (wpAny_mkInt (zr ⟨_,_,rfl,h⟩)))))
theorem J88 {prog:Program}{w:World}{A:Around}{E:Value->Shared->Prop}{s:Shared}{Q:Bool->Shared->Prop}(h:Q true s):wpAny (model prog w) A (eqBool .none .none) Q E s:=by
 unfold eqBool
 try with_reducible refine wpAny_holding ?_
 show wpAny _ _ (if (Value.none == Value.none)=true then _ else _) Q E s;rw [zu (by decide)];exact zq (wpAny_rule (zr h))
def J0j (prog:Program)(w:World):PySem.KeyKind prog w Jq where
 is:=nIs
 hash:=nH w
 inj := fun v a b ha hb=>by
  rcases J0G ha with ⟨rfl,rfl⟩ | ⟨q,rfl,hq⟩
  ·rcases J0G hb with ⟨rfl,_⟩ | ⟨q',rfl,hq'⟩
   ·rfl
   ·exact (J3J hq').elim
  ·rcases J0G hb with ⟨rfl,rfl⟩ | ⟨q',rfl,hq'⟩
   ·exact (J3J hq).elim
   ·rw [(J01 prog w).inj v q q' hq hq']
 byValue:=fun k v h=>by
  rcases J0G h with ⟨rfl,rfl⟩ | ⟨q,rfl,hq⟩
  ·rfl
  ·exact (J01 prog w).byValue q v hq
 pyHash:=fun hv h=>by
  rcases J0G hv with ⟨rfl,rfl⟩ | ⟨q,rfl,hq⟩
  ·exact J7L h
  ·exact (J01 prog w).pyHash hq h
 eqBool:=fun {A E s a b u v Q} hu hv h=>by
  rcases J0G hu with ⟨rfl,rfl⟩ | ⟨q,rfl,hq⟩
  ·rcases J0G hv with ⟨rfl,rfl⟩ | ⟨q',rfl,hq'⟩
   ·exact J88 (by simpa using h)
   ·have h':Q false s:=by simpa using h
    rcases JO hq' with ⟨i,t,rfl,rfl⟩ | ⟨x,t,rfl,rfl⟩
    ·exact SeqAt.EqAt.none_int i t _ _ _ _ h'
    ·exact SeqAt.EqAt.none_str x t _ _ _ _ h'
  ·rcases J0G hv with ⟨rfl,rfl⟩ | ⟨q',rfl,hq'⟩
   ·have h':Q false s:=by simpa using h
    rcases JO hq with ⟨i,t,rfl,rfl⟩ | ⟨x,t,rfl,rfl⟩
    ·exact SeqAt.EqAt.int_none i t _ _ _ _ h'
    ·exact SeqAt.EqAt.str_none x t _ _ _ _ h'
   ·refine (J01 prog w).eqBool hq hq' ?_
    have e:decide ((some q:Jq)=some q')=decide (q=q'):=by simp
    rw [<- e];exact h
 «strs»:=fun k x t v h=>by
  rcases J0G h with ⟨rfl,e⟩ | ⟨q,rfl,hq⟩
  ·exact nomatch e
  ·exact (J01 prog w).strs q x t v hq
inductive V where
 | non | bl (b:Bool) | int (i:Int) | str (x:Str) | byt (b:Array UInt8) | flt (b:UInt64) | ref (a:Addr) | ty (n:String)
 deriving DecidableEq
def RelV:V->Value->Prop
 | .non,u=>u=Value.none
 | .bl b,u=>u=Value.bool b
 | .int i,u=>∃ t,u=Value.int i t
 | .str x,u=>∃ t,u=Value.str x t
 | .byt b,u=>∃ t,u=Value.bytes b t
 | .flt b,u=>∃ t,u=Value.float b t
 | .ref a,u=>u=Value.ref a
 | .ty n,u=>u=Value.type n
abbrev Vals:List V->List Value->Prop:=Paired RelV
theorem Vals.length {xs:List V}{us:List Value}(r:Vals xs us):xs.length=us.length:=Paired.length r
theorem Vals.get:∀ {xs:List V} {us:List Value} {i:Nat} {x:V},Vals xs us->xs[i]?=some x->∃ u,us[i]?=some u/\RelV x u
 | _,_,_,_,.nil,e=>by simp at e
 | _,_,0,_,.cons r _,e=>by simp at e;subst e;exact ⟨_,rfl,r⟩
 | _,_,i+1,x,.cons _ t,e=>by
   obtain ⟨u,h1,h2⟩:=Vals.get (i:=i) (x:=x) t (by simpa using e);exact ⟨u,by simpa using h1,h2⟩
theorem Vals.append:∀ {xs ys:List V} {us ws:List Value},Vals xs us->Vals ys ws->Vals (xs++ys) (us++ws)
 | _,_,_,_,.nil,s=>s
 | _,_,_,_,.cons r t,s=>.cons r (Vals.append t s)
theorem Vals.take:∀ {xs:List V} {us:List Value} (n:Nat),Vals xs us->Vals (xs.take n) (us.take n)
 | _,_,0,_=>.nil
 | _,_,_+1,.nil=>.nil
 | _,_,n+1,.cons r t=>.cons r (Vals.take n t)
theorem Vals.drop:∀ {xs:List V} {us:List Value} (n:Nat),Vals xs us->Vals (xs.drop n) (us.drop n)
 | _,_,0,r=>r
 | _,_,_+1,.nil=>.nil
 | _,_,n+1,.cons _ t=>Vals.drop n t
def RelO:Option V->Option Value->Prop
 | some v,some u=>RelV v u
 | none,none=>True
 | _,_=>False
def KV {κ:Type}:List (κ×V)->List (κ×Value)->Prop:=Paired fun (p:κ×V) (q:κ×Value)=>p.1=q.1/\RelV p.2 q.2
def kV:Key->V
 | .inl i=>.int i
 | .inr x=>.str x
def nV:Jq->V
 | none=>.non
 | some k=>kV k
inductive HO where
 | lst (xs:List V)
 | tup (xs:List V)
 | dK (kvs:List (Key×V)) | dT (kvs:List (List Jq×V))
 | set (S:Int->Bool) (n:Nat)
 | ins (C dx:Addr) (fs:List (Str×V))
 | own (x:Addr)
 | xd (fs:List (Str×V))
 | met (f x:Addr)
 | rng (lo hi:Int)
 | frz (o:Obj) (u:HO)
 | tbl (ps:Array Value)
 | ext (φ:Heap->Prop)
abbrev Hp:=Addr->Option HO
def upd (H:Hp)(a:Addr)(o:HO):Hp:=fun b=>if b=a then some o else H b
theorem Jd {H:Hp}{a:Addr}{o:HO}:upd H a o a=some o:=by unfold upd;rw [zu rfl]
theorem Jh {H:Hp}{a b:Addr}{o:HO}(h:b≠a):upd H a o b=H b:=by unfold upd;rw [zt h]
theorem J4v {H:Hp}{a:Addr}{o u:HO}:upd (upd H a o) a u=upd H a u:=by
 funext b;unfold upd;split<;>rfl
theorem J1w {H:Hp}{a b:Addr}{o u:HO}(h:H a=some o)(h':H b=some u)(d:o≠u):a≠b:=by
 intro e;subst e;rw [h] at h';exact d (zA h')
theorem JU {H:Hp}{a b:Addr}{o:HO}(h:H a=some o)(h':H b=none):a≠b:=by
 intro e;subst e;rw [h] at h';cases h'
section
variable (P:Program)(w:World)
def ObjOk (H:Hp)(h:Heap)(a:Addr):HO->Prop
 | .lst xs=>xs.length<=sizeLine/\∃ (its:List Value) (n:Nat),Vals xs its/\h.get? a=some { cls:=.type "list",data:=.seq its.toArray n }
 | .tup xs=>xs.length<=sizeLine/\∃ its:List Value,Vals xs its/\IsTup h a its.toArray
 | .dK kvs=>kvs.length<=sizeLine/\(a == sysModules)=false/\∃ vs,KV kvs vs/\h.DictOf (J01 P w) a vs
 | .dT kvs=>kvs.length<=sizeLine/\(a == sysModules)=false/\∃ xs:List (List Jq×Addr×Value),
  Paired (fun (p:List Jq×V) (q:List Jq×Addr×Value)=>p.1=q.1/\H q.2.1=some (.tup (p.1.map nV))/\RelV p.2 q.2.2) kvs xs /\
  ∃ o es ep,h.get? a=some o/\o.ExactDict/\o.data=.dict es ep/\es.toList=xs.map (entryOfKey (tupleKind (J0j P w)))/\(xs.map (·.1)).Nodup
 | .set S n=>h.SetOf (intKind P w) a S n
 | .ins C dx fs=>H dx=some (.own a)/\fs.length<=1000/\dx≠a/\h.get? a=some (PySem.W.instObj C dx) /\
  ∃ mA,h.Ns1 dx mA/\(∀ f,RelO (fs.lookup f) (mA f))/\PySem.Within mA (fs.map (·.1))
 | .own _=>∃ o,h.get? a=some o
 | .xd fs=>∃ mA,h.Ns1 a mA/\∀ f,RelO (fs.lookup f) (mA f)
 | .rng lo hi=>∃ t u v,h.get? a=some { cls:=.type "range",data:=.fields #[.int lo t,.int hi u,.int 1 v] }
 | .frz o u=>h.get? a=some o/\ObjOk H h a u
 | .tbl ps=>h.get? a=some { cls:=.none,data:=.fields ps }
 | .met f x=>h.get? a=some (PySem.W.methodObj (.ref f) (.ref x))
 | .ext φ=>φ h/\(∃ o,h.get? a=some o)/\∀ h1 h2:Heap,φ h1->(∀ o,h1.get? a=some o->h2.get? a=some o)->φ h2
def HOk (H:Hp)(h:Heap):Prop:=∀ a o,H a=some o->ObjOk P w H h a o
end
section
variable {P:Program}{w:World}{H H':Hp}{h h':Heap}{a:Addr}{o:HO}
theorem ObjOk.lt (x:ObjOk P w H h a o):a<h.objs.size:=by
 cases o with
 | lst xs=>obtain ⟨_,_,_,_,e⟩:=x;exact qj e
 | tup xs=>obtain ⟨_,_,_,p⟩:=x;exact p.lt
 | dK kvs=>obtain ⟨_,_,_,_,o,_,_,e,_⟩:=x;exact qj e
 | dT kvs=>obtain ⟨_,_,_,_,o,_,_,e,_⟩:=x;exact qj e
 | set S n=>obtain ⟨o,_,_,_,e,_⟩:=x;exact qj e
 | ins C dx fs=>obtain ⟨_,_,_,e,_⟩:=x;exact qj e
 | own y=>obtain ⟨_,e⟩:=x;exact qj e
 | xd fs=>obtain ⟨_,⟨_,_,_,e,_⟩,_⟩:=x;exact qj e
 | rng lo hi=>obtain ⟨_,_,_,e⟩:=x;exact qj e
 | frz ob u=>obtain ⟨e,_⟩:=x;exact qj e
 | tbl ps=>exact qj (show h.get? a=some _ from x)
 | met f y=>exact qj (show h.get? a=some _ from x)
 | ext φ=>obtain ⟨_,⟨_,e⟩,_⟩:=x;exact qj e
theorem Paired.mapP {α β:Type}{F G:α->β->Prop}:∀ {l₁:List α} {l₂:List β},Paired F l₁ l₂->(∀ a b,F a b->G a b)->Paired G l₁ l₂
 | _,_,.nil,_=>.nil
 | _,_,.cons r t,f=>.cons (f _ _ r) (Paired.mapP t f)
theorem ObjOk.stay (x:ObjOk P w H h a o)(k:∀ b u,(b=a\/H b=some (.own a))->h.get? b=some u->h'.get? b=some u)
 (ho:∀ b,H b=some (.own a)->H' b=some (.own a)) (ht:∀ b xs,H b=some (.tup xs)->H' b=some (.tup xs)):ObjOk P w H' h' a o:=by
 induction o with
 | lst xs=>obtain ⟨z,its,n,r,e⟩:=x;exact ⟨z,its,n,r,k _ _ (.inl rfl) e⟩
 | tup xs=>obtain ⟨z,its,r,ob,e,c⟩:=x;exact ⟨z,its,r,ob,k _ _ (.inl rfl) e,c⟩
 | dK kvs=>obtain ⟨z,y,vs,r,ob,es,ep,e,c⟩:=x;exact ⟨z,y,vs,r,ob,es,ep,k _ _ (.inl rfl) e,c⟩
 | dT kvs =>
   obtain ⟨z,y,xs,r,ob,es,ep,e,c⟩:=x;exact ⟨z,y,xs,Paired.mapP r fun p q z=>⟨z.1,ht _ _ z.2.1,z.2.2⟩,ob,es,ep,k _ _ (.inl rfl) e,c⟩
 | set S n=>obtain ⟨ob,es,ep,t,e,c⟩:=x;exact ⟨ob,es,ep,t,k _ _ (.inl rfl) e,c⟩
 | ins C dx fs =>
   obtain ⟨d,z,ne,e,mA,⟨od,es,ep,e2,c⟩,r⟩:=x;exact ⟨ho _ d,z,ne,k _ _ (.inl rfl) e,mA,⟨od,es,ep,k _ _ (.inr d) e2,c⟩,r⟩
 | own y=>obtain ⟨ob,e⟩:=x;exact ⟨ob,k _ _ (.inl rfl) e⟩
 | xd fs=>obtain ⟨mA,⟨od,es,ep,e,c⟩,r⟩:=x;exact ⟨mA,⟨od,es,ep,k _ _ (.inl rfl) e,c⟩,r⟩
 | rng lo hi=>obtain ⟨t,u,v,e⟩:=x;exact ⟨t,u,v,k _ _ (.inl rfl) e⟩
 | frz ob u ih=>obtain ⟨e,q⟩:=x;exact ⟨k _ _ (.inl rfl) e,ih q⟩
 | tbl ps =>
   have e:h.get? a=some { cls:=.none,data:=.fields ps }:=x;show h'.get? a=some { cls:=.none,data:=.fields ps };exact k a _ (.inl rfl) e
 | met f y =>
   have e:h.get? a=some (PySem.W.methodObj (.ref f) (.ref y)):=x;show h'.get? a=some (PySem.W.methodObj (.ref f) (.ref y));exact k a _ (.inl rfl) e
 | ext φ=>obtain ⟨p,⟨o,e⟩,st⟩:=x;exact ⟨st _ _ p fun o q=>k _ _ (.inl rfl) q,⟨o,k _ _ (.inl rfl) e⟩,st⟩
theorem HOk.lt (x:HOk P w H h)(e:H a=some o):a<h.objs.size:=(x a o e).lt
theorem HOk.fresh (x:HOk P w H h)(e:h.objs.size<=a):H a=none:=by
 cases q:H a with
 | none=>rfl
 | some u=>exact absurd (zE (x.lt q) e) (Nat.lt_irrefl _)
theorem HOk.kept (x:HOk P w H h)(k:∀ b u,h.get? b=some u->h'.get? b=some u):HOk P w H h':=fun a o e =>
 (x a o e).stay (fun b u _ q=>k b u q) (fun _ q=>q) fun _ _ q=>q
theorem HOk.laid (x:HOk P w H h)(k:∀ b u,h.get? b=some u->h'.get? b=some u)(hp:h.objs.size<=a)(new:ObjOk P w (upd H a o) h' a o):HOk P w (upd H a o) h':=fun b u e=>by
 have hn:=x.fresh hp;by_cases hb:b=a
 ·subst hb;rw [Jd] at e;cases e;exact new
 ·rw [Jh hb] at e
  exact (x b u e).stay (fun c v _ q=>k c v q) (fun c q=>by rw [Jh (JU q hn)];exact q) fun c xs q=>by rw [Jh (JU q hn)];exact q
end
def Rd (H:Hp)(a:Addr)(u:HO):Prop:=H a=some u\/∃ o,H a=some (.frz o u)
theorem Rd.ok {P:Program}{w:World}{H:Hp}{h:Heap}{a:Addr}{u:HO}(r:Rd H a u)(x:HOk P w H h):ObjOk P w H h a u:=by
 rcases r with r | ⟨o,r⟩
 ·exact x a u r
 ·obtain ⟨_,q⟩:=x a _ r
  exact q
def Mut:Option HO->Prop
 | some (.lst _)=>True
 | some (.dK _)=>True
 | some (.dT _)=>True
 | some (.set _ _)=>True
 | some (.ins _ _ _)=>True
 | some (.ext _)=>True
 | _=>False
section
variable {P:Program}{w:World}{H:Hp}{h h':Heap}{x e:Addr}{o':HO}
theorem HOk.write (ok:HOk P w H h)(mu:Mut (H x))(he:e=x\/H e=some (.own x))(k:∀ b u,b≠e->h.get? b=some u->h'.get? b=some u)(heo:∃ u,h'.get? e=some u)
 (new:ObjOk P w (upd H x o') h' x o'):HOk P w (upd H x o') h':=fun b u q=>by
 have nown:∀ c y,H c=some (.own y)->c≠x:=fun c y r z=>by subst z;rw [r] at mu;exact mu
 have ntup:∀ c xs,H c=some (.tup xs)->c≠x:=fun c xs r z=>by subst z;rw [r] at mu;exact mu
 by_cases hb:b=x
 ·subst hb;rw [Jd] at q;cases q;exact new
 ·rw [Jh hb] at q
  by_cases hbe:b=e
  ·have q':H b=some (.own x):=by
    rcases he with z | z
    ·exact absurd (hbe.trans z) hb
    ·rw [hbe];exact z
   rw [q] at q';cases q';obtain ⟨v,hv⟩:=heo;exact ⟨v,by rw [hbe];exact hv⟩
  ·refine (ok b u q).stay (fun c v hc r=>k c v ?_ r) (fun c r=>by rw [Jh (nown c b r)];exact r) fun c xs r=>by rw [Jh (ntup c xs r)];exact r
   rcases hc with rfl | hc
   ·exact hbe
   ·rintro rfl
    rcases he with z | z
    ·exact nown c b hc z
    ·rw [hc] at z;cases z;exact hb rfl
end
structure Un (fs ex:List Addr)(H H':Hp)(h h':Heap):Prop where
 keep:∀ b o,h.get? b=some o->H b=none->b∉fs->b∉ex->h'.get? b=some o
 slot:∀ b o,h.get? b=some o->H b=none->b∈fs->b∉ex->∃ sl,h'.get? b=some { o with slots:=sl }
 free:∀ b o,h.get? b=some o->H b=none->b∉ex->H' b=none
 there:∀ b o,h.get? b=some o->b∉ex->∃ o',h'.get? b=some o'
 tups:∀ b xs,H b=some (.tup xs)->H' b=some (.tup xs)
 frzs:∀ b o u,H b=some (.frz o u)->H' b=some (.frz o u)
 tbls:∀ b ps,H b=some (.tbl ps)->∃ more,H' b=some (.tbl (ps++more))
section
variable {fs fs' ex ex':List Addr}{H H1 H2:Hp}{h h1 h2 h':Heap}{a x e:Addr}{o:HO}
theorem Un.any (u:Un fs ex H H1 h h1){b:Addr}{ob:Obj}(q:h.get? b=some ob)(n:H b=none)(hx:b∉ex):∃ sl,h1.get? b=some { ob with slots:=sl }:=by
 by_cases hb:b∈fs
 ·exact u.slot b ob q n hb hx
 ·exact ⟨ob.slots,u.keep b ob q n hb hx⟩
theorem Un.kept (k:∀ b u,h.get? b=some u->h'.get? b=some u):Un fs ex H H h h' :=
 ⟨fun b ob q _ _ _=>k b ob q,fun b ob q _ _ _=>⟨ob.slots,k b ob q⟩,fun _ _ _ n _=>n,fun b ob q _=>⟨ob,k b ob q⟩,fun _ _ q=>q,fun _ _ _ q=>q,fun _ ps q=>⟨#[],by rw [q];simp⟩⟩
theorem Un.refl:Un fs ex H H h h:=Un.kept fun _ _ q=>q
theorem Un.laid (k:∀ b u,h.get? b=some u->h'.get? b=some u)(hp:h.objs.size<=a)(hn:H a=none):Un fs ex H (upd H a o) h h' where
 keep:=fun b u q _ _ _=>k b u q
 slot:=fun b u q _ _ _=>⟨u.slots,k b u q⟩
 free:=fun b u q n _=>by rw [Jh (zB (zE (qj q) hp))];exact n
 there:=fun b u q _=>⟨u,k b u q⟩
 tups:=fun b xs q=>by rw [Jh (JU q hn)];exact q
 frzs:=fun b u xs q=>by rw [Jh (JU q hn)];exact q
 tbls:=fun b ps q=>⟨#[],by rw [Jh (JU q hn),q];simp⟩
theorem Un.write (mu:Mut (H x))(he:e=x\/H e=some (.own x))(k:∀ b u,b≠e->h.get? b=some u->h'.get? b=some u)(heo:∃ u,h'.get? e=some u):Un fs ex H (upd H x o) h h':=by
 have hx:∀ b,H b=none->b≠x:=fun b n z=>by subst z;rw [n] at mu;exact mu
 have hb:∀ b,H b=none->b≠e:=fun b n z=>by
  subst z;rcases he with r | r
  ·exact hx b n r
  ·rw [n] at r;cases r
 have hm:∀ b u,H b=some u->¬ Mut (some u)->b≠x:=fun b u q nm z=>by subst z;rw [q] at mu;exact nm mu
 refine ⟨fun b u q n _ _=>k b u (hb b n) q,fun b u q n _ _=>⟨u.slots,k b u (hb b n) q⟩,fun b u q n _=>by rw [Jh (hx b n)];exact n,fun b u q _=>?_,
  fun b xs q=>by rw [Jh (hm b _ q fun z=>z)];exact q,fun b u xs q=>by rw [Jh (hm b _ q fun z=>z)];exact q,fun b ps q=>⟨#[],by rw [Jh (hm b _ q fun z=>z),q];simp⟩⟩
 by_cases hbe:b=e
 ·subst hbe;exact heo
 ·exact ⟨u,k b u hbe q⟩
end
def trk (h:Heap)(H:Hp):List Addr:=(List.range h.objs.size).filter fun a=>(H a).isSome
def J75 (h:Heap)(H:Hp):Heap:=PySem.W.hideAll h (trk h H)
theorem Jaj (h:Heap)(H:Hp):(J75 h H).objs.size=h.objs.size:=PySem.W.hideAll_size _ _
theorem JbF {h:Heap}{H:Hp}{b:Addr}{o:Obj}(e:h.get? b=some o)(n:H b=none):(J75 h H).get? b=some o :=
 PySem.W.hideAll_get _ e fun hm=>by
  have q:(H b).isSome=true:=(mem_filter.mp hm).2;rw [n] at q;simp at q
theorem JcU {h:Heap}{H:Hp}{b:Addr}{o:Obj}(e:(J75 h H).get? b=some o):h.get? b=some o/\H b=none:=by
 have e':h.get? b=some o:=PySem.W.of_hideAll (trk h H) e;refine ⟨e',?_⟩;cases q:H b with
 | none=>rfl
 | some x =>
   have hm:b∈trk h H:=mem_filter.mpr ⟨mem_range.mpr (qj e'),by simp [q]⟩;have z:(J75 h H).get? b=none:=PySem.W.hideAll_none (trk h H) hm;rw [z] at e;cases e
structure Mod (K:PySem.W.Frag)(mg:Str->Option Value)(base:Heap):Prop where
 kin:K.In base
 glob:base.Ns mainGlobals mg
 blt:∃ mb,base.Ns builtinsNs mb/\∀ x:Str,x≠"__name__"->mb x=bootBuiltins x
 nolimit:base.NoLimit
structure Cx where
 prog:Program
 w:World
 K:PySem.W.Frag
 mg:Str->Option Value
 base:Heap
 A:Around
 N:List Str
 s₀:Shared
 H₀:Hp
 env:Env
 outer:List Env
 stack:List Env
 ex:List Addr
 fn:Str->Bool
 calm:Bool
 pn:List (Addr×Obj)
 xe:Value->Shared->Prop
def frs (l:List Env):List Addr:=l.filterMap (·.frame)
abbrev Cx.fs (X:Cx):List Addr:=frs X.outer
def Vis (sc:Scope)(x:Str):Prop:=sc.names.lookup x=some .local\/sc.names.lookup x=some .cell\/sc.names.lookup x=some .free
def Loc (sc:Scope)(x:Str):Prop:=sc.names.lookup x=some .local\/sc.names.lookup x=some .cell
def Jfj (env:Env)(h:Heap)(m:Str->Option Value)(x:Str)(u:Value):Prop :=
 (env.kindOf x=some .local/\m x=some u)\/((env.kindOf x=some .cell\/env.kindOf x=some .free)/\∃ c,env.cells.lookup x=some c/\h.IsCell c (some u))
structure Cx.Ok (X:Cx):Prop where
 mod:Mod X.K X.mg X.base
 kind:X.env.scope.kind=.function
 glob:X.env.globals=mainGlobals
 blt:X.env.builtins=builtinsNs
 above:X.s₀.heap.objs.size<=X.env.locals
 inj:∀ x y c,X.env.cells.lookup x=some c->X.env.cells.lookup y=some c->x=y
 has:∀ x,(X.env.kindOf x=some .cell\/X.env.kindOf x=some .free)->∃ c,X.env.cells.lookup x=some c
 cab:∀ x c,X.fn x=true->X.env.cells.lookup x=some c->X.s₀.heap.objs.size<=c
 hd:X.calm=true->X.A.handled=none
 frames:X.A.frames=some X.stack
 stk:X.stack=X.outer\/(X.stack=X.env::X.outer/\X.env.frame=some X.env.locals)
 exf:∀ b∈X.ex,b≠X.env.locals/\∀ x c,X.env.cells.lookup x=some c->c≠b
 bs:∀ b o,X.base.get? b=some o->X.s₀.heap.get? b=some o/\X.H₀ b=none
 bsz:X.base.objs.size<=X.s₀.heap.objs.size
 noex:∀ b o,X.base.get? b=some o->b∉X.ex
 exfs:∀ b∈X.ex,b∉X.fs
 funs:X.s₀.heap.FunFrames X.base X.outer
 frf:∀ b∈X.fs,X.H₀ b=none
structure Inv (X:Cx)(pins:List (Addr×Obj))(σ:List (Option V))(H:Hp)(s:Shared):Prop where
 ok:X.Ok
 os:s.os=X.s₀.os
 bare:AllBare s.gens
 base:Un X.fs X.ex X.H₀ H X.s₀.heap s.heap
 loc:∃ m,s.heap.Ns X.env.locals m/\∀ (i:Nat) (x:Str) (v:V),X.N[i]?=some x->σ[i]?=some (some v)->Vis X.env.scope x->∃ u,RelV v u/\Jfj X.env s.heap m x u
 cell:∀ x c,X.env.cells.lookup x=some c->∃ v,s.heap.IsCell c v
 free:H X.env.locals=none
 freeC:∀ x c,X.env.cells.lookup x=some c->H c=none
 pin:∀ p∈X.pn++pins,s.heap.get? p.1=some p.2/\H p.1=none/\p.1≠X.env.locals/\p.1∉X.fs/\∀ v,p.2.data≠.cell v
 hok:HOk X.prog X.w H s.heap
 len:σ.length=X.N.length
section
variable {X:Cx}{pins:List (Addr×Obj)}{σ:List (Option V)}{H H':Hp}{s:Shared}{h':Heap}
theorem Cx.Ok.nofr (ok:X.Ok){b:Addr}{o:Obj}(e:X.base.get? b=some o):b∉X.fs:=fun hb=>by
 have:=(ok.funs.mem hb).1;rw [e] at this;cases this
theorem Inv.bs (I:Inv X pins σ H s):∀ b o,X.base.get? b=some o->s.heap.get? b=some o/\H b=none:=fun b o e =>
 ⟨I.base.keep b o (I.ok.bs b o e).1 (I.ok.bs b o e).2 (I.ok.nofr e) (I.ok.noex b o e),I.base.free b o (I.ok.bs b o e).1 (I.ok.bs b o e).2 (I.ok.noex b o e)⟩
theorem Inv.bk (I:Inv X pins σ H s):∀ b o,X.base.get? b=some o->s.heap.get? b=some o:=fun b o e=>(I.bs b o e).1
theorem Inv.mod (I:Inv X pins σ H s):Mod X.K X.mg X.base:=I.ok.mod
theorem Inv.kIn (I:Inv X pins σ H s):X.K.In s.heap:=I.ok.mod.kin.keeps I.bk
theorem Inv.lt (I:Inv X pins σ H s):X.env.locals<s.heap.objs.size:=let ⟨_,hn,_⟩:=I.loc;hn.lt
theorem Inv.sz (I:Inv X pins σ H s):X.s₀.heap.objs.size<=s.heap.objs.size:=zG I.ok.above (Nat.le_of_lt I.lt)
theorem Inv.nofs (I:Inv X pins σ H s){a:Addr}(h:s.heap.objs.size<=a):a∉X.fs:=fun hb=>by
 obtain ⟨_,o,ho,_⟩:=I.ok.funs.mem hb;exact absurd (zE (qj ho) (zG I.sz h)) (Nat.lt_irrefl _)
theorem Inv.cne (I:Inv X pins σ H s):∀ x c,X.env.cells.lookup x=some c->c≠X.env.locals:=fun x c e z=>by
 obtain ⟨v,o,ho,hd⟩:=I.cell x c e;obtain ⟨m,⟨o',es,ep,ho',hd',_⟩,_⟩:=I.loc;rw [z,ho'] at ho;cases ho;rw [hd'] at hd;cases hd
theorem Inv.funs (I:Inv X pins σ H s):s.heap.FunFrames X.base X.outer:=by
 have all:∀ (l:List Env),(∀ b∈frs l,b∈X.fs)->X.s₀.heap.FunFrames X.base l->s.heap.FunFrames X.base l:=by
  intro l
  induction l with
  | nil=>intro _ _;trivial
  | cons env r ih =>
    intro hs hl;obtain ⟨hk,⟨L,o,hf,hn,ho,hd⟩,hr⟩:=hl;have hL:L∈X.fs:=hs L (by unfold frs;rw [filterMap_cons,hf];exact zT);obtain ⟨sl,e⟩:=I.base.slot L o ho (I.ok.frf L hL) hL fun z=>I.ok.exfs L z hL;exact ⟨hk,⟨L,_,hf,hn,e,hd⟩,ih (fun b hb=>hs b (by unfold frs;rw [filterMap_cons,hf];exact zS _ hb)) hr⟩
 exact all X.outer (fun _ hb=>hb) I.ok.funs
theorem Inv.stack (I:Inv X pins σ H s):s.heap.FunFrames X.base X.stack:=by
 rcases I.ok.stk with e | ⟨e,hf⟩
 ·rw [e];exact I.funs
 ·rw [e]
  obtain ⟨m,hn,_⟩:=I.loc;refine .cons (by rw [I.ok.kind];decide) hf hn ?_ I.funs;exact Heap.get?_none_of_le (zG I.ok.bsz I.ok.above)
theorem Inv.stkSub (I:Inv X pins σ H s):∀ b∈frs X.stack,b∈X.env.locals::X.fs:=fun b hb=>by
 rcases I.ok.stk with e | ⟨e,hf⟩
 ·rw [e] at hb;exact zS _ hb
 ·rw [e] at hb
  unfold frs at hb;rw [filterMap_cons,hf] at hb;exact hb
theorem Inv.stkFree (I:Inv X pins σ H s):∀ b∈frs X.stack,H b=none:=fun b hb=>by
 rcases zU.mp (I.stkSub b hb) with e | hb
 ·rw [e];exact I.free
 ·obtain ⟨_,o,ho,_⟩:=I.ok.funs.mem hb
  exact I.base.free b o ho (I.ok.frf b hb) fun z=>I.ok.exfs b z hb
theorem Inv.step {g':Array GenState}{t':Nat}{d':Drawn}{ch:List Addr}(I:Inv X pins σ H s)
 (hch:∀ b∈ch,(b∈X.ex\/X.s₀.heap.objs.size<=b)/\b≠X.env.locals/\(∀ x c,X.env.cells.lookup x=some c->c≠b)/\∀ p∈X.pn++pins,p.1≠b)
 (keep:∀ b o,b≠X.env.locals->b∉X.fs->b∉ch->s.heap.get? b=some o->H b=none->h'.get? b=some o)
 (slot:∀ b o,b≠X.env.locals->b∈X.fs->b∉ch->s.heap.get? b=some o->H b=none->∃ sl,h'.get? b=some { o with slots:=sl }) (free:∀ b o,b∉ch->s.heap.get? b=some o->H b=none->H' b=none)
 (there:∀ b o,b∉ch->s.heap.get? b=some o->∃ o',h'.get? b=some o')
 (tups:∀ b xs,H b=some (.tup xs)->H' b=some (.tup xs)) (frzs:∀ b o u,H b=some (.frz o u)->H' b=some (.frz o u)) (tbls:∀ b ps,H b=some (.tbl ps)->∃ more,H' b=some (.tbl (ps++more)))
 (ns:∀ m,s.heap.Ns X.env.locals m->h'.Ns X.env.locals m) (hok:HOk X.prog X.w H' h') (hg:AllBare g') :
 Inv X pins σ H' { s with heap:=h',gens:=g',drawn:=d',toks:=t' }:=by
 have neL:∀ b o,X.s₀.heap.get? b=some o->b≠X.env.locals:=fun b o e=>zB (zE (qj e) I.ok.above);have neC:∀ b o,X.s₀.heap.get? b=some o->b∉X.ex->b∉ch:=fun b o e hx hb=>by
  rcases (hch b hb).1 with z | z
  ·exact hx z
  ·exact absurd (zE (qj e) z) (Nat.lt_irrefl _)
 have cellK:∀ x c,X.env.cells.lookup x=some c->∀ v,s.heap.IsCell c v->h'.IsCell c v:=fun x c e v ⟨o,ho,hd⟩=>by
  have nch:c∉ch:=fun z=>(hch c z).2.2.1 x c e rfl;by_cases hc:c∈X.fs
  ·obtain ⟨sl,q⟩:=slot c o (I.cne x c e) hc nch ho (I.freeC x c e)
   exact ⟨_,q,hd⟩
  ·exact ⟨o,keep c o (I.cne x c e) hc nch ho (I.freeC x c e),hd⟩
 refine ⟨I.ok,I.os,hg,⟨fun b o e n hb hx=>?_,fun b o e n hb hx=>?_,fun b o e n hx=>?_,fun b o e hx=>?_,fun b xs e=>tups b xs (I.base.tups b xs e),fun b o xs e=>frzs b o xs (I.base.frzs b o xs e),fun b ps e=>?_⟩,?_,fun x c e=>?_,?_,fun x c e=>?_,fun p hp=>?_,hok,I.len⟩
 ·exact keep b o (neL b o e) hb (neC b o e hx) (I.base.keep b o e n hb hx) (I.base.free b o e n hx)
 ·obtain ⟨sl,e1⟩:=I.base.slot b o e n hb hx
  obtain ⟨sl',e2⟩:=slot b _ (neL b o e) hb (neC b o e hx) e1 (I.base.free b o e n hx);exact ⟨sl',e2⟩
 ·obtain ⟨o',e1⟩:=I.base.there b o e hx
  exact free b o' (neC b o e hx) e1 (I.base.free b o e n hx)
 ·obtain ⟨o',e1⟩:=I.base.there b o e hx
  exact there b o' (neC b o e hx) e1
 ·obtain ⟨m1,e1⟩:=I.base.tbls b ps e
  obtain ⟨m2,e2⟩:=tbls b _ e1;exact ⟨m1++m2,by rw [e2,Array.append_assoc]⟩
 ·obtain ⟨m,hn,hl⟩:=I.loc
  refine ⟨m,ns m hn,fun i x v e1 e2 e3=>?_⟩;obtain ⟨u,r,l⟩:=hl i x v e1 e2 e3;refine ⟨u,r,?_⟩;rcases l with l | ⟨k,c,e,z⟩
  ·exact .inl l
  ·exact .inr ⟨k,c,e,cellK x c e _ z⟩
 ·obtain ⟨v,z⟩:=I.cell x c e
  exact ⟨v,cellK x c e v z⟩
 ·obtain ⟨m,⟨o,_,_,ho,_⟩,_⟩:=I.loc
  exact free _ o (fun z=>(hch _ z).2.1 rfl) ho I.free
 ·obtain ⟨v,o,ho,hd⟩:=I.cell x c e
  exact free c o (fun z=>(hch c z).2.2.1 x c e rfl) ho (I.freeC x c e)
 ·obtain ⟨e,n,ne,nf,d⟩:=I.pin p hp
  have nch:p.1∉ch:=fun z=>(hch p.1 z).2.2.2 p hp rfl;exact ⟨keep p.1 p.2 ne nf nch e n,free p.1 p.2 nch e n,ne,nf,d⟩
theorem Inv.un {t':Nat}(I:Inv X pins σ H s)(u:Un X.fs [] H H' s.heap h')(hok:HOk X.prog X.w H' h'):Inv X pins σ H' { s with heap:=h',toks:=t' }:=by
 obtain ⟨m,⟨o,es,ep,ho,r⟩,_⟩:=id I.loc;obtain ⟨sl,hL⟩:=u.any ho I.free (by simp);exact I.step (g':=s.gens) (d':=s.drawn) (ch:=[]) (fun _ z=>nomatch z) (fun b o _ hb _ e n=>u.keep b o e n hb (by simp)) (fun b o _ hb _ e n=>u.slot b o e n hb (by simp)) (fun b o _ e n=>u.free b o e n (by simp)) (fun b o _ e=>u.there b o e (by simp)) u.tups u.frzs u.tbls (fun m' hm=>by
  obtain ⟨o',es',ep',ho',r'⟩:=hm;rw [ho] at ho';cases ho';exact ⟨_,es',ep',hL,r'⟩) hok I.bare
theorem Inv.call {g':Array GenState}{t':Nat}{d':Drawn}{ch:List Addr}(I:Inv X pins σ H s)(u:Un (frs X.stack) ch H H' s.heap h')(hok:HOk X.prog X.w H' h')(hg:AllBare g')
 (hch:∀ b∈ch,(b∈X.ex\/X.s₀.heap.objs.size<=b)/\b≠X.env.locals/\(∀ x c,X.env.cells.lookup x=some c->c≠b)/\∀ p∈X.pn++pins,p.1≠b) :
 Inv X pins σ H' { s with heap:=h',gens:=g',drawn:=d',toks:=t' }:=by
 obtain ⟨m,⟨o,es,ep,ho,r⟩,_⟩:=id I.loc;obtain ⟨sl,hL⟩:=u.any ho I.free fun z=>(hch _ z).2.1 rfl;exact I.step (ch:=ch) hch (fun b o hL hb hc e n=>u.keep b o e n (fun z=>(zU.mp (I.stkSub b z)).elim hL hb) hc) (fun b o _ _ hc e n=>u.any e n hc) (fun b o hc e n=>u.free b o e n hc) (fun b o hc e=>u.there b o e hc) u.tups u.frzs u.tbls (fun m' hm=>by
  obtain ⟨o',es',ep',ho',r'⟩:=hm;rw [ho] at ho';cases ho';exact ⟨_,es',ep',hL,r'⟩) hok hg
theorem Inv.turned {t':Nat}{it:Addr}(I:Inv X pins σ H s)(k:∀ b o,b≠it->s.heap.get? b=some o->h'.get? b=some o)(hn:H it=none)(hL:it≠X.env.locals)
 (h1:it∈X.ex\/X.s₀.heap.objs.size<=it) (h2:∀ x c,X.env.cells.lookup x=some c->c≠it) (h3:∀ p∈X.pn++pins,p.1≠it):Inv X pins σ H { s with heap:=h',toks:=t' }:=by
 have nit:∀ b u,H b=some u->b≠it:=fun b u e z=>by rw [z,hn] at e;cases e
 refine I.step (g':=s.gens) (d':=s.drawn) (ch:=[it]) (fun b hb=>?_) (fun b o _ _ hc e _=>k b o (fun z=>hc (by simp [z])) e) (fun b o _ _ hc e _=>⟨o.slots,k b o (fun z=>hc (by simp [z])) e⟩) (fun _ _ _ _ n=>n)
  (fun b o hc e=>⟨o,k b o (fun z=>hc (by simp [z])) e⟩) (fun _ _ e=>e) (fun _ _ _ e=>e) (fun b ps e=>⟨#[],by rw [e];simp⟩) (fun m hm=>?_) (fun b u e=>?_) I.bare
 ·have e:b=it:=by simpa using hb
  subst e;exact ⟨h1,hL,h2,h3⟩
 ·obtain ⟨o,es,ep,ho,r⟩:=hm
  exact ⟨o,es,ep,k _ o (Ne.symm hL) ho,r⟩
 ·refine (I.hok b u e).stay (fun c v hc q=>k c v ?_ q) (fun _ q=>q) fun _ _ q=>q
  rcases hc with z | z
  ·rw [z];exact nit b u e
  ·exact nit c _ z
theorem Inv.tok (I:Inv X pins σ H s)(t:Nat):Inv X pins σ H { s with toks:=t }:=I.un (h':=s.heap) (t':=t) Un.refl I.hok
theorem Inv.kept {t':Nat}(I:Inv X pins σ H s)(k:∀ b u,s.heap.get? b=some u->h'.get? b=some u):Inv X pins σ H { s with heap:=h',toks:=t' }:=I.un (Un.kept k) (I.hok.kept k)
theorem Inv.laid {a:Addr}{o:HO}{t':Nat}(I:Inv X pins σ H s)(k:∀ b u,s.heap.get? b=some u->h'.get? b=some u)(hp:s.heap.objs.size<=a)(new:ObjOk X.prog X.w (upd H a o) h' a o) :
 Inv X pins σ (upd H a o) { s with heap:=h',toks:=t' }:=I.un (Un.laid k hp (I.hok.fresh hp)) (I.hok.laid k hp new)
theorem Inv.write {x e:Addr}{o:HO}{t':Nat}(I:Inv X pins σ H s)(mu:Mut (H x))(he:e=x\/H e=some (.own x))(k:∀ b u,b≠e->s.heap.get? b=some u->h'.get? b=some u)(heo:∃ u,h'.get? e=some u)
 (new:ObjOk X.prog X.w (upd H x o) h' x o):Inv X pins σ (upd H x o) { s with heap:=h',toks:=t' }:=I.un (Un.write mu he k heo) (I.hok.write mu he k heo new)
theorem Inv.pins_of {pins':List (Addr×Obj)}(I:Inv X pins σ H s)(h:∀ p∈pins',s.heap.get? p.1=some p.2/\H p.1=none/\p.1≠X.env.locals/\p.1∉X.fs/\∀ v,p.2.data≠.cell v):Inv X pins' σ H s :=
 ⟨I.ok,I.os,I.bare,I.base,I.loc,I.cell,I.free,I.freeC,fun p hp=>(zZ.mp hp).elim (fun z=>I.pin p (z9 _ z)) (h p),I.hok,I.len⟩
theorem J17 {N:List Str}(hN:N.Nodup){i j:Nat}{x:Str}(a:N[i]?=some x)(b:N[j]?=some x):i=j:=by
 obtain ⟨h1,e1⟩:=zK.mp a;obtain ⟨h2,e2⟩:=zK.mp b;exact (getElem_inj hN).mp (e1.trans e2.symm)
theorem store_ok2 {M:Model}{A:Around}{E:Value->Shared->Prop}{i:Nat}{x:Str}{v:V}{u:Value}{Q:Unit->Shared->Prop}(I:Inv X pins σ H s)(hN:X.N.Nodup)(hi:X.N[i]?=some x)(hx:Loc X.env.scope x)(r:RelV v u)
 (h:∀ s',Inv X pins (σ.set i (some v)) H s'->(∃ a,Heap.SameBut a s.heap s'.heap/\(a=X.env.locals\/X.env.cells.lookup x=some a))->Q () s') (hf:X.fn x=true\/X.env.scope.names.lookup x=some .local:=by first | exact .inl rfl | exact .inr rfl | assumption):wpAny M A (storeName X.env x u) Q E s:=by
 obtain ⟨m,hn,hl⟩:=id I.loc;have hcls:(X.env.scope.kind == .class||(X.env.scope.kind == .module&&X.env.locals != X.env.globals))=false:=by rw [I.ok.kind];rfl
 have hiσ:i<σ.length:=by rw [I.len];exact (zK.mp hi).1
 have cne:=I.cne;have tracked:∀ {a:Addr} {h':Heap},(∃ o,s.heap.get? a=some o/\H a=none)->Heap.SameBut a s.heap h'->HOk X.prog X.w H h':=fun {a h'} ha hs b ob e=>by
  obtain ⟨_,_,hfree⟩:=ha;refine (I.hok b ob e).stay (fun c w' hc q=>(hs.2 c ?_).trans q) (fun _ q=>q) fun _ _ q=>q;rintro rfl;rcases hc with rfl | hc
  ·rw [hfree] at e;cases e
  ·rw [hfree] at hc;cases hc
 rcases hx with hk | hk
 ·refine wpAny_storeName_local hk hn (fun h' hn' hs=>?_) hcls
  obtain ⟨oL,_,_,hoL,_⟩:=id hn;refine h _ ⟨I.ok,I.os,I.bare,⟨fun b o e n hb hx=>?_,fun b o e n hb hx=>?_,I.base.free,fun b o e hx=>?_,I.base.tups,I.base.frzs,I.base.tbls⟩,⟨_,hn',fun j y v' e1 e2 e3=>?_⟩,fun y c e=>?_,I.free,I.freeC,fun p hp=>?_,tracked ⟨oL,hoL,I.free⟩ hs,by simpa using I.len⟩ ⟨_,hs,.inl rfl⟩
  ·exact (hs.2 b (zB (zE (qj e) I.ok.above))).trans (I.base.keep b o e n hb hx)
  ·obtain ⟨sl,e1⟩:=I.base.slot b o e n hb hx
   exact ⟨sl,(hs.2 b (zB (zE (qj e) I.ok.above))).trans e1⟩
  ·obtain ⟨o',e1⟩:=I.base.there b o e hx
   exact ⟨o',(hs.2 b (zB (zE (qj e) I.ok.above))).trans e1⟩
  ·by_cases hj:j=i
   ·subst hj
    rw [hi] at e1;cases e1;rw [List.getElem?_set_self hiσ] at e2;cases e2;exact ⟨u,r,.inl ⟨hk,by simp⟩⟩
   ·rw [List.getElem?_set_ne (Ne.symm hj)] at e2
    obtain ⟨u',r',q⟩:=hl j y v' e1 e2 e3;refine ⟨u',r',?_⟩;rcases q with ⟨k,e⟩ | ⟨k,c,e,z⟩
    ·refine .inl ⟨k,?_⟩
     have:y≠x:=fun e=>hj (J17 hN e1 (e ▸ hi));simp [this,e]
    ·exact .inr ⟨k,c,e,z.sameBut hs (cne y c e)⟩
  ·obtain ⟨w',z⟩:=I.cell y c e
   exact ⟨w',z.sameBut hs (cne y c e)⟩
  ·obtain ⟨e,n,ne,nf,d⟩:=I.pin p hp
   exact ⟨(hs.2 p.1 ne).trans e,n,ne,nf,d⟩
 ·have hfn:X.fn x=true:=by
   rcases hf with z | z
   ·exact z
   ·rw [z] at hk;cases hk
  obtain ⟨c,hc⟩:=I.ok.has x (.inl hk);obtain ⟨w',z⟩:=I.cell x c hc;refine wpAny_storeName_cell I.ok.kind hk hc z (fun h' hc' hs=>?_);obtain ⟨oc,hoc,hocd⟩:=id z;refine h { s with heap:=h' } ⟨I.ok,I.os,I.bare,⟨fun b o e n hb hx=>?_,fun b o e n hb hx=>?_,I.base.free,fun b o e hx=>?_,I.base.tups,I.base.frzs,I.base.tbls⟩,⟨m,hn.sameBut hs (Ne.symm (cne x c hc)),fun j y v' e1 e2 e3=>?_⟩,fun y c' e=>?_,I.free,I.freeC,fun p hp=>?_,tracked ⟨oc,hoc,I.freeC x c hc⟩ hs,by simpa using I.len⟩ ⟨c,hs,.inr hc⟩
  ·exact (hs.2 b (zB (zE (qj e) (I.ok.cab x c hfn hc)))).trans (I.base.keep b o e n hb hx)
  ·obtain ⟨sl,e1⟩:=I.base.slot b o e n hb hx
   exact ⟨sl,(hs.2 b (zB (zE (qj e) (I.ok.cab x c hfn hc)))).trans e1⟩
  ·obtain ⟨o',e1⟩:=I.base.there b o e hx
   exact ⟨o',(hs.2 b (zB (zE (qj e) (I.ok.cab x c hfn hc)))).trans e1⟩
  ·by_cases hj:j=i
   ·subst hj
    rw [hi] at e1;cases e1;rw [List.getElem?_set_self hiσ] at e2;cases e2;exact ⟨u,r,.inr ⟨.inl hk,c,hc,hc'⟩⟩
   ·rw [List.getElem?_set_ne (Ne.symm hj)] at e2
    obtain ⟨u',r',q⟩:=hl j y v' e1 e2 e3;refine ⟨u',r',?_⟩;rcases q with q | ⟨k,c',e,z'⟩
    ·exact .inl q
    ·refine .inr ⟨k,c',e,z'.sameBut hs ?_⟩
     rintro rfl;exact hj (J17 hN e1 (I.ok.inj _ _ _ e hc ▸ hi))
  ·by_cases hcc:c'=c
   ·subst hcc;exact ⟨_,hc'⟩
   ·obtain ⟨w2,z2⟩:=I.cell y c' e
    exact ⟨w2,z2.sameBut hs hcc⟩
  ·obtain ⟨e,n,ne,nf,d⟩:=I.pin p hp
   refine ⟨(hs.2 p.1 ?_).trans e,n,ne,nf,d⟩;intro q;rw [q,hoc] at e;have q':oc=p.2:=zA e;exact d w' (by rw [<- q'];exact hocd)
theorem J7s {M:Model}{A:Around}{E:Value->Shared->Prop}{i:Nat}{x:Str}{v:V}{u:Value}{Q:Unit->Shared->Prop}(I:Inv X pins σ H s)(hN:X.N.Nodup)(hi:X.N[i]?=some x)(hx:Loc X.env.scope x)(r:RelV v u)
 (h:∀ s',Inv X pins (σ.set i (some v)) H s'->Q () s') (hf:X.fn x=true\/X.env.scope.names.lookup x=some .local:=by first | exact .inl rfl | exact .inr rfl | assumption):wpAny M A (storeName X.env x u) Q E s :=
 store_ok2 I hN hi hx r (fun s' I' _=>h s' I') hf
theorem Inv.call' {s':Shared}{ch:List Addr}(I:Inv X pins σ H s)(ho:s'.os=s.os)(u:Un (frs X.stack) ch H H' s.heap s'.heap)(hok:HOk X.prog X.w H' s'.heap)(hg:AllBare s'.gens)
 (hch:∀ b∈ch,(b∈X.ex\/X.s₀.heap.objs.size<=b)/\b≠X.env.locals/\(∀ x c,X.env.cells.lookup x=some c->c≠b)/\∀ p∈X.pn++pins,p.1≠b):Inv X pins σ H' s':=by
 obtain ⟨h',g',d',t',o'⟩:=s';have e:o'=s.os:=ho;subst e;exact I.call (g':=g') (t':=t') (d':=d') u hok hg hch
end
abbrev XK:=Value->Option Addr->Hp->Prop
abbrev St:=List (Option V)
abbrev VK:=V->Hp->Prop
abbrev TE:=St->Hp->VK->Prop
abbrev TT:=St->Hp->(Bool->Hp->Prop)->Prop
abbrev TA:=St->Hp->(List V->Hp->Prop)->Prop
structure Ends where
 nx:St->Hp->Prop
 rt:VK
 bk:St->Hp->Prop:=fun _ _=>False
 ct:St->Hp->Prop:=fun _ _=>False
abbrev TS:=Ends->St->Hp->Prop
def EP (X:Cx)(pins:List (Addr×Obj))(σ:St)(Q:VK)(u:Value)(s':Shared):Prop:=∃ v H',Inv X pins σ H' s'/\RelV v u/\Q v H'
def TP (X:Cx)(pins:List (Addr×Obj))(σ:St)(Q:Bool->Hp->Prop)(b:Bool)(s':Shared):Prop:=∃ H',Inv X pins σ H' s'/\Q b H'
def AP (X:Cx)(pins:List (Addr×Obj))(σ:St)(Q:List V->Hp->Prop)(us:List Value)(s':Shared):Prop:=∃ vs H',Inv X pins σ H' s'/\Vals vs us/\Q vs H'
def SP (X:Cx)(pins:List (Addr×Obj))(D:Ends)(f:Flow)(s':Shared):Prop :=
 match f with
 | .next=>∃ σ' H',Inv X pins σ' H' s'/\D.nx σ' H'
 | .brk=>∃ σ' H',Inv X pins σ' H' s'/\D.bk σ' H'
 | .cont=>∃ σ' H',Inv X pins σ' H' s'/\D.ct σ' H'
 | .ret u=>∃ v σ' H',Inv X pins σ' H' s'/\RelV v u/\D.rt v H'
def PE (X:Cx)(e:Expr)(t:TE):Prop :=
 ∀ (pins:List (Addr×Obj)) (s:Shared) (σ:St) (H:Hp) (Q:VK),Inv X pins σ H s->t σ H Q->wpAny (model X.prog X.w) X.A (eval e X.env) (EP X pins σ Q) X.xe s
def PT (X:Cx)(e:Expr)(t:TT):Prop :=
 ∀ (pins:List (Addr×Obj)) (s:Shared) (σ:St) (H:Hp) (Q:Bool->Hp->Prop),Inv X pins σ H s->t σ H Q->wpAny (model X.prog X.w) X.A (isTrue e X.env (eval e X.env)) (TP X pins σ Q) X.xe s
def PW (X:Cx)(e:Expr)(t:TT):Prop :=
 ∀ (whole:Sem Value) (pins:List (Addr×Obj)) (s:Shared) (σ:St) (H:Hp) (Q:Bool->Hp->Prop),Inv X pins σ H s->t σ H Q->wpAny (model X.prog X.w) X.A (isTrue e X.env whole) (TP X pins σ Q) X.xe s
theorem PW.pt {X:Cx}{e:Expr}{t:TT}(h:PW X e t):PT X e t:=h _
def PA (X:Cx)(es:List Expr)(t:TA):Prop :=
 ∀ (pos:Pos) (pins:List (Addr×Obj)) (s:Shared) (σ:St) (H:Hp) (Q:List V->Hp->Prop),Inv X pins σ H s->t σ H Q->wpAny (model X.prog X.w) X.A (spliced (backTo pos (starEach es X.env))) (AP X pins σ Q) X.xe s
def PS (X:Cx)(st:Stmt)(t:TS):Prop :=
 ∀ (pins:List (Addr×Obj)) (s:Shared) (σ:St) (H:Hp) (D:Ends),Inv X pins σ H s->t D σ H->wpAny (model X.prog X.w) X.A (exec st X.env) (SP X pins D) X.xe s
def PSs (X:Cx)(st:List Stmt)(t:TS):Prop :=
 ∀ (pins:List (Addr×Obj)) (s:Shared) (σ:St) (H:Hp) (D:Ends),Inv X pins σ H s->t D σ H->wpAny (model X.prog X.w) X.A (execs st X.env) (SP X pins D) X.xe s
theorem thn {α:Type}{t:Sem α}{Q Q':α->Shared->Prop}{M:Model}{A:Around}{E:Value->Shared->Prop}{s:Shared}(h:wpAny M A t Q E s)(hQ:∀ a s,Q a s->Q' a s):wpAny M A t Q' E s:=wpAny_mono h hQ fun _ _ x=>x
section
variable {X:Cx}
def J4i (i:Nat):TE:=fun σ H Q=>match σ[i]? with | some (some v)=>Q v H | _=>False
theorem Jcm {i:Nat}{σ:St}{H:Hp}{Q:VK}(h:J4i i σ H Q):∃ v,σ[i]?=some (some v)/\Q v H:=by
 unfold J4i at h
 split at h
 ·rename_i v e;exact ⟨v,e,h⟩
 ·exact h.elim
def tC (v:V):TE:=fun _ H Q=>Q v H
theorem Jb9 {i:Nat}{x:Str}{pos:Pos}(hN:X.N[i]?=some x)(hv:Vis X.env.scope x)(hd:(x == ("__debug__":Str))=false:=by decide)(hcd:(x == ("__classdict__":Str))=false:=by decide):PE X (.Name x pos) (J4i i):=by
 intro pins s σ H Q I h;obtain ⟨v,e,h⟩:=Jcm h;obtain ⟨m,hn,hl⟩:=I.loc;obtain ⟨u,r,l⟩:=hl i x v hN e hv;have fin:EP X pins σ Q u s:=⟨v,H,I,r,h⟩;rcases l with ⟨hk,hm⟩ | ⟨hk,c,hc,hcell⟩
 ·exact wpAny_Name (wpAny_loadName_local I.ok.kind hk hn hm fin) hd
 ·rcases hk with hk | hk
  ·exact wpAny_Name (wpAny_loadName_cell I.ok.kind hk hc hcell fin) hd
  ·exact wpAny_Name (wpAny_loadName_free I.ok.kind hk hc hcell fin hcd) hd
theorem Ja {i j pos}:PE X (.Constant (.int i) j pos) (tC (.int i)):=fun _ _ _ H _ I h=>wpAny_Constant_int ⟨.int i,H,I.tok _,⟨_,rfl⟩,h⟩
theorem J0q {b j pos}:PE X (.Constant (.bool b) j pos) (tC (.bl b)):=fun _ _ _ H _ I h=>Constant_bool ⟨.bl b,H,I,rfl,h⟩
theorem J0N {j pos}:PE X (.Constant .none j pos) (tC .non):=fun _ _ _ H _ I h=>Constant_none ⟨.non,H,I,rfl,h⟩
theorem Jp {x j pos}:PE X (.Constant (.str x) j pos) (tC (.str x)):=fun _ _ _ H _ I h=>Calls.Constant_str ⟨.str x,H,I.tok _,⟨_,rfl⟩,h⟩
def Gl (X:Cx)(x:Str):Prop:=X.env.kindOf x=some .globalImplicit
theorem J6Z {E:Value->Shared->Prop}{pins:List (Addr×Obj)}{s:Shared}{σ:St}{H:Hp}{x:Str}{u:Value}{pos:Pos}{Q:Value->Shared->Prop}(I:Inv X pins σ H s)(hg:Gl X x)(hm:X.mg x=some u)(h:Q u s)
 (hd:(x == ("__debug__":Str))=false:=by decide):wpAny (model X.prog X.w) X.A (eval (.Name x pos) X.env) Q E s :=
 Calls.Name_function_global I.ok.kind hg (Calls.loadGlobal_global (by rw [I.ok.glob];exact I.mod.glob.keeps I.bk) hm h) hd
theorem J1P {E:Value->Shared->Prop}{pins:List (Addr×Obj)}{s:Shared}{σ:St}{H:Hp}{x:Str}{u:Value}{pos:Pos}{Q:Value->Shared->Prop}(I:Inv X pins σ H s)(hg:Gl X x)(hm:X.mg x=none)(hv:bootBuiltins x=some u)(h:Q u s)
 (hn:x≠"__name__":=by decide) (hd:(x == ("__debug__":Str))=false:=by decide):wpAny (model X.prog X.w) X.A (eval (.Name x pos) X.env) Q E s:=by
 obtain ⟨mb,h1,h2⟩:=I.mod.blt;exact Calls.Name_function_global I.ok.kind hg (Calls.loadGlobal_builtin (by rw [I.ok.glob];exact I.mod.glob.keeps I.bk) hm (by rw [I.ok.blt];exact h1.keeps I.bk) ((h2 x hn).trans hv) h) hd
theorem J6J {x:Str}{v:V}{u:Value}{pos:Pos}(hg:Gl X x)(hm:X.mg x=some u)(r:RelV v u)(hd:(x == ("__debug__":Str))=false:=by decide):PE X (.Name x pos) (tC v) :=
 fun _ _ _ H _ I h=>J6Z I hg hm ⟨v,H,I,r,h⟩ hd
theorem JcO {x:Str}{v:V}{u:Value}{pos:Pos}(hg:Gl X x)(hm:X.mg x=none)(hv:bootBuiltins x=some u)(r:RelV v u)(hn:x≠"__name__":=by decide)(hd:(x == ("__debug__":Str))=false:=by decide):PE X (.Name x pos) (tC v) :=
 fun _ _ _ H _ I h=>J1P I hg hm hv ⟨v,H,I,r,h⟩ hn hd
variable {a b:Expr}{ta tb:TE}{pos:Pos}
def PC (X:Cx)(op:CmpOp)(a b:Expr)(t:TE):Prop :=
 ∀ (pins:List (Addr×Obj)) (s:Shared) (σ:St) (H:Hp) (Q:VK),Inv X pins σ H s->t σ H Q ->
   wpAny (model X.prog X.w) X.A (eval a X.env) (fun v s₁=>wpAny (model X.prog X.w) X.A (eval b X.env) (fun u s₂=>wpAny (model X.prog X.w) X.A (compareOp op v u) (EP X pins σ Q) X.xe s₂) X.xe s₁) X.xe s
def tB (t:TE):TT:=fun σ H Q=>t σ H fun x H1=>∃ c,x=.bl c/\Q c H1
theorem Jb5 {op:CmpOp}{t:TE}(h:PC X op a b t)(h1:behindInMarks op b=false:=by first | exact nobehind _ (by decide) (by decide) | rfl):PT X (.Compare a [op] [b] pos) (tB t):=by
 intro pins s σ H Q I hw;refine wpAny_isTrue_Compare1 (thn (h pins s σ H _ I hw) fun v s1 h1=>thn h1 fun u s2 h2=>thn h2 fun c s3 ⟨x,H1,I1,r1,q1⟩=>?_) h1;obtain ⟨d,rfl,q⟩:=q1;cases r1;exact wpAny_truthy_bool ⟨H1,I1,q⟩
theorem J04 {e:Expr}{t:TE}(h:PE X e t)(he:∀ whole,isTrue e X.env whole=(do let v <- whole;standAt e.pos;holding [v] (truthy v)):=by intro _;rfl):PT X e (tB t):=by
 intro pins s σ H Q I hw;refine isTrue_plain (thn (h pins s σ H _ I hw) fun v s1 ⟨x,H1,I1,r1,q1⟩=>?_) (he _);obtain ⟨d,rfl,q⟩:=q1;cases r1;exact wpAny_truthy_bool ⟨H1,I1,q⟩
variable {tA tB':TT}{rest:List Expr}
def Jcr (t u:TT):TT:=fun σ H Q=>t σ H fun c H1=>if c=true then u σ H1 Q else Q false H1
def tOr (t u:TT):TT:=fun σ H Q=>t σ H fun c H1=>if c=true then Q true H1 else u σ H1 Q
def JaI (t:TT):TT:=fun σ H Q=>t σ H fun c H1=>Q (!c) H1
theorem J2g (ha:PT X a tA):PW X (.BoolOp .And [a] pos) tA:=by
 intro wh pins s σ H Q I h;refine isTrue_and (thn (ha pins s σ H Q I h) fun c s1 e=>?_);cases c with
 | true=>exact isTrue_and_nil e
 | false=>exact e
theorem J0V (ha:PT X a tA):PW X (.BoolOp .Or [a] pos) tA:=by
 intro wh pins s σ H Q I h;refine isTrue_or (thn (ha pins s σ H Q I h) fun c s1 e=>?_);cases c with
 | false=>exact isTrue_or_nil e
 | true=>exact e
theorem J3g (ha:PT X a tA)(hb:PW X (.BoolOp .And (b::rest) pos) tB'):PW X (.BoolOp .And (a::b::rest) pos) (Jcr tA tB'):=by
 intro wh pins s σ H Q I h;refine isTrue_and (thn (ha pins s σ H _ I h) fun c s1 ⟨H1,I1,q1⟩=>?_);cases c with
 | true=>exact hb wh pins s1 σ H1 Q I1 q1
 | false=>exact ⟨H1,I1,q1⟩
theorem J1u (ha:PT X a tA)(hb:PW X (.BoolOp .Or (b::rest) pos) tB'):PW X (.BoolOp .Or (a::b::rest) pos) (tOr tA tB'):=by
 intro wh pins s σ H Q I h;refine isTrue_or (thn (ha pins s σ H _ I h) fun c s1 ⟨H1,I1,q1⟩=>?_);cases c with
 | true=>exact ⟨H1,I1,q1⟩
 | false=>exact hb wh pins s1 σ H1 Q I1 q1
theorem J0i (ha:PT X a tA):PT X (.UnaryOp .Not a pos) (JaI tA):=by
 intro pins s σ H Q I h;exact isTrue_not (ha pins s σ H (fun c H1=>Q (!c) H1) I h)
def J9n (ta tb:TE):TE:=fun σ H Q=>ta σ H fun x H1=>∃ c,x=.bl c/\if c=true then tb σ H1 Q else Q (.bl false) H1
def Jfu (ta tb:TE):TE:=fun σ H Q=>ta σ H fun x H1=>∃ c,x=.bl c/\if c=true then Q (.bl true) H1 else tb σ H1 Q
def J9j (ta:TE):TE:=fun σ H Q=>ta σ H fun x H1=>∃ c,x=.bl c/\Q (.bl (!c)) H1
theorem J3h {op}{t:TE}(h:PE X a t):PE X (.BoolOp op [a] pos) t:=fun pins s σ H Q I hw=>BoolOp_one (h pins s σ H Q I hw)
theorem J1L (ha:PE X a ta)(hb:PE X (.BoolOp .And (b::rest) pos) tb):PE X (.BoolOp .And (a::b::rest) pos) (J9n ta tb):=by
 intro pins s σ H Q I h;refine BoolOp_and (thn (ha pins s σ H _ I h) fun v s1 ⟨x,H1,I1,r1,q1⟩=>?_);obtain ⟨c,rfl,q1⟩:=q1;cases r1;refine wpAny_truthy_bool ?_;cases c with
 | true=>exact hb pins s1 σ H1 Q I1 q1
 | false=>exact ⟨.bl false,H1,I1,rfl,q1⟩
theorem J8P (ha:PE X a ta):PE X (.UnaryOp .Not a pos) (J9j ta):=by
 intro pins s σ H Q I h;refine UnaryOp_ (thn (ha pins s σ H _ I h) fun v s1 ⟨x,H1,I1,r1,q1⟩=>?_);obtain ⟨c,rfl,q1⟩:=q1;cases r1;exact not_of (wpAny_truthy_bool ⟨.bl (!c),H1,I1,rfl,q1⟩)
def tIf (t:TT)(ta tb:TE):TE:=fun σ H Q=>t σ H fun c H1=>if c=true then ta σ H1 Q else tb σ H1 Q
theorem J7Q {c:Expr}(hc:PT X c tA)(ha:PE X a ta)(hb:PE X b tb):PE X (.IfExp c a b pos) (tIf tA ta tb):=by
 intro pins s σ H Q I h;refine wpAny_IfExp (thn (hc pins s σ H _ I h) fun d s1 ⟨H1,I1,q1⟩=>?_);cases d with
 | true=>exact ha pins s1 σ H1 Q I1 q1
 | false=>exact hb pins s1 σ H1 Q I1 q1
end
def SqL (K:PySem.W.Frag)(H:Hp)(a:Addr)(xs:List V):Prop :=
 Rd H a (.lst xs) \/
  ∃ (o:Obj) (its:Array Value) (n:Nat),K.lookup a=some o/\o.cls=.type "list"/\o.dict=none/\o.data=.seq its n/\its.size<=sizeLine/\Vals xs its.toList
def SqT (K:PySem.W.Frag)(H:Hp)(a:Addr)(xs:List V):Prop :=
 Rd H a (.tup xs) \/
  ∃ (o:Obj) (its:Array Value) (n:Nat),K.lookup a=some o/\o.cls=.type "tuple"/\o.data=.seq its n/\its.size<=sizeLine/\Vals xs its.toList
def Jfg:Value->Option V
 | .none=>some .non
 | .bool b=>some (.bl b)
 | .int i _=>some (.int i)
 | .str x _=>some (.str x)
 | .bytes b _=>some (.byt b)
 | .float b _=>some (.flt b)
 | .ref a=>some (.ref a)
 | .type n=>some (.ty n)
 | _=>none
theorem RelV.abs {x:V}{u:Value}(r:RelV x u):Jfg u=some x:=by
 cases x with
 | non=>cases r;rfl
 | bl _=>cases r;rfl
 | int _=>obtain ⟨t,rfl⟩:=r;rfl
 | str _=>obtain ⟨t,rfl⟩:=r;rfl
 | byt _=>obtain ⟨t,rfl⟩:=r;rfl
 | flt _=>obtain ⟨t,rfl⟩:=r;rfl
 | ref _=>cases r;rfl
 | ty _=>cases r;rfl
theorem RelV.inj {x y:V}{u:Value}(r:RelV x u)(q:RelV y u):x=y:=zA (r.abs.symm.trans q.abs)
theorem Vals.inj:∀ {xs ys:List V} {us:List Value},Vals xs us->Vals ys us->xs=ys
 | _,_,_,.nil,.nil=>rfl
 | _,_,_,.cons r t,.cons r' t'=>by rw [r.inj r',Vals.inj t t']
section
variable {X:Cx}{pins:List (Addr×Obj)}{σ:St}{H:Hp}{s:Shared}{a:Addr}{xs ys:List V}
theorem SqL.of {K:PySem.W.Frag}(h:H a=some (.lst xs)):SqL K H a xs:=.inl (.inl h)
theorem SqT.of {K:PySem.W.Frag}(h:H a=some (.tup xs)):SqT K H a xs:=.inl (.inl h)
theorem Inv.list (I:Inv X pins σ H s)(h:SqL X.K H a xs):∃ its:List Value,Vals xs its/\PlainL s.heap a its.toArray/\xs.length<=sizeLine:=by
 rcases h with h | ⟨o,its,n,hk,hc,hd,hs,hz,r⟩
 ·obtain ⟨z,its,n,r,e⟩:=h.ok I.hok
  exact ⟨its,r,⟨_,n,e,rfl,rfl,rfl⟩,z⟩
 ·refine ⟨its.toList,r,⟨o,n,I.kIn a o hk,hc,hd,by simpa using hs⟩,?_⟩
  have e:=r.length;simp only [zI] at e;omega
theorem Inv.tuple (I:Inv X pins σ H s)(h:SqT X.K H a xs):∃ its:List Value,Vals xs its/\IsTup s.heap a its.toArray/\xs.length<=sizeLine:=by
 rcases h with h | ⟨o,its,n,hk,hc,hs,hz,r⟩
 ·obtain ⟨z,its,r,p⟩:=h.ok I.hok
  exact ⟨its,r,p,z⟩
 ·refine ⟨its.toList,r,⟨o,I.kIn a o hk,hc,n,by simpa using hs⟩,?_⟩
  have e:=r.length;simp only [zI] at e;omega
theorem Inv.list_inj (I:Inv X pins σ H s)(h:SqL X.K H a xs)(h':SqL X.K H a ys):xs=ys:=by
 obtain ⟨its,r,⟨o,n,e,_,_,d⟩,_⟩:=I.list h;obtain ⟨its',r',⟨o',n',e',_,_,d'⟩,_⟩:=I.list h';rw [e] at e';cases e';rw [d] at d';injection d' with d1 _
 have:its=its':=by simpa using congrArg Array.toList d1
 subst this;exact r.inj r'
theorem Inv.tuple_inj (I:Inv X pins σ H s)(h:SqT X.K H a xs)(h':SqT X.K H a ys):xs=ys:=by
 obtain ⟨its,r,⟨o,e,_,n,d⟩,_⟩:=I.tuple h;obtain ⟨its',r',⟨o',e',_,n',d'⟩,_⟩:=I.tuple h';rw [e] at e';cases e';rw [d] at d';injection d' with d1 _
 have:its=its':=by simpa using congrArg Array.toList d1
 subst this;exact r.inj r'
end
abbrev Cx.wish (X:Cx)(E:Value->Shared->Prop):Cx:={ X with xe:=E }
abbrev Cx.nox (X:Cx):Cx:=X.wish fun _ _=>False
theorem Cx.Ok.wish {X:Cx}(ok:X.Ok)(E:Value->Shared->Prop):(X.wish E).Ok :=
 ⟨ok.mod,ok.kind,ok.glob,ok.blt,ok.above,ok.inj,ok.has,ok.cab,ok.hd,ok.frames,ok.stk,ok.exf,ok.bs,ok.bsz,ok.noex,ok.exfs,ok.funs,ok.frf⟩
theorem Cx.Ok.unwish {X:Cx}{E:Value->Shared->Prop}(ok:(X.wish E).Ok):X.Ok :=
 ⟨ok.mod,ok.kind,ok.glob,ok.blt,ok.above,ok.inj,ok.has,ok.cab,ok.hd,ok.frames,ok.stk,ok.exf,ok.bs,ok.bsz,ok.noex,ok.exfs,ok.funs,ok.frf⟩
section
variable {X:Cx}{pins:List (Addr×Obj)}{σ:St}{H:Hp}{s:Shared}{E:Value->Shared->Prop}
theorem Inv.wish (I:Inv X pins σ H s)(E:Value->Shared->Prop):Inv (X.wish E) pins σ H s:=⟨I.ok.wish E,I.os,I.bare,I.base,I.loc,I.cell,I.free,I.freeC,I.pin,I.hok,I.len⟩
theorem Inv.unwish (I:Inv (X.wish E) pins σ H s):Inv X pins σ H s:=⟨I.ok.unwish,I.os,I.bare,I.base,I.loc,I.cell,I.free,I.freeC,I.pin,I.hok,I.len⟩
theorem SP.unwish {D:Ends}{f:Flow}{s':Shared}(h:SP (X.wish E) pins D f s'):SP X pins D f s':=by
 cases f with
 | next=>obtain ⟨σ',H',I,q⟩:=h;exact ⟨σ',H',I.unwish,q⟩
 | brk=>obtain ⟨σ',H',I,q⟩:=h;exact ⟨σ',H',I.unwish,q⟩
 | cont=>obtain ⟨σ',H',I,q⟩:=h;exact ⟨σ',H',I.unwish,q⟩
 | ret u=>obtain ⟨v,σ',H',I,r,q⟩:=h;exact ⟨v,σ',H',I.unwish,r,q⟩
theorem PSs.nox {st:List Stmt}{t:TS}(h:PSs X.nox st t):PSs X st t:=fun pins s σ H D I hw =>
 wpAny_mono (h pins s σ H D (I.wish _) hw) (fun _ _ q=>q.unwish) fun _ _ z=>zH z
end
section
variable {X:Cx}{st:Stmt}{rest:List Stmt}{t u:TS}{e:Expr}{te:TE}{pos:Pos}
def J9k:TS:=fun D σ H=>D.nx σ H
def J1n (t u:TS):TS:=fun D σ H=>t { D with nx:=u D } σ H
theorem Jl:PSs X [] J9k:=fun _ _ σ H _ I h=>wpAny_execs_nil ⟨σ,H,I,h⟩
theorem J9 (h1:PS X st t)(h2:PSs X rest u):PSs X (st::rest) (J1n t u):=by
 intro pins s σ H D I h;refine wpAny_execs_cons (thn (h1 pins s σ H { D with nx:=u D } I h) fun f s1 q=>?_);cases f with
 | next =>
   obtain ⟨σ',H',I',q⟩:=q;exact h2 pins s1 σ' H' D I' q
 | ret v=>exact q
 | brk=>exact q
 | cont=>exact q
theorem Jc (h1:PS X st t):PSs X [st] t:=by
 intro pins s σ H D I h;refine wpAny_execs_cons (thn (h1 pins s σ H D I h) fun f s1 q=>?_);cases f with
 | next=>exact wpAny_execs_nil q
 | ret v=>exact q
 | brk=>exact q
 | cont=>exact q
theorem Inv.quiet {pins:List (Addr×Obj)}{σ:St}{H:Hp}{s:Shared}(I:Inv X pins σ H s):interactive X.env=false:=by simp [interactive,I.ok.kind]
def J47 (te:TE):TS:=fun D σ H=>te σ H fun _ H1=>D.nx σ H1
theorem JM (he:PE X e te)(hs:swapsWith e none pos.line X.env=pure false:=by rfl):PS X (.Expr e pos) (J47 te):=by
 intro pins s σ H D I h;exact wpAny_Expr_any (thn (he pins s σ H _ I h) fun v s1 ⟨x,H1,I1,r1,q1⟩=>⟨σ,H1,I1,q1⟩) I.quiet hs
def J9U (te:TE):TS:=fun D σ H=>te σ H D.rt
theorem Ji (he:PE X e te):PS X (.Return (some e) pos) (J9U te):=by
 intro pins s σ H D I h;exact wpAny_Return_some (thn (he pins s σ H _ I h) fun v s1 ⟨x,H1,I1,r1,q1⟩=>⟨x,σ,H1,I1,r1,q1⟩)
def Jfn:TS:=fun D _ H=>D.rt .non H
def J6e (c:TT)(t u:TS):TS:=fun D σ H=>c σ H fun b H1=>if b=true then t D σ H1 else u D σ H1
theorem Jt {c:Expr}{a b:List Stmt}{tc:TT}(hc:PT X c tc)(ha:PSs X a t)(hb:PSs X b u):PS X (.If c a b pos) (J6e tc t u):=by
 intro pins s σ H D I h;refine wpAny_If (thn (hc pins s σ H _ I h) fun d s1 ⟨H1,I1,q1⟩=>?_);cases d with
 | true=>exact ha pins s1 σ H1 D I1 q1
 | false=>exact hb pins s1 σ H1 D I1 q1
def J6c:TS:=fun _ _ _=>False
theorem JY:PS X st J6c:=fun _ _ _ _ _ _ h=>h.elim
end
abbrev TG:=V->St->Hp->(St->Hp->Prop)->Prop
abbrev TGs:=List V->St->Hp->(St->Hp->Prop)->Prop
def PG (X:Cx)(target:Expr)(t:TG):Prop :=
 ∀ (pins:List (Addr×Obj)) (s:Shared) (σ:St) (H:Hp) (v:V) (u:Value) (Q:St->Hp->Prop),Inv X pins σ H s->RelV v u->t v σ H Q ->
   wpAny (model X.prog X.w) X.A (assign target X.env u) (fun _ s'=>∃ σ' H',Inv X pins σ' H' s'/\Q σ' H') X.xe s
def PGs (X:Cx)(ts:List Expr)(t:TGs):Prop :=
 ∀ (pins:List (Addr×Obj)) (s:Shared) (σ:St) (H:Hp) (vs:List V) (us:List Value) (Q:St->Hp->Prop),Inv X pins σ H s->Vals vs us->t vs σ H Q ->
   wpAny (model X.prog X.w) X.A (assignInOrder ((assignEach ts X.env).map (·.2)) us) (fun _ s'=>∃ σ' H',Inv X pins σ' H' s'/\Q σ' H') X.xe s
abbrev JeZ:=V->V->V->Hp->(Hp->Prop)->Prop
def Jfi (X:Cx)(t:JeZ):Prop :=
 ∀ (pins:List (Addr×Obj)) (s:Shared) (σ:St) (H:Hp) (o i v:V) (ov iv u:Value) (Q:Hp->Prop),Inv X pins σ H s->RelV o ov->RelV i iv->RelV v u->t o i v H Q ->
   wpAny (model X.prog X.w) X.A (setItem ov iv u) (fun _ s'=>∃ H',Inv X pins σ H' s'/\Q H') X.xe s
section
variable {X:Cx}{pos:Pos}
def JL (i:Nat):TG:=fun v σ H Q=>Q (σ.set i (some v)) H
theorem JcK {i:Nat}{x:Str}(hN:X.N.Nodup)(hi:X.N[i]?=some x)(hx:Loc X.env.scope x)(hf:X.fn x=true\/X.env.scope.names.lookup x=some .local:=by first | exact .inl rfl | exact .inr rfl | assumption):PG X (.Name x pos) (JL i):=by
 intro pins s σ H v u Q I r h;exact wpAny_assign_Name (J7s I hN hi hx r (fun s' I'=>⟨_,H,I',h⟩) hf)
def J4s:TGs:=fun vs σ H Q=>vs=[]/\Q σ H
def J21 (t:TG)(u:TGs):TGs:=fun vs σ H Q=>∃ v r,vs=v::r/\t v σ H fun σ' H'=>u r σ' H' Q
theorem J1E:PGs X [] J4s:=by
 intro pins s σ H vs us Q I r h;obtain ⟨e,h⟩:=h;subst e;cases r;exact assignInOrder_nil ⟨σ,H,I,h⟩
theorem J02 {e:Expr}{es:List Expr}{t:TG}{u:TGs}(h1:PG X e t)(h2:PGs X es u)
 (hs:(assignEach (e::es) X.env).map (·.2)=assign e X.env::(assignEach es X.env).map (·.2):=by rfl):PGs X (e::es) (J21 t u):=by
 intro pins s σ H vs us Q I r h;obtain ⟨v,vr,e1,h⟩:=h;subst e1;cases r with
 | cons r rr =>
   rw [hs];refine assignInOrder_cons (thn (h1 pins s σ H _ _ _ I r h) fun _ s1 ⟨σ1,H1,I1,q1⟩=>?_);exact h2 pins s1 σ1 H1 _ _ Q I1 rr q1
def Jem (K:PySem.W.Frag)(n:Nat)(t:TGs):TG:=fun v σ H Q=>∃ a xs,v=.ref a/\SqT K H a xs/\xs.length=n/\t xs σ H Q
theorem JdU {es:List Expr}{k:Nat}{t:TGs}{n:Nat}(hc:X.calm=true)(h:PGs X es t)
 (hn:(assignEach es X.env).length=n:=by rfl) (hst:(assignEach es X.env).findIdx? (·.1)=none:=by rfl):PG X (.Tuple es k pos) (Jem X.K n t):=by
 intro pins s σ H v u Q I r hw;obtain ⟨a,xs,e1,hq,hl,hw⟩:=hw;subst e1;cases r;obtain ⟨its,rv,ht,hz⟩:=I.tuple hq;refine assign_Tuple_tuple (I.ok.hd hc) ht (by simp [hn,<- hl,rv.length]) hst fun h' hx=>?_;have I1:Inv X pins σ H { s with heap:=h' }:=I.kept (t':=s.toks) fun b o e=>hx b o (zB (qj e)) e;exact h pins _ σ H xs _ Q I1 (by simpa using rv) hw
def Jen (to ti:TE)(t:JeZ):TG:=fun v σ H Q=>to σ H fun o H1=>ti σ H1 fun i H2=>t o i v H2 fun H3=>Q σ H3
def J3t (te:TE)(g:TG):TS:=fun D σ H=>te σ H fun x H1=>g x σ H1 D.nx
theorem J8L {tg e:Expr}{te:TE}{g:TG}(he:PE X e te)(hg:PG X tg g)(hs:swapsWithSole [tg] e pos.line X.env=pure false:=by rfl)(hw:swappedStores [tg] e X.env=pure none:=by rfl)
 (h1:(assignEach [tg] X.env).map (·.2)=[assign tg X.env]:=by rfl):PS X (.Assign [tg] e pos) (J3t te g):=by
 intro pins s σ H D I h;refine wpAny_Assign_stores (thn (he pins s σ H _ I h) fun v s1 ⟨x,H1,I1,r1,q1⟩=>?_) hs hw;rw [h1];exact thn (hg pins s1 σ H1 x v _ I1 r1 q1) fun _ s2 q=>q
theorem Jb6 {i:Nat}{x:Str}{e:Expr}{te:TE}{pos':Pos}(hN:X.N.Nodup)(hi:X.N[i]?=some x)(hx:Loc X.env.scope x)(he:PE X e te)(hs:swapsWith e (some (.Name x pos')) pos.line X.env=pure false:=by rfl)(hf:X.fn x=true\/X.env.scope.names.lookup x=some .local:=by first | exact .inl rfl | exact .inr rfl | assumption) :
 PS X (.Assign [.Name x pos'] e pos) (J3t te (JL i)):=by
 intro pins s σ H D I h;refine wpAny_Assign_Name (thn (he pins s σ H _ I h) fun v s1 ⟨y,H1,I1,r1,q1⟩=>?_) hs;exact J7s I1 hN hi hx r1 (fun s2 I2=>⟨_,H1,I2,q1⟩) hf
end
structure It where
 go:Nat->Hp->Prop
 yld:Nat->Hp->V->Hp->Prop
 stop:Nat->Hp->Prop
def J2N (X:Cx)(pins:List (Addr×Obj))(H:Hp)(b:Addr):Prop :=
 H b=none/\b≠X.env.locals/\b∉X.fs/\(b∈X.ex\/X.s₀.heap.objs.size<=b)/\(∀ x c,X.env.cells.lookup x=some c->c≠b)/\∀ p∈X.pn++pins,p.1≠b
theorem Inv.fpOk {X:Cx}{pins:List (Addr×Obj)}{σ:St}{H H':Hp}{s:Shared}{b:Addr}(I:Inv X pins σ H s)(hb:s.heap.objs.size<=b)(hn:H' b=none):J2N X pins H' b:=by
 refine ⟨hn,Nat.ne_of_gt (zE I.lt hb),I.nofs hb,.inr (zG I.sz hb),fun x c e z=>?_,fun p hp z=>?_⟩
 ·obtain ⟨v,q⟩:=I.cell x c e
  exact absurd (zE q.lt (by rw [z];exact hb)) (Nat.lt_irrefl _)
 ·exact absurd (zE (qj (I.pin p hp).1) (by rw [z];exact hb)) (Nat.lt_irrefl _)
structure Turn (P:Program)(w:World)(K:PySem.W.Frag)(tg:Expr)(J:It)(fp:List Addr)(it:Addr)(tn:Nat->Heap->Prop):Prop where
 mem:it∈fp
 obj:∀ i h,tn i h->∀ b∈fp,∃ o,h.get? b=some o/\∀ v,o.data≠.cell v
 keep:∀ i h h',tn i h->(∀ b∈fp,∀ o,h.get? b=some o->h'.get? b=some o)->tn i h'
 item:∀ (X:Cx),X.prog=P->X.w=w->X.K=K->X.calm=true->∀ (i:Nat) (pins:List (Addr×Obj)) (s:Shared) (σ:St) (H:Hp) (E:Value->Shared->Prop),Inv X pins σ H s->(∀ b∈fp,J2N X pins H b)->tn i s.heap->J.go i H ->
  wpAny (model P w) X.A (pyNext (.ref it)) (fun r s1=>∃ u,r=some u /\
   wpAny (model P w) X.A (letOwnedTupleGo tg (.ref it) u) (fun _ s2=>∃ x H',Inv X pins σ H' s2/\RelV x u/\J.yld i H x H'/\tn (i+1) s2.heap/\∀ b∈fp,H' b=none) E s1) E s
 done:∀ (X:Cx),X.prog=P->X.w=w->X.K=K->X.calm=true->∀ (i:Nat) (pins:List (Addr×Obj)) (s:Shared) (σ:St) (H:Hp) (E:Value->Shared->Prop),Inv X pins σ H s->(∀ b∈fp,J2N X pins H b)->tn i s.heap->J.stop i H ->
  wpAny (model P w) X.A (pyNext (.ref it)) (fun r s1=>r=none/\Inv X pins σ H s1) E s
 self:∀ (A:Around) (i:Nat) (s:Shared) (Q:Value->Shared->Prop) (E:Value->Shared->Prop),tn i s.heap->Q (.ref it) s->wpAny (model P w) A (pyIter (.ref it)) Q E s
abbrev TI:=St->Hp->(It->Hp->Prop)->Prop
def PIE (X:Cx)(pins:List (Addr×Obj))(σ:St)(tg:Expr)(R:It->Hp->Prop)(itv:Value)(s2:Shared):Prop :=
 ∃ (it:Addr) (fp:List Addr) (tn:Nat->Heap->Prop) (J:It) (H':Hp),itv=.ref it/\Inv X pins σ H' s2/\Turn X.prog X.w X.K tg J fp it tn/\tn 0 s2.heap/\(∀ b∈fp,J2N X pins H' b)/\R J H'
def PI (X:Cx)(tg iter:Expr)(wi:TI):Prop :=
 ∀ (pins:List (Addr×Obj)) (s:Shared) (σ:St) (H:Hp) (R:It->Hp->Prop),Inv X pins σ H s->wi σ H R ->
   wpAny (model X.prog X.w) X.A (eval iter X.env) (fun v s1=>wpAny (model X.prog X.w) X.A (pyIter v) (PIE X pins σ tg R) X.xe s1) X.xe s
theorem go_of {M:Model}{A:Around}{E:Value->Shared->Prop}{s:Shared}{tg:Expr}{it:Addr}{u:Value}{o:Obj}{n:String}{vs:Array Value}{Q:Unit->Shared->Prop}(ho:s.heap.get? it=some o)(hc:o.cls=.type n)(hd:o.data=.fields vs)
 (hn:["enumerate","zip","dict_itemiterator","dict_reverseitemiterator","odict_iterator","itertools.zip_longest","itertools.pairwise"].contains n=false) (hQ:Q () s):wpAny M A (letOwnedTupleGo tg (.ref it) u) Q E s:=by
 unfold letOwnedTupleGo
 cases tg <;> first
  | exact zr hQ
  | (cases u<;>first
   | exact zr hQ
   | (refine zq (wpAny_load ho ?_)
      rw [hc,hd];show wpAny M A (if (["enumerate","zip","dict_itemiterator","dict_reverseitemiterator","odict_iterator","itertools.zip_longest","itertools.pairwise"].contains n&&vs[0]? == some (rawInt _))=true then _ else _) Q E s;rw [zt (by intro h;rw [hn,Bool.false_and] at h;cases h)];exact zr hQ))
def Itl (K:PySem.W.Frag)(a:Addr):It :=
 ⟨fun i H=>∃ xs x,SqL K H a xs/\xs[i]?=some x,fun i H x H'=>H'=H/\∀ xs,SqL K H a xs->xs[i]?=some x,fun i H=>∃ xs,SqL K H a xs/\xs.length<=i⟩
def Itt (K:PySem.W.Frag)(a:Addr):It :=
 ⟨fun i H=>∃ xs x,SqT K H a xs/\xs[i]?=some x,fun i H x H'=>H'=H/\∀ xs,SqT K H a xs->xs[i]?=some x,fun i H=>∃ xs,SqT K H a xs/\xs.length<=i⟩
def Itr (lo:Int)(n:Nat):It:=⟨fun i _=>i<n,fun i H x H'=>H'=H/\x=.int (lo+i),fun i _=>n<=i⟩
theorem J9S {P:Program}{w:World}{K:PySem.W.Frag}{tg:Expr}(a it:Addr):Turn P w K tg (Itl K a) [it] it (fun i h=>h.IsListIter it a i) where
 mem:=by simp
 obj:=fun i h st b hb=>by
  have e:b=it:=by simpa using hb
  subst e;obtain ⟨o,e,c,d⟩:=st;exact ⟨o,e,fun v z=>by rw [d] at z;cases z⟩
 keep:=fun i h h' st k=>st.at fun o e=>k it (by simp) o e
 item:=by
  intro X hP hw hK hc i pins s σ H E I hf st hg;subst hP hw hK;obtain ⟨xs,x,hq,hx⟩:=hg;obtain ⟨its,rv,p,hz⟩:=I.list hq;obtain ⟨u,hu,ru⟩:=rv.get hx;obtain ⟨f0,f1,f2,f3,f4,f5⟩:=hf it (by simp);refine wpAny_pyNext_list_item st p.isList (x:=u) (by simpa using hu) fun h' st' sb=>?_;have I1:Inv X pins σ H { s with heap:=h' }:=I.turned (t':=s.toks) (fun b o hb e=>(sb.2 b hb).trans e) f0 f1 f3 f4 f5;obtain ⟨o,e,c,d⟩:=id st';exact ⟨u,rfl,go_of (s:={ s with heap:=h' }) e c d (by decide) ⟨x,H,I1,ru,⟨rfl,fun ys hy=>by rw [I.list_inj hy hq];exact hx⟩,st',fun b hb=>(hf b hb).1⟩⟩
 done:=by
  intro X hP hw hK hc i pins s σ H E I hf st hg;subst hP hw hK;obtain ⟨xs,hq,hx⟩:=hg;obtain ⟨its,rv,p,hz⟩:=I.list hq;obtain ⟨f0,f1,f2,f3,f4,f5⟩:=hf it (by simp);have hl:=rv.length;exact wpAny_pyNext_list_end (I.ok.hd hc) st p.isList (by simp;omega) fun h' eb=>⟨rfl,I.turned (t':=s.toks) (fun b o hb e=>eb b o hb e) f0 f1 f3 f4 f5⟩
 self:=fun _ _ _ _ _ st h=>wpAny_pyIter_listiter st h
theorem J8k {P:Program}{w:World}{K:PySem.W.Frag}{tg:Expr}(a it:Addr):Turn P w K tg (Itt K a) [it] it (fun i h=>h.IsTupleIter it a i) where
 mem:=by simp
 obj:=fun i h st b hb=>by
  have e:b=it:=by simpa using hb
  subst e;obtain ⟨o,e,c,d⟩:=st;exact ⟨o,e,fun v z=>by rw [d] at z;cases z⟩
 keep:=fun i h h' st k=>st.at fun o e=>k it (by simp) o e
 item:=by
  intro X hP hw hK hc i pins s σ H E I hf st hg;subst hP hw hK;obtain ⟨xs,x,hq,hx⟩:=hg;obtain ⟨its,rv,p,hz⟩:=I.tuple hq;obtain ⟨u,hu,ru⟩:=rv.get hx;obtain ⟨f0,f1,f2,f3,f4,f5⟩:=hf it (by simp);refine wpAny_pyNext_tuple_item st (show s.heap.IsTuple a its.toArray from p) (x:=u) (by simpa using hu) fun h' st' sb=>?_;have I1:Inv X pins σ H { s with heap:=h' }:=I.turned (t':=s.toks) (fun b o hb e=>(sb.2 b hb).trans e) f0 f1 f3 f4 f5;obtain ⟨o,e,c,d⟩:=id st';exact ⟨u,rfl,go_of (s:={ s with heap:=h' }) e c d (by decide) ⟨x,H,I1,ru,⟨rfl,fun ys hy=>by rw [I.tuple_inj hy hq];exact hx⟩,st',fun b hb=>(hf b hb).1⟩⟩
 done:=by
  intro X hP hw hK hc i pins s σ H E I hf st hg;subst hP hw hK;obtain ⟨xs,hq,hx⟩:=hg;obtain ⟨its,rv,p,hz⟩:=I.tuple hq;obtain ⟨f0,f1,f2,f3,f4,f5⟩:=hf it (by simp);have hl:=rv.length;exact wpAny_pyNext_tuple_end (I.ok.hd hc) st (show s.heap.IsTuple a its.toArray from p) (by simp;omega) fun h' eb=>⟨rfl,I.turned (t':=s.toks) (fun b o hb e=>eb b o hb e) f0 f1 f3 f4 f5⟩
 self:=fun _ _ _ _ _ st h=>wpAny_pyIter_tupleiter st h
theorem J8l {P:Program}{w:World}{K:PySem.W.Frag}{tg:Expr}(it:Addr)(lo:Int)(n:Nat):Turn P w K tg (Itr lo n) [it] it (fun i h=>IsRangeIter h it (lo+(i:Nat) * 1) ((n:Int) - (i:Nat)) 1) where
 mem:=by simp
 obj := fun i h st b hb=>by
  have e:b=it:=by simpa using hb
  subst e;exact ⟨_,st,fun v z=>by
   have z':Data.fields _=Data.cell v:=z;cases z'⟩
 keep:=fun i h h' st k=>k it (by simp) _ st
 item:=by
  intro X hP hw hK hc i pins s σ H E I hf st hg;subst hP hw hK;obtain ⟨f0,f1,f2,f3,f4,f5⟩:=hf it (by simp);have W:=Walks.range (prog:=X.prog) (w:=X.w) (I.ok.hd hc) it lo 1 n;refine W.item i s _ _ hg st fun v h' tk hv st' kk=>?_;obtain ⟨t,rfl⟩:=hv;have I1:Inv X pins σ H { s with heap:=h',toks:=tk }:=I.turned (fun b o hb e=>kk b o (by simpa using hb) e) f0 f1 f3 f4 f5;refine ⟨_,rfl,go_of (s:={ s with heap:=h',toks:=tk }) (n:="range_iterator") st' rfl rfl (by decide) ⟨.int (lo+i),H,I1,⟨t,?_⟩,⟨rfl,rfl⟩,st',fun b hb=>(hf b hb).1⟩⟩;rw [Int.mul_one]
 done:=by
  intro X hP hw hK hc i pins s σ H E I hf st hg;subst hP hw hK;obtain ⟨f0,f1,f2,f3,f4,f5⟩:=hf it (by simp);exact wpAny_pyNext_range_end (I.ok.hd hc) st (by have:n<=i:=hg;omega) fun h' eb=>⟨rfl,I.turned (t':=s.toks) (fun b o hb e=>eb b o hb e) f0 f1 f3 f4 f5⟩
 self:=fun _ _ _ _ _ st h=>wpAny_pyIter_rangeiter st h
section
variable {X:Cx}{tg:Expr}
def J85 (K:PySem.W.Frag)(tl:TE):TI:=fun σ H R=>tl σ H fun x H1=>∃ a,x=.ref a/\(∃ xs,SqL K H1 a xs)/\R (Itl K a) H1
def JbE (K:PySem.W.Frag)(tl:TE):TI:=fun σ H R=>tl σ H fun x H1=>∃ a,x=.ref a/\(∃ xs,SqT K H1 a xs)/\R (Itt K a) H1
theorem JcH {l:Expr}{tl:TE}(hl:PE X l tl):PI X tg l (J85 X.K tl):=by
 intro pins s σ H R I h;refine thn (hl pins s σ H _ I h) fun v s1 ⟨x,H1,I1,r1,q1⟩=>?_;obtain ⟨a,e,⟨xs,hq⟩,q⟩:=q1;subst e;cases r1;obtain ⟨its,rv,p,hz⟩:=I1.list hq;refine wpAny_pyIter_list p.isList ?_;refine ⟨s1.heap.objs.size,[s1.heap.objs.size],_,_,H1,rfl,I1.kept (t':=s1.toks) fun b o e=>qh _ e,J9S a _,⟨_,qi _ rfl,rfl,rfl⟩,fun b hb=>?_,q⟩;have e:b=s1.heap.objs.size:=by simpa using hb
 subst e;exact I1.fpOk (zv _) (I1.hok.fresh (zv _))
theorem JdQ {l:Expr}{tl:TE}(hl:PE X l tl):PI X tg l (JbE X.K tl):=by
 intro pins s σ H R I h;refine thn (hl pins s σ H _ I h) fun v s1 ⟨x,H1,I1,r1,q1⟩=>?_;obtain ⟨a,e,⟨xs,hq⟩,q⟩:=q1;subst e;cases r1;obtain ⟨its,rv,p,hz⟩:=I1.tuple hq;refine wpAny_pyIter_tuple (show s1.heap.IsTuple a its.toArray from p) ?_;refine ⟨s1.heap.objs.size,[s1.heap.objs.size],_,_,H1,rfl,I1.kept (t':=s1.toks) fun b o e=>qh _ e,J8k a _,⟨_,qi _ rfl,rfl,rfl⟩,fun b hb=>?_,q⟩;have e:b=s1.heap.objs.size:=by simpa using hb
 subst e;exact I1.fpOk (zv _) (I1.hok.fresh (zv _))
theorem JaY {pins:List (Addr×Obj)}{σ:St}{H:Hp}{s:Shared}{R:It->Hp->Prop}{E:Value->Shared->Prop}{lo hi:Int}{t u v:Tok}{tk:Nat}(I:Inv X pins σ H s)(h1:-(2 ^ 62)<=lo)(h2:lo<2 ^ 62)(h3:-(2 ^ 62)<=hi)(h4:hi<2 ^ 62)
 (q:R (Itr lo (hi - lo).toNat) H):wpAny (model X.prog X.w) X.A (pyIter (.ref s.heap.objs.size)) (PIE X pins σ tg R) E { s with heap:=s.heap.push { cls:=.type "range",data:=.fields #[.int lo t,.int hi u,.int 1 v] },toks:=tk }:=by
 refine wpAny_pyIter_range (IsRange.new ..) (small_one h1 h2 h3 h4) ?_;have I1:Inv X pins σ H { s with heap:=s.heap.push { cls:=.type "range",data:=.fields #[.int lo t,.int hi u,.int 1 v] },toks:=tk }:=I.kept fun b o e=>qh _ e;refine ⟨(s.heap.push { cls:=.type "range",data:=.fields #[.int lo t,.int hi u,.int 1 v] }).objs.size,[(s.heap.push { cls:=.type "range",data:=.fields #[.int lo t,.int hi u,.int 1 v] }).objs.size],_,_,H,rfl,
  I1.kept (t':=tk) fun b o e=>qh _ e,J8l _ lo (hi - lo).toNat,?_,fun b hb=>?_,q⟩
 ·have e1:lo+((0:Nat):Int) * 1=lo:=by simp
  have e2:(((hi - lo).toNat:Nat):Int) - ((0:Nat):Int)=Builtin.Range.rangeSize lo hi 1:=by rw [rangeSize_one];split<;>omega
  show IsRangeIter _ _ (lo+((0:Nat):Int) * 1) ((((hi - lo).toNat:Nat):Int) - ((0:Nat):Int)) 1;rw [e1,e2];exact qi _ rfl
 ·have e:b=(s.heap.push { cls:=.type "range",data:=.fields #[.int lo t,.int hi u,.int 1 v] }).objs.size:=by simpa using hb
  subst e;exact I1.fpOk (zv _) (I1.hok.fresh (zv _))
def J84 (ta:TA):TI:=fun σ H R=>ta σ H fun vs H1=>∃ j:Int,vs=[.int j]/\-(2 ^ 62)<=j/\j<2 ^ 62/\R (Itr 0 j.toNat) H1
def Jfs (ta:TA):TI:=fun σ H R=>ta σ H fun vs H1=>∃ i j:Int,vs=[.int i,.int j]/\(-(2 ^ 62)<=i/\i<2 ^ 62/\-(2 ^ 62)<=j/\j<2 ^ 62)/\R (Itr i (j - i).toNat) H1
theorem J0l {a:Expr}{ta:TA}{p pos:Pos}(hg:Gl X "range")(hm:X.mg "range"=none)(ha:PA X [a] ta)(hs:starEach [a] X.env=[(false,eval a X.env)]:=by rfl):PI X tg (.Call (.Name "range" p) [a] [] pos) (J84 ta):=by
 intro pins s σ H R I h;refine Call_ (J1P I hg hm boot_range (PyProof.Rows.callWith_type1 (thn (ha pos pins s σ H _ I h) fun us s1 ⟨vs,H1,I1,r1,q1⟩=>?_) hs rfl));obtain ⟨j,e,q1,q2,q⟩:=q1;subst e;cases r1 with
 | cons r rr =>
   cases rr;obtain ⟨t,rfl⟩:=r;exact call_range_1 (JaY I1 (by omega) (by omega) q1 q2 (by simpa using q))
def J7q (wi:TI)(g:TG)(tb:TS):TS:=fun D σ H=>wi σ H fun J H1=>∃ W:Nat->Nat->St->Hp->Prop,(∃ m,W 0 m σ H1)/\∀ i m σ H,W i m σ H ->
 (J.stop i H/\D.nx σ H)\/(J.go i H/\∃ N:St->Hp->Prop,(∀ σ' H',N σ' H'->∃ m',m'<m/\W (i+1) m' σ' H')/\∀ x H',J.yld i H x H'->g x σ H' fun σ2 H2=>tb { D with nx:=N,ct:=N,bk:=D.nx } σ2 H2)
def J50 (fp:List Addr)(h:Heap):List (Addr×Obj):=fp.filterMap fun b=>(h.get? b).map fun o=>(b,o)
theorem J2k {fp:List Addr}{h:Heap}{b:Addr}{o:Obj}(hb:b∈fp)(e:h.get? b=some o):(b,o)∈J50 fp h:=mem_filterMap.mpr ⟨b,hb,by rw [e];rfl⟩
theorem Ja9 {fp:List Addr}{h:Heap}{p:Addr×Obj}(hp:p∈J50 fp h):p.1∈fp/\h.get? p.1=some p.2:=by
 obtain ⟨b,hb,e⟩:=mem_filterMap.mp hp;cases q:h.get? b with
 | none=>rw [q] at e;cases e
 | some o =>
   rw [q] at e;have e':(b,o)=p:=zA e;subst e';exact ⟨hb,q⟩
theorem Inv.pinned {pins:List (Addr×Obj)}{σ:St}{H:Hp}{s:Shared}{fp:List Addr}(I:Inv X pins σ H s)(hf:∀ b∈fp,J2N X pins H b)(ho:∀ b∈fp,∃ o,s.heap.get? b=some o/\∀ v,o.data≠.cell v):Inv X (pins++J50 fp s.heap) σ H s :=
 I.pins_of fun p hp=>(zZ.mp hp).elim (fun z=>I.pin p (z0 _ z)) fun z=>by
  obtain ⟨hb,e⟩:=Ja9 z;obtain ⟨f0,f1,f2,_⟩:=hf p.1 hb;obtain ⟨o,e',d⟩:=ho p.1 hb;rw [e] at e';cases e';exact ⟨e,f0,f1,f2,d⟩
theorem Inv.unpinned {pins pl:List (Addr×Obj)}{σ:St}{H:Hp}{s:Shared}(I:Inv X (pins++pl) σ H s):Inv X pins σ H s:=I.pins_of fun p hp=>I.pin p (z0 _ (z9 _ hp))
theorem J09 {iter:Expr}{body:List Stmt}{wi:TI}{g:TG}{tb:TS}{pos:Pos}(hp:PassesOwn (model X.prog X.w) X.A X.env X.xe)(hc:X.calm=true)(hi:PI X tg iter wi)(hg:PG X tg g)(hb:PSs X body tb)
 (hs:∀ x,foldedSetIterable iter X.env x=pure x:=by intro _;rfl):PS X (.For tg iter body [] pos) (J7q wi g tb):=by
 intro pins s σ H D I h;refine wpAny_For (thn (hi pins s σ H _ I h) fun v s1 h1=>thn h1 fun itv s2 h2=>?_) hs;obtain ⟨it,fp,tn,J,H2,e,I2,T,st2,f2,W,⟨m0,w0⟩,turn⟩:=h2;subst e;have stat:∀ {H':Hp},(∀ b∈fp,H' b=none)->∀ b∈fp,J2N X pins H' b:=fun hn b hb=>⟨hn b hb,(f2 b hb).2⟩;refine codeAny_forLoop_any (fun n s'=>∃ i σ' H',Inv X pins σ' H' s'/\tn i s'.heap/\(∀ b∈fp,H' b=none)/\W i n σ' H') ?_ m0 ⟨0,σ,H2,I2,st2,fun b hb=>(f2 b hb).1,w0⟩;rintro n s3 ⟨i,σ3,H3,I3,st3,fr3,w3⟩;rcases turn i n σ3 H3 w3 with ⟨stop,qn⟩ | ⟨go,N,hN,step⟩
 ·refine wpAny_passesOwn hp (thn (T.done X rfl rfl rfl hc i pins s3 σ3 H3 X.xe I3 (stat fr3) st3 stop) fun r s4 ⟨hr,I4⟩=>?_)
  subst hr;exact wpAny_execs_nil ⟨σ3,H3,I4,qn⟩
 ·refine wpAny_passesOwn hp (thn (T.item X rfl rfl rfl hc i pins s3 σ3 H3 X.xe I3 (stat fr3) st3 go) fun r s4 ⟨u,hr,h4⟩=>?_)
  subst hr;refine wpAny_passesOwn hp (thn h4 fun _ s5 ⟨x,H5,I5,r5,y5,st5,fr5⟩=>?_);have I5':=I5.pinned (stat fr5) (T.obj _ _ st5);refine wpAny_passesOwn hp (thn (hg _ s5 σ3 H5 x u _ I5' r5 (step x H5 y5)) fun _ s6 ⟨σ6,H6,I6,q6⟩=>?_);refine wpAny_passesOwn hp (thn (hb _ s6 σ6 H6 _ I6 q6) fun f s7 q7=>?_);have again:∀ {σ7:St} {H7:Hp},Inv X (pins++J50 fp s5.heap) σ7 H7 s7->N σ7 H7->∃ m,m<n/\∃ i σ' H',Inv X pins σ' H' s7/\tn i s7.heap/\(∀ b∈fp,H' b=none)/\W i m σ' H':=fun {σ7 H7} I7 n7=>by
   obtain ⟨m',hm,w7⟩:=hN σ7 H7 n7;refine ⟨m',hm,i+1,σ7,H7,I7.unpinned,T.keep _ _ _ st5 fun b hb o e=>(I7.pin (b,o) (z0 _ (z0 _ (J2k hb e)))).1,fun b hb=>?_,w7⟩;obtain ⟨o,e,d⟩:=T.obj _ _ st5 b hb;exact (I7.pin (b,o) (z0 _ (z0 _ (J2k hb e)))).2.1
  cases f with
  | next=>obtain ⟨σ7,H7,I7,n7⟩:=q7;exact again I7 n7
  | cont=>obtain ⟨σ7,H7,I7,n7⟩:=q7;exact again I7 n7
  | brk=>obtain ⟨σ7,H7,I7,q7⟩:=q7;exact ⟨σ7,H7,I7.unpinned,q7⟩
  | ret v=>obtain ⟨x7,σ7,H7,I7,r7,q7⟩:=q7;exact ⟨x7,σ7,H7,I7.unpinned,r7,q7⟩
end
abbrev R2:=V->V->Hp->VK->Prop
def OpR (X:Cx)(f:Value->Value->Sem Value)(r:R2):Prop :=
 ∀ (pins:List (Addr×Obj)) (s:Shared) (σ:St) (H:Hp) (x y:V) (v u:Value) (Q:VK),Inv X pins σ H s->RelV x v->RelV y u->r x y H Q ->
   wpAny (model X.prog X.w) X.A (f v u) (EP X pins σ Q) X.xe s
def UnR (X:Cx)(f:Value->Sem Value)(r:V->Hp->VK->Prop):Prop :=
 ∀ (pins:List (Addr×Obj)) (s:Shared) (σ:St) (H:Hp) (x:V) (v:Value) (Q:VK),Inv X pins σ H s->RelV x v->r x H Q ->
   wpAny (model X.prog X.w) X.A (f v) (EP X pins σ Q) X.xe s
def J03 (X:Cx)(f:Value)(r:List V->Hp->VK->Prop):Prop :=
 ∀ (pins:List (Addr×Obj)) (s:Shared) (σ:St) (H:Hp) (xs:List V) (us:List Value) (Q:VK),Inv X pins σ H s->Vals xs us->r xs H Q ->
   wpAny (model X.prog X.w) X.A (call f us) (EP X pins σ Q) X.xe s
def tOp (r:R2)(ta tb:TE):TE:=fun σ H Q=>ta σ H fun x H1=>tb σ H1 fun y H2=>r x y H2 Q
def tUn (r:V->Hp->VK->Prop)(ta:TE):TE:=fun σ H Q=>ta σ H fun x H1=>r x H1 Q
def rI (C:Int->Int->Prop)(g:Int->Int->V):R2:=fun x y H Q=>∃ i j,x=.int i/\y=.int j/\C i j/\Q (g i j) H
def rI0 (g:Int->Int->V):R2:=fun x y H Q=>∃ i j,x=.int i/\y=.int j/\Q (g i j) H
def rU (g:Int->V):V->Hp->VK->Prop:=fun x H Q=>∃ i,x=.int i/\Q (g i) H
section
variable {X:Cx}{a b c:Expr}{ta tb tc:TE}{pos:Pos}
theorem Jex (ha:PE X a ta)(hb:PE X b tb){pins:List (Addr×Obj)}{s:Shared}{σ:St}{H:Hp}{R:V->V->Hp->Prop}(I:Inv X pins σ H s)
 (h:ta σ H fun x H1=>tb σ H1 fun y H2=>R x y H2) {Q:Value->Shared->Prop} {f:Value->Value->Sem Value}
 (hf:∀ v u s2 x y H2,Inv X pins σ H2 s2->RelV x v->RelV y u->R x y H2->wpAny (model X.prog X.w) X.A (f v u) Q X.xe s2) :
 wpAny (model X.prog X.w) X.A (eval a X.env) (fun v s₁=>wpAny (model X.prog X.w) X.A (eval b X.env) (fun u s₂=>wpAny (model X.prog X.w) X.A (f v u) Q X.xe s₂) X.xe s₁) X.xe s:=by
 refine thn (ha pins s σ H _ I h) fun v s1 ⟨x,H1,I1,r1,q1⟩=>?_;refine thn (hb pins s1 σ H1 _ I1 q1) fun u s2 ⟨y,H2,I2,r2,q2⟩=>?_;exact hf v u s2 x y H2 I2 r1 r2 q2
theorem Jn {op:Operator}{r:R2}(ho:OpR X (binaryOp op) r)(ha:PE X a ta)(hb:PE X b tb):PE X (.BinOp a op b pos) (tOp r ta tb):=by
 intro pins s σ H Q I h;exact wpAny_BinOp (Jex ha hb I h fun v u s2 x y H2 I2 rx ry q=>ho pins s2 σ H2 x y v u Q I2 rx ry q)
theorem Jdu {op:UnaryOp}{r:V->Hp->VK->Prop}(ho:UnR X (unaryOp op) r)(ha:PE X a ta):PE X (.UnaryOp op a pos) (tUn r ta):=by
 intro pins s σ H Q I h;exact UnaryOp_ (thn (ha pins s σ H _ I h) fun v s1 ⟨x,H1,I1,r1,q1⟩=>ho pins s1 σ H1 x v Q I1 r1 q1)
theorem opI {f:Value->Value->Sem Value}{C:Int->Int->Prop}{g:Int->Int->Int}
 (rule:∀ (i j:Int) (t u:Tok) (s:Shared) (Q:Value->Shared->Prop) (E:Value->Shared->Prop),C i j->Q (.int (g i j) s.toks) { s with toks:=s.toks+1 }->wpAny (model X.prog X.w) X.A (f (.int i t) (.int j u)) Q E s) :
 OpR X f (rI C fun i j=>.int (g i j)):=by
 intro pins s σ H x y v u Q I rx ry h;obtain ⟨i,j,rfl,rfl,hc,q⟩:=h;obtain ⟨t,rfl⟩:=rx;obtain ⟨t',rfl⟩:=ry;exact rule i j t t' s _ _ hc ⟨.int (g i j),H,I.tok _,⟨_,rfl⟩,q⟩
theorem JeI {f:Value->Value->Sem Value}{g:Int->Int->Int}
 (rule:∀ (i j:Int) (t u:Tok) (s:Shared) (Q:Value->Shared->Prop) (E:Value->Shared->Prop),Q (.int (g i j) s.toks) { s with toks:=s.toks+1 }->wpAny (model X.prog X.w) X.A (f (.int i t) (.int j u)) Q E s) :
 OpR X f (rI0 fun i j=>.int (g i j)):=by
 intro pins s σ H x y v u Q I rx ry h;obtain ⟨i,j,rfl,rfl,q⟩:=h;obtain ⟨t,rfl⟩:=rx;obtain ⟨t',rfl⟩:=ry;exact rule i j t t' s _ _ ⟨.int (g i j),H,I.tok _,⟨_,rfl⟩,q⟩
theorem JcS {f:Value->Value->Sem Value}{g:Int->Int->Bool}
 (rule:∀ (i j:Int) (t u:Tok) (s:Shared) (Q:Value->Shared->Prop) (E:Value->Shared->Prop),Q (.bool (g i j)) s->wpAny (model X.prog X.w) X.A (f (.int i t) (.int j u)) Q E s) :
 OpR X f (rI0 fun i j=>.bl (g i j)):=by
 intro pins s σ H x y v u Q I rx ry h;obtain ⟨i,j,rfl,rfl,q⟩:=h;obtain ⟨t,rfl⟩:=rx;obtain ⟨t',rfl⟩:=ry;exact rule i j t t' s _ _ ⟨.bl (g i j),H,I,rfl,q⟩
def JeC (i j:Int):Prop:=0<j/\j<1073741824
def Jfl (i j:Int):Prop:=0<=j/\j<=1000000/\i.natAbs<2 ^ 64
def CMul (i j:Int):Prop:=(-(2 ^ 64)<i/\i<2 ^ 64)\/(-(2 ^ 64)<j/\j<2 ^ 64)
theorem CMul.ok {i j:Int}(h:CMul i j):IntMulOk i j:=by
 rcases h with ⟨h1,h2⟩ | ⟨h1,h2⟩
 ·exact .of_left (intBits_le_64 h1 h2)
 ·exact .of_right (intBits_le_64 h1 h2)
theorem J05:OpR X (binaryOp .Add) (rI0 fun i j=>.int (i+j)):=JeI fun _ _ _ _ _ _ _ q=>add_int q
theorem J3i:OpR X (binaryOp .Sub) (rI0 fun i j=>.int (i - j)):=JeI fun _ _ _ _ _ _ _ q=>sub_int q
theorem J2i:OpR X (binaryOp .Mult) (rI CMul fun i j=>.int (i * j)):=opI fun _ _ _ _ _ _ _ hc q=>mul_int q hc.ok
theorem JQ:OpR X (binaryOp .FloorDiv) (rI JeC fun i j=>.int (i / j)):=opI fun i j _ _ _ _ _ hc q=>by
 have h1:(0:Int)<j:=hc.1;have h2:j<1073741824:=hc.2;exact floordiv_int (by omega) (by rw [Int.fdiv_eq_ediv_of_nonneg i (by omega)];exact q) (.inl (PyProof.noPylong_small (by omega)))
theorem Jx:OpR X (binaryOp .Mod) (rI (fun _ j=>0<j) fun i j=>.int (i % j)):=opI fun i j _ _ _ _ _ hc q=>by
 have h1:(0:Int)<j:=hc;exact mod_int' (by omega) (by rw [Int.fmod_eq_emod_of_nonneg i (by omega)];exact q)
theorem J8Q:OpR X (binaryOp .Pow) (rI Jfl fun i j=>.int (i ^ j.toNat)):=opI fun _ _ _ _ _ _ _ hc q=>pow_int_small hc.1 hc.2.1 hc.2.2 q
theorem unI {f:Value->Sem Value}{g:Int->Int}
 (rule:∀ (i:Int) (t:Tok) (s:Shared) (Q:Value->Shared->Prop) (E:Value->Shared->Prop),Q (.int (g i) s.toks) { s with toks:=s.toks+1 }->wpAny (model X.prog X.w) X.A (f (.int i t)) Q E s) :
 UnR X f (rU fun i=>.int (g i)):=by
 intro pins s σ H x v Q I rx h;obtain ⟨i,rfl,q⟩:=h;obtain ⟨t,rfl⟩:=rx;exact rule i t s _ _ ⟨.int (g i),H,I.tok _,⟨_,rfl⟩,q⟩
theorem JaG:UnR X (unaryOp .USub) (rU fun i=>.int (-i)):=unI fun _ _ _ _ _ q=>neg_int q
end
def J7B:V->V->Bool
 | .non,.non=>true | .non,.int _=>true | .int _,.non=>true | .non,.bl _=>true | .bl _,.non=>true | .non,.str _=>true | .str _,.non=>true
 | .int _,.int _=>true | .bl _,.bl _=>true | .str _,.str _=>true | .byt _,.byt _=>true
 | .int _,.str _=>true | .str _,.int _=>true | .bl _,.str _=>true | .str _,.bl _=>true
 | _,_=>false
def rEq:R2:=fun x y H Q=>J7B x y=true/\Q (.bl (decide (x=y))) H
def rNe:R2:=fun x y H Q=>J7B x y=true/\Q (.bl (!decide (x=y))) H
theorem J78 {i j:Int}:decide (V.int i=V.int j)=(i == j):=by
 rw [Bool.eq_iff_iff];simp
theorem JbS {i j:Bool}:decide (V.bl i=V.bl j)=(i == j):=by
 rw [Bool.eq_iff_iff];simp
theorem J77 {i j:Str}:decide (V.str i=V.str j)=(i == j):=by
 rw [Bool.eq_iff_iff];simp
theorem J9K {i j:Array UInt8}:decide (V.byt i=V.byt j)=(i.toList == j.toList):=by
 rw [Bool.eq_iff_iff];cases i;cases j;simp
section
variable {X:Cx}{a b c:Expr}{ta tb tc:TE}{pos:Pos}
theorem Jz {pins:List (Addr×Obj)}{σ:St}{H:Hp}{s:Shared}{Q:VK}{k k':Bool}(I:Inv X pins σ H s)(q:Q (.bl k) H)(e:k=k'):EP X pins σ Q (.bool k') s:=by
 subst e;exact ⟨.bl k,H,I,rfl,q⟩
theorem JA:OpR X (compareOp .Eq) rEq:=by
 intro pins s σ H x y v u Q I rx ry h;obtain ⟨hs,q⟩:=h;cases x with
 | non =>
   cases rx;cases y with
   | non=>cases ry;exact PySem.EqNone.eq_none_none (Jz I q (by simp))
   | bl j=>cases ry;exact PySem.EqNone.eq_none_bool (Jz I q (by simp))
   | int j=>obtain ⟨t',rfl⟩:=ry;exact PySem.EqNone.eq_none_int (Jz I q (by simp))
   | str j=>obtain ⟨t',rfl⟩:=ry;exact PySem.EqNone.eq_none_str (Jz I q (by simp))
   | _=>exact absurd (show false=true from hs) zw
 | bl i =>
   cases rx;cases y with
   | non=>cases ry;exact PySem.EqNone.eq_bool_none (Jz I q (by simp))
   | bl j=>cases ry;exact eq_bool (Jz I q JbS)
   | str j=>obtain ⟨t',rfl⟩:=ry;exact PySem.EqMixed.eq_bool_str (Jz I q (by simp))
   | _=>exact absurd (show false=true from hs) zw
 | int i =>
   obtain ⟨t,rfl⟩:=rx;cases y with
   | non=>cases ry;exact PySem.EqNone.eq_int_none (Jz I q (by simp))
   | int j=>obtain ⟨t',rfl⟩:=ry;exact eq_int (Jz I q J78)
   | str j=>obtain ⟨t',rfl⟩:=ry;exact PySem.EqMixed.eq_int_str (Jz I q (by simp))
   | _=>exact absurd (show false=true from hs) zw
 | str i =>
   obtain ⟨t,rfl⟩:=rx;cases y with
   | non=>cases ry;exact PySem.EqNone.eq_str_none (Jz I q (by simp))
   | bl j=>cases ry;exact PySem.EqMixed.eq_str_bool (Jz I q (by simp))
   | int j=>obtain ⟨t',rfl⟩:=ry;exact PySem.EqMixed.eq_str_int (Jz I q (by simp))
   | str j=>obtain ⟨t',rfl⟩:=ry;exact eq_str (Jz I q J77)
   | _=>exact absurd (show false=true from hs) zw
 | byt i =>
   obtain ⟨t,rfl⟩:=rx;cases y with
   | byt j=>obtain ⟨t',rfl⟩:=ry;exact PySem.W.eq_bytes (Jz I q J9K)
   | _=>exact absurd (show false=true from hs) zw
 | _=>cases y<;>exact absurd (show false=true from hs) zw
theorem J7S:OpR X (compareOp .NotEq) rNe:=by
 intro pins s σ H x y v u Q I rx ry h;obtain ⟨hs,q⟩:=h;cases x with
 | non =>
   cases rx;cases y with
   | non=>cases ry;exact PySem.EqNone.ne_none_none (Jz I q (by simp))
   | bl j=>cases ry;exact PySem.EqNone.ne_none_bool (Jz I q (by simp))
   | int j=>obtain ⟨t',rfl⟩:=ry;exact PySem.EqNone.ne_none_int (Jz I q (by simp))
   | str j=>obtain ⟨t',rfl⟩:=ry;exact PySem.EqNone.ne_none_str (Jz I q (by simp))
   | _=>exact absurd (show false=true from hs) zw
 | bl i =>
   cases rx;cases y with
   | non=>cases ry;exact PySem.EqNone.ne_bool_none (Jz I q (by simp))
   | bl j=>cases ry;exact ne_bool (Jz I q (congrArg not JbS))
   | str j=>obtain ⟨t',rfl⟩:=ry;exact PySem.EqMixed.ne_bool_str (Jz I q (by simp))
   | _=>exact absurd (show false=true from hs) zw
 | int i =>
   obtain ⟨t,rfl⟩:=rx;cases y with
   | non=>cases ry;exact PySem.EqNone.ne_int_none (Jz I q (by simp))
   | int j=>obtain ⟨t',rfl⟩:=ry;exact ne_int (Jz I q (congrArg not J78))
   | str j=>obtain ⟨t',rfl⟩:=ry;exact PySem.EqMixed.ne_int_str (Jz I q (by simp))
   | _=>exact absurd (show false=true from hs) zw
 | str i =>
   obtain ⟨t,rfl⟩:=rx;cases y with
   | non=>cases ry;exact PySem.EqNone.ne_str_none (Jz I q (by simp))
   | bl j=>cases ry;exact PySem.EqMixed.ne_str_bool (Jz I q (by simp))
   | int j=>obtain ⟨t',rfl⟩:=ry;exact PySem.EqMixed.ne_str_int (Jz I q (by simp))
   | str j=>obtain ⟨t',rfl⟩:=ry;exact ne_str (Jz I q (congrArg not J77))
   | _=>exact absurd (show false=true from hs) zw
 | byt i =>
   obtain ⟨t,rfl⟩:=rx;cases y with
   | byt j=>obtain ⟨t',rfl⟩:=ry;exact PySem.W.ne_bytes (Jz I q (congrArg not J9K))
   | _=>exact absurd (show false=true from hs) zw
 | _=>cases y<;>exact absurd (show false=true from hs) zw
theorem J54:OpR X (compareOp .Lt) (rI0 fun i j=>.bl (decide (i<j))):=JcS fun _ _ _ _ _ _ _ q=>lt_int q
theorem J55:OpR X (compareOp .LtE) (rI0 fun i j=>.bl (decide (i<=j))):=JcS fun _ _ _ _ _ _ _ q=>le_int q
theorem J5Q:OpR X (compareOp .Gt) (rI0 fun i j=>.bl (decide (j<i))):=JcS fun _ _ _ _ _ _ _ q=>gt_int q
theorem JeH:OpR X (compareOp .GtE) (rI0 fun i j=>.bl (decide (j<=i))):=JcS fun _ _ _ _ _ _ _ q=>ge_int q
theorem Ja6:OpR X (compareOp .Lt) (fun x y H Q=>∃ i j,x=.str i/\y=.str j/\Q (.bl (decide (i.cps.toList<j.cps.toList))) H):=by
 intro pins s σ H x y v u Q I rx ry h;obtain ⟨i,j,rfl,rfl,q⟩:=h;obtain ⟨t,rfl⟩:=rx;obtain ⟨t',rfl⟩:=ry;exact lt_str (Jz I q rfl)
theorem Ja7:OpR X (compareOp .In) (fun x y H Q=>∃ i j,x=.str i/\y=.str j/\Q (.bl (!(Builtin.Str.occurrences j i 0 j.length 1).isEmpty)) H):=by
 intro pins s σ H x y v u Q I rx ry h;obtain ⟨i,j,rfl,rfl,q⟩:=h;obtain ⟨t,rfl⟩:=rx;obtain ⟨t',rfl⟩:=ry;exact in_str (Jz I q rfl)
theorem J2E:OpR X (compareOp .Is) (fun x y H Q=>y=.non/\Q (.bl (decide (x=.non))) H):=by
 intro pins s σ H x y v u Q I rx ry h;obtain ⟨rfl,q⟩:=h;cases ry;refine is_none_gen (Jz I q ?_);cases x<;>first
  | (cases rx;rfl)
  | (obtain ⟨t,rfl⟩:=rx;rfl)
theorem J6K:OpR X (compareOp .IsNot) (fun x y H Q=>y=.non/\Q (.bl (!decide (x=.non))) H):=by
 intro pins s σ H x y v u Q I rx ry h;obtain ⟨rfl,q⟩:=h;cases ry;refine isnot_none_gen (Jz I q ?_);cases x<;>first
  | (cases rx;rfl)
  | (obtain ⟨t,rfl⟩:=rx;rfl)
theorem Jm (b:Expr){op:CmpOp}(h:op≠.In:=by decide)(h2:op≠.NotIn:=by decide):behindInMarks op b=false:=by
 have e1:(op == CmpOp.In)=false:=by cases op<;>first | rfl | exact absurd rfl h
 have e2:(op == CmpOp.NotIn)=false:=by cases op<;>first | rfl | exact absurd rfl h2
 cases b<;>simp [behindInMarks,e1,e2]
theorem JI {op:CmpOp}{r:R2}(ho:OpR X (compareOp op) r)(ha:PE X a ta)(hb:PE X b tb)(hm:behindInMarks op b=false):PE X (.Compare a [op] [b] pos) (tOp r ta tb):=by
 intro pins s σ H Q I h;exact wpAny_Compare1 (Jex ha hb I h fun v u s2 x y H2 I2 rx ry q=>ho pins s2 σ H2 x y v u Q I2 rx ry q) hm
def J7n (t:TE):TT:=fun σ H Q=>t σ H fun x H'=>∃ k,x=.bl k/\Q k H'
theorem Jk {op:CmpOp}{r:R2}(ho:OpR X (compareOp op) r)(ha:PE X a ta)(hb:PE X b tb)(hm:behindInMarks op b=false):PT X (.Compare a [op] [b] pos) (J7n (tOp r ta tb)):=by
 intro pins s σ H Q I h;refine wpAny_isTrue_Compare1 (thn (ha pins s σ H _ I h) fun v s1 ⟨x,H1,I1,r1,q1⟩=>thn (hb pins s1 σ H1 _ I1 q1) fun u s2 ⟨y,H2,I2,r2,q2⟩ =>
  thn (ho pins s2 σ H2 x y v u _ I2 r1 r2 q2) fun c s3 ⟨z,H3,I3,r3,k,e,q3⟩=>?_) hm
 subst e;cases r3;exact wpAny_truthy_bool ⟨H3,I3,q3⟩
def J4L (r r':R2)(ta tb tc:TE):TE:=fun σ H Q=>ta σ H fun x H1=>tb σ H1 fun y H2=>r x y H2 fun z H3=>∃ k,z=.bl k /\
 (if k=true then tc σ H3 fun w' H4=>r' y w' H4 Q else Q (.bl false) H3)
theorem Jbe {op op':CmpOp}{r r':R2}(ho:OpR X (compareOp op) r)(ho':OpR X (compareOp op') r')(ha:PE X a ta)(hb:PE X b tb)(hc:PE X c tc)
 (hm:lastMarks [op,op'] [b,c]=false:=by with_unfolding_all rfl):PE X (.Compare a [op,op'] [b,c] pos) (J4L r r' ta tb tc):=by
 intro pins s σ H Q I h;refine Compare_chain (thn (ha pins s σ H _ I h) fun v s1 ⟨x,H1,I1,r1,q1⟩=>chain_link (thn (hb pins s1 σ H1 _ I1 q1) fun u s2 ⟨y,H2,I2,r2,q2⟩ =>
  thn (ho pins s2 σ H2 x y v u _ I2 r1 r2 q2) fun d s3 ⟨z,H3,I3,r3,k,e,q3⟩=>?_)) hm
 subst e;cases r3;refine wpAny_truthy_bool ?_;cases k with
 | false=>exact ite_ff ⟨.bl false,H3,I3,rfl,q3⟩
 | true=>exact ite_tt (chain_last (thn (hc pins s3 σ H3 _ I3 q3) fun w' s4 ⟨z',H4,I4,r4,q4⟩=>ho' pins s4 σ H4 y z' u w' Q I4 r2 r4 q4))
theorem J7M {op op':CmpOp}{r r':R2}(ho:OpR X (compareOp op) r)(ho':OpR X (compareOp op') r')(ha:PE X a ta)(hb:PE X b tb)(hc:PE X c tc)
 (hm:lastMarks [op,op'] [b,c]=false:=by with_unfolding_all rfl):PT X (.Compare a [op,op'] [b,c] pos) (J7n (J4L r r' ta tb tc)):=by
 intro pins s σ H Q I h;refine isTrue_chain (thn (ha pins s σ H _ I h) fun v s1 ⟨x,H1,I1,r1,q1⟩=>test_link (thn (hb pins s1 σ H1 _ I1 q1) fun u s2 ⟨y,H2,I2,r2,q2⟩ =>
  thn (ho pins s2 σ H2 x y v u _ I2 r1 r2 q2) fun d s3 ⟨z,H3,I3,r3,k,e,q3⟩=>?_)) hm
 subst e;cases r3;refine wpAny_truthy_bool ?_;cases k with
 | false =>
   obtain ⟨k',e',q'⟩:=q3;cases e';exact ite_ff ⟨H3,I3,q'⟩
 | true =>
   refine ite_tt (test_last (thn (hc pins s3 σ H3 _ I3 q3) fun w' s4 ⟨z',H4,I4,r4,q4⟩=>thn (ho' pins s4 σ H4 y z' u w' _ I4 r2 r4 q4) fun d' s5 ⟨z2,H5,I5,r5,k2,e2,q5⟩=>?_));subst e2;cases r5;exact wpAny_truthy_bool ⟨H5,I5,q5⟩
theorem J5d:(sizeLine:Nat)<2 ^ 63:=by rw [sizeLine_eq];decide
theorem J3j:OpR X (binaryOp .Add) (fun x y H Q=>∃ i j,x=.str i/\y=.str j/\i.length+j.length<=sizeLine/\Q (.str (i++j)) H):=by
 intro pins s σ H x y v u Q I rx ry h;obtain ⟨i,j,rfl,rfl,hz,q⟩:=h;obtain ⟨t,rfl⟩:=rx;obtain ⟨t',rfl⟩:=ry;exact add_str (fun t' tk=>⟨.str (i++j),H,I.tok _,⟨_,rfl⟩,q⟩) hz
theorem J0w {x:V}{us:List Value}(r:Vals [x] us):∃ u,us=[u]/\RelV x u:=by
 cases r with
 | cons r1 r2=>cases r2;exact ⟨_,rfl,r1⟩
theorem JaE {x y:V}{us:List Value}(r:Vals [x,y] us):∃ u w',us=[u,w']/\RelV x u/\RelV y w':=by
 cases r with
 | cons r1 r2 =>
   cases r2 with
   | cons r3 r4=>cases r4;exact ⟨_,_,rfl,r1,r3⟩
theorem Jc5:J03 X (.builtin "abs") (fun xs H Q=>∃ i,xs=[.int i]/\Q (.int (if i<0 then -i else i)) H):=by
 intro pins s σ H xs us Q I r h;obtain ⟨i,rfl,q⟩:=h;obtain ⟨u,rfl,t,rfl⟩:=J0w r;exact call_abs_int fun u tk=>⟨.int (if i<0 then -i else i),H,I.tok _,⟨_,rfl⟩,q⟩
theorem Jax:J03 X (.type "int") (fun xs H Q=>(∃ i,xs=[.int i]/\Q (.int i) H)\/∃ k,xs=[.bl k]/\Q (.int (if k then 1 else 0)) H):=by
 intro pins s σ H xs us Q I r h;rcases h with ⟨i,rfl,q⟩ | ⟨k,rfl,q⟩
 ·obtain ⟨u,rfl,t,rfl⟩:=J0w r
  exact call_int_int ⟨.int i,H,I,⟨_,rfl⟩,q⟩
 ·obtain ⟨u,rfl,r1⟩:=J0w r
  cases r1;exact call_int_bool ⟨.int (if k then 1 else 0),H,I.tok _,⟨_,rfl⟩,q⟩
def Jfk (K:PySem.W.Frag)(x:V)(H:Hp)(n:Nat):Prop :=
 match x with
 | .str y=>y.length<=sizeLine/\n=y.length
 | .byt y=>y.size<=sizeLine/\n=y.size
 | .ref p=>(∃ xs,SqL K H p xs/\n=xs.length)\/∃ xs,SqT K H p xs/\n=xs.length
 | _=>False
end
structure ObjM (h:Heap)(x dx C:Addr)(mA:Str->Option Value):Prop where
 obj:h.get? x=some (PySem.W.instObj C dx)
 ns:h.Ns1 dx mA
 ne:dx≠x
theorem Jad {h:Heap}{dx:Addr}{mA:Str->Option Value}(n:h.Ns1 dx mA):∃ od,h.get? dx=some od/\∀ name,PySem.W.lookIn name od=some (mA name):=by
 obtain ⟨o,es,ep,ho,hd,hk,_,hm⟩:=n;refine ⟨o,ho,fun name=>?_⟩;have e:=hm name;unfold nsFind findBy at e;rw [<- Array.find?_toList] at e;unfold PySem.W.lookIn;rw [hd];dsimp only
 split
 ·rename_i y q
  rw [q] at e;exact congrArg some e
 ·rename_i q
  rw [q] at e;have a:es.toList.any (·.refKey)=false:=by
   rw [any_eq_false];intro y hy;obtain ⟨z,t,hkey⟩:=hk y (Array.mem_toList_iff.mp hy);simp [DictEntry.refKey,hkey]
  have a':¬ es.toList.any (·.refKey)=true:=by rw [a];exact zw
  rw [zt a'];exact congrArg some e
theorem ObjM.look {h:Heap}{x dx C:Addr}{mA:Str->Option Value}(I:ObjM h x dx C mA):∃ od,PySem.W.InstAt h x (PySem.W.instObj C dx) C (some od)/\∀ name,PySem.W.lookIn name od=some (mA name) :=
 let ⟨od,ho,hl⟩:=Jad I.ns
 ⟨od,⟨I.obj,rfl,rfl,ho⟩,hl⟩
section
variable {prog:Program}{w:World}{A:Around}{E:Value->Shared->Prop}{s:Shared}{K:PySem.W.Frag}{x dx C f:Addr}{mA:Str->Option Value}{name:Str}{v:Value}
theorem Jd9 {expr:Bool}{Q:Value->Shared->Prop}(X:K.In s.heap)(I:ObjM s.heap x dx C mA)(hg:PySem.W.plainGet K C name=true)(hh:PySem.W.hasDictIn K C=true)
 (ha:PySem.W.findIn K (.ref C) name=some none) (hv:mA name=some v) (hv':PySem.W.handedIn v=true) (h:Q v { s with toks:=s.toks+1 }) :
 wpAny (model prog w) A (getAttr (.ref x) name expr) Q E s:=by
 obtain ⟨od,J,hl⟩:=I.look;exact PySem.W.get_value X J (PySem.W.plainGet_of hg).1 (PySem.W.findObj_own hh ha rfl (by rw [hl,hv])) hv' h
theorem JbH {pl:Sem Bool}{Q:Value×List Value->Shared->Prop}(X:K.In s.heap)(I:ObjM s.heap x dx C mA)(hg:PySem.W.plainGet K C name=true)
 (hf:PySem.W.findIn K (.ref C) name=some (some (.ref f))) (ht:PySem.W.isFn K (.ref f)=true) (hv:mA name=none) (h:Q (.ref f,[.ref x]) s) :
 wpAny (model prog w) A (getMethod (.ref x) name pl) Q E s:=by
 obtain ⟨od,J,hl⟩:=I.look;exact PySem.W.method_fn X J (PySem.W.plainGet_of hg).1 (PySem.W.plainGet_of hg).2 hf (beq_iff_eq.mp ht) (by show (PySem.W.lookIn name od).map (·.isSome)=some false;rw [hl,hv];rfl) h
theorem Jcw {ns:List Str}{Q:Unit->Shared->Prop}(X:K.In s.heap)(I:ObjM s.heap x dx C mA)
 (hs:PySem.W.findIn K (.ref C) "__setattr__"=some (some (.builtin "object.__setattr__"))) (hp:PySem.W.plainOver K C=true) (ht:PySem.W.takerIn K C name=some none) (hh:PySem.W.hasDictIn K C=true)
 (hw:PySem.Within mA ns) (hsz:ns.length<=sizeLine)
 (h:∀ h',ObjM h' x dx C (fun y=>if y=name then some v else mA y)->Heap.SameBut dx s.heap h'->Q () { s with heap:=h',toks:=s.toks+2 }) :
 wpAny (model prog w) A (setAttr (.ref x) name v) Q E s:=by
 obtain ⟨od,J,hl⟩:=I.look;refine PySem.W.set_plain X J hs (PySem.W.osa_open (s:={ s with toks:=s.toks+1 }) (r:=none) X J hp ht fun b=>?_);obtain ⟨cd,hc,hd'⟩:=PySem.W.any_some hh;have hx:s.heap.get? x=some ⟨.ref C,some dx,.plain,#[]⟩:=I.obj;refine zq (zr (zq (zq (wpAny_loadPart hx (zq (PySem.W.Looks.here (s:={ s with toks:=s.toks+1 }) (PySem.W.looks_clsIn X hc) ?_))))));rw [hd'];refine zr (a:=some dx) (zq (zr (zq ?_)));refine wpAny_nsSet1 (s:={ s with toks:=s.toks+1 }) I.ns fun h' hn2 hs2=>?_;obtain ⟨oD,esD,epD,hoD,hdD,hcD⟩:=hn2.count (PySem.Within.cons name v hw);refine zq (wpAny_lookBehind hoD (by rw [hdD];exact pastItsLine_dict (zG hcD (by rw [length_cons];omega))) ?_);exact zr (h _ ⟨(hs2.2 _ (Ne.symm I.ne)).trans I.obj,hn2,I.ne⟩ hs2)
theorem Jbs {R:Result->Shared->Prop}{vs:List Value}{kw:List (Str×Value)}(X:K.In s.heap)(hm:PySem.W.makesIn K C=true)
 (hi:PySem.W.findIn K (.ref C) "__init__"=some (some (.ref f))) (hf:PySem.W.typeIn K (.ref f)=some (.type "function"))
 (h:codeAny (model prog w) (A.under (.builtin "type.__call__" ⟨.ref C::vs,kw⟩)) (.call (.ref f) ⟨.ref (s.heap.objs.size+1)::vs,kw⟩) (PySem.W.InitBack (s.heap.objs.size+1) R)
  { s with heap:=(s.heap.push PySem.W.emptyDict).push (PySem.W.instObj C s.heap.objs.size) }) :
 codeAny (model prog w) A (.call (.ref C) ⟨vs,kw⟩) R s:=by
 obtain ⟨hh,g,d,t,os⟩:=s;exact PySem.W.make_core (PySem.W.makes_of X hm) (PySem.W.looks_findIn X hi) (fun self=>PySem.W.bind_fn X self hf) (.inl rfl) h
end
def J0R (f:Str)(v:V):List (Str×V)->List (Str×V)
 | []=>[(f,v)]
 | (g,x)::r=>if g=f then (g,v)::r else (g,x)::J0R f v r
theorem lookup_putF (f g:Str)(v:V):∀ fs:List (Str×V),(J0R f v fs).lookup g=if g=f then some v else fs.lookup g
 | []=>by
   show List.lookup g [(f,v)]=_;by_cases h:g=f
   ·have hb:(g == f)=true:=beq_iff_eq.mpr h
    simp only [List.lookup,hb,zu h]
   ·have hb:(g == f)=false:=beq_eq_false_iff_ne.mpr h
    simp only [List.lookup,hb,zt h]
 | (k,x)::r=>by
   have ih:=lookup_putF f g v r;rw [show J0R f v ((k,x)::r)=(if k=f then (k,v)::r else (k,x)::J0R f v r) from rfl];by_cases hk:k=f
   ·rw [zu hk]
    by_cases h:g=k
    ·have hb:(g == k)=true:=beq_iff_eq.mpr h
     simp only [List.lookup,hb,zu (h.trans hk)]
    ·have hb:(g == k)=false:=beq_eq_false_iff_ne.mpr h
     simp only [List.lookup,hb,zt (fun e:g=f=>h (e.trans hk.symm))]
   ·rw [zt hk]
    by_cases h:g=k
    ·have hb:(g == k)=true:=beq_iff_eq.mpr h
     simp only [List.lookup,hb,zt (fun e:g=f=>hk (h.symm.trans e))]
    ·have hb:(g == k)=false:=beq_eq_false_iff_ne.mpr h
     simp only [List.lookup,hb];exact ih
theorem keys_putF (f:Str)(v:V):∀ fs:List (Str×V),f∈(J0R f v fs).map (·.1)/\∀ g,g∈fs.map (·.1)->g∈(J0R f v fs).map (·.1)
 | []=>⟨by simp [J0R],fun g h=>by simp at h⟩
 | (k,x)::r=>by
   obtain ⟨i1,i2⟩:=keys_putF f v r;rw [show J0R f v ((k,x)::r)=(if k=f then (k,v)::r else (k,x)::J0R f v r) from rfl];by_cases hk:k=f
   ·rw [zu hk]
    subst hk;exact ⟨by simp,fun g h=>by simpa using h⟩
   ·rw [zt hk]
    refine ⟨?_,fun g h=>?_⟩
    ·rw [zV]
     exact zS _ i1
    ·rw [zV] at h ⊢
     rcases zU.mp h with e | e
     ·exact zU.mpr (.inl e)
     ·exact zS _ (i2 g e)
theorem J4c (f:Str)(v:V):∀ fs:List (Str×V),(J0R f v fs).length<=fs.length+1
 | []=>by simp [J0R]
 | (k,x)::r=>by
   have ih:=J4c f v r;rw [show J0R f v ((k,x)::r)=(if k=f then (k,v)::r else (k,x)::J0R f v r) from rfl];by_cases hk:k=f
   ·rw [zu hk,length_cons,length_cons];omega
   ·rw [zt hk,length_cons,length_cons];omega
theorem RelO.some_of {v:V}{o:Option Value}(r:RelO (some v) o):∃ u,o=some u/\RelV v u:=by
 cases o with
 | none=>exact (show False from r).elim
 | some u=>exact ⟨u,rfl,r⟩
theorem RelO.none_of {o:Option Value}(r:RelO none o):o=none:=by
 cases o with
 | none=>rfl
 | some u=>exact (show False from r).elim
theorem Jam {v:V}{u:Value}(r:RelV v u):PySem.W.handedIn u=true:=by
 cases v with
 | non=>cases (show u=Value.none from r);rfl
 | bl b=>cases (show u=Value.bool b from r);rfl
 | int i=>obtain ⟨t,e⟩:=(show ∃ t,u=Value.int i t from r);cases e;rfl
 | str x=>obtain ⟨t,e⟩:=(show ∃ t,u=Value.str x t from r);cases e;rfl
 | byt b=>obtain ⟨t,e⟩:=(show ∃ t,u=Value.bytes b t from r);cases e;rfl
 | flt b=>obtain ⟨t,e⟩:=(show ∃ t,u=Value.float b t from r);cases e;rfl
 | ref a=>cases (show u=Value.ref a from r);rfl
 | ty n=>cases (show u=Value.type n from r);rfl
section
variable {P:Program}{w:World}{H H':Hp}{h h':Heap}{a C dx:Addr}{fs fs':List (Str×V)}
theorem J4D (hok:HOk P w H h)(e:H a=some (.ins C dx fs)):∃ mA,ObjM h a dx C mA/\(∀ f,RelO (fs.lookup f) (mA f))/\PySem.Within mA (fs.map (·.1))/\fs.length<=1000/\H dx=some (.own a):=by
 obtain ⟨d,z,ne,ob,mA,n,r,q⟩:=(show ObjOk P w H h a (.ins C dx fs) from hok a _ e);exact ⟨mA,⟨ob,n,ne⟩,r,q,z,d⟩
end
structure Cls (K:PySem.W.Frag)(C:Addr):Prop where
 pg:PySem.W.plainGet K C Str.empty=true
 hd:PySem.W.hasDictIn K C=true
 po:PySem.W.plainOver K C=true
 sa:PySem.W.findIn K (.ref C) "__setattr__"=some (some (.builtin "object.__setattr__"))
theorem Cls.get {K:PySem.W.Frag}{C:Addr}(c:Cls K C)(f:Str):PySem.W.plainGet K C f=true:=c.pg
def NoAttr (K:PySem.W.Frag)(C:Addr)(f:Str):Prop:=PySem.W.findIn K (.ref C) f=some none
theorem NoAttr.taker {K:PySem.W.Frag}{C:Addr}{f:Str}(n:NoAttr K C f):PySem.W.takerIn K C f=some none:=by
 unfold PySem.W.takerIn;rw [show PySem.W.findIn K (.ref C) f=some none from n];rfl
structure Meth (K:PySem.W.Frag)(C:Addr)(m:Str)(f:Addr):Prop where
 at_:PySem.W.findIn K (.ref C) m=some (some (.ref f))
 fn:PySem.W.isFn K (.ref f)=true
 kp:PySem.W.keepIn K (.ref f)=true
section
variable {X:Cx}{pins:List (Addr×Obj)}{σ:St}{H:Hp}{s:Shared}{a C dx:Addr}{fs:List (Str×V)}{f:Str}{v:V}{A:Around}{E:Value->Shared->Prop}
theorem J9a {b:Bool}{Q:Value->Shared->Prop}(I:Inv X pins σ H s)(e:H a=some (.ins C dx fs))(c:Cls X.K C)(n:NoAttr X.K C f)(l:fs.lookup f=some v)
 (h:∀ u s',Inv X pins σ H s'->RelV v u->Q u s'):wpAny (model X.prog X.w) A (getAttr (.ref a) f b) Q E s:=by
 obtain ⟨mA,O,r,_,_,_⟩:=J4D I.hok e;obtain ⟨u,hu,ru⟩:=RelO.some_of (v:=v) (o:=mA f) (by rw [<- l];exact r f);exact Jd9 I.kIn O (c.get f) c.hd n hu (Jam ru) (h u _ (I.tok _) ru)
theorem J5l {m:Str}{g:Addr}{pl:Sem Bool}{Q:Value×List Value->Shared->Prop}(I:Inv X pins σ H s)(e:H a=some (.ins C dx fs))(c:Cls X.K C)(k:Meth X.K C m g)(l:fs.lookup m=none)
 (h:Q (.ref g,[.ref a]) s):wpAny (model X.prog X.w) A (getMethod (.ref a) m pl) Q E s:=by
 obtain ⟨mA,O,r,_,_,_⟩:=J4D I.hok e;have hn:mA m=none:=RelO.none_of (by rw [<- l];exact r m);exact JbH I.kIn O (c.get m) k.at_ k.fn hn h
theorem J8z {y:V}{u:Value}{Q:Unit->Shared->Prop}(I:Inv X pins σ H s)(e:H a=some (.ins C dx fs))(c:Cls X.K C)(n:NoAttr X.K C f)(hl:fs.length<1000)(ry:RelV y u)
 (h:∀ s',Inv X pins σ (upd H a (.ins C dx (J0R f y fs))) s'->Q () s'):wpAny (model X.prog X.w) A (setAttr (.ref a) f u) Q E s:=by
 obtain ⟨mA,O,r,wi,_,ho⟩:=J4D I.hok e;have hz:(fs.map (·.1)).length<=sizeLine:=by rw [zL,sizeLine_eq];omega
 refine Jcw I.kIn O c.sa c.po n.taker c.hd wi hz fun h' O' sb=>h _ ?_;have hd:∃ o,h'.get? dx=some o:=let ⟨o,_,_,e',_⟩:=O'.ns;⟨o,e'⟩;refine I.write (x:=a) (e:=dx) (by rw [e];exact True.intro) (.inr ho) (fun b q hb z=>(sb.2 b hb).trans z) hd ?_;refine ⟨by rw [Jh O.ne];exact ho,?_,O.ne,O'.obj,_,O'.ns,fun g=>?_,fun g hg=>?_⟩
 ·have:=J4c f y fs;omega
 ·show RelO ((J0R f y fs).lookup g) (if g=f then some u else mA g)
  rw [lookup_putF];by_cases q:g=f
  ·rw [zu q,zu q];exact ry
  ·rw [zt q,zt q];exact r g
 ·by_cases q:g=f
  ·rw [q];exact (keys_putF f y fs).1
  ·refine (keys_putF f y fs).2 g (wi g fun z=>hg ?_)
   show (if g=f then some u else mA g)=none;rw [zt q];exact z
theorem Inv.made (I:Inv X pins σ H s):Inv X pins σ (upd (upd H s.heap.objs.size (.own (s.heap.objs.size+1))) (s.heap.objs.size+1) (.ins C s.heap.objs.size []))
 { s with heap:=(s.heap.push PySem.W.emptyDict).push (PySem.W.instObj C s.heap.objs.size) }:=by
 have e1:(s.heap.push PySem.W.emptyDict).get? s.heap.objs.size=some PySem.W.emptyDict:=qi s.heap rfl;have e2:((s.heap.push PySem.W.emptyDict).push (PySem.W.instObj C s.heap.objs.size)).get? (s.heap.objs.size+1)=some (PySem.W.instObj C s.heap.objs.size):=by
  have:=qi (s.heap.push PySem.W.emptyDict) (o:=PySem.W.instObj C s.heap.objs.size) rfl;rwa [Heap.size_push] at this
 have e3:(s.heap.push PySem.W.emptyDict).Ns s.heap.objs.size (fun _=>none):=⟨PySem.W.emptyDict,#[],_,e1,rfl,(fun e he=>absurd he (by simp)),fun _=>rfl⟩;have I1:=I.laid (a:=s.heap.objs.size) (o:=.own (s.heap.objs.size+1)) (h':=s.heap.push PySem.W.emptyDict) (t':=s.toks) (fun b u q=>qh _ q) (zv _) ⟨_,e1⟩;refine I1.laid (a:=s.heap.objs.size+1) (o:=.ins C s.heap.objs.size []) (t':=s.toks) (fun b u q=>qh _ q) (Nat.le_of_eq (Heap.size_push _ _)) ?_;have ne:s.heap.objs.size≠s.heap.objs.size+1:=zB (Nat.lt_succ_self _);refine ⟨by rw [Jh ne,Jd],zF _,ne,e2,fun _=>none,(Heap.Ns1.of_empty e3).at fun o q=>qh _ q,fun _=>True.intro,fun y hy=>absurd rfl hy⟩
theorem Jdi {prog:Program}{w:World}{env:Env}{e:Expr}{f:Str}{pos:Pos}{s:Shared}{Q:Value->Shared->Prop}(hb:attributeBase e f env (eval e env)=eval e env)
 (h:wpAny (model prog w) A (eval e env) (fun o s₁=>wpAny (model prog w) A (getAttr o f true) Q E s₁) E s):wpAny (model prog w) A (eval (.Attribute e f pos) env) Q E s :=
 Attribute_any_ h (by rw [arm_eval_Attribute,hb])
end
def JaK (K:PySem.W.Frag)(ta:TE)(f:Str):TE:=fun σ H Q=>ta σ H fun x H1=>∃ a C dx fs v,x=.ref a/\H1 a=some (.ins C dx fs)/\Cls K C/\NoAttr K C f/\fs.lookup f=some v/\Q v H1
def Jcy (K:PySem.W.Frag)(ta tv:TE)(f:Str):TS:=fun D σ H=>tv σ H fun y H1=>ta σ H1 fun x H2=>∃ a C dx fs,x=.ref a/\H2 a=some (.ins C dx fs)/\Cls K C/\NoAttr K C f/\fs.length<1000 /\
 D.nx σ (upd H2 a (.ins C dx (J0R f y fs)))
section
variable {X:Cx}{o e value:Expr}{f:Str}{pos pos' tpos:Pos}{ta tv:TE}
theorem J0C (he:PE X e ta)(hb:attributeBase e f X.env (eval e X.env)=eval e X.env):PE X (.Attribute e f pos) (JaK X.K ta f):=by
 intro pins s σ H Q I h;refine Jdi hb (thn (he pins s σ H _ I h) fun u s1 ⟨x,H1,I1,rx,a,C,dx,fs,v,ex,ea,c,n,l,q⟩=>?_);subst ex;obtain rfl:u=Value.ref a:=rx;exact J9a I1 ea c n l fun u' s2 I2 ru=>⟨v,H1,I2,ru,q⟩
theorem J2D (ha:PE X o ta)(hv:PE X value tv)(hs:swapsWith value (some (.Attribute o f pos')) pos.line X.env=pure false):PS X (.Assign [.Attribute o f pos'] value pos) (Jcy X.K ta tv f):=by
 intro pins s σ H D I h;refine plainObj_wpAny_Assign_Attribute (thn (hv pins s σ H _ I h) fun u s1 ⟨y,H1,I1,ry,q⟩=>thn (ha pins s1 σ H1 _ I1 q) fun ov s2 ⟨x,H2,I2,rx,a,C,dx,fs,ex,ea,c,n,l,q2⟩=>?_) hs;subst ex;obtain rfl:ov=Value.ref a:=rx;exact J8z I2 ea c n l ry fun s3 I3=>⟨σ,_,I3,q2⟩
def Jfw:V->V->Hp->VK->Prop:=fun x y H Q=>∃ i j,x=.int i/\y=.int j/\Q (.int (i+j)) H
end
section
variable {X:Cx}{pins:List (Addr×Obj)}{σ:St}{H:Hp}{s:Shared}{A:Around}{E:Value->Shared->Prop}{Q:Value->Shared->Prop}{c:Value}{b:Bool}
inductive TyOf (K:PySem.W.Frag)(H:Hp):V->Value->Prop where
 | non:TyOf K H .non (.type "NoneType")
 | bl (x:Bool):TyOf K H (.bl x) (.type "bool")
 | int (i:Int):TyOf K H (.int i) (.type "int")
 | str (x:Str):TyOf K H (.str x) (.type "str")
 | flt (x:UInt64):TyOf K H (.flt x) (.type "float")
 | lst {a:Addr} {xs:List V} (e:H a=some (.lst xs)):TyOf K H (.ref a) (.type "list")
 | frz {a:Addr} {o:Obj} {xs:List V} (e:H a=some (.frz o (.lst xs))):TyOf K H (.ref a) (.type "list")
 | tup {a:Addr} {xs:List V} (e:H a=some (.tup xs)):TyOf K H (.ref a) (.type "tuple")
 | dK {a:Addr} {kvs:List (Key×V)} (e:H a=some (.dK kvs)):TyOf K H (.ref a) (.type "dict")
 | dT {a:Addr} {kvs:List (List Jq×V)} (e:H a=some (.dT kvs)):TyOf K H (.ref a) (.type "dict")
 | ins {a C dx:Addr} {fs:List (Str×V)} (e:H a=some (.ins C dx fs)) (cl:Cls K C) (ha:PySem.W.findIn K (.ref C) "__class__"=some (some (.builtin "object.__class__")))
  (hn:PySem.W.specialIn K (.builtin "object.__class__") "__get__"=some (some (.builtin "getset_descriptor.__get__"))) (htk:PySem.W.takesIn K (.builtin "object.__class__")=some true)
  (hm:PySem.W.mroIn K C (.type "object")=some true):TyOf K H (.ref a) (.ref C)
theorem Jah {x:V}{u t:Value}(I:Inv X pins σ H s)(rx:RelV x u)(ty:TyOf X.K H x t)(e:PySem.W.kitOne X.K t c=some b)(h:∀ tk,Q (.bool b) { s with toks:=tk }) :
 wpAny (model X.prog X.w) A (call (.builtin "isinstance") [u,c]) Q E s:=by
 cases ty with
 | non=>cases (show u=Value.none from rx);exact PySem.W.kia_one PySem.W.kitx_none I.kIn True.intro e (fun z=>nomatch z) h
 | bl y=>cases (show u=Value.bool y from rx);exact PySem.W.kia_one PySem.W.kitx_bool I.kIn True.intro e (fun z=>nomatch z) h
 | int i=>obtain ⟨t,q⟩:=(show ∃ t,u=Value.int i t from rx);cases q;exact PySem.W.kia_one PySem.W.kitx_int I.kIn True.intro e (fun z=>nomatch z) h
 | str y=>obtain ⟨t,q⟩:=(show ∃ t,u=Value.str y t from rx);cases q;exact PySem.W.kia_one PySem.W.kitx_str I.kIn True.intro e (fun z=>nomatch z) h
 | flt y=>obtain ⟨t,q⟩:=(show ∃ t,u=Value.float y t from rx);cases q;exact PySem.W.kia_one PySem.W.kitx_float I.kIn True.intro e (fun z=>nomatch z) h
 | @lst a xs ea =>
   cases (show u=Value.ref a from rx);obtain ⟨_,_,n,_,h1⟩:=(show ObjOk X.prog X.w H s.heap a (.lst xs) from I.hok a _ ea);exact PySem.W.kia_one PySem.W.kitx_list I.kIn ⟨_,h1,rfl⟩ e (fun z=>nomatch z) h
 | @frz a ob xs ea =>
   cases (show u=Value.ref a from rx);obtain ⟨_,_,_,n,_,h1⟩:=(show ObjOk X.prog X.w H s.heap a (.frz ob (.lst xs)) from I.hok a _ ea);exact PySem.W.kia_one PySem.W.kitx_list I.kIn ⟨_,h1,rfl⟩ e (fun z=>nomatch z) h
 | @tup a xs ea =>
   cases (show u=Value.ref a from rx);obtain ⟨_,_,_,p⟩:=(show ObjOk X.prog X.w H s.heap a (.tup xs) from I.hok a _ ea);obtain ⟨o,h1,h2,_⟩:=p;exact PySem.W.kia_one PySem.W.kitx_tuple I.kIn ⟨o,h1,h2⟩ e (fun z=>nomatch z) h
 | @dK a kvs ea =>
   cases (show u=Value.ref a from rx);obtain ⟨_,_,vs,_,p⟩:=(show ObjOk X.prog X.w H s.heap a (.dK kvs) from I.hok a _ ea);obtain ⟨o,es,ep,h1,h2,_⟩:=p;exact PySem.W.kia_one PySem.W.kitx_dict I.kIn ⟨o,h1,h2.1⟩ e (fun z=>nomatch z) h
 | @dT a kvs ea =>
   cases (show u=Value.ref a from rx);obtain ⟨_,_,xs,_,o,es,ep,h1,h2,_⟩:=(show ObjOk X.prog X.w H s.heap a (.dT kvs) from I.hok a _ ea);exact PySem.W.kia_one PySem.W.kitx_dict I.kIn ⟨o,h1,h2.1⟩ e (fun z=>nomatch z) h
 | @ins a C dx fs ea cl ha hn htk hm =>
   cases (show u=Value.ref a from rx);obtain ⟨mA,O,_⟩:=J4D I.hok ea;obtain ⟨od,J,_⟩:=O.look;exact PySem.W.kia_one (PySem.W.kitx_own (cl.get _) cl.hd ha hn htk hm) I.kIn J e (fun z=>nomatch z) h
end
structure Room (k:Nat)(A:Around):Prop where
 hd:A.handled=none
 dp:A.depth+3 * k+5<recursionLimit
 un:A.units+16 * k+200<cLine
theorem Room.mono {j k:Nat}{A:Around}(r:Room k A)(h:j<=k):Room j A:=⟨r.hd,by have:=r.dp;omega,by have:=r.un;omega⟩
theorem Room.deeper {k:Nat}{A:Around}(r:Room (k+1) A)(env:Env):Room k (A.deeper env) :=
 ⟨r.hd,by have:=r.dp;show A.depth+1+3 * k+5<_;omega,by have:=r.un;show A.units+3+16 * k+200<_;omega⟩
theorem Room.in1 {k:Nat}{A:Around}(r:Room (k+1) A):Room k A.in1 :=
 ⟨r.hd,by have:=r.dp;show A.depth+3 * k+5<_;omega,by have:=r.un;show A.units+1+16 * k+200<_;omega⟩
theorem J94 {A:Around}{C:Addr}{us:List Value}{kw:List (Str×Value)}:(A.under (.builtin "type.__call__" ⟨.ref C::us,kw⟩)).depth=A.depth+1:=by
 first | rfl | simp [Around.under,Code.weight,Code.isCreation,Code.isGuard,Code.isCaller,Code.frames,Code.isFrame,guardIds]
theorem J93 {A:Around}{C:Addr}{us:List Value}{kw:List (Str×Value)}:(A.under (.builtin "type.__call__" ⟨.ref C::us,kw⟩)).units=A.units+1:=by
 first | rfl | simp [Around.under,Code.cUnits,Code.frames,Code.isFrame]
theorem Room.make {k:Nat}{A:Around}(r:Room (k+1) A)(C:Addr)(us:List Value)(kw:List (Str×Value)):Room k (A.under (.builtin "type.__call__" ⟨.ref C::us,kw⟩)) :=
 ⟨r.hd,by have:=r.dp;rw [J94];omega,by have:=r.un;rw [J93];omega⟩
theorem Room.depth {k:Nat}{A:Around}(r:Room k A):A.depth<recursionLimit:=by have:=r.dp;omega
theorem Room.units {k:Nat}{A:Around}(r:Room k A):A.units+64<cLine:=by have:=r.un;omega
def J8n:TA:=fun _ H Q=>Q [] H
def J48 (ta:TE)(tr:TA):TA:=fun σ H Q=>ta σ H fun x H1=>tr σ H1 fun xs H2=>Q (x::xs) H2
section
variable {X:Cx}{e:Expr}{es:List Expr}{te:TE}{t:TA}{pos:Pos}
theorem J1:PA X [] J8n:=fun _ _ _ _ H Q I h=>Calls.spliced_nil ⟨[],H,I,.nil,h⟩
theorem JcP (ha:PE X e te)(hr:PA X es t)(hs:starEach (e::es) X.env=(false,eval e X.env)::starEach es X.env:=by rfl):PA X (e::es) (J48 te t):=by
 intro pos pins s σ H Q I h;rw [hs];show wpAny _ _ (spliced ((false,eval e X.env)::backTo pos (starEach es X.env))) _ _ s;refine Calls.spliced_cons (thn (ha pins s σ H _ I h) fun u s1 ⟨x,H1,I1,r1,q1⟩=>?_);exact thn (hr pos pins s1 σ H1 _ I1 q1) fun us s2 ⟨xs,H2,I2,r2,q2⟩=>⟨x::xs,H2,I2,.cons r1 r2,q2⟩
def Jcn (t:TA):TE:=fun σ H Q=>t σ H fun xs H1=>xs.length<=sizeLine/\∀ p,H1 p=none->Q (.ref p) (upd H1 p (.tup xs))
def Jcp (t:TA):TE:=fun σ H Q=>t σ H fun xs H1=>xs.length<=sizeLine/\∀ p,H1 p=none->Q (.ref p) (upd H1 p (.lst xs))
theorem Jy {x1}(h:PA X es t):PE X (.Tuple es x1 pos) (Jcn t):=by
 intro pins s σ H Q I hq;refine wpAny_Tuple_spliced (thn (h pos pins s σ H _ I hq) fun us s1 ⟨xs,H1,I1,r,z,q⟩=>⟨by rw [<- r.length];exact z,?_⟩);have hf:H1 s1.heap.objs.size=none:=I1.hok.fresh (zv _);refine ⟨.ref s1.heap.objs.size,upd H1 s1.heap.objs.size (.tup xs),I1.laid (t':=s1.toks) (fun b u e=>qh _ e) (zv _) ?_,rfl,q _ hf⟩;exact ⟨z,us,r,⟨_,qi _ rfl,rfl,_,rfl⟩⟩
theorem J0B (h:PA X es t):PE X (.List es pos) (Jcp t):=by
 intro pins s σ H Q I hq;refine wpAny_List_spliced (thn (h pos pins s σ H _ I hq) fun us s1 ⟨xs,H1,I1,r,z,q⟩=>⟨by rw [<- r.length];exact z,?_⟩);have hf:H1 s1.heap.objs.size=none:=I1.hok.fresh (zv _);refine ⟨.ref s1.heap.objs.size,upd H1 s1.heap.objs.size (.lst xs),I1.laid (t':=s1.toks) (fun b u e=>qh _ e) (zv _) ?_,rfl,q _ hf⟩;exact ⟨z,us,0,r,qi _ rfl⟩
end
abbrev Sp:=List V->Hp->VK->XK->Prop
abbrev CXT:=List Env->Hp->Shared->XK->Value->Shared->Prop
structure Env0 (P:Program)(w:World)(K:PySem.W.Frag)(mg:Str->Option Value)(base:Heap)(A:Around)(outer:List Env)(s:Shared)(H:Hp):Prop where
 frames:A.frames=some outer
 mod:Mod K mg base
 bs:∀ b o,base.get? b=some o->s.heap.get? b=some o/\H b=none
 bsz:base.objs.size<=s.heap.objs.size
 funs:s.heap.FunFrames base outer
 frf:∀ b∈frs outer,H b=none
 hok:HOk P w H s.heap
 bare:AllBare s.gens
def CE (outer:List Env)(P:Program)(w:World)(H:Hp)(s:Shared)(Q:VK)(u:Value)(s':Shared):Prop :=
 ∃ v H',s'.os=s.os/\AllBare s'.gens/\Un (frs outer) [] H H' s.heap s'.heap/\HOk P w H' s'.heap/\RelV v u/\Q v H'
def CR (CX:CXT)(outer:List Env)(P:Program)(w:World)(H:Hp)(s:Shared)(Q:VK)(E:XK)(r:Result)(s':Shared):Prop :=
 match r with
 | .ok (.ret u)=>CE outer P w H s Q u s'
 | .ok _=>False
 | .error e=>CX outer H s E e s'
structure FnOk (P:Program)(w:World)(K:PySem.W.Frag)(mg:Str->Option Value)(base:Heap)(CX:CXT)(k:Nat)(f:Addr)(fd:FuncData)(ps:List Str)(sp:Sp):Prop where
 len:∀ vs H Q E,sp vs H Q E->vs.length=ps.length
 run:∀ (A:Around) (outer:List Env) (s:Shared) (H:Hp) (args:Args) (us:List Value) (vs:List V) (Q:VK) (E:XK),Room k A->Env0 P w K mg base A outer s H->BindsTo s fd args (ps.zip us)->Vals vs us->sp vs H Q E ->
  codeAny (model P w) A (.call (.ref f) args) (CR CX outer P w H s Q E) s
theorem Env0.make {P:Program}{w:World}{K:PySem.W.Frag}{mg:Str->Option Value}{base:Heap}{A:Around}{outer:List Env}{s:Shared}{H:Hp}(e:Env0 P w K mg base A outer s H)(C:Addr)(us:List Value)(kw:List (Str×Value)) :
 Env0 P w K mg base (A.under (.builtin "type.__call__" ⟨.ref C::us,kw⟩)) outer s H:=⟨by first | exact e.frames | (simpa [Around.under,Code.envs,Code.isFrame,pushEnvs] using e.frames),e.mod,e.bs,e.bsz,e.funs,e.frf,e.hok,e.bare⟩
theorem Env0.in1 {P:Program}{w:World}{K:PySem.W.Frag}{mg:Str->Option Value}{base:Heap}{A:Around}{outer:List Env}{s:Shared}{H:Hp}(e:Env0 P w K mg base A outer s H) :
 Env0 P w K mg base A.in1 outer s H:=⟨e.frames,e.mod,e.bs,e.bsz,e.funs,e.frf,e.hok,e.bare⟩
section
variable {X:Cx}{pins:List (Addr×Obj)}{σ:St}{H:Hp}{s s':Shared}
theorem Inv.env0 (I:Inv X pins σ H s):Env0 X.prog X.w X.K X.mg X.base X.A X.stack s H :=
 ⟨I.ok.frames,I.ok.mod,I.bs,zG I.ok.bsz I.sz,I.stack,I.stkFree,I.hok,I.bare⟩
theorem Inv.after {Q:VK}{u:Value}(I:Inv X pins σ H s)(h:CE X.stack X.prog X.w H s Q u s'):EP X pins σ Q u s':=by
 obtain ⟨v,H',os,bare,un,hok,r,q⟩:=h;obtain ⟨hh,g,d,t,os'⟩:=s';obtain rfl:os'=s.os:=os;exact ⟨v,H',I.call (h':=hh) (g':=g) (d':=d) (t':=t) (ch:=[]) un hok bare (fun b z=>absurd z (by simp)),r,q⟩
end
def J4M (sp:Sp)(dvs:List V)(E:XK)(t:TA):TE:=fun σ H Q=>t σ H fun vs H1=>sp (vs++dvs) H1 Q E
def J7o (C:Addr)(m:Str)(sp:Sp)(dvs:List V)(E:XK)(ta:TE)(t:TA):TE:=fun σ H Q=>ta σ H fun x H1=>∃ a dx fs,x=.ref a/\H1 a=some (.ins C dx fs)/\fs.lookup m=none /\
 t σ H1 fun vs H2=>sp (x::(vs++dvs)) H2 Q E
def JaJ (C:Addr)(sp:Sp)(dvs:List V)(E:XK)(t:TA):TE:=fun σ H Q=>t σ H fun vs H1=>∀ x dx,H1 x=none->H1 dx=none->dx≠x ->
 sp (.ref x::(vs++dvs)) (upd (upd H1 dx (.own x)) x (.ins C dx [])) (fun v H2=>v=.non/\Q (.ref x) H2) E
def Binds (K:PySem.W.Frag)(fd:FuncData)(ps:List Str)(ds:List Value):Prop :=
 ∀ (s:Shared) (us:List Value),K.In s.heap->(us++ds).length=ps.length->BindsTo s fd ⟨us,[]⟩ (ps.zip (us++ds))
theorem Binds.all {K:PySem.W.Frag}{fd:FuncData}{ps:List Str}(h:∀ us:List Value,us.length=ps.length->bindArgs fd ⟨us,[]⟩=pure (ps.zip us)):Binds K fd ps []:=fun s us _ hl=>by
 rw [append_nil] at hl ⊢;exact .of_eq (h us hl)
def J3q (CX:CXT)(X:Cx)(E:XK):Prop:=∀ (pins:List (Addr×Obj)) (σ:St) (H:Hp) (s:Shared) (e:Value) (s':Shared),Inv X pins σ H s->CX X.stack H s E e s'->X.xe e s'
section
variable {X:Cx}{CX:CXT}{k:Nat}{f C:Addr}{fd:FuncData}{ps:List Str}{sp:Sp}{dvs:List V}{ds:List Value}{E:XK}{x m:Str}{p pos apos:Pos}{e o:Expr}{es:List Expr}{ta:TE}{t:TA}
theorem J8H {pins:List (Addr×Obj)}{σ:St}{H:Hp}{s:Shared}{Q:VK}{us:List Value}{vs:List V}(F:FnOk X.prog X.w X.K X.mg X.base CX k f fd ps sp)(hr:Room k X.A)(hb:Binds X.K fd ps ds)(hd:Vals dvs ds)(hx:J3q CX X E)
 (I:Inv X pins σ H s) (r:Vals vs us) (h:sp (vs++dvs) H Q E):wpAny (model X.prog X.w) X.A (call (.ref f) us) (EP X pins σ Q) X.xe s:=by
 have r2:Vals (vs++dvs) (us++ds):=r.append hd;have hl:(us++ds).length=ps.length:=by rw [<- r2.length];exact F.len _ _ _ _ h
 refine wpAny_call (codeAny_mono (F.run X.A X.stack s H ⟨us,[]⟩ (us++ds) (vs++dvs) Q E hr I.env0 (hb s us I.kIn hl) r2 h) fun r s' hq=>?_);cases r with
 | error e=>exact hx pins σ H s e s' I hq
 | ok fl =>
   cases fl with
   | ret u=>exact I.after hq
   | next=>exact zH hq
   | brk=>exact zH hq
   | cont=>exact zH hq
theorem JcN (F:FnOk X.prog X.w X.K X.mg X.base CX k f fd ps sp)(hr:Room k X.A)(hg:Gl X x)(hm:X.mg x=some (.ref f))(hk:PySem.W.keepIn X.K (.ref f)=true)(hb:Binds X.K fd ps ds)(hd:Vals dvs ds)(hx:J3q CX X E)
 (ha:PA X (e::es) t) (hdb:(x == ("__debug__":Str))=false:=by decide) (he:starEach (e::es) X.env=(false,eval e X.env)::starEach es X.env:=by rfl) (hpl:(backTo pos (starEach es X.env)).any (·.1)=false:=by rfl) :
 PE X (.Call (.Name x p) (e::es) [] pos) (J4M sp dvs E t):=by
 intro pins s σ H Q I h;refine wpAny_Call_Name_kw (J6Z I hg hm ?_ hdb);refine PySem.W.callWith_K (h₀:=X.base) I.ok.mod.kin hk (thn (ha pos pins s σ H _ I h) fun us s1 ⟨vs,H1,I1,r,q⟩=>⟨I1.kIn,?_⟩) he hpl;exact J8H F hr hb hd hx I1 r q
theorem J0F {pl:Sem Bool}(he:PE X o ta)(c:Cls X.K C)(hm:Meth X.K C m f)(F:FnOk X.prog X.w X.K X.mg X.base CX k f fd ps sp)(hr:Room k X.A)(hb:Binds X.K fd ps ds)(hd:Vals dvs ds)(hx:J3q CX X E)(ha:PA X (e::es) t)
 (hst:starEach (e::es) X.env=(false,eval e X.env)::starEach es X.env:=by rfl) (hpl:(backTo pos (starEach es X.env)).any (·.1)=false:=by rfl)
 (ht:eval (.Call (.Attribute o m apos) (e::es) [] pos) X.env=(do
  let ov <- eval o X.env
  standAt apos.atName
  let (f,first) <- holding [ov] (getMethod ov m pl)
  callWith pos f first (backTo pos (starEach (e::es) X.env)) (backToKw pos (keywordEach [] X.env))):=by rfl) :
 PE X (.Call (.Attribute o m apos) (e::es) [] pos) (J7o C m sp dvs E ta t):=by
 intro pins s σ H Q I h;refine PySem.W.methodCall_KW (pl:=pl) (thn (he pins s σ H _ I h) fun u s1 ⟨x,H1,I1,rx,a,dx,fs,ex,ea,l,q⟩=>?_) ht;subst ex;obtain rfl:u=Value.ref a:=rx;refine J5l I1 ea c hm l ?_;refine PySem.W.callWith_K (first:=[.ref a]) (h₀:=X.base) I.ok.mod.kin hm.kp (thn (ha pos pins s1 σ H1 _ I1 q) fun us s2 ⟨vs,H2,I2,r,q2⟩=>⟨I2.kIn,?_⟩) hst hpl;exact J8H (us:=.ref a::us) (vs:=.ref a::vs) F hr hb hd hx I2 (.cons rfl r) q2
theorem J52 {pl:Sem Bool}(he:PE X o ta)(c:Cls X.K C)(hm:Meth X.K C m f)(F:FnOk X.prog X.w X.K X.mg X.base CX k f fd ps sp)(hr:Room k X.A)(hb:Binds X.K fd ps ds)(hd:Vals dvs ds)(hx:J3q CX X E)
 (ht:eval (.Call (.Attribute o m apos) [] [] pos) X.env=(do
  let ov <- eval o X.env
  standAt apos.atName
  let (f,first) <- holding [ov] (getMethod ov m pl)
  callWith pos f first (backTo pos (starEach [] X.env)) (backToKw pos (keywordEach [] X.env))):=by rfl) :
 PE X (.Call (.Attribute o m apos) [] [] pos) (J7o C m sp dvs E ta J8n):=by
 intro pins s σ H Q I h;refine PySem.W.methodCall_KW (pl:=pl) (thn (he pins s σ H _ I h) fun u s1 ⟨x,H1,I1,rx,a,dx,fs,ex,ea,l,q⟩=>?_) ht;subst ex;obtain rfl:u=Value.ref a:=rx;refine J5l I1 ea c hm l ?_;exact PySem.W.callWith_K0 (first:=[.ref a]) I1.kIn hm.kp (J8H (us:=[.ref a]) (vs:=[.ref a]) F hr hb hd hx I1 (.cons rfl .nil) q)
structure Mk (K:PySem.W.Frag)(C f:Addr):Prop where
 makes:PySem.W.makesIn K C=true
 init:PySem.W.findIn K (.ref C) "__init__"=some (some (.ref f))
 fn:PySem.W.isFn K (.ref f)=true
 kp:PySem.W.keepIn K (.ref C)=true
theorem JaS {pins:List (Addr×Obj)}{σ:St}{H:Hp}{s:Shared}{Q:VK}{us:List Value}{vs:List V}(M:Mk X.K C f)(F:FnOk X.prog X.w X.K X.mg X.base CX k f fd ps sp)(hr:Room (k+1) X.A)(hb:Binds X.K fd ps ds)(hd:Vals dvs ds)
 (hx:J3q CX X E) (I:Inv X pins σ H s) (r:Vals vs us)
 (h:∀ x dx,H x=none->H dx=none->dx≠x->sp (.ref x::(vs++dvs)) (upd (upd H dx (.own x)) x (.ins C dx [])) (fun v H2=>v=.non/\Q (.ref x) H2) E) :
 wpAny (model X.prog X.w) X.A (call (.ref C) us) (EP X pins σ Q) X.xe s:=by
 have hq:=h (s.heap.objs.size+1) s.heap.objs.size (I.hok.fresh (Nat.le_succ _)) (I.hok.fresh (zv _)) (zB (Nat.lt_succ_self _));have I2:=Inv.made (C:=C) I;have r2:Vals (V.ref (s.heap.objs.size+1)::(vs++dvs)) (Value.ref (s.heap.objs.size+1)::(us++ds)):=.cons rfl (r.append hd);have hl:(Value.ref (s.heap.objs.size+1)::us++ds).length=ps.length:=by
  have e:=r2.length;rw [F.len _ _ _ _ hq] at e;exact e.symm
 refine wpAny_call (Jbs (f:=f) I.kIn M.makes M.init (beq_iff_eq.mp M.fn) (codeAny_mono (F.run _ X.stack _ _ ⟨Value.ref (s.heap.objs.size+1)::us,[]⟩ (Value.ref (s.heap.objs.size+1)::(us++ds)) _ _ E (hr.make C us [])
  (I2.env0.make C us []) (hb _ (Value.ref (s.heap.objs.size+1)::us) I2.kIn hl) r2 hq) fun r s' hq'=>?_))
 cases r with
 | error e=>exact hx pins σ _ _ e s' I2 hq'
 | ok fl =>
   cases fl with
   | ret u =>
     obtain ⟨v,H',I3,rv,ev,q3⟩:=I2.after hq';subst ev;exact ⟨rv,⟨V.ref (s.heap.objs.size+1),H',I3,rfl,q3⟩⟩
   | next=>exact zH hq'
   | brk=>exact zH hq'
   | cont=>exact zH hq'
theorem J9y (M:Mk X.K C f)(F:FnOk X.prog X.w X.K X.mg X.base CX k f fd ps sp)(hr:Room (k+1) X.A)(hg:Gl X x)(hm:X.mg x=some (.ref C))(hb:Binds X.K fd ps ds)(hd:Vals dvs ds)(hx:J3q CX X E)
 (ha:PA X (e::es) t) (hdb:(x == ("__debug__":Str))=false:=by decide) (he:starEach (e::es) X.env=(false,eval e X.env)::starEach es X.env:=by rfl) (hpl:(backTo pos (starEach es X.env)).any (·.1)=false:=by rfl) :
 PE X (.Call (.Name x p) (e::es) [] pos) (JaJ C sp dvs E t):=by
 intro pins s σ H Q I h;refine wpAny_Call_Name_kw (J6Z I hg hm ?_ hdb);refine PySem.W.callWith_K (h₀:=X.base) I.ok.mod.kin M.kp (thn (ha pos pins s σ H _ I h) fun us s1 ⟨vs,H1,I1,r,q⟩=>⟨I1.kIn,?_⟩) he hpl;exact JaS M F hr hb hd hx I1 r q
end
def PK (X:Cx)(kws:List Keyword)(t:TA):Prop :=
 ∀ (pos:Pos) (pins:List (Addr×Obj)) (s:Shared) (σ:St) (H:Hp) (Q:List V->Hp->Prop),Inv X pins σ H s->t σ H Q->wpAny (model X.prog X.w) X.A (evalAll ((backToKw pos (keywordEach kws X.env)).map (·.2))) (AP X pins σ Q) X.xe s
section
variable {X:Cx}{CX:CXT}{k:Nat}{f C:Addr}{fd:FuncData}{ps ks:List Str}{sp:Sp}{E:XK}{x m:Str}{p pos apos kpos:Pos}{e o:Expr}{es:List Expr}{kws:List Keyword}{te ta:TE}{t tk:TA}{nm:Option Str}
theorem J8N:PK X [] J8n:=fun _ _ _ _ H Q I h=>wpAny_evalAll_nil ⟨[],H,I,.nil,h⟩
theorem J6I (ha:PE X e te)(hr:PK X kws t):PK X (⟨nm,e,kpos⟩::kws) (J48 te t):=by
 intro pos pins s σ H Q I h;show wpAny _ _ (evalAll ((do let v <- eval e X.env;standAt pos;pure v)::(backToKw pos (keywordEach kws X.env)).map (·.2))) _ _ s;refine wpAny_evalAll_cons (zq (thn (ha pins s σ H _ I h) fun u s1 ⟨x,H1,I1,r1,q1⟩=>zq (wpAny_standAt (zr ?_))));exact thn (hr pos pins s1 σ H1 _ I1 q1) fun us s2 ⟨xs,H2,I2,r2,q2⟩=>⟨x::xs,H2,I2,.cons r1 r2,q2⟩
variable {g:List Value->List Value->List Value}{gV:List V->List V->List V}
end
structure FnScope (N P:List Str)(sc:Scope):Prop where
 kind:sc.kind=.function
 co:sc.isCoroutine=false
 gen:sc.isGenerator=false
 nd:N.Nodup
 pre:N.take P.length=P
 par:∀ x∈P,sc.names.lookup x=some .local\/sc.names.lookup x=some .cell
 nofree:∀ y∈sc.names,y.2≠.free
theorem J61 {kindOf:Str->Option NameKind}{x:Str}:∀ {binds:List (Str×Value)} {m:Str->Option Value},(∀ v,(x,v)∉binds)->bindL kindOf binds m x=m x
 | [],_,_=>rfl
 | (n,v)::r,m,h=>by
   unfold bindL;rw [J61 fun w hw=>h w (zS _ hw)]
   split
   ·have:x≠n:=by rintro rfl;exact h v zT
    simp [this]
   ·rfl
theorem J63 {kindOf:Str->Option NameKind}{x:Str}:∀ {binds:List (Str×Value)} {m:Str->Option Value},(∀ v,(x,v)∉binds)->bindC kindOf binds m x=m x
 | [],_,_=>rfl
 | (n,v)::r,m,h=>by
   unfold bindC;rw [J63 fun w hw=>h w (zS _ hw)]
   split
   ·rfl
   ·have:x≠n:=by rintro rfl;exact h v zT
    simp [this]
theorem J62 {kindOf:Str->Option NameKind}{x:Str}{v:Value}:∀ {P:List Str} {vs:List Value} {i:Nat} {m:Str->Option Value},P.Nodup->P[i]?=some x->vs[i]?=some v->kindOf x=some .local ->
 bindL kindOf (P.zip vs) m x=some v
 | [],_,_,_,_,h,_,_=>by simp at h
 | _::_,[],_,_,_,_,h,_=>by simp at h
 | p::P,w::vs,0,m,nd,h1,h2,hk=>by
   simp at h1 h2;subst h1;subst h2;show bindL kindOf ((p,w)::P.zip vs) m p=_;unfold bindL;rw [J61 fun v hv=>(nodup_cons.mp nd).1 (of_mem_zip hv).1,zu hk];simp
 | p::P,w::vs,i+1,m,nd,h1,h2,hk=>by
   show bindL kindOf ((p,w)::P.zip vs) m x=_;unfold bindL;exact J62 (i:=i) (nodup_cons.mp nd).2 (by simpa using h1) (by simpa using h2) hk
theorem J64 {kindOf:Str->Option NameKind}{x:Str}{v:Value}:∀ {P:List Str} {vs:List Value} {i:Nat} {m:Str->Option Value},P.Nodup->P[i]?=some x->vs[i]?=some v->kindOf x≠some .local ->
 bindC kindOf (P.zip vs) m x=some v
 | [],_,_,_,_,h,_,_=>by simp at h
 | _::_,[],_,_,_,_,h,_=>by simp at h
 | p::P,w::vs,0,m,nd,h1,h2,hk=>by
   simp at h1 h2;subst h1;subst h2;show bindC kindOf ((p,w)::P.zip vs) m p=_;unfold bindC;rw [J63 fun v hv=>(nodup_cons.mp nd).1 (of_mem_zip hv).1,zt hk];simp
 | p::P,w::vs,i+1,m,nd,h1,h2,hk=>by
   show bindC kindOf ((p,w)::P.zip vs) m x=_;unfold bindC;exact J64 (i:=i) (nodup_cons.mp nd).2 (by simpa using h1) (by simpa using h2) hk
def J2q (N:List Str)(vs:List V):St:=vs.map some++List.replicate (N.length - vs.length) none
def J79 (CX:CXT)(P:Program)(w:World)(K:PySem.W.Frag)(mg:Str->Option Value)(base:Heap)(N:List Str)(qual:Str)(scope:Scope)(f:Addr)(cd:Value)(A:Around)(outer:List Env)(s:Shared)(H:Hp)(E:XK):Cx where
 prog:=P
 w:=w
 K:=K
 mg:=mg
 base:=base
 A:=A.deeper (envOfC qual scope s.heap.objs.size f cd)
 N:=N
 s₀:=s
 H₀:=H
 env:=envOfC qual scope s.heap.objs.size f cd
 outer:=outer
 stack:=envOfC qual scope s.heap.objs.size f cd::outer
 ex:=[]
 calm:=true
 fn:=fun _=>true
 pn:=[]
 xe:=fun e s'=>wpAny (model P w) (A.deeper (envOfC qual scope s.heap.objs.size f cd)) (leaving (envOfC qual scope s.heap.objs.size f cd) e) (fun _ s''=>CX outer H s E e s'') (fun e' s''=>CX outer H s E e' s'') s'
theorem J8c {sc:Scope}{n:Nat}{x:Str}(h:sc.names.lookup x=some .cell):∃ c,(cellsFrom n sc.names []).lookup x=some c:=by
 have q:=PySem.W.cellsFrom_some sc.names n [] (.inl h);exact Option.isSome_iff_exists.mp q
theorem inv_start {CX:CXT}{P:Program}{w:World}{K:PySem.W.Frag}{mg:Str->Option Value}{base:Heap}{N ps:List Str}{qual:Str}{scope:Scope}{f:Addr}{cd:Value}{A:Around}{outer:List Env}{s s1:Shared}{H:Hp}{E:XK}{us:List Value}{vs:List V}
 (S:FnScope N ps scope) (hd:A.handled=none) (e0:Env0 P w K mg base A outer s H) (hl:vs.length=ps.length) (r:Vals vs us)
 (x:InCallC s s.heap.objs.size (bindL (envOfC qual scope s.heap.objs.size f cd).kindOf (ps.zip us) fun _=>none) (cellsFrom (s.heap.objs.size+1) scope.names []) (bindC (envOfC qual scope s.heap.objs.size f cd).kindOf (ps.zip us) fun _=>none) s1) :
 Inv (J79 CX P w K mg base N qual scope f cd A outer s H E) [] (J2q N vs) H s1:=by
 have hpl:ps.length<=N.length:=by have:=congrArg List.length S.pre;rw [zR] at this;omega
 obtain ⟨h1,tk,rfl,hk⟩:=x.done;have noA:∀ b:Addr,b∉(J79 CX P w K mg base N qual scope f cd A outer s H E).ex:=fun b z=>absurd (show b∈([]:List Addr) from z) (by simp);refine ⟨⟨e0.mod,S.kind,rfl,rfl,zv _,fun y z c h1 h2=>?_,fun y hy=>?_,fun y c _ h=>?_,fun _=>hd,Around.frames_deeper e0.frames,.inr ⟨rfl,rfl⟩,fun b z=>absurd z (noA b),e0.bs,e0.bsz,fun b _ _=>noA b,fun b z=>absurd z (noA b),e0.funs,e0.frf⟩,
  rfl,e0.bare,Un.kept hk,⟨_,x.toInCall.ns,fun i y v h1 h2 h3=>?_⟩,fun y c h=>⟨_,x.cell y c h⟩,e0.hok.fresh (zv _),fun y c h=>?_,fun p hp=>absurd (show p∈([]:List (Addr×Obj)) from hp) (by simp),e0.hok.kept hk,?_⟩
 ·exact name_of_addr x.apart (PySem.mem_of_lookup h1) (PySem.mem_of_lookup h2)
 ·have hy:scope.names.lookup y=some .cell\/scope.names.lookup y=some .free:=hy
  rcases hy with hy | hy
  ·exact J8c hy
  ·exact absurd rfl (S.nofree _ (PySem.mem_of_lookup hy))
 ·exact Nat.le_of_lt (x.above y c (PySem.mem_of_lookup h))
 ·have hi:i<vs.length:=by
   unfold J2q at h2;by_cases hi:i<vs.length
   ·exact hi
   ·rw [qc (by simpa using hi)] at h2
    rw [List.getElem?_replicate] at h2
    split at h2<;>cases h2
  have ha:vs[i]?=some v:=by
   unfold J2q at h2;rw [qd (by simpa using hi),zW] at h2;cases e:vs[i]? with
   | none=>rw [e] at h2;cases h2
   | some a=>rw [e] at h2;cases h2;rfl
  obtain ⟨u,hu,rv⟩:=r.get ha;have hp:ps[i]?=some y:=by
   rw [<- S.pre,List.getElem?_take_of_lt (by omega)];exact h1
  have ndP:ps.Nodup:=by rw [<- S.pre];exact S.nd.sublist (take_sublist _ _)
  refine ⟨u,rv,?_⟩;rcases S.par y (zP hp) with k | k
  ·exact .inl ⟨k,J62 ndP hp hu k⟩
  ·obtain ⟨c,e⟩:=J8c (n:=s.heap.objs.size+1) k
   refine .inr ⟨.inl k,c,e,?_⟩;have q:=x.cell y c e;rw [J64 ndP hp hu (by show scope.names.lookup y≠_;rw [k];decide)] at q;exact q
 ·exact e0.hok.fresh (Nat.le_of_lt (x.above y c (PySem.mem_of_lookup h)))
 ·unfold J2q
  show _=N.length;rw [zQ,zL,qg];omega
theorem JeS {CX:CXT}{P:Program}{w:World}{K:PySem.W.Frag}{mg:Str->Option Value}{base:Heap}{k:Nat}{f:Addr}{name qual:Str}{params:Arguments}{body:List Stmt}{scope:Scope}{dV kV doc pm cdv ct oc:Value}{an od:Option Addr}
 {osl:Array (Option Value)} {N ps:List Str} {sp:Sp} (lk:K.lookup f=some ⟨oc,od,.func (PySem.W.fnOf name qual params body scope dV kV doc pm an cdv ct),osl⟩) (hcd:PySem.W.codeIn K cdv qual=true) (S:FnScope N ps scope)
 (len:∀ vs H Q E,sp vs H Q E->vs.length=ps.length)
 (hbody:∀ (A:Around) (outer:List Env) (s:Shared) (H:Hp) (vs:List V) (Q:VK) (E:XK),Room k (A.deeper (envOfC qual scope s.heap.objs.size f cdv))->sp vs H Q E ->
  ∃ t,PSs (J79 CX P w K mg base N qual scope f cdv A outer s H E) body t/\t { nx:=fun _ H'=>Q .non H',rt:=Q } (J2q N vs) H) :
 FnOk P w K mg base CX (k+1) f (PySem.W.fnOf name qual params body scope dV kV doc pm an cdv ct) ps sp:=by
 refine ⟨len,fun A outer s H args us vs Q E hr e0 hb r hsp=>?_⟩;have hl:=len _ _ _ _ hsp;have KX:K.In s.heap:=e0.mod.kin.keeps fun b o e=>(e0.bs b o e).1;have lim:s.heap.NoLimit:=e0.mod.nolimit.keeps fun b o e=>(e0.bs b o e).1;have hkind:∀ y∈ps.zip us,scope.names.lookup y.1=some .local\/(scope.names.lookup y.1=some .cell/\((cellsFrom (s.heap.objs.size+1) scope.names []).lookup y.1).isSome=true):=fun ⟨n,v⟩ hy=>by
  rcases S.par n (of_mem_zip hy).1 with q | q
  ·exact .inl q
  ·exact .inr ⟨q,PySem.W.cellsFrom_some _ _ _ (.inl q)⟩
 refine codeAny_call_function hr.depth (KX _ _ lk) rfl S.co S.gen rfl (PySem.W.codeRec_of KX hcd) (hb _ _ _ _ ?_);refine wpAny_newFunctionEnv_cells S.kind hkind fun env he s1 x=>?_;subst he;refine ⟨lim.keeps x.toInCall.keep,codeAny_func ?_⟩;obtain ⟨t,ht,hq⟩:=hbody A outer s H vs Q E (hr.deeper _) hsp;have I:Inv (J79 CX P w K mg base N qual scope f cdv A outer s H E) [] (J2q N vs) H s1:=inv_start S hr.hd e0 hl r x;refine wpAny_mono (ht [] s1 (J2q N vs) H _ I hq) (fun fl s' hs=>?_) fun e s' hs=>hs;have fin:∀ {σ':St} {H':Hp} {v:V} {u:Value},Inv (J79 CX P w K mg base N qual scope f cdv A outer s H E) [] σ' H' s'->RelV v u->Q v H'->CE outer P w H s Q u s' :=
  fun {σ' H' v u} J rv q=>⟨v,H',J.os,J.bare,J.base,J.hok,rv,q⟩
 cases fl with
 | ret u =>
   obtain ⟨v,σ',H',J,rv,q⟩:=hs;exact fin J rv q
 | next =>
   obtain ⟨σ',H',J,q⟩:=hs;exact fin (v:=V.non) (u:=Value.none) J rfl q
 | brk =>
   obtain ⟨_,_,_,q⟩:=hs;exact zH q
 | cont =>
   obtain ⟨_,_,_,q⟩:=hs;exact zH q
section
variable {X:Cx}{x:Str}{p pos:Pos}{e:Expr}{es:List Expr}{t:TA}{id T:String}{r:List V->Hp->VK->Prop}
def tCB (r:List V->Hp->VK->Prop)(t:TA):TE:=fun σ H Q=>t σ H fun vs H1=>r vs H1 Q
theorem Jbf (hc:J03 X (.builtin id) r)(hg:Gl X x)(hm:X.mg x=none)(hv:bootBuiltins x=some (.builtin id))(ha:PA X (e::es) t)(hn:x≠"__name__":=by decide)(hdb:(x == ("__debug__":Str))=false:=by decide)
 (he:starEach (e::es) X.env=(false,eval e X.env)::starEach es X.env:=by rfl) (hpl:(backTo pos (starEach es X.env)).any (·.1)=false:=by rfl):PE X (.Call (.Name x p) (e::es) [] pos) (tCB r t):=by
 intro pins s σ H Q I h;refine wpAny_Call_Name_kw (J1P I hg hm hv ?_ hn hdb);exact PyProof.Rows.callWith_builtin1 (thn (ha pos pins s σ H _ I h) fun us s1 ⟨vs,H1,I1,r1,q1⟩=>hc pins s1 σ H1 vs us Q I1 r1 q1) he hpl
theorem Ja4 (hc:J03 X (.type T) r)(hg:Gl X x)(hm:X.mg x=none)(hv:bootBuiltins x=some (.type T))(ha:PA X (e::es) t)(hn:x≠"__name__":=by decide)(hdb:(x == ("__debug__":Str))=false:=by decide)
 (he:starEach (e::es) X.env=(false,eval e X.env)::starEach es X.env:=by rfl) (hpl:(backTo pos (starEach es X.env)).any (·.1)=false:=by rfl):PE X (.Call (.Name x p) (e::es) [] pos) (tCB r t):=by
 intro pins s σ H Q I h;refine wpAny_Call_Name_kw (J1P I hg hm hv ?_ hn hdb);exact PyProof.Rows.callWith_type1 (thn (ha pos pins s σ H _ I h) fun us s1 ⟨vs,H1,I1,r1,q1⟩=>hc pins s1 σ H1 vs us Q I1 r1 q1) he hpl
end
end L2
namespace HT
open PySem PyProof.Rows
theorem rcLt_int (A:Around)(s:Shared)(a:Int)(t:Tok)(c:Int)(u:Tok)(prog:Program)(w:World)(E:Value->Shared->Prop)(Q:Value->Shared->Prop)(h:Q (.bool (decide (a<c))) s) :
 wpAny (model prog w) A (richCompare .Lt (.int a t) (.int c u)) Q E s :=
 (PyProof.Rows.lt_int h:wpAny (model prog w) A (compareOp .Lt (.int a t) (.int c u)) Q E s)
section
variable {prog:Program}{w:World}{A:Around}{E:Value->Shared->Prop}{s:Shared}
theorem cat_tup {t b:Addr}{vs ws:List Value}{Q:Value->Shared->Prop}(ht:IsTup s.heap t vs.toArray)(hb:IsTup s.heap b ws.toArray)(hv:vs≠[])
 (h1:ws=[]->Q (.ref t) s) (h2:ws≠[]->Q (.ref s.heap.objs.size) { s with heap:=s.heap.push { cls:=.type "tuple",data:=.seq (vs++ws).toArray } })
 (hsz:vs.length+ws.length<=sizeLine):wpAny (model prog w) A (binaryOp .Add (.ref t) (.ref b)) Q E s:=by
 obtain ⟨⟨cls,dd,data,sl⟩,ho,hc,n,hd⟩:=id ht;obtain ⟨⟨cls2,dd2,data2,sl2⟩,ho2,hc2,n2,hd2⟩:=id hb;simp only at hc hd hc2 hd2;subst hc hd hc2 hd2;have e:vs.toArray++ws.toArray=(vs++ws).toArray:=by simp
 by_cases hw:ws=[]
 ·exact concat_meets ⟨_,ho,rfl⟩ ⟨_,ho2,rfl⟩ noFill_tuple_add seq_tuple_add PySem.F.slot_tuple_add PySem.F.entry_tuple_add (PySem.F.args_tuple_add_2 _ _)
   (tuple_addW1 t b vs.toArray ws.toArray n n2 dd dd2 sl sl2 (by simpa using hv) (by simp [hw])) ⟨ho,ho2,h1 hw⟩
 ·refine concat_meets ⟨_,ho,rfl⟩ ⟨_,ho2,rfl⟩ noFill_tuple_add seq_tuple_add PySem.F.slot_tuple_add PySem.F.entry_tuple_add (PySem.F.args_tuple_add_2 _ _)
   (tuple_addW2 t b vs.toArray ws.toArray n n2 dd dd2 sl sl2 (by simpa using hv) (by simpa using hw) (by rw [zN,zN];exact hsz)) ⟨ho,ho2,?_⟩
  rw [e];exact h2 hw
def sIx (n d:Nat):Option Int->Nat
 | none=>d
 | some v=>if v<0 then (v+(n:Int)).toNat else min v.toNat n
theorem sIx_none (n d:Nat):sIx n d none=d:=rfl
theorem sIx_nat (n d k:Nat):sIx n d (some (k:Int))=min k n:=by
 show (if (k:Int)<0 then ((k:Int)+(n:Int)).toNat else min (k:Int).toNat n)=min k n;rw [zt (by omega),Int.toNat_natCast]
theorem sIx_le (n d:Nat)(hd:d<=n)(o:Option Int):sIx n d o<=n:=by
 cases o with
 | none=>exact hd
 | some v =>
   show (if v<0 then (v+(n:Int)).toNat else min v.toNat n)<=n;by_cases hv:v<0
   ·rw [zu hv];omega
   ·rw [zt hv];exact Nat.min_le_right _ _
theorem J9N (v:Int)(n d:Nat):(if v<0 then max (v+(n:Int)) 0 else min v (n:Int))=((sIx n d (some v):Nat):Int):=by
 show (if v<0 then max (v+(n:Int)) 0 else min v (n:Int))=(((if v<0 then (v+(n:Int)).toNat else min v.toNat n):Nat):Int);by_cases hv:v<0
 ·simp only [zu hv];omega
 ·simp only [zt hv];omega
theorem J9g (lo hi:Option Int)(n:Nat):Builtin.Slice.sliceAdjust lo hi 1 (n:Int)=(((sIx n 0 lo:Nat):Int),((sIx n n hi:Nat):Int)):=by
 have h1:¬ ((1:Int)<0):=by omega
 unfold Builtin.Slice.sliceAdjust;simp only [h1,if_false];refine Prod.ext ?_ ?_
 ·cases lo with
  | none=>rfl
  | some v=>exact J9N v n 0
 ·cases hi with
  | none=>rfl
  | some v=>exact J9N v n n
theorem J8M (i j:Nat):Builtin.Slice.slicePlaces (i:Int) (j:Int) 1=j - i:=by
 unfold Builtin.Slice.slicePlaces;have h1:(1:Int) > 0:=by omega
 simp only [h1,if_true,Int.ediv_one]
 split<;>omega
theorem J4T {v:Value}{o:Option Int}{Q:Option Int->Shared->Prop}(p:IsPart v o)(h:Q o s):wpAny (model prog w) A (Builtin.Slice.slicePartIndex v) Q E s:=by
 cases p with
 | none=>exact slicePart_none h
 | int i t=>exact slicePart_int h
theorem J1U {sl:Addr}{vl vu:Value}{lo hi:Option Int}{n:Nat}{Q:Int×Int×Nat->Shared->Prop}(hs:s.heap.IsSliceOf sl vl vu .none)(pl:IsPart vl lo)(pu:IsPart vu hi)
 (h:Q (((sIx n 0 lo:Nat):Int),1,sIx n n hi - sIx n 0 lo) s):wpAny (model prog w) A (Builtin.Slice.sliceApplied (.ref sl) (pure (n:Int))) Q E s:=by
 obtain ⟨os,hos,hcs,hds⟩:=id hs;unfold Builtin.Slice.sliceApplied Builtin.Slice.sliceFields;refine zq (zq (wpAny_field hos hds (x:=vl) rfl (zq (wpAny_field hos hds (x:=vu) rfl (zq (wpAny_field hos hds (x:=.none) rfl (zr ?_)))))));refine zq (slicePart_none ?_);show wpAny _ _ (if ((1:Int) == 0)=true then _ else _) _ _ s;rw [zt (by decide)];refine zq (J4T pl (zq (J4T pu (zq (zr ?_)))));show wpAny _ _ (match Builtin.Slice.sliceAdjust lo hi 1 (n:Int) with | (lo,hi)=>pure (lo,(1:Int),Builtin.Slice.slicePlaces lo hi 1)) _ _ s;rw [J9g lo hi n];show wpAny _ _ (pure (((sIx n 0 lo:Nat):Int),(1:Int),Builtin.Slice.slicePlaces ((sIx n 0 lo:Nat):Int) ((sIx n n hi:Nat):Int) 1)) _ _ s;rw [J8M];exact zr h
theorem Jb8 (xs:Array Value)(i k:Nat):((List.range k).filterMap fun (m:Nat)=>xs[((i:Int)+(m:Int) * 1).toNat]?).toArray=((xs.toList.drop i).take k).toArray:=by
 have e:(fun (m:Nat)=>xs[((i:Int)+(m:Int) * 1).toNat]?)=fun m=>xs[i+m]?:=by
  funext m;have:((i:Int)+(m:Int) * 1).toNat=i+m:=by omega
  rw [this]
 rw [e];have:=pick_run xs i k;rw [filterMap_map] at this;have e2:((fun x=>xs[x]?)∘fun x=>i+x)=fun m=>xs[i+m]?:=rfl;rw [e2] at this;rw [this]
theorem getItem_tuple_cut {t sl:Addr}{items:Array Value}{vl vu:Value}{lo hi:Option Int}{Q:Value->Shared->Prop}(ht:IsTup s.heap t items)(hs:s.heap.IsSliceOf sl vl vu .none)(pl:IsPart vl lo)(pu:IsPart vu hi)
 (hw:¬ (sIx items.size 0 lo=0/\sIx items.size items.size hi=items.size))
 (h:Q (.ref s.heap.objs.size) { s with heap:=s.heap.push { cls:=.type "tuple",data:=.seq ((items.toList.drop (sIx items.size 0 lo)).take (sIx items.size items.size hi - sIx items.size 0 lo)).toArray } })
 (hsz:items.size<=sizeLine):wpAny (model prog w) A (getItem (.ref t) (.ref sl)) Q E s:=by
 have htake:sizeOk (.seq ((items.toList.drop (sIx items.size 0 lo)).take (sIx items.size items.size hi - sIx items.size 0 lo)).toArray):=by
  show ((items.toList.drop (sIx items.size 0 lo)).take (sIx items.size items.size hi - sIx items.size 0 lo)).toArray.size<=sizeLine;rw [zN,zR,length_drop,zI];omega
 have hj:sIx items.size items.size hi<=items.size:=sIx_le _ _ (zv _) hi;obtain ⟨os,hos,hcs,hds⟩:=id hs;have hTs:s.TypeIs (.ref sl) "slice":=⟨os,hos,hcs⟩;unfold getItem
 try with_reducible refine wpAny_holding ?_
 first | refine zq (zr ?_) | skip
 refine zq (wpAny_sequenceKey ht.typeIs (by decide) ?_);refine zq (wpAny_callSpecial?_slot (name:=Str.ofString "__getitem__") ht.typeIs PyProof.Rows.slot_tuple_getitem
  (wpAny_call_entry PyProof.Rows.slot_tuple_getitem ht.typeIs entry_tuple_getitem ?_ (args_tuple_getitem _ _)))
 show wpAny _ _ (Builtin.Tuple.tupleItemsOf (.ref t) >>= _) _ _ s;refine zq (tupleItemsOf_ ht ?_);refine zq (wpAny_typeOf hTs ?_);rw [zu (by decide)];refine zq (J1U hs pl pu ?_);have hno:¬ ((((sIx items.size 0 lo:Nat):Int) == 0&&(1:Int) == 1&&(sIx items.size items.size hi - sIx items.size 0 lo) == items.size)=true):=by
  intro q;rw [Bool.and_eq_true,Bool.and_eq_true] at q;have q1:((sIx items.size 0 lo:Nat):Int)=0:=eq_of_beq q.1.1;have q2:sIx items.size items.size hi - sIx items.size 0 lo=items.size:=eq_of_beq q.2;exact hw ⟨by omega,by omega⟩
 show wpAny _ _ (if (((sIx items.size 0 lo:Nat):Int) == 0&&(1:Int) == 1&&(sIx items.size items.size hi - sIx items.size 0 lo) == items.size)=true then _ else _) _ _ s;rw [zt hno,Jb8]
 first
  | exact zq (m:=Builtin.Tuple.tupleExact _) (wpAny_newObj_type (zr ⟨_,rfl,zr h⟩) htake)
  | exact zq (m:=Builtin.Tuple.tupleExact _) (wpAny_newObj_type (zq (zr (zr ⟨_,rfl,zr h⟩))) htake)
  | exact zq (zq (m:=Builtin.Tuple.tupleExact _) (wpAny_newObj_type (zr (zr ⟨_,rfl,zr h⟩)) htake))
  | exact zq (zq (m:=Builtin.Tuple.tupleExact _) (wpAny_newObj_type (zr ⟨_,rfl,zr h⟩) htake))
end
end HT
namespace L2
open PySem PySem.Spec PyProof.Rows
abbrev TO:=St->Hp->(Option Int->Hp->Prop)->Prop
def PO (X:Cx)(e:Option Expr)(t:TO):Prop :=
 ∀ (pins:List (Addr×Obj)) (s:Shared) (σ:St) (H:Hp) (Q:Option Int->Hp->Prop),Inv X pins σ H s->t σ H Q ->
   wpAny (model X.prog X.w) X.A (evalPart e X.env) (fun u s'=>∃ o H',Inv X pins σ H' s'/\IsPart u o/\Q o H') X.xe s
def J4w:TO:=fun _ H Q=>Q none H
def J9i (t:TE):TO:=fun σ H Q=>t σ H fun x H1=>∃ i,x=.int i/\Q (some i) H1
section
variable {X:Cx}{e:Expr}{te:TE}{lo hi:Option Expr}{tl th:TO}{pos p2:Pos}
theorem J0E:PO X none J4w:=by
 intro pins s σ H Q I h;rw [evalPart_none];exact zr ⟨none,H,I,.none,h⟩
theorem J0o (h:PE X e te):PO X (some e) (J9i te):=by
 intro pins s σ H Q I hw;rw [evalPart_some];refine thn (h pins s σ H _ I hw) fun u s1 ⟨x,H1,I1,r1,q1⟩=>?_;obtain ⟨i,rfl,q⟩:=q1;obtain ⟨t,rfl⟩:=r1;exact ⟨some i,H1,I1,.int i t,q⟩
def SlR (X:Cx)(r:V->Option Int->Option Int->Hp->VK->Prop):Prop :=
 ∀ (pins:List (Addr×Obj)) (s:Shared) (σ:St) (H:Hp) (x:V) (v vl vu:Value) (lo hi:Option Int) (sl:Addr) (Q:VK),Inv X pins σ H s->RelV x v->s.heap.IsSliceOf sl vl vu .none->IsPart vl lo->IsPart vu hi->r x lo hi H Q ->
   ∃ T id,typeLookup (.type T) "__getitem__"=pure (some (.builtin id))/\s.TypeIs v T/\wpAny (model X.prog X.w) X.A (getItem v (.ref sl)) (EP X pins σ Q) X.xe s
def tSl (r:V->Option Int->Option Int->Hp->VK->Prop)(te:TE)(tl th:TO):TE:=fun σ H Q=>te σ H fun x H1=>tl σ H1 fun l H2=>th σ H2 fun u H3=>r x l u H3 Q
theorem J0f {r:V->Option Int->Option Int->Hp->VK->Prop}(hr:SlR X r)(he:PE X e te)(hl:PO X lo tl)(hu:PO X hi th):PE X (.Subscript e (.Slice lo hi none p2) pos) (tSl r te tl th):=by
 intro pins s σ H Q I h;refine Subscript_ (thn (he pins s σ H _ I h) fun v s1 ⟨x,H1,I1,r1,q1⟩=>?_);refine wpAny_Slice (thn (hl pins s1 σ H1 _ I1 q1) fun vl s2 ⟨l,H2,I2,pl,q2⟩=>thn (hu pins s2 σ H2 _ I2 q2) fun vu s3 ⟨u,H3,I3,pu,q3⟩=>?_);rw [evalPart_none];refine zr ?_;have I4:Inv X pins σ H3 { s3 with heap:=s3.heap.push { cls:=.type "slice",data:=.fields #[vl,vu,.none] } }:=I3.kept (t':=s3.toks) fun b ob q=>qh _ q;obtain ⟨T,id,hT,ht,hg⟩:=hr pins { s3 with heap:=s3.heap.push { cls:=.type "slice",data:=.fields #[vl,vu,.none] } } σ H3 x v vl vu l u s3.heap.objs.size Q I4 r1 (Heap.IsSliceOf.new ..) pl pu q3;show wpAny (model X.prog X.w) X.A (subscriptTail e (.Slice lo hi none p2) v (.ref s3.heap.objs.size)) (EP X pins σ Q) X.xe { s3 with heap:=s3.heap.push { cls:=.type "slice",data:=.fields #[vl,vu,.none] } };exact tail_any (ops:=[.ref s3.heap.objs.size,v]) ht hT hg (by with_unfolding_all rfl)
def J1z (xs:List V)(lo hi:Option Int):List V:=(xs.drop (HT.sIx xs.length 0 lo)).take (HT.sIx xs.length xs.length hi - HT.sIx xs.length 0 lo)
theorem J4f (xs:List V)(lo hi:Option Int):(J1z xs lo hi).length<=xs.length:=by
 unfold J1z;rw [zR,length_drop];omega
def Jf8 (K:PySem.W.Frag):V->Option Int->Option Int->Hp->VK->Prop:=fun x lo hi H Q=>∃ a xs,x=.ref a/\SqT K H a xs /\
 ¬ (HT.sIx xs.length 0 lo=0/\HT.sIx xs.length xs.length hi=xs.length)/\∀ p,H p=none->Q (.ref p) (upd H p (.tup (J1z xs lo hi)))
theorem JdH:SlR X (Jf8 X.K):=by
 intro pins s σ H x v vl vu lo hi sl Q I rx hs pl pu h;obtain ⟨a,xs,rfl,hx,hw,q⟩:=h;cases rx;obtain ⟨its,r,ht,hz⟩:=I.tuple hx;have hlen:its.toArray.size=xs.length:=by rw [zN];exact r.length.symm
 refine ⟨"tuple",_,PyProof.Rows.slot_tuple_getitem.lookup,ht.typeIs,?_⟩;refine HT.getItem_tuple_cut ht hs pl pu (by rw [hlen];exact hw) ?_ (by rw [hlen];exact hz);rw [hlen];refine ⟨.ref s.heap.objs.size,_,I.laid (t':=s.toks) (o:=.tup (J1z xs lo hi)) (fun b ob q=>qh _ q) (zv _) ?_,rfl,q _ (I.hok.fresh (zv _))⟩;exact ⟨zG (J4f xs lo hi) hz,_,(r.drop (HT.sIx xs.length 0 lo)).take (HT.sIx xs.length xs.length hi - HT.sIx xs.length 0 lo),IsTup.new _ _⟩
def JeF (K:PySem.W.Frag):R2:=fun x y H Q=>∃ a b xs ys,x=.ref a/\y=.ref b/\SqT K H a xs/\SqT K H b ys/\xs≠[]/\xs.length+ys.length<=sizeLine /\
 (ys=[]->Q (.ref a) H)/\(ys≠[]->∀ p,H p=none->Q (.ref p) (upd H p (.tup (xs++ys))))
theorem Vals.nil_iff {xs:List V}{us:List Value}(r:Vals xs us):us=[]↔xs=[]:=by
 cases r with
 | nil=>simp
 | cons _ _=>simp
theorem JcQ:OpR X (binaryOp .Add) (JeF X.K):=by
 intro pins s σ H x y v u Q I rx ry h;obtain ⟨a,b,xs,ys,rfl,rfl,ha,hb,hx,hz,q1,q2⟩:=h;cases rx;cases ry;obtain ⟨its,r1,p1,_⟩:=I.tuple ha;obtain ⟨its2,r2,p2,_⟩:=I.tuple hb;refine HT.cat_tup p1 p2 (fun z=>hx (r1.nil_iff.mp z)) (fun z=>⟨.ref a,H,I,rfl,q1 (r2.nil_iff.mp z)⟩) (fun z=>?_) (by rw [<- r1.length,<- r2.length];exact hz);refine ⟨.ref s.heap.objs.size,_,I.laid (t':=s.toks) (o:=.tup (xs++ys)) (fun b ob q=>qh _ q) (zv _) ?_,rfl,q2 (fun w=>z (r2.nil_iff.mpr w)) _ (I.hok.fresh (zv _))⟩;exact ⟨by rw [zQ];exact hz,_,r1.append r2,IsTup.new _ _⟩
end
def ixN (n:Nat)(i:Int):Option Nat:=if 0<=i then (if i<n then some i.toNat else none) else if -(n:Int)<=i then some (i+n).toNat else none
def atI {α:Type}(xs:List α)(i:Int):Option α:=(ixN xs.length i).bind fun j=>xs[j]?
theorem Jd5 {n:Nat}{i:Int}{j:Nat}(h:ixN n i=some j):seqIndex? i n=some j/\j<n/\-(n:Int)<=i/\i<n:=by
 unfold ixN at h;by_cases h0:0<=i
 ·rw [zu h0] at h
  by_cases h1:i<n
  ·rw [zu h1] at h
   have e:i.toNat=j:=zA h;exact ⟨by rw [seqIndex_of h0 h1,e],by omega,by omega,h1⟩
  ·rw [zt h1] at h;cases h
 ·rw [zt h0] at h
  by_cases h1:-(n:Int)<=i
  ·rw [zu h1] at h
   have e:(i+n).toNat=j:=zA h;exact ⟨by rw [seqIndex_neg (by omega) h1,e],by omega,h1,by omega⟩
  ·rw [zt h1] at h;cases h
theorem J7h {α:Type}{xs:List α}{i:Int}{v:α}(h:atI xs i=some v):∃ j,seqIndex? i xs.length=some j/\xs[j]?=some v/\j<xs.length/\-(xs.length:Int)<=i/\i<xs.length:=by
 unfold atI at h;cases e:ixN xs.length i with
 | none=>rw [e] at h;cases h
 | some j =>
   rw [e] at h;obtain ⟨h1,h2,h3,h4⟩:=Jd5 e;exact ⟨j,h1,h,h2,h3,h4⟩
theorem Jf {α:Type}{xs:List α}{j:Nat}{v:α}(h:xs[j]?=some v):atI xs (j:Int)=some v:=by
 have hj:j<xs.length:=(zK.mp h).1;have e:ixN xs.length (j:Int)=some j:=by
  unfold ixN;rw [zu (by omega),zu (by omega)];simp
 unfold atI;rw [e];exact h
def Jdk (b:Expr):Prop:=∀ o i,subscripted b false o i=operate [o,i] (getItem o i)
def IxR (X:Cx)(r:R2):Prop :=
 ∀ (value slice:Expr) (pins:List (Addr×Obj)) (s:Shared) (σ:St) (H:Hp) (x y:V) (v u:Value) (Q:VK),Inv X pins σ H s->RelV x v->RelV y u->r x y H Q ->
   subscripted slice false v u=operate [v,u] (getItem v u)->wpAny (model X.prog X.w) X.A (subscriptTail value slice v u) (EP X pins σ Q) X.xe s
def MtR (X:Cx)(id:String)(r:V->List V->Hp->VK->Prop):Prop :=
 ∀ (pins:List (Addr×Obj)) (s:Shared) (σ:St) (H:Hp) (x:V) (xs:List V) (v:Value) (us:List Value) (Q:VK),Inv X pins σ H s->RelV x v->Vals xs us->r x xs H Q ->
   wpAny (model X.prog X.w) X.A (call (.builtin id) (v::us)) (EP X pins σ Q) X.xe s
section
variable {X:Cx}{a b:Expr}{ta tb:TE}{pos:Pos}
theorem Jj {r:R2}(hr:IxR X r)(ha:PE X a ta)(hb:PE X b tb)(hs:Jdk b):PE X (.Subscript a b pos) (tOp r ta tb):=by
 intro pins s σ H Q I h;exact Subscript_ (Jex ha hb I h fun v u s2 x y H2 I2 rx ry q=>hr a b pins s2 σ H2 x y v u Q I2 rx ry q (hs _ _))
def JdK (K:PySem.W.Frag):R2:=fun x y H Q=>∃ p xs i v,x=.ref p/\y=.int i/\SqL K H p xs/\atI xs i=some v/\Q v H
def J1K (K:PySem.W.Frag):R2:=fun x y H Q=>∃ p xs i v,x=.ref p/\y=.int i/\SqT K H p xs/\atI xs i=some v/\Q v H
def JeE:R2:=fun x y H Q=>∃ z i c,x=.str z/\y=.int i/\z.length<=sizeLine/\atI z.cps.toList i=some c/\Q (.str ⟨#[c]⟩) H
theorem Jd4:IxR X (JdK X.K):=by
 intro value slice pins s σ H x y v u Q I rx ry h hs;obtain ⟨p,xs,i,z,rfl,rfl,hq,he,q⟩:=h;cases rx;obtain ⟨t,rfl⟩:=ry;obtain ⟨its,r,pl,hz⟩:=I.list hq;obtain ⟨j,h1,h2,h3,h4,h5⟩:=J7h he;obtain ⟨w,ew,rw'⟩:=r.get h2;have hl:=r.length;have hn:=J5d;have fin:EP X pins σ Q w s:=⟨z,H,I,rw',q⟩;by_cases h0:0<=i
 ·have hj:i.toNat=j:=by
   rw [seqIndex_of h0 h5] at h1;exact zA h1
  exact item_listR pl.isList h0 (by omega) (by rw [hj];simpa using ew) fin hs
 ·have hj:(i+(its.toArray.size:Int)).toNat=j:=by
   rw [seqIndex_neg (by omega) h4] at h1;rw [zN,<- hl];exact zA h1
  exact subscriptTail_builtinR (x:=w) pl.isList.typeIs slot_list_getitem.lookup
   (wpAny_getItem_list_neg (Q:=fun r s'=>r=w/\EP X pins σ Q r s') pl.isList (by omega) (by rw [zN]<;>omega) (by omega) (by rw [hj];simpa using ew) ⟨rfl,fin⟩) hs
theorem Jej:IxR X (J1K X.K):=by
 intro value slice pins s σ H x y v u Q I rx ry h hs;obtain ⟨p,xs,i,z,rfl,rfl,hq,he,q⟩:=h;cases rx;obtain ⟨t,rfl⟩:=ry;obtain ⟨its,r,pl,hz⟩:=I.tuple hq;obtain ⟨j,h1,h2,h3,h4,h5⟩:=J7h he;obtain ⟨w,ew,rw'⟩:=r.get h2;have hl:=r.length;have hn:=J5d;have fin:EP X pins σ Q w s:=⟨z,H,I,rw',q⟩;exact subscriptTail_builtinR (x:=w) pl.typeIs slot_tuple_getitem.lookup
  (getItem_tuple (j:=j) (Q:=fun r s'=>r=w/\EP X pins σ Q r s') pl (by omega) (by omega) (by rw [zN,<- hl];exact h1) (by simpa using ew) ⟨rfl,fin⟩) hs
theorem J96:IxR X JeE:=by
 intro value slice pins s σ H x y v u Q I rx ry h hs;obtain ⟨z,i,c,rfl,rfl,hz,he,q⟩:=h;obtain ⟨t,rfl⟩:=rx;obtain ⟨t',rfl⟩:=ry;obtain ⟨j,h1,h2,h3,h4,h5⟩:=J7h he;have hl:z.cps.toList.length=z.length:=by simp [Str.length]
 rw [hl] at h1 h4 h5;have hn:=J5d;exact tail_any (typeIs_str s z t) slot_str_getitem.lookup (getItem_str (c:=c) (by
  have e1:decide (i < -(2 ^ 63:Int))=false:=zy (by omega);have e2:decide (i≥2 ^ 63)=false:=zy (by omega);rw [e1,e2,Bool.or_false]) (by rw [h1];simpa using h2) ⟨.str ⟨#[c]⟩,H,I.tok _,⟨_,rfl⟩,q⟩) hs
theorem J6u (lo hi:Option Int)(n:Nat):(sliceBounds lo hi none n).1=((HT.sIx n 0 lo:Nat):Int)/\(sliceBounds lo hi none n).2.1=((HT.sIx n n hi:Nat):Int)/\(sliceBounds lo hi none n).2.2=1:=by
 refine ⟨?_,?_,rfl⟩
 ·cases lo with
  | none=>simp [sliceBounds,HT.sIx]
  | some i =>
    simp only [sliceBounds,HT.sIx,Option.getD_none,show (1:Int) > 0 by decide,if_true];by_cases h:i<0
    ·simp only [h,if_true]<;>omega
    ·simp only [h,if_false]<;>omega
 ·cases hi with
  | none=>simp [sliceBounds,HT.sIx]
  | some i =>
    simp only [sliceBounds,HT.sIx,Option.getD_none,show (1:Int) > 0 by decide,if_true];by_cases h:i<0
    ·simp only [h,if_true]<;>omega
    ·simp only [h,if_false]<;>omega
theorem J5A (its:List Value)(lo hi:Option Int):slicePick its.toArray lo hi none=((its.drop (HT.sIx its.length 0 lo)).take (HT.sIx its.length its.length hi - HT.sIx its.length 0 lo)).toArray:=by
 obtain ⟨h1,h2,h3⟩:=J6u lo hi its.toArray.size;unfold slicePick;rw [h1,h2,h3];simp only [sliceRange_one,pick_run,zN]<;>rfl
def Jb0 (K:PySem.W.Frag):V->Option Int->Option Int->Hp->VK->Prop:=fun x lo hi H Q=>∃ a xs,x=.ref a/\SqL K H a xs/\∀ p,H p=none->Q (.ref p) (upd H p (.lst (J1z xs lo hi)))
theorem Jcu:SlR X (Jb0 X.K):=by
 intro pins s σ H x v vl vu lo hi sl Q I rx hs pl pu h;obtain ⟨a,xs,rfl,hx,q⟩:=h;cases rx;obtain ⟨its,r,ht,hz⟩:=I.list hx;have hlen:=r.length;refine ⟨"list",_,slot_list_getitem.lookup,ht.isList.typeIs,?_⟩;refine wpAny_getItem_list_slice ht.isList hs pl pu .none (by simp) ?_ (by rw [zN]<;>omega);rw [J5A,<- hlen];refine ⟨.ref s.heap.objs.size,_,I.laid (t':=s.toks) (o:=.lst (J1z xs lo hi)) (fun b ob q=>qh _ q) (zv _) ?_,rfl,q _ (I.hok.fresh (zv _))⟩;exact ⟨zG (J4f xs lo hi) hz,_,0,(r.drop (HT.sIx xs.length 0 lo)).take (HT.sIx xs.length xs.length hi - HT.sIx xs.length 0 lo),qi _ rfl⟩
def J35:V->Bool
 | .non=>true
 | .bl _=>true
 | .int _=>true
 | .str _=>true
 | _=>false
def eqV:V->V->Bool
 | .non,.non=>true
 | .bl a,.bl b=>a == b
 | .bl a,.int b=>(if a then 1 else 0) == b
 | .int a,.bl b=>a == (if b then 1 else 0)
 | .int a,.int b=>a == b
 | .str a,.str b=>a == b
 | _,_=>false
theorem Jer {A:Around}{s:Shared}{y x:V}{u v:Value}(ry:RelV y u)(rx:RelV x v)(fy:J35 y=true)(fx:J35 x=true):SeqAt.EqAt A s u v (eqV y x):=by
 cases y with
 | non =>
   cases ry;cases x with
   | non=>cases rx;exact SeqAt.EqAt.same _
   | bl b=>cases rx;exact SeqAt.EqAt.none_bool b
   | int b=>obtain ⟨t,rfl⟩:=rx;exact SeqAt.EqAt.none_int b t
   | str b=>obtain ⟨t,rfl⟩:=rx;exact SeqAt.EqAt.none_str b t
   | _=>exact absurd (show false=true from fx) zw
 | bl a =>
   cases ry;cases x with
   | non=>cases rx;exact SeqAt.EqAt.bool_none a
   | bl b=>cases rx;exact SeqAt.EqAt.bool_bool a b
   | int b=>obtain ⟨t,rfl⟩:=rx;exact SeqAt.EqAt.bool_int a b t
   | str b=>obtain ⟨t,rfl⟩:=rx;exact SeqAt.EqAt.bool_str a b t
   | _=>exact absurd (show false=true from fx) zw
 | int a =>
   obtain ⟨t',rfl⟩:=ry;cases x with
   | non=>cases rx;exact SeqAt.EqAt.int_none a t'
   | bl b=>cases rx;exact SeqAt.EqAt.int_bool a t' b
   | int b=>obtain ⟨t,rfl⟩:=rx;exact SeqAt.EqAt.int_int a t' b t
   | str b=>obtain ⟨t,rfl⟩:=rx;exact SeqAt.EqAt.int_str a t' b t
   | _=>exact absurd (show false=true from fx) zw
 | str a =>
   obtain ⟨t',rfl⟩:=ry;cases x with
   | non=>cases rx;exact SeqAt.EqAt.str_none a t'
   | bl b=>cases rx;exact SeqAt.EqAt.str_bool a t' b
   | int b=>obtain ⟨t,rfl⟩:=rx;exact SeqAt.EqAt.str_int a t' b t
   | str b=>obtain ⟨t,rfl⟩:=rx;exact SeqAt.EqAt.str_str a t' b t
   | _=>exact absurd (show false=true from fx) zw
 | _=>exact absurd (show false=true from fy) zw
def eqU (x:V)(u:Value):Bool:=match u with
 | .none=>eqV .non x
 | .bool b=>eqV (.bl b) x
 | .int i _=>eqV (.int i) x
 | .str z _=>eqV (.str z) x
 | _=>false
theorem JbM {x y:V}{u:Value}(r:RelV y u)(f:J35 y=true):eqU x u=eqV y x:=by
 cases y with
 | non=>cases r;rfl
 | bl b=>cases r;rfl
 | int i=>obtain ⟨t,rfl⟩:=r;rfl
 | str z=>obtain ⟨t,rfl⟩:=r;rfl
 | _=>exact absurd (show false=true from f) zw
theorem J3M {x:V}:∀ {xs:List V} {us:List Value},Vals xs us->xs.all J35=true->us.any (eqU x)=xs.any fun y=>eqV y x
 | _,_,.nil,_=>rfl
 | y::xs,u::us,.cons r t,f=>by
   rw [all_cons,Bool.and_eq_true] at f;rw [any_cons,any_cons,JbM r f.1,J3M t f.2]
theorem J2I {A:Around}{s:Shared}{x:V}{v:Value}(rx:RelV x v)(fx:J35 x=true):∀ {xs:List V} {us:List Value},Vals xs us->xs.all J35=true->∀ u∈us,SeqAt.EqAt A s u v (eqU x u)
 | _,_,.nil,_=>fun u hu=>by cases hu
 | y::xs,u::us,.cons r t,f=>fun u' hu=>by
   rw [all_cons,Bool.and_eq_true] at f;rcases zU.mp hu with rfl | hu
   ·rw [JbM r f.1];exact Jer r rx f.1 fx
   ·exact J2I rx fx t f.2 u' hu
def inV (x:V)(xs:List V):Bool:=xs.any fun y=>eqV y x
def rIn (K:PySem.W.Frag)(neg:Bool):R2:=fun x y H Q=>∃ p xs,y=.ref p/\(SqL K H p xs\/SqT K H p xs)/\J35 x=true/\xs.all J35=true/\Q (.bl (if neg then !inV x xs else inV x xs)) H
theorem Ja8:OpR X (compareOp .In) (rIn X.K false):=by
 intro pins s σ H x y v u Q I rx ry h;obtain ⟨p,xs,rfl,hq,fx,fs,q⟩:=h;cases ry;rcases hq with hq | hq
 ·obtain ⟨its,r,pl,hz⟩:=I.list hq
  refine SeqAt.in_listAt (eqU x) pl.isList (fun w hw=>J2I rx fx r fs w (by simpa using hw)) ⟨.bl _,H,I,rfl,?_⟩;rw [show its.toArray.any (eqU x)=its.any (eqU x) by simp,J3M r fs];exact q
 ·obtain ⟨its,r,pl,hz⟩:=I.tuple hq
  refine SeqAt.in_tupleAt (eqU x) pl (fun w hw=>J2I rx fx r fs w (by simpa using hw)) ⟨.bl _,H,I,rfl,?_⟩;rw [show its.toArray.any (eqU x)=its.any (eqU x) by simp,J3M r fs];exact q
theorem J6L:OpR X (compareOp .NotIn) (rIn X.K true):=by
 intro pins s σ H x y v u Q I rx ry h;obtain ⟨p,xs,rfl,hq,fx,fs,q⟩:=h;cases ry;rcases hq with hq | hq
 ·obtain ⟨its,r,pl,hz⟩:=I.list hq
  refine SeqAt.notIn_listAt (eqU x) pl.isList (fun w hw=>J2I rx fx r fs w (by simpa using hw)) ⟨.bl _,H,I,rfl,?_⟩;rw [show its.toArray.any (eqU x)=its.any (eqU x) by simp,J3M r fs];exact q
 ·obtain ⟨its,r,pl,hz⟩:=I.tuple hq
  refine SeqAt.notIn_tupleAt (eqU x) pl (fun w hw=>J2I rx fx r fs w (by simpa using hw)) ⟨.bl _,H,I,rfl,?_⟩;rw [show its.toArray.any (eqU x)=its.any (eqU x) by simp,J3M r fs];exact q
theorem J7d:J03 X (.builtin "len") (fun xs H Q=>∃ p ys,xs=[.ref p]/\(SqL X.K H p ys\/SqT X.K H p ys)/\Q (.int ys.length) H):=by
 intro pins s σ H xs us Q I r h;obtain ⟨p,ys,rfl,hq,q⟩:=h;obtain ⟨u,rfl,rx⟩:=J0w r;cases rx;have hn:=J5d;rcases hq with hq | hq
 ·obtain ⟨its,r',pl,hz⟩:=I.list hq
  have hlen:=r'.length;exact Calls.call_len_list pl.isList (by simp only [zN]<;>omega) ⟨.int ys.length,H,I.tok _,⟨s.toks+1,by rw [zN,hlen]⟩,q⟩
 ·obtain ⟨its,r',pl,hz⟩:=I.tuple hq
  have hlen:=r'.length;exact len_tuple pl (by simp only [zN]<;>omega) ⟨.int ys.length,H,I.tok _,⟨s.toks+1,by rw [zN,hlen]⟩,q⟩
theorem J1l:J03 X (.builtin "len") (fun xs H Q=>∃ z,xs=[.str z]/\z.length<=sizeLine/\Q (.int z.length) H):=by
 intro pins s σ H xs us Q I r h;obtain ⟨z,rfl,hz,q⟩:=h;obtain ⟨u,rfl,t,rfl⟩:=J0w r;have hn:=J5d;exact len_str (by omega) ⟨.int z.length,H,I.tok _,⟨_,rfl⟩,q⟩
theorem J7c:J03 X (.type "list") (fun xs H Q=>∃ p ys,xs=[.ref p]/\(SqL X.K H p ys\/SqT X.K H p ys)/\∀ l,H l=none->Q (.ref l) (upd H l (.lst ys))):=by
 intro pins s σ H xs us Q I r h;obtain ⟨p,ys,rfl,hq,q⟩:=h;obtain ⟨u,rfl,rx⟩:=J0w r;cases rx;have fin:∀ (its:List Value),Vals ys its->ys.length<=sizeLine->∀ (h':Heap) (c':Nat),(∀ b o',s.heap.get? b=some o'->h'.get? b=some o') ->
  h'.get? s.heap.objs.size=some { cls:=.type "list",dict:=none,data:=.seq its.toArray c',slots:=#[] }->EP X pins σ Q (.ref s.heap.objs.size) { s with heap:=h' }:=fun its r' hz h' c' kp e =>
  ⟨.ref s.heap.objs.size,_,I.laid (t':=s.toks) kp (zv _) (show ObjOk X.prog X.w _ h' _ (.lst ys) from ⟨hz,its,c',r',e⟩),rfl,q _ (I.hok.fresh (zv _))⟩
 rcases hq with hq | hq
 ·obtain ⟨its,r',pl,hz⟩:=I.list hq
  have hlen:=r'.length;obtain ⟨o,ho,hc,n,hd⟩:=pl.isList;exact call_list_seq p (.inl rfl) ho hc hd (fun h' c' kp e=>fin its r' hz h' c' kp e) (by simp only [zN]<;>omega)
 ·obtain ⟨its,r',pl,hz⟩:=I.tuple hq
  have hlen:=r'.length;obtain ⟨o,ho,hc,n,hd⟩:=pl;exact call_list_seq p (.inr rfl) ho hc hd (fun h' c' kp e=>fin its r' hz h' c' kp e) (by simp only [zN]<;>omega)
theorem J5K:J03 X (.type "tuple") (fun xs H Q=>∃ p ys,xs=[.ref p]/\((SqL X.K H p ys/\∀ l,H l=none->Q (.ref l) (upd H l (.tup ys)))\/(SqT X.K H p ys/\Q (.ref p) H))):=by
 intro pins s σ H xs us Q I r h;obtain ⟨p,ys,rfl,h⟩:=h;obtain ⟨u,rfl,rx⟩:=J0w r;cases rx;rcases h with ⟨hq,q⟩ | ⟨hq,q⟩
 ·obtain ⟨its,r',pl,hz⟩:=I.list hq
  have hlen:=r'.length;refine call_tuple_list pl.isList (fun h' kp=>?_) (by simp only [zN]<;>omega);have I1:Inv X pins σ H { s with heap:=h' }:=I.kept (t':=s.toks) kp;have I2:Inv X pins σ (upd H h'.objs.size (.tup ys)) { s with heap:=h'.push { cls:=.type "tuple",data:=.seq its.toArray } } :=
   I1.laid (t':=s.toks) (fun b o e=>qh _ e) (zv _) (show ObjOk X.prog X.w _ _ _ (.tup ys) from ⟨hz,its,r',IsTup.new _ _⟩)
  exact ⟨.ref h'.objs.size,_,I2,rfl,q _ (I1.hok.fresh (zv _))⟩
 ·obtain ⟨its,r',pl,hz⟩:=I.tuple hq
  exact call_tuple_same pl ⟨.ref p,H,I,rfl,q⟩
def tyV (K:PySem.W.Frag)(T:String)(x:V)(H:Hp):Prop:=match x with
 | .str _=>T="str"
 | .int _=>T="int"
 | .ref p=>(T="list"/\∃ xs,SqL K H p xs)\/(T="tuple"/\∃ o,K.lookup p=some o/\o.cls=.type "tuple"/\o.dict=none) \/
  (T="dict"/\((∃ kvs,H p=some (.dK kvs))\/∃ kvs,H p=some (.dT kvs)))\/(T="set"/\∃ S n,H p=some (.set S n))
 | _=>False
theorem tyV_is {pins:List (Addr×Obj)}{σ:St}{H:Hp}{s:Shared}{T:String}{x:V}{v:Value}(I:Inv X pins σ H s)(r:RelV x v)(ty:tyV X.K T x H) :
 s.TypeIs v T/\∀ a,v=.ref a->∃ ob,s.heap.get? a=some ob/\ob.dict=none:=by
 cases x with
 | str z =>
   obtain ⟨t,rfl⟩:=r;cases (show T="str" from ty);exact ⟨typeIs_str s z t,fun _ e=>nomatch e⟩
 | int i =>
   obtain ⟨t,rfl⟩:=r;cases (show T="int" from ty);exact ⟨typeIs_int s i t,fun _ e=>nomatch e⟩
 | ref p =>
   cases r;rcases ty with ⟨rfl,xs,hq⟩ | ⟨rfl,o,hk,hc,hd⟩ | ⟨rfl,hk⟩ | ⟨rfl,S,n,hk⟩
   ·obtain ⟨its,_,pl,_⟩:=I.list hq
    refine ⟨pl.isList.typeIs,fun a e=>?_⟩;cases e;obtain ⟨o,n,e,c,hd,_⟩:=pl;exact ⟨o,e,hd⟩
   ·refine ⟨⟨o,I.kIn p o hk,hc⟩,fun a e=>?_⟩
    cases e;exact ⟨o,I.kIn _ o hk,hd⟩
   ·have z:∃ o,s.heap.get? p=some o/\o.ExactDict:=by
     rcases hk with ⟨kvs,hk⟩ | ⟨kvs,hk⟩
     ·obtain ⟨_,_,_,_,o,_,_,e,ex,_⟩:=I.hok p _ hk
      exact ⟨o,e,ex⟩
     ·obtain ⟨_,_,_,_,o,_,_,e,ex,_⟩:=I.hok p _ hk
      exact ⟨o,e,ex⟩
    obtain ⟨o,e,ex⟩:=z;refine ⟨⟨o,e,ex.1⟩,fun a e2=>?_⟩;cases e2;exact ⟨o,e,ex.2.1⟩
   ·obtain ⟨o,_,_,_,e,ex,_⟩:=I.hok p _ hk
    refine ⟨⟨o,e,ex.1⟩,fun a e2=>?_⟩;cases e2;exact ⟨o,e,ex.2.1⟩
 | _=>exact zH ty
def JaL (K:PySem.W.Frag)(T:String)(r:V->List V->Hp->VK->Prop)(to:TE):TE:=fun σ H Q=>to σ H fun x H1=>tyV K T x H1/\r x [] H1 Q
def tBM (K:PySem.W.Frag)(T:String)(r:V->List V->Hp->VK->Prop)(to:TE)(t:TA):TE:=fun σ H Q=>to σ H fun x H1=>tyV K T x H1/\t σ H1 fun xs H2=>r x xs H2 Q
variable {o e:Expr}{es:List Expr}{to:TE}{t:TA}{name:Str}{apos cpos:Pos}{T id:String}{r:V->List V->Hp->VK->Prop}
theorem JdW (pa:PlainAttrs T)(slot:Slot T name id)(hty:typeOf (.builtin id)=pure (.type "method_descriptor"))(hm:MtR X id r)(ho:PE X o to)
 (hbase:attributeBase o name X.env (eval o X.env)=eval o X.env:=by rfl) (hline:(apos.endLine == cpos.line)=true:=by rfl):PE X (.Call (.Attribute o name apos) [] [] cpos) (JaL X.K T r to):=by
 intro pins s σ H Q I h;refine wpAny_Call_method0_late hbase hline (thn (ho pins s σ H _ I h) fun v s1 ⟨x,H1,I1,r1,ty,q1⟩=>?_);obtain ⟨h1,h2⟩:=tyV_is I1 r1 ty;exact ⟨T,id,pa,slot,hty,h1,h2,Calls.callWith_builtin rfl (PySem.evalArgs_none (hm pins s1 σ H1 x [] v [] Q I1 r1 .nil q1))⟩
theorem JeG (pa:PlainAttrs T)(slot:Slot T name id)(hty:typeOf (.builtin id)=pure (.type "method_descriptor"))(hm:MtR X id r)(ho:PE X o to)(ha:PA X (e::es) t)
 (hbase:attributeBase o name X.env (eval o X.env)=eval o X.env:=by rfl)
 (hfew:((backTo cpos (starEach (e::es) X.env)).all (fun x=>!x.1)&&(backToKw cpos (keywordEach [] X.env)).all (fun x=>x.1.isSome)
  && decide ((e::es).length+([]:List Keyword).length+(if ([]:List Keyword).isEmpty then 0 else 1)<30))=true:=by rfl)
 (hline:(apos.endLine == cpos.line)=true:=by rfl) (hs:starEach (e::es) X.env=(false,eval e X.env)::starEach es X.env:=by rfl) (hplain:(backTo cpos (starEach es X.env)).any (·.1)=false:=by rfl) :
 PE X (.Call (.Attribute o name apos) (e::es) [] cpos) (tBM X.K T r to t):=by
 intro pins s σ H Q I h;refine wpAny_Call_method_late hbase hfew hline rfl (thn (ho pins s σ H _ I h) fun v s1 ⟨x,H1,I1,r1,ty,q1⟩=>?_);obtain ⟨h1,h2⟩:=tyV_is I1 r1 ty;refine ⟨T,id,pa,slot,hty,h1,h2,?_⟩;have hA:=ha cpos pins s1 σ H1 _ I1 q1;rw [hs] at hA ⊢;refine Calls.callWith_builtin (by show (false||(backTo cpos (starEach es X.env)).any (·.1))=false;rw [hplain]<;>rfl) (Calls.evalArgs_plain ?_);exact thn hA fun us s2 ⟨vs,H2,I2,r2,q2⟩=>hm pins s2 σ H2 x vs v us Q I2 r1 r2 q2
end
def MtM (X:Cx)(id:String)(r:V->List V->Hp->VK->Prop):Prop :=
 ∀ (pins:List (Addr×Obj)) (s:Shared) (σ:St) (H:Hp) (x:V) (xs:List V) (v:Value) (us:List Value) (Q:VK),Inv X pins σ H s->RelV x v->Vals xs us->r x xs H Q ->
   wpAny (model X.prog X.w) X.A (call (.builtin id) (v::us)) (EP X pins σ Q) X.xe s
theorem Vals.one:∀ {x:V} {us:List Value},Vals [x] us->∃ u,us=[u]/\RelV x u
 | _,_,.cons r .nil=>⟨_,rfl,r⟩
theorem Vals.zero:∀ {us:List Value},Vals [] us->us=[]
 | _,.nil=>rfl
theorem Vals.reverse {xs:List V}{us:List Value}(h:Vals xs us):Vals xs.reverse us.reverse:=by
 induction h with
 | nil=>exact .nil
 | cons r t ih=>rw [reverse_cons,reverse_cons];exact Vals.append ih (.cons r .nil)
section
variable {X:Cx}{pins:List (Addr×Obj)}{σ:St}{H:Hp}{s:Shared}{l b:Addr}{xs ys zs:List V}
theorem Inv.lset {its its':List Value}{n:Nat}{f:Array Value->Array Value}{t':Nat}(I:Inv X pins σ H s)(hH:H l=some (.lst xs))
 (e:s.heap.get? l=some { cls:=.type "list",data:=.seq its.toArray n }) (hf:f its.toArray=its'.toArray) (hv:Vals ys its') (hz:ys.length<=sizeLine) :
 Inv X pins σ (upd H l (.lst ys)) { s with heap:=s.heap.update l (Obj.mapSeq f),toks:=t' }:=by
 have q:=PySem.IsL.update e f;rw [hf] at q;refine I.write (x:=l) (e:=l) (by rw [hH];exact trivial) (.inl rfl) (fun b' u hb hu=>(qk s.heap (Obj.mapSeq f) (Ne.symm hb)).trans hu) ⟨_,q⟩ ?_;exact ⟨hz,its',_,hv,q⟩
theorem Inv.lnew {its:List Value}{t':Nat}(I:Inv X pins σ H s)(hv:Vals ys its)(hz:ys.length<=sizeLine) :
 Inv X pins σ (upd H s.heap.objs.size (.lst ys)) { s with heap:=s.heap.push { cls:=.type "list",data:=.seq its.toArray },toks:=t' } :=
 I.laid (fun _ _ q=>qh _ q) (zv _) ⟨hz,its,0,hv,qi _ rfl⟩
theorem Inv.fresh (I:Inv X pins σ H s):H s.heap.objs.size=none:=I.hok.fresh (zv _)
theorem Inv.lstM (I:Inv X pins σ H s)(hH:H l=some (.lst xs)):xs.length<=sizeLine/\∃ (its:List Value) (n:Nat),Vals xs its/\xs.length=its.length/\s.heap.get? l=some { cls:=.type "list",data:=.seq its.toArray n }:=by
 obtain ⟨z,its,n,r,e⟩:=I.hok l _ hH;exact ⟨z,its,n,r,r.length,e⟩
end
section
variable {X:Cx}
def J4B:V->List V->Hp->VK->Prop:=fun x vs H Q=>∃ l xs y,x=.ref l/\vs=[y]/\H l=some (.lst xs)/\xs.length<sizeLine/\Q .non (upd H l (.lst (xs++[y])))
theorem J0r:MtM X "list.append" J4B:=by
 intro pins s σ H x vs v us Q I rx rv h;obtain ⟨l,xs,y,rfl,rfl,hH,hz,q⟩:=h;cases rx;obtain ⟨u,rfl,ru⟩:=rv.one;obtain ⟨z,its,n,r,hl,e⟩:=I.lstM hH;refine call_meets F.slot_list_append ⟨_,e,rfl⟩ F.entry_list_append (F.args_list_append_2 _ _) (PySem.list_append l its.toArray n u (by rw [zN];omega)) ⟨e,?_⟩;refine ⟨.non,_,I.lset (its':=its++[u]) hH e (by simp) (r.append (.cons ru .nil)) ?_,rfl,q⟩;rw [zQ,length_singleton];omega
def JdL:V->List V->Hp->VK->Prop:=fun x vs H Q=>∃ l xs,x=.ref l/\vs=[]/\H l=some (.lst xs)/\Q .non (upd H l (.lst []))
theorem Jbq:MtM X "list.clear" JdL:=by
 intro pins s σ H x vs v us Q I rx rv h;obtain ⟨l,xs,rfl,rfl,hH,q⟩:=h;cases rx;have hus:=rv.zero;subst hus;obtain ⟨z,its,n,r,hl,e⟩:=I.lstM hH;refine call_meets F.slot_list_clear ⟨_,e,rfl⟩ F.entry_list_clear (F.args_list_clear_1 _) (AutoSeq1.list_clear_list_0 l its.toArray n (by rw [zN];omega)) ⟨e,?_⟩;exact ⟨.non,_,I.lset (its':=[]) (ys:=[]) hH e rfl .nil (zF _),rfl,q⟩
def Jfb:R2:=fun x y H Q=>∃ l b xs zs,x=.ref l/\y=.ref b/\H l=some (.lst xs)/\H b=some (.lst zs)/\xs.length+zs.length<=sizeLine/\∀ p,H p=none->Q (.ref p) (upd H p (.lst (xs++zs)))
theorem Jbi:OpR X (binaryOp .Add) Jfb:=by
 intro pins s σ H x y v u Q I rx ry h;obtain ⟨l,b,xs,zs,rfl,rfl,hH,hB,hz,q⟩:=h;cases rx;cases ry;obtain ⟨z,its,n,r,hl,e⟩:=I.lstM hH;obtain ⟨z2,its2,n2,r2,hl2,e2⟩:=I.lstM hB;refine PySem.P.add_list e e2 ?_ (by rw [zN,zN];omega);have ea:its.toArray++its2.toArray=(its++its2).toArray:=by simp
 rw [ea];exact ⟨.ref _,_,I.lnew (t':=s.toks) (r.append r2) (by rw [zQ];omega),rfl,q _ I.fresh⟩
end
section
variable {κ:Type}[DecidableEq κ]
def JG (kvs:List (κ×V))(k:κ):Option V:=(kvs.find? fun kv=>decide (kv.1=k)).map (·.2)
def J0k (kvs:List (κ×V))(k:κ)(v:V):List (κ×V) :=
 if (kvs.any fun kv=>decide (kv.1=k))=true then kvs.map (fun kv=>if kv.1=k then (kv.1,v) else kv) else kvs++[(k,v)]
def J2K (kvs:List (κ×V))(k:κ):List (κ×V):=kvs.filter fun kv=>decide (kv.1≠k)
theorem J0x {p:κ×V}{r:List (κ×V)}{k:κ}(e:p.1=k):JG (p::r) k=some p.2:=by simp [JG,List.find?_cons,e]
theorem J0y {p:κ×V}{r:List (κ×V)}{k:κ}(e:¬ p.1=k):JG (p::r) k=JG r k:=by simp [JG,List.find?_cons,e]
theorem J1m (k:κ):∀ kvs:List (κ×V),(kvs.any fun kv=>decide (kv.1=k))=(JG kvs k).isSome
 | []=>rfl
 | p::r=>by
   rw [any_cons];by_cases e:p.1=k
   ·simp only [J0x e,zx e,Bool.true_or,Option.isSome_some]
   ·rw [J0y e,zy e,Bool.false_or];exact J1m k r
theorem J7l (k j:κ)(y:V):∀ kvs:List (κ×V),JG (kvs.map fun kv=>if kv.1=k then (kv.1,y) else kv) j=(JG kvs j).map fun x=>if j=k then y else x
 | []=>rfl
 | p :: r=>by
   have ih:=J7l k j y r;rw [zV];by_cases h:p.1=k
   ·rw [zu h]
    by_cases e:p.1=j
    ·rw [J0x (p:=(p.1,y)) e,J0x e,Option.map_some,zu (e.symm.trans h)]
    ·rw [J0y (p:=(p.1,y)) e,J0y e,ih]
   ·rw [zt h]
    by_cases e:p.1=j
    ·rw [J0x (p:=p) e,J0x e,Option.map_some,zt (fun z=>h (e.trans z))]
    ·rw [J0y (p:=p) e,J0y e,ih]
theorem valV_snoc (k j:κ)(y:V):∀ kvs:List (κ×V),JG kvs k=none->JG (kvs++[(k,y)]) j=if j=k then some y else JG kvs j
 | [],_=>by
   by_cases e:k=j
   ·rw [zu e.symm];exact J0x (p:=(k,y)) e
   ·rw [zt (fun z=>e z.symm)];exact J0y (p:=(k,y)) e
 | p::r,hn=>by
   rw [cons_append];have hk:¬ p.1=k:=fun z=>by rw [J0x z] at hn;cases hn
   rw [J0y hk] at hn;have ih:=valV_snoc k j y r hn;by_cases e:p.1=j
   ·rw [J0x e,J0x e,zt (fun z=>hk (e.trans z))]
   ·rw [J0y e,J0y e,ih]
theorem J7k (kvs:List (κ×V))(k j:κ)(y:V):JG (J0k kvs k y) j=if j=k then some y else JG kvs j:=by
 unfold J0k;by_cases a:(kvs.any fun kv=>decide (kv.1=k))=true
 ·rw [zu a,J7l]
  rw [J1m] at a;by_cases e:j=k
  ·obtain ⟨x,hx⟩:=Option.isSome_iff_exists.mp a
   rw [zu e,e,hx,Option.map_some,zu rfl]
  ·rw [zt e]
   cases JG kvs j with
   | none=>rfl
   | some x=>rw [Option.map_some,zt e]
 ·rw [zt a]
  refine valV_snoc k j y kvs ?_;rw [J1m] at a;cases q:JG kvs k with
  | none=>rfl
  | some x=>rw [q] at a;exact (a rfl).elim
theorem J0O (kvs:List (κ×V))(k:κ)(v:V):(J0k kvs k v).length<=kvs.length+1:=by
 unfold J0k
 split
 ·rw [zL];omega
 ·rw [zQ,length_cons,length_nil];omega
theorem putK_new {kvs:List (κ×V)}{k:κ}(v:V)(h:JG kvs k=none):J0k kvs k v=kvs++[(k,v)]:=by
 unfold J0k;rw [J1m,h];exact zt (by decide)
theorem RelO.isSome_eq {o:Option V}{u:Option Value}(r:RelO o u):o.isSome=u.isSome:=by
 cases o with
 | none=>cases u with
   | none=>rfl
   | some _=>exact (show False from r).elim
 | some _=>cases u with
   | none=>exact (show False from r).elim
   | some _=>rfl
theorem KV.val {kvs:List (κ×V)}{vs:List (κ×Value)}(r:KV kvs vs)(k:κ):RelO (JG kvs k) (valueAt vs k):=by
 unfold KV at r
 induction r with
 | nil=>exact True.intro
 | @cons p q ps qs h t ih =>
   obtain ⟨h1,h2⟩:=h;by_cases e:p.1=k
   ·have e':q.1=k:=h1.symm.trans e
    have b:valueAt (q::qs) k=some q.2:=by simp [valueAt,List.find?_cons,e']
    rw [J0x e,b];exact h2
   ·have e':¬ q.1=k:=fun z=>e (h1.trans z)
    have b:valueAt (q::qs) k=valueAt qs k:=by simp [valueAt,List.find?_cons,e']
    rw [J0y e,b];exact ih
theorem KV.any {kvs:List (κ×V)}{vs:List (κ×Value)}(r:KV kvs vs)(k:κ):(kvs.any fun kv=>decide (kv.1=k))=vs.any fun kv=>decide (kv.1=k):=by
 unfold KV at r
 induction r with
 | nil=>rfl
 | cons h t ih=>rw [any_cons,any_cons,ih,h.1]
theorem KV.repl {kvs:List (κ×V)}{vs:List (κ×Value)}(r:KV kvs vs)(k:κ){y:V}{u:Value}(ry:RelV y u) :
 KV (kvs.map fun kv=>if kv.1=k then (kv.1,y) else kv) (vs.map fun kv=>if kv.1=k then (kv.1,u) else kv):=by
 unfold KV at r ⊢
 induction r with
 | nil=>exact .nil
 | @cons p q ps qs h t ih =>
   rw [zV,zV];refine .cons ?_ ih;obtain ⟨h1,h2⟩:=h;by_cases e:p.1=k
   ·rw [zu e,zu (h1.symm.trans e)];exact ⟨h1,ry⟩
   ·rw [zt e,zt (fun z=>e (h1.trans z))];exact ⟨h1,h2⟩
theorem KV.put {kvs:List (κ×V)}{vs:List (κ×Value)}(r:KV kvs vs)(k:κ){y:V}{u:Value}(ry:RelV y u):KV (J0k kvs k y) (stored vs k u):=by
 unfold J0k stored;rw [r.any k];by_cases e:(vs.any fun kv=>decide (kv.1=k))=true
 ·rw [zu e,zu e];exact r.repl k ry
 ·rw [zt e,zt e];exact Paired.snoc r ⟨rfl,ry⟩
theorem KV.drop {kvs:List (κ×V)}{vs:List (κ×Value)}(r:KV kvs vs)(k:κ):KV (J2K kvs k) (without vs k):=by
 unfold KV at r ⊢;unfold J2K without
 induction r with
 | nil=>exact .nil
 | @cons p q ps qs h t ih =>
   obtain ⟨h1,h2⟩:=h;rw [filter_cons,filter_cons];by_cases e:p.1=k
   ·have a:¬ decide (p.1≠k)=true:=by simp [e]
    have b:¬ decide (q.1≠k)=true:=by simp [h1.symm.trans e]
    rw [zt a,zt b];exact ih
   ·have e':¬ q.1=k:=fun z=>e (h1.trans z)
    have a:decide (p.1≠k)=true:=by simp [e]
    have b:decide (q.1≠k)=true:=by simp [e']
    rw [zu a,zu b];exact .cons ⟨h1,h2⟩ ih
theorem KV.keys {kvs:List (κ×V)}{vs:List (κ×Value)}(r:KV kvs vs):kvs.map (·.1)=vs.map (·.1):=by
 unfold KV at r
 induction r with
 | nil=>rfl
 | cons h t ih=>rw [zV,zV,ih,h.1]
theorem KV.length {kvs:List (κ×V)}{vs:List (κ×Value)}(r:KV kvs vs):kvs.length=vs.length:=Paired.length r
theorem JbQ (kvs:List (κ×V))(k:κ):(J2K kvs k).length<=kvs.length:=length_filter_le _ _
end
theorem J4e {P:Program}{w:World}{k:Key}{u:Value}(r:RelV (kV k) u):(J01 P w).is k u=true:=by
 cases k with
 | inl i=>obtain ⟨t,e⟩:=(show ∃ t,u=Value.int i t from r);subst e;exact J7Z P w i t
 | inr x=>obtain ⟨t,e⟩:=(show ∃ t,u=Value.str x t from r);subst e;exact J7Y P w x t
theorem JeL {P:Program}{w:World}{k:Jq}{u:Value}(r:RelV (nV k) u):(J0j P w).is k u=true:=by
 cases k with
 | none=>cases (show u=Value.none from r);rfl
 | some k=>exact J4e (P:=P) (w:=w) (k:=k) r
theorem J5W {P:Program}{w:World}:∀ {ks:List Jq} {us:List Value},Vals (ks.map nV) us->ItemsAre (J0j P w) ks us
 | [],_,r=>by rw [map_nil] at r;cases r;exact .nil
 | k::ks,_,r=>by
   rw [zV] at r;cases r with
   | cons h t=>exact .cons (JeL h) (J5W t)
abbrev KT (H:Hp):List (List Jq×V)->List (List Jq×Addr×Value)->Prop:=Paired fun p q=>p.1=q.1/\H q.2.1=some (.tup (p.1.map nV))/\RelV p.2 q.2.2
theorem KT.val {H:Hp}{kvs:List (List Jq×V)}{xs:List (List Jq×Addr×Value)}(r:KT H kvs xs)(k:List Jq):RelO (JG kvs k) ((atKey xs k).map (·.2)):=by
 induction r with
 | nil=>exact True.intro
 | @cons p q ps qs h t ih =>
   obtain ⟨h1,_,h2⟩:=h;by_cases e:p.1=k
   ·have e':q.1=k:=h1.symm.trans e
    have b:atKey (q::qs) k=some q.2:=by simp [atKey,List.find?_cons,e']
    rw [J0x e,b];exact h2
   ·have e':¬ q.1=k:=fun z=>e (h1.trans z)
    have b:atKey (q::qs) k=atKey qs k:=by simp [atKey,List.find?_cons,e']
    rw [J0y e,b];exact ih
theorem KT.repl {H:Hp}{kvs:List (List Jq×V)}{xs:List (List Jq×Addr×Value)}(r:KT H kvs xs)(k:List Jq){y:V}{u:Value}(ry:RelV y u) :
 KT H (kvs.map fun kv=>if kv.1=k then (kv.1,y) else kv) (xs.map (putAt k u)):=by
 induction r with
 | nil=>exact .nil
 | @cons p q ps qs h t ih =>
   rw [zV,zV];refine .cons ?_ ih;obtain ⟨h1,h2,h3⟩:=h;unfold putAt;by_cases e:p.1=k
   ·rw [zu e,zu (h1.symm.trans e)];exact ⟨h1,h2,ry⟩
   ·rw [zt e,zt (fun z=>e (h1.trans z))];exact ⟨h1,h2,h3⟩
theorem KT.put {H:Hp}{kvs:List (List Jq×V)}{xs:List (List Jq×Addr×Value)}(r:KT H kvs xs)(k:List Jq){b:Addr}{y:V}{u:Value}(hb:H b=some (.tup (k.map nV)))(ry:RelV y u) :
 KT H (J0k kvs k y) (storedH xs k b u):=by
 have e:(kvs.any fun kv=>decide (kv.1=k))=(atKey xs k).isSome:=by
  rw [J1m,(r.val k).isSome_eq,Option.isSome_map]
 unfold J0k storedH;rw [e];by_cases q:(atKey xs k).isSome=true
 ·rw [zu q,zu q];exact r.repl k ry
 ·rw [zt q,zt q];exact Paired.snoc r ⟨rfl,hb,ry⟩
theorem KT.keeps {H H':Hp}{kvs:List (List Jq×V)}{xs:List (List Jq×Addr×Value)}(r:KT H kvs xs)(ht:∀ b ys,H b=some (.tup ys)->H' b=some (.tup ys)):KT H' kvs xs :=
 Paired.mapP r fun _ _ z=>⟨z.1,ht _ _ z.2.1,z.2.2⟩
section
variable {P:Program}{w:World}{H:Hp}{h:Heap}{a:Addr}
theorem Jdr {u:HO}(ok:HOk P w H h)(e:Rd H a u):ObjOk P w H h a u:=e.ok ok
theorem J5X {kvs:List (Key×V)}(ok:HOk P w H h)(e:Rd H a (.dK kvs)):kvs.length<=sizeLine/\(a == sysModules)=false/\∃ vs,KV kvs vs/\h.DictOf (J01 P w) a vs :=
 show ObjOk P w H h a (.dK kvs) from Jdr ok e
theorem J89 {kvs:List (Key×V)}(ok:HOk P w H h)(e:H a=some (.dK kvs)):kvs.length<=sizeLine/\(a == sysModules)=false/\∃ vs,KV kvs vs/\h.DictOf (J01 P w) a vs:=J5X ok (.inl e)
theorem J3m {ks:List Jq}(ok:HOk P w H h)(e:H a=some (.tup (ks.map nV))):(tupleKind (J0j P w)).is h ks a:=by
 obtain ⟨_,its,r,o,h1,h2,n,h3⟩:=(show ObjOk P w H h a (.tup (ks.map nV)) from ok a _ e);exact ⟨o,its.toArray,n,h1,h2,h3,by simpa using J5W r⟩
theorem dt_rd {kvs:List (List Jq×V)}(ok:HOk P w H h)(e:Rd H a (.dT kvs)):kvs.length<=sizeLine/\(a == sysModules)=false /\
 ∃ xs,KT H kvs xs/\h.DictOfH (tupleKind (J0j P w)) a xs:=by
 obtain ⟨z,y,xs,r,o,es,ep,h1,h2,h3,h4,h5⟩:=(show ObjOk P w H h a (.dT kvs) from Jdr ok e);refine ⟨z,y,xs,r,o,es,ep,h1,h2,h3,h4,fun x hx=>?_,h5⟩;have all:∀ {l:List (List Jq×V)} {m:List (List Jq×Addr×Value)},KT H l m->∀ x∈m,(tupleKind (J0j P w)).is h x.1 x.2.1:=by
  intro l m q
  induction q with
  | nil=>intro x hx;exact nomatch hx
  | @cons p q ps qs hq t ih =>
    intro x hx;rcases zU.mp hx with e | hx
    ·subst e
     exact J3m ok (by rw [<- hq.1];exact hq.2.1)
    ·exact ih x hx
 exact all r x hx
theorem JbO {kvs:List (List Jq×V)}(ok:HOk P w H h)(e:H a=some (.dT kvs)):kvs.length<=sizeLine/\(a == sysModules)=false /\
 ∃ xs,KT H kvs xs/\h.DictOfH (tupleKind (J0j P w)) a xs:=dt_rd ok (.inl e)
end
def DGet (H:Hp)(a:Addr)(y:V)(r:Option V):Prop :=
 (∃ kvs k,Rd H a (.dK kvs)/\y=kV k/\r=JG kvs k)\/∃ kvs k b,Rd H a (.dT kvs)/\y=.ref b/\H b=some (.tup (k.map nV))/\r=JG kvs k
def DPut (H:Hp)(a:Addr)(y v:V)(H':Hp):Prop :=
 (∃ kvs k,H a=some (.dK kvs)/\y=kV k/\kvs.length<sizeLine/\H'=upd H a (.dK (J0k kvs k v))) \/
 ∃ kvs k b,H a=some (.dT kvs)/\y=.ref b/\H b=some (.tup (k.map nV))/\kvs.length<sizeLine/\H'=upd H a (.dT (J0k kvs k v))
theorem DGet.k {H:Hp}{a:Addr}{kvs:List (Key×V)}{k:Key}(e:H a=some (.dK kvs)):DGet H a (kV k) (JG kvs k):=.inl ⟨kvs,k,.inl e,rfl,rfl⟩
theorem DPut.k {H:Hp}{a:Addr}{kvs:List (Key×V)}{k:Key}{v:V}(e:H a=some (.dK kvs))(hl:kvs.length<sizeLine):DPut H a (kV k) v (upd H a (.dK (J0k kvs k v))):=.inl ⟨kvs,k,e,rfl,hl,rfl⟩
theorem DPut.t {H:Hp}{a b:Addr}{kvs:List (List Jq×V)}{k:List Jq}{v:V}(e:H a=some (.dT kvs))(eb:H b=some (.tup (k.map nV)))(hl:kvs.length<sizeLine) :
 DPut H a (.ref b) v (upd H a (.dT (J0k kvs k v))):=.inr ⟨kvs,k,b,e,rfl,eb,hl,rfl⟩
section
variable {X:Cx}{pins:List (Addr×Obj)}{σ:St}{H:Hp}{s:Shared}{a:Addr}{y v:V}{u r:Value}{o:Option V}{A:Around}{E:Value->Shared->Prop}
theorem Inv.big (I:Inv X pins σ H s):sysModules<s.heap.objs.size:=by
 have h:mainGlobals<s.heap.objs.size:=(I.mod.glob.keeps I.bk).lt;exact Nat.lt_trans (by decide) h
theorem Jar {Q:Value->Shared->Prop}(hu:A.units+1<cLine)(I:Inv X pins σ H s)(g:DGet H a y (some v))(ry:RelV y u)(h:∀ w' s',Inv X pins σ H s'->RelV v w'->Q w' s') :
 wpAny (model X.prog X.w) A (getItem (.ref a) u) Q E s:=by
 rcases g with ⟨kvs,k,e,ey,l⟩ | ⟨kvs,k,b,e,ey,eb,l⟩
 ·subst ey
  obtain ⟨z,hd,vs,rel,dd⟩:=J5X I.hok e;obtain ⟨w',hw,rw'⟩:=RelO.some_of (v:=v) (o:=valueAt vs k) (by rw [l];exact rel.val k);exact wpAny_getItem_of (J4e ry) dd.mapOf hw (h w' _ (I.tok _) rw')
 ·subst ey
  cases (show u=Value.ref b from ry);obtain ⟨z,hd,xs,rel,dd⟩:=dt_rd I.hok e;obtain ⟨w',hw,rw'⟩:=RelO.some_of (v:=v) (o:=(atKey xs k).map (·.2)) (by rw [l];exact rel.val k);obtain ⟨p,hp,hp2⟩:=Option.map_eq_some_iff.mp hw;refine wpAny_getItem_heap (tupleKind_room_in1 hu) (J3m I.hok eb) dd hp ?_;rw [hp2];exact h w' _ (I.tok _) rw'
theorem Jfe {Q:Value->Shared->Prop}(hu:A.units+1<cLine)(I:Inv X pins σ H s)(g:DGet H a y o)(ry:RelV y u)(h:∀ s',Inv X pins σ H s'->Q (.bool o.isSome) s') :
 wpAny (model X.prog X.w) A (compareOp .In u (.ref a)) Q E s:=by
 rcases g with ⟨kvs,k,e,ey,l⟩ | ⟨kvs,k,b,e,ey,eb,l⟩
 ·subst ey
  obtain ⟨z,hd,vs,rel,dd⟩:=J5X I.hok e;refine wpAny_in_of (J4e ry) hd dd.mapOf ?_;rw [<- (rel.val k).isSome_eq,<- l];exact h _ (I.tok _)
 ·subst ey
  cases (show u=Value.ref b from ry);obtain ⟨z,hd,xs,rel,dd⟩:=dt_rd I.hok e;refine wpAny_in_heap (tupleKind_room_in1 hu) (J3m I.hok eb) hd dd ?_;have q:=(rel.val k).isSome_eq;rw [Option.isSome_map] at q;rw [<- q,<- l];exact h _ (I.tok _)
theorem Jde {Q:Value->Shared->Prop}(hu:A.units+1<cLine)(I:Inv X pins σ H s)(g:DGet H a y o)(ry:RelV y u)(h:∀ s',Inv X pins σ H s'->Q (.bool (!o.isSome)) s') :
 wpAny (model X.prog X.w) A (compareOp .NotIn u (.ref a)) Q E s:=by
 rcases g with ⟨kvs,k,e,ey,l⟩ | ⟨kvs,k,b,e,ey,eb,l⟩
 ·subst ey
  obtain ⟨z,hd,vs,rel,dd⟩:=J5X I.hok e;refine wpAny_notIn_of (J4e ry) hd dd.mapOf ?_;rw [<- (rel.val k).isSome_eq,<- l];exact h _ (I.tok _)
 ·subst ey
  cases (show u=Value.ref b from ry);obtain ⟨z,hd,xs,rel,dd⟩:=dt_rd I.hok e;refine wpAny_notIn_heap (tupleKind_room_in1 hu) (J3m I.hok eb) hd dd ?_;have q:=(rel.val k).isSome_eq;rw [Option.isSome_map] at q;rw [<- q,<- l];exact h _ (I.tok _)
theorem J2T {h':Heap}{t':Nat}{ob:HO}(I:Inv X pins σ H s)(mu:Mut (H a))(hs:Heap.SameBut a s.heap h')(he:∃ q,h'.get? a=some q)(new:ObjOk X.prog X.w (upd H a ob) h' a ob) :
 Inv X pins σ (upd H a ob) { s with heap:=h',toks:=t' } :=
 I.write (x:=a) (e:=a) mu (.inl rfl) (fun b q hb z=>(hs.2 b hb).trans z) he new
theorem J76 {P:Program}{w:World}{H':Hp}{h':Heap}{kvs:List (Key×V)}{vs:List (Key×Value)}(z:kvs.length<=sizeLine)(hd:(a == sysModules)=false)(rel:KV kvs vs)(dd:h'.DictOf (J01 P w) a vs) :
 ObjOk P w H' h' a (.dK kvs):=⟨z,hd,vs,rel,dd⟩
theorem Jaq {H':Hp}{Q:Unit->Shared->Prop}(hu:A.units+1<cLine)(I:Inv X pins σ H s)(g:DPut H a y v H')(ry:RelV y u)(rv:RelV v r)(h:∀ s',Inv X pins σ H' s'->Q () s') :
 wpAny (model X.prog X.w) A (setItem (.ref a) u r) Q E s:=by
 rcases g with ⟨kvs,k,e,ey,l,eH⟩ | ⟨kvs,k,b,e,ey,eb,l,eH⟩
 ·subst ey eH
  obtain ⟨z,hd,vs,rel,dd⟩:=J89 I.hok e;have hz:vs.length<=sizeLine:=by rw [<- rel.length];exact z
  have hl:(J0k kvs k v).length<=sizeLine:=by have:=J0O kvs k v;omega
  refine wpAny_setItem_pairs (hsz:=hz) (J4e ry) dd fun h' dd' hs=>h _ ?_;have he:∃ q,h'.get? a=some q:=let ⟨q,_,_,hq,_⟩:=dd';⟨q,hq⟩;exact J2T I (by rw [e];exact True.intro) hs he (J76 hl hd (rel.put k rv) dd')
 ·subst ey eH
  cases (show u=Value.ref b from ry);obtain ⟨z,hd,xs,rel,dd⟩:=JbO I.hok e;have hz:xs.length<=sizeLine:=by rw [<- Paired.length rel];exact z
  have hl:(J0k kvs k v).length<=sizeLine:=by have:=J0O kvs k v;omega
  refine wpAny_setItem_heap (hsz:=hz) (tupleKind_room_in1 hu) (J3m I.hok eb) dd fun h' dd' hs=>h _ ?_;obtain ⟨q,es,ep,hq,h2,h3,h4,_,h5⟩:=dd';refine J2T I (by rw [e];exact True.intro) hs ⟨q,hq⟩ ⟨hl,hd,_,(rel.put k eb rv).keeps fun c ys ec=>?_,q,es,ep,hq,h2,h3,h4,h5⟩;rw [Jh (J1w ec e (fun z=>nomatch z))];exact ec
end
section
variable {X:Cx}{pins:List (Addr×Obj)}{σ:St}{H:Hp}{s:Shared}{a:Addr}{kvs:List (Key×V)}{k:Key}{u:Value}{A:Around}{E:Value->Shared->Prop}
theorem JeW {v:V}{more:List Value}{Q:Value->Shared->Prop}(I:Inv X pins σ H s)(e:H a=some (.dK kvs))(ry:RelV (kV k) u)(l:JG kvs k=some v)(hm:more=[]\/∃ x,more=[x])
 (h:∀ w' s',Inv X pins σ (upd H a (.dK (J2K kvs k))) s'->RelV v w'->Q w' s'):wpAny (model X.prog X.w) A (call (.builtin "dict.pop") (.ref a::u::more)) Q E s:=by
 obtain ⟨z,hd,vs,rel,dd⟩:=J89 I.hok e;obtain ⟨w',hw,rw'⟩:=RelO.some_of (v:=v) (o:=valueAt vs k) (by rw [<- l];exact rel.val k);have hp:(keyPart u).isSome=true:=by
  cases k with
  | inl i=>obtain ⟨t,q⟩:=(show ∃ t,u=Value.int i t from ry);subst q;rfl
  | inr x=>obtain ⟨t,q⟩:=(show ∃ t,u=Value.str x t from ry);subst q;rfl
 have ha:argsOk "dict.pop" ⟨.ref a::u::more,[]⟩:=by
  rcases hm with q | ⟨x,q⟩
  ·subst q;exact PySem.F.args_dict_pop_2 _ _
  ·subst q;exact PySem.F.args_dict_pop_3 _ _ _
 refine call_meetsIn PySem.F.slot_dict_pop dd.typeIs PySem.F.entry_dict_pop ha (meets_dict_pop_there (J01 X.prog X.w) a (J4e ry) more hm hp)
  ⟨vs,w',dd,by rw [<- rel.length];exact z,hw,fun h' dd' hs=>h w' _ ?_ rw'⟩
 have he:∃ q,h'.get? a=some q:=let ⟨q,_,_,hq,_⟩:=dd';⟨q,hq⟩;exact J2T I (by rw [e];exact True.intro) hs he (J76 (zG (JbQ kvs k) z) hd (rel.drop k) dd')
theorem JeX {Q:Value->Shared->Prop}(I:Inv X pins σ H s)(e:Rd H a (.dK kvs))(h:∀ t s',Inv X pins σ H s'->Q (.int kvs.length t) s'):wpAny (model X.prog X.w) A (call (.builtin "len") [.ref a]) Q E s:=by
 obtain ⟨z,hd,vs,rel,dd⟩:=J5X I.hok e;refine call_len_dict hd dd (by rw [<- rel.length];rw [sizeLine_eq] at z;omega) ?_;rw [<- rel.length];exact h _ _ (I.tok _)
end
def Jf0 (i:Expr):Prop:=∀ ov iv,subscripted i false ov iv=operate [ov,iv] (getItem ov iv)
theorem Jcs {prog:Program}{w:World}{A:Around}{E:Value->Shared->Prop}{s:Shared}{env:Env}{value slice:Expr}{pos:Pos}{T id:String}{Q:Value->Shared->Prop}
 (hl:typeLookup (.type T) "__getitem__"=pure (some (.builtin id))) (hs:Jf0 slice)
 (h:wpAny (model prog w) A (eval value env) (fun o s₁=>wpAny (model prog w) A (eval slice env) (fun i s₂=>s₂.TypeIs o T/\wpAny (model prog w) A (getItem o i) Q E s₂) E s₁) E s) :
 wpAny (model prog w) A (eval (.Subscript value slice pos) env) Q E s:=by
 refine Subscript_ (wpAny_mono h (fun o s₁ h₁=>wpAny_mono h₁ (fun i s₂ h₂=>?_) fun _ _ x=>x) fun _ _ x=>x);obtain ⟨hT,h₂⟩:=h₂;unfold subscriptTail;refine zq ?_;rw [getitemInPython_of_ne hT.not_modules];refine zq (wpAny_specialOf hT hl ?_);have fin:wpAny (model prog w) A (subscripted slice false o i) (fun r s₃=>wpAny (model prog w) A (letTemporaryGo value o r >>= fun _=>pure r) Q E s₃) E s₂:=by
  rw [hs o i];exact wpAny_operating (wpAny_mono h₂ (fun r s₃ h₃=>zq (wpAny_letTemporaryGo (zr h₃))) fun _ _ x=>x)
 first
  | exact zr (zq fin)
  | exact zq (zr (zq fin))
  | exact zq fin
theorem J8b {X:Cx}{pins:List (Addr×Obj)}{σ:St}{H:Hp}{s:Shared}{a:Addr}{y:V}{o:Option V}(I:Inv X pins σ H s)(g:DGet H a y o):s.TypeIs (.ref a) "dict":=by
 rcases g with ⟨kvs,k,e,_,_⟩ | ⟨kvs,k,b,e,_,_,_⟩
 ·obtain ⟨_,_,vs,_,dd⟩:=J5X I.hok e
  exact dd.typeIs
 ·obtain ⟨_,_,xs,_,dd⟩:=dt_rd I.hok e
  exact dd.typeIs
def J9m (td ty:TE):TE:=fun σ H Q=>td σ H fun x H1=>ty σ H1 fun y H2=>∃ a v,x=.ref a/\DGet H2 a y (some v)/\Q v H2
def Jcq (ty td:TE):TE:=fun σ H Q=>ty σ H fun y H1=>td σ H1 fun x H2=>∃ a o,x=.ref a/\DGet H2 a y o/\Q (.bl o.isSome) H2
def J4x (ty td:TE):TE:=fun σ H Q=>ty σ H fun y H1=>td σ H1 fun x H2=>∃ a o,x=.ref a/\DGet H2 a y o/\Q (.bl (!o.isSome)) H2
def J7J (td ty tv:TE):TS:=fun D σ H=>tv σ H fun v H1=>td σ H1 fun x H2=>ty σ H2 fun y H3=>∃ a H4,x=.ref a/\DPut H3 a y v H4/\D.nx σ H4
section
variable {X:Cx}{o i e value:Expr}{pos pos' tpos:Pos}{td ty tv:TE}
theorem JX (hu:X.A.units+1<cLine)(ho:PE X o td)(hi:PE X i ty)(hs:Jf0 i):PE X (.Subscript o i pos) (J9m td ty):=by
 intro pins s σ H Q I h;refine Jcs PySem.F.slot_dict_getitem.lookup hs (thn (ho pins s σ H _ I h) fun u s1 ⟨x,H1,I1,rx,q1⟩=>thn (hi pins s1 σ H1 _ I1 q1) fun iv s2 ⟨y,H2,I2,ry,a,v,ex,g,q2⟩=>?_);subst ex;obtain rfl:u=Value.ref a:=rx;exact ⟨J8b I2 g,Jar hu I2 g ry fun w' s3 I3 rw'=>⟨v,H2,I3,rw',q2⟩⟩
theorem JdX (hu:X.A.units+1<cLine)(hi:PE X i ty)(ho:PE X o td):PC X .In i o (Jcq ty td):=by
 intro pins s σ H Q I h;refine thn (hi pins s σ H _ I h) fun iv s1 ⟨y,H1,I1,ry,q1⟩=>thn (ho pins s1 σ H1 _ I1 q1) fun u s2 ⟨x,H2,I2,rx,a,ov,ex,g,q2⟩=>?_;subst ex;obtain rfl:u=Value.ref a:=rx;exact Jfe hu I2 g ry fun s3 I3=>⟨.bl ov.isSome,H2,I3,rfl,q2⟩
theorem Ja5 (hu:X.A.units+1<cLine)(hi:PE X i ty)(ho:PE X o td):PC X .NotIn i o (J4x ty td):=by
 intro pins s σ H Q I h;refine thn (hi pins s σ H _ I h) fun iv s1 ⟨y,H1,I1,ry,q1⟩=>thn (ho pins s1 σ H1 _ I1 q1) fun u s2 ⟨x,H2,I2,rx,a,ov,ex,g,q2⟩=>?_;subst ex;obtain rfl:u=Value.ref a:=rx;exact Jde hu I2 g ry fun s3 I3=>⟨.bl (!ov.isSome),H2,I3,rfl,q2⟩
theorem J2h (hu:X.A.units+1<cLine)(ho:PE X o td)(hi:PE X i ty)(hv:PE X value tv)(hs:swapsWith value (some (.Subscript o i pos')) pos.line X.env=pure false) :
 PS X (.Assign [.Subscript o i pos'] value pos) (J7J td ty tv):=by
 intro pins s σ H D I h;refine wpAny_Assign_Subscript (thn (hv pins s σ H _ I h) fun r s1 ⟨v,H1,I1,rv,q1⟩=>thn (ho pins s1 σ H1 _ I1 q1) fun u s2 ⟨x,H2,I2,rx,q2⟩=>thn (hi pins s2 σ H2 _ I2 q2) fun iv s3 ⟨y,H3,I3,ry,a,H4,ex,g,q3⟩=>?_) hs;subst ex;obtain rfl:u=Value.ref a:=rx;exact Jaq hu I3 g ry rv fun s4 I4=>⟨σ,H4,I4,q3⟩
end
theorem J8a {P:Program}{w:World}{H:Hp}(h:Heap)(hb:sysModules<h.objs.size):ObjOk P w H (h.push { cls:=.type "dict",data:=.dict #[] }) h.objs.size (.dK []) :=
 ⟨zF _,beq_eq_false_iff_ne.mpr (Ne.symm (zB hb)),[],.nil,Heap.DictOf.new h⟩
theorem JbP {P:Program}{w:World}{H:Hp}(h:Heap)(hb:sysModules<h.objs.size):ObjOk P w H (h.push { cls:=.type "dict",data:=.dict #[] }) h.objs.size (.dT []) :=
 ⟨zF _,beq_eq_false_iff_ne.mpr (Ne.symm (zB hb)),[],.nil,_,#[],0,qi _ rfl,⟨rfl,rfl,rfl⟩,rfl,rfl,nodup_nil⟩
def J6h:TE:=fun _ H Q=>∀ p,H p=none->Q (.ref p) (upd H p (.dK []))
section
variable {X:Cx}{pos:Pos}
theorem J3D:PE X (.Dict [] [] pos) J6h:=fun pins s σ H Q I h =>
 wpAny_Dict_empty ⟨.ref s.heap.objs.size,_,I.laid (a:=s.heap.objs.size) (o:=.dK []) (t':=s.toks) (fun _ _ q=>qh _ q) (zv _) (J8a s.heap I.big),rfl,h _ (I.hok.fresh (zv _))⟩
end
def J37:List (TE×TE)->St->Hp->(List (V×V)->Hp->Prop)->Prop
 | [],_,H,Q=>Q [] H
 | (tk,tv)::r,σ,H,Q=>tk σ H fun x H1=>tv σ H1 fun y H2=>J37 r σ H2 fun ps H3=>Q ((x,y)::ps) H3
abbrev VV:List (V×V)->List (Value×Value)->Prop:=Paired fun p q=>RelV p.1 q.1/\RelV p.2 q.2
def PPs (X:Cx)(pos:Pos)(keys:List (Option Expr))(values:List Expr)(trs:List (TE×TE)):Prop :=
 ∀ (pins:List (Addr×Obj)) (s:Shared) (σ:St) (H:Hp) (Q:List (V×V)->Hp->Prop),Inv X pins σ H s->J37 trs σ H Q ->
   wpAny (model X.prog X.w) X.A (evalPairs (pairTrees keys values X.env pos)) (fun vs s'=>∃ ps H',Inv X pins σ H' s'/\VV ps vs/\Q ps H') X.xe s
theorem J6H {X:Cx}{pos:Pos}:PPs X pos [] [] []:=fun pins s σ H Q I h=>pairTrees_nil_walk ⟨[],H,I,.nil,h⟩
theorem J1Y {X:Cx}{pos:Pos}{k v:Expr}{ks:List (Option Expr)}{vs:List Expr}{tk tv:TE}{trs:List (TE×TE)}(hk:PE X k tk)(hv:PE X v tv)(hr:PPs X pos ks vs trs) :
 PPs X pos (some k::ks) (v::vs) ((tk,tv)::trs):=fun pins s σ H Q I h =>
 pairTrees_cons_walk (thn (hk pins s σ H _ I h) fun u s1 ⟨x,H1,I1,rx,q1⟩=>thn (hv pins s1 σ H1 _ I1 q1) fun w2 s2 ⟨y,H2,I2,ry,q2⟩ =>
  thn (hr pins s2 σ H2 _ I2 q2) fun ws s3 ⟨ps,H3,I3,rel,q3⟩=>⟨(x,y)::ps,H3,I3,.cons ⟨rx,ry⟩ rel,q3⟩)
def J0a (kvs more:List (Key×V)):List (Key×V):=more.foldl (fun acc kv=>J0k acc kv.1 kv.2) kvs
theorem KV.merge:∀ {more:List (Key×V)} {rs:List (Key×Value)} {kvs:List (Key×V)} {vs:List (Key×Value)},KV more rs->KV kvs vs->KV (J0a kvs more) (merged vs rs):=by
 intro more rs kvs vs r;unfold KV at r
 induction r generalizing kvs vs with
 | nil=>intro q;exact q
 | @cons p q ps qs h t ih =>
   intro r0;have e:KV (J0k kvs p.1 p.2) (stored vs q.1 q.2):=by
    have:=r0.put p.1 h.2;rw [<- h.1];exact this
   exact ih e
theorem J1O:∀ (more kvs:List (Key×V)),(J0a kvs more).length<=kvs.length+more.length
 | [],kvs=>by show kvs.length<=kvs.length+0;omega
 | p::r,kvs=>by
   have h1:=J1O r (J0k kvs p.1 p.2);have h2:=J0O kvs p.1 p.2;show (J0a (J0k kvs p.1 p.2) r).length<=_;rw [length_cons];omega
theorem J5p {P:Program}{w:World}:∀ {kvs:List (Key×V)} {ws:List (Value×Value)},VV (kvs.map fun kv=>(kV kv.1,kv.2)) ws->∃ rs,Carries (J01 P w) ws rs/\KV kvs rs
 | [],_,r=>by rw [map_nil] at r;cases r;exact ⟨[],True.intro,.nil⟩
 | p :: kvs,_,r=>by
   rw [zV] at r;cases r with
   | @cons a b as bs h t =>
     obtain ⟨rs,c,q⟩:=J5p (P:=P) (w:=w) t;obtain ⟨b1,b2⟩:=b;exact ⟨(p.1,b2)::rs,⟨J4e h.1,rfl,c⟩,.cons ⟨rfl,h.2⟩ q⟩
def J9l (trs:List (TE×TE)):TE:=fun σ H Q=>∀ p,H p=none->J37 trs σ (upd H p (.dK [])) fun ps H2=>H2 p=some (.dK [])/\∃ kvs:List (Key×V),ps=kvs.map (fun kv=>(kV kv.1,kv.2))/\kvs.length<=15/\Q (.ref p) (upd H2 p (.dK (J0a [] kvs)))
theorem J9z {X:Cx}{pos:Pos}{keys:List (Option Expr)}{values:List Expr}{trs:List (TE×TE)}(h:PPs X pos keys values trs)(hall:keys.all (·.isSome)=true)(hl:keys.length=values.length)(h0:keys≠[])
 (h15:keys.length<=15):PE X (.Dict keys values pos) (J9l trs):=by
 intro pins s σ H Q I q;have hn:=I.hok.fresh (zv s.heap.objs.size);have I1:=I.laid (a:=s.heap.objs.size) (o:=.dK []) (h':=s.heap.push { cls:=.type "dict",data:=.dict #[] }) (t':=s.toks) (fun _ _ q=>qh _ q) (zv _) (J8a s.heap I.big);refine wpAny_Dict_walk (knd:=J01 X.prog X.w) hall hl h0 h15 (thn (h pins _ σ _ _ I1 (q _ hn)) fun ws s2 ⟨ps,H2,I2,rel,e,kvs,ep,lk,q2⟩=>?_);subst ep;obtain ⟨rs,c,rk⟩:=J5p (P:=X.prog) (w:=X.w) rel;obtain ⟨z,hd,vs0,r0,dd⟩:=J89 I2.hok e;cases r0;refine ⟨rs,c,dd,fun h' dd' hs=>⟨.ref s.heap.objs.size,_,?_,rfl,q2⟩⟩;have hz:(J0a [] kvs).length<=sizeLine:=by
  have h1:=J1O kvs [];rw [length_nil] at h1;rw [sizeLine_eq];omega
 have he:∃ q,h'.get? s.heap.objs.size=some q:=let ⟨q,_,_,hq,_⟩:=dd';⟨q,hq⟩;exact J2T I2 (by rw [e];exact True.intro) hs he (J76 hz hd (rk.merge .nil) dd')
structure M2 (X:Cx)(o:Expr)(m:Str)(apos:Pos)(e f:Expr)(cpos:Pos):Prop where
 base:attributeBase o m X.env (eval o X.env)=eval o X.env
 few:((backTo cpos (starEach [e,f] X.env)).all (fun x=>!x.1)&&(backToKw cpos (keywordEach [] X.env)).all (fun x=>x.1.isSome)
  && decide (([e,f]:List Expr).length+([]:List Keyword).length+(if ([]:List Keyword).isEmpty then 0 else 1)<30))=true
 line:(apos.endLine == cpos.line)=true
 trees:backTo cpos (starEach [e,f] X.env)=[(false,eval e X.env),(false,eval f X.env)]
end L2
namespace Att
open PySem PySem.W PySem.Calls PyProof.Rows
theorem J4r {P:Params}{h:Heap}:∀ (ns:List Int) (vs:List Value),WellAll P h vs (ns.map WData.int)->IntsAre vs ns:=by
 intro ns
 induction ns with
 | nil =>
   intro vs w;rw [map_nil] at w;cases w;exact .nil
 | cons n ns ih =>
   intro vs w;rw [zV] at w;cases w with
   | cons a b =>
     cases a;exact .cons _ _ (ih _ b)
theorem J9Y {l:OpenLaw}{n:Nat}(hn:l.most=some n){P:Params}{h:Heap}{args:List WData}{vals:List Value}
 (hpre:l.row.toRowW.claim.pre args=true) (hwl:WellAll P h vals args) :
 ∃ a vs ns,vals=[Value.ref a]/\args=[WData.list (ns.map WData.int)]/\h.get? a=some { cls:=.type "list",data:=.seq vs.toArray }/\IntsAre vs ns/\ns.length<=n:=by
 have hsh:WShape.hasAll [] args [.list .int]=true:=(pre_splitW hpre).1;have hc:l.pre.holds [] { args:=args }=true:=(pre_splitW hpre).2;obtain ⟨d,r,rfl,h1,h2⟩:=hasAllW_cons hsh;obtain rfl:=hasAllW_nil h2;obtain ⟨xs,rfl,h3⟩:=hasW_list h1;obtain ⟨ns,rfl⟩:=items_int h3;have hlen:ns.length<=n:=by
  unfold OpenLaw.pre at hc;have h4:(WTm.not (.lt (.lit (.int (n:Int))) (.len (.arg 0)))).holds [] { args:=[.list (ns.map .int)] }=true:=by
   have h4:=(holds_andW hc).1;rw [hn] at h4;exact h4
  have h5:=condW_of h4 (w_not (w_lt w_lit (w_len_list (w_arg rfl))));rw [zL] at h5;refine Nat.le_of_not_lt fun q=>?_;have q':(n:Int)<((ns.length:Nat):Int):=by omega
  first
   | (rw [zx q'] at h5;exact absurd h5 (by decide))
   | (simp at h5;omega)
 cases hwl with
 | cons w1 w2 =>
   cases w2;cases w1 with
   | list ho hall=>exact ⟨_,_,ns,rfl,rfl,ho,J4r ns _ hall,hlen⟩
theorem Ja3 (l:OpenLaw)(args:List WData):l.row.toRowW.claim.post args (.bool true) args=true :=
 postW_of (r:=l.row.toRowW) (X:=(true == true))
  (show WShape.has [] (.bool true) .bool=true by first | rfl | decide | simp [WShape.has,WShape.arms,WShape.armsAll])
  (show (WTm.eq .res (.lit (.bool true))).value [] { args:=args,res:=some (.bool true),after:=args }=some (.bool (true == true)) from w_eq_bool (w_res rfl) w_lit) rfl
theorem attach_call {l:OpenLaw}{n:Nat}{q:Program}{loose:List Str}{XP:(Str->Option Value)->Heap->Prop}{YP:World->Heap->Prop}{d:DefRec}
 (hn:l.most=some n) (hdf:d.params.defaults=[])
 (call:∀ (w:World) (s₀ s₁:Shared) (mg mb:Str->Option Value) (fa:Addr) (o:Obj) (pm cd doc:Value) (a:Addr) (vs:List Value) (ns:List Int),
  Ground q loose [] XP w s₀ mg mb s₁.heap->YP w s₁.heap ->
  s₁.heap.get? fa=some o->o.data=.func (docDef d.name d.params d.body d.scope pm cd doc)->s₁.heap.CodeRec cd d.name->mg d.name=some (.ref fa) ->
  s₁.heap.get? a=some { cls:=.type "list",data:=.seq vs.toArray }->IntsAre vs ns->ns.length<=n->s₁.gens=#[] ->
  codeAny (model l.prog w) callerA (.call (.ref fa) ⟨[.ref a],[]⟩) (fun r s'=>r=.ok (.ret (.bool true))/\OldK s₁.heap s'.heap/\s'.os=s₁.os/\AllBare s'.gens) s₁) :
 WalkO q loose XP YP l.row.toRowW d [] (fun f vs=>PySem.call f vs):=by
 intro w s₀ s₁ mg mb G Y fa o pm cd doc dV kV ho hd hcd hD hmg hg args vals as hpre hlay hrd hwl hlo;obtain rfl:dV=.none:=Dflts.none hD hdf;obtain rfl:kV=.none:=Dflts.noKw hD;obtain ⟨a,vs,ns,rfl,rfl,hobj,hints,hlen⟩:=J9Y hn hpre hwl;refine enter_call (codeAny_mono (call w s₀ s₁ mg mb fa o pm cd doc a vs ns G Y ho (fd_plain hd) hcd hmg hobj hints hlen hg) fun r s' hq=>?_);obtain ⟨rfl,h2,h3,h4⟩:=hq;exact ⟨.inl ⟨.bool true,.bool true,[],rfl,fun _=>rfl,.bool true,Ja3 l _,fun _=>⟨List.Pairwise.nil,fun _ hm=>(nomatch hm)⟩⟩,h2,h3,h4⟩
section
variable {prog:Program}{w:World}{A:Around}{E:Value->Shared->Prop}{s:Shared}{K:Frag}
theorem JeM {R:Result->Shared->Prop}{C fI:Addr}{rest:List Value}{kw:List (Str×Value)}
 (X:K.In s.heap) (hm:makesIn K C=true) (hi:findIn K (.ref C) "__init__"=some (some (.ref fI))) (hf:isFn K (.ref fI)=true)
 (h:codeAny (model prog w) (A.under (.builtin "type.__call__" ⟨.ref C::rest,kw⟩)) (.call (.ref fI) ⟨.ref (s.heap.objs.size+1)::rest,kw⟩) (InitBack (s.heap.objs.size+1) R)
  { s with heap:=(s.heap.push emptyDict).push (instObj C s.heap.objs.size) }):codeAny (model prog w) A (.call (.ref C) ⟨rest,kw⟩) R s:=by
 obtain ⟨hh,g,d,t,os⟩:=s;exact make_core (makes_of X hm) (looks_findIn X hi) (fun self=>bind_fn X self (beq_iff_eq.mp hf)) (.inl rfl) h
end
end Att
namespace L2
open PySem PySem.Spec PyProof.Rows
theorem J5M:∀ {vs:List Value} {ns:List Int},IntsAre vs ns->Vals (ns.map V.int) vs
 | _,_,.nil=>.nil
 | _,_,.cons n t h=>.cons ⟨t,rfl⟩ (J5M h)
def Jey (H:Hp):Prop:=∀ b,H b=none\/∃ o xs,H b=some (.frz o (.lst xs))
theorem law_call {P:Program}{w:World}{K:PySem.W.Frag}{mg mb:Str->Option Value}{CX:CXT}{k:Nat}{fa a:Addr}{fd:FuncData}{x:Str}{sp:Sp}{s₁:Shared}{vs:List Value}{ns:List Int}
 (KX:K.In s₁.heap) (hns:s₁.heap.Ns mainGlobals mg) (hb:s₁.heap.Ns builtinsNs mb) (hbb:∀ x:Str,x≠"__name__"->mb x=bootBuiltins x) (hlim:s₁.heap.NoLimit) (hg:s₁.gens=#[])
 (ha:s₁.heap.get? a=some { cls:=.type "list",data:=.seq vs.toArray }) (hi:IntsAre vs ns) (hl:ns.length<=sizeLine) (hr:Room k callerA)
 (F:∀ base:Heap,K.In base->base.Ns mainGlobals mg->FnOk P w K mg base CX k fa fd [x] sp) (hbind:∀ (s:Shared) (u:Value),BindsTo s fd ⟨[u],[]⟩ [(x,u)])
 (hsp:∀ H:Hp,Jey H->SqL K H a (ns.map V.int)->sp [.ref a] H (fun v _=>v=.bl true) fun _ _ _=>False)
 (hCX:∀ H e s',CX [] H s₁ (fun _ _ _=>False) e s'->False) :
 codeAny (model P w) callerA (.call (.ref fa) ⟨[.ref a],[]⟩) (fun r s'=>r=.ok (.ret (.bool true))/\OldK s₁.heap s'.heap/\s'.os=s₁.os/\AllBare s'.gens) s₁:=by
 have rv:=J5M hi;have lenV:=hi.length
 have core : ∀ H:Hp,Jey H->SqL K H a (ns.map V.int)->HOk P w H s₁.heap->(∀ b,H b≠none->b=a)->(H a≠none->K.lookup a=none) ->
  codeAny (model P w) callerA (.call (.ref fa) ⟨[.ref a],[]⟩) (fun r s'=>r=.ok (.ret (.bool true))/\OldK s₁.heap s'.heap/\s'.os=s₁.os/\AllBare s'.gens) s₁:=by
  intro H hO hS hok hA hK;have base_of:∀ {b:Addr} {o:Obj},s₁.heap.get? b=some o->H b=none->(J75 s₁.heap H).get? b=some o:=fun e n=>JbF e n;have noA:∀ {b:Addr} {o:Obj} {es:Array DictEntry} {ep:Nat},s₁.heap.get? b=some o->o.data=.dict es ep->H b=none:=fun {b o es ep} e d=>by
   cases q:H b with
   | none=>rfl
   | some u =>
     have e':b=a:=hA b (by rw [q];simp);subst e';rw [ha] at e;cases e;have d':Data.seq vs.toArray _=Data.dict es ep:=d;cases d'
  have nsK:∀ {b:Addr} {m:Str->Option Value},s₁.heap.Ns b m->(J75 s₁.heap H).Ns b m:=fun {b m} ⟨o,es,ep,e,d,r⟩=>⟨o,es,ep,base_of e (noA e d),d,r⟩;have hKb:K.In (J75 s₁.heap H):=fun b o e=>base_of (KX b o e) (by
   cases q:H b with
   | none=>rfl
   | some u =>
     have e':b=a:=hA b (by rw [q];simp);subst e';rw [hK (by rw [q];simp)] at e;cases e)
  have hM:Mod K mg (J75 s₁.heap H):=⟨hKb,nsK hns,⟨mb,nsK hb,hbb⟩,let ⟨mc,h1,h2⟩:=hlim;⟨mc,nsK h1,h2⟩⟩;have e0:Env0 P w K mg (J75 s₁.heap H) callerA [] s₁ H:=⟨rfl,hM,fun b o e=>JcU e,Nat.le_of_eq (Jaj _ _),trivial,fun b hb=>absurd (show b∈([]:List Addr) from hb) (by simp),hok,.of_eq hg⟩;refine codeAny_mono ((F _ hKb (nsK hns)).run callerA [] s₁ H ⟨[.ref a],[]⟩ [.ref a] [.ref a] _ _ hr e0 (hbind s₁ (.ref a)) (.cons rfl .nil) (hsp H hO hS)) fun r s' h=>?_;cases r with
  | error e=>exact (hCX H e s' h).elim
  | ok fl =>
    cases fl with
    | next=>exact zH h
    | brk=>exact zH h
    | cont=>exact zH h
    | ret u =>
      obtain ⟨v,H',os,bare,un,hok',r',q⟩:=h;have q':v=.bl true:=q;subst q';obtain rfl:u=Value.bool true:=r';refine ⟨rfl,OldK.of_keep fun b o e=>?_,os,bare⟩;cases q:H b with
      | none=>exact un.keep b o e q (by intro z;exact absurd (show b∈([]:List Addr) from z) (by simp)) (by simp)
      | some u =>
        rcases hO b with z | ⟨ob,xs,z⟩
        ·rw [q] at z;cases z
        ·have z2:=un.frzs b ob _ z
         obtain ⟨e1,_⟩:=hok b _ z;obtain ⟨e2,_⟩:=hok' b _ z2;rw [e] at e1;cases e1;exact e2
 cases hk:K.lookup a with
 | some o =>
   have e:=KX a o hk;rw [ha] at e;cases e;refine core (fun _=>none) (fun _=>.inl rfl) (.inr ⟨_,vs.toArray,_,hk,rfl,rfl,rfl,by rw [zN,lenV];exact hl,by simpa using rv⟩) (fun b u z=>by have z':(none:Option HO)=some u:=z;cases z') (fun b z=>absurd rfl z) fun z=>absurd rfl z
 | none =>
   refine core (fun b=>if b=a then some (.frz { cls:=.type "list",data:=.seq vs.toArray } (.lst (ns.map V.int))) else none) (fun b=>?_) (.inl (.inr ⟨{ cls:=.type "list",data:=.seq vs.toArray },zu rfl⟩)) (fun b u z=>?_) (fun b z=>?_) fun _=>hk
   ·by_cases hb:b=a
    ·exact .inr ⟨_,_,zu hb⟩
    ·exact .inl (zt hb)
   ·by_cases hb:b=a
    ·have z':=(zu hb).symm.trans z
     cases z';subst hb;exact ⟨ha,by rw [zL];exact hl,vs,_,rv,ha⟩
    ·have z':=(zt hb).symm.trans z
     cases z'
   ·by_cases hb:b=a
    ·exact hb
    ·exact absurd (zt hb) z
abbrev KOf {K:PySem.W.Frag}{h:Heap}(_:K.In h):PySem.W.Frag:=K
theorem walk_of {l:PySem.W.OpenLaw}{n k:Nat}{q:Program}{loose:List Str}{XP:(Str->Option Value)->Heap->Prop}{YP:World->Heap->Prop}{d:DefRec}{K:Params->PySem.W.Frag}{CX:World->CXT}{sp:World->Sp}{x:Str}
 (hn:l.most=some n) (hn2:n<=sizeLine) (hdf:d.params.defaults=[]) (hr:Room k callerA)
 (hY:∀ (w:World) (h:Heap),YP w h->(K w.params).In h)
 (F:∀ (w:World) (mg:Str->Option Value) (fa:Addr) (h:Heap),(K w.params).In h->h.Ns mainGlobals mg->mg d.name=some (.ref fa) ->
  ∃ fd:FuncData,(∀ (s:Shared) (u:Value),BindsTo s fd ⟨[u],[]⟩ [(x,u)]) /\
    ∀ base:Heap,(K w.params).In base->base.Ns mainGlobals mg->FnOk l.prog w (K w.params) mg base (CX w) k fa fd [x] (sp w))
 (hsp:∀ (w:World) (H:Hp) (a:Addr) (ns:List Int),ns.length<=n->Jey H->SqL (K w.params) H a (ns.map V.int)->sp w [.ref a] H (fun v _=>v=.bl true) fun _ _ _=>False)
 (hCX:∀ (w:World) (H:Hp) (s:Shared) (e:Value) (s':Shared),CX w [] H s (fun _ _ _=>False) e s'->False) :
 PySem.W.WalkO q loose XP YP l.row.toRowW d [] (fun f vs=>PySem.call f vs):=by
 refine Att.attach_call hn hdf fun w s₀ s₁ mg mb fa o pm cd doc a vs ns G Y ho hd hcd hmg hobj hints hlen hg=>?_;have KX:=hY w _ Y;obtain ⟨fd,hb,hF⟩:=F w mg fa _ KX G.T.g hmg;exact law_call KX G.T.g G.T.b G.T.builtins G.T.nolimit hg hobj hints (zG hlen hn2) hr hF hb (fun H hO hS=>hsp w H a ns hlen hO hS) fun H e s'=>hCX w H s₁ e s'
def J14 (s:Stmt):Arguments:=match s with
 | .FunctionDef _ a _ _ _ _ _ _ _ _=>a
 | _=>{ posonlyargs:=[],args:=[],vararg:=none,kwonlyargs:=[],kw_defaults:=[],kwarg:=none,defaults:=[] }
def J0Z (s:Stmt):List Stmt:=match s with
 | .FunctionDef _ _ b _ _ _ _ _ _ _=>b
 | _=>[]
def Je (s:Stmt):Scope:=match s with
 | .FunctionDef _ _ _ _ _ _ sc _ _ _=>sc
 | _=>{ kind:=.function,names:=[],isGenerator:=false,isCoroutine:=false }
abbrev CX0:CXT:=fun _ _ _ _ _ _=>False
abbrev E0:XK:=fun _ _ _=>False
theorem J0W {X:Cx}:J3q CX0 X E0:=fun _ _ _ _ _ _ _ h=>h.elim
structure Fun (K:PySem.W.Frag)(x qual:Str)(st:Stmt)(f:Addr)(fd:FuncData):Prop where
 ex:∃ (oc:Value) (od:Option Addr) (kV doc pm:Value) (an:Option Addr) (cdv ct:Value) (osl:Array (Option Value)),
  fd=PySem.W.fnOf x qual (J14 st) (J0Z st) (Je st) .none kV doc pm an cdv ct/\K.lookup f=some ⟨oc,od,.func fd,osl⟩/\PySem.W.codeIn K cdv qual=true
 kp:PySem.W.keepIn K (.ref f)=true
section
variable {P:Program}{w:World}{K:PySem.W.Frag}{mg:Str->Option Value}{base:Heap}
theorem Fun.ok {x qual:Str}{st:Stmt}{f:Addr}{fd:FuncData}{N ps:List Str}{k:Nat}{sp:Sp}(F:Fun K x qual st f fd)(S:FnScope N ps (Je st))(len:∀ vs H Q E,sp vs H Q E->vs.length=ps.length)
 (hbody:∀ (cdv:Value) (A:Around) (outer:List Env) (s:Shared) (H:Hp) (vs:List V) (Q:VK) (E:XK),Room k (A.deeper (envOfC qual (Je st) s.heap.objs.size f cdv))->sp vs H Q E ->
  ∃ t,PSs (J79 CX0 P w K mg base N qual (Je st) f cdv A outer s H E).nox (J0Z st) t/\t { nx:=fun _ H'=>Q .non H',rt:=Q } (J2q N vs) H):FnOk P w K mg base CX0 (k+1) f fd ps sp:=by
 obtain ⟨oc,od,kV,doc,pm,an,cdv,ct,osl,rfl,lk,hcd⟩:=F.ex;refine JeS lk hcd S len fun A outer s H vs Q E hr hsp=>?_;obtain ⟨t,h,q⟩:=hbody cdv A outer s H vs Q E hr hsp;exact ⟨t,h.nox,q⟩
theorem Fun.binds {x qual:Str}{st:Stmt}{f:Addr}{fd:FuncData}{ps:List Str}(F:Fun K x qual st f fd)
 (h:∀ (kV doc pm:Value) (an:Option Addr) (cdv ct:Value) (us:List Value),us.length=ps.length->bindArgs (PySem.W.fnOf x qual (J14 st) (J0Z st) (Je st) .none kV doc pm an cdv ct) ⟨us,[]⟩=pure (ps.zip us)):Binds K fd ps []:=by
 obtain ⟨oc,od,kV,doc,pm,an,cdv,ct,osl,rfl,lk,hcd⟩:=F.ex;exact .all (h kV doc pm an cdv ct)
theorem Jeo {x qual:Str}{st:Stmt}{f:Addr}{oc:Value}{od an:Option Addr}{osl:Array (Option Value)}{kV doc pm cdv ct:Value}(l:K.lookup f=some ⟨oc,od,.func (PySem.W.fnOf x qual (J14 st) (J0Z st) (Je st) .none kV doc pm an cdv ct),osl⟩)
 (c:PySem.W.codeIn K cdv qual=true) (k:PySem.W.keepIn K (.ref f)=true):Fun K x qual st f (PySem.W.fnOf x qual (J14 st) (J0Z st) (Je st) .none kV doc pm an cdv ct):=⟨⟨oc,od,kV,doc,pm,an,cdv,ct,osl,rfl,l,c⟩,k⟩
end
theorem J0b {A:Around}{k:Nat}(hr:Room k A):A.units+1<cLine:=Nat.lt_of_le_of_lt (Nat.add_le_add_left (by decide:1<=64) _) hr.units
theorem JeR {c A B:Prop}[Decidable c](h1:c->A)(h2:¬ c->B):if c then A else B:=by
 by_cases h:c
 ·rw [zu h]
  exact h1 h
 ·rw [zt h]
  exact h2 h
def Same (H H':Hp):Prop:=∀ b o,H b=some o->H' b=some o
theorem Same.refl (H:Hp):Same H H:=fun _ _ h=>h
theorem Same.trans {H H1 H2:Hp}(a:Same H H1)(b:Same H1 H2):Same H H2:=fun c o h=>b c o (a c o h)
theorem Same.seq {K:PySem.W.Frag}{H H':Hp}{a:Addr}{xs:List V}(e:Same H H')(h:SqL K H a xs):SqL K H' a xs:=by
 rcases h with (h | ⟨o,h⟩) | h
 ·exact .inl (.inl (e _ _ h))
 ·exact .inl (.inr ⟨o,e _ _ h⟩)
 ·exact .inr h
section
variable {X:Cx}
theorem J60:J03 X (.builtin "len") (fun xs H Q=>∃ a kvs,xs=[V.ref a]/\H a=some (.dK kvs)/\Q (.int kvs.length) H):=by
 intro pins s σ H xs us Q I r h;obtain ⟨a,kvs,rfl,ha,q⟩:=h;obtain ⟨u,rfl,ru⟩:=J0w r;cases ru;exact JeX I (.inl ha) fun t s' I'=>⟨.int kvs.length,H,I',⟨t,rfl⟩,q⟩
end
abbrev JaT (ifs:List Expr)(env:Env):Sem Bool :=
 forIn ifs true fun c r=>if r=true then do let ok <- isTrue c env (eval c env);pure (ForInStep.yield ok) else pure (ForInStep.yield r)
theorem Jas {prog:Program}{w:World}{A:Around}{R:Result->Shared->Prop}{s:Shared}{elt tg iter:Expr}{ifs:List Expr}{scope:Scope}{pos:Pos}{it acc:Value}{env:Env}(I:Nat->Shared->Prop)
 (turn : ∀ n s,I n s->wpAny (model prog w) A (pyNext it) (fun r s1=>match r with
  | none=>R (.ok .next) s1
  | some v=>wpAny (model prog w) A (letOwnedTupleGo tg it v) (fun _ s2=>wpAny (model prog w) A (assign tg env v) (fun _ s3=>wpAny (model prog w) A (JaT ifs env) (fun ok s4 =>
   if ok=true then wpAny (model prog w) A (eval elt env) (fun x s5=>wpAny (model prog w) A (call (.builtin "list.append") [acc,x]) (fun _ s6=>∃ m,m<n/\I m s6) (fun _ _=>False) s5) (fun _ _=>False) s4
   else ∃ m,m<n/\I m s4) (fun _ _=>False) s3) (fun _ _=>False) s2) (fun _ _=>False) s1) (fun _ _=>False) s)
 (n:Nat) (h:I n s):codeAny (model prog w) A (.compLoop (.ListComp elt [⟨tg,iter,ifs,0⟩] scope pos) 0 it acc env) R s:=by
 refine codeAny_loop rfl I (fun n s hI=>?_) n h;show wpAny _ A ((compTurn (.ListComp elt [⟨tg,iter,ifs,0⟩] scope pos) 0 it acc env).onRaise (fun x=>do noteFrame x env;theTreesLotGoes x)) _ _ s;refine wpAny_noted (wpAny_noRaise ?_);rw [compTurn_list];refine zq (wpAny_standAt (zq (thn (turn n s hI) fun r s1 h1=>?_)));cases r with
 | none=>exact zr h1
 | some v =>
   refine zq (thn h1 fun _ s2 h2=>zq (thn h2 fun _ s3 h3=>zq (thn h3 fun ok s4 h4=>?_)));cases ok with
   | false=>exact zr ⟨rfl,h4⟩
   | true=>exact zq (zq (thn h4 fun x s5 h5=>zq (thn h5 fun _ s6 h6=>zr (zr ⟨rfl,h6⟩))))
theorem closure_go (env:Env):∀ (names:List (Str×NameKind)) (cs:List (Str×Addr)),(∀ n,(n,NameKind.free)∈names->∃ c,env.cells.lookup n=some c)->(∀ n c,cs.lookup n=some c->env.cells.lookup n=some c) ->
 ∃ cl,(forIn names cs fun (p:Str×NameKind) (r:List (Str×Addr))=>(if p.2 == NameKind.free then do let c <- cellOf env p.1;pure (ForInStep.yield ((p.1,c)::r)) else pure (ForInStep.yield r):Sem (ForInStep (List (Str×Addr)))))=pure cl /\
   (∀ n c,cl.lookup n=some c->env.cells.lookup n=some c)/\(∀ n,((n,NameKind.free)∈names\/∃ c,cs.lookup n=some c)->∃ c,cl.lookup n=some c)
 | [],cs,_,hcs=>⟨cs,rfl,hcs,fun n h=>h.elim (fun z=>nomatch z) id⟩
 | (m,k)::r,cs,hn,hcs=>by
   cases hk:k == NameKind.free with
   | false =>
     obtain ⟨cl,e,h1,h2⟩:=closure_go env r cs (fun n z=>hn n (zS _ z)) hcs;refine ⟨cl,?_,h1,fun n z=>h2 n ?_⟩
     ·rw [forIn_cons];simp only [hk];exact e
     ·rcases z with z | z
      ·rcases zU.mp z with q | q
       ·cases q;simp at hk
       ·exact .inl q
      ·exact .inr z
   | true =>
     have ek:k=NameKind.free:=by simpa using hk
     subst ek;obtain ⟨c,hc⟩:=hn m zT;obtain ⟨cl,e,h1,h2⟩:=closure_go env r ((m,c)::cs) (fun n z=>hn n (zS _ z)) (fun n c' z=>by
      by_cases q:n=m
      ·subst q;simp [lookup_cons] at z;subst z;exact hc
      ·rw [lookup_cons,beq_eq_false_iff_ne.mpr q] at z;exact hcs n c' z)
     refine ⟨cl,?_,h1,fun n z=>h2 n ?_⟩
     ·rw [forIn_cons];simp only [cellOf,hc];exact e
     ·rcases z with z | ⟨c',z⟩
      ·rcases zU.mp z with q | q
       ·cases q;exact .inr ⟨c,by simp [lookup_cons]⟩
       ·exact .inl q
      ·by_cases q:n=m
       ·subst q;exact .inr ⟨c,by simp [lookup_cons]⟩
       ·exact .inr ⟨c',by rw [lookup_cons,beq_eq_false_iff_ne.mpr q];exact z⟩
theorem J9e {scope:Scope}{env:Env}(hn:∀ n,(n,NameKind.free)∈scope.names->∃ c,env.cells.lookup n=some c) :
 ∃ cl,closureFor scope env=pure cl/\(∀ n c,cl.lookup n=some c->env.cells.lookup n=some c)/\(∀ n,(n,NameKind.free)∈scope.names->∃ c,cl.lookup n=some c):=by
 obtain ⟨cl,e,h1,h2⟩:=closure_go env scope.names [] hn (fun _ _ z=>nomatch z);refine ⟨cl,?_,h1,fun n z=>h2 n (.inl z)⟩;unfold closureFor;simp only [bind_pure];exact e
def JR (names onames:List (Str×NameKind)):List (Str×NameKind) :=
 names.map fun (n,k)=>if (k == .free&&onames.lookup n == some .cell) then (n,.cell) else (n,k)
def JbW (sc osc:Scope)(N rest:List Str):Bool :=
 (sc.kind == .function&&osc.kind == .function&&sc.names.all fun y=>y.2 != .cell&&(y.2 != .local||sc.names.lookup y.1 == some .local)&&(y.2 != .free||osc.names.lookup y.1 == some .cell||osc.names.lookup y.1 == some .free))
 && N.length == rest.length&&(N.zip rest).all fun p=>match (JR sc.names osc.names).lookup p.2 with
  | some .local=>false
  | some .cell=>p.1 == p.2&&(p.2,NameKind.free)∈sc.names&&(osc.names.lookup p.2 == some .cell||osc.names.lookup p.2 == some .free)
  | some .free=>p.1 == p.2&&(p.2,NameKind.free)∈sc.names&&(osc.names.lookup p.2 == some .cell||osc.names.lookup p.2 == some .free)
  | _=>true
structure CompSc (sc osc:Scope)(N rest:List Str):Prop where
 kind:sc.kind=.function
 okind:osc.kind=.function
 cell:∀ y∈sc.names,y.2≠.cell
 loc:∀ y∈sc.names,y.2=.local->sc.names.lookup y.1=some .local
 free:∀ n,(n,NameKind.free)∈sc.names->osc.names.lookup n=some .cell\/osc.names.lookup n=some .free
 len:N.length=rest.length
 look:∀ (i:Nat) x,rest[i]?=some x->((JR sc.names osc.names).lookup x=some .local\/(JR sc.names osc.names).lookup x=some .cell\/(JR sc.names osc.names).lookup x=some .free) ->
  N[i]?=some x/\(x,NameKind.free)∈sc.names/\(osc.names.lookup x=some .cell\/osc.names.lookup x=some .free)/\((JR sc.names osc.names).lookup x=some .cell\/(JR sc.names osc.names).lookup x=some .free)
theorem Ju {sc osc:Scope}{N rest:List Str}(h:JbW sc osc N rest=true):CompSc sc osc N rest:=by
 unfold JbW at h;simp only [Bool.and_eq_true,beq_iff_eq,all_eq_true] at h;obtain ⟨⟨⟨⟨hk,hok⟩,hy⟩,hl⟩,hz⟩:=h;refine ⟨hk,hok,fun y z e=>?_,fun y z e=>?_,fun n z=>?_,hl,fun i x e v=>?_⟩
 ·have:=(hy y z).1.1;rw [e] at this;simp at this
 ·have:=(hy y z).1.2;rw [e] at this;simpa using this
 ·have:=(hy _ z).2;simpa using this
 ·have hi:i<rest.length:=(zK.mp e).1
  have hi':i<N.length:=by omega
  have hN:N[i]?=some N[i]:=zJ hi';have hm:(N[i],x)∈N.zip rest:=by
   refine zP (i:=i) ?_;rw [List.getElem?_zip_eq_some];exact ⟨hN,e⟩
  have q:=hz _ hm;dsimp only at q;rcases v with v | v | v
  ·rw [v] at q;simp at q
  ·rw [v] at q;simp only [Bool.and_eq_true,beq_iff_eq,Bool.or_eq_true,decide_eq_true_eq] at q
   obtain ⟨⟨q1,q2⟩,q3⟩:=q;exact ⟨by rw [hN,q1],q2,q3,.inl v⟩
  ·rw [v] at q;simp only [Bool.and_eq_true,beq_iff_eq,Bool.or_eq_true,decide_eq_true_eq] at q
   obtain ⟨⟨q1,q2⟩,q3⟩:=q;exact ⟨by rw [hN,q1],q2,q3,.inr v⟩
theorem J1J {sc:Scope}{env:Env}(hk:env.scope.kind=.function):(relabel sc env).names=JR sc.names env.scope.names:=by
 unfold relabel JR Env.kindOf;simp [hk]
theorem JaW {names onames:List (Str×NameKind)}(hc:∀ y∈names,y.2≠.cell){x:Str}(h:(JR names onames).lookup x=some .cell\/(JR names onames).lookup x=some .free):(x,NameKind.free)∈names:=by
 have hm:(x,NameKind.cell)∈JR names onames\/(x,NameKind.free)∈JR names onames:=h.imp PySem.mem_of_lookup PySem.mem_of_lookup;rcases hm with hm | hm
 ·obtain ⟨⟨n,k⟩,hn,e⟩:=qb.mp hm
  dsimp only at e
  split at e
  ·rename_i hh;cases e;simp at hh;obtain ⟨rfl,_⟩:=hh;exact hn
  ·cases e;exact absurd rfl (hc _ hn)
 ·obtain ⟨⟨n,k⟩,hn,e⟩:=qb.mp hm
  dsimp only at e
  split at e
  ·cases e
  ·cases e;exact hn
def JW (X:Cx)(scope:Scope)(N':List Str)(cl:List (Str×Addr))(s2:Shared)(H2:Hp)(C:Addr)(fp:List Addr):Cx :=
 { X with N:=N',s₀:=s2,H₀:=H2,env:=compEnvC scope cl C X.env,outer:=X.stack,stack:=X.stack,ex:=fp,fn:=fun _=>false,pn:=[],xe:=fun _ _=>False }
section
variable {X:Cx}{pins:List (Addr×Obj)}{σ:St}{H2:Hp}{s2:Shared}{scope:Scope}{own rest:List Str}{cl:List (Str×Addr)}{fp:List Addr}{C:Addr}
theorem Jat (I:Inv X pins σ H2 s2)(S:CompSc scope X.env.scope X.N rest)(h1:∀ n c,cl.lookup n=some c->X.env.cells.lookup n=some c)(h2:∀ n,(n,NameKind.free)∈scope.names->∃ c,cl.lookup n=some c)
 (hC:s2.heap.objs.size<=C) (hf:∀ b∈fp,J2N X pins H2 b) (ho:∀ b∈fp,∃ o,s2.heap.get? b=some o):(JW X scope (own++rest) cl s2 H2 C fp).Ok where
 mod:=I.ok.mod
 kind:=S.kind
 glob:=I.ok.glob
 blt:=I.ok.blt
 above:=hC
 inj:=fun x y c e1 e2=>I.ok.inj x y c (h1 x c e1) (h1 y c e2)
 has:=fun x hx=>h2 x (JaW S.cell (by
  have e:(JW X scope (own++rest) cl s2 H2 C fp).env.kindOf x=(JR scope.names X.env.scope.names).lookup x:=congrArg (List.lookup x) (J1J (sc:=scope) I.ok.kind);rw [e] at hx;exact hx))
 cab:=fun _ _ z=>nomatch z
 hd:=I.ok.hd
 frames:=I.ok.frames
 stk:=.inl rfl
 exf:=fun b hb=>by
  obtain ⟨o,e⟩:=ho b hb;exact ⟨zB (zE (qj e) hC),fun x c e=>(hf b hb).2.2.2.2.1 x c (h1 x c e)⟩
 bs:=I.bs
 bsz:=zG I.ok.bsz I.sz
 noex:=fun b o e hb=>by
  rcases (hf b hb).2.2.2.1 with z | z
  ·exact I.ok.noex b o e z
  ·exact absurd (zE (qj e) (zG I.ok.bsz z)) (Nat.lt_irrefl _)
 exfs:=fun b hb z=>by
  rcases zU.mp (I.stkSub b z) with q | q
  ·exact (hf b hb).2.1 q
  ·exact (hf b hb).2.2.1 q
 funs:=I.stack
 frf:=I.stkFree
theorem comp_start {h1:Heap}{t1:Nat}(I:Inv X pins σ H2 s2)(S:CompSc scope X.env.scope X.N rest)(hc1:∀ n c,cl.lookup n=some c->X.env.cells.lookup n=some c)(hc2:∀ n,(n,NameKind.free)∈scope.names->∃ c,cl.lookup n=some c)
 (hC:s2.heap.objs.size<=C) (hf:∀ b∈fp,J2N X pins H2 b) (ho:∀ b∈fp,∃ o,s2.heap.get? b=some o)
 (old:∀ b o,s2.heap.get? b=some o->h1.get? b=some o) (ns:h1.Ns C fun _=>none) :
 Inv (JW X scope (own++rest) cl s2 H2 C fp) [] (List.replicate own.length none++σ) H2 { s2 with heap:=h1,toks:=t1 }:=by
 obtain ⟨m,hn,hl⟩:=id I.loc;have hv:∀ x,Vis (JW X scope (own++rest) cl s2 H2 C fp).env.scope x->((JR scope.names X.env.scope.names).lookup x=some .local\/(JR scope.names X.env.scope.names).lookup x=some .cell\/(JR scope.names X.env.scope.names).lookup x=some .free):=fun x z=>by
  have e:(JW X scope (own++rest) cl s2 H2 C fp).env.scope.names=JR scope.names X.env.scope.names:=J1J (sc:=scope) I.ok.kind;unfold Vis at z;rw [e] at z;exact z
 refine ⟨Jat I S hc1 hc2 hC hf ho,rfl,I.bare,Un.kept old,⟨_,ns,fun i x v e1 e2 e3=>?_⟩,fun x c e=>?_,I.hok.fresh hC,fun x c e=>I.freeC x c (hc1 x c e),fun p hp=>absurd (show p∈([]:List (Addr×Obj)) from hp) (by simp),I.hok.kept old,?_⟩
 ·have e1':(own++rest)[i]?=some x:=e1
  by_cases hi:i<own.length
  ·rw [qd (by simpa using hi),List.getElem?_replicate] at e2
   split at e2<;>cases e2
  ·have hi':own.length<=i:=Nat.le_of_not_lt hi
   rw [qc (by simpa using hi'),qg] at e2;rw [qc hi'] at e1';obtain ⟨q1,q2,q3,q4⟩:=S.look _ x e1' (hv x e3);obtain ⟨u,r,l⟩:=hl (i - own.length) x v q1 e2 (q3.elim (fun z=>.inr (.inl z)) fun z=>.inr (.inr z));refine ⟨u,r,.inr ⟨?_,?_⟩⟩
   ·have e:(JW X scope (own++rest) cl s2 H2 C fp).env.kindOf x=(JR scope.names X.env.scope.names).lookup x:=congrArg (List.lookup x) (J1J (sc:=scope) I.ok.kind)
    rw [e];exact q4
   ·rcases l with ⟨k,_⟩ | ⟨_,c,e,z⟩
    ·have k':X.env.scope.names.lookup x=some .local:=k
     rcases q3 with q3 | q3<;>(rw [q3] at k';cases k')
    ·obtain ⟨c',e'⟩:=hc2 x q2
     have e2:=hc1 x c' e';rw [e] at e2;cases e2;obtain ⟨o,q,d⟩:=z;exact ⟨c,e',o,old c o q,d⟩
 ·obtain ⟨v,o,q,d⟩:=I.cell x c (hc1 x c e)
  exact ⟨v,o,old c o q,d⟩
 ·show _=(own++rest).length
  have:=I.len;have:=S.len;simp only [zQ,qg];omega
theorem JbV {H':Hp}{s':Shared}{σ':St}{D:Addr}{ys:List V}{its:List Value}{n:Nat}{pins':List (Addr×Obj)}(I:Inv X pins σ H2 s2)(J:Inv (JW X scope (own++rest) cl s2 H2 C fp) pins' σ' H' s')(hf:∀ b∈fp,J2N X pins H2 b)
 (hD:s2.heap.objs.size<=D) (hDn:H' D=none) (hDo:s'.heap.get? D=some { cls:=.type "list",data:=.seq its.toArray n }) (r:Vals ys its) (hz:ys.length<=sizeLine) :
 Inv X pins σ (upd H' D (.lst ys)) s':=by
 have u:Un (frs X.stack) fp H2 H' s2.heap s'.heap:=J.base;have nD:∀ b o,s2.heap.get? b=some o->b≠D:=fun b o e=>zB (zE (qj e) hD);refine I.call' (ch:=fp) J.os ⟨u.keep,u.slot,fun b o e n hx=>?_,u.there,fun b xs e=>?_,fun b o v e=>?_,fun b ps e=>?_⟩ (fun b o e=>?_) J.bare fun b hb=>?_
 ·rw [Jh (nD b o e)];exact u.free b o e n hx
 ·rw [Jh (JU (u.tups b xs e) hDn)];exact u.tups b xs e
 ·rw [Jh (JU (u.frzs b o v e) hDn)];exact u.frzs b o v e
 ·obtain ⟨more,q⟩:=u.tbls b ps e
  exact ⟨more,by rw [Jh (JU q hDn)];exact q⟩
 ·by_cases hb:b=D
  ·subst hb;rw [Jd] at e;cases e;exact ⟨hz,its,n,r,hDo⟩
  ·rw [Jh hb] at e
   exact (J.hok b o e).stay (fun c v _ q=>q) (fun c q=>by rw [Jh (JU q hDn)];exact q) fun c xs q=>by rw [Jh (JU q hDn)];exact q
 ·obtain ⟨_,f1,_,f3,f4,f5⟩:=hf b hb
  exact ⟨f3,f1,f4,f5⟩
end
def PTs (X:Cx)(ifs:List Expr)(t:TT):Prop :=
 ∀ (pins:List (Addr×Obj)) (s:Shared) (σ:St) (H:Hp) (Q:Bool->Hp->Prop),Inv X pins σ H s->t σ H Q->wpAny (model X.prog X.w) X.A (JaT ifs X.env) (TP X pins σ Q) X.xe s
def Jcl:TT:=fun _ H Q=>Q true H
theorem JH {X:Cx}:PTs X [] Jcl:=fun _ _ _ H _ I h=>wpAny_tests_nil ⟨H,I,h⟩
theorem J9w {X:Cx}{c:Expr}{t:TT}(h:PT X c t):PTs X [c] t:=fun pins s σ H Q I q=>wpAny_tests_one (h pins s σ H Q I q)
def J8i (J:It)(g:TG)(tt:TT)(te:TE)(fin:List V->Hp->Prop)(σ0:St)(H1:Hp):Prop :=
 ∃ W : Nat->Nat->List V->St->Hp->Prop,(∃ m,W 0 m [] σ0 H1)/\∀ i m ys σ H,W i m ys σ H ->
   (J.stop i H/\fin ys H)\/(J.go i H/\ys.length<sizeLine/\∃ N:List V->St->Hp->Prop,(∀ ys' σ' H',N ys' σ' H'->∃ m',m'<m/\W (i+1) m' ys' σ' H') /\
    ∀ x H',J.yld i H x H'->g x σ H' fun σ2 H2=>tt σ2 H2 fun b H3=>if b=true then te σ2 H3 fun y H4=>N (ys++[y]) σ2 H4 else N ys σ2 H3)
section
variable {X:Cx}{pins:List (Addr×Obj)}{σ:St}{H2:Hp}{s2:Shared}{scope:Scope}{own rest:List Str}{cl:List (Str×Addr)}{fp:List Addr}{E:Value->Shared->Prop}
theorem comp_run {elt tg iter:Expr}{ifs:List Expr}{pos:Pos}{J:It}{it:Addr}{tn:Nat->Heap->Prop}{g:TG}{tt:TT}{te:TE}{fin:List V->Hp->Prop}{RR:Value->Addr->Result->Shared->Prop}{D:Nat}(hD:s2.heap.objs.size=D)(hcalm:X.calm=true)
 (I:Inv X pins σ H2 s2) (S:CompSc scope X.env.scope X.N rest) (hc1:∀ n c,cl.lookup n=some c->X.env.cells.lookup n=some c) (hc2:∀ n,(n,NameKind.free)∈scope.names->∃ c,cl.lookup n=some c)
 (T:Turn X.prog X.w X.K tg J fp it tn) (st:tn 0 s2.heap) (hf:∀ b∈fp,J2N X pins H2 b)
 (hg:PG (JW X scope (own++rest) cl s2 H2 (D+1:Nat) fp) tg g) (ht:PTs (JW X scope (own++rest) cl s2 H2 (D+1:Nat) fp) ifs tt)
 (he:PE (JW X scope (own++rest) cl s2 H2 (D+1:Nat) fp) elt te)
 (hw:J8i J g tt te fin (List.replicate own.length none++σ) H2)
 (hR:∀ (s':Shared) (H':Hp) (ys:List V),Inv X pins σ (upd H' D (.lst ys)) s'->(∃ m,s'.heap.Ns (D+1:Nat) m)->H' D=none->H' (D+1:Nat)=none->fin ys H'->RR (.ref D) (D+1:Nat) (.ok .next) s') :
 wpAny (model X.prog X.w) X.A (newList []) (fun acc s3=>wpAny (model X.prog X.w) X.A (newFunctionEnv scope X.env.globals cl [] X.env.qual none .none (some X.env)) (fun cenv s4 =>
  codeAny (model X.prog X.w) X.A (.compStart (.ListComp elt [⟨tg,iter,ifs,0⟩] scope pos) 0 (.ref it) acc { cenv with scope:=relabel scope X.env }) (RR acc cenv.locals) s4) E s3) E s2:=by
 refine wpAny_newObj_type (wpAny_newFunctionEnv S.cell (by intro y hy;simp at hy) (fun h1 hns hsb=>?_) S.kind);dsimp only at hns hsb ⊢;generalize hHp:s2.heap.push { cls:=.type "list",dict:=none,data:=.seq ([]:List Value).toArray }=Hp2 at hns hsb ⊢;have hC:Hp2.objs.size=s2.heap.objs.size+1:=by rw [<- hHp,Heap.size_push]
 rw [hD] at hC;rw [hC] at hns hsb ⊢;rw [hD];have nDC:D≠D+1:=zB (Nat.lt_succ_self _);have below:∀ b o,s2.heap.get? b=some o->b<D:=fun b o e=>by rw [<- hD];exact qj e
 have old:∀ b o,s2.heap.get? b=some o->h1.get? b=some o:=fun b o e=>by
  exact hsb.extBut b o (zB (Nat.lt_succ_of_lt (below b o e))) (qh _ (hHp ▸ qh _ e))
 have hDo:h1.get? D=some { cls:=.type "list",data:=.seq ([]:List Value).toArray 0 } :=
  hsb.extBut _ _ nDC (qh _ (by rw [<- hHp,<- hD];exact qi _ rfl))
 have hfo:∀ b∈fp,∃ o,s2.heap.get? b=some o:=fun b hb=>let ⟨o,e,_⟩:=T.obj 0 _ st b hb;⟨o,e⟩;have st1:tn 0 h1:=T.keep _ _ _ st fun b hb o e=>old b o e;have J0:Inv (JW X scope (own++rest) cl s2 H2 (D+1:Nat) fp) [] (List.replicate own.length none++σ) H2 { s2 with heap:=h1,toks:=s2.toks } :=
  comp_start I S hc1 hc2 (by omega) hf hfo old hns
 have nfs:D∉(JW X scope (own++rest) cl s2 H2 (D+1:Nat) fp).fs:=fun z=>by
  have z':D∈frs X.stack:=z;rcases zU.mp (I.stkSub D z') with q | q
  ·exact Nat.lt_irrefl D (by have h:=I.lt;rw [<- q,hD] at h;exact h)
  ·exact I.nofs (Nat.le_of_eq hD) q
 have ncl:∀ x c,(JW X scope (own++rest) cl s2 H2 (D+1:Nat) fp).env.cells.lookup x=some c->c≠D:=fun x c e z=>by
  obtain ⟨v,o,q,d⟩:=I.cell x c (hc1 x c e);exact zB (below c o q) z
 have loop:∀ s3:Shared,s3={ s2 with heap:=h1,toks:=s2.toks } ->
  codeAny (model X.prog X.w) X.A (.compLoop (.ListComp elt [⟨tg,iter,ifs,0⟩] scope pos) 0 (.ref it) (.ref D) (compEnvC scope cl (D+1) X.env)) (RR (.ref D) (D+1)) s3:=by
  rintro s3 rfl;obtain ⟨W,⟨m0,w0⟩,turn⟩:=hw;refine Jas (fun m s'=>∃ (i:Nat) (ys:List V) (its:List Value) (n:Nat) (σ':St) (H':Hp),Inv (JW X scope (own++rest) cl s2 H2 (D+1:Nat) fp) [] σ' H' s'/\tn i s'.heap/\(∀ b∈fp,H' b=none) /\
   s'.heap.get? D=some { cls:=.type "list",data:=.seq its.toArray n }/\H' D=none/\Vals ys its/\ys.length<=sizeLine/\W i m ys σ' H') ?_ m0
   ⟨0,[],[],0,_,H2,J0,st1,fun b hb=>(hf b hb).1,hDo,by rw [<- hD];exact I.fresh,.nil,by simp,w0⟩
  rintro m s3 ⟨i,ys,its,n,σ3,H3,J3,st3,fr3,ho3,hn3,r3,z3,w3⟩;have pin:∀ {σ':St} {H':Hp} {s':Shared},Inv (JW X scope (own++rest) cl s2 H2 (D+1:Nat) fp) [] σ' H' s'->s'.heap.get? D=some { cls:=.type "list",data:=.seq its.toArray n }->H' D=none ->
   Inv (JW X scope (own++rest) cl s2 H2 (D+1:Nat) fp) [(D,{ cls:=.type "list",data:=.seq its.toArray n })] σ' H' s':=fun {σ' H' s'} K1 K2 K3 =>
   K1.pins_of fun p hp=>by
    have e:p=(D,{ cls:=.type "list",data:=.seq its.toArray n }):=by simpa using hp
    subst e;exact ⟨K2,K3,nDC,nfs,fun v z=>nomatch z⟩
  have fpk:∀ {H':Hp},(∀ b∈fp,H' b=none)->∀ b∈fp,J2N (JW X scope (own++rest) cl s2 H2 (D+1:Nat) fp) [(D,{ cls:=.type "list",data:=.seq its.toArray n })] H' b:=fun {H'} fr b hb=>by
   obtain ⟨o,e⟩:=hfo b hb;have lt:=below b o e;refine ⟨fr b hb,zB (Nat.lt_succ_of_lt lt),?_,.inl hb,fun x c q=>(hf b hb).2.2.2.2.1 x c (hc1 x c q),fun p hp=>?_⟩
   ·intro z
    have z':b∈frs X.stack:=z;rcases zU.mp (I.stkSub b z') with q | q
    ·exact (hf b hb).2.1 q
    ·exact (hf b hb).2.2.1 q
   ·have e:p=(D,{ cls:=.type "list",data:=.seq its.toArray n }):=by
     have hp':p∈[(D,({ cls:=.type "list",data:=.seq its.toArray n }:Obj))]:=hp;simpa using hp'
    subst e;exact Nat.ne_of_gt lt
  have J3p:=pin J3 ho3 hn3;rcases turn i m ys σ3 H3 w3 with ⟨stop,q⟩ | ⟨go,hlt,N,hN,step⟩
  ·refine thn (T.done (JW X scope (own++rest) cl s2 H2 (D+1:Nat) fp) rfl rfl rfl hcalm i _ s3 σ3 H3 _ J3p (fpk fr3) st3 stop) fun r s4 ⟨hr,J4⟩=>?_
   subst hr;have ho4:=J4.pin _ (z0 _ zT);refine hR s4 H3 ys (JbV I J4 hf (by omega) hn3 ho4.1 r3 z3) ?_ hn3 J4.free q;obtain ⟨mm,hmm,_⟩:=J4.loc;exact ⟨mm,hmm⟩
  ·refine thn (T.item (JW X scope (own++rest) cl s2 H2 (D+1:Nat) fp) rfl rfl rfl hcalm i _ s3 σ3 H3 _ J3p (fpk fr3) st3 go) fun r s4 ⟨u,hr,h4⟩=>?_
   subst hr;refine thn h4 fun _ s5 ⟨x,H5,J5,r5,y5,st5,fr5⟩=>?_;have J5':=J5.pinned (fpk fr5) (T.obj _ _ st5);refine thn (hg _ s5 σ3 H5 x u _ J5' r5 (step x H5 y5)) fun _ s6 ⟨σ6,H6,J6,q6⟩=>?_;refine thn (ht _ s6 σ6 H6 _ J6 q6) fun b s7 ⟨H7,J7,q7⟩=>?_;have stay:∀ {σ':St} {H':Hp} {s':Shared},Inv (JW X scope (own++rest) cl s2 H2 (D+1:Nat) fp) ([(D,{ cls:=.type "list",data:=.seq its.toArray n })]++J50 fp s5.heap) σ' H' s' ->
    Inv (JW X scope (own++rest) cl s2 H2 (D+1:Nat) fp) [] σ' H' s'/\tn (i+1) s'.heap/\(∀ b∈fp,H' b=none)/\s'.heap.get? D=some { cls:=.type "list",data:=.seq its.toArray n }/\H' D=none:=fun {σ' H' s'} K1=>by
    refine ⟨K1.pins_of fun p hp=>absurd hp (by simp),T.keep _ _ _ st5 fun b hb o e=>(K1.pin (b,o) (z0 _ (z0 _ (J2k hb e)))).1,fun b hb=>?_,?_,?_⟩
    ·obtain ⟨o,e,d⟩:=T.obj _ _ st5 b hb
     exact (K1.pin (b,o) (z0 _ (z0 _ (J2k hb e)))).2.1
    ·exact (K1.pin (D,_) (z0 _ (z9 _ zT))).1
    ·exact (K1.pin (D,_) (z0 _ (z9 _ zT))).2.1
   cases b with
   | false =>
     rw [zt zw] at q7 ⊢;obtain ⟨k1,k2,k3,k4,k5⟩:=stay J7;obtain ⟨m',hm,w'⟩:=hN _ _ _ q7;exact ⟨m',hm,i+1,ys,its,n,σ6,H7,k1,k2,k3,k4,k5,r3,z3,w'⟩
   | true =>
     rw [zu rfl] at q7 ⊢;refine thn (he _ s7 σ6 H7 _ J7 q7) fun xv s8 ⟨y,H8,J8,r8,q8⟩=>?_;obtain ⟨k1,k2,k3,k4,k5⟩:=stay J8;refine call_meets F.slot_list_append ⟨_,k4,rfl⟩ F.entry_list_append (F.args_list_append_2 _ _) (PySem.list_append D its.toArray n xv (by rw [zN,<- r3.length];omega)) ⟨k4,?_⟩;obtain ⟨m',hm,w'⟩:=hN _ _ _ q8;have ho9:=PySem.IsL.update k4 (fun a=>a.push xv);have ek:∀ b o,b≠D->s8.heap.get? b=some o->(s8.heap.update D (Obj.mapSeq (fun a=>a.push xv))).get? b=some o:=fun b o hb e=>(qk s8.heap (Obj.mapSeq _) (Ne.symm hb)).trans e;refine ⟨m',hm,i+1,ys++[y],its++[xv],(if ((its.toArray.push xv).size == its.toArray.size)=true then n else n+1),σ6,H8,k1.turned (it:=D) (t':=s8.toks) ek k5 nDC (.inr (show s2.heap.objs.size<=D by omega)) ncl (fun p hp=>absurd (show p∈([]:List (Addr×Obj)) from hp) (by simp)),?_,k3,?_,k5,r3.append (.cons r8 .nil),?_,w'⟩
     ·refine T.keep _ _ _ k2 fun b hb o e=>ek b o ?_ e
      obtain ⟨o',e'⟩:=hfo b hb;exact zB (below b o' e')
     ·have e2:its.toArray.push xv=(its++[xv]).toArray:=by simp
      rw [<- e2];exact ho9
     ·simp only [zQ,length_cons,length_nil];omega
 exact codeAny_compStart_list (loop _ rfl) (T.self X.A 0 _ _ _ st1 (loop _ rfl))
end
def J5N (k:Nat)(wi:TI)(g:TG)(tt:TT)(te:TE):TE:=fun σ H Q=>wi σ H fun J H1=>J8i J g tt te (fun ys H'=>∀ D,H' D=none->Q (.ref D) (upd H' D (.lst ys))) (List.replicate k none++σ) H1
section
variable {X:Cx}{elt tg iter:Expr}{ifs:List Expr}{scope:Scope}{pos:Pos}{wi:TI}{g:TG}{tt:TT}{te:TE}
theorem Inv.closed {pins:List (Addr×Obj)}{σ:St}{H:Hp}{s:Shared}{N rest:List Str}(I:Inv X pins σ H s)(S:CompSc scope X.env.scope N rest) :
 ∃ cl,closureFor scope X.env=pure cl/\(∀ n c,cl.lookup n=some c->X.env.cells.lookup n=some c)/\(∀ n,(n,NameKind.free)∈scope.names->∃ c,cl.lookup n=some c) :=
 J9e fun n z=>I.ok.has n (S.free n z)
theorem Inv.letgo {pins pins':List (Addr×Obj)}{σ σ':St}{H H':Hp}{s s':Shared}{b:Addr}{h':Heap}(I:Inv X pins σ H s)(J:Inv X pins σ' H' s')(hb:s.heap.objs.size<=b)(hn:H' b=none)(sb:Heap.SameBut b s'.heap h'):Inv X pins σ' H' { s' with heap:=h' }:=by
 obtain ⟨f0,f1,f2,f3,f4,f5⟩:=I.fpOk hb hn;exact J.turned (t':=s'.toks) (fun c o hc e=>(sb.2 c hc).trans e) f0 f1 f3 f4 f5
theorem J00 (own rest:List Str)(hcalm:X.calm=true)(S:CompSc scope X.env.scope X.N rest)(hi:PI X tg iter wi)
 (hg:∀ cl s2 H2 C fp,PG (JW X scope (own++rest) cl s2 H2 C fp) tg g) (ht:∀ cl s2 H2 C fp,PTs (JW X scope (own++rest) cl s2 H2 C fp) ifs tt) (he:∀ cl s2 H2 C fp,PE (JW X scope (own++rest) cl s2 H2 C fp) elt te)
 (hs:∀ x,foldedSetIterable iter X.env x=pure x:=by intro _;rfl):PE X (.ListComp elt [⟨tg,iter,ifs,0⟩] scope pos) (J5N own.length wi g tt te):=by
 intro pins s σ H Q I h;obtain ⟨cl,hcl,hc1,hc2⟩:=I.closed S;rw [eval_ListComp];refine wpAny_comprehension_free (use:=none) rfl hs hcl S.kind S.loc (thn (hi pins s σ H _ I h) fun v s1 h1=>thn h1 fun itv s2 h2=>?_);obtain ⟨it,fp,tn,J,H2,e,I2,T,st,hf,hw⟩:=h2;subst e;refine comp_run (RR:=fun acc C=>compPost (model X.prog X.w) X.A X.xe none (EP X pins σ Q) acc C) (D:=s2.heap.objs.size) rfl hcalm I2 S hc1 hc2 T st hf (hg _ _ _ _ _) (ht _ _ _ _ _) (he _ _ _ _ _) hw ?_;intro s' H' ys J' ⟨m,hm⟩ hD hC q;refine ⟨m,hm,fun h' sb=>⟨.ref s2.heap.objs.size,_,I2.letgo (pins':=pins) (b:=(s2.heap.objs.size+1:Nat)) J' (Nat.le_succ _) ?_ sb,rfl,q _ hD⟩⟩;rw [Jh (Nat.ne_of_gt (Nat.lt_succ_self _))];exact hC
theorem J1D {i:Nat}{y:Str}{py spos:Pos}(own rest:List Str)(hcalm:X.calm=true)(S:CompSc scope X.env.scope X.N rest)(hN:X.N.Nodup)(hy:X.N[i]?=some y)(hl:X.env.scope.names.lookup y=some .local)(hi:PI X tg iter wi)
 (hg:∀ cl s2 H2 C fp,PG (JW X scope (own++rest) cl s2 H2 C fp) tg g) (ht:∀ cl s2 H2 C fp,PTs (JW X scope (own++rest) cl s2 H2 C fp) ifs tt) (he:∀ cl s2 H2 C fp,PE (JW X scope (own++rest) cl s2 H2 C fp) elt te)
 (hsw:swapsWith (.ListComp elt [⟨tg,iter,ifs,0⟩] scope pos) (some (.Name y py)) spos.line X.env=pure true:=by rfl)
 (hs:∀ x,foldedSetIterable iter X.env x=pure x:=by intro _;rfl):PS X (.Assign [.Name y py] (.ListComp elt [⟨tg,iter,ifs,0⟩] scope pos) spos) (J3t (J5N own.length wi g tt te) (JL i)):=by
 intro pins s σ H D I h;obtain ⟨cl,hcl,hc1,hc2⟩:=I.closed S;rw [exec_Assign_Name_used _ _ _ _ hsw];refine zq (wpAny_standAt (zq ?_));show wpAny _ X.A (do let _ <- comprehension (.ListComp elt [⟨tg,iter,ifs,0⟩] scope pos) scope X.env _ (newList []) false (eval iter X.env) (some (assign (.Name y py) X.env))) _ _ s;refine zq (wpAny_mono (wpAny_comprehension_free (use:=some (assign (.Name y py) X.env)) (Q:=fun _ s'=>SP X pins D .next s') rfl hs hcl S.kind S.loc (thn (hi pins s σ H _ I h) fun v s1 h1=>thn h1 fun itv s2 h2=>?_)) (fun _ s' hq=>zr (zr hq)) fun _ _ e=>e);obtain ⟨it,fp,tn,J,H2,e,I2,T,st,hf,hw⟩:=h2;subst e;refine comp_run (RR:=fun acc C=>compPost (model X.prog X.w) X.A X.xe (some (assign (.Name y py) X.env)) (fun _ s'=>SP X pins D .next s') acc C) (D:=s2.heap.objs.size) rfl hcalm I2 S hc1 hc2 T st hf (hg _ _ _ _ _) (ht _ _ _ _ _) (he _ _ _ _ _) hw ?_;intro s' H' ys J' ⟨m,hm⟩ hD hC q;show wpAny _ X.A (assign (.Name y py) X.env (.ref s2.heap.objs.size)) _ _ s';refine wpAny_assign_Name (store_ok2 (v:=.ref s2.heap.objs.size) J' hN hy (.inl hl) rfl (fun s3 J3 ⟨a,sb,ha⟩=>?_) (.inr hl));have hne:s2.heap.objs.size+1≠a:=by
  rcases ha with ha | ha
  ·rw [ha];exact Nat.ne_of_gt (Nat.lt_succ_of_lt I2.lt)
  ·obtain ⟨v,o,e,d⟩:=I2.cell y a ha
   exact Nat.ne_of_gt (Nat.lt_succ_of_lt (qj e))
 refine ⟨m,hm.sameBut sb hne,fun h' sb'=>⟨_,_,I2.letgo (pins':=pins) (b:=(s2.heap.objs.size+1:Nat)) J3 (Nat.le_succ _) ?_ sb',q _ hD⟩⟩;rw [Jh (Nat.ne_of_gt (Nat.lt_succ_self _))];exact hC
end
structure Walk (J:It)(xs:List V)(ok:Hp->Prop):Prop where
 go:∀ i H,ok H->i<xs.length->J.go i H
 yld:∀ i H x H',ok H->i<xs.length->J.yld i H x H'->H'=H/\xs[i]?=some x
 stop:∀ H,ok H->J.stop xs.length H
theorem JB {K:PySem.W.Frag}{a:Addr}{xs:List V}:Walk (Itl K a) xs (fun H=>SqL K H a xs) where
 go:=fun i H q hi=>⟨xs,xs[i],q,by simp [hi]⟩
 yld:=fun i H x H' q _ y=>⟨y.1,y.2 xs q⟩
 stop:=fun H q=>⟨xs,q,zv _⟩
theorem J0d {K:PySem.W.Frag}{a:Addr}{xs:List V}:Walk (Itt K a) xs (fun H=>SqT K H a xs) where
 go:=fun i H q hi=>⟨xs,xs[i],q,by simp [hi]⟩
 yld:=fun i H x H' q _ y=>⟨y.1,y.2 xs q⟩
 stop:=fun H q=>⟨xs,q,zv _⟩
def J43 (lo:Int)(n:Nat):List V:=(List.range n).map fun (i:Nat)=>V.int (lo+i)
theorem JK (lo:Int)(n:Nat):(J43 lo n).length=n:=by simp [J43]
theorem J4Z {lo:Int}{n i:Nat}(h:i<n):(J43 lo n)[i]?=some (.int (lo+i)):=by simp [J43,h]
theorem J08 {lo:Int}{n:Nat}:Walk (Itr lo n) (J43 lo n) (fun _=>True) where
 go:=fun i H _ hi=>by rw [JK] at hi;exact hi
 yld:=fun i H x H' _ hi y=>⟨y.1,by rw [JK] at hi;rw [J4Z hi,y.2]⟩
 stop:=fun H _=>Nat.le_of_eq (JK lo n).symm
theorem JbJ {J:It}{xs:List V}{ok:Hp->Prop}(w:Walk J xs ok){g:TG}{tb:TS}{D:Ends}{σ:St}{H:Hp}(Pv:Nat->St->Hp->Prop)(h0:Pv 0 σ H)(hl:∀ i σ H,i<=xs.length->Pv i σ H->ok H)
 (hs:∀ i x σ H,xs[i]?=some x->Pv i σ H->g x σ H fun σ2 H2=>tb { D with nx:=Pv (i+1),ct:=Pv (i+1),bk:=D.nx } σ2 H2) (hd:∀ σ H,Pv xs.length σ H->D.nx σ H) :
 ∃ W:Nat->Nat->St->Hp->Prop,(∃ m,W 0 m σ H)/\∀ i m σ H,W i m σ H ->
   (J.stop i H/\D.nx σ H)\/(J.go i H/\∃ N:St->Hp->Prop,(∀ σ' H',N σ' H'->∃ m',m'<m/\W (i+1) m' σ' H')/\∀ x H',J.yld i H x H'->g x σ H' fun σ2 H2=>tb { D with nx:=N,ct:=N,bk:=D.nx } σ2 H2):=by
 refine ⟨fun i m σ H=>m=xs.length - i/\i<=xs.length/\Pv i σ H,⟨xs.length,by simp,zF _,h0⟩,?_⟩;rintro i m σ H ⟨rfl,hi,p⟩;have q:=hl i σ H hi p;by_cases hlt:i<xs.length
 ·refine .inr ⟨w.go i H q hlt,Pv (i+1),fun σ' H' p'=>⟨xs.length - (i+1),by omega,rfl,hlt,p'⟩,fun x H' y=>?_⟩
  obtain ⟨e,y'⟩:=w.yld i H x H' q hlt y;subst e;exact hs i x σ _ y' p
 ·have e:i=xs.length:=by omega
  subst e;exact .inl ⟨w.stop H q,hd σ H p⟩
theorem JV {J:It}{xs:List V}{ok:Hp->Prop}(w:Walk J xs ok){tt:TT}{te:TE}{fin:List V->Hp->Prop}{σ:St}{H:Hp}(hz:xs.length<=sizeLine)(Pv:Nat->List V->Hp->Prop)(h0:Pv 0 [] H)(hl:∀ i ys H,i<=xs.length->Pv i ys H->ok H)
 (hlen:∀ i ys H,Pv i ys H->ys.length<=i)
 (hs:∀ i x ys H,xs[i]?=some x->Pv i ys H->tt (some x::σ) H fun b H3=>if b=true then te (some x::σ) H3 fun y H4=>(∃ o,some x::σ=o::σ)/\Pv (i+1) (ys++[y]) H4 else (∃ o,some x::σ=o::σ)/\Pv (i+1) ys H3) (hd:∀ ys H,Pv xs.length ys H->fin ys H) :
 J8i J (JL 0) tt te fin (List.replicate 1 none++σ) H:=by
 refine ⟨fun i m ys σ' H=>m=xs.length - i/\i<=xs.length/\(∃ o,σ'=o::σ)/\Pv i ys H,⟨xs.length,by simp,zF _,⟨none,rfl⟩,h0⟩,?_⟩;rintro i m ys σ' H ⟨rfl,hi,⟨o,rfl⟩,p⟩;have hy:=hlen i ys H p;have q:=hl i ys H hi p;by_cases hlt:i<xs.length
 ·refine .inr ⟨w.go i H q hlt,by omega,fun ys' σ' H'=>(∃ o,σ'=o::σ)/\Pv (i+1) ys' H',fun ys' σ' H' p'=>⟨xs.length - (i+1),by omega,rfl,hlt,p'⟩,fun x H' y=>?_⟩
  obtain ⟨e,y'⟩:=w.yld i H x H' q hlt y;subst e;exact hs i x ys _ y' p
 ·have e:i=xs.length:=by omega
  subst e;exact .inl ⟨w.stop H q,hd ys H p⟩
def sgn (c:Nat):V:=.str ⟨#[c]⟩
def Its (z:Str):It:=⟨fun i _=>i<z.cps.size,fun i H x H'=>H'=H/\∃ c,z.cps[i]?=some c/\x=sgn c,fun i _=>i=z.cps.size⟩
theorem J4I {P:Program}{w:World}{K:PySem.W.Frag}{tg:Expr}{it:Addr}{T:String}{z:Str}{t:Tok}(hT:["enumerate","zip","dict_itemiterator","dict_reverseitemiterator","odict_iterator","itertools.zip_longest","itertools.pairwise"].contains T=false)
 (W:∀ A:Around,A.handled=none->Walks P w A it [it] [it] z.cps.size (SignAt z) (fun i h=>h.IsStrIter it T z t i)) (S:∀ (A:Around) (i:Nat) (s:Shared) (Q:Value->Shared->Prop) (E:Value->Shared->Prop),s.heap.IsStrIter it T z t i->Q (.ref it) s->wpAny (model P w) A (pyIter (.ref it)) Q E s) :
 Turn P w K tg (Its z) [it] it (fun i h=>h.IsStrIter it T z t i) where
 mem:=by simp
 obj:=fun i h st b hb=>by
  have e:b=it:=by simpa using hb
  subst e;obtain ⟨o,e,c,d⟩:=st;exact ⟨o,e,fun v z=>by rw [d] at z;cases z⟩
 keep:=fun i h h' st k=>by obtain ⟨o,e,r⟩:=st;exact ⟨o,k it (by simp) o e,r⟩
 item:=by
  intro X hP hw hK hc i pins s σ H E I hf st hg;subst hP hw hK;obtain ⟨f0,f1,f2,f3,f4,f5⟩:=hf it (by simp);refine (W X.A (I.ok.hd hc)).item i s _ E hg st fun v h' tk hP st' k=>?_;obtain ⟨c,u,hcu,rfl⟩:=hP;have I1:Inv X pins σ H { s with heap:=h',toks:=tk }:=I.turned (t':=tk) (fun b o hb e=>k b o (by simpa using hb) e) f0 f1 f3 f4 f5;obtain ⟨o,e,c',d⟩:=id st';exact ⟨_,rfl,go_of (s:={ s with heap:=h',toks:=tk }) e c' d hT ⟨sgn c,H,I1,⟨u,rfl⟩,⟨rfl,c,hcu,rfl⟩,st',fun b hb=>(hf b hb).1⟩⟩
 done:=by
  intro X hP hw hK hc i pins s σ H E I hf st hg;subst hP hw hK;obtain ⟨f0,f1,f2,f3,f4,f5⟩:=hf it (by simp);have hg':i=z.cps.size:=hg;subst hg';exact (W X.A (I.ok.hd hc)).done s _ E st fun h' tk k=>⟨rfl,I.turned (t':=tk) (fun b o hb e=>k b o (by simpa using hb) e) f0 f1 f3 f4 f5⟩
 self:=fun A i s Q E st h=>S A i s Q E st h
section
variable {X:Cx}{tg:Expr}
def Jd7 (tl:TE):TI:=fun σ H R=>tl σ H fun x H1=>∃ z,x=.str z/\R (Its z) H1
theorem JdR {l:Expr}{tl:TE}(hl:PE X l tl):PI X tg l (Jd7 tl):=by
 intro pins s σ H R I h;refine thn (hl pins s σ H _ I h) fun v s1 ⟨x,H1,I1,r1,q1⟩=>?_;obtain ⟨z,e,q⟩:=q1;subst e;obtain ⟨t,rfl⟩:=r1;have fp:∀ (o:Obj),∀ b∈[s1.heap.objs.size],J2N X pins H1 b:=fun o b hb=>by
  have e:b=s1.heap.objs.size:=by simpa using hb
  subst e;exact I1.fpOk (zv _) (I1.hok.fresh (zv _))
 cases ha:z.cps.all (·<128)
 ·refine wpAny_pyIter_wide ha ?_
  exact ⟨s1.heap.objs.size,[s1.heap.objs.size],_,_,H1,rfl,I1.kept (t':=s1.toks) fun b o e=>qh _ e,
   J4I (by decide) (fun A hA=>Walks.strWide hA _ z t) (fun _ _ _ _ _ st h=>wpAny_pyIter_striter_wide st h),⟨_,qi _ rfl,rfl,rfl⟩,fp default,q⟩
 ·refine wpAny_pyIter_ascii ha ?_
  exact ⟨s1.heap.objs.size,[s1.heap.objs.size],_,_,H1,rfl,I1.kept (t':=s1.toks) fun b o e=>qh _ e,
   J4I (by decide) (fun A hA=>Walks.strAscii hA _ z t) (fun _ _ _ _ _ st h=>wpAny_pyIter_striter_ascii st h),⟨_,qi _ rfl,rfl,rfl⟩,fp default,q⟩
end
def J6v (z:Str):List V:=z.cps.toList.map sgn
theorem J4U (z:Str):(J6v z).length=z.length:=by simp [J6v,Str.length]
mutual
def Rep (K:PySem.W.Frag)(H:Hp):PyData->V->Prop
 | .none,v=>v=.non
 | .bool b,v=>v=.bl b
 | .int i,v=>v=.int i
 | .str x,v=>v=.str x
 | .list ds,v=>∃ a xs,v=.ref a/\SqL K H a xs/\Reps K H ds xs
 | .tuple ds,v=>∃ a xs,v=.ref a/\SqT K H a xs/\Reps K H ds xs
 | .dict _,_=>False
def Reps (K:PySem.W.Frag)(H:Hp):List PyData->List V->Prop
 | [],vs=>vs=[]
 | d::ds,vs=>∃ v r,vs=v::r/\Rep K H d v/\Reps K H ds r
end
section
variable {X:Cx}{pins:List (Addr×Obj)}{σ:St}{H:Hp}{s:Shared}
mutual
theorem Rep.reads (I:Inv X pins σ H s):∀ (d:PyData) (v:V) (u:Value),Rep X.K H d v->RelV v u->∃ as,Reads s.heap u d as
 | .none,v,u,h,r=>by
   have e:v=.non:=by simpa [Rep] using h
   subst e;cases r;exact ⟨_,.none⟩
 | .bool b,v,u,h,r=>by
   have e:v=.bl b:=by simpa [Rep] using h
   subst e;cases r;exact ⟨_,.bool b⟩
 | .int i,v,u,h,r=>by
   have e:v=.int i:=by simpa [Rep] using h
   subst e;obtain ⟨t,rfl⟩:=r;exact ⟨_,.int i t⟩
 | .str x,v,u,h,r=>by
   have e:v=.str x:=by simpa [Rep] using h
   subst e;obtain ⟨t,rfl⟩:=r;exact ⟨_,.str x t⟩
 | .list ds,v,u,h,r=>by
   obtain ⟨a,xs,rfl,hs,hr⟩:∃ a xs,v=.ref a/\SqL X.K H a xs/\Reps X.K H ds xs:=by simpa only [Rep] using h
   cases r;obtain ⟨its,rv,p,hz⟩:=I.list hs;obtain ⟨o,ho,hc,n,hd⟩:=p.isList;obtain ⟨as,q⟩:=Reps.reads I ds xs its hr rv;exact ⟨_,.list ho hc hd (by simpa using q)⟩
 | .tuple ds,v,u,h,r=>by
   obtain ⟨a,xs,rfl,hs,hr⟩:∃ a xs,v=.ref a/\SqT X.K H a xs/\Reps X.K H ds xs:=by simpa only [Rep] using h
   cases r;obtain ⟨its,rv,p,hz⟩:=I.tuple hs;obtain ⟨o,ho,hc,n,hd⟩:=p;obtain ⟨as,q⟩:=Reps.reads I ds xs its hr rv;exact ⟨_,.tuple ho hc hd (by simpa using q)⟩
 | .dict _,v,u,h,r=>by simp [Rep] at h
theorem Reps.reads (I:Inv X pins σ H s):∀ (ds:List PyData) (vs:List V) (us:List Value),Reps X.K H ds vs->Vals vs us->∃ as,ReadsAll s.heap us ds as
 | [],vs,us,h,r=>by
   have e:vs=[]:=by simpa [Reps] using h
   subst e;cases r;exact ⟨_,.nil⟩
 | d :: ds,vs,us,h,r=>by
   obtain ⟨v,q,rfl,h1,h2⟩:∃ v r,vs=v::r/\Rep X.K H d v/\Reps X.K H ds r:=by simpa only [Reps] using h
   cases r with
   | cons r1 r2 =>
     obtain ⟨as,q1⟩:=Rep.reads I d v _ h1 r1;obtain ⟨bs,q2⟩:=Reps.reads I ds q _ h2 r2;exact ⟨_,.cons q1 q2⟩
end
end
section
variable {X:Cx}
def J6F (K:PySem.W.Frag)(neg:Bool):R2:=fun x y H Q=>∃ d e,Rep K H d x/\Rep K H e y/\SeqAt.shaped d=true/\SeqAt.shaped e=true/\Q (.bl (if neg then !PyData.eqv d e else PyData.eqv d e)) H
theorem Je0 (hu:X.A.units+64<cLine):OpR X (compareOp .Eq) (J6F X.K false):=by
 intro pins s σ H x y v u Q I rx ry h;obtain ⟨d,e,h1,h2,h3,h4,q⟩:=h;obtain ⟨as,q1⟩:=Rep.reads I d x v h1 rx;obtain ⟨bs,q2⟩:=Rep.reads I e y u h2 ry;exact eq_dataH q1 q2 h3 h4 hu (Jz I q rfl)
theorem JdY (hu:X.A.units+64<cLine):OpR X (compareOp .NotEq) (J6F X.K true):=by
 intro pins s σ H x y v u Q I rx ry h;obtain ⟨d,e,h1,h2,h3,h4,q⟩:=h;obtain ⟨as,q1⟩:=Rep.reads I d x v h1 rx;obtain ⟨bs,q2⟩:=Rep.reads I e y u h2 ry;exact ne_dataH q1 q2 h3 h4 hu (Jz I q rfl)
def Jfa (K:PySem.W.Frag):List V->Hp->VK->Prop:=fun xs H Q=>∃ x T t b,xs=[x,.ty T]/\TyOf K H x t/\PySem.W.kitOne K t (.type T)=some b/\Q (.bl b) H
theorem Jc1:J03 X (.builtin "isinstance") (Jfa X.K):=by
 intro pins s σ H xs us Q I r h;obtain ⟨x,T,t,b,rfl,ty,e,q⟩:=h;obtain ⟨u,c,rfl,ru,rc⟩:=JaE r;cases rc;exact Jah I ru ty e fun tk=>⟨.bl b,H,I.tok _,rfl,q⟩
theorem J5q:∀ {bs:List Bool} {us:List Value},Vals (bs.map V.bl) us->LSm.BoolsAre us bs
 | [],_,.nil=>.nil
 | _::_,_,.cons r t=>by cases r;exact .cons _ (J5q t)
def J8I (K:PySem.W.Frag)(g:List Bool->Bool):List V->Hp->VK->Prop:=fun xs H Q=>∃ a bs,xs=[.ref a]/\SqL K H a (bs.map V.bl)/\Q (.bl (g bs)) H
theorem Jc4 (hc:X.calm=true):J03 X (.builtin "all") (J8I X.K fun bs=>bs.all id):=by
 intro pins s σ H xs us Q I r h;obtain ⟨a,bs,rfl,hs,q⟩:=h;obtain ⟨u,rfl,ru⟩:=J0w r;cases ru;obtain ⟨its,rv,p,hz⟩:=I.list hs;have hl:=p.isList;have hb:=J5q rv;have hlt:a<s.heap.objs.size:=by obtain ⟨_,e,_⟩:=hl;exact qj e
 refine call_all_walk (wpAny_pyIter_list hl ?_);refine ⟨s.heap.objs.size,[s.heap.objs.size,a],[s.heap.objs.size],its.toArray.size,_,_,fun i=>(bs[i]?).getD true,rfl,Walks.list (A:=X.A.in1) (I.ok.hd hc) _ a (zB hlt) its.toArray,
  ⟨⟨_,qi _ rfl,rfl,rfl⟩,hl.push _⟩,fun i v s' Q' E' hP hQ=>?_,fun h' tk hk=>?_⟩
 ·obtain ⟨b,e,rfl⟩:=hb.get i v (by simpa using hP)
  simp only [e,Option.getD_some] at hQ;exact wpAny_truthy_bool hQ
 ·have e:((List.range its.toArray.size).all fun i=>(bs[i]?).getD true)=bs.all id:=by
   rw [zN,hb.length];exact LSm.range_all bs
  rw [e];exact ⟨.bl (bs.all id),H,I.kept (LSm.kept_iter hk),rfl,q⟩
theorem Jc3 (hc:X.calm=true):J03 X (.builtin "any") (J8I X.K fun bs=>bs.any id):=by
 intro pins s σ H xs us Q I r h;obtain ⟨a,bs,rfl,hs,q⟩:=h;obtain ⟨u,rfl,ru⟩:=J0w r;cases ru;obtain ⟨its,rv,p,hz⟩:=I.list hs;have hl:=p.isList;have hb:=J5q rv;have hlt:a<s.heap.objs.size:=by obtain ⟨_,e,_⟩:=hl;exact qj e
 refine call_any_walk (wpAny_pyIter_list hl ?_);refine ⟨s.heap.objs.size,[s.heap.objs.size,a],[s.heap.objs.size],its.toArray.size,_,_,fun i=>(bs[i]?).getD false,rfl,Walks.list (A:=X.A.in1) (I.ok.hd hc) _ a (zB hlt) its.toArray,
  ⟨⟨_,qi _ rfl,rfl,rfl⟩,hl.push _⟩,fun i v s' Q' E' hP hQ=>?_,fun h' tk hk=>?_⟩
 ·obtain ⟨b,e,rfl⟩:=hb.get i v (by simpa using hP)
  simp only [e,Option.getD_some] at hQ;exact wpAny_truthy_bool hQ
 ·have e:((List.range its.toArray.size).any fun i=>(bs[i]?).getD false)=bs.any id:=by
   rw [zN,hb.length];exact LSm.range_any bs
  rw [e];exact ⟨.bl (bs.any id),H,I.kept (LSm.kept_iter hk),rfl,q⟩
theorem strs_of:∀ {ys:List Str} {us:List Value},Vals (ys.map V.str) us->StrsAre us ys
 | [],_,.nil=>.nil
 | _::_,_,.cons r t=>by obtain ⟨k,rfl⟩:=r;exact .cons _ _ (strs_of t)
def Jb2 (K:PySem.W.Frag):V->List V->Hp->VK->Prop:=fun x vs H Q=>∃ z a ys,x=.str z/\vs=[.ref a]/\SqL K H a (ys.map V.str)/\(ys.map (·.length)).sum+ys.length * z.length<=16777216/\Q (.str (Txt.join z ys)) H
theorem JcX:MtR X "str.join" (Jb2 X.K):=by
 intro pins s σ H x vs v us Q I rx rv h;obtain ⟨z,a,ys,rfl,rfl,hs,hz,q⟩:=h;obtain ⟨t,rfl⟩:=rx;obtain ⟨u,rfl,ru⟩:=rv.one;cases ru;obtain ⟨its,r2,p,_⟩:=I.list hs;exact join_list p.isList (by simpa using strs_of r2) hz fun t' k=>⟨.str _,H,I.tok _,⟨_,rfl⟩,q⟩
end
section
variable {X:Cx}
structure DefOk (K:PySem.W.Frag)(mg:Str->Option Value)(x:Str)(st:Stmt)(ps:List Str)(f:Addr)(fd:FuncData):Prop where
 F:Fun K x x st f fd
 b:Binds K fd ps []
 m:mg x=some (.ref f)
theorem pvl (i:Nat){x:Str}{pos:Pos}(hN:X.N[i]?=some x:=by rfl)(hv:X.env.scope.names.lookup x=some .local:=by rfl)(hd:(x == ("__debug__":Str))=false:=by decide)(hcd:(x == ("__classdict__":Str))=false:=by decide):PE X (.Name x pos) (J4i i):=Jb9 hN (.inl hv) hd hcd
theorem pvc (i:Nat){x:Str}{pos:Pos}(hN:X.N[i]?=some x:=by rfl)(hv:X.env.scope.names.lookup x=some .cell:=by rfl)(hd:(x == ("__debug__":Str))=false:=by decide)(hcd:(x == ("__classdict__":Str))=false:=by decide):PE X (.Name x pos) (J4i i):=Jb9 hN (.inr (.inl hv)) hd hcd
theorem pgl (i:Nat){x:Str}{pos:Pos}(hN:X.N.Nodup)(hi:X.N[i]?=some x:=by rfl)(hv:X.env.scope.names.lookup x=some .local:=by rfl):PG X (.Name x pos) (JL i):=JcK hN hi (.inl hv) (.inr hv)
theorem psl (i:Nat){x:Str}{pos pos':Pos}{e:Expr}{te:TE}(hN:X.N.Nodup)(he:PE X e te)(hi:X.N[i]?=some x:=by rfl)(hv:X.env.scope.names.lookup x=some .local:=by rfl)(hs:swapsWith e (some (.Name x pos')) pos.line X.env=pure false:=by rfl) :
 PS X (.Assign [.Name x pos'] e pos) (J3t te (JL i)):=Jb6 hN hi (.inl hv) he hs (.inr hv)
theorem psc (i:Nat){x:Str}{pos pos':Pos}{e:Expr}{te:TE}(hN:X.N.Nodup)(he:PE X e te)(hi:X.N[i]?=some x:=by rfl)(hv:X.env.scope.names.lookup x=some .cell:=by rfl)(hs:swapsWith e (some (.Name x pos')) pos.line X.env=pure false:=by rfl)(hf:X.fn x=true:=by rfl) :
 PS X (.Assign [.Name x pos'] e pos) (J3t te (JL i)):=Jb6 hN hi (.inr hv) he hs (.inl hf)
theorem pgi {x:Str}{i:Int}{pos:Pos}(hm:∃ tk,X.mg x=some (.int i tk))(hg:Gl X x:=by rfl)(hd:(x == ("__debug__":Str))=false:=by decide):PE X (.Name x pos) (tC (.int i)):=let ⟨t,e⟩:=hm;J6J hg e ⟨t,rfl⟩ hd
theorem pgs {x:Str}{z:Str}{pos:Pos}(hm:∃ tk,X.mg x=some (.str z tk))(hg:Gl X x:=by rfl)(hd:(x == ("__debug__":Str))=false:=by decide):PE X (.Name x pos) (tC (.str z)):=let ⟨t,e⟩:=hm;J6J hg e ⟨t,rfl⟩ hd
theorem pty {x:Str}{T:String}{pos:Pos}(hm:X.mg x=none)(hv:bootBuiltins x=some (.type T))(hg:Gl X x:=by rfl)(hn:x≠"__name__":=by decide)(hd:(x == ("__debug__":Str))=false:=by decide):PE X (.Name x pos) (tC (.ty T)):=JcO hg hm hv rfl hn hd
end
theorem Same.new {H H':Hp}(e:Same H H'){p:Addr}(h:H' p=none)(o:HO):Same H (upd H' p o):=fun b q z=>by
 rw [Jh (JU (e b q z) h)];exact e b q z
theorem Same.upd_new {H:Hp}{p:Addr}(h:H p=none)(o:HO):Same H (upd H p o):=(Same.refl H).new h o
theorem Same.set {H H':Hp}(e:Same H H'){p:Addr}(h:H p=none)(o:HO):Same H (upd H' p o):=fun b q z=>by
 rw [Jh (JU z h)];exact e b q z
theorem Same.seqT {K:PySem.W.Frag}{H H':Hp}{a:Addr}{xs:List V}(e:Same H H')(h:SqT K H a xs):SqT K H' a xs:=by
 rcases h with (h | ⟨o,h⟩) | h
 ·exact .inl (.inl (e _ _ h))
 ·exact .inl (.inr ⟨o,e _ _ h⟩)
 ·exact .inr h
theorem Jv:bootBuiltins "len"=some (.builtin "len"):=by decide +kernel
theorem J46:bootBuiltins "all"=some (.builtin "all"):=by decide +kernel
theorem Jev:bootBuiltins "any"=some (.builtin "any"):=by decide +kernel
theorem Jew:bootBuiltins "abs"=some (.builtin "abs"):=by decide +kernel
theorem Jeu:bootBuiltins "sum"=some (.builtin "sum"):=by decide +kernel
theorem J22:bootBuiltins "sorted"=some (.builtin "sorted"):=by decide +kernel
theorem Jr:bootBuiltins "isinstance"=some (.builtin "isinstance"):=by decide +kernel
theorem J7e:bootBuiltins "int"=some (.type "int"):=by decide +kernel
theorem J2L:bootBuiltins "str"=some (.type "str"):=by decide +kernel
theorem J9O:bootBuiltins "bool"=some (.type "bool"):=by decide +kernel
theorem J2l:bootBuiltins "list"=some (.type "list"):=by decide +kernel
theorem J0c:bootBuiltins "tuple"=some (.type "tuple"):=by decide +kernel
theorem Jdh:bootBuiltins "dict"=some (.type "dict"):=by decide +kernel
theorem Jb {n:Nat}(h:n<=1000000):n<=sizeLine:=by rw [sizeLine_eq];omega
theorem JaD {z:Str}:Walk (Its z) (J6v z) (fun _=>True) where
 go:=fun i H _ hi=>by rw [J4U] at hi;exact hi
 yld:=fun i H x H' _ hi y=>by
  obtain ⟨e,c,hc,hx⟩:=y;refine ⟨e,?_⟩;rw [hx,J6v,zW];have:z.cps.toList[i]?=some c:=by simpa using hc
  rw [this];rfl
 stop:=fun H _=>J4U z
theorem Jw {α:Type}{xs:List α}{i:Nat}{x:α}(h:xs[i]?=some x):xs.take (i+1)=xs.take i++[x]:=by rw [take_add_one,h];rfl
theorem comp_of {α:Type}{J:It}{as:List α}{g:α->V}{ok:Hp->Prop}(w:Walk J (as.map g) ok){tt:TT}{te:TE}{fin:List V->Hp->Prop}{σ:St}{H:Hp}(hz:as.length<=sizeLine)(h0:∀ H',Same H H'->ok H')(p:α->Bool)(f:α->V)
 (ht:∀ a H1 Q,a∈as->Same H H1->(∀ H2,Same H1 H2->Q (p a) H2)->tt (some (g a)::σ) H1 Q)
 (he:∀ a H1 Q,a∈as->p a=true->Same H H1->(∀ H2,Same H1 H2->Q (f a) H2)->te (some (g a)::σ) H1 Q)
 (hd:∀ H',Same H H'->fin ((as.filter p).map f) H'):J8i J (JL 0) tt te fin (none::σ) H:=by
 refine JV w (by rw [zL];exact hz) (fun i ys H'=>Same H H'/\ys=((as.take i).filter p).map f) ⟨Same.refl H,rfl⟩ (fun i ys H' _ q=>h0 H' q.1) (fun i ys H' q=>?_) (fun i x ys H' hx q=>?_) (fun ys H' q=>?_)
 ·rw [q.2,zL]
  exact zG (length_filter_le _ _) (by rw [zR];omega)
 ·obtain ⟨s1,e⟩:=q
  rw [zW] at hx;cases ha:as[i]? with
  | none=>rw [ha] at hx;cases hx
  | some a =>
    rw [ha] at hx;have hx':g a=x:=zA hx;subst hx';have hm:a∈as:=zP ha;refine ht a H' _ hm s1 fun H2 s2=>?_;cases hp:p a with
    | false =>
      rw [zt zw];exact ⟨⟨_,rfl⟩,s1.trans s2,by rw [e,Jw ha,filter_append,zY];simp [hp]⟩
    | true =>
      rw [zu rfl];exact he a H2 _ hm hp (s1.trans s2) fun H3 s3=>⟨⟨_,rfl⟩,(s1.trans s2).trans s3,by rw [e,Jw ha,filter_append,zY];simp [hp]⟩
 ·obtain ⟨s1,e⟩:=q
  rw [e,zL,zX];exact hd H' s1
theorem J0p {α:Type}(as:List α):as.filter (fun _=>true)=as:=filter_eq_self.mpr fun _ _=>rfl
theorem Jel (g:Str)(c:Nat):(!(Builtin.Str.occurrences g ⟨#[c]⟩ 0 g.length 1).isEmpty)=decide (c∈g.cps.toList):=PySem.StrLaws.found_one g c
def J2Q:List String:=["NoneType","bool","int","str","list","tuple","dict"]
structure Pl (K:PySem.W.Frag)(H:Hp)(x:V)(T:String):Prop where
 ty:TyOf K H x (.type T)
 mem:T∈J2Q
 sz:∀ z,x=.str z->z.length<=sizeLine
def J73 (T S:String):Bool:=T == S||(T == "bool"&&S == "int")
theorem Jai {K:PySem.W.Frag}{T S:String}(hT:T∈J2Q)(hS:S∈J2Q):PySem.W.kitOne K (.type T) (.type S)=some (J73 T S):=by
 simp only [J2Q,zU,not_mem_nil,or_false] at hT hS;rcases hT with rfl | rfl | rfl | rfl | rfl | rfl | rfl<;>rcases hS with rfl | rfl | rfl | rfl | rfl | rfl | rfl<;>rfl
theorem Pl.of_str {K:PySem.W.Frag}{H:Hp}{z:Str}(h:z.length<=sizeLine):Pl K H (.str z) "str":=⟨.str z,by decide,fun _ e=>by cases e;exact h⟩
theorem Pl.of_int {K:PySem.W.Frag}{H:Hp}{i:Int}:Pl K H (.int i) "int":=⟨.int i,by decide,fun _ e=>by cases e⟩
theorem Pl.of_non {K:PySem.W.Frag}{H:Hp}:Pl K H .non "NoneType":=⟨.non,by decide,fun _ e=>by cases e⟩
theorem Pl.of_lst {K:PySem.W.Frag}{H:Hp}{a:Addr}{xs:List V}(h:H a=some (.lst xs)):Pl K H (.ref a) "list":=⟨.lst h,by decide,fun _ e=>by cases e⟩
theorem Pl.of_tup {K:PySem.W.Frag}{H:Hp}{a:Addr}{xs:List V}(h:H a=some (.tup xs)):Pl K H (.ref a) "tuple":=⟨.tup h,by decide,fun _ e=>by cases e⟩
theorem Pl.name {K:PySem.W.Frag}{H:Hp}{x:V}{T:String}(h:Pl K H x T) :
 (T="NoneType"/\x=.non)\/(∃ b,T="bool"/\x=.bl b)\/(∃ i,T="int"/\x=.int i)\/(∃ z,T="str"/\x=.str z/\z.length<=sizeLine)\/(∃ a,(T="list"\/T="tuple"\/T="dict")/\x=.ref a):=by
 obtain ⟨ty,hm,hz⟩:=h;generalize hv:Value.type T=t at ty;cases ty with
 | non=>cases hv;exact .inl ⟨rfl,rfl⟩
 | bl b=>cases hv;exact .inr (.inl ⟨b,rfl,rfl⟩)
 | int i=>cases hv;exact .inr (.inr (.inl ⟨i,rfl,rfl⟩))
 | str z=>cases hv;exact .inr (.inr (.inr (.inl ⟨z,rfl,rfl,hz z rfl⟩)))
 | flt x=>cases hv;simp [J2Q] at hm
 | lst e=>cases hv;exact .inr (.inr (.inr (.inr ⟨_,.inl rfl,rfl⟩)))
 | frz e=>cases hv;exact .inr (.inr (.inr (.inr ⟨_,.inl rfl,rfl⟩)))
 | tup e=>cases hv;exact .inr (.inr (.inr (.inr ⟨_,.inr (.inl rfl),rfl⟩)))
 | dK e=>cases hv;exact .inr (.inr (.inr (.inr ⟨_,.inr (.inr rfl),rfl⟩)))
 | dT e=>cases hv;exact .inr (.inr (.inr (.inr ⟨_,.inr (.inr rfl),rfl⟩)))
 | ins e c h1 h2 h3 h4=>cases hv
def Jb3 (K:PySem.W.Frag):List V->Hp->VK->Prop:=fun xs H Q=>∃ x S T,xs=[x,.ty S]/\Pl K H x T/\S∈J2Q/\Q (.bl (J73 T S)) H
theorem Jc2 {X:Cx}:J03 X (.builtin "isinstance") (Jb3 X.K):=by
 intro pins s σ H xs us Q I r h;obtain ⟨x,S,T,rfl,p,hS,q⟩:=h;exact Jc1 pins s σ H _ us Q I r ⟨x,S,.type T,_,rfl,p.ty,Jai p.mem hS,q⟩
theorem J1g {K:PySem.W.Frag}{H:Hp}{p:Addr}{xs:List V}{i:Int}{Q:VK}(h:SqL K H p xs)(h0:0<=i)(h1:i<xs.length)(q:∀ v,xs[i.toNat]?=some v->Q v H):JdK K (.ref p) (.int i) H Q:=by
 have hj:i.toNat<xs.length:=by omega
 refine ⟨p,xs,i,xs[i.toNat],rfl,rfl,h,?_,q _ (zJ hj)⟩;have e:=Jf (zJ hj);rwa [Int.toNat_of_nonneg h0] at e
theorem Jek {K:PySem.W.Frag}{H:Hp}{p:Addr}{xs:List V}{i:Int}{Q:VK}(h:SqT K H p xs)(h0:0<=i)(h1:i<xs.length)(q:∀ v,xs[i.toNat]?=some v->Q v H):J1K K (.ref p) (.int i) H Q:=by
 have hj:i.toNat<xs.length:=by omega
 refine ⟨p,xs,i,xs[i.toNat],rfl,rfl,h,?_,q _ (zJ hj)⟩;have e:=Jf (zJ hj);rwa [Int.toNat_of_nonneg h0] at e
theorem J97 {H:Hp}{z:Str}{i:Int}{Q:VK}(hz:z.length<=sizeLine)(h0:0<=i)(h1:i<z.length)(q:∀ c,z.cps.toList[i.toNat]?=some c->Q (sgn c) H):JeE (.str z) (.int i) H Q:=by
 have hl:z.cps.toList.length=z.length:=by simp [Str.length]
 have hj:i.toNat<z.cps.toList.length:=by omega
 refine ⟨z,i,z.cps.toList[i.toNat],rfl,rfl,hz,?_,q _ (zJ hj)⟩;have e:=Jf (zJ hj);rwa [Int.toNat_of_nonneg h0] at e
theorem Jd8 (parts:List Str)(acc:Array Nat):(parts.foldl (fun acc p=>acc++(#[]:Array Nat)++p.cps) acc).toList=acc.toList++(parts.map fun p=>p.cps.toList).flatten:=by
 induction parts generalizing acc with
 | nil=>simp
 | cons a r ih=>rw [foldl_cons,ih];simp
theorem JbA (parts:List Str):(Txt.join (Str.ofString "") parts).cps.toList=(parts.map fun p=>p.cps.toList).flatten:=by
 show (Builtin.Str.glued (Str.ofString "") parts).cps.toList=_;have e:(Str.ofString "").cps=#[]:=by decide
 unfold Builtin.Str.glued;rw [e];cases parts with
 | nil=>rfl
 | cons a r =>
   show (r.foldl _ a.cps).toList=_;rw [Jd8];simp
theorem J5m:∀ cs:List Nat,((cs.map fun c=>(⟨#[c]⟩:Str)).map fun p=>p.cps.toList).flatten=cs
 | []=>rfl
 | a::r=>by
   have ih:=J5m r;simp only [zV,flatten_cons,ih];rfl
theorem J4N {z:Str}{cs:List Nat}(h:z.cps.toList=cs):z=⟨cs.toArray⟩:=by
 subst h;cases z with
 | mk a=>rfl
theorem J95 (cs:List Nat):Txt.join (Str.ofString "") (cs.map fun c=>⟨#[c]⟩)=⟨cs.toArray⟩ :=
 J4N ((JbA (cs.map fun c=>(⟨#[c]⟩:Str))).trans (J5m cs))
theorem J5s (cs:List Nat):cs.map sgn=(cs.map fun c=>(⟨#[c]⟩:Str)).map V.str:=by rw [map_map];rfl
theorem JaM (cs:List Nat):((cs.map fun c=>(⟨#[c]⟩:Str)).map (·.length)).sum=cs.length:=by
 induction cs with
 | nil=>rfl
 | cons a r ih=>simp only [zV,sum_cons,ih,length_cons];show 1+_=_;omega
theorem JbB {K:PySem.W.Frag}{H:Hp}{p:Addr}{cs:List Nat}{Q:VK}(h:SqL K H p (cs.map sgn))(hl:cs.length<=1000000)(q:Q (.str ⟨cs.toArray⟩) H):Jb2 K (.str (Str.ofString "")) [.ref p] H Q:=by
 refine ⟨Str.ofString "",p,cs.map fun c=>⟨#[c]⟩,rfl,rfl,by rw [<- J5s];exact h,?_,?_⟩
 ·rw [JaM,zL]
  have e:(Str.ofString "").length=0:=by decide
  rw [e];omega
 ·rw [J95];exact q
section
variable {X:Cx}{K:PySem.W.Frag}(e:X.K=K)
include e
theorem J0K:J03 X (.builtin "isinstance") (Jb3 K):=by subst e;exact Jc2
theorem J5V (hc:X.calm=true):J03 X (.builtin "all") (J8I K fun bs=>bs.all id):=by subst e;exact Jc4 hc
theorem JeQ (hc:X.calm=true):J03 X (.builtin "any") (J8I K fun bs=>bs.any id):=by subst e;exact Jc3 hc
def J9u (K:PySem.W.Frag):List V->Hp->VK->Prop:=fun xs H Q=>∃ p ys,xs=[.ref p]/\(SqL K H p ys\/SqT K H p ys)/\Q (.int ys.length) H
theorem JZ:J03 X (.builtin "len") (J9u K):=by subst e;exact J7d
def Jfp (K:PySem.W.Frag):List V->Hp->VK->Prop:=fun xs H Q=>∃ x n,xs=[x]/\Jfk K x H n/\Q (.int n) H
def J4A (K:PySem.W.Frag):List V->Hp->VK->Prop:=fun xs H Q=>∃ p ys,xs=[.ref p]/\(SqL K H p ys\/SqT K H p ys)/\∀ l,H l=none->Q (.ref l) (upd H l (.lst ys))
theorem J72:J03 X (.type "list") (J4A K):=by subst e;exact J7c
def J2C (K:PySem.W.Frag):List V->Hp->VK->Prop:=fun xs H Q=>∃ p ys,xs=[.ref p]/\((SqL K H p ys/\∀ l,H l=none->Q (.ref l) (upd H l (.tup ys)))\/(SqT K H p ys/\Q (.ref p) H))
theorem J13:J03 X (.type "tuple") (J2C K):=by subst e;exact J5K
theorem J0I:IxR X (JdK K):=by subst e;exact Jd4
theorem Jo:IxR X (J1K K):=by subst e;exact Jej
theorem J5f:SlR X (Jb0 K):=by subst e;exact Jcu
theorem J5h (hu:X.A.units+64<cLine):OpR X (compareOp .Eq) (J6F K false):=by subst e;exact Je0 hu
theorem Jdy (hu:X.A.units+64<cLine):OpR X (compareOp .NotEq) (J6F K true):=by subst e;exact JdY hu
theorem Jby:OpR X (compareOp .In) (rIn K false):=by subst e;exact Ja8
theorem J71:OpR X (compareOp .NotIn) (rIn K true):=by subst e;exact J6L
theorem Jei:MtR X "str.join" (Jb2 K):=by subst e;exact JcX
theorem J0Q {tg l:Expr}{tl:TE}(hl:PE X l tl):PI X tg l (J85 K tl):=by subst e;exact JcH hl
theorem J1y {tg l:Expr}{tl:TE}(hl:PE X l tl):PI X tg l (JbE K tl):=by subst e;exact JdQ hl
theorem J4d {es:List Expr}{k:Nat}{t:TGs}{n:Nat}{pos:Pos}(hc:X.calm=true)(h:PGs X es t)(hn:(assignEach es X.env).length=n:=by rfl)(hst:(assignEach es X.env).findIdx? (·.1)=none:=by rfl):PG X (.Tuple es k pos) (Jem K n t):=by subst e;exact JdU hc h hn hst
theorem JeP {o:Expr}{to:TE}{name:Str}{apos cpos:Pos}{T id:String}{r:V->List V->Hp->VK->Prop}(pa:PlainAttrs T)(slot:Slot T name id)(hty:typeOf (.builtin id)=pure (.type "method_descriptor"))(hm:MtR X id r)(ho:PE X o to)
 (hbase:attributeBase o name X.env (eval o X.env)=eval o X.env:=by rfl) (hline:(apos.endLine == cpos.line)=true:=by rfl):PE X (.Call (.Attribute o name apos) [] [] cpos) (JaL K T r to):=by subst e;exact JdW pa slot hty hm ho hbase hline
theorem Jfc {o a:Expr}{es:List Expr}{to:TE}{t:TA}{name:Str}{apos cpos:Pos}{T id:String}{r:V->List V->Hp->VK->Prop}(pa:PlainAttrs T)(slot:Slot T name id)(hty:typeOf (.builtin id)=pure (.type "method_descriptor"))(hm:MtR X id r)(ho:PE X o to)(ha:PA X (a::es) t)
 (hbase:attributeBase o name X.env (eval o X.env)=eval o X.env:=by rfl)
 (hfew:((backTo cpos (starEach (a::es) X.env)).all (fun x=>!x.1)&&(backToKw cpos (keywordEach [] X.env)).all (fun x=>x.1.isSome)
  && decide ((a::es).length+([]:List Keyword).length+(if ([]:List Keyword).isEmpty then 0 else 1)<30))=true:=by rfl)
 (hline:(apos.endLine == cpos.line)=true:=by rfl) (hs:starEach (a::es) X.env=(false,eval a X.env)::starEach es X.env:=by rfl) (hplain:(backTo cpos (starEach es X.env)).any (·.1)=false:=by rfl) :
 PE X (.Call (.Attribute o name apos) (a::es) [] cpos) (tBM K T r to t):=by subst e;exact JeG pa slot hty hm ho ha hbase hfew hline hs hplain
end
def JJ:Expr->Bool
 | .Starred _ _=>false
 | _=>true
theorem JN {e:Expr}{es:List Expr}{env:Env}(h:JJ e=true):starEach (e::es) env=(false,eval e env)::starEach es env:=by
 cases e<;>first | rfl | cases h
theorem J5O {env:Env}:∀ {es:List Expr},es.all JJ=true->(starEach es env).any (·.1)=false
 | [],_=>rfl
 | e::es,h=>by
   rw [all_cons,Bool.and_eq_true] at h;rw [JN h.1,any_cons,J5O h.2];rfl
theorem J23 {env:Env}{pos:Pos}{es:List Expr}(h:es.all JJ=true):(backTo pos (starEach es env)).any (·.1)=false:=by
 have:=J5O (env:=env) h;unfold backTo;rw [any_map];exact this
section
variable {X:Cx}{e:Expr}{es:List Expr}{te:TE}{t:TA}
theorem pal (hn:JJ e=true)(ha:PE X e te)(hr:PA X es t):PA X (e::es) (J48 te t):=JcP ha hr (JN hn)
theorem Jg {x:Str}{st:Stmt}{ps:List Str}{f:Addr}{fd:FuncData}{k:Nat}{sp:Sp}{p pos:Pos}(D:DefOk X.K X.mg x st ps f fd)(G:FnOk X.prog X.w X.K X.mg X.base CX0 k f fd ps sp)(hr:Room k X.A)
 (hg:Gl X x) (hdb:(x == ("__debug__":Str))=false) (hn:(e::es).all JJ=true) (ha:PA X (e::es) t) :
 PE X (.Call (.Name x p) (e::es) [] pos) (J4M sp [] E0 t) :=
 have h:JJ e=true/\es.all JJ=true:=by rw [all_cons,Bool.and_eq_true] at hn;exact hn
 JcN G hr hg D.m D.F.kp D.b .nil J0W ha hdb (JN h.1) (J23 h.2)
theorem Js {x:Str}{p pos:Pos}{id:String}{r:List V->Hp->VK->Prop}(hc:J03 X (.builtin id) r)(hm:X.mg x=none)(hv:bootBuiltins x=some (.builtin id))(hg:Gl X x)(hn:x≠"__name__")(hdb:(x == ("__debug__":Str))=false)
 (hs:(e::es).all JJ=true) (ha:PA X (e::es) t):PE X (.Call (.Name x p) (e::es) [] pos) (tCB r t) :=
 have h:JJ e=true/\es.all JJ=true:=by rw [all_cons,Bool.and_eq_true] at hs;exact hs
 Jbf hc hg hm hv ha hn hdb (JN h.1) (J23 h.2)
theorem J0t {x:Str}{p pos:Pos}{T:String}{r:List V->Hp->VK->Prop}(hc:J03 X (.type T) r)(hm:X.mg x=none)(hv:bootBuiltins x=some (.type T))(hg:Gl X x)(hn:x≠"__name__")(hdb:(x == ("__debug__":Str))=false)
 (hs:(e::es).all JJ=true) (ha:PA X (e::es) t):PE X (.Call (.Name x p) (e::es) [] pos) (tCB r t) :=
 have h:JJ e=true/\es.all JJ=true:=by rw [all_cons,Bool.and_eq_true] at hs;exact hs
 Ja4 hc hg hm hv ha hn hdb (JN h.1) (J23 h.2)
theorem Jcc {env:Env}{pos:Pos}{es:List Expr}(h:es.all JJ=true):(backTo pos (starEach es env)).all (fun x=>!x.1)=true:=by
 have:=J23 (env:=env) (pos:=pos) h;rw [any_eq_false] at this;rw [all_eq_true];intro x hx;have:=this x hx;simpa using this
theorem J1h {K:PySem.W.Frag}{o a:Expr}{to:TE}{name:Str}{apos cpos:Pos}{T id:String}{r:V->List V->Hp->VK->Prop}(ek:X.K=K)(pa:PlainAttrs T)(slot:Slot T name id)(hty:typeOf (.builtin id)=pure (.type "method_descriptor"))(hm:MtR X id r)
 (hbase:attributeBase o name X.env (eval o X.env)=eval o X.env) (hs:(a::es).all JJ=true) (hsz:decide ((a::es).length+0+0<30)=true) (hline:(apos.endLine == cpos.line)=true) (ho:PE X o to) (ha:PA X (a::es) t) :
 PE X (.Call (.Attribute o name apos) (a::es) [] cpos) (tBM K T r to t) :=
 have h:JJ a=true/\es.all JJ=true:=by rw [all_cons,Bool.and_eq_true] at hs;exact hs
 Jfc ek pa slot hty hm ho ha hbase (by rw [Jcc hs];exact hsz) hline (JN h.1) (J23 h.2)
end
def ForW (J:It)(g:TG)(tb:TS)(D:Ends)(σ:St)(H1:Hp):Prop:=∃ W:Nat->Nat->St->Hp->Prop,(∃ m,W 0 m σ H1)/\∀ i m σ H,W i m σ H ->
 (J.stop i H/\D.nx σ H)\/(J.go i H/\∃ N:St->Hp->Prop,(∀ σ' H',N σ' H'->∃ m',m'<m/\W (i+1) m' σ' H')/\∀ x H',J.yld i H x H'->g x σ H' fun σ2 H2=>tb { D with nx:=N,ct:=N,bk:=D.nx } σ2 H2)
theorem J06 {wi:TI}{g:TG}{tb:TS}{D:Ends}{σ:St}{H:Hp}(h:wi σ H fun J H1=>ForW J g tb D σ H1):J7q wi g tb D σ H:=h
theorem ForW.of {g:TG}{tb:TS}{D:Ends}{σ:St}{H:Hp}{J:It}{xs:List V}{ok:Hp->Prop}(w:Walk J xs ok)(Pv:Nat->St->Hp->Prop)(h0:Pv 0 σ H)(hl:∀ i σ H,i<=xs.length->Pv i σ H->ok H)
 (hs:∀ i x σ H,xs[i]?=some x->Pv i σ H->g x σ H fun σ2 H2=>tb { D with nx:=Pv (i+1),ct:=Pv (i+1),bk:=D.nx } σ2 H2) (hd:∀ σ H,Pv xs.length σ H->D.nx σ H):ForW J g tb D σ H:=JbJ w Pv h0 hl hs hd
def J5J {α:Type}(xs:List α)(lo hi:Option Int):List α:=(xs.drop (HT.sIx xs.length 0 lo)).take (HT.sIx xs.length xs.length hi - HT.sIx xs.length 0 lo)
theorem J7P {α:Type}(xs:List α)(a:Nat):∀ k:Nat,((List.range k).map (a+·)).filterMap (fun i=>xs[i]?)=(xs.drop a).take k
 | 0=>by simp
 | k+1=>by
   rw [range_succ,zY,filterMap_append,J7P xs a k,take_add_one,List.getElem?_drop];cases h:xs[a+k]?<;>simp [h]
theorem J9M (v:Option Int)(n d:Nat)(hd:d<=n):(match v with | none=>(d:Int) | some i=>max 0 (min (if i<0 then i+(n:Int) else i) (n:Int)))=((HT.sIx n d v:Nat):Int):=by
 cases v with
 | none=>rfl
 | some i =>
   unfold HT.sIx;dsimp only;by_cases h:i<0
   ·simp only [h,if_true]<;>omega
   ·simp only [h,if_false]<;>omega
theorem J98 (lo hi:Option Int)(n:Nat):Builtin.Str.strSliceIndices lo hi 1 n=(List.range (HT.sIx n n hi - HT.sIx n 0 lo)).map (HT.sIx n 0 lo+·):=by
 have e1:=J9M lo n 0 (zF _);have e2:=J9M hi n n (zv _);rw [<- sliceRange_one,<- e1,<- e2];unfold Builtin.Str.strSliceIndices;simp only [show (1:Int) > 0 by decide,if_true];cases lo<;>cases hi<;>rfl
theorem J9X (x:Str)(lo hi:Option Int):(Txt.slice x lo hi).cps.toList=J5J x.cps.toList lo hi:=by
 have hl:x.cps.toList.length=x.length:=by simp [Str.length]
 unfold Txt.slice J5J;rw [J98,hl]
 split
 ·rename_i h
  have h:(HT.sIx x.length x.length hi - HT.sIx x.length 0 lo)=x.length:=by simpa using h
  have h2:=HT.sIx_le x.length x.length (zv _) hi;by_cases h0:x.length=0
  ·have:x.cps.toList=[]:=eq_nil_of_length_eq_zero (by omega)
   rw [this];simp
  ·have h3:HT.sIx x.length 0 lo=0:=by omega
   rw [h3,h3] at *;rw [drop_zero,show HT.sIx x.length x.length hi - 0=x.cps.toList.length by omega,zX]
 ·show ((List.map _ _).filterMap fun (i:Nat)=>x.cps[i]?)=_
  have e:(fun (i:Nat)=>x.cps[i]?)=fun (i:Nat)=>x.cps.toList[i]?:=by funext i;simp
  rw [e,J7P]
section
variable {X:Cx}
def JcA:V->Option Int->Option Int->Hp->VK->Prop:=fun x lo hi H Q=>∃ z,x=.str z/\z.length<=sizeLine/\Q (.str ⟨(J5J z.cps.toList lo hi).toArray⟩) H
theorem JdI:SlR X JcA:=by
 intro pins s σ H x v vl vu lo hi sl Q I rx hs pl pu h;obtain ⟨z,rfl,hz,q⟩:=h;obtain ⟨t,rfl⟩:=rx;have e:Txt.slice z lo hi=⟨(J5J z.cps.toList lo hi).toArray⟩:=J4N (J9X z lo hi);have fin:∀ t' k,EP X pins σ Q (.str (Txt.slice z lo hi) t') { s with toks:=k }:=fun t' k=>by
  rw [e];exact ⟨.str _,H,I.tok _,⟨_,rfl⟩,q⟩
 have hle:=zG (Txt.slice_le z lo hi) hz;refine ⟨"str",_,F.slot_str_getitem.lookup,typeIs_str _ _ _,?_⟩;obtain ⟨o,ho,hc,hd⟩:=hs;cases pl with
 | none =>
   cases pu with
   | none=>exact wpAny_getItem_str_slice (l:=none) (u:=none) (st:=none) ⟨o,ho,hc,hd⟩ rfl (post_val_or_str ⟨hle,fin⟩)
   | int j uj=>exact wpAny_getItem_str_slice (l:=none) (u:=some (j,uj)) (st:=none) ⟨o,ho,hc,hd⟩ rfl (post_val_or_str ⟨hle,fin⟩)
 | int i ui =>
   cases pu with
   | none=>exact wpAny_getItem_str_slice (l:=some (i,ui)) (u:=none) (st:=none) ⟨o,ho,hc,hd⟩ rfl (post_val_or_str ⟨hle,fin⟩)
   | int j uj=>exact wpAny_getItem_str_slice (l:=some (i,ui)) (u:=some (j,uj)) (st:=none) ⟨o,ho,hc,hd⟩ rfl (post_val_or_str ⟨hle,fin⟩)
def Jfr:V->List V->Hp->VK->Prop:=fun x vs H Q=>∃ z y,x=.str z/\vs=[.str y]/\Q (.int (Txt.find z y)) H
def Jf2:V->List V->Hp->VK->Prop:=fun x vs H Q=>∃ z y,x=.str z/\vs=[.str y]/\Q (.bl (Txt.startswith z y)) H
def Jf9:R2:=fun x y H Q=>match x,y with
 | .int i,.int j=>Q (.bl (decide (i<j))) H
 | .str a,.str b=>Q (.bl (decide (a.cps.toList<b.cps.toList))) H
 | _,_=>False
theorem JdZ:OpR X (compareOp .Lt) Jf9:=by
 intro pins s σ H x y v u Q I rx ry h;cases x with
 | int i =>
   cases y with
   | int j=>exact J54 pins s σ H _ _ v u Q I rx ry ⟨i,j,rfl,rfl,h⟩
   | _=>exact zH h
 | str a =>
   cases y with
   | str b=>exact Ja6 pins s σ H _ _ v u Q I rx ry ⟨a,b,rfl,rfl,h⟩
   | _=>exact zH h
 | _=>exact zH (by cases y<;>exact h)
end
end L2
namespace L2
open PySem
theorem J0n {lo:Int}{n i:Nat}{x:V}(h:(J43 lo n)[i]?=some x):i<n/\x=.int (lo+i):=by
 have hi:i<n:=by have:=(zK.mp h).1;rwa [JK] at this
 rw [J4Z hi] at h;cases h;exact ⟨hi,rfl⟩
end L2
namespace L2
open PySem PySem.Spec PyProof.Rows PySem.NumText
def dgs (m:Nat):List Nat:=(Nat.toDigits 10 m).map Char.toNat
def numS (n:Int):List Nat:=if n<0 then 45::dgs n.natAbs else dgs n.natAbs
theorem JbU {α:Type}(xs:List α)(k:Nat):J5J xs (some (k:Int)) none=xs.drop k:=by
 unfold J5J;rw [HT.sIx_nat,HT.sIx_none];by_cases h:k<=xs.length
 ·rw [Nat.min_eq_left h,take_of_length_le (by rw [length_drop];omega)]
 ·rw [Nat.min_eq_right (by omega),drop_length,drop_of_length_le (by omega)];simp
theorem cut_to {α:Type}(xs:List α)(k:Nat):J5J xs none (some (k:Int))=xs.take k:=by
 unfold J5J;rw [HT.sIx_nat,HT.sIx_none,drop_zero,Nat.sub_zero];by_cases h:k<=xs.length
 ·rw [Nat.min_eq_left h]
 ·rw [Nat.min_eq_right (by omega),zX,take_of_length_le (by omega)]
theorem J38 {z w:Str}:z=w↔z.cps.toList=w.cps.toList:=⟨fun e=>by rw [e],fun e=>by
 cases z with
 | mk a=>cases w with
   | mk b=>exact congrArg Str.mk (Array.toList_inj.mp e)⟩
section
variable {X:Cx}
def Jfq:List V->Hp->VK->Prop:=fun xs H Q=>∃ z n,xs=[.str z]/\intText? z=some n/\z.length<=640/\Q (.int n) H
def Jfo:List V->Hp->VK->Prop:=fun xs H Q=>(∃ i,xs=[.int i]/\i.natAbs<10 ^ 100/\Q (.str ⟨(numS i).toArray⟩) H)\/∃ z,xs=[.str z]/\Q (.str z) H
end
end L2
namespace L2
open PySem PySem.Spec PyProof.Rows
section
variable {X:Cx}
def J9s:R2:=fun x y H Q=>∃ z n,x=.str z/\y=.int n/\MulOk z n/\Q (.str (Txt.mul z n)) H
theorem J53:OpR X (binaryOp .Mult) J9s:=by
 intro pins s σ H x y v u Q I rx ry h;obtain ⟨z,n,rfl,rfl,hm,q⟩:=h;obtain ⟨t,rfl⟩:=rx;obtain ⟨t',rfl⟩:=ry;exact SB.mul hm fun t' k=>⟨.str _,H,I.tok _,⟨_,rfl⟩,q⟩
end
end L2
namespace L2
open PySem PySem.Spec PyProof.Rows
open AutoSeq1 (wpAny_loadPart')
open MeetsSeq MeetsSeq2 MeetsSeq3 SeqRoads2
def Jez (A:Around)(s:Shared)(x y:Value)(r:Bool):Prop:=∀ (prog:Program) (w:World) (E:Value->Shared->Prop) (Q:Value->Shared->Prop),Q (.bool r) s->wpAny (model prog w) A (richCompare .Lt x y) Q E s
inductive LexAt (A:Around)(s:Shared):List Value->List Value->Bool->Prop
 | nn:LexAt A s [] [] false
 | nc {y ys}:LexAt A s [] (y::ys) true
 | cn {x xs}:LexAt A s (x::xs) [] false
 | ne {x y xs ys r}:SeqAt.EqAt A s x y false->Jez A s x y r->LexAt A s (x::xs) (y::ys) r
 | eq {x y xs ys r}:SeqAt.EqAt A s x y true->LexAt A s xs ys r->LexAt A s (x::xs) (y::ys) r
theorem tuple_ltAt (l b:Addr)(its its2:Array Value)(n n2:Nat)(dd dd2:Option Addr)(sl sl2:Array (Option Value))(r:Bool) :
 Meets (Builtin.«tuple.__lt__» ⟨[.ref l,.ref b],[]⟩)
  (fun A R s=>s.heap.get? l=some { cls:=.type "tuple",dict:=dd,data:=.seq its n,slots:=sl }/\s.heap.get? b=some { cls:=.type "tuple",dict:=dd2,data:=.seq its2 n2,slots:=sl2 } /\
   LexAt A.in1 s its.toList its2.toList r/\R (.ok (.ret (.bool r))) s) :=
 .of_wp fun prog w A R s h=>by
  obtain ⟨hp,g,d,tk,os⟩:=s;obtain ⟨hl,hb,he,h⟩:=h;have f2:=AutoSeq1.sub_tuple_tuple
  wp_walk using wpAny_loadPart' hl,wpAny_loadPart' hb,wpAny_forIn_list _ (fun rest b s'=>b.1=none/\s'=⟨hp,g,d,tk,os⟩/\∃ i xs ys,rest=xs.zip ys/\its.size=i+xs.length/\its2.size=i+ys.length/\LexAt A.in1 ⟨hp,g,d,tk,os⟩ xs ys r) _
  case turn =>
   rintro ⟨x,y⟩ rest b s' ⟨hb',rfl,i,xs,ys,hz,z1,z2,hx⟩;cases hx with
   | nn=>cases hz
   | nc=>cases hz
   | cn=>cases hz
   | ne e1 e2 =>
     rw [zip_cons_cons] at hz;injection hz with h1 h2
     injection h1 with h3 h4
     subst h3 h4;refine zq (e1 prog w _ _ ?_);have e3:=e2 prog w;generalize richCompare CmpOp.Lt x y=rc at e3 ⊢
     wp_walk
     refine e3 _ _ ?_
     wp_walk
     exact ⟨_,rfl,h⟩
   | eq e1 e2 =>
     rw [zip_cons_cons] at hz;injection hz with h1 h2
     injection h1 with h3 h4
     subst h3 h4;refine zq (e1 prog w _ _ ?_)
     wp_walk
     exact ⟨rfl,rfl,i+1,_,_,h2,by simp at z1;omega,by simp at z2;omega,e2⟩
  case fin =>
   rintro ⟨b1,b2⟩ s' ⟨hb',rfl,i,xs,ys,hz,z1,z2,hx⟩;simp only at hb';subst hb'
   wp_walk
   have e:Builtin.Tuple.tupleCompareSizes .Lt its.size its2.size=.bool r:=by
    show Value.bool (decide (its.size<its2.size))=_;cases hx with
    | nn=>rw [zy (by simp at z1 z2;omega)]
    | nc=>rw [zx (by simp at z1 z2;omega)]
    | cn=>rw [zy (by simp at z1 z2;omega)]
    | ne=>cases hz
    | eq=>cases hz
   first
    | exact ⟨_,rfl,by rw [e];exact h⟩
    | (rw [e];exact ⟨_,rfl,h⟩)
  case h =>
   exact ⟨rfl,rfl,0,_,_,rfl,by simp,by simp,he⟩
def ltS:V->V->Option Bool
 | .int i,.int j=>some (decide (i<j))
 | .str a,.str b=>some (decide (a.cps.toList<b.cps.toList))
 | _,_=>none
def J82:List V->List V->Option Bool
 | [],[]=>some false
 | [],_::_=>some true
 | _::_,[]=>some false
 | x::xs,y::ys=>match ltS x y with
   | none=>none
   | some r=>if x=y then J82 xs ys else some r
theorem Je7 {A:Around}{s:Shared}{x y:V}{u v:Value}{r:Bool}(h:ltS x y=some r)(rx:RelV x u)(ry:RelV y v):SeqAt.EqAt A s u v (decide (x=y))/\Jez A s u v r:=by
 cases x<;>cases y<;>first
  | (cases (show none=some r from h);done)
  | skip
 ·rename_i i j
  obtain ⟨t,rfl⟩:=rx;obtain ⟨t',rfl⟩:=ry;cases h;refine ⟨?_,fun prog w E Q q=>HT.rcLt_int _ _ _ _ _ _ _ _ _ _ q⟩;rw [J78];exact SeqAt.EqAt.int_int _ _ _ _
 ·rename_i i j
  obtain ⟨t,rfl⟩:=rx;obtain ⟨t',rfl⟩:=ry;cases h;refine ⟨?_,fun prog w E Q q=>lt_str q⟩;rw [J77];exact SeqAt.EqAt.str_str _ _ _ _
theorem lexV_at {A:Around}{s:Shared}:∀ {xs ys:List V} {us vs:List Value} {r:Bool},Vals xs us->Vals ys vs->J82 xs ys=some r->LexAt A s us vs r
 | [],[],_,_,_,.nil,.nil,h=>by cases h;exact .nn
 | [],_::_,_,_,_,.nil,.cons _ _,h=>by cases h;exact .nc
 | _::_,[],_,_,_,.cons _ _,.nil,h=>by cases h;exact .cn
 | x :: xs,y::ys,_,_,r,.cons rx t,.cons ry t',h=>by
   unfold J82 at h
   split at h
   ·cases h
   ·rename_i r' e
    obtain ⟨h1,h2⟩:=Je7 (A:=A) (s:=s) e rx ry
    split at h
    ·rename_i exy
     rw [zx exy] at h1;exact .eq h1 (lexV_at t t' h)
    ·rename_i exy
     rw [zy exy] at h1;cases h;exact .ne h1 h2
end L2
namespace L2
open PySem PyProof.Rows
section
variable {M:Model}{A:Around}{E:Value->Shared->Prop}{s:Shared}{τ α:Type}{c:Prop}[Decidable c]{a b:StateT τ Sem α}{Q:α->τ->Prop}{st:τ}
theorem JC (h:c)(q:wpS M A E s a Q st):wpS M A E s (if c then a else b) Q st:=by rw [zu h];exact q
theorem JP (h:¬ c)(q:wpS M A E s b Q st):wpS M A E s (if c then a else b) Q st:=by rw [zt h];exact q
end
structure Held (T:Prop):Prop where
 out:T
theorem J7g {T R:Prop}(f:Held T->R)(t:T):R:=f ⟨t⟩
structure El (S:Keyed->Prop)(o:Array Keyed):Prop where
 el:∀ x∈o.toList,S x
section
variable {S:Keyed->Prop}{o o' a:Array Keyed}{i j:Nat}{p:Keyed}
theorem El.push (m:El S o)(hp:S p):El S (o.push p):=⟨fun x hx=>by
 rw [Array.toList_push] at hx;rcases zZ.mp hx with h | h
 ·exact m.el x h
 ·rw [zM.mp h];exact hp⟩
theorem El.app (m:El S o)(m':El S o'):El S (o++o'):=⟨fun x hx=>by
 rw [Array.toList_append] at hx;exact (zZ.mp hx).elim (m.el x) (m'.el x)⟩
theorem El.sub (h:∀ x∈a.toList,S x):El S (a.extract i j):=⟨fun x hx=>by
 rw [Array.toList_extract,extract_eq_drop_take] at hx;exact h x (mem_of_mem_drop (mem_of_mem_take hx))⟩
theorem El.rev (m:El S o):El S o.reverse:=⟨fun x hx=>m.el x (by rw [Array.toList_reverse] at hx;exact mem_reverse.mp hx)⟩
theorem El.one (hp:S p):El S #[p]:=⟨fun x hx=>by rw [zM.mp hx];exact hp⟩
end
def J9H:Bool->Keyed->Array Keyed->Nat->Nat->Nat->StateT SortSt Sem (Option Nat):=sortPriv% PySem.Builtin.gallop
def J4t (prog:Program)(w:World)(A:Around)(s:Shared)(kd:SortKind)(S:Keyed->Prop):Prop :=
 ∀ (E:Value->Shared->Prop) (x y:Keyed) (Q:Bool->Shared->Prop),S x->S y->(∀ b,Q b s)->wpAny (model prog w) A (keyLt' kd x.1 y.1) Q E s
section
variable {prog:Program}{w:World}{A:Around}{E:Value->Shared->Prop}{s:Shared}{kd:SortKind}{S:Keyed->Prop}
theorem J4J (C:J4t prog w A s kd S){st:SortSt}{x y:Keyed}{Q:Option Bool->SortSt->Prop}(hk:kindOf st=kd)(hx:S x)(hy:S y)(h:∀ b,Q (some b) st):wpS (model prog w) A E s (lt' x y) Q st:=by
 rw [lt'_eq];refine wpS_bind (wpS_get ?_);rw [hk];exact wpS_bind (wpS_lift (wpAny_attempt (C _ _ _ _ hx hy fun b=>⟨rfl,wpS_pure (h b)⟩)))
theorem JD {arr:Array Keyed}{i:Nat}{p:Keyed}{st:SortSt}{Q:Keyed->SortSt->Prop}{M:Model}(hp:arr[i]?=some p)(h:Q p st):wpS M A E s (elem' arr i) Q st:=by
 rw [elem'_eq,hp];exact wpS_pure h
theorem tim_gallop (C:J4t prog w A s kd S){st:SortSt}{left:Bool}{key:Keyed}{arr:Array Keyed}{base n hint:Nat}{Q:Option Nat->SortSt->Prop}(hk:kindOf st=kd)(hkey:S key)(hin:base+n<=arr.size)(hD:∀ p∈arr.toList,S p)(hh:hint<n)(h:∀ k,k<=n->Q (some k) st):wpS (model prog w) A E s (J9H left key arr base n hint) Q st:=by
 have ask:∀ (i:Nat) (R:Option Bool->SortSt->Prop),i<n->(∀ b,R (some b) st)->wpS (model prog w) A E s (elem' arr (base+i) >>= fun x=>if left then lt' x key else lt' key x >>= fun r=>pure (r.map (!·))) R st:=by
  intro i R hi hR;have hlt:base+i<arr.size:=by omega
  have d:S arr[base+i]:=hD _ (by simp);refine wpS_bind (JD (getElem?_pos arr (base+i) hlt) ?_);cases left with
  | true=>exact J4J C hk d hkey hR
  | false=>exact wpS_bind (J4J C hk hkey d fun b=>wpS_pure (hR _))
 unfold J9H;refine wpS_bind (ask hint _ hh fun r=>?_);dsimp only;cases r with
 | true =>
   rw [zu rfl];refine wpS_bind (wpS_mono (wpS_forRange (I:=fun x c st'=>st'=st/\∃ la o,c=(none,la,o)) (Q:=fun c st'=>st'=st/\∃ la o,c=(none,la,o)) ?step (fun c st' z=>z) ⟨rfl,0,1,rfl⟩) ?post)
   case step =>
    rintro x c st' _ hx ⟨rfl,la,o,rfl⟩;dsimp only;by_cases ho:o≥n - hint
    ·rw [zu ho]
     exact wpS_pure ⟨rfl,la,o,rfl⟩
    ·rw [zt ho]
     refine wpS_bind (ask (hint+o) _ (by omega) fun b=>?_);dsimp only;cases b with
     | true=>exact wpS_pure ⟨rfl,o,2 * o+1,rfl⟩
     | false=>exact wpS_pure ⟨rfl,la,o,rfl⟩
   case post =>
    rintro c st1 ⟨e1,la,o,rfl⟩;rw [e1];clear e1 st1;dsimp only;have a2:hint+min o (n - hint)<=n:=by omega
    generalize hint+la+1=lo at *;generalize hint+min o (n - hint)=hi at *;refine wpS_bind (wpS_mono (wpS_forRange (I:=fun x c st'=>st'=st/\∃ lo hi,c=(none,lo,hi)/\hi<=n) (Q:=fun c st'=>st'=st/\∃ lo hi,c=(none,lo,hi)/\hi<=n) ?stepT (fun c st' z=>z) ⟨rfl,lo,hi,rfl,a2⟩) ?postT)
    case stepT =>
     rintro x c st' _ hx ⟨rfl,lo,hi,rfl,b2⟩;dsimp only;by_cases hg:lo≥hi
     ·rw [zu hg]
      exact wpS_pure ⟨rfl,lo,hi,rfl,b2⟩
     ·rw [zt hg]
      refine wpS_bind (ask (lo+(hi - lo) / 2) _ (by omega) fun b=>?_);dsimp only;cases b with
      | true=>exact wpS_pure ⟨rfl,_,hi,rfl,b2⟩
      | false=>exact wpS_pure ⟨rfl,lo,_,rfl,by omega⟩
    case postT =>
     rintro c st' ⟨rfl,lo,hi,rfl,b2⟩;exact wpS_pure (h hi b2)
 | false =>
   rw [zt (by simp)];refine wpS_bind (wpS_mono (wpS_forRange (I:=fun x c st'=>st'=st/\∃ la o,c=(none,la,o)) (Q:=fun c st'=>st'=st/\∃ la o,c=(none,la,o)) ?step2 (fun c st' z=>z) ⟨rfl,0,1,rfl⟩) ?post2)
   case step2 =>
    rintro x c st' _ hx ⟨rfl,la,o,rfl⟩;dsimp only;by_cases ho:o≥hint+1
    ·rw [zu ho]
     exact wpS_pure ⟨rfl,la,o,rfl⟩
    ·rw [zt ho]
     refine wpS_bind (ask (hint - o) _ (by omega) fun b=>?_);dsimp only;cases b with
     | true=>exact wpS_pure ⟨rfl,la,o,rfl⟩
     | false=>exact wpS_pure ⟨rfl,o,2 * o+1,rfl⟩
   case post2 =>
    rintro c st1 ⟨e1,la,o,rfl⟩;rw [e1];clear e1 st1;dsimp only;have a2:hint - la<=n:=by omega
    generalize hint+1 - min o (hint+1)=lo at *;generalize hint - la=hi at *;refine wpS_bind (wpS_mono (wpS_forRange (I:=fun x c st'=>st'=st/\∃ lo hi,c=(none,lo,hi)/\hi<=n) (Q:=fun c st'=>st'=st/\∃ lo hi,c=(none,lo,hi)/\hi<=n) ?stepU (fun c st' z=>z) ⟨rfl,lo,hi,rfl,a2⟩) ?postU)
    case stepU =>
     rintro x c st' _ hx ⟨rfl,lo,hi,rfl,b2⟩;dsimp only;by_cases hg:lo≥hi
     ·rw [zu hg]
      exact wpS_pure ⟨rfl,lo,hi,rfl,b2⟩
     ·rw [zt hg]
      refine wpS_bind (ask (lo+(hi - lo) / 2) _ (by omega) fun b=>?_);dsimp only;cases b with
      | true=>exact wpS_pure ⟨rfl,_,hi,rfl,b2⟩
      | false=>exact wpS_pure ⟨rfl,lo,_,rfl,by omega⟩
    case postU =>
     rintro c st' ⟨rfl,lo,hi,rfl,b2⟩;exact wpS_pure (h hi b2)
end
def J80:Array Keyed->Array Keyed->StateT SortSt Sem (Array Keyed):=sortPriv% PySem.Builtin.mergeLo
def J2M (st st':SortSt):Prop:=kindOf st'=kindOf st/\arrOf st'=arrOf st/\pendingOf st'=pendingOf st/\failedOf st'=failedOf st
inductive LoI1 (S:Keyed->Prop)(a b:Array Keyed)(x:Nat)(c:Option (Array Keyed)×Array Keyed×Nat×Nat×Nat):Prop
 | mk (o:Array Keyed) (ia ib mg:Nat) (hc:c=(none,o,ia,ib,mg)) (h0:El S o) (h1:ia+1<a.size) (h2:ib<b.size) (h3:x<=ia+ib):LoI1 S a b x c
inductive LoI2 (S:Keyed->Prop)(a b:Array Keyed)(c:Option (Array Keyed)×Array Keyed×Nat×Nat×Nat):Prop
 | mk (l o:Array Keyed) (ia ib mg:Nat) (hc:c=(some l,o,ia,ib,mg)) (h0:El S l):LoI2 S a b c
inductive LoI3 (S:Keyed->Prop)(a b:Array Keyed)(x:Nat)(y:Nat)(c:Option (Array Keyed)×Array Keyed×Nat×Nat×Nat×Nat):Prop
 | mk (o:Array Keyed) (ia ib ac bc:Nat) (hc:c=(none,o,ia,ib,ac,bc)) (h0:El S o) (h1:ia+1<a.size) (h2:ib<b.size) (h3:x<=ia+ib) (h4:y<=ia+ib):LoI3 S a b x y c
inductive LoI4 (S:Keyed->Prop)(a b:Array Keyed)(c:Option (Array Keyed)×Array Keyed×Nat×Nat×Nat×Nat):Prop
 | mk (l o:Array Keyed) (ia ib ac bc:Nat) (hc:c=(some l,o,ia,ib,ac,bc)) (h0:El S l):LoI4 S a b c
inductive LoI5 (S:Keyed->Prop)(a b:Array Keyed)(x:Nat)(c:Option (Array Keyed)×Array Keyed×Nat×Nat×Nat×Nat):Prop
 | mk (o:Array Keyed) (ia ib ac bc:Nat) (hc:c=(none,o,ia,ib,ac,bc)) (h0:El S o) (h1:ia+1<a.size) (h2:ib<b.size) (h3:x+1<=ia+ib):LoI5 S a b x c
inductive LoI6 (S:Keyed->Prop)(a b:Array Keyed)(x:Nat)(y:Nat)(c:Option (Array Keyed)×Array Keyed×Nat×Nat×Nat×Nat×Nat):Prop
 | mk (o:Array Keyed) (ia ib mg ac bc:Nat) (hc:c=(none,o,ia,ib,mg,ac,bc)) (h0:El S o) (h1:ia+1<a.size) (h2:ib<b.size) (h3:x+1<=ia+ib) (h4:y<=ia+ib):LoI6 S a b x y c
inductive LoI7 (S:Keyed->Prop)(a b:Array Keyed)(c:Option (Array Keyed)×Array Keyed×Nat×Nat×Nat×Nat×Nat):Prop
 | mk (l o:Array Keyed) (ia ib mg ac bc:Nat) (hc:c=(some l,o,ia,ib,mg,ac,bc)) (h0:El S l):LoI7 S a b c
inductive LoI8 (S:Keyed->Prop)(a b:Array Keyed)(x:Nat)(c:Option (Array Keyed)×Array Keyed×Nat×Nat×Nat×Nat×Nat):Prop
 | mk (o:Array Keyed) (ia ib mg ac bc:Nat) (hc:c=(none,o,ia,ib,mg,ac,bc)) (h0:El S o) (h1:ia+1<a.size) (h2:ib<b.size) (h3:x+1<=ia+ib):LoI8 S a b x c
section
variable {prog:Program}{w:World}{A:Around}{E:Value->Shared->Prop}{s:Shared}{kd:SortKind}{S:Keyed->Prop}
theorem tim_mergeLo (C:J4t prog w A s kd S){st:SortSt}{a b:Array Keyed}{Q:Array Keyed->SortSt->Prop}(hk:kindOf st=kd)(hDa:∀ p∈a.toList,S p)(hDb:∀ p∈b.toList,S p)(ha:0<a.size)(hbs:0<b.size)(h:∀ l st',J2M st st'->El S l->Q l st'):wpS (model prog w) A E s (J80 a b) Q st:=by
 have atA:∀ {i:Nat},i<a.size->∃ p,a[i]?=some p/\S p:=fun {i} hi=>⟨a[i],getElem?_pos a i hi,hDa _ (by simp)⟩;have atB:∀ {i:Nat},i<b.size->∃ p,b[i]?=some p/\S p:=fun {i} hi=>⟨b[i],getElem?_pos b i hi,hDb _ (by simp)⟩;have dn:∀ {o:Array Keyed} (ia ib:Nat),El S o->El S (o++a.extract ia a.size++b.extract ib b.size):=fun _ _ m=>(m.app (.sub hDa)).app (.sub hDb);have lA:∀ {o:Array Keyed} (ia ib:Nat),El S o->El S (o++b.extract ib b.size++a.extract ia a.size):=fun _ _ m=>(m.app (.sub hDb)).app (.sub hDa);obtain ⟨b0,hb0,db0⟩:=atB hbs;unfold J80;refine wpS_bind (wpS_lift (wpAny_rule ⟨rfl,?_⟩));refine wpS_bind (JD hb0 ?_);have hm1:El S (#[b0]:Array Keyed):=.one db0;by_cases h1:(1 == b.size)=true
 ·first | refine JC h1 ?_ | rw [zu h1]
  exact wpS_pure (h _ _ ⟨rfl,rfl,rfl,rfl⟩ (dn _ _ hm1))
 first | refine JP h1 ?_ | rw [zt h1]
 by_cases h2:(0+1 == a.size)=true
 ·first | refine JC h2 ?_ | rw [zu h2]
  exact wpS_pure (h _ _ ⟨rfl,rfl,rfl,rfl⟩ (lA _ _ hm1))
 first | refine JP h2 ?_ | rw [zt h2]
 have h1':1<b.size:=by have:¬ 1=b.size:=fun z=>h1 (beq_iff_eq.mpr z);omega
 have h2':0+1<a.size:=by have:¬ 0+1=a.size:=fun z=>h2 (beq_iff_eq.mpr z);omega
 refine wpS_bind (wpS_get ?_);refine wpS_bind (wpS_mono (wpS_forRange (I:=fun x c st'=>J2M st st'/\LoI1 S a b x c)
  (Q:=fun c st'=>J2M st st'/\LoI2 S a b c) ?step ?fin ⟨⟨rfl,rfl,rfl,rfl⟩,_,0,1,_,rfl,hm1,h2',h1',by omega⟩) ?post)
 case fin =>
  rintro c st' ⟨_,o,ia,ib,mg,rfl,m,b1,b2,b3⟩;omega
 case post =>
  rintro c st' ⟨sm,l,o,ia,ib,mg,rfl,m⟩;exact wpS_pure (h l st' sm m)
 case step =>
  rintro x c st1 _ hx ⟨sm,o,ia,ib,mg,rfl,m,b1,b2,b3⟩;refine wpS_bind (wpS_mono (wpS_forRange (I:=fun y c st'=>st'=st1/\LoI3 S a b x y c)
   (Q:=fun c st'=>st'=st1/\(LoI4 S a b c\/LoI5 S a b x c)) ?step1 ?fin1 ⟨rfl,o,ia,ib,0,0,rfl,m,b1,b2,b3,by omega⟩) ?post1)
  case fin1 =>
   rintro c st' ⟨_,o,ia,ib,ac,bc,rfl,m,b1,b2,b3,b4⟩;omega
  case step1 =>
   rintro y c st2 _ hy ⟨e2,o,ia,ib,ac,bc,rfl,m,b1,b2,b3,b4⟩;rw [e2];clear e2;dsimp only;obtain ⟨pb,hpb,dpb⟩:=atB b2;obtain ⟨pa,hpa,dpa⟩:=atA (i:=ia) (by omega);refine wpS_bind (JD hpb (wpS_bind (JD hpa (wpS_bind (J4J C (sm.1.trans hk) dpb dpa fun w=>?_)))));by_cases hw:w=true
   ·first | refine JC hw ?_ | rw [zu hw]
    refine wpS_bind (JD hpb ?_);have m':=m.push dpb;by_cases g1:(ib+1 == b.size)=true
    ·first | refine JC g1 ?_ | rw [zu g1]
     exact wpS_pure ⟨rfl,.inl ⟨_,_,_,_,_,_,rfl,dn _ _ m'⟩⟩
    ·first | refine JP g1 ?_ | rw [zt g1]
     have g1':ib+1<b.size:=by have:¬ ib+1=b.size:=fun z=>g1 (beq_iff_eq.mpr z);omega
     by_cases g2:bc+1≥mg
     ·first | refine JC g2 ?_ | rw [zu g2]
      exact wpS_pure ⟨rfl,.inr ⟨_,_,_,_,_,rfl,m',b1,g1',by omega⟩⟩
     ·first | refine JP g2 ?_ | rw [zt g2]
      exact wpS_pure ⟨rfl,_,_,_,_,_,rfl,m',b1,g1',by omega,by omega⟩
   ·first | refine JP hw ?_ | rw [zt hw]
    refine wpS_bind (JD hpa ?_);have m':=m.push dpa;by_cases g1:(ia+1+1 == a.size)=true
    ·first | refine JC g1 ?_ | rw [zu g1]
     exact wpS_pure ⟨rfl,.inl ⟨_,_,_,_,_,_,rfl,lA _ _ m'⟩⟩
    ·first | refine JP g1 ?_ | rw [zt g1]
     have g1':ia+1+1<a.size:=by have:¬ ia+1+1=a.size:=fun z=>g1 (beq_iff_eq.mpr z);omega
     by_cases g2:ac+1≥mg
     ·first | refine JC g2 ?_ | rw [zu g2]
      exact wpS_pure ⟨rfl,.inr ⟨_,_,_,_,_,rfl,m',g1',b2,by omega⟩⟩
     ·first | refine JP g2 ?_ | rw [zt g2]
      exact wpS_pure ⟨rfl,_,_,_,_,_,rfl,m',g1',b2,by omega,by omega⟩
  case post1 =>
   clear m b1 b2 b3;rintro c st2 ⟨e2,⟨l,o,ia,ib,ac,bc,rfl,m⟩ | ⟨o,ia,ib,ac,bc,rfl,m,b1,b2,b3⟩⟩
   ·rw [e2]
    exact wpS_pure ⟨sm,l,_,_,_,_,rfl,m⟩
   rw [e2];clear e2;refine wpS_bind (wpS_lift (wpAny_rule ⟨rfl,?_⟩));refine wpS_bind (wpS_mono (wpS_forRange (I:=fun y c st'=>J2M st st'/\LoI6 S a b x y c)
    (Q:=fun c st'=>J2M st st'/\(LoI7 S a b c\/LoI8 S a b x c)) ?step3 ?fin3 ⟨sm,o,ia,ib,_,_,_,rfl,m,b1,b2,b3,by omega⟩) ?post3)
   case fin3 =>
    rintro c st' ⟨_,o,ia,ib,mg,ac,bc,rfl,m,b1,b2,b3,b4⟩;omega
   case post3 =>
    clear m b1 b2 b3;rintro c st2 ⟨sm,⟨l,o,ia,ib,mg,ac,bc,rfl,m⟩ | ⟨o,ia,ib,mg,ac,bc,rfl,m,b1,b2,b3⟩⟩
    ·exact wpS_pure ⟨sm,l,_,_,_,_,rfl,m⟩
    ·exact wpS_bind (wpS_modify (wpS_pure ⟨sm,_,_,_,_,rfl,m,b1,b2,b3⟩))
   case step3 =>
    clear m b1 b2 b3;rintro y c st2 _ hy ⟨sm2,o,ia,ib,mg2,ac,bc,rfl,m,b1,b2,b3,b4⟩;dsimp only;obtain ⟨pb,hpb,dpb⟩:=atB b2;apply J7g
    ·intro key
     by_cases hg:mg2 > 1
     ·rw [zu hg]
      generalize mg2 - 1=mg3
      revert mg3
      exact key.out
     ·rw [zt hg]
      exact key.out mg2
    ·intro mg3
     refine wpS_bind (wpS_modify (wpS_bind (JD hpb ?_)));refine wpS_bind (tim_gallop C (sm2.1.trans hk) dpb (by omega) hDa (by omega) fun k k1=>?_);apply J7g
     ·intro key
      have mk:El S (o++a.extract ia (ia+k)):=m.app (.sub hDa);by_cases hk0:k > 0
      case' pos =>
       first | refine JC hk0 ?_ | rw [zu hk0]
       by_cases g1:(ia+k+1 == a.size)=true
       case pos =>
        first | refine JC g1 ?_ | rw [zu g1]
        exact wpS_pure ⟨sm2,.inl ⟨_,_,_,_,_,_,_,rfl,lA _ _ mk⟩⟩
       first | refine JP g1 ?_ | rw [zt g1]
       by_cases g2:(ia+k == a.size)=true
       case pos =>
        first | refine JC g2 ?_ | rw [zu g2]
        exact wpS_pure ⟨sm2,.inl ⟨_,_,_,_,_,_,_,rfl,dn _ _ mk⟩⟩
       first | refine JP g2 ?_ | rw [zt g2]
       have c1:ia+k+1<a.size:=by
        have:¬ ia+k+1=a.size:=fun z=>g1 (beq_iff_eq.mpr z);have:¬ ia+k=a.size:=fun z=>g2 (beq_iff_eq.mpr z);omega
       have b5:x+1<=ia+k+ib:=by omega
       have b6:y<=ia+k+ib:=by omega
       revert mk c1 b5 b6
       generalize o++a.extract ia (ia+k)=o2;generalize ia+k=i2
       revert o2 i2
       exact key.out
      case' neg =>
       first | refine JP hk0 ?_ | rw [zt hk0]
       obtain rfl:k=0:=by omega
       have c1:ia+1<a.size:=b1;have b5:x+1<=ia+ib:=b3;have b6:y<=ia+ib:=b4;exact key.out o ia m c1 b5 b6
     ·intro o2 i2 mk c1 b5 b6
      clear m b1 b3 b4 k1;obtain ⟨pa,hpa,dpa⟩:=atA (i:=i2) (by omega);refine wpS_bind (JD hpb ?_);have m':=mk.push dpb;by_cases g3:(ib+1 == b.size)=true
      case pos =>
       first | refine JC g3 ?_ | rw [zu g3]
       exact wpS_pure ⟨sm2,.inl ⟨_,_,_,_,_,_,_,rfl,dn _ _ m'⟩⟩
      first | refine JP g3 ?_ | rw [zt g3]
      have g3':ib+1<b.size:=by have:¬ ib+1=b.size:=fun z=>g3 (beq_iff_eq.mpr z);omega
      refine wpS_bind (JD hpa ?_);refine wpS_bind (tim_gallop C (sm2.1.trans hk) dpa (by omega) hDb (by omega) fun j j1=>?_);apply J7g
      ·intro key
       have mj:El S (o2.push pb++b.extract (ib+1) (ib+1+j)):=m'.app (.sub hDb);by_cases hj0:j > 0
       case' pos =>
        first | refine JC hj0 ?_ | rw [zu hj0]
        by_cases g4:(ib+1+j == b.size)=true
        case pos =>
         first | refine JC g4 ?_ | rw [zu g4]
         exact wpS_pure ⟨sm2,.inl ⟨_,_,_,_,_,_,_,rfl,dn _ _ mj⟩⟩
        first | refine JP g4 ?_ | rw [zt g4]
        have c2:ib+1+j<b.size:=by
         have:¬ ib+1+j=b.size:=fun z=>g4 (beq_iff_eq.mpr z);omega
        have b7:ib<ib+1+j:=by omega
        revert mj c2 b7
        generalize (o2.push pb)++b.extract (ib+1) (ib+1+j)=o3;generalize ib+1+j=i3
        revert o3 i3
        exact key.out
       case' neg =>
        first | refine JP hj0 ?_ | rw [zt hj0]
        obtain rfl:j=0:=by omega
        have c2:ib+1<b.size:=g3';have b7:ib<ib+1:=by omega
        exact key.out _ _ m' c2 b7
      ·intro o3 i3 mj c2 b7
       clear j1;refine wpS_bind (JD hpa ?_);have m4:=mj.push dpa;by_cases g5:(i2+1+1 == a.size)=true
       case pos =>
        first | refine JC g5 ?_ | rw [zu g5]
        exact wpS_pure ⟨sm2,.inl ⟨_,_,_,_,_,_,_,rfl,lA _ _ m4⟩⟩
       first | refine JP g5 ?_ | rw [zt g5]
       have g5':i2+1+1<a.size:=by have:¬ i2+1+1=a.size:=fun z=>g5 (beq_iff_eq.mpr z);omega
       split
       ·exact wpS_pure ⟨sm2,.inr ⟨_,_,_,_,_,_,rfl,m4,g5',c2,by omega⟩⟩
       ·exact wpS_pure ⟨sm2,_,_,_,_,_,_,rfl,m4,g5',c2,by omega,by omega⟩
end
def J81:Array Keyed->Array Keyed->StateT SortSt Sem (Array Keyed):=sortPriv% PySem.Builtin.mergeHi
inductive HiI1 (S:Keyed->Prop)(a b:Array Keyed)(x:Nat)(c:Option (Array Keyed)×Nat×Nat×Array Keyed×Nat):Prop
 | mk (na nb:Nat) (o:Array Keyed) (mg:Nat) (hc:c=(none,na,nb,o,mg)) (h0:El S o) (h1:0<na) (h2:na<a.size) (h3:1<nb) (h4:nb<=b.size) (h5:x+na+nb<=a.size+b.size):HiI1 S a b x c
inductive HiI2 (S:Keyed->Prop)(a b:Array Keyed)(c:Option (Array Keyed)×Nat×Nat×Array Keyed×Nat):Prop
 | mk (l:Array Keyed) (na nb:Nat) (o:Array Keyed) (mg:Nat) (hc:c=(some l,na,nb,o,mg)) (h0:El S l):HiI2 S a b c
inductive HiI3 (S:Keyed->Prop)(a b:Array Keyed)(x:Nat)(y:Nat)(c:Option (Array Keyed)×Nat×Nat×Array Keyed×Nat×Nat):Prop
 | mk (na nb:Nat) (o:Array Keyed) (ac bc:Nat) (hc:c=(none,na,nb,o,ac,bc)) (h0:El S o) (h1:0<na) (h2:na<a.size) (h3:1<nb) (h4:nb<=b.size) (h5:x+na+nb<=a.size+b.size) (h6:y+na+nb<=a.size+b.size):HiI3 S a b x y c
inductive HiI4 (S:Keyed->Prop)(a b:Array Keyed)(c:Option (Array Keyed)×Nat×Nat×Array Keyed×Nat×Nat):Prop
 | mk (l:Array Keyed) (na nb:Nat) (o:Array Keyed) (ac bc:Nat) (hc:c=(some l,na,nb,o,ac,bc)) (h0:El S l):HiI4 S a b c
inductive HiI5 (S:Keyed->Prop)(a b:Array Keyed)(x:Nat)(c:Option (Array Keyed)×Nat×Nat×Array Keyed×Nat×Nat):Prop
 | mk (na nb:Nat) (o:Array Keyed) (ac bc:Nat) (hc:c=(none,na,nb,o,ac,bc)) (h0:El S o) (h1:0<na) (h2:na<a.size) (h3:1<nb) (h4:nb<=b.size) (h5:x+1+na+nb<=a.size+b.size):HiI5 S a b x c
inductive HiI6 (S:Keyed->Prop)(a b:Array Keyed)(x:Nat)(y:Nat)(c:Option (Array Keyed)×Nat×Nat×Array Keyed×Nat×Nat×Nat):Prop
 | mk (na nb:Nat) (o:Array Keyed) (mg ac bc:Nat) (hc:c=(none,na,nb,o,mg,ac,bc)) (h0:El S o) (h1:0<na) (h2:na<a.size) (h3:1<nb) (h4:nb<=b.size) (h5:x+1+na+nb<=a.size+b.size) (h6:y+na+nb<=a.size+b.size):HiI6 S a b x y c
inductive HiI7 (S:Keyed->Prop)(a b:Array Keyed)(c:Option (Array Keyed)×Nat×Nat×Array Keyed×Nat×Nat×Nat):Prop
 | mk (l:Array Keyed) (na nb:Nat) (o:Array Keyed) (mg ac bc:Nat) (hc:c=(some l,na,nb,o,mg,ac,bc)) (h0:El S l):HiI7 S a b c
inductive HiI8 (S:Keyed->Prop)(a b:Array Keyed)(x:Nat)(c:Option (Array Keyed)×Nat×Nat×Array Keyed×Nat×Nat×Nat):Prop
 | mk (na nb:Nat) (o:Array Keyed) (mg ac bc:Nat) (hc:c=(none,na,nb,o,mg,ac,bc)) (h0:El S o) (h1:0<na) (h2:na<a.size) (h3:1<nb) (h4:nb<=b.size) (h5:x+1+na+nb<=a.size+b.size):HiI8 S a b x c
section
variable {prog:Program}{w:World}{A:Around}{E:Value->Shared->Prop}{s:Shared}{kd:SortKind}{S:Keyed->Prop}
theorem tim_mergeHi (C:J4t prog w A s kd S){st:SortSt}{a b:Array Keyed}{Q:Array Keyed->SortSt->Prop}(hk:kindOf st=kd)(hDa:∀ p∈a.toList,S p)(hDb:∀ p∈b.toList,S p)(ha:0<a.size)(hbs:0<b.size)(h:∀ l st',J2M st st'->El S l->Q l st'):wpS (model prog w) A E s (J81 a b) Q st:=by
 have atA:∀ {i:Nat},i<a.size->∃ p,a[i]?=some p/\S p:=fun {i} hi=>⟨a[i],getElem?_pos a i hi,hDa _ (by simp)⟩;have atB:∀ {i:Nat},i<b.size->∃ p,b[i]?=some p/\S p:=fun {i} hi=>⟨b[i],getElem?_pos b i hi,hDb _ (by simp)⟩;have dn:∀ {o:Array Keyed} (na nb:Nat),El S o->El S (a.extract 0 na++b.extract 0 nb++o.reverse):=fun _ _ m=>((El.sub hDa).app (.sub hDb)).app m.rev;have fB:∀ {o:Array Keyed} (na nb:Nat),El S o->El S (b.extract 0 nb++a.extract 0 na++o.reverse):=fun _ _ m=>((El.sub hDb).app (.sub hDa)).app m.rev;obtain ⟨n,hn⟩:∃ n,a.size=n+1:=⟨a.size - 1,by omega⟩;obtain ⟨al,hal,dal⟩:=atA (i:=n) (by omega);have m1:El S (#[al]:Array Keyed):=.one dal;unfold J81;refine wpS_bind (wpS_lift (wpAny_rule ⟨rfl,?_⟩));have hal':a[a.size - 1]?=some al:=by rw [hn];exact hal
 refine wpS_bind (JD hal' ?_);have en:a.size - 1=n:=by omega
 rw [en];by_cases h1:(n == 0)=true
 ·first | refine JC h1 ?_ | rw [zu h1]
  exact wpS_pure (h _ _ ⟨rfl,rfl,rfl,rfl⟩ (dn _ _ m1))
 first | refine JP h1 ?_ | rw [zt h1]
 by_cases h2:(b.size == 1)=true
 ·first | refine JC h2 ?_ | rw [zu h2]
  exact wpS_pure (h _ _ ⟨rfl,rfl,rfl,rfl⟩ (fB _ _ m1))
 first | refine JP h2 ?_ | rw [zt h2]
 have h1':0<n:=by have:¬ n=0:=fun z=>h1 (beq_iff_eq.mpr z);omega
 have h2':1<b.size:=by have:¬ b.size=1:=fun z=>h2 (beq_iff_eq.mpr z);omega
 refine wpS_bind (wpS_get ?_);refine wpS_bind (wpS_mono (wpS_forRange (I:=fun x c st'=>J2M st st'/\HiI1 S a b x c)
  (Q:=fun c st'=>J2M st st'/\HiI2 S a b c) ?step ?fin ⟨⟨rfl,rfl,rfl,rfl⟩,n,b.size,_,_,rfl,m1,h1',by omega,h2',by omega,by omega⟩) ?post)
 case fin =>
  rintro c st' ⟨_,na,nb,o,mg,rfl,m,b1,b2,b3,b4,b5⟩;omega
 case post =>
  rintro c st' ⟨sm,l,na,nb,o,mg,rfl,m⟩;exact wpS_pure (h l st' sm m)
 case step =>
  rintro x c st1 _ hx ⟨sm,na,nb,o,mg,rfl,m,b1,b2,b3,b4,b5⟩;refine wpS_bind (wpS_mono (wpS_forRange (I:=fun y c st'=>st'=st1/\HiI3 S a b x y c)
   (Q:=fun c st'=>st'=st1/\(HiI4 S a b c\/HiI5 S a b x c)) ?step1 ?fin1 ⟨rfl,na,nb,o,0,0,rfl,m,b1,b2,b3,b4,b5,by omega⟩) ?post1)
  case fin1 =>
   rintro c st' ⟨_,na,nb,o,ac,bc,rfl,m,b1,b2,b3,b4,b5,b6⟩;omega
  case step1 =>
   rintro y c st2 _ hy ⟨e2,na1,nb1,o,ac,bc,rfl,m,b1,b2,b3,b4,b5,b6⟩;rw [e2];clear e2;obtain ⟨na,rfl⟩:∃ q,na1=q+1:=⟨na1 - 1,by omega⟩;obtain ⟨nb,rfl⟩:∃ q,nb1=q+1:=⟨nb1 - 1,by omega⟩;dsimp only;simp only [Nat.add_sub_cancel];obtain ⟨pb,hpb,dpb⟩:=atB (i:=nb) (by omega);obtain ⟨pa,hpa,dpa⟩:=atA (i:=na) (by omega);refine wpS_bind (JD hpb (wpS_bind (JD hpa (wpS_bind (J4J C (sm.1.trans hk) dpb dpa fun w=>?_)))));by_cases hw:w=true
   ·first | refine JC hw ?_ | rw [zu hw]
    refine wpS_bind (JD hpa ?_);have m':=m.push dpa;by_cases g1:(na == 0)=true
    ·first | refine JC g1 ?_ | rw [zu g1]
     exact wpS_pure ⟨rfl,.inl ⟨_,_,_,_,_,_,rfl,dn _ _ m'⟩⟩
    ·first | refine JP g1 ?_ | rw [zt g1]
     have g1':0<na:=by have:¬ na=0:=fun z=>g1 (beq_iff_eq.mpr z);omega
     by_cases g2:ac+1≥mg
     ·first | refine JC g2 ?_ | rw [zu g2]
      exact wpS_pure ⟨rfl,.inr ⟨_,_,_,_,_,rfl,m',g1',by omega,b3,b4,by omega⟩⟩
     ·first | refine JP g2 ?_ | rw [zt g2]
      exact wpS_pure ⟨rfl,_,_,_,_,_,rfl,m',g1',by omega,b3,b4,by omega,by omega⟩
   ·first | refine JP hw ?_ | rw [zt hw]
    refine wpS_bind (JD hpb ?_);have m':=m.push dpb;by_cases g1:(nb == 1)=true
    ·first | refine JC g1 ?_ | rw [zu g1]
     exact wpS_pure ⟨rfl,.inl ⟨_,_,_,_,_,_,rfl,fB _ _ m'⟩⟩
    ·first | refine JP g1 ?_ | rw [zt g1]
     have g1':1<nb:=by have:¬ nb=1:=fun z=>g1 (beq_iff_eq.mpr z);omega
     by_cases g2:bc+1≥mg
     ·first | refine JC g2 ?_ | rw [zu g2]
      exact wpS_pure ⟨rfl,.inr ⟨_,_,_,_,_,rfl,m',b1,b2,g1',by omega,by omega⟩⟩
     ·first | refine JP g2 ?_ | rw [zt g2]
      exact wpS_pure ⟨rfl,_,_,_,_,_,rfl,m',b1,b2,g1',by omega,by omega,by omega⟩
  case post1 =>
   clear m b1 b2 b3 b4 b5;rintro c st2 ⟨e2,⟨l,na,nb,o,ac,bc,rfl,m⟩ | ⟨na,nb,o,ac,bc,rfl,m,b1,b2,b3,b4,b5⟩⟩
   ·rw [e2]
    exact wpS_pure ⟨sm,l,_,_,_,_,rfl,m⟩
   rw [e2];clear e2;refine wpS_bind (wpS_lift (wpAny_rule ⟨rfl,?_⟩));refine wpS_bind (wpS_mono (wpS_forRange (I:=fun y c st'=>J2M st st'/\HiI6 S a b x y c)
    (Q:=fun c st'=>J2M st st'/\(HiI7 S a b c\/HiI8 S a b x c)) ?step3 ?fin3 ⟨sm,na,nb,o,_,_,_,rfl,m,b1,b2,b3,b4,b5,by omega⟩) ?post3)
   case fin3 =>
    rintro c st' ⟨_,na,nb,o,mg,ac,bc,rfl,m,b1,b2,b3,b4,b5,b6⟩;omega
   case post3 =>
    clear m b1 b2 b3 b4 b5;rintro c st2 ⟨sm,⟨l,na,nb,o,mg,ac,bc,rfl,m⟩ | ⟨na,nb,o,mg,ac,bc,rfl,m,b1,b2,b3,b4,b5⟩⟩
    ·exact wpS_pure ⟨sm,l,_,_,_,_,rfl,m⟩
    ·exact wpS_bind (wpS_modify (wpS_pure ⟨sm,_,_,_,_,rfl,m,b1,b2,b3,b4,by omega⟩))
   case step3 =>
    clear m b1 b2 b3 b4 b5;rintro y c st2 _ hy ⟨sm2,na,nb1,o,mg2,ac,bc,rfl,m,b1,b2,b3,b4,b5,b6⟩;obtain ⟨nb,rfl⟩:∃ q,nb1=q+1:=⟨nb1 - 1,by omega⟩;dsimp only;simp only [Nat.add_sub_cancel];obtain ⟨pb,hpb,dpb⟩:=atB (i:=nb) (by omega);apply J7g
    ·intro key
     by_cases hg:mg2 > 1
     ·rw [zu hg]
      generalize mg2 - 1=mg3
      revert mg3
      exact key.out
     ·rw [zt hg]
      exact key.out mg2
    ·intro mg3
     refine wpS_bind (wpS_modify (wpS_bind (JD hpb ?_)));refine wpS_bind (tim_gallop C (sm2.1.trans hk) dpb (by omega) hDa (by omega) fun k k1=>?_);apply J7g
     ·intro key
      have mk:El S (o++(a.extract k na).reverse):=m.app (El.sub hDa).rev;by_cases hk0:na - k > 0
      case' pos =>
       first | refine JC hk0 ?_ | rw [zu hk0]
       by_cases g1:(k == 0)=true
       case pos =>
        first | refine JC g1 ?_ | rw [zu g1]
        exact wpS_pure ⟨sm2,.inl ⟨_,_,_,_,_,_,_,rfl,dn _ _ mk⟩⟩
       first | refine JP g1 ?_ | rw [zt g1]
       have c1:0<k:=by have:¬ k=0:=fun z=>g1 (beq_iff_eq.mpr z);omega
       have c2:k<a.size:=by omega
       have c3:x+1+k+nb+1<=a.size+b.size:=by omega
       have c4:y+k+nb+1<=a.size+b.size:=by omega
       revert mk c1 c2 c3 c4
       generalize na - k=ka;generalize o++(a.extract k na).reverse=o2
       revert ka o2
       exact key.out
      case' neg =>
       first | refine JP hk0 ?_ | rw [zt hk0]
       obtain rfl:k=na:=by omega
       exact key.out _ _ m b1 b2 (by omega) (by omega)
     ·intro ka o2 mk c1 c2 c3 c4
      clear m b1 b2 b5 b6 k1;refine wpS_bind (JD hpb ?_);have m':=mk.push dpb;by_cases g3:(nb == 1)=true
      case pos =>
       first | refine JC g3 ?_ | rw [zu g3]
       exact wpS_pure ⟨sm2,.inl ⟨_,_,_,_,_,_,_,rfl,fB _ _ m'⟩⟩
      first | refine JP g3 ?_ | rw [zt g3]
      have g3':1<nb:=by have:¬ nb=1:=fun z=>g3 (beq_iff_eq.mpr z);omega
      obtain ⟨k,rfl⟩:∃ q,k=q+1:=⟨k - 1,by omega⟩;simp only [Nat.add_sub_cancel];obtain ⟨pa,hpa,dpa⟩:=atA (i:=k) (by omega);refine wpS_bind (JD hpa ?_);refine wpS_bind (tim_gallop C (sm2.1.trans hk) dpa (by omega) hDb (by omega) fun j j1=>?_);apply J7g
      ·intro key
       have mj:El S (o2.push pb++(b.extract j nb).reverse):=m'.app (El.sub hDb).rev;by_cases hj0:nb - j > 0
       case' pos =>
        first | refine JC hj0 ?_ | rw [zu hj0]
        by_cases g4:(j == 1)=true
        case pos =>
         first | refine JC g4 ?_ | rw [zu g4]
         exact wpS_pure ⟨sm2,.inl ⟨_,_,_,_,_,_,_,rfl,fB _ _ mj⟩⟩
        first | refine JP g4 ?_ | rw [zt g4]
        by_cases g6:(j == 0)=true
        case pos =>
         first | refine JC g6 ?_ | rw [zu g6]
         exact wpS_pure ⟨sm2,.inl ⟨_,_,_,_,_,_,_,rfl,dn _ _ mj⟩⟩
        first | refine JP g6 ?_ | rw [zt g6]
        have d1:1<j:=by
         have:¬ j=1:=fun z=>g4 (beq_iff_eq.mpr z);have:¬ j=0:=fun z=>g6 (beq_iff_eq.mpr z);omega
        have d2:j<=nb:=j1
        revert mj d1 d2
        generalize nb - j=kb;generalize (o2.push pb)++(b.extract j nb).reverse=o3
        revert kb o3
        exact key.out
       case' neg =>
        first | refine JP hj0 ?_ | rw [zt hj0]
        obtain rfl:j=nb:=by omega
        exact key.out _ _ m' g3' (zv _)
      ·intro kb o3 mj d1 d2
       clear j1;refine wpS_bind (JD hpa ?_);have m4:=mj.push dpa;by_cases g5:(k == 0)=true
       case pos =>
        first | refine JC g5 ?_ | rw [zu g5]
        exact wpS_pure ⟨sm2,.inl ⟨_,_,_,_,_,_,_,rfl,dn _ _ m4⟩⟩
       first | refine JP g5 ?_ | rw [zt g5]
       have g5':0<k:=by have:¬ k=0:=fun z=>g5 (beq_iff_eq.mpr z);omega
       split
       ·exact wpS_pure ⟨sm2,.inr ⟨_,_,_,_,_,_,rfl,m4,g5',by omega,d1,by omega,by omega⟩⟩
       ·exact wpS_pure ⟨sm2,_,_,_,_,_,_,rfl,m4,g5',by omega,d1,by omega,by omega,by omega⟩
end
section
variable {S:Keyed->Prop}{o:Array Keyed}{n i:Nat}{p:Keyed}
theorem El.set (m:El S o)(hp:S p):El S (o.setIfInBounds i p):=⟨fun x hx=>by
 rw [Array.toList_setIfInBounds] at hx;rcases mem_or_eq_of_mem_set hx with h | h
 ·exact m.el x h
 ·rw [h];exact hp⟩
structure ML (S:Keyed->Prop)(o:Array Keyed)(n:Nat):Prop extends El S o where
 sz:o.size=n
theorem ML.set (m:ML S o n)(hp:S p):ML S (o.setIfInBounds i p) n:=⟨m.toEl.set hp,by rw [Array.size_setIfInBounds,m.sz]⟩
theorem J9D (sa:Nat):∀ (l:List Keyed) (k:Nat) (arr:Array Keyed),(∀ x∈l,S x)->ML S arr n->ML S ((l.zipIdx k).foldl (fun a (x:Keyed×Nat)=>a.setIfInBounds (sa+x.2) x.1) arr) n
 | [],_,_,_,m=>m
 | p::l,k,arr,h,m=>by
   rw [zipIdx_cons,foldl_cons];exact J9D sa l (k+1) _ (fun x hx=>h x (zS _ hx)) (m.set (h p zT))
end
theorem J51 {ps1 ps2:List (Nat×Nat×Nat)}{x y z:Nat×Nat×Nat}{p:Array (Nat×Nat×Nat)}(h:p.toList=ps1++x::y::ps2):((p.setIfInBounds ps1.length z).eraseIdxIfInBounds (ps1.length+1)).toList=ps1++z::ps2:=by
 rw [Array.toList_eraseIdxIfInBounds,Array.toList_setIfInBounds,h,set_append_right _ _ (zv _),Nat.sub_self,set_cons_zero,eraseIdx_append_of_length_le (by omega)];rw [show ps1.length+1 - ps1.length=1 by omega];rfl
section
variable {prog:Program}{w:World}{A:Around}{E:Value->Shared->Prop}{s:Shared}{kd:SortKind}{S:Keyed->Prop}
theorem Jcj {M:Model}{st st':SortSt}{Q:PUnit->SortSt->Prop}(h:Q ⟨⟩ st'):wpS M A E s (set st':StateT SortSt Sem PUnit) Q st:=by
 unfold wpS;rw [StateT.run_set];exact zr ⟨rfl,h⟩
theorem J7m (C:J4t prog w A s kd S){st:SortSt}{i sa na pw sb nb pw2 N:Nat}{ps1 ps2:List (Nat×Nat×Nat)}{Q:Bool->SortSt->Prop}(hk:kindOf st=kd)(hf:failedOf st=none)(hA:ML S (arrOf st) N)(hp:(pendingOf st).toList=ps1++(sa,na,pw)::(sb,nb,pw2)::ps2)(hi:ps1.length=i)(hsb:sb=sa+na)(a0:0<na)(b0:0<nb)(hN:sa+na+nb<=N)
 (h:∀ st',kindOf st'=kd->failedOf st'=none->ML S (arrOf st') N->(pendingOf st').toList=ps1++(sa,na+nb,pw)::ps2->Q true st'):wpS (model prog w) A E s (mergeAt' i) Q st:=by
 subst hi hsb;have p1:(pendingOf st)[ps1.length]?=some (sa,na,pw):=by rw [<- Array.getElem?_toList,hp];simp
 have p2:(pendingOf st)[ps1.length+1]?=some (sa+na,nb,pw2):=by rw [<- Array.getElem?_toList,hp,qc (by omega)];simp
 have hsz:=hA.sz;have at':∀ i,i<N->∃ p,(arrOf st)[i]?=some p/\S p:=fun i hi=>⟨(arrOf st)[i],getElem?_pos _ i (by omega),hA.el _ (by simp)⟩;unfold mergeAt';refine wpS_bind (wpS_get ?_);have q1:=p1;have q2:=p2;unfold pendingOf at q1 q2;rw [q1,q2];refine wpS_bind (Jcj ?_);obtain ⟨fb,efb,dfb⟩:=at' (sa+na) (by omega);refine wpS_bind (JD efb ?_);refine wpS_bind (tim_gallop C hk dfb (by show _<=(arrOf st).size;omega) hA.el a0 fun k k1=>?_);dsimp only;by_cases g1:(na - k == 0)=true
 ·rw [zu g1]
  exact wpS_pure (h _ hk hf hA (J51 hp))
 rw [zt g1];have hkl:k<na:=by have:¬ na - k=0:=fun z=>g1 (beq_iff_eq.mpr z);omega
 obtain ⟨al,eal,dal⟩:=at' (sa+k+(na - k) - 1) (by omega);refine wpS_bind (JD eal ?_);refine wpS_bind (tim_gallop C hk dal (by show _<=(arrOf st).size;omega) hA.el (by omega) fun j j1=>?_);dsimp only;by_cases g2:(j == 0)=true
 ·rw [zu g2]
  exact wpS_pure (h _ hk hf hA (J51 hp))
 rw [zt g2];have hj0:0<j:=by have:¬ j=0:=fun z=>g2 (beq_iff_eq.mpr z);omega
 have key:∀ (l:Array Keyed) (st2:SortSt),J2M (SortSt.mk' (kindOf st) (arrOf st) (((pendingOf st).setIfInBounds ps1.length (sa,na+nb,pw)).eraseIdxIfInBounds (ps1.length+1)) (gallopOf st) (failedOf st)) st2->El S l ->
  ∀ st3:SortSt,kindOf st3=kindOf st2->pendingOf st3=pendingOf st2->failedOf st3=failedOf st2->arrOf st3=l.toList.zipIdx.foldl (fun a (x:Keyed×Nat)=>a.setIfInBounds (sa+k+x.2) x.1) (arrOf st2)->Q true st3:=by
  rintro l st2 ⟨s1,s2,s3,s4⟩ ml st3 t1 t2 t3 t4;refine h st3 (t1.trans (s1.trans hk)) (t3.trans (s4.trans hf)) ?_ ?_
  ·rw [t4,show arrOf st2=arrOf st from s2]
   exact J9D _ _ _ _ ml.el hA
  ·rw [t2,show pendingOf st2=_ from s3]
   exact J51 hp
 by_cases g3:na - k<=j
 ·rw [zu g3]
  refine wpS_bind (tim_mergeLo C hk (El.sub hA.el).el (El.sub hA.el).el (by rw [Array.size_extract];show 0<min _ (arrOf st).size - _;omega) (by rw [Array.size_extract];show 0<min _ (arrOf st).size - _;omega) fun l st2 sm mm=>?_);refine wpS_bind (wpS_modify (wpS_bind (wpS_get (wpS_pure ?_))));have e:failedOf st2=none:=sm.2.2.2.trans hf;have e':(failedOf st2).isNone=true:=by rw [e];rfl
  show Q (failedOf st2).isNone _;rw [e'];exact key l st2 sm mm _ rfl rfl rfl rfl
 ·rw [zt g3]
  refine wpS_bind (tim_mergeHi C hk (El.sub hA.el).el (El.sub hA.el).el (by rw [Array.size_extract];show 0<min _ (arrOf st).size - _;omega) (by rw [Array.size_extract];show 0<min _ (arrOf st).size - _;omega) fun l st2 sm mm=>?_);refine wpS_bind (wpS_modify (wpS_bind (wpS_get (wpS_pure ?_))));have e:failedOf st2=none:=sm.2.2.2.trans hf;have e':(failedOf st2).isNone=true:=by rw [e];rfl
  show Q (failedOf st2).isNone _;rw [e'];exact key l st2 sm mm _ rfl rfl rfl rfl
end
theorem ML.perm {S:Keyed->Prop}{o o':Array Keyed}{n:Nat}(m:ML S o n)(p:o'.Perm o):ML S o' n:=⟨⟨fun x hx=>m.el x ((Array.perm_iff_toList_perm.mp p).mem_iff.mp hx)⟩,p.size_eq.trans m.sz⟩
structure SW (kd:SortKind)(S:Keyed->Prop)(N:Nat)(ps:Array (Nat×Nat×Nat))(st:SortSt):Prop where
 kind:kindOf st=kd
 failed:failedOf st=none
 arr:ML S (arrOf st) N
 pend:pendingOf st=ps
section
variable {prog:Program}{w:World}{A:Around}{E:Value->Shared->Prop}{s:Shared}{kd:SortKind}{S:Keyed->Prop}{N:Nat}{ps:Array (Nat×Nat×Nat)}{st:SortSt}
theorem SW.mirr {i j d:Nat}(h:SW kd S N ps st):SW kd S N ps (setArr st (mirror (arrOf st) i j d)):=⟨h.kind,h.failed,h.arr.perm (mirror_perm _ _ _ _),h.pend⟩
theorem SW.bubb {i d:Nat}(h:SW kd S N ps st):SW kd S N ps (setArr st (bubble (arrOf st) i d)):=⟨h.kind,h.failed,h.arr.perm (bubble_perm _ _ _),h.pend⟩
theorem J1T (C:J4t prog w A s kd S){i j:Nat}{Q:Option Bool->SortSt->Prop}(hB:SW kd S N ps st)(hi:i<N)(hj:j<N)(h:∀ b,Q (some b) st):wpS (model prog w) A E s (ltAt' i j) Q st:=by
 have hz:=hB.arr.sz;have at':∀ i,i<N->∃ p,(arrOf st)[i]?=some p/\S p:=fun i hi=>⟨(arrOf st)[i],getElem?_pos _ i (by omega),hB.arr.el _ (by simp)⟩;obtain ⟨p,ep,dp⟩:=at' i hi;obtain ⟨q,eq,dq⟩:=at' j hj;rw [ltAt'_eq];exact wpS_bind (wpS_get (wpS_bind (JD ep (wpS_bind (JD eq (J4J C hB.kind dp dq h))))))
theorem tim_countRun (C:J4t prog w A s kd S){lo nrem:Nat}{Q:Option Nat->SortSt->Prop}(hB:SW kd S N ps st)(hz:lo+nrem<=N)(h1:1<=nrem)(h:∀ m st',SW kd S N ps st'->1<=m->m<=nrem->Q (some m) st'):wpS (model prog w) A E s (countRun' lo nrem) Q st:=by
 rw [countRun'_eq];refine wpS_bind (wpS_mono (wpS_forRange (I:=fun x c st'=>st'=st/\c=(none,x)) (Q:=fun c st'=>st'=st/\∃ n,c=(none,n)/\1<=n/\n<=nrem) ?step ?fin ⟨rfl,rfl⟩) ?post)
 case fin =>
  rintro c st' ⟨e,rfl⟩;rw [show max 1 nrem=nrem by omega];exact ⟨e,nrem,rfl,h1,zv _⟩
 case step =>
  rintro x c st' hx1 hx2 ⟨e,rfl⟩;rw [e];dsimp only;refine wpS_bind (J1T C hB (by omega) (by omega) fun b=>?_);cases b with
  | true=>exact wpS_pure ⟨rfl,x,rfl,hx1,by omega⟩
  | false=>exact wpS_pure ⟨rfl,rfl⟩
 case post =>
  rintro c st1 ⟨e,n,rfl,n1,n2⟩;rw [e];clear e st1;dsimp only;by_cases hn:(n == nrem)=true
  ·rw [zu hn]
   exact wpS_pure (h n st hB n1 n2)
  rw [zt hn];have hne:¬ n=nrem:=fun z=>hn (beq_iff_eq.mpr z);have hnn:n+1<=nrem:=by omega
  apply J7g
  ·intro key
   by_cases hg:n > 1
   case' pos =>
    rw [zu hg];refine wpS_bind (J1T C hB (by omega) (by omega) fun b=>?_);cases b with
    | true=>exact wpS_pure (h n st hB n1 n2)
    | false =>
      refine wpS_bind (wpS_reverse ?_);have hS:=hB.mirr (i:=lo) (j:=lo+n) (d:=(lo+n - lo) / 2)
      revert hS
      generalize setArr st (mirror (arrOf st) lo (lo+n) ((lo+n - lo) / 2))=st2
      revert st2
      exact key.out
   case' neg =>
    rw [zt hg];exact key.out st hB
  ·intro st2 hS
   refine wpS_bind (wpS_lift (wpAny_rule ⟨rfl,?_⟩));refine wpS_bind (wpS_mono (wpS_forRange (I:=fun x c st'=>∃ neq,c=(none,x,neq)/\SW kd S N ps st') (Q:=fun c st'=>∃ m neq,c=(none,m,neq)/\SW kd S N ps st'/\n+1<=m/\m<=nrem) ?stepD ?finD ⟨0,rfl,hS⟩) ?postD)
   case finD =>
    rintro c st' ⟨neq,rfl,hB'⟩;rw [show max (n+1) nrem=nrem by omega];exact ⟨nrem,neq,rfl,hB',hnn,zv _⟩
   case stepD =>
    rintro x c st' hx1 hx2 ⟨neq,rfl,hB'⟩;dsimp only;refine wpS_bind (J1T C hB' (by omega) (by omega) fun b=>?_);dsimp only;cases b with
    | true =>
      rw [zu rfl];by_cases hq:neq > 0
      ·rw [zu hq]
       exact wpS_bind (wpS_reverse (wpS_pure ⟨0,rfl,hB'.mirr⟩))
      ·rw [zt hq]
       exact wpS_pure ⟨0,rfl,hB'⟩
    | false =>
      rw [zt zw];refine wpS_bind (J1T C hB' (by omega) (by omega) fun b=>?_);cases b with
      | true=>exact wpS_pure ⟨x,neq,rfl,hB',hx1,by omega⟩
      | false=>exact wpS_pure ⟨neq+1,rfl,hB'⟩
   case postD =>
    rintro c st3 ⟨m,neq,rfl,hB',m1,m2⟩;dsimp only;apply J7g
    ·intro key
     by_cases hq:neq > 0
     ·rw [zu hq]
      refine wpS_bind (wpS_reverse ?_);have hS4:=hB'.mirr (i:=lo+m - (neq+1)) (j:=lo+m) (d:=(lo+m - (lo+m - (neq+1))) / 2)
      revert hS4
      generalize setArr st3 (mirror (arrOf st3) (lo+m - (neq+1)) (lo+m) ((lo+m - (lo+m - (neq+1))) / 2))=st4
      revert st4
      exact key.out
     ·rw [zt hq]
      exact key.out st3 hB'
    ·intro st4 hB4
     refine wpS_bind (wpS_reverse ?_);have hB5:=hB4.mirr (i:=lo) (j:=lo+m) (d:=(lo+m - lo) / 2);generalize setArr st4 (mirror (arrOf st4) lo (lo+m) ((lo+m - lo) / 2))=st5 at *;refine wpS_bind (wpS_mono (wpS_forRange (I:=fun x c st'=>st'=st5/\c=(none,x)) (Q:=fun c st'=>st'=st5/\∃ n,c=(none,n)/\1<=n/\n<=nrem) ?stepE ?finE ⟨rfl,rfl⟩) ?postE)
     case finE =>
      rintro c st' ⟨e,rfl⟩;rw [show max m nrem=nrem by omega];exact ⟨e,nrem,rfl,h1,zv _⟩
     case stepE =>
      rintro x c st' hx1 hx2 ⟨e,rfl⟩;rw [e];dsimp only;refine wpS_bind (J1T C hB5 (by omega) (by omega) fun b=>?_);cases b with
      | true=>exact wpS_pure ⟨rfl,x,rfl,by omega,by omega⟩
      | false=>exact wpS_pure ⟨rfl,rfl⟩
     case postE =>
      rintro c st6 ⟨e,z,rfl,z1,z2⟩;rw [e];exact wpS_pure (h z st5 hB5 z1 z2)
theorem tim_binarySort (C:J4t prog w A s kd S){lo n ok:Nat}{Q:Bool->SortSt->Prop}(hB:SW kd S N ps st)(hz:lo+n<=N)(h:∀ st',SW kd S N ps st'->Q true st'):wpS (model prog w) A E s (binarySort' lo n ok) Q st:=by
 rw [binarySort'_eq];refine wpS_bind (wpS_mono (wpS_forRange (I:=fun _ c st'=>c=(none,())/\SW kd S N ps st') (Q:=fun c st'=>c=(none,())/\SW kd S N ps st') ?step (fun _ _ z=>z) ⟨rfl,hB⟩) ?post)
 case post =>
  rintro c st' ⟨rfl,hB'⟩;exact wpS_pure (h st' hB')
 case step =>
  rintro k c st1 hak hkn ⟨rfl,hB'⟩;refine wpS_bind (wpS_mono (wpS_forRange (I:=fun _ c st''=>st''=st1/\∃ l r,c=(none,l,r)/\r<=k) (Q:=fun c st''=>st''=st1/\∃ l r,c=(none,l,r)/\r<=k) ?istep (fun _ _ z=>z) ⟨rfl,0,k,rfl,zv _⟩) ?ipost)
  case istep =>
   rintro x c st2 _ hxk ⟨e,l,r,rfl,hrk⟩;rw [e];dsimp only;by_cases hge:l≥r
   ·rw [zu hge]
    exact wpS_pure ⟨rfl,l,r,rfl,hrk⟩
   ·rw [zt hge]
    refine wpS_bind (J1T C hB' (by omega) (by omega) fun b=>?_);cases b with
    | true=>exact wpS_pure ⟨rfl,l,(l+r) / 2,rfl,by omega⟩
    | false=>exact wpS_pure ⟨rfl,(l+r) / 2+1,r,rfl,hrk⟩
  case ipost =>
   rintro c st2 ⟨e,l,r,rfl,hlk⟩;rw [e];show wpS _ _ _ _ (do moveDown' (lo+k) (lo+l);pure (ForInStep.yield (none,()))) _ _;rw [moveDown'_eq];exact wpS_bind (wpS_modify (wpS_pure ⟨rfl,hB'.bubb⟩))
end
def RunsW:Nat->List (Nat×Nat×Nat)->Nat->Prop
 | b,[],e=>b=e
 | b,x::ps,e=>x.1=b/\0<x.2.1/\RunsW (b+x.2.1) ps e
theorem RunsW.app:∀ {ps1 ps2:List (Nat×Nat×Nat)} {b e:Nat},RunsW b (ps1++ps2) e->∃ m,RunsW b ps1 m/\RunsW m ps2 e
 | [],_,b,_,h=>⟨b,rfl,h⟩
 | _::_,_,_,_,⟨h1,h2,r⟩=>by
   obtain ⟨m,r1,r2⟩:=RunsW.app r;exact ⟨m,⟨h1,h2,r1⟩,r2⟩
theorem RunsW.put:∀ {ps1 ps2:List (Nat×Nat×Nat)} {b m e:Nat},RunsW b ps1 m->RunsW m ps2 e->RunsW b (ps1++ps2) e
 | [],_,_,_,_,h,r=>by cases (show _=_ from h);exact r
 | _::_,_,_,_,_,⟨h1,h2,r1⟩,r=>⟨h1,h2,RunsW.put r1 r⟩
theorem RunsW.len:∀ {ps:List (Nat×Nat×Nat)} {b e:Nat},RunsW b ps e->ps.length+b<=e
 | [],_,_,h=>by cases (show _=_ from h);simp
 | x::ps,b,e,⟨_,h2,r⟩=>by
   have:=RunsW.len r;rw [length_cons];omega
theorem RunsW.pow:∀ {ps qs:List (Nat×Nat×Nat)} {b e:Nat},RunsW b ps e->ps.map (fun x=>(x.1,x.2.1))=qs.map (fun x=>(x.1,x.2.1))->RunsW b qs e
 | [],[],_,_,h,_=>h
 | [],_::_,_,_,_,e=>by simp at e
 | _::_,[],_,_,_,e=>by simp at e
 | x::ps,y::qs,b,e,⟨h1,h2,r⟩,q=>by
   simp only [zV,List.cons.injEq,Prod.mk.injEq] at q;obtain ⟨⟨q1,q2⟩,q3⟩:=q;refine ⟨q1.symm.trans h1,by omega,?_⟩;rw [<- q2];exact RunsW.pow r q3
structure CoreW (kd:SortKind)(S:Keyed->Prop)(N lo:Nat)(st:SortSt):Prop where
 kind:kindOf st=kd
 failed:failedOf st=none
 arr:ML S (arrOf st) N
 runs:RunsW 0 (pendingOf st).toList lo
section
variable {prog:Program}{w:World}{A:Around}{E:Value->Shared->Prop}{s:Shared}{kd:SortKind}{S:Keyed->Prop}{N lo:Nat}{st:SortSt}
theorem J5n (C:J4t prog w A s kd S){i:Nat}{Q:Bool->SortSt->Prop}(hc:CoreW kd S N lo st)(hlo:lo<=N)(hi:i+1<(pendingOf st).size)(h:∀ st',CoreW kd S N lo st'->(pendingOf st').size+1=(pendingOf st).size->Q true st'):wpS (model prog w) A E s (mergeAt' i) Q st:=by
 have hr:=hc.runs;have hlen:(pendingOf st).toList.length=(pendingOf st).size:=zI;generalize hps:(pendingOf st).toList=ps at hr hlen;have e0:ps=ps.take i++ps.drop i:=(take_append_drop i ps).symm;obtain ⟨x,y,ps2,e1⟩:∃ x y ps2,ps.drop i=x::y::ps2:=by
  have h1:i<ps.length:=by omega
  have h2:i+1<ps.length:=by omega
  exact ⟨_,_,_,by rw [drop_eq_getElem_cons h1,drop_eq_getElem_cons h2]⟩
 rw [e0,e1] at hr;obtain ⟨m,r1,g1,g2,g3,g4,g5⟩:=RunsW.app hr;obtain ⟨xa,xn,xp⟩:=x;obtain ⟨ya,yn,yp⟩:=y;dsimp only at *;have hle:=g5.len;refine J7m C (N:=N) (ps1:=ps.take i) (ps2:=ps2) (sa:=xa) (na:=xn) (pw:=xp) (sb:=ya) (nb:=yn) (pw2:=yp) hc.kind hc.failed hc.arr (by rw [hps,<- e1];exact e0) (by rw [zR];omega) (by omega) g2 g4 (by omega) fun st' k1 k2 k3 k4=>?_;refine h st' ⟨k1,k2,k3,?_⟩ ?_
 ·rw [k4]
  refine r1.put ⟨g1,(by show 0<xn+yn;omega),?_⟩;show RunsW (m+(xn+yn)) ps2 lo;rw [<- Nat.add_assoc];exact g5
 ·have:(pendingOf st').toList.length+1=ps.length:=by
   rw [k4,e0,e1];simp;omega
  rw [zI] at this;omega
theorem J5b {α β:Type}(f:α->α)(g:α->β)(hfg:∀ x,g (f x)=g x):∀ (l:List α) (i:Nat),(l.modify i f).map g=l.map g
 | [],i=>by simp
 | x::l,0=>by simp [hfg]
 | x::l,i+1=>by simp [J5b f g hfg l i]
theorem CoreW.pow (h:CoreW kd S N lo st)(i pw:Nat):CoreW kd S N lo (setPending st ((pendingOf st).modify i fun x=>(x.fst,x.2.fst,pw))):=by
 refine ⟨h.kind,h.failed,h.arr,h.runs.pow ?_⟩;show _=List.map _ ((pendingOf st).modify i fun x=>(x.fst,x.2.fst,pw)).toList;rw [Array.toList_modify];exact (J5b (fun x:Nat×Nat×Nat=>(x.1,x.2.1,pw)) (fun x=>(x.1,x.2.1)) (fun x=>rfl) _ _).symm
theorem CoreW.push {n:Nat}(h:CoreW kd S N lo st)(h1:1<=n):CoreW kd S N (lo+n) (setPending st ((pendingOf st).push (lo,n,0))):=by
 refine ⟨h.kind,h.failed,h.arr,?_⟩;show RunsW 0 ((pendingOf st).push (lo,n,0)).toList (lo+n);rw [Array.toList_push];exact h.runs.put ⟨rfl,h1,rfl⟩
theorem tim_sortRuns (C:J4t prog w A s kd S){Q:Unit->SortSt->Prop}(hk:kindOf st=kd)(hf:failedOf st=none)(hA:ML S (arrOf st) N)(hq:pendingOf st=#[])(h:∀ st',ML S (arrOf st') N->failedOf st'=none->Q () st'):wpS (model prog w) A E s sortRuns' Q st:=by
 rw [sortRuns'_eq];refine wpS_bind (wpS_get ?_);dsimp only;rw [hA.sz];generalize minRun' N N 0=mr;refine wpS_bind (wpS_mono (wpS_forRange (I:=fun x c st'=>∃ lo,c=(none,lo)/\x<=lo/\lo<=N/\CoreW kd S N lo st') (Q:=fun c st'=>c=(none,N)/\CoreW kd S N N st') ?step ?fin ⟨0,rfl,zv _,zF _,hk,hf,hA,by rw [hq];exact rfl⟩) ?post)
 case fin =>
  rintro c st' ⟨lo,rfl,h1,h2,hc⟩;obtain rfl:lo=N:=by omega
  exact ⟨rfl,hc⟩
 case step =>
  rintro x c st1 _ hx ⟨lo,rfl,h1,h2,hc⟩;dsimp only;by_cases hlo:lo≥N
  ·rw [zu hlo]
   obtain rfl:lo=N:=by omega
   exact wpS_pure ⟨rfl,hc⟩
  rw [zt hlo];refine wpS_bind (tim_countRun C (ps:=pendingOf st1) ⟨hc.kind,hc.failed,hc.arr,rfl⟩ (by omega) (by omega) fun m st2 hB m1 m2=>?_);dsimp only;apply J7g
  ·intro key
   by_cases hm:m<mr
   ·rw [zu hm]
    refine wpS_bind (wpS_lift (wpAny_rule ⟨rfl,?_⟩));refine wpS_bind (tim_binarySort C hB (n:=min (N - lo) mr) (by omega) fun st3 hB3=>?_);rw [zt (by simp)];have n1:1<=min (N - lo) mr:=by omega
    have n2:min (N - lo) mr<=N - lo:=by omega
    revert hB3 n1 n2
    generalize min (N - lo) mr=n
    revert n st3
    exact key.out
   ·rw [zt hm]
    exact key.out st2 m hB m1 m2
  ·intro st3 n hB3 n1 n2
   have hc3:CoreW kd S N lo st3:=⟨hB3.kind,hB3.failed,hB3.arr,by rw [hB3.pend];exact hc.runs⟩;refine wpS_bind (wpS_get ?_);have hpush:∀ st4:SortSt,CoreW kd S N lo st4->∃ lo',((none:Option Unit),lo+n)=(none,lo')/\x+1<=lo'/\lo'<=N/\CoreW kd S N lo' (setPending st4 ((pendingOf st4).push (lo,n,0))):=fun st4 h4=>⟨lo+n,rfl,by omega,by omega,h4.push n1⟩;cases hb:(pendingOf st3).back? with
   | none=>exact wpS_bind (wpS_modify (wpS_pure (hpush st3 hc3)))
   | some q =>
     obtain ⟨s1,nn1,pp⟩:=q;refine wpS_bind (wpS_mono (wpS_forRange (I:=fun _ c st'=>c=(none,())/\CoreW kd S N lo st') (Q:=fun c st'=>c=(none,())/\CoreW kd S N lo st') ?stepM (fun _ _ z=>z) ⟨rfl,hc3⟩) ?postM)
     case postM =>
      rintro c st4 ⟨rfl,h4⟩;exact wpS_bind (wpS_modify (wpS_bind (wpS_modify (wpS_pure (hpush _ (h4.pow _ _))))))
     case stepM =>
      rintro y c st4 _ hy ⟨rfl,h4⟩;refine wpS_bind (wpS_get ?_);by_cases hs:(pendingOf st4).size > 1
      ·rw [zu hs]
       have hlt:(pendingOf st4).size - 2<(pendingOf st4).size:=by omega
       rw [getElem?_pos (pendingOf st4) ((pendingOf st4).size - 2) hlt];dsimp only
       split
       ·exact wpS_pure ⟨rfl,h4⟩
       ·refine wpS_bind (J5n C h4 h2 (by omega) fun st5 h5 _=>?_)
        rw [zt (by simp)];exact wpS_pure ⟨rfl,h5⟩
      ·rw [zt hs]
       exact wpS_pure ⟨rfl,h4⟩
 case post =>
  rintro c st1 ⟨rfl,hc⟩;have hps:(pendingOf st1).size<=N:=by
   have:=hc.runs.len;rw [zI] at this;omega
  refine wpS_bind (wpS_mono (wpS_forRange (I:=fun x c st'=>c=(none,())/\CoreW kd S N N st'/\((pendingOf st').size<=1\/(pendingOf st').size+x<=N)) (Q:=fun c st'=>c=(none,())/\CoreW kd S N N st') ?stepF ?finF ⟨rfl,hc,.inr (by omega)⟩) ?postF)
  case finF =>
   rintro c st2 ⟨rfl,h2,h3⟩;exact ⟨rfl,h2⟩
  case stepF =>
   rintro y c st2 _ hy ⟨rfl,h2,h3⟩;refine wpS_bind (wpS_get ?_);by_cases hs:(pendingOf st2).size<=1
   ·rw [zu hs]
    exact wpS_pure ⟨rfl,h2⟩
   ·rw [zt hs]
    have hix:∀ (c:Prop) [Decidable c],(if c then (pendingOf st2).size - 2 - 1 else (pendingOf st2).size - 2)+1<(pendingOf st2).size:=fun c _=>by split<;>omega
    refine wpS_bind (J5n C h2 (zv _) (hix _) fun st5 h5 h6=>?_);rw [zt (by simp)];exact wpS_pure ⟨rfl,h5,.inr (by omega)⟩
  case postF =>
   rintro c st2 ⟨rfl,h2⟩;exact wpS_pure (h st2 h2.arr h2.failed)
end
end L2
namespace L2
open PySem PySem.Spec PyProof.Rows
open AutoSeq1 (wpAny_loadPart')
open MeetsSeq MeetsSeq2 MeetsSeq3 SeqRoads2
theorem lt_loop (l b:Addr)(us vs:Array Value)(n n2:Nat)(r:Bool) :
 ∀ (xs ys:List Value) (i:Nat),us.toList.drop i=xs->vs.toList.drop i=ys->i<=us.size->i<=vs.size->Meets (Builtin.«list.__eq__.loop» ⟨[.ref l,.ref b,rawInt i,rawInt 0],[]⟩)
   (fun A R s=>s.heap.get? l=some (seqObj "list" us n)/\s.heap.get? b=some (seqObj "list" vs n2)/\LexAt A.in1 s xs ys r/\R (.ok (.ret (.bool r))) s):=by
 intro xs
 induction xs with
 | nil =>
   intro ys i ex ey h1 h2 prog w A R s h;obtain ⟨hp,g,d,tk,os⟩:=s;obtain ⟨q1,q2,he,h⟩:=h;have z1:us.size<=i:=by simpa using ex
   wp_walk using wpAny_loadPart' q1,wpAny_loadPart' q2
   have hi1:us[((i:Nat):Int).toNat]?=none:=by simp;omega
   rw [hi1]
   wp_walk using wpAny_loadPart' q1,wpAny_loadPart' q2
   show R (.ok (.ret (.bool (decide (us.size<vs.size))))) _;have e:decide (us.size<vs.size)=r:=by
    cases he with
    | nn =>
      have z2:vs.size<=i:=by simpa using ey
      exact zy (by omega)
    | nc =>
      have z2:¬ vs.size<=i:=fun z=>by
       have:vs.toList.drop i=[]:=drop_eq_nil_of_le (by simpa using z);rw [this] at ey;cases ey
      exact zx (by omega)
   rw [e];exact h
 | cons x xs ih =>
   intro ys i ex ey h1 h2 prog w A R s h;obtain ⟨hp,g,d,tk,os⟩:=s;obtain ⟨q1,q2,he,h⟩:=h;have z1:i<us.size:=by
    by_cases z:i<us.size
    ·exact z
    ·have:us.toList.drop i=[]:=drop_eq_nil_of_le (by simp;omega)
     rw [this] at ex;cases ex
   have e1:us[((i:Nat):Int).toNat]?=some x:=by
    have:(us.toList.drop i)[0]?=some x:=by rw [ex];rfl
    rw [List.getElem?_drop] at this;simpa using this
   have d1:us.toList.drop (i+1)=xs:=by rw [<- tail_drop,ex];rfl
   wp_walk using wpAny_loadPart' q1,wpAny_loadPart' q2
   cases ys with
   | nil =>
     have z2:vs.size<=i:=by simpa using ey
     have e2:vs[((i:Nat):Int).toNat]?=none:=by simp;omega
     rw [e1,e2]
     wp_walk using wpAny_loadPart' q1,wpAny_loadPart' q2
     show R (.ok (.ret (.bool (decide (us.size<vs.size))))) _;cases he;rw [zy (by omega)];exact h
   | cons y ys =>
     have z2:i<vs.size:=by
      by_cases z:i<vs.size
      ·exact z
      ·have:vs.toList.drop i=[]:=drop_eq_nil_of_le (by simp;omega)
       rw [this] at ey;cases ey
     have e2:vs[((i:Nat):Int).toNat]?=some y:=by
      have:(vs.toList.drop i)[0]?=some y:=by rw [ey];rfl
      rw [List.getElem?_drop] at this;simpa using this
     have d2:vs.toList.drop (i+1)=ys:=by rw [<- tail_drop,ey];rfl
     rw [e1,e2];cases he with
     | eq a1 a2 =>
       refine zq (a1 prog w _ _ ?_)
       wp_walk
       rw [show ((i:Int)+1)=((i+1:Nat):Int) by push_cast;rfl];refine ⟨plainId_quiet plain_eq_loop _,codeAny_builtin entry_eq_loop ?_⟩;rw [qo plain_eq_loop _];exact ih ys (i+1) d1 d2 (by omega) (by omega) prog w A R _ ⟨q1,q2,a2,h⟩
     | ne a1 a2 =>
       refine zq (a1 prog w _ _ ?_)
       wp_walk using wpAny_loadPart' q1,wpAny_loadPart' q2
       rw [e1,e2];show wpAny (model prog w) A.in1 (richCompare CmpOp.Lt x y >>= _) _ _ _;refine zq (a2 prog w _ _ ?_)
       wp_walk
       exact h
theorem Jae (l b:Addr)(us vs:Array Value)(n n2:Nat)(r:Bool) :
 Meets (Builtin.«list.__lt__» ⟨[.ref l,.ref b],[]⟩)
  (fun A R s=>s.heap.get? l=some (seqObj "list" us n)/\s.heap.get? b=some (seqObj "list" vs n2)/\LexAt A.in1 s us.toList vs.toList r/\R (.ok (.ret (.bool r))) s):=by
 intro prog w A R s h;obtain ⟨hp,g,d,tk,os⟩:=s;obtain ⟨q1,q2,he,h⟩:=h;have f3:=AutoSeq1.sub_list_list
 wp_walk using wpAny_loadPart' q1,wpAny_loadPart' q2
 refine ⟨plainId_quiet plain_eq_loop _,codeAny_builtin entry_eq_loop ?_⟩;rw [qo plain_eq_loop _];exact lt_loop l b us vs n n2 r _ _ 0 rfl rfl (zF _) (zF _) prog w A R _ ⟨q1,q2,he,h⟩
theorem J36 {s:Shared}{a:Addr}{us:Array Value}{n:Nat}(h:s.heap.get? a=some (seqObj "list" us n)):s.TypeIs (.ref a) "list":=⟨_,h,rfl⟩
section
variable {prog:Program}{w:World}{A:Around}{E:Value->Shared->Prop}{s:Shared}
theorem J8R {a b:Addr}{us vs:Array Value}{n n2:Nat}{r:Bool}{Q:Bool->Shared->Prop}(hu:A.units<cLine)(h1:s.heap.get? a=some (seqObj "list" us n))(h2:s.heap.get? b=some (seqObj "list" vs n2))(hl:LexAt A.in1 s us.toList vs.toList r)(h:Q r s) :
 wpAny (model prog w) A (oneLt' true (.ref a) (.ref b)) Q E s:=by
 rw [oneLt'_eq];simp only [if_true];refine zq (wpAny_cRoomFor hu ?_);refine zq (wpAny_callSpecialIfBound?_slot (J36 h1) F.slot_list_lt ?_);refine call_meets F.slot_list_lt (J36 h1) F.entry_list_lt (F.args_list_lt_2 _ _) (Jae a b us vs n n2 r) ⟨h1,h2,?_,?_⟩
 ·exact hl
 ·exact wpAny_truthy_bool h
end
end L2
namespace L2
open PySem PySem.Spec PyProof.Rows
def prV:Jq->List V
 | none=>[.int 1,.int 0]
 | some k=>[.int 0,kV k]
def prD:Jq->PyData
 | none=>.tuple [.int 1,.int 0]
 | some (.inl i)=>.tuple [.int 0,.int i]
 | some (.inr x)=>.tuple [.int 0,.str x]
def ltN:Jq->Jq->Bool
 | none,_=>false
 | some _,none=>true
 | some (.inl i),some (.inl j)=>decide (i<j)
 | some (.inl _),some (.inr _)=>true
 | some (.inr _),some (.inl _)=>false
 | some (.inr x),some (.inr y)=>decide (x.cps.toList<y.cps.toList)
def J9B:Jq->Jq->Bool
 | some (.inl _),some (.inr _)=>false
 | some (.inr _),some (.inl _)=>false
 | _,_=>true
def Je9:List Jq->List Jq->Bool
 | [],[]=>false
 | [],_::_=>true
 | _::_,[]=>false
 | a::as,b::bs=>if a=b then Je9 as bs else ltN a b
def J5T:List Jq->List Jq->Bool
 | a::as,b::bs=>J9B a b&&(if a=b then J5T as bs else true)
 | _,_=>true
theorem JdN {a b:Jq}(hl:J9B a b=true)(hne:a≠b):J82 (prV a) (prV b)=some (ltN a b):=by
 match a,b,hl,hne with
 | none,none,_,h=>exact absurd rfl h
 | none,some k,_,_=>simp [prV,J82,ltS,ltN]
 | some k,none,_,_=>simp [prV,J82,ltS,ltN]
 | some (.inl i),some (.inl j),_,h =>
   have:i≠j:=fun e=>h (by rw [e]);simp [prV,J82,ltS,ltN,kV,this]
 | some (.inr i),some (.inr j),_,h =>
   have:i≠j:=fun e=>h (by rw [e]);simp [prV,J82,ltS,ltN,kV,this]
theorem JdO (a b:Jq):PyData.eqv (prD a) (prD b)=decide (a=b):=by
 match a,b with
 | none,none=>simp [prD,PyData.eqv,PyData.eqvAll]
 | none,some (.inl j)=>simp [prD,PyData.eqv,PyData.eqvAll]
 | none,some (.inr j)=>simp [prD,PyData.eqv,PyData.eqvAll]
 | some (.inl i),none=>simp [prD,PyData.eqv,PyData.eqvAll]
 | some (.inr i),none=>simp [prD,PyData.eqv,PyData.eqvAll]
 | some (.inl i),some (.inl j) =>
   by_cases e:i=j
   ·simp [prD,PyData.eqv,PyData.eqvAll,e]
   ·simp [prD,PyData.eqv,PyData.eqvAll,e]
 | some (.inl i),some (.inr j)=>simp [prD,PyData.eqv,PyData.eqvAll]
 | some (.inr i),some (.inl j)=>simp [prD,PyData.eqv,PyData.eqvAll]
 | some (.inr i),some (.inr j) =>
   by_cases e:i=j
   ·simp [prD,PyData.eqv,PyData.eqvAll,e]
   ·simp [prD,PyData.eqv,PyData.eqvAll,e]
def PrAt (h:Heap)(u:Value)(k:Jq):Prop:=∃ p its,u=.ref p/\IsTup h p its.toArray/\Vals (prV k) its
theorem J7N {h:Heap}{u:Value}{k:Jq}(x:PrAt h u k):∃ as,Reads h u (prD k) as:=by
 obtain ⟨p,its,rfl,⟨o,e,c,n,d⟩,r⟩:=x
 match k,r with
 | none,r =>
   have r:Vals [V.int 1,V.int 0] its:=r;cases r with
   | cons h1 t=>cases t with
     | cons h2 t=>cases t;obtain ⟨_,rfl⟩:=h1;obtain ⟨_,rfl⟩:=h2;exact ⟨_,.tuple e c d (.cons (.int _ _) (.cons (.int _ _) .nil))⟩
 | some (.inl i),r =>
   have r:Vals [V.int 0,V.int i] its:=r;cases r with
   | cons h1 t=>cases t with
     | cons h2 t=>cases t;obtain ⟨_,rfl⟩:=h1;obtain ⟨_,rfl⟩:=h2;exact ⟨_,.tuple e c d (.cons (.int _ _) (.cons (.int _ _) .nil))⟩
 | some (.inr i),r =>
   have r:Vals [V.int 0,V.str i] its:=r;cases r with
   | cons h1 t=>cases t with
     | cons h2 t=>cases t;obtain ⟨_,rfl⟩:=h1;obtain ⟨_,rfl⟩:=h2;exact ⟨_,.tuple e c d (.cons (.int _ _) (.cons (.str _ _) .nil))⟩
def okN:Jq->Prop
 | some (.inr x)=>PyData.strOk x=true
 | _=>True
theorem J6G (k:Jq)(ok:okN k):(prD k).canLay0=true/\(prD k).depth<=1:=by
 match k,ok with
 | none,_=>simp [prD,PyData.canLay0,PyData.canLayAll0,PyData.depth,PyData.depthAll]
 | some (.inl i),_=>simp [prD,PyData.canLay0,PyData.canLayAll0,PyData.depth,PyData.depthAll]
 | some (.inr i),h=>simp [prD,PyData.canLay0,PyData.canLayAll0,PyData.depth,PyData.depthAll,(show PyData.strOk i=true from h)]
section
variable {A:Around}{s:Shared}
theorem JcF {u v:Value}{a b:Jq}(hu:A.units+2<cLine)(o1:okN a)(o2:okN b)(x:PrAt s.heap u a)(y:PrAt s.heap v b):SeqAt.EqAt A s u v (decide (a=b)):=by
 obtain ⟨as,r1⟩:=J7N x;obtain ⟨bs,r2⟩:=J7N y;rw [<- JdO];refine SeqAt.eqAt_reads _ _ A s u v _ _ r1 r2 (J6G a o1).1 (J6G b o2).1 ?_;have:=Nat.min_le_left (prD a).depth (prD b).depth;have:=(J6G a o1).2;omega
theorem JcE {u v:Value}{a b:Jq}(hu:A.units<cLine)(x:PrAt s.heap u a)(y:PrAt s.heap v b)(hl:J9B a b=true)(hne:a≠b):Jez A s u v (ltN a b):=by
 obtain ⟨p,its,rfl,⟨⟨c1,d1,t1,sl1⟩,e,c,n,d⟩,r⟩:=x;obtain ⟨q,its2,rfl,⟨⟨c2,d2,t2,sl2⟩,e2,c',n2,d'⟩,r2⟩:=y;cases (show c1=.type "tuple" from c);cases (show c2=.type "tuple" from c');cases (show t1=.seq its.toArray n from d);cases (show t2=.seq its2.toArray n2 from d');intro prog w E Q h;exact richCompare_meets_room (op:=.Lt) ⟨_,e,rfl⟩ ⟨_,e2,rfl⟩ F.slot_tuple_lt F.entry_tuple_lt (F.args_tuple_lt_2 _ _) (tuple_ltAt p q _ _ _ _ _ _ _ _ (ltN a b)) ⟨e,e2,lexV_at r r2 (JdN hl hne),by simp,h⟩ hu
theorem J9C (hu:A.units+2<cLine):∀ {us vs:List Value} {as bs:List Jq},Paired (PrAt s.heap) us as->Paired (PrAt s.heap) vs bs->(∀ a∈as,okN a)->(∀ b∈bs,okN b)->J5T as bs=true->LexAt A s us vs (Je9 as bs)
 | _,_,_,_,.nil,.nil,_,_,_=>.nn
 | _,_,_,_,.nil,.cons _ _,_,_,_=>.nc
 | _,_,_,_,.cons _ _,.nil,_,_,_=>.cn
 | _,_,a::as,b::bs,.cons x t,.cons y t',o1,o2,h=>by
   rw [J5T,Bool.and_eq_true] at h;rw [Je9];have e1:=JcF hu (o1 a zT) (o2 b zT) x y;by_cases e:a=b
   ·rw [zx e] at e1
    rw [zu e];refine .eq e1 (J9C hu t t' (fun z hz=>o1 z (zS _ hz)) (fun z hz=>o2 z (zS _ hz)) ?_);have h2:=h.2;rw [zu e] at h2;exact h2
   ·rw [zy e] at e1
    rw [zt e];exact .ne e1 (JcE (by omega) x y h.1 e)
end
def Trc (H:Hp)(h G:Heap)(e:Addr)(C:Value)(ed:Option Addr)(fl:Value):Prop :=
 G.get? e=none/\H e=none/\∃ oe vs,h.get? e=some oe/\oe.cls=C/\oe.dict=ed/\oe.data=.fields vs/\1<vs.size /\
  ((vs[1]?=some .none/\fl=.none)\/∃ T oT ts,vs[1]?=some (.ref T)/\G.get? T=none/\T≠e/\H T=none/\h.get? T=some oT/\oT.data=.fields ts/\ts[3]?=some fl)
def CXE (P:Program)(w:World):CXT:=fun outer H s E e s'=>∃ a C ed H',e=.ref a/\s'.os=s.os/\AllBare s'.gens/\Un (frs outer) [] H H' s.heap s'.heap/\HOk P w H' s'.heap/\Trc H' s'.heap s.heap a C ed .none/\E C ed H'
theorem Inv.back {X:Cx}{pins:List (Addr×Obj)}{σ:St}{H:Hp}{s:Shared}(I:Inv X pins σ H s)(hex:X.ex=[])(b:Addr)(e:s.heap.get? b=none):X.s₀.heap.get? b=none:=by
 cases q:X.s₀.heap.get? b with
 | none=>rfl
 | some o =>
   obtain ⟨o',e'⟩:=I.base.there b o q (by rw [hex];simp);rw [e] at e';cases e'
structure Cov (X:Cx)(pins:List (Addr×Obj))(G:Heap):Prop where
 loc:G.get? X.env.locals≠none
 cell:∀ x c,X.env.cells.lookup x=some c->G.get? c≠none
 pin:∀ p∈X.pn++pins,G.get? p.1≠none
 old:∀ b,G.get? b=none->X.s₀.heap.get? b=none
theorem Inv.cov {X:Cx}{pins:List (Addr×Obj)}{σ:St}{H:Hp}{s:Shared}(I:Inv X pins σ H s)(hex:X.ex=[]):Cov X pins s.heap :=
 ⟨by obtain ⟨m,⟨o,_,_,ho,_⟩,_⟩:=I.loc;rw [ho];simp,fun x c e=>by obtain ⟨v,o,ho,_⟩:=I.cell x c e;rw [ho];simp,fun p hp=>by rw [(I.pin p hp).1];simp,I.back hex⟩
section
variable {X:Cx}{k:Nat}{f C:Addr}{fd:FuncData}{ps:List Str}{sp:Sp}{x m:Str}{p pos apos:Pos}{e o:Expr}{es:List Expr}{ta:TE}{t:TA}{S:St->Prop}{E:XK}
def Jf6 (S:St->Prop)(sp:Sp)(E:XK)(t:TA):TE:=fun σ H Q=>t σ H fun vs H1=>S σ/\sp vs H1 Q E
end
abbrev vbm:List Value:=[.type "ValueError",.type "Exception",.type "BaseException",.type "object"]
def exB (K:PySem.W.Frag)(C:Addr)(ini:Option Value):Bool:=match K.lookup C with
 | some ⟨.type "type",_,.cls cd,sl⟩=>(match cd.mro,sl.toList with
   | .ref C'::bm,[_,_,_,_,some (.builtin n),_]=>C' == C&&(n == "ValueError.__new__"&&(PySem.W.tailIn K vbm bm&&(!cd.hasDel&&(PySem.W.nsOkIn K cd.ns&&nsIn K cd.ns "__init__" == some ini))))
   | _,_=>false)
 | _=>false
section
variable {X:Cx}{e:Expr}{es:List Expr}{t:TA}{S:St->Prop}{E:XK}
def Jf3 (S:St->Prop)(E:XK)(C:Addr)(t:TA):TS:=fun _ σ H=>t σ H fun vs H1=>S σ/\vs.length<=sizeLine/\E (.ref C) none H1
end
section
variable {X:Cx}{pins:List (Addr×Obj)}{σ:St}{H:Hp}{s:Shared}{G:Heap}
theorem Inv.hold {a:Addr}{o:HO}(I:Inv X pins σ H s)(c:Cov X pins G)(ha:G.get? a=none)(hH:H a=none)(ok:ObjOk X.prog X.w (upd H a o) s.heap a o):Inv X pins σ (upd H a o) s:=by
 have ne:∀ b,G.get? b≠none->b≠a:=fun b h z=>by subst z;exact h ha
 have ne2:∀ b u,H b=some u->b≠a:=fun b u h z=>by subst z;rw [hH] at h;cases h
 have neo:∀ b o',X.s₀.heap.get? b=some o'->b≠a:=fun b o' e z=>by
  subst z;have:=c.old b ha;rw [e] at this;cases this
 refine ⟨I.ok,I.os,I.bare,⟨I.base.keep,I.base.slot,fun b o' e hn hx=>by rw [Jh (neo b o' e)];exact I.base.free b o' e hn hx,I.base.there,fun b xs e=>?_,fun b o' u e=>?_,fun b ps e=>?_⟩,I.loc,I.cell,by rw [Jh (ne _ c.loc)];exact I.free,fun x cc e=>by rw [Jh (ne _ (c.cell x cc e))];exact I.freeC x cc e,fun p hp=>?_,fun b u e=>?_,I.len⟩
 ·have:=I.base.tups b xs e
  rw [Jh (ne2 b _ this)];exact this
 ·have:=I.base.frzs b o' u e
  rw [Jh (ne2 b _ this)];exact this
 ·obtain ⟨m,this⟩:=I.base.tbls b ps e
  exact ⟨m,by rw [Jh (ne2 b _ this)];exact this⟩
 ·obtain ⟨e,n,r⟩:=I.pin p hp
  exact ⟨e,by rw [Jh (ne _ (c.pin p hp))];exact n,r⟩
 ·by_cases z:b=a
  ·subst z
   rw [Jd] at e;cases e;exact ok
  ·rw [Jh z] at e
   exact (I.hok b u e).stay (fun _ _ _ q=>q) (fun d q=>by rw [Jh (ne2 d _ q)];exact q) fun d xs q=>by rw [Jh (ne2 d _ q)];exact q
end
def ExO (a:Addr)(C:Value)(ed:Option Addr):HO:=.ext fun h=>∃ oe vs,h.get? a=some oe/\oe.cls=C/\oe.dict=ed/\oe.data=.fields vs
def Jf7 (K:PySem.W.Frag)(C B:Addr):Bool:=match K.lookup C with
 | some ⟨_,_,.cls cd,_⟩=>cd.mro.contains (.ref B)
 | _=>false
def JcT (i:Nat)(D:Ends):Ends:={ nx:=fun σ H=>D.nx (σ.set i none) H,rt:=D.rt,bk:=fun σ H=>D.bk (σ.set i none) H,ct:=fun σ H=>D.ct (σ.set i none) H }
def tAs (K:PySem.W.Frag)(B:Addr)(i:Nat)(ts:TS)(thr:Value->Option Addr->TS):Value->Option Addr->TS:=fun C ed D σ H=>∃ Cc ini b,C=.ref Cc/\exB K Cc ini=true/\Jf7 K Cc B=b /\
 if b=true then (∀ a,H a=none->ts (JcT i D) (σ.set i (some (.ref a))) (upd H a (ExO a C ed))) else thr C ed D σ H
section
variable {X:Cx}
def Jft (tb:St->XK->TS)(th:Value->Option Addr->TS):TS:=fun D σ H=>tb σ (fun C ed H'=>th C ed D σ H') D σ H
end
section
variable {prog:Program}{w:World}{A:Around}{E:Value->Shared->Prop}{s:Shared}{K:PySem.W.Frag}{a C:Addr}{ox:Obj}{od:Option Obj}{name:Str}
structure XCls (K:PySem.W.Frag)(C:Addr):Prop where
 ga:PySem.W.findIn K (.ref C) "__getattribute__"=some (some (.builtin "BaseException.__getattribute__"))
 gh:PySem.W.findIn K (.ref C) "__getattr__"=some none
 base:PySem.W.mroIn K C (.type "BaseException")=some true
 obj:PySem.W.mroIn K C (.type "object")=some true
 hd:PySem.W.hasDictIn K C=true
 cl:PySem.W.findIn K (.ref C) "__class__"=some (some (.builtin "object.__class__"))
 cg:PySem.W.specialIn K (.builtin "object.__class__") "__get__"=some (some (.builtin "getset_descriptor.__get__"))
 ct:PySem.W.takesIn K (.builtin "object.__class__")=some true
end
def Jfh (H:Hp)(ed:Option Addr):Prop:=ed=none\/∃ dx fs,ed=some dx/\H dx=some (.xd fs)
section
variable {X:Cx}
def Jfv (K:PySem.W.Frag):List V->Hp->VK->Prop:=fun xs H Q=>∃ a C ed b,H a=some (ExO a (.ref C) ed)/\Jfh H ed/\XCls K C/\((∃ B,xs=[.ref a,.ref B]/\PySem.W.kitOne K (.ref C) (.ref B)=some b)\/∃ S,xs=[.ref a,.ty S]/\PySem.W.kitOne K (.ref C) (.type S)=some b)/\Q (.bl b) H
def tXF (K:PySem.W.Frag)(te:TE)(f:Str):TE:=fun σ H Q=>te σ H fun x H1=>∃ a C dx fs v,x=.ref a/\H1 a=some (ExO a (.ref C) (some dx))/\H1 dx=some (.xd fs)/\XCls K C/\NoAttr K C f/\fs.lookup f=some v/\Q v H1
end
def ExN (a:Addr)(C:Value)(ed:Option Addr):HO:=.ext fun h=>∃ oe vs,h.get? a=some oe/\oe.cls=C/\oe.dict=ed/\oe.data=.fields vs/\1<vs.size/\vs[1]?=some .none
def JeV (H:Hp)(a:Addr):Hp:=fun b=>if b=a then none else H b
section
variable {X:Cx}{pins:List (Addr×Obj)}{σ:St}{H:Hp}{s:Shared}{a:Addr}
def JaR (K:PySem.W.Frag)(ta tv:TE)(f:Str):TS:=fun D σ H=>tv σ H fun y H1=>ta σ H1 fun x H2=>∃ a C ini,x=.ref a/\H2 a=some (ExN a (.ref C) none)/\exB K C ini=true/\PySem.W.hasDictIn K C=true /\
 PySem.W.findIn K (.ref C) "__setattr__"=some (some (.builtin "object.__setattr__"))/\NoAttr K C f/\∀ dx,H2 dx=none->dx≠a->D.nx σ (upd (upd H2 dx (.xd [(f,y)])) a (ExN a (.ref C) (some dx)))
end
section
variable {X:Cx}{e:Expr}{es:List Expr}{t:TA}{S:St->Prop}{E:XK}{k:Nat}{f C:Addr}{fd:FuncData}{ps:List Str}{sp:Sp}
def Jf1 (S:St->Prop)(E:XK)(C:Addr)(sp:Sp)(t:TA):TS:=fun _ σ H=>t σ H fun vs H1=>S σ/\vs.length<=sizeLine/\∀ a,H1 a=none->sp (.ref a::vs) (upd H1 a (ExN a (.ref C) none)) (fun v H2=>v=.non/\∃ ed,H2 a=some (ExN a (.ref C) ed)/\E (.ref C) ed (JeV H2 a)) E0
end
section
variable {X:Cx}{k:Nat}{f C:Addr}{fd:FuncData}{ps:List Str}{sp:Sp}{x m:Str}{p pos apos:Pos}{e o:Expr}{es:List Expr}{ta:TE}{t:TA}{S:St->Prop}{E:XK}
def Jf4 (S:St->Prop)(C:Addr)(m:Str)(sp:Sp)(E:XK)(ta:TE)(t:TA):TE:=fun σ H Q=>ta σ H fun x H1=>∃ a dx fs,x=.ref a/\H1 a=some (.ins C dx fs)/\fs.lookup m=none/\t σ H1 fun vs H2=>S σ/\sp (x::vs) H2 Q E
def Jf5 (S:St->Prop)(C:Addr)(sp:Sp)(E:XK)(t:TA):TE:=fun σ H Q=>t σ H fun vs H1=>S σ/\∀ x dx,H1 x=none->H1 dx=none->dx≠x->sp (.ref x::vs) (upd (upd H1 dx (.own x)) x (.ins C dx [])) (fun v H2=>v=.non/\Q (.ref x) H2) E
end
def J2J (s:Stmt)(j:Nat):Stmt:=match s with
 | .ClassDef _ _ _ b _ _ _ _ _ _ _=>b.getD j (.Pass ⟨0,0,0,0⟩)
 | _=>.Pass ⟨0,0,0,0⟩
structure MthOk (K:PySem.W.Frag)(x qual:Str)(st:Stmt)(ps:List Str)(f:Addr)(fd:FuncData):Prop where
 F:Fun K x qual st f fd
 b:Binds K fd ps []
 fn:PySem.W.isFn K (.ref f)=true
structure OwnOk (K:PySem.W.Frag)(mg:Str->Option Value)(x:Str)(c fi:Addr):Prop where
 m:mg x=some (.ref c)
 cls:Cls K c
 mkr:Mk K c fi
theorem Jbg {K:PySem.W.Frag}{h:Heap}{mg:Str->Option Value}{x:Str}{c fi:Addr}(X:K.In h)(G:h.Ns mainGlobals mg)(a:nsIn K mainGlobals x=some (some (.ref c)))(pg:PySem.W.plainGet K c Str.empty=true)(hd:PySem.W.hasDictIn K c=true)(po:PySem.W.plainOver K c=true)
 (sa:PySem.W.findIn K (.ref c) "__setattr__"=some (some (.builtin "object.__setattr__"))) (ma:PySem.W.makesIn K c=true) (i:PySem.W.findIn K (.ref c) "__init__"=some (some (.ref fi))) (fn:PySem.W.isFn K (.ref fi)=true) (kp:PySem.W.keepIn K (.ref c)=true):OwnOk K mg x c fi :=
 ⟨PySem.W.mg_of X G a,⟨pg,hd,po,sa⟩,⟨ma,i,fn,kp⟩⟩
section
variable {X:Cx}
theorem JdT {x:Str}{c:Addr}{pos:Pos}(hm:X.mg x=some (.ref c))(hg:Gl X x)(hd:(x == ("__debug__":Str))=false):PE X (.Name x pos) (tC (.ref c)):=J6J hg hm rfl hd
end
def Ite (K:PySem.W.Frag)(a:Addr):It where
 go:=fun i H=>∃ xs x,SqL K H a xs/\xs[i]?=some x
 yld:=fun i H y H'=>∃ p x,H p=none/\y=.ref p/\(∀ ys,SqL K H a ys->ys[i]?=some x)/\H'=upd H p (.tup [.int i,x])
 stop:=fun i H=>∃ xs,SqL K H a xs/\xs.length<=i
theorem turn_enum {P:Program}{w:World}{K:PySem.W.Frag}{elts:List Expr}{x1:Nat}{tpos:Pos}(a e it:Addr)(hne:e≠it):Turn P w K (.Tuple elts x1 tpos) (Ite K a) [e,it] e (fun i h=>∃ old,IsEnum h e it i old/\h.IsListIter it a i) where
 mem:=by simp
 obj := fun i h st b hb=>by
  obtain ⟨old,h1,o,h2,c,d⟩:=st;rcases zU.mp hb with rfl | hb
  ·exact ⟨_,h1,fun v z=>nomatch z⟩
  ·cases zM.mp hb
   exact ⟨o,h2,fun v z=>by rw [d] at z;cases z⟩
 keep:=fun i h h' st k=>by
  obtain ⟨old,h1,h2⟩:=st;exact ⟨old,k e (by simp) _ h1,h2.at fun o z=>k it (by simp) o z⟩
 item:=by
  intro X hP hw hK hc i pins s σ H E I hf st hg;subst hP hw hK;obtain ⟨xs,x,hq,hx⟩:=hg;obtain ⟨its,rv,p,hz⟩:=I.list hq;obtain ⟨u,hu,ru⟩:=rv.get hx;obtain ⟨old,h1,h2⟩:=st;obtain ⟨f0,f1,f2,f3,f4,f5⟩:=hf e (by simp);obtain ⟨g0,g1,g2,g3,g4,g5⟩:=hf it (by simp);have fr:H s.heap.objs.size=none:=I.hok.fresh (zv _);have pe:s.heap.objs.size≠e:=Nat.ne_of_gt (qj h1);refine wpAny_pyNext_enum_item h1 h2 p.isList (x:=u) (by simpa using hu) hne fun h' out st' tup sz k=>⟨.ref s.heap.objs.size,rfl,?_⟩;refine wpAny_letOwnedTupleGo_enum (s:={ s with heap:=h',toks:=s.toks+1 }) out fun h'' he' sb=>?_;have kk:∀ b o,b∉[e,it]->s.heap.get? b=some o->h''.get? b=some o:=fun b o hb z =>
   (sb.2 b (fun q=>hb (by simp [q]))).trans (k b o (fun q=>hb (by simp [q])) (fun q=>hb (by simp [q])) z)
  have kt:h''.get? s.heap.objs.size=some { cls:=.type "tuple",data:=.seq #[.int i s.toks,u] }:=(sb.2 _ pe).trans tup;have nt:∀ b v,H b=some v->b∉[e,it]:=fun b v z hb=>by
   rcases zU.mp hb with rfl | hb
   ·rw [f0] at z;cases z
   ·cases zM.mp hb
    rw [g0] at z;cases z
  have np:∀ b v,H b=some v->b≠s.heap.objs.size:=fun b v z q=>by subst q;rw [fr] at z;cases z
  have up:∀ b v,H b=some v->upd H s.heap.objs.size (.tup [.int i,x]) b=some v:=fun b v z=>by rw [Jh (np b v z)];exact z
  refine ⟨.ref s.heap.objs.size,upd H s.heap.objs.size (.tup [.int i,x]),?_,rfl,⟨_,x,fr,rfl,fun ys hy=>by rw [I.list_inj hy hq];exact hx,rfl⟩,⟨u,he',st'.at fun o z=>(sb.2 it (Ne.symm hne)).trans z⟩,fun b hb=>?_⟩
  ·show Inv X pins σ _ { s with heap:=h'',gens:=s.gens,drawn:=s.drawn,toks:=s.toks+1 }
   refine Inv.step (s:=s) (h':=h'') (t':=s.toks+1) (g':=s.gens) (d':=s.drawn) (ch:=[e,it]) I (fun b hb=>?_) (fun b o _ _ hb z _=>kk b o hb z) (fun b o _ _ hb z _=>⟨o.slots,kk b o hb z⟩) (fun b o _ z n=>by rw [Jh (zB (qj z))];exact n) (fun b o hb z=>⟨o,kk b o hb z⟩)
    (fun b ys z=>up b _ z) (fun b o v z=>up b _ z) (fun b ps z=>⟨#[],by rw [Array.append_empty];exact up b _ z⟩) (fun m hm=>?_) (fun b v z=>?_) I.bare
   ·rcases zU.mp hb with rfl | hb
    ·exact ⟨f3,f1,f4,f5⟩
    ·cases zM.mp hb
     exact ⟨g3,g1,g4,g5⟩
   ·obtain ⟨o,es,ep,ho,r⟩:=hm
    refine ⟨o,es,ep,kk _ o (fun hb=>?_) ho,r⟩;rcases zU.mp hb with q | hb
    ·exact f1 q.symm
    ·exact g1 (zM.mp hb).symm
   ·by_cases q:b=s.heap.objs.size
    ·subst q
     rw [Jd] at z;cases z;exact ⟨Jb (Nat.le_of_ble_eq_true rfl),[.int i s.toks,u],.cons ⟨_,rfl⟩ (.cons ru .nil),_,kt,rfl,_,rfl⟩
    ·rw [Jh q] at z
     refine (I.hok b v z).stay (fun c o hc y=>kk c o ?_ y) (fun c y=>up c _ y) fun c ys y=>up c _ y;rcases hc with rfl | hc
     ·exact nt _ _ z
     ·exact nt _ _ hc
  ·rcases zU.mp hb with rfl | hb
   ·rw [Jh (Ne.symm pe)];exact f0
   ·cases zM.mp hb
    obtain ⟨o,h2',_⟩:=h2;rw [Jh (zB (qj h2'))];exact g0
 done:=by
  intro X hP hw hK hc i pins s σ H E I hf st hg;subst hP hw hK;obtain ⟨xs,hq,hx⟩:=hg;obtain ⟨its,rv,p,hz⟩:=I.list hq;obtain ⟨old,h1,h2⟩:=st;obtain ⟨g0,g1,g2,g3,g4,g5⟩:=hf it (by simp);have hl:=rv.length;exact wpAny_pyNext_enum_end (I.ok.hd hc) h1 h2 p.isList (by simp;omega) fun h' eb=>⟨rfl,I.turned (t':=s.toks) (fun b o hb z=>eb b o hb z) g0 g1 g3 g4 g5⟩
 self:=fun _ _ _ _ _ st h=>by
  obtain ⟨old,h1,h2⟩:=st;exact wpAny_pyIter_enum h1 h
section
variable {X:Cx}
def Jdz (K:PySem.W.Frag)(ta:TA):TI:=fun σ H R=>ta σ H fun vs H1=>∃ a,vs=[.ref a]/\(∃ xs,SqL K H1 a xs)/\R (Ite K a) H1
theorem JcI {a:Expr}{ta:TA}{p pos tpos:Pos}{elts:List Expr}{x1:Nat}(hg:Gl X "enumerate")(hm:X.mg "enumerate"=none)(ha:PA X [a] ta)(hn:JJ a=true):PI X (.Tuple elts x1 tpos) (.Call (.Name "enumerate" p) [a] [] pos) (Jdz X.K ta):=by
 intro pins s σ H R I h;refine Call_ (J1P I hg hm boot_enumerate (PyProof.Rows.callWith_type1 (thn (ha pos pins s σ H _ I h) fun us s1 ⟨vs,H1,I1,r1,q1⟩=>?_) (JN hn) rfl));obtain ⟨l,e,⟨xs,hq⟩,q⟩:=q1;subst e;cases r1 with
 | cons r rr =>
   cases rr;cases (show _=Value.ref l from r);obtain ⟨its,rv,pl,hz⟩:=I1.list hq;refine call_enumerate_list pl.isList fun h' he st sz k=>?_;refine wpAny_pyIter_enum (s:={ s1 with heap:=h' }) he ?_;refine ⟨s1.heap.objs.size+1,[s1.heap.objs.size+1,s1.heap.objs.size],_,_,H1,rfl,I1.kept (t':=s1.toks) k,turn_enum l _ _ (Nat.succ_ne_self _),⟨_,he,st⟩,fun b hb=>?_,q⟩;rcases zU.mp hb with rfl | hb
   ·exact I1.fpOk (Nat.le_succ _) (I1.hok.fresh (Nat.le_succ _))
   ·cases zM.mp hb
    exact I1.fpOk (zv _) (I1.hok.fresh (zv _))
end
theorem ForW.enum {K:PySem.W.Frag}{a:Addr}{xs:List V}{g:TG}{tb:TS}{D:Ends}{σ:St}{H:Hp}(Pv:Nat->St->Hp->Prop)(h0:Pv 0 σ H)(hl:∀ i σ H,Pv i σ H->SqL K H a xs)
 (hs:∀ (i:Nat) x σ H p,xs[i]?=some x->Pv i σ H->H p=none->g (.ref p) σ (upd H p (.tup [.int i,x])) fun σ2 H2=>tb { D with nx:=Pv (i+1),ct:=Pv (i+1),bk:=D.nx } σ2 H2)
 (hd:∀ σ H,Pv xs.length σ H->D.nx σ H):ForW (Ite K a) g tb D σ H:=by
 refine ⟨fun i m σ H=>Pv i σ H/\i<=xs.length/\m=xs.length - i,⟨_,h0,zF _,rfl⟩,fun i m σ H ⟨h1,h2,h3⟩=>?_⟩;have sq:=hl i σ H h1;by_cases e:i=xs.length
 ·subst e
  exact .inl ⟨⟨xs,sq,zv _⟩,hd σ H h1⟩
 ·have lt:i<xs.length:=Nat.lt_of_le_of_ne h2 e
  refine .inr ⟨⟨xs,xs[i],sq,zJ lt⟩,Pv (i+1),fun σ' H' z=>⟨xs.length - (i+1),by omega,z,lt,rfl⟩,fun x H' hy=>?_⟩;obtain ⟨p,x',hp,rfl,hx,rfl⟩:=hy;exact hs i x' σ H p (hx xs sq) h1 hp
section
variable {prog:Program}{w:World}{A:Around}{E:Value->Shared->Prop}{s:Shared}{T:String}{r d:Addr}{n:Nat}{P:Nat->Value->Prop}{OK:Heap->Prop}
theorem Ja2 {R:Result->Shared->Prop}(K:PySem.W.KdlSrc prog w T r d n P OK)(hh:A.handled=none)(hok:OK s.heap)(hn:n<=sizeLine)
 (hR:∀ h' tk acc' c',(∀ b o,s.heap.get? b=some o->h'.get? b=some o)->h'.get? s.heap.objs.size=some { cls:=.type "list",dict:=none,data:=.seq acc' c',slots:=#[] }->ItemsOf P acc' n->R (.ok (.ret (.ref s.heap.objs.size))) { s with heap:=h',toks:=tk }) :
 codeAny (model prog w) A (.builtin "proto.collect" ⟨[.ref r],[]⟩) R s:=by
 refine codeAny_builtin PySem.F.entry_proto_collect ?_;rw [qo PySem.F.plain_proto_collect _];show wpAny _ A.in1 (newList [] >>= fun l=>again (.builtin "list.__iadd__" ⟨[l,.ref r],[]⟩)) _ _ s;refine zq (wpAny_newObj_type ?_);refine zr ⟨plainId_quiet PySem.F.plain_list_iadd _,codeAny_builtin PySem.F.entry_list_iadd ?_⟩;rw [qo PySem.F.plain_list_iadd _];have hlt:=K.there _ hok;have hS:(s.heap.push { cls:=.type "list",data:=.seq ([]:List Value).toArray }).get? s.heap.objs.size=some { cls:=.type "list",data:=.seq #[] 0 }:=qi _ rfl;show wpAny _ A.in1 (Builtin.List.listExtendWith (.ref s.heap.objs.size) (.ref r) (.ref s.heap.objs.size)) _ _ _;exact PySem.W.kdl_extend (s:={ s with heap:=s.heap.push { cls:=.type "list",data:=.seq ([]:List Value).toArray } }) (A:=A) K hh (K.keep _ _ hok fun b _ o e=>qh _ e) s.heap.objs.size (Nat.ne_of_gt hlt.1) (Nat.ne_of_gt hlt.2) (.ref s.heap.objs.size) 0 hS
  (fun h' tk acc' c' hk hS' hacc=>hR h' tk acc' c' (fun b o e=>hk b o (zB (qj e)) (qh _ e)) hS' hacc) hn
theorem J4g {Q:List Value->Shared->Prop}(K:PySem.W.KdlSrc prog w T r d n P OK)(hh:A.handled=none)(hok:OK s.heap)(hn:n<=sizeLine)
 (hQ:∀ h' tk acc',(∀ b o,s.heap.get? b=some o->h'.get? b=some o)->s.heap.objs.size<h'.objs.size->ItemsOf P acc' n->Q acc'.toList { s with heap:=h',toks:=tk }):wpAny (model prog w) A (collect (.ref r)) Q E s:=by
 unfold collect;refine zq (wpAny_runValue (Ja2 K hh hok hn fun h' tk acc' c' hk hS' hacc=>?_));show wpAny _ A (load s.heap.objs.size >>= _) _ _ _;refine zq (wpAny_load hS' ?_);exact zr (hQ h' tk acc' hk (qj hS') hacc)
theorem J8x {ns:List Int}{Q:Value->Shared->Prop}(K:PySem.W.KdlSrc prog w T r d n P OK)(hh:A.handled=none)(hok:OK s.heap)(hn:n<64)(hI:∀ acc:Array Value,ItemsOf P acc n->IntsAre acc.toList ns)
 (hQ:∀ h' tk p vs' ns' e,(∀ b o,s.heap.get? b=some o->h'.get? b=some o)->s.heap.objs.size<=p->h'.get? p=some (seqObj "list" vs' e)->IntsAre vs'.toList ns'->ns'.Perm ns->ns'.Pairwise (·<=·)->Q (.ref p) { s with heap:=h',toks:=tk }) :
 wpAny (model prog w) A (call (.builtin "sorted") [.ref r]) Q E s:=by
 refine Calls.call_function_entry kind_sorted plain_sorted entry_sorted (args_sorted1 _) ?_;unfold Builtin.«sorted»;refine zq (m:=checkCount "sorted" 1 1 _) (zr ?_);refine zq (J4g K hh hok (by rw [sizeLine_eq];omega) fun h1 tk acc hk hsz hacc=>?_);refine zq (wpAny_newList ?_ (hsz:=by rw [zI,hacc.1,sizeLine_eq];omega));have hoL:(h1.push (seqObj "list" acc.toList.toArray 0)).get? h1.objs.size=some (seqObj "list" acc.toList.toArray 0):=qi _ rfl;show wpAny _ _ _ _ _ { s with heap:=h1.push (seqObj "list" acc.toList.toArray 0),toks:=tk };refine zq (wpAny_holding (wpAny_call_entry slot_list_sort ⟨_,hoL,rfl⟩ entry_list_sort (list_sort_tree hoL (hI acc hacc) (by rw [zI,hacc.1];exact hn) fun out ns' a1 a2 a3=>⟨_,rfl,?_⟩) (args_list_sort _)));obtain ⟨e,he⟩:=sortedHeap_at (out:=out) hoL;exact zr ⟨_,rfl,hQ _ tk h1.objs.size out ns' e (fun b o eb=>by
  rw [sortedHeap_old (zB (qj (hk b o eb))) (by rw [size_push'];exact Nat.lt_succ_of_lt (qj (hk b o eb)))];exact qh _ (hk b o eb)) (Nat.le_of_lt hsz) he a1 a2 a3⟩
end
theorem J5i:∀ {us:List Value} {ks:List Int},us.length=ks.length->(∀ (i:Nat) v k,us[i]?=some v->ks[i]?=some k->∃ t,v=Value.int k t)->IntsAre us ks
 | [],[],_,_=>.nil
 | [],_::_,h,_=>by cases h
 | _::_,[],h,_=>by cases h
 | u::us,k::ks,h,f=>by
   obtain ⟨t,rfl⟩:=f 0 u k rfl rfl;exact .cons k t (J5i (by simpa using h) fun i v k' a b=>f (i+1) v k' (by simpa using a) (by simpa using b))
theorem J3r:∀ {us:List Value} {ks:List Int},IntsAre us ks->Vals (ks.map V.int) us
 | _,_,.nil=>.nil
 | _,_,.cons _ _ t=>.cons ⟨_,rfl⟩ (J3r t)
theorem J5U {i:Int}{v:Value}(h:J34 (.inl i) v=true):∃ t,v=Value.int i t:=by
 have h':Value.isInt i v=true:=h;cases v with
 | int j t =>
   have e:(j == i)=true\/(i == j)=true:=by first | exact .inl h' | exact .inr h'
   rcases e with e | e
   ·exact ⟨t,by rw [beq_iff_eq.mp e]⟩
   ·exact ⟨t,by rw [beq_iff_eq.mp e]⟩
 | _=>cases h'
section
variable {X:Cx}
def J6E:List V->Hp->VK->Prop:=fun xs H Q=>∃ d kvs,∃ ks:List Int,xs=[.ref d]/\H d=some (.dK kvs)/\kvs.map (·.1)=ks.map Sum.inl/\kvs.length<64 /\
 ∀ p,∀ ms:List Int,H p=none->ms.Perm ks->ms.Pairwise (·<=·)->Q (.ref p) (upd H p (.lst (ms.map V.int)))
theorem J10 (hc:X.calm=true):J03 X (.builtin "sorted") J6E:=by
 intro pins s σ H xs us Q I r h;obtain ⟨d,kvs,ks,rfl,hH,hk,h64,q⟩:=h;obtain ⟨u,rfl,ru⟩:=J0w r;cases ru;obtain ⟨z,hd,vs,rel,dd⟩:=J89 I.hok hH;have hlen:=rel.length;obtain ⟨o,es,ep,ho,hx,hdat,hkn,hp,hnd⟩:=id dd;have hkl:ks.length=kvs.length:=by have:=congrArg List.length hk;simpa using this.symm
 have hm:s.heap.DictAt (J01 X.prog X.w) d vs ep:=⟨o,es,ho,hx,hdat,hkn,hp,hnd⟩;refine J8x (ns:=ks) (PySem.W.kdl_dict (kvs:=vs) (ep:=ep) hd) (I.ok.hd hc) hm (by omega) (fun acc hacc=>?_) (fun h' tk p vs' ns' e hkp hpz hpe hi hperm hsort=>?_)
 ·refine J5i (by rw [zI,hacc.1];omega) fun i v k hv hki=>?_
  obtain ⟨k',x,hx',hy'⟩:=hacc.2 i v (by rw [<- Array.getElem?_toList];exact hv);have e1:vs.map (·.1)=ks.map Sum.inl:=by rw [<- hk];exact rel.keys.symm
  have e2:(vs.map (·.1))[i]?=some k':=by rw [zW,hx'];rfl
  rw [e1,zW,hki] at e2;cases e2;exact J5U hy'
 ·have hv:=J3r hi
  refine ⟨.ref p,upd H p (.lst (ns'.map V.int)),I.laid (t':=tk) hkp hpz (show ObjOk X.prog X.w _ h' _ (.lst (ns'.map V.int)) from ⟨by rw [zL,hperm.length_eq,sizeLine_eq];omega,vs'.toList,e,hv,hpe⟩),rfl,q p ns' (I.hok.fresh hpz) hperm hsort⟩
end
open AutoSeq1 (wpAny_loadPart')
theorem enumT_new (q:Addr)(vs:Array Value)(k:Nat)(dq:Option Addr)(lq:Array (Option Value)) :
 Meets (Builtin.«enumerate.__new__» ⟨[.type "enumerate",.ref q],[]⟩) (fun _ R s=>s.heap.get? q=some { cls:=.type "tuple",dict:=dq,data:=.seq vs k,slots:=lq } /\
  R (.ok (.ret (.ref (s.heap.push { cls:=.type "tuple_iterator",data:=.fields #[.ref q,.int 0 0] }).objs.size)))
    { s with heap:=(s.heap.push { cls:=.type "tuple_iterator",data:=.fields #[.ref q,.int 0 0] }).push { cls:=.type "enumerate",data:=.fields #[.none,.bool false,.ref s.heap.objs.size,rawInt 0,.none,.none] } }) :=
 .of_wp fun prog w A R s hq=>by
  obtain ⟨hp,g,d,tk,os⟩:=s;obtain ⟨eq,hq⟩:=hq;have en:=sub_enumerate;have tq:Heap.IsTuple (Shared.heap ⟨hp,g,d,tk,os⟩) q vs:=⟨_,eq,rfl,k,rfl⟩
  wp_walk using wpAny_loadPart' eq
  refine wpAny_stack_any fun _=>zr ?_
  split
  ·rename_i cz _ _ _ _ _
   cases (cz == Value.type "enumerate")<;>(wp_walk using wpAny_loadPart' eq,wpAny_pyIter_tuple tq;exact ⟨_,rfl,hq⟩)
  ·wp_walk using wpAny_loadPart' eq,wpAny_pyIter_tuple tq
   exact ⟨_,rfl,hq⟩
section
variable {prog:Program}{w:World}{A:Around}{E:Value->Shared->Prop}{s:Shared}
theorem J9d {q:Addr}{vs:Array Value}{Q:Value->Shared->Prop}(tq:s.heap.IsTuple q vs)
 (hq:∀ h1,IsEnum h1 (s.heap.objs.size+1) s.heap.objs.size 0 .none->h1.IsTupleIter s.heap.objs.size q 0->h1.objs.size=s.heap.objs.size+2 ->
  (∀ b o,s.heap.get? b=some o->h1.get? b=some o)->Q (.ref (s.heap.objs.size+1)) { s with heap:=h1 }):wpAny (model prog w) A (call (.type "enumerate") [.ref q]) Q E s:=by
 obtain ⟨⟨cq,dq,tt,lq⟩,eq,e1,k,e2⟩:=tq;cases (show cq=.type "tuple" from e1);cases (show tt=.seq vs k from e2);refine callType_new F.called_enumerate (by decide) (F.typeCall_enumerate_1 _) (F.newCall_enumerate_1 _) (fun z=>F.args_object_init_2 z _) F.entry_enumerate_new (enumT_new q vs k dq lq) ⟨eq,?_⟩;have zz:(s.heap.push { cls:=.type "tuple_iterator",data:=.fields #[.ref q,.int 0 0] }).objs.size=s.heap.objs.size+1:=Heap.size_push ..;show _/\_;rw [zz];have ee:IsEnum ((s.heap.push { cls:=.type "tuple_iterator",data:=.fields #[.ref q,.int 0 0] }).push { cls:=.type "enumerate",data:=.fields #[.none,.bool false,.ref s.heap.objs.size,rawInt 0,.none,.none] }) (s.heap.objs.size+1) s.heap.objs.size 0 .none:=by
  have z2:=qi (s.heap.push { cls:=.type "tuple_iterator",data:=.fields #[.ref q,.int 0 0] }) (o:={ cls:=.type "enumerate",data:=.fields #[.none,.bool false,.ref s.heap.objs.size,rawInt 0,.none,.none] }) rfl;rwa [zz] at z2
 exact ⟨⟨_,ee,rfl⟩,hq _ ee ⟨_,qh _ (qi _ rfl),rfl,rfl⟩ (by rw [Heap.size_push,zz]) fun b o eb=>qh _ (qh _ eb)⟩
theorem J8Y {j q:Addr}{i:Nat}{vs:Array Value}{v:Value}{Q:Value->Shared->Prop}(jq:s.heap.IsTupleIter j q i)(tq:s.heap.IsTuple q vs)(hv:vs[i]?=some v)
 (hq:∀ h1,h1.IsTupleIter j q (i+1)->Heap.SameBut j s.heap h1->Q v { s with heap:=h1 }):wpAny (model prog w) A (Builtin.SmallTypes.nextOf (.ref j)) Q E s:=by
 obtain ⟨oj,ej,cj,dj⟩:=id jq;obtain ⟨oq,eq,_,kq,dq⟩:=tq;unfold Builtin.SmallTypes.nextOf;refine zq (wpAny_callSpecial?_slot (name:=Str.ofString "__next__") jq.typeIs F.slot_tuple_iterator_next (wpAny_call_entry F.slot_tuple_iterator_next jq.typeIs F.entry_tuple_iterator_next ?_ (F.args_tuple_iterator_next_1 _)));show wpAny _ _ (field (.ref j) 0 >>= _) _ _ s;refine zq (wpAny_field ej dj (x:=.ref q) rfl ?_);show wpAny _ _ (if (Value.ref q == Value.none)=true then _ else _) _ _ s;rw [zt (show ¬ (Value.ref q == Value.none)=true from fun z=>zw z)];show wpAny _ _ (field (.ref j) 1 >>= _) _ _ s;refine zq (wpAny_field ej dj (x:=.int i 0) rfl ?_);show wpAny _ _ (seqItems? (.ref q) >>= _) _ _ s;refine zq (wpAny_seqItems eq dq ?_);simp only [Int.toNat_natCast,hv];exact zq (wpAny_setField ej dj (by simp) (zr ⟨v,rfl,zr (hq _ ⟨_,Heap.get?_update_self _ ej (Obj.isFreed_of_fields (Obj.data_mapFields dj _)),(Obj.cls_mapFields ..).trans cj,by rw [Obj.data_mapFields dj];simp [rawInt]⟩ (Heap.SameBut.update ..))⟩))
theorem Jaa {j q:Addr}{i:Nat}{vs:Array Value}{Q:Value->Shared->Prop}(hn:A.handled=none)(jq:s.heap.IsTupleIter j q i)(tq:s.heap.IsTuple q vs)(hv:vs[i]?=none)
 (hq:∀ h1 z,Heap.ExtBut j s.heap h1->(∃ o,h1.get? z=some o/\o.cls=.type "StopIteration")->E (.ref z) { s with heap:=h1 }):wpAny (model prog w) A (Builtin.SmallTypes.nextOf (.ref j)) Q E s:=by
 obtain ⟨oj,ej,cj,dj⟩:=id jq;obtain ⟨oq,eq,_,kq,dq⟩:=tq;unfold Builtin.SmallTypes.nextOf;refine zq (wpAny_callSpecial?_slot (name:=Str.ofString "__next__") jq.typeIs F.slot_tuple_iterator_next (wpAny_call_entry F.slot_tuple_iterator_next jq.typeIs F.entry_tuple_iterator_next ?_ (F.args_tuple_iterator_next_1 _)));show wpAny _ _ (field (.ref j) 0 >>= _) _ _ s;refine zq (wpAny_field ej dj (x:=.ref q) rfl ?_);show wpAny _ _ (if (Value.ref q == Value.none)=true then _ else _) _ _ s;rw [zt (show ¬ (Value.ref q == Value.none)=true from fun z=>zw z)];show wpAny _ _ (field (.ref j) 1 >>= _) _ _ s;refine zq (wpAny_field ej dj (x:=.int i 0) rfl ?_);show wpAny _ _ (seqItems? (.ref q) >>= _) _ _ s;refine zq (wpAny_seqItems eq dq ?_);simp only [Int.toNat_natCast,hv];refine zq (wpAny_rule (zq (wpAny_setField ej dj (by simp) ?_)));show wpAny _ _ (newExc (.type "StopIteration") [] >>= fun _=>_) _ _ _;refine zq ?_;simp only [newExc,newTuple];refine zq (wpAny_newObj_type ?_ (by size_fits));refine zq (m:=firstArgMember _ _) (wpAny_of_eq (a:=Value.none) (by first | rfl | (simp only [firstArgMember];rfl)) (wpAny_newObj_type ?_ (by size_fits)));simp only [raiseNew];refine zq (wpAny_handled ?_);first | rw [show A.in1.handled=none from hn] | rw [hn]
 exact zq (zr (wpAny_throw (hq _ _ (((Heap.SameBut.update ..).extBut.push _).push _) ⟨_,qi _ rfl,rfl⟩)))
theorem J9c {e j q:Addr}{i:Nat}{vs:Array Value}{v old:Value}{Q:Option Value->Shared->Prop}(en:IsEnum s.heap e j i old)(jq:s.heap.IsTupleIter j q i)(tq:s.heap.IsTuple q vs)(hv:vs[i]?=some v)(hne:e≠j)
 (hq:∀ h9,IsEnumOut h9 e j ((i:Int)+1) v s.heap.objs.size->h9.IsTupleIter j q (i+1)->h9.get? s.heap.objs.size=some { cls:=.type "tuple",data:=.seq #[.int i s.toks,v] }->h9.objs.size=s.heap.objs.size+1 ->
  (∀ b o,b≠e->b≠j->s.heap.get? b=some o->h9.get? b=some o)->Q (some (.ref s.heap.objs.size)) { s with heap:=h9,toks:=s.toks+1 }):wpAny (model prog w) A (pyNext (.ref e)) Q E s:=by
 have te:s.TypeIs (.ref e) "enumerate":=⟨_,en,rfl⟩;unfold pyNext;refine zq (wpAny_attempt (wpAny_callSpecial?_slot (name:=Str.ofString "__next__") te F.slot_enumerate_next (wpAny_call_entry F.slot_enumerate_next te F.entry_enumerate_next ?_ (F.args_enumerate_next_1 _))));obtain ⟨hp,g,d,tk,os⟩:=s;show wpAny _ _ (field (.ref e) 2 >>= _) _ _ _;refine zq (wpAny_field en rfl (x:=.ref j) rfl (zq (J8Y jq tq hv fun h1 j1 (u1:Heap.SameBut j hp h1)=>?_)));have en1:IsEnum h1 e j i old:=(u1.2 e hne).trans en;show wpAny _ _ (field (.ref e) 3 >>= _) _ _ ⟨h1,g,d,tk,os⟩;refine zq (wpAny_field en1 rfl (x:=rawInt i) rfl ?_);show wpAny _ _ (field (.ref e) 4 >>= _) _ _ ⟨h1,g,d,tk,os⟩;refine zq (wpAny_field en1 rfl (x:=.none) rfl ?_);show wpAny _ _ (mkInt i >>= _) _ _ ⟨h1,g,d,tk,os⟩;refine zq (wpAny_mkInt ?_);show wpAny _ _ (setField (.ref e) 3 (rawInt ((i:Int)+1)) >>= _) _ _ ⟨h1,g,d,tk+1,os⟩;refine zq (wpAny_setField_rec en1 (by simp) fun h2 (en2:IsEnum h2 e j ((i:Int)+1) old) (u2:Heap.SameBut e h1 h2)=>?_);show wpAny _ _ (setField (.ref e) 4 .none >>= _) _ _ ⟨h2,g,d,tk+1,os⟩;refine zq (wpAny_setField_rec en2 (by simp) fun h3 (en3:IsEnum h3 e j ((i:Int)+1) old) (u3:Heap.SameBut e h2 h3)=>?_);show wpAny _ _ (newTuple [.int i tk,v] >>= _) _ _ ⟨h3,g,d,tk+1,os⟩;refine zq (wpAny_newTuple ?_);have en4:IsEnum (h3.push { cls:=.type "tuple",data:=.seq #[.int i tk,v] }) e j ((i:Int)+1) old:=qh _ en3;have z3:h3.objs.size=hp.objs.size:=u3.1.trans (u2.1.trans u1.1);have lte:e<hp.objs.size:=qj en;have t4:(h3.push { cls:=.type "tuple",data:=.seq #[.int i tk,v] }).get? hp.objs.size=some { cls:=.type "tuple",data:=.seq #[.int i tk,v] }:=z3 ▸ qi _ rfl;have z4:(h3.push { cls:=.type "tuple",data:=.seq #[.int i tk,v] }).objs.size=hp.objs.size+1:=(Heap.size_push ..).trans (congrArg (·+1) z3);have k4:∀ b o,b≠e->b≠j->hp.get? b=some o->(h3.push { cls:=.type "tuple",data:=.seq #[.int i tk,v] }).get? b=some o:=fun b o be bj eb=>qh _ (u3.extBut b o be (u2.extBut b o be (u1.extBut b o bj eb)));have j4:(h3.push { cls:=.type "tuple",data:=.seq #[.int i tk,v] }).IsTupleIter j q (i+1):=let ⟨o,ho,rr⟩:=(j1.extBut u2.extBut (Ne.symm hne)).extBut u3.extBut (Ne.symm hne);⟨o,qh _ ho,rr⟩;generalize h3.push { cls:=.type "tuple",data:=.seq #[.int i tk,v] }=h4 at en4 t4 z4 k4 j4 ⊢;show wpAny _ _ (Builtin.SmallTypes.ownedTupleIsFree (.ref e) >>= _) _ _ ⟨h4,g,d,tk+1,os⟩;rw [z3];refine zq ?_;unfold Builtin.SmallTypes.ownedTupleIsFree;refine zq (wpAny_field en4 rfl (x:=.none) rfl (zr ?_));simp only [if_true];refine zq (wpAny_rule (zq (wpAny_field en4 rfl (x:=old) rfl (zq (wpAny_setField_rec en4 (by simp) fun h5 (en5:IsEnum h5 e j ((i:Int)+1) v) (u5:Heap.SameBut e h4 h5)=>?_)))));show wpAny _ _ (Builtin.SmallTypes.ownedTupleHandOut (.ref e) (.ref hp.objs.size) >>= _) _ _ ⟨h5,g,d,tk+1,os⟩;refine zq ?_;unfold Builtin.SmallTypes.ownedTupleHandOut;refine zq (wpAny_setField_rec en5 (by simp) fun h6 (en6:IsEnumOut h6 e j ((i:Int)+1) v hp.objs.size) (u6:Heap.SameBut e h5 h6)=>?_);refine wpAny_setField_rec en6 (by simp) fun h7 (en7:IsEnumOut h7 e j ((i:Int)+1) v hp.objs.size) (u7:Heap.SameBut e h6 h7)=>?_;have up:∀ b o,b≠e->h4.get? b=some o->h7.get? b=some o:=fun b o be eb=>u7.extBut b o be (u6.extBut b o be (u5.extBut b o be eb));refine zq (wpAny_letGo (zr ⟨_,rfl,zr (hq h7 en7 ?_ (up _ _ (Nat.ne_of_gt lte) t4) ?_ fun b o be bj eb=>up b o be (k4 b o be bj eb))⟩))
 ·exact ((j4.extBut u5.extBut (Ne.symm hne)).extBut u6.extBut (Ne.symm hne)).extBut u7.extBut (Ne.symm hne)
 ·rw [u7.1,u6.1,u5.1,z4]
theorem Jao {e j q:Addr}{i:Nat}{vs:Array Value}{old:Value}{Q:Option Value->Shared->Prop}(hn:A.handled=none)(en:IsEnum s.heap e j i old)(jq:s.heap.IsTupleIter j q i)(tq:s.heap.IsTuple q vs)(hv:vs[i]?=none)
 (hq:∀ h1,Heap.ExtBut j s.heap h1->Q none { s with heap:=h1 }):wpAny (model prog w) A (pyNext (.ref e)) Q E s:=by
 have te:s.TypeIs (.ref e) "enumerate":=⟨_,en,rfl⟩;unfold pyNext;refine zq (wpAny_attempt (wpAny_callSpecial?_slot (name:=Str.ofString "__next__") te F.slot_enumerate_next (wpAny_call_entry F.slot_enumerate_next te F.entry_enumerate_next ?_ (F.args_enumerate_next_1 _))));show wpAny _ _ (field (.ref e) 2 >>= _) _ _ _;refine zq (wpAny_field en rfl (x:=.ref j) rfl (zq (Jaa hn jq tq hv fun h1 z ex ⟨o,ho,co⟩=>?_)));exact zq (wpAny_isInstance (T:="StopIteration") (b:=true) ⟨o,ho,co⟩ isSubtype_stop (zr (hq _ ex)))
end
def JeB (K:PySem.W.Frag)(a:Addr):It where
 go:=fun i H=>∃ xs x,SqT K H a xs/\xs[i]?=some x
 yld:=fun i H y H'=>∃ p x,H p=none/\y=.ref p/\(∀ ys,SqT K H a ys->ys[i]?=some x)/\H'=upd H p (.tup [.int i,x])
 stop:=fun i H=>∃ xs,SqT K H a xs/\xs.length<=i
theorem turn_enumT {P:Program}{w:World}{K:PySem.W.Frag}{elts:List Expr}{x1:Nat}{tpos:Pos}(a e it:Addr)(hne:e≠it):Turn P w K (.Tuple elts x1 tpos) (JeB K a) [e,it] e (fun i h=>∃ old,IsEnum h e it i old/\h.IsTupleIter it a i) where
 mem:=by simp
 obj := fun i h st b hb=>by
  obtain ⟨old,h1,o,h2,c,d⟩:=st;rcases zU.mp hb with rfl | hb
  ·exact ⟨_,h1,fun v z=>nomatch z⟩
  ·cases zM.mp hb
   exact ⟨o,h2,fun v z=>by rw [d] at z;cases z⟩
 keep:=fun i h h' st k=>by
  obtain ⟨old,h1,h2⟩:=st;exact ⟨old,k e (by simp) _ h1,h2.at fun o z=>k it (by simp) o z⟩
 item:=by
  intro X hP hw hK hc i pins s σ H E I hf st hg;subst hP hw hK;obtain ⟨xs,x,hq,hx⟩:=hg;obtain ⟨its,rv,p,hz⟩:=I.tuple hq;obtain ⟨u,hu,ru⟩:=rv.get hx;obtain ⟨old,h1,h2⟩:=st;obtain ⟨f0,f1,f2,f3,f4,f5⟩:=hf e (by simp);obtain ⟨g0,g1,g2,g3,g4,g5⟩:=hf it (by simp);have fr:H s.heap.objs.size=none:=I.hok.fresh (zv _);have pe:s.heap.objs.size≠e:=Nat.ne_of_gt (qj h1);refine J9c h1 h2 p (v:=u) (by simpa using hu) hne fun h' out st' tup sz k=>⟨.ref s.heap.objs.size,rfl,?_⟩;refine wpAny_letOwnedTupleGo_enum (s:={ s with heap:=h',toks:=s.toks+1 }) out fun h'' he' sb=>?_;have kk:∀ b o,b∉[e,it]->s.heap.get? b=some o->h''.get? b=some o:=fun b o hb z =>
   (sb.2 b (fun q=>hb (by simp [q]))).trans (k b o (fun q=>hb (by simp [q])) (fun q=>hb (by simp [q])) z)
  have kt:h''.get? s.heap.objs.size=some { cls:=.type "tuple",data:=.seq #[.int i s.toks,u] }:=(sb.2 _ pe).trans tup;have nt:∀ b v,H b=some v->b∉[e,it]:=fun b v z hb=>by
   rcases zU.mp hb with rfl | hb
   ·rw [f0] at z;cases z
   ·cases zM.mp hb
    rw [g0] at z;cases z
  have np:∀ b v,H b=some v->b≠s.heap.objs.size:=fun b v z q=>by subst q;rw [fr] at z;cases z
  have up:∀ b v,H b=some v->upd H s.heap.objs.size (.tup [.int i,x]) b=some v:=fun b v z=>by rw [Jh (np b v z)];exact z
  refine ⟨.ref s.heap.objs.size,upd H s.heap.objs.size (.tup [.int i,x]),?_,rfl,⟨_,x,fr,rfl,fun ys hy=>by rw [I.tuple_inj hy hq];exact hx,rfl⟩,⟨u,he',st'.at fun o z=>(sb.2 it (Ne.symm hne)).trans z⟩,fun b hb=>?_⟩
  ·show Inv X pins σ _ { s with heap:=h'',gens:=s.gens,drawn:=s.drawn,toks:=s.toks+1 }
   refine Inv.step (s:=s) (h':=h'') (t':=s.toks+1) (g':=s.gens) (d':=s.drawn) (ch:=[e,it]) I (fun b hb=>?_) (fun b o _ _ hb z _=>kk b o hb z) (fun b o _ _ hb z _=>⟨o.slots,kk b o hb z⟩) (fun b o _ z n=>by rw [Jh (zB (qj z))];exact n) (fun b o hb z=>⟨o,kk b o hb z⟩)
    (fun b ys z=>up b _ z) (fun b o v z=>up b _ z) (fun b ps z=>⟨#[],by rw [Array.append_empty];exact up b _ z⟩) (fun m hm=>?_) (fun b v z=>?_) I.bare
   ·rcases zU.mp hb with rfl | hb
    ·exact ⟨f3,f1,f4,f5⟩
    ·cases zM.mp hb
     exact ⟨g3,g1,g4,g5⟩
   ·obtain ⟨o,es,ep,ho,r⟩:=hm
    refine ⟨o,es,ep,kk _ o (fun hb=>?_) ho,r⟩;rcases zU.mp hb with q | hb
    ·exact f1 q.symm
    ·exact g1 (zM.mp hb).symm
   ·by_cases q:b=s.heap.objs.size
    ·subst q
     rw [Jd] at z;cases z;exact ⟨Jb (Nat.le_of_ble_eq_true rfl),[.int i s.toks,u],.cons ⟨_,rfl⟩ (.cons ru .nil),_,kt,rfl,_,rfl⟩
    ·rw [Jh q] at z
     refine (I.hok b v z).stay (fun c o hc y=>kk c o ?_ y) (fun c y=>up c _ y) fun c ys y=>up c _ y;rcases hc with rfl | hc
     ·exact nt _ _ z
     ·exact nt _ _ hc
  ·rcases zU.mp hb with rfl | hb
   ·rw [Jh (Ne.symm pe)];exact f0
   ·cases zM.mp hb
    obtain ⟨o,h2',_⟩:=h2;rw [Jh (zB (qj h2'))];exact g0
 done:=by
  intro X hP hw hK hc i pins s σ H E I hf st hg;subst hP hw hK;obtain ⟨xs,hq,hx⟩:=hg;obtain ⟨its,rv,p,hz⟩:=I.tuple hq;obtain ⟨old,h1,h2⟩:=st;obtain ⟨g0,g1,g2,g3,g4,g5⟩:=hf it (by simp);have hl:=rv.length;exact Jao (I.ok.hd hc) h1 h2 p (by simp;omega) fun h' eb=>⟨rfl,I.turned (t':=s.toks) (fun b o hb z=>eb b o hb z) g0 g1 g3 g4 g5⟩
 self:=fun _ _ _ _ _ st h=>by
  obtain ⟨old,h1,h2⟩:=st;exact wpAny_pyIter_enum h1 h
section
variable {X:Cx}
def J99 (K:PySem.W.Frag)(ta:TA):TI:=fun σ H R=>ta σ H fun vs H1=>∃ a,vs=[.ref a]/\(((∃ xs,SqL K H1 a xs)/\R (Ite K a) H1)\/((∃ xs,SqT K H1 a xs)/\R (JeB K a) H1))
theorem pi_enumS {a:Expr}{ta:TA}{p pos tpos:Pos}{elts:List Expr}{x1:Nat}(hg:Gl X "enumerate")(hm:X.mg "enumerate"=none)(ha:PA X [a] ta)(hn:JJ a=true):PI X (.Tuple elts x1 tpos) (.Call (.Name "enumerate" p) [a] [] pos) (J99 X.K ta):=by
 intro pins s σ H R I h;refine Call_ (J1P I hg hm boot_enumerate (PyProof.Rows.callWith_type1 (thn (ha pos pins s σ H _ I h) fun us s1 ⟨vs,H1,I1,r1,q1⟩=>?_) (JN hn) rfl));obtain ⟨l,e,q⟩:=q1;subst e;cases r1 with
 | cons r rr =>
   cases rr;cases (show _=Value.ref l from r);rcases q with ⟨⟨xs,hq⟩,q⟩ | ⟨⟨xs,hq⟩,q⟩
   ·obtain ⟨its,rv,pl,hz⟩:=I1.list hq
    refine call_enumerate_list pl.isList fun h' he st sz k=>?_;refine wpAny_pyIter_enum (s:={ s1 with heap:=h' }) he ?_;refine ⟨s1.heap.objs.size+1,[s1.heap.objs.size+1,s1.heap.objs.size],_,_,H1,rfl,I1.kept (t':=s1.toks) k,turn_enum l _ _ (Nat.succ_ne_self _),⟨_,he,st⟩,fun b hb=>?_,q⟩;rcases zU.mp hb with rfl | hb
    ·exact I1.fpOk (Nat.le_succ _) (I1.hok.fresh (Nat.le_succ _))
    ·cases zM.mp hb
     exact I1.fpOk (zv _) (I1.hok.fresh (zv _))
   ·obtain ⟨its,rv,pl,hz⟩:=I1.tuple hq
    refine J9d pl fun h' he st sz k=>?_;refine wpAny_pyIter_enum (s:={ s1 with heap:=h' }) he ?_;refine ⟨s1.heap.objs.size+1,[s1.heap.objs.size+1,s1.heap.objs.size],_,_,H1,rfl,I1.kept (t':=s1.toks) k,turn_enumT l _ _ (Nat.succ_ne_self _),⟨_,he,st⟩,fun b hb=>?_,q⟩;rcases zU.mp hb with rfl | hb
    ·exact I1.fpOk (Nat.le_succ _) (I1.hok.fresh (Nat.le_succ _))
    ·cases zM.mp hb
     exact I1.fpOk (zv _) (I1.hok.fresh (zv _))
theorem Jd2 {K:PySem.W.Frag}{a:Expr}{ta:TA}{p pos tpos:Pos}{elts:List Expr}{x1:Nat}(e:X.K=K)(hg:Gl X "enumerate")(hm:X.mg "enumerate"=none)(ha:PA X [a] ta)(hn:JJ a=true):PI X (.Tuple elts x1 tpos) (.Call (.Name "enumerate" p) [a] [] pos) (J99 K ta):=by subst e;exact pi_enumS hg hm ha hn
def J9v:V->List V->Hp->VK->Prop:=fun x vs H Q=>∃ d kvs k v,x=.ref d/\vs=[kV k]/\H d=some (.dK kvs)/\JG kvs k=some v/\Q v (upd H d (.dK (J2K kvs k)))
theorem J9A:MtR X "dict.pop" J9v:=by
 intro pins s σ H x vs v us Q I rx rv h;obtain ⟨d,kvs,k,y,rfl,rfl,hH,hy,q⟩:=h;cases rx;obtain ⟨u,rfl,ru⟩:=J0w rv;exact JeW I hH ru hy (.inl rfl) fun w' s' I' rw'=>⟨y,_,I',rw',q⟩
end
theorem ForW.enumT {K:PySem.W.Frag}{a:Addr}{xs:List V}{g:TG}{tb:TS}{D:Ends}{σ:St}{H:Hp}(Pv:Nat->St->Hp->Prop)(h0:Pv 0 σ H)(hl:∀ i σ H,Pv i σ H->SqT K H a xs)
 (hs:∀ (i:Nat) x σ H p,xs[i]?=some x->Pv i σ H->H p=none->g (.ref p) σ (upd H p (.tup [.int i,x])) fun σ2 H2=>tb { D with nx:=Pv (i+1),ct:=Pv (i+1),bk:=D.nx } σ2 H2)
 (hd:∀ σ H,Pv xs.length σ H->D.nx σ H):ForW (JeB K a) g tb D σ H:=by
 refine ⟨fun i m σ H=>Pv i σ H/\i<=xs.length/\m=xs.length - i,⟨_,h0,zF _,rfl⟩,fun i m σ H ⟨h1,h2,h3⟩=>?_⟩;have sq:=hl i σ H h1;by_cases e:i=xs.length
 ·subst e
  exact .inl ⟨⟨xs,sq,zv _⟩,hd σ H h1⟩
 ·have lt:i<xs.length:=Nat.lt_of_le_of_ne h2 e
  refine .inr ⟨⟨xs,xs[i],sq,zJ lt⟩,Pv (i+1),fun σ' H' z=>⟨xs.length - (i+1),by omega,z,lt,rfl⟩,fun x H' hy=>?_⟩;obtain ⟨p,x',hp,rfl,hx,rfl⟩:=hy;exact hs i x' σ H p (hx xs sq) h1 hp
section
variable {X:Cx}
def J3C (K:PySem.W.Frag):V->List V->Hp->VK->Prop:=fun x vs H Q=>∃ l,∃ ns:List Str,∃ z,∃ j:Nat,x=.ref l/\vs=[.str z]/\SqL K H l (ns.map V.str)/\ns[j]?=some z/\(∀ m,m<j->ns[m]?≠some z)/\Q (.int j) H
theorem Jac:MtR X "list.index" (J3C X.K):=by
 intro pins s σ H x vs v us Q I rx rv h;obtain ⟨l,ns,z,j,rfl,rfl,hq,hj,hno,q⟩:=h;cases rx;obtain ⟨u,rfl,ru⟩:=J0w rv;obtain ⟨tz,rfl⟩:=ru;obtain ⟨its,rvs,pl,hz⟩:=I.list hq;obtain ⟨⟨c1,d1,t1,sl1⟩,e1,hc,n1,hd⟩:=pl.isList;cases (show c1=.type "list" from hc);cases (show t1=.seq its.toArray n1 from hd);have hget:∀ (m:Nat) y,its[m]?=some y->∃ w t,ns[m]?=some w/\y=Value.str w t:=fun m y hy=>by
  have hm:m<(ns.map V.str).length:=by rw [rvs.length];exact (zK.mp hy).1
  obtain ⟨u',hu',ru'⟩:=rvs.get (i:=m) (x:=(ns.map V.str)[m]) (zJ hm);rw [hy] at hu';cases hu';rw [getElem_map] at ru';obtain ⟨t,rfl⟩:=ru';exact ⟨_,t,zJ (by simpa using hm),rfl⟩
 have hjl:j<its.length:=by rw [<- rvs.length,zL];exact (zK.mp hj).1
 have hlen:(ns.map V.str).length<=sizeLine:=hz;have hsm:(j:Int)<2 ^ 63 - 1:=by
  have h2:its.length<=sizeLine:=by rw [<- rvs.length];exact hlen
  rw [sizeLine_eq] at h2;omega
 let e:Value->Bool:=fun v=>match v with
  | .str w _=>w == z
  | _=>false
 refine call_meets F.slot_list_index ⟨_,e1,rfl⟩ F.entry_list_index (F.args_list_index_2 _ _) (SeqAt.list_indexAt l its.toArray n1 d1 sl1 (.str z tz) e j (by simpa using hjl) hsm ?_ ?_) ⟨e1,fun y hy=>?_,?_⟩
 ·obtain ⟨w,t,h1,h2⟩:=hget j its[j] (zJ hjl)
  rw [hj] at h1;cases h1;show e its.toArray[j]=true;rw [getElem_toArray,h2];show (z == z)=true;simp
 ·intro m hm hmj
  have hm':m<its.length:=by simpa using hm
  obtain ⟨w,t,h1,h2⟩:=hget m its[m] (zJ hm');show e its.toArray[m]=false;rw [getElem_toArray,h2];show (w == z)=false;rw [beq_eq_false_iff_ne];intro z';exact hno m hmj (by rw [h1,z'])
 ·have hy':y∈its:=by simpa using hy
  obtain ⟨m,hm⟩:=qa.mp hy';obtain ⟨w,t,h1,rfl⟩:=hget m y hm;exact SeqAt.EqAt.str_str _ _ _ _
 ·exact ⟨.int j,H,I.tok _,⟨_,rfl⟩,q⟩
theorem J5g {K:PySem.W.Frag}(e:X.K=K):MtR X "list.index" (J3C K):=by subst e;exact Jac
end
def unl {α:Type}[BEq α](val:Nat->α):Nat->Nat
 | 0=>0
 | i+1=>if ((List.range i).map val).any (· == val i) then unl val i else unl val i+1
theorem J4H {α:Type}[BEq α](val:Nat->α):∀ i,unl val i<=i
 | 0=>zv _
 | i+1=>by
   have:=J4H val i;unfold unl
   split<;>omega
theorem Jbr {α:Type}[DecidableEq α][BEq α][LawfulBEq α](val:Nat->α)(i:Nat)(k:α):((List.range (i+1)).map val).any (· == k)=(((List.range i).map val).any (· == k)||decide (k=val i)):=by
 rw [range_succ,zY,any_append];congr 1;simp only [zV,map_nil,any_cons,any_nil,Bool.or_false];by_cases e:k=val i
 ·rw [e];simp
 ·rw [zy e,beq_eq_false_iff_ne]
  exact fun z=>e z.symm
section
variable {prog:Program}{w:World}{A:Around}{R:Result->Shared->Prop}{I:Addr}{fp wr:List Addr}{G:Array GenState->Array GenState->Prop}{n:Nat}{P:Nat->Value->Prop}{St:Nat->Shared->Prop}
variable {α:Type}[DecidableEq α][BEq α][LawfulBEq α]{knd:PySem.KeyKind prog w α}
theorem J7A (W:WalksS prog w A.in1 I fp wr G n P St){b:Addr}(nb:b∉fp){val:Nat->α}(hv:∀ i v,P i v->knd.is (val i) v=true/\v.scannable=true)(room:n+1<scanBound) :
 ∀ (m i:Nat) (s:Shared),n - i=m->i<=n->St i s->s.heap.SetOf knd b (fun k=>((List.range i).map val).any (· == k)) (unl val i) ->
   (∀ s',Moved (b::wr) G s s'->s'.heap.SetOf knd b (fun k=>((List.range n).map val).any (· == k)) (unl val n)->R (.ok (.ret .none)) s') ->
   codeAny (model prog w) A (.builtin "set.update.loop" ⟨[.ref b,.ref I],[]⟩) R s:=by
 have nw:b∉wr:=fun z=>nb (W.sub _ z);have more:∀ c∈wr,c∈b::wr:=fun c hc=>zS _ hc;have same:∀ {s s':Shared} {S:α->Bool} {k:Nat},s.heap.SetOf knd b S k->Moved wr G s s'->s'.heap.SetOf knd b S k:=fun {s s' S k} h hm=>by
  obtain ⟨o,es,ep,t,ho,r⟩:=h;exact ⟨o,es,ep,t,hm.heap b _ nw ho,r⟩
 intro m
 induction m with
 | zero =>
   intro i s hm hi hst hS hR;obtain rfl:i=n:=by omega
   refine codeAny_builtin PyProof.Rows.F.entry_set_update_loop ?_;rw [qo PyProof.Rows.F.plain_set_update_loop _];show wpAny _ A.in1 (pyNext (.ref I) >>= _) _ _ s;exact zq (W.done s _ _ hst fun s' mv=>zr (hR s' (mv.mono more) (same hS mv)))
 | succ m ih =>
   intro i s hm hi hst hS hR;have lt:i<n:=by omega
   refine codeAny_builtin PyProof.Rows.F.entry_set_update_loop ?_;rw [qo PyProof.Rows.F.plain_set_update_loop _];show wpAny _ A.in1 (pyNext (.ref I) >>= _) _ _ s;refine zq (W.item i s _ _ lt hst fun v s' hP hst' mv=>?_);obtain ⟨hk,hsc⟩:=hv i v hP;show wpAny _ A.in1 (holding [v] (setAdd b v) >>= _) _ _ s';refine zq (wpAny_holding ?_);unfold setAdd;refine wpAny_holding (zq (knd.pyHash (k:=val i) hk ?_));have:=J4H val i;have hS':=same hS mv;refine wpAny_setAddHashed_of (knd:=knd) (s:={ s' with toks:=s'.toks+1 }) hk hsc hS' (by omega) fun h' sb hS2=>?_;have hS3:h'.SetOf knd b (fun k=>((List.range (i+1)).map val).any (· == k)) (unl val (i+1)):=SetOf_congr hS2 (fun k=>(Jbr val i k).symm) rfl;refine zr ⟨plainId_quiet PyProof.Rows.F.plain_set_update_loop _,ih (i+1) _ (by omega) lt (W.frame _ s' _ _ hst' (Nat.le_succ _) fun c hc o e=>?_) hS3 fun s'' mv' hS4=>?_⟩
   ·rw [sb.2 c (fun z:c=b=>nb (by rw [<- z];exact hc))];exact e
   ·refine hR s'' (Moved.trans W.gtrans ((mv.mono more).then_heap (Nat.le_succ _) fun c o hc e=>?_) mv') hS4
    rw [sb.2 c (fun z:c=b=>hc (by rw [z];exact zT))];exact e
end
section
variable {prog:Program}{w:World}{A:Around}{E:Value->Shared->Prop}{s:Shared}
abbrev J0h (led:Bool):Obj:={ cls:=.type "set",dict:=none,data:=.set #[] 0 (.fresh 0 0 led) }
set_option maxHeartbeats 3200000 in
theorem set_call {x:Value}{Q:Value->Shared->Prop}{Z:Heap->Prop}
 (fill:∀ (led:Bool) (E':Value->Shared->Prop) (Q':Unit->Shared->Prop),(∀ h' tk,Z h'->Q' () { s with heap:=h',toks:=tk })->wpAny (model prog w) A.in1.in1 (Builtin.Frozenset.updateFrom "set.__init__" s.heap.objs.size x) Q' E' { s with heap:=s.heap.push (J0h led) })
 (h:∀ (h':Heap) (tk:Nat),Z h'->Q (.ref s.heap.objs.size) { s with heap:=h',toks:=tk }):wpAny (model prog w) A (call (.type "set") [x]) Q E s:=by
 obtain ⟨c,tl,hmro⟩:=PySem.F.called_set.mro;have g1:=PySem.F.called_set.made;have g2:=PySem.F.called_set.sub;have g3:=PySem.F.called_set.notType;have g4:=PySem.F.called_set.canCreate;have g5:=PySem.F.typeCall_set_1 x;refine wpAny_call (codeAny_of_tree ?_);show wpAny _ _ (callAny (.type "set") _) _ _ _;refine zr ⟨Code.quiet_builtin _ (by decide +kernel),codeAny_builtin PySem.F.entry_type_call ?_⟩;rw [Around.under_plain (weight_type_call_type "set" [x] []) rfl]
 repeat (any_goals (first | assumption | wp_step))
 refine codeAny_mono (code_set_new_1 x (E:=E) (Q₁:=fun v s1=>∃ led:Bool,v=.ref s.heap.objs.size/\s1={ s with heap:=s.heap.push (J0h led) }) fun led=>⟨led,rfl,rfl⟩) fun r s1 hr=>?_
 match r,hr with
 | .error e,hr=>exact hr
 | .ok .next,hr=>exact hr.elim
 | .ok .brk,hr=>exact hr.elim
 | .ok .cont,hr=>exact hr.elim
 | .ok (.ret v),hr =>
   obtain ⟨led,rfl,rfl⟩:=hr;have at0:(s.heap.push (J0h led)).get? s.heap.objs.size=some (J0h led):=qi _ rfl;have hT:Shared.TypeIs { s with heap:=s.heap.push (J0h led) } (.ref s.heap.objs.size) "set":=⟨_,at0,rfl⟩;have i1:=PySem.F.called_set.init.lookup;have i2:=PySem.F.called_set.init.bind (.ref s.heap.objs.size)
   repeat (any_goals (first | assumption | wp_step))
   refine codeAny_mono (codeAny_call_builtin (R:=wants (fun r s2=>r=.none/\∃ h' tk,s2={ s with heap:=h',toks:=tk }/\Z h') E) PySem.F.called_set.init.plain PySem.F.entry_set_init (check_set_init_1 hT ?_)) fun r2 s2 hr2=>?_
   ·have at1:({ s with heap:=s.heap.push (J0h led) }:Shared).heap.get? s.heap.objs.size=some (J0h led):=at0
    unfold Builtin.«set.__init__» noKeywords;generalize hU:Builtin.Frozenset.updateFrom=U
    wp_walk
    subst hU;exact fill led _ _ fun h' tk z=>zr ⟨rfl,h',tk,rfl,z⟩
   ·match r2,hr2 with
    | .error e,hr2=>exact hr2
    | .ok .next,hr2=>exact hr2.elim
    | .ok .brk,hr2=>exact hr2.elim
    | .ok .cont,hr2=>exact hr2.elim
    | .ok (.ret v),hr2 =>
      obtain ⟨rfl,h',tk,rfl,z⟩:=hr2
      repeat (any_goals (first | assumption | wp_step))
      exact h _ _ z
variable {α:Type}[DecidableEq α][BEq α][LawfulBEq α]{knd:PySem.KeyKind prog w α}
def J8h (knd:PySem.KeyKind prog w α)(b:Addr)(val:Nat->α)(n:Nat)(h h':Heap):Prop :=
 h'.SetOf knd b (fun k=>((List.range n).map val).any (· == k)) (unl val n)/\∀ c o,c<b->h.get? c=some o->h'.get? c=some o
theorem J9p {l:Addr}{items:Array Value}{val:Nat->α}{Q:Value->Shared->Prop}(hh:A.handled=none)(hl:s.heap.IsList l items)(hv:∀ (i:Nat) v,items[i]?=some v->knd.is (val i) v=true/\v.scannable=true)(room:items.size+1<scanBound)
 (h:∀ (h':Heap) (tk:Nat),J8h knd s.heap.objs.size val items.size s.heap h'->Q (.ref s.heap.objs.size) { s with heap:=h',toks:=tk }):wpAny (model prog w) A (call (.type "set") [.ref l]) Q E s:=by
 refine set_call (Z:=J8h knd s.heap.objs.size val items.size s.heap) (fun led E' Q' q=>?_) h;obtain ⟨ol,hol,hcl,nl,hdl⟩:=id hl;obtain ⟨ocls,odict,odata,oslots⟩:=ol;simp only at hcl hdl;subst hcl;subst hdl;have at1:(s.heap.push (J0h led)).get? l=some { cls:=.type "list",dict:=odict,data:=.seq items nl,slots:=oslots }:=qh _ hol;have k1:=PySem.F.sub_list_set;have k2:=PySem.F.sub_list_frozenset;have k3:(Value.type "list" == Value.type "dict")=false:=by decide
 have hl1:(s.heap.push (J0h led)).IsList l items:=⟨_,at1,rfl,nl,rfl⟩;unfold Builtin.Frozenset.updateFrom;generalize hP:pyIter=PI
 wp_walk
 subst hP;refine wpAny_pyIter_list hl1 ?_;refine zq (wpAny_runValue ?_);have ll:l<s.heap.objs.size:=qj hol;have sz:(s.heap.push (J0h led)).objs.size=s.heap.objs.size+1:=Heap.size_push ..;refine J7A (val:=val) ((Walks.list (by simp [hh]) _ l (by rw [sz];exact zB (Nat.lt_succ_of_lt ll)) items).toS) (b:=s.heap.objs.size) (by rw [sz];simp;exact Nat.ne_of_gt ll) hv room (items.size - 0) 0 _ (by omega) (zF _) ⟨⟨_,qi _ rfl,rfl,rfl⟩,hl1.push _⟩ ?_ ?_
 ·have g:=qh (h:=s.heap.push (J0h led)) { cls:=.type "list_iterator",data:=.fields #[.ref l,.int 0 0] } (qi (o:=J0h led) s.heap rfl)
  exact SetOf_congr ((setObjOf_fresh (knd:=knd) led).setOf g (by unfold scanBound;omega)) (fun _=>rfl) rfl
 ·intro s' mv hS
  obtain ⟨h',g',d',tk',os'⟩:=s';obtain rfl:g'=s.gens:=mv.gens;obtain rfl:d'=s.drawn:=mv.drawn;obtain rfl:os'=s.os:=mv.os;show wpAny _ _ _ _ _ _;refine zr ?_;refine q h' tk' ⟨hS,fun c o hc e=>?_⟩;refine mv.heap c o ?_ (qh _ (qh _ e));rw [sz];simp only [zU,not_mem_nil,or_false,not_or];exact ⟨zB hc,zB (Nat.lt_succ_of_lt hc)⟩
theorem J5r:isSubtype (.type "tuple") (.type "set")=pure false:=by rw [isSubtype_type];kernel_rfl
theorem J2V:isSubtype (.type "tuple") (.type "frozenset")=pure false:=by rw [isSubtype_type];kernel_rfl
theorem J9o {l:Addr}{items:Array Value}{val:Nat->α}{Q:Value->Shared->Prop}(hh:A.handled=none)(hl:s.heap.IsTuple l items)(hv:∀ (i:Nat) v,items[i]?=some v->knd.is (val i) v=true/\v.scannable=true)(room:items.size+1<scanBound)
 (h:∀ (h':Heap) (tk:Nat),J8h knd s.heap.objs.size val items.size s.heap h'->Q (.ref s.heap.objs.size) { s with heap:=h',toks:=tk }):wpAny (model prog w) A (call (.type "set") [.ref l]) Q E s:=by
 refine set_call (Z:=J8h knd s.heap.objs.size val items.size s.heap) (fun led E' Q' q=>?_) h;obtain ⟨ol,hol,hcl,nl,hdl⟩:=id hl;obtain ⟨ocls,odict,odata,oslots⟩:=ol;simp only at hcl hdl;subst hcl;subst hdl;have at1:(s.heap.push (J0h led)).get? l=some { cls:=.type "tuple",dict:=odict,data:=.seq items nl,slots:=oslots }:=qh _ hol;have k1:=J5r;have k2:=J2V;have k3:(Value.type "tuple" == Value.type "dict")=false:=by decide
 have hl1:(s.heap.push (J0h led)).IsTuple l items:=⟨_,at1,rfl,nl,rfl⟩;unfold Builtin.Frozenset.updateFrom;generalize hP:pyIter=PI
 wp_walk
 subst hP;refine wpAny_pyIter_tuple hl1 ?_;refine zq (wpAny_runValue ?_);have ll:l<s.heap.objs.size:=qj hol;have sz:(s.heap.push (J0h led)).objs.size=s.heap.objs.size+1:=Heap.size_push ..;refine J7A (val:=val) ((Walks.tuple (by simp [hh]) _ l (by rw [sz];exact zB (Nat.lt_succ_of_lt ll)) items).toS) (b:=s.heap.objs.size) (by rw [sz];simp;exact Nat.ne_of_gt ll) hv room (items.size - 0) 0 _ (by omega) (zF _) ⟨⟨_,qi _ rfl,rfl,rfl⟩,hl1.at fun o e=>qh _ e⟩ ?_ ?_
 ·have g:=qh (h:=s.heap.push (J0h led)) { cls:=.type "tuple_iterator",data:=.fields #[.ref l,.int 0 0] } (qi (o:=J0h led) s.heap rfl)
  exact SetOf_congr ((setObjOf_fresh (knd:=knd) led).setOf g (by unfold scanBound;omega)) (fun _=>rfl) rfl
 ·intro s' mv hS
  obtain ⟨h',g',d',tk',os'⟩:=s';obtain rfl:g'=s.gens:=mv.gens;obtain rfl:d'=s.drawn:=mv.drawn;obtain rfl:os'=s.os:=mv.os;show wpAny _ _ _ _ _ _;refine zr ?_;refine q h' tk' ⟨hS,fun c o hc e=>?_⟩;refine mv.heap c o ?_ (qh _ (qh _ e));rw [sz];simp only [zU,not_mem_nil,or_false,not_or];exact ⟨zB hc,zB (Nat.lt_succ_of_lt hc)⟩
end
def SzO (b:Addr)(n:Nat):HO:=.ext fun h=>∃ o es ep t,h.get? b=some o/\o.ExactSet/\o.data=.set es ep t/\t.fits es.size=true/\es.size=n
theorem JdF {P:Program}{w:World}{H:Hp}{h:Heap}{a:Addr}{n:Nat}(x:∃ o es ep t,h.get? a=some o/\o.ExactSet/\o.data=.set es ep t/\t.fits es.size=true/\es.size=n):ObjOk P w H h a (SzO a n) :=
 ⟨x,(let ⟨o,_,_,_,e,_⟩:=x;⟨o,e⟩),fun _ _ ⟨o,es,ep,t,e,r⟩ k=>⟨o,es,ep,t,k o e,r⟩⟩
theorem Jc6:bootBuiltins "set"=some (.type "set"):=by decide +kernel
section
variable {X:Cx}
def J9r (K:PySem.W.Frag):List V->Hp->VK->Prop:=fun xs H Q=>∃ a,∃ zs:List Str,xs=[.ref a]/\(SqL K H a (zs.map V.str)\/SqT K H a (zs.map V.str))/\zs.length<=1000/\∀ p,H p=none->Q (.ref p) (upd H p (SzO p (unl (fun i=>zs.getD i Str.empty) zs.length)))
def Jb1 (K:PySem.W.Frag):List V->Hp->VK->Prop:=fun xs H Q=>∃ a,∃ zs:List Int,xs=[.ref a]/\(SqL K H a (zs.map V.int)\/SqT K H a (zs.map V.int))/\zs.length<=1000/\∀ p,H p=none->Q (.ref p) (upd H p (SzO p (unl (fun i=>zs.getD i 0) zs.length)))
theorem JaN {zs:List Str}{its:List Value}(r:Vals (zs.map V.str) its)(P:Program)(w:World):∀ (i:Nat) v,its.toArray[i]?=some v->(strKind P w).is (zs.getD i Str.empty) v=true/\v.scannable=true:=fun i v hv=>by
 have hv':its[i]?=some v:=by simpa using hv
 have hm:i<zs.length:=by
  have:=r.length;rw [zL] at this;rw [this];exact (zK.mp hv').1
 obtain ⟨u,hu,ru⟩:=r.get (i:=i) (x:=V.str zs[i]) (by rw [zW,zJ hm];rfl);rw [hv'] at hu;cases hu;obtain ⟨t,rfl⟩:=ru;rw [zO,zJ hm];exact ⟨strKind_is _ _ _ _,rfl⟩
theorem JbC {zs:List Int}{its:List Value}(r:Vals (zs.map V.int) its)(P:Program)(w:World):∀ (i:Nat) v,its.toArray[i]?=some v->(intKind P w).is (zs.getD i 0) v=true/\v.scannable=true:=fun i v hv=>by
 have hv':its[i]?=some v:=by simpa using hv
 have hm:i<zs.length:=by
  have:=r.length;rw [zL] at this;rw [this];exact (zK.mp hv').1
 obtain ⟨u,hu,ru⟩:=r.get (i:=i) (x:=V.int zs[i]) (by rw [zW,zJ hm];rfl);rw [hv'] at hu;cases hu;obtain ⟨t,rfl⟩:=ru;rw [zO,zJ hm];exact ⟨intKind_is _ _ _ _,rfl⟩
theorem J3w {α:Type}[DecidableEq α][BEq α][LawfulBEq α]{knd:PySem.KeyKind X.prog X.w α}{val:Nat->α}{m:Nat}{pins:List (Addr×Obj)}{s:Shared}{σ:St}{H:Hp}{Q:VK}(I:Inv X pins σ H s)(q:∀ p,H p=none->Q (.ref p) (upd H p (SzO p (unl val m)))) :
 ∀ (h':Heap) (tk:Nat),J8h knd s.heap.objs.size val m s.heap h'->EP X pins σ Q (.ref s.heap.objs.size) { s with heap:=h',toks:=tk }:=fun h' tk ⟨⟨o,es,ep,t,ho,hex,hd,_,_,_,hf,hn⟩,kp⟩ =>
 ⟨.ref s.heap.objs.size,_,I.laid (t':=tk) (fun b u e=>kp b u (qj e) e) (zv _) (JdF ⟨o,es,ep,t,ho,hex,hd,hf,hn⟩),rfl,q _ (I.hok.fresh (zv _))⟩
theorem Jav (hc:X.calm=true):J03 X (.type "set") (J9r X.K):=by
 intro pins s σ H xs us Q I r h;obtain ⟨p,zs,rfl,hq,hz,q⟩:=h;obtain ⟨u,rfl,rx⟩:=J0w r;cases rx;rcases hq with hq | hq
 ·obtain ⟨its,r',pl,_⟩:=I.list hq
  have hl:=r'.length;rw [zL] at hl;have hsz:its.toArray.size=zs.length:=by rw [zN,<- hl]
  refine J9p (knd:=strKind X.prog X.w) (I.ok.hd hc) pl.isList (JaN r' _ _) (by rw [hsz];unfold scanBound;omega) ?_;rw [hsz];exact J3w I q
 ·obtain ⟨its,r',pl,_⟩:=I.tuple hq
  have hl:=r'.length;rw [zL] at hl;have hsz:its.toArray.size=zs.length:=by rw [zN,<- hl]
  refine J9o (knd:=strKind X.prog X.w) (I.ok.hd hc) pl (JaN r' _ _) (by rw [hsz];unfold scanBound;omega) ?_;rw [hsz];exact J3w I q
theorem Jaw (hc:X.calm=true):J03 X (.type "set") (Jb1 X.K):=by
 intro pins s σ H xs us Q I r h;obtain ⟨p,zs,rfl,hq,hz,q⟩:=h;obtain ⟨u,rfl,rx⟩:=J0w r;cases rx;rcases hq with hq | hq
 ·obtain ⟨its,r',pl,_⟩:=I.list hq
  have hl:=r'.length;rw [zL] at hl;have hsz:its.toArray.size=zs.length:=by rw [zN,<- hl]
  refine J9p (knd:=intKind X.prog X.w) (I.ok.hd hc) pl.isList (JbC r' _ _) (by rw [hsz];unfold scanBound;omega) ?_;rw [hsz];exact J3w I q
 ·obtain ⟨its,r',pl,_⟩:=I.tuple hq
  have hl:=r'.length;rw [zL] at hl;have hsz:its.toArray.size=zs.length:=by rw [zN,<- hl]
  refine J9o (knd:=intKind X.prog X.w) (I.ok.hd hc) pl (JbC r' _ _) (by rw [hsz];unfold scanBound;omega) ?_;rw [hsz];exact J3w I q
def J9t:List V->Hp->VK->Prop:=fun xs H Q=>∃ a n,xs=[.ref a]/\H a=some (SzO a n)/\n<=1000/\Q (.int n) H
theorem J4h:J03 X (.builtin "len") J9t:=by
 intro pins s σ H xs us Q I r h;obtain ⟨a,n,rfl,ha,hn,q⟩:=h;obtain ⟨u,rfl,rx⟩:=J0w r;cases rx;obtain ⟨⟨o,es,ep,t,e,hex,hd,hf,hs⟩,_⟩:=(show ObjOk X.prog X.w H s.heap a (SzO a n) from I.hok a _ ha);refine call_len_set e hex hd hf (by rw [hs];omega) ?_;rw [hs];exact ⟨.int n,H,I.tok _,⟨_,rfl⟩,q⟩
theorem Jbx {K:PySem.W.Frag}(e:X.K=K)(hc:X.calm=true):J03 X (.type "set") (J9r K):=by subst e;exact Jav hc
theorem Jeg {K:PySem.W.Frag}(e:X.K=K)(hc:X.calm=true):J03 X (.type "set") (Jb1 K):=by subst e;exact Jaw hc
end
section
variable {X:Cx}
def Jdt (K:PySem.W.Frag):R2:=fun x y H Q=>∃ a b xs ys,x=.ref a/\y=.ref b/\SqT K H a xs/\SqT K H b ys/\xs.length+ys.length<=sizeLine /\
 (xs=[]->Q (.ref b) H)/\(xs≠[]->ys=[]->Q (.ref a) H)/\(xs≠[]->ys≠[]->∀ p,H p=none->Q (.ref p) (upd H p (.tup (xs++ys))))
theorem JcR:OpR X (binaryOp .Add) (Jdt X.K):=by
 intro pins s σ H x y v u Q I rx ry h;obtain ⟨a,b,xs,ys,rfl,rfl,ha,hb,hz,q0,q1,q2⟩:=h;by_cases hx:xs=[]
 ·cases rx
  cases ry;obtain ⟨its,r1,p1,_⟩:=I.tuple ha;obtain ⟨its2,r2,p2,_⟩:=I.tuple hb;have e1:its=[]:=r1.nil_iff.mpr hx;obtain ⟨⟨cls,dd,data,sl⟩,ho,hc,n,hd⟩:=id p1;obtain ⟨⟨cls2,dd2,data2,sl2⟩,ho2,hc2,n2,hd2⟩:=id p2;simp only at hc hd hc2 hd2;subst hc hd hc2 hd2;exact concat_meets ⟨_,ho,rfl⟩ ⟨_,ho2,rfl⟩ noFill_tuple_add seq_tuple_add PySem.F.slot_tuple_add PySem.F.entry_tuple_add (PySem.F.args_tuple_add_2 _ _)
   (tuple_addW0 a b its.toArray its2.toArray n n2 dd dd2 sl sl2 (by simp [e1])) ⟨ho,ho2,⟨.ref b,H,I,rfl,q0 hx⟩⟩
 ·exact JcQ pins s σ H _ _ v u Q I rx ry ⟨a,b,xs,ys,rfl,rfl,ha,hb,hx,hz,q1 hx,q2 hx⟩
theorem Jbz {K:PySem.W.Frag}(e:X.K=K):OpR X (binaryOp .Add) (Jdt K):=by subst e;exact JcR
end
section
variable {X:Cx}
def Jfm:TS:=fun _ _ _=>False
end
theorem J6Y:typeLookup (.type "list") "keys"=pure none:=by rw [typeLookup_type,builtinLookup_eq_fast];kernel_rfl
theorem J2o:entryFor table "dict.update.loop"=some Builtin.«dict.update.loop»:=entryFor_of_tree (by kernel_rfl)
theorem J0L:plainId "dict.update.loop"=true:=by decide +kernel
section
variable {prog:Program}{w:World}{A:Around}{E:Value->Shared->Prop}{s:Shared}
theorem J5e {a:Addr}{xs:Array Value}{k:Nat}{sl:Array (Option Value)}{Q:Option Value->Shared->Prop}(hx:s.heap.get? a=some { cls:=.type "list",dict:=none,data:=.seq xs k,slots:=sl })(hA:A.handled=none)
 (h:∀ h' tk,(∀ b ob,s.heap.get? b=some ob->h'.get? b=some ob)->Q none { s with heap:=h',toks:=tk }):wpAny (model prog w) A (getAttr? (.ref a) "keys") Q E s:=by
 obtain ⟨hp,g,d,tk,os⟩:=s;have hT:∀ tk',(⟨hp,g,d,tk',os⟩:Shared).TypeIs (.ref a) "list":=fun _=>⟨_,hx,rfl⟩;have f1:=sub_AttributeError;have f3:=F.slot_list_getattribute.lookup;have f4:=F.slot_list_getattribute.bind (.ref a);have f5:=am_list_getattr_none;unfold getAttr? getAttrBy? getAttrBy
 repeat (any_goals (first | assumption | exact hT _ | ((with_reducible show wpAny _ _ (call (Value.builtin "list.__getattribute__") _ _) _ _ _);refine call_meets F.slot_list_getattribute (hT _) am_entry_list_getattribute (F.args_list_getattribute_2 _ _) (meets_getattribute_miss_list a xs k sl "keys" _ J6Y (by decide)) ⟨hx,hA,fun h' tk' e hx'=>?_⟩) | wp_step))
 obtain ⟨t',u',he⟩:=hx'.there;show wpAny _ _ (getattributeRaised _ _ _ _ _ _ _) _ _ _;unfold getattributeRaised
 repeat (any_goals (first | assumption | wp_step))
 have hTe:∀ tk',(⟨h',g,d,tk',os⟩:Shared).TypeIs (.ref e) "AttributeError":=fun _=>⟨_,he,rfl⟩
 repeat (any_goals (first | assumption | exact hTe _ | wp_step))
 exact h _ _ hx'.keeps
end
section
variable {prog:Program}{w:World}{A:Around}{R:Result->Shared->Prop}{I:Addr}{fp wr:List Addr}{G:Array GenState->Array GenState->Prop}{n:Nat}{P:Nat->Value->Prop}{St:Nat->Shared->Prop}
variable {α:Type}[DecidableEq α]{knd:PySem.KeyKind prog w α}
theorem Jap (W:WalksS prog w A.in1 I fp wr G n P St){b:Addr}(nb:b∉fp){kvs:List (α×Value)}(hn:kvs.length=n)(room:n<=sizeLine) :
 ∀ (m i:Nat) (j:Int) (s:Shared),n - i=m->i<=n->St i s->(∀ (l:Nat) v,P l v->∃ q o kx t k vx,v=.ref q/\q∉b::wr/\s.heap.get? q=some o/\o.cls=.type "tuple"/\o.data=.seq #[kx,vx] t/\kvs[l]?=some (k,vx)/\knd.is k kx=true)->s.heap.DictOf knd b (merged [] (kvs.take i)) ->
   (∀ s',Moved (b::wr) G s s'->s'.heap.DictOf knd b (merged [] kvs)->R (.ok (.ret .none)) s') ->
   codeAny (model prog w) A (.builtin "dict.update.loop" ⟨[.ref b,.ref I,rawInt j,.none],[]⟩) R s:=by
 have nw:b∉wr:=fun z=>nb (W.sub _ z);have more:∀ c∈wr,c∈b::wr:=fun c hc=>zS _ hc;have same:∀ {s s':Shared} {ys:List (α×Value)},s.heap.DictOf knd b ys->Moved wr G s s'->s'.heap.DictOf knd b ys:=fun {s s' ys} h hm=>by
  obtain ⟨o,es,ep,ho,r⟩:=h;exact ⟨o,es,ep,hm.heap b _ nw ho,r⟩
 intro m
 induction m with
 | zero =>
   intro i j s hm hi hst hT hS hR;obtain rfl:i=n:=by omega
   rw [<- hn,zX] at hS;refine codeAny_builtin J2o ?_;rw [qo J0L _];show wpAny _ A.in1 (pyNext (.ref I) >>= _) _ _ s;exact zq (W.done s _ _ hst fun s' mv=>zq (zr (zr (hR s' (mv.mono more) (same hS mv)))))
 | succ m ih =>
   intro i j s hm hi hst hT hS hR;have lt:i<n:=by omega
   refine codeAny_builtin J2o ?_;rw [qo J0L _];show wpAny _ A.in1 (pyNext (.ref I) >>= _) _ _ s;refine zq (W.item i s _ _ lt hst fun v s' hP hst' mv=>?_);obtain ⟨q,o,kx,t,k,vx,rfl,hq,ho,hc,hd,hkv,hk⟩:=hT i v hP;have hq1:q∉wr:=fun z=>hq (zS _ z);have ho':=mv.heap q o hq1 ho;have hS':=same hS mv;have hll:(merged [] (kvs.take i)).length<=sizeLine:=by
    have e1:=merged_length_le [] (kvs.take i);have e2:(kvs.take i).length<=kvs.length:=by rw [zR];omega
    simp only [length_nil,Nat.zero_add] at e1;omega
   refine zq (wpAny_holding (zq ?_));refine wpAny_tryCatch ?_;unfold Builtin.Dict.pairItems;refine zq (wpAny_typeOf (T:="tuple") ⟨_,ho',hc⟩ ?_);rw [zu (by decide)];refine zq (wpAny_seqItems ho' hd (zr ?_));show wpAny _ _ (holding [kx,vx] (dictSet b kx vx)) _ _ _;refine wpAny_holding (wpAny_dictSet_pairs (hsz:=hll) hk hS' fun h' hS2 sb=>?_);rw [<- merged_take_succ [] kvs i (k,vx) hkv] at hS2;refine zr ⟨plainId_quiet J0L _,ih (i+1) _ _ (by omega) lt (W.frame _ s' _ _ hst' (Nat.le_succ _) fun c hc o e=>?_) (fun l v hl=>?_) hS2 fun s'' mv' hS4=>?_⟩
   ·rw [sb.2 c (fun z:c=b=>nb (by rw [<- z];exact hc))];exact e
   ·obtain ⟨q,o,kx,t,k,vx,e1,hq,ho,r⟩:=hT l v hl
    refine ⟨q,o,kx,t,k,vx,e1,hq,?_,r⟩;show h'.get? q=some o;rw [sb.2 q (fun z:q=b=>hq (by rw [z];exact zT))];exact mv.heap q o (fun z=>hq (zS _ z)) ho
   ·refine hR s'' (Moved.trans W.gtrans ((mv.mono more).then_heap (Nat.le_succ _) fun c o hc e=>?_) mv') hS4
    rw [sb.2 c (fun z:c=b=>hc (by rw [z];exact zT))];exact e
end
section
variable {prog:Program}{w:World}{A:Around}{E:Value->Shared->Prop}{s:Shared}{α:Type}[DecidableEq α]{knd:PySem.KeyKind prog w α}
theorem JbR {l:Addr}{items:Array Value}{n0:Nat}{sl:Array (Option Value)}{kvs:List (α×Value)}{Q:Value->Shared->Prop}(hh:A.handled=none)(hl:s.heap.get? l=some { cls:=.type "list",dict:=none,data:=.seq items n0,slots:=sl })(hn:kvs.length=items.size)(room:items.size<=sizeLine)
 (hT:∀ (i:Nat) v,items[i]?=some v->∃ q o kx t k vx,v=.ref q/\s.heap.get? q=some o/\o.cls=.type "tuple"/\o.data=.seq #[kx,vx] t/\kvs[i]?=some (k,vx)/\knd.is k kx=true)
 (h:∀ h' tk,h'.DictOf knd s.heap.objs.size (merged [] kvs)->(∀ c o,s.heap.get? c=some o->h'.get? c=some o)->Q (.ref s.heap.objs.size) { s with heap:=h',toks:=tk }):wpAny (model prog w) A (call (.type "dict") [.ref l]) Q E s:=by
 refine callType_codes (Q₁:=fun obj s₁=>obj=.ref s.heap.objs.size/\s₁={ s with heap:=s.heap.push { cls:=.type "dict",data:=.dict #[] } }) F.kt_called_dict (F.kt_typeCall_dict_1 _) F.entry_dict_init (kt_code_dict_new _ ⟨rfl,rfl⟩) ?_;rintro obj s₁ ⟨rfl,rfl⟩;have hnew:(s.heap.push { cls:=.type "dict",data:=.dict #[] }).DictOf knd s.heap.objs.size []:=Heap.DictOf.new s.heap;refine ⟨hnew.typeIs,F.args_dict_init_2 _ _,?_⟩;unfold Builtin.«dict.__init__»;refine zq ?_;unfold Builtin.Dict.selfAndRest;refine zq (wpAny_notOrdered_dict hnew.typeIs ?_);show wpAny _ _ (pure (s.heap.objs.size,[Value.ref l])) _ _ _;refine zr ?_;show wpAny _ _ (Builtin.Dict.updateFrom "dict.__init__" s.heap.objs.size (.ref l) [] .none) _ _ _;unfold Builtin.Dict.updateFrom;have at1:(s.heap.push { cls:=.type "dict",data:=.dict #[] }).get? l=some { cls:=.type "list",dict:=none,data:=.seq items n0,slots:=sl }:=qh _ hl;refine zq (wpAny_typeOf (T:="list") ⟨_,at1,rfl⟩ ?_);rw [zu (by decide)];refine zq (J5e at1 (by simp [hh]) fun h1 tk keep1=>?_);rw [zu (show Option.isNone (none:Option Value)=true from rfl)];refine zq (wpAny_rule ?_);have at2:=keep1 _ _ at1;have hl2:h1.IsList l items:=⟨_,at2,rfl,n0,rfl⟩;refine zq (wpAny_pyIter_list (s:={ s with heap:=h1,toks:=tk }) hl2 (zr ⟨plainId_quiet J0L _,?_⟩));have hd2:h1.DictOf knd s.heap.objs.size []:=by
  obtain ⟨o,es,ep,ho,r⟩:=hnew;exact ⟨o,es,ep,keep1 _ _ ho,r⟩
 have hlt:s.heap.objs.size<h1.objs.size:=by
  obtain ⟨o,es,ep,ho,r⟩:=hd2;exact qj ho
 have ll:l<s.heap.objs.size:=qj hl;refine Jap (knd:=knd) (kvs:=kvs) ((Walks.list (by simp [hh]) h1.objs.size l (zB (Nat.lt_trans ll hlt)) items).toS) (b:=s.heap.objs.size) (by simp only [zU,not_mem_nil,or_false,not_or];exact ⟨zB hlt,Nat.ne_of_gt ll⟩) hn room (items.size - 0) 0 0 _ (by omega) (zF _) ⟨⟨_,qi _ rfl,rfl,rfl⟩,hl2.push _⟩ (fun i v hv=>?_) ?_ ?_
 ·obtain ⟨q,o,kx,t,k,vx,rfl,ho,r⟩:=hT i v hv
  have lq:q<s.heap.objs.size:=qj ho;refine ⟨q,o,kx,t,k,vx,rfl,?_,qh _ (keep1 _ _ (qh _ ho)),r⟩;simp only [zU,not_mem_nil,or_false,not_or];exact ⟨zB lq,zB (Nat.lt_trans lq hlt)⟩
 ·exact hd2.push _
 ·intro s' mv hS
  obtain ⟨h',g',d',tk',os'⟩:=s';obtain rfl:g'=s.gens:=mv.gens;obtain rfl:d'=s.drawn:=mv.drawn;obtain rfl:os'=s.os:=mv.os;refine ⟨rfl,h h' tk' hS fun c o e=>?_⟩;have lc:c<s.heap.objs.size:=qj e;refine mv.heap c o ?_ (qh _ (keep1 _ _ (qh _ e)));simp only [zU,not_mem_nil,or_false,not_or];exact ⟨zB lc,zB (Nat.lt_trans lc hlt)⟩
end
section
variable {X:Cx}
def Jb4 (K:PySem.W.Frag):List V->Hp->VK->Prop:=fun xs H Q=>∃ a,∃ (rs:List V) (kvs:List (Key×V)),xs=[.ref a]/\SqL K H a rs/\kvs.length=rs.length/\(∀ (i:Nat) r kv,rs[i]?=some r->kvs[i]?=some kv->∃ q,r=.ref q/\SqT K H q [kV kv.1,kv.2])/\∀ p,H p=none->Q (.ref p) (upd H p (.dK (J0a [] kvs)))
theorem pairs_of {pins:List (Addr×Obj)}{s:Shared}{σ:St}{H:Hp}(I:Inv X pins σ H s):∀ {rs:List V} {its:List Value} {kvs:List (Key×V)},Vals rs its->kvs.length=rs.length->(∀ (i:Nat) r kv,rs[i]?=some r->kvs[i]?=some kv->∃ q,r=.ref q/\SqT X.K H q [kV kv.1,kv.2]) ->
 ∃ vs:List (Key×Value),KV kvs vs/\∀ (i:Nat) v,its[i]?=some v->∃ q o kx t k vx,v=.ref q/\s.heap.get? q=some o/\o.cls=.type "tuple"/\o.data=.seq #[kx,vx] t/\vs[i]?=some (k,vx)/\(J01 X.prog X.w).is k kx=true
 | [],_,[],r,_,_=>by cases r;exact ⟨[],.nil,fun i v h=>by simp at h⟩
 | [],_,_::_,_,h,_=>by simp at h
 | _::_,_,[],_,h,_=>by simp at h
 | a :: rs,_,kv::kvs,r,hl,hT=>by
   cases r with
   | @cons _ u _ us ra rr =>
     obtain ⟨vs,k1,k2⟩:=pairs_of I rr (by simpa using hl) (fun i x kv' h1 h2=>hT (i+1) x kv' (by simpa using h1) (by simpa using h2));obtain ⟨q,rfl,hq⟩:=hT 0 a kv rfl rfl;cases (show u=Value.ref q from ra);obtain ⟨its2,r2,⟨o,ho,hc,t,hd⟩,_⟩:=I.tuple hq;obtain ⟨kx,vx,rfl,rk,rv⟩:=JaE r2;refine ⟨(kv.1,vx)::vs,.cons ⟨rfl,rv⟩ k1,fun i v hv=>?_⟩;cases i with
     | zero =>
       obtain rfl:Value.ref q=v:=by simpa using hv
       exact ⟨q,o,kx,t,kv.1,vx,rfl,ho,hc,hd,rfl,J4e rk⟩
     | succ i =>
       obtain ⟨q',o',kx',t',k',vx',e1,e2,e3,e4,e5,e6⟩:=k2 i v (by simpa using hv);exact ⟨q',o',kx',t',k',vx',e1,e2,e3,e4,by simpa using e5,e6⟩
theorem J9f (hc:X.calm=true):J03 X (.type "dict") (Jb4 X.K):=by
 intro pins s σ H xs us Q I r h;obtain ⟨p,rs,kvs,rfl,hq,hlen,hT,q⟩:=h;obtain ⟨u,rfl,rx⟩:=J0w r;cases rx;obtain ⟨its,r',⟨o,n,ho,h1,h2,h3⟩,hz⟩:=I.list hq;obtain ⟨cls,dct,dat,sl⟩:=o;simp only at h1 h2 h3;obtain ⟨vs,k1,k2⟩:=pairs_of I r' hlen hT;have hl:=r'.length;have hv:=k1.length;subst h1 h2 h3;refine JbR (knd:=J01 X.prog X.w) (kvs:=vs) (I.ok.hd hc) ho (by rw [zN];omega) (by rw [zN];omega) (fun i v hv'=>k2 i v (by simpa using hv')) fun h' tk dd keep=>?_;have hz2:(J0a [] kvs).length<=sizeLine:=by
  have h1:=J1O kvs [];rw [length_nil] at h1;omega
 exact ⟨.ref s.heap.objs.size,_,I.laid (a:=s.heap.objs.size) (o:=.dK (J0a [] kvs)) (t':=tk) (fun b u e=>keep b u e) (zv _) (J76 hz2 (beq_eq_false_iff_ne.mpr (Ne.symm (zB I.big))) (k1.merge .nil) dd),rfl,q _ (I.hok.fresh (zv _))⟩
theorem Jd3 {K:PySem.W.Frag}(e:X.K=K)(hc:X.calm=true):J03 X (.type "dict") (Jb4 K):=by subst e;exact J9f hc
theorem J3G:∀ (acc more:List (Key×V)),((acc++more).map (·.1)).Nodup->J0a acc more=acc++more
 | acc,[],_=>by simp [J0a]
 | acc,kv::rest,hn=>by
   have hfresh:¬ (acc.any fun x=>decide (x.1=kv.1))=true:=by
    rw [any_eq_true];rintro ⟨x,hx,he⟩;rw [zY,zV,nodup_append] at hn;exact hn.2.2 x.1 (qb.mpr ⟨x,hx,rfl⟩) kv.1 zT (of_decide_eq_true he)
   have e:J0a acc (kv::rest)=J0a (acc++[kv]) rest:=by
    show J0a (J0k acc kv.1 kv.2) rest=_;rw [J0k,zt hfresh]
   rw [e,J3G (acc++[kv]) rest (by simpa using hn)];simp
theorem J91 {more:List (Key×V)}(hn:(more.map (·.1)).Nodup):J0a [] more=more:=by
 simpa using J3G [] more (by simpa using hn)
end
end L2
namespace L2
open PySem PySem.Spec PyProof.Rows HT
section
variable {prog:Program}{w:World}{A:Around}{E:Value->Shared->Prop}{s:Shared}
theorem J2W {t sl:Addr}{items:Array Value}{vl vu:Value}{lo hi:Option Int}{Q:Value->Shared->Prop}(ht:IsTup s.heap t items)(hs:s.heap.IsSliceOf sl vl vu .none)(pl:IsPart vl lo)(pu:IsPart vu hi)
 (hw:sIx items.size 0 lo=0/\sIx items.size items.size hi=items.size) (h:Q (.ref t) s):wpAny (model prog w) A (getItem (.ref t) (.ref sl)) Q E s:=by
 obtain ⟨os,hos,hcs,hds⟩:=id hs;have hTs:s.TypeIs (.ref sl) "slice":=⟨os,hos,hcs⟩;unfold getItem
 try with_reducible refine wpAny_holding ?_
 first | refine zq (zr ?_) | skip
 refine zq (wpAny_sequenceKey ht.typeIs (by decide) ?_);refine zq (wpAny_callSpecial?_slot (name:=Str.ofString "__getitem__") ht.typeIs PyProof.Rows.slot_tuple_getitem
  (wpAny_call_entry PyProof.Rows.slot_tuple_getitem ht.typeIs entry_tuple_getitem ?_ (args_tuple_getitem _ _)))
 show wpAny _ _ (Builtin.Tuple.tupleItemsOf (.ref t) >>= _) _ _ s;refine zq (tupleItemsOf_ ht ?_);refine zq (wpAny_typeOf hTs ?_);rw [zu (by decide)];refine zq (J1U hs pl pu ?_);show wpAny _ _ (if (((sIx items.size 0 lo:Nat):Int) == 0&&(1:Int) == 1&&(sIx items.size items.size hi - sIx items.size 0 lo) == items.size)=true then _ else _) _ _ s;rw [zu (by rw [hw.1,hw.2];simp)];refine zq ?_;unfold Builtin.Tuple.tupleIsExact;refine zq (wpAny_typeOf ht.typeIs (zr ?_));rw [zu (by decide)];exact zq (wpAny_rule (zr ⟨_,rfl,zr h⟩))
end
section
variable {X:Cx}
def JaZ (K:PySem.W.Frag):V->Option Int->Option Int->Hp->VK->Prop:=fun x lo hi H Q=>∃ a xs,x=.ref a/\SqT K H a xs /\
 ((HT.sIx xs.length 0 lo=0/\HT.sIx xs.length xs.length hi=xs.length)->Q (.ref a) H)/\(¬ (HT.sIx xs.length 0 lo=0/\HT.sIx xs.length xs.length hi=xs.length)->∀ p,H p=none->Q (.ref p) (upd H p (.tup (J1z xs lo hi))))
theorem Jct:SlR X (JaZ X.K):=by
 intro pins s σ H x v vl vu lo hi sl Q I rx hs pl pu h;obtain ⟨a,xs,rfl,hx,q1,q2⟩:=h;by_cases hw:HT.sIx xs.length 0 lo=0/\HT.sIx xs.length xs.length hi=xs.length
 ·cases rx
  obtain ⟨its,r,ht,hz⟩:=I.tuple hx;have hlen:its.toArray.size=xs.length:=by rw [zN];exact r.length.symm
  exact ⟨"tuple",_,PyProof.Rows.slot_tuple_getitem.lookup,ht.typeIs,J2W ht hs pl pu (by rw [hlen];exact hw) ⟨.ref a,H,I,rfl,q1 hw⟩⟩
 ·exact JdH pins s σ H _ v vl vu lo hi sl Q I rx hs pl pu ⟨a,xs,rfl,hx,hw,q2 hw⟩
theorem J45 {K:PySem.W.Frag}(e:X.K=K):SlR X (JaZ K):=by subst e;exact Jct
end
end L2
namespace L2
open PySem PySem.Spec PyProof.Rows
theorem Je2 (a v:Value):argsOk "max" ⟨[a],[(Str.ofString "default",v)]⟩:=by unfold argsOk;kernel_rfl
theorem J6V:(toString "max"++toString ".loop":String)="max.loop":=by decide
section
variable {prog:Program}{w:World}{A:Around}{R:Result->Shared->Prop}{I:Addr}{fp wr:List Addr}{n:Nat}{P:Nat->Value->Prop}{St:Nat->Heap->Prop}
theorem J8Z (W:Walks prog w A.in1 I fp wr n P St){bt:Nat->Nat->Bool}(cmp:CmpOf prog w A.in1 .Gt P bt){B:Addr}(nf:B∉fp){d:Value} :
 ∀ (m i:Nat) (z:Shared) (cur:Value) (cc:Nat),n=i+1+m->St (i+1) z.heap->P (argBest bt i) cur->z.heap.get? B=some { cls:=.type "list",dict:=none,data:=.seq #[cur,cur] cc,slots:=#[] } ->
   (∀ v h2 t2,P (argBest bt (n - 1)) v->(∀ b o,b∉wr->b≠B->z.heap.get? b=some o->h2.get? b=some o)->R (.ok (.ret v)) { z with heap:=h2,toks:=t2 }) ->
   codeAny (model prog w) A (.builtin "max.loop" ⟨[.ref I,.none,.ref B],[(Str.ofString "default",d)]⟩) R z
 | 0,i,z,cur,cc,hm,st,pc,hB,fin=>by
   have nw:B∉wr:=fun q=>nf (W.sub _ q);refine codeAny_builtin F.entry_max_loop ?_;rw [qo F.plain_max_loop _];show wpAny _ A.in1 (seqItems? (.ref B) >>= _) _ _ z;refine zq (wpAny_seqItems hB rfl ?_);show wpAny _ A.in1 (tryCatch (pyNext (.ref I)) _ >>= _) _ _ z;refine zq (wpAny_tryCatch (W.done z _ _ (by rw [hm];exact st) fun h2 t2 kp=>?_));show wpAny _ A.in1 (updateSeq B (fun _=>#[]) >>= _) _ _ _;refine zq (wpAny_updateSeq (kp B _ nw hB) rfl (zq (wpAny_letGo (zr (fin cur _ t2 ?_ fun b o hb hn e=>(qk _ _ (Ne.symm hn)).trans (kp b o hb e))))));rw [show n - 1=i by omega];exact pc
 | m + 1,i,z,cur,cc,hm,st,pc,hB,fin=>by
   have nw:B∉wr:=fun q=>nf (W.sub _ q);refine codeAny_builtin F.entry_max_loop ?_;rw [qo F.plain_max_loop _];show wpAny _ A.in1 (seqItems? (.ref B) >>= _) _ _ z;refine zq (wpAny_seqItems hB rfl ?_);show wpAny _ A.in1 (tryCatch (pyNext (.ref I)) _ >>= _) _ _ z;refine zq (wpAny_tryCatch (W.item (i+1) z _ _ (by omega) st fun v h2 t2 pv st2 kp=>?_));have hB2:=kp B _ nw hB;show wpAny _ A.in1 (tryCatch (holding [v,v] (richCompare .Gt v cur >>= _)) _ >>= _) _ _ _;refine zq (wpAny_tryCatch (wpAny_holding (zq (cmp (i+1) (argBest bt i) v cur _ _ _ pv pc (zq (wpAny_holding (wpAny_truthy_bool (zq (wpAny_letGo (zr ?_))))))))));by_cases c:bt (i+1) (argBest bt i)=true
   ·have e:argBest bt (i+1)=i+1:=by unfold argBest;rw [zu c]
    rw [zu c];refine zq (wpAny_updateSeq hB2 rfl (zq (wpAny_letGo ?_)));rw [J6V];refine zr ⟨plainId_quiet F.plain_max_loop _,J8Z W cmp nf m (i+1) _ v _ (by omega) (W.frame _ _ _ st2 fun b hb o q=>?_) (by rw [e];exact pv) (Heap.get?_update_self _ hB2 rfl) fun v' h3 t3 pv' kp'=>fin v' h3 t3 pv' fun b o hb hn q=>kp' b o hb hn ((qk _ _ (Ne.symm hn)).trans (kp b o hb q))⟩;exact (qk _ _ fun q:B=b=>nf (by rw [q];exact hb)).trans q
   ·have e:argBest bt (i+1)=argBest bt i:=by rw [argBest,zt c]
    rw [zt c];refine zq (wpAny_letGo ?_);rw [J6V];exact zr ⟨plainId_quiet F.plain_max_loop _,J8Z W cmp nf m (i+1) _ cur cc (by omega) st2 (by rw [e];exact pc) hB2 fun v' h3 t3 pv' kp'=>fin v' h3 t3 pv' fun b o hb hn q=>kp' b o hb hn (kp b o hb q)⟩
theorem JcW (W:Walks prog w A.in1 I fp wr n P St){bt:Nat->Nat->Bool}(cmp:CmpOf prog w A.in1 .Gt P bt){B:Addr}(nf:B∉fp){d:Value}{z:Shared}{cc:Nat}(st:St 0 z.heap)(hB:z.heap.get? B=some { cls:=.type "list",dict:=none,data:=.seq #[] cc,slots:=#[] })
 (non:n=0->∀ h2 t2,(∀ b o,b∉wr->b≠B->z.heap.get? b=some o->h2.get? b=some o)->R (.ok (.ret d)) { z with heap:=h2,toks:=t2 })
 (fin:0<n->∀ v h2 t2,P (argBest bt (n - 1)) v->(∀ b o,b∉wr->b≠B->z.heap.get? b=some o->h2.get? b=some o)->R (.ok (.ret v)) { z with heap:=h2,toks:=t2 }) :
 codeAny (model prog w) A (.builtin "max.loop" ⟨[.ref I,.none,.ref B],[(Str.ofString "default",d)]⟩) R z:=by
 have nw:B∉wr:=fun q=>nf (W.sub _ q);refine codeAny_builtin F.entry_max_loop ?_;rw [qo F.plain_max_loop _];show wpAny _ A.in1 (seqItems? (.ref B) >>= _) _ _ z;refine zq (wpAny_seqItems hB rfl ?_);show wpAny _ A.in1 (tryCatch (pyNext (.ref I)) _ >>= _) _ _ z;by_cases h0:n=0
 ·refine zq (wpAny_tryCatch (W.done z _ _ (by rw [h0];exact st) fun h2 t2 kp=>?_))
  exact zq (wpAny_rule (zr (non h0 h2 t2 fun b o hb _ q=>kp b o hb q)))
 ·have hp:0<n:=by omega
  refine zq (wpAny_tryCatch (W.item 0 z _ _ hp st fun v h2 t2 pv st2 kp=>?_));have hB2:=kp B _ nw hB;show wpAny _ A.in1 (updateSeq B (fun _=>#[v,v]) >>= _) _ _ _;refine zq (wpAny_updateSeq hB2 rfl ?_);rw [J6V];refine zr ⟨plainId_quiet F.plain_max_loop _,J8Z W cmp nf (n - 1) 0 _ v _ (by omega) (W.frame _ _ _ st2 fun b hb o q=>?_) pv (Heap.get?_update_self _ hB2 rfl) fun v' h3 t3 pv' kp'=>fin hp v' h3 t3 pv' fun b o hb hn q=>kp' b o hb hn ((qk _ _ (Ne.symm hn)).trans (kp b o hb q))⟩;exact (qk _ _ fun q:B=b=>nf (by rw [q];exact hb)).trans q
end
section
variable {prog:Program}{w:World}{A:Around}{E:Value->Shared->Prop}{s:Shared}
theorem J7W {l:Addr}{items:Array Value}{d:Value}{bt:Nat->Nat->Bool}{Q:Value->Shared->Prop}(hh:A.handled=none)(hl:s.heap.IsList l items)(cmp:CmpOf prog w A.in1 .Gt (fun i v=>items[i]?=some v) bt)
 (non:items.size=0->∀ h2 t2,(∀ b o,s.heap.get? b=some o->h2.get? b=some o)->Q d { s with heap:=h2,toks:=t2 })
 (fin:0<items.size->∀ v h2 t2,items[argBest bt (items.size - 1)]?=some v->(∀ b o,s.heap.get? b=some o->h2.get? b=some o)->Q v { s with heap:=h2,toks:=t2 }) :
 wpAny (model prog w) A (call (.builtin "max") [.ref l] [(Str.ofString "default",d)]) Q E s:=by
 refine PyProof.Rows.kmk_tree F.kind_max F.plain_max F.entry_max (Je2 _ _) ?_;show wpAny _ A.in1 (Builtin.Builtins.bindParams "max" ["key","default"] 0 ⟨[],[(Str.ofString "default",d)]⟩ >>= _) _ _ s;refine zq (wpAny_of_eq (show Builtin.Builtins.bindParams "max" ["key","default"] 0 ⟨[],[(Str.ofString "default",d)]⟩=pure [none,some d] from rfl) (zq (zr (zq (wpAny_pyIter_list hl (zq (wpAny_newObj_type ?_)))))));rw [J6V];obtain ⟨ol,hol,hcl⟩:=id hl;have ll:l<s.heap.objs.size:=qj hol;have sz:(s.heap.push { cls:=.type "list_iterator",data:=.fields #[.ref l,.int 0 0] }).objs.size=s.heap.objs.size+1:=Heap.size_push ..;refine zr ⟨plainId_quiet F.plain_max_loop _,JcW (Walks.list (by simp [hh]) s.heap.objs.size l (zB ll) items) cmp (B:=(s.heap.push { cls:=.type "list_iterator",data:=.fields #[.ref l,.int 0 0] }).objs.size) ?_ ⟨?_,?_⟩ (qi _ rfl) (fun h0 h2 t2 kp=>non h0 h2 t2 fun b o q=>?_) (fun h0 v h2 t2 pv kp=>fin h0 v h2 t2 pv fun b o q=>?_)⟩
 ·rw [sz]
  simp only [zU,not_mem_nil,or_false,not_or];exact ⟨Nat.succ_ne_self _,Nat.ne_of_gt (Nat.lt_succ_of_lt ll)⟩
 ·exact ⟨_,qh _ (qi _ rfl),rfl,rfl⟩
 ·exact (hl.push _).push _
 all_goals
  have lb:b<s.heap.objs.size:=qj q;refine kp b o ?_ ?_ (qh _ (qh _ q))
  ·simp only [zU,not_mem_nil,or_false]
   exact zB lb
  ·rw [sz]
   exact zB (Nat.lt_succ_of_lt lb)
end
theorem Je3 (a v:Value):argsOk "min" ⟨[a],[(Str.ofString "default",v)]⟩:=by unfold argsOk;kernel_rfl
theorem J6X:(toString "min"++toString ".loop":String)="min.loop":=by decide
section
variable {prog:Program}{w:World}{A:Around}{R:Result->Shared->Prop}{I:Addr}{fp wr:List Addr}{n:Nat}{P:Nat->Value->Prop}{St:Nat->Heap->Prop}
theorem J90 (W:Walks prog w A.in1 I fp wr n P St){bt:Nat->Nat->Bool}(cmp:CmpOf prog w A.in1 .Lt P bt){B:Addr}(nf:B∉fp){d:Value} :
 ∀ (m i:Nat) (z:Shared) (cur:Value) (cc:Nat),n=i+1+m->St (i+1) z.heap->P (argBest bt i) cur->z.heap.get? B=some { cls:=.type "list",dict:=none,data:=.seq #[cur,cur] cc,slots:=#[] } ->
   (∀ v h2 t2,P (argBest bt (n - 1)) v->(∀ b o,b∉wr->b≠B->z.heap.get? b=some o->h2.get? b=some o)->R (.ok (.ret v)) { z with heap:=h2,toks:=t2 }) ->
   codeAny (model prog w) A (.builtin "min.loop" ⟨[.ref I,.none,.ref B],[(Str.ofString "default",d)]⟩) R z
 | 0,i,z,cur,cc,hm,st,pc,hB,fin=>by
   have nw:B∉wr:=fun q=>nf (W.sub _ q);refine codeAny_builtin F.entry_min_loop ?_;rw [qo F.plain_min_loop _];show wpAny _ A.in1 (seqItems? (.ref B) >>= _) _ _ z;refine zq (wpAny_seqItems hB rfl ?_);show wpAny _ A.in1 (tryCatch (pyNext (.ref I)) _ >>= _) _ _ z;refine zq (wpAny_tryCatch (W.done z _ _ (by rw [hm];exact st) fun h2 t2 kp=>?_));show wpAny _ A.in1 (updateSeq B (fun _=>#[]) >>= _) _ _ _;refine zq (wpAny_updateSeq (kp B _ nw hB) rfl (zq (wpAny_letGo (zr (fin cur _ t2 ?_ fun b o hb hn e=>(qk _ _ (Ne.symm hn)).trans (kp b o hb e))))));rw [show n - 1=i by omega];exact pc
 | m + 1,i,z,cur,cc,hm,st,pc,hB,fin=>by
   have nw:B∉wr:=fun q=>nf (W.sub _ q);refine codeAny_builtin F.entry_min_loop ?_;rw [qo F.plain_min_loop _];show wpAny _ A.in1 (seqItems? (.ref B) >>= _) _ _ z;refine zq (wpAny_seqItems hB rfl ?_);show wpAny _ A.in1 (tryCatch (pyNext (.ref I)) _ >>= _) _ _ z;refine zq (wpAny_tryCatch (W.item (i+1) z _ _ (by omega) st fun v h2 t2 pv st2 kp=>?_));have hB2:=kp B _ nw hB;show wpAny _ A.in1 (tryCatch (holding [v,v] (richCompare .Lt v cur >>= _)) _ >>= _) _ _ _;refine zq (wpAny_tryCatch (wpAny_holding (zq (cmp (i+1) (argBest bt i) v cur _ _ _ pv pc (zq (wpAny_holding (wpAny_truthy_bool (zq (wpAny_letGo (zr ?_))))))))));by_cases c:bt (i+1) (argBest bt i)=true
   ·have e:argBest bt (i+1)=i+1:=by unfold argBest;rw [zu c]
    rw [zu c];refine zq (wpAny_updateSeq hB2 rfl (zq (wpAny_letGo ?_)));rw [J6X];refine zr ⟨plainId_quiet F.plain_min_loop _,J90 W cmp nf m (i+1) _ v _ (by omega) (W.frame _ _ _ st2 fun b hb o q=>?_) (by rw [e];exact pv) (Heap.get?_update_self _ hB2 rfl) fun v' h3 t3 pv' kp'=>fin v' h3 t3 pv' fun b o hb hn q=>kp' b o hb hn ((qk _ _ (Ne.symm hn)).trans (kp b o hb q))⟩;exact (qk _ _ fun q:B=b=>nf (by rw [q];exact hb)).trans q
   ·have e:argBest bt (i+1)=argBest bt i:=by rw [argBest,zt c]
    rw [zt c];refine zq (wpAny_letGo ?_);rw [J6X];exact zr ⟨plainId_quiet F.plain_min_loop _,J90 W cmp nf m (i+1) _ cur cc (by omega) st2 (by rw [e];exact pc) hB2 fun v' h3 t3 pv' kp'=>fin v' h3 t3 pv' fun b o hb hn q=>kp' b o hb hn (kp b o hb q)⟩
theorem JcY (W:Walks prog w A.in1 I fp wr n P St){bt:Nat->Nat->Bool}(cmp:CmpOf prog w A.in1 .Lt P bt){B:Addr}(nf:B∉fp){d:Value}{z:Shared}{cc:Nat}(st:St 0 z.heap)(hB:z.heap.get? B=some { cls:=.type "list",dict:=none,data:=.seq #[] cc,slots:=#[] })
 (non:n=0->∀ h2 t2,(∀ b o,b∉wr->b≠B->z.heap.get? b=some o->h2.get? b=some o)->R (.ok (.ret d)) { z with heap:=h2,toks:=t2 })
 (fin:0<n->∀ v h2 t2,P (argBest bt (n - 1)) v->(∀ b o,b∉wr->b≠B->z.heap.get? b=some o->h2.get? b=some o)->R (.ok (.ret v)) { z with heap:=h2,toks:=t2 }) :
 codeAny (model prog w) A (.builtin "min.loop" ⟨[.ref I,.none,.ref B],[(Str.ofString "default",d)]⟩) R z:=by
 have nw:B∉wr:=fun q=>nf (W.sub _ q);refine codeAny_builtin F.entry_min_loop ?_;rw [qo F.plain_min_loop _];show wpAny _ A.in1 (seqItems? (.ref B) >>= _) _ _ z;refine zq (wpAny_seqItems hB rfl ?_);show wpAny _ A.in1 (tryCatch (pyNext (.ref I)) _ >>= _) _ _ z;by_cases h0:n=0
 ·refine zq (wpAny_tryCatch (W.done z _ _ (by rw [h0];exact st) fun h2 t2 kp=>?_))
  exact zq (wpAny_rule (zr (non h0 h2 t2 fun b o hb _ q=>kp b o hb q)))
 ·have hp:0<n:=by omega
  refine zq (wpAny_tryCatch (W.item 0 z _ _ hp st fun v h2 t2 pv st2 kp=>?_));have hB2:=kp B _ nw hB;show wpAny _ A.in1 (updateSeq B (fun _=>#[v,v]) >>= _) _ _ _;refine zq (wpAny_updateSeq hB2 rfl ?_);rw [J6X];refine zr ⟨plainId_quiet F.plain_min_loop _,J90 W cmp nf (n - 1) 0 _ v _ (by omega) (W.frame _ _ _ st2 fun b hb o q=>?_) pv (Heap.get?_update_self _ hB2 rfl) fun v' h3 t3 pv' kp'=>fin hp v' h3 t3 pv' fun b o hb hn q=>kp' b o hb hn ((qk _ _ (Ne.symm hn)).trans (kp b o hb q))⟩;exact (qk _ _ fun q:B=b=>nf (by rw [q];exact hb)).trans q
end
section
variable {prog:Program}{w:World}{A:Around}{E:Value->Shared->Prop}{s:Shared}
theorem J7X {l:Addr}{items:Array Value}{d:Value}{bt:Nat->Nat->Bool}{Q:Value->Shared->Prop}(hh:A.handled=none)(hl:s.heap.IsList l items)(cmp:CmpOf prog w A.in1 .Lt (fun i v=>items[i]?=some v) bt)
 (non:items.size=0->∀ h2 t2,(∀ b o,s.heap.get? b=some o->h2.get? b=some o)->Q d { s with heap:=h2,toks:=t2 })
 (fin:0<items.size->∀ v h2 t2,items[argBest bt (items.size - 1)]?=some v->(∀ b o,s.heap.get? b=some o->h2.get? b=some o)->Q v { s with heap:=h2,toks:=t2 }) :
 wpAny (model prog w) A (call (.builtin "min") [.ref l] [(Str.ofString "default",d)]) Q E s:=by
 refine PyProof.Rows.kmk_tree F.kind_min F.plain_min F.entry_min (Je3 _ _) ?_;show wpAny _ A.in1 (Builtin.Builtins.bindParams "min" ["key","default"] 0 ⟨[],[(Str.ofString "default",d)]⟩ >>= _) _ _ s;refine zq (wpAny_of_eq (show Builtin.Builtins.bindParams "min" ["key","default"] 0 ⟨[],[(Str.ofString "default",d)]⟩=pure [none,some d] from rfl) (zq (zr (zq (wpAny_pyIter_list hl (zq (wpAny_newObj_type ?_)))))));rw [J6X];obtain ⟨ol,hol,hcl⟩:=id hl;have ll:l<s.heap.objs.size:=qj hol;have sz:(s.heap.push { cls:=.type "list_iterator",data:=.fields #[.ref l,.int 0 0] }).objs.size=s.heap.objs.size+1:=Heap.size_push ..;refine zr ⟨plainId_quiet F.plain_min_loop _,JcY (Walks.list (by simp [hh]) s.heap.objs.size l (zB ll) items) cmp (B:=(s.heap.push { cls:=.type "list_iterator",data:=.fields #[.ref l,.int 0 0] }).objs.size) ?_ ⟨?_,?_⟩ (qi _ rfl) (fun h0 h2 t2 kp=>non h0 h2 t2 fun b o q=>?_) (fun h0 v h2 t2 pv kp=>fin h0 v h2 t2 pv fun b o q=>?_)⟩
 ·rw [sz]
  simp only [zU,not_mem_nil,or_false,not_or];exact ⟨Nat.succ_ne_self _,Nat.ne_of_gt (Nat.lt_succ_of_lt ll)⟩
 ·exact ⟨_,qh _ (qi _ rfl),rfl,rfl⟩
 ·exact (hl.push _).push _
 all_goals
  have lb:b<s.heap.objs.size:=qj q;refine kp b o ?_ ?_ (qh _ (qh _ q))
  ·simp only [zU,not_mem_nil,or_false]
   exact zB lb
  ·rw [sz]
   exact zB (Nat.lt_succ_of_lt lb)
end
theorem Jdg {prog:Program}{w:World}{A:Around}{P:Nat->Value->Prop}(val:Nat->Str)(hv:∀ i v,P i v->∃ t,v=.str (val i) t):CmpOf prog w A .Gt P (fun i j=>decide ((val j).cps.toList<(val i).cps.toList)):=fun i j vi vj s Q E hi hj h=>by
 obtain ⟨t,rfl⟩:=hv i vi hi;obtain ⟨u,rfl⟩:=hv j vj hj;exact richCompare_gives (op:=.Gt) (typeIs_str s _ t) (typeIs_str s _ u) F.slot_str_gt F.entry_str_gt (F.args_str_gt_2 _ _) (gives_str_gt _ _ t u) (fun e=>nomatch e) h
theorem Jdf {prog:Program}{w:World}{A:Around}{P:Nat->Value->Prop}(val:Nat->Str)(hv:∀ i v,P i v->∃ t,v=.str (val i) t):CmpOf prog w A .Lt P (fun i j=>decide ((val i).cps.toList<(val j).cps.toList)):=fun i j vi vj s Q E hi hj h=>by
 obtain ⟨t,rfl⟩:=hv i vi hi;obtain ⟨u,rfl⟩:=hv j vj hj;exact richCompare_gives (op:=.Lt) (typeIs_str s _ t) (typeIs_str s _ u) F.slot_str_lt F.entry_str_lt (F.args_str_lt_2 _ _) (gives_str_lt _ _ t u) (fun e=>nomatch e) h
theorem Je8 {a b c:List Nat}(h1:a<b)(h2:b<c):a<c:=List.lt_trans h1 h2
theorem best_top {bt:Nat->Nat->Bool}(ir:∀ a,bt a a=false)(tr:∀ a b c,bt a b=true->bt c a=true->bt c b=true):∀ k,argBest bt k<=k/\∀ i,i<=k->bt i (argBest bt k)=false
 | 0=>⟨zv _,fun i hi=>by
   have e:i=0:=by omega
   rw [e];exact ir 0⟩
 | k + 1=>by
   obtain ⟨h1,h2⟩:=best_top ir tr k;by_cases c:bt (k+1) (argBest bt k)=true
   ·have e:argBest bt (k+1)=k+1:=by unfold argBest;rw [zu c]
    rw [e];refine ⟨zv _,fun i hi=>?_⟩;rcases Nat.lt_succ_iff_lt_or_eq.mp (Nat.lt_succ_of_le hi) with hi | rfl
    ·by_cases z:bt i (k+1)=true
     ·exact absurd (tr _ _ _ c z) (by rw [h2 i (by omega)];exact zw)
     ·exact Bool.eq_false_iff.mpr z
    ·exact ir _
   ·have e:argBest bt (k+1)=argBest bt k:=by rw [argBest,zt c]
    rw [e];refine ⟨by omega,fun i hi=>?_⟩;rcases Nat.lt_succ_iff_lt_or_eq.mp (Nat.lt_succ_of_le hi) with hi | rfl
    ·exact h2 i (by omega)
    ·exact Bool.eq_false_iff.mpr c
def gtV:V->V->Bool
 | .int i,.int j=>decide (j<i)
 | .str a,.str b=>decide (b.cps.toList<a.cps.toList)
 | _,_=>false
def ltV (x y:V):Bool:=gtV y x
theorem Jc9:bootBuiltins "max"=some (.builtin "max"):=by decide +kernel
theorem Jc8:bootBuiltins "min"=some (.builtin "min"):=by decide +kernel
section
variable {X:Cx}
def J7K (K:PySem.W.Frag)(better:V->V->Bool):List V->V->Hp->VK->Prop:=fun xs d H Q=>∃ l ys,xs=[.ref l]/\SqL K H l ys/\((∃ zs:List Int,ys=zs.map V.int)\/∃ zs:List Str,ys=zs.map V.str)/\(ys=[]->Q d H)/\∀ v,v∈ys->(∀ u∈ys,better u v=false)->Q v H
def J7r (K:PySem.W.Frag)(better:V->V->Bool)(ta:TA)(te:TE):TE:=fun σ H Q=>ta σ H fun vs H1=>te σ H1 fun d H2=>J7K K better vs d H2 Q
theorem J3K {zs:List Int}{its:List Value}{i:Nat}{v:Value}(r:Vals (zs.map V.int) its)(hv:its.toArray[i]?=some v):i<zs.length/\∃ t,v=.int (zs.getD i 0) t:=by
 have hv':its[i]?=some v:=by simpa using hv
 have hm:i<zs.length:=by
  have:=r.length;rw [zL] at this;rw [this];exact (zK.mp hv').1
 obtain ⟨u,hu,t,e⟩:=r.get (i:=i) (x:=V.int zs[i]) (by rw [zW,zJ hm];rfl);rw [hv'] at hu;cases hu;exact ⟨hm,t,by rw [zO,zJ hm];exact e⟩
theorem J4y {zs:List Str}{its:List Value}{i:Nat}{v:Value}(r:Vals (zs.map V.str) its)(hv:its.toArray[i]?=some v):i<zs.length/\∃ t,v=.str (zs.getD i Str.empty) t:=by
 have hv':its[i]?=some v:=by simpa using hv
 have hm:i<zs.length:=by
  have:=r.length;rw [zL] at this;rw [this];exact (zK.mp hv').1
 obtain ⟨u,hu,t,e⟩:=r.get (i:=i) (x:=V.str zs[i]) (by rw [zW,zJ hm];rfl);rw [hv'] at hu;cases hu;exact ⟨hm,t,by rw [zO,zJ hm];exact e⟩
theorem J3L {α:Type}{l:List α}{i:Nat}{d:α}(h:i<l.length):l.getD i d∈l:=by
 rw [zO,zJ h];exact getElem_mem h
theorem J2R {α:Type}{l:List α}{i:Nat}{x d:α}(h:l[i]?=some x):l.getD i d=x:=by rw [zO,h];rfl
theorem Jd0 {pins:List (Addr×Obj)}{s:Shared}{σ:St}{H:Hp}{xs:List V}{d:V}{us:List Value}{u:Value}{Q:VK}{E:Value->Shared->Prop}(hc:X.calm=true)(I:Inv X pins σ H s)(r:Vals xs us)(rd:RelV d u)(h:J7K X.K gtV xs d H Q) :
 wpAny (model X.prog X.w) X.A (call (.builtin "max") us [(Str.ofString "default",u)]) (EP X pins σ Q) E s:=by
 obtain ⟨l,ys,rfl,hq,hk,h0,h1⟩:=h;obtain ⟨lv,rfl,rl⟩:=J0w r;cases (show lv=Value.ref l from rl);obtain ⟨its,r',pl,hz⟩:=I.list hq;have hl:=r'.length;have non:its.toArray.size=0->∀ h2 t2,(∀ b o,s.heap.get? b=some o->h2.get? b=some o)->EP X pins σ Q u { s with heap:=h2,toks:=t2 }:=fun e h2 t2 kp=>by
  have e2:ys=[]:=eq_nil_of_length_eq_zero (by rw [zN] at e;omega);exact ⟨d,H,I.kept kp,rd,h0 e2⟩
 rcases hk with ⟨zs,rfl⟩ | ⟨zs,rfl⟩
 ·rw [zL] at hl
  refine J7W (I.ok.hd hc) pl.isList (CmpOf.ints_gt (fun i=>zs.getD i 0) fun i v hv=>(J3K r' hv).2) non fun e v h2 t2 hv kp=>?_;obtain ⟨hj,t,rfl⟩:=J3K r' hv;obtain ⟨_,b2⟩:=best_top (bt:=fun i j=>decide (zs.getD i 0 > zs.getD j 0)) (fun a=>zy (by omega)) (fun a b c x y=>zx (by have:=of_decide_eq_true x;have:=of_decide_eq_true y;omega)) (its.toArray.size - 1);rw [zN] at *;generalize argBest (fun i j=>decide (zs.getD i 0 > zs.getD j 0)) (its.length - 1)=j at *;refine ⟨.int (zs.getD j 0),H,I.kept kp,⟨t,rfl⟩,h1 _ (qb.mpr ⟨_,J3L hj,rfl⟩) fun u hu=>?_⟩;obtain ⟨z,hz2,rfl⟩:=qb.mp hu;obtain ⟨i,hi⟩:=qa.mp hz2;have hil:=(zK.mp hi).1;have:=b2 i (by omega);simp only [J2R hi] at this;exact this
 ·rw [zL] at hl
  refine J7W (I.ok.hd hc) pl.isList (Jdg (fun i=>zs.getD i Str.empty) fun i v hv=>(J4y r' hv).2) non fun e v h2 t2 hv kp=>?_;obtain ⟨hj,t,rfl⟩:=J4y r' hv;obtain ⟨_,b2⟩:=best_top (bt:=fun i j=>decide ((zs.getD j Str.empty).cps.toList<(zs.getD i Str.empty).cps.toList)) (fun a=>zy (List.lt_irrefl _)) (fun a b c x y=>zx (Je8 (of_decide_eq_true x) (of_decide_eq_true y))) (its.toArray.size - 1);rw [zN] at *;generalize argBest (fun i j=>decide ((zs.getD j Str.empty).cps.toList<(zs.getD i Str.empty).cps.toList)) (its.length - 1)=j at *;refine ⟨.str (zs.getD j Str.empty),H,I.kept kp,⟨t,rfl⟩,h1 _ (qb.mpr ⟨_,J3L hj,rfl⟩) fun u hu=>?_⟩;obtain ⟨z,hz2,rfl⟩:=qb.mp hu;obtain ⟨i,hi⟩:=qa.mp hz2;have hil:=(zK.mp hi).1;have:=b2 i (by omega);simp only [J2R hi] at this;exact this
theorem JcM {a e:Expr}{ta:TA}{te:TE}{p pos kp:Pos}{K:PySem.W.Frag}(hK:X.K=K)(hc:X.calm=true)(hg:Gl X "max")(hm:X.mg "max"=none)(hn:JJ a=true)(ha:PA X [a] ta)(he:PE X e te):PE X (.Call (.Name "max" p) [a] [⟨some "default",e,kp⟩] pos) (J7r K gtV ta te):=by
 subst hK;intro pins s σ H Q I h;refine wpAny_Call_Name_kw (J1P I hg hm Jc9 ?_);refine PyProof.Rows.callWith_kw (thn (ha pos pins s σ H _ I h) fun us s1 ⟨vs,H1,I1,r1,q1⟩=>?_) (by rw [JN hn];rfl) (by rw [JN hn];rfl);refine thn ((J6I he J8N) pos pins s1 σ H1 (fun zs H2=>match zs with | [d]=>J7K X.K gtV vs d H2 Q | _=>False) I1 q1) fun ws s2 ⟨zs,H2,I2,rz,q2⟩=>?_
 match zs,rz,q2 with
 | [d],rz,q2 =>
   obtain ⟨w',rfl,rw'⟩:=J0w rz;exact Jd0 hc I2 r1 rw' q2
theorem JcZ {pins:List (Addr×Obj)}{s:Shared}{σ:St}{H:Hp}{xs:List V}{d:V}{us:List Value}{u:Value}{Q:VK}{E:Value->Shared->Prop}(hc:X.calm=true)(I:Inv X pins σ H s)(r:Vals xs us)(rd:RelV d u)(h:J7K X.K ltV xs d H Q) :
 wpAny (model X.prog X.w) X.A (call (.builtin "min") us [(Str.ofString "default",u)]) (EP X pins σ Q) E s:=by
 obtain ⟨l,ys,rfl,hq,hk,h0,h1⟩:=h;obtain ⟨lv,rfl,rl⟩:=J0w r;cases (show lv=Value.ref l from rl);obtain ⟨its,r',pl,hz⟩:=I.list hq;have hl:=r'.length;have non:its.toArray.size=0->∀ h2 t2,(∀ b o,s.heap.get? b=some o->h2.get? b=some o)->EP X pins σ Q u { s with heap:=h2,toks:=t2 }:=fun e h2 t2 kp=>by
  have e2:ys=[]:=eq_nil_of_length_eq_zero (by rw [zN] at e;omega);exact ⟨d,H,I.kept kp,rd,h0 e2⟩
 rcases hk with ⟨zs,rfl⟩ | ⟨zs,rfl⟩
 ·rw [zL] at hl
  refine J7X (I.ok.hd hc) pl.isList (CmpOf.ints_lt (fun i=>zs.getD i 0) fun i v hv=>(J3K r' hv).2) non fun e v h2 t2 hv kp=>?_;obtain ⟨hj,t,rfl⟩:=J3K r' hv;obtain ⟨_,b2⟩:=best_top (bt:=fun i j=>decide (zs.getD i 0<zs.getD j 0)) (fun a=>zy (by omega)) (fun a b c x y=>zx (by have:=of_decide_eq_true x;have:=of_decide_eq_true y;omega)) (its.toArray.size - 1);rw [zN] at *;generalize argBest (fun i j=>decide (zs.getD i 0<zs.getD j 0)) (its.length - 1)=j at *;refine ⟨.int (zs.getD j 0),H,I.kept kp,⟨t,rfl⟩,h1 _ (qb.mpr ⟨_,J3L hj,rfl⟩) fun u hu=>?_⟩;obtain ⟨z,hz2,rfl⟩:=qb.mp hu;obtain ⟨i,hi⟩:=qa.mp hz2;have hil:=(zK.mp hi).1;have:=b2 i (by omega);simp only [J2R hi] at this;exact this
 ·rw [zL] at hl
  refine J7X (I.ok.hd hc) pl.isList (Jdf (fun i=>zs.getD i Str.empty) fun i v hv=>(J4y r' hv).2) non fun e v h2 t2 hv kp=>?_;obtain ⟨hj,t,rfl⟩:=J4y r' hv;obtain ⟨_,b2⟩:=best_top (bt:=fun i j=>decide ((zs.getD i Str.empty).cps.toList<(zs.getD j Str.empty).cps.toList)) (fun a=>zy (List.lt_irrefl _)) (fun a b c x y=>zx (Je8 (of_decide_eq_true y) (of_decide_eq_true x))) (its.toArray.size - 1);rw [zN] at *;generalize argBest (fun i j=>decide ((zs.getD i Str.empty).cps.toList<(zs.getD j Str.empty).cps.toList)) (its.length - 1)=j at *;refine ⟨.str (zs.getD j Str.empty),H,I.kept kp,⟨t,rfl⟩,h1 _ (qb.mpr ⟨_,J3L hj,rfl⟩) fun u hu=>?_⟩;obtain ⟨z,hz2,rfl⟩:=qb.mp hu;obtain ⟨i,hi⟩:=qa.mp hz2;have hil:=(zK.mp hi).1;have:=b2 i (by omega);simp only [J2R hi] at this;exact this
theorem JcL {a e:Expr}{ta:TA}{te:TE}{p pos kp:Pos}{K:PySem.W.Frag}(hK:X.K=K)(hc:X.calm=true)(hg:Gl X "min")(hm:X.mg "min"=none)(hn:JJ a=true)(ha:PA X [a] ta)(he:PE X e te):PE X (.Call (.Name "min" p) [a] [⟨some "default",e,kp⟩] pos) (J7r K ltV ta te):=by
 subst hK;intro pins s σ H Q I h;refine wpAny_Call_Name_kw (J1P I hg hm Jc8 ?_);refine PyProof.Rows.callWith_kw (thn (ha pos pins s σ H _ I h) fun us s1 ⟨vs,H1,I1,r1,q1⟩=>?_) (by rw [JN hn];rfl) (by rw [JN hn];rfl);refine thn ((J6I he J8N) pos pins s1 σ H1 (fun zs H2=>match zs with | [d]=>J7K X.K ltV vs d H2 Q | _=>False) I1 q1) fun ws s2 ⟨zs,H2,I2,rz,q2⟩=>?_
 match zs,rz,q2 with
 | [d],rz,q2 =>
   obtain ⟨w',rfl,rw'⟩:=J0w rz;exact JcZ hc I2 r1 rw' q2
end
section
variable {X:Cx}
def Jco (K:PySem.W.Frag)(te ts:TE):TE:=fun σ H Q=>te σ H fun x H1=>ts σ H1 fun y H2=>y=.int (-1)/\∃ a xs,x=.ref a/\SqL K H2 a xs/\∀ p,H2 p=none->Q (.ref p) (upd H2 p (.lst xs.reverse))
theorem JdV {e st:Expr}{te ts:TE}{p2 pos:Pos}{K:PySem.W.Frag}(hK:X.K=K)(he:PE X e te)(ht:PE X st ts):PE X (.Subscript e (.Slice none none (some st) p2) pos) (Jco K te ts):=by
 subst hK;intro pins s σ H Q I h;refine Subscript_ (thn (he pins s σ H _ I h) fun v s1 ⟨x,H1,I1,r1,q1⟩=>?_);refine wpAny_Slice ?_;rw [evalPart_none];refine zr (zr ?_);rw [evalPart_some];refine thn (ht pins s1 σ H1 _ I1 q1) fun u s2 ⟨y,H2,I2,r2,hy,a,xs,hx,hq,q⟩=>?_;subst hy hx;obtain ⟨t,rfl⟩:=r2;cases (show v=Value.ref a from r1);have I4:Inv X pins σ H2 { s2 with heap:=s2.heap.push { cls:=.type "slice",data:=.fields #[.none,.none,.int (-1) t] } }:=I2.kept (t':=s2.toks) fun b ob q=>qh _ q;obtain ⟨its,r,pl,hz⟩:=I4.list hq;have hlen:=r.length;show wpAny (model X.prog X.w) X.A (subscriptTail e (.Slice none none (some st) p2) (.ref a) (.ref s2.heap.objs.size)) (EP X pins σ Q) X.xe { s2 with heap:=s2.heap.push { cls:=.type "slice",data:=.fields #[.none,.none,.int (-1) t] } };refine tail_any (ops:=[.ref a,.ref s2.heap.objs.size]) (T:="list") pl.isList.typeIs slot_list_getitem.lookup ?_ (by with_unfolding_all rfl);refine wpAny_getItem_list_slice pl.isList (Heap.IsSliceOf.new ..) .none .none (.int (-1) t) (by decide) ?_ (by rw [zN]<;>omega);rw [PySem.W.krv_pick];refine ⟨.ref _,_,I4.laid (t':=s2.toks) (o:=.lst xs.reverse) (fun b ob q=>qh _ q) (zv _) ?_,rfl,q _ (I4.hok.fresh (zv _))⟩;exact ⟨by rw [length_reverse];exact hz,_,0,r.reverse,qi _ rfl⟩
def Jdq:V->V->Bool
 | .int _,.int _=>true
 | .str _,.str _=>true
 | _,_=>false
def JcB:R2:=fun x y H Q=>Jdq x y=true/\Q (.bl (gtV x y)) H
theorem Jbh:OpR X (compareOp .Gt) JcB:=by
 intro pins s σ H x y v u Q I rx ry h;obtain ⟨hk,h⟩:=h;cases x with
 | int i =>
   cases y with
   | int j=>exact J5Q pins s σ H _ _ v u Q I rx ry ⟨i,j,rfl,rfl,h⟩
   | _=>cases hk
 | str a =>
   cases y with
   | str b =>
     obtain ⟨t,rfl⟩:=rx;obtain ⟨t',rfl⟩:=ry;exact P.gt_str (Jz I h rfl)
   | _=>cases hk
 | _=>cases y<;>cases hk
def JeD (K:PySem.W.Frag):List V->Hp->VK->Prop:=fun xs H Q=>J9r K xs H Q\/Jb1 K xs H Q
theorem Jeh {K:PySem.W.Frag}(e:X.K=K)(hc:X.calm=true):J03 X (.type "set") (JeD K):=by
 intro pins s σ H xs us Q I r h;rcases h with h | h
 ·exact Jbx e hc pins s σ H xs us Q I r h
 ·exact Jeg e hc pins s σ H xs us Q I r h
def Jds (K:PySem.W.Frag):List V->Hp->VK->Prop:=fun xs H Q=>∃ l,∃ zs:List Int,xs=[.ref l]/\SqL K H l (zs.map V.int)/\Q (.int (zs.foldl (·+·) 0)) H
theorem J4a (zs:List Int):∀ k,k<=zs.length->preSum (fun i=>zs.getD i 0) k=(zs.take k).foldl (·+·) 0
 | 0,_=>rfl
 | k+1,h=>by
   have hk:k<zs.length:=h;show preSum (fun i=>zs.getD i 0) k+zs.getD k 0=_;rw [J4a zs k (by omega),take_add_one,zJ hk,foldl_append,J2R (zJ hk)];rfl
theorem Jc0 (hc:X.calm=true):J03 X (.builtin "sum") (Jds X.K):=by
 intro pins s σ H xs us Q I r h;obtain ⟨l,zs,rfl,hq,q⟩:=h;obtain ⟨lv,rfl,rl⟩:=J0w r;cases (show lv=Value.ref l from rl);obtain ⟨its,r',pl,hz⟩:=I.list hq;have hl:=r'.length;rw [zL] at hl;obtain ⟨ol,hol,hcl⟩:=id pl.isList;have ll:l<s.heap.objs.size:=qj hol;refine call_sum_walkAnyS (wpAny_pyIter_list pl.isList ⟨s.heap.objs.size,_,_,_,_,_,_,fun i=>zs.getD i 0,rfl,(Walks.list (by simp [I.ok.hd hc]) s.heap.objs.size l (zB ll) its.toArray).toS,⟨⟨_,qi _ rfl,rfl,rfl⟩,pl.isList.push _⟩,?_,fun i v hv=>(J3K r' hv).2,fun s' t' mv=>?_⟩)
 ·intro b hb
  rw [Heap.size_push];simp only [zU,not_mem_nil,or_false] at hb;rcases hb with rfl | rfl
  ·exact Nat.lt_succ_self _
  ·exact Nat.lt_succ_of_lt ll
 ·obtain ⟨h',g',d',tk',os'⟩:=s'
  obtain rfl:g'=s.gens:=mv.gens;obtain rfl:d'=s.drawn:=mv.drawn;obtain rfl:os'=s.os:=mv.os;have e:preSum (fun i=>zs.getD i 0) its.toArray.size=zs.foldl (·+·) 0:=by
   rw [zN,<- hl,J4a zs zs.length (zv _),zX]
  rw [e];refine ⟨.int _,H,I.kept (t':=tk') fun b o hb=>?_,⟨_,rfl⟩,q⟩;refine mv.heap b o ?_ (qh _ hb);simp only [zU,not_mem_nil,or_false];exact zB (qj hb)
theorem Jef {K:PySem.W.Frag}(e:X.K=K)(hc:X.calm=true):J03 X (.builtin "sum") (Jds K):=by subst e;exact Jc0 hc
end
theorem Jc7:bootBuiltins "zip"=some (.type "zip"):=by decide +kernel
section
variable {X:Cx}
theorem JdS (K:PySem.W.Frag)(i j:Nat){x y:Str}{p1 p2 pos:Pos}{k:Nat}(hN:X.N.Nodup)(e:X.K=K:=by rfl)(hc:X.calm=true:=by rfl)(hi:X.N[i]?=some x:=by rfl)(hj:X.N[j]?=some y:=by rfl)(hv:X.env.scope.names.lookup x=some .local:=by rfl)(hw:X.env.scope.names.lookup y=some .local:=by rfl)
 (h1:(assignEach [.Name x p1,.Name y p2] X.env).map (·.2)=assign (.Name x p1) X.env::(assignEach [.Name y p2] X.env).map (·.2):=by rfl) (h2:(assignEach [.Name y p2] X.env).map (·.2)=assign (.Name y p2) X.env::(assignEach [] X.env).map (·.2):=by rfl)
 (hn:(assignEach [.Name x p1,.Name y p2] X.env).length=2:=by rfl) (hst:(assignEach [.Name x p1,.Name y p2] X.env).findIdx? (·.1)=none:=by rfl):PG X (.Tuple [.Name x p1,.Name y p2] k pos) (Jem K 2 (J21 (JL i) (J21 (JL j) J4s))) :=
 J4d e hc (J02 (pgl i hN hi hv) (J02 (pgl j hN hj hw) J1E h2) h1) hn hst
end
theorem J3n {J:It}{xs:List V}{ok:Hp->Prop}(w:Walk J xs ok){g:TG}{tt:TT}{te:TE}{fin:List V->Hp->Prop}{σ:St}{H:Hp}(hz:xs.length<=sizeLine)(Pv:Nat->List V->St->Hp->Prop)(h0:Pv 0 [] σ H)(hl:∀ i zs σ H,Pv i zs σ H->ok H/\zs.length<=i)
 (hs:∀ (i:Nat) x zs σ H,xs[i]?=some x->Pv i zs σ H->g x σ H fun σ2 H2=>tt σ2 H2 fun b H3=>if b=true then te σ2 H3 fun y H4=>Pv (i+1) (zs++[y]) σ2 H4 else Pv (i+1) zs σ2 H3)
 (hd:∀ zs σ H,Pv xs.length zs σ H->fin zs H):J8i J g tt te fin σ H:=by
 refine ⟨fun i m zs σ H=>m=xs.length - i/\i<=xs.length/\Pv i zs σ H,⟨_,rfl,zF _,h0⟩,?_⟩;rintro i m zs σ H ⟨rfl,hi,p⟩;obtain ⟨q,hy⟩:=hl i zs σ H p;by_cases hlt:i<xs.length
 ·refine .inr ⟨w.go i H q hlt,by omega,Pv (i+1),fun zs' σ' H' z=>⟨xs.length - (i+1),by omega,rfl,hlt,z⟩,fun x H' y=>?_⟩
  obtain ⟨e,y'⟩:=w.yld i H x H' q hlt y;subst e;exact hs i x zs σ _ y' p
 ·have e:i=xs.length:=by omega
  subst e;exact .inl ⟨w.stop H q,hd zs σ H p⟩
end L2
namespace L2
open PySem PySem.Spec PyProof.Rows PySem.W
section
variable {X:Cx}{pins:List (Addr×Obj)}{σ:St}{H:Hp}{s:Shared}{E:Value->Shared->Prop}
theorem Inv.turnedL {h':Heap}{t':Nat}{ch:List Addr}(I:Inv X pins σ H s)(k:∀ b o,b∉ch->s.heap.get? b=some o->h'.get? b=some o)(f:∀ b∈ch,J2N X pins H b):Inv X pins σ H { s with heap:=h',toks:=t' }:=by
 have nit:∀ b u,H b=some u->b∉ch:=fun b u e z=>by rw [(f b z).1] at e;cases e
 refine I.step (g':=s.gens) (d':=s.drawn) (ch:=ch) (fun b hb=>?_) (fun b o _ _ hc e _=>k b o hc e) (fun b o _ _ hc e _=>⟨o.slots,k b o hc e⟩) (fun _ _ _ _ n=>n)
  (fun b o hc e=>⟨o,k b o hc e⟩) (fun _ _ e=>e) (fun _ _ _ e=>e) (fun b ps e=>⟨#[],by rw [e];simp⟩) (fun m hm=>?_) (fun b u e=>?_) I.bare
 ·obtain ⟨_,h1,_,h3,h4,h5⟩:=f b hb
  exact ⟨h3,h1,h4,h5⟩
 ·obtain ⟨o,es,ep,ho,r⟩:=hm
  exact ⟨o,es,ep,k _ o (fun z=>(f _ z).2.1 rfl) ho,r⟩
 ·refine (I.hok b u e).stay (fun c v hc q=>k c v ?_ q) (fun _ q=>q) fun _ _ q=>q
  rcases hc with z | z
  ·rw [z];exact nit b u e
  ·exact nit c _ z
end
theorem J69 {α β:Type}{M:Model}{A:Around}{E:Value->Shared->Prop}{s:Shared}{f:α->Sem β}{b:β}:∀ {l:List α} {Q:List β->Shared->Prop},(∀ x∈l,∀ Q':β->Shared->Prop,Q' b s->wpAny M A (f x) Q' E s)->Q (l.map fun _=>b) s->wpAny M A (l.mapM f) Q E s
 | [],Q,_,h=>by rw [mapM_nil];exact zr h
 | x::l,Q,hf,h=>by
   rw [mapM_cons];refine zq (hf x zT _ ?_);exact zq (J69 (fun y hy=>hf y (zS _ hy)) (zr h))
def J68 (h:Heap)(v:Value)(ks:List Jq):Prop:=∃ k items n,v=.ref k/\h.get? k=some (seqObj "list" items n)/\Paired (PrAt h) items.toList ks
section
variable {prog:Program}{w:World}{A:Around}{E:Value->Shared->Prop}{s:Shared}
def J2U (L:List (List Jq)):Prop:=(∀ a∈L,∀ k∈a,okN k)/\∀ a∈L,∀ b∈L,J5T a b=true
theorem Jff {L:List (List Jq)}(hu:A.units+3<cLine)(hL:J2U L):J4t prog w A s oneType' (fun p=>∃ ks,J68 s.heap p.1 ks/\ks∈L):=by
 rintro E x y Q ⟨as,hx,ha⟩ ⟨bs,hy,hb⟩ h;rw [keyLt'_oneType];obtain ⟨k,its,n,ex,e,r⟩:=hx;obtain ⟨k2,its2,n2,ey,e2,r2⟩:=hy;rw [ex,ey];exact J8R (by omega) e e2 (J9C (show A.units+1+2<cLine by omega) r r2 (hL.1 as ha) (hL.1 bs hb) (hL.2 as ha bs hb)) (h _)
theorem kind_lists {keys:Array Value}{Q:SortKind->Shared->Prop}(hk:∀ v∈keys.toList,∃ ks,J68 s.heap v ks)(h2:2<=keys.size)(h:Q oneType' s):wpAny (model prog w) A (keyKind' keys) Q E s:=by
 have ty:∀ v∈keys.toList,s.TypeIs v "list":=fun v hv=>by
  obtain ⟨ks,k,its,n,rfl,e,_⟩:=hk v hv;exact J36 e
 obtain ⟨l⟩:=keys
 match l,h2,ty with
 | x :: y::l,h2,ty =>
   rw [keyKind'_eq,mapM_toArray];refine zq (zq (J69 (b:=none) (fun v hv Q' q=>?_) (zr ?_)))
   ·show wpAny _ _ (typeOf v >>= fun t=>if t != .type "tuple" then pure none else _) _ _ _
    refine zq (wpAny_typeOf (ty v hv) ?_);rw [zu (by decide)];exact zr q
   ·rw [zt (by simp),zt (by simp)]
    refine zq ?_;rw [oneTypeOnly'_eq,mapM_toArray];refine zq (zq (J69 (b:=Value.type "list") (fun v hv Q' q=>wpAny_typeOf (ty v hv) q) (zr ?_)));have h0:((x::y::l).map fun _=>Value.type "list").toArray[0]?=some (Value.type "list"):=by simp
    rw [h0];have hall:(((x::y::l).map fun _=>Value.type "list").toArray.all fun z=>z == Value.type "list")=true:=by
     simp only [all_toArray,all_map,all_eq_true];intro _ _;rfl
    simp only [hall,if_true];exact zr (zr h)
theorem Jfd {a kS:Addr}{vs:List Value}{keys:Array Value}{L:List (List Jq)}{e e1:Nat}{P:PySem.Fin->Shared->Prop}(hu:A.units+3<cLine)(hL:J2U L)(ha:s.heap.get? a=some (seqObj "list" #[] e1))(hk:s.heap.get? kS=some (seqObj "list" keys e))(hka:kS≠a)
 (hi:∀ v∈keys.toList,∃ ks,J68 s.heap v ks/\ks∈L) (hl:keys.size=vs.length) (h1000:vs.length<=1000)
 (h:∀ (h':Heap) tk e2 (ps:List (Value×Value)),(∀ b o,b≠a->b≠kS->s.heap.get? b=some o->h'.get? b=some o)->(∀ p∈ps,p∈keys.toList.zip vs)->ps.length=vs.length->h'.get? a=some (seqObj "list" (ps.map (·.2)).toArray e2)->(∃ o,h'.get? kS=some o)->P (.done (.ret .none)) { s with heap:=h',toks:=tk }) :
 wpAny (model prog w) A (ksk_end a false vs.toArray e1 (.ref kS) keys) P E s:=by
 have tail:∀ st:SortSt,failedOf st=none->(∀ p∈(arrOf st).toList,p∈keys.toList.zip vs)->(arrOf st).size=vs.length->wpAny (model prog w) A (ksk_tail a false e1 (.ref kS) st) P E s:=fun st hf hp hup=>by
  have s1:=Heap.SameBut.update s.heap kS (Obj.mapSeq fun _=>(#[]:Array Value));have na1:(s.heap.update kS (Obj.mapSeq fun _=>(#[]:Array Value))).get? a=some (seqObj "list" #[] e1):=(s1.2 a hka.symm).trans ha;have nk1:=get?_update_seq hk (fun _=>(#[]:Array Value));have hsz:((arrOf st).map (·.2)).size=vs.length:=by
   rw [Array.size_map];exact hup
  unfold ksk_tail;dsimp only;refine zq (listUpdate_at hk rfl ?_ (by rw [hl,sizeLine_eq];omega) (zF _));refine zq (wpAny_letGo ?_);refine zq (seqEpoch_at na1 rfl ?_);refine zq (listUpdate_at na1 rfl ?_ (zF _) (by simp only [Bool.false_eq_true,if_false];rw [hsz,sizeLine_eq];omega));rw [hf];simp only [bne_self_eq_false,Bool.false_eq_true,if_false];have s2:=Heap.SameBut.update (s.heap.update kS (Obj.mapSeq fun _=>(#[]:Array Value))) a (Obj.mapSeq fun _=>(arrOf st).map (·.2));obtain ⟨e2,he2⟩:∃ e2,((s.heap.update kS (Obj.mapSeq fun _=>(#[]:Array Value))).update a (Obj.mapSeq fun _=>(arrOf st).map (·.2))).get? a=some (seqObj "list" ((arrOf st).map (·.2)) e2):=⟨_,get?_update_seq na1 _⟩;have ea:(((arrOf st).toList.map (·.2)).toArray:Array Value)=(arrOf st).map (·.2):=by apply Array.ext';simp
  exact zr (h _ _ e2 (arrOf st).toList (fun b o hb hb2 eb=>(s2.2 b hb).trans ((s1.2 b hb2).trans eb)) hp (by rw [zI];exact hup) (by rw [ea];exact he2) ⟨_,(s2.2 kS hka).trans nk1⟩)
 have hz:(keys.zip vs.toArray).toList=keys.toList.zip vs:=by simp
 unfold ksk_end;simp only [Bool.false_eq_true,if_false];by_cases h2:vs.toArray.size<2
 ·rw [zu h2,zu h2]
  refine zq (zr ?_);rw [StateT.run_pure];refine zq (zr ?_);dsimp only;exact tail _ rfl (fun p hp=>by rw [<- hz];exact hp) (by show (keys.zip vs.toArray).size=_;rw [Array.size_zip,hl];simp)
 ·rw [zt h2,zt h2]
  refine zq (kind_lists (fun v hv=>let ⟨ks,x,_⟩:=hi v hv;⟨ks,x⟩) (by rw [hl];simp at h2;omega) ?_);have hA:∀ p∈(keys.zip vs.toArray).toList,(∃ ks,J68 s.heap p.1 ks/\ks∈L)/\p∈keys.toList.zip vs:=fun p hp=>by
   rw [hz] at hp;exact ⟨hi p.1 (of_mem_zip hp).1,hp⟩
  have C:J4t prog w A s oneType' (fun p=>(∃ ks,J68 s.heap p.1 ks/\ks∈L)/\p∈keys.toList.zip vs):=fun E x y Q hx hy h=>Jff hu hL E x y Q hx.1 hy.1 h;refine zq (wpAny_mono (tim_sortRuns C (N:=vs.length) (st:=SortSt.mk' oneType' (keys.zip vs.toArray) #[] 7 none) (Q:=fun _ st'=>failedOf st'=none/\(∀ p∈(arrOf st').toList,p∈keys.toList.zip vs)/\(arrOf st').size=vs.length) rfl rfl ⟨⟨hA⟩,by show (keys.zip vs.toArray).size=_;rw [Array.size_zip,hl];simp⟩ rfl fun st' a1 a2=>⟨a2,fun p hp=>(a1.el p hp).2,a1.sz⟩) ?_ fun _ _ e=>e);rintro ⟨⟨⟩,st'⟩ s' ⟨rfl,hf,hp,hup⟩;exact tail st' hf hp hup
end
def DictEs (h:Heap)(d:Addr)(es:Array DictEntry)(ep:Nat):Prop:=∃ o,h.get? d=some o/\o.ExactDict/\o.data=.dict es ep
section
variable {prog:Program}{w:World}{A:Around}{E:Value->Shared->Prop}{s:Shared}{d:Addr}{es:Array DictEntry}{ep:Nat}
theorem DictEs.typeIs (x:DictEs s.heap d es ep):s.TypeIs (.ref d) "dict":=let ⟨o,e,c,_⟩:=x;⟨o,e,c.1⟩
theorem Jdc {Q:Value->Shared->Prop}(hd:(d == sysModules)=false)(hm:DictEs s.heap d es ep)
 (q:Q (.ref s.heap.objs.size) { s with heap:=s.heap.push { cls:=.type "dict_keyiterator",data:=.fields #[.ref d,.int 0 0,.int es.size 0,.int ep 0] } }):wpAny (model prog w) A (pyIter (.ref d)) Q E s:=by
 obtain ⟨o,g1,g2,g3⟩:=id hm;have ty:=hm.typeIs;refine wpAny_pyIter_slot ty F.slot_dict_iter (wpAny_call_entry F.slot_dict_iter ty F.entry_dict_iter ?_ (F.args_dict_iter_1 _));unfold Builtin.«dict.__iter__»;refine zq ?_;unfold Builtin.Dict.dictSlotNone;refine zq (wpAny_notOrdered_dict ty (zr ?_));show wpAny _ _ (Builtin.Dict.showsAll d >>= _) _ _ s;unfold Builtin.Dict.showsAll;rw [zt (fun z=>by rw [hd] at z;cases z)];refine zq (zr (zq (wpAny_dictEntries g1 g3 (zq (wpAny_dictEpoch g1 g3 ?_)))));refine zq (wpAny_newObj_type (zr ⟨_,rfl,"dict_keyiterator",_,⟨_,qi _ rfl,rfl⟩,F.slot_dict_keyiterator_next.lookup,?_⟩));simpa [rawInt] using q
theorem Jdb {it:Addr}{i:Nat}{Q:Option Value->Shared->Prop}(t:s.heap.IsKeyIter it d i es.size ep)(hm:DictEs s.heap d es ep)(hi:i<es.size)(en:DictEntry)(hx:es[i]?=some en)
 (q:∀ h',h'.IsKeyIter it d (i+1) es.size ep->Heap.SameBut it s.heap h'->Q (some en.key) { s with heap:=h' }):wpAny (model prog w) A (pyNext (.ref it)) Q E s:=by
 obtain ⟨oi,g1,g2,g3⟩:=id t;obtain ⟨o,f1,f2,f3⟩:=id hm;have ty:=t.typeIs;have sl:=F.slot_dict_keyiterator_next;unfold pyNext;refine zq (wpAny_attempt (wpAny_callSpecial?_slot (name:=Str.ofString "__next__") ty sl (wpAny_call_entry sl ty F.entry_dict_keyiterator_next ?_ (F.args_dict_keyiterator_next_1 _))));refine zq (zr (zq (zq ?_)))
 first | refine zq (wpAny_typeNameOfWhole_keyiter ty (zr ?_)) | refine zq (wpAny_typeNameOf_keyiter ty (zr ?_))
 refine zq (wpAny_fieldsOf g1 g3 ?_);have ow:Builtin.Dict_items.ownsTuple "dict_keyiterator"=false:=by decide
 simp only [ow,Bool.false_eq_true,if_false];show wpAny _ _ (if (Value.ref d == Value.none)=true then _ else _) _ _ s;rw [zt (fun z:(Value.ref d == Value.none)=true=>by cases z)];refine zq (zr (zq (wpAny_dictEntries f1 f3 ?_)));rw [zt (by simp)];refine zq (zr (zq (wpAny_dictEpoch f1 f3 ?_)));rw [zt (by simp)];refine zr ?_;have e0:es[i]=en:=zA ((Array.getElem?_eq_getElem hi).symm.trans hx);simp only [show ¬ ((i:Int)<0) from by omega,if_false,Int.toNat_natCast,hx];refine zq ?_
 first | refine zq (wpAny_typeNameOfWhole_keyiter ty (zr ?_)) | refine zq (wpAny_typeNameOf_keyiter ty (zr ?_))
 refine zq (wpAny_isOneOf_keyiter ty ?_);show wpAny _ _ (setField (.ref it) 1 (rawInt ((i:Int)+1)) >>= _) _ _ s;refine zq (wpAny_setField g1 g3 (by simp) ?_);have t2:(s.heap.update it (Obj.mapFields (·.setIfInBounds 1 (rawInt ((i:Int)+1))))).IsKeyIter it d (i+1) es.size ep :=
  ⟨_,Heap.get?_update_self _ g1 (Obj.isFreed_of_fields (Obj.data_mapFields g3 _)),(Obj.cls_mapFields ..).trans g2,by rw [Obj.data_mapFields g3];simp [rawInt]⟩
 refine zq (wpAny_holding (zq (wpAny_isOneOf_keyiter (s:={ s with heap:=s.heap.update it (Obj.mapFields (·.setIfInBounds 1 (rawInt ((i:Int)+1)))) }) t2.typeIs ?_)));show wpAny _ _ (pure en.key) _ _ _;exact zr (zr ⟨_,rfl,zr (q _ t2 (Heap.SameBut.update ..))⟩)
theorem Jeq {it:Addr}{Q:Option Value->Shared->Prop}(hh:A.handled=none)(t:s.heap.IsKeyIter it d es.size es.size ep)(hm:DictEs s.heap d es ep)
 (q:∀ h',Heap.ExtBut it s.heap h'->Q none { s with heap:=h' }):wpAny (model prog w) A (pyNext (.ref it)) Q E s:=by
 obtain ⟨oi,g1,g2,g3⟩:=id t;obtain ⟨o,f1,f2,f3⟩:=id hm;have ty:=t.typeIs;have sl:=F.slot_dict_keyiterator_next;unfold pyNext;refine zq (wpAny_attempt (wpAny_callSpecial?_slot (name:=Str.ofString "__next__") ty sl (wpAny_call_entry sl ty F.entry_dict_keyiterator_next ?_ (F.args_dict_keyiterator_next_1 _))));refine zq (zr (zq (zq ?_)))
 first | refine zq (wpAny_typeNameOfWhole_keyiter ty (zr ?_)) | refine zq (wpAny_typeNameOf_keyiter ty (zr ?_))
 refine zq (wpAny_fieldsOf g1 g3 ?_);have ow:Builtin.Dict_items.ownsTuple "dict_keyiterator"=false:=by decide
 simp only [ow,Bool.false_eq_true,if_false];show wpAny _ _ (if (Value.ref d == Value.none)=true then _ else _) _ _ s;rw [zt (fun z:(Value.ref d == Value.none)=true=>by cases z)];refine zq (zr (zq (wpAny_dictEntries f1 f3 ?_)));rw [zt (by simp)];refine zq (zr (zq (wpAny_dictEpoch f1 f3 ?_)));rw [zt (by simp)];refine zr ?_;simp only [show ¬ ((es.size:Int)<0) from by omega,if_false,Int.toNat_natCast,Array.getElem?_eq_none (zv _)];refine zq ?_
 first | refine zq (wpAny_typeNameOfWhole_keyiter ty (zr ?_)) | refine zq (wpAny_typeNameOf_keyiter ty (zr ?_))
 show wpAny _ _ (setField (.ref it) 0 .none >>= _) _ _ s;refine zq (wpAny_setField g1 g3 (by simp) ?_);show wpAny _ _ (newExc (.type "StopIteration") [] >>= _) _ _ _;refine zq ?_;simp only [newExc,newTuple];refine zq (wpAny_newObj_type ?_ (by size_fits));refine zq (m:=firstArgMember _ _) (wpAny_of_eq (a:=Value.none) (by first | rfl | (simp only [firstArgMember];rfl)) (wpAny_newObj_type ?_ (by size_fits)));simp only [raiseNew];refine zq (wpAny_handled ?_);rw [(hh:A.in1.handled=none)];refine zq (zr ?_);refine wpAny_throw ?_;refine zq (wpAny_isInstance (b:=true) (T:="StopIteration") ⟨_,qi _ rfl,rfl⟩ isSubtype_stop ?_);exact zr (q _ (((Heap.SameBut.update ..).extBut.push _).push _))
theorem DictEs.ext {h h':Heap}{b:Addr}(x:DictEs h d es ep)(k:Heap.ExtBut b h h')(hb:d≠b):DictEs h' d es ep:=let ⟨o,e,r⟩:=x;⟨o,k d o hb e,r⟩
theorem DictEs.at {h h':Heap}(x:DictEs h d es ep)(k:∀ o,h.get? d=some o->h'.get? d=some o):DictEs h' d es ep:=let ⟨o,e,r⟩:=x;⟨o,k o e,r⟩
theorem DictEs.lt {h:Heap}(x:DictEs h d es ep):d<h.objs.size:=let ⟨_,e,_⟩:=x;qj e
theorem es_src (lo:(d == sysModules)=false):KdlSrc prog w "dict" d d es.size (fun i v=>∃ en,es[i]?=some en/\v=en.key) (fun h=>DictEs h d es ep) where
 type:=fun _ x=>x.typeIs
 there:=fun _ x=>⟨x.lt,x.lt⟩
 keep:=fun _ _ x k=>x.at fun o e=>k d (.inl rfl) o e
 notList:=by decide
 notTuple:=by decide
 hint:=fun _ _ _ _ x q=>kdl_hint_dict x.typeIs q
 iter:=fun A s hh x=>by
  have hne:d≠s.heap.objs.size:=zB x.lt;refine ⟨_,fun i h=>h.IsKeyIter s.heap.objs.size d i es.size ep/\DictEs h d es ep,fun _ _ q=>Jdc lo x q,?_,⟨⟨_,qi _ rfl,rfl,rfl⟩,x.at fun o e=>qh _ e⟩⟩;exact {
   sub:=fun b hb=>zU.mpr (.inl (zM.mp hb))
   frame:=fun i h h' st k=>⟨let ⟨o,e,r⟩:=st.1;⟨o,k _ (by simp) o e,r⟩,st.2.at fun o e=>k d (by simp) o e⟩
   item:=fun i s' Q E hi st q=>by
    refine Jdb st.1 st.2 hi es[i] (Array.getElem?_eq_getElem hi) fun h' t2 sb=>?_;exact q _ h' s'.toks ⟨_,Array.getElem?_eq_getElem hi,rfl⟩ ⟨t2,st.2.ext sb.extBut hne⟩ fun b o hb e=>sb.extBut b o (fun z=>hb (by simp [z])) e
   done:=fun s' Q E st q=>Jeq hh st.1 st.2 fun h' x'=>q h' s'.toks fun b o hb e=>x' b o (fun z=>hb (by simp [z])) e
   self:=fun i s' Q E st q=>wpAny_pyIter_keyiter st.1 q }
end
def Prs (H:Hp)(us:List V)(ks:List Jq):Prop:=Paired (fun (u:V) (k:Jq)=>∃ p,u=.ref p/\H p=some (.tup (prV k))) us ks
theorem Prs.mono {H H':Hp}{us:List V}{ks:List Jq}(s:Same H H')(h:Prs H us ks):Prs H' us ks:=Paired.mapP h fun _ _ ⟨p,e,q⟩=>⟨p,e,s _ _ q⟩
def KeyV (H:Hp)(v:V)(ks:List Jq):Prop:=∃ l us,v=.ref l/\H l=some (.lst us)/\Prs H us ks
theorem KeyV.mono {H H':Hp}{v:V}{ks:List Jq}(s:Same H H')(h:KeyV H v ks):KeyV H' v ks:=let ⟨l,us,e,a,b⟩:=h;⟨l,us,e,s _ _ a,b.mono s⟩
theorem Jb7 {P:Program}{w:World}{H:Hp}{h:Heap}(ok:HOk P w H h):∀ {us:List V} {ks:List Jq} {its:List Value},Prs H us ks->Vals us its->Paired (PrAt h) its ks
 | _,_,_,.nil,.nil=>.nil
 | _,_,_,.cons ⟨p,e,q⟩ t,.cons r t'=>by
   subst e;refine .cons ?_ (Jb7 ok t t');obtain ⟨_,its,rv,tp⟩:=(show ObjOk P w H h p (.tup _) from ok p _ q);exact ⟨p,its,r,tp,rv⟩
theorem KeyV.is {P:Program}{w:World}{H:Hp}{h:Heap}{v:V}{u:Value}{ks:List Jq}(ok:HOk P w H h)(x:KeyV H v ks)(r:RelV v u):J68 h u ks:=by
 obtain ⟨l,us,rfl,e,q⟩:=x;obtain ⟨_,its,n,rv,g⟩:=(show ObjOk P w H h l (.lst us) from ok l _ e);exact ⟨l,its.toArray,n,r,g,by simpa using Jb7 ok q rv⟩
section
variable {X:Cx}{pins:List (Addr×Obj)}{σ:St}{s:Shared}{E:Value->Shared->Prop}
def Jcg (X:Cx)(pins:List (Addr×Obj))(σ:St)(H0:Hp)(A:Around)(f:Value)(vs:List Value)(kss:List (List Jq)):Prop :=
 ∀ (i:Nat) v ks,vs[i]?=some v->kss[i]?=some ks->∀ (pl:List (Addr×Obj)) (H:Hp) (s':Shared),Same H0 H->Inv X (pins++pl) σ H s' ->
   wpAny (model X.prog X.w) A (call f [v]) (fun u s''=>∃ H' x,Same H H'/\Inv X (pins++pl) σ H' s''/\RelV x u/\KeyV H' x ks) (fun _ _=>False) s'
def KeysV (H:Hp)(us:List Value)(kss:List (List Jq)):Prop:=Paired (fun (u:Value) (ks:List Jq)=>∃ x,RelV x u/\KeyV H x ks) us kss
theorem KeysV.mono {H H':Hp}{us:List Value}{kss:List (List Jq)}(s:Same H H')(h:KeysV H us kss):KeysV H' us kss:=Paired.mapP h fun _ _ ⟨x,r,q⟩=>⟨x,r,q.mono s⟩
theorem restT {A:Around}{f:Value}{a kS:Addr}{vs:List Value}{kss:List (List Jq)}{H:Hp}{e1:Nat}{P:PySem.Fin->Shared->Prop}(hu:A.units+3<cLine)(hL:J2U kss)(I:Inv X pins σ H s)
 (ha:s.heap.get? a=some (seqObj "list" #[] e1)) (hk:s.heap.get? kS=some (seqObj "list" #[] 0)) (hka:kS≠a) (fa:J2N X pins H a) (fk:J2N X pins H kS) (hl:kss.length=vs.length) (h1000:vs.length<=1000) (KO:Jcg X pins σ H A f vs kss)
 (h:∀ s' Hn,Same H Hn->Inv X pins σ Hn s'->Hn a=none->Hn kS=none->(∃ o,s'.heap.get? a=some o)->∀ (keys:Array Value),KeysV Hn keys.toList kss->∀ h' tk e2 (ps:List (Value×Value)),(∀ b o,b≠a->b≠kS->s'.heap.get? b=some o->h'.get? b=some o)->(∃ o,h'.get? kS=some o)->(∀ p∈ps,p∈keys.toList.zip vs)->ps.length=vs.length->h'.get? a=some (seqObj "list" (ps.map (·.2)).toArray e2)->P (.done (.ret .none)) { s' with heap:=h',toks:=tk }) :
 wpAny (model X.prog X.w) A (ksk_rest a f false vs.toArray e1 (.ref kS)) P E s:=by
 unfold ksk_rest;refine zq (wpAny_rule ?_);rw [forIn_toArray];refine zq (ksk_fold (fun i s'=>∃ kA e Hi,Same H Hi/\Inv X pins σ Hi s'/\Hi a=none/\Hi kS=none/\s'.heap.get? a=some (seqObj "list" #[] e1)/\s'.heap.get? kS=some (seqObj "list" kA e)/\KeysV Hi kA.toList (kss.take i)) vs 0 s
  ⟨#[],0,H,Same.refl _,I,fa.1,fk.1,ha,hk,by simpa [KeysV] using Paired.nil⟩ ?step ?done)
 case step =>
  rintro j x s' hx ⟨kA,e,Hi,sm,J,nA,nK,na,nk,hi⟩;simp only [Nat.zero_add] at hi ⊢;have hj:j<vs.length:=(zK.mp hx).1;obtain ⟨ks,hkj⟩:∃ ks,kss[j]?=some ks:=⟨_,zJ (by omega)⟩;have hz:kA.size<=vs.length:=by
   have h1:=Paired.length hi;rw [zI,zR] at h1;omega
  have J2:Inv X (pins++[(a,seqObj "list" #[] e1),(kS,seqObj "list" kA e)]) σ Hi s':=J.pins_of fun p hp=>by
   rcases zZ.mp hp with hp | hp
   ·exact J.pin p (z0 _ hp)
   ·rcases zU.mp hp with rfl | hp
    ·exact ⟨na,nA,fa.2.1,fa.2.2.1,fun v=>by simp [seqObj]⟩
    ·rw [zM.mp hp]
     exact ⟨nk,nK,fk.2.1,fk.2.2.1,fun v=>by simp [seqObj]⟩
  refine zq (wpAny_attempt (wpAny_mono (KO j x ks hx hkj _ Hi s' sm J2) (fun u s'' he=>?_) fun _ _ hF=>hF.elim));obtain ⟨H',y,sm2,J3,ry,ky⟩:=he;dsimp only;have p1:=J3.pin (a,seqObj "list" #[] e1) (z0 _ (z0 _ (.head _)));have p2:=J3.pin (kS,seqObj "list" kA e) (z0 _ (z0 _ (.tail _ (.head _))));have na3:=p1.1;have nk3:=p2.1;have J4:Inv X pins σ H' s'':=J3.unpinned;have s1:=Heap.SameBut.update s''.heap kS (Obj.mapSeq (·.push u));obtain ⟨c2,hc2⟩:∃ c2,(s''.heap.update kS (Obj.mapSeq (·.push u))).get? kS=some (seqObj "list" (kA.push u) c2):=⟨_,get?_update_seq nk3 (·.push u)⟩;have ek:kss.take (j+1)=kss.take j++[ks]:=by rw [take_add_one,hkj];simp
  have ea:(kA.push u).toList=kA.toList++[u]:=by simp
  refine zq (listUpdate_at nk3 rfl ?_ (by rw [sizeLine_eq];omega) (zG (Nat.le_of_eq (Array.size_push ..)) (by rw [sizeLine_eq];omega)));have kp:∀ b o,b≠kS->s''.heap.get? b=some o->(s''.heap.update kS (Obj.mapSeq (·.push u))).get? b=some o:=fun b o hb eb=>(s1.2 b hb).trans eb;exact zr ⟨rfl,kA.push u,c2,H',sm.trans sm2,J4.turned (t':=s''.toks) kp p2.2.1 fk.2.1 fk.2.2.2.1 fk.2.2.2.2.1 fk.2.2.2.2.2,p1.2.1,p2.2.1,kp _ _ hka.symm na3,hc2,by rw [ea,ek];exact Paired.snoc (hi.mono sm2) ⟨y,ry,ky⟩⟩
 case done =>
  rintro s' ⟨kA,e,Hi,sm,J,nA,nK,na,nk,hi⟩;have e3:kss.take (0+vs.length)=kss:=take_of_length_le (by omega);rw [e3] at hi;have hsz:kA.size=vs.length:=by
   have h1:=Paired.length hi;rw [zI] at h1;omega
  refine zq (listItems_at nk rfl ?_);refine Jfd hu hL na nk hka (fun v hv=>?_) hsz h1000 fun h' tk e2 ps kp pp up ga gk=>h s' Hi sm J nA nK ⟨_,na⟩ kA hi h' tk e2 ps kp gk pp up ga;obtain ⟨i,hiv⟩:=qa.mp hv;have hil:=(zK.mp hiv).1;have hlk:kA.toList.length=kss.length:=Paired.length hi;obtain ⟨ks,hks⟩:∃ ks,kss[i]?=some ks:=⟨_,zJ (by omega)⟩;have gp:∀ {us:List Value} {ls:List (List Jq)} (n:Nat) {u:Value} {k:List Jq},KeysV Hi us ls->us[n]?=some u->ls[n]?=some k->∃ x,RelV x u/\KeyV Hi x k:=by
   intro us ls n
   induction n generalizing us ls with
   | zero =>
     intro u k q h1 h2;cases q with
     | nil=>cases h1
     | cons r t=>cases h1;cases h2;exact r
   | succ n ih =>
     intro u k q h1 h2;cases q with
     | nil=>cases h1
     | cons r t=>exact ih t (by simpa using h1) (by simpa using h2)
  obtain ⟨x,rx,kx⟩:=gp i hi hiv hks;exact ⟨ks,kx.is J.hok rx,zP hks⟩
end
def TupsV (H:Hp)(ts:List V)(kss:List (List Jq)):Prop:=Paired (fun (x:V) (ks:List Jq)=>∃ b,x=.ref b/\H b=some (.tup (ks.map nV))) ts kss
theorem TupsV.mono {H H':Hp}{ts:List V}{kss:List (List Jq)}(s:Same H H')(h:TupsV H ts kss):TupsV H' ts kss:=Paired.mapP h fun _ _ ⟨b,e,q⟩=>⟨b,e,s _ _ q⟩
def JaX:Value->V
 | .ref b=>.ref b
 | _=>.non
section
variable {X:Cx}{pins:List (Addr×Obj)}{σ:St}{H:Hp}{s:Shared}{E:Value->Shared->Prop}
theorem sorted_dT {d q:Addr}{kvs:List (List Jq×V)}{Q:VK}(I:Inv X pins σ H s)(hex:X.ex=[])(hc:X.calm=true)(hu:X.A.units+8<cLine)(hd:H d=some (.dT kvs))(h1000:kvs.length<=1000)(hL:J2U (kvs.map (·.1)))
 (KO:∀ vs,vs.length=kvs.length->(∀ (i:Nat) v ks,vs[i]?=some v->(kvs.map (·.1))[i]?=some ks->∃ b,v=.ref b/\H b=some (.tup (ks.map nV)))->Jcg X pins σ H X.A.in1.in1 (.ref q) vs (kvs.map (·.1)))
 (hQ:∀ Hn D ts kss,Same H Hn->Hn D=none->TupsV Hn ts kss->Q (.ref D) (upd Hn D (.lst ts))) :
 wpAny (model X.prog X.w) X.A (call (.builtin "sorted") [.ref d] [(Str.ofString "key",.ref q)]) (EP X pins σ Q) E s:=by
 obtain ⟨_,lo,xs,kt,o,es,ep,g1,g2,g3,g4,_,nd⟩:=JbO I.hok hd;have hxl:xs.length=kvs.length:=kt.length.symm;have hel:es.size=kvs.length:=by rw [<- zI,g4,zL,hxl]
 refine call_function_entry_kw kind_sorted plain_sorted entry_sorted (ksk_s1 _ _) ?_;unfold Builtin.«sorted»;refine zq (m:=checkCount "sorted" 1 1 _) (zr ?_);refine zq (J4g (es_src (es:=es) (ep:=ep) lo) (I.ok.hd hc) ⟨o,g1,g2,g3⟩ (by rw [hel,sizeLine_eq];omega) fun h1 tk acc hk hsz hacc=>?_);have hvl:acc.toList.length=kvs.length:=by rw [zI,hacc.1,hel]
 have hvs:∀ (i:Nat) v ks,acc.toList[i]?=some v->(kvs.map (·.1))[i]?=some ks->∃ b,v=.ref b/\H b=some (.tup (ks.map nV)):=by
  intro i v ks hv hks;obtain ⟨en,he,rfl⟩:=hacc.2 i v (by rw [<- Array.getElem?_toList];exact hv);rw [entry_at g4] at he;obtain ⟨x,hx,rfl⟩:=Option.map_eq_some_iff.mp he;have all:∀ {l:List (List Jq×V)} {m:List (List Jq×Addr×Value)} (i:Nat) {x:List Jq×Addr×Value} {ks:List Jq},KT H l m->m[i]?=some x->(l.map (·.1))[i]?=some ks->H x.2.1=some (.tup (ks.map nV)):=by
   intro l m i
   induction i generalizing l m with
   | zero =>
     intro x ks z h1 h2;cases z with
     | nil=>cases h1
     | cons z _=>cases h1;cases h2;exact z.2.1
   | succ i ih =>
     intro x ks z h1 h2;cases z with
     | nil=>cases h1
     | cons z t=>exact ih t (by simpa using h1) (by simpa using h2)
  exact ⟨x.2.1,rfl,all i kt hx hks⟩
 generalize acc.toList=vs at *;refine zq (wpAny_newList ?_ (hsz:=by rw [sizeLine_eq];omega));have hoL:(h1.push (seqObj "list" vs.toArray 0)).get? h1.objs.size=some (seqObj "list" vs.toArray 0):=qi _ rfl;have hsL:(h1.push (seqObj "list" vs.toArray 0)).objs.size=h1.objs.size+1:=Heap.size_push ..;have kL:∀ b o,s.heap.get? b=some o->(h1.push (seqObj "list" vs.toArray 0)).get? b=some o:=fun b o e=>qh _ (hk b o e);show wpAny _ _ _ _ _ { s with heap:=h1.push (seqObj "list" vs.toArray 0),toks:=tk };generalize h1.push (seqObj "list" vs.toArray 0)=h2 at *;have haz:s.heap.objs.size<=h1.objs.size:=Nat.le_of_lt hsz;refine zq (wpAny_holding (wpAny_call_entry_kw slot_list_sort ⟨_,hoL,rfl⟩ entry_list_sort ?body (ksk_l1 _ _)))
 case body =>
  show wpAny (model X.prog X.w) X.A.in1.in1 (Builtin.«list.sort» ⟨[.ref h1.objs.size],[(Str.ofString "key",.ref q)]⟩) _ _ _;rw [ksk_t1];unfold ksk_tree;refine zq (listItems_at hoL rfl ?_);refine zq (listUpdate_at hoL rfl ?_ (by rw [zN,sizeLine_eq];omega) (zF _));obtain ⟨e1,ho1⟩:∃ e1,(h2.update h1.objs.size (Obj.mapSeq fun _=>(#[]:Array Value))).get? h1.objs.size=some (seqObj "list" #[] e1):=⟨_,get?_update_seq hoL fun _=>#[]⟩;have s3:(h2.update h1.objs.size (Obj.mapSeq fun _=>(#[]:Array Value))).objs.size=h1.objs.size+1:=by rw [Heap.size_update,hsL]
  have k3:∀ b o,s.heap.get? b=some o->(h2.update h1.objs.size (Obj.mapSeq fun _=>(#[]:Array Value))).get? b=some o:=fun b o e=>(qk _ _ (Nat.ne_of_gt (zE (qj e) haz))).trans (kL b o e);refine zq (seqEpoch_at ho1 rfl ?_);generalize h2.update h1.objs.size (Obj.mapSeq fun _=>(#[]:Array Value))=h3 at *;refine zq (wpAny_newTuple ?_ (by show vs.length<=_;rw [sizeLine_eq];omega));have ho4:(h3.push (seqObj "tuple" vs.toArray 0)).get? h1.objs.size=some (seqObj "list" #[] e1):=qh _ ho1;have s4:(h3.push (seqObj "tuple" vs.toArray 0)).objs.size=h1.objs.size+2:=by rw [Heap.size_push,s3]
  have k4:∀ b o,s.heap.get? b=some o->(h3.push (seqObj "tuple" vs.toArray 0)).get? b=some o:=fun b o e=>qh _ (k3 b o e);show wpAny _ _ _ _ _ { s with heap:=h3.push (seqObj "tuple" vs.toArray 0),toks:=tk };generalize h3.push (seqObj "tuple" vs.toArray 0)=h4 at *;refine zq (wpAny_newList ?_ (zF _));have hoK:(h4.push (seqObj "list" #[] 0)).get? h4.objs.size=some (seqObj "list" #[] 0):=qi _ rfl;have ho5:(h4.push (seqObj "list" #[] 0)).get? h1.objs.size=some (seqObj "list" #[] e1):=qh _ ho4;have k5:∀ b o,s.heap.get? b=some o->(h4.push (seqObj "list" #[] 0)).get? b=some o:=fun b o e=>qh _ (k4 b o e);show wpAny _ _ _ _ _ { s with heap:=h4.push (seqObj "list" #[] 0),toks:=tk };generalize h4.push (seqObj "list" #[] 0)=h5 at *;refine wpAny_holding ?_;have hkz2:s.heap.objs.size<=h4.objs.size:=by rw [s4];omega
  have fa:J2N X pins H h1.objs.size:=I.fpOk haz (I.hok.fresh haz);have fk:J2N X pins H h4.objs.size:=I.fpOk hkz2 (I.hok.fresh hkz2);have I5:Inv X pins σ H { s with heap:=h5,toks:=tk }:=I.kept k5;have hka:h4.objs.size≠h1.objs.size:=by rw [s4];exact Nat.ne_of_gt (Nat.lt_add_of_pos_right (by decide))
  refine restT (s:={ s with heap:=h5,toks:=tk }) (show X.A.units+1+1+3<cLine by omega) hL I5 ho5 hoK hka fa fk (by rw [zL,hvl]) (by omega) (KO vs hvl hvs) fun s' Hn sm J nA nK _ keys kv h' tk' e2 ps kp _ pp up ga=>⟨_,rfl,?_⟩;have J2:Inv X pins σ Hn { s' with heap:=h',toks:=tk' }:=J.turnedL (ch:=[h1.objs.size,h4.objs.size]) (fun b o hb e=>by
   simp only [zU,not_mem_nil,or_false,not_or] at hb;exact kp b o hb.1 hb.2 e) fun b hb=>by
   rcases zU.mp hb with rfl | hb
   ·exact ⟨nA,fa.2⟩
   ·rw [zM.mp hb];exact ⟨nK,fk.2⟩
  have hln:s.heap.get? h1.objs.size=none:=Heap.get?_none_of_le haz;have hlk:keys.toList.length=(kvs.map (·.1)).length:=Paired.length kv;have at_:∀ (i:Nat) p,(keys.toList.zip vs)[i]?=some p->∃ (ks:List Jq) (b:Addr),p.2=.ref b/\Hn b=some (.tup (ks.map nV)):=by
   intro i p hp;rw [List.getElem?_zip_eq_some] at hp;have hil:=(zK.mp hp.1).1;obtain ⟨ks,hks⟩:∃ ks,(kvs.map (·.1))[i]?=some ks:=⟨_,zJ (by omega)⟩;obtain ⟨b,eb,hb⟩:=hvs i p.2 ks hp.2 hks;exact ⟨ks,b,eb,sm _ _ hb⟩
  have tups:∀ l:List (Value×Value),(∀ p∈l,p∈ps)->∃ kss,TupsV Hn (l.map fun p=>JaX p.2) kss/\Vals (l.map fun p=>JaX p.2) (l.map (·.2)):=by
   intro l
   induction l with
   | nil=>intro _;exact ⟨[],.nil,.nil⟩
   | cons p l ih =>
     intro hp;obtain ⟨kss,i1,i2⟩:=ih fun z hz=>hp z (zS _ hz);obtain ⟨i,hi⟩:=qa.mp (pp p (hp p zT));obtain ⟨ks,b,e,hb⟩:=at_ i p hi;refine ⟨ks::kss,.cons ⟨b,by show JaX p.2=_;rw [e];rfl,hb⟩ i1,.cons ?_ i2⟩;show RelV (JaX p.2) p.2;rw [e];rfl
  obtain ⟨kss,t1,t2⟩:=tups ps fun _ z=>z;have hpl:ps.length<=1000:=by rw [up,hvl];omega
  refine zr ⟨_,rfl,.ref h1.objs.size,upd Hn h1.objs.size (.lst (ps.map fun p=>JaX p.2)),J2.hold (I.cov hex) hln nA ?_,rfl,hQ _ _ _ _ sm nA t1⟩;exact ⟨by rw [zL,sizeLine_eq];omega,ps.map (·.2),e2,t2,ga⟩
end
def J6f (tk tv:TE):TE:=fun σ H Q=>∀ p,H p=none->tk σ (upd H p (.dT [])) fun x H1=>tv σ H1 fun y H2=>H2 p=some (.dT [])/\∃ b,∃ ks:List Jq,x=.ref b/\H2 b=some (.tup (ks.map nV))/\Q (.ref p) (upd H2 p (.dT [(ks,y)]))
def JdB (p:Addr)(Q:VK):List (V×V)->Hp->Prop
 | [(x,y)],H2=>H2 p=some (.dT [])/\∃ b,∃ ks:List Jq,x=.ref b/\H2 b=some (.tup (ks.map nV))/\Q (.ref p) (upd H2 p (.dT [(ks,y)]))
 | _,_=>False
section
variable {X:Cx}{pos:Pos}
theorem J9V {pins:List (Addr×Obj)}{σ:St}{H2:Hp}{s2:Shared}{E:Value->Shared->Prop}{p b:Addr}{ks:List Jq}{y:V}{u2:Value}{Q:VK}(hu:X.A.units+1<cLine)(I2:Inv X pins σ H2 s2)(e:H2 p=some (.dT []))(eb:H2 b=some (.tup (ks.map nV)))(r2:RelV y u2)(q2:Q (.ref p) (upd H2 p (.dT [(ks,y)]))) :
 wpAny (model X.prog X.w) X.A (storeAll p [(.ref b,u2)]) (fun _ s3=>EP X pins σ Q (.ref p) s3) E s2:=by
 obtain ⟨z,hd,xs,rel,dd⟩:=JbO I2.hok e;cases rel;unfold storeAll;rw [forIn_cons];refine zq (zq ?_);refine wpAny_dictSet_heap (hsz:=zF _) (show X.A.units<cLine by omega) (J3m I2.hok eb) dd fun h' dd' hs=>?_;refine zr ?_;dsimp only;rw [forIn_nil];refine zr ?_;obtain ⟨q,es,ep,hq,h2,h3,h4,_,h5⟩:=dd';have kt:KT H2 (J0k [] ks y) (storedH [] ks b u2):=KT.put .nil ks eb r2;refine ⟨.ref p,upd H2 p (.dT [(ks,y)]),?_,rfl,q2⟩;have hsz:(J0k ([]:List (List Jq×V)) ks y).length<=sizeLine:=by rw [sizeLine_eq];show 1<=_;omega
 refine J2T (ob:=.dT (J0k [] ks y)) I2 (by rw [e];exact True.intro) hs ⟨q,hq⟩ ⟨hsz,hd,_,kt.keeps fun c ys ec=>?_,q,es,ep,hq,h2,h3,h4,h5⟩;rw [Jh (J1w ec e (fun z=>nomatch z))];exact ec
theorem Jbd {k v:Expr}{tk tv:TE}(hu:X.A.units+1<cLine)(hk:PE X k tk)(hv:PE X v tv):PE X (.Dict [some k] [v] pos) (J6f tk tv):=by
 intro pins s σ H Q I q;have hn:=I.hok.fresh (zv s.heap.objs.size);have I1:=I.laid (a:=s.heap.objs.size) (o:=.dT []) (h':=s.heap.push { cls:=.type "dict",data:=.dict #[] }) (t':=s.toks) (fun _ _ q=>qh _ q) (zv _) (JbP s.heap I.big);refine wpAny_Dict_any rfl rfl (by simp) (by simp) ?_;have q1:J37 [(tk,tv)] σ (upd H s.heap.objs.size (.dT [])) (JdB s.heap.objs.size Q):=q _ hn;have pp:=(J1Y (pos:=pos) hk hv J6H) pins _ σ _ (JdB s.heap.objs.size Q) I1 q1;refine thn pp fun ws s2 ⟨ps,H2,I2,rel,h⟩=>?_;cases rel with
 | nil=>exact zH h
 | @cons x1 u1 xr ur r t =>
   cases t with
   | cons r3 t3=>exact zH h
   | nil =>
     obtain ⟨x,y⟩:=x1;obtain ⟨u,u2⟩:=u1;obtain ⟨r1,r2⟩:=r;obtain ⟨e,b,ks,ex,eb,q2⟩:=(show H2 s.heap.objs.size=some (.dT [])/\∃ b,∃ ks:List Jq,x=.ref b/\H2 b=some (.tup (ks.map nV))/\Q (.ref s.heap.objs.size) (upd H2 s.heap.objs.size (.dT [(ks,y)])) from h);have r1:RelV x u:=r1;have r2:RelV y u2:=r2;subst ex;cases (show u=Value.ref b from r1);exact J9V hu I2 e eb r2 q2
theorem Jcz {pins:List (Addr×Obj)}{σ:St}{H:Hp}{s:Shared}{Q:VK}{us:List Value}{vs:List V}{k:Nat}{f:Addr}{fd:FuncData}{ps:List Str}{sp:Sp}(F:FnOk X.prog X.w X.K X.mg X.base CX0 k f fd ps sp)(hr:Room (k+2) X.A)(hb:Binds X.K fd ps [])
 (I:Inv X pins σ H s) (r:Vals vs us) (h:sp vs H Q E0):wpAny (model X.prog X.w) X.A.in1.in1 (call (.ref f) us) (EP X pins σ Q) (fun _ _=>False) s:=by
 have hl:(us++([]:List Value)).length=ps.length:=by rw [append_nil,<- r.length];exact F.len _ _ _ _ h
 have bd:=hb s us I.kIn hl;rw [append_nil] at bd;refine wpAny_call (codeAny_mono (F.run X.A.in1.in1 X.stack s H ⟨us,[]⟩ us vs Q E0 hr.in1.in1 I.env0.in1.in1 bd r h) fun rr s' hq=>?_)
 match rr,hq with
 | .error e,hq=>exact hq.elim
 | .ok (.ret u),hq=>exact I.after hq
 | .ok .next,hq=>exact zH hq
 | .ok .brk,hq=>exact zH hq
 | .ok .cont,hq=>exact zH hq
def J6b (sp:Sp)(ta:TA):TE:=fun σ H Q=>ta σ H fun vs H1=>∃ d kvs,vs=[V.ref d]/\H1 d=some (.dT kvs)/\kvs.length<=1000/\J2U (kvs.map (·.1)) /\
 (∀ ks∈kvs.map (·.1),∀ H2 b,Same H1 H2->H2 b=some (.tup (ks.map nV))->sp [.ref b] H2 (fun v H3=>Same H2 H3/\KeyV H3 v ks) E0) /\
 ∀ Hn D ts kss,Same H1 Hn->Hn D=none->TupsV Hn ts kss->Q (.ref D) (upd Hn D (.lst ts))
theorem Jba {a:Expr}{ta:TA}{p pos kp np:Pos}{y:Str}{k:Nat}{f:Addr}{fd:FuncData}{ps:List Str}{sp:Sp}(F:FnOk X.prog X.w X.K X.mg X.base CX0 k f fd ps sp)(hr:Room (k+2) X.A)(hb:Binds X.K fd ps [])(hmy:X.mg y=some (.ref f))(hgy:Gl X y)(hdy:(y == ("__debug__":Str))=false)
 (hc:X.calm=true) (hex:X.ex=[]) (hg:Gl X "sorted") (hm:X.mg "sorted"=none) (hn:JJ a=true) (ha:PA X [a] ta) :
 PE X (.Call (.Name "sorted" p) [a] [⟨some "key",.Name y np,kp⟩] pos) (J6b sp ta):=by
 intro pins s σ H Q I h;refine wpAny_Call_Name_kw (J1P I hg hm (show bootBuiltins "sorted"=some (.builtin "sorted") from rfl) ?_);refine PyProof.Rows.callWith_kw (thn (ha pos pins s σ H _ I h) fun us s1 ⟨vs,H1,I1,r1,q1⟩=>?_) (by rw [JN hn];rfl) (by rw [JN hn];rfl);obtain ⟨d,kvs,rfl,hd,h1000,hL,hk,hq⟩:=q1;obtain ⟨u1,rfl,ru⟩:=J0w r1;cases (show u1=Value.ref d from ru);refine thn ((J6I (JdT hmy hgy hdy) J8N) pos pins s1 σ H1 (fun zs H2=>zs=[V.ref f]/\H2=H1) I1 ⟨rfl,rfl⟩) fun ws s2 ⟨zs,H2,I2,rz,ez,eH⟩=>?_;subst ez;subst eH;obtain ⟨w',rfl,rw'⟩:=J0w rz;cases (show w'=Value.ref f from rw');refine sorted_dT I2 hex hc (by have:=hr.un;omega) hd h1000 hL (fun vs hvl hvs i v ks hv hks pl Hi s' sm J=>?_) hq;obtain ⟨b,rfl,hb2⟩:=hvs i v ks hv hks;exact thn (Jcz (vs:=[.ref b]) F hr hb J (.cons rfl .nil) (hk ks (zP hks) Hi b sm (sm _ _ hb2))) fun u s3 ⟨x,H3,J3,rx,sm3,kx⟩=>⟨H3,x,sm3,J3,rx,kx⟩
end
end L2
namespace L2
open PySem PySem.Spec PyProof.Rows
section
variable {prog:Program}{w:World}{K:Type}[DecidableEq K](knd:PySem.KeyKind prog w K)
inductive ItemsT (h:Heap):List (List K)->List Value->Prop
 | nil:ItemsT h [] []
 | cons {ks:List K} {b:Addr} {kss:List (List K)} {vs:List Value}:IsTupleKey knd h ks b->ItemsT h kss vs->ItemsT h (ks::kss) (.ref b::vs)
def IsNest (h:Heap)(kss:List (List K))(a:Addr):Prop:=∃ ob its m,h.get? a=some ob/\ob.cls=.type "tuple"/\ob.data=.seq its m/\ItemsT knd h kss its.toList
variable {knd}
theorem ItemsT.inj {h:Heap}{x y:List (List K)}{vs:List Value}(hx:ItemsT knd h x vs)(hy:ItemsT knd h y vs):x=y:=by
 induction hx generalizing y with
 | nil=>cases hy;rfl
 | cons k1 _ ih =>
   cases hy with
   | cons k2 t2=>rw [k1.inj k2,ih t2]
theorem IsNest.ty {s:Shared}{kss:List (List K)}{a:Addr}(x:IsNest knd s.heap kss a):s.TypeIs (.ref a) "tuple":=by
 obtain ⟨ob,_,_,e,c,_⟩:=x;exact ⟨ob,e,c⟩
theorem IsNest.inj {h:Heap}{a:Addr}{x y:List (List K)}(hx:IsNest knd h x a)(hy:IsNest knd h y a):x=y:=by
 obtain ⟨o1,i1,m1,e1,_,d1,t1⟩:=hx;obtain ⟨o2,i2,m2,e2,_,d2,t2⟩:=hy;rw [e1] at e2;cases e2;rw [d1] at d2;cases d2;exact t1.inj t2
theorem ItemsT.keeps {h h':Heap}{d:Addr}{o:Obj}{es ep}(ho:h.get? d=some o)(hd:o.data=.dict es ep)(hs:Heap.SameBut d h h'){kss:List (List K)}{vs:List Value}(x:ItemsT knd h kss vs):ItemsT knd h' kss vs:=by
 induction x with
 | nil=>exact .nil
 | cons k _ ih=>exact .cons (k.keeps ho hd hs) ih
theorem IsNest.keeps {h h':Heap}{kss:List (List K)}{a d:Addr}{o:Obj}{es ep}(x:IsNest knd h kss a)(ho:h.get? d=some o)(hd:o.data=.dict es ep)(hs:Heap.SameBut d h h'):IsNest knd h' kss a:=by
 obtain ⟨ob,its,m,e,c,dd,t⟩:=x;have ne:a≠d:=fun z=>by
  subst z;rw [e] at ho;cases ho;rw [dd] at hd;cases hd
 exact ⟨ob,its,m,(hs.2 a ne).trans e,c,dd,t.keeps ho hd hs⟩
def J5a (knd:PySem.KeyKind prog w K)(kss:List (List K)):Int:=reduceHash (Builtin.Tuple.tupleHashOf (kss.map (tupleKeyHash knd)))
def J1v:List (List K)->Nat
 | []=>0
 | ks::kss=>J1v kss+(ks.length+1)
theorem J7V (kss:List (List K))(ks:List K):J1v (kss++[ks])=J1v kss+(ks.length+1):=by
 induction kss with
 | nil=>simp [J1v]
 | cons a t ih=>simp only [cons_append,J1v,ih];omega
variable {A:Around}{E:Value->Shared->Prop}{s:Shared}
theorem hash_nest {kss:List (List K)}{a:Addr}{Q:Int->Shared->Prop}(hu:A.units+1<cLine)(hk:IsNest knd s.heap kss a)(h:Q (J5a knd kss) { s with toks:=s.toks+(J1v kss+1) }):wpAny (model prog w) A (pyHash (.ref a)) Q E s:=by
 have hT:=hk.ty;obtain ⟨ob,its,m,e,_,dd,t⟩:=hk;refine PySem.W.pyHash_slot (T:="tuple") hT F.slot_tuple_hash F.entry_tuple_hash (F.args_tuple_hash_1 _) (beq_builtin_none _) (.inr (by omega)) ?_;show wpAny _ _ (Builtin.Tuple.tupleItemsOf (.ref a) >>= _) _ _ s;refine zq (wpAny_tupleItemsOf e dd (zq ?_));rw [<- Array.forIn_toList];refine wpAny_forIn_list _ (fun rest (b:Array Int) s'=>∃ p q,kss=p++q/\ItemsT knd s.heap q rest/\b.toList=p.map (tupleKeyHash knd)/\s'={ s with toks:=s.toks+J1v p }) _ ?_ ?_ _ _ ⟨[],kss,rfl,t,rfl,rfl⟩
 ·rintro x rest b s' ⟨p,q,rfl,tq,hb,rfl⟩
  cases tq with
  | @cons ks c kss' vs k1 tq' =>
    refine zq (wpAny_pyHash_tuple (A:=A.in1) (s:={ s with toks:=s.toks+J1v p }) hu k1 ?_);have fin:∃ p' q',p++ks::kss'=p'++q'/\ItemsT knd s.heap q' rest/\(b.push (tupleKeyHash knd ks)).toList=p'.map (tupleKeyHash knd)/\({ s with toks:=s.toks+J1v p+(ks.length+1) }:Shared)={ s with toks:=s.toks+J1v p' } :=
     ⟨p++[ks],kss',by simp,tq',by simp [hb],by rw [J7V,Nat.add_assoc]⟩
    first
     | exact zr fin
     | exact zq (zr (zr fin))
 ·rintro b s' ⟨p,q,rfl,tq,hb,rfl⟩
  cases tq;rw [append_nil] at h;show wpAny _ _ (retInt (Builtin.Tuple.tupleHashOf b.toList)) _ _ _;rw [hb];exact zq (wpAny_mkInt (zr ⟨_,_,rfl,by simpa [J5a,Nat.add_assoc] using h⟩))
theorem nest_eq_tree {x y:List (List K)}{a b:Addr}{P:Fin->Shared->Prop}(hu:A.units<cLine)(hx:IsNest knd s.heap x a)(hy:IsNest knd s.heap y b)(h:P (.done (.ret (.bool (decide (x=y))))) s) :
 wpAny (model prog w) A (Builtin.«tuple.__eq__» ⟨[.ref a,.ref b],[]⟩) P E s:=by
 have tb:=hy.ty;obtain ⟨oa,ia,na,ea,_,da,ta⟩:=hx;obtain ⟨ob,ib,nb,eb,_,db,tq⟩:=hy;show wpAny _ _ (isInstance (.ref b) (.type "tuple") >>= _) _ _ s;refine zq (wpAny_isInstance tb isSubtype_tuple_tuple ?_);simp only [Bool.not_true,Bool.false_eq_true,if_false];refine zq (wpAny_tupleItemsOf ea da (zq (wpAny_tupleItemsOf eb db (zq ?_))));refine wpAny_forIn_list _ (fun rest r s'=>r.1=none/\s'=s/\∃ p q u v,rest=List.zip u v/\ItemsT knd s.heap p u/\ItemsT knd s.heap q v/\decide (p=q)=decide (x=y)/\(u.length == v.length)=(ia.size == ib.size)) _ ?_ ?_ _ _ ⟨rfl,rfl,x,y,ia.toList,ib.toList,rfl,ta,tq,rfl,by simp⟩
 ·rintro ⟨u1,v1⟩ rest r s' ⟨hr,rfl,p,q,u,v,hz,hp,hq,hde,hln⟩
  cases hp with
  | nil=>simp at hz
  | @cons k1 c1 p' u' g1 hp' =>
    cases hq with
    | nil=>simp at hz
    | @cons k2 c2 q' v' g2 hq' =>
      simp only [zip_cons_cons,List.cons.injEq,Prod.mk.injEq] at hz;obtain ⟨⟨rfl,rfl⟩,rfl⟩:=hz;refine zq (wpAny_eqBool_tuple hu g1 g2 ?_);by_cases ek:k1=k2
      ·subst ek
       rw [zx rfl];simp only [Bool.not_true,Bool.false_eq_true,if_false];refine zr ⟨rfl,rfl,p',q',u',v',rfl,hp',hq',?_,by simpa using hln⟩;rw [<- hde];simp
      ·rw [zy ek]
       simp only [Bool.not_false,if_true];have ef:decide (x=y)=false:=by rw [<- hde];simp [ek]
       rw [ef] at h;exact zq (zr (zr (zr h)))
 ·rintro ⟨r1,r2⟩ s' ⟨hr,rfl,p,q,u,v,hz,hp,hq,hde,hln⟩
  simp only at hr;subst hr;have ef:(ia.size == ib.size)=decide (x=y):=by
   rw [<- hde,<- hln];cases hp with
   | nil =>
     cases hq with
     | nil=>simp
     | cons _ _=>simp
   | cons _ _ =>
     cases hq with
     | nil=>simp
     | cons _ _=>simp at hz
  refine zr ?_;show P (.done (.ret (.bool (ia.size == ib.size)))) s';rw [ef];exact h
theorem Jdd {x y:List (List K)}{a b:Addr}{Q:Bool->Shared->Prop}(hu:A.units+1<cLine)(hx:IsNest knd s.heap x a)(hy:IsNest knd s.heap y b)(h:Q (decide (x=y)) s):wpAny (model prog w) A (eqBool (.ref a) (.ref b)) Q E s:=by
 unfold eqBool
 try with_reducible refine wpAny_holding ?_
 by_cases c:a=b
 ·subst c
  obtain rfl:=hx.inj hy;show wpAny _ _ (if (Value.ref a == Value.ref a)=true then _ else _) Q E s;rw [zu (by simp)];exact zq (wpAny_rule (zr (by simpa using h)))
 ·show wpAny _ _ (if (Value.ref a == Value.ref b)=true then _ else _) Q E s
  rw [zt (fun z=>c (by have e:=eq_of_beq z;cases e;rfl))];exact zq (wpAny_richCompare_same_room (op:=.Eq) hx.ty hy.ty F.slot_tuple_eq (wpAny_call_entry F.slot_tuple_eq hx.ty F.entry_tuple_eq (nest_eq_tree (A:=A.in1) hu hx hy ⟨_,rfl,(fun z=>nomatch z),wpAny_truthy_bool h⟩) (F.args_tuple_eq_2 _ _)) (by omega))
theorem J8K {n:Nat}{ks:List K}{a:Addr}{Q:Bool->Shared->Prop}(hk:IsTupleKey knd s.heap ks a)(h:Q true s):wpAny (model prog w) A (eqIsQuiet (n+1) (.ref a)) Q E s:=by
 have hT:=hk.typeIs;obtain ⟨ob,its,m,e,_,dd,t⟩:=hk;unfold eqIsQuiet;refine zq (wpAny_specialOf hT F.slot_tuple_eq.lookup ?_);show wpAny _ _ (isInstance (.ref a) (.type "tuple") >>= _) _ _ s;refine zq (wpAny_isInstance hT isSubtype_tuple_tuple ?_);simp only [Bool.not_true,Bool.false_eq_true,if_false];refine zq (wpAny_seqItems e dd (zq ?_));show wpAny _ _ (forIn its _ _) _ _ s;rw [<- Array.forIn_toList];refine wpAny_forIn_list _ (fun rest r s'=>r.1=none/\s'=s/\∀ v∈rest,carriedByValue v=true) _ ?_ ?_ _ _ ⟨rfl,rfl,t.byValue⟩
 ·rintro v rest r s' ⟨hr,rfl,al⟩
  rw [eqIsQuiet_byValue _ (al v zT)];refine zq (zr ?_);simp only [Bool.not_true,Bool.false_eq_true,if_false];exact zr ⟨rfl,rfl,fun u hm=>al u (zS _ hm)⟩
 ·rintro ⟨r1,r2⟩ s' ⟨hr,rfl,_⟩
  simp only at hr;subst hr;exact zr h
theorem J8J {kss:List (List K)}{a:Addr}{Q:Bool->Shared->Prop}(hk:IsNest knd s.heap kss a)(h:Q true s):wpAny (model prog w) A (eqIsQuiet 8 (.ref a)) Q E s:=by
 have hT:=hk.ty;obtain ⟨ob,its,m,e,_,dd,t⟩:=hk;unfold eqIsQuiet;refine zq (wpAny_specialOf hT F.slot_tuple_eq.lookup ?_);show wpAny _ _ (isInstance (.ref a) (.type "tuple") >>= _) _ _ s;refine zq (wpAny_isInstance hT isSubtype_tuple_tuple ?_);simp only [Bool.not_true,Bool.false_eq_true,if_false];refine zq (wpAny_seqItems e dd (zq ?_));show wpAny _ _ (forIn its _ _) _ _ s;rw [<- Array.forIn_toList];refine wpAny_forIn_list _ (fun rest r s'=>r.1=none/\s'=s/\∃ q,ItemsT knd s.heap q rest) _ ?_ ?_ _ _ ⟨rfl,rfl,kss,t⟩
 ·rintro v rest r s' ⟨hr,rfl,q,tq⟩
  cases tq with
  | cons k1 tq' =>
    refine zq (J8K (n:=6) k1 ?_);simp only [Bool.not_true,Bool.false_eq_true,if_false];exact zr ⟨rfl,rfl,_,tq'⟩
 ·rintro ⟨r1,r2⟩ s' ⟨hr,rfl,_⟩
  simp only at hr;subst hr;exact zr h
end
def J20 {prog:Program}{w:World}{K:Type}[DecidableEq K](knd:PySem.KeyKind prog w K):HeapKind prog w (List (List K)) where
 is:=IsNest knd
 hash:=J5a knd
 draws:=fun kss=>J1v kss+1
 room:=fun A=>A.units+1<cLine
 inj:=fun a b=>a.inj b
 keeps:=fun x a b c=>x.keeps a b c
 pyHash:=fun a b c=>hash_nest a b c
 eqBool:=fun a b c d=>Jdd a b c d
 quiet:=fun a b=>J8J a b
section
variable {prog:Program}{w:World}{K:Type}[DecidableEq K]{knd:HeapKind prog w K}{A:Around}{E:Value->Shared->Prop}{s:Shared}
theorem setdef_heap {d a:Addr}{xs:List (K×Addr×Value)}{k:K}{v:Value}{Q:Value->Shared->Prop}(hu:knd.room A)(hk:knd.is s.heap k a)(hm:s.heap.DictOfH knd d xs)(hl:xs.length<=sizeLine)
 (q1:∀ p,atKey xs k=some p->Q p.2 { s with toks:=s.toks+knd.draws k })
 (q2:atKey xs k=none->∀ h',h'.DictOfH knd d (storedH xs k a v)->Heap.SameBut d s.heap h'->Q v { s with heap:=h',toks:=s.toks+knd.draws k }) :
 wpAny (model prog w) A (dictSetDefault d (.ref a) v) Q E s:=by
 obtain ⟨ob,es,ep,e,hc,hd,he,al,nd⟩:=hm;unfold dictSetDefault
 try with_reducible refine wpAny_holding ?_
 refine zq (knd.pyHash hu hk (zq (wpAny_dictFind_heap (s:={ s with toks:=s.toks+knd.draws k }) hu hk e hd he al nd ?_ ?_)))
 ·intro no
  have nk:k∉xs.map (·.1):=not_mem_keys_of_get no;have ks:=atKey_none_of_get no;have sb:∀ f,Heap.SameBut d s.heap (s.heap.update d f):=fun f=>Heap.SameBut.update ..;refine zq (wpAny_rule (zq (wpAny_updateDictKeys (hz:=by have z:=size_of_entries he;omega) (s:={ s with toks:=s.toks+knd.draws k }) e hd (zr (q2 ks _ ⟨_,_,ep+1,Heap.get?_update_self _ e (Obj.isFreed_of_dict (Obj.data_mapDictKeys hd _)),hc.mapDictKeys _,Obj.data_mapDictKeys hd _,?_,fun x hx=>?_,?_⟩ (Heap.SameBut.update ..))))))
  ·rw [storedH_new ks]
   simp [he,entryOfKey]
  ·rw [storedH_new ks] at hx
   rcases zZ.mp hx with hx | hx
   ·exact knd.keeps (al x hx) e hd (Heap.SameBut.update ..)
   ·cases zM.mp hx
    exact knd.keeps hk e hd (Heap.SameBut.update ..)
  ·rw [storedH_new ks,zY,nodup_append]
   refine ⟨nd,by simp,fun x hx y hy z=>?_⟩;rw [zV,map_nil,zM] at hy;subst hy z;exact nk hx
 ·intro j p hj
  refine zq (wpAny_dictEntries (s:={ s with toks:=s.toks+knd.draws k }) e hd ?_);rw [entry_at he j,hj];exact zq (wpAny_rule (zr (q1 p (atKey_of_get nd hj))))
theorem J3H (knd:HeapKind prog w K)(d a:Addr)(hd:(d == sysModules)=false)(v:Value) :
 MeetsIn prog w (Builtin.«dict.setdefault» ⟨[.ref d,.ref a,v],[]⟩) (fun A R s=>knd.room A.in1/\∃ k xs,knd.is s.heap k a/\s.heap.DictOfH knd d xs/\xs.length<=sizeLine /\
  (∀ p,atKey xs k=some p->R (.ok (.ret p.2)) { s with toks:=s.toks+knd.draws k }) /\
  (atKey xs k=none->∀ h',h'.DictOfH knd d (storedH xs k a v)->Heap.SameBut d s.heap h'->R (.ok (.ret v)) { s with heap:=h',toks:=s.toks+knd.draws k })) :=
 .of_wp fun A R s ⟨hu,k,xs,hk,hm,hl,q1,q2⟩=>by
  unfold Builtin.«dict.setdefault»;refine zq ?_;unfold Builtin.Dict.keyAndDefault;refine zq (wpAny_notOrdered_dict hm.typeIs ?_);show wpAny _ _ (pure (d,Value.ref a,some v)) _ _ s;refine zr ?_;show wpAny _ _ (if (d == sysModules)=true then _ else (dictSetDefault d (.ref a) v >>= _)) _ _ s;rw [zt (by rw [hd];decide)];exact zq (setdef_heap hu hk hm hl (fun p e=>zr ⟨_,rfl,q1 p e⟩) fun e h' m' s'=>zr ⟨_,rfl,q2 e h' m' s'⟩)
end
abbrev NPK:=List (List Jq)
def dN (P:Program)(w:World)(a:Addr)(xs:List (NPK×Addr×Value)):HO:=.ext fun h=>∃ o es ep,h.get? a=some o/\o.ExactDict/\o.data=.dict es ep/\es.toList=xs.map (entryOfKey (J20 (J0j P w)))/\(xs.map (·.1)).Nodup
def NKeyAt (H:Hp)(b:Addr)(kss:NPK):Prop:=∃ bs:List Addr,H b=some (.tup (bs.map V.ref))/\Paired (fun (c:Addr) (ks:List Jq)=>H c=some (.tup (ks.map nV))) bs kss
theorem NKeyAt.mono {H H':Hp}{b:Addr}{kss:NPK}(t:∀ c ys,H c=some (.tup ys)->H' c=some (.tup ys))(h:NKeyAt H b kss):NKeyAt H' b kss:=by
 obtain ⟨bs,h1,h2⟩:=h;exact ⟨bs,t _ _ h1,Paired.mapP h2 fun _ _ e=>t _ _ e⟩
def NRel (H:Hp)(kvs:List (NPK×V))(xs:List (NPK×Addr×Value)):Prop:=Paired (fun (p:NPK×V) (q:NPK×Addr×Value)=>p.1=q.1/\NKeyAt H q.2.1 p.1/\RelV p.2 q.2.2) kvs xs
theorem NRel.mono {H H':Hp}{kvs:List (NPK×V)}{xs:List (NPK×Addr×Value)}(t:∀ c ys,H c=some (.tup ys)->H' c=some (.tup ys))(h:NRel H kvs xs):NRel H' kvs xs:=Paired.mapP h fun _ _ e=>⟨e.1,e.2.1.mono t,e.2.2⟩
def ND (P:Program)(w:World)(H:Hp)(a:Addr)(kvs:List (NPK×V)):Prop:=(a == sysModules)=false/\∃ xs,H a=some (dN P w a xs)/\NRel H kvs xs
theorem ND.mono {P:Program}{w:World}{H H':Hp}{a:Addr}{kvs:List (NPK×V)}(t:∀ c ys,H c=some (.tup ys)->H' c=some (.tup ys))(e:H' a=H a)(h:ND P w H a kvs):ND P w H' a kvs:=by
 obtain ⟨h1,xs,h2,h3⟩:=h;exact ⟨h1,xs,e.trans h2,h3.mono t⟩
section
variable {P:Program}{w:World}{H:Hp}{h:Heap}{a b:Addr}
theorem Jbo (ok:HOk P w H h):∀ {bs:List Addr} {kss:NPK} {its:List Value},Paired (fun (c:Addr) (ks:List Jq)=>H c=some (.tup (ks.map nV))) bs kss->Vals (bs.map V.ref) its->ItemsT (J0j P w) h kss its
 | _,_,_,.nil,.nil=>.nil
 | _,_,_,.cons r t,.cons q v=>by
   cases (show _=Value.ref _ from q);exact .cons (J3m ok r) (Jbo ok t v)
theorem J6T {kss:NPK}(ok:HOk P w H h)(k:NKeyAt H b kss):IsNest (J0j P w) h kss b:=by
 obtain ⟨bs,e,r⟩:=k;obtain ⟨_,its,v,o,h1,h2,n,h3⟩:=(show ObjOk P w H h b (.tup (bs.map V.ref)) from ok b _ e);exact ⟨o,its.toArray,n,h1,h2,h3,by simpa using Jbo ok r v⟩
theorem JcV {kvs:List (NPK×V)}{xs:List (NPK×Addr×Value)}(ok:HOk P w H h)(r:NRel H kvs xs):∀ x∈xs,IsNest (J0j P w) h x.1 x.2.1:=by
 unfold NRel at r
 induction r with
 | nil=>intro x hx;cases hx
 | cons q t ih =>
   intro x hx;rcases zU.mp hx with rfl | hx
   ·rw [<- q.1]
    exact J6T ok q.2.1
   ·exact ih x hx
theorem Jbp {xs:List (NPK×Addr×Value)}{kvs:List (NPK×V)}(ok:HOk P w H h)(e:H a=some (dN P w a xs))(r:NRel H kvs xs):h.DictOfH (J20 (J0j P w)) a xs:=by
 obtain ⟨⟨o,es,ep,h1,h2,h3,h4,h5⟩,_,_⟩:=(show ObjOk P w H h a (dN P w a xs) from ok a _ e);exact ⟨o,es,ep,h1,h2,h3,h4,JcV ok r,h5⟩
theorem J6R {k:NPK}{kvs:List (NPK×V)}{xs:List (NPK×Addr×Value)}(r:NRel H kvs xs):(JG kvs k=none/\atKey xs k=none)\/∃ v p,JG kvs k=some v/\atKey xs k=some p/\RelV v p.2:=by
 unfold NRel at r;unfold JG atKey
 induction r with
 | nil=>exact .inl ⟨rfl,rfl⟩
 | @cons p q ps qs hq _ ih =>
   rw [List.find?_cons,List.find?_cons];by_cases c:p.1=k
   ·rw [zx c,zx (hq.1.symm.trans c)]
    exact .inr ⟨p.2,q.2,rfl,rfl,hq.2.2⟩
   ·rw [zy c,zy (fun z=>c (hq.1.trans z))]
    exact ih
theorem Jbk {k:NPK}{kvs:List (NPK×V)}{xs:List (NPK×Addr×Value)}{v:V}{u:Value}(r:NRel H kvs xs)(hk:NKeyAt H b k)(rv:RelV v u)(n1:JG kvs k=none)(n2:atKey xs k=none):NRel H (J0k kvs k v) (storedH xs k b u):=by
 rw [storedH_new n2];have e:J0k kvs k v=kvs++[(k,v)]:=by
  unfold J0k;rw [zt];intro z;rw [any_eq_true] at z;obtain ⟨x,hx,hd⟩:=z;unfold JG at n1;rw [Option.map_eq_none_iff,List.find?_eq_none] at n1;exact n1 x hx hd
 rw [e];exact Paired.snoc r ⟨rfl,hk,rv⟩
theorem JdC {H':Hp}{h':Heap}{xs:List (NPK×Addr×Value)}(d:h'.DictOfH (J20 (J0j P w)) a xs):ObjOk P w H' h' a (dN P w a xs):=by
 obtain ⟨o,es,ep,h1,h2,h3,h4,_,h5⟩:=d;exact ⟨⟨o,es,ep,h1,h2,h3,h4,h5⟩,⟨o,h1⟩,fun g1 g2 ⟨o,es,ep,q1,q2⟩ k=>⟨o,es,ep,k _ q1,q2⟩⟩
end
section
variable {X:Cx}{pins:List (Addr×Obj)}{σ:St}{H:Hp}{s:Shared}{a b:Addr}{k:NPK}{kvs:List (NPK×V)}{d:V}{r:Value}{A:Around}{E:Value->Shared->Prop}
theorem Jdv (I:Inv X pins σ H s)(g:ND X.prog X.w H a kvs):s.TypeIs (.ref a) "dict"/\∀ b,Value.ref a=.ref b->∃ ob,s.heap.get? b=some ob/\ob.dict=none:=by
 obtain ⟨_,xs,e,rel⟩:=g;have dd:=Jbp I.hok e rel;refine ⟨dd.typeIs,fun c q=>?_⟩;cases q;obtain ⟨ob,_,_,h1,h2,_⟩:=dd;exact ⟨ob,h1,h2.2.1⟩
theorem Je1 {Q:Value->Shared->Prop}(hu:A.units+2<cLine)(I:Inv X pins σ H s)(g:ND X.prog X.w H a kvs)(hk:NKeyAt H b k)(rd:RelV d r)(h:∀ w' s',Inv X pins σ H s'->RelV ((JG kvs k).getD d) w'->Q w' s') :
 wpAny (model X.prog X.w) A (call (.builtin "dict.get") [.ref a,.ref b,r]) Q E s:=by
 obtain ⟨hd,xs,e,rel⟩:=g;have dd:=Jbp I.hok e rel;refine call_meetsIn PySem.F.slot_dict_get dd.typeIs PySem.F.entry_dict_get (PySem.F.args_dict_get_3 _ _ _) (meetsH_dict_get_default (J20 (J0j X.prog X.w)) a b hd r) ⟨hu,k,xs,J6T I.hok hk,dd,h _ _ (I.tok _) ?_⟩;rcases J6R (k:=k) rel with ⟨e1,e2⟩ | ⟨v,p,e1,e2,rv⟩
 ·rw [e1,e2]
  exact rd
 ·rw [e1,e2]
  exact rv
theorem n_setdef {Q:Value->Shared->Prop}(hu:A.units+2<cLine)(I:Inv X pins σ H s)(g:ND X.prog X.w H a kvs)(hk:NKeyAt H b k)(rd:RelV d r)(hl:kvs.length<=sizeLine)
 (h1:∀ v w' s',JG kvs k=some v->Inv X pins σ H s'->RelV v w'->Q w' s')
 (h2:JG kvs k=none->∀ xs s',ND X.prog X.w (upd H a (dN X.prog X.w a xs)) a (J0k kvs k d)->Inv X pins σ (upd H a (dN X.prog X.w a xs)) s'->Q r s') :
 wpAny (model X.prog X.w) A (call (.builtin "dict.setdefault") [.ref a,.ref b,r]) Q E s:=by
 obtain ⟨hd,xs,e,rel⟩:=g;have dd:=Jbp I.hok e rel;refine call_meetsIn PySem.F.slot_dict_setdefault dd.typeIs PySem.F.entry_dict_setdefault (PySem.F.args_dict_setdefault_3 _ _ _) (J3H (J20 (J0j X.prog X.w)) a b hd r) ⟨hu,k,xs,J6T I.hok hk,dd,by rw [<- Paired.length rel];exact hl,fun p ep=>?_,fun en h' dd' hs=>?_⟩
 ·rcases J6R (k:=k) rel with ⟨_,e2⟩ | ⟨v,p',e1,e2,rv⟩
  ·rw [e2] at ep;cases ep
  ·rw [e2] at ep
   cases ep;exact h1 v _ _ e1 (I.tok _) rv
 ·rcases J6R (k:=k) rel with ⟨e1,e2⟩ | ⟨v,p',e1,e2,rv⟩
  ·have tk:∀ c ys,H c=some (.tup ys)->upd H a (dN X.prog X.w a (storedH xs k b r)) c=some (.tup ys):=fun c ys z=>by
    rw [Jh (J1w z e (fun q=>nomatch q))];exact z
   refine h2 e1 (storedH xs k b r) _ ⟨hd,_,Jd,(Jbk rel hk rd e1 e2).mono tk⟩ ?_;exact J2T I (by rw [e];exact True.intro) hs (let ⟨q,_,_,hq,_⟩:=dd';⟨q,hq⟩) (JdC dd')
  ·rw [e2] at en;cases en
end
def J6g (P:Program)(w:World):TE:=fun _ H Q=>∀ p xs,H p=none->ND P w (upd H p (dN P w p xs)) p []->Q (.ref p) (upd H p (dN P w p xs))
def J6d (P:Program)(w:World)(td ty tx:TE):TE:=fun σ H Q=>td σ H fun x H1=>∃ a kvs,x=.ref a/\ND P w H1 a kvs/\ty σ H1 fun y H2=>tx σ H2 fun z H3=>∃ b kvs k,y=.ref b/\ND P w H3 a kvs/\NKeyAt H3 b k/\Q ((JG kvs k).getD z) H3
def J3s (P:Program)(w:World)(td ty tx:TE):TE:=fun σ H Q=>td σ H fun x H1=>∃ a kvs,x=.ref a/\ND P w H1 a kvs/\ty σ H1 fun y H2=>tx σ H2 fun z H3=>∃ b kvs k,y=.ref b/\ND P w H3 a kvs/\NKeyAt H3 b k/\kvs.length<=sizeLine /\
 (∀ v,JG kvs k=some v->Q v H3)/\(JG kvs k=none->∀ xs,ND P w (upd H3 a (dN P w a xs)) a (J0k kvs k z)->Q z (upd H3 a (dN P w a xs)))
section
variable {X:Cx}{o e f:Expr}{pos apos cpos:Pos}{td ty tx:TE}
theorem Jbc:PE X (.Dict [] [] pos) (J6g X.prog X.w):=fun pins s σ H Q I h=>by
 have hp:H s.heap.objs.size=none:=I.hok.fresh (zv _);have sy:(s.heap.objs.size == sysModules)=false:=beq_eq_false_iff_ne.mpr (Ne.symm (zB I.big));have dd:(s.heap.push { cls:=.type "dict",data:=.dict #[] }).DictOfH (J20 (J0j X.prog X.w)) s.heap.objs.size []:=⟨_,#[],0,qi _ rfl,⟨rfl,rfl,rfl⟩,rfl,rfl,(fun _ z=>nomatch z),nodup_nil⟩;exact wpAny_Dict_empty ⟨.ref s.heap.objs.size,_,I.laid (a:=s.heap.objs.size) (o:=dN X.prog X.w s.heap.objs.size []) (t':=s.toks) (fun _ _ q=>qh _ q) (zv _) (JdC dd),rfl,h _ [] hp ⟨sy,[],Jd,.nil⟩⟩
theorem Jbb (hu:X.A.units+64<cLine)(ho:PE X o td)(he:PE X e ty)(hf:PE X f tx)(m:M2 X o "get" apos e f cpos):PE X (.Call (.Attribute o "get" apos) [e,f] [] cpos) (J6d X.prog X.w td ty tx):=by
 intro pins s σ H Q I h;refine wpAny_Call_method m.base m.few m.line PySem.F.plainAttrs_dict PySem.F.slot_dict_get PySem.F.type_dict_get (thn (ho pins s σ H _ I h) fun u s1 ⟨x,H1,I1,rx,a,kv,ex,d,q1⟩=>?_);subst ex;obtain rfl:u=Value.ref a:=rx;obtain ⟨t1,t2⟩:=Jdv I1 d;refine ⟨t1,t2,?_⟩;rw [m.trees];refine Calls.callWith_builtin rfl (Calls.evalArgs_plain (Calls.spliced_cons (thn (he pins s1 σ H1 _ I1 q1) fun iv s2 ⟨y,H2,I2,ry,q2⟩=>Calls.spliced_cons (thn (hf pins s2 σ H2 _ I2 q2) fun fv s3 ⟨z,H3,I3,rz,b,kvs,k,ey,g,hk,q3⟩=>Calls.spliced_nil ?_))));subst ey;obtain rfl:iv=Value.ref b:=ry;exact Je1 (by omega) I3 g hk rz fun w' s4 I4 rw'=>⟨_,H3,I4,rw',q3⟩
theorem J8O (hu:X.A.units+64<cLine)(ho:PE X o td)(he:PE X e ty)(hf:PE X f tx)(m:M2 X o "setdefault" apos e f cpos):PE X (.Call (.Attribute o "setdefault" apos) [e,f] [] cpos) (J3s X.prog X.w td ty tx):=by
 intro pins s σ H Q I h;refine wpAny_Call_method m.base m.few m.line PySem.F.plainAttrs_dict PySem.F.slot_dict_setdefault PySem.F.type_dict_setdefault (thn (ho pins s σ H _ I h) fun u s1 ⟨x,H1,I1,rx,a,kv,ex,d,q1⟩=>?_);subst ex;obtain rfl:u=Value.ref a:=rx;obtain ⟨t1,t2⟩:=Jdv I1 d;refine ⟨t1,t2,?_⟩;rw [m.trees];refine Calls.callWith_builtin rfl (Calls.evalArgs_plain (Calls.spliced_cons (thn (he pins s1 σ H1 _ I1 q1) fun iv s2 ⟨y,H2,I2,ry,q2⟩=>Calls.spliced_cons (thn (hf pins s2 σ H2 _ I2 q2) fun fv s3 ⟨z,H3,I3,rz,b,kvs,k,ey,g,hk,hl,q3,q4⟩=>Calls.spliced_nil ?_))));subst ey;obtain rfl:iv=Value.ref b:=ry;exact n_setdef (by omega) I3 g hk rz hl (fun v w' s4 ev I4 rv=>⟨v,H3,I4,rv,q3 v ev⟩) fun en xs s4 g4 I4=>⟨z,_,I4,rz,q4 en xs g4⟩
end
section
variable {prog:Program}{w:World}{A:Around}{E:Value->Shared->Prop}{s:Shared}
theorem J59 {it t:Addr}{i:Nat}{its:Array Value}{x:Value}{Q:Value->Shared->Prop}(hi:s.heap.IsTupleIter it t i)(ht:s.heap.IsTuple t its)(hx:its[i]?=some x)(q:∀ h',h'.IsTupleIter it t (i+1)->Heap.SameBut it s.heap h'->Q x { s with heap:=h' }) :
 wpAny (model prog w) A (Builtin.SmallTypes.nextOf (.ref it)) Q E s:=by
 obtain ⟨o,ho,hc,hd⟩:=id hi;obtain ⟨ot,hot,_,nt,hdt⟩:=ht;unfold Builtin.SmallTypes.nextOf;have ty:=hi.typeIs;refine zq (wpAny_callSpecial?_slot (name:=Str.ofString "__next__") ty F.slot_tuple_iterator_next (wpAny_call_entry F.slot_tuple_iterator_next ty F.entry_tuple_iterator_next ?_ (F.args_tuple_iterator_next_1 _)));show wpAny _ _ (field (.ref it) 0 >>= _) _ _ s;refine zq (wpAny_field ho hd (x:=.ref t) rfl ?_);show wpAny _ _ (if (Value.ref t == Value.none)=true then _ else _) _ _ s;rw [zt (show (Value.ref t == Value.none)≠true from zw)];show wpAny _ _ (field (.ref it) 1 >>= _) _ _ s;refine zq (wpAny_field ho hd (x:=.int i 0) rfl ?_);show wpAny _ _ (seqItems? (.ref t) >>= _) _ _ s;refine zq (wpAny_seqItems hot hdt ?_);simp only [Int.toNat_natCast,hx];refine zq (wpAny_setField ho hd (by simp) (zr ⟨x,rfl,zr (q _ ⟨_,Heap.get?_update_self _ ho (Obj.isFreed_of_fields (Obj.data_mapFields hd _)),(Obj.cls_mapFields ..).trans hc,?_⟩ (Heap.SameBut.update ..))⟩));rw [Obj.data_mapFields hd];simp [rawInt]
theorem J9R {z TI TO i1 i2 l1 l2:Addr}{k1 k2:Nat}{xs ys:Array Value}{x y a b:Value}{Q:Value->Shared->Prop}(D:ZipApart z TI TO i1 i2 l1 l2)(hz:IsZip s.heap z TI TO .none)(hTI:IsPair s.heap TI (.ref i1) (.ref i2))(hTO:IsPair s.heap TO a b)
 (h1:s.heap.IsTupleIter i1 l1 k1) (h2:s.heap.IsTupleIter i2 l2 k2) (hl1:s.heap.IsTuple l1 xs) (hl2:s.heap.IsTuple l2 ys) (hx:xs[k1]?=some x) (hy:ys[k2]?=some y)
 (q:∀ h',IsZip h' z TI TO (rawInt s.heap.objs.size)->IsPair h' TO x y->h'.IsTupleIter i1 l1 (k1+1)->h'.IsTupleIter i2 l2 (k2+1)->IsPair h' s.heap.objs.size x y->(∀ c o,c≠z->c≠TO->c≠i1->c≠i2->s.heap.get? c=some o->h'.get? c=some o)->Q (.ref s.heap.objs.size) { s with heap:=h' }) :
 wpAny (model prog w) A (Builtin.«zip.__next__» ⟨[.ref z],[]⟩) (fun fin s'=>∃ v,fin=.done (.ret v)/\Q v s') E s:=by
 show wpAny _ _ (field (.ref z) 2 >>= _) _ _ _;refine zq (wpAny_field hz rfl (x:=.bool false) rfl ?_);show wpAny _ _ (field (.ref z) 3 >>= _) _ _ _;refine zq (wpAny_field hz rfl (x:=.ref TI) rfl (zq (wpAny_seqItems hTI rfl ?_)));show wpAny _ _ (Builtin.SmallTypes.ownedTupleIsFree (.ref z) >>= _) _ _ _;refine zq ?_;unfold Builtin.SmallTypes.ownedTupleIsFree;refine zq (wpAny_field hz rfl (x:=.none) rfl (zr ?_));simp only [if_true];refine zq (wpAny_rule (zq (wpAny_field hz rfl (x:=.ref TO) rfl (zq (wpAny_setField_rec hz (by simp) fun g1 z1 e1=>?_)))))
 replace z1:IsZip g1 z TI TO .ellipsis:=z1
 refine zq ?_;simp only [zipIdx_cons,zipIdx_nil,forIn_cons,forIn_nil];refine zq (zq (wpAny_onRaise ?_));show wpAny _ _ (Builtin.SmallTypes.nextOf (.ref i1) >>= _) _ _ _;refine zq (J59 (h1.extBut e1.extBut D.i1z) (hl1.extBut e1.extBut D.l1z) hx fun g2 it1 e2=>zr ?_);have o2:IsPair g2 TO a b:=e2.extBut _ _ D.TOi1 (e1.extBut _ _ D.TOz hTO);refine zq (wpAny_seqItems o2 rfl (zq (wpAny_updateSeq_pair o2 fun g3 o3 e3=>zq (wpAny_letGo (zr ?_)))))
 replace o3:IsPair g3 TO x b:=o3
 refine zq (zq (wpAny_onRaise ?_));show wpAny _ _ (Builtin.SmallTypes.nextOf (.ref i2) >>= _) _ _ _;have it2:g3.IsTupleIter i2 l2 k2:=((h2.extBut e1.extBut D.i2z).extBut e2.extBut (Ne.symm D.i12)).extBut e3.extBut (Ne.symm D.TOi2);have tp2:g3.IsTuple l2 ys:=((hl2.extBut e1.extBut D.l2z).extBut e2.extBut D.l2i1).extBut e3.extBut D.l2TO;refine zq (J59 it2 tp2 hy fun g4 it3 e4=>zr ?_);have o4:IsPair g4 TO x b:=e4.extBut _ _ D.TOi2 o3;refine zq (wpAny_seqItems o4 rfl (zq (wpAny_updateSeq_pair o4 fun g5 o5 e5=>zq (wpAny_letGo (zr (zr ?_))))))
 replace o5:IsPair g5 TO x y:=o5
 refine zq (wpAny_seqItems o5 rfl (zq (wpAny_newTuple ?_)));have sz:g5.objs.size=s.heap.objs.size:=by rw [e5.1,e4.1,e3.1,e2.1,e1.1]
 have z5:IsZip g5 z TI TO .ellipsis:=e5.extBut _ _ (Ne.symm D.TOz) (e4.extBut _ _ (Ne.symm D.i2z) (e3.extBut _ _ (Ne.symm D.TOz) (e2.extBut _ _ (Ne.symm D.i1z) z1)));have kp:∀ c o,c≠z->c≠TO->c≠i1->c≠i2->s.heap.get? c=some o->g5.get? c=some o:=fun c o c1 c2 c3 c4 e=>e5.extBut _ _ c2 (e4.extBut _ _ c4 (e3.extBut _ _ c2 (e2.extBut _ _ c3 (e1.extBut _ _ c1 e))));have j1:g5.IsTupleIter i1 l1 (k1+1):=((it1.extBut e3.extBut (Ne.symm D.TOi1)).extBut e4.extBut D.i12).extBut e5.extBut (Ne.symm D.TOi1);have j2:g5.IsTupleIter i2 l2 (k2+1):=it3.extBut e5.extBut (Ne.symm D.TOi2);show wpAny _ _ (Builtin.SmallTypes.ownedTupleHandOut (.ref z) (.ref g5.objs.size) >>= _) _ _ _;refine zq ?_;unfold Builtin.SmallTypes.ownedTupleHandOut;have z6:IsZip (g5.push { cls:=.type "tuple",data:=.seq #[x,y] }) z TI TO .ellipsis:=qh _ z5;refine zq (wpAny_setField_rec z6 (by simp) fun g7 z7 e7=>?_)
 replace z7:IsZip g7 z TI TO (rawInt g5.objs.size):=z7
 refine wpAny_setField_rec z7 (by simp) fun g8 z8 e8=>?_
 replace z8:IsZip g8 z TI TO (rawInt g5.objs.size):=z8
 have up:∀ c o,c≠z->g5.get? c=some o->g8.get? c=some o:=fun c o c1 e=>e8.extBut _ _ c1 (e7.extBut _ _ c1 (qh _ e));have zl:g5.objs.size≠z:=Nat.ne_of_gt (qj z5);have p8:IsPair g8 g5.objs.size x y:=e8.extBut _ _ zl (e7.extBut _ _ zl (qi _ rfl));rw [sz] at z8 p8;refine zr ⟨_,rfl,?_⟩;show Q (.ref g5.objs.size) _;rw [sz];obtain ⟨b1,f1,r1⟩:=j1;obtain ⟨b2,f2,r2⟩:=j2;exact q g8 z8 (up _ _ D.TOz o5) ⟨b1,up _ _ D.i1z f1,r1⟩ ⟨b2,up _ _ D.i2z f2,r2⟩ p8 fun c o c1 c2 c3 c4 e=>up c o c1 (kp c o c1 c2 c3 c4 e)
theorem J7j {z TI TO i1 i2 l1 l2:Addr}{k1 k2:Nat}{xs ys:Array Value}{x y a b:Value}{Q:Option Value->Shared->Prop}(D:ZipApart z TI TO i1 i2 l1 l2)(hz:IsZip s.heap z TI TO .none)(hTI:IsPair s.heap TI (.ref i1) (.ref i2))(hTO:IsPair s.heap TO a b)
 (h1:s.heap.IsTupleIter i1 l1 k1) (h2:s.heap.IsTupleIter i2 l2 k2) (hl1:s.heap.IsTuple l1 xs) (hl2:s.heap.IsTuple l2 ys) (hx:xs[k1]?=some x) (hy:ys[k2]?=some y)
 (q:∀ h',IsZip h' z TI TO (rawInt s.heap.objs.size)->IsPair h' TO x y->h'.IsTupleIter i1 l1 (k1+1)->h'.IsTupleIter i2 l2 (k2+1)->IsPair h' s.heap.objs.size x y->(∀ c o,c≠z->c≠TO->c≠i1->c≠i2->s.heap.get? c=some o->h'.get? c=some o)->Q (some (.ref s.heap.objs.size)) { s with heap:=h' }) :
 wpAny (model prog w) A (pyNext (.ref z)) Q E s:=by
 have ty:s.TypeIs (.ref z) "zip":=⟨_,hz,rfl⟩;unfold pyNext;have st:=J9R (prog:=prog) (w:=w) (A:=A.in1) (E:=fun _ _=>False) (Q:=fun v s'=>wpAny (model prog w) A (pure (some v)) Q E s') D hz hTI hTO h1 h2 hl1 hl2 hx hy fun h' a1 a2 a3 a4 a5 a6=>zr (q h' a1 a2 a3 a4 a5 a6);exact zq (wpAny_attempt (wpAny_callSpecial?_slot (name:=Str.ofString "__next__") ty F.slot_zip_next (wpAny_call_entry F.slot_zip_next ty F.entry_zip_next (wpAny_mono st (fun _ _ z=>z) fun _ _ z=>z.elim) (F.args_zip_next_1 _))))
end
abbrev zt1 (h:Heap)(a:Addr):Heap:=h.push { cls:=.type "tuple_iterator",data:=.fields #[.ref a,.int 0 0] }
abbrev zt2 (h:Heap)(a b:Addr):Heap:=zt1 (zt1 h a) b
abbrev zt3 (h:Heap)(a b:Addr):Heap:=(zt2 h a b).push { cls:=.type "tuple",data:=.seq #[.ref h.objs.size,.ref (zt1 h a).objs.size] }
abbrev zt4 (h:Heap)(a b:Addr):Heap:=(zt3 h a b).push { cls:=.type "tuple",data:=.seq #[.none,.none] }
abbrev zt5 (h:Heap)(a b:Addr):Heap:=(zt4 h a b).push { cls:=.type "zip",data:=.fields #[.none,.bool false,.bool false,.ref (zt2 h a b).objs.size,.ref (zt3 h a b).objs.size] }
theorem J92 (a b:Addr)(xs ys:Array Value):Meets (Builtin.«zip.__new__» ⟨[.type "zip",.ref a,.ref b],[]⟩) (fun _ R s=>s.heap.IsTuple a xs/\s.heap.IsTuple b ys/\R (.ok (.ret (.ref (zt4 s.heap a b).objs.size))) { s with heap:=zt5 s.heap a b }) :=
 .of_wp fun prog w A R s h=>by
  obtain ⟨hp,g,d,tk,os⟩:=s;obtain ⟨ha,hb,h⟩:=h;have hsub:=sub_zip;have h1:Heap.IsTuple (Shared.heap ⟨hp,g,d,tk,os⟩) a xs:=ha;have h2:Heap.IsTuple (Shared.heap ⟨zt1 hp a,g,d,tk,os⟩) b ys:=Heap.IsTuple.push hb _
  wp_walk using wpAny_pyIter_tuple h1,wpAny_pyIter_tuple h2
  exact ⟨_,rfl,h⟩
section
variable {prog:Program}{w:World}{A:Around}{E:Value->Shared->Prop}{s:Shared}
theorem Jau {a b:Addr}{xs ys:Array Value}{Q:Value->Shared->Prop}(ha:s.heap.IsTuple a xs)(hb:s.heap.IsTuple b ys)
 (h:∀ h',IsZip h' (s.heap.objs.size+4) (s.heap.objs.size+2) (s.heap.objs.size+3) .none->IsPair h' (s.heap.objs.size+2) (.ref s.heap.objs.size) (.ref (s.heap.objs.size+1))->IsPair h' (s.heap.objs.size+3) .none .none->h'.IsTupleIter s.heap.objs.size a 0->h'.IsTupleIter (s.heap.objs.size+1) b 0->(∀ c o,s.heap.get? c=some o->h'.get? c=some o)->Q (.ref (s.heap.objs.size+4)) { s with heap:=h' }) :
 wpAny (model prog w) A (call (.type "zip") [.ref a,.ref b]) Q E s:=by
 refine callType_new F.called_zip (by decide) (F.typeCall_zip_2 _ _) (F.newCall_zip_2 _ _) (fun obj=>F.args_object_init_3 obj _ _) F.entry_zip_new (J92 a b xs ys) ⟨ha,hb,?_⟩;have n1:(zt1 s.heap a).objs.size=s.heap.objs.size+1:=Heap.size_push ..;have n2:(zt2 s.heap a b).objs.size=s.heap.objs.size+2:=by rw [Heap.size_push,n1]
 have n3:(zt3 s.heap a b).objs.size=s.heap.objs.size+3:=by rw [Heap.size_push,n2]
 have n4:(zt4 s.heap a b).objs.size=s.heap.objs.size+4:=by rw [Heap.size_push,n3]
 have up:∀ {h:Heap} {o u:Obj} {c:Addr},h.get? c=some u->(h.push o).get? c=some u:=fun e=>qh _ e;have q5:(zt5 s.heap a b).get? (zt4 s.heap a b).objs.size=some _:=qi _ rfl;have q4:(zt5 s.heap a b).get? (zt3 s.heap a b).objs.size=some _:=up (qi _ rfl);have q3:(zt5 s.heap a b).get? (zt2 s.heap a b).objs.size=some _:=up (up (qi _ rfl));have q2:(zt5 s.heap a b).get? (zt1 s.heap a).objs.size=some _:=up (up (up (qi _ rfl)));have q1:(zt5 s.heap a b).get? s.heap.objs.size=some _:=up (up (up (up (qi _ rfl))));show _/\_;rw [n2,n3,n4] at q5;rw [n1,n2] at q3;rw [n3] at q4;rw [n1] at q2;rw [n4];exact ⟨⟨_,q5,rfl⟩,h _ q5 q3 q4 ⟨_,q1,rfl,rfl⟩ ⟨_,q2,rfl,rfl⟩ fun c o e=>up (up (up (up (up e))))⟩
end
theorem IsTupleIter.at {h h':Heap}{it t:Addr}{i:Nat}(x:h.IsTupleIter it t i)(k:∀ o,h.get? it=some o->h'.get? it=some o):h'.IsTupleIter it t i:=let ⟨o,e,r⟩:=x;⟨o,k o e,r⟩
section
variable {prog:Program}{w:World}{A:Around}{E:Value->Shared->Prop}{s:Shared}
theorem J3F {it t:Addr}{i:Nat}{its:Array Value}{Q:Value->Shared->Prop}(hh:A.handled=none)(hi:s.heap.IsTupleIter it t i)(ht:s.heap.IsTuple t its)(hx:its[i]?=none)
 (q:∀ h' e,Heap.ExtBut it s.heap h'->(∃ o,h'.get? e=some o/\o.cls=.type "StopIteration")->E (.ref e) { s with heap:=h' }):wpAny (model prog w) A (Builtin.SmallTypes.nextOf (.ref it)) Q E s:=by
 obtain ⟨o,ho,hc,hd⟩:=id hi;obtain ⟨ot,hot,_,nt,hdt⟩:=ht;unfold Builtin.SmallTypes.nextOf;have ty:=hi.typeIs;refine zq (wpAny_callSpecial?_slot (name:=Str.ofString "__next__") ty F.slot_tuple_iterator_next (wpAny_call_entry F.slot_tuple_iterator_next ty F.entry_tuple_iterator_next ?_ (F.args_tuple_iterator_next_1 _)));show wpAny _ _ (field (.ref it) 0 >>= _) _ _ s;refine zq (wpAny_field ho hd (x:=.ref t) rfl ?_);show wpAny _ _ (if (Value.ref t == Value.none)=true then _ else _) _ _ s;rw [zt (show (Value.ref t == Value.none)≠true from zw)];show wpAny _ _ (field (.ref it) 1 >>= _) _ _ s;refine zq (wpAny_field ho hd (x:=.int i 0) rfl ?_);show wpAny _ _ (seqItems? (.ref t) >>= _) _ _ s;refine zq (wpAny_seqItems hot hdt ?_);simp only [Int.toNat_natCast,hx];refine zq (wpAny_rule (zq (wpAny_setField ho hd (by simp) ?_)));show wpAny _ _ (newExc (.type "StopIteration") [] >>= _) _ _ _;refine zq ?_;simp only [newExc,newTuple];refine zq (wpAny_newObj_type ?_ (by size_fits));refine zq (m:=firstArgMember _ _) (wpAny_of_eq (a:=Value.none) (by first | rfl | (simp only [firstArgMember];rfl)) (wpAny_newObj_type ?_ (by size_fits)));simp only [raiseNew];refine zq (wpAny_handled ?_)
 first | rw [show A.in1.handled=none from hh];refine zq (zr (wpAny_throw ?_)) | rw [hh];refine zq (zr (wpAny_throw ?_))
 exact q _ _ (((Heap.SameBut.update ..).extBut.push _).push _) ⟨_,qi _ rfl,rfl⟩
theorem J9Q {z TI TO i1 i2 l1 l2:Addr}{k1 k2:Nat}{xs ys:Array Value}{a b:Value}{Q:Fin->Shared->Prop}(hh:A.handled=none)(D:ZipApart z TI TO i1 i2 l1 l2)(hz:IsZip s.heap z TI TO .none)(hTI:IsPair s.heap TI (.ref i1) (.ref i2))(hTO:IsPair s.heap TO a b)
 (h1:s.heap.IsTupleIter i1 l1 k1) (h2:s.heap.IsTupleIter i2 l2 k2) (hl1:s.heap.IsTuple l1 xs) (hl2:s.heap.IsTuple l2 ys) (hn:xs[k1]?=none\/ys[k2]?=none)
 (q:∀ h' e,(∀ c o,c≠z->c≠TO->c≠i1->c≠i2->s.heap.get? c=some o->h'.get? c=some o)->(∃ o,h'.get? e=some o/\o.cls=.type "StopIteration")->E (.ref e) { s with heap:=h' }):wpAny (model prog w) A (Builtin.«zip.__next__» ⟨[.ref z],[]⟩) Q E s:=by
 show wpAny _ _ (field (.ref z) 2 >>= _) _ _ _;refine zq (wpAny_field hz rfl (x:=.bool false) rfl ?_);show wpAny _ _ (field (.ref z) 3 >>= _) _ _ _;refine zq (wpAny_field hz rfl (x:=.ref TI) rfl (zq (wpAny_seqItems hTI rfl ?_)));show wpAny _ _ (Builtin.SmallTypes.ownedTupleIsFree (.ref z) >>= _) _ _ _;refine zq ?_;unfold Builtin.SmallTypes.ownedTupleIsFree;refine zq (wpAny_field hz rfl (x:=.none) rfl (zr ?_));simp only [if_true];refine zq (wpAny_rule (zq (wpAny_field hz rfl (x:=.ref TO) rfl (zq (wpAny_setField_rec hz (by simp) fun g1 z1 e1=>?_)))))
 replace z1:IsZip g1 z TI TO .ellipsis:=z1
 refine zq ?_;simp only [zipIdx_cons,zipIdx_nil,forIn_cons,forIn_nil];refine zq (zq (wpAny_onRaise ?_));show wpAny _ _ (Builtin.SmallTypes.nextOf (.ref i1) >>= _) _ _ _;cases ex:xs[k1]? with
 | none =>
   refine zq (J3F hh (h1.extBut e1.extBut D.i1z) (hl1.extBut e1.extBut D.l1z) ex fun g2 e e2 he=>?_);obtain ⟨oe,ho,hc⟩:=he;have z2:IsZip g2 z TI TO .ellipsis:=e2 _ _ (Ne.symm D.i1z) z1;have ne:e≠z:=fun x=>by subst x;rw [z2] at ho;cases ho;simp at hc
   exact wpAny_setField_rec z2 (by simp) fun g3 _ e3=>q g3 e (fun c o c1 _ c3 _ x=>e3.extBut _ _ c1 (e2 _ _ c3 (e1.extBut _ _ c1 x))) ⟨oe,e3.extBut _ _ ne ho,hc⟩
 | some x =>
   have ey:ys[k2]?=none:=by
    rcases hn with h | h
    ·rw [ex] at h;cases h
    ·exact h
   refine zq (J59 (h1.extBut e1.extBut D.i1z) (hl1.extBut e1.extBut D.l1z) ex fun g2 it1 e2=>zr ?_);have o2:IsPair g2 TO a b:=e2.extBut _ _ D.TOi1 (e1.extBut _ _ D.TOz hTO);refine zq (wpAny_seqItems o2 rfl (zq (wpAny_updateSeq_pair o2 fun g3 o3 e3=>zq (wpAny_letGo (zr ?_)))));refine zq (zq (wpAny_onRaise ?_));show wpAny _ _ (Builtin.SmallTypes.nextOf (.ref i2) >>= _) _ _ _;have it2:g3.IsTupleIter i2 l2 k2:=((h2.extBut e1.extBut D.i2z).extBut e2.extBut (Ne.symm D.i12)).extBut e3.extBut (Ne.symm D.TOi2);have tp2:g3.IsTuple l2 ys:=((hl2.extBut e1.extBut D.l2z).extBut e2.extBut D.l2i1).extBut e3.extBut D.l2TO;refine zq (J3F hh it2 tp2 ey fun g4 e e4 he=>?_);obtain ⟨oe,ho,hc⟩:=he;have z4:IsZip g4 z TI TO .ellipsis:=e4 _ _ (Ne.symm D.i2z) (e3.extBut _ _ (Ne.symm D.TOz) (e2.extBut _ _ (Ne.symm D.i1z) z1));have ne:e≠z:=fun x=>by subst x;rw [z4] at ho;cases ho;simp at hc
   exact wpAny_setField_rec z4 (by simp) fun g5 _ e5=>q g5 e (fun c o c1 c2 c3 c4 x=>e5.extBut _ _ c1 (e4 _ _ c4 (e3.extBut _ _ c2 (e2.extBut _ _ c3 (e1.extBut _ _ c1 x))))) ⟨oe,e5.extBut _ _ ne ho,hc⟩
theorem JaB {z TI TO i1 i2 l1 l2:Addr}{k1 k2:Nat}{xs ys:Array Value}{a b:Value}{Q:Option Value->Shared->Prop}(hh:A.handled=none)(D:ZipApart z TI TO i1 i2 l1 l2)(hz:IsZip s.heap z TI TO .none)(hTI:IsPair s.heap TI (.ref i1) (.ref i2))(hTO:IsPair s.heap TO a b)
 (h1:s.heap.IsTupleIter i1 l1 k1) (h2:s.heap.IsTupleIter i2 l2 k2) (hl1:s.heap.IsTuple l1 xs) (hl2:s.heap.IsTuple l2 ys) (hn:xs[k1]?=none\/ys[k2]?=none)
 (q:∀ h',(∀ c o,c≠z->c≠TO->c≠i1->c≠i2->s.heap.get? c=some o->h'.get? c=some o)->Q none { s with heap:=h' }):wpAny (model prog w) A (pyNext (.ref z)) Q E s:=by
 have ty:s.TypeIs (.ref z) "zip":=⟨_,hz,rfl⟩;unfold pyNext;refine zq (wpAny_attempt (wpAny_callSpecial?_slot (name:=Str.ofString "__next__") ty F.slot_zip_next (wpAny_call_entry F.slot_zip_next ty F.entry_zip_next (J9Q hh D hz hTI hTO h1 h2 hl1 hl2 hn fun h' e kp ⟨o,ho,hc⟩=>?_) (F.args_zip_next_1 _))));exact zq (wpAny_isInstance (T:="StopIteration") (b:=true) ⟨o,ho,hc⟩ isSubtype_stop (zr (q _ kp)))
end
def JeA (K:PySem.W.Frag)(a b:Addr):It where
 go:=fun i H=>∃ xs ys x y,SqT K H a xs/\SqT K H b ys/\xs[i]?=some x/\ys[i]?=some y
 yld:=fun i H v H'=>∃ p x y,H p=none/\v=.ref p/\(∀ zs,SqT K H a zs->zs[i]?=some x)/\(∀ zs,SqT K H b zs->zs[i]?=some y)/\H'=upd H p (.tup [x,y])
 stop:=fun i H=>∃ xs ys,SqT K H a xs/\SqT K H b ys/\(xs.length<=i\/ys.length<=i)
theorem turn_zipU {P:Program}{w:World}{K:PySem.W.Frag}{elts:List Expr}{x1:Nat}{tpos:Pos}(z TI TO i1 i2 a b:Addr)(D:ZipApart z TI TO i1 i2 a b) :
 Turn P w K (.Tuple elts x1 tpos) (JeA K a b) [z,TI,TO,i1,i2] z (fun i h=>IsZip h z TI TO .none/\IsPair h TI (.ref i1) (.ref i2)/\(∃ x y,IsPair h TO x y)/\h.IsTupleIter i1 a i/\h.IsTupleIter i2 b i) where
 mem:=by simp
 obj:=fun i h st c hc=>by
  obtain ⟨h1,h2,⟨x,y,h3⟩,⟨o4,e4,_,d4⟩,o5,e5,_,d5⟩:=st;simp only [zU,not_mem_nil,or_false] at hc;rcases hc with rfl | rfl | rfl | rfl | rfl
  ·exact ⟨_,h1,fun v z=>nomatch z⟩
  ·exact ⟨_,h2,fun v z=>nomatch z⟩
  ·exact ⟨_,h3,fun v z=>nomatch z⟩
  ·exact ⟨_,e4,fun v z=>by rw [d4] at z;cases z⟩
  ·exact ⟨_,e5,fun v z=>by rw [d5] at z;cases z⟩
 keep:=fun i h h' st k=>by
  obtain ⟨h1,h2,⟨x,y,h3⟩,h4,h5⟩:=st;exact ⟨k z (by simp) _ h1,k TI (by simp) _ h2,⟨x,y,k TO (by simp) _ h3⟩,IsTupleIter.at h4 fun o e=>k i1 (by simp) o e,IsTupleIter.at h5 fun o e=>k i2 (by simp) o e⟩
 item:=by
  intro X hP hw hK hc i pins s σ H E I hf st hg;subst hP hw hK;obtain ⟨xs,ys,x,y,hqa,hqb,hx,hy⟩:=hg;obtain ⟨ia,ra,pa,_⟩:=I.tuple hqa;obtain ⟨ib,rb,pb,_⟩:=I.tuple hqb;obtain ⟨u,hu,ru⟩:=ra.get hx;obtain ⟨v,hv,rv⟩:=rb.get hy;obtain ⟨h1,h2,⟨ox,oy,h3⟩,h4,h5⟩:=st;have fr:H s.heap.objs.size=none:=I.hok.fresh (zv _);have pz:s.heap.objs.size≠z:=Nat.ne_of_gt (qj h1);refine J7j D h1 h2 h3 h4 h5 (show s.heap.IsTuple a ia.toArray from pa) (show s.heap.IsTuple b ib.toArray from pb) (x:=u) (y:=v) (by simpa using hu) (by simpa using hv) fun h' out to' st1 st2 tup k=>⟨.ref s.heap.objs.size,rfl,?_⟩;refine wpAny_letOwnedTupleGo_zip (s:={ s with heap:=h' }) out fun h'' hz' sb=>?_;have kk:∀ c o,c∉[z,TI,TO,i1,i2]->s.heap.get? c=some o->h''.get? c=some o:=fun c o hb e =>
   (sb.2 c (fun q=>hb (by simp [q]))).trans (k c o (fun q=>hb (by simp [q])) (fun q=>hb (by simp [q])) (fun q=>hb (by simp [q])) (fun q=>hb (by simp [q])) e)
  have kt:h''.get? s.heap.objs.size=some { cls:=.type "tuple",data:=.seq #[u,v] }:=(sb.2 _ pz).trans tup;have nt:∀ c w',H c=some w'->c∉[z,TI,TO,i1,i2]:=fun c w' e hb=>by
   rw [(hf c hb).1] at e;cases e
  have np:∀ c w',H c=some w'->c≠s.heap.objs.size:=fun c w' e q=>by subst q;rw [fr] at e;cases e
  have up:∀ c w',H c=some w'->upd H s.heap.objs.size (.tup [x,y]) c=some w':=fun c w' e=>by rw [Jh (np c w' e)];exact e
  have lts:∀ c∈[z,TI,TO,i1,i2],c<s.heap.objs.size:=fun c hc=>by
   obtain ⟨o4,e4,_,_⟩:=h4;obtain ⟨o5,e5,_,_⟩:=h5;simp only [zU,not_mem_nil,or_false] at hc;rcases hc with rfl | rfl | rfl | rfl | rfl
   ·exact qj h1
   ·exact qj h2
   ·exact qj h3
   ·exact qj e4
   ·exact qj e5
  refine ⟨.ref s.heap.objs.size,upd H s.heap.objs.size (.tup [x,y]),?_,rfl,⟨_,x,y,fr,rfl,fun zs hz=>by rw [I.tuple_inj hz hqa];exact hx,fun zs hz=>by rw [I.tuple_inj hz hqb];exact hy,rfl⟩,⟨hz',(sb.2 TI D.TIz).trans (k TI _ D.TIz D.TITO D.TIi1 D.TIi2 h2),⟨u,v,(sb.2 TO D.TOz).trans to'⟩,IsTupleIter.at st1 fun o e=>(sb.2 i1 D.i1z).trans e,IsTupleIter.at st2 fun o e=>(sb.2 i2 D.i2z).trans e⟩,fun c hc=>?_⟩
  ·show Inv X pins σ _ { s with heap:=h'',gens:=s.gens,drawn:=s.drawn,toks:=s.toks }
   refine Inv.step (s:=s) (h':=h'') (t':=s.toks) (g':=s.gens) (d':=s.drawn) (ch:=[z,TI,TO,i1,i2]) I (fun c hc=>?_) (fun c o _ _ hb e _=>kk c o hb e) (fun c o _ _ hb e _=>⟨o.slots,kk c o hb e⟩) (fun c o _ e n=>by rw [Jh (zB (qj e))];exact n) (fun c o hb e=>⟨o,kk c o hb e⟩)
    (fun c zs e=>up c _ e) (fun c o w' e=>up c _ e) (fun c ps e=>⟨#[],by rw [Array.append_empty];exact up c _ e⟩) (fun m hm=>?_) (fun c w' e=>?_) I.bare
   ·obtain ⟨f0,f1,f2,f3,f4,f5⟩:=hf c hc
    exact ⟨f3,f1,f4,f5⟩
   ·obtain ⟨o,es,ep,ho,r⟩:=hm
    exact ⟨o,es,ep,kk _ o (fun hb=>(hf _ hb).2.1 rfl) ho,r⟩
   ·by_cases q:c=s.heap.objs.size
    ·subst q
     rw [Jd] at e;cases e;exact ⟨Jb (Nat.le_of_ble_eq_true rfl),[u,v],.cons ru (.cons rv .nil),_,kt,rfl,_,rfl⟩
    ·rw [Jh q] at e
     refine (I.hok c w' e).stay (fun d o hd y=>kk d o ?_ y) (fun d y=>up d _ y) fun d zs y=>up d _ y;rcases hd with rfl | hd
     ·exact nt _ _ e
     ·exact nt _ _ hd
  ·rw [Jh (zB (lts c hc))]
   exact (hf c hc).1
 done:=by
  intro X hP hw hK hc i pins s σ H E I hf st hg;subst hP hw hK;obtain ⟨xs,ys,hqa,hqb,hx⟩:=hg;obtain ⟨ia,ra,pa,_⟩:=I.tuple hqa;obtain ⟨ib,rb,pb,_⟩:=I.tuple hqb;obtain ⟨h1,h2,⟨ox,oy,h3⟩,h4,h5⟩:=st;have la:=ra.length;have lb:=rb.length;refine JaB (I.ok.hd hc) D h1 h2 h3 h4 h5 (show s.heap.IsTuple a ia.toArray from pa) (show s.heap.IsTuple b ib.toArray from pb) (by
   rcases hx with hx | hx
   ·left;simp;omega
   ·right;simp;omega) fun h' k=>⟨rfl,?_⟩
  have kk:∀ c o,c∉[z,TI,TO,i1,i2]->s.heap.get? c=some o->h'.get? c=some o:=fun c o hb e =>
   k c o (fun q=>hb (by simp [q])) (fun q=>hb (by simp [q])) (fun q=>hb (by simp [q])) (fun q=>hb (by simp [q])) e
  have nt:∀ c w',H c=some w'->c∉[z,TI,TO,i1,i2]:=fun c w' e hb=>by
   rw [(hf c hb).1] at e;cases e
  show Inv X pins σ _ { s with heap:=h',gens:=s.gens,drawn:=s.drawn,toks:=s.toks };refine Inv.step (s:=s) (h':=h') (t':=s.toks) (g':=s.gens) (d':=s.drawn) (ch:=[z,TI,TO,i1,i2]) I (fun c hc=>?_) (fun c o _ _ hb e _=>kk c o hb e) (fun c o _ _ hb e _=>⟨o.slots,kk c o hb e⟩) (fun _ _ _ _ n=>n) (fun c o hb e=>⟨o,kk c o hb e⟩)
   (fun _ _ e=>e) (fun _ _ _ e=>e) (fun c ps e=>⟨#[],by rw [Array.append_empty];exact e⟩) (fun m hm=>?_) (fun c w' e=>?_) I.bare
  ·obtain ⟨f0,f1,f2,f3,f4,f5⟩:=hf c hc
   exact ⟨f3,f1,f4,f5⟩
  ·obtain ⟨o,es,ep,ho,r⟩:=hm
   exact ⟨o,es,ep,kk _ o (fun hb=>(hf _ hb).2.1 rfl) ho,r⟩
  ·refine (I.hok c w' e).stay (fun d o hd y=>kk d o ?_ y) (fun d y=>y) fun d zs y=>y
   rcases hd with rfl | hd
   ·exact nt _ _ e
   ·exact nt _ _ hd
 self:=fun _ _ _ _ _ st h=>wpAny_pyIter_zip st.1 h
section
variable {X:Cx}
def J9F (K:PySem.W.Frag)(ta:TA):TI:=fun σ H R=>ta σ H fun vs H1=>∃ a b,vs=[.ref a,.ref b]/\(∃ xs,SqT K H1 a xs)/\(∃ ys,SqT K H1 b ys)/\R (JeA K a b) H1
theorem Jee {K:PySem.W.Frag}{a b:Expr}{ta:TA}{p pos tpos:Pos}{elts:List Expr}{x1:Nat}(e:X.K=K)(hg:Gl X "zip")(hm:X.mg "zip"=none)(ha:PA X [a,b] ta)(hn:JJ a=true)(hn2:JJ b=true):PI X (.Tuple elts x1 tpos) (.Call (.Name "zip" p) [a,b] [] pos) (J9F K ta):=by
 subst e;intro pins s σ H R I h;refine Call_ (J1P I hg hm Jc7 (PyProof.Rows.callWith_type1 (thn (ha pos pins s σ H _ I h) fun us s1 ⟨vs,H1,I1,r1,q1⟩=>?_) (JN hn) (by rw [JN hn2];rfl)));obtain ⟨l,m,e,⟨xs,hq⟩,⟨ys,hq2⟩,q⟩:=q1;subst e;obtain ⟨u,v,rfl,ru,rv⟩:=JaE r1;cases (show u=Value.ref l from ru);cases (show v=Value.ref m from rv);obtain ⟨ia,ra,pa,_⟩:=I1.tuple hq;obtain ⟨ib,rb,pb,_⟩:=I1.tuple hq2;have la:l<s1.heap.objs.size:=by obtain ⟨o,e,_⟩:=pa;exact qj e
 have lb:m<s1.heap.objs.size:=by obtain ⟨o,e,_⟩:=pb;exact qj e
 refine Jau (show s1.heap.IsTuple l ia.toArray from pa) (show s1.heap.IsTuple m ib.toArray from pb) fun h' hz hTI hTO st1 st2 k=>?_;refine wpAny_pyIter_zip (s:={ s1 with heap:=h' }) hz ?_;refine ⟨s1.heap.objs.size+4,[s1.heap.objs.size+4,s1.heap.objs.size+2,s1.heap.objs.size+3,s1.heap.objs.size,s1.heap.objs.size+1],_,_,H1,rfl,I1.kept (t':=s1.toks) k,turn_zipU _ _ _ _ _ l m ?_,⟨hz,hTI,⟨_,_,hTO⟩,st1,st2⟩,fun c hc=>?_,q⟩
 ·have la':Nat.lt l s1.heap.objs.size:=la
  have lb':Nat.lt m s1.heap.objs.size:=lb;generalize s1.heap.objs.size=N at *;constructor<;>first | exact zB (by simp only [Nat.lt_eq] at *;omega) | exact Nat.ne_of_gt (by simp only [Nat.lt_eq] at *;omega)
 ·have hle:s1.heap.objs.size<=c:=by
   simp only [zU,not_mem_nil,or_false] at hc;rcases hc with rfl | rfl | rfl | rfl | rfl
   ·exact Nat.le_add_right _ _
   ·exact Nat.le_add_right _ _
   ·exact Nat.le_add_right _ _
   ·exact zv _
   ·exact Nat.le_add_right _ _
  exact I1.fpOk hle (I1.hok.fresh hle)
end
theorem ForW.zipU {K:PySem.W.Frag}{a b:Addr}{xs ys:List V}{g:TG}{tb:TS}{D:Ends}{σ:St}{H:Hp}(Pv:Nat->St->Hp->Prop)(h0:Pv 0 σ H)(hl:∀ i σ H,Pv i σ H->SqT K H a xs/\SqT K H b ys)
 (hs:∀ (i:Nat) x y σ H p,xs[i]?=some x->ys[i]?=some y->Pv i σ H->H p=none->g (.ref p) σ (upd H p (.tup [x,y])) fun σ2 H2=>tb { D with nx:=Pv (i+1),ct:=Pv (i+1),bk:=D.nx } σ2 H2)
 (hd:∀ σ H,Pv (min xs.length ys.length) σ H->D.nx σ H):ForW (JeA K a b) g tb D σ H:=by
 refine ⟨fun i m σ H=>Pv i σ H/\i<=min xs.length ys.length/\m=min xs.length ys.length - i,⟨_,h0,zF _,rfl⟩,fun i m σ H ⟨h1,h2,h3⟩=>?_⟩;obtain ⟨sa,sb⟩:=hl i σ H h1;by_cases e:i=min xs.length ys.length
 ·subst e
  exact .inl ⟨⟨xs,ys,sa,sb,by omega⟩,hd σ H h1⟩
 ·have lt:i<min xs.length ys.length:=Nat.lt_of_le_of_ne h2 e
  have lx:i<xs.length:=by omega
  have ly:i<ys.length:=by omega
  refine .inr ⟨⟨xs,ys,xs[i],ys[i],sa,sb,zJ lx,zJ ly⟩,Pv (i+1),fun σ' H' z=>⟨min xs.length ys.length - (i+1),by omega,z,lt,rfl⟩,fun v H' hy=>?_⟩;obtain ⟨p,x',y',hp,rfl,hx,hy,rfl⟩:=hy;exact hs i x' y' σ H p (hx xs sa) (hy ys sb) h1 hp
theorem JeO {X:Cx}{K:PySem.W.Frag}{e:Expr}{f:Str}{pos:Pos}{ta:TE}(hK:X.K=K)(he:PE X e ta)(hb:attributeBase e f X.env (eval e X.env)=eval e X.env):PE X (.Attribute e f pos) (JaK K ta f):=by
 subst hK;exact J0C he hb
def Itk (d:Addr)(o:Obj)(kvs:List (Key×V))(ks:List Int):It where
 go:=fun i H=>H d=some (.frz o (.dK kvs))/\i<ks.length
 yld:=fun i H x H'=>H'=H/\∃ n,ks[i]?=some n/\x=.int n
 stop:=fun i H=>H d=some (.frz o (.dK kvs))/\ks.length<=i
theorem J9T {P:Program}{w:World}{K:PySem.W.Frag}{tg:Expr}{d:Addr}{o:Obj}{kvs:List (Key×V)}{ks:List Int}{vs:List (Key×Value)}{ep:Nat}(it:Addr)(hk:vs.map (·.1)=ks.map Sum.inl)(ho:∀ h:Heap,h.get? d=some o->h.DictAt (J01 P w) d vs ep):Turn P w K tg (Itk d o kvs ks) [it] it (fun i h=>h.IsKeyIter it d i vs.length ep) where
 mem:=by simp
 obj:=fun i h st b hb=>by
  cases zM.mp hb;obtain ⟨o,e,c,d⟩:=st;exact ⟨o,e,fun v z=>by rw [d] at z;cases z⟩
 keep:=fun i h h' st k=>by
  obtain ⟨o,e,r⟩:=st;exact ⟨o,k it (by simp) o e,r⟩
 item:=by
  intro X hP hw hK hc i pins s σ H E I hf st hg;subst hP hw hK;obtain ⟨g1,g2⟩:=(hg:H d=some (.frz o (.dK kvs))/\i<ks.length);obtain ⟨e,_⟩:=(show ObjOk X.prog X.w H s.heap d (.frz o (.dK kvs)) from I.hok d _ g1);have hl:vs.length=ks.length:=by have:=congrArg List.length hk;rwa [zL,zL] at this
  have hx:=zJ (show i<vs.length by omega);have hn:=zJ g2;have ek:vs[i].1=.inl ks[i]:=by
   have:=congrArg (fun l=>l[i]?) hk;simp only [zW,hx,hn,Option.map_some,Option.some.injEq] at this;exact this
  obtain ⟨f0,f1,f2,f3,f4,f5⟩:=hf it (by simp);refine wpAny_pyNext_dict_item st (ho _ e) (k:=vs[i].1) (v:=vs[i].2) hx fun key h' hkey st' sb=>?_;have I1:Inv X pins σ H { s with heap:=h' }:=I.turned (t':=s.toks) (fun b o hb e=>(sb.2 b hb).trans e) f0 f1 f3 f4 f5;rw [ek] at hkey;obtain ⟨t,rfl⟩:=J5U hkey;obtain ⟨ob,e',c',d'⟩:=id st';exact ⟨_,rfl,go_of (s:={ s with heap:=h' }) e' c' d' (by decide) ⟨.int ks[i],H,I1,⟨t,rfl⟩,⟨rfl,_,hn,rfl⟩,st',fun b hb=>(hf b hb).1⟩⟩
 done:=by
  intro X hP hw hK hc i pins s σ H E I hf st hg;subst hP hw hK;obtain ⟨g1,g2⟩:=(hg:H d=some (.frz o (.dK kvs))/\ks.length<=i);obtain ⟨e,_⟩:=(show ObjOk X.prog X.w H s.heap d (.frz o (.dK kvs)) from I.hok d _ g1);have hl:vs.length=ks.length:=by have:=congrArg List.length hk;rwa [zL,zL] at this
  obtain ⟨f0,f1,f2,f3,f4,f5⟩:=hf it (by simp);exact wpAny_pyNext_dict_end (I.ok.hd hc) st (ho _ e) (List.getElem?_eq_none (by omega)) fun h' eb=>⟨rfl,I.turned (t':=s.toks) (fun b o hb e=>eb b o hb e) f0 f1 f3 f4 f5⟩
 self:=fun _ _ _ _ _ st h=>wpAny_pyIter_keyiter st h
section
variable {X:Cx}{tg:Expr}
def J9G (td:TE):TI:=fun σ H R=>td σ H fun x H1=>∃ d kvs ks,x=.ref d/\H1 d=some (.dK kvs)/\kvs.map (·.1)=List.map Sum.inl ks/\∀ o,R (Itk d o kvs ks) (upd H1 d (.frz o (.dK kvs)))
theorem JcJ {l:Expr}{tl:TE}(hl:PE X l tl):PI X tg l (J9G tl):=by
 intro pins s σ H R I h;refine thn (hl pins s σ H _ I h) fun v s1 ⟨x,H1,I1,r1,q1⟩=>?_;obtain ⟨d,kvs,ks,e,hd,hk,q⟩:=q1;subst e;cases r1;obtain ⟨z,hsys,vs,rel,dd⟩:=J89 I1.hok hd;obtain ⟨o,es,ep,ho,rest⟩:=id dd;have dat:∀ h:Heap,h.get? d=some o->h.DictAt (J01 X.prog X.w) d vs ep:=fun h e=>⟨o,es,e,rest⟩;have ek:vs.map (·.1)=ks.map Sum.inl:=by rw [<- hk];exact rel.keys.symm
 refine wpAny_pyIter_dict hsys (dat _ ho) ?_;have ho':=qh { cls:=.type "dict_keyiterator",data:=.fields #[.ref d,.int 0 0,.int vs.length 0,.int ep 0] } ho;have I2:=I1.write (h':=s1.heap.push { cls:=.type "dict_keyiterator",data:=.fields #[.ref d,.int 0 0,.int vs.length 0,.int ep 0] }) (t':=s1.toks) (x:=d) (e:=d) (o:=.frz o (.dK kvs)) (by rw [hd];trivial) (.inl rfl) (fun b u _ e=>qh _ e) ⟨o,ho'⟩ ⟨ho',z,hsys,vs,rel,o,es,ep,ho',rest⟩;refine ⟨s1.heap.objs.size,[s1.heap.objs.size],_,_,_,rfl,I2,J9T _ ek dat,⟨_,qi _ rfl,rfl,rfl⟩,fun b hb=>?_,q o⟩;cases zM.mp hb;exact I1.fpOk (zv _) (by rw [Jh (Nat.ne_of_gt (qj ho))];exact I1.hok.fresh (zv _))
theorem Inv.thaw {pins:List (Addr×Obj)}{σ:St}{H:Hp}{s:Shared}{d:Addr}{o:Obj}{kvs:List (Key×V)}(I:Inv X pins σ H s)(hd:H d=some (.frz o (.dK kvs)))(h0:∀ o u,X.H₀ d≠some (.frz o u)):Inv X pins σ (upd H d (.dK kvs)) s:=by
 have ne:∀ b,H b=none->b≠d:=fun b n z=>by rw [z,hd] at n;cases n
 refine ⟨I.ok,I.os,I.bare,⟨I.base.keep,I.base.slot,fun b o e n hx=>?_,I.base.there,fun b xs e=>?_,fun b o u e=>?_,fun b ps e=>?_⟩,I.loc,I.cell,?_,fun x c e=>?_,fun p hp=>?_,fun b u e=>?_,I.len⟩
 ·have:=I.base.free b o e n hx
  rw [Jh (ne b this)];exact this
 ·have:=I.base.tups b xs e
  rw [Jh (fun z=>by rw [z,hd] at this;cases this)];exact this
 ·have:=I.base.frzs b o u e
  rw [Jh (fun z=>by rw [z] at e;exact h0 _ _ e)];exact this
 ·obtain ⟨more,q⟩:=I.base.tbls b ps e
  exact ⟨more,by rw [Jh (fun z=>by rw [z,hd] at q;cases q)];exact q⟩
 ·rw [Jh (ne _ I.free)];exact I.free
 ·rw [Jh (ne _ (I.freeC x c e))];exact I.freeC x c e
 ·obtain ⟨e,n,r⟩:=I.pin p hp
  exact ⟨e,by rw [Jh (ne _ n)];exact n,r⟩
 ·have go:∀ c u,H c=some u->(∀ o u',u≠.frz o u')->upd H d (.dK kvs) c=some u:=fun c u q hu=>by
   rw [Jh (fun z=>by rw [z,hd] at q;exact hu _ _ (zA q).symm)];exact q
  by_cases c:b=d
  ·subst c
   rw [Jd] at e;cases e;obtain ⟨_,q⟩:=(show ObjOk X.prog X.w H s.heap b (.frz o (.dK kvs)) from I.hok b _ hd);exact q.stay (fun _ _ _ z=>z) (fun c z=>go c _ z (fun _ _ z=>nomatch z)) fun c xs z=>go c _ z (fun _ _ z=>nomatch z)
  ·rw [Jh c] at e
   exact (I.hok b u e).stay (fun _ _ _ z=>z) (fun c z=>go c _ z (fun _ _ z=>nomatch z)) fun c xs z=>go c _ z (fun _ _ z=>nomatch z)
def Jdp (H0:Hp)(D:Ends):Ends where
 nx:=fun σ H=>∃ d o kvs,(∀ o u,H0 d≠some (.frz o u))/\H d=some (.frz o (.dK kvs))/\D.nx σ (upd H d (.dK kvs))
 rt:=fun v H=>∃ d o kvs,(∀ o u,H0 d≠some (.frz o u))/\H d=some (.frz o (.dK kvs))/\D.rt v (upd H d (.dK kvs))
def J7p (H0:Hp)(td:TE)(g:TG)(tb:TS):TS:=fun D σ H=>J7q (J9G td) g tb (Jdp H0 D) σ H
theorem J9x {iter:Expr}{body:List Stmt}{td:TE}{g:TG}{tb:TS}{pos:Pos}(hp:PassesOwn (model X.prog X.w) X.A X.env X.xe)(hc:X.calm=true)(hi:PE X iter td)(hg:PG X tg g)(hb:PSs X body tb)
 (hs:∀ x,foldedSetIterable iter X.env x=pure x:=by intro _;rfl):PS X (.For tg iter body [] pos) (J7p X.H₀ td g tb):=by
 intro pins s σ H D I h;refine thn (J09 hp hc (JcJ hi) hg hb hs pins s σ H (Jdp X.H₀ D) I h) fun f s1 q=>?_;cases f with
 | next =>
   obtain ⟨σ',H',I',d,o,kvs,hn,hd,q⟩:=q;exact ⟨σ',_,I'.thaw hd hn,q⟩
 | brk=>obtain ⟨σ',H',I',q⟩:=q;exact q.elim
 | cont=>obtain ⟨σ',H',I',q⟩:=q;exact q.elim
 | ret u =>
   obtain ⟨v,σ',H',I',r,d,o,kvs,hn,hd,q⟩:=q;exact ⟨v,σ',_,I'.thaw hd hn,r,q⟩
end
theorem J5L {d:Addr}{o:Obj}{kvs:List (Key×V)}{ks:List Int}{g:TG}{tb:TS}{D:Ends}{σ:St}{H:Hp}(Pv:Nat->St->Hp->Prop)(h0:Pv 0 σ H)(ht:∀ i σ H,Pv i σ H->H d=some (.frz o (.dK kvs)))
 (hs:∀ (i:Nat) n σ H,ks[i]?=some n->Pv i σ H->g (.int n) σ H fun σ2 H2=>tb { D with nx:=Pv (i+1),ct:=Pv (i+1),bk:=D.nx } σ2 H2)
 (hd:∀ σ H,Pv ks.length σ H->D.nx σ H):ForW (Itk d o kvs ks) g tb D σ H:=by
 refine ⟨fun i m σ H=>Pv i σ H/\i<=ks.length/\m=ks.length - i,⟨_,h0,zF _,rfl⟩,fun i m σ H ⟨h1,h2,h3⟩=>?_⟩;by_cases e:i=ks.length
 ·subst e
  exact .inl ⟨⟨ht _ _ _ h1,zv _⟩,hd σ H h1⟩
 ·have lt:i<ks.length:=Nat.lt_of_le_of_ne h2 e
  refine .inr ⟨⟨ht _ _ _ h1,lt⟩,Pv (i+1),fun σ' H' z=>⟨ks.length - (i+1),by omega,z,lt,rfl⟩,fun x H' hy=>?_⟩;obtain ⟨rfl,n,hn,rfl⟩:=hy;exact hs i n σ H' hn h1
end L2
namespace NS
open PySem L2
seal L2.PE L2.PT L2.PA L2.PS L2.PSs L2.PG L2.PI L2.PTs L2.PW L2.PO L2.PGs L2.PPs L2.OpR L2.J03 L2.IxR L2.SlR L2.UnR L2.Jfi
def top (i:Nat):Stmt:=PySem.Challenge.pw_crosshall_k15_whole_boxes_open_to_rows.main.body.getD i (.Pass ⟨0,0,0,0⟩)
abbrev J1i:Stmt:=top 14
abbrev J1b:Stmt:=top 15
abbrev J42:Stmt:=top 16
abbrev J41:Stmt:=top 17
abbrev J2w:Stmt:=top 18
abbrev J3c:Stmt:=top 19
abbrev J2s:Stmt:=top 20
abbrev J3d:Stmt:=top 24
abbrev J1s:Stmt:=top 25
abbrev J3f:Stmt:=top 26
abbrev J2y:Stmt:=top 27
abbrev J2x:Stmt:=top 31
abbrev J1r:Stmt:=top 32
abbrev J1C:Stmt:=top 33
abbrev J2P:Stmt:=top 37
abbrev J1j:Stmt:=top 38
abbrev J2e:Stmt:=top 39
abbrev J1k:Stmt:=top 40
abbrev J2d:Stmt:=top 41
abbrev J29:Stmt:=top 42
abbrev J0T:Stmt:=top 43
abbrev J3e:Stmt:=top 44
abbrev J2c:Stmt:=top 46
abbrev J1H:Stmt:=top 47
abbrev J12:Stmt:=top 48
abbrev J6D:Stmt:=top 49
abbrev J19:Stmt:=top 50
abbrev J1W:Stmt:=top 51
abbrev J7I:Stmt:=top 53
abbrev J1a:Stmt:=top 54
abbrev J2v:Stmt:=top 57
abbrev J6C:Stmt:=top 58
abbrev J1X:Stmt:=top 59
abbrev J2O:Stmt:=top 60
abbrev J1q:Stmt:=top 61
abbrev J3V:Stmt:=top 62
abbrev J4z:Stmt:=top 63
abbrev J3Y:Stmt:=top 64
abbrev J3W:Stmt:=top 65
abbrev J3B:Stmt:=top 66
abbrev J3X:Stmt:=top 67
abbrev J2b:Stmt:=top 68
abbrev J2u:Stmt:=top 69
abbrev J2a:Stmt:=top 70
abbrev J3b:Stmt:=top 71
abbrev J40:Stmt:=top 72
abbrev J0J:Stmt:=top 73
abbrev J2t:Stmt:=top 74
abbrev J3Z:Stmt:=top 75
abbrev s_law:Stmt:=top 76
abbrev J11:Stmt:=J2J (top 28) 0
abbrev J1t:Stmt:=J2J (top 28) 1
abbrev J2A:Stmt:=J2J (top 28) 2
abbrev J2B:Stmt:=J2J (top 28) 3
abbrev J2f:Stmt:=J2J (top 28) 4
abbrev J2z:Stmt:=J2J (top 28) 5
abbrev J1c:Stmt:=J2J (top 28) 6
abbrev J0D:Stmt:=J2J (top 55) 0
abbrev J1I:Stmt:=J2J (top 55) 6
abbrev J0U:Stmt:=J2J (top 55) 7
abbrev J15:Stmt:=J2J (top 55) 8
theorem J5D:FnScope ["text","signs"] ["text","signs"] (Je J1i):=by walk_at "s"
theorem J3S:FnScope ["thing","signs"] ["thing","signs"] (Je J1b):=by walk_at "s"
theorem J8G:FnScope ["thing"] ["thing"] (Je J42):=by walk_at "s"
theorem J8E:FnScope ["thing"] ["thing"] (Je J41):=by walk_at "s"
theorem J6z:FnScope ["thing"] ["thing"] (Je J2w):=by walk_at "s"
theorem J7G:FnScope ["kind","thing"] ["kind","thing"] (Je J3c):=by walk_at "s"
theorem J6x:FnScope ["value"] ["value"] (Je J2s):=by walk_at "s"
theorem J7H:FnScope ["thing"] ["thing"] (Je J3d):=by walk_at "s"
theorem J18:FnScope ["fields","seen","field"] ["fields"] (Je J1s):=by walk_at "s"
theorem J2r:FnScope ["fields","name","place","field"] ["fields","name"] (Je J3f):=by walk_at "s"
theorem J28:FnScope ["fields","row","place","thing"] ["fields","row"] (Je J2y):=by walk_at "s"
theorem J6A:FnScope ["thing"] ["thing"] (Je J2x):=by walk_at "s"
theorem J2n:FnScope ["fields","figure","kind"] ["fields","figure"] (Je J1r):=by walk_at "s"
theorem J27:FnScope ["fields","figure","rows","place","values"] ["fields","figure","rows"] (Je J1C):=by walk_at "s"
theorem J8F:FnScope ["thing"] ["thing"] (Je J2P):=by walk_at "s"
theorem J5E:FnScope ["thing"] ["thing"] (Je J1j):=by walk_at "s"
theorem J31:FnScope ["view","names"] ["view"] (Je J2e):=by walk_at "s"
theorem J30:FnScope ["fields","view","name"] ["fields","view"] (Je J1k):=by walk_at "s"
theorem J1G:FnScope ["fields","names","path","name","value"] ["fields","names","path"] (Je J2d):=by walk_at "s"
theorem J7C:FnScope ["path"] ["path"] (Je J29):=by walk_at "s"
theorem J2Z:FnScope ["fields","names","row","values"] ["fields","names","row"] (Je J0T):=by walk_at "s"
theorem J1A:FnScope ["fields","names","rows","heads","row","path"] ["fields","names","rows"] (Je J3e):=by walk_at "s"
theorem J5C:FnScope ["kind","value"] ["kind","value"] (Je J2c):=by walk_at "s"
theorem J1p:FnScope ["fields","sieve","name","kind"] ["fields","sieve"] (Je J1H):=by walk_at "s"
theorem J4V:FnScope ["fields","sieve"] ["fields","sieve"] (Je J12):=by walk_at "s"
theorem JaQ:FnScope ["form","value","other"] ["form","value","other"] (Je J6D):=by walk_at "s"
theorem J1V:FnScope ["fields","sieve","row","value"] ["fields","sieve","row"] (Je J19):=by walk_at "s"
theorem J8A:FnScope ["fields","sieve","row"] ["fields","sieve","row"] (Je J1W):=by walk_at "s"
theorem J8B:FnScope ["sheet","view","sieve","fields","pairs"] ["sheet","view","sieve"] (Je J7I):=by walk_at "s"
theorem JT:FnScope ["fields","view","pairs","boxes","number","row","others","one","other"] ["fields","view","pairs"] (Je J1a):=by walk_at "s"
theorem J6y:FnScope ["_law_script","_law_k"] ["_law_script","_law_k"] (Je J2v):=by walk_at "s"
theorem J7F:FnScope ["_law_seed","_law_k","_law_turn"] ["_law_seed","_law_k"] (Je J6C):=by walk_at "s"
theorem J0A:FnScope ["_law_seed","_law_signs","_law_many","_law_most","_law_word","_law_few","_law_at","_law_rest","_law_heads_here","_law_k","_law_sign"] ["_law_seed","_law_signs","_law_many","_law_most"] (Je J1X):=by walk_at "s"
theorem J0z:FnScope ["_law_script","_law_seed","_law_many","_law_names","_law_fields","_law_words","_law_base"] ["_law_script"] (Je J2O):=by walk_at "s"
theorem J4n:FnScope ["_law_seed","_law_kind","_law_world_here"] ["_law_seed","_law_kind","_law_world_here"] (Je J1q):=by walk_at "s"
theorem J8C:FnScope ["_law_seed","_law_kind","_law_world_here"] ["_law_seed","_law_kind","_law_world_here"] (Je J3V):=by walk_at "s"
theorem J7E:FnScope ["_law_seed","_law_world_here","_law_fields"] ["_law_seed","_law_world_here"] (Je J4z):=by walk_at "s"
theorem J26:FnScope ["_law_seed","_law_world_here","_law_name","_law_kind","_law_way"] ["_law_seed","_law_world_here"] (Je J3Y):=by walk_at "s"
theorem J25:FnScope ["_law_seed","_law_world_here","_law_deep","_law_way","_law_told","_law_k"] ["_law_seed","_law_world_here","_law_deep"] (Je J3W):=by walk_at "s"
theorem J07:FnScope ["_law_seed","_law_world_here","_law_names","_law_at","_law_few","_law_figures","_law_k","_law_turn","_law_name","_law_kind","_law_figure_here"] ["_law_seed","_law_world_here"] (Je J3B):=by walk_at "s"
theorem J0M:FnScope ["_law_script","_law_world_here","_law_many","_law_sheet_here","_law_table","_law_k","_law_seed","_law_row_here","_law_number"] ["_law_script","_law_world_here","_law_many"] (Je J3X):=by walk_at "s"
theorem J5B:FnScope ["_law_sieve_here","_law_value_here"] ["_law_sieve_here","_law_value_here"] (Je J2b):=by walk_at "s"
theorem J9Z:FnScope ["_law_sieve_here","_law_names","_law_row_here"] ["_law_sieve_here","_law_names","_law_row_here"] (Je J2u):=by walk_at "s"
theorem J7D:FnScope ["_law_side","_law_names","_law_row_here"] ["_law_side","_law_names","_law_row_here"] (Je J2a):=by walk_at "s"
theorem J0e:FnScope ["_law_figure_here","_law_names","_law_rows","_law_at","_law_whole","_law_apart","_law_row_here","_law_best","_law_value_here"] ["_law_figure_here","_law_names","_law_rows"] (Je J3b):=by walk_at "s"
theorem J8D:FnScope ["_law_told","_law_due"] ["_law_told","_law_due"] (Je J40):=by walk_at "s"
theorem JE:FnScope ["_law_table","_law_world_here","_law_view_here","_law_pair","_law_laid","_law_names","_law_due","_law_number","_law_row_here","_law_one","_law_other","_law_told","_law_rows","_law_k"] ["_law_table","_law_world_here","_law_view_here","_law_pair","_law_laid"] (Je J0J):=by walk_at "s"
theorem J24:FnScope ["_law_side","_law_fields","_law_told","_law_name"] ["_law_side","_law_fields"] (Je J2t):=by walk_at "s"
theorem J0m:FnScope ["_law_script","_law_laid","_law_names","_law_view_here","_law_fields","_law_pairs_here","_law_numbers","_law_k","_law_seed","_law_paths","_law_side","_law_path"] ["_law_script","_law_laid","_law_names","_law_view_here","_law_fields"] (Je J3Z):=by walk_at "s"
theorem J0s:FnScope ["_law_script","_law_world_here","_law_names","_law_seed","_law_view_here","_law_sieve_here","_law_turn","_law_sheet_here","_law_rows","_law_table","_law_laid","_law_number","_law_one","_law_other","_law_at","_law_pair"] ["_law_script"] (Je s_law):=by walk_at "s"
theorem J3A:FnScope ["self","fields"] ["self","fields"] (Je J11):=by walk_at "s"
theorem J4p:FnScope ["self"] ["self"] (Je J1t):=by walk_at "s"
theorem J3y:FnScope ["self","row","number"] ["self","row"] (Je J2A):=by walk_at "s"
theorem J3z:FnScope ["self","number","before"] ["self","number"] (Je J2B):=by walk_at "s"
theorem J32:FnScope ["self","number","row","before"] ["self","number","row"] (Je J2f):=by walk_at "s"
theorem J6B:FnScope ["self","number"] ["self","number"] (Je J2z):=by walk_at "s"
theorem J3T:FnScope ["self"] ["self"] (Je J1c):=by walk_at "s"
theorem J1B:FnScope ["self","fields","view","rows","laid"] ["self","fields","view","rows"] (Je J0D):=by walk_at "s"
theorem J4W:FnScope ["self","one","other"] ["self","one","other"] (Je J1I):=by walk_at "s"
theorem J4o:FnScope ["self","one","other"] ["self","one","other"] (Je J0U):=by walk_at "s"
theorem J3x:FnScope ["self","one","other","rows"] ["self","one","other"] (Je J15):=by walk_at "s"
structure Txt (K:PySem.W.Frag)(mg:Str->Option Value)(f:Nat->Addr)(fd:Nat->FuncData):Prop where
 wW:DefOk K mg "is_made_of" J1i ["text","signs"] (f 14) (fd 14)
 wH:DefOk K mg "is_short_text" J1b ["thing","signs"] (f 15) (fd 15)
 wX:DefOk K mg "is_name" J42 ["thing"] (f 16) (fd 16)
 wY:DefOk K mg "is_word" J41 ["thing"] (f 17) (fd 17)
 wZ:DefOk K mg "is_number" J2w ["thing"] (f 18) (fd 18)
 wI:DefOk K mg "is_value" J3c ["kind","thing"] (f 19) (fd 19)
 yb:DefOk K mg "order_key" J2s ["value"] (f 20) (fd 20)
 yc:DefOk K mg "is_field" J3d ["thing"] (f 24) (fd 24)
 yd:DefOk K mg "asked_fields" J1s ["fields"] (f 25) (fd 25)
 wj:DefOk K mg "field_at" J3f ["fields","name"] (f 26) (fd 26)
 wJ:DefOk K mg "asked_row" J2y ["fields","row"] (f 27) (fd 27)
 ye:DefOk K mg "is_figure" J2x ["thing"] (f 31) (fd 31)
 yf:DefOk K mg "asked_figure" J1r ["fields","figure"] (f 32) (fd 32)
 yg:DefOk K mg "figure_of" J1C ["fields","figure","rows"] (f 33) (fd 33)
 wK:DefOk K mg "is_side" J2P ["thing"] (f 37) (fd 37)
 yh:DefOk K mg "is_figures" J1j ["thing"] (f 38) (fd 38)
 yi:DefOk K mg "asked_form" J2e ["view"] (f 39) (fd 39)
 yj:DefOk K mg "asked_view" J1k ["fields","view"] (f 40) (fd 40)
 wL:DefOk K mg "asked_path" J2d ["fields","names","path"] (f 41) (fd 41)
 wM:DefOk K mg "path_key" J29 ["path"] (f 42) (fd 42)
 wv:DefOk K mg "paths_over" J0T ["fields","names","row"] (f 43) (fd 43)
 wN:DefOk K mg "heads_of" J3e ["fields","names","rows"] (f 44) (fd 44)
 yk:DefOk K mg "is_of_kind" J2c ["kind","value"] (f 46) (fd 46)
 yl:DefOk K mg "asked_plain" J1H ["fields","sieve"] (f 47) (fd 47)
 ww:DefOk K mg "asked_sieve" J12 ["fields","sieve"] (f 48) (fd 48)
 ym:DefOk K mg "holds" J6D ["form","value","other"] (f 49) (fd 49)
 yo:DefOk K mg "plain_lets_by" J19 ["fields","sieve","row"] (f 50) (fd 50)
 wt:DefOk K mg "lets_by" J1W ["fields","sieve","row"] (f 51) (fd 51)
 yq:DefOk K mg "lay" J7I ["sheet","view","sieve"] (f 53) (fd 53)
 yr:DefOk K mg "laid_in_boxes" J1a ["fields","view","pairs"] (f 54) (fd 54)
 wn:DefOk K mg "_law_cell_at" J2v ["_law_script","_law_k"] (f 57) (fd 57)
 we:DefOk K mg "_law_mix" J6C ["_law_seed","_law_k"] (f 58) (fd 58)
 wO:DefOk K mg "_law_heads" J1X ["_law_seed","_law_signs","_law_many","_law_most"] (f 59) (fd 59)
 yt:DefOk K mg "_law_world" J2O ["_law_script"] (f 60) (fd 60)
 wx:DefOk K mg "_law_sure_value" J1q ["_law_seed","_law_kind","_law_world_here"] (f 61) (fd 61)
 yu:DefOk K mg "_law_value" J3V ["_law_seed","_law_kind","_law_world_here"] (f 62) (fd 62)
 yv:DefOk K mg "_law_row" J4z ["_law_seed","_law_world_here"] (f 63) (fd 63)
 yw:DefOk K mg "_law_plain" J3Y ["_law_seed","_law_world_here"] (f 64) (fd 64)
 wA:DefOk K mg "_law_sieve" J3W ["_law_seed","_law_world_here","_law_deep"] (f 65) (fd 65)
 yx:DefOk K mg "_law_view" J3B ["_law_seed","_law_world_here"] (f 66) (fd 66)
 yy:DefOk K mg "_law_sheet" J3X ["_law_script","_law_world_here","_law_many"] (f 67) (fd 67)
 yz:DefOk K mg "_law_one_lets" J2b ["_law_sieve_here","_law_value_here"] (f 68) (fd 68)
 wu:DefOk K mg "_law_lets" J2u ["_law_sieve_here","_law_names","_law_row_here"] (f 69) (fd 69)
 wo:DefOk K mg "_law_values" J2a ["_law_side","_law_names","_law_row_here"] (f 70) (fd 70)
 yA:DefOk K mg "_law_figure" J3b ["_law_figure_here","_law_names","_law_rows"] (f 71) (fd 71)
 yB:DefOk K mg "_law_alike" J40 ["_law_told","_law_due"] (f 72) (fd 72)
 yC:DefOk K mg "_law_box_right" J0J ["_law_table","_law_world_here","_law_view_here","_law_pair","_law_laid"] (f 73) (fd 73)
 wP:DefOk K mg "_law_strange" J2t ["_law_side","_law_fields"] (f 74) (fd 74)
 yD:DefOk K mg "_law_pairs" J3Z ["_law_script","_law_laid","_law_names","_law_view_here","_law_fields"] (f 75) (fd 75)
 yE:DefOk K mg "law" s_law ["_law_script"] (f 76) (fd 76)
 yF:MthOk K "__init__" "Sheet.__init__" J11 ["self","fields"] (f 29000) (fd 29000)
 yG:MthOk K "fields" "Sheet.fields" J1t ["self"] (f 29001) (fd 29001)
 yH:MthOk K "put" "Sheet.put" J2A ["self","row"] (f 29002) (fd 29002)
 yI:MthOk K "out" "Sheet.out" J2B ["self","number"] (f 29003) (fd 29003)
 yJ:MthOk K "turn" "Sheet.turn" J2f ["self","number","row"] (f 29004) (fd 29004)
 wB:MthOk K "row" "Sheet.row" J2z ["self","number"] (f 29005) (fd 29005)
 wQ:MthOk K "numbers" "Sheet.numbers" J1c ["self"] (f 29006) (fd 29006)
 yK:MthOk K "__init__" "Table.__init__" J0D ["self","fields","view","rows"] (f 56000) (fd 56000)
 wR:MthOk K "lying" "Table.lying" J1I ["self","one","other"] (f 56006) (fd 56006)
 wC:MthOk K "opened" "Table.opened" J0U ["self","one","other"] (f 56007) (fd 56007)
 wS:MthOk K "box" "Table.box" J15 ["self","one","other"] (f 56008) (fd 56008)
 wb:OwnOk K mg "Sheet" (f 28) (f 29000)
 yT:Meth K (f 28) "fields" (f 29001)
 yU:Meth K (f 28) "put" (f 29002)
 yV:Meth K (f 28) "out" (f 29003)
 yW:Meth K (f 28) "turn" (f 29004)
 wT:Meth K (f 28) "row" (f 29005)
 yL:Meth K (f 28) "numbers" (f 29006)
 wd:OwnOk K mg "Table" (f 55) (f 56000)
 yM:Meth K (f 55) "lying" (f 56006)
 wU:Meth K (f 55) "opened" (f 56007)
 yN:Meth K (f 55) "box" (f 56008)
 wV:PySem.W.findIn K (.ref (f 28)) "given"=some none
 wD:PySem.W.findIn K (.ref (f 28)) "kept_fields"=some none
 wl:PySem.W.findIn K (.ref (f 28)) "kept_rows"=some none
 yO:PySem.W.findIn K (.ref (f 55)) "boxes"=some none
 wE:PySem.W.findIn K (.ref (f 55)) "kept_fields"=some none
 yX:PySem.W.findIn K (.ref (f 55)) "kept_heads"=some none
 wF:PySem.W.findIn K (.ref (f 55)) "kept_view"=some none
 yY:mg "abs"=none
 wp:mg "all"=none
 yZ:mg "any"=none
 yP:mg "bool"=none
 y9:mg "dict"=none
 yQ:mg "enumerate"=none
 wG:mg "int"=none
 wc:mg "isinstance"=none
 wa:mg "len"=none
 wm:mg "list"=none
 zc:mg "max"=none
 zd:mg "min"=none
 wg:mg "range"=none
 yR:mg "set"=none
 wq:mg "sorted"=none
 wk:mg "str"=none
 ze:mg "sum"=none
 wf:mg "tuple"=none
 zf:mg "zip"=none
 yS:∃ tk,mg "LETTERS"=some (.str "abcdefghijklmnopqrstuvwxyz" tk)
 zg:∃ tk,mg "FIGURES"=some (.str "0123456789" tk)
 zh:∃ tk,mg "MOST_SIGNS"=some (.int (12) tk)
 zi:mg "KINDS"=some (.ref (f 22))
 zj:∀ H,SqT K H (f 22) [.str "word",.str "number"]
 zk:∃ tk,mg "MOST_FIELDS"=some (.int (8) tk)
 zm:mg "NAMED_FORMS"=some (.ref (f 30))
 zn:∀ H,SqT K H (f 30) [.str "sum",.str "greatest",.str "least",.str "unlike"]
 zo:∃ tk,mg "MOST_NAMES"=some (.int (3) tk)
 zp:∃ tk,mg "MOST_FIGURES"=some (.int (4) tk)
theorem Jbt {α:Type}{C:List α->Prop}(h:C [])(us:List α)(e:us.length=0):C us:=(length_eq_zero_iff.mp e) ▸ h
theorem J3l {α:Type}{n:Nat}{C:List α->Prop}(h:∀ (a:α) (us:List α),us.length=n->C (a::us))(us:List α)(e:us.length=n+1):C us:=by
 cases us with
 | nil=>cases e
 | cons a r=>exact h a r (Nat.succ.inj e)
theorem J1x {fd:FuncData}{ps:List Str}(h:∀ a:Value,bindArgs fd ⟨[a],[]⟩=pure (ps.zip [a]))(us:List Value)(e:us.length=1):bindArgs fd ⟨us,[]⟩=pure (ps.zip us):=by
 revert us
 exact J3l fun a=>Jbt (h a)
theorem J0H {fd:FuncData}{ps:List Str}(h:∀ a b:Value,bindArgs fd ⟨[a,b],[]⟩=pure (ps.zip [a,b]))(us:List Value)(e:us.length=2):bindArgs fd ⟨us,[]⟩=pure (ps.zip us):=by
 revert us
 exact J3l fun a=>J3l fun b=>Jbt (h a b)
theorem J0P {fd:FuncData}{ps:List Str}(h:∀ a b c:Value,bindArgs fd ⟨[a,b,c],[]⟩=pure (ps.zip [a,b,c]))(us:List Value)(e:us.length=3):bindArgs fd ⟨us,[]⟩=pure (ps.zip us):=by
 revert us
 exact J3l fun a=>J3l fun b=>J3l fun c=>Jbt (h a b c)
theorem Jdx {fd:FuncData}{ps:List Str}(h:∀ a b c d:Value,bindArgs fd ⟨[a,b,c,d],[]⟩=pure (ps.zip [a,b,c,d]))(us:List Value)(e:us.length=4):bindArgs fd ⟨us,[]⟩=pure (ps.zip us):=by
 revert us
 exact J3l fun a=>J3l fun b=>J3l fun c=>J3l fun d=>Jbt (h a b c d)
theorem Jdw {fd:FuncData}{ps:List Str}(h:∀ a b c d e:Value,bindArgs fd ⟨[a,b,c,d,e],[]⟩=pure (ps.zip [a,b,c,d,e]))(us:List Value)(e:us.length=5):bindArgs fd ⟨us,[]⟩=pure (ps.zip us):=by
 revert us
 exact J3l fun a=>J3l fun b=>J3l fun c=>J3l fun d=>J3l fun e=>Jbt (h a b c d e)
theorem dkm {K:PySem.W.Frag}{h:Heap}{mg:Str->Option Value}{x:Str}{st:Stmt}{ps:List Str}{f:Addr}{fd:FuncData}(X:K.In h)(G:h.Ns mainGlobals mg)(F:Fun K x x st f fd)(hb:∀ kV doc pm an cdv ct (us:List Value),us.length=ps.length->bindArgs (PySem.W.fnOf x x (J14 st) (J0Z st) (Je st) .none kV doc pm an cdv ct) ⟨us,[]⟩=pure (ps.zip us))(a:nsIn K mainGlobals x=some (some (.ref f))):DefOk K mg x st ps f fd:=⟨F,F.binds hb,PySem.W.mg_of X G a⟩
theorem txt_mk {K:PySem.W.Frag}{h:Heap}{mg:Str->Option Value}(X:K.In h)(G:h.Ns mainGlobals mg)
 {f14 f15 f16 f17 f18 f19 f20 f24 f25 f26 f27 f31 f32 f33 f37 f38 f39 f40 f41 f42 f43 f44 f46 f47 f48 f49 f50 f51 f53 f54 f57 f58 f59 f60 f61 f62 f63 f64 f65 f66 f67 f68 f69 f70 f71 f72 f73 f74 f75 f76 f29000 f29001 f29002 f29003 f29004 f29005 f29006 f56000 f56006 f56007 f56008:Addr} {d14 d15 d16 d17 d18 d19 d20 d24 d25 d26 d27 d31 d32 d33 d37 d38 d39 d40 d41 d42 d43 d44 d46 d47 d48 d49 d50 d51 d53 d54 d57 d58 d59 d60 d61 d62 d63 d64 d65 d66 d67 d68 d69 d70 d71 d72 d73 d74 d75 d76 d29000 d29001 d29002 d29003 d29004 d29005 d29006 d56000 d56006 d56007 d56008:FuncData}
 {f28:Addr}
 {f55:Addr}
 (a28:nsIn K mainGlobals "Sheet"=some (some (.ref f28)))
 (a55:nsIn K mainGlobals "Table"=some (some (.ref f55)))
 (a14:nsIn K mainGlobals "is_made_of"=some (some (.ref f14)))
 (l14:Fun K "is_made_of" "is_made_of" J1i f14 d14)
 (a15:nsIn K mainGlobals "is_short_text"=some (some (.ref f15)))
 (l15:Fun K "is_short_text" "is_short_text" J1b f15 d15)
 (a16:nsIn K mainGlobals "is_name"=some (some (.ref f16)))
 (l16:Fun K "is_name" "is_name" J42 f16 d16)
 (a17:nsIn K mainGlobals "is_word"=some (some (.ref f17)))
 (l17:Fun K "is_word" "is_word" J41 f17 d17)
 (a18:nsIn K mainGlobals "is_number"=some (some (.ref f18)))
 (l18:Fun K "is_number" "is_number" J2w f18 d18)
 (a19:nsIn K mainGlobals "is_value"=some (some (.ref f19)))
 (l19:Fun K "is_value" "is_value" J3c f19 d19)
 (a20:nsIn K mainGlobals "order_key"=some (some (.ref f20)))
 (l20:Fun K "order_key" "order_key" J2s f20 d20)
 (a24:nsIn K mainGlobals "is_field"=some (some (.ref f24)))
 (l24:Fun K "is_field" "is_field" J3d f24 d24)
 (a25:nsIn K mainGlobals "asked_fields"=some (some (.ref f25)))
 (l25:Fun K "asked_fields" "asked_fields" J1s f25 d25)
 (a26:nsIn K mainGlobals "field_at"=some (some (.ref f26)))
 (l26:Fun K "field_at" "field_at" J3f f26 d26)
 (a27:nsIn K mainGlobals "asked_row"=some (some (.ref f27)))
 (l27:Fun K "asked_row" "asked_row" J2y f27 d27)
 (a31:nsIn K mainGlobals "is_figure"=some (some (.ref f31)))
 (l31:Fun K "is_figure" "is_figure" J2x f31 d31)
 (a32:nsIn K mainGlobals "asked_figure"=some (some (.ref f32)))
 (l32:Fun K "asked_figure" "asked_figure" J1r f32 d32)
 (a33:nsIn K mainGlobals "figure_of"=some (some (.ref f33)))
 (l33:Fun K "figure_of" "figure_of" J1C f33 d33)
 (a37:nsIn K mainGlobals "is_side"=some (some (.ref f37)))
 (l37:Fun K "is_side" "is_side" J2P f37 d37)
 (a38:nsIn K mainGlobals "is_figures"=some (some (.ref f38)))
 (l38:Fun K "is_figures" "is_figures" J1j f38 d38)
 (a39:nsIn K mainGlobals "asked_form"=some (some (.ref f39)))
 (l39:Fun K "asked_form" "asked_form" J2e f39 d39)
 (a40:nsIn K mainGlobals "asked_view"=some (some (.ref f40)))
 (l40:Fun K "asked_view" "asked_view" J1k f40 d40)
 (a41:nsIn K mainGlobals "asked_path"=some (some (.ref f41)))
 (l41:Fun K "asked_path" "asked_path" J2d f41 d41)
 (a42:nsIn K mainGlobals "path_key"=some (some (.ref f42)))
 (l42:Fun K "path_key" "path_key" J29 f42 d42)
 (a43:nsIn K mainGlobals "paths_over"=some (some (.ref f43)))
 (l43:Fun K "paths_over" "paths_over" J0T f43 d43)
 (a44:nsIn K mainGlobals "heads_of"=some (some (.ref f44)))
 (l44:Fun K "heads_of" "heads_of" J3e f44 d44)
 (a46:nsIn K mainGlobals "is_of_kind"=some (some (.ref f46)))
 (l46:Fun K "is_of_kind" "is_of_kind" J2c f46 d46)
 (a47:nsIn K mainGlobals "asked_plain"=some (some (.ref f47)))
 (l47:Fun K "asked_plain" "asked_plain" J1H f47 d47)
 (a48:nsIn K mainGlobals "asked_sieve"=some (some (.ref f48)))
 (l48:Fun K "asked_sieve" "asked_sieve" J12 f48 d48)
 (a49:nsIn K mainGlobals "holds"=some (some (.ref f49)))
 (l49:Fun K "holds" "holds" J6D f49 d49)
 (a50:nsIn K mainGlobals "plain_lets_by"=some (some (.ref f50)))
 (l50:Fun K "plain_lets_by" "plain_lets_by" J19 f50 d50)
 (a51:nsIn K mainGlobals "lets_by"=some (some (.ref f51)))
 (l51:Fun K "lets_by" "lets_by" J1W f51 d51)
 (a53:nsIn K mainGlobals "lay"=some (some (.ref f53)))
 (l53:Fun K "lay" "lay" J7I f53 d53)
 (a54:nsIn K mainGlobals "laid_in_boxes"=some (some (.ref f54)))
 (l54:Fun K "laid_in_boxes" "laid_in_boxes" J1a f54 d54)
 (a57:nsIn K mainGlobals "_law_cell_at"=some (some (.ref f57)))
 (l57:Fun K "_law_cell_at" "_law_cell_at" J2v f57 d57)
 (a58:nsIn K mainGlobals "_law_mix"=some (some (.ref f58)))
 (l58:Fun K "_law_mix" "_law_mix" J6C f58 d58)
 (a59:nsIn K mainGlobals "_law_heads"=some (some (.ref f59)))
 (l59:Fun K "_law_heads" "_law_heads" J1X f59 d59)
 (a60:nsIn K mainGlobals "_law_world"=some (some (.ref f60)))
 (l60:Fun K "_law_world" "_law_world" J2O f60 d60)
 (a61:nsIn K mainGlobals "_law_sure_value"=some (some (.ref f61)))
 (l61:Fun K "_law_sure_value" "_law_sure_value" J1q f61 d61)
 (a62:nsIn K mainGlobals "_law_value"=some (some (.ref f62)))
 (l62:Fun K "_law_value" "_law_value" J3V f62 d62)
 (a63:nsIn K mainGlobals "_law_row"=some (some (.ref f63)))
 (l63:Fun K "_law_row" "_law_row" J4z f63 d63)
 (a64:nsIn K mainGlobals "_law_plain"=some (some (.ref f64)))
 (l64:Fun K "_law_plain" "_law_plain" J3Y f64 d64)
 (a65:nsIn K mainGlobals "_law_sieve"=some (some (.ref f65)))
 (l65:Fun K "_law_sieve" "_law_sieve" J3W f65 d65)
 (a66:nsIn K mainGlobals "_law_view"=some (some (.ref f66)))
 (l66:Fun K "_law_view" "_law_view" J3B f66 d66)
 (a67:nsIn K mainGlobals "_law_sheet"=some (some (.ref f67)))
 (l67:Fun K "_law_sheet" "_law_sheet" J3X f67 d67)
 (a68:nsIn K mainGlobals "_law_one_lets"=some (some (.ref f68)))
 (l68:Fun K "_law_one_lets" "_law_one_lets" J2b f68 d68)
 (a69:nsIn K mainGlobals "_law_lets"=some (some (.ref f69)))
 (l69:Fun K "_law_lets" "_law_lets" J2u f69 d69)
 (a70:nsIn K mainGlobals "_law_values"=some (some (.ref f70)))
 (l70:Fun K "_law_values" "_law_values" J2a f70 d70)
 (a71:nsIn K mainGlobals "_law_figure"=some (some (.ref f71)))
 (l71:Fun K "_law_figure" "_law_figure" J3b f71 d71)
 (a72:nsIn K mainGlobals "_law_alike"=some (some (.ref f72)))
 (l72:Fun K "_law_alike" "_law_alike" J40 f72 d72)
 (a73:nsIn K mainGlobals "_law_box_right"=some (some (.ref f73)))
 (l73:Fun K "_law_box_right" "_law_box_right" J0J f73 d73)
 (a74:nsIn K mainGlobals "_law_strange"=some (some (.ref f74)))
 (l74:Fun K "_law_strange" "_law_strange" J2t f74 d74)
 (a75:nsIn K mainGlobals "_law_pairs"=some (some (.ref f75)))
 (l75:Fun K "_law_pairs" "_law_pairs" J3Z f75 d75)
 (a76:nsIn K mainGlobals "law"=some (some (.ref f76)))
 (l76:Fun K "law" "law" s_law f76 d76)
 (a29000:PySem.W.findIn K (.ref f28) "__init__"=some (some (.ref f29000)))
 (l29000:Fun K "__init__" "Sheet.__init__" J11 f29000 d29000)
 (b29000:PySem.W.isFn K (.ref f29000)=true)
 (a29001:PySem.W.findIn K (.ref f28) "fields"=some (some (.ref f29001)))
 (l29001:Fun K "fields" "Sheet.fields" J1t f29001 d29001)
 (b29001:PySem.W.isFn K (.ref f29001)=true)
 (a29002:PySem.W.findIn K (.ref f28) "put"=some (some (.ref f29002)))
 (l29002:Fun K "put" "Sheet.put" J2A f29002 d29002)
 (b29002:PySem.W.isFn K (.ref f29002)=true)
 (a29003:PySem.W.findIn K (.ref f28) "out"=some (some (.ref f29003)))
 (l29003:Fun K "out" "Sheet.out" J2B f29003 d29003)
 (b29003:PySem.W.isFn K (.ref f29003)=true)
 (a29004:PySem.W.findIn K (.ref f28) "turn"=some (some (.ref f29004)))
 (l29004:Fun K "turn" "Sheet.turn" J2f f29004 d29004)
 (b29004:PySem.W.isFn K (.ref f29004)=true)
 (a29005:PySem.W.findIn K (.ref f28) "row"=some (some (.ref f29005)))
 (l29005:Fun K "row" "Sheet.row" J2z f29005 d29005)
 (b29005:PySem.W.isFn K (.ref f29005)=true)
 (a29006:PySem.W.findIn K (.ref f28) "numbers"=some (some (.ref f29006)))
 (l29006:Fun K "numbers" "Sheet.numbers" J1c f29006 d29006)
 (b29006:PySem.W.isFn K (.ref f29006)=true)
 (a56000:PySem.W.findIn K (.ref f55) "__init__"=some (some (.ref f56000)))
 (l56000:Fun K "__init__" "Table.__init__" J0D f56000 d56000)
 (b56000:PySem.W.isFn K (.ref f56000)=true)
 (a56006:PySem.W.findIn K (.ref f55) "lying"=some (some (.ref f56006)))
 (l56006:Fun K "lying" "Table.lying" J1I f56006 d56006)
 (b56006:PySem.W.isFn K (.ref f56006)=true)
 (a56007:PySem.W.findIn K (.ref f55) "opened"=some (some (.ref f56007)))
 (l56007:Fun K "opened" "Table.opened" J0U f56007 d56007)
 (b56007:PySem.W.isFn K (.ref f56007)=true)
 (a56008:PySem.W.findIn K (.ref f55) "box"=some (some (.ref f56008)))
 (l56008:Fun K "box" "Table.box" J15 f56008 d56008)
 (b56008:PySem.W.isFn K (.ref f56008)=true)
 (o_Sheet_pg:PySem.W.plainGet K f28 Str.empty=true)
 (o_Sheet_hd:PySem.W.hasDictIn K f28=true)
 (o_Sheet_po:PySem.W.plainOver K f28=true)
 (o_Sheet_sa:PySem.W.findIn K (.ref f28) "__setattr__"=some (some (.builtin "object.__setattr__")))
 (o_Sheet_ma:PySem.W.makesIn K f28=true)
 (o_Sheet_kp:PySem.W.keepIn K (.ref f28)=true)
 (o_Table_pg:PySem.W.plainGet K f55 Str.empty=true)
 (o_Table_hd:PySem.W.hasDictIn K f55=true)
 (o_Table_po:PySem.W.plainOver K f55=true)
 (o_Table_sa:PySem.W.findIn K (.ref f55) "__setattr__"=some (some (.builtin "object.__setattr__")))
 (o_Table_ma:PySem.W.makesIn K f55=true)
 (o_Table_kp:PySem.W.keepIn K (.ref f55)=true)
 (v_na_Sheet_given:PySem.W.findIn K (.ref f28) "given"=some none)
 (v_na_Sheet_kept_fields:PySem.W.findIn K (.ref f28) "kept_fields"=some none)
 (v_na_Sheet_kept_rows:PySem.W.findIn K (.ref f28) "kept_rows"=some none)
 (v_na_Table_boxes:PySem.W.findIn K (.ref f55) "boxes"=some none)
 (v_na_Table_kept_fields:PySem.W.findIn K (.ref f55) "kept_fields"=some none)
 (v_na_Table_kept_heads:PySem.W.findIn K (.ref f55) "kept_heads"=some none)
 (v_na_Table_kept_view:PySem.W.findIn K (.ref f55) "kept_view"=some none)
 (z_abs:nsIn K mainGlobals "abs"=some none)
 (z_all:nsIn K mainGlobals "all"=some none)
 (z_any:nsIn K mainGlobals "any"=some none)
 (z_bool:nsIn K mainGlobals "bool"=some none)
 (z_dict:nsIn K mainGlobals "dict"=some none)
 (z_enumerate:nsIn K mainGlobals "enumerate"=some none)
 (z_int:nsIn K mainGlobals "int"=some none)
 (z_isinstance:nsIn K mainGlobals "isinstance"=some none)
 (z_len:nsIn K mainGlobals "len"=some none)
 (z_list:nsIn K mainGlobals "list"=some none)
 (z_max:nsIn K mainGlobals "max"=some none)
 (z_min:nsIn K mainGlobals "min"=some none)
 (z_range:nsIn K mainGlobals "range"=some none)
 (z_set:nsIn K mainGlobals "set"=some none)
 (z_sorted:nsIn K mainGlobals "sorted"=some none)
 (z_str:nsIn K mainGlobals "str"=some none)
 (z_sum:nsIn K mainGlobals "sum"=some none)
 (z_tuple:nsIn K mainGlobals "tuple"=some none)
 (z_zip:nsIn K mainGlobals "zip"=some none)
 {tk_LETTERS:Tok} (y_LETTERS:nsIn K mainGlobals "LETTERS"=some (some (.str "abcdefghijklmnopqrstuvwxyz" tk_LETTERS)))
 {tk_FIGURES:Tok} (y_FIGURES:nsIn K mainGlobals "FIGURES"=some (some (.str "0123456789" tk_FIGURES)))
 {tk_MOST_SIGNS:Tok} (y_MOST_SIGNS:nsIn K mainGlobals "MOST_SIGNS"=some (some (.int (12) tk_MOST_SIGNS)))
 {f22:Addr} {od22:Option Addr} {sl22:Array (Option Value)} {n22:Nat} {tk22_0 tk22_1:Tok} (y_KINDS:nsIn K mainGlobals "KINDS"=some (some (.ref f22))) (l22:K.lookup f22=some ⟨.type "tuple",od22,.seq #[.str "word" tk22_0,.str "number" tk22_1] n22,sl22⟩)
 {tk_MOST_FIELDS:Tok} (y_MOST_FIELDS:nsIn K mainGlobals "MOST_FIELDS"=some (some (.int (8) tk_MOST_FIELDS)))
 {f30:Addr} {od30:Option Addr} {sl30:Array (Option Value)} {n30:Nat} {tk30_0 tk30_1 tk30_2 tk30_3:Tok} (y_NAMED_FORMS:nsIn K mainGlobals "NAMED_FORMS"=some (some (.ref f30))) (l30:K.lookup f30=some ⟨.type "tuple",od30,.seq #[.str "sum" tk30_0,.str "greatest" tk30_1,.str "least" tk30_2,.str "unlike" tk30_3] n30,sl30⟩)
 {tk_MOST_NAMES:Tok} (y_MOST_NAMES:nsIn K mainGlobals "MOST_NAMES"=some (some (.int (3) tk_MOST_NAMES)))
 {tk_MOST_FIGURES:Tok} (y_MOST_FIGURES:nsIn K mainGlobals "MOST_FIGURES"=some (some (.int (4) tk_MOST_FIGURES)))
 : ∃ f fd,Txt K mg f fd/\f 76=f76/\∃ kV dc pm an cd ct,fd 76=PySem.W.fnOf "law" "law" (J14 s_law) (J0Z s_law) (Je s_law) .none kV dc pm an cd ct:=by
 obtain ⟨kV,dc,pm,an,cd,ct,e⟩:∃ kV dc pm an cd ct,d76=PySem.W.fnOf "law" "law" (J14 s_law) (J0Z s_law) (Je s_law) .none kV dc pm an cd ct:=by
  obtain ⟨⟨_,_,kV,dc,pm,an,cd,ct,_,e,_⟩,_⟩:=l76;exact ⟨kV,dc,pm,an,cd,ct,e⟩
 refine ⟨fun i=>match i with | 14=>f14 | 15=>f15 | 16=>f16 | 17=>f17 | 18=>f18 | 19=>f19 | 20=>f20 | 24=>f24 | 25=>f25 | 26=>f26 | 27=>f27 | 31=>f31 | 32=>f32 | 33=>f33 | 37=>f37 | 38=>f38 | 39=>f39 | 40=>f40 | 41=>f41 | 42=>f42 | 43=>f43 | 44=>f44 | 46=>f46 | 47=>f47 | 48=>f48 | 49=>f49 | 50=>f50 | 51=>f51 | 53=>f53 | 54=>f54 | 57=>f57 | 58=>f58 | 59=>f59 | 60=>f60 | 61=>f61 | 62=>f62 | 63=>f63 | 64=>f64 | 65=>f65 | 66=>f66 | 67=>f67 | 68=>f68 | 69=>f69 | 70=>f70 | 71=>f71 | 72=>f72 | 73=>f73 | 74=>f74 | 75=>f75 | 76=>f76 | 29000=>f29000 | 29001=>f29001 | 29002=>f29002 | 29003=>f29003 | 29004=>f29004 | 29005=>f29005 | 29006=>f29006 | 56000=>f56000 | 56006=>f56006 | 56007=>f56007 | 56008=>f56008 | 28=>f28 | 55=>f55 | 22=>f22 | 30=>f30 | _=>0,fun i=>match i with | 14=>d14 | 15=>d15 | 16=>d16 | 17=>d17 | 18=>d18 | 19=>d19 | 20=>d20 | 24=>d24 | 25=>d25 | 26=>d26 | 27=>d27 | 31=>d31 | 32=>d32 | 33=>d33 | 37=>d37 | 38=>d38 | 39=>d39 | 40=>d40 | 41=>d41 | 42=>d42 | 43=>d43 | 44=>d44 | 46=>d46 | 47=>d47 | 48=>d48 | 49=>d49 | 50=>d50 | 51=>d51 | 53=>d53 | 54=>d54 | 57=>d57 | 58=>d58 | 59=>d59 | 60=>d60 | 61=>d61 | 62=>d62 | 63=>d63 | 64=>d64 | 65=>d65 | 66=>d66 | 67=>d67 | 68=>d68 | 69=>d69 | 70=>d70 | 71=>d71 | 72=>d72 | 73=>d73 | 74=>d74 | 75=>d75 | 76=>d76 | 29000=>d29000 | 29001=>d29001 | 29002=>d29002 | 29003=>d29003 | 29004=>d29004 | 29005=>d29005 | 29006=>d29006 | 56000=>d56000 | 56006=>d56006 | 56007=>d56007 | 56008=>d56008 | _=>d76,⟨?_,?_,?_,?_,?_,?_,?_,?_,?_,?_,?_,?_,?_,?_,?_,?_,?_,?_,?_,?_,?_,?_,?_,?_,?_,?_,?_,?_,?_,?_,?_,?_,?_,?_,?_,?_,?_,?_,?_,?_,?_,?_,?_,?_,?_,?_,?_,?_,?_,?_,?_,?_,?_,?_,?_,?_,?_,?_,?_,?_,?_,?_,?_,?_,?_,?_,?_,?_,?_,?_,?_,?_,?_,?_,?_,?_,?_,?_,?_,?_,?_,?_,?_,?_,?_,?_,?_,?_,?_,?_,?_,?_,?_,?_,?_,?_,?_,?_,?_,?_,?_,?_,?_,?_,?_,?_,?_,?_⟩,rfl,kV,dc,pm,an,cd,ct,e⟩
 ·exact dkm X G l14 (fun _ _ _ _ _ _=>J0H fun _ _=>rfl) a14
 ·exact dkm X G l15 (fun _ _ _ _ _ _=>J0H fun _ _=>rfl) a15
 ·exact dkm X G l16 (fun _ _ _ _ _ _=>J1x fun _=>rfl) a16
 ·exact dkm X G l17 (fun _ _ _ _ _ _=>J1x fun _=>rfl) a17
 ·exact dkm X G l18 (fun _ _ _ _ _ _=>J1x fun _=>rfl) a18
 ·exact dkm X G l19 (fun _ _ _ _ _ _=>J0H fun _ _=>rfl) a19
 ·exact dkm X G l20 (fun _ _ _ _ _ _=>J1x fun _=>rfl) a20
 ·exact dkm X G l24 (fun _ _ _ _ _ _=>J1x fun _=>rfl) a24
 ·exact dkm X G l25 (fun _ _ _ _ _ _=>J1x fun _=>rfl) a25
 ·exact dkm X G l26 (fun _ _ _ _ _ _=>J0H fun _ _=>rfl) a26
 ·exact dkm X G l27 (fun _ _ _ _ _ _=>J0H fun _ _=>rfl) a27
 ·exact dkm X G l31 (fun _ _ _ _ _ _=>J1x fun _=>rfl) a31
 ·exact dkm X G l32 (fun _ _ _ _ _ _=>J0H fun _ _=>rfl) a32
 ·exact dkm X G l33 (fun _ _ _ _ _ _=>J0P fun _ _ _=>rfl) a33
 ·exact dkm X G l37 (fun _ _ _ _ _ _=>J1x fun _=>rfl) a37
 ·exact dkm X G l38 (fun _ _ _ _ _ _=>J1x fun _=>rfl) a38
 ·exact dkm X G l39 (fun _ _ _ _ _ _=>J1x fun _=>rfl) a39
 ·exact dkm X G l40 (fun _ _ _ _ _ _=>J0H fun _ _=>rfl) a40
 ·exact dkm X G l41 (fun _ _ _ _ _ _=>J0P fun _ _ _=>rfl) a41
 ·exact dkm X G l42 (fun _ _ _ _ _ _=>J1x fun _=>rfl) a42
 ·exact dkm X G l43 (fun _ _ _ _ _ _=>J0P fun _ _ _=>rfl) a43
 ·exact dkm X G l44 (fun _ _ _ _ _ _=>J0P fun _ _ _=>rfl) a44
 ·exact dkm X G l46 (fun _ _ _ _ _ _=>J0H fun _ _=>rfl) a46
 ·exact dkm X G l47 (fun _ _ _ _ _ _=>J0H fun _ _=>rfl) a47
 ·exact dkm X G l48 (fun _ _ _ _ _ _=>J0H fun _ _=>rfl) a48
 ·exact dkm X G l49 (fun _ _ _ _ _ _=>J0P fun _ _ _=>rfl) a49
 ·exact dkm X G l50 (fun _ _ _ _ _ _=>J0P fun _ _ _=>rfl) a50
 ·exact dkm X G l51 (fun _ _ _ _ _ _=>J0P fun _ _ _=>rfl) a51
 ·exact dkm X G l53 (fun _ _ _ _ _ _=>J0P fun _ _ _=>rfl) a53
 ·exact dkm X G l54 (fun _ _ _ _ _ _=>J0P fun _ _ _=>rfl) a54
 ·exact dkm X G l57 (fun _ _ _ _ _ _=>J0H fun _ _=>rfl) a57
 ·exact dkm X G l58 (fun _ _ _ _ _ _=>J0H fun _ _=>rfl) a58
 ·exact dkm X G l59 (fun _ _ _ _ _ _=>Jdx fun _ _ _ _=>rfl) a59
 ·exact dkm X G l60 (fun _ _ _ _ _ _=>J1x fun _=>rfl) a60
 ·exact dkm X G l61 (fun _ _ _ _ _ _=>J0P fun _ _ _=>rfl) a61
 ·exact dkm X G l62 (fun _ _ _ _ _ _=>J0P fun _ _ _=>rfl) a62
 ·exact dkm X G l63 (fun _ _ _ _ _ _=>J0H fun _ _=>rfl) a63
 ·exact dkm X G l64 (fun _ _ _ _ _ _=>J0H fun _ _=>rfl) a64
 ·exact dkm X G l65 (fun _ _ _ _ _ _=>J0P fun _ _ _=>rfl) a65
 ·exact dkm X G l66 (fun _ _ _ _ _ _=>J0H fun _ _=>rfl) a66
 ·exact dkm X G l67 (fun _ _ _ _ _ _=>J0P fun _ _ _=>rfl) a67
 ·exact dkm X G l68 (fun _ _ _ _ _ _=>J0H fun _ _=>rfl) a68
 ·exact dkm X G l69 (fun _ _ _ _ _ _=>J0P fun _ _ _=>rfl) a69
 ·exact dkm X G l70 (fun _ _ _ _ _ _=>J0P fun _ _ _=>rfl) a70
 ·exact dkm X G l71 (fun _ _ _ _ _ _=>J0P fun _ _ _=>rfl) a71
 ·exact dkm X G l72 (fun _ _ _ _ _ _=>J0H fun _ _=>rfl) a72
 ·exact dkm X G l73 (fun _ _ _ _ _ _=>Jdw fun _ _ _ _ _=>rfl) a73
 ·exact dkm X G l74 (fun _ _ _ _ _ _=>J0H fun _ _=>rfl) a74
 ·exact dkm X G l75 (fun _ _ _ _ _ _=>Jdw fun _ _ _ _ _=>rfl) a75
 ·exact dkm X G l76 (fun _ _ _ _ _ _=>J1x fun _=>rfl) a76
 ·exact ⟨l29000,l29000.binds (fun _ _ _ _ _ _=>J0H fun _ _=>rfl),b29000⟩
 ·exact ⟨l29001,l29001.binds (fun _ _ _ _ _ _=>J1x fun _=>rfl),b29001⟩
 ·exact ⟨l29002,l29002.binds (fun _ _ _ _ _ _=>J0H fun _ _=>rfl),b29002⟩
 ·exact ⟨l29003,l29003.binds (fun _ _ _ _ _ _=>J0H fun _ _=>rfl),b29003⟩
 ·exact ⟨l29004,l29004.binds (fun _ _ _ _ _ _=>J0P fun _ _ _=>rfl),b29004⟩
 ·exact ⟨l29005,l29005.binds (fun _ _ _ _ _ _=>J0H fun _ _=>rfl),b29005⟩
 ·exact ⟨l29006,l29006.binds (fun _ _ _ _ _ _=>J1x fun _=>rfl),b29006⟩
 ·exact ⟨l56000,l56000.binds (fun _ _ _ _ _ _=>Jdx fun _ _ _ _=>rfl),b56000⟩
 ·exact ⟨l56006,l56006.binds (fun _ _ _ _ _ _=>J0P fun _ _ _=>rfl),b56006⟩
 ·exact ⟨l56007,l56007.binds (fun _ _ _ _ _ _=>J0P fun _ _ _=>rfl),b56007⟩
 ·exact ⟨l56008,l56008.binds (fun _ _ _ _ _ _=>J0P fun _ _ _=>rfl),b56008⟩
 ·exact (Jbg X G a28 o_Sheet_pg o_Sheet_hd o_Sheet_po o_Sheet_sa o_Sheet_ma a29000 b29000 o_Sheet_kp)
 ·exact ⟨a29001,b29001,l29001.kp⟩
 ·exact ⟨a29002,b29002,l29002.kp⟩
 ·exact ⟨a29003,b29003,l29003.kp⟩
 ·exact ⟨a29004,b29004,l29004.kp⟩
 ·exact ⟨a29005,b29005,l29005.kp⟩
 ·exact ⟨a29006,b29006,l29006.kp⟩
 ·exact (Jbg X G a55 o_Table_pg o_Table_hd o_Table_po o_Table_sa o_Table_ma a56000 b56000 o_Table_kp)
 ·exact ⟨a56006,b56006,l56006.kp⟩
 ·exact ⟨a56007,b56007,l56007.kp⟩
 ·exact ⟨a56008,b56008,l56008.kp⟩
 ·exact v_na_Sheet_given
 ·exact v_na_Sheet_kept_fields
 ·exact v_na_Sheet_kept_rows
 ·exact v_na_Table_boxes
 ·exact v_na_Table_kept_fields
 ·exact v_na_Table_kept_heads
 ·exact v_na_Table_kept_view
 ·exact (qm X G z_abs)
 ·exact (qm X G z_all)
 ·exact (qm X G z_any)
 ·exact (qm X G z_bool)
 ·exact (qm X G z_dict)
 ·exact (qm X G z_enumerate)
 ·exact (qm X G z_int)
 ·exact (qm X G z_isinstance)
 ·exact (qm X G z_len)
 ·exact (qm X G z_list)
 ·exact (qm X G z_max)
 ·exact (qm X G z_min)
 ·exact (qm X G z_range)
 ·exact (qm X G z_set)
 ·exact (qm X G z_sorted)
 ·exact (qm X G z_str)
 ·exact (qm X G z_sum)
 ·exact (qm X G z_tuple)
 ·exact (qm X G z_zip)
 ·exact ⟨_,PySem.W.mg_of X G y_LETTERS⟩
 ·exact ⟨_,PySem.W.mg_of X G y_FIGURES⟩
 ·exact ⟨_,PySem.W.mg_of X G y_MOST_SIGNS⟩
 ·exact (PySem.W.mg_of X G y_KINDS)
 ·exact (fun _=>.inr ⟨_,_,_,l22,rfl,rfl,Jb (Nat.le_of_ble_eq_true rfl),(.cons ⟨_,rfl⟩ (.cons ⟨_,rfl⟩ .nil))⟩)
 ·exact ⟨_,PySem.W.mg_of X G y_MOST_FIELDS⟩
 ·exact (PySem.W.mg_of X G y_NAMED_FORMS)
 ·exact (fun _=>.inr ⟨_,_,_,l30,rfl,rfl,Jb (Nat.le_of_ble_eq_true rfl),(.cons ⟨_,rfl⟩ (.cons ⟨_,rfl⟩ (.cons ⟨_,rfl⟩ (.cons ⟨_,rfl⟩ .nil))))⟩)
 ·exact ⟨_,PySem.W.mg_of X G y_MOST_NAMES⟩
 ·exact ⟨_,PySem.W.mg_of X G y_MOST_FIGURES⟩
open Lean in
local macro_rules | `(tactic|walk_at $s:str)=>do
 let g:=fun (t:String)=>(t.splitOn ",").toArray.mapM fun x=>`(Parser.Tactic.simpLemma|$(mkIdent x.toName):ident)
 let b:="J6f,J6b,Jco,J7r,JcB,J9F,J6c,J6d,J3s,J6g,L2.J2q,J1n,J9k,J6e,J9U,J3t,J47,JL,J4i,L2.tC,L2.tOp,L2.tUn,J4M,L2.tCB,J48,J8n,J7n,L2.tB,JaI,Jcr,L2.tOr,J9n,J9j,L2.tIf,J4L,Jcp,Jcn,L2.tBM,JaL,L2.rI,L2.rI0,L2.rU,L2.rEq,L2.rNe,J7B,J5N,Jd7,J85,JbE,J84,Jcl,Jb3,J8I,J9u,J4A,J9l,J37,L2.tSl,J9i,J4w,JcA,Jb0,J9s,JcT,JaR,JaK,Jcy,J7o,J6E,J9v,J6h,Jcq,J4x,J9m,J7J,J3C,Jen,List.map_cons,List.map_nil,List.cons_append,List.nil_append,List.length_cons,List.length_nil,List.getElem?_cons_zero,List.getElem?_cons_succ,Option.some.injEq,exists_eq_left',exists_eq_left,List.set_cons_zero,List.set_cons_succ,List.cons.injEq,and_true,true_and,V.int.injEq,V.str.injEq,V.bl.injEq,V.ref.injEq,V.ty.injEq,exists_and_left,exists_and_right,List.append_nil,reduceCtorEq,false_and,and_false,exists_false,or_false,false_or,decide_true,decide_false,Bool.not_true,Bool.not_false,if_true,if_false,Bool.false_eq_true,ite_true,ite_false,and_assoc,Nat.reduceAdd,Nat.reduceSub,List.replicate_succ,List.replicate_zero,Nat.zero_add,Nat.add_zero,Nat.sub_self"
 let n:=fun (x:String)=>mkIdent x.toName
 match s.getString.splitOn " " with
 | ["ok",p,h]=>`(tactic|refine $(mkIdent (`T++p.toName++`F.ok)) $(n h) (fun $(n "vs") $(n "H") $(n "Q") $(n "E") $(n "h")=>?_) (fun $(n "cdv") $(n "A") $(n "outer") $(n "s") $(n "H") $(n "vs") $(n "Q") $(n "E") $(n "hr") $(n "h")=>?_))
 | ["nw",p,h,k,u,y]=>`(tactic|(generalize $(n "e_"):ident:$(n "upd") _ $(n p) _ = $(n k) at *;have $(n u):ident:=$(n "nwS") $(n h) $(n "e_");have $(n y):ident:=$(n "nwY") $(n "e_");clear $(n "e_")))
 | x=>do
  let d←g "J79"
  let m:=match x with
   | ["dl"]=>some ",J2C,Int.reduceEq,Int.reduceLT,Int.reduceLE,decide_eq_true_eq"
   | ["dt"]=>some ""
   | ["dc"]=>some ",J2C"
   | _=>none
  let some m:=m | Macro.throwUnsupported
  let e←g (b++m)
  let q←`(Parser.Tactic.simpLemma|↓reduceIte)
  let e:=if x==["dl"] then e.push q else e
  `(tactic|((try dsimp only [$d,*]);simp only [$e,*]))
section
variable {P:Program}{w:World}{K:PySem.W.Frag}{mg:Str->Option Value}{base:Heap}{f:Nat->Addr}{fd:Nat->FuncData}
variable {G H H':Hp}{a b d fg l ln n0 n1 p r:Addr}{rs vs xs ys zs:List V}{kds ns:List Str}{i j m:Nat}{hd kd n sg z:Str}{kvs:List (Key×V)}{fv v x:V}{o:HO}{is0 is1:List Nat}{nrs:List NR}{av:Addr->Prop}{B:NPK->List NR}{g:Int}{gs:List Fg}{neg:Bool}{Q:VK}{F:List V->Bool}{ks:List Int}
theorem nwS {X:HO}(h:H p=none)(e:upd H p X=G):Same H G:=e ▸ Same.upd_new h X
theorem nwY {X:HO}(e:upd H p X=G):G p=some X:=e ▸ Jd
def J1N (z g:Str):Bool:=z.cps.toList.all fun c=>decide (c∈g.cps.toList)
def J5v (_:PySem.W.Frag):Sp:=fun vs H Q _=>∃ z g,vs=[.str z,.str g]/\z.length<=sizeLine/\∀ H',Same H H'->Q (.bl (J1N z g)) H'
theorem J5G (T:Txt K mg f fd):FnOk P w K mg base CX0 1 (f 14) (fd 14) ["text","signs"] (J5v K):=by
 walk_at "ok wW J5D"
 ·obtain ⟨z,g,rfl,_⟩:=h
  rfl
 ·obtain ⟨z,g,rfl,hz,k⟩:=h
  refine ⟨_,(Jc (Ji (Js (J5V rfl rfl) T.wp J46 rfl (by decide) (by decide) rfl (pal rfl (J00 ["sign"] ["text","signs"] rfl (show CompSc _ (Je J1i) ["text","signs"] ["text","signs"] from Ju (by decide +kernel)) (JdR (pvl 0)) (fun _ _ _ _ _=>(pgl 0 (show (["sign","text","signs"]:List Str).Nodup by decide +kernel))) (fun _ _ _ _ _=>JH) (fun _ _ _ _ _=>(JI Ja7 (pvl 0) (pvc 2) rfl))) J1)))),?_⟩;walk_at "dc";refine comp_of (as:=z.cps.toList) (g:=sgn) JaD (by rw [zI];exact hz) (fun _ _=>trivial) (fun _=>true) (fun c=>.bl (decide (c∈g.cps.toList))) (fun c H1 Q _ _ q=>q H1 (Same.refl _)) (fun c H1 Q _ _ _ q=>?_) (fun H' s1 D hD=>?_)
  ·walk_at "dc"
   unfold sgn;walk_at "dc";rw [Jel];exact q H1 (Same.refl _)
  ·refine ⟨z.cps.toList.map fun c=>decide (c∈g.cps.toList),.of (by rw [Jd,J0p,map_map];rfl),?_⟩
   have e:(z.cps.toList.map fun c=>decide (c∈g.cps.toList)).all id=J1N z g:=by unfold J1N;rw [all_map];rfl
   rw [e];exact k _ (s1.new hD _)
def J1F (x:V)(g:Str):Bool:=match x with
 | .str z=>decide (1<=z.length)&&(decide (z.length<=12)&&J1N z g)
 | _=>false
def J3Q (K:PySem.W.Frag):Sp:=fun vs H Q _=>∃ x g T,vs=[x,.str g]/\Pl K H x T/\∀ H',Same H H'->Q (.bl (J1F x g)) H'
theorem ok_is_short_text (T:Txt K mg f fd):FnOk P w K mg base CX0 2 (f 15) (fd 15) ["thing","signs"] (J3Q K):=by
 walk_at "ok wH J3S"
 ·obtain ⟨x,g,T,rfl,_⟩:=h
  rfl
 ·obtain ⟨x,g,t,rfl,p,k⟩:=h
  refine ⟨_,(J9 (Jt (J0i (J04 (Js (J0K rfl) T.wc Jr rfl (by decide) (by decide) rfl (pal rfl (pvl 0) (pal rfl (pty T.wk J2L) J1)))))
   (Jc (Ji J0q))
   Jl)
   (Jc (Ji (J1L (Jbe J55 J55 Ja (Js J1l T.wa Jv rfl (by decide) (by decide) rfl (pal rfl (pvl 0) J1)) (pgi T.zh)) (J3h (Jg T.wW (J5G T) (hr.mono (by decide)) rfl (by decide) rfl (pal rfl (pvl 0) (pal rfl (pvl 1) J1)))))))),?_⟩
  walk_at "dc";refine ⟨t,p,by decide,?_⟩;rcases p.name with ⟨rfl,rfl⟩ | ⟨b,rfl,rfl⟩ | ⟨i,rfl,rfl⟩ | ⟨z,rfl,rfl,hz⟩ | ⟨a,rfl | rfl | rfl,rfl⟩
  case inr.inr.inr.inl =>
   rw [show J73 "str" "str"=true from rfl];walk_at "dc";refine ⟨hz,?_⟩;by_cases h1:(1:Int)<=(z.length:Int)
   ·by_cases h2:(z.length:Int)<=12
    ·rw [zu (zx h1),zu (zx h2)]
     refine ⟨z,g,rfl,hz,fun H' s1=>?_⟩;have e:J1F (.str z) g=J1N z g:=by
      show (decide (1<=z.length)&&(decide (z.length<=12)&&J1N z g))=_;rw [zx (by omega),zx (by omega)];rfl
     rw [<- e];exact k H' s1
    ·rw [zu (zx h1),zt (by simpa using h2)]
     have e:J1F (.str z) g=false:=by
      show (decide (1<=z.length)&&(decide (z.length<=12)&&J1N z g))=_;rw [zy (show ¬ z.length<=12 by omega),Bool.false_and,Bool.and_false]
     rw [<- e];exact k H (Same.refl H)
   ·rw [zt (by simpa using h1)]
    have e:J1F (.str z) g=false:=by
     show (decide (1<=z.length)&&(decide (z.length<=12)&&J1N z g))=_;rw [zy (show ¬ 1<=z.length by omega),Bool.false_and]
    rw [<- e];exact k H (Same.refl H)
  all_goals
   rw [zu (by decide)];exact k H (Same.refl H)
abbrev J0g:Str:="abcdefghijklmnopqrstuvwxyz"
abbrev J2S:Str:="0123456789"
def J8u (K:PySem.W.Frag):Sp:=fun vs H Q _=>∃ x T,vs=[x]/\Pl K H x T/\∀ H',Same H H'->Q (.bl (J1F x (J0g++J2S))) H'
theorem J8U (T:Txt K mg f fd):FnOk P w K mg base CX0 3 (f 17) (fd 17) ["thing"] (J8u K):=by
 walk_at "ok wY J8E"
 ·obtain ⟨x,T,rfl,_⟩:=h
  rfl
 ·obtain ⟨x,t,rfl,p,k⟩:=h
  refine ⟨_,(Jc (Ji (Jg T.wH (ok_is_short_text T) (hr.mono (by decide)) rfl (by decide) rfl (pal rfl (pvl 0) (pal rfl (Jn J3j (pgs T.yS) (pgs T.zg)) J1))))),?_⟩;walk_at "dc";exact ⟨Jb (by decide),x,_,t,rfl,p,k⟩
def J5c (a b:Int):Int:=((a % 2147483647 * 48271+b * 7919+11) % 2147483647 * ((a % 2147483647 * 48271+b * 7919+11) % 2147483647) % 2147483629 * 69621) % 2147483647
def J7v (K:PySem.W.Frag):Sp:=fun vs H Q _=>∃ a b,vs=[.int a,.int b]/\Q (.int (J5c a b)) H
theorem JS (T:Txt K mg f fd):FnOk P w K mg base CX0 1 (f 58) (fd 58) ["_law_seed","_law_k"] (J7v K):=by
 walk_at "ok we J7F"
 ·obtain ⟨x,T,rfl,_⟩:=h
  rfl
 ·obtain ⟨a,b,rfl,k⟩:=h
  refine ⟨_,(J9 (psl 2 J7F.nd (Jn Jx (Jn J05 (Jn J05 (Jn J2i (Jn Jx (pvl 0) Ja) Ja) (Jn J2i (pvl 1) Ja)) Ja) Ja))
   (Jc (Ji (Jn Jx (Jn J2i (Jn Jx (Jn J2i (pvl 2) (pvl 2)) Ja) Ja) Ja)))),?_⟩
  walk_at "dc"
  repeat (refine And.intro (by first | decide | omega | exact Or.inl ⟨by omega,by omega⟩ | exact Or.inr ⟨by omega,by omega⟩ | exact ⟨by omega,by omega⟩ | exact ⟨by decide,by decide,by decide⟩) ?_)
  exact k
def J6l (K:PySem.W.Frag):Sp:=fun vs H Q _=>∃ (a:Addr) (ns:List Int) (i:Int),vs=[.ref a,.int i]/\SqL K H a (ns.map V.int)/\0<=i/\∀ v,Q (.int v) H
theorem J0X (T:Txt K mg f fd):FnOk P w K mg base CX0 1 (f 57) (fd 57) ["_law_script","_law_k"] (J6l K):=by
 walk_at "ok wn J6y"
 ·obtain ⟨x,T,_,rfl,_⟩:=h
  rfl
 ·obtain ⟨a,ns,i,rfl,hs,h0,k⟩:=h
  refine ⟨_,(J9 (Jt (Jk J54 (pvl 1) (Js (JZ rfl) T.wa Jv rfl (by decide) (by decide) rfl (pal rfl (pvl 0) J1)) (Jm _))
   (Jc (Ji (Jj (J0I rfl) (pvl 0) (pvl 1) (fun _ _=>rfl))))
   Jl)
   (Jc (Ji Ja))),?_⟩
  walk_at "dc";refine ⟨_,.inl hs,?_⟩;rw [zL];by_cases h:i<(ns.length:Int)
  ·rw [zu (zx h)]
   obtain ⟨j,rfl⟩:∃ j:Nat,i=(j:Int):=⟨i.toNat,by omega⟩;have hj:j<ns.length:=by omega
   refine ⟨a,_,_,.int ns[j],rfl,rfl,hs,Jf (by rw [zW,zJ hj];rfl),k _⟩
  ·rw [zt (by simpa using h)]
   exact k _
def JeJ (x:V):Bool:=match x with
 | .int i=>decide ((if i<0 then -i else i)<10 ^ 60)
 | _=>false
def J6m (K:PySem.W.Frag):Sp:=fun vs H Q _=>∃ x T,vs=[x]/\Pl K H x T/\Q (.bl (JeJ x)) H
theorem J6N (T:Txt K mg f fd):FnOk P w K mg base CX0 1 (f 18) (fd 18) ["thing"] (J6m K):=by
 walk_at "ok wZ J6z"
 ·obtain ⟨x,T,rfl,_⟩:=h
  rfl
 ·obtain ⟨x,t,rfl,p,k⟩:=h
  refine ⟨_,(J9 (Jt (PW.pt (J1u (J0i (J04 (Js (J0K rfl) T.wc Jr rfl (by decide) (by decide) rfl (pal rfl (pvl 0) (pal rfl (pty T.wG J7e) J1))))) (J0V (J04 (Js (J0K rfl) T.wc Jr rfl (by decide) (by decide) rfl (pal rfl (pvl 0) (pal rfl (pty T.yP J9O) J1)))))))
   (Jc (Ji J0q))
   Jl)
   (Jc (Ji (JI J54 (Js Jc5 T.yY Jew rfl (by decide) (by decide) rfl (pal rfl (pvl 0) J1)) (Jn J8Q Ja Ja) (Jm _))))),?_⟩
  walk_at "dc";refine ⟨t,p,by decide,?_⟩;rcases p.name with ⟨rfl,rfl⟩ | ⟨b,rfl,rfl⟩ | ⟨i,rfl,rfl⟩ | ⟨z,rfl,rfl,hz⟩ | ⟨a,rfl | rfl | rfl,rfl⟩
  case inr.inr.inl =>
   rw [show J73 "int" "int"=true from rfl];walk_at "dc";refine ⟨"int",p,by decide,?_⟩;rw [show J73 "int" "bool"=false from rfl];walk_at "dc";exact ⟨⟨by decide,by decide,by decide⟩,k⟩
  case inr.inl =>
   rw [show J73 "bool" "int"=true from rfl];walk_at "dc";refine ⟨"bool",p,by decide,?_⟩;rw [show J73 "bool" "bool"=true from rfl];walk_at "dc";exact k
  all_goals
   rw [zu (by decide)];exact k
def J6a (kd:Str)(x:V):Bool:=if x=.non then true else if kd="number" then JeJ x else J1F x (J0g++J2S)
def J7x (K:PySem.W.Frag):Sp:=fun vs H Q _=>∃ kd x T,vs=[.str kd,x]/\Pl K H x T/\∀ H',Same H H'->Q (.bl (J6a kd x)) H'
theorem ok_is_value (T:Txt K mg f fd):FnOk P w K mg base CX0 4 (f 19) (fd 19) ["kind","thing"] (J7x K):=by
 walk_at "ok wI J7G"
 ·obtain ⟨kd,x,T,rfl,_⟩:=h
  rfl
 ·obtain ⟨kd,x,t,rfl,p,k⟩:=h
  refine ⟨_,(J9 (Jt (Jk J2E (pvl 1) J0N (Jm _))
   (Jc (Ji J0q))
   Jl)
   (J9 (Jt (Jk JA (pvl 0) Jp (Jm _))
   (Jc (Ji (Jg T.wZ (J6N T) (hr.mono (by decide)) rfl (by decide) rfl (pal rfl (pvl 1) J1))))
   Jl)
   (Jc (Ji (Jg T.wY (J8U T) (hr.mono (by decide)) rfl (by decide) rfl (pal rfl (pvl 1) J1)))))),?_⟩
  walk_at "dc";by_cases c:x=.non
  ·rw [zu (zx c)]
   unfold J6a at k;rw [zu c] at k;exact k H (Same.refl H)
  ·rw [zt (by simpa using c)]
   unfold J6a at k;rw [zt c] at k;by_cases hk:kd=Str.ofString "number"
   ·rw [zu (zx hk)]
    rw [zu hk] at k;exact ⟨x,t,rfl,p,k H (Same.refl H)⟩
   ·rw [zt (by simpa using hk)]
    rw [zt hk] at k;exact ⟨x,t,rfl,p,k⟩
def J8w (K:PySem.W.Frag):Sp:=fun vs H Q _=>∃ x T,vs=[x]/\Pl K H x T/\∀ H',Same H H'->Q (.bl (J1F x J0g)) H'
theorem J8V (T:Txt K mg f fd):FnOk P w K mg base CX0 3 (f 16) (fd 16) ["thing"] (J8w K):=by
 walk_at "ok wX J8G"
 ·obtain ⟨x,T,rfl,_⟩:=h
  rfl
 ·obtain ⟨x,t,rfl,p,k⟩:=h
  refine ⟨_,(Jc (Ji (Jg T.wH (ok_is_short_text T) (hr.mono (by decide)) rfl (by decide) rfl (pal rfl (pvl 0) (pal rfl (pgs T.yS) J1))))),?_⟩;walk_at "dc";exact ⟨x,_,t,rfl,p,k⟩
def Wrd (z:Str):Prop:=1<=z.length/\z.length<=12/\∀ c∈z.cps.toList,c∈(J0g++J2S).cps.toList
theorem Jdn:∀ c∈(J0g++J2S).cps.toList,c<1114112:=by decide +kernel
abbrev Jcv:Str:="abcdefghijklmnopqrstuvwxyz0123456789"
theorem J8y:Jcv=J0g++J2S:=by decide +kernel
def FldsK (H:Hp)(xs:List V)(ns kds:List Str):Prop:=ns.length=xs.length/\kds.length=xs.length/\ns.Nodup/\∀ (i:Nat) x n kd,xs[i]?=some x->ns[i]?=some n->kds[i]?=some kd->∃ p,x=.ref p/\H p=some (.tup [.str n,.str kd])
theorem FldsK.mono (s:Same H H')(h:FldsK H xs ns kds):FldsK H' xs ns kds:=⟨h.1,h.2.1,h.2.2.1,fun i x n kd a b c=>by
 obtain ⟨p,e,g⟩:=h.2.2.2 i x n kd a b c;exact ⟨p,e,s _ _ g⟩⟩
theorem FldsK.at (h:FldsK H xs ns kds)(hi:i<xs.length):∃ p n kd,xs[i]?=some (.ref p)/\ns[i]?=some n/\kds[i]?=some kd/\H p=some (.tup [.str n,.str kd]):=by
 have h1:i<ns.length:=by rw [h.1];exact hi
 have h2:i<kds.length:=by rw [h.2.1];exact hi
 obtain ⟨p,e,g⟩:=h.2.2.2 i _ _ _ (zJ hi) (zJ h1) (zJ h2);exact ⟨p,_,_,by rw [zJ hi,e],zJ h1,zJ h2,g⟩
def J49 (K:PySem.W.Frag):Sp:=fun vs H Q _=>∃ l xs ns kds n,∃ i:Nat,vs=[.ref l,.str n]/\H l=some (.lst xs)/\FldsK H xs ns kds/\ns[i]?=some n/\∀ H',Same H H'->Q (.int i) H'
theorem ok_field_at (T:Txt K mg f fd):FnOk P w K mg base CX0 1 (f 26) (fd 26) ["fields","name"] (J49 K):=by
 walk_at "ok wj J2r"
 ·obtain ⟨l,xs,ns,kds,n,i,rfl,_⟩:=h
  rfl
 ·obtain ⟨l,xs,ns,kds,n,i,rfl,hl,hF,hi,k⟩:=h
  refine ⟨_,(J9 (J09 PassesOwn.never rfl (JcI rfl T.yQ (pal rfl (pvl 0) J1) rfl) (J4d rfl rfl (J02 (pgl 2 J2r.nd) (J02 (pgl 3 J2r.nd) J1E)))
   (Jc (Jt (Jk JA (Jj (Jo rfl) (pvl 3) Ja (fun _ _=>rfl)) (pvl 1) (Jm _))
   (Jc (Ji (pvl 2)))
   Jl)))
   (Jc JY)),?_⟩
  walk_at "dc";refine J06 ?_;unfold Jdz;walk_at "dc";refine ⟨⟨xs,.of hl⟩,ForW.enum (xs:=xs) (fun j σ H'=>(∃ v2 v3,σ=[some (V.ref l),some (V.str n),v2,v3])/\n∉ns.take j/\Same H H') ⟨⟨none,none,rfl⟩,by simp,Same.refl _⟩ (fun _ _ _ q=>q.2.2.seq (.of hl)) ?_ ?_⟩
  ·rintro j x σ H1 p hx ⟨⟨v2,v3,rfl⟩,hnot,s1⟩ hp
   have s2:=s1.new hp (HO.tup [V.int (j:Int),x]);refine ⟨p,_,rfl,.of Jd,rfl,?_⟩;generalize upd H1 p (HO.tup [V.int (j:Int),x])=H2 at *;obtain ⟨q,nj,kd,hxq,hj,_,hq⟩:=hF.at (zK.mp hx).1;obtain rfl:x=.ref q:=zA (hx.symm.trans hxq);simp only [J21,J4s,JL];walk_at "dc";refine Jek (.of (s2 _ _ hq)) (by decide) (by simp) fun v hv=>?_;obtain rfl:V.str nj=v:=by simpa using hv
   refine ⟨rfl,?_⟩;by_cases e:nj=n
   ·subst e
    rw [zu (by simp)];obtain rfl:=J17 hF.2.2.1 hi hj;exact k _ s2
   ·rw [zt (by simpa using e)]
    refine ⟨⟨_,rfl⟩,?_,s2⟩;rw [Jw hj];intro z;rcases zZ.mp z with z | z
    ·exact hnot z
    ·exact e (zM.mp z).symm
  ·rintro σ H1 ⟨⟨v2,v3,rfl⟩,hnot,s1⟩
   rw [<- hF.1,zX] at hnot;exact absurd (zP hi) hnot
abbrev JF:Str:="word"
abbrev numS:Str:="number"
def Jdl (b:Nat)(n:Str):Prop:=n.length<=b/\∀ c∈n.cps.toList,c<1114112
abbrev J8g (z:Str):Prop:=∀ c∈z.cps.toList,c<1114112
theorem J2p (h:J8g z):PyData.strOk z=true:=by
 simp only [PyData.strOk];rw [Array.all_eq_true_iff_forall_mem];intro c hc';exact zx (h c (by simpa using hc'))
def J0v (kd:Str)(x:V):Prop:=(kd=JF/\∃ z,x=.str z/\Jdl 12 z)\/(kd=numS/\∃ i,x=.int i)
def RowOk (kds:List Str)(rs:List V):Prop:=rs.length=kds.length/\∀ (i:Nat) x kd,rs[i]?=some x->kds[i]?=some kd->x=.non\/J0v kd x
abbrev JeY:Str:="abcdefghijklmnopqrstuvwxyz0123456789"
theorem Je6:∀ d:Nat,d<26->J0g.cps.toList[d]?=some (97+d):=by decide +kernel
theorem Jd1:J0g.length=26:=by decide
def ch (sg:Str)(i:Int):Nat:=sg.cps.toList.getD (i % (sg.length:Int)).toNat 0
theorem J7b (h:1<=sg.length)(i:Int):sg.cps.toList[(i % (sg.length:Int)).toNat]?=some (ch sg i):=by
 have h1:=zC i (show (0:Int)<sg.length by omega);have h0:=zD i (show (sg.length:Int)≠0 by omega);have hl:(i % (sg.length:Int)).toNat<sg.cps.toList.length:=by rw [show sg.cps.toList.length=sg.length by simp [Str.length]];omega
 unfold ch;rw [zO,zJ hl];rfl
theorem JbY (h:1<=sg.length)(i:Int):ch sg i∈sg.cps.toList:=zP (J7b h i)
theorem JbZ (i:Int):ch J0g i=97+(i % 26).toNat:=by
 have e:=J7b (sg:=J0g) (by decide) i;rw [Jd1] at e;have e2:=Je6 (i % 26).toNat (by have:=zC i (show (0:Int)<26 by decide);have:=zD i (show (26:Int)≠0 by decide);omega);exact zA (e.symm.trans e2)
theorem J1f {α:Type}{f:Nat->α}(h:∀ i j,i<m->j<m->f i=f j->i=j):((List.range m).map f).Nodup:=by
 unfold List.Nodup;rw [pairwise_map];refine List.Pairwise.imp_of_mem (fun {a b} ha hb hn e=>hn (h a b (mem_range.mp ha) (mem_range.mp hb) e)) nodup_range
theorem J5S (c:Nat){n:Int}(h0:0<=n)(h:n<=12):MulOk ⟨#[c]⟩ n:=by
 refine ⟨by rw [zy (by omega),zy (by omega)];rfl,fun h1 _=>?_,fun h1 _=>?_⟩
 ·show ¬ (1:Int) > (2 ^ 63 - 1) / n
  rcases (by omega:n=1\/n=2\/n=3\/n=4\/n=5\/n=6\/n=7\/n=8\/n=9\/n=10\/n=11\/n=12) with rfl | rfl | rfl | rfl | rfl | rfl | rfl | rfl | rfl | rfl | rfl | rfl<;>decide
 ·show Builtin.Str.tooLong (1 * n.toNat)=false
  rcases (by omega:n=1\/n=2\/n=3\/n=4\/n=5\/n=6\/n=7\/n=8\/n=9\/n=10\/n=11\/n=12) with rfl | rfl | rfl | rfl | rfl | rfl | rfl | rfl | rfl | rfl | rfl | rfl<;>decide +kernel
theorem J3I (z:Str):z.cps.toList.length=z.length:=by simp [Str.length]
theorem Jdj (x y:Str):(x++y).length=x.length+y.length:=by
 rw [<- J3I,<- J3I,<- J3I,PySem.W.KT.app_list,zQ]
theorem J6W (c:Nat)(n:Int):(Txt.mul ⟨#[c]⟩ n).length=n.toNat:=by rw [<- J3I,PyProof.Rows.mul_one_list,qg]
def JdD (sg:Str)(zs:List Str)(m:Nat):Prop:=zs.length=m/\(sg=J0g->zs.Nodup)/\∀ z∈zs,1<=z.length/\z.length<=12/\∀ c∈z.cps.toList,c∈sg.cps.toList
def hdS (sg:Str)(sd:Int)(c:Nat)(at0 few:Int)(i:Nat):Str:=Txt.mul ⟨#[c]⟩ at0++⟨#[ch sg (sd / 1664+5 * (0+(i:Int)))]⟩++Txt.mul ⟨#[c]⟩ (1+few - at0 - 1)
theorem J4E (sg:Str)(sd:Int)(c:Nat)(at0 few:Int)(i:Nat):(hdS sg sd c at0 few i).cps.toList=List.replicate at0.toNat c++[ch sg (sd / 1664+5 * (0+(i:Int)))]++List.replicate (1+few - at0 - 1).toNat c:=by
 unfold hdS;rw [PySem.W.KT.app_list,PySem.W.KT.app_list,PyProof.Rows.mul_one_list,PyProof.Rows.mul_one_list]
theorem Jak {sd:Int}{c:Nat}{at0 few:Int}(hsg:1<=sg.length)(hc:c∈sg.cps.toList)(h0:0<=at0)(h1:at0<1+few)(h2:few<12)(hm:m<=9):JdD sg ((List.range m).map (hdS sg sd c at0 few)) m:=by
 refine ⟨by rw [zL,qe],fun hlt=>J1f fun i j hi hj e=>?_,fun z hz=>?_⟩
 ·have e1:=J38.mp e
  rw [J4E,J4E,qf,qf] at e1;have e2:=append_cancel_left e1;have e3:ch sg (sd / 1664+5 * (0+(i:Int)))=ch sg (sd / 1664+5 * (0+(j:Int))):=by
   injection e2
  subst hlt;rw [JbZ,JbZ] at e3;omega
 ·obtain ⟨i,_,rfl⟩:=qb.mp hz
  have hl:(hdS sg sd c at0 few i).length=(1+few).toNat:=by
   rw [<- J3I,J4E,zQ,zQ,qg,qg,length_singleton];omega
  refine ⟨by omega,by omega,fun d hd=>?_⟩;rw [J4E] at hd;rcases zZ.mp hd with hd | hd
  ·rcases zZ.mp hd with hd | hd
   ·rw [eq_of_mem_replicate hd];exact hc
   ·rw [zM.mp hd];exact JbY hsg _
  ·rw [eq_of_mem_replicate hd];exact hc
def J8s (K:PySem.W.Frag):Sp:=fun vs H Q _=>∃ sd:Int,∃ m:Nat,∃ sg:Str,vs=[.int sd,.str sg,.int m,.int 12]/\m<=9/\1<=sg.length/\sg.length<=1000/\∀ H' p zs,Same H H'->H' p=some (.lst (zs.map V.str))->JdD sg zs m->Q (.ref p) H'
theorem ok_l_heads (T:Txt K mg f fd):FnOk P w K mg base CX0 1 (f 59) (fd 59) ["_law_seed","_law_signs","_law_many","_law_most"] (J8s K):=by
 walk_at "ok wO J0A"
 ·obtain ⟨sd,m,sg,rfl,_⟩:=h
  rfl
 ·obtain ⟨sd,m,sg,rfl,h9,hg1,hg2,k⟩:=h
  have hgl:sg.length<=sizeLine:=Jb (by omega);have hg0:(0:Int)<sg.length:=by omega
  refine ⟨_,(J9 (Jt (PW.pt (J3g (Jk JA (Jn Jx (Jn JQ (pvc 0) Ja) Ja) Ja (Jm _)) (J2g (Jk J55 (pvl 2) (pvl 3) (Jm _)))))
   (J9 (psc 4 J0A.nd (J1h rfl PySem.F.plainAttrs_str PySem.F.slot_str_join PySem.F.type_str_join (Jei rfl) rfl rfl rfl rfl Jp (pal rfl (J00 ["_law_k"] ["_law_seed","_law_signs","_law_many","_law_most","_law_word","_law_few","_law_at","_law_rest","_law_heads_here","#9","_law_sign"] rfl (show CompSc _ (Je J1X) ["_law_seed","_law_signs","_law_many","_law_most","_law_word","_law_few","_law_at","_law_rest","_law_heads_here","_law_k","_law_sign"] ["_law_seed","_law_signs","_law_many","_law_most","_law_word","_law_few","_law_at","_law_rest","_law_heads_here","#9","_law_sign"] from Ju (by decide +kernel)) (J0l rfl T.wg (pal rfl (pvl 3) J1)) (fun _ _ _ _ _=>(pgl 0 (show (["_law_k","_law_seed","_law_signs","_law_many","_law_most","_law_word","_law_few","_law_at","_law_rest","_law_heads_here","#9","_law_sign"]:List Str).Nodup by decide +kernel))) (fun _ _ _ _ _=>JH) (fun _ _ _ _ _=>(Jj J96 (pvc 2) (Jn Jx (Jn J05 (Jn JQ (pvc 1) Ja) (Jn J2i (Jn J2i Ja (pvl 0)) (pvl 0))) (Js J1l T.wa Jv rfl (by decide) (by decide) rfl (pal rfl (pvc 2) J1))) (fun _ _=>rfl)))) J1)))
   (Jc (Ji (J00 ["_law_k"] ["_law_seed","_law_signs","_law_many","_law_most","_law_word","_law_few","_law_at","_law_rest","_law_heads_here","#9","_law_sign"] rfl (show CompSc _ (Je J1X) ["_law_seed","_law_signs","_law_many","_law_most","_law_word","_law_few","_law_at","_law_rest","_law_heads_here","_law_k","_law_sign"] ["_law_seed","_law_signs","_law_many","_law_most","_law_word","_law_few","_law_at","_law_rest","_law_heads_here","#9","_law_sign"] from Ju (by decide +kernel)) (J0l rfl T.wg (pal rfl (pvl 2) J1)) (fun _ _ _ _ _=>(pgl 0 (show (["_law_k","_law_seed","_law_signs","_law_many","_law_most","_law_word","_law_few","_law_at","_law_rest","_law_heads_here","#9","_law_sign"]:List Str).Nodup by decide +kernel))) (fun _ _ _ _ _=>JH) (fun _ _ _ _ _=>(J0f JdI (pvc 5) J0E (J0o (Jn J05 (pvl 0) Ja))))))))
   Jl)
   (J9 (psl 5 J0A.nd (Jn J05 Ja (Jn Jx (pvc 0) (pvl 3))))
   (J9 (psl 6 J0A.nd (Jn Jx (Jn JQ (pvc 0) Ja) (pvl 5)))
   (J9 (psl 7 J0A.nd (Jj J96 (pvc 1) (Jn Jx (Jn JQ (pvc 0) Ja) (Js J1l T.wa Jv rfl (by decide) (by decide) rfl (pal rfl (pvc 1) J1))) (fun _ _=>rfl)))
   (J9 (psl 8 J0A.nd (J0B J1))
   (J9 (J09 PassesOwn.never rfl (J0l rfl T.wg (pal rfl (pvl 2) J1)) (pgl 9 J0A.nd)
   (J9 (psl 10 J0A.nd (Jj J96 (pvc 1) (Jn Jx (Jn J05 (Jn JQ (pvc 0) Ja) (Jn J2i Ja (pvl 9))) (Js J1l T.wa Jv rfl (by decide) (by decide) rfl (pal rfl (pvc 1) J1))) (fun _ _=>rfl)))
   (Jc (JM (J1h rfl ql PySem.F.slot_list_append PySem.F.type_list_append J0r rfl rfl rfl rfl (pvl 8) (pal rfl (Jn J3j (Jn J3j (Jn J53 (pvl 7) (pvl 6)) (pvl 10)) (Jn J53 (pvl 7) (Jn J3i (Jn J3i (pvl 5) (pvl 6)) Ja))) J1))))))
   (Jc (Ji (pvl 8))))))))),?_⟩
  walk_at "dc";refine ⟨⟨by decide,by decide⟩,by decide,?_⟩;by_cases h4:sd / 43264 % 4=3
  ·rw [zu (zx h4),zu (zx (by omega))]
   refine ⟨rfl,by decide,by decide,comp_of (as:=List.range 12) (g:=fun i=>V.int (0+(i:Int))) J08 (Jb (by decide)) (fun _ _=>trivial) (fun _=>true) (fun i=>sgn (ch sg (sd / 1664+5 * (0+(i:Int)) * (0+(i:Int))))) (fun _ H1 Q _ _ q=>q H1 (Same.refl _)) (fun i H1 Q hi _ _ q=>?_) (fun H1 s1 D hD=>?_)⟩
   ·have hi:=mem_range.mp hi
    walk_at "dc";refine ⟨⟨by decide,by decide⟩,.inl ⟨by decide,by decide⟩,.inr ⟨by omega,by omega⟩,hgl,hg0,?_⟩;refine J97 hgl (zD _ (by omega)) (zC _ hg0) fun c hc=>?_;have e:=J7b hg1 (sd / 1664+5 * (0+(i:Int)) * (0+(i:Int)));obtain rfl:c=ch sg (sd / 1664+5 * (0+(i:Int)) * (0+(i:Int))):=zA (hc.symm.trans e);exact q H1 (Same.refl _)
   ·rw [J0p]
    have ecs:(List.range 12).map (fun (i:Nat)=>sgn (ch sg (sd / 1664+5 * (0+(i:Int)) * (0+(i:Int)))))=((List.range 12).map fun (i:Nat)=>ch sg (sd / 1664+5 * (0+(i:Int)) * (0+(i:Int)))).map sgn:=by rw [map_map];rfl
    rw [ecs];have hlc:((List.range 12).map fun (i:Nat)=>ch sg (sd / 1664+5 * (0+(i:Int)) * (0+(i:Int)))).length=12:=by rw [zL,qe]
    have hmc:∀ c∈(List.range 12).map fun (i:Nat)=>ch sg (sd / 1664+5 * (0+(i:Int)) * (0+(i:Int))),c∈sg.cps.toList:=fun c hc=>by
     obtain ⟨i,_,rfl⟩:=qb.mp hc;exact JbY hg1 _
    generalize ((List.range 12).map fun (i:Nat)=>ch sg (sd / 1664+5 * (0+(i:Int)) * (0+(i:Int))))=cs at *;have s2:=s1.new hD (HO.lst (cs.map sgn));refine JbB (.of Jd) (by omega) ⟨by omega,by omega,?_⟩;generalize upd H1 D (HO.lst (cs.map sgn))=H2 at *;rw [Int.toNat_natCast];refine comp_of (as:=List.range m) (g:=fun i=>V.int (0+(i:Int))) J08 (by rw [qe];exact Jb (by omega)) (fun _ _=>trivial) (fun _=>true) (fun i=>.str ⟨(cs.take (i+1)).toArray⟩) (fun _ H1 Q _ _ q=>q H1 (Same.refl _)) (fun i H3 Q hi _ _ q=>?_) (fun H3 s3 D3 hD3=>?_)
    ·walk_at "dc"
     refine ⟨Jb (by show cs.toArray.size<=_;rw [zN];omega),?_⟩;have e:J5J cs none (some (0+(i:Int)+1))=cs.take (i+1):=by
      rw [show (0+(i:Int)+1)=((i+1:Nat):Int) by omega,cut_to]
     have e2:J5J (⟨cs.toArray⟩:Str).cps.toList none (some (0+(i:Int)+1))=cs.take (i+1):=e
     first
      | (rw [e2];exact q H3 (Same.refl _))
      | (rw [e];exact q H3 (Same.refl _))
    ·rw [J0p]
     have lt:∀ i,i<m->(cs.take (i+1)).length=i+1:=fun i hi=>by rw [zR,hlc];omega
     refine k _ D3 ((List.range m).map fun i=>⟨(cs.take (i+1)).toArray⟩) ((s2.trans s3).new hD3 _) (by rw [Jd,map_map];rfl) ⟨by rw [zL,qe],fun _=>J1f fun i j hi hj e=>?_,fun z hz=>?_⟩
     ·have e2:=congrArg List.length (J38.mp e)
      have e3:(cs.take (i+1)).length=(cs.take (j+1)).length:=e2;rw [lt i hi,lt j hj] at e3;omega
     ·obtain ⟨i,hi,rfl⟩:=qb.mp hz
      have hi:=mem_range.mp hi;have hl:(⟨(cs.take (i+1)).toArray⟩:Str).length=i+1:=by
       show (cs.take (i+1)).toArray.size=_;rw [zN,lt i hi]
      exact ⟨by omega,by omega,fun c hc=>hmc c (mem_of_mem_take hc)⟩
  ·rw [zt (by simpa using h4)]
   refine ⟨by decide,⟨by decide,by decide⟩,by omega,⟨by decide,by decide⟩,hgl,hg0,?_⟩;refine J97 hgl (zD _ (by omega)) (zC _ hg0) fun c hc=>⟨Jb (by decide),fun p hp=>?_⟩;have hcl:c∈sg.cps.toList:=zP hc;have b1:0<=sd % 12:=zD _ (by decide);have b2:sd % 12<12:=zC _ (by decide);have b3:0<=sd / 12 % (1+sd % 12):=zD _ (by omega);have b4:sd / 12 % (1+sd % 12)<1+sd % 12:=zC _ (by omega);generalize sd / 12 % (1+sd % 12)=at0 at *;generalize sd % 12=few at *
   walk_at "nw p hp H1 s1 g1"
   refine J06 ?_;walk_at "dc";refine ⟨by omega,by omega,?_⟩;rw [Int.toNat_natCast];refine ForW.of J08 (fun j σ H'=>(∃ v9 v10,σ=[some (V.int sd),some (V.str sg),some (V.int (m:Int)),some (V.int 12),none,some (V.int (1+few)),some (V.int at0),some (V.str ⟨#[c]⟩),some (V.ref p),v9,v10])/\H' p=some (.lst (((List.range j).map (hdS sg sd c at0 few)).map V.str))/\Same H H') ⟨⟨none,none,rfl⟩,g1,s1⟩ (fun _ _ _ _ _=>trivial) ?_ ?_
   ·rintro j x σ H2 hx ⟨⟨v9,v10,rfl⟩,g2,s2⟩
    obtain ⟨hj,rfl⟩:=J0n hx;walk_at "dc";refine ⟨⟨by decide,by decide⟩,.inl ⟨by decide,by decide⟩,hgl,hg0,?_⟩;refine J97 hgl (zD _ (by omega)) (zC _ hg0) fun d hd=>?_;obtain rfl:d=ch sg (sd / 1664+5 * (0+(j:Int))):=zA (hd.symm.trans (J7b hg1 _));unfold sgn;walk_at "dc";refine ⟨.inl ⟨rfl,_,.of g2⟩,J5S c b3 (by omega),Jb ?_,J5S c (by omega) (by omega),Jb ?_,p,_,_,rfl,rfl,g2,?_,⟨_,rfl⟩,?_,s2.set hp _⟩
    ·rw [J6W]
     show at0.toNat+1<=_;omega
    ·rw [Jdj,J6W,J6W]
     show at0.toNat+1+_<=_;omega
    ·rw [zL,zL,qe,sizeLine_eq]
     omega
    ·rw [Jd,range_succ,zY,zY]
     rfl
   ·rintro σ H2 ⟨⟨v9,v10,rfl⟩,g2,s2⟩
    rw [JK] at g2;walk_at "dc";exact k _ p _ s2 g2 (Jak hg1 hcl b3 b4 b2 h9)
def Nam (n:Str):Prop:=1<=n.length/\n.length<=12/\∀ c∈n.cps.toList,c∈J0g.cps.toList
theorem Nam.wrd (h:Nam n):Wrd n:=⟨h.1,h.2.1,fun c hc=>by rw [PySem.W.KT.app_list];exact z9 _ (h.2.2 c hc)⟩
theorem JaC (h:1<=n.length/\n.length<=12/\∀ c∈n.cps.toList,c∈JeY.cps.toList):Wrd n:=⟨h.1,h.2.1,fun c hc=>by rw [<- J8y];exact h.2.2 c hc⟩
def KdV (kd:Str)(x:V):Prop:=(kd=JF/\∃ z,x=.str z/\Wrd z)\/(kd=numS/\∃ i,x=.int i/\i.natAbs<10 ^ 60)
theorem Je5:∀ c∈J0g.cps.toList,c<1114112:=by decide +kernel
def Wd (H:Hp)(d:Addr)(ns kds:List Str):Prop:=∃ (kvs:List (Key×V)) (l w:Addr) (b:Int) (xs:List V) (ws:List Str),H d=some (.dK kvs)/\JG kvs (.inr "fields")=some (.ref l)/\JG kvs (.inr "words")=some (.ref w)/\JG kvs (.inr "base")=some (.int b) /\
 H l=some (.lst xs)/\FldsK H xs ns kds/\(∀ kd∈kds,kd=JF\/kd=numS)/\1<=xs.length/\xs.length<=8/\H w=some (.lst (ws.map V.str))/\1<=ws.length/\ws.length<=60/\(∀ n∈ns,Nam n)/\(∀ z∈ws,Wrd z)/\-(9 * 10 ^ 59)<=b/\b<=9 * 10 ^ 59
theorem Wd.mono (s:Same H H')(h:Wd H d ns kds):Wd H' d ns kds:=by
 obtain ⟨kvs,l,w,b,xs,ws,h1,h2,h3,h4,h5,h6,h7,h8,h9,h10,h11⟩:=h;exact ⟨kvs,l,w,b,xs,ws,s _ _ h1,h2,h3,h4,s _ _ h5,h6.mono s,h7,h8,h9,s _ _ h10,h11⟩
theorem J8j (h:H d=some (.dK kvs))(e:JG kvs (.inr z)=some v):DGet H d (.str z) (some v):=by
 have:=DGet.k (k:=.inr z) h;rwa [e] at this
def J8o (K:PySem.W.Frag):Sp:=fun vs H Q _=>∃ (a:Addr) (ns0:List Int),vs=[.ref a]/\SqL K H a (ns0.map V.int)/\∀ H' d ns kds,Same H H'->Wd H' d ns kds->Q (.ref d) H'
theorem ok_l_world (T:Txt K mg f fd):FnOk P w K mg base CX0 2 (f 60) (fd 60) ["_law_script"] (J8o K):=by
 walk_at "ok yt J0z"
 ·obtain ⟨a,ns0,rfl,_⟩:=h
  rfl
 ·obtain ⟨a,ns0,rfl,hs,k⟩:=h
  refine ⟨_,(J9 (psc 1 J0z.nd (Jg T.we (JS T) (hr.mono (by decide)) rfl (by decide) rfl (pal rfl (Jg T.wn (J0X T) (hr.mono (by decide)) rfl (by decide) rfl (pal rfl (pvl 0) (pal rfl Ja J1))) (pal rfl Ja J1))))
   (J9 (psl 2 J0z.nd (Jn J05 Ja (Jn Jx (pvc 1) Ja)))
   (J9 (psc 3 J0z.nd (Jg T.wO (ok_l_heads T) (hr.mono (by decide)) rfl (by decide) rfl (pal rfl (Jg T.we (JS T) (hr.mono (by decide)) rfl (by decide) rfl (pal rfl (pvc 1) (pal rfl Ja J1))) (pal rfl Jp (pal rfl (pvl 2) (pal rfl Ja J1))))))
   (J9 (J1D ["_law_k"] ["_law_script","_law_seed","_law_many","_law_names","_law_fields","_law_words","_law_base"] rfl (show CompSc _ (Je J2O) ["_law_script","_law_seed","_law_many","_law_names","_law_fields","_law_words","_law_base"] ["_law_script","_law_seed","_law_many","_law_names","_law_fields","_law_words","_law_base"] from Ju (by decide +kernel)) J0z.nd (i:=4) rfl rfl (J0l rfl T.wg (pal rfl (pvl 2) J1)) (fun _ _ _ _ _=>(pgl 0 (show (["_law_k","_law_script","_law_seed","_law_many","_law_names","_law_fields","_law_words","_law_base"]:List Str).Nodup by decide +kernel))) (fun _ _ _ _ _=>JH) (fun _ _ _ _ _=>(Jy (pal rfl (Jj (J0I rfl) (pvc 4) (pvl 0) (fun _ _=>rfl)) (pal rfl (Jj (J0I rfl) (J0B (pal rfl Jp (pal rfl Jp J1))) (Jn Jx (Jg T.we (JS T) (hr.mono (by decide)) rfl (by decide) rfl (pal rfl (pvc 2) (pal rfl (Jn J05 (pvl 0) Ja) J1))) Ja) (fun _ _=>rfl)) J1)))))
   (J9 (psl 5 J0z.nd (Jg T.wO (ok_l_heads T) (hr.mono (by decide)) rfl (by decide) rfl (pal rfl (Jg T.we (JS T) (hr.mono (by decide)) rfl (by decide) rfl (pal rfl (pvc 1) (pal rfl Ja J1))) (pal rfl Jp (pal rfl Ja (pal rfl Ja J1))))))
   (J9 (Jt (Jk JA (Jn Jx (Jn JQ (pvc 1) Ja) Ja) Ja (Jm _))
   (Jc (psl 5 J0z.nd (Jn Jbi (J0f (J5f rfl) (pvc 3) J0E (J0o Ja)) (J0f (J5f rfl) (pvl 5) J0E (J0o Ja)))))
   Jl)
   (J9 (psl 6 J0z.nd (Jj (J0I rfl) (J0B (pal rfl Ja (pal rfl (Jn J2i Ja (Jn J8Q Ja Ja)) (pal rfl (Jn J3i Ja (Jn J2i Ja (Jn J8Q Ja Ja))) (pal rfl Ja J1))))) (Jn Jx (Jn JQ (pvc 1) Ja) Ja) (fun _ _=>rfl)))
   (Jc (Ji (J9z (J1Y Jp (pvl 4) (J1Y Jp (pvl 5) (J1Y Jp (pvl 6) J6H))) rfl rfl (cons_ne_nil _ _) (by show 3<=15;decide))))))))))),?_⟩
  walk_at "dc";refine ⟨a,ns0,_,rfl,hs,by decide,fun v0=>⟨_,_,rfl,?_⟩⟩;generalize J5c v0 1=sd at *;refine ⟨_,rfl,by decide,_,_,rfl,?_⟩;obtain ⟨m,hm⟩:∃ m:Nat,1+sd % 8=(m:Int):=⟨(1+sd % 8).toNat,by omega⟩;rw [hm];have hm1:1<=m/\m<=8:=by omega
  refine ⟨_,m,J0g,rfl,by omega,by decide,by decide,fun H1 pn zs s1 hpn hz=>?_⟩;refine ⟨by omega,by omega,?_⟩;rw [Int.toNat_natCast];refine JV J08 (by rw [JK];exact Jb (by omega)) (fun j ys H'=>Same H1 H'/\ys.length=j/\∃ kds:List Str,kds.length=j/\(∀ kd∈kds,kd=JF\/kd=numS)/\∀ (i:Nat) x n kd,ys[i]?=some x->zs[i]?=some n->kds[i]?=some kd->∃ p,x=.ref p/\H' p=some (.tup [.str n,.str kd])) ⟨Same.refl _,rfl,[],rfl,(fun _ h=>nomatch h),fun _ _ _ _ h=>by simp at h⟩ (fun _ _ _ _ _=>trivial) (fun j ys H' q=>Nat.le_of_eq q.2.1) (fun j x ys H2 hx q=>?_) (fun ys H2 q D hD=>?_)
  ·obtain ⟨hj,rfl⟩:=J0n hx
   obtain ⟨t1,t2,kds,t3,t4,t5⟩:=q;obtain ⟨n,hn⟩:∃ n,zs[j]?=some n:=⟨_,zJ (by rw [hz.1];exact hj)⟩;walk_at "dc";rw [Int.zero_add];refine ⟨pn,_,_,_,rfl,rfl,.of (t1 _ _ hpn),Jf (by rw [zW,hn];rfl),Jb (by decide),fun p hp=>?_⟩
   walk_at "nw p hp H3 u gp"
   refine ⟨by decide,J1g (.of gp) (zD _ (by decide)) (zC _ (by decide)) fun kv hkv=>⟨Jb (by decide),fun r hr=>?_⟩⟩;obtain ⟨kd,rfl,hk2⟩:∃ kd:Str,kv=.str kd/\(kd=JF\/kd=numS):=by
    have h2:J5c sd ((j:Int)+30) % 2=0\/J5c sd ((j:Int)+30) % 2=1:=by omega
    rcases h2 with h | h
    ·rw [h] at hkv
     obtain rfl:V.str (Str.ofString "word")=kv:=by simpa using hkv
     exact ⟨_,rfl,.inl rfl⟩
    ·rw [h] at hkv
     obtain rfl:V.str (Str.ofString "number")=kv:=by simpa using hkv
     exact ⟨_,rfl,.inr rfl⟩
   have u3:=Same.upd_new hr (HO.tup [V.str n,V.str kd]);refine ⟨⟨_,rfl⟩,(t1.trans u).trans u3,by simp [t2],kds++[kd],by simp [t3],fun kd' hk'=>?_,fun i x n' kd' hx' hn' hk'=>?_⟩
   ·rcases zZ.mp hk' with h | h
    ·exact t4 kd' h
    ·rw [zM.mp h]
     exact hk2
   ·by_cases hi:i<ys.length
    ·rw [qd hi] at hx'
     rw [qd (by omega)] at hk';obtain ⟨p',e1,e2⟩:=t5 i x n' kd' hx' hn' hk';exact ⟨p',e1,(u.trans u3) _ _ e2⟩
    ·have hil:=(zK.mp hx').1
     rw [zQ,length_singleton] at hil;obtain rfl:i=ys.length:=by omega
     rw [qc (zv _),Nat.sub_self] at hx';obtain rfl:V.ref r=x:=by simpa using hx'
     rw [t2,hn] at hn';cases hn';rw [qc (by omega),t2,t3,Nat.sub_self] at hk';obtain rfl:kd=kd':=by simpa using hk'
     exact ⟨r,rfl,Jd⟩
  ·obtain ⟨t1,t2,kds,t3,hkk,t5⟩:=q
   rw [JK] at t2 t3;have u3:=Same.upd_new hD (HO.lst ys);have gD:upd H2 D (HO.lst ys) D=some (.lst ys):=Jd;have hF:FldsK (upd H2 D (HO.lst ys)) ys zs kds:=FldsK.mono u3 ⟨hz.1.trans t2.symm,t3.trans t2.symm,hz.2.1 rfl,t5⟩;have s3:=(s1.trans t1).trans u3;have hpn3:=(t1.trans u3) _ _ hpn;generalize upd H2 D (HO.lst ys)=H3 at *;refine ⟨_,_,rfl,_,4,JeY,rfl,by omega,by decide,by decide,fun H4 pw wz s4 hpw hwz=>⟨sd,rfl,⟨by decide,by decide⟩,by decide,?_⟩⟩;have hnms:∀ n∈zs,Nam n:=fun n hn=>hz.2.2 n hn;by_cases c:sd / 8 % 3=1
   ·rw [zu (zx c)]
    refine ⟨pn,rfl,_,.of (s4 _ _ hpn3),fun pa hpa=>?_⟩
    walk_at "nw pa hpa H4a v1 gpa"
    refine ⟨pw,rfl,_,.of (v1 _ _ hpw),fun pc hpc=>?_⟩
    walk_at "nw pc hpc H4b v2 gpc"
    have ew:J1z (zs.map V.str) none (some 3)++J1z (wz.map V.str) none (some 1)=(zs.take 3++wz.take 1).map V.str:=by
     rw [show J1z (zs.map V.str) none (some 3)=(zs.map V.str).take 3 from cut_to _ 3,show J1z (wz.map V.str) none (some 1)=(wz.map V.str).take 1 from cut_to _ 1,zY,map_take,map_take]
    have hwl:=hwz.1;have hzl:=hz.1;have elen:(zs.take 3++wz.take 1).length=min 3 m+1:=by
     rw [zQ,zR,zR,hwl,hzl];omega
    have esum:(J1z (zs.map V.str) none (some 3)).length+(J1z (wz.map V.str) none (some 1)).length=(zs.take 3++wz.take 1).length:=by
     rw [<- zQ,ew,zL]
    refine ⟨pa,pc,_,_,rfl,rfl,v2 _ _ gpa,gpc,by rw [esum,elen];exact Jb (by omega),fun pe hpe=>?_⟩;rw [ew]
    walk_at "nw pe hpe H5 v3 gpe"
    have hwl12:∀ z∈zs.take 3++wz.take 1,Wrd z:=fun z hzm=>by
     rcases zZ.mp hzm with h | h
     ·exact Nam.wrd (hz.2.2 z (mem_of_mem_take h))
     ·exact JaC (hwz.2.2 z (mem_of_mem_take h))
    have sD5:=((s4.trans v1).trans v2).trans v3;have s5:=s3.trans sD5;refine ⟨⟨by decide,by decide,by decide⟩,.inl ⟨by decide +kernel,by decide +kernel⟩,⟨by decide,by decide,by decide⟩,.inl ⟨by decide +kernel,by decide +kernel⟩,Jb (by decide),fun pb hpb=>⟨sd,rfl,⟨by decide,by decide⟩,by decide,?_⟩⟩
    walk_at "nw pb hpb H6 u6 g6"
    refine J1g (.of g6) (zD _ (by decide)) (zC _ (by decide)) fun bv hbv pd hpd=>⟨Jd,[(.inr "fields",.ref D),(.inr "words",.ref pe),(.inr "base",bv)],rfl,(by show 3<=15;decide),?_⟩;obtain ⟨b,rfl,hbb⟩:∃ b,bv=.int b/\-(9 * 10 ^ 59)<=b/\b<=9 * 10 ^ 59:=by
     rcases (by omega:sd / 24 % 4=0\/sd / 24 % 4=1\/sd / 24 % 4=2\/sd / 24 % 4=3) with h | h | h | h<;>rw [h] at hbv<;>exact ⟨_,(zA hbv).symm,by decide +kernel,by decide +kernel⟩
    rw [J4v];have u7:=Same.upd_new hpd (HO.dK (J0a [] [(.inr "fields",.ref D),(.inr "words",.ref pe),(.inr "base",.int b)]));exact k _ pd zs kds ((s5.trans u6).trans u7) ⟨_,D,pe,b,ys,(zs.take 3++wz.take 1),Jd,rfl,rfl,rfl,(sD5.trans (u6.trans u7)) _ _ gD,FldsK.mono (sD5.trans (u6.trans u7)) hF,hkk,by omega,by omega,(u6.trans u7) _ _ gpe,by omega,by omega,hnms,hwl12,hbb⟩
   ·rw [zt (by simpa using c)]
    have hwl:=hwz.1;have s5:=s3.trans s4;have hwl12:∀ z∈wz,Wrd z:=fun z hzm=>JaC (hwz.2.2 z hzm);refine ⟨⟨by decide,by decide,by decide⟩,.inl ⟨by decide +kernel,by decide +kernel⟩,⟨by decide,by decide,by decide⟩,.inl ⟨by decide +kernel,by decide +kernel⟩,Jb (by decide),fun pb hpb=>⟨sd,rfl,⟨by decide,by decide⟩,by decide,?_⟩⟩
    walk_at "nw pb hpb H6 u6 g6"
    refine J1g (.of g6) (zD _ (by decide)) (zC _ (by decide)) fun bv hbv pd hpd=>⟨Jd,[(.inr "fields",.ref D),(.inr "words",.ref pw),(.inr "base",bv)],rfl,(by show 3<=15;decide),?_⟩;obtain ⟨b,rfl,hbb⟩:∃ b,bv=.int b/\-(9 * 10 ^ 59)<=b/\b<=9 * 10 ^ 59:=by
     rcases (by omega:sd / 24 % 4=0\/sd / 24 % 4=1\/sd / 24 % 4=2\/sd / 24 % 4=3) with h | h | h | h<;>rw [h] at hbv<;>exact ⟨_,(zA hbv).symm,by decide +kernel,by decide +kernel⟩
    rw [J4v];have u7:=Same.upd_new hpd (HO.dK (J0a [] [(.inr "fields",.ref D),(.inr "words",.ref pw),(.inr "base",.int b)]));exact k _ pd zs kds ((s5.trans u6).trans u7) ⟨_,D,pw,b,ys,wz,Jd,rfl,rfl,rfl,(s4.trans (u6.trans u7)) _ _ gD,FldsK.mono (s4.trans (u6.trans u7)) hF,hkk,by omega,by omega,(u6.trans u7) _ _ hpw,by omega,by omega,hnms,hwl12,hbb⟩
def J2m (K:PySem.W.Frag):Sp:=fun vs H Q _=>∃ (sd:Int) (kd:Str) (d:Addr) (ns kds:List Str),vs=[.int sd,.str kd,.ref d]/\Wd H d ns kds/\(kd=JF\/kd=numS)/\∀ v,KdV kd v->Q v H
theorem J1d (T:Txt K mg f fd):FnOk P w K mg base CX0 1 (f 61) (fd 61) ["_law_seed","_law_kind","_law_world_here"] (J2m K):=by
 walk_at "ok wx J4n"
 ·obtain ⟨sd,kd,d,ns,kds,rfl,_⟩:=h
  rfl
 ·obtain ⟨sd,kd,d,ns,kds,rfl,⟨kvs,l,w',b,xs,ws,h1,h2,h3,h4,h5,h6,h7,h8,h9,h10,h11,h12,h13,h14,hb1,hb2⟩,hk,k⟩:=h
  refine ⟨_,(J9 (Jt (Jk JA (pvl 1) Jp (Jm _))
   (Jc (Ji (Jj (J0I rfl) (JX (J0b hr) (pvl 2) Jp (fun _ _=>rfl)) (Jn Jx (pvl 0) (Js (JZ rfl) T.wa Jv rfl (by decide) (by decide) rfl (pal rfl (JX (J0b hr) (pvl 2) Jp (fun _ _=>rfl)) J1))) (fun _ _=>rfl))))
   Jl)
   (Jc (Ji (Jn J3i (Jn J05 (JX (J0b hr) (pvl 2) Jp (fun _ _=>rfl)) (Jn Jx (pvl 0) Ja)) Ja)))),?_⟩
  walk_at "dc";by_cases hw:kd=JF
  ·rw [zu (zx hw)]
   refine ⟨_,J8j h1 h3,_,J8j h1 h3,w',rfl,_,.inl (.of h10),by rw [zL];omega,J1g (.of h10) (zD _ (by rw [zL];omega)) (zC _ (by rw [zL];omega)) fun v hv=>k v ?_⟩;rw [zW] at hv;obtain ⟨z,hz,rfl⟩:=Option.map_eq_some_iff.mp hv;exact .inl ⟨hw,z,rfl,h14 z (zP hz)⟩
  ·rw [zt (by simpa using hw)]
   refine ⟨_,J8j h1 h4,by decide,b,rfl,k _ (.inr ⟨hk.resolve_left hw,_,rfl,?_⟩)⟩;have e0:=zD sd (show (6:Int)≠0 by decide);have e1:=zC sd (show (0:Int)<6 by decide);generalize sd % 6=t at *;omega
def RowS (kds:List Str)(rs:List V):Prop:=rs.length=kds.length/\∀ (i:Nat) x kd,rs[i]?=some x->kds[i]?=some kd->x=.non\/KdV kd x
theorem KdV.of (h:KdV kd x):J0v kd x:=by
 rcases h with ⟨e,z,e2,hz⟩ | ⟨e,i,e2,_⟩
 ·exact .inl ⟨e,z,e2,hz.2.1,fun c hc=>Jdn c (hz.2.2 c hc)⟩
 ·exact .inr ⟨e,i,e2⟩
theorem RowS.ok (h:RowS kds rs):RowOk kds rs:=⟨h.1,fun i x kd a b=>(h.2 i x kd a b).imp id KdV.of⟩
def J8p (K:PySem.W.Frag):Sp:=fun vs H Q _=>∃ (sd:Int) (kd:Str) (d:Addr) (ns kds:List Str),vs=[.int sd,.str kd,.ref d]/\Wd H d ns kds/\(kd=JF\/kd=numS)/\∀ v,(v=.non\/KdV kd v)->Q v H
theorem J8S (T:Txt K mg f fd):FnOk P w K mg base CX0 2 (f 62) (fd 62) ["_law_seed","_law_kind","_law_world_here"] (J8p K):=by
 walk_at "ok yu J8C"
 ·obtain ⟨sd,kd,d,ns,kds,rfl,_⟩:=h
  rfl
 ·obtain ⟨sd,kd,d,ns,kds,rfl,hW,hk,k⟩:=h
  refine ⟨_,(J9 (Jt (Jk JA (Jn Jx (pvl 0) Ja) Ja (Jm _))
   (Jc (Ji J0N))
   Jl)
   (Jc (Ji (Jg T.wx (J1d T) (hr.mono (by decide)) rfl (by decide) rfl (pal rfl (Jn JQ (pvl 0) Ja) (pal rfl (pvl 1) (pal rfl (pvl 2) J1))))))),?_⟩
  walk_at "dc"
  repeat (refine And.intro (by first | decide | omega | exact Or.inl ⟨by omega,by omega⟩ | exact Or.inr ⟨by omega,by omega⟩ | exact ⟨by omega,by omega⟩ | exact ⟨by decide,by decide,by decide⟩) ?_)
  by_cases h6:sd % 6=0
  ·rw [zu (zx h6)]
   exact k _ (.inl rfl)
  ·rw [zt (by simpa using h6)]
   exact ⟨⟨by decide,by decide⟩,_,kd,d,ns,kds,rfl,hW,hk,fun v hv=>k v (.inr hv)⟩
inductive Q_l_row (K:PySem.W.Frag)(vs:List V)(H:Hp)(Q:VK):Prop
 | mk (sd:Int) (d:Addr) (ns kds:List Str) (u0_:vs=[.int sd,.ref d]) (u1_:Wd H d ns kds) (u2_:∀ H' a rs,Same H H'->H' a=some (.tup rs)->RowS kds rs->Q (.ref a) H'):Q_l_row K vs H Q
def JaO (K:PySem.W.Frag):Sp:=fun vs H Q _=>Q_l_row K vs H Q
theorem ok_l_row (T:Txt K mg f fd):FnOk P w K mg base CX0 3 (f 63) (fd 63) ["_law_seed","_law_world_here"] (JaO K):=by
 walk_at "ok yv J7E"
 ·obtain ⟨sd,d,ns,kds,rfl,_⟩:=h
  rfl
 ·obtain ⟨sd,d,ns,kds,rfl,hW,k⟩:=h
  obtain ⟨kvs,l,w',b,xs,ws,h1,h2,h3,h4,h5,h6,h7,h8,h9,h10,h11,h12,h13,h14⟩:=id hW;refine ⟨_,(J9 (psc 2 J7E.nd (JX (J0b hr) (pvc 1) Jp (fun _ _=>rfl)))
   (Jc (Ji (J0t (J13 rfl) T.wf J0c rfl (by decide) (by decide) rfl (pal rfl (J00 ["_law_k"] ["_law_seed","_law_world_here","_law_fields"] rfl (show CompSc _ (Je J4z) ["_law_seed","_law_world_here","_law_fields"] ["_law_seed","_law_world_here","_law_fields"] from Ju (by decide +kernel)) (J0l rfl T.wg (pal rfl (Js (JZ rfl) T.wa Jv rfl (by decide) (by decide) rfl (pal rfl (pvc 2) J1)) J1)) (fun _ _ _ _ _=>(pgl 0 (show (["_law_k","_law_seed","_law_world_here","_law_fields"]:List Str).Nodup by decide +kernel))) (fun _ _ _ _ _=>JH) (fun _ _ _ _ _=>(Jg T.yu (J8S T) (hr.mono (by decide)) rfl (by decide) rfl (pal rfl (Jg T.we (JS T) (hr.mono (by decide)) rfl (by decide) rfl (pal rfl (pvc 1) (pal rfl (Jn J05 (pvl 0) Ja) J1))) (pal rfl (Jj (Jo rfl) (Jj (J0I rfl) (pvc 3) (pvl 0) (fun _ _=>rfl)) Ja (fun _ _=>rfl)) (pal rfl (pvc 2) J1)))))) J1))))),?_⟩
  walk_at "dc";refine ⟨_,J8j h1 h2,l,rfl,xs,.inl (.of h5),by omega,by omega,?_⟩;rw [Int.toNat_natCast];refine JV J08 (by rw [JK];exact Jb (by omega)) (fun j ys H'=>H'=H/\ys.length=j/\∀ (i:Nat) x kd,ys[i]?=some x->kds[i]?=some kd->x=.non\/KdV kd x) ⟨rfl,rfl,fun _ _ _ h=>by simp at h⟩ (fun _ _ _ _ _=>trivial) (fun j ys H' q=>Nat.le_of_eq q.2.1) (fun j x ys H2 hx q=>?_) (fun ys H2 q D hD=>?_)
  ·obtain ⟨hj,rfl⟩:=J0n hx
   obtain ⟨rfl,t2,t3⟩:=q;obtain ⟨p,n,kd,e1,e2,e3,e4⟩:=h6.at hj;walk_at "dc";rw [Int.zero_add];refine ⟨l,xs,_,_,rfl,rfl,.of h5,Jf e1,p,_,_,_,rfl,rfl,.of e4,Jf (j:=1) rfl,_,rfl,⟨ns,kds,hW⟩,h7 kd (zP e3),fun v hv=>⟨⟨_,rfl⟩,rfl,by simp [t2],fun i x kd' hx' hk'=>?_⟩⟩;by_cases hi:i<ys.length
   ·rw [qd hi] at hx'
    exact t3 i x kd' hx' hk'
   ·have hil:=(zK.mp hx').1
    rw [zQ,length_singleton] at hil;obtain rfl:i=ys.length:=by omega
    rw [qc (zv _),Nat.sub_self] at hx';obtain rfl:v=x:=by simpa using hx'
    rw [t2,e3] at hk';cases hk';exact hv
  ·obtain ⟨rfl,t2,t3⟩:=q
   rw [JK] at t2;exact ⟨ys,.inl ⟨.of Jd,fun r hr=>k _ r ys ((Same.upd_new hD _).new hr _) Jd ⟨by rw [t2,h6.2.1],t3⟩⟩⟩
def toN:V->Jq
 | .int i=>some (.inl i)
 | .str z=>some (.inr z)
 | _=>none
def TyN (t:Str)(k:Jq):Prop:=k=none\/(t=JF/\∃ z,k=some (.inr z)/\Jdl 12 z)\/(t=numS/\∃ i,k=some (.inl i))
theorem J8m {t:Str}(h:v=.non\/J0v t v):nV (toN v)=v/\TyN t (toN v):=by
 rcases h with rfl | ⟨e,z,rfl,hz⟩ | ⟨e,i,rfl⟩
 ·exact ⟨rfl,.inl rfl⟩
 ·exact ⟨rfl,.inr (.inl ⟨e,z,rfl,hz⟩)⟩
 ·exact ⟨rfl,.inr (.inr ⟨e,i,rfl⟩)⟩
def TyL:List Str->List Jq->Prop
 | _,[]=>True
 | [],_::_=>False
 | t::ts,k::ks=>TyN t k/\TyL ts ks
theorem TyN.ok {t:Str}{k:Jq}(h:TyN t k):okN k:=by
 rcases h with rfl | ⟨_,z,rfl,hz⟩ | ⟨_,i,rfl⟩
 ·trivial
 ·exact J2p hz.2
 ·trivial
theorem TyN.like {t:Str}{a b:Jq}(h:TyN t a)(h':TyN t b):J9B a b=true:=by
 rcases h with rfl | ⟨e,z,rfl,hz⟩ | ⟨e,i,rfl⟩
 ·cases b<;>rfl
 ·rcases h' with rfl | ⟨_,z',rfl,_⟩ | ⟨e',j,rfl⟩
  ·rfl
  ·rfl
  ·rw [e] at e';exact absurd e' (by decide)
 ·rcases h' with rfl | ⟨e',z',rfl,_⟩ | ⟨_,j,rfl⟩
  ·rfl
  ·rw [e] at e';exact absurd e' (by decide)
  ·rfl
theorem TyL.ok:∀ {ts:List Str} {ks:List Jq},TyL ts ks->∀ k∈ks,okN k
 | _,[],_,k,hk=>nomatch hk
 | [],_::_,h,_,_=>zH h
 | t::ts,k::ks,h,x,hx=>by
   rcases zU.mp hx with rfl | hx
   ·exact h.1.ok
   ·exact TyL.ok h.2 x hx
theorem TyL.like:∀ {ts:List Str} {as bs:List Jq},TyL ts as->TyL ts bs->J5T as bs=true
 | _,[],[],_,_=>rfl
 | _,[],_::_,_,_=>rfl
 | _,_::_,[],_,_=>rfl
 | [],_::_,_::_,h,_=>zH h
 | t::ts,a::as,b::bs,h,h'=>by
   rw [J5T,h.1.like h'.1,Bool.true_and]
   split
   ·exact TyL.like h.2 h'.2
   ·rfl
theorem TyL.take:∀ {ts:List Str} {ks:List Jq} (n:Nat),TyL ts ks->TyL ts (ks.take n)
 | _,[],n,_=>by rw [take_nil];cases ‹List Str›<;>trivial
 | [],_::_,_,h=>zH h
 | t::ts,k::ks,0,_=>trivial
 | t::ts,k::ks,n+1,h=>⟨h.1,TyL.take n h.2⟩
def pj (is:List Nat)(rs:List V):List Jq:=is.map fun i=>toN (rs.getD i .non)
theorem J7O {kds:List Str}{rs:List V}(h:RowOk kds rs):∀ {is:List Nat},(∀ i∈is,i<kds.length)->TyL (is.map fun i=>kds.getD i JF) (pj is rs)/\(pj is rs).map nV=is.map fun i=>rs.getD i .non
 | [],_=>⟨trivial,rfl⟩
 | i :: is,hi=>by
   obtain ⟨h1,h2⟩:=J7O h (is:=is) fun j hj=>hi j (zS _ hj);have hil:=hi i zT;have hir:i<rs.length:=by rw [h.1];exact hil
   have e1:rs.getD i .non=rs[i]:=by rw [zO,zJ hir];rfl
   have e2:kds.getD i JF=kds[i]:=by rw [zO,zJ hil];rfl
   obtain ⟨q1,q2⟩:=J8m (h.2 i rs[i] kds[i] (zJ hir) (zJ hil));refine ⟨⟨?_,h1⟩,?_⟩
   ·dsimp only;rw [e1,e2];exact q2
   ·rw [zV,<- h2]
    show nV (toN (rs.getD i .non))::(pj is rs).map nV=_;rw [e1,q1]
def Jal (a:List (List Jq))(k:List Jq):Bool:=a.any fun x=>decide (x=k)
theorem JbG {a:List (List Jq)}{k:List Jq}:Jal a k=true↔k∈a:=by
 unfold Jal;rw [any_eq_true];exact ⟨fun ⟨x,hx,e⟩=>of_decide_eq_true e ▸ hx,fun h=>⟨k,h,zx rfl⟩⟩
def Jaz (a:List (List Jq))(k:List Jq):List (List Jq):=if Jal a k=true then a else a++[k]
theorem Jce {a:List (List Jq)}{k x:List Jq}:x∈Jaz a k↔x∈a\/x=k:=by
 unfold Jaz;by_cases h:Jal a k=true
 ·rw [zu h];exact ⟨.inl,fun z=>z.elim id fun e=>by rw [e];exact JbG.mp h⟩
 ·rw [zt h,zZ,zM]
theorem Ja1 (kvs:List (List Jq×V))(k:List Jq)(v:V):(J0k kvs k v).map (·.1)=Jaz (kvs.map (·.1)) k:=by
 have e0:Jal (kvs.map (·.1)) k=kvs.any fun kv=>decide (kv.1=k):=by
  unfold Jal;rw [any_map];rfl
 unfold Jaz;rw [e0];cases e:JG kvs k with
 | none =>
   have:(kvs.any fun kv=>decide (kv.1=k))=false:=by rw [J1m,e];rfl
   rw [this,zt (by simp),putK_new v e,zY];rfl
 | some u =>
   have:(kvs.any fun kv=>decide (kv.1=k))=true:=by rw [J1m,e];rfl
   rw [this,zu rfl];unfold J0k;rw [zu this,map_map];apply map_congr_left;intro p _;simp only [Function.comp]
   first | rfl | (split<;>simp_all)
def J6i (K:PySem.W.Frag):Sp:=fun vs H Q _=>∃ k:Jq,vs=[nV k]/\∀ p,H p=none->Q (.ref p) (upd H p (.tup (prV k)))
theorem J6M (T:Txt K mg f fd):FnOk P w K mg base CX0 1 (f 20) (fd 20) ["value"] (J6i K):=by
 walk_at "ok yb J6x"
 ·obtain ⟨k,rfl,_⟩:=h
  rfl
 ·obtain ⟨kk,rfl,k⟩:=h
  refine ⟨_,(Jc (Ji (J7Q (Jk J2E (pvl 0) J0N (Jm _)) (Jy (pal rfl Ja (pal rfl Ja J1))) (Jy (pal rfl Ja (pal rfl (pvl 0) J1)))))),?_⟩;walk_at "dl"
  match kk,k with
  | none,k =>
    simp only [nV];rw [zu trivial];exact ⟨Jb (by decide),k⟩
  | some (.inl i),k=>exact JeR (fun z=>absurd (show V.int i=V.non from z) (by simp)) fun _=>⟨Jb (by decide),k⟩
  | some (.inr i),k=>exact JeR (fun z=>absurd (show V.str i=V.non from z) (by simp)) fun _=>⟨Jb (by decide),k⟩
def J7t (K:PySem.W.Frag):Sp:=fun vs H Q _=>∃ (b:Addr) (ks:List Jq),vs=[.ref b]/\H b=some (.tup (ks.map nV))/\ks.length<=8/\∀ H' v,Same H H'->KeyV H' v ks->Q v H'
theorem J7T (T:Txt K mg f fd):FnOk P w K mg base CX0 2 (f 42) (fd 42) ["path"] (J7t K):=by
 walk_at "ok wM J7C"
 ·obtain ⟨b,ks,rfl,_⟩:=h
  rfl
 ·obtain ⟨b,ks,rfl,hb,hl,k⟩:=h
  refine ⟨_,(Jc (Ji (J00 ["value"] ["path"] rfl (show CompSc _ (Je J29) ["path"] ["path"] from Ju (by decide +kernel)) (J1y rfl (pvl 0)) (fun _ _ _ _ _=>(pgl 0 (show (["value","path"]:List Str).Nodup by decide +kernel))) (fun _ _ _ _ _=>JH) (fun _ _ _ _ _=>(Jg T.yb (J6M T) (hr.mono (by decide)) rfl (by decide) rfl (pal rfl (pvl 0) J1)))))),?_⟩;walk_at "dl";refine ⟨⟨_,.of hb⟩,?_⟩;refine JV (J0d (xs:=ks.map nV)) (Jb (by rw [zL];omega)) (fun j ys H'=>Same H H'/\Prs H' ys (ks.take j)) ⟨Same.refl _,.nil⟩ (fun _ _ H' _ q=>q.1.seqT (.of hb)) (fun j ys H' q=>by
   have:=Paired.length q.2;rw [this,zR];omega) (fun j x ys H2 hx q=>?_) (fun ys H2 q D hD=>?_)
  ·rw [zW] at hx
   obtain ⟨kk,hkk,rfl⟩:=Option.map_eq_some_iff.mp hx;walk_at "dl";refine ⟨kk,rfl,fun p hp=>⟨⟨_,rfl⟩,q.1.new hp _,?_⟩⟩;rw [take_add_one,hkk];exact Paired.snoc (q.2.mono (Same.upd_new hp _)) ⟨p,rfl,Jd⟩
  ·rw [zL,zX] at q
   exact k _ _ (q.1.new hD _) ⟨D,ys,rfl,Jd,q.2.mono (Same.upd_new hD _)⟩
theorem none_of (s:Same H H')(h:H' p=none):H p=none:=by
 cases e:H p with
 | none=>rfl
 | some u=>rw [s _ _ e] at h;cases h
theorem cut_to {k:Nat}:J1z xs none (some (k:Int))=xs.take k:=by
 unfold J1z;rw [HT.sIx_none,HT.sIx_nat,drop_zero,Nat.sub_zero];rw [take_eq_take_iff];omega
inductive Q_paths_over (K:PySem.W.Frag)(vs:List V)(H:Hp)(Q:VK):Prop
 | mk (l ln r:Addr) (xs rs:List V) (ns kds:List Str) (is:List Nat) (u0_:vs=[.ref l,.ref ln,.ref r]) (u1_:H l=some (.lst xs)) (u2_:FldsK H xs ns kds) (u3_:H ln=some (.tup (is.map fun i=>V.str (ns.getD i JF)))) (u4_:(∀ i∈is,i<kds.length)) (u5_:is.length<=8) (u6_:H r=some (.tup rs)) (u7_:RowOk kds rs) (u8_:∀ H' p ts,H p=none->Same H H'->H' p=some (.lst ts)->TupsV H' ts ((List.range (is.length+1)).map fun m=>(pj is rs).take m)->Q (.ref p) H'):Q_paths_over K vs H Q
def J5t (K:PySem.W.Frag):Sp:=fun vs H Q _=>Q_paths_over K vs H Q
theorem J1M (T:Txt K mg f fd):FnOk P w K mg base CX0 2 (f 43) (fd 43) ["fields","names","row"] (J5t K):=by
 walk_at "ok wv J2Z"
 ·obtain ⟨l,ln,r,xs,rs,ns,kds,is,rfl,_⟩:=h
  rfl
 ·obtain ⟨l,ln,r,xs,rs,ns,kds,is,rfl,hl,hF,hn,hi,hz,hr',hR,k⟩:=h
  refine ⟨_,(J9 (psc 3 J2Z.nd (J00 ["name"] ["fields","names","row","values"] rfl (show CompSc _ (Je J0T) ["fields","names","row","values"] ["fields","names","row","values"] from Ju (by decide +kernel)) (J1y rfl (pvl 1)) (fun _ _ _ _ _=>(pgl 0 (show (["name","fields","names","row","values"]:List Str).Nodup by decide +kernel))) (fun _ _ _ _ _=>JH) (fun _ _ _ _ _=>(Jj (Jo rfl) (pvc 3) (Jg T.wj (ok_field_at T) (hr.mono (by decide)) rfl (by decide) rfl (pal rfl (pvc 1) (pal rfl (pvl 0) J1))) (fun _ _=>rfl)))))
   (Jc (Ji (J00 ["many"] ["fields","names","row","values"] rfl (show CompSc _ (Je J0T) ["fields","names","row","values"] ["fields","names","row","values"] from Ju (by decide +kernel)) (J0l rfl T.wg (pal rfl (Jn J05 (Js (JZ rfl) T.wa Jv rfl (by decide) (by decide) rfl (pal rfl (pvc 3) J1)) Ja) J1)) (fun _ _ _ _ _=>(pgl 0 (show (["many","fields","names","row","values"]:List Str).Nodup by decide +kernel))) (fun _ _ _ _ _=>JH) (fun _ _ _ _ _=>(J0t (J13 rfl) T.wf J0c rfl (by decide) (by decide) rfl (pal rfl (J0f (J5f rfl) (pvc 4) J0E (J0o (pvl 0))) J1))))))),?_⟩
  generalize hB:J9U (J5N _ (J84 _) _ _ _)=B;walk_at "dl";refine ⟨⟨_,.of hn⟩,?_⟩;refine comp_of (as:=is) (g:=fun i=>V.str (ns.getD i JF)) J0d (Jb (by omega)) (fun H' q=>q.seqT (.of hn)) (fun _=>true) (fun i=>rs.getD i .non) (fun n H1 Q' _ s1 q=>?_) (fun n H1 Q' hin _ s1 q=>?_) (fun H1 s1 D hD=>?_)
  ·exact q H1 (Same.refl _)
  ·have hil:=hi n hin
   have hin':n<ns.length:=by rw [hF.1,<- hF.2.1];exact hil
   have hir:n<rs.length:=by rw [hR.1];exact hil
   walk_at "dl";refine ⟨xs,s1 _ _ hl,⟨ns,⟨kds,hF.mono s1⟩,n,by rw [zJ hin',zO,zJ hin'];rfl,fun H2 s2=>?_⟩⟩;exact ⟨r,rs,_,_,rfl,rfl,.of ((s1.trans s2) _ _ hr'),Jf (by rw [zJ hir,zO,zJ hir];rfl),q H2 s2⟩
  obtain ⟨ty,enV⟩:=J7O hR hi;rw [filter_eq_self.mpr (fun _ _=>rfl),<- enV];have hpl:(pj is rs).length=is.length:=by simp [pj]
  walk_at "nw D hD H2 u_ gD"
  have s2:=s1.trans u_;clear hD;subst hB;walk_at "dl";refine ⟨_,.inl (.of gD),?_⟩;rw [zL,hpl];refine ⟨by omega,by omega,?_⟩;rw [show ((is.length:Int)+1).toNat=is.length+1 by omega];refine JV J08 (by rw [JK];exact Jb (by omega)) (fun j ys H'=>Same H2 H'/\TupsV H' ys ((List.range j).map fun m=>(pj is rs).take m)) ⟨Same.refl _,.nil⟩ (fun _ _ _ _ _=>trivial) (fun j ys H' q=>by
   have:=Paired.length q.2;rw [this,zL,qe];omega) (fun j x ys H3 hx q=>?_) (fun ys H3 q D3 hD3=>?_)
  ·obtain ⟨hj,rfl⟩:=J0n hx
   walk_at "dl";refine ⟨_,.of (q.1 _ _ gD),fun p hp=>⟨_,.inl ⟨.of Jd,fun l2 hl2=>⟨⟨_,rfl⟩,(q.1.new hp _).new hl2 _,?_⟩⟩⟩⟩;have w2:=(Same.upd_new hp (HO.lst (J1z ((pj is rs).map nV) none (some (0+(j:Int)))))).new hl2 (HO.tup (J1z ((pj is rs).map nV) none (some (0+(j:Int)))));have e0:J1z ((pj is rs).map nV) none (some (0+(j:Int)))=((pj is rs).take j).map nV:=by rw [Int.zero_add,cut_to,map_take]
   rw [range_succ,zY];exact Paired.snoc (q.2.mono w2) ⟨l2,rfl,by rw [Jd,e0]⟩
  ·rw [JK] at q
   exact k _ _ _ (none_of (s2.trans q.1) hD3) ((s2.trans q.1).new hD3 _) Jd (q.2.mono (Same.upd_new hD3 _))
def Rows (H:Hp)(kds:List Str)(xs:List V)(rs:List (List V)):Prop:=Paired (fun (x:V) (r:List V)=>∃ p,x=.ref p/\H p=some (.tup r)/\RowOk kds r) xs rs
theorem Rows.mono {rs:List (List V)}(s:Same H H')(h:Rows H kds xs rs):Rows H' kds xs rs:=Paired.mapP h fun _ _ ⟨p,e,a,b⟩=>⟨p,e,s _ _ a,b⟩
theorem Paired.ix {α β:Type}{F:α->β->Prop}:∀ {xs:List α} {ys:List β} (_:Paired F xs ys) {i:Nat} {x:α},xs[i]?=some x->∃ y,ys[i]?=some y/\F x y
 | _,_,.nil,i,x,h=>by simp at h
 | _,_,.cons r t,0,x,h=>by cases h;exact ⟨_,rfl,r⟩
 | _,_,.cons r t,i+1,x,h=>Paired.ix t (i:=i) (by simpa using h)
theorem Jay {is:List Nat}(hR:RowOk kds rs)(hi:∀ i∈is,i<kds.length)(m:Nat):TyL (is.map fun i=>kds.getD i JF) ((pj is rs).take m):=TyL.take m (J7O hR hi).1
theorem Jcd {tys:List Str}{L:List (List Jq)}(h:∀ a∈L,TyL tys a):J2U L:=⟨fun a ha=>(h a ha).ok,fun a ha b hb=>(h a ha).like (h b hb)⟩
theorem Jcf (a:List (List Jq))(k:List Jq):(Jaz a k).length<=a.length+1:=by
 unfold Jaz
 split
 ·omega
 ·rw [zQ];exact zv _
theorem TyL.len:∀ {ts:List Str} {ks:List Jq},TyL ts ks->ks.length<=ts.length
 | _,[],_=>zF _
 | [],_::_,h=>zH h
 | _::_,_::_,h=>Nat.succ_le_succ (TyL.len h.2)
theorem TupsV.put {ts:List V}{kss:List (List Jq)}{u:HO}(h:TupsV H ts kss)(hp:H p=some u)(hu:∀ zs,HO.tup zs≠u):TupsV (upd H p o) ts kss:=Paired.mapP h fun _ _ ⟨b,e,q⟩=>⟨b,e,(Jh (J1w q hp (hu _))).trans q⟩
theorem Ja0 {β:Type}{f:Nat->β}{n:Nat}{y:β}(h:((List.range n).map f)[i]?=some y):i<n/\y=f i:=by
 rw [zW] at h;obtain ⟨a,ha,rfl⟩:=Option.map_eq_some_iff.mp h;obtain ⟨h1,h2⟩:=zK.mp ha;rw [getElem_range] at h2;rw [qe] at h1;exact ⟨h1,by rw [h2]⟩
theorem J9b {α β:Type}{f:α->β->α}{a:α}{l:List β}{x:β}(h:l[j]?=some x):(l.take (j+1)).foldl f a=f ((l.take j).foldl f a) x:=by
 rw [Jw h,foldl_append];rfl
inductive Q_heads_of (K:PySem.W.Frag)(vs:List V)(H:Hp)(Q:VK):Prop
 | mk (l ln lr:Addr) (xs xr:List V) (rss:List (List V)) (ns kds:List Str) (is:List Nat) (u0_:vs=[.ref l,.ref ln,.ref lr]) (u1_:H l=some (.lst xs)) (u2_:FldsK H xs ns kds) (u3_:H ln=some (.tup (is.map fun i=>V.str (ns.getD i JF)))) (u4_:(∀ i∈is,i<kds.length)) (u5_:is.length<=3) (u6_:H lr=some (.lst xr)) (u7_:Rows H kds xr rss) (u8_:rss.length<=40) (u9_:∀ H' p ts kss,Same H H'->H' p=some (.lst ts)->TupsV H' ts kss->Q (.ref p) H'):Q_heads_of K vs H Q
def J7z (K:PySem.W.Frag):Sp:=fun vs H Q _=>Q_heads_of K vs H Q
theorem ok_heads_of (T:Txt K mg f fd):FnOk P w K mg base CX0 5 (f 44) (fd 44) ["fields","names","rows"] (J7z K):=by
 walk_at "ok wN J1A"
 ·obtain ⟨l,ln,lr,xs,xr,rss,ns,kds,is,rfl,_⟩:=h
  rfl
 ·obtain ⟨l,ln,lr,xs,xr,rss,ns,kds,is,rfl,hl,hF,hn,hi,hz,hlr,hR,hrz,k⟩:=h
  refine ⟨_,(J9 (psl 3 J1A.nd (Jbd (J0b hr) (Jy J1) J0q))
   (J9 (J09 PassesOwn.never rfl (J0Q rfl (pvl 2)) (pgl 4 J1A.nd)
   (Jc (J09 PassesOwn.never rfl (J0Q rfl (Jg T.wv (J1M T) (hr.mono (by decide)) rfl (by decide) rfl (pal rfl (pvl 0) (pal rfl (pvl 1) (pal rfl (pvl 4) J1))))) (pgl 5 J1A.nd)
   (Jc (J2h (J0b hr) (pvl 3) (pvl 5) J0q rfl)))))
   (Jc (Ji (Jba (J7T T) (hr.mono (by decide)) T.wM.b T.wM.m rfl (by decide) rfl rfl rfl T.wq rfl (pal rfl (pvl 3) J1)))))),?_⟩
  walk_at "dl";intro p hp;refine ⟨zF _,fun p1 hp1=>?_⟩;have ne:p≠p1:=fun e=>by rw [<- e,Jd] at hp1;cases hp1
  refine ⟨(Jh ne).trans Jd,[],Jd,?_⟩;have s1:Same H (upd (upd (upd H p (HO.dT [])) p1 (HO.tup [])) p (HO.dT [([],V.bl true)])):=((Same.upd_new hp _).new hp1 _).set hp _;have g1:upd (upd (upd H p (HO.dT [])) p1 (HO.tup [])) p (HO.dT [([],V.bl true)]) p=some (HO.dT [([],V.bl true)]):=Jd;generalize upd (upd (upd H p (HO.dT [])) p1 (HO.tup [])) p (HO.dT [([],V.bl true)])=H1 at *;refine J06 ?_;walk_at "dl";refine ⟨⟨_,.of (s1 _ _ hlr)⟩,?_⟩;have hrl:=Paired.length hR;refine ForW.of JB (fun j σ H'=>(∃ v4 v5,σ=[some (V.ref l),some (V.ref ln),some (V.ref lr),some (V.ref p),v4,v5])/\Same H H'/\∃ kvs,H' p=some (.dT kvs)/\kvs.length<=1+4 * j/\∀ a∈kvs.map (·.1),TyL (is.map fun i=>kds.getD i JF) a) ⟨⟨none,none,rfl⟩,s1,_,g1,by simp,fun a ha=>by
   obtain rfl:a=[]:=by simpa using ha
   cases is<;>trivial⟩ (fun _ _ _ _ q=>q.2.1.seq (.of hlr)) ?_ ?_
  ·rintro j x σ H2 hx ⟨⟨v4,v5,rfl⟩,s2,kvs,g2,hkl,hty⟩
   obtain ⟨rs,hrs,q,rfl,hq,hok⟩:=Paired.ix hR hx;have hj:j<rss.length:=(zK.mp hrs).1;simp only [JL];refine J06 ?_;walk_at "dl";refine ⟨l,ln,q,xs,rs,ns,kds,is,rfl,s2 _ _ hl,hF.mono s2,s2 _ _ hn,hi,(by omega),s2 _ _ hq,hok,fun H3 pl ts _ s3 g3 hts=>?_⟩;have htl:=Paired.length hts;rw [zL,qe] at htl;refine ⟨pl,rfl,⟨_,.of g3⟩,ForW.of JB (fun i σ H'=>(∃ v5,σ=[some (V.ref l),some (V.ref ln),some (V.ref lr),some (V.ref p),some (V.ref q),v5])/\Same H H'/\H' pl=some (.lst ts)/\TupsV H' ts ((List.range (is.length+1)).map fun m=>(pj is rs).take m)/\∃ kvs,H' p=some (.dT kvs)/\kvs.length<=1+4 * j+i/\∀ a∈kvs.map (·.1),TyL (is.map fun i=>kds.getD i JF) a) ⟨⟨v5,rfl⟩,s2.trans s3,g3,hts,kvs,s3 _ _ g2,hkl,hty⟩ (fun _ _ _ _ q=>.of q.2.2.1) ?_ ?_⟩
   ·rintro i y σ H4 hy ⟨⟨v5,rfl⟩,s4,gp,tp,kvs',g4,hkl',hty'⟩
    obtain ⟨ks,hks,b,rfl,hb⟩:=Paired.ix tp hy;obtain ⟨hi2,rfl⟩:=Ja0 hks;walk_at "dl";have e1:=Ja1 kvs' ((pj is rs).take i) (V.bl true);refine ⟨_,DPut.t g4 hb (by rw [sizeLine_eq];omega),⟨_,rfl⟩,s4.set hp _,(Jh (J1w gp g4 (fun z=>nomatch z))).trans gp,TupsV.put tp g4 (fun _ z=>nomatch z),_,Jd,?_,?_⟩
    ·have e2:=congrArg List.length e1
     rw [zL] at e2;have:=Jcf (kvs'.map (·.1)) ((pj is rs).take i);rw [zL] at this;omega
    ·rw [e1]
     intro a ha;rcases Jce.mp ha with ha | rfl
     ·exact hty' a ha
     ·exact Jay hok hi i
   ·rintro σ H4 ⟨⟨v5,rfl⟩,s4,gp,tp,kvs',g4,hkl',hty'⟩
    exact ⟨⟨_,_,rfl⟩,s4,kvs',g4,by omega,hty'⟩
  ·rintro σ H2 ⟨⟨v4,v5,rfl⟩,s2,kvs,g2,hkl,hty⟩
   walk_at "dl";refine ⟨kvs,g2,by omega,Jcd hty,fun ks hks H3 b s3 hb=>⟨b,ks,rfl,hb,?_,fun H4 v s4 kv=>⟨s4,kv⟩⟩,fun Hn D ts kss sn hD tt=>?_⟩
   ·have:=(hty ks hks).len
    rw [zL] at this;omega
   ·exact k _ _ _ _ ((s2.trans sn).new hD _) Jd (tt.mono (Same.upd_new hD _))
def J8W:V->Bool
 | .non=>false
 | _=>true
def J0u (rs:List (List V))(j:Nat):List V:=(rs.map fun r=>r.getD j .non).filter J8W
theorem J5Y (rs:List (List V))(r:List V)(j:Nat):J0u (rs++[r]) j=if J8W (r.getD j .non)=true then J0u rs j++[r.getD j .non] else J0u rs j:=by
 unfold J0u;rw [zY,filter_append];by_cases c:J8W (r.getD j .non)=true
 ·rw [zu c,zV,map_nil,filter_cons,zu c]
  rfl
 ·rw [zt c,zV,map_nil,filter_cons,zt c]
  simp
theorem J5o (rs:List (List V))(i j:Nat):(J0u (rs.take i) j).length<=i:=by
 unfold J0u;refine zG (length_filter_le _ _) ?_;rw [zL,zR];omega
def RowsI (H:Hp)(kds:List Str)(xs:List V)(rs:List (List V)):Prop:=xs.length=rs.length/\∀ (i:Nat) x r,xs[i]?=some x->rs[i]?=some r->∃ p,x=.ref p/\H p=some (.tup r)/\RowOk kds r
theorem RowsI.mono {rs:List (List V)}(s:Same H H')(h:RowsI H kds xs rs):RowsI H' kds xs rs:=⟨h.1,fun i x r a b=>by
 obtain ⟨p,e,g,k⟩:=h.2 i x r a b;exact ⟨p,e,s _ _ g,k⟩⟩
theorem RowsI.at {rs:List (List V)}(h:RowsI H kds xs rs)(hx:xs[i]?=some x):∃ p r,x=.ref p/\rs[i]?=some r/\H p=some (.tup r)/\RowOk kds r:=by
 have hi:i<rs.length:=by rw [<- h.1];exact (zK.mp hx).1
 obtain ⟨p,e,g,k⟩:=h.2 i x _ hx (zJ hi);exact ⟨p,_,e,zJ hi,g,k⟩
theorem RowsI.ok {rs:List (List V)}(h:RowsI H kds xs rs):∀ r∈rs,RowOk kds r:=fun r hr=>by
 obtain ⟨i,hi⟩:=qa.mp hr;have hx:i<xs.length:=by rw [h.1];exact (zK.mp hi).1
 obtain ⟨p,_,_,k⟩:=h.2 i _ r (zJ hx) hi;exact k
theorem RowOk.at {r:List V}(h:RowOk kds r)(hk:kds[j]?=some kd):r[j]?=some (r.getD j .non)/\(r.getD j .non=.non\/J0v kd (r.getD j .non)):=by
 have hj:j<r.length:=by rw [h.1];exact (zK.mp hk).1
 have e:r[j]?=some (r.getD j .non):=by rw [zO,zJ hj];rfl
 exact ⟨e,h.2 j _ kd e hk⟩
theorem J7a {rs:List (List V)}(h:∀ r∈rs,RowOk kds r)(hk:kds[j]?=some kd):∀ v∈J0u rs j,J0v kd v:=fun v hv=>by
 unfold J0u at hv;obtain ⟨h1,h2⟩:=mem_filter.mp hv;obtain ⟨r,hr,rfl⟩:=qb.mp h1;rcases ((h r hr).at hk).2 with e | e
 ·rw [e] at h2
  cases h2
 ·exact e
theorem J74:∀ {vs:List V},(∀ v∈vs,J0v numS v)->∃ zs:List Int,vs=zs.map V.int
 | [],_=>⟨[],rfl⟩
 | v::vs,h=>by
   obtain ⟨zs,e⟩:=J74 fun u hu=>h u (zS _ hu);rcases h v zT with ⟨z,_⟩ | ⟨_,i,rfl⟩
   ·exact absurd z (by decide)
   ·exact ⟨i::zs,by rw [e];rfl⟩
theorem strs_of:∀ {vs:List V},(∀ v∈vs,J0v JF v)->∃ zs:List Str,vs=zs.map V.str
 | [],_=>⟨[],rfl⟩
 | v::vs,h=>by
   obtain ⟨zs,e⟩:=strs_of fun u hu=>h u (zS _ hu);rcases h v zT with ⟨_,z,rfl,_⟩ | ⟨z,_⟩
   ·exact ⟨z::zs,by rw [e];rfl⟩
   ·exact absurd z (by decide)
def dd (vs:List V):List V:=vs.foldl (fun acc x=>if x∈acc then acc else acc++[x]) []
theorem J4F (vs:List V)(x:V):dd (vs++[x])=if x∈dd vs then dd vs else dd vs++[x]:=by
 unfold dd;rw [foldl_append];rfl
theorem J9q {P:List V->Prop}(h0:P [])(h1:∀ vs x,P vs->P (vs++[x]))(l:List V):P l:=by
 rw [<- reverse_reverse l]
 induction l.reverse with
 | nil=>exact h0
 | cons x vs ih =>
   rw [reverse_cons];exact h1 _ _ ih
theorem J3k (x:V)(vs:List V):x∈dd vs↔x∈vs:=by
 refine J9q (P:=fun vs=>x∈dd vs↔x∈vs) Iff.rfl (fun vs y ih=>?_) vs;rw [J4F];by_cases c:y∈dd vs
 ·rw [zu c,ih,zZ,zM]
  constructor
  ·exact .inl
  ·rintro (h | rfl)
   ·exact h
   ·exact ih.mp c
 ·rw [zt c,zZ,zZ,ih]
def Jdm (hd:Str)(vs:List V)(v:V):Prop :=
 (hd="sum"/\∃ zs:List Int,vs=zs.map V.int/\v=.int (zs.foldl (·+·) 0))\/(hd="greatest"/\((vs=[]/\v=.non)\/(v∈vs/\∀ u∈vs,gtV u v=false)))\/(hd="least"/\((vs=[]/\v=.non)\/(v∈vs/\∀ u∈vs,ltV u v=false)))\/(hd="unlike"/\v=.int ((dd vs).length:Int))
def HdOk (hd kd:Str):Prop:=(hd="sum"/\kd=numS)\/hd="greatest"\/hd="least"\/hd="unlike"
def Jch (H:Hp)(fv:V)(ns kds:List Str)(rs:List (List V))(Res:V->Prop):Prop:=∃ q,fv=.ref q/\((H q=some (.tup [.str "count"])/\Res=fun v=>v=.int (rs.length:Int)) \/
 ∃ (hd n:Str) (j:Nat) (kd:Str),H q=some (.tup [.str hd,.str n])/\ns[j]?=some n/\kds[j]?=some kd/\HdOk hd kd/\Res=Jdm hd (J0u rs j))
theorem unl_dd {α:Type}[DecidableEq α][BEq α][LawfulBEq α](f:α->V)(inj:∀ a b,f a=f b->a=b)(zs:List α)(d:α):∀ k,k<=zs.length->unl (fun i=>zs.getD i d) k=(dd ((zs.take k).map f)).length
 | 0,_=>rfl
 | k + 1,h=>by
   have hk:k<zs.length:=h;have ih:=unl_dd f inj zs d k (by omega);have e:(List.range k).map (fun i=>zs.getD i d)=zs.take k:=by
    clear ih h
    induction k with
    | zero=>rfl
    | succ k ih2 =>
      have hk':k<zs.length:=by omega
      rw [range_succ,zY,ih2 hk',take_add_one,zJ hk'];simp [zO,zJ hk']
   rw [take_add_one,zJ hk,zY];show _=(dd (_++[f zs[k]])).length;rw [J4F];unfold unl;rw [e,J2R (zJ hk)];by_cases c:zs[k]∈zs.take k
   ·rw [zu (by rw [any_eq_true];exact ⟨_,c,by simp⟩),zu ((J3k _ _).mpr (qb.mpr ⟨_,c,rfl⟩)),ih]
   ·rw [zt (by rw [any_eq_true];rintro ⟨x,hx,z⟩;exact c (by rw [<- eq_of_beq z];exact hx)),zt (fun z=>?_),ih,zQ]
    ·rfl
    ·obtain ⟨a,ha,ea⟩:=qb.mp ((J3k _ _).mp z)
     exact c (by rw [<- inj _ _ ea];exact ha)
def J6o (K:PySem.W.Frag):Sp:=fun vs H Q _=>∃ (l lr:Addr) (fv:V) (xs xr:List V) (ns kds:List Str) (rs:List (List V)) (Res:V->Prop),vs=[.ref l,fv,.ref lr]/\H l=some (.lst xs)/\FldsK H xs ns kds/\(∀ kd∈kds,kd=JF\/kd=numS)/\H lr=some (.lst xr)/\RowsI H kds xr rs/\rs.length<=800/\Jch H fv ns kds rs Res /\
 ∀ H' v,Same H H'->Res v->Q v H'
theorem ok_figure_of (T:Txt K mg f fd):FnOk P w K mg base CX0 2 (f 33) (fd 33) ["fields","figure","rows"] (J6o K):=by
 walk_at "ok yg J27"
 ·obtain ⟨l,lr,fv,xs,xr,ns,kds,rs,Res,rfl,_⟩:=h
  rfl
 ·obtain ⟨l,lr,fv,xs,xr,ns,kds,rs,Res,rfl,hl,hF,hkk,hlr,hR,h100,⟨q,rfl,hA⟩,k⟩:=h
  refine ⟨_,(J9 (Jt (Jk JA (Jj (Jo rfl) (pvl 1) Ja (fun _ _=>rfl)) Jp (Jm _))
   (Jc (Ji (Js (JZ rfl) T.wa Jv rfl (by decide) (by decide) rfl (pal rfl (pvl 2) J1))))
   Jl)
   (J9 (psc 3 J27.nd (Jg T.wj (ok_field_at T) (hr.mono (by decide)) rfl (by decide) rfl (pal rfl (pvl 0) (pal rfl (Jj (Jo rfl) (pvl 1) Ja (fun _ _=>rfl)) J1))))
   (J9 (J1D ["row"] ["fields","figure","rows","place","values"] rfl (show CompSc _ (Je J1C) ["fields","figure","rows","place","values"] ["fields","figure","rows","place","values"] from Ju (by decide +kernel)) J27.nd (i:=4) rfl rfl (J0Q rfl (pvl 2)) (fun _ _ _ _ _=>(pgl 0 (show (["row","fields","figure","rows","place","values"]:List Str).Nodup by decide +kernel))) (fun _ _ _ _ _=>(J9w (Jk J6K (Jj (Jo rfl) (pvl 0) (pvc 4) (fun _ _=>rfl)) J0N (Jm _)))) (fun _ _ _ _ _=>(Jj (Jo rfl) (pvl 0) (pvc 4) (fun _ _=>rfl))))
   (J9 (Jt (Jk JA (Jj (Jo rfl) (pvl 1) Ja (fun _ _=>rfl)) Jp (Jm _))
   (Jc (Ji (Js (Jef rfl rfl) T.ze Jeu rfl (by decide) (by decide) rfl (pal rfl (pvl 4) J1))))
   Jl)
   (J9 (Jt (Jk JA (Jj (Jo rfl) (pvl 1) Ja (fun _ _=>rfl)) Jp (Jm _))
   (Jc (Ji (JcM rfl rfl rfl T.zc rfl (pal rfl (pvl 4) J1) J0N)))
   Jl)
   (J9 (Jt (Jk JA (Jj (Jo rfl) (pvl 1) Ja (fun _ _=>rfl)) Jp (Jm _))
   (Jc (Ji (JcL rfl rfl rfl T.zd rfl (pal rfl (pvl 4) J1) J0N)))
   Jl)
   (Jc (Ji (Js J4h T.wa Jv rfl (by decide) (by decide) rfl (pal rfl (J0t (Jeh rfl rfl) T.yR Jc6 rfl (by decide) (by decide) rfl (pal rfl (pvl 4) J1)) J1)))))))))),?_⟩
  walk_at "dc";have hxl:=hR.1;rcases hA with ⟨hq,rfl⟩ | ⟨hd,n,j,kd,hq,hn,hkd,hhd,rfl⟩
  ·refine ⟨q,_,_,_,rfl,rfl,.of hq,Jf (j:=0) rfl,rfl,?_⟩
   rw [zu (by decide)];exact ⟨_,.inl (.of hlr),k _ _ (Same.refl _) (by rw [hxl])⟩
  ·have ix0:∀ (G:Hp) (R:VK),Same H G->R (.str hd) G->J1K K (.ref q) (.int 0) G R:=fun G R s r=>⟨q,_,_,_,rfl,rfl,.of (s _ _ hq),Jf (j:=0) rfl,r⟩
   refine ix0 H _ (Same.refl _) ⟨rfl,?_⟩;have hc:hd≠"count":=by rcases hhd with ⟨rfl,_⟩ | rfl | rfl | rfl<;>decide
   rw [zt (by simpa using hc)];refine ⟨q,_,_,_,rfl,rfl,.of hq,Jf (j:=1) rfl,l,xs,ns,kds,n,j,rfl,hl,hF,hn,fun H1 s1=>⟨⟨_,.of (s1 _ _ hlr)⟩,?_⟩⟩;have hR1:=hR.mono s1;refine JV (JB (xs:=xr)) (Jb (by omega)) (fun i ys H'=>Same H1 H'/\ys=J0u (rs.take i) j) ⟨Same.refl _,rfl⟩ (fun _ _ H' _ q=>q.1.seq (.of (s1 _ _ hlr))) (fun i ys H' q=>by rw [q.2];exact J5o rs i j) (fun i x ys H2 hx q=>?_) (fun ys H2 q D hD=>?_)
   ·obtain ⟨t1,rfl⟩:=q
    obtain ⟨p,r,rfl,hr,hp,hok⟩:=hR1.at hx;obtain ⟨e1,e2⟩:=hok.at hkd;have hp2:=t1 _ _ hp;have es:J0u (rs.take (i+1)) j=if J8W (r.getD j .non)=true then J0u (rs.take i) j++[r.getD j .non] else J0u (rs.take i) j:=by rw [Jw hr,J5Y]
    generalize r.getD j .non=v at *;walk_at "dc";refine ⟨p,_,_,_,rfl,rfl,.of hp2,Jf e1,?_⟩;rcases e2 with rfl | e2
    ·rw [zt (by decide)]
     refine ⟨⟨_,rfl⟩,t1,?_⟩;rw [es,zt (by decide)]
    ·have hnv:J8W v=true/\v≠.non:=by
      rcases e2 with ⟨_,z,rfl,_⟩ | ⟨_,i,rfl⟩
      ·exact ⟨rfl,by simp⟩
      ·exact ⟨rfl,by simp⟩
     rw [zu (by simpa using hnv.2)];refine ⟨p,_,_,_,rfl,rfl,.of hp2,Jf e1,⟨_,rfl⟩,t1,?_⟩;rw [es,zu hnv.1]
   ·obtain ⟨t1,rfl⟩:=q
    rw [hxl,zX];have ck:=J7a hR.ok hkd;have u2:=(s1.trans t1).new hD (HO.lst (J0u rs j));have gD:upd H2 D (HO.lst (J0u rs j)) D=some (.lst (J0u rs j)):=Jd;generalize upd H2 D (HO.lst (J0u rs j))=H3 at *;have kinds:(∃ zs:List Int,J0u rs j=zs.map V.int)\/∃ zs:List Str,J0u rs j=zs.map V.str:=by
     rcases hkk kd (zP hkd) with rfl | rfl
     ·exact .inr (strs_of ck)
     ·exact .inl (J74 ck)
    have hcl:(J0u rs j).length<=800:=by
     have:=J5o rs rs.length j;rw [zX] at this;omega
    refine ix0 H3 _ u2 ⟨rfl,?_⟩;by_cases cs:hd="sum"
    ·rw [zu (by simpa using cs)]
     have hkn:kd=numS:=by rcases hhd with ⟨_,e⟩ | rfl | rfl | rfl;exact e;all_goals exact absurd cs (by decide)
     subst hkn;obtain ⟨zs,ez⟩:=J74 ck;exact ⟨D,zs,rfl,.of (by rw [gD,ez]),k _ _ u2 (.inl ⟨cs,zs,ez,rfl⟩)⟩
    rw [zt (by simpa using cs)];refine ix0 H3 _ u2 ⟨rfl,?_⟩;by_cases cg:hd="greatest"
    ·rw [zu (by simpa using cg)]
     exact ⟨D,_,rfl,.of gD,kinds,fun e=>k _ _ u2 (.inr (.inl ⟨cg,.inl ⟨e,rfl⟩⟩)),fun v hv hb=>k _ _ u2 (.inr (.inl ⟨cg,.inr ⟨hv,hb⟩⟩))⟩
    rw [zt (by simpa using cg)];refine ix0 H3 _ u2 ⟨rfl,?_⟩;by_cases ce:hd="least"
    ·rw [zu (by simpa using ce)]
     exact ⟨D,_,rfl,.of gD,kinds,fun e=>k _ _ u2 (.inr (.inr (.inl ⟨ce,.inl ⟨e,rfl⟩⟩))),fun v hv hb=>k _ _ u2 (.inr (.inr (.inl ⟨ce,.inr ⟨hv,hb⟩⟩)))⟩
    rw [zt (by simpa using ce)];have cu:hd="unlike":=by
     rcases hhd with ⟨e,_⟩ | e | e | e
     ·exact absurd e cs
     ·exact absurd e cg
     ·exact absurd e ce
     ·exact e
    rcases kinds with ⟨zs,ez⟩ | ⟨zs,ez⟩
    ·have hzl:zs.length<=800:=by rw [ez,zL] at hcl;exact hcl
     refine .inr ⟨D,zs,rfl,.inl (.of (by rw [gD,ez])),by omega,fun pd hpd=>⟨pd,_,rfl,Jd,?_,?_⟩⟩
     ·exact zG (J4H _ _) (by omega)
     ·refine k _ _ (u2.new hpd _) (.inr (.inr (.inr ⟨cu,?_⟩)))
      rw [unl_dd V.int (fun a b e=>by injection e) zs 0 zs.length (zv _),zX,ez]
    ·have hzl:zs.length<=800:=by rw [ez,zL] at hcl;exact hcl
     refine .inl ⟨D,zs,rfl,.inl (.of (by rw [gD,ez])),by omega,fun pd hpd=>⟨pd,_,rfl,Jd,?_,?_⟩⟩
     ·exact zG (J4H _ _) (by omega)
     ·refine k _ _ (u2.new hpd _) (.inr (.inr (.inr ⟨cu,?_⟩)))
      rw [unl_dd V.str (fun a b e=>by injection e) zs Str.empty zs.length (zv _),zX,ez]
def Fl (v:V):Prop:=v=.non\/(∃ i,v=.int i)\/∃ z,v=.str z/\Jdl 12 z
theorem Fl.pl {K:PySem.W.Frag}(h:Fl v):∃ T,Pl K H v T:=by
 rcases h with rfl | ⟨i,rfl⟩ | ⟨z,rfl,hz⟩
 ·exact ⟨_,.of_non⟩
 ·exact ⟨_,.of_int⟩
 ·exact ⟨_,.of_str (Jb (by have:=hz.1;omega))⟩
theorem Fl.nk (h:Fl v):nV (toN v)=v/\okN (toN v):=by
 rcases h with rfl | ⟨i,rfl⟩ | ⟨z,rfl,hz⟩
 ·exact ⟨rfl,trivial⟩
 ·exact ⟨rfl,trivial⟩
 ·exact ⟨rfl,J2p hz.2⟩
def nmT (ns:List Str)(is:List Nat):HO:=.tup (is.map fun i=>V.str (ns.getD i JF))
def okP (kds:List Str)(is:List Nat)(ps:List V):Bool:=decide (ps.length<=is.length)&&(List.range ps.length).all fun j=>J6a (kds.getD (is.getD j 0) JF) (ps.getD j .non)
structure Side (H:Hp)(l ln:Addr)(xs:List V)(ns kds:List Str)(is:List Nat):Prop where
 l:H l=some (.lst xs)
 F:FldsK H xs ns kds
 n:H ln=some (nmT ns is)
 i:∀ i∈is,i<kds.length
 few:is.length<=8
theorem Side.mono {is:List Nat}(s:Same H H')(h:Side H l ln xs ns kds is):Side H' l ln xs ns kds is:=⟨s _ _ h.l,h.F.mono s,s _ _ h.n,h.i,h.few⟩
theorem Side.at {is:List Nat}(h:Side H l ln xs ns kds is)(hj:j<is.length):∃ i n kd p,is[j]?=some i/\is.getD j 0=i/\ns[i]?=some n/\ns.getD i JF=n/\kds[i]?=some kd/\kds.getD i JF=kd/\xs[i]?=some (.ref p)/\H p=some (.tup [.str n,.str kd]):=by
 have e:=zJ hj;have hi:=h.i _ (getElem_mem hj);obtain ⟨p,n,kd,e1,e2,e3,e4⟩:=h.F.at (i:=is[j]) (by rw [<- h.F.2.1];exact hi);exact ⟨is[j],n,kd,p,e,by rw [zO,e];rfl,e2,by rw [zO,e2];rfl,e3,by rw [zO,e3];rfl,e1,e4⟩
inductive Q_asked_path (K:PySem.W.Frag)(vs:List V)(H:Hp)(Q:VK):Prop
 | mk (l ln lp:Addr) (xs ps:List V) (ns kds:List Str) (is:List Nat) (u0_:vs=[.ref l,.ref ln,.ref lp]) (u1_:Side H l ln xs ns kds is) (u2_:H lp=some (.tup ps)) (u3_:(∀ v∈ps,Fl v)) (u4_:okP kds is ps=true) (u5_:∀ H',Same H H'->Q (.bl true) H'):Q_asked_path K vs H Q
def J5x (K:PySem.W.Frag):Sp:=fun vs H Q _=>Q_asked_path K vs H Q
theorem J33 (T:Txt K mg f fd):FnOk P w K mg base CX0 5 (f 41) (fd 41) ["fields","names","path"] (J5x K):=by
 walk_at "ok wL J1G"
 ·obtain ⟨l,ln,lp,xs,ps,ns,kds,is,rfl,_⟩:=h
  rfl
 ·obtain ⟨l,ln,lp,xs,ps,ns,kds,is,rfl,hs,hp,hfl,hok,k⟩:=h
  have hn:=hs.n;unfold nmT at hn;have few:=hs.few;unfold okP at hok;rw [Bool.and_eq_true] at hok;have hl:=of_decide_eq_true hok.1;have hall:=all_eq_true.mp hok.2;refine ⟨_,(J9 (Jt (Jk J5Q (Js (JZ rfl) T.wa Jv rfl (by decide) (by decide) rfl (pal rfl (pvl 2) J1)) (Js (JZ rfl) T.wa Jv rfl (by decide) (by decide) rfl (pal rfl (pvl 1) J1)) (Jm _))
   (Jc JY)
   Jl)
   (J9 (J09 PassesOwn.never rfl (Jee rfl rfl T.zf (pal rfl (pvl 1) (pal rfl (pvl 2) J1)) rfl rfl) (J4d rfl rfl (J02 (pgl 3 J1G.nd) (J02 (pgl 4 J1G.nd) J1E)))
   (Jc (Jt (J0i (J04 (Jg T.wI (ok_is_value T) (hr.mono (by decide)) rfl (by decide) rfl (pal rfl (Jj (Jo rfl) (Jj (J0I rfl) (pvl 0) (Jg T.wj (ok_field_at T) (hr.mono (by decide)) rfl (by decide) rfl (pal rfl (pvl 0) (pal rfl (pvl 3) J1))) (fun _ _=>rfl)) Ja (fun _ _=>rfl)) (pal rfl (pvl 4) J1)))))
   (Jc JY)
   Jl)))
   (Jc (Ji J0q)))),?_⟩
  walk_at "dc";refine ⟨_,.inr (.of hp),_,.inr (.of hn),?_⟩;rw [zL,zt (by simp;omega)];refine J06 ?_;walk_at "dc";refine ⟨⟨_,.of hn⟩,⟨_,.of hp⟩,ForW.zipU (xs:=is.map fun i=>V.str (ns.getD i JF)) (ys:=ps) (fun j σ H'=>(∃ v3 v4,σ=[some (V.ref l),some (V.ref ln),some (V.ref lp),v3,v4])/\Same H H') ⟨⟨none,none,rfl⟩,Same.refl _⟩ (fun _ _ _ q=>⟨q.2.seqT (.of hn),q.2.seqT (.of hp)⟩) ?_ ?_⟩
  ·rintro j x y σ H1 p hx hy ⟨⟨v3,v4,rfl⟩,s1⟩ hp0
   have hjp:=(zK.mp hy).1;obtain ⟨i,n,kd,pf,a1,a2,a3,a4,a5,a6,a7,a8⟩:=hs.at (show j<is.length by omega);rw [zW,a1] at hx;obtain rfl:V.str n=x:=by rw [<- a4];exact zA hx
   have ey:ps.getD j .non=y:=by rw [zO,hy];rfl
   have s2:=s1.new hp0 (HO.tup [V.str n,y]);refine ⟨p,_,rfl,.of Jd,rfl,?_⟩;generalize upd H1 p (HO.tup [V.str n,y])=H2 at *;simp only [J21,J4s,JL];walk_at "dc";have hs2:=hs.mono s2;refine ⟨l,xs,ns,kds,n,i,rfl,hs2.l,hs2.F,a3,fun H3 s3=>?_⟩;have S3:=s2.trans s3;have hs3:=hs.mono S3;obtain ⟨T,hT⟩:=(hfl y (zP hy)).pl (K:=K) (H:=H3);refine ⟨l,xs,_,_,rfl,rfl,.of hs3.l,Jf a7,pf,_,_,_,rfl,rfl,.of (S3 _ _ a8),Jf (j:=1) rfl,kd,y,T,rfl,hT,fun H4 s4=>⟨_,rfl,?_⟩⟩;have hv:=hall j (mem_range.mpr hjp);rw [a2,a6,ey] at hv;rw [hv,zt (by decide)];exact ⟨⟨_,rfl⟩,S3.trans s4⟩
  ·rintro σ H1 ⟨⟨v3,v4,rfl⟩,s1⟩
   walk_at "dc";exact k H1 s1
def nkD:Jq->PyData
 | none=>.none
 | some (.inl i)=>.int i
 | some (.inr z)=>.str z
theorem J6U {K:PySem.W.Frag}:∀ k:Jq,Rep K H (nkD k) (nV k)
 | none=>by simp [Rep,nkD,nV]
 | some (.inl i)=>by simp [Rep,nkD,nV,kV]
 | some (.inr z)=>by simp [Rep,nkD,nV,kV]
theorem J2H:∀ {k:Jq},okN k->PyData.canLay0 (nkD k)=true/\PyData.depth (nkD k)=0
 | none,_=>by simp [nkD,PyData.canLay0,PyData.depth]
 | some (.inl i),_=>by simp [nkD,PyData.canLay0,PyData.depth]
 | some (.inr z),h=>by
   have h:PyData.strOk z=true:=h;simp [nkD,PyData.canLay0,PyData.depth,h]
theorem Jbn:∀ a b:Jq,PyData.eqv (nkD a) (nkD b)=decide (a=b)
 | none,none=>by simp [nkD,PyData.eqv]
 | none,some (.inl _)=>by simp [nkD,PyData.eqv]
 | none,some (.inr _)=>by simp [nkD,PyData.eqv]
 | some (.inl _),none=>by simp [nkD,PyData.eqv]
 | some (.inr _),none=>by simp [nkD,PyData.eqv]
 | some (.inl i),some (.inl j)=>by simp [nkD,PyData.eqv];rfl
 | some (.inl i),some (.inr j)=>by simp [nkD,PyData.eqv]
 | some (.inr i),some (.inl j)=>by simp [nkD,PyData.eqv]
 | some (.inr i),some (.inr j)=>by simp [nkD,PyData.eqv];rfl
theorem J4C {K:PySem.W.Frag}{H:Hp}:∀ ks:List Jq,(∀ k∈ks,okN k)->Reps K H (ks.map nkD) (ks.map nV)/\PyData.canLayAll0 (ks.map nkD)=true/\PyData.depthAll (ks.map nkD)=0
 | [],_=>by simp [Reps,PyData.canLayAll0,PyData.depthAll]
 | k :: ks,h=>by
   obtain ⟨r1,r2,r3⟩:=J4C (K:=K) (H:=H) ks fun x hx=>h x (zS _ hx);obtain ⟨q1,q2⟩:=J2H (h k zT);refine ⟨?_,?_,?_⟩
   ·simp only [zV,Reps]
    exact ⟨_,_,rfl,J6U k,r1⟩
   ·simp [PyData.canLayAll0,q1,r2]
   ·simp [PyData.depthAll,q2,r3]
theorem J8X:∀ as bs:List Jq,PyData.eqvAll (as.map nkD) (bs.map nkD)=decide (as=bs)
 | [],[]=>by simp [PyData.eqvAll]
 | [],_::_=>by simp [PyData.eqvAll]
 | _::_,[]=>by simp [PyData.eqvAll]
 | a::as,b::bs=>by
   simp only [zV,PyData.eqvAll,Jbn,J8X as bs];by_cases h:a=b<;>simp [h]
def ksD (ks:List Jq):PyData:=.tuple (ks.map nkD)
theorem J70 {K:PySem.W.Frag}{ks:List Jq}(hb:H b=some (.tup (ks.map nV)))(h:∀ k∈ks,okN k):Rep K H (ksD ks) (.ref b):=by
 simp only [ksD,Rep];exact ⟨b,_,rfl,.of hb,(J4C ks h).1⟩
theorem J44 {ks:List Jq}(h:∀ k∈ks,okN k):PyData.canLay0 (ksD ks)=true/\PyData.depth (ksD ks)=1:=by
 obtain ⟨_,q2,q3⟩:=J4C (K:=[]) (H:=fun _=>none) ks h;exact ⟨by simp [ksD,PyData.canLay0,q2],by simp [ksD,PyData.depth,q3]⟩
theorem Jbu {K:PySem.W.Frag}{H:Hp}:∀ {xs:List V} {kss:List (List Jq)},TupsV H xs kss->(∀ a∈kss,∀ k∈a,okN k)->Reps K H (kss.map ksD) xs/\PyData.canLayAll0 (kss.map ksD)=true/\PyData.depthAll (kss.map ksD)<=1
 | _,_,.nil,_=>by simp [Reps,PyData.canLayAll0,PyData.depthAll]
 | _,_,.cons (a:=x) (b:=ks) ⟨b,e,hb⟩ t,h=>by
   obtain ⟨r1,r2,r3⟩:=Jbu (K:=K) t fun a ha=>h a (zS _ ha);obtain ⟨q1,q2⟩:=J44 (h _ zT);refine ⟨?_,?_,?_⟩
   ·simp only [zV,Reps]
    exact ⟨_,_,rfl,e ▸ J70 hb (h _ zT),r1⟩
   ·simp [PyData.canLayAll0,q1,r2]
   ·simp only [zV,PyData.depthAll,q2]
    omega
theorem RowS.fl (h:RowS kds rs)(hi:i<kds.length):rs[i]?=some (rs.getD i .non)/\Fl (rs.getD i .non):=by
 have hl:i<rs.length:=by rw [h.1];exact hi
 have e:=zJ hl;have e2:rs.getD i .non=rs[i]:=by rw [zO,e];rfl
 rw [e2];refine ⟨e,?_⟩;rcases h.2 i _ _ e (zJ hi) with h | h
 ·exact .inl h
 ·rcases h with ⟨_,z,e,hz⟩ | ⟨_,j,e,_⟩
  ·exact .inr (.inr ⟨z,e,hz.2.1,fun c hc=>Jdn c (hz.2.2 c hc)⟩)
  ·exact .inr (.inl ⟨j,e⟩)
theorem J0Y {α:Type}{l:List α}{x d:α}(h:l[m]?=some x):l.getD m d=x:=by rw [zO,h];rfl
theorem ND.same {P:Program}{w:World}{kvs:List (NPK×V)}(s:Same H H')(h:ND P w H a kvs):ND P w H' a kvs:=by
 obtain ⟨h1,xs,h2,h3⟩:=h;exact ⟨h1,xs,s _ _ h2,h3.mono fun c ys z=>s _ _ z⟩
theorem JbT {P:Program}{w:World}{c:Addr}{kvs:List (NPK×V)}(g:ND P w H a kvs)(h:H c=some o)(ho:∀ φ,o≠.ext φ):c≠a:=fun z=>by
 obtain ⟨_,xs,e,_⟩:=g;rw [z,e] at h;exact ho _ (zA h).symm
theorem putK_new {κ:Type}[DecidableEq κ]{kvs:List (κ×V)}{k:κ}(h:JG kvs k=none):J0k kvs k v=kvs++[(k,v)]:=by
 unfold J0k;rw [zt];intro z;rw [any_eq_true] at z;obtain ⟨x,hx,hd⟩:=z;unfold JG at h;rw [Option.map_eq_none_iff,List.find?_eq_none] at h;exact h x hx hd
structure View (H:Hp)(v n0 n1 fg:Addr)(ns kds:List Str)(is0 is1:List Nat):Prop where
 v:H v=some (.tup [.ref n0,.ref n1,.ref fg])
 n0:H n0=some (nmT ns is0)
 n1:H n1=some (nmT ns is1)
 i0:∀ i∈is0,i<kds.length
 i1:∀ i∈is1,i<kds.length
 few0:is0.length<=3
 few1:is1.length<=3
theorem View.mono {v:Addr}(s:Same H H')(h:View H v n0 n1 fg ns kds is0 is1):View H' v n0 n1 fg ns kds is0 is1:=⟨s _ _ h.v,s _ _ h.n0,s _ _ h.n1,h.i0,h.i1,h.few0,h.few1⟩
abbrev NR:Type:=Int×List V
def PrsR (H:Hp)(kds:List Str)(xp:List V)(nrs:List NR):Prop:=Paired (fun (x:V) (nr:NR)=>∃ (p r:Addr),x=.ref p/\H p=some (.tup [.int nr.1,.ref r])/\H r=some (.tup nr.2)/\RowS kds nr.2) xp nrs
theorem PrsR.tup {H H':Hp}{kds:List Str}{xp:List V}{nrs:List NR}(t:∀ c ys,H c=some (.tup ys)->H' c=some (.tup ys))(h:PrsR H kds xp nrs):PrsR H' kds xp nrs:=Paired.mapP h fun _ _ ⟨p,r,e,a,b,c⟩=>⟨p,r,e,t _ _ a,t _ _ b,c⟩
theorem PrsR.mono {xp:List V}(s:Same H H')(h:PrsR H kds xp nrs):PrsR H' kds xp nrs:=h.tup fun _ _ z=>s _ _ z
def J8e (B:NPK->List NR)(k:NPK)(rs:NR):NPK->List NR:=fun k'=>if k'=k then B k'++[rs] else B k'
def J1R (B:NPK->List NR)(ks:List NPK)(rs:NR):NPK->List NR:=ks.foldl (fun B k=>J8e B k rs) B
structure BoxC (H:Hp)(kds:List Str)(av:Addr->Prop)(m:Nat)(kvs:List (NPK×V))(B:NPK->List NR):Prop where
 get:∀ k v,JG kvs k=some v->∃ l xp,v=.ref l/\H l=some (.lst xp)/\¬ av l/\PrsR H kds xp (B k)
 no:∀ k,JG kvs k=none->B k=[]
 inj:∀ k k' v,JG kvs k=some v->JG kvs k'=some v->k=k'
 few:∀ k,(B k).length<=m
theorem BoxC.go {kvs:List (NPK×V)}(t:∀ c ys,H c=some (.tup ys)->H' c=some (.tup ys))(g:∀ c ys,H c=some (.lst ys)->H' c=some (.lst ys))(h:BoxC H kds av m kvs B):BoxC H' kds av m kvs B:=⟨fun k v e=>by
 obtain ⟨l,xp,e,h1,h2,h3⟩:=h.get k v e;exact ⟨l,xp,e,g _ _ h1,h2,h3.tup t⟩,h.no,h.inj,h.few⟩
theorem BoxC.mono {kvs:List (NPK×V)}(s:Same H H')(h:BoxC H kds av m kvs B):BoxC H' kds av m kvs B:=h.go (fun _ _ z=>s _ _ z) fun _ _ z=>s _ _ z
theorem BoxC.off {kvs:List (NPK×V)}(hp:H p=none)(h:BoxC H kds av m kvs B):BoxC H kds (fun c=>av c\/c=p) m kvs B:=by
 refine ⟨fun k v e=>?_,h.no,h.inj,h.few⟩;obtain ⟨l,xp,e,h1,h2,h3⟩:=h.get k v e;refine ⟨l,xp,e,h1,fun z=>?_,h3⟩;rcases z with z | rfl
 ·exact h2 z
 ·rw [hp] at h1;cases h1
theorem BoxC.less {av':Addr->Prop}{m':Nat}{kvs:List (NPK×V)}(hm:m<=m')(ha:∀ x,av' x->av x)(h:BoxC H kds av m kvs B):BoxC H kds av' m' kvs B:=⟨fun k v e=>by
 obtain ⟨l,xp,e,h1,h2,h3⟩:=h.get k v e;exact ⟨l,xp,e,h1,fun z=>h2 (ha l z),h3⟩,h.no,h.inj,fun k=>zG (h.few k) hm⟩
theorem valV_snoc {κ:Type}[DecidableEq κ]{kvs:List (κ×V)}{k k':κ}(h:JG kvs k=none):JG (kvs++[(k,v)]) k'=if k'=k then some v else JG kvs k':=by
 have e:=J7k kvs k k' v;rw [putK_new h] at e;exact e
theorem BoxC.new {kvs:List (NPK×V)}{k:NPK}(h:BoxC H kds av m kvs B)(hk:JG kvs k=none)(hl:H l=some (.lst []))(ha:¬ av l)(hn:∀ k' v,JG kvs k'=some v->v≠.ref l):BoxC H kds av m (kvs++[(k,.ref l)]) B:=⟨fun k' v e=>by
 rw [valV_snoc hk] at e;by_cases c:k'=k
 ·rw [zu c] at e
  rw [c,h.no k hk];exact ⟨l,[],(zA e).symm,hl,ha,.nil⟩
 ·rw [zt c] at e
  exact h.get k' v e,fun k' e=>by
 rw [valV_snoc hk] at e;by_cases c:k'=k
 ·rw [c];exact h.no k hk
 ·rw [zt c] at e
  exact h.no k' e,fun k1 k2 v e1 e2=>by
 rw [valV_snoc hk] at e1 e2;by_cases c1:k1=k
 ·by_cases c2:k2=k
  ·rw [c1,c2]
  ·rw [zu c1] at e1
   rw [zt c2] at e2;exact absurd (zA e1).symm (hn k2 v e2)
 ·by_cases c2:k2=k
  ·rw [zt c1] at e1
   rw [zu c2] at e2;exact absurd (zA e2).symm (hn k1 v e1)
  ·rw [zt c1] at e1
   rw [zt c2] at e2;exact h.inj k1 k2 v e1 e2,h.few⟩
theorem J9P {P:Program}{w:World}{H0:Hp}{kvs:List (NPK×V)}{k:NPK}{xp:List V}{n:Int}(s:Same H0 H)(hav:∀ c,H0 c≠none->av c)(g:ND P w H b kvs)(h:BoxC H kds av m kvs B)(hk:JG kvs k=some (.ref l))(hl:H l=some (.lst xp))(hp:H p=some (.tup [.int n,.ref r]))(hr:H r=some (.tup rs))(hR:RowS kds rs) :
 ¬ av l/\xp.length<=m/\Same H0 (upd H l (.lst (xp++[.ref p])))/\(∀ c ys,H c=some (.tup ys)->upd H l (.lst (xp++[.ref p])) c=some (.tup ys))/\ND P w (upd H l (.lst (xp++[.ref p]))) b kvs/\BoxC (upd H l (.lst (xp++[.ref p]))) kds av (m+1) kvs (J8e B k (n,rs)):=by
 obtain ⟨l',xp',e',h1,hla,h3⟩:=h.get k _ hk;injection e' with e'
 subst e';obtain rfl:xp'=xp:=by rw [hl] at h1;injection h1 with h1;injection h1 with h1;exact h1.symm
 have hl0:H0 l=none:=by
  cases q:H0 l with
  | none=>rfl
  | some u=>exact absurd (hav l (by rw [q];simp)) hla
 have t:∀ c ys,H c=some (.tup ys)->upd H l (.lst (xp'++[.ref p])) c=some (.tup ys):=fun c ys z=>by
  rw [Jh (J1w z hl (fun q=>nomatch q))];exact z
 refine ⟨hla,by rw [Paired.length h3];exact h.few k,s.set hl0 _,t,ND.mono t (Jh (Ne.symm (JbT g hl fun φ z=>nomatch z))) g,⟨fun k' v e=>?_,fun k' e=>?_,h.inj,fun k'=>?_⟩⟩
 ·obtain ⟨l2,xp2,e2,q1,q2,q3⟩:=h.get k' v e
  unfold J8e;by_cases c:k'=k
  ·subst c
   rw [zu rfl];obtain rfl:l2=l:=by rw [e2,hk] at e;injection e with e;injection e with e;exact e.symm
   obtain rfl:xp2=xp':=by rw [hl] at q1;injection q1 with q1;injection q1 with q1;exact q1.symm
   exact ⟨l2,_,e2,Jd,q2,Paired.snoc (q3.tup t) ⟨p,r,rfl,t _ _ hp,t _ _ hr,hR⟩⟩
  ·rw [zt c]
   refine ⟨l2,xp2,e2,?_,q2,q3.tup t⟩;rw [Jh (fun z=>c (h.inj k' k _ e (by rw [e2,z];exact hk)))];exact q1
 ·unfold J8e
  rw [zt (fun z=>by rw [z,hk] at e;cases e)];exact h.no k' e
 ·unfold J8e
  have:=h.few k'
  split
  ·rw [zQ,length_singleton];omega
  ·omega
def J1Q (as bs:List (List Jq)):List NPK:=as.flatMap fun a=>bs.map fun b=>[a,b]
def beg (is:List Nat)(rs:List V):List (List Jq):=(List.range (is.length+1)).map fun m=>(pj is rs).take m
def JaV (is0 is1:List Nat)(B:NPK->List NR)(nr:NR):NPK->List NR:=J1R B (J1Q (beg is0 nr.2) (beg is1 nr.2)) nr
def J3o (is0 is1:List Nat)(rss:List NR):NPK->List NR:=rss.foldl (JaV is0 is1) fun _=>[]
theorem J8f (B:NPK->List NR)(ks:List NPK)(k:NPK)(rs:NR):J1R B (ks++[k]) rs=J8e (J1R B ks rs) k rs:=by
 unfold J1R;rw [foldl_append];rfl
theorem Jbw {as bs:List (List Jq)}{a:List Jq}(h:as[i]?=some a):J1Q (as.take (i+1)) bs=J1Q (as.take i) bs++bs.map fun b=>[a,b]:=by
 unfold J1Q;rw [Jw h,flatMap_append];simp
inductive Q_laid_in_boxes (P:Program)(w:World)(K:PySem.W.Frag)(vs:List V)(H:Hp)(Q:VK):Prop
 | mk (l v lp n0 n1 fg:Addr) (xs xp:List V) (ns kds:List Str) (is0 is1:List Nat) (rss:List NR) (u0_:vs=[.ref l,.ref v,.ref lp]) (u1_:H l=some (.lst xs)) (u2_:FldsK H xs ns kds) (u3_:View H v n0 n1 fg ns kds is0 is1) (u4_:H lp=some (.lst xp)) (u5_:xp.length<=40) (u6_:PrsR H kds xp rss) (u7_:∀ H' b kvs,Same H H'->ND P w H' b kvs->BoxC H' kds (fun c=>H c≠none) 700 kvs (J3o is0 is1 rss)->Q (.ref b) H'):Q_laid_in_boxes P w K vs H Q
def J3O (P:Program)(w:World)(K:PySem.W.Frag):Sp:=fun vs H Q _=>Q_laid_in_boxes P w K vs H Q
theorem ok_laid_in_boxes (T:Txt K mg f fd):FnOk P w K mg base CX0 3 (f 54) (fd 54) ["fields","view","pairs"] (J3O P w K):=by
 walk_at "ok yr JT"
 ·obtain ⟨l,v,lp,n0,n1,fg,xs,xp,ns,kds,is0,is1,rss,rfl,_⟩:=h
  rfl
 ·obtain ⟨l,v,lp,n0,n1,fg,xs,xp,ns,kds,is0,is1,rss,rfl,hl,hF,hV,hlp,hxl,hx,k⟩:=h
  have hlen:=Paired.length hx;refine ⟨_,(J9 (psl 3 JT.nd Jbc)
   (J9 (J09 PassesOwn.never rfl (J0Q rfl (pvl 2)) (J4d rfl rfl (J02 (pgl 4 JT.nd) (J02 (pgl 5 JT.nd) J1E)))
   (J9 (psl 6 JT.nd (Jg T.wv (J1M T) (hr.mono (by decide)) rfl (by decide) rfl (pal rfl (pvl 0) (pal rfl (Jj (Jo rfl) (pvl 1) Ja (fun _ _=>rfl)) (pal rfl (pvl 5) J1)))))
   (Jc (J09 PassesOwn.never rfl (J0Q rfl (Jg T.wv (J1M T) (hr.mono (by decide)) rfl (by decide) rfl (pal rfl (pvl 0) (pal rfl (Jj (Jo rfl) (pvl 1) Ja (fun _ _=>rfl)) (pal rfl (pvl 5) J1))))) (pgl 7 JT.nd)
   (Jc (J09 PassesOwn.never rfl (J0Q rfl (pvl 6)) (pgl 8 JT.nd)
   (Jc (JM (J1h rfl ql PySem.F.slot_list_append PySem.F.type_list_append J0r rfl rfl rfl rfl (J8O hr.units (pvl 3) (Jy (pal rfl (pvl 7) (pal rfl (pvl 8) J1))) (J0B J1) ⟨rfl,rfl,rfl,rfl⟩) (pal rfl (Jy (pal rfl (pvl 4) (pal rfl (pvl 5) J1))) J1))))))))))
   (Jc (Ji (pvl 3))))),?_⟩
  walk_at "dc";intro b zs hb hnd
  walk_at "nw b hb H1 s1 y_"
  refine J06 ?_;walk_at "dc";refine ⟨⟨_,.of (s1 _ _ hlp)⟩,ForW.of (JB (xs:=xp)) (fun j σ H'=>(∃ v4 v5 v6 v7 v8,σ=[some (V.ref l),some (V.ref v),some (V.ref lp),some (V.ref b),v4,v5,v6,v7,v8])/\Same H H'/\∃ kvs,ND P w H' b kvs/\BoxC H' kds (fun c=>H c≠none) (16 * j) kvs (J3o is0 is1 (rss.take j))/\kvs.length<=40 * j) ⟨⟨none,none,none,none,none,rfl⟩,s1,[],hnd,⟨fun _ _ z=>(nomatch z),fun _ _=>rfl,fun _ _ _ z=>(nomatch z),fun _=>zv _⟩,zv _⟩ (fun _ _ _ _ q=>q.2.1.seq (.of hlp)) ?_ ?_⟩
  ·rintro j x σ H2 hxj ⟨⟨v4,v5,v6,v7,v8,rfl⟩,s2,kvs,h1,h2,h4⟩
   obtain ⟨⟨n,rs⟩,hrs,p,r,rfl,hp,hr',hR⟩:=Paired.ix (hx.mono s2) hxj;dsimp only at hp hr' hR;have hj:j<rss.length:=(zK.mp hrs).1;have eB:J3o is0 is1 (rss.take (j+1))=JaV is0 is1 (J3o is0 is1 (rss.take j)) (n,rs):=by unfold J3o;rw [J9b hrs]
   rw [eB];generalize J3o is0 is1 (rss.take j)=B at *;refine ⟨p,_,rfl,.of hp,rfl,?_⟩;simp only [J21,J4s,JL];walk_at "dc";have hV2:=hV.mono s2;have nm1:=hV2.n1;unfold nmT at nm1;refine ⟨v,_,_,_,rfl,rfl,.of hV2.v,Jf (j:=1) rfl,l,n1,r,xs,rs,ns,kds,is1,rfl,s2 _ _ hl,hF.mono s2,nm1,hV.i1,by have:=hV.few1;omega,hr',hR.ok,fun H3 po1 ts1 f3 s3 g3 t3=>?_⟩;have hV3:=hV2.mono s3;have nm0:=hV3.n0;unfold nmT at nm0;have S3:=s2.trans s3;have hlt1:=Paired.length t3;rw [zL,qe] at hlt1;have b3:=(h2.off f3).mono s3;have d3:=ND.same s3 h1;refine J06 ?_;walk_at "dc";refine ⟨v,_,_,_,rfl,rfl,.of hV3.v,Jf (j:=0) rfl,l,n0,r,xs,rs,ns,kds,is0,rfl,S3 _ _ hl,hF.mono S3,nm0,hV.i0,by have:=hV.few0;omega,s3 _ _ hr',hR.ok,fun H4 po0 ts0 f4 s4 g4 t4=>?_⟩;have hlt0:=Paired.length t4;rw [zL,qe] at hlt0;have b4:=(b3.off f4).mono s4;have d4:=ND.same s4 d3;have f0:=hV.few0;have f1:=hV.few1;have S4:=S3.trans s4;have t3':=t3.mono s4;have g3':=s4 _ _ g3;have hp4:=s4 _ _ (s3 _ _ hp);have hr4:=s4 _ _ (s3 _ _ hr');change TupsV H4 ts0 (beg is0 rs) at t4;change TupsV H4 ts1 (beg is1 rs) at t3';have hl0:(beg is0 rs).length=ts0.length:=(Paired.length t4).symm;have hl1:(beg is1 rs).length=ts1.length:=(Paired.length t3').symm;unfold JaV;dsimp only;generalize beg is0 rs=as at *;generalize beg is1 rs=bs at *;refine ⟨po0,rfl,⟨_,.of g4⟩,ForW.of (JB (xs:=ts0)) (fun i σ H'=>(∃ v7 v8,σ=[some (V.ref l),some (V.ref v),some (V.ref lp),some (V.ref b),some (V.int n),some (V.ref r),some (V.ref po1),v7,v8])/\Same H H'/\(∀ c ys,H4 c=some (.tup ys)->H' c=some (.tup ys))/\H' po0=some (.lst ts0)/\H' po1=some (.lst ts1)/\∃ kvs,ND P w H' b kvs/\BoxC H' kds (fun c=>(H c≠none\/c=po1)\/c=po0) (16 * j+4 * i) kvs (J1R B (J1Q (as.take i) bs) (n,rs))/\kvs.length<=40 * j+4 * i) ⟨⟨v7,v8,rfl⟩,S4,(fun _ _ z=>z),g4,g3',kvs,d4,b4,by omega⟩ (fun _ _ _ _ q=>.of q.2.2.2.1) ?_ ?_⟩
   ·rintro i one σ H5 hone ⟨⟨v7,v8,rfl⟩,s5,t5,p0,p1,kvs,h1,h2,h4⟩
    obtain ⟨k0,hk0,b0,rfl,hb0⟩:=Paired.ix t4 hone;rw [Jbw hk0];generalize J1Q (as.take i) bs=cs at *;simp only [JL];refine J06 ?_;walk_at "dc";refine ⟨⟨_,.of p1⟩,ForW.of (JB (xs:=ts1)) (fun e σ H'=>(∃ v8,σ=[some (V.ref l),some (V.ref v),some (V.ref lp),some (V.ref b),some (V.int n),some (V.ref r),some (V.ref po1),some (V.ref b0),v8])/\Same H H'/\(∀ c ys,H4 c=some (.tup ys)->H' c=some (.tup ys))/\H' po0=some (.lst ts0)/\H' po1=some (.lst ts1)/\∃ kvs,ND P w H' b kvs/\BoxC H' kds (fun c=>(H c≠none\/c=po1)\/c=po0) (16 * j+4 * i+e) kvs (J1R B (cs++(bs.take e).map fun b=>[k0,b]) (n,rs))/\kvs.length<=40 * j+4 * i+e) ⟨⟨v8,rfl⟩,s5,t5,p0,p1,kvs,h1,by rw [take_zero,map_nil,append_nil];exact h2,h4⟩ (fun _ _ _ _ q=>.of q.2.2.2.2.1) ?_ ?_⟩
    ·rintro e other σ H6 hother ⟨⟨v8,rfl⟩,s6,t6,p0,p1,kvs,h1,h2,h4⟩
     obtain ⟨k1,hk1,b1,rfl,hb1⟩:=Paired.ix t3' hother;rw [Jw hk1,zY,<- qf,zV,map_nil,J8f];generalize J1R B (cs++(bs.take e).map fun b=>[k0,b]) (n,rs)=B2 at *;simp only [JL];walk_at "dc";have hi:=(zK.mp hone).1;have he:=(zK.mp hother).1;have hb06:=t6 _ _ hb0;have hb16:=t6 _ _ hb1;have hp6:=t6 _ _ hp4;have hr6:=t6 _ _ hr4;refine ⟨⟨kvs,h1⟩,Jb (by decide),fun pk hpk=>⟨Jb (by decide),fun pl hpl=>?_⟩⟩
     walk_at "nw pk hpk H7 u1 gk"
     have u2:=Same.upd_new hpl (HO.lst []);have gl:upd H7 pl (HO.lst []) pl=some (.lst []):=Jd;have hpl0:=none_of (s6.trans u1) hpl;have npl:pl≠po0/\pl≠po1:=⟨(fun z=>by rw [z,u1 _ _ p0] at hpl;cases hpl),(fun z=>by rw [z,u1 _ _ p1] at hpl;cases hpl)⟩;have nold:∀ k' v,JG kvs k'=some v->v≠.ref pl:=fun k' v hv z=>by
      obtain ⟨l2,xp2,e2,q1,_⟩:=h2.get k' v hv;rw [e2] at z;injection z with z
      rw [z] at q1;rw [u1 _ _ q1] at hpl;cases hpl
     generalize upd H7 pl (HO.lst [])=H8 at *;have u:=u1.trans u2;have s8:=s6.trans u;have d8:=ND.same u h1;have b8:=h2.mono u;have key:NKeyAt H8 pk [k0,k1]:=⟨[b0,b1],u2 _ _ gk,.cons (u _ _ hb06) (.cons (u _ _ hb16) .nil)⟩;refine ⟨kvs,d8,[k0,k1],key,by rw [sizeLine_eq];omega,fun vv hvv=>?_,fun hno zs hzs=>?_⟩
     ·obtain ⟨l',xp',e',q1,q2,q3⟩:=b8.get _ _ hvv
      rw [e'] at hvv ⊢;refine ⟨.inl ⟨rfl,_,.of q1⟩,Jb (by decide),fun p2 hp2=>?_⟩
      walk_at "nw p2 hp2 H9 u3 g2"
      obtain ⟨w5,w6,w1,w2,w3,w4⟩:=J9P (s8.trans u3) (fun c hc=>.inl (.inl hc)) (ND.same u3 d8) (b8.mono u3) hvv (u3 _ _ q1) g2 (u3 _ _ (u _ _ hr6)) hR;refine ⟨l',_,_,rfl,rfl,u3 _ _ q1,Jb (by omega),⟨_,rfl⟩,w1,fun c ys z=>w2 _ _ (u3 _ _ (u _ _ (t6 _ _ z))),?_,?_,kvs,w3,w4,by omega⟩
      ·rw [Jh (fun z=>w5 (.inr z.symm))]
       exact u3 _ _ (u _ _ p0)
      ·rw [Jh (fun z=>w5 (.inl (.inr z.symm)))]
       exact u3 _ _ (u _ _ p1)
     ·have t9:∀ c ys,H8 c=some (.tup ys)->upd H8 b (dN P w b zs) c=some (.tup ys):=fun c ys z=>by
       rw [Jh (JbT d8 z fun φ q=>nomatch q)];exact z
      have l9:∀ c ys,H8 c=some (.lst ys)->upd H8 b (dN P w b zs) c=some (.lst ys):=fun c ys z=>by
       rw [Jh (JbT d8 z fun φ q=>nomatch q)];exact z
      have s9:Same H (upd H8 b (dN P w b zs)):=s8.set hb _;have b9:=b8.go t9 l9;generalize upd H8 b (dN P w b zs)=H9 at *;rw [putK_new hno] at hzs;refine ⟨.inl ⟨rfl,_,.of (l9 _ _ gl)⟩,Jb (by decide),fun p2 hp2=>?_⟩
      walk_at "nw p2 hp2 H10 u3 g2"
      have hav:¬ ((H pl≠none\/pl=po1)\/pl=po0):=fun z=>by
       rcases z with (z | z) | z
       ·exact z hpl0
       ·exact npl.2 z
       ·exact npl.1 z
      have bn:=(b9.mono u3).new hno (u3 _ _ (l9 _ _ gl)) hav nold;obtain ⟨w5,w6,w1,w2,w3,w4⟩:=J9P (s9.trans u3) (fun c hc=>.inl (.inl hc)) (ND.same u3 hzs) bn (by rw [valV_snoc hno,zu rfl]) (u3 _ _ (l9 _ _ gl)) g2 (u3 _ _ (t9 _ _ (u _ _ hr6))) hR;refine ⟨pl,_,_,rfl,rfl,u3 _ _ (l9 _ _ gl),Jb (by decide),⟨_,rfl⟩,w1,fun c ys z=>w2 _ _ (u3 _ _ (t9 _ _ (u _ _ (t6 _ _ z)))),?_,?_,_,w3,w4,by rw [zQ,length_singleton];omega⟩
      ·rw [Jh (Ne.symm npl.1)]
       exact u3 _ _ (l9 _ _ (u _ _ p0))
      ·rw [Jh (Ne.symm npl.2)]
       exact u3 _ _ (l9 _ _ (u _ _ p1))
    ·rintro σ H6 ⟨⟨v8,rfl⟩,s6,t6,p0,p1,kvs,h1,h2,h4⟩
     rw [<- hl1,zX] at h2;exact ⟨⟨_,_,rfl⟩,s6,t6,p0,p1,kvs,h1,h2.less (by omega) (fun _ z=>z),by omega⟩
   ·rintro σ H5 ⟨⟨v7,v8,rfl⟩,s5,t5,p0,p1,kvs,h1,h2,h4⟩
    rw [<- hl0,zX] at h2;exact ⟨⟨_,_,_,_,_,rfl⟩,s5,kvs,h1,h2.less (by omega) (fun _ z=>.inl (.inl z)),by omega⟩
  ·rintro σ H2 ⟨⟨v4,v5,v6,v7,v8,rfl⟩,s2,kvs,h1,h2,h4⟩
   walk_at "dc";rw [hlen,zX] at h2;exact k _ b kvs s2 h1 (h2.less (by omega) (fun _ z=>z))
def JaH (lf v pd bx:Addr):List (Str×V):=[("kept_fields",.ref lf),("kept_view",.ref v),("kept_heads",.ref pd),("boxes",.ref bx)]
def tb2 (lf v:Addr):List (Str×V):=[("kept_fields",.ref lf),("kept_view",.ref v)]
def tb3 (lf v pd:Addr):List (Str×V):=[("kept_fields",.ref lf),("kept_view",.ref v),("kept_heads",.ref pd)]
theorem JcD (lf v:Addr):J0R "kept_view" (.ref v) (J0R "kept_fields" (.ref lf) [])=tb2 lf v:=by
 show (if (("kept_fields":Str)="kept_view") then _ else _)=_;rw [zt (by decide)];rfl
theorem JcC (lf v pd:Addr):J0R "kept_heads" (.ref pd) (tb2 lf v)=tb3 lf v pd:=by
 unfold tb2;rw [J0R,zt (by decide),J0R,zt (by decide),J0R];rfl
theorem JdM (lf v pd bx:Addr):J0R "boxes" (.ref bx) (tb3 lf v pd)=JaH lf v pd bx:=by
 unfold tb3;rw [J0R,zt (by decide),J0R,zt (by decide),J0R,zt (by decide),J0R];rfl
def HdsAt (H:Hp)(h:Addr)(kss:List (List Jq)):Prop:=∃ ts,H h=some (.lst ts)/\TupsV H ts kss
theorem HdsAt.mono {h:Addr}{kss:List (List Jq)}(s:Same H H')(x:HdsAt H h kss):HdsAt H' h kss:=by
 obtain ⟨ts,h1,h2⟩:=x;exact ⟨ts,s _ _ h1,h2.mono s⟩
theorem JdA {a b:V}(ha:J0v kd a)(hb:J0v kd b)(h1:gtV a b=false)(h2:gtV b a=false):a=b:=by
 rcases ha with ⟨rfl,x,rfl,_⟩ | ⟨rfl,x,rfl⟩
 ·rcases hb with ⟨_,y,rfl,_⟩ | ⟨z,_⟩
  ·simp only [gtV,decide_eq_false_iff_not] at *
   have e:x.cps.toList=y.cps.toList:=List.le_antisymm (List.not_lt.mp h1) (List.not_lt.mp h2);rw [J38.mpr e]
  ·exact absurd z (by decide)
 ·rcases hb with ⟨z,_⟩ | ⟨_,y,rfl⟩
  ·exact absurd z (by decide)
  ·simp only [gtV,decide_eq_false_iff_not] at *
   rw [show x=y by omega]
theorem J4b:∀ {a b:List Int},a.map V.int=b.map V.int->a=b
 | [],[],_=>rfl
 | [],_::_,h=>by simp at h
 | _::_,[],h=>by simp at h
 | x::a,y::b,h=>by
   simp only [zV,List.cons.injEq,V.int.injEq] at h;rw [h.1,J4b h.2]
theorem J8d {b:V->V->Bool}(hb:b=gtV\/b=ltV)(hk:∀ v∈vs,J0v kd v){w:V}(h1:(vs=[]/\v=.non)\/(v∈vs/\∀ u∈vs,b u v=false))(h2:(vs=[]/\w=.non)\/(w∈vs/\∀ u∈vs,b u w=false)):v=w:=by
 rcases h1 with ⟨e,rfl⟩ | ⟨m1,f1⟩
 ·rcases h2 with ⟨_,rfl⟩ | ⟨m2,_⟩
  ·rfl
  ·rw [e] at m2
   cases m2
 ·rcases h2 with ⟨e,_⟩ | ⟨m2,f2⟩
  ·rw [e] at m1
   cases m1
  ·rcases hb with rfl | rfl
   ·exact JdA (hk v m1) (hk w m2) (f2 v m1) (f1 w m2)
   ·exact JdA (hk v m1) (hk w m2) (f1 w m2) (f2 v m1)
theorem Jda (hk:∀ v∈vs,J0v kd v){w:V}(h1:Jdm hd vs v)(h2:Jdm hd vs w):v=w:=by
 rcases h1 with ⟨rfl,zs,e,rfl⟩ | ⟨rfl,h1⟩ | ⟨rfl,h1⟩ | ⟨rfl,rfl⟩
 ·rcases h2 with ⟨_,zs',e',rfl⟩ | ⟨z,_⟩ | ⟨z,_⟩ | ⟨z,_⟩
  ·rw [J4b (e.symm.trans e')]
  all_goals exact absurd z (by decide)
 ·rcases h2 with ⟨z,_⟩ | ⟨_,h2⟩ | ⟨z,_⟩ | ⟨z,_⟩
  ·exact absurd z (by decide)
  ·exact J8d (.inl rfl) hk h1 h2
  all_goals exact absurd z (by decide)
 ·rcases h2 with ⟨z,_⟩ | ⟨z,_⟩ | ⟨_,h2⟩ | ⟨z,_⟩
  ·exact absurd z (by decide)
  ·exact absurd z (by decide)
  ·exact J8d (.inr rfl) hk h1 h2
  ·exact absurd z (by decide)
 ·rcases h2 with ⟨z,_⟩ | ⟨z,_⟩ | ⟨z,_⟩ | ⟨_,rfl⟩
  ·exact absurd z (by decide)
  ·exact absurd z (by decide)
  ·exact absurd z (by decide)
  ·rfl
abbrev Fg:Type:=Option (Str×Nat)
def FgAt (H:Hp)(ns kds:List Str)(fv:V)(g:Fg):Prop:=∃ q,fv=.ref q/\((g=none/\H q=some (.tup [.str "count"]))\/∃ (hd n:Str) (j:Nat) (kd:Str),g=some (hd,j)/\H q=some (.tup [.str hd,.str n])/\ns[j]?=some n/\kds[j]?=some kd/\HdOk hd kd)
theorem FgAt.tup {H H':Hp}{fv:V}{g:Fg}{ns kds:List Str}(t:∀ c ys,H c=some (.tup ys)->H' c=some (.tup ys))(h:FgAt H ns kds fv g):FgAt H' ns kds fv g:=by
 obtain ⟨q,e,⟨e2,h⟩ | ⟨hd,n,j,kd,e2,h1,h2⟩⟩:=h
 ·exact ⟨q,e,.inl ⟨e2,t _ _ h⟩⟩
 ·exact ⟨q,e,.inr ⟨hd,n,j,kd,e2,t _ _ h1,h2⟩⟩
def FgR (g:Fg)(rs:List (List V))(v:V):Prop:=match g with
 | none=>v=.int (rs.length:Int)
 | some (hd,j)=>Jdm hd (J0u rs j) v
def J87 (g:Fg)(rs:List (List V)):V:=@Classical.epsilon V ⟨.non⟩ (FgR g rs)
theorem FgAt.ask {g:Fg}(h:FgAt H ns kds fv g)(rs:List (List V)):Jch H fv ns kds rs (FgR g rs):=by
 obtain ⟨q,e,⟨e2,h⟩ | ⟨hd,n,j,kd,e2,h1,h2,h3,h4⟩⟩:=h
 ·subst e2
  exact ⟨q,e,.inl ⟨h,rfl⟩⟩
 ·subst e2
  exact ⟨q,e,.inr ⟨hd,n,j,kd,h1,h2,h3,h4,rfl⟩⟩
theorem FgAt.one {g:Fg}(h:FgAt H ns kds fv g){rs:List (List V)}(hr:∀ r∈rs,RowOk kds r)(hv:FgR g rs v):v=J87 g rs/\FgR g rs (J87 g rs):=by
 have ex:FgR g rs (J87 g rs):=Classical.epsilon_spec_aux ⟨.non⟩ _ ⟨v,hv⟩;refine ⟨?_,ex⟩;obtain ⟨q,e,⟨e2,h⟩ | ⟨hd,n,j,kd,e2,h1,h2,h3,h4⟩⟩:=h
 ·subst e2
  exact (show v=.int (rs.length:Int) from hv).trans (show J87 none rs=.int (rs.length:Int) from ex).symm
 ·subst e2
  exact Jda (J7a hr h3) hv ex
def FgsAt (H:Hp)(ns kds:List Str)(fvs:List V)(gs:List Fg):Prop:=Paired (FgAt H ns kds) fvs gs
theorem FgsAt.tup {H H':Hp}{fvs:List V}{gs:List Fg}{ns kds:List Str}(t:∀ c ys,H c=some (.tup ys)->H' c=some (.tup ys))(h:FgsAt H ns kds fvs gs):FgsAt H' ns kds fvs gs:=Paired.mapP h fun _ _ q=>q.tup t
structure Base (H:Hp)(l v n0 n1 fg:Addr)(xs fvs:List V)(gs:List Fg)(ns kds:List Str)(is0 is1:List Nat):Prop where
 l:H l=some (.lst xs)
 F:FldsK H xs ns kds
 kk:∀ kd∈kds,kd=JF\/kd=numS
 vw:View H v n0 n1 fg ns kds is0 is1
 fg:H fg=some (.tup fvs)
 fs:FgsAt H ns kds fvs gs
 fl:fvs.length<=60
theorem Base.mono {v:Addr}{fvs:List V}(s:Same H H')(h:Base H l v n0 n1 fg xs fvs gs ns kds is0 is1):Base H' l v n0 n1 fg xs fvs gs ns kds is0 is1:=⟨s _ _ h.l,h.F.mono s,h.kk,h.vw.mono s,s _ _ h.fg,h.fs.tup fun _ _ z=>s _ _ z,h.fl⟩
inductive TabAt (P:Program)(w:World)(f:Nat->Addr)(H:Hp)(t v:Addr)(gs:List Fg)(ns kds:List Str)(is0 is1:List Nat)(kss0 kss1:List (List Jq))(B:NPK->List NR):Prop
 | mk (dx lf pd bx n0 n1 fg h0 h1:Addr) (xs fvs:List V) (hk:List (Key×V)) (kvs:List (NPK×V)) (u0_:H t=some (.ins (f 55) dx (JaH lf v pd bx))) (u1_:Base H lf v n0 n1 fg xs fvs gs ns kds is0 is1) (u2_:H pd=some (.dK hk)) (u3_:JG hk (.inr "rows")=some (.ref h0)) (u4_:JG hk (.inr "columns")=some (.ref h1)) (u5_:HdsAt H h0 kss0) (u6_:HdsAt H h1 kss1) (u7_:ND P w H bx kvs) (u8_:BoxC H kds (fun _=>False) 700 kvs B):TabAt P w f H t v gs ns kds is0 is1 kss0 kss1 B
theorem TabAt.mono {P:Program}{w:World}{f:Nat->Addr}{t v:Addr}{kss0 kss1:List (List Jq)}(s:Same H H')(h:TabAt P w f H t v gs ns kds is0 is1 kss0 kss1 B):TabAt P w f H' t v gs ns kds is0 is1 kss0 kss1 B:=by
 obtain ⟨dx,lf,pd,bx,n0,n1,fg,h0,h1,xs,fvs,hk,kvs,a1,a2,a3,a4,a5,a6,a7,a8,a9⟩:=h;exact ⟨dx,lf,pd,bx,n0,n1,fg,h0,h1,xs,fvs,hk,kvs,s _ _ a1,a2.mono s,s _ _ a3,a4,a5,a6.mono s,a7.mono s,ND.same s a8,a9.mono s⟩
inductive Q_Table___init__ (P:Program)(w:World)(K:PySem.W.Frag)(f:Nat->Addr)(vs:List V)(H:Hp)(Q:VK):Prop
 | mk (G:Hp) (o dx l v lp n0 n1 fg:Addr) (xs fvs xp:List V) (gs:List Fg) (ns kds:List Str) (is0 is1:List Nat) (rss:List NR) (u0_:vs=[.ref o,.ref l,.ref v,.ref lp]) (u1_:Same G H) (u2_:G o=none) (u3_:H o=some (.ins (f 55) dx [])) (u4_:Base G l v n0 n1 fg xs fvs gs ns kds is0 is1) (u5_:G lp=some (.lst xp)) (u6_:xp.length<=40) (u7_:PrsR G kds xp rss) (u8_:∀ H' kss0 kss1,Same G H'->TabAt P w f H' o v gs ns kds is0 is1 kss0 kss1 (J3o is0 is1 rss)->Q .non H'):Q_Table___init__ P w K f vs H Q
def J3u (P:Program)(w:World)(K:PySem.W.Frag)(f:Nat->Addr):Sp:=fun vs H Q _=>Q_Table___init__ P w K f vs H Q
theorem ok_Table___init__ (T:Txt K mg f fd):FnOk P w K mg base CX0 6 (f 56000) (fd 56000) ["self","fields","view","rows"] (J3u P w K f):=by
 walk_at "ok yK J1B"
 ·obtain ⟨G,o,dx,l,v,lp,n0,n1,fg,xs,fvs,xp,gs,ns,kds,is0,is1,rss,rfl,_⟩:=h
  rfl
 ·obtain ⟨G,o,dx,l,v,lp,n0,n1,fg,xs,fvs,xp,gs,ns,kds,is0,is1,rss,rfl,s0,hGo,ho,hB,hlp,hxl,hP,k⟩:=h
  refine ⟨_,(J9 (J2D (pvl 0) (J0t (J72 rfl) T.wm J2l rfl (by decide) (by decide) rfl (pal rfl (pvl 1) J1)) rfl)
   (J9 (J2D (pvl 0) (pvl 2) rfl)
   (J9 (J1D ["number","row"] ["self","fields","view","rows","laid"] rfl (show CompSc _ (Je J0D) ["self","fields","view","rows","laid"] ["self","fields","view","rows","laid"] from Ju (by decide +kernel)) J1B.nd (i:=4) rfl rfl (J0Q rfl (pvl 3)) (fun _ _ _ _ _=>(JdS K 0 1 (show (["number","row","self","fields","view","rows","laid"]:List Str).Nodup by decide +kernel))) (fun _ _ _ _ _=>JH) (fun _ _ _ _ _=>(pvl 1)))
   (J9 (J2D (pvl 0) (J9z (J1Y Jp (Jg T.wN (ok_heads_of T) (hr.mono (by decide)) rfl (by decide) rfl (pal rfl (pvl 1) (pal rfl (Jj (Jo rfl) (pvl 2) Ja (fun _ _=>rfl)) (pal rfl (pvl 4) J1)))) (J1Y Jp (Jg T.wN (ok_heads_of T) (hr.mono (by decide)) rfl (by decide) rfl (pal rfl (pvl 1) (pal rfl (Jj (Jo rfl) (pvl 2) Ja (fun _ _=>rfl)) (pal rfl (pvl 4) J1)))) J6H)) rfl rfl (cons_ne_nil _ _) (by show 2<=15;decide)) rfl)
   (Jc (J2D (pvl 0) (Jg T.yr (ok_laid_in_boxes T) (hr.mono (by decide)) rfl (by decide) rfl (pal rfl (pvl 1) (pal rfl (pvl 2) (pal rfl (pvl 3) J1)))) rfl)))))),?_⟩
  walk_at "dc";refine ⟨_,.inl (.of (s0 _ _ hB.l)),fun lf hlf=>?_⟩;have s1:=s0.new hlf (HO.lst xs);have gf:upd H lf (HO.lst xs) lf=some (.lst xs):=Jd;have ho1:=Same.upd_new hlf (HO.lst xs) _ _ ho;have nfo:lf≠o:=fun z=>by rw [z,ho] at hlf;cases hlf
  generalize upd H lf (HO.lst xs)=H1 at *;refine ⟨_,_,_,ho1,T.wd.cls,T.wE,by decide,_,_,_,Jd,T.wd.cls,T.wF,by simp [J0R],?_⟩;rw [J4v,JcD];have s2:=s1.set hGo (.ins (f 55) dx (tb2 lf v));have ho2:upd H1 o (.ins (f 55) dx (tb2 lf v)) o=some (.ins (f 55) dx (tb2 lf v)):=Jd;have gf2:upd H1 o (.ins (f 55) dx (tb2 lf v)) lf=some (.lst xs):=by rw [Jh nfo];exact gf
  generalize upd H1 o (.ins (f 55) dx (tb2 lf v))=H2 at *;clear gf ho1 s1 hlf;refine ⟨⟨_,.of (s2 _ _ hlp)⟩,J3n (JB (xs:=xp)) (Jb (by omega)) (fun j zs σ H'=>(∃ v0 v1,σ=[v0,v1,some (V.ref o),some (V.ref l),some (V.ref v),some (V.ref lp),none])/\Same H2 H'/\Rows H' kds zs ((rss.map Prod.snd).take j)) ⟨⟨none,none,rfl⟩,Same.refl _,.nil⟩ (fun j zs σ H' q=>⟨(s2.trans q.2.1).seq (.of hlp),by have:=Paired.length q.2.2;rw [this,zR,zL];omega⟩) ?_ ?_⟩
  ·rintro i x zs σ H3 hx ⟨⟨v0,v1,rfl⟩,t1,hR⟩
   obtain ⟨⟨n,rs⟩,hrs,p,r,rfl,h1,h2,h3⟩:=Paired.ix (hP.mono (s2.trans t1)) hx;have hrs2:(rss.map Prod.snd)[i]?=some rs:=by rw [zW,hrs];rfl
   refine ⟨p,_,rfl,.of h1,rfl,?_⟩;simp only [J21,J4s,JL];walk_at "dc";exact ⟨⟨_,rfl⟩,t1,by rw [Jw hrs2];exact Paired.snoc hR ⟨r,rfl,h2,h3.ok⟩⟩
  ·rintro zs σ H3 ⟨⟨v0,v1,rfl⟩,t1,hR⟩ D hD p hp
   have hpl:=Paired.length hP;rw [hpl,show rss.length=(rss.map Prod.snd).length by rw [zL],zX] at hR;have hml:(rss.map Prod.snd).length=rss.length:=zL ..;have u1:=t1.new hD (HO.lst zs);have gD:upd H3 D (HO.lst zs) D=some (.lst zs):=Jd;have hR1:=hR.mono (Same.upd_new hD (HO.lst zs));generalize upd H3 D (HO.lst zs)=H4 at *;have u2:=u1.new hp (HO.dK []);have w2:=Same.upd_new hp (HO.dK []);have gp:upd H4 p (HO.dK []) p=some (.dK []):=Jd;have npo:p≠o:=fun z=>by rw [z,u1 _ _ ho2] at hp;cases hp
   generalize upd H4 p (HO.dK [])=H5 at *;have s5:=s2.trans u2;have hV5:=hB.vw.mono s5;have nm0:=hV5.n0;unfold nmT at nm0;have f0:=hV5.few0;have f1:=hV5.few1;have hp0:G p=none:=none_of (s2.trans u1) hp;refine ⟨v,_,_,_,rfl,rfl,.of hV5.v,Jf (j:=0) rfl,l,n0,D,xs,zs,rss.map Prod.snd,ns,kds,is0,rfl,s5 _ _ hB.l,hB.F.mono s5,nm0,hV5.i0,by omega,w2 _ _ gD,hR1.mono w2,by omega,fun H6 h0 ts0 kss0 s6 g0 t0=>?_⟩;have S6:=s5.trans s6;have hV6:=hV5.mono s6;have nm1:=hV6.n1;unfold nmT at nm1;refine ⟨v,_,_,_,rfl,rfl,.of hV6.v,Jf (j:=1) rfl,l,n1,D,xs,zs,rss.map Prod.snd,ns,kds,is1,rfl,S6 _ _ hB.l,hB.F.mono S6,nm1,hV5.i1,by omega,s6 _ _ (w2 _ _ gD),(hR1.mono w2).mono s6,by omega,fun H7 h1 ts1 kss1 s7 g1 t1'=>?_⟩;have S7:=S6.trans s7;refine ⟨s7 _ _ (s6 _ _ gp),[(.inr "rows",.ref h0),(.inr "columns",.ref h1)],rfl,(by show 2<=15;decide),?_⟩;have s8:=S7.set hp0 (HO.dK (J0a [] [(.inr "rows",.ref h0),(.inr "columns",.ref h1)]));have gp8:upd H7 p (HO.dK (J0a [] [(.inr "rows",.ref h0),(.inr "columns",.ref h1)])) p=some (HO.dK (J0a [] [(.inr "rows",.ref h0),(.inr "columns",.ref h1)])):=Jd;have kp8:∀ c u,H7 c=some u->u≠.dK []->upd H7 p (HO.dK (J0a [] [(.inr "rows",.ref h0),(.inr "columns",.ref h1)])) c=some u:=fun c u z nu=>by
    rw [Jh (fun e=>nu (by rw [e,s7 _ _ (s6 _ _ gp)] at z;exact (zA z).symm))];exact z
   have ho8:=kp8 _ _ (s7 _ _ (s6 _ _ (u2 _ _ ho2))) (fun z=>nomatch z);have gf8:=kp8 _ _ (s7 _ _ (s6 _ _ (u2 _ _ gf2))) (fun z=>nomatch z);have g08:=kp8 _ _ (s7 _ _ g0) (fun z=>nomatch z);have g18:=kp8 _ _ g1 (fun z=>nomatch z);have t08:TupsV (upd H7 p (HO.dK (J0a [] [(.inr "rows",.ref h0),(.inr "columns",.ref h1)]))) ts0 kss0:=Paired.mapP (t0.mono s7) fun _ _ ⟨b,e,q⟩=>⟨b,e,kp8 _ _ q (fun z=>nomatch z)⟩;have t18:TupsV (upd H7 p (HO.dK (J0a [] [(.inr "rows",.ref h0),(.inr "columns",.ref h1)]))) ts1 kss1:=Paired.mapP t1' fun _ _ ⟨b,e,q⟩=>⟨b,e,kp8 _ _ q (fun z=>nomatch z)⟩;generalize upd H7 p (HO.dK (J0a [] [(.inr "rows",.ref h0),(.inr "columns",.ref h1)]))=H8 at *;refine ⟨_,_,_,ho8,T.wd.cls,T.yX,(by show 2<1000;decide),?_⟩;rw [JcC];have s9:=s8.set hGo (.ins (f 55) dx (tb3 lf v p));have ho9:upd H8 o (.ins (f 55) dx (tb3 lf v p)) o=some (.ins (f 55) dx (tb3 lf v p)):=Jd;have kp9:∀ c u,H8 c=some u->(∀ a b d,u≠.ins a b d)->upd H8 o (.ins (f 55) dx (tb3 lf v p)) c=some u:=fun c u z nu=>by
    rw [Jh (fun e=>nu _ _ _ (by rw [e,ho8] at z;exact (zA z).symm))];exact z
   have gp9:=kp9 _ _ gp8 (fun _ _ _ z=>nomatch z);have gf9:=kp9 _ _ gf8 (fun _ _ _ z=>nomatch z);have g09:=kp9 _ _ g08 (fun _ _ _ z=>nomatch z);have g19:=kp9 _ _ g18 (fun _ _ _ z=>nomatch z);have t09:TupsV (upd H8 o (.ins (f 55) dx (tb3 lf v p))) ts0 kss0:=Paired.mapP t08 fun _ _ ⟨b,e,q⟩=>⟨b,e,kp9 _ _ q (fun _ _ _ z=>nomatch z)⟩;have t19:TupsV (upd H8 o (.ins (f 55) dx (tb3 lf v p))) ts1 kss1:=Paired.mapP t18 fun _ _ ⟨b,e,q⟩=>⟨b,e,kp9 _ _ q (fun _ _ _ z=>nomatch z)⟩;generalize upd H8 o (.ins (f 55) dx (tb3 lf v p))=H9 at *;have hB9:=hB.mono s9;refine ⟨l,v,lp,n0,n1,fg,xs,xp,ns,kds,is0,is1,rss,rfl,hB9.l,hB9.F,hB9.vw,s9 _ _ hlp,hxl,hP.mono s9,fun H10 bx kvs s10 nd bo=>?_⟩;refine ⟨_,_,_,s10 _ _ ho9,T.wd.cls,T.yO,(by show 3<1000;decide),?_⟩;rw [JdM];have S10:=s9.trans s10;have s11:=S10.set hGo (.ins (f 55) dx (JaH lf v p bx));have kpB:∀ c u,H10 c=some u->(∀ a b d,u≠.ins a b d)->upd H10 o (.ins (f 55) dx (JaH lf v p bx)) c=some u:=fun c u z nu=>by
    rw [Jh (fun e=>nu _ _ _ (by rw [e,s10 _ _ ho9] at z;exact (zA z).symm))];exact z
   have tkB:∀ c ys,H10 c=some (.tup ys)->upd H10 o (.ins (f 55) dx (JaH lf v p bx)) c=some (.tup ys):=fun c ys z=>kpB _ _ z (fun _ _ _ q=>nomatch q);have hB11:=hB.mono s11;refine k _ kss0 kss1 s11 ⟨dx,lf,p,bx,n0,n1,fg,h0,h1,xs,fvs,_,kvs,Jd,⟨kpB _ _ (s10 _ _ gf9) (fun _ _ _ z=>nomatch z),hB11.F,hB.kk,hB11.vw,hB11.fg,hB11.fs,hB.fl⟩,kpB _ _ (s10 _ _ gp9) (fun _ _ _ z=>nomatch z),rfl,rfl,⟨ts0,kpB _ _ (s10 _ _ g09) (fun _ _ _ z=>nomatch z),Paired.mapP (t09.mono s10) fun _ _ ⟨b,e,q⟩=>⟨b,e,tkB _ _ q⟩⟩,⟨ts1,kpB _ _ (s10 _ _ g19) (fun _ _ _ z=>nomatch z),Paired.mapP (t19.mono s10) fun _ _ ⟨b,e,q⟩=>⟨b,e,tkB _ _ q⟩⟩,ND.mono tkB (Jh (fun e=>by
    obtain ⟨_,ys,ey,_⟩:=nd;rw [e,s10 _ _ ho9] at ey;unfold dN at ey;cases ey)) nd,?_⟩
   exact (bo.go tkB fun c ys z=>kpB _ _ z (fun _ _ _ q=>nomatch q)).less (zv _) (fun _ z=>z.elim)
theorem JbN {K:PySem.W.Frag}{as bs:List Jq}(ha:H a=some (.tup (as.map nV)))(hb:H b=some (.tup (bs.map nV)))(oa:∀ k∈as,okN k)(ob:∀ k∈bs,okN k)(q:Q (.bl (if neg then !decide (as=bs) else decide (as=bs))) H):J6F K neg (.ref a) (.ref b) H Q:=by
 have sh:∀ {ks:List Jq},(∀ k∈ks,okN k)->SeqAt.shaped (ksD ks)=true:=fun {ks} h=>by
  unfold SeqAt.shaped;rw [(J44 h).1,(J44 h).2];rfl
 refine ⟨_,_,J70 ha oa,J70 hb ob,sh oa,sh ob,?_⟩;have e:PyData.eqv (ksD as) (ksD bs)=decide (as=bs):=by
  unfold ksD;simp only [PyData.eqv];exact J8X as bs
 rw [e];exact q
theorem J4X {rsl:List (List V)}(h:RowsI H kds zs rsl)(hr:H r=some (.tup rs))(hR:RowOk kds rs):RowsI H kds (zs++[.ref r]) (rsl++[rs]):=by
 refine ⟨by rw [zQ,zQ,h.1];rfl,fun i x y hx hy=>?_⟩;by_cases hi:i<zs.length
 ·rw [qd hi] at hx
  rw [qd (by rw [<- h.1];exact hi)] at hy;exact h.2 i x y hx hy
 ·have hil:=(zK.mp hx).1
  rw [zQ,length_singleton] at hil;obtain rfl:i=zs.length:=by omega
  rw [qc (zv _),Nat.sub_self] at hx;rw [qc (by rw [h.1];exact zv _),h.1,Nat.sub_self] at hy;obtain rfl:V.ref r=x:=by simpa using hx
  obtain rfl:rs=y:=by simpa using hy
  exact ⟨r,rfl,hr,hR⟩
theorem JdE (k:Jq):toN (nV k)=k:=by
 cases k with
 | none=>rfl
 | some x=>cases x<;>rfl
def HdV (kds:List Str)(is:List Nat)(ks:List Jq):Prop:=okP kds is (ks.map nV)=true/\∀ v∈ks.map nV,Fl v
theorem HdV.ok {is:List Nat}{ks:List Jq}(h:HdV kds is ks):∀ k∈ks,okN k:=fun k hk=>by
 have:=(h.2 _ (mem_map_of_mem hk)).nk.2;rwa [JdE] at this
inductive Q_Table_lying (P:Program)(w:World)(K:PySem.W.Frag)(f:Nat->Addr)(vs:List V)(H:Hp)(Q:VK):Prop
 | mk (t v l0 l1:Addr) (k0 k1:List Jq) (gs:List Fg) (ns kds:List Str) (is0 is1:List Nat) (kss0 kss1:List (List Jq)) (B:NPK->List NR) (u0_:vs=[.ref t,.ref l0,.ref l1]) (u1_:TabAt P w f H t v gs ns kds is0 is1 kss0 kss1 B) (u2_:H l0=some (.tup (k0.map nV))) (u3_:H l1=some (.tup (k1.map nV))) (u4_:HdV kds is0 k0) (u5_:HdV kds is1 k1) (u6_:∀ H' q xp,Same H H'->H' q=some (.lst xp)->PrsR H' kds xp (B [k0,k1])->Q (.ref q) H'):Q_Table_lying P w K f vs H Q
def J4S (P:Program)(w:World)(K:PySem.W.Frag)(f:Nat->Addr):Sp:=fun vs H Q _=>Q_Table_lying P w K f vs H Q
theorem Jck {P:Program}{w:World}{G2:Hp}{bx l0 l1:Addr}{k0 k1:List Jq}{kvs:List (NPK×V)}(a8:ND P w G2 bx kvs)(a9:BoxC G2 kds (fun _=>False) 700 kvs B)(h0:G2 l0=some (.tup (k0.map nV)))(h1:G2 l1=some (.tup (k1.map nV)))(k:∀ H' q xp,Same G2 H'->H' q=some (.lst xp)->PrsR H' kds xp (B [k0,k1])->Q (.ref q) H'){pk pl:Addr}(hpk:G2 pk=none)(hpl:upd G2 pk (HO.tup [V.ref l0,V.ref l1]) pl=none) :
 ∃ kvs',ND P w (upd (upd G2 pk (HO.tup [V.ref l0,V.ref l1])) pl (HO.lst [])) bx kvs'/\∃ ks,NKeyAt (upd (upd G2 pk (HO.tup [V.ref l0,V.ref l1])) pl (HO.lst [])) pk ks/\Q ((JG kvs' ks).getD (.ref pl)) (upd (upd G2 pk (HO.tup [V.ref l0,V.ref l1])) pl (HO.lst [])):=by
 walk_at "nw pk hpk G3 u1 gk"
 walk_at "nw pl hpl G4 u2 gl"
 have S4:=u1.trans u2;refine ⟨kvs,ND.same S4 a8,[k0,k1],⟨[l0,l1],u2 _ _ gk,.cons (S4 _ _ h0) (.cons (S4 _ _ h1) .nil)⟩,?_⟩;cases hv:JG kvs [k0,k1] with
 | none=>exact k G4 pl [] S4 gl (by rw [a9.no _ hv];exact .nil)
 | some vv =>
   obtain ⟨l',xp',e',q1,_,q3⟩:=(a9.mono S4).get _ _ hv;rw [e'];exact k G4 l' xp' S4 q1 q3
theorem J2G (T:Txt K mg f fd):FnOk P w K mg base CX0 6 (f 56006) (fd 56006) ["self","one","other"] (J4S P w K f):=by
 walk_at "ok wR J4W"
 ·obtain ⟨t,v,l0,l1,k0,k1,gs,ns,kds,is0,is1,kss0,kss1,B,rfl,_⟩:=h
  rfl
 ·obtain ⟨t,v,l0,l1,k0,k1,gs,ns,kds,is0,is1,kss0,kss1,B,rfl,hT,hl0,hl1,hh0,hh1,k⟩:=h
  obtain ⟨dx,lf,pd,bx,n0,n1,fg,h0,h1,xs,fvs,hk,kvs,a1,a2,a3,a4,a5,a6,a7,a8,a9⟩:=hT;have f0:=a2.vw.few0;have f1:=a2.vw.few1;have S0:Side H lf n0 xs ns kds is0:=⟨a2.l,a2.F,a2.vw.n0,a2.vw.i0,by omega⟩;have S1:Side H lf n1 xs ns kds is1:=⟨a2.l,a2.F,a2.vw.n1,a2.vw.i1,by omega⟩;refine ⟨_,(J9 (JM (Jg T.wL (J33 T) (hr.mono (by decide)) rfl (by decide) rfl (pal rfl (J0C (pvl 0) rfl) (pal rfl (Jj (Jo rfl) (J0C (pvl 0) rfl) Ja (fun _ _=>rfl)) (pal rfl (pvl 1) J1)))))
   (J9 (JM (Jg T.wL (J33 T) (hr.mono (by decide)) rfl (by decide) rfl (pal rfl (J0C (pvl 0) rfl) (pal rfl (Jj (Jo rfl) (J0C (pvl 0) rfl) Ja (fun _ _=>rfl)) (pal rfl (pvl 2) J1)))))
   (Jc (Ji (Jbb hr.units (J0C (pvl 0) rfl) (Jy (pal rfl (pvl 1) (pal rfl (pvl 2) J1))) (J0B J1) ⟨rfl,rfl,rfl,rfl⟩))))),?_⟩
  walk_at "dc";refine ⟨_,_,_,a1,T.wd.cls,T.wE,.ref lf,rfl,_,_,_,a1,T.wd.cls,T.wF,.ref v,rfl,v,_,_,_,rfl,rfl,.of a2.vw.v,Jf (j:=0) rfl,?_⟩;refine ⟨lf,n0,l0,xs,_,ns,kds,is0,rfl,S0,hl0,hh0.2,hh0.1,fun G1 s1=>?_⟩;refine ⟨_,_,_,s1 _ _ a1,T.wd.cls,T.wE,.ref lf,rfl,_,_,_,s1 _ _ a1,T.wd.cls,T.wF,.ref v,rfl,v,_,_,_,rfl,rfl,.of (s1 _ _ a2.vw.v),Jf (j:=1) rfl,?_⟩;refine ⟨lf,n1,l1,xs,_,ns,kds,is1,rfl,S1.mono s1,s1 _ _ hl1,hh1.2,hh1.1,fun G2 s2=>?_⟩;have S2:=s1.trans s2;refine ⟨_,_,_,S2 _ _ a1,T.wd.cls,T.yO,.ref bx,rfl,?_⟩;walk_at "dc";exact ⟨⟨kvs,ND.same S2 a8⟩,Jb (by decide),fun pk hpk=>⟨Jb (by decide),fun pl hpl=>Jck (ND.same S2 a8) (a9.mono S2) (S2 _ _ hl0) (S2 _ _ hl1) (fun H' q xp s gq hx=>k H' q xp (S2.trans s) gq hx) hpk hpl⟩⟩
theorem J4Y {rsl:List (List V)}(h:RowsI H kds zs rsl):∀ r∈rsl,RowOk kds r:=fun r hr=>by
 obtain ⟨i,hi⟩:=qa.mp hr;have hl:i<zs.length:=by rw [h.1];exact (zK.mp hi).1
 obtain ⟨_,_,_,q⟩:=h.2 i _ _ (zJ hl) hi;exact q
inductive Q_Table_box (P:Program)(w:World)(K:PySem.W.Frag)(f:Nat->Addr)(vs:List V)(H:Hp)(Q:VK):Prop
 | mk (t v l0 l1:Addr) (k0 k1:List Jq) (gs:List Fg) (ns kds:List Str) (is0 is1:List Nat) (kss0 kss1:List (List Jq)) (B:NPK->List NR) (u0_:vs=[.ref t,.ref l0,.ref l1]) (u1_:TabAt P w f H t v gs ns kds is0 is1 kss0 kss1 B) (u2_:H l0=some (.tup (k0.map nV))) (u3_:H l1=some (.tup (k1.map nV))) (u4_:HdV kds is0 k0) (u5_:HdV kds is1 k1) (u6_:∀ H' q,H q=none->Same H H'->H' q=some (.lst (gs.map fun g=>J87 g ((B [k0,k1]).map Prod.snd)))->(∀ g∈gs,FgR g ((B [k0,k1]).map Prod.snd) (J87 g ((B [k0,k1]).map Prod.snd)))->Q (.ref q) H'):Q_Table_box P w K f vs H Q
def J6q (P:Program)(w:World)(K:PySem.W.Frag)(f:Nat->Addr):Sp:=fun vs H Q _=>Q_Table_box P w K f vs H Q
theorem ok_Table_box (T:Txt K mg f fd):FnOk P w K mg base CX0 7 (f 56008) (fd 56008) ["self","one","other"] (J6q P w K f):=by
 walk_at "ok wS J3x"
 ·obtain ⟨t,v,l0,l1,k0,k1,gs,ns,kds,is0,is1,kss0,kss1,B,rfl,_⟩:=h
  rfl
 ·obtain ⟨t,v,l0,l1,k0,k1,gs,ns,kds,is0,is1,kss0,kss1,B,rfl,hT,hl0,hl1,hh0,hh1,k⟩:=h
  obtain ⟨dx,lf,pd,bx,n0,n1,fg,h0,h1,xs,fvs,hk,kvs,a1,a2,_,_,_,_,_,_,a9⟩:=id hT;refine ⟨_,(J9 (psc 3 J3x.nd (J00 ["number","row"] ["self","one","other","rows"] rfl (show CompSc _ (Je J15) ["self","one","other","rows"] ["self","one","other","rows"] from Ju (by decide +kernel)) (J0Q rfl (J0F (pvc 0) T.wd.cls T.yM (J2G T) (hr.mono (by decide)) T.wR.b .nil J0W (pal rfl (pvl 1) (pal rfl (pvl 2) J1)) rfl rfl rfl)) (fun _ _ _ _ _=>(JdS K 0 1 (show (["number","row","self","one","other","rows"]:List Str).Nodup by decide +kernel))) (fun _ _ _ _ _=>JH) (fun _ _ _ _ _=>(pvl 1))))
   (Jc (Ji (J00 ["figure"] ["self","one","other","rows"] rfl (show CompSc _ (Je J15) ["self","one","other","rows"] ["self","one","other","rows"] from Ju (by decide +kernel)) (J1y rfl (Jj (Jo rfl) (J0C (pvc 0) rfl) Ja (fun _ _=>rfl))) (fun _ _ _ _ _=>(pgl 0 (show (["figure","self","one","other","rows"]:List Str).Nodup by decide +kernel))) (fun _ _ _ _ _=>JH) (fun _ _ _ _ _=>(Jg T.yg (ok_figure_of T) (hr.mono (by decide)) rfl (by decide) rfl (pal rfl (JeO rfl (pvc 1) rfl) (pal rfl (pvl 0) (pal rfl (pvc 4) J1))))))))),?_⟩
  walk_at "dc";refine ⟨_,_,a1,rfl,t,v,l0,l1,k0,k1,gs,ns,kds,is0,is1,kss0,kss1,B,rfl,hT,hl0,hl1,hh0,hh1,fun H1 q xp s1 gq hpr=>?_⟩;have few:=a9.few [k0,k1];have hxl:=Paired.length hpr;generalize B [k0,k1]=rsl at *;refine ⟨q,rfl,⟨_,.of gq⟩,J3n (JB (xs:=xp)) (Jb (by omega)) (fun j zs σ H'=>(∃ v0 v1,σ=[v0,v1,some (V.ref t),some (V.ref l0),some (V.ref l1),none])/\Same H1 H'/\RowsI H' kds zs ((rsl.map Prod.snd).take j)) ⟨⟨none,none,rfl⟩,Same.refl _,⟨rfl,fun _ _ _ z=>by simp at z⟩⟩ (fun j zs σ H' ⟨_,q2,q4⟩=>⟨q2.seq (.of gq),by rw [q4.1,zR,zL];omega⟩) ?_ ?_⟩
  ·rintro i x zs σ H3 hx ⟨⟨v0,v1,rfl⟩,t1,hR⟩
   obtain ⟨⟨n,rs⟩,hrs,p,r,rfl,h1,h2,h3⟩:=Paired.ix (hpr.mono t1) hx;have hrs2:(rsl.map Prod.snd)[i]?=some rs:=by rw [zW,hrs];rfl
   refine ⟨p,_,rfl,.of h1,rfl,?_⟩;simp only [J21,J4s,JL];walk_at "dc";exact ⟨⟨_,rfl⟩,t1,by rw [Jw hrs2];exact J4X hR h2 h3.ok⟩
  ·rintro zs σ H3 ⟨⟨v0,v1,rfl⟩,t1,hR⟩ D hD
   have hml:(rsl.map Prod.snd).length=rsl.length:=zL ..;rw [hxl,<- hml,zX] at hR;have s3:=s1.trans t1;have u:=Same.upd_new hD (HO.lst zs);have gD:upd H3 D (HO.lst zs) D=some (.lst zs):=Jd;have hR4:=hR.mono u;generalize upd H3 D (HO.lst zs)=H4 at *;have s4:=s3.trans u;have b4:=a2.mono s4;refine ⟨_,_,_,s4 _ _ a1,T.wd.cls,T.wF,.ref v,rfl,v,_,_,_,rfl,rfl,.of b4.vw.v,Jf (j:=2) rfl,fg,rfl,⟨_,.of b4.fg⟩,?_⟩;generalize rsl.map Prod.snd=rsm at *;have hfl:=b4.fl;have hgl:=Paired.length b4.fs;refine JV (J0d (xs:=fvs)) (Jb (by omega)) (fun i ys H'=>Same H4 H'/\ys=((gs.take i).map fun g=>J87 g rsm)/\∀ g∈gs.take i,FgR g rsm (J87 g rsm)) ⟨Same.refl _,rfl,fun _ z=>nomatch z⟩ (fun _ _ H' _ q=>q.1.seqT (.of b4.fg)) (fun i ys H' q=>by rw [q.2.1,zL,zR];omega) (fun i x ys H5 hx q=>?_) (fun ys H5 q D5 hD5=>?_)
   ·obtain ⟨t5,rfl,hfr⟩:=q
    have b5:=b4.mono t5;obtain ⟨g,hg,hA⟩:=Paired.ix b5.fs hx;walk_at "dc";refine ⟨_,_,_,t5 _ _ (s4 _ _ a1),T.wd.cls,T.wE,.ref lf,rfl,lf,rfl,xs,b5.l,zs,ns,kds,b5.F,b5.kk,t5 _ _ gD,rsm,hR4.mono t5,by omega,_,hA.ask rsm,fun H6 v6 s6 hv6=>?_⟩;obtain ⟨e1,e2⟩:=hA.one (J4Y hR4) hv6;rw [Jw hg];refine ⟨⟨_,rfl⟩,t5.trans s6,by rw [zY,e1];rfl,fun g' hg'=>?_⟩;rcases zZ.mp hg' with hg' | hg'
    ·exact hfr g' hg'
    ·rw [zM.mp hg'];exact e2
   ·obtain ⟨t5,rfl,hfr⟩:=q
    rw [hgl,zX] at hfr ⊢;exact k _ _ (none_of (s4.trans t5) hD5) ((s4.trans t5).new hD5 _) Jd hfr
abbrev Jbv:List V:=[.str "word",.str "number"]
def J6w (l d:Addr)(g:Int):List (Str×V):=[("kept_fields",.ref l),("kept_rows",.ref d),("given",.int g)]
theorem Jab (h:Nam n):J1F (.str n) J0g=true:=by
 have e:J1N n J0g=true:=all_eq_true.mpr fun c hc=>zx (h.2.2 c hc);unfold J1F;simp [h.1,h.2.1,e]
theorem JaF (h:v=.non\/KdV kd v):J6a kd v=true:=by
 rcases h with rfl | ⟨rfl,z,rfl,hz⟩ | ⟨rfl,i,rfl,hi⟩
 ·rfl
 ·have e:J1N z (J0g++J2S)=true:=all_eq_true.mpr fun c hc=>zx (hz.2.2 c hc)
  unfold J6a;rw [zt (fun q=>nomatch q),zt (by decide)];unfold J1F;simp [hz.1,hz.2.1,e]
 ·unfold J6a
  rw [zt (fun q=>nomatch q),zu rfl];have:(if i<0 then -i else i)<10 ^ 60:=by split<;>omega
  exact zx this
def J7y (K:PySem.W.Frag):Sp:=fun vs H Q _=>∃ (p:Addr) (n kd:Str),vs=[.ref p]/\H p=some (.tup [.str n,.str kd])/\Nam n/\(kd=JF\/kd=numS)/\∀ H',Same H H'->Q (.bl true) H'
theorem J7U (T:Txt K mg f fd):FnOk P w K mg base CX0 4 (f 24) (fd 24) ["thing"] (J7y K):=by
 walk_at "ok yc J7H"
 ·obtain ⟨p,n,kd,rfl,_⟩:=h
  rfl
 ·obtain ⟨p,n,kd,rfl,hp,hn,hkd,k⟩:=h
  refine ⟨_,(J9 (Jt (PW.pt (J1u (J0i (J04 (Js (J0K rfl) T.wc Jr rfl (by decide) (by decide) rfl (pal rfl (pvl 0) (pal rfl (pty T.wf J0c) J1))))) (J0V (Jk J7S (Js (JZ rfl) T.wa Jv rfl (by decide) (by decide) rfl (pal rfl (pvl 0) J1)) Ja (Jm _)))))
   (Jc (Ji J0q))
   Jl)
   (Jc (Ji (J1L (Jg T.wX (J8V T) (hr.mono (by decide)) rfl (by decide) rfl (pal rfl (Jj (Jo rfl) (pvl 0) Ja (fun _ _=>rfl)) J1)) (J3h (JI (Jby rfl) (Jj (Jo rfl) (pvl 0) Ja (fun _ _=>rfl)) (JdT T.zi rfl (by decide)) rfl)))))),?_⟩
  walk_at "dc";refine ⟨_,Pl.of_tup hp,by decide,?_⟩;rw [show J73 "tuple" "tuple"=true from rfl];walk_at "dc";refine ⟨_,.inr (.of hp),?_⟩;rw [zt (by simp)];refine ⟨p,_,_,_,rfl,rfl,.of hp,Jf (j:=0) rfl,_,_,rfl,.of_str (Jb (by have:=hn.2.1;omega)),fun H1 s1=>⟨_,rfl,?_⟩⟩;rw [Jab hn,zu rfl];refine ⟨p,_,_,_,rfl,rfl,.of (s1 _ _ hp),Jf (j:=1) rfl,_,Jbv,rfl,.inr (T.zj H1),rfl,by decide,?_⟩;rw [zt zw,show inV (V.str kd) Jbv=true by rcases hkd with rfl | rfl<;>rfl];exact k H1 s1
inductive Q_asked_fields (K:PySem.W.Frag)(vs:List V)(H:Hp)(Q:VK):Prop
 | mk (a:Addr) (xs:List V) (ns kds:List Str) (u0_:vs=[.ref a]) (u1_:H a=some (.lst xs)) (u2_:FldsK H xs ns kds) (u3_:(∀ n∈ns,Nam n)) (u4_:(∀ kd∈kds,kd=JF\/kd=numS)) (u5_:1<=xs.length) (u6_:xs.length<=8) (u7_:∀ H',Same H H'->Q (.bl true) H'):Q_asked_fields K vs H Q
def J4k (K:PySem.W.Frag):Sp:=fun vs H Q _=>Q_asked_fields K vs H Q
theorem ok_asked_fields (T:Txt K mg f fd):FnOk P w K mg base CX0 5 (f 25) (fd 25) ["fields"] (J4k K):=by
 walk_at "ok yd J18"
 ·obtain ⟨a,xs,ns,kds,rfl,_⟩:=h
  rfl
 ·obtain ⟨a,xs,ns,kds,rfl,ha,hF,hnm,hkk,h1,h8,k⟩:=h
  refine ⟨_,(J9 (Jt (J0i (J04 (Js (J0K rfl) T.wc Jr rfl (by decide) (by decide) rfl (pal rfl (pvl 0) (pal rfl (pty T.wm J2l) J1)))))
   (Jc JY)
   Jl)
   (J9 (Jt (J0i (J7M J55 J55 Ja (Js (JZ rfl) T.wa Jv rfl (by decide) (by decide) rfl (pal rfl (pvl 0) J1)) (pgi T.zk)))
   (Jc JY)
   Jl)
   (J9 (psl 1 J18.nd J3D)
   (J9 (J09 PassesOwn.never rfl (J0Q rfl (pvl 0)) (pgl 2 J18.nd)
   (J9 (Jt (J0i (J04 (Jg T.yc (J7U T) (hr.mono (by decide)) rfl (by decide) rfl (pal rfl (pvl 2) J1))))
   (Jc JY)
   Jl)
   (J9 (Jt (Jb5 (JdX (J0b hr) (Jj (Jo rfl) (pvl 2) Ja (fun _ _=>rfl)) (pvl 1)))
   (Jc JY)
   Jl)
   (Jc (J2h (J0b hr) (pvl 1) (Jj (Jo rfl) (pvl 2) Ja (fun _ _=>rfl)) J0q rfl)))))
   (Jc (Ji J0q)))))),?_⟩
  walk_at "dc";refine ⟨_,Pl.of_lst ha,by decide,?_⟩;rw [show J73 "list" "list"=true from rfl];walk_at "dc";refine ⟨xs,.inl (.of ha),?_⟩;rw [zu (zx (by omega)),zt (by rw [zx (by omega)];decide)];intro p hp
  walk_at "nw p hp H1 t1 g1"
  refine J06 ?_;walk_at "dc";refine ⟨⟨xs,t1.seq (.of ha)⟩,?_⟩;refine ForW.of JB (fun j σ H'=>(∃ v2 kvs,σ=[some (V.ref a),some (V.ref p),v2]/\H' p=some (.dK kvs)/\kvs.length<=j/\∀ n:Str,(JG kvs (.inr n)).isSome=decide (n∈ns.take j))/\Same H H') ⟨⟨none,[],rfl,g1,zv _,fun n=>by simp [JG]⟩,t1⟩ (fun _ _ _ _ q=>q.2.seq (.of ha)) ?_ ?_
  ·rintro j x σ H2 hx ⟨⟨v2,kvs,rfl,gk,hkl,hkv⟩,s2⟩
   have hj:=(zK.mp hx).1;obtain ⟨q,n,kd,e1,hn,hk,hq⟩:=hF.at hj;obtain rfl:x=.ref q:=zA (hx.symm.trans e1);walk_at "dc";refine ⟨_,n,kd,rfl,s2 _ _ hq,hnm n (zP hn),hkk kd (zP hk),fun H3 s3=>⟨_,rfl,?_⟩⟩;rw [zt (by decide)];have hnot:n∉ns.take j:=fun hin=>by
    obtain ⟨i,hi⟩:=qa.mp hin;have hij:i<j:=by
     have:=(zK.mp hi).1;rw [zR] at this;omega
    rw [List.getElem?_take_of_lt hij] at hi;have:=J17 hF.2.2.1 hi hn;omega
   have hq3:=s3 _ _ (s2 _ _ hq);refine ⟨q,_,_,_,rfl,rfl,.of hq3,Jf (j:=0) rfl,_,DGet.k (k:=.inr n) (s3 _ _ gk),?_⟩;rw [hkv n,zy hnot,zt zw];refine ⟨q,_,_,_,rfl,rfl,.of hq3,Jf (j:=0) rfl,_,DPut.k (k:=.inr n) (s3 _ _ gk) (by rw [sizeLine_eq];omega),⟨_,Jd,zG (J0O _ _ _) (by omega),fun n'=>?_⟩,(s2.trans s3).set hp _⟩;rw [J7k,Jw hn];by_cases e:n'=n
   ·subst e
    rw [zu rfl];simp
   ·rw [zt (fun z=>e (Sum.inr.inj z)),hkv n',decide_eq_decide]
    simp [e]
  ·rintro σ H2 ⟨⟨v2,kvs,rfl,gk,hkl,hkv⟩,s2⟩
   walk_at "dc";exact k _ s2
inductive Q_asked_row (K:PySem.W.Frag)(vs:List V)(H:Hp)(Q:VK):Prop
 | mk (l r:Addr) (xs rs:List V) (ns kds:List Str) (u0_:vs=[.ref l,.ref r]) (u1_:H l=some (.lst xs)) (u2_:FldsK H xs ns kds) (u3_:H r=some (.tup rs)) (u4_:RowS kds rs) (u5_:∀ H',Same H H'->Q (.bl true) H'):Q_asked_row K vs H Q
def J6p (K:PySem.W.Frag):Sp:=fun vs H Q _=>Q_asked_row K vs H Q
theorem J3E (T:Txt K mg f fd):FnOk P w K mg base CX0 5 (f 27) (fd 27) ["fields","row"] (J6p K):=by
 walk_at "ok wJ J28"
 ·obtain ⟨l,r,xs,rs,ns,kds,rfl,_⟩:=h
  rfl
 ·obtain ⟨l,r,xs,rs,ns,kds,rfl,hl,hF,hr',hR,k⟩:=h
  have hL1:=hF.2.1;have hL2:=hR.1;refine ⟨_,(J9 (J09 PassesOwn.never rfl (Jd2 rfl rfl T.yQ (pal rfl (pvl 1) J1) rfl) (J4d rfl rfl (J02 (pgl 2 J28.nd) (J02 (pgl 3 J28.nd) J1E)))
   (Jc (Jt (PW.pt (J1u (Jk JeH (pvl 2) (Js (JZ rfl) T.wa Jv rfl (by decide) (by decide) rfl (pal rfl (pvl 0) J1)) (Jm _)) (J0V (J0i (J04 (Jg T.wI (ok_is_value T) (hr.mono (by decide)) rfl (by decide) rfl (pal rfl (Jj (Jo rfl) (Jj (J0I rfl) (pvl 0) (pvl 2) (fun _ _=>rfl)) Ja (fun _ _=>rfl)) (pal rfl (pvl 3) J1))))))))
   (Jc JY)
   Jl)))
   (J9 (Jt (Jk J54 (Js (JZ rfl) T.wa Jv rfl (by decide) (by decide) rfl (pal rfl (pvl 1) J1)) (Js (JZ rfl) T.wa Jv rfl (by decide) (by decide) rfl (pal rfl (pvl 0) J1)) (Jm _))
   (Jc JY)
   Jl)
   (Jc (Ji J0q)))),?_⟩
  walk_at "dc";refine J06 ?_;unfold J99;walk_at "dc";refine .inr ⟨⟨rs,.of hr'⟩,ForW.enumT (xs:=rs) (fun j σ H'=>(∃ v2 v3,σ=[some (V.ref l),some (V.ref r),v2,v3])/\Same H H') ⟨⟨none,none,rfl⟩,Same.refl _⟩ (fun _ _ _ q=>q.2.seqT (.of hr')) ?_ ?_⟩
  ·rintro j x σ H1 p hx ⟨⟨v2,v3,rfl⟩,s1⟩ hp
   have s2:=s1.new hp (HO.tup [V.int (j:Int),x]);refine ⟨p,_,rfl,.of Jd,rfl,?_⟩;generalize upd H1 p (HO.tup [V.int (j:Int),x])=H2 at *;simp only [J21,J4s,JL];walk_at "dc";have hj:=(zK.mp hx).1;obtain ⟨q,n,kd,e1,hn,hk,hq⟩:=hF.at (i:=j) (by omega);obtain ⟨b1,b2⟩:=hR.fl (i:=j) (by omega);have ex:rs.getD j .non=x:=J0Y hx;rw [ex] at b2;obtain ⟨Ty,hTy⟩:=b2.pl (K:=K) (H:=H2);refine ⟨xs,.inl (s2.seq (.of hl)),?_⟩;rw [zt (by simp;omega)];refine ⟨l,xs,_,_,rfl,rfl,.of (s2 _ _ hl),Jf e1,q,_,_,_,rfl,rfl,.of (s2 _ _ hq),Jf (j:=1) rfl,kd,x,Ty,rfl,hTy,fun H3 s3=>⟨_,rfl,?_⟩⟩;rw [JaF (hR.2 j x kd hx hk),zt (by decide)];exact ⟨⟨_,rfl⟩,s2.trans s3⟩
  ·rintro σ H1 ⟨⟨v2,v3,rfl⟩,s1⟩
   walk_at "dc";refine ⟨rs,.inr (s1.seqT (.of hr')),xs,.inl (s1.seq (.of hl)),?_⟩;rw [zt (by simp;omega)];exact k H1 s1
structure ShAt (f:Nat->Addr)(H:Hp)(o l d:Addr)(g:Int)(xs:List V)(kvs:List (Key×V)):Prop where
 o:∃ dx,H o=some (.ins (f 28) dx (J6w l d g))
 l:H l=some (.lst xs)
 d:H d=some (.dK kvs)
theorem ShAt.mono {f:Nat->Addr}{o:Addr}(s:Same H H')(h:ShAt f H o l d g xs kvs):ShAt f H' o l d g xs kvs:=⟨h.o.imp fun _ z=>s _ _ z,s _ _ h.l,s _ _ h.d⟩
inductive Q_Sheet___init__ (K:PySem.W.Frag)(f:Nat->Addr)(vs:List V)(H:Hp)(Q:VK):Prop
 | mk (G:Hp) (a dx l:Addr) (xs:List V) (ns kds:List Str) (u0_:vs=[.ref a,.ref l]) (u1_:Same G H) (u2_:G a=none) (u3_:H a=some (.ins (f 28) dx [])) (u4_:G l=some (.lst xs)) (u5_:FldsK G xs ns kds) (u6_:(∀ n∈ns,Nam n)) (u7_:(∀ kd∈kds,kd=JF\/kd=numS)) (u8_:1<=xs.length) (u9_:xs.length<=8) (u10_:∀ H' lf d,Same G H'->G d=none->G lf=none->ShAt f H' a lf d 0 xs []->Q .non H'):Q_Sheet___init__ K f vs H Q
def J3v (K:PySem.W.Frag)(f:Nat->Addr):Sp:=fun vs H Q _=>Q_Sheet___init__ K f vs H Q
theorem ok_Sheet___init__ (T:Txt K mg f fd):FnOk P w K mg base CX0 6 (f 29000) (fd 29000) ["self","fields"] (J3v K f):=by
 walk_at "ok yF J3A"
 ·obtain ⟨G,a,dx,l,xs,ns,kds,rfl,_⟩:=h
  rfl
 ·obtain ⟨G,a,dx,l,xs,ns,kds,rfl,s0,hGa,ha,hl,hF,hnm,hkk,h1,h8,k⟩:=h
  refine ⟨_,(J9 (JM (Jg T.yd (ok_asked_fields T) (hr.mono (by decide)) rfl (by decide) rfl (pal rfl (pvl 1) J1)))
   (J9 (J2D (pvl 0) (J0t (J72 rfl) T.wm J2l rfl (by decide) (by decide) rfl (pal rfl (pvl 1) J1)) rfl)
   (J9 (J2D (pvl 0) J3D rfl)
   (Jc (J2D (pvl 0) Ja rfl))))),?_⟩
  walk_at "dc";refine ⟨l,xs,ns,kds,rfl,s0 _ _ hl,hF.mono s0,hnm,hkk,h1,h8,fun H1 s1=>?_⟩;have S1:=s0.trans s1;refine ⟨xs,.inl (.of (S1 _ _ hl)),fun p hp=>?_⟩;have ha1:=s1 _ _ ha;have nap:a≠p:=JU ha1 hp;have hp0:=none_of S1 hp;have S2:=S1.new hp (HO.lst xs);have ha2:=Same.upd_new hp (HO.lst xs) _ _ ha1;have gp:upd H1 p (HO.lst xs) p=some (.lst xs):=Jd;generalize upd H1 p (HO.lst xs)=H2 at *;refine ⟨_,_,_,ha2,T.wb.cls,T.wD,by decide,fun d hd=>?_⟩;have nad:d≠a:=fun z=>by subst z;rw [Jd] at hd;cases hd
  refine ⟨_,_,_,by rw [Jh (Ne.symm nad),Jd],T.wb.cls,T.wl,by simp [J0R],_,_,_,Jd,T.wb.cls,T.wV,?_,?_⟩
  ·simp [J0R]
   split<;>simp
  ·rw [Jh nad] at hd
   have hd0:=none_of S2 hd;have ndp:d≠p:=fun z=>by rw [z,gp] at hd;cases hd
   rw [J4v];refine k _ p d ((((S2.set hGa _).set hd0 _)).set hGa _) hd0 hp0 ⟨⟨dx,Jd⟩,?_,?_⟩
   ·rw [Jh (Ne.symm nap),Jh (Ne.symm ndp),Jh (Ne.symm nap)]
    exact gp
   ·rw [Jh nad]
    exact Jd
inductive Q_Sheet_fields (K:PySem.W.Frag)(f:Nat->Addr)(vs:List V)(H:Hp)(Q:VK):Prop
 | mk (o l d:Addr) (g:Int) (xs:List V) (kvs:List (Key×V)) (u0_:vs=[.ref o]) (u1_:ShAt f H o l d g xs kvs) (u2_:∀ H' p,Same H H'->H' p=some (.lst xs)->Q (.ref p) H'):Q_Sheet_fields K f vs H Q
def J4m (K:PySem.W.Frag)(f:Nat->Addr):Sp:=fun vs H Q _=>Q_Sheet_fields K f vs H Q
theorem J4q (T:Txt K mg f fd):FnOk P w K mg base CX0 1 (f 29001) (fd 29001) ["self"] (J4m K f):=by
 walk_at "ok yG J4p"
 ·obtain ⟨o,l,d,g,xs,kvs,rfl,_⟩:=h
  rfl
 ·obtain ⟨o,l,d,g,xs,kvs,rfl,hS,k⟩:=h
  obtain ⟨dx,ho⟩:=hS.o;refine ⟨_,(Jc (Ji (J0t (J72 rfl) T.wm J2l rfl (by decide) (by decide) rfl (pal rfl (J0C (pvl 0) rfl) J1)))),?_⟩;walk_at "dc";exact ⟨_,_,_,ho,T.wb.cls,T.wD,_,rfl,l,rfl,xs,.inl (.of hS.l),fun p hp=>k _ p (Same.upd_new hp _) Jd⟩
def J6r (K:PySem.W.Frag)(f:Nat->Addr):Sp:=fun vs H Q _=>∃ (o l d:Addr) (g n:Int) (xs:List V) (kvs:List (Key×V)) (v:V),vs=[.ref o,.int n]/\ShAt f H o l d g xs kvs/\JG kvs (.inl n)=some v/\Q v H
theorem J2j (T:Txt K mg f fd):FnOk P w K mg base CX0 1 (f 29005) (fd 29005) ["self","number"] (J6r K f):=by
 walk_at "ok wB J6B"
 ·obtain ⟨o,l,d,g,n,xs,kvs,v,rfl,_⟩:=h
  rfl
 ·obtain ⟨o,l,d,g,n,xs,kvs,v,rfl,hS,hv,k⟩:=h
  obtain ⟨dx,ho⟩:=hS.o;refine ⟨_,(J9 (Jt (Jb5 (Ja5 (J0b hr) (pvl 1) (J0C (pvl 0) rfl)))
   (Jc JY)
   Jl)
   (Jc (Ji (JX (J0b hr) (J0C (pvl 0) rfl) (pvl 1) (fun _ _=>rfl))))),?_⟩
  walk_at "dc";refine ⟨_,_,_,ho,T.wb.cls,T.wl,_,rfl,d,rfl,_,DGet.k (k:=Sum.inl n) hS.d,?_⟩;rw [hv,zt (by simp)];exact ⟨_,_,_,ho,T.wb.cls,T.wl,_,rfl,d,rfl,v,by rw [<- hv];exact DGet.k (k:=Sum.inl n) hS.d,k⟩
inductive Q_Sheet_out (K:PySem.W.Frag)(f:Nat->Addr)(vs:List V)(H:Hp)(Q:VK):Prop
 | mk (o l d:Addr) (g n:Int) (xs:List V) (kvs:List (Key×V)) (v:V) (u0_:vs=[.ref o,.int n]) (u1_:ShAt f H o l d g xs kvs) (u2_:JG kvs (.inl n)=some v) (u3_:Q v (upd H d (.dK (J2K kvs (.inl n))))):Q_Sheet_out K f vs H Q
def J6t (K:PySem.W.Frag)(f:Nat->Addr):Sp:=fun vs H Q _=>Q_Sheet_out K f vs H Q
theorem J6Q (T:Txt K mg f fd):FnOk P w K mg base CX0 2 (f 29003) (fd 29003) ["self","number"] (J6t K f):=by
 walk_at "ok yI J3z"
 ·obtain ⟨o,l,d,g,n,xs,kvs,v,rfl,_⟩:=h
  rfl
 ·obtain ⟨o,l,d,g,n,xs,kvs,v,rfl,hS,hv,k⟩:=h
  obtain ⟨dx,ho⟩:=hS.o;refine ⟨_,(J9 (psl 2 J3z.nd (J0F (pvl 0) T.wb.cls T.wT (J2j T) (hr.mono (by decide)) T.wB.b .nil J0W (pal rfl (pvl 1) J1) rfl rfl rfl))
   (J9 (JM (J1h rfl PySem.F.plainAttrs_dict PySem.F.slot_dict_pop PySem.F.type_dict_pop J9A rfl rfl rfl rfl (J0C (pvl 0) rfl) (pal rfl (pvl 1) J1)))
   (Jc (Ji (pvl 2))))),?_⟩
  walk_at "dc";exact ⟨_,_,ho,rfl,o,l,d,g,n,xs,kvs,v,rfl,hS,hv,_,_,_,ho,T.wb.cls,T.wl,_,rfl,.inr (.inr (.inl ⟨rfl,.inl ⟨kvs,hS.d⟩⟩)),d,rfl,kvs,.inl n,rfl,hS.d,⟨v,hv⟩,k⟩
inductive Q_Sheet_put (K:PySem.W.Frag)(f:Nat->Addr)(vs:List V)(H:Hp)(Q:VK):Prop
 | mk (o l d r:Addr) (g:Int) (xs rs:List V) (ns kds:List Str) (kvs:List (Key×V)) (u0_:vs=[.ref o,.ref r]) (u1_:ShAt f H o l d g xs kvs) (u2_:FldsK H xs ns kds) (u3_:H r=some (.tup rs)) (u4_:RowS kds rs) (u5_:kvs.length<1000) (u6_:∀ H' dx,Same H H'->Q (.int g) (upd (upd H' d (.dK (J0k kvs (.inl g) (.ref r)))) o (.ins (f 28) dx (J6w l d (g+1))))):Q_Sheet_put K f vs H Q
def J6s (K:PySem.W.Frag)(f:Nat->Addr):Sp:=fun vs H Q _=>Q_Sheet_put K f vs H Q
theorem J6P (T:Txt K mg f fd):FnOk P w K mg base CX0 6 (f 29002) (fd 29002) ["self","row"] (J6s K f):=by
 walk_at "ok yH J3y"
 ·obtain ⟨o,l,d,r,g,xs,rs,ns,kds,kvs,rfl,_⟩:=h
  rfl
 ·obtain ⟨o,l,d,r,g,xs,rs,ns,kds,kvs,rfl,hS,hF,hr',hR,hz,k⟩:=h
  obtain ⟨dx,ho⟩:=hS.o;refine ⟨_,(J9 (JM (Jg T.wJ (J3E T) (hr.mono (by decide)) rfl (by decide) rfl (pal rfl (J0C (pvl 0) rfl) (pal rfl (pvl 1) J1))))
   (J9 (psl 2 J3y.nd (J0C (pvl 0) rfl))
   (J9 (J2h (J0b hr) (J0C (pvl 0) rfl) (pvl 2) (J0t (J13 rfl) T.wf J0c rfl (by decide) (by decide) rfl (pal rfl (pvl 1) J1)) rfl)
   (J9 (J2D (pvl 0) (Jn J05 (pvl 2) Ja) rfl)
   (Jc (Ji (pvl 2))))))),?_⟩
  walk_at "dc";refine ⟨_,_,_,ho,T.wb.cls,T.wD,_,rfl,l,r,xs,rs,ns,kds,rfl,hS.l,hF,hr',hR,fun H1 s1=>?_⟩;have ndo:d≠o:=fun z=>by have:=hS.d;rw [z,ho] at this;cases this
  have ho2:=s1 _ _ ho;exact ⟨_,_,_,ho2,T.wb.cls,T.wV,_,rfl,rs,.inr ⟨.of (s1 _ _ hr'),_,_,_,ho2,T.wb.cls,T.wl,_,rfl,d,rfl,_,DPut.k (k:=Sum.inl g) (s1 _ _ hS.d) (Jb (by omega)),g,rfl,_,_,_,by rw [Jh (Ne.symm ndo)];exact ho2,T.wb.cls,T.wV,(by show 3<1000;decide),k H1 dx s1⟩⟩
inductive Q_Sheet_turn (K:PySem.W.Frag)(f:Nat->Addr)(vs:List V)(H:Hp)(Q:VK):Prop
 | mk (o l d r:Addr) (g n:Int) (xs rs:List V) (ns kds:List Str) (kvs:List (Key×V)) (v:V) (u0_:vs=[.ref o,.int n,.ref r]) (u1_:ShAt f H o l d g xs kvs) (u2_:FldsK H xs ns kds) (u3_:H r=some (.tup rs)) (u4_:RowS kds rs) (u5_:kvs.length<1000) (u6_:JG kvs (.inl n)=some v) (u7_:∀ H',Same H H'->Q v (upd H' d (.dK (J0k kvs (.inl n) (.ref r))))):Q_Sheet_turn K f vs H Q
def J5z (K:PySem.W.Frag)(f:Nat->Addr):Sp:=fun vs H Q _=>Q_Sheet_turn K f vs H Q
theorem J5I (T:Txt K mg f fd):FnOk P w K mg base CX0 6 (f 29004) (fd 29004) ["self","number","row"] (J5z K f):=by
 walk_at "ok yJ J32"
 ·obtain ⟨o,l,d,r,g,n,xs,rs,ns,kds,kvs,v,rfl,_⟩:=h
  rfl
 ·obtain ⟨o,l,d,r,g,n,xs,rs,ns,kds,kvs,v,rfl,hS,hF,hr',hR,hz,hv,k⟩:=h
  obtain ⟨dx,ho⟩:=hS.o;refine ⟨_,(J9 (psl 3 J32.nd (J0F (pvl 0) T.wb.cls T.wT (J2j T) (hr.mono (by decide)) T.wB.b .nil J0W (pal rfl (pvl 1) J1) rfl rfl rfl))
   (J9 (JM (Jg T.wJ (J3E T) (hr.mono (by decide)) rfl (by decide) rfl (pal rfl (J0C (pvl 0) rfl) (pal rfl (pvl 2) J1))))
   (J9 (J2h (J0b hr) (J0C (pvl 0) rfl) (pvl 1) (J0t (J13 rfl) T.wf J0c rfl (by decide) (by decide) rfl (pal rfl (pvl 2) J1)) rfl)
   (Jc (Ji (pvl 3)))))),?_⟩
  walk_at "dc";refine ⟨_,_,ho,rfl,o,l,d,g,n,xs,kvs,v,rfl,hS,hv,_,_,_,ho,T.wb.cls,T.wD,_,rfl,l,r,xs,rs,ns,kds,rfl,hS.l,hF,hr',hR,fun H1 s1=>?_⟩;exact ⟨rs,.inr ⟨.of (s1 _ _ hr'),_,_,_,s1 _ _ ho,T.wb.cls,T.wl,_,rfl,d,rfl,_,DPut.k (k:=Sum.inl n) (s1 _ _ hS.d) (Jb (by omega)),k H1 s1⟩⟩
inductive Q_Sheet_numbers (K:PySem.W.Frag)(f:Nat->Addr)(vs:List V)(H:Hp)(Q:VK):Prop
 | mk (o l d:Addr) (g:Int) (xs:List V) (kvs:List (Key×V)) (ks:List Int) (u0_:vs=[.ref o]) (u1_:ShAt f H o l d g xs kvs) (u2_:kvs.map (·.1)=ks.map Sum.inl) (u3_:kvs.length<64) (u4_:∀ p,∀ ms:List Int,H p=none->ms.Perm ks->ms.Pairwise (·<=·)->Q (.ref p) (upd H p (.lst (ms.map V.int)))):Q_Sheet_numbers K f vs H Q
def J3R (K:PySem.W.Frag)(f:Nat->Addr):Sp:=fun vs H Q _=>Q_Sheet_numbers K f vs H Q
theorem J1Z (T:Txt K mg f fd):FnOk P w K mg base CX0 1 (f 29006) (fd 29006) ["self"] (J3R K f):=by
 walk_at "ok wQ J3T"
 ·obtain ⟨o,l,d,g,xs,kvs,ks,rfl,_⟩:=h
  rfl
 ·obtain ⟨o,l,d,g,xs,kvs,ks,rfl,hS,hk,h64,k⟩:=h
  obtain ⟨dx,ho⟩:=hS.o;refine ⟨_,(Jc (Ji (Js (J10 rfl) T.wq J22 rfl (by decide) (by decide) rfl (pal rfl (J0C (pvl 0) rfl) J1)))),?_⟩;walk_at "dc";exact ⟨_,_,_,ho,T.wb.cls,T.wl,_,rfl,d,rfl,kvs,hS.d,ks,hk,h64,k⟩
theorem J7R {x1 x2:Str}(h1:J8g x1)(h2:J8g x2):SeqAt.shaped (.tuple [.str x1,.str x2])=true:=by
 simp [SeqAt.shaped,PyData.canLay0,PyData.canLayAll0,PyData.depth,PyData.depthAll,J2p h1,J2p h2]
def Word4 (hd:Str):Prop:=hd="sum"\/hd="greatest"\/hd="least"\/hd="unlike"
theorem Word4.ok (h:Word4 hd):hd≠"count"/\J8g hd/\inV (.str hd) [.str "sum",.str "greatest",.str "least",.str "unlike"]=true:=by
 rcases h with rfl | rfl | rfl | rfl<;>exact ⟨by decide,by decide +kernel,by decide⟩
theorem J4K (zs:List Str)(e:Str):∀ k,k<=zs.length->(List.range k).map (fun i=>zs.getD i e)=zs.take k
 | 0,_=>rfl
 | k+1,h=>by
   have hk:k<zs.length:=h;rw [range_succ,zY,J4K zs e k (by omega),Jw (zJ hk)];simp [zO,zJ hk]
theorem unl_take (zs:List Str)(e:Str):∀ k,k<=zs.length->(unl (fun i=>zs.getD i e) k=k↔(zs.take k).Nodup)
 | 0,_=>by simp [unl]
 | k + 1,h=>by
   have hk:k<zs.length:=h;have ih:=unl_take zs e k (by omega);have le:=J4H (fun i=>zs.getD i e) k;have ek:zs.getD k e=zs[k]:=by simp [zO,zJ hk]
   rw [Jw (zJ hk)];unfold unl;rw [J4K zs e k (by omega),ek];have en:(zs.take k++[zs[k]]).Nodup↔(zs.take k).Nodup/\zs[k]∉zs.take k:=by
    rw [nodup_append];constructor
    ·rintro ⟨a,_,c⟩
     exact ⟨a,fun z=>c _ z _ (zM.mpr rfl) rfl⟩
    ·rintro ⟨a,c⟩
     exact ⟨a,by simp,fun x hx y hy z=>c (by rw [zM.mp hy] at z;rw [<- z];exact hx)⟩
   rw [en];by_cases c:zs[k]∈zs.take k
   ·rw [zu (by rw [any_eq_true];exact ⟨_,c,by simp⟩)]
    constructor
    ·intro z
     omega
    ·exact fun z=>absurd c z.2
   ·rw [zt (by rw [any_eq_true];rintro ⟨x,hx,z⟩;exact c (by rw [<- eq_of_beq z];exact hx))]
    rw [<- ih];constructor
    ·exact fun z=>⟨by omega,c⟩
    ·exact fun z=>by have:=z.1;omega
theorem Jci (zs:List Str)(e:Str):unl (fun i=>zs.getD i e) zs.length=zs.length↔zs.Nodup:=by
 have:=unl_take zs e zs.length (zv _);rwa [zX] at this
theorem HdOk.w4 (h:HdOk hd kd):Word4 hd:=by
 rcases h with ⟨e,_⟩ | e | e | e
 ·exact .inl e
 ·exact .inr (.inl e)
 ·exact .inr (.inr (.inl e))
 ·exact .inr (.inr (.inr e))
theorem Nam.nm (h:Nam n):Jdl 12 n:=⟨h.2.1,fun c hc=>Je5 c (h.2.2 c hc)⟩
def J6n (K:PySem.W.Frag):Sp:=fun vs H Q _=>∃ (v:V) (g:Fg) (ns kds:List Str),vs=[v]/\FgAt H ns kds v g/\(∀ n∈ns,Nam n)/\∀ H',Same H H'->Q (.bl true) H'
theorem J6O (T:Txt K mg f fd):FnOk P w K mg base CX0 1 (f 31) (fd 31) ["thing"] (J6n K):=by
 walk_at "ok ye J6A"
 ·obtain ⟨v,g,ns,kds,rfl,_⟩:=h
  rfl
 ·obtain ⟨v,g,ns,kds,rfl,⟨p,rfl,hg⟩,hnm,k⟩:=h
  refine ⟨_,(J9 (Jt (J0i (J04 (Js (J0K rfl) T.wc Jr rfl (by decide) (by decide) rfl (pal rfl (pvl 0) (pal rfl (pty T.wf J0c) J1)))))
   (Jc (Ji J0q))
   Jl)
   (J9 (Jt (Jk (J5h rfl hr.units) (pvl 0) (Jy (pal rfl Jp J1)) (Jm _))
   (Jc (Ji J0q))
   Jl)
   (Jc (Ji (J1L (JI JA (Js (JZ rfl) T.wa Jv rfl (by decide) (by decide) rfl (pal rfl (pvl 0) J1)) Ja (Jm _)) (J1L (JI (Jby rfl) (Jj (Jo rfl) (pvl 0) Ja (fun _ _=>rfl)) (JdT T.zm rfl (by decide)) rfl) (J3h (Js (J0K rfl) T.wc Jr rfl (by decide) (by decide) rfl (pal rfl (Jj (Jo rfl) (pvl 0) Ja (fun _ _=>rfl)) (pal rfl (pty T.wk J2L) J1)))))))))),?_⟩
  walk_at "dc";have vc:J8g ("count":Str):=by decide +kernel
  have rc:∀ (G:Hp) c,G c=some (.tup [.str "count"])->Rep K G (.tuple [.str "count"]) (.ref c):=fun G c hc=>by
   simp only [Rep];exact ⟨c,_,rfl,.of hc,by simp [Reps,Rep]⟩
  have sc:SeqAt.shaped (.tuple [.str "count"])=true:=by simp [SeqAt.shaped,PyData.canLay0,PyData.canLayAll0,PyData.depth,PyData.depthAll,J2p vc]
  rcases hg with ⟨_,hp⟩ | ⟨hd,n,j,kd,_,hp,hn,hk,hw⟩
  ·refine ⟨_,Pl.of_tup hp,by decide,?_⟩
   rw [zt (by decide)];refine ⟨Jb (by decide),fun q hq=>?_⟩
   walk_at "nw q hq H2 u gq"
   refine ⟨_,_,rc H2 p (u _ _ hp),rc H2 q gq,sc,sc,_,rfl,?_⟩;rw [zt zw,zu (by simp [PyData.eqv,PyData.eqvAll])];exact k H2 u
  ·obtain ⟨w1,w2,w3⟩:=hw.w4.ok
   have hn:=(hnm n (zP hn)).nm;refine ⟨_,Pl.of_tup hp,by decide,?_⟩;rw [zt (by decide)];refine ⟨Jb (by decide),fun q hq=>?_⟩
   walk_at "nw q hq H2 u gq"
   refine ⟨.tuple [.str hd,.str n],_,by simp only [Rep];exact ⟨p,_,rfl,.of (u _ _ hp),by simp [Reps,Rep]⟩,rc H2 q gq,J7R w2 hn.2,sc,_,rfl,?_⟩;rw [zt zw,zt (by simp [PyData.eqv,PyData.eqvAll])];have hn13:=hn.1;refine ⟨_,.inr (.of (u _ _ hp)),?_⟩;rw [zu (by simp)];refine ⟨p,_,_,_,rfl,rfl,.of (u _ _ hp),Jf (j:=0) rfl,_,_,rfl,.inr (T.zn H2),by rfl,by decide,_,rfl,?_⟩;rw [zt zw,zu w3];exact ⟨p,_,_,_,rfl,rfl,.of (u _ _ hp),Jf (j:=1) rfl,"str",.of_str (Jb (by omega)),by decide,k H2 u⟩
def J4j (K:PySem.W.Frag):Sp:=fun vs H Q _=>∃ (l:Addr) (v:V) (xs:List V) (ns kds:List Str) (g:Fg),vs=[.ref l,v]/\H l=some (.lst xs)/\FldsK H xs ns kds/\FgAt H ns kds v g/\∀ H',Same H H'->Q (.bl true) H'
theorem ok_asked_figure (T:Txt K mg f fd):FnOk P w K mg base CX0 2 (f 32) (fd 32) ["fields","figure"] (J4j K):=by
 walk_at "ok yf J2n"
 ·obtain ⟨l,v,xs,ns,kds,g,rfl,_⟩:=h
  rfl
 ·obtain ⟨l,v,xs,ns,kds,g,rfl,hl,hF,⟨p,rfl,hg⟩,k⟩:=h
  refine ⟨_,(J9 (Jt (Jk JA (Jj (Jo rfl) (pvl 1) Ja (fun _ _=>rfl)) Jp (Jm _))
   (Jc (Ji J0q))
   Jl)
   (J9 (psl 2 J2n.nd (Jj (Jo rfl) (Jj (J0I rfl) (pvl 0) (Jg T.wj (ok_field_at T) (hr.mono (by decide)) rfl (by decide) rfl (pal rfl (pvl 0) (pal rfl (Jj (Jo rfl) (pvl 1) Ja (fun _ _=>rfl)) J1))) (fun _ _=>rfl)) Ja (fun _ _=>rfl)))
   (J9 (Jt (PW.pt (J3g (Jk JA (Jj (Jo rfl) (pvl 1) Ja (fun _ _=>rfl)) Jp (Jm _)) (J2g (Jk J7S (pvl 2) Jp (Jm _)))))
   (Jc JY)
   Jl)
   (Jc (Ji J0q))))),?_⟩
  walk_at "dc";rcases hg with ⟨_,hp⟩ | ⟨hd,n,j,kd,_,hp,hj,hkd,hw⟩
  ·refine ⟨p,_,_,_,rfl,rfl,.of hp,Jf (j:=0) rfl,rfl,?_⟩
   rw [zu (by decide)];exact k H (Same.refl H)
  ·refine ⟨p,_,_,_,rfl,rfl,.of hp,Jf (j:=0) rfl,rfl,?_⟩
   rw [zt (by simpa using hw.w4.ok.1)];refine ⟨p,_,_,_,rfl,rfl,.of hp,Jf (j:=1) rfl,l,xs,ns,kds,n,j,rfl,hl,hF,hj,fun H1 s1=>?_⟩;obtain ⟨p',n',kd',e1,e2,e3,e4⟩:=hF.at (show j<xs.length by rw [<- hF.1];exact (zK.mp hj).1);obtain rfl:kd=kd':=zA (hkd.symm.trans e3);refine ⟨l,xs,_,_,rfl,rfl,.of (s1 _ _ hl),Jf e1,p',_,_,_,rfl,rfl,.of (s1 _ _ e4),Jf (j:=1) rfl,p,_,_,_,rfl,rfl,.of (s1 _ _ hp),Jf (j:=0) rfl,rfl,?_⟩;by_cases c:hd="sum"
   ·have hkn:kd=numS:=by rcases hw with ⟨_,e⟩ | rfl | rfl | rfl;exact e;all_goals exact absurd c (by decide)
    rw [zu (by simpa using c)];refine ⟨rfl,?_⟩;rw [zt (by rw [hkn];decide)];exact k H1 s1
   ·rw [zt (by simpa using c)]
    exact k H1 s1
def nmS (ns:List Str)(is:List Nat):List Str:=is.map fun i=>ns.getD i JF
theorem Jbl (ns:List Str)(is:List Nat):nmT ns is=.tup ((nmS ns is).map V.str):=by
 unfold nmT nmS;rw [map_map];rfl
theorem J6S {is:List Nat}(hi:∀ i∈is,i<ns.length)(hz:z∈nmS ns is):∃ i:Nat,ns[i]?=some z:=by
 obtain ⟨i,h,rfl⟩:=qb.mp hz;exact ⟨i,by rw [J0Y (zJ (hi i h))];exact zJ (hi i h)⟩
theorem Jbm {ns:List Str}:∀ {is:List Nat},ns.Nodup->(∀ i∈is,i<ns.length)->is.Nodup->(nmS ns is).Nodup
 | [],_,_,_=>nodup_nil
 | i::is,hn,hi,nd=>by
   rw [nodup_cons] at nd;unfold nmS;rw [zV,nodup_cons];refine ⟨fun z=>?_,Jbm hn (fun j hj=>hi j (zS _ hj)) nd.2⟩;obtain ⟨j,hj,e⟩:=qb.mp z;have h1:=zJ (hi i zT);have h2:=zJ (hi j (zS _ hj));rw [J0Y h1,J0Y h2] at e;have:=J17 hn h2 (by rw [h1,e]);exact nd.1 (this ▸ hj)
def J8v (K:PySem.W.Frag):Sp:=fun vs H Q _=>∃ p,∃ zs:List Str,vs=[.ref p]/\H p=some (.tup (zs.map V.str))/\(∀ z∈zs,z.length<=13)/\zs.length<=3/\∀ H',Same H H'->Q (.bl true) H'
theorem J58 (T:Txt K mg f fd):FnOk P w K mg base CX0 1 (f 37) (fd 37) ["thing"] (J8v K):=by
 walk_at "ok wK J8F"
 ·obtain ⟨p,zs,rfl,_⟩:=h
  rfl
 ·obtain ⟨p,zs,rfl,hp,h13,c,k⟩:=h
  refine ⟨_,(J9 (Jt (PW.pt (J1u (J0i (J04 (Js (J0K rfl) T.wc Jr rfl (by decide) (by decide) rfl (pal rfl (pvl 0) (pal rfl (pty T.wf J0c) J1))))) (J0V (Jk J5Q (Js (JZ rfl) T.wa Jv rfl (by decide) (by decide) rfl (pal rfl (pvl 0) J1)) (pgi T.zo) (Jm _)))))
   (Jc (Ji J0q))
   Jl)
   (Jc (Ji (Js (J5V rfl rfl) T.wp J46 rfl (by decide) (by decide) rfl (pal rfl (J00 ["name"] ["thing"] rfl (show CompSc _ (Je J2P) ["thing"] ["thing"] from Ju (by decide +kernel)) (J1y rfl (pvl 0)) (fun _ _ _ _ _=>(pgl 0 (show (["name","thing"]:List Str).Nodup by decide +kernel))) (fun _ _ _ _ _=>JH) (fun _ _ _ _ _=>(Js (J0K rfl) T.wc Jr rfl (by decide) (by decide) rfl (pal rfl (pvl 0) (pal rfl (pty T.wk J2L) J1))))) J1))))),?_⟩
  walk_at "dc";refine ⟨_,Pl.of_tup hp,by decide,?_⟩;rw [zt (by decide)];refine ⟨_,.inr (.of hp),?_⟩;rw [zL,zt (by simp;omega)];refine ⟨⟨_,.of hp⟩,?_⟩;refine comp_of (as:=zs) (g:=V.str) J0d (Jb (by omega)) (fun H' s=>s.seqT (.of hp)) (fun _=>true) (fun _=>.bl true) (fun _ H1 Q _ _ q=>q H1 (Same.refl _)) (fun z H1 Q hz _ s1 q=>?_) (fun H1 s1 D hD=>?_)
  ·walk_at "dc"
   have:=h13 z hz;exact ⟨"str",.of_str (Jb (by omega)),by decide,q H1 (Same.refl _)⟩
  ·rw [J0p]
   refine ⟨zs.map fun _=>true,.of (by rw [Jd,map_map];rfl),?_⟩;have e:(zs.map fun _=>true).all id=true:=by rw [all_map];simp
   rw [e];exact k _ (s1.new hD (HO.lst (zs.map fun _=>V.bl true)))
theorem Jdo {n:Nat}:(List.replicate n true).all id=true:=by rw [all_eq_true];intro x hx;rw [eq_of_mem_replicate hx];rfl
inductive Q_is_figures (K:PySem.W.Frag)(vs:List V)(H:Hp)(Q:VK):Prop
 | mk (p:Addr) (fvs:List V) (gs:List Fg) (ns kds:List Str) (u0_:vs=[.ref p]) (u1_:H p=some (.tup fvs)) (u2_:FgsAt H ns kds fvs gs) (u3_:(∀ n∈ns,Nam n)) (u4_:1<=fvs.length) (u5_:fvs.length<=4) (u6_:∀ H',Same H H'->Q (.bl true) H'):Q_is_figures K vs H Q
def J2Y (K:PySem.W.Frag):Sp:=fun vs H Q _=>Q_is_figures K vs H Q
theorem J5H (T:Txt K mg f fd):FnOk P w K mg base CX0 2 (f 38) (fd 38) ["thing"] (J2Y K):=by
 walk_at "ok yh J5E"
 ·obtain ⟨p,fvs,gs,ns,kds,rfl,_⟩:=h
  rfl
 ·obtain ⟨p,fvs,gs,ns,kds,rfl,hp,hg,hnm,c1,c4,k⟩:=h
  refine ⟨_,(J9 (Jt (PW.pt (J1u (J0i (J04 (Js (J0K rfl) T.wc Jr rfl (by decide) (by decide) rfl (pal rfl (pvl 0) (pal rfl (pty T.wf J0c) J1))))) (J0V (J0i (J7M J55 J55 Ja (Js (JZ rfl) T.wa Jv rfl (by decide) (by decide) rfl (pal rfl (pvl 0) J1)) (pgi T.zp))))))
   (Jc (Ji J0q))
   Jl)
   (Jc (Ji (Js (J5V rfl rfl) T.wp J46 rfl (by decide) (by decide) rfl (pal rfl (J00 ["figure"] ["thing"] rfl (show CompSc _ (Je J1j) ["thing"] ["thing"] from Ju (by decide +kernel)) (J1y rfl (pvl 0)) (fun _ _ _ _ _=>(pgl 0 (show (["figure","thing"]:List Str).Nodup by decide +kernel))) (fun _ _ _ _ _=>JH) (fun _ _ _ _ _=>(Jg T.ye (J6O T) (hr.mono (by decide)) rfl (by decide) rfl (pal rfl (pvl 0) J1)))) J1))))),?_⟩
  walk_at "dc";refine ⟨_,Pl.of_tup hp,by decide,?_⟩;rw [zt (by decide)];refine ⟨_,.inr (.of hp),?_⟩;rw [zu (zx (by omega)),zt (by simp;omega)];refine ⟨⟨_,.of hp⟩,?_⟩;refine JV (J0d (xs:=fvs)) (Jb (by omega)) (fun i ys H'=>Same H H'/\ys=(List.replicate i true).map V.bl) ⟨Same.refl _,rfl⟩ (fun _ _ H' _ q=>q.1.seqT (.of hp)) (fun i ys H' q=>by rw [q.2,zL,qg];exact zv _) (fun i x ys H3 hx q=>?_) (fun ys H3 q D hD=>?_)
  ·obtain ⟨t1,rfl⟩:=q
   obtain ⟨g,_,hA⟩:=Paired.ix hg hx;walk_at "dc";exact ⟨g,ns,⟨kds,hA.tup fun _ _ z=>t1 _ _ z⟩,hnm,fun H4 s4=>⟨⟨_,rfl⟩,t1.trans s4,by rw [map_replicate,<- replicate_succ',replicate_succ]⟩⟩
  ·obtain ⟨t1,rfl⟩:=q
   refine ⟨_,.of Jd,?_⟩;rw [Jdo];exact k _ (t1.new hD _)
structure VwOk (H:Hp)(l v n0 n1 fg:Addr)(xs fvs:List V)(gs:List Fg)(ns kds:List Str)(is0 is1:List Nat):Prop where
 b:Base H l v n0 n1 fg xs fvs gs ns kds is0 is1
 nd:(is0++is1).Nodup
 nm:∀ n∈ns,Nam n
 g1:1<=fvs.length
 g4:fvs.length<=4
theorem VwOk.mono {v:Addr}{fvs:List V}(s:Same H H')(h:VwOk H l v n0 n1 fg xs fvs gs ns kds is0 is1):VwOk H' l v n0 n1 fg xs fvs gs ns kds is0 is1:=⟨h.b.mono s,h.nd,h.nm,h.g1,h.g4⟩
inductive Q_asked_form (K:PySem.W.Frag)(vs:List V)(H:Hp)(Q:VK):Prop
 | mk (l v n0 n1 fg:Addr) (xs fvs:List V) (gs:List Fg) (ns kds:List Str) (is0 is1:List Nat) (u0_:vs=[.ref v]) (u1_:VwOk H l v n0 n1 fg xs fvs gs ns kds is0 is1) (u2_:∀ H',Same H H'->Q (.bl true) H'):Q_asked_form K vs H Q
def J5y (K:PySem.W.Frag):Sp:=fun vs H Q _=>Q_asked_form K vs H Q
theorem ok_asked_form (T:Txt K mg f fd):FnOk P w K mg base CX0 3 (f 39) (fd 39) ["view"] (J5y K):=by
 walk_at "ok yi J31"
 ·obtain ⟨l,v,n0,n1,fg,xs,fvs,gs,ns,kds,is0,is1,rfl,_⟩:=h
  rfl
 ·obtain ⟨l,v,n0,n1,fg,xs,fvs,gs,ns,kds,is0,is1,rfl,hV,k⟩:=h
  have h1:=hV.b.vw.v;have h2:=hV.b.vw.n0;have h3:=hV.b.vw.n1;rw [Jbl] at h2 h3;have hnl:kds.length=ns.length:=by rw [hV.b.F.2.1,hV.b.F.1]
  have i0:∀ i∈is0,i<ns.length:=fun i hi=>by rw [<- hnl];exact hV.b.vw.i0 i hi
  have i1:∀ i∈is1,i<ns.length:=fun i hi=>by rw [<- hnl];exact hV.b.vw.i1 i hi
  have nd:(nmS ns is0++nmS ns is1).Nodup:=by
   have:=Jbm hV.b.F.2.2.1 (is:=is0++is1) (fun i hi=>(zZ.mp hi).elim (i0 i) (i1 i)) hV.nd;unfold nmS at *;rwa [zY] at this
  have l13:∀ {is:List Nat},(∀ i∈is,i<ns.length)->∀ z∈nmS ns is,z.length<=13:=fun hi z hz=>by
   obtain ⟨i,e⟩:=J6S hi hz;have:=(hV.nm z (zP e)).2.1;omega
  have m0:=l13 i0;have m1:=l13 i1;have f0:(nmS ns is0).length<=3:=by unfold nmS;rw [zL];exact hV.b.vw.few0
  have f1:(nmS ns is1).length<=3:=by unfold nmS;rw [zL];exact hV.b.vw.few1
  generalize nmS ns is0=za at *;generalize nmS ns is1=zb at *;refine ⟨_,(J9 (Jt (PW.pt (J1u (J0i (J04 (Js (J0K rfl) T.wc Jr rfl (by decide) (by decide) rfl (pal rfl (pvl 0) (pal rfl (pty T.wf J0c) J1))))) (J0V (Jk J7S (Js (JZ rfl) T.wa Jv rfl (by decide) (by decide) rfl (pal rfl (pvl 0) J1)) Ja (Jm _)))))
   (Jc JY)
   Jl)
   (J9 (Jt (PW.pt (J1u (J0i (J04 (Jg T.wK (J58 T) (hr.mono (by decide)) rfl (by decide) rfl (pal rfl (Jj (Jo rfl) (pvl 0) Ja (fun _ _=>rfl)) J1)))) (J0V (J0i (J04 (Jg T.wK (J58 T) (hr.mono (by decide)) rfl (by decide) rfl (pal rfl (Jj (Jo rfl) (pvl 0) Ja (fun _ _=>rfl)) J1)))))))
   (Jc JY)
   Jl)
   (J9 (psl 1 J31.nd (Jn (Jbz rfl) (Jj (Jo rfl) (pvl 0) Ja (fun _ _=>rfl)) (Jj (Jo rfl) (pvl 0) Ja (fun _ _=>rfl))))
   (J9 (Jt (Jk J54 (Js J4h T.wa Jv rfl (by decide) (by decide) rfl (pal rfl (J0t (Jbx rfl rfl) T.yR Jc6 rfl (by decide) (by decide) rfl (pal rfl (pvl 1) J1)) J1)) (Js (JZ rfl) T.wa Jv rfl (by decide) (by decide) rfl (pal rfl (pvl 1) J1)) (Jm _))
   (Jc JY)
   Jl)
   (J9 (Jt (J0i (J04 (Jg T.yh (J5H T) (hr.mono (by decide)) rfl (by decide) rfl (pal rfl (Jj (Jo rfl) (pvl 0) Ja (fun _ _=>rfl)) J1))))
   (Jc JY)
   Jl)
   (Jc (Ji J0q))))))),?_⟩
  generalize hX:J1n (J3t _ (JL 1)) _=X;generalize hY:J1n (J6e (tOr (JaI (tB (J4M _ _ _ _))) _) _ _) _=Y;walk_at "dc";refine ⟨_,Pl.of_tup h1,by decide,?_⟩;rw [zt (by decide)];refine ⟨_,.inr (.of h1),?_⟩;rw [zt (by simp)];subst hY;walk_at "dc";refine ⟨v,_,_,_,rfl,rfl,.of h1,Jf (j:=0) rfl,n0,za,rfl,h2,m0,f0,fun H1 s1=>⟨_,rfl,?_⟩⟩;rw [zt (by decide)];refine ⟨v,_,_,_,rfl,rfl,.of (s1 _ _ h1),Jf (j:=1) rfl,n1,zb,rfl,s1 _ _ h3,m1,f1,fun H2 s2=>⟨_,rfl,?_⟩⟩;rw [zt (by decide)];have S2:=s1.trans s2;subst hX;walk_at "dc";have rest:∀ (G:Hp) (q:Addr),Same H G->G q=some (.tup ((za++zb).map V.str))->J9r K [V.ref q] G fun x_1 H1=>J9t [x_1] H1 fun x_2 H1=>∃ p_1,V.ref q=V.ref p_1/\∃ x,(SqL K H1 p_1 x\/SqT K H1 p_1 x)/\∃ i,x_2=V.int i /\
   if decide (i<↑x.length)=true then False
   else J1K K (V.ref v) (V.int 2) H1 fun x H1=>J2Y K [x] H1 (fun x H1=>∃ c,x=V.bl c/\if (!c)=true then False else Q (V.bl true) H1) E0:=by
   intro G q sG hq;have hl:(za++zb).length=za.length+zb.length:=zQ;have iff:=Jci (za++zb) Str.empty;refine ⟨q,za++zb,rfl,.inr (.of hq),by omega,fun d hd=>?_⟩
   walk_at "nw d hd G2 u gd"
   have em:=iff.mpr nd;generalize unl (fun i=>(za++zb).getD i Str.empty) (za++zb).length=m at *;have S:=sG.trans u;have hV2:=hV.mono S;refine ⟨d,m,rfl,gd,by omega,q,rfl,_,.inr (.of (u _ _ hq)),_,rfl,?_⟩;rw [zL,zt (by simp;omega)];refine ⟨v,_,_,_,rfl,rfl,.of (S _ _ h1),Jf (j:=2) rfl,fg,fvs,gs,ns,kds,rfl,hV2.b.fg,hV2.b.fs,hV.nm,hV.g1,hV.g4,fun G3 s3=>⟨_,rfl,?_⟩⟩;rw [zt (by decide)];exact k G3 (S.trans s3)
  refine ⟨v,_,_,_,rfl,rfl,.of (S2 _ _ h1),Jf (j:=0) rfl,v,_,_,_,rfl,rfl,.of (S2 _ _ h1),Jf (j:=1) rfl,n0,n1,_,_,rfl,rfl,.of (S2 _ _ h2),.of (S2 _ _ h3),Jb (by rw [zL,zL];omega),fun z=>?_,fun _ z=>?_,fun _ _ q hq=>?_⟩
  ·obtain rfl:za=[]:=map_eq_nil_iff.mp z
   exact rest H2 n1 S2 (S2 _ _ h3)
  ·obtain rfl:zb=[]:=map_eq_nil_iff.mp z
   exact rest H2 n0 S2 (by rw [append_nil];exact S2 _ _ h2)
  ·exact rest _ q (S2.new hq _) (by rw [Jd,zY])
inductive Q_asked_view (K:PySem.W.Frag)(vs:List V)(H:Hp)(Q:VK):Prop
 | mk (l v n0 n1 fg:Addr) (xs fvs:List V) (gs:List Fg) (ns kds:List Str) (is0 is1:List Nat) (u0_:vs=[.ref l,.ref v]) (u1_:VwOk H l v n0 n1 fg xs fvs gs ns kds is0 is1) (u2_:∀ H',Same H H'->Q (.bl true) H'):Q_asked_view K vs H Q
def J5w (K:PySem.W.Frag):Sp:=fun vs H Q _=>Q_asked_view K vs H Q
theorem ok_asked_view (T:Txt K mg f fd):FnOk P w K mg base CX0 4 (f 40) (fd 40) ["fields","view"] (J5w K):=by
 walk_at "ok yj J30"
 ·obtain ⟨l,v,n0,n1,fg,xs,fvs,gs,ns,kds,is0,is1,rfl,_⟩:=h
  rfl
 ·obtain ⟨l,v,n0,n1,fg,xs,fvs,gs,ns,kds,is0,is1,rfl,hV,k⟩:=h
  refine ⟨_,(J9 (JM (Jg T.yi (ok_asked_form T) (hr.mono (by decide)) rfl (by decide) rfl (pal rfl (pvl 1) J1)))
   (J9 (J09 PassesOwn.never rfl (J1y rfl (Jn (Jbz rfl) (Jj (Jo rfl) (pvl 1) Ja (fun _ _=>rfl)) (Jj (Jo rfl) (pvl 1) Ja (fun _ _=>rfl)))) (pgl 2 J30.nd)
   (Jc (JM (Jg T.wj (ok_field_at T) (hr.mono (by decide)) rfl (by decide) rfl (pal rfl (pvc 0) (pal rfl (pvl 2) J1))))))
   (Jc (Ji (Js (J5V rfl rfl) T.wp J46 rfl (by decide) (by decide) rfl (pal rfl (J00 ["figure"] ["fields","view","name"] rfl (show CompSc _ (Je J1k) ["fields","view","name"] ["fields","view","name"] from Ju (by decide +kernel)) (J1y rfl (Jj (Jo rfl) (pvl 1) Ja (fun _ _=>rfl))) (fun _ _ _ _ _=>(pgl 0 (show (["figure","fields","view","name"]:List Str).Nodup by decide +kernel))) (fun _ _ _ _ _=>JH) (fun _ _ _ _ _=>(Jg T.yf (ok_asked_figure T) (hr.mono (by decide)) rfl (by decide) rfl (pal rfl (pvc 1) (pal rfl (pvl 0) J1))))) J1)))))),?_⟩
  walk_at "dc";refine ⟨l,v,n0,n1,fg,xs,fvs,gs,ns,kds,is0,is1,rfl,hV,fun H1 s1=>?_⟩;have hV1:=hV.mono s1;have h1:=hV1.b.vw.v;have h2:=hV1.b.vw.n0;have h3:=hV1.b.vw.n1;rw [Jbl] at h2 h3;have hnl:kds.length=ns.length:=by rw [hV.b.F.2.1,hV.b.F.1]
  have hz:∀ z∈nmS ns is0++nmS ns is1,∃ i:Nat,ns[i]?=some z:=fun z hz=>(zZ.mp hz).elim (J6S fun i hi=>by rw [<- hnl];exact hV.b.vw.i0 i hi) (J6S fun i hi=>by rw [<- hnl];exact hV.b.vw.i1 i hi);have f0:(nmS ns is0).length<=3:=by unfold nmS;rw [zL];exact hV.b.vw.few0
  have f1:(nmS ns is1).length<=3:=by unfold nmS;rw [zL];exact hV.b.vw.few1
  generalize nmS ns is0=za at *;generalize nmS ns is1=zb at *;refine J06 ?_;walk_at "dc";generalize hD0:(Ends.mk _ _ _ _:Ends)=D0;have fin:∀ (v2:Option V) (G:Hp),Same H1 G->D0.nx [some (V.ref l),some (V.ref v),v2] G:=by
   intro v2 G sG;subst hD0;walk_at "dc";have g4:=hV.g4;have bG:=hV1.b.mono sG;refine ⟨v,_,_,_,rfl,rfl,.of (sG _ _ h1),Jf (j:=2) rfl,fg,rfl,⟨_,.of bG.fg⟩,?_⟩;refine JV (J0d (xs:=fvs)) (Jb (by omega)) (fun i ys H'=>Same G H'/\ys=(List.replicate i true).map V.bl) ⟨Same.refl _,rfl⟩ (fun _ _ H' _ q=>q.1.seqT (.of bG.fg)) (fun i ys H' q=>by rw [q.2,zL,qg];exact zv _) (fun i x ys H3 hx q=>?_) (fun ys H3 q D hD=>?_)
   ·obtain ⟨t1,rfl⟩:=q
    have b3:=bG.mono t1;obtain ⟨g,_,hA⟩:=Paired.ix b3.fs hx;walk_at "dc";exact ⟨xs,b3.l,ns,kds,b3.F,⟨g,hA⟩,fun H4 s4=>⟨⟨_,rfl⟩,t1.trans s4,by rw [map_replicate,<- replicate_succ',replicate_succ]⟩⟩
   ·obtain ⟨t1,rfl⟩:=q
    refine ⟨_,.of Jd,?_⟩;rw [Jdo];exact k _ (((s1.trans sG).trans t1).new hD _)
  have loop:∀ (G:Hp) (q:Addr),Same H1 G->G q=some (.tup ((za++zb).map V.str))->(∃ a,V.ref q=V.ref a/\(∃ xs,SqT K G a xs)/\ForW (Itt K a) (JL 2) (J47 (J4M (J49 K) [] E0 (J48 (J4i 0) (J48 (J4i 2) J8n)))) D0 [some (V.ref l),some (V.ref v),none] G):=by
   intro G q sG hq;refine ⟨q,rfl,⟨_,.of hq⟩,?_⟩;refine ForW.of (J0d (xs:=(za++zb).map V.str)) (fun i σ H'=>(∃ v2,σ=[some (V.ref l),some (V.ref v),v2])/\Same G H') ⟨⟨_,rfl⟩,Same.refl _⟩ (fun _ _ H' _ q=>q.2.seqT (.of hq)) ?_ ?_
   ·rintro i x σ H2 hx ⟨⟨v2,rfl⟩,s2⟩
    rw [zW] at hx;obtain ⟨n,hn,rfl⟩:=Option.map_eq_some_iff.mp hx;obtain ⟨j,hj⟩:=hz n (zP hn);have b2:=hV1.b.mono (sG.trans s2);walk_at "dc";exact ⟨l,xs,ns,kds,n,j,rfl,b2.l,b2.F,hj,fun H3 s3=>⟨⟨_,rfl⟩,s2.trans s3⟩⟩
   ·rintro σ H2 ⟨⟨v2,rfl⟩,s2⟩
    exact fin v2 H2 (sG.trans s2)
  refine ⟨v,_,_,_,rfl,rfl,.of h1,Jf (j:=0) rfl,v,_,_,_,rfl,rfl,.of h1,Jf (j:=1) rfl,n0,n1,_,_,rfl,rfl,.of h2,.of h3,Jb (by rw [zL,zL];omega),fun z=>?_,fun _ z=>?_,fun _ _ q hq=>?_⟩
  ·obtain rfl:za=[]:=map_eq_nil_iff.mp z
   exact loop H1 n1 (Same.refl _) h3
  ·obtain rfl:zb=[]:=map_eq_nil_iff.mp z
   exact loop H1 n0 (Same.refl _) (by rw [append_nil];exact h2)
  ·exact loop _ q (Same.upd_new hq _) (by rw [Jd,zY])
def PlainJ (H:Hp)(kds:List Str)(j:Nat)(n:Str)(v:V)(F:List V->Bool):Prop:=∃ p,v=.ref p/\((H p=some (.tup [.str "lacks",.str n])/\F=fun rs=>decide (rs[j]?=some .non)) \/
 (∃ x kd,H p=some (.tup [.str "is",.str n,x])/\kds[j]?=some kd/\J0v kd x/\F=fun rs=>decide (rs[j]?=some x)) \/
 (∃ i:Int,H p=some (.tup [.str "under",.str n,.int i])/\kds[j]?=some numS/\F=fun rs=>match rs[j]? with | some (.int k)=>decide (k<i) | _=>false) \/
 ∃ i:Int,H p=some (.tup [.str "over",.str n,.int i])/\kds[j]?=some numS/\F=fun rs=>match rs[j]? with | some (.int k)=>decide (k > i) | _=>false)
def Plain (H:Hp)(ns kds:List Str)(v:V)(F:List V->Bool):Prop:=∃ (j:Nat) (n:Str),ns[j]?=some n/\PlainJ H kds j n v F
def TSame (H H':Hp):Prop:=∀ b ys,H b=some (.tup ys)->H' b=some (.tup ys)
theorem Same.t (s:Same H H'):TSame H H':=fun b ys h=>s b _ h
theorem TSame.upd_lst (h:H p=some (.lst ys)):TSame H (upd H p o):=fun b zs hb=>by
 have n:b≠p:=fun z=>by subst z;rw [h] at hb;cases hb
 rw [Jh n];exact hb
theorem PlainJ.mono (s:TSame H H')(h:PlainJ H kds j n v F):PlainJ H' kds j n v F:=by
 obtain ⟨p,rfl,h⟩:=h;refine ⟨p,rfl,?_⟩;rcases h with ⟨h,r⟩ | ⟨x,kd,h,r⟩ | ⟨i,h,r⟩ | ⟨i,h,r⟩
 ·exact .inl ⟨s _ _ h,r⟩
 ·exact .inr (.inl ⟨x,kd,s _ _ h,r⟩)
 ·exact .inr (.inr (.inl ⟨i,s _ _ h,r⟩))
 ·exact .inr (.inr (.inr ⟨i,s _ _ h,r⟩))
theorem Plain.mono (s:TSame H H')(h:Plain H ns kds v F):Plain H' ns kds v F:=by
 obtain ⟨j,n,e,h⟩:=h;exact ⟨j,n,e,h.mono s⟩
theorem PlainJ.form (h:PlainJ H kds j n v F):∃ p fm rest,v=.ref p/\H p=some (.tup (.str fm::.str n::rest))/\fm≠"not"/\fm≠"all"/\fm≠"some":=by
 obtain ⟨p,rfl,h⟩:=h;rcases h with ⟨h,r⟩ | ⟨x,kd,h,r⟩ | ⟨i,h,r⟩ | ⟨i,h,r⟩
 ·exact ⟨p,_,_,rfl,h,by decide,by decide,by decide⟩
 ·exact ⟨p,_,_,rfl,h,by decide,by decide,by decide⟩
 ·exact ⟨p,_,_,rfl,h,by decide,by decide,by decide⟩
 ·exact ⟨p,_,_,rfl,h,by decide,by decide,by decide⟩
def Sv (ns kds:List Str):Nat->Hp->V->(List V->Bool)->Prop
 | 0,H,v,F=>Plain H ns kds v F
 | d + 1,H,v,F=>Plain H ns kds v F\/∃ p,v=.ref p/\((∃ x G,H p=some (.tup [.str "not",x])/\Sv ns kds d H x G/\F=fun rs=>!(G rs)) \/
   ∃ (q:Addr) (cs:List (V×(List V->Bool))),H q=some (.tup (cs.map Prod.fst))/\cs.length<=60/\(∀ c∈cs,Sv ns kds d H c.1 c.2) /\
     ((H p=some (.tup [.str "all",.ref q])/\F=fun rs=>cs.all fun c=>c.2 rs)\/(H p=some (.tup [.str "some",.ref q])/\F=fun rs=>cs.any fun c=>c.2 rs)))
theorem Sv.mono (s:TSame H H'):∀ {d:Nat} {v:V} {F:List V->Bool},Sv ns kds d H v F->Sv ns kds d H' v F
 | 0,_,_,h=>Plain.mono s h
 | d + 1,v,F,h=>by
   rcases h with h | ⟨p,rfl,h⟩
   ·exact .inl (h.mono s)
   ·refine .inr ⟨p,rfl,?_⟩
    rcases h with ⟨x,G,h1,h2,h3⟩ | ⟨q,cs,h1,h2,h3,h4⟩
    ·exact .inl ⟨x,G,s _ _ h1,h2.mono s,h3⟩
    ·refine .inr ⟨q,cs,s _ _ h1,h2,fun c hc=>(h3 c hc).mono s,?_⟩
     rcases h4 with ⟨h4,h5⟩ | ⟨h4,h5⟩
     ·exact .inl ⟨s _ _ h4,h5⟩
     ·exact .inr ⟨s _ _ h4,h5⟩
theorem Sv.up :∀ {d:Nat} {v:V} {F:List V->Bool},Sv ns kds d H v F->Sv ns kds (d+1) H v F
 | 0,_,_,h=>.inl h
 | d + 1,v,F,h=>by
   rcases h with h | ⟨p,rfl,h⟩
   ·exact .inl h
   ·refine .inr ⟨p,rfl,?_⟩
    rcases h with ⟨x,G,h1,h2,h3⟩ | ⟨q,cs,h1,h2,h3,h4⟩
    ·exact .inl ⟨x,G,h1,h2.up,h3⟩
    ·exact .inr ⟨q,cs,h1,h2,fun c hc=>(h3 c hc).up,h4⟩
theorem Sv.le {d e:Nat}(hd:d<=e)(h:Sv ns kds d H v F):Sv ns kds e H v F:=by
 induction hd with
 | refl=>exact h
 | step _ ih=>exact ih.up
theorem Sv.of_tup {q:Addr}{cs:List (V×(List V->Bool))}{fm:V}(hq:H q=some (.tup (cs.map Prod.fst)))(hp:H p=some (.tup [fm,.ref q]))(hl:cs.length<=60)(hS:∀ c∈cs,Sv ns kds m H c.1 c.2)(hf:fm=.str "all"\/fm=.str "some") :
 ∃ F,Sv ns kds (m+1) H (.ref p) F:=by
 rcases hf with rfl | rfl
 ·exact ⟨_,.inr ⟨p,rfl,.inr ⟨q,cs,hq,hl,hS,.inl ⟨hp,rfl⟩⟩⟩⟩
 ·exact ⟨_,.inr ⟨p,rfl,.inr ⟨q,cs,hq,hl,hS,.inr ⟨hp,rfl⟩⟩⟩⟩
theorem Sv.out {dp:Nat}(h:Sv ns kds dp H v F):Plain H ns kds v F\/∃ d p,dp=d+1/\v=.ref p/\((∃ x G,H p=some (.tup [.str "not",x])/\Sv ns kds d H x G/\F=fun rs=>!(G rs)) \/
 ∃ (q:Addr) (cs:List (V×(List V->Bool))),H q=some (.tup (cs.map Prod.fst))/\cs.length<=60/\(∀ c∈cs,Sv ns kds d H c.1 c.2) /\
   ((H p=some (.tup [.str "all",.ref q])/\F=fun rs=>cs.all fun c=>c.2 rs)\/(H p=some (.tup [.str "some",.ref q])/\F=fun rs=>cs.any fun c=>c.2 rs))):=by
 cases dp with
 | zero=>exact .inl h
 | succ d =>
   rcases h with h | ⟨p,e,h⟩
   ·exact .inl h
   ·exact .inr ⟨d,p,rfl,e,h⟩
def J4Q (K:PySem.W.Frag):Sp:=fun vs H Q _=>∃ fm x y,vs=[.str fm,x,y]/\((fm="is"/\J7B x y=true/\Q (.bl (decide (x=y))) H)\/∃ i k,x=.int i/\y=.int k/\((fm="under"/\Q (.bl (decide (i<k))) H)\/(fm="over"/\Q (.bl (decide (i > k))) H)))
theorem Jbj (T:Txt K mg f fd):FnOk P w K mg base CX0 1 (f 49) (fd 49) ["form","value","other"] (J4Q K):=by
 walk_at "ok ym JaQ"
 ·obtain ⟨fm,x,y,rfl,_⟩:=h
  rfl
 ·obtain ⟨fm,x,y,rfl,k⟩:=h
  refine ⟨_,(J9 (Jt (Jk JA (pvl 0) Jp (Jm _))
   (Jc (Ji (JI JA (pvl 1) (pvl 2) (Jm _))))
   Jl)
   (Jc (Ji (J7Q (Jk JA (pvl 0) Jp (Jm _)) (JI J54 (pvl 1) (pvl 2) (Jm _)) (JI J5Q (pvl 1) (pvl 2) (Jm _)))))),?_⟩
  walk_at "dc";rcases k with ⟨rfl,hs,k⟩ | ⟨i,j,rfl,rfl,⟨rfl,k⟩ | ⟨rfl,k⟩⟩
  ·rw [zu (by decide)]
   exact ⟨hs,k⟩
  ·rw [zt (by decide),zu (by decide)]
   exact ⟨_,rfl,_,rfl,k⟩
  ·rw [zt (by decide),zt (by decide)]
   exact ⟨_,rfl,_,rfl,k⟩
def Ask (H:Hp)(ns kds:List Str)(l a:Addr)(rs:List V):Prop:=∃ xs,H l=some (.lst xs)/\FldsK H xs ns kds/\H a=some (.tup rs)/\RowOk kds rs
theorem Ask.mono (s:Same H H')(h:Ask H ns kds l a rs):Ask H' ns kds l a rs:=by
 obtain ⟨xs,h1,h2,h3,h4⟩:=h;exact ⟨xs,s _ _ h1,h2.mono s,s _ _ h3,h4⟩
def J3N (K:PySem.W.Frag):Sp:=fun vs H Q _=>∃ l v a ns kds rs F,vs=[.ref l,v,.ref a]/\Ask H ns kds l a rs/\Plain H ns kds v F/\∀ H',Same H H'->Q (.bl (F rs)) H'
theorem JaU (h:RowOk kds rs)(e:kds[j]?=some kd):∃ y,rs[j]?=some y/\(y=.non\/J0v kd y):=by
 have hj:j<rs.length:=by rw [h.1];exact (zK.mp e).1
 exact ⟨_,zJ hj,h.2 j _ kd (zJ hj) e⟩
theorem ok_plain_lets_by (T:Txt K mg f fd):FnOk P w K mg base CX0 2 (f 50) (fd 50) ["fields","sieve","row"] (J3N K):=by
 walk_at "ok yo J1V"
 ·obtain ⟨l,v,a,ns,kds,rs,F,rfl,_⟩:=h
  rfl
 ·obtain ⟨l,v,a,ns,kds,rs,F,rfl,⟨xs,hl,hF,ha,hr'⟩,⟨j,n,hj,hp⟩,k⟩:=h
  refine ⟨_,(J9 (psl 3 J1V.nd (Jj (Jo rfl) (pvl 2) (Jg T.wj (ok_field_at T) (hr.mono (by decide)) rfl (by decide) rfl (pal rfl (pvl 0) (pal rfl (Jj (Jo rfl) (pvl 1) Ja (fun _ _=>rfl)) J1))) (fun _ _=>rfl)))
   (J9 (Jt (Jk JA (Jj (Jo rfl) (pvl 1) Ja (fun _ _=>rfl)) Jp (Jm _))
   (Jc (Ji (JI J2E (pvl 3) J0N (Jm _))))
   Jl)
   (Jc (Ji (J1L (JI J6K (pvl 3) J0N (Jm _)) (J3h (Jg T.ym (Jbj T) (hr.mono (by decide)) rfl (by decide) rfl (pal rfl (Jj (Jo rfl) (pvl 1) Ja (fun _ _=>rfl)) (pal rfl (pvl 3) (pal rfl (Jj (Jo rfl) (pvl 1) Ja (fun _ _=>rfl)) J1)))))))))),?_⟩
  walk_at "dc";obtain ⟨p,fm,rest,rfl,hp1,_⟩:=hp.form;refine ⟨p,_,_,_,rfl,rfl,.of hp1,Jf (j:=1) rfl,?_⟩;refine ⟨l,xs,ns,kds,n,j,rfl,hl,hF,hj,fun H1 s1=>?_⟩;have hjx:j<kds.length:=by rw [hF.2.1,<- hF.1];exact (zK.mp hj).1
  obtain ⟨y,hy,hk⟩:=JaU hr' (zJ hjx);refine ⟨a,rs,_,y,rfl,rfl,.of (s1 _ _ ha),Jf hy,?_⟩;have e0:∀ ys,H p=some (.tup ys)->H1 p=some (.tup ys):=fun ys=>s1 _ _;obtain ⟨p',e,hp⟩:=hp;cases e;have go:∀ (fm:Str) (x:V) (b:Bool),H p=some (.tup [.str fm,.str n,x])->fm≠"lacks"->F rs=b->(y=.non->b=false)->(y≠.non->∀ R:VK,R (.bl b) H1->J4Q K [.str fm,y,x] H1 R E0) ->
   J1K K (V.ref p) (V.int 0) H1 fun x H1=>J7B x (V.str (Str.ofString "lacks"))=true/\if decide (x=V.str (Str.ofString "lacks"))=true then Q (V.bl (decide (y=V.non))) H1
    else if (!decide (y=V.non))=true then J1K K (V.ref p) (V.int 0) H1 fun x H1=>J1K K (V.ref p) (V.int 2) H1 fun x_1 H1=>J4Q K [x,y,x_1] H1 Q E0 else Q (V.bl false) H1:=by
   intro fm x b h hn e hb q;refine ⟨p,_,_,_,rfl,rfl,.of (e0 _ h),Jf (j:=0) rfl,rfl,?_⟩;rw [zt (by simpa using hn)];have k1:=k H1 s1;rw [e] at k1;by_cases hy0:y=.non
   ·rw [zt (by simpa using hy0),<- hb hy0]
    exact k1
   ·rw [zu (by simpa using hy0)]
    exact ⟨p,_,_,_,rfl,rfl,.of (e0 _ h),Jf (j:=0) rfl,p,_,_,_,rfl,rfl,.of (e0 _ h),Jf (j:=2) rfl,q hy0 Q k1⟩
  rcases hp with ⟨h,rfl⟩ | ⟨x,kd,h,hkd,hx,rfl⟩ | ⟨i,h,hkd,rfl⟩ | ⟨i,h,hkd,rfl⟩
  ·refine ⟨p,_,_,_,rfl,rfl,.of (e0 _ h),Jf (j:=0) rfl,rfl,?_⟩
   rw [zu (by decide)];have e:decide (rs[j]?=some V.non)=decide (y=V.non):=by rw [hy];simp
   rw [<- e];exact k H1 s1
  ·rw [zJ hjx] at hkd
   cases hkd;refine go _ x (decide (y=x)) h (by decide) (by show decide (rs[j]?=some x)=_;rw [hy];simp) (fun z=>by subst z;rcases hx with ⟨_,z,rfl,_⟩ | ⟨_,i,rfl⟩<;>simp) (fun hn R r=>⟨_,y,x,rfl,.inl ⟨rfl,?_,r⟩⟩);rcases hx with ⟨e,z,rfl,_⟩ | ⟨e,z,rfl⟩<;>rcases hk with rfl | ⟨e',z',rfl,_⟩ | ⟨e',z',rfl⟩<;>rfl
  ·rw [zJ hjx,Option.some.injEq] at hkd
   rw [hkd] at hk;rcases hk with rfl | ⟨e',_⟩ | ⟨_,m,rfl⟩
   ·exact go _ (.int i) false h (by decide) (by show (match rs[j]? with | some (.int k)=>decide (k<i) | _=>false)=_;rw [hy]) (fun _=>rfl) fun z=>absurd rfl z
   ·exact absurd e' (by decide)
   ·exact go _ (.int i) (decide (m<i)) h (by decide) (by show (match rs[j]? with | some (.int k)=>decide (k<i) | _=>false)=_;rw [hy]) (fun z=>nomatch z) fun _ R r=>⟨_,_,_,rfl,.inr ⟨m,i,rfl,rfl,.inl ⟨rfl,r⟩⟩⟩
  ·rw [zJ hjx,Option.some.injEq] at hkd
   rw [hkd] at hk;rcases hk with rfl | ⟨e',_⟩ | ⟨_,m,rfl⟩
   ·exact go _ (.int i) false h (by decide) (by show (match rs[j]? with | some (.int k)=>decide (k > i) | _=>false)=_;rw [hy]) (fun _=>rfl) fun z=>absurd rfl z
   ·exact absurd e' (by decide)
   ·exact go _ (.int i) (decide (m > i)) h (by decide) (by show (match rs[j]? with | some (.int k)=>decide (k > i) | _=>false)=_;rw [hy]) (fun z=>nomatch z) fun _ R r=>⟨_,_,_,rfl,.inr ⟨m,i,rfl,rfl,.inr ⟨rfl,r⟩⟩⟩
def J39 (K:PySem.W.Frag):Nat->Sp
 | 0=>fun _ _ _ _=>False
 | d+1=>fun vs H Q _=>∃ l v a ns kds rs F,vs=[.ref l,v,.ref a]/\Ask H ns kds l a rs/\Sv ns kds d H v F/\∀ H',Same H H'->Q (.bl (F rs)) H'
theorem st_lets_by (T:Txt K mg f fd)(dp:Nat)(ih:FnOk P w K mg base CX0 (3+dp) (f 51) (fd 51) ["fields","sieve","row"] (J39 K dp)):FnOk P w K mg base CX0 (3+dp+1) (f 51) (fd 51) ["fields","sieve","row"] (J39 K (dp+1)):=by
 walk_at "ok wt J8A"
 ·obtain ⟨l,v,a,ns,kds,rs,F,rfl,_⟩:=h
  rfl
 ·obtain ⟨l,v,a,ns,kds,rs,F,rfl,hA,hS,k⟩:=h
  refine ⟨_,(J9 (Jt (Jk JA (Jj (Jo rfl) (pvl 1) Ja (fun _ _=>rfl)) Jp (Jm _))
   (Jc (Ji (J8P (Jg T.wt ih (hr.mono (by omega)) rfl (by decide) rfl (pal rfl (pvc 0) (pal rfl (Jj (Jo rfl) (pvl 1) Ja (fun _ _=>rfl)) (pal rfl (pvc 2) J1)))))))
   Jl)
   (J9 (Jt (Jk JA (Jj (Jo rfl) (pvl 1) Ja (fun _ _=>rfl)) Jp (Jm _))
   (Jc (Ji (Js (J5V rfl rfl) T.wp J46 rfl (by decide) (by decide) rfl (pal rfl (J00 ["inner"] ["fields","sieve","row"] rfl (show CompSc _ (Je J1W) ["fields","sieve","row"] ["fields","sieve","row"] from Ju (by decide +kernel)) (J1y rfl (Jj (Jo rfl) (pvl 1) Ja (fun _ _=>rfl))) (fun _ _ _ _ _=>(pgl 0 (show (["inner","fields","sieve","row"]:List Str).Nodup by decide +kernel))) (fun _ _ _ _ _=>JH) (fun _ _ _ _ _=>(Jg T.wt ih (hr.mono (by omega)) rfl (by decide) rfl (pal rfl (pvc 1) (pal rfl (pvl 0) (pal rfl (pvc 3) J1)))))) J1))))
   Jl)
   (J9 (Jt (Jk JA (Jj (Jo rfl) (pvl 1) Ja (fun _ _=>rfl)) Jp (Jm _))
   (Jc (Ji (Js (JeQ rfl rfl) T.yZ Jev rfl (by decide) (by decide) rfl (pal rfl (J00 ["inner"] ["fields","sieve","row"] rfl (show CompSc _ (Je J1W) ["fields","sieve","row"] ["fields","sieve","row"] from Ju (by decide +kernel)) (J1y rfl (Jj (Jo rfl) (pvl 1) Ja (fun _ _=>rfl))) (fun _ _ _ _ _=>(pgl 0 (show (["inner","fields","sieve","row"]:List Str).Nodup by decide +kernel))) (fun _ _ _ _ _=>JH) (fun _ _ _ _ _=>(Jg T.wt ih (hr.mono (by omega)) rfl (by decide) rfl (pal rfl (pvc 1) (pal rfl (pvl 0) (pal rfl (pvc 3) J1)))))) J1))))
   Jl)
   (Jc (Ji (Jg T.yo (ok_plain_lets_by T) (hr.mono (by omega)) rfl (by decide) rfl (pal rfl (pvc 0) (pal rfl (pvl 1) (pal rfl (pvc 2) J1))))))))),?_⟩
  walk_at "dc";rcases hS.out with hp | ⟨d,p,rfl,rfl,⟨x,G,h1,h2,rfl⟩ | ⟨q,cs,h1,h2,h3,⟨h4,rfl⟩ | ⟨h4,rfl⟩⟩⟩
  ·obtain ⟨j,n,hj,hpj⟩:=hp
   obtain ⟨p,fm,rest,rfl,hp1,n1,n2,n3⟩:=hpj.form;have ix0:∀ R:VK,R (.str fm) H->J1K K (.ref p) (.int 0) H R:=fun R r=>⟨p,_,_,_,rfl,rfl,.of hp1,Jf (j:=0) rfl,r⟩;refine ix0 _ ⟨rfl,?_⟩;rw [zt (by simpa using n1)];refine ix0 _ ⟨rfl,?_⟩;rw [zt (by simpa using n2)];refine ix0 _ ⟨rfl,?_⟩;rw [zt (by simpa using n3)];exact ⟨l,_,a,ns,kds,rs,F,rfl,hA,⟨j,n,hj,hpj⟩,k⟩
  ·refine ⟨p,_,_,_,rfl,rfl,.of h1,Jf (j:=0) rfl,rfl,?_⟩
   rw [zu (by decide)];exact ⟨p,_,_,_,rfl,rfl,.of h1,Jf (j:=1) rfl,l,x,a,ns,kds,rs,G,rfl,hA,h2,fun H1 s1=>⟨_,rfl,k H1 s1⟩⟩
  ·refine ⟨p,_,_,_,rfl,rfl,.of h4,Jf (j:=0) rfl,rfl,?_⟩
   rw [zt (by decide)];refine ⟨p,_,_,_,rfl,rfl,.of h4,Jf (j:=0) rfl,rfl,?_⟩;rw [zu (by decide)];refine ⟨p,_,_,_,rfl,rfl,.of h4,Jf (j:=1) rfl,q,rfl,⟨_,.of h1⟩,?_⟩;refine comp_of (as:=cs) (g:=Prod.fst) J0d (Jb (by omega)) (fun H' s=>s.seqT (.of h1)) (fun _=>true) (fun c=>.bl (c.2 rs)) (fun _ H1 Q _ _ q=>q H1 (Same.refl _)) (fun c H1 Q hc _ s1 q=>?_) (fun H1 s1 D hD=>?_)
   ·walk_at "dc"
    exact ⟨l,c.1,a,ns,kds,rs,c.2,rfl,hA.mono s1,(h3 c hc).mono (Same.t s1),q⟩
   ·rw [J0p]
    refine ⟨cs.map fun c=>c.2 rs,.of (by rw [Jd,map_map];rfl),?_⟩;have e:(cs.map fun c=>c.2 rs).all id=cs.all fun c=>c.2 rs:=by rw [all_map];rfl
    rw [e];exact k _ (s1.new hD _)
  ·refine ⟨p,_,_,_,rfl,rfl,.of h4,Jf (j:=0) rfl,rfl,?_⟩
   rw [zt (by decide)];refine ⟨p,_,_,_,rfl,rfl,.of h4,Jf (j:=0) rfl,rfl,?_⟩;rw [zt (by decide)];refine ⟨p,_,_,_,rfl,rfl,.of h4,Jf (j:=0) rfl,rfl,?_⟩;rw [zu (by decide)];refine ⟨p,_,_,_,rfl,rfl,.of h4,Jf (j:=1) rfl,q,rfl,⟨_,.of h1⟩,?_⟩;refine comp_of (as:=cs) (g:=Prod.fst) J0d (Jb (by omega)) (fun H' s=>s.seqT (.of h1)) (fun _=>true) (fun c=>.bl (c.2 rs)) (fun _ H1 Q _ _ q=>q H1 (Same.refl _)) (fun c H1 Q hc _ s1 q=>?_) (fun H1 s1 D hD=>?_)
   ·walk_at "dc"
    exact ⟨l,c.1,a,ns,kds,rs,c.2,rfl,hA.mono s1,(h3 c hc).mono (Same.t s1),q⟩
   ·rw [J0p]
    refine ⟨cs.map fun c=>c.2 rs,.of (by rw [Jd,map_map];rfl),?_⟩;have e:(cs.map fun c=>c.2 rs).any id=cs.any fun c=>c.2 rs:=by rw [any_map];rfl
    rw [e];exact k _ (s1.new hD _)
theorem J56 (T:Txt K mg f fd):∀ dp:Nat,FnOk P w K mg base CX0 (3+dp) (f 51) (fd 51) ["fields","sieve","row"] (J39 K dp)
 | 0=>⟨fun _ _ _ _ h=>zH h,fun _ _ _ _ _ _ _ _ _ _ _ _ _ h=>zH h⟩
 | dp+1=>st_lets_by T dp (J56 T dp)
theorem J9E {zs:List Str}:inV (.str n) (zs.map V.str)=true↔n∈zs:=by
 unfold inV;rw [any_map,any_eq_true];constructor
 ·rintro ⟨y,hy,e⟩
  have e2:eqV (.str y) (.str n)=true:=e;have:y=n:=by simpa [eqV] using e2
  rw [<- this];exact hy
 ·intro h
  exact ⟨n,h,by show eqV (.str n) (.str n)=true;simp [eqV]⟩
def J2X (K:PySem.W.Frag):Sp:=fun vs H Q _=>∃ (kd:Str) (x:V),vs=[.str kd,x]/\(kd=JF\/kd=numS)/\J0v kd x/\Q (.bl true) H
theorem J5F (T:Txt K mg f fd):FnOk P w K mg base CX0 1 (f 46) (fd 46) ["kind","value"] (J2X K):=by
 walk_at "ok yk J5C"
 ·obtain ⟨kd,x,rfl,_⟩:=h
  rfl
 ·obtain ⟨kd,x,rfl,hk,hx,k⟩:=h
  refine ⟨_,(J9 (Jt (Jk JA (pvl 0) Jp (Jm _))
   (Jc (Ji (Js (J0K rfl) T.wc Jr rfl (by decide) (by decide) rfl (pal rfl (pvl 1) (pal rfl (pty T.wG J7e) J1)))))
   Jl)
   (Jc (Ji (Js (J0K rfl) T.wc Jr rfl (by decide) (by decide) rfl (pal rfl (pvl 1) (pal rfl (pty T.wk J2L) J1)))))),?_⟩
  walk_at "dc";rcases hx with ⟨rfl,z,rfl,hz⟩ | ⟨rfl,i,rfl⟩
  ·rw [zt (by decide)]
   exact ⟨_,.of_str (Jb (by have:=hz.1;omega)),by decide,k⟩
  ·rw [zu (by decide)]
   exact ⟨_,.of_int,by decide,k⟩
inductive Q_asked_plain (K:PySem.W.Frag)(vs:List V)(H:Hp)(Q:VK):Prop
 | mk (l:Addr) (v:V) (xs:List V) (ns kds:List Str) (F:List V->Bool) (u0_:vs=[.ref l,v]) (u1_:H l=some (.lst xs)) (u2_:FldsK H xs ns kds) (u3_:(∀ kd∈kds,kd=JF\/kd=numS)) (u4_:Plain H ns kds v F) (u5_:∀ H',Same H H'->Q (.bl true) H'):Q_asked_plain K vs H Q
def J4R (K:PySem.W.Frag):Sp:=fun vs H Q _=>Q_asked_plain K vs H Q
theorem ok_asked_plain (T:Txt K mg f fd):FnOk P w K mg base CX0 2 (f 47) (fd 47) ["fields","sieve"] (J4R K):=by
 walk_at "ok yl J1p"
 ·obtain ⟨l,v,xs,ns,kds,F,rfl,_⟩:=h
  rfl
 ·obtain ⟨l,v,xs,ns,kds,F,rfl,hl,hF,hkk,⟨j,n,hj,hp⟩,k⟩:=h
  refine ⟨_,(J9 (psl 2 J1p.nd (Jj (Jo rfl) (pvl 1) Ja (fun _ _=>rfl)))
   (J9 (psl 3 J1p.nd (Jj (Jo rfl) (Jj (J0I rfl) (pvl 0) (Jg T.wj (ok_field_at T) (hr.mono (by decide)) rfl (by decide) rfl (pal rfl (pvl 0) (pal rfl (pvl 2) J1))) (fun _ _=>rfl)) Ja (fun _ _=>rfl)))
   (J9 (Jt (PW.pt (J3g (Jk (Jby rfl) (Jj (Jo rfl) (pvl 1) Ja (fun _ _=>rfl)) (Jy (pal rfl Jp (pal rfl Jp J1))) rfl) (J2g (Jk J7S (pvl 3) Jp (Jm _)))))
   (Jc JY)
   Jl)
   (J9 (Jt (PW.pt (J3g (Jk JA (Jj (Jo rfl) (pvl 1) Ja (fun _ _=>rfl)) Jp (Jm _)) (J2g (J0i (J04 (Jg T.yk (J5F T) (hr.mono (by decide)) rfl (by decide) rfl (pal rfl (pvl 3) (pal rfl (Jj (Jo rfl) (pvl 1) Ja (fun _ _=>rfl)) J1))))))))
   (Jc JY)
   Jl)
   (Jc (Ji J0q)))))),?_⟩
  walk_at "dc";obtain ⟨p,fm,rest,rfl,hp1,_⟩:=hp.form;refine ⟨p,_,_,_,rfl,rfl,.of hp1,Jf (j:=1) rfl,l,xs,ns,kds,n,j,rfl,hl,hF,hj,fun H1 s1=>?_⟩;obtain ⟨p',n',kd,e1,e2,e3,e4⟩:=hF.at (show j<xs.length by rw [<- hF.1];exact (zK.mp hj).1);refine ⟨l,xs,_,_,rfl,rfl,.of (s1 _ _ hl),Jf e1,p',_,_,_,rfl,rfl,.of (s1 _ _ e4),Jf (j:=1) rfl,?_⟩;have hp1':=s1 _ _ hp1;refine ⟨p,_,_,_,rfl,rfl,.of hp1',Jf (j:=0) rfl,Jb (by decide),fun c hc=>?_⟩
  walk_at "nw c hc H2 s2 gc"
  obtain ⟨u1,u2⟩:((fm="under"\/fm="over")->kd=numS)/\(fm="is"->∃ x,H p=some (.tup [.str "is",.str n,x])/\J0v kd x):=by
   obtain ⟨p2,e,hp⟩:=hp;cases e;have same:∀ {a:Str} {r:List V},H p=some (.tup (.str a::r))->fm=a:=fun h=>by
    rw [hp1] at h;injection h with h
    injection h with h
    injection h with h _
    injection h
   rcases hp with ⟨h,_⟩ | ⟨x,kd',h,hk',hx,_⟩ | ⟨i,h,hk',_⟩ | ⟨i,h,hk',_⟩
   ·rw [same h]
    exact ⟨fun z=>by rcases z with z | z<;>exact absurd z (by decide),fun z=>absurd z (by decide)⟩
   ·rw [same h]
    obtain rfl:=zA (hk'.symm.trans e3);exact ⟨fun z=>by rcases z with z | z<;>exact absurd z (by decide),fun _=>⟨x,h,hx⟩⟩
   ·rw [same h]
    exact ⟨fun _=>zA (e3.symm.trans hk'),fun z=>absurd z (by decide)⟩
   ·rw [same h]
    exact ⟨fun _=>zA (e3.symm.trans hk'),fun z=>absurd z (by decide)⟩
  have S2:=s1.trans s2;have isq:J1K K (V.ref p) (V.int 0) H2 fun x H1=>J7B x (V.str (Str.ofString "is"))=true/\if decide (x=V.str (Str.ofString "is"))=true then J1K K (V.ref p) (V.int 2) H1 fun x H1=>J2X K [V.str kd,x] H1 (fun x H1=>∃ c,x=V.bl c/\if (!c)=true then False else Q (V.bl true) H1) E0 else Q (V.bl true) H1:=by
   refine ⟨p,_,_,_,rfl,rfl,.of (s2 _ _ hp1'),Jf (j:=0) rfl,rfl,?_⟩;by_cases ci:fm="is"
   ·rw [zu (by simpa using ci)]
    obtain ⟨x,hx,hk⟩:=u2 ci;refine ⟨p,_,_,_,rfl,rfl,.of (S2 _ _ hx),Jf (j:=2) rfl,kd,x,rfl,hkk kd (zP e3),hk,_,rfl,?_⟩;rw [zt (by decide)];exact k _ S2
   ·rw [zt (by simpa using ci)]
    exact k _ S2
  refine ⟨c,_,rfl,.inr (.of gc),rfl,by decide,_,rfl,?_⟩;rw [zt zw];by_cases cu:fm="under"\/fm="over"
  ·have iv:inV (V.str fm) [V.str (Str.ofString "under"),V.str (Str.ofString "over")]=true:=by
    clear u1 u2 hp1 hp1' isq;rcases cu with rfl | rfl<;>decide
   rw [zu iv];refine ⟨rfl,?_⟩;rw [zt (by rw [u1 cu];decide)];exact isq
  ·rw [zt (fun z=>by
    have:=(J9E (zs:=["under","over"])).mp z;rcases zU.mp this with e | e
    ·exact cu (.inl e)
    ·exact cu (.inr (zM.mp e)))]
   exact isq
def J1o (K:PySem.W.Frag):Nat->Sp
 | 0=>fun _ _ _ _=>False
 | d+1=>fun vs H Q _=>∃ (l:Addr) (v:V) (xs:List V) (ns kds:List Str) (F:List V->Bool),vs=[.ref l,v]/\H l=some (.lst xs)/\FldsK H xs ns kds/\(∀ kd∈kds,kd=JF\/kd=numS)/\Sv ns kds d H v F/\∀ H',Same H H'->Q (.bl true) H'
theorem st_asked_sieve (T:Txt K mg f fd)(dp:Nat)(ih:FnOk P w K mg base CX0 (3+dp) (f 48) (fd 48) ["fields","sieve"] (J1o K dp)):FnOk P w K mg base CX0 (3+dp+1) (f 48) (fd 48) ["fields","sieve"] (J1o K (dp+1)):=by
 walk_at "ok ww J4V"
 ·obtain ⟨l,v,xs,ns,kds,F,rfl,_⟩:=h
  rfl
 ·obtain ⟨l,v,xs,ns,kds,F,rfl,hl,hF,hkk,hS,k⟩:=h
  refine ⟨_,(J9 (Jt (Jk JA (Jj (Jo rfl) (pvl 1) Ja (fun _ _=>rfl)) Jp (Jm _))
   (Jc (Ji (Jg T.ww ih (hr.mono (by omega)) rfl (by decide) rfl (pal rfl (pvc 0) (pal rfl (Jj (Jo rfl) (pvl 1) Ja (fun _ _=>rfl)) J1)))))
   Jl)
   (J9 (Jt (Jk (Jby rfl) (Jj (Jo rfl) (pvl 1) Ja (fun _ _=>rfl)) (Jy (pal rfl Jp (pal rfl Jp J1))) rfl)
   (Jc (Ji (Js (J5V rfl rfl) T.wp J46 rfl (by decide) (by decide) rfl (pal rfl (J00 ["inner"] ["fields","sieve"] rfl (show CompSc _ (Je J12) ["fields","sieve"] ["fields","sieve"] from Ju (by decide +kernel)) (J1y rfl (Jj (Jo rfl) (pvl 1) Ja (fun _ _=>rfl))) (fun _ _ _ _ _=>(pgl 0 (show (["inner","fields","sieve"]:List Str).Nodup by decide +kernel))) (fun _ _ _ _ _=>JH) (fun _ _ _ _ _=>(Jg T.ww ih (hr.mono (by omega)) rfl (by decide) rfl (pal rfl (pvc 1) (pal rfl (pvl 0) J1))))) J1))))
   Jl)
   (Jc (Ji (Jg T.yl (ok_asked_plain T) (hr.mono (by omega)) rfl (by decide) rfl (pal rfl (pvc 0) (pal rfl (pvl 1) J1))))))),?_⟩
  walk_at "dc";rcases hS.out with hp | ⟨d,p,rfl,rfl,⟨x,G,h1,h2,rfl⟩ | ⟨q,cs,h1,h2,h3,h4⟩⟩
  ·obtain ⟨j,n,hj,hpj⟩:=hp
   obtain ⟨p,fm,rest,rfl,hp1,n1,n2,n3⟩:=hpj.form;refine ⟨p,_,_,_,rfl,rfl,.of hp1,Jf (j:=0) rfl,rfl,?_⟩;rw [zt (by simpa using n1)];refine ⟨p,_,_,_,rfl,rfl,.of hp1,Jf (j:=0) rfl,Jb (by decide),fun c hc=>?_⟩
   walk_at "nw c hc H1 s1 gc"
   refine ⟨c,_,rfl,.inr (.of gc),rfl,by decide,_,rfl,?_⟩;rw [zt zw,zt (fun z=>by
    have:=(J9E (zs:=["all","some"])).mp z;rcases zU.mp this with e | e
    ·exact n2 e
    ·exact n3 (zM.mp e))]
   exact ⟨l,_,xs,ns,kds,F,rfl,s1 _ _ hl,hF.mono s1,hkk,⟨j,n,hj,hpj.mono (Same.t s1)⟩,fun H' s=>k _ (s1.trans s)⟩
  ·refine ⟨p,_,_,_,rfl,rfl,.of h1,Jf (j:=0) rfl,rfl,?_⟩
   rw [zu (by decide)];exact ⟨p,_,_,_,rfl,rfl,.of h1,Jf (j:=1) rfl,l,x,xs,ns,kds,G,rfl,hl,hF,hkk,h2,k⟩
  ·obtain ⟨fm,hfm,hp⟩:∃ fm,(fm="all"\/fm="some")/\H p=some (.tup [.str fm,.ref q]):=by
    rcases h4 with ⟨h4,_⟩ | ⟨h4,_⟩
    ·exact ⟨_,.inl rfl,h4⟩
    ·exact ⟨_,.inr rfl,h4⟩
   refine ⟨p,_,_,_,rfl,rfl,.of hp,Jf (j:=0) rfl,rfl,?_⟩;rw [zt (by rcases hfm with rfl | rfl<;>decide)];refine ⟨p,_,_,_,rfl,rfl,.of hp,Jf (j:=0) rfl,Jb (by decide),fun c hc=>?_⟩
   walk_at "nw c hc H1 s1 gc"
   refine ⟨c,_,rfl,.inr (.of gc),rfl,by decide,_,rfl,?_⟩;rw [zt zw,zu (by rcases hfm with rfl | rfl<;>decide)];refine ⟨p,_,_,_,rfl,rfl,.of (s1 _ _ hp),Jf (j:=1) rfl,q,rfl,⟨_,.of (s1 _ _ h1)⟩,?_⟩;refine comp_of (as:=cs) (g:=Prod.fst) J0d (Jb (by omega)) (fun H' s=>(s1.trans s).seqT (.of h1)) (fun _=>true) (fun c=>.bl true) (fun _ H1 Q _ _ q=>q H1 (Same.refl _)) (fun c H2 Q hc _ s2 q=>?_) (fun H2 s2 D hD=>?_)
   ·walk_at "dc"
    have S2:=s1.trans s2;exact ⟨l,c.1,xs,ns,kds,c.2,rfl,S2 _ _ hl,hF.mono S2,hkk,(h3 c hc).mono (Same.t S2),q⟩
   ·rw [J0p]
    refine ⟨cs.map fun c=>true,.of (by rw [Jd,map_map];rfl),?_⟩;have e:(cs.map fun c=>true).all id=true:=by rw [all_map];simp
    rw [e];exact k _ ((s1.trans s2).new hD _)
theorem J2F (T:Txt K mg f fd):∀ dp:Nat,FnOk P w K mg base CX0 (3+dp) (f 48) (fd 48) ["fields","sieve"] (J1o K dp)
 | 0=>⟨fun _ _ _ _ h=>zH h,fun _ _ _ _ _ _ _ _ _ _ _ _ _ h=>zH h⟩
 | dp+1=>st_asked_sieve T dp (J2F T dp)
inductive Q_l_plain (K:PySem.W.Frag)(vs:List V)(H:Hp)(Q:VK):Prop
 | mk (sd:Int) (d:Addr) (ns kds:List Str) (u0_:vs=[.int sd,.ref d]) (u1_:Wd H d ns kds) (u2_:∀ H' v F,Same H H'->Plain H' ns kds v F->Q v H'):Q_l_plain K vs H Q
def J4O (K:PySem.W.Frag):Sp:=fun vs H Q _=>Q_l_plain K vs H Q
theorem ok_l_plain (T:Txt K mg f fd):FnOk P w K mg base CX0 2 (f 64) (fd 64) ["_law_seed","_law_world_here"] (J4O K):=by
 walk_at "ok yw J26"
 ·obtain ⟨sd,d,ns,kds,rfl,_⟩:=h
  rfl
 ·obtain ⟨sd,d,ns,kds,rfl,hW,k⟩:=h
  obtain ⟨kvs,l,w',b,xs,ws,h1,h2,h3,h4,h5,h6,h7,h8,h9,h10,h11,h12⟩:=id hW;refine ⟨_,(J9 (J8L (Jj (J0I rfl) (JX (J0b hr) (pvl 1) Jp (fun _ _=>rfl)) (Jn Jx (pvl 0) (Js (JZ rfl) T.wa Jv rfl (by decide) (by decide) rfl (pal rfl (JX (J0b hr) (pvl 1) Jp (fun _ _=>rfl)) J1))) (fun _ _=>rfl)) (J4d rfl rfl (J02 (pgl 2 J26.nd) (J02 (pgl 3 J26.nd) J1E))))
   (J9 (psl 4 J26.nd (Jn Jx (Jn JQ (pvl 0) Ja) Ja))
   (J9 (Jt (Jk JA (pvl 4) Ja (Jm _))
   (Jc (Ji (Jy (pal rfl Jp (pal rfl (pvl 2) J1)))))
   Jl)
   (J9 (Jt (PW.pt (J1u (Jk JA (pvl 4) Ja (Jm _)) (J0V (Jk JA (pvl 3) Jp (Jm _)))))
   (Jc (Ji (Jy (pal rfl Jp (pal rfl (pvl 2) (pal rfl (Jg T.wx (J1d T) (hr.mono (by decide)) rfl (by decide) rfl (pal rfl (Jn JQ (pvl 0) Ja) (pal rfl (pvl 3) (pal rfl (pvl 1) J1)))) J1))))))
   Jl)
   (Jc (Ji (Jy (pal rfl (Jj (J0I rfl) (J0B (pal rfl Jp (pal rfl Jp J1))) (Jn J3i (pvl 4) Ja) (fun _ _=>rfl)) (pal rfl (pvl 2) (pal rfl (Jg T.wx (J1d T) (hr.mono (by decide)) rfl (by decide) rfl (pal rfl (Jn JQ (pvl 0) Ja) (pal rfl (pvl 3) (pal rfl (pvl 1) J1)))) J1)))))))))),?_⟩
  walk_at "dc";refine ⟨_,J8j h1 h2,_,J8j h1 h2,l,rfl,xs,.inl (.of h5),by omega,J1g (.of h5) (zD _ (by omega)) (zC _ (by omega)) fun v hv=>?_⟩;generalize (sd % (xs.length:Int)).toNat=j at *;obtain ⟨p,n,kd,e1,e2,e3,e4⟩:=h6.at (zK.mp hv).1;obtain rfl:v=.ref p:=zA (hv.symm.trans e1);refine ⟨p,_,rfl,.of e4,rfl,?_⟩;simp only [J21,J4s,JL];walk_at "dc";refine ⟨⟨by decide,by decide⟩,by decide,?_⟩;have hk:=h7 kd (zP e3);have w1:0<=sd / 8 % 4:=zD _ (by decide);have w2:sd / 8 % 4<4:=zC _ (by decide);generalize sd / 8 % 4=wy at *;by_cases c0:wy=0
  ·rw [zu (zx c0)]
   exact ⟨Jb (by decide),fun q hq=>k _ _ _ (Same.upd_new hq _) ⟨j,n,e2,q,rfl,.inl ⟨Jd,rfl⟩⟩⟩
  ·rw [zt (by simpa using c0)]
   have hdv:JeC sd 32:=⟨by decide,by decide⟩;have isq:JeC sd 32/\J2m K [V.int (sd / 32),V.str kd,V.ref d] H (fun x H1=>3<=sizeLine/\∀ (p:Addr),H1 p=none->Q (V.ref p) (upd H1 p (HO.tup [V.str (Str.ofString "is"),V.str n,x]))) E0 :=
    ⟨hdv,_,kd,d,ns,kds,rfl,hW,hk,fun v hv=>⟨Jb (by decide),fun q hq=>k _ _ _ (Same.upd_new hq _) ⟨j,n,e2,q,rfl,.inr (.inl ⟨v,kd,Jd,e3,hv.of,rfl⟩)⟩⟩⟩
   by_cases c1:wy=1
   ·rw [zu (zx c1)]
    exact isq
   ·rw [zt (by simpa using c1)]
    by_cases c2:kd=JF
    ·rw [zu (zx c2)]
     exact isq
    ·rw [zt (by simpa using c2)]
     have hkn:=hk.resolve_left c2;refine ⟨Jb (by decide),fun q hq=>?_⟩
     walk_at "nw q hq H2 u gq"
     refine J1g (.of gq) (by omega) (by simp;omega) fun fm hfm=>⟨hdv,_,kd,d,ns,kds,rfl,hW.mono u,hk,fun v hv=>⟨Jb (by decide),fun r hr=>?_⟩⟩;obtain ⟨i,rfl⟩:∃ i,v=.int i:=by
      rcases hv with ⟨z,_⟩ | ⟨_,i,z,_⟩
      ·exact absurd z c2
      ·exact ⟨i,z⟩
     rw [hkn] at e3;rcases (by omega:wy=2\/wy=3) with rfl | rfl
     ·obtain rfl:V.str (Str.ofString "under")=fm:=by simpa using hfm
      exact k _ _ _ (u.new hr _) ⟨j,n,e2,r,rfl,.inr (.inr (.inl ⟨i,Jd,e3,rfl⟩))⟩
     ·obtain rfl:V.str (Str.ofString "over")=fm:=by simpa using hfm
      exact k _ _ _ (u.new hr _) ⟨j,n,e2,r,rfl,.inr (.inr (.inr ⟨i,Jd,e3,rfl⟩))⟩
def J3a (K:PySem.W.Frag):Nat->Sp
 | 0=>fun _ _ _ _=>False
 | dp+1=>fun vs H Q _=>∃ (sd:Int) (d:Addr) (ns kds:List Str) (m:Nat),vs=[.int sd,.ref d,.int m]/\m<=dp/\Wd H d ns kds/\∀ H' v F,Same H H'->Sv ns kds m H' v F->Q v H'
theorem st_l_sieve (T:Txt K mg f fd)(dp:Nat)(ih:FnOk P w K mg base CX0 (3+dp) (f 65) (fd 65) ["_law_seed","_law_world_here","_law_deep"] (J3a K dp)):FnOk P w K mg base CX0 (3+dp+1) (f 65) (fd 65) ["_law_seed","_law_world_here","_law_deep"] (J3a K (dp+1)):=by
 walk_at "ok wA J25"
 ·obtain ⟨sd,d,ns,kds,m,rfl,_⟩:=h
  rfl
 ·obtain ⟨sd,d,ns,kds,m,rfl,hm,hW,k⟩:=h
  refine ⟨_,(J9 (psl 3 J25.nd (Jn Jx (pvl 0) Ja))
   (J9 (Jt (PW.pt (J1u (Jk J54 (pvl 3) Ja (Jm _)) (J0V (Jk JA (pvl 2) Ja (Jm _)))))
   (Jc (Ji (Jg T.yw (ok_l_plain T) (hr.mono (by omega)) rfl (by decide) rfl (pal rfl (Jg T.we (JS T) (hr.mono (by omega)) rfl (by decide) rfl (pal rfl (pvl 0) (pal rfl Ja J1))) (pal rfl (pvl 1) J1)))))
   Jl)
   (J9 (Jt (Jk JA (pvl 3) Ja (Jm _))
   (Jc (Ji (Jy (pal rfl Jp (pal rfl (Jg T.wA ih (hr.mono (by omega)) rfl (by decide) rfl (pal rfl (Jg T.we (JS T) (hr.mono (by omega)) rfl (by decide) rfl (pal rfl (pvl 0) (pal rfl Ja J1))) (pal rfl (pvl 1) (pal rfl (Jn J3i (pvl 2) Ja) J1)))) J1)))))
   Jl)
   (J9 (psl 4 J25.nd (J0B J1))
   (J9 (J09 PassesOwn.never rfl (J0l rfl T.wg (pal rfl (Jn Jx (Jn JQ (pvl 0) Ja) Ja) J1)) (pgl 5 J25.nd)
   (Jc (JM (J1h rfl ql PySem.F.slot_list_append PySem.F.type_list_append J0r rfl rfl rfl rfl (pvl 4) (pal rfl (Jg T.wA ih (hr.mono (by omega)) rfl (by decide) rfl (pal rfl (Jg T.we (JS T) (hr.mono (by omega)) rfl (by decide) rfl (pal rfl (pvl 0) (pal rfl (Jn J05 (pvl 5) Ja) J1))) (pal rfl (pvl 1) (pal rfl (Jn J3i (pvl 2) Ja) J1)))) J1)))))
   (Jc (Ji (Jy (pal rfl (Jj (J0I rfl) (J0B (pal rfl Jp (pal rfl Jp J1))) (Jn Jx (Jn JQ (pvl 0) Ja) Ja) (fun _ _=>rfl)) (pal rfl (J0t (J13 rfl) T.wf J0c rfl (by decide) (by decide) rfl (pal rfl (pvl 4) J1)) J1)))))))))),?_⟩
  walk_at "dc";refine ⟨by decide,?_⟩;have pl:J7v K [V.int sd,V.int 1] H (fun x H1=>J4O K [x,V.ref d] H1 Q E0) E0:=⟨_,_,rfl,_,d,ns,kds,rfl,hW,fun H1 v F s1 hp=>k H1 v F s1 (by
   cases m with
   | zero=>exact hp
   | succ m=>exact .inl hp)⟩
  by_cases c1:sd % 8<4
  ·rw [zu (zx c1)]
   exact pl
  rw [zt (by simpa using c1)];by_cases c2:m=0
  ·subst c2
   rw [zu (by decide)];exact pl
  rw [zt (by simpa using c2)];obtain ⟨m,rfl⟩:∃ m',m=m'+1:=⟨m - 1,by omega⟩;obtain ⟨e,rfl⟩:∃ e,dp=e+1:=⟨dp - 1,by omega⟩;have hm1:(((m+1:Nat):Int) - 1)=(m:Int):=by omega
  by_cases c3:sd % 8=4
  ·rw [zu (zx c3),hm1]
   exact ⟨_,_,rfl,_,d,ns,kds,m,rfl,by omega,hW,fun H1 v F s1 hS=>⟨Jb (by decide),fun p hp=>k _ _ _ (s1.new hp _) (.inr ⟨p,rfl,.inl ⟨v,F,Jd,hS.mono (Same.t (Same.upd_new hp _)),rfl⟩⟩)⟩⟩
  rw [zt (by simpa using c3)];refine ⟨Jb (by decide),fun p hp=>?_⟩
  walk_at "nw p hp H1 s1 g1"
  refine J06 ?_;walk_at "dc";have b0:0<=sd / 8 % 4:=zD _ (by decide);have b4:sd / 8 % 4<4:=zC _ (by decide);refine ⟨⟨by decide,by decide⟩,by decide,by omega,by omega,?_⟩;generalize hN:(sd / 8 % 4).toNat=N at *;have hN4:N<4:=by omega
  refine ForW.of J08 (fun j σ H'=>(∃ v5,σ=[some (V.int sd),some (V.ref d),some (V.int ((m+1:Nat):Int)),some (V.int (sd % 8)),some (V.ref p),v5])/\Same H H'/\∃ cs:List (V×(List V->Bool)),H' p=some (.lst (cs.map Prod.fst))/\cs.length=j/\∀ c∈cs,Sv ns kds m H' c.1 c.2) ⟨⟨none,rfl⟩,s1,[],g1,rfl,fun _ h=>nomatch h⟩ (fun _ _ _ _ _=>trivial) ?_ ?_
  ·rintro j x σ H2 hx ⟨⟨v5,rfl⟩,s2,cs,g2,hcs,hS⟩
   obtain ⟨hj,rfl⟩:=J0n hx;walk_at "dc";rw [hm1];refine ⟨.inl ⟨rfl,_,.of g2⟩,_,_,rfl,_,d,ns,kds,m,rfl,by omega,hW.mono s2,fun H3 v F s3 hv=>⟨p,_,_,rfl,rfl,s3 _ _ g2,?_,⟨_,rfl⟩,(s2.trans s3).set hp _,cs++[(v,F)],?_,?_,?_⟩⟩
   ·rw [zL,hcs,sizeLine_eq]
    omega
   ·rw [Jd,zY]
    rfl
   ·rw [zQ,hcs]
    rfl
   ·intro c hc
    have tt:=TSame.upd_lst (s3 _ _ g2) (o:=HO.lst (cs.map Prod.fst++[v]));rcases zZ.mp hc with hc | hc
    ·exact ((hS c hc).mono (Same.t s3)).mono tt
    ·rw [zM.mp hc]
     exact hv.mono tt
  ·rintro σ H2 ⟨⟨v5,rfl⟩,s2,cs,g2,hcs,hS⟩
   rw [JK] at hcs;walk_at "dc";refine ⟨Jb (by decide),fun q hq=>?_⟩
   walk_at "nw q hq H3 u gq"
   refine ⟨⟨by decide,by decide⟩,by decide,J1g (.of gq) (zD _ (by decide)) (zC _ (by decide)) fun fm hfm=>?_⟩;refine ⟨cs.map Prod.fst,.inl ⟨.of (u _ _ g2),fun l hl=>⟨Jb (by decide),fun r hr=>?_⟩⟩⟩;have v1:=Same.upd_new hl (HO.tup (cs.map Prod.fst));have v2:=Same.upd_new hr (HO.tup [fm,V.ref l]);obtain ⟨F,hF⟩:=Sv.of_tup (ns:=ns) (kds:=kds) (m:=m) (H:=upd (upd H3 l (HO.tup (cs.map Prod.fst))) r (HO.tup [fm,V.ref l])) (p:=r) (q:=l) (cs:=cs) (fm:=fm) (v2 _ _ Jd) Jd (by omega) (fun c hc=>(hS c hc).mono (Same.t ((u.trans v1).trans v2))) (by
    rcases (by omega:sd / 32 % 2=0\/sd / 32 % 2=1) with h | h
    ·rw [h] at hfm
     exact .inl (by simpa using hfm.symm)
    ·rw [h] at hfm
     exact .inr (by simpa using hfm.symm))
   exact k _ _ F (((s2.trans u).trans v1).trans v2) hF
theorem J57 (T:Txt K mg f fd):∀ dp:Nat,FnOk P w K mg base CX0 (3+dp) (f 65) (fd 65) ["_law_seed","_law_world_here","_law_deep"] (J3a K dp)
 | 0=>⟨fun _ _ _ _ h=>zH h,fun _ _ _ _ _ _ _ _ _ _ _ _ _ h=>zH h⟩
 | dp+1=>st_l_sieve T dp (J57 T dp)
theorem J1S {K:PySem.W.Frag}(h:H p=some (.lst ys))(q:∀ l G,Same H G->G l=some (.tup ys)->Q (.ref l) G):J2C K [.ref p] H Q:=by
 unfold J2C;exact ⟨p,ys,rfl,.inl ⟨.of h,fun l hl=>q l _ (Same.upd_new hl _) Jd⟩⟩
def nmL (ns:List Str)(js:List Nat):List V:=js.map fun i=>V.str (ns.getD i JF)
theorem Wd.out (h:Wd H d ns kds):∃ l xs,H l=some (.lst xs)/\FldsK H xs ns kds/\(∀ kd∈kds,kd=JF\/kd=numS)/\1<=xs.length/\xs.length<=8/\(∀ n∈ns,Nam n)/\∀ G,Same H G->DGet G d (.str "fields") (some (.ref l)):=by
 obtain ⟨kvs,l,w',b,xs,ws,h1,h2,h3,h4,h5,h6,h7,h8,h9,h10,h11,h12,h13,h14⟩:=h;exact ⟨l,xs,h5,h6,h7,h8,h9,h13,fun G s=>J8j (s _ _ h1) h2⟩
theorem J9h (h:H p=some (.lst zs)):∀ c ys,H c=some (.tup ys)->upd H p o c=some (.tup ys):=fun c ys hc=>by
 rw [Jh (fun e=>by rw [e,h] at hc;exact nomatch hc)];exact hc
def FigA (H:Hp)(fv:V)(ns kds:List Str):Prop:=∃ g,FgAt H ns kds fv g
theorem FigA.tup {H H':Hp}{fv:V}{ns kds:List Str}(t:∀ c ys,H c=some (.tup ys)->H' c=some (.tup ys))(h:FigA H fv ns kds):FigA H' fv ns kds:=h.imp fun _ q=>q.tup t
theorem FigA.mono (s:Same H H')(h:FigA H fv ns kds):FigA H' fv ns kds:=h.tup fun _ _ z=>s _ _ z
theorem J9J {H:Hp}{ns kds:List Str}:∀ {fvs:List V},(∀ fv∈fvs,FigA H fv ns kds)->∃ gs,FgsAt H ns kds fvs gs
 | [],_=>⟨[],.nil⟩
 | fv::fvs,h=>by
   obtain ⟨gs,hg⟩:=J9J fun v hv=>h v (zS _ hv);obtain ⟨g,h1⟩:=h fv zT;exact ⟨g::gs,.cons h1 hg⟩
theorem Jet {a:Nat}:∃ k,k<=m/\J1z xs (some (a:Int)) (some ((a:Int)+m))=(xs.drop (min a xs.length)).take k:=by
 refine ⟨HT.sIx xs.length xs.length (some ((a:Int)+m)) - HT.sIx xs.length 0 (some (a:Int)),?_,?_⟩
 ·rw [show (a:Int)+m=((a+m:Nat):Int) by omega,HT.sIx_nat,HT.sIx_nat]
  omega
 ·unfold J1z
  rw [HT.sIx_nat]
theorem Je4 {js:List Nat}{a k:Nat}(h:js.Nodup):(js.take a++(js.drop (min a js.length)).take k).Nodup:=by
 have e:js.take a=js.take (min a js.length):=by
  rw [take_eq_take_iff];omega
 rw [e];refine List.Sublist.nodup ?_ h;have:=(List.Sublist.refl (js.take (min a js.length))).append (take_sublist k (js.drop (min a js.length)));rwa [take_append_drop] at this
inductive Q_l_view (K:PySem.W.Frag)(vs:List V)(H:Hp)(Q:VK):Prop
 | mk (sd:Int) (d:Addr) (ns kds:List Str) (u0_:vs=[.int sd,.ref d]) (u1_:Wd H d ns kds) (u2_:∀ H' v n0 n1 fg fvs gs is0 is1,Same H H'->View H' v n0 n1 fg ns kds is0 is1->H' fg=some (.tup fvs)->FgsAt H' ns kds fvs gs->1<=fvs.length->fvs.length<=4->(is0++is1).Nodup->Q (.ref v) H'):Q_l_view K vs H Q
def J9W (K:PySem.W.Frag):Sp:=fun vs H Q _=>Q_l_view K vs H Q
theorem ok_l_view (T:Txt K mg f fd):FnOk P w K mg base CX0 2 (f 66) (fd 66) ["_law_seed","_law_world_here"] (J9W K):=by
 walk_at "ok yx J07"
 ·obtain ⟨sd,d,ns,kds,rfl,_⟩:=h
  rfl
 ·obtain ⟨sd,d,ns,kds,rfl,hW,k⟩:=h
  obtain ⟨l,xs,hl,hF,hkk,h1,h8,hnm,hget⟩:=hW.out;refine ⟨_,(J9 (J1D ["_law_field"] ["_law_seed","_law_world_here","_law_names","_law_at","_law_few","_law_figures","_law_k","_law_turn","_law_name","_law_kind","_law_figure_here"] rfl (show CompSc _ (Je J3B) ["_law_seed","_law_world_here","_law_names","_law_at","_law_few","_law_figures","_law_k","_law_turn","_law_name","_law_kind","_law_figure_here"] ["_law_seed","_law_world_here","_law_names","_law_at","_law_few","_law_figures","_law_k","_law_turn","_law_name","_law_kind","_law_figure_here"] from Ju (by decide +kernel)) J07.nd (i:=2) rfl rfl (J0Q rfl (JX (J0b hr) (pvl 1) Jp (fun _ _=>rfl))) (fun _ _ _ _ _=>(pgl 0 (show (["_law_field","_law_seed","_law_world_here","_law_names","_law_at","_law_few","_law_figures","_law_k","_law_turn","_law_name","_law_kind","_law_figure_here"]:List Str).Nodup by decide +kernel))) (fun _ _ _ _ _=>JH) (fun _ _ _ _ _=>(Jj (Jo rfl) (pvl 0) Ja (fun _ _=>rfl))))
   (J9 (psl 3 J07.nd (Jn Jx (pvl 0) (Js (JZ rfl) T.wa Jv rfl (by decide) (by decide) rfl (pal rfl (pvl 2) J1))))
   (J9 (psl 2 J07.nd (Jn Jbi (J0f (J5f rfl) (pvl 2) (J0o (pvl 3)) J0E) (J0f (J5f rfl) (pvl 2) J0E (J0o (pvl 3)))))
   (J9 (Jt (Jk JA (Jn Jx (Jn JQ (pvl 0) Ja) Ja) Ja (Jm _))
   (Jc (psl 2 J07.nd (JdV rfl (pvl 2) (Jdu JaG Ja))))
   Jl)
   (J9 (psl 4 J07.nd (Jn Jx (Jn JQ (pvl 0) Ja) Ja))
   (J9 (psl 5 J07.nd (J0B J1))
   (J9 (J09 PassesOwn.never rfl (J0l rfl T.wg (pal rfl (Jn J05 Ja (Jn Jx (Jn JQ (pvl 0) Ja) Ja)) J1)) (pgl 6 J07.nd)
   (J9 (psl 7 J07.nd (Jg T.we (JS T) (hr.mono (by decide)) rfl (by decide) rfl (pal rfl (pvl 0) (pal rfl (Jn J05 (pvl 6) Ja) J1))))
   (J9 (J8L (Jj (J0I rfl) (JX (J0b hr) (pvl 1) Jp (fun _ _=>rfl)) (Jn Jx (pvl 7) (Js (JZ rfl) T.wa Jv rfl (by decide) (by decide) rfl (pal rfl (pvl 2) J1))) (fun _ _=>rfl)) (J4d rfl rfl (J02 (pgl 8 J07.nd) (J02 (pgl 9 J07.nd) J1E))))
   (J9 (psl 10 J07.nd (Jj (J0I rfl) (J0B (pal rfl (Jy (pal rfl Jp J1)) (pal rfl (Jy (pal rfl Jp (pal rfl (pvl 8) J1))) (pal rfl (Jy (pal rfl Jp (pal rfl (pvl 8) J1))) (pal rfl (Jy (pal rfl Jp (pal rfl (pvl 8) J1))) (pal rfl (Jy (pal rfl Jp (pal rfl (pvl 8) J1))) J1)))))) (Jn Jx (Jn JQ (pvl 7) Ja) Ja) (fun _ _=>rfl)))
   (J9 (Jt (PW.pt (J3g (Jk JA (Jj (Jo rfl) (pvl 10) Ja (fun _ _=>rfl)) Jp (Jm _)) (J2g (Jk JA (pvl 9) Jp (Jm _)))))
   (Jc (psl 10 J07.nd (Jy (pal rfl Jp (pal rfl (pvl 8) J1)))))
   Jl)
   (Jc (JM (J1h rfl ql PySem.F.slot_list_append PySem.F.type_list_append J0r rfl rfl rfl rfl (pvl 5) (pal rfl (pvl 10) J1)))))))))
   (Jc (Ji (Jy (pal rfl (J0t (J13 rfl) T.wf J0c rfl (by decide) (by decide) rfl (pal rfl (J0f (J5f rfl) (pvl 2) J0E (J0o (pvl 4))) J1)) (pal rfl (J0t (J13 rfl) T.wf J0c rfl (by decide) (by decide) rfl (pal rfl (J0f (J5f rfl) (pvl 2) (J0o (pvl 4)) (J0o (Jn J05 (pvl 4) (Jn Jx (Jn JQ (pvl 0) Ja) Ja)))) J1)) (pal rfl (J0t (J13 rfl) T.wf J0c rfl (by decide) (by decide) rfl (pal rfl (pvl 5) J1)) J1))))))))))))),?_⟩
  generalize hB:J1n (J3t _ (JL 4)) _=B;have hxn:ns.length=xs.length:=hF.1;have hxk:kds.length=xs.length:=hF.2.1
  have tl : ∀ (H1:Hp) (lm:Addr) (js:List Nat) (at':Int),Same H H1->H1 lm=some (.lst (nmL ns js))->js.length=xs.length->(∀ j∈js,j<kds.length)->js.Nodup->B { nx:=fun _ H'=>Q V.non H',rt:=Q } [some (V.int sd),some (V.ref d),some (V.ref lm),some (V.int at'),none,none,none,none,none,none,none] H1:=by
   intro H1 lm js at' s1 gm hjl hjs hnd;subst hB;walk_at "dc";refine ⟨⟨by decide,by decide⟩,by decide,Jb (by decide),fun lg hlg=>?_⟩;have s2:=s1.new hlg (HO.lst []);have w2:=Same.upd_new hlg (HO.lst []);have g2:upd H1 lg (HO.lst []) lg=some (.lst []):=Jd;have hlg0:=none_of s1 hlg;generalize upd H1 lg (HO.lst [])=H2 at *;refine J06 ?_;walk_at "dc";have m4:=zC (sd / 64) (show (0:Int)<4 by decide);have m0:=zD (sd / 64) (show (4:Int)≠0 by decide);refine ⟨⟨by decide,by decide⟩,by decide,by omega,by omega,?_⟩;have f4:=zC (sd / 16) (show (0:Int)<4 by decide);have f0:=zD (sd / 16) (show (4:Int)≠0 by decide);obtain ⟨few,hfew⟩:∃ few:Nat,sd / 16 % 4=few:=⟨(sd / 16 % 4).toNat,by omega⟩;rw [hfew] at f4 f0 ⊢;refine ForW.of J08 (fun j σ H'=>∃ (v6 v7 v8 v9 v10:Option V) (fvs:List V),σ=[some (V.int sd),some (V.ref d),some (V.ref lm),some (V.int at'),some (V.int few),some (V.ref lg),v6,v7,v8,v9,v10]/\Same H1 H'/\H' lg=some (.lst fvs)/\fvs.length=j/\∀ fv∈fvs,FigA H' fv ns kds) ⟨none,none,none,none,none,[],rfl,w2,g2,rfl,fun _ z=>nomatch z⟩ (fun _ _ _ _ _=>trivial) ?_ ?_
   ·rintro j x σ H3 hx ⟨v6,v7,v8,v9,v10,fvs,rfl,s3,g3,l3,a3⟩
    obtain ⟨hj,rfl⟩:=J0n hx;have S3:=s1.trans s3;walk_at "dc";refine ⟨_,_,rfl,?_⟩;generalize J5c sd _=tn;walk_at "dc";refine ⟨_,hget H3 S3,_,.inl (.of (s3 _ _ gm)),?_⟩;have ln:(nmL ns js).length=xs.length:=by unfold nmL;rw [zL];exact hjl
    rw [ln];refine ⟨by omega,J1g (.of (S3 _ _ hl)) (zD _ (by omega)) (zC _ (by omega)) fun fv hfv=>?_⟩;generalize (tn % (xs.length:Int)).toNat=jj at *;obtain ⟨pf,n,kd,e1,e2,e3,e4⟩:=hF.at (zK.mp hfv).1;obtain rfl:fv=.ref pf:=zA (hfv.symm.trans e1);refine ⟨pf,_,rfl,.of (S3 _ _ e4),rfl,?_⟩;simp only [J21,J4s,JL];generalize hC:J1n (J6e _ _ _) _=C;generalize hD:(Ends.mk _ _ _ _:Ends)=D;have rest:∀ (H5:Hp) (q:Addr) (hd:Str),Same H3 H5->(H5 q=some (.tup [.str "count"])/\hd="count"\/H5 q=some (.tup [.str hd,.str n])/\(hd="sum"\/HdOk hd kd))->C D [some (V.int sd),some (V.ref d),some (V.ref lm),some (V.int at'),some (V.int few),some (V.ref lg),some (V.int (0+(j:Int))),some (V.int tn),some (V.str n),some (V.str kd),some (V.ref q)] H5:=by
     intro H5 q hd w h;subst hC;subst hD;have fin:∀ (H5:Hp) (fv:V),Same H3 H5->FigA H5 fv ns kds->tyV K "list" (V.ref lg) H5/\J4B (V.ref lg) [fv] H5 fun _ H6=>(∃ y,some fv=y)/\Same H1 H6/\∃ x,H6 lg=some (HO.lst x)/\x.length=j+1/\∀ fv∈x,FigA H6 fv ns kds:=fun H5 fv w hfv=>by
      refine ⟨.inl ⟨rfl,_,.of (w _ _ g3)⟩,lg,_,_,rfl,rfl,w _ _ g3,zE (show fvs.length<20 by omega) (Jb (by decide)),⟨_,rfl⟩,(s3.trans w).set hlg _,_,Jd,by rw [zQ,length_singleton];omega,fun v hv=>?_⟩;rcases zZ.mp hv with hv | hv
      ·exact ((a3 v hv).mono w).tup (J9h (w _ _ g3))
      ·rw [zM.mp hv];exact hfv.tup (J9h (w _ _ g3))
     obtain ⟨r,hq,hok⟩:∃ r,H5 q=some (.tup (.str hd::r))/\(hd≠"sum"\/kd≠"word"->FigA H5 (.ref q) ns kds):=by
      rcases h with ⟨h,rfl⟩ | ⟨h,h2⟩
      ·exact ⟨_,h,fun _=>⟨none,_,rfl,.inl ⟨rfl,h⟩⟩⟩
      ·refine ⟨_,h,fun e=>⟨some (hd,jj),_,rfl,.inr ⟨hd,n,jj,kd,rfl,h,e2,e3,?_⟩⟩⟩
       rcases h2 with h2 | h2
       ·exact .inl ⟨h2,(hkk kd (zP e3)).resolve_left (e.resolve_left fun z=>z h2)⟩
       ·exact h2
     walk_at "dc";refine ⟨q,_,_,_,rfl,rfl,.of hq,Jf (j:=0) rfl,rfl,?_⟩;by_cases hs:hd="sum"
     ·rw [zu (by simpa using hs)]
      by_cases hw:kd=Str.ofString "word"
      ·rw [zu (by simpa using hw)]
       exact ⟨Jb (by decide),fun p7 hp7=>fin _ _ (w.new hp7 _) ⟨some ("unlike",jj),_,rfl,.inr ⟨_,n,jj,kd,rfl,Jd,e2,e3,.inr (.inr (.inr rfl))⟩⟩⟩
      ·rw [zt (by simpa using hw)]
       exact fin _ _ w (hok (.inr hw))
     ·rw [zt (by simpa using hs)]
      exact fin _ _ w (hok (.inl hs))
    clear hC hD;walk_at "dc";refine ⟨Jb (by decide),fun p1 hp1=>⟨Jb (by decide),fun p2 hp2=>⟨Jb (by decide),fun p3 hp3=>⟨Jb (by decide),fun p4 hp4=>⟨Jb (by decide),fun p5 hp5=>⟨Jb (by decide),fun p6 hp6=>⟨⟨by decide,by decide⟩,by decide,?_⟩⟩⟩⟩⟩⟩⟩
    walk_at "nw p1 hp1 G1 w1 u1"
    walk_at "nw p2 hp2 G2 y2 u2"
    have w2:=w1.trans y2
    walk_at "nw p3 hp3 G3 y3 u3"
    have w3:=w2.trans y3
    walk_at "nw p4 hp4 G4 y4 u4"
    have w4:=w3.trans y4
    walk_at "nw p5 hp5 G5 y5 u5"
    have w5:=w4.trans y5
    walk_at "nw p6 hp6 G6 y6 u6"
    have w6:=w5.trans y6;have q5:=y6 _ _ u5;have z4:=y5.trans y6;have q4:=z4 _ _ u4;have z3:=y4.trans z4;have q3:=z3 _ _ u3;have z2:=y3.trans z3;have q2:=z2 _ _ u2;have q1:=(y2.trans z2) _ _ u1;have t5:=zC (tn / 8) (show (0:Int)<5 by decide);have t0:=zD (tn / 8) (show (5:Int)≠0 by decide);refine J1g (.of u6) t0 (by simpa using t5) fun x hx=>?_;rcases (by omega:tn / 8 % 5=0\/tn / 8 % 5=1\/tn / 8 % 5=2\/tn / 8 % 5=3\/tn / 8 % 5=4) with h | h | h | h | h<;>rw [h] at hx<;>obtain rfl:=zA hx
    ·exact rest _ _ "count" w6 (.inl ⟨q1,rfl⟩)
    ·exact rest _ _ _ w6 (.inr ⟨q2,.inl rfl⟩)
    ·exact rest _ _ _ w6 (.inr ⟨q3,.inr (.inr (.inl rfl))⟩)
    ·exact rest _ _ _ w6 (.inr ⟨q4,.inr (.inr (.inr (.inl rfl)))⟩)
    ·exact rest _ _ _ w6 (.inr ⟨q5,.inr (.inr (.inr (.inr rfl)))⟩)
   ·rintro σ H3 ⟨v6,v7,v8,v9,v10,fvs,rfl,s3,g3,l3,a3⟩
    rw [JK] at l3;walk_at "dt";have d4:=zC (sd / 256) (show (0:Int)<4 by decide);have d0:=zD (sd / 256) (show (4:Int)≠0 by decide);obtain ⟨m,hm⟩:∃ m:Nat,sd / 256 % 4=m:=⟨(sd / 256 % 4).toNat,by omega⟩;rw [hm] at d4 d0 ⊢;obtain ⟨ck,hck,em⟩:=Jet (xs:=nmL ns js) (a:=few) (m:=m);have ecl:(nmL ns js).length=js.length:=by unfold nmL;rw [zL]
    rw [ecl] at em;obtain ⟨gs,hgs⟩:=J9J a3;have em2:((nmL ns js).drop (min few js.length)).take ck=nmL ns ((js.drop (min few js.length)).take ck):=by unfold nmL;rw [map_take,map_drop]
    refine ⟨_,.of (s3 _ _ gm),fun p1 hp1=>J1S Jd fun n0 G2 w2' u2=>⟨⟨by decide,by decide⟩,by decide,nmL ns js,?_⟩⟩;have w2:=(Same.upd_new hp1 _).trans w2';have ec:J1z (nmL ns js) none (some (few:Int))=nmL ns (js.take few):=(cut_to (xs:=nmL ns js) (k:=few)).trans (by unfold nmL;rw [map_take]);rw [ec] at u2;refine ⟨.of (w2 _ _ (s3 _ _ gm)),fun p2 hp2=>J1S Jd fun n1 G4 w4' u4=>?_⟩;have y4:=(Same.upd_new hp2 _).trans w4';have w4:=w2.trans y4;rw [em,em2] at u4;refine J1S (w4 _ _ g3) fun fg G5 y5 u5=>⟨Jb (by decide),fun vw hvw=>?_⟩;have w5:=w4.trans y5;have w6:=w5.new hvw (HO.tup [V.ref n0,V.ref n1,V.ref fg]);have y6:=Same.upd_new hvw (HO.tup [V.ref n0,V.ref n1,V.ref fg]);refine k _ vw n0 n1 fg fvs gs (js.take few) ((js.drop (min few js.length)).take ck) ((s1.trans s3).trans w6) ⟨Jd,y6 _ _ (y5 _ _ (y4 _ _ u2)),y6 _ _ (y5 _ _ u4),fun i hi=>hjs i (mem_of_mem_take hi),fun i hi=>hjs i (mem_of_mem_drop (mem_of_mem_take hi)),?_,?_⟩ (y6 _ _ u5) (hgs.tup fun _ _ z=>w6 _ _ z) (by omega) (by omega) (Je4 hnd)
    ·rw [zR];omega
    ·rw [zR];omega
  walk_at "dc";refine ⟨_,hget H (Same.refl _),l,rfl,⟨_,.of hl⟩,?_⟩;refine JV (JB (xs:=xs)) (Jb (by omega)) (fun i ys H'=>Same H H'/\ys=nmL ns (List.range i)) ⟨Same.refl _,rfl⟩ (fun _ _ H' _ q=>q.1.seq (.of hl)) (fun i ys H' q=>by rw [q.2];unfold nmL;rw [zL,qe];exact zv _) (fun i x ys H3 hx q=>?_) (fun ys H3 q D hD=>?_)
  ·obtain ⟨t1,rfl⟩:=q
   obtain ⟨p,n,kd,e1,e2,e3,e4⟩:=hF.at (zK.mp hx).1;obtain rfl:x=.ref p:=zA (hx.symm.trans e1);walk_at "dc";refine ⟨p,_,_,_,rfl,rfl,.of (t1 _ _ e4),Jf (j:=0) rfl,⟨_,rfl⟩,t1,?_⟩;unfold nmL;rw [range_succ,zY,zV,map_nil,J0Y e2]
  ·obtain ⟨t1,rfl⟩:=q
   walk_at "nw D hD H4 u_ g1"
   have s1:=t1.trans u_;have ln:(nmL ns (List.range xs.length)).length=xs.length:=by unfold nmL;rw [zL,qe]
   refine ⟨_,.inl (.of g1),?_⟩;rw [ln];refine ⟨by omega,_,.of g1,fun p hp=>?_⟩;obtain ⟨a,ha⟩:∃ a:Nat,sd % (xs.length:Int)=a:=⟨(sd % (xs.length:Int)).toNat,by have:=zD sd (show (xs.length:Int)≠0 by omega);omega⟩;have hal:a<xs.length:=by have:=zC sd (show (0:Int)<xs.length by omega);omega
   rw [ha];have e1:J1z (nmL ns (List.range xs.length)) (some (a:Int)) none=nmL ns ((List.range xs.length).drop a):=(JbU (nmL ns (List.range xs.length)) a).trans (by unfold nmL;rw [map_drop]);have e2:J1z (nmL ns (List.range xs.length)) none (some (a:Int))=nmL ns ((List.range xs.length).take a):=(cut_to (xs:=nmL ns (List.range xs.length)) (k:=a)).trans (by unfold nmL;rw [map_take]);rw [e1]
   walk_at "nw p hp H5 w2 g2"
   have s2:=s1.trans w2;refine ⟨_,.of (w2 _ _ g1),fun p2 hp2=>?_⟩;rw [e2]
   walk_at "nw p2 hp2 H6 w3 g3"
   have s3:=s2.trans w3;have el:((List.range xs.length).drop a++(List.range xs.length).take a).length=xs.length:=by
    rw [zQ,length_drop,zR,qe];omega
   have em:∀ j∈(List.range xs.length).drop a++(List.range xs.length).take a,j<kds.length:=fun j hj=>by
    rw [hxk];rcases zZ.mp hj with h | h
    ·exact mem_range.mp (mem_of_mem_drop h)
    ·exact mem_range.mp (mem_of_mem_take h)
   have nd:((List.range xs.length).drop a++(List.range xs.length).take a).Nodup:=(perm_append_comm.nodup_iff).mpr (by rw [take_append_drop];exact nodup_range);have ea:nmL ns ((List.range xs.length).drop a)++nmL ns ((List.range xs.length).take a)=nmL ns ((List.range xs.length).drop a++(List.range xs.length).take a):=by unfold nmL;rw [zY]
   have lsum:(nmL ns ((List.range xs.length).drop a)).length+(nmL ns ((List.range xs.length).take a)).length=xs.length:=by
    rw [<- zQ,ea];unfold nmL;rw [zL];exact el
   refine ⟨p,p2,_,_,rfl,rfl,w3 _ _ g2,g3,by rw [lsum];exact Jb (by omega),fun p3 hp3=>?_⟩;rw [ea];generalize (List.range xs.length).drop a++(List.range xs.length).take a=js at *
   walk_at "nw p3 hp3 H7 u_ g4"
   have s4:=s3.trans u_;refine ⟨⟨by decide,by decide⟩,by decide,?_⟩;by_cases c:sd / 8 % 2=1
   ·rw [zu (zx c)]
    refine ⟨p3,rfl,_,.of g4,fun p4 hp4=>?_⟩;have er:(nmL ns js).reverse=nmL ns js.reverse:=by unfold nmL;rw [map_reverse]
    rw [er];exact tl _ p4 js.reverse a (s4.new hp4 _) Jd (by rw [length_reverse];exact el) (fun j hj=>em j (mem_reverse.mp hj)) (((reverse_perm js).nodup_iff).mpr nd)
   ·rw [zt (by simpa using c)]
    exact tl _ p3 js a s4 g4 el em nd
theorem J4u:∀ {kvs:List (Key×V)} {i:Nat} {k:Key} {v:V},(kvs.map (·.1)).Nodup->kvs[i]?=some (k,v)->JG kvs k=some v
 | [],i,k,v,_,e=>by simp at e
 | kv::kvs,i,k,v,nd,e=>by
   rw [zV,nodup_cons] at nd;unfold JG;rw [List.find?_cons];cases i with
   | zero =>
     obtain rfl:kv=(k,v):=by simpa using e
     rw [zx rfl];rfl
   | succ i =>
     have e2:kvs[i]?=some (k,v):=by simpa using e
     have ne:kv.1≠k:=fun z=>nd.1 (by rw [z];exact qb.mpr ⟨(k,v),zP e2,rfl⟩);rw [zy ne];exact J4u nd.2 e2
theorem perm_one {α:Type}{le:α->α->Prop}(anti:∀ a b,le a b->le b a->a=b):∀ {xs ys:List α},xs.Perm ys->xs.Pairwise le->ys.Pairwise le->xs=ys
 | [],ys,p,_,_=>(List.Perm.nil_eq p)
 | a::as,[],p,_,_=>absurd p.length_eq (by simp)
 | a :: as,b::bs,p,h1,h2=>by
   rw [pairwise_cons] at h1 h2;have e:a=b:=by
    rcases zU.mp (p.mem_iff.mp zT) with e | h
    ·exact e
    ·rcases zU.mp (p.mem_iff.mpr zT) with e | h'
     ·exact e.symm
     ·exact anti a b (h1.1 b h') (h2.1 a h)
   subst e;rw [perm_one anti p.cons_inv h1.2 h2.2]
variable {R:List V->Prop}
structure RwK (H:Hp)(kds:List Str)(kvs:List (Key×V))(ks:List Int):Prop where
 k:kvs.map (·.1)=ks.map Sum.inl
 up:ks.Pairwise (·<·)
 r:∀ kv∈kvs,∃ r rs,kv.2=.ref r/\H r=some (.tup rs)/\RowS kds rs
theorem RwK.tup {H H':Hp}{kds:List Str}{kvs:List (Key×V)}{ks:List Int}(t:∀ c ys,H c=some (.tup ys)->H' c=some (.tup ys))(h:RwK H kds kvs ks):RwK H' kds kvs ks:=⟨h.k,h.up,fun kv hk=>by
 obtain ⟨r,rs,e,a,b⟩:=h.r kv hk;exact ⟨r,rs,e,t _ _ a,b⟩⟩
theorem RwK.mono (s:Same H H')(h:RwK H kds kvs ks):RwK H' kds kvs ks:=h.tup fun _ _ z=>s _ _ z
theorem RwK.len (h:RwK H kds kvs ks):kvs.length=ks.length:=by
 have:=congrArg List.length h.k;rwa [zL,zL] at this
theorem RwK.nd (h:RwK H kds kvs ks):(kvs.map (·.1)).Nodup:=by
 rw [h.k];unfold List.Nodup;rw [pairwise_map];exact h.up.imp fun {a b} q e=>by injection e with e;omega
theorem RwK.at (h:RwK H kds kvs ks){n:Int}(hn:ks[i]?=some n):∃ r rs,kvs[i]?=some (.inl n,.ref r)/\JG kvs (.inl n)=some (.ref r)/\H r=some (.tup rs)/\RowS kds rs:=by
 have hi:i<kvs.length:=by rw [h.len];exact (zK.mp hn).1
 have e:=zJ hi;obtain ⟨r,rs,e1,e2,e3⟩:=h.r _ (getElem_mem hi);have ek:kvs[i].1=.inl n:=by
  have:=congrArg (fun l=>l[i]?) h.k;simp only [zW,e,hn,Option.map_some,Option.some.injEq] at this;exact this
 have ev:kvs[i]=(.inl n,.ref r):=by rw [<- ek,<- e1]
 rw [ev] at e;exact ⟨r,rs,e,J4u h.nd e,e2,e3⟩
def RwN (H:Hp)(kds:List Str)(kvs:List (Key×V))(nrs:List NR):Prop:=Paired (fun (kv:Key×V) (nr:NR)=>kv.1=.inl nr.1/\∃ r,kv.2=.ref r/\H r=some (.tup nr.2)/\RowS kds nr.2) kvs nrs
theorem RwN.mono (s:Same H H')(h:RwN H kds kvs nrs):RwN H' kds kvs nrs:=Paired.mapP h fun _ _ ⟨e,r,e2,a,b⟩=>⟨e,r,e2,s _ _ a,b⟩
theorem RwK.rows {H:Hp}{kds:List Str}:∀ {kvs:List (Key×V)} {ks:List Int},kvs.map (·.1)=ks.map Sum.inl->(∀ kv∈kvs,∃ r rs,kv.2=.ref r/\H r=some (.tup rs)/\RowS kds rs)->∃ nrs,RwN H kds kvs nrs/\nrs.map (·.1)=ks
 | [],ks,e,_=>by
   cases ks with
   | nil=>exact ⟨[],.nil,rfl⟩
   | cons=>cases e
 | kv::kvs,ks,e,h=>by
   cases ks with
   | nil=>cases e
   | cons k ks =>
     rw [zV,zV] at e;injection e with e1 e2
     obtain ⟨nrs,hr,he⟩:=RwK.rows e2 fun v hv=>h v (zS _ hv);obtain ⟨r,rs,h1,h2,h3⟩:=h kv zT;exact ⟨(k,rs)::nrs,.cons ⟨e1,r,h1,h2,h3⟩ hr,by rw [zV,he]⟩
inductive Q_lay (P:Program)(w:World)(K:PySem.W.Frag)(f:Nat->Addr)(vs:List V)(H:Hp)(Q:VK):Prop
 | mk (o v l d n0 n1 fg:Addr) (sv:V) (g:Int) (xs fvs:List V) (kvs:List (Key×V)) (ks:List Int) (gs:List Fg) (ns kds:List Str) (is0 is1:List Nat) (nrs:List NR) (F:List V->Bool) (u0_:vs=[.ref o,.ref v,sv]) (u1_:ShAt f H o l d g xs kvs) (u2_:VwOk H l v n0 n1 fg xs fvs gs ns kds is0 is1) (u3_:Sv ns kds 4 H sv F) (u4_:RwK H kds kvs ks) (u5_:RwN H kds kvs nrs) (u6_:kvs.length<=40) (u7_:∀ H' t kss0 kss1,Same H H'->TabAt P w f H' t v gs ns kds is0 is1 kss0 kss1 (J3o is0 is1 (nrs.filter fun nr=>F nr.2))->Q (.ref t) H'):Q_lay P w K f vs H Q
def JdG (P:Program)(w:World)(K:PySem.W.Frag)(f:Nat->Addr):Sp:=fun vs H Q _=>Q_lay P w K f vs H Q
theorem ok_lay (T:Txt K mg f fd):FnOk P w K mg base CX0 9 (f 53) (fd 53) ["sheet","view","sieve"] (JdG P w K f):=by
 walk_at "ok yq J8B"
 ·obtain ⟨o,v,l,d,n0,n1,fg,sv,g,xs,fvs,kvs,ks,gs,ns,kds,is0,is1,nrs,F,rfl,_⟩:=h
  rfl
 ·obtain ⟨o,v,l,d,n0,n1,fg,sv,g,xs,fvs,kvs,ks,gs,ns,kds,is0,is1,nrs,F,rfl,hS,hV,hSv,hK,hP,h20,k⟩:=h
  obtain ⟨dx,ho⟩:=hS.o;have hlk:=hK.len;have hlr:=Paired.length hP;refine ⟨_,(J9 (psc 3 J8B.nd (J52 (pvc 0) T.wb.cls T.yT (J4q T) (hr.mono (by decide)) T.yG.b .nil J0W rfl))
   (J9 (JM (Jg T.yj (ok_asked_view T) (hr.mono (by decide)) rfl (by decide) rfl (pal rfl (pvc 3) (pal rfl (pvl 1) J1))))
   (J9 (JM (Jg T.ww (J2F T 5) (hr.mono (by decide)) rfl (by decide) rfl (pal rfl (pvc 3) (pal rfl (pvc 2) J1))))
   (J9 (J1D ["number"] ["sheet","view","sieve","fields","pairs"] rfl (show CompSc _ (Je J7I) ["sheet","view","sieve","fields","pairs"] ["sheet","view","sieve","fields","pairs"] from Ju (by decide +kernel)) J8B.nd (i:=4) rfl rfl (J0Q rfl (J52 (pvc 0) T.wb.cls T.yL (J1Z T) (hr.mono (by decide)) T.wQ.b .nil J0W rfl)) (fun _ _ _ _ _=>(pgl 0 (show (["number","sheet","view","sieve","fields","pairs"]:List Str).Nodup by decide +kernel))) (fun _ _ _ _ _=>JH) (fun _ _ _ _ _=>(Jy (pal rfl (pvl 0) (pal rfl (J0F (pvc 1) T.wb.cls T.wT (J2j T) (hr.mono (by decide)) T.wB.b .nil J0W (pal rfl (pvl 0) J1) rfl rfl rfl) J1)))))
   (Jc (Ji (J9y T.wd.mkr (ok_Table___init__ T) (hr.mono (by decide)) rfl T.wd.m T.yK.b .nil J0W (pal rfl (pvc 3) (pal rfl (pvl 1) (pal rfl (J00 ["pair"] ["sheet","view","sieve","fields","pairs"] rfl (show CompSc _ (Je J7I) ["sheet","view","sieve","fields","pairs"] ["sheet","view","sieve","fields","pairs"] from Ju (by decide +kernel)) (J0Q rfl (pvl 4)) (fun _ _ _ _ _=>(pgl 0 (show (["pair","sheet","view","sieve","fields","pairs"]:List Str).Nodup by decide +kernel))) (fun _ _ _ _ _=>(J9w (J04 (Jg T.wt (J56 T 5) (hr.mono (by decide)) rfl (by decide) rfl (pal rfl (pvc 4) (pal rfl (pvc 3) (pal rfl (Jj (Jo rfl) (pvl 0) Ja (fun _ _=>rfl)) J1))))))) (fun _ _ _ _ _=>(pvl 0))) J1))) (by decide) rfl rfl))))))),?_⟩
  walk_at "dc";refine ⟨_,_,ho,rfl,o,l,d,g,xs,kvs,rfl,hS,fun H1 lc s1 gl=>?_⟩;have hV1:VwOk H1 lc v n0 n1 fg xs fvs gs ns kds is0 is1:=by
   have h:=hV.mono s1;exact ⟨⟨gl,h.b.F,h.b.kk,h.b.vw,h.b.fg,h.b.fs,h.b.fl⟩,h.nd,h.nm,h.g1,h.g4⟩
  refine ⟨lc,v,n0,n1,fg,xs,fvs,gs,ns,kds,is0,is1,rfl,hV1,fun H2 s2=>?_⟩;have S2:=s1.trans s2;refine ⟨lc,sv,xs,ns,kds,F,rfl,s2 _ _ gl,hV.b.F.mono S2,hV.b.kk,hSv.mono (Same.t S2),fun H3 s3=>?_⟩;have S3:=S2.trans s3;refine ⟨_,_,S3 _ _ ho,rfl,o,l,d,g,xs,kvs,ks,rfl,hS.mono S3,hK.k,by omega,fun pm ms hpm hms hup=>?_⟩;obtain rfl:ms=ks:=perm_one (le:=fun a b:Int=>a<=b) (fun a b h1 h2=>by omega) hms hup (hK.up.imp fun {a b} q=>by omega)
  walk_at "nw pm hpm H4 u4 g4"
  have S4:=S3.trans u4;refine ⟨pm,rfl,⟨_,.of g4⟩,?_⟩;refine JV (JB (xs:=ms.map V.int)) (by rw [zL];exact Jb (by omega)) (fun i ys H'=>Same H4 H'/\PrsR H' kds ys (nrs.take i)) ⟨Same.refl _,.nil⟩ (fun _ _ H' _ q=>q.1.seq (.of g4)) (fun i ys H' q=>by rw [Paired.length q.2,zR];omega) (fun i x ys H5 hx q=>?_) (fun ys H5 q D hD=>?_)
  ·obtain ⟨t1,hys⟩:=q
   have S5:=S4.trans t1;rw [zW] at hx;obtain ⟨n,hn,rfl⟩:=Option.map_eq_some_iff.mp hx;obtain ⟨r,rs,e1,e2,e3,e4⟩:=hK.at hn;obtain ⟨⟨n',rs'⟩,hrs,en,r',e5,e6,e7⟩:=Paired.ix hP e1;obtain rfl:n=n':=by injection en
   obtain rfl:r'=r:=by injection e5 with e5;exact e5.symm
   walk_at "dc";refine ⟨_,_,S5 _ _ ho,rfl,⟨l,d,⟨g,xs,kvs,hS.mono S5,_,e2,Jb (by decide),fun p hp=>⟨⟨_,rfl⟩,t1.new hp _,?_⟩⟩⟩⟩;have u:=Same.upd_new hp (HO.tup [V.int n,V.ref r']);rw [Jw hrs];exact Paired.snoc (PrsR.mono u hys) ⟨p,r',rfl,Jd,u _ _ (S5 _ _ e6),e7⟩
  ·obtain ⟨t1,hys⟩:=q
   rw [zL,show ms.length=nrs.length by omega,zX] at hys;have hyl:=Paired.length hys;have u6:=t1.new hD (HO.lst ys);have g6:upd H5 D (HO.lst ys) D=some (.lst ys):=Jd;have hys6:=PrsR.mono (Same.upd_new hD (HO.lst ys)) hys;generalize upd H5 D (HO.lst ys)=H6 at *;have S6:=S4.trans u6;have y6:=(s2.trans s3).trans (u4.trans u6);unfold JaJ;walk_at "dc";refine ⟨⟨_,.of g6⟩,?_⟩;refine JV (JB (xs:=ys)) (Jb (by omega)) (fun i zs H'=>Same H6 H'/\PrsR H' kds zs ((nrs.take i).filter fun nr=>F nr.2)) ⟨Same.refl _,.nil⟩ (fun _ _ H' _ q=>q.1.seq (.of g6)) (fun i zs H' q=>by
    have e:=Paired.length q.2;have l1:=length_filter_le (fun nr:NR=>F nr.2) (nrs.take i);rw [zR] at l1;omega) (fun i x zs H7 hx q=>?_) (fun zs H7 q D2 hD2=>?_)
   ·obtain ⟨t2,hz⟩:=q
    obtain ⟨⟨n,rs⟩,hnr,pp,r,rfl,e1,e2,e3⟩:=Paired.ix (hys6.mono t2) hx;rw [Jw hnr,filter_append,filter_cons,filter_nil];have y7:=y6.trans t2;walk_at "dc";refine ⟨pp,_,_,_,rfl,rfl,.of e1,Jf (j:=1) rfl,lc,sv,r,ns,kds,rs,F,rfl,⟨xs,y7 _ _ gl,hV.b.F.mono (S6.trans t2),e2,e3.ok⟩,hSv.mono (Same.t (S6.trans t2)),fun H8 s8=>⟨_,rfl,?_⟩⟩;cases hF:F rs with
    | true =>
      rw [zu rfl,zu rfl];exact ⟨⟨_,rfl⟩,t2.trans s8,Paired.snoc (hz.mono s8) ⟨pp,r,rfl,s8 _ _ e1,s8 _ _ e2,e3⟩⟩
    | false =>
      rw [zt zw,zt zw,append_nil];exact ⟨⟨_,rfl⟩,t2.trans s8,hz.mono s8⟩
   ·obtain ⟨t2,hz⟩:=q
    rw [hyl,zX] at hz;have hzl:=Paired.length hz;have lz:=length_filter_le (fun nr:NR=>F nr.2) nrs;have w8:=t2.new hD2 (HO.lst zs);have g8:upd H7 D2 (HO.lst zs) D2=some (.lst zs):=Jd;have hz8:=hz.mono (Same.upd_new hD2 (HO.lst zs));generalize upd H7 D2 (HO.lst zs)=G at *;intro ot dt hot hdt hne;have hn1:upd G dt (.own ot) ot=none:=by rw [Jh (Ne.symm hne)];exact hot
    have SG:Same H G:=S6.trans w8;have hVG:=hV1.mono (((s2.trans s3).trans u4).trans (u6.trans w8));exact ⟨G,ot,dt,lc,v,D2,n0,n1,fg,xs,fvs,zs,gs,ns,kds,is0,is1,_,rfl,(Same.upd_new hdt _).new hn1 _,hot,Jd,hVG.b,g8,by omega,hz8,fun H9 kss0 kss1 s9 hT=>⟨rfl,k H9 ot kss0 kss1 (SG.trans s9) hT⟩⟩
variable {R:List V->Prop}
theorem RwK.no (h:RwK H kds kvs ks){n:Int}(hn:n∉ks):JG kvs (.inl n)=none:=by
 cases e:JG kvs (.inl n) with
 | none=>rfl
 | some v =>
   unfold JG at e;obtain ⟨kv,h1,_⟩:=Option.map_eq_some_iff.mp e;have h2:=List.find?_some h1;have h3:kv.1∈kvs.map (·.1):=mem_map_of_mem (mem_of_find?_eq_some h1);rw [h.k,of_decide_eq_true h2] at h3;obtain ⟨m,hm,e2⟩:=qb.mp h3;injection e2 with e2
   exact absurd (e2 ▸ hm) hn
theorem RwK.put (h:RwK H kds kvs ks)(hg:∀ n∈ks,n<g)(hr:H r=some (.tup rs))(hR:RowS kds rs):RwK H kds (J0k kvs (.inl g) (.ref r)) (ks++[g]):=by
 rw [putK_new (h.no fun z=>by have:=hg g z;omega)];refine ⟨?_,?_,fun kv hk=>?_⟩
 ·rw [zY,zY,h.k]
  rfl
 ·rw [pairwise_append]
  exact ⟨h.up,pairwise_singleton _ _,fun a ha b hb=>by rw [zM.mp hb];exact hg a ha⟩
 ·rcases zZ.mp hk with hk | hk
  ·exact h.r kv hk
  ·rw [zM.mp hk]
   exact ⟨r,rs,rfl,hr,hR⟩
theorem RwK.turn {n:Int}(h:RwK H kds kvs ks)(hn:ks[i]?=some n)(hr:H r=some (.tup rs))(hR:RowS kds rs):RwK H kds (J0k kvs (.inl n) (.ref r)) ks:=by
 obtain ⟨r0,rs0,e1,_⟩:=h.at hn;have ea:(kvs.any fun kv=>decide (kv.1=.inl n))=true:=any_eq_true.mpr ⟨_,zP e1,zx rfl⟩;unfold J0k;rw [zu ea];refine ⟨?_,h.up,fun kv hk=>?_⟩
 ·rw [<- h.k,map_map]
  apply map_congr_left;intro kv _;simp only [Function.comp];by_cases c:kv.1=.inl n
  ·rw [zu c]
  ·rw [zt c]
 ·obtain ⟨kv0,h0,rfl⟩:=qb.mp hk
  by_cases c:kv0.1=.inl n
  ·rw [zu c]
   exact ⟨r,rs,rfl,hr,hR⟩
  ·rw [zt c]
   exact h.r kv0 h0
theorem RwK.drop {n:Int}(h:RwK H kds kvs ks):RwK H kds (J2K kvs (.inl n)) (ks.filter fun m=>decide (m≠n)):=by
 refine ⟨?_,h.up.sublist filter_sublist,fun kv hk=>?_⟩
 ·have hk:=h.k
  clear h;unfold J2K
  induction kvs generalizing ks with
  | nil =>
    cases ks with
    | nil=>rfl
    | cons=>cases hk
  | cons kv kvs ih =>
    cases ks with
    | nil=>cases hk
    | cons m ks =>
      rw [zV,zV] at hk;injection hk with e1 e2
      have ih:=ih e2;rw [filter_cons,filter_cons];by_cases c:m=n
      ·rw [zt (by rw [e1,c];simp),zt (by simp [c])]
       exact ih
      ·rw [zu (by simp;intro z;rw [e1] at z;injection z with z;exact c z),zu (by simpa using c),zV,zV,ih,e1]
 ·unfold J2K at hk
  exact h.r kv (mem_filter.mp hk).1
theorem J0S {u:HO}(h:H p=some u)(hu:∀ ys,u≠.tup ys){c:Addr}(hc:H c=some (.tup ys)):upd H p o c=some (.tup ys):=by
 rw [Jh (fun e=>by rw [e,h] at hc;exact hu _ (zA hc))];exact hc
theorem JaP {f:Nat->Addr}{o dt:Addr}{kvs':List (Key×V)}(s:Same H G)(hS:ShAt f G o l d g xs kvs)(gt:G dt=some (.dK kvs))(hdd:d≠dt)(hd0:H d=none)(ht0:H dt=none) :
 Same H (upd (upd G d (.dK kvs')) dt (.dK kvs'))/\ShAt f (upd (upd G d (.dK kvs')) dt (.dK kvs')) o l d g xs kvs'/\upd (upd G d (.dK kvs')) dt (.dK kvs') dt=some (.dK kvs')/\∀ c ys,G c=some (.tup ys)->upd (upd G d (.dK kvs')) dt (.dK kvs') c=some (.tup ys):=by
 obtain ⟨dx,ho⟩:=hS.o;have gt1:upd G d (.dK kvs') dt=some (.dK kvs):=by rw [Jh (Ne.symm hdd)];exact gt
 have nod:o≠d:=J1w ho hS.d (fun z=>nomatch z);have not:o≠dt:=J1w ho gt (fun z=>nomatch z);have nld:l≠d:=J1w hS.l hS.d (fun z=>nomatch z);have nlt:l≠dt:=J1w hS.l gt (fun z=>nomatch z);refine ⟨(s.set hd0 _).set ht0 _,⟨⟨dx,?_⟩,?_,?_⟩,Jd,fun c ys z=>J0S gt1 (fun _ z=>nomatch z) (J0S hS.d (fun _ z=>nomatch z) z)⟩
 ·rw [Jh not,Jh nod];exact ho
 ·rw [Jh nlt,Jh nld];exact hS.l
 ·rw [Jh hdd];exact Jd
theorem JdJ {f:Nat->Addr}{o dt dx':Addr}{g':Int}{kvs':List (Key×V)}(s:Same H G)(hS:ShAt f G o l d g xs kvs)(gt:G dt=some (.dK kvs))(hdd:d≠dt)(ho0:H o=none)(hd0:H d=none)(ht0:H dt=none) :
 upd (upd G d (.dK kvs')) o (.ins (f 28) dx' (J6w l d g')) dt=some (.dK kvs)/\Same H (upd (upd (upd G d (.dK kvs')) o (.ins (f 28) dx' (J6w l d g'))) dt (.dK kvs'))/\ShAt f (upd (upd (upd G d (.dK kvs')) o (.ins (f 28) dx' (J6w l d g'))) dt (.dK kvs')) o l d g' xs kvs'/\upd (upd (upd G d (.dK kvs')) o (.ins (f 28) dx' (J6w l d g'))) dt (.dK kvs') dt=some (.dK kvs')/\∀ c ys,G c=some (.tup ys)->upd (upd (upd G d (.dK kvs')) o (.ins (f 28) dx' (J6w l d g'))) dt (.dK kvs') c=some (.tup ys):=by
 obtain ⟨dx,ho⟩:=hS.o;have nod:o≠d:=J1w ho hS.d (fun z=>nomatch z);have not:o≠dt:=J1w ho gt (fun z=>nomatch z);have nld:l≠d:=J1w hS.l hS.d (fun z=>nomatch z);have nlt:l≠dt:=J1w hS.l gt (fun z=>nomatch z);have nlo:l≠o:=J1w hS.l ho (fun z=>nomatch z);have ho1:upd G d (.dK kvs') o=some (.ins (f 28) dx (J6w l d g)):=by rw [Jh nod];exact ho
 have gt1:upd (upd G d (.dK kvs')) o (.ins (f 28) dx' (J6w l d g')) dt=some (.dK kvs):=by rw [Jh (Ne.symm not),Jh (Ne.symm hdd)];exact gt
 refine ⟨gt1,((s.set hd0 _).set ho0 _).set ht0 _,⟨⟨dx',?_⟩,?_,?_⟩,Jd,fun c ys z=>J0S gt1 (fun _ z=>nomatch z) (J0S ho1 (fun _ z=>nomatch z) (J0S hS.d (fun _ z=>nomatch z) z))⟩
 ·rw [Jh not];exact Jd
 ·rw [Jh nlt,Jh nlo,Jh nld];exact hS.l
 ·rw [Jh hdd,Jh (Ne.symm nod)];exact Jd
inductive Q_l_sheet (K:PySem.W.Frag)(f:Nat->Addr)(vs:List V)(H:Hp)(Q:VK):Prop
 | mk (a dW:Addr) (is:List Int) (ns kds:List Str) (many:Int) (u0_:vs=[.ref a,.ref dW,.int many]) (u1_:SqL K H a (is.map V.int)) (u2_:Wd H dW ns kds) (u3_:0<=many) (u4_:many<=40) (u5_:∀ H' p o l d dt g xs kvs ks,Same H H'->H' p=some (.tup [.ref o,.ref dt])->ShAt f H' o l d g xs kvs->H' dt=some (.dK kvs)->FldsK H' xs ns kds->RwK H' kds kvs ks->kvs.length<=40->Q (.ref p) H'):Q_l_sheet K f vs H Q
def J8q (K:PySem.W.Frag)(f:Nat->Addr):Sp:=fun vs H Q _=>Q_l_sheet K f vs H Q
theorem ok_l_sheet (T:Txt K mg f fd):FnOk P w K mg base CX0 8 (f 67) (fd 67) ["_law_script","_law_world_here","_law_many"] (J8q K f):=by
 walk_at "ok yy J0M"
 ·obtain ⟨a,dW,is,ns,kds,many,rfl,_⟩:=h
  rfl
 ·obtain ⟨a,dW,is,ns,kds,many,rfl,hs,hW,hm0,hm1,k⟩:=h
  obtain ⟨l,xs,hl,hF,hkk,h1,h8,hnm,hget⟩:=hW.out;refine ⟨_,(J9 (psl 3 J0M.nd (J9y T.wb.mkr (ok_Sheet___init__ T) (hr.mono (by decide)) rfl T.wb.m T.yF.b .nil J0W (pal rfl (J0t (J72 rfl) T.wm J2l rfl (by decide) (by decide) rfl (pal rfl (JX (J0b hr) (pvl 1) Jp (fun _ _=>rfl)) J1)) J1) (by decide) rfl rfl))
   (J9 (psl 4 J0M.nd J3D)
   (J9 (J09 PassesOwn.never rfl (J0l rfl T.wg (pal rfl (pvl 2) J1)) (pgl 5 J0M.nd)
   (J9 (psl 6 J0M.nd (Jg T.we (JS T) (hr.mono (by decide)) rfl (by decide) rfl (pal rfl (Jn J05 (Jg T.wn (J0X T) (hr.mono (by decide)) rfl (by decide) rfl (pal rfl (pvl 0) (pal rfl (Jn J05 Ja (pvl 5)) J1))) (pvl 5)) (pal rfl Ja J1))))
   (J9 (psl 7 J0M.nd (Jg T.yv (ok_l_row T) (hr.mono (by decide)) rfl (by decide) rfl (pal rfl (Jg T.we (JS T) (hr.mono (by decide)) rfl (by decide) rfl (pal rfl (pvl 6) (pal rfl Ja J1))) (pal rfl (pvl 1) J1))))
   (Jc (Jt (PW.pt (J3g (Jk JA (Jn Jx (pvl 6) Ja) Ja (Jm _)) (J2g (Jk J5Q (Js J60 T.wa Jv rfl (by decide) (by decide) rfl (pal rfl (pvl 4) J1)) Ja (Jm _)))))
   (J9 (psl 8 J0M.nd (Jj (J0I rfl) (Js (J10 rfl) T.wq J22 rfl (by decide) (by decide) rfl (pal rfl (pvl 4) J1)) (Jn Jx (Jn JQ (pvl 6) Ja) (Js J60 T.wa Jv rfl (by decide) (by decide) rfl (pal rfl (pvl 4) J1))) (fun _ _=>rfl)))
   (Jc (Jt (Jk JA (Jn Jx (Jn JQ (pvl 6) Ja) Ja) Ja (Jm _))
   (J9 (JM (J0F (pvl 3) T.wb.cls T.yV (J6Q T) (hr.mono (by decide)) T.yI.b .nil J0W (pal rfl (pvl 8) J1) rfl rfl rfl))
   (Jc (JM (J1h rfl PySem.F.plainAttrs_dict PySem.F.slot_dict_pop PySem.F.type_dict_pop J9A rfl rfl rfl rfl (pvl 4) (pal rfl (pvl 8) J1)))))
   (J9 (JM (J0F (pvl 3) T.wb.cls T.yW (J5I T) (hr.mono (by decide)) T.yJ.b .nil J0W (pal rfl (pvl 8) (pal rfl (pvl 7) J1)) rfl rfl rfl))
   (Jc (J2h (J0b hr) (pvl 4) (pvl 8) (pvl 7) rfl))))))
   (Jc (J2h (J0b hr) (pvl 4) (J0F (pvl 3) T.wb.cls T.yU (J6P T) (hr.mono (by decide)) T.yH.b .nil J0W (pal rfl (pvl 7) J1) rfl rfl rfl) (pvl 7) rfl)))))))
   (Jc (Ji (Jy (pal rfl (pvl 3) (pal rfl (pvl 4) J1)))))))),?_⟩
  generalize hB:J1n (J3t _ (JL 4)) _=B;walk_at "dc";unfold JaJ;walk_at "dc";refine ⟨_,hget H (Same.refl _),l,rfl,xs,.inl (.of hl),fun lc hlc o dx ho hdx hne=>?_⟩
  walk_at "nw lc hlc H1 s1 gc"
  have hn1:upd H1 dx (.own o) o=none:=by rw [Jh (Ne.symm hne)];exact ho
  refine ⟨H1,o,dx,lc,xs,ns,kds,rfl,(Same.upd_new hdx _).new hn1 _,ho,Jd,gc,hF.mono s1,hnm,hkk,h1,h8,fun H2 lf d s2 hd _ hS=>⟨rfl,?_⟩⟩;have S2:=s1.trans s2;have ho0:=none_of s1 ho;have hd0:=none_of s1 hd;subst hB;walk_at "dc";intro dt hdt;have ht0:=none_of S2 hdt;have hdd:d≠dt:=fun z=>by have:=hS.d;rw [z,hdt] at this;cases this
  have S3:=S2.new hdt (HO.dK []);have g3:upd H2 dt (HO.dK []) dt=some (.dK []):=Jd;have hS3:=hS.mono (Same.upd_new hdt (HO.dK []));generalize upd H2 dt (HO.dK [])=H3 at *;refine J06 ?_;walk_at "dc";obtain ⟨mm,rfl⟩:∃ mm:Nat,many=mm:=⟨many.toNat,by omega⟩;refine ⟨by omega,by omega,?_⟩;rw [Int.toNat_natCast];refine ForW.of J08 (fun j σ H'=>∃ (v5 v6 v7 v8:Option V) (g:Int) (kvs:List (Key×V)) (ks:List Int),σ=[some (V.ref a),some (V.ref dW),some (V.int mm),some (V.ref o),some (V.ref dt),v5,v6,v7,v8]/\Same H H'/\ShAt f H' o lf d g xs kvs/\H' dt=some (.dK kvs)/\RwK H' kds kvs ks/\(∀ n∈ks,n<g)/\kvs.length<=j) ⟨none,none,none,none,0,[],[],rfl,S3,hS3,g3,⟨rfl,.nil,fun _ z=>nomatch z⟩,(fun _ z=>nomatch z),zv _⟩ (fun _ _ _ _ _=>trivial) ?_ ?_
  ·rintro j x σ H4 hx ⟨v5,v6,v7,v8,g,kvs,ks,rfl,s4,hS4,gt,hK,hg,hle⟩
   obtain ⟨hj,rfl⟩:=J0n hx;have hkl:=hK.len;simp only [JL];generalize hC:J6e _ _ _=C;walk_at "dc";refine ⟨a,is,_,rfl,s4.seq hs,by omega,fun v2=>⟨_,rfl,_,_,rfl,?_⟩⟩;generalize J5c _ 4=sd;refine ⟨_,_,rfl,_,dW,ns,kds,rfl,hW.mono s4,fun H5 r rs s5 hr' hR=>?_⟩;subst hC;generalize hO:J1n (J3t _ (JL 8)) _=OB;generalize hP:J7J _ _ _=PB;generalize hE:(Ends.mk _ _ _ _:Ends)=EE;have S5:=s4.trans s5;have hS5:=hS4.mono s5;have gt5:=s5 _ _ gt;have hK5:=hK.mono s5;obtain ⟨dx5,ho5⟩:=hS5.o;walk_at "dc";have put:PB EE [some (V.ref a),some (V.ref dW),some (V.int mm),some (V.ref o),some (V.ref dt),some (V.int (0+(j:Int))),some (V.int sd),some (V.ref r),v8] H5:=by
    subst hP hE;walk_at "dc";refine ⟨_,_,ho5,rfl,o,lf,d,r,g,xs,rs,ns,kds,kvs,rfl,hS5,hF.mono S5,hr',hR,by omega,fun H6 dx6 s6=>?_⟩;obtain ⟨q1,q2,q3,q4,q5⟩:=JdJ (kvs':=J0k kvs (.inl g) (.ref r)) (dx':=dx6) (g':=g+1) (S5.trans s6) (hS5.mono s6) (s6 _ _ gt5) hdd ho0 hd0 ht0;refine ⟨_,DPut.k (k:=Sum.inl g) q1 (Jb (by omega)),⟨_,rfl⟩,q2,g+1,_,q3,q4,ks++[g],((hK5.mono s6).put hg (s6 _ _ hr') hR).tup q5,fun n hn=>?_,zG (J0O _ _ _) (by omega)⟩;rcases zZ.mp hn with hn | hn
    ·have:=hg n hn;omega
    ·rw [zM.mp hn];omega
   refine ⟨by decide,?_⟩;by_cases c7:sd % 7=0
   ·rw [zu (zx c7)]
    refine ⟨kvs,gt5,?_⟩;by_cases c0:0<kvs.length
    ·rw [zu (zx (by omega))]
     clear put;subst hO hE;walk_at "dc";refine ⟨kvs,gt5,ks,hK.k,by omega,fun pm ms hpm hms hup=>⟨⟨by decide,by decide⟩,kvs,?_⟩⟩;obtain rfl:ms=ks:=perm_one (le:=fun a b:Int=>a<=b) (fun a b h1 h2=>by omega) hms hup (hK.up.imp fun {a b} q=>by omega)
     walk_at "nw pm hpm H6 u6 g6"
     have gt6:=u6 _ _ gt5;have hS6:=hS5.mono u6;have hK6:=hK5.mono u6;refine ⟨gt6,by omega,J1g (.of g6) (zD _ (by omega)) (by rw [zL,<- hkl];exact zC _ (by omega)) fun x hx=>⟨⟨by decide,by decide⟩,by decide,?_⟩⟩;generalize (sd / 7 % (kvs.length:Int)).toNat=ii at hx;rw [zW] at hx;obtain ⟨n,hn,rfl⟩:=Option.map_eq_some_iff.mp hx;obtain ⟨r0,rs0,e1,e2,_⟩:=hK6.at hn;have ho6:=u6 _ _ ho5;by_cases c2:sd / 2100 % 2=0
     ·rw [zu (zx c2)]
      obtain ⟨q2,q3,q4,q5⟩:=JaP (kvs':=J2K kvs (.inl n)) (S5.trans u6) hS6 gt6 hdd hd0 ht0;refine ⟨_,_,ho6,rfl,o,lf,d,g,n,xs,kvs,_,rfl,hS6,e2,.inr (.inr (.inl ⟨rfl,.inl ⟨kvs,?_⟩⟩)),kvs,.inl n,rfl,?_,⟨_,e2⟩,⟨_,rfl⟩,q2,g,_,q3,q4,_,hK6.drop.tup q5,fun m hm=>hg m (mem_filter.mp hm).1,?_⟩
      ·rw [Jh (Ne.symm hdd)];exact gt6
      ·rw [Jh (Ne.symm hdd)];exact gt6
      ·unfold J2K
       exact zG (length_filter_le _ _) (by omega)
     ·rw [zt (by simpa using c2)]
      refine ⟨_,_,ho6,rfl,o,lf,d,r,g,n,xs,rs,ns,kds,kvs,_,rfl,hS6,hF.mono (S5.trans u6),u6 _ _ hr',hR,by omega,e2,fun H7 s7=>?_⟩;obtain ⟨q2,q3,q4,q5⟩:=JaP (kvs':=J0k kvs (.inl n) (.ref r)) ((S5.trans u6).trans s7) (hS6.mono s7) (s7 _ _ gt6) hdd hd0 ht0;exact ⟨_,DPut.k (k:=Sum.inl n) (by rw [Jh (Ne.symm hdd)];exact s7 _ _ gt6) (Jb (by omega)),⟨_,rfl⟩,q2,g,_,q3,q4,ms,((hK6.mono s7).turn hn (s7 _ _ (u6 _ _ hr')) hR).tup q5,hg,zG (J0O _ _ _) (by omega)⟩
    ·rw [zt (fun q=>c0 (by have:=of_decide_eq_true q;omega))]
     exact put
   ·rw [zt (by simpa using c7)]
    exact put
  ·rintro σ H4 ⟨v5,v6,v7,v8,g,kvs,ks,rfl,s4,hS4,gt,hK,hg,hle⟩
   walk_at "dc";rw [JK] at hle;refine ⟨Jb (by decide),fun p hp=>?_⟩;have u:=Same.upd_new hp (HO.tup [V.ref o,V.ref dt]);exact k _ p o lf d dt g xs kvs ks (s4.trans u) Jd (hS4.mono u) (u _ _ gt) (hF.mono (s4.trans u)) (hK.mono u) (by omega)
inductive Q_Table_opened (P:Program)(w:World)(K:PySem.W.Frag)(f:Nat->Addr)(vs:List V)(H:Hp)(Q:VK):Prop
 | mk (t v l0 l1:Addr) (k0 k1:List Jq) (gs:List Fg) (ns kds:List Str) (is0 is1:List Nat) (kss0 kss1:List (List Jq)) (B:NPK->List NR) (u0_:vs=[.ref t,.ref l0,.ref l1]) (u1_:TabAt P w f H t v gs ns kds is0 is1 kss0 kss1 B) (u2_:H l0=some (.tup (k0.map nV))) (u3_:H l1=some (.tup (k1.map nV))) (u4_:HdV kds is0 k0) (u5_:HdV kds is1 k1) (u6_:∀ H' q,H q=none->Same H H'->H' q=some (.lst (((B [k0,k1]).map Prod.fst).map V.int))->Q (.ref q) H'):Q_Table_opened P w K f vs H Q
def J4l (P:Program)(w:World)(K:PySem.W.Frag)(f:Nat->Addr):Sp:=fun vs H Q _=>Q_Table_opened P w K f vs H Q
theorem J1e (T:Txt K mg f fd):FnOk P w K mg base CX0 7 (f 56007) (fd 56007) ["self","one","other"] (J4l P w K f):=by
 walk_at "ok wC J4o"
 ·obtain ⟨t,v,l0,l1,k0,k1,gs,ns,kds,is0,is1,kss0,kss1,B,rfl,_⟩:=h
  rfl
 ·obtain ⟨t,v,l0,l1,k0,k1,gs,ns,kds,is0,is1,kss0,kss1,B,rfl,hT,hl0,hl1,hh0,hh1,k⟩:=h
  obtain ⟨dx,lf,pd,bx,n0,n1,fg,h0,h1,xs,fvs,hk,kvs,a1,a2,_,_,_,_,_,_,a9⟩:=id hT;refine ⟨_,(Jc (Ji (J00 ["number","row"] ["self","one","other"] rfl (show CompSc _ (Je J0U) ["self","one","other"] ["self","one","other"] from Ju (by decide +kernel)) (J0Q rfl (J0F (pvl 0) T.wd.cls T.yM (J2G T) (hr.mono (by decide)) T.wR.b .nil J0W (pal rfl (pvl 1) (pal rfl (pvl 2) J1)) rfl rfl rfl)) (fun _ _ _ _ _=>(JdS K 0 1 (show (["number","row","self","one","other"]:List Str).Nodup by decide +kernel))) (fun _ _ _ _ _=>JH) (fun _ _ _ _ _=>(pvl 0))))),?_⟩;walk_at "dc";refine ⟨_,_,a1,rfl,t,v,l0,l1,k0,k1,gs,ns,kds,is0,is1,kss0,kss1,B,rfl,hT,hl0,hl1,hh0,hh1,fun H1 q xp s1 gq hpr=>?_⟩;have few:=a9.few [k0,k1];have hxl:=Paired.length hpr;generalize B [k0,k1]=rsl at *;refine ⟨q,rfl,⟨_,.of gq⟩,J3n (JB (xs:=xp)) (Jb (by omega)) (fun j zs σ H'=>(∃ v0 v1,σ=[v0,v1,some (V.ref t),some (V.ref l0),some (V.ref l1)])/\H'=H1/\zs=((rsl.map Prod.fst).take j).map V.int) ⟨⟨none,none,rfl⟩,rfl,rfl⟩ (fun j zs σ H' ⟨_,q2,q4⟩=>⟨by rw [q2];exact .of gq,by rw [q4,zL,zR];omega⟩) ?_ ?_⟩
  ·rintro i x zs σ H3 hx ⟨⟨v0,v1,rfl⟩,rfl,rfl⟩
   obtain ⟨⟨n,rs⟩,hrs,p,r,rfl,h1,h2,h3⟩:=Paired.ix hpr hx;have hrs2:(rsl.map Prod.fst)[i]?=some n:=by rw [zW,hrs];rfl
   refine ⟨p,_,rfl,.of h1,rfl,?_⟩;simp only [J21,J4s,JL];walk_at "dc";exact ⟨⟨_,rfl⟩,by rw [Jw hrs2,zY];rfl⟩
  ·rintro zs σ H3 ⟨⟨v0,v1,rfl⟩,rfl,rfl⟩ D hD
   have hml:(rsl.map Prod.fst).length=rsl.length:=zL ..;rw [hxl,<- hml,zX];exact k _ D (none_of s1 hD) (s1.new hD _) Jd
def cn {α:Type}[DecidableEq α]:List α->α->Nat
 | [],_=>0
 | c::l,x=>cn l x+if c=x then 1 else 0
theorem J5Z {α:Type}[DecidableEq α](x:α)(m:List α):∀ l:List α,cn (l++m) x=cn l x+cn m x
 | []=>by rw [nil_append,cn,Nat.zero_add]
 | c::l=>by rw [cons_append,cn,cn,J5Z x m l];omega
theorem J4G {α:Type}[DecidableEq α]{x:α}:∀ {l:List α},x∉l->cn l x=0
 | [],_=>rfl
 | c::l,h=>by
   rw [zU] at h;rw [cn,J4G (fun z=>h (.inr z)),zt (fun z=>h (.inl z.symm))]
theorem JbX {α:Type}[DecidableEq α]{x:α}:∀ {l:List α},l.Nodup->x∈l->cn l x=1
 | c::l,nd,h=>by
   rw [nodup_cons] at nd;rw [cn];by_cases e:c=x
   ·rw [zu e,J4G (by rw [<- e];exact nd.1)]
   ·rw [zt e,JbX nd.2 ((zU.mp h).resolve_left fun z=>e z.symm)]
theorem keys_count (a b:List Jq)(bs:List (List Jq)):∀ as:List (List Jq),cn (J1Q as bs) [a,b]=cn as a * cn bs b
 | []=>by simp [J1Q,cn]
 | c :: as=>by
   have ih:=keys_count a b bs as;have e:J1Q (c::as) bs=(bs.map fun b=>[c,b])++J1Q as bs:=rfl;have e2:cn (bs.map fun b=>([c,b]:NPK)) [a,b]=if c=a then cn bs b else 0:=by
    by_cases h:c=a
    ·rw [zu h,h]
     clear ih e
     induction bs with
     | nil=>rfl
     | cons d bs ih2 =>
       rw [zV,cn,cn,ih2];congr 1;by_cases hd:d=b
       ·rw [zu (by rw [hd]),zu hd]
       ·rw [zt (fun z=>hd (by simpa using z)),zt hd]
    ·rw [zt h]
     refine J4G fun z=>?_;obtain ⟨d,_,e3⟩:=qb.mp z;exact h (List.cons.inj e3).1
   rw [e,J5Z,ih,e2,cn];by_cases h:c=a
   ·rw [zu h,zu h,Nat.add_mul,Nat.one_mul,Nat.add_comm]
   ·rw [zt h,zt h,Nat.zero_add,Nat.add_zero]
def isB (is:List Nat)(rs:List V)(k:List Jq):Bool:=decide ((pj is rs).take k.length=k)
theorem JdP (is:List Nat)(rs:List V):(pj is rs).length=is.length:=by unfold pj;rw [zL]
theorem J65 {is:List Nat}{k:List Jq}:cn (beg is rs) k=if isB is rs k=true then 1 else 0:=by
 have lp:=JdP is rs;unfold beg isB;by_cases c:(pj is rs).take k.length=k
 ·rw [zu (zx c)]
  have hl:=congrArg List.length c;rw [zR] at hl;refine JbX (J1f fun i j hi hj e=>?_) (qb.mpr ⟨k.length,mem_range.mpr (by omega),c⟩);have:=congrArg List.length e;rw [zR,zR] at this;omega
 ·rw [zt (by simpa using c)]
  refine J4G fun z=>?_;obtain ⟨m,hm,e⟩:=qb.mp z;have hm:=mem_range.mp hm;have:=congrArg List.length e;rw [zR] at this;exact c (by rw [<- this,<- e,Nat.min_eq_left (by omega)])
theorem JaA (B:NPK->List NR)(nr:NR)(k:NPK):∀ (ks:List NPK),J1R B ks nr k=B k++List.replicate (cn ks k) nr:=by
 intro ks
 induction ks generalizing B with
 | nil=>exact (append_nil _).symm
 | cons c ks ih =>
   have e:J1R B (c::ks) nr=J1R (J8e B c nr) ks nr:=rfl;rw [e,ih,cn];unfold J8e;by_cases h:k=c
   ·rw [zu h,zu h.symm,qf,replicate_succ]
    rfl
   ·rw [zt h,zt (Ne.symm h)]
    rfl
theorem J7f {k0 k1:List Jq}(nrs:List NR):J3o is0 is1 nrs [k0,k1]=nrs.filter fun nr=>isB is0 nr.2 k0&&isB is1 nr.2 k1:=by
 have go:∀ (nrs:List NR) (B:NPK->List NR),nrs.foldl (JaV is0 is1) B [k0,k1]=B [k0,k1]++nrs.filter fun nr=>isB is0 nr.2 k0&&isB is1 nr.2 k1:=by
  intro nrs
  induction nrs with
  | nil=>exact fun B=>(append_nil _).symm
  | cons nr nrs ih =>
    intro B;rw [foldl_cons,ih,filter_cons];unfold JaV;rw [JaA,keys_count,J65,J65,qf];cases isB is0 nr.2 k0<;>cases isB is1 nr.2 k1<;>rfl
 exact go nrs _
theorem Jep {ps:List V}(h:∀ v∈ps,Fl v):(ps.map toN).map nV=ps/\∀ k∈ps.map toN,okN k:=by
 refine ⟨?_,fun k hk=>?_⟩
 ·rw [map_map]
  conv=>rhs;rw [<- map_id ps]
  exact map_congr_left fun v hv=>(h v hv).nk.1
 ·obtain ⟨v,hv,rfl⟩:=qb.mp hk
  exact (h v hv).nk.2
theorem JeK {K:PySem.W.Frag}{x y:Jq}(hx:okN x)(hy:okN y)(q:Q (.bl (decide (x=y))) H):J6F K false (nV x) (nV y) H Q:=by
 have sh:∀ {k:Jq},okN k->SeqAt.shaped (nkD k)=true:=fun {k} hk=>by
  unfold SeqAt.shaped;rw [(J2H hk).1,(J2H hk).2];rfl
 refine ⟨_,_,J6U x,J6U y,sh hx,sh hy,?_⟩;rw [Jbn];exact q
theorem J3U {K:PySem.W.Frag}{ns:List Int}(ha:H a=some (.lst (ns.map V.int)))(hb:H b=some (.lst (ns.map V.int)))(q:Q (.bl (!neg)) H):J6F K neg (.ref a) (.ref b) H Q:=by
 have h:∀ v∈ns.map V.int,Fl v:=fun v hv=>by
  obtain ⟨i,_,rfl⟩:=qb.mp hv;exact .inr (.inl ⟨i,rfl⟩)
 obtain ⟨fm,fo⟩:=Jep h;obtain ⟨r,q2,q3⟩:=J4C (K:=K) (H:=H) ((ns.map V.int).map toN) fo;rw [fm] at r;generalize (ns.map V.int).map toN=ks at *;have sh:SeqAt.shaped (.list (ks.map nkD))=true:=by simp only [SeqAt.shaped,PyData.canLay0,PyData.depth,q2,q3];rfl
 refine ⟨.list (ks.map nkD),.list (ks.map nkD),by simp only [Rep];exact ⟨a,_,rfl,.of ha,r⟩,by simp only [Rep];exact ⟨b,_,rfl,.of hb,r⟩,sh,sh,?_⟩;have e:PyData.eqv (.list (ks.map nkD)) (.list (ks.map nkD))=true:=by
  simp only [PyData.eqv];rw [J8X];exact zx rfl
 rw [e];cases neg<;>exact q
def AskN (H:Hp)(ns kds:List Str)(ln a:Addr)(rs:List V):Prop:=H ln=some (.lst (ns.map V.str))/\ns.Nodup/\ns.length=kds.length/\H a=some (.tup rs)/\RowOk kds rs
theorem AskN.mono (s:Same H H')(h:AskN H ns kds ln a rs):AskN H' ns kds ln a rs:=⟨s _ _ h.1,h.2.1,h.2.2.1,s _ _ h.2.2.2.1,h.2.2.2.2⟩
inductive Q_l_one_lets (K:PySem.W.Frag)(vs:List V)(H:Hp)(Q:VK):Prop
 | mk (v y:V) (j:Nat) (n kd:Str) (kds:List Str) (rs:List V) (F:List V->Bool) (u0_:vs=[v,y]) (u1_:PlainJ H kds j n v F) (u2_:kds[j]?=some kd) (u3_:rs[j]?=some y) (u4_:(y=.non\/J0v kd y)) (u5_:Q (.bl (F rs)) H):Q_l_one_lets K vs H Q
def J5u (K:PySem.W.Frag):Sp:=fun vs H Q _=>Q_l_one_lets K vs H Q
theorem ok_l_one_lets (T:Txt K mg f fd):FnOk P w K mg base CX0 1 (f 68) (fd 68) ["_law_sieve_here","_law_value_here"] (J5u K):=by
 walk_at "ok yz J5B"
 ·obtain ⟨v,y,j,n,kd,kds,rs,F,rfl,_⟩:=h
  rfl
 ·obtain ⟨v,y,j,n,kd,kds,rs,F,rfl,⟨p,rfl,hp⟩,hkd,hy,hk,k⟩:=h
  refine ⟨_,(J9 (Jt (PW.pt (J1u (Jk JA (Jj (Jo rfl) (pvl 0) Ja (fun _ _=>rfl)) Jp (Jm _)) (J0V (Jk J2E (pvl 1) J0N (Jm _)))))
   (Jc (Ji (J1L (JI JA (Jj (Jo rfl) (pvl 0) Ja (fun _ _=>rfl)) Jp (Jm _)) (J3h (JI J2E (pvl 1) J0N (Jm _))))))
   Jl)
   (J9 (Jt (Jk JA (Jj (Jo rfl) (pvl 0) Ja (fun _ _=>rfl)) Jp (Jm _))
   (Jc (Ji (JI (J5h rfl hr.units) (pvl 1) (Jj (Jo rfl) (pvl 0) Ja (fun _ _=>rfl)) (Jm _))))
   Jl)
   (J9 (Jt (Jk JA (Jj (Jo rfl) (pvl 0) Ja (fun _ _=>rfl)) Jp (Jm _))
   (Jc (Ji (JI JdZ (pvl 1) (Jj (Jo rfl) (pvl 0) Ja (fun _ _=>rfl)) (Jm _))))
   Jl)
   (Jc (Ji (JI Jbh (pvl 1) (Jj (Jo rfl) (pvl 0) Ja (fun _ _=>rfl)) (Jm _))))))),?_⟩
  walk_at "dc";have ix:∀ (fm:Str) (r:List V) (R:VK),H p=some (.tup (.str fm::r))->R (.str fm) H->J1K K (.ref p) (.int 0) H R:=fun fm r R h q=>⟨p,_,_,_,rfl,rfl,.of h,Jf (j:=0) rfl,q⟩;have i2:∀ (a b x:V) (R:VK),H p=some (.tup [a,b,x])->R x H->J1K K (.ref p) (.int 2) H R:=fun a b x R h q=>⟨p,_,_,_,rfl,rfl,.of h,Jf (j:=2) rfl,q⟩;rcases hp with ⟨h,rfl⟩ | ⟨x,kd',h,hkd',hx,rfl⟩ | ⟨i,h,hkd',rfl⟩ | ⟨i,h,hkd',rfl⟩
  ·refine ix _ _ _ h ⟨rfl,?_⟩
   rw [zu (by decide)];refine ix _ _ _ h ⟨rfl,?_⟩;rw [zu (by decide),show decide (y=V.non)=decide (rs[j]?=some V.non) by rw [hy];simp];exact k
  all_goals
   obtain rfl:=zA (hkd.symm.trans hkd');refine ix _ _ _ h ⟨rfl,?_⟩;rw [zt (by decide)]
  ·have k:Q (V.bl (decide (y=x))) H:=by
    rw [show decide (y=x)=decide (rs[j]?=some x) by rw [hy];simp];exact k
   by_cases hn:y=.non
   ·rw [zu (by simpa using hn)]
    refine ix _ _ _ h ⟨rfl,?_⟩;rw [zt (by decide)];rw [zy (by rw [hn];rcases hx with ⟨_,z,rfl,_⟩ | ⟨_,i,rfl⟩<;>simp)] at k;exact k
   ·rw [zt (by simpa using hn)]
    refine ix _ _ _ h ⟨rfl,?_⟩;rw [zu (by decide)];refine i2 _ _ _ _ h ?_;obtain ⟨a1,a2⟩:=J8m (.inr (hk.resolve_left hn));obtain ⟨b1,b2⟩:=J8m (.inr hx);have e:decide (toN y=toN x)=decide (y=x):=decide_eq_decide.mpr ⟨fun z=>by rw [<- a1,<- b1,z],fun z=>by rw [z]⟩;rw [<- e] at k;have:=JeK (K:=K) (H:=H) (Q:=Q) a2.ok b2.ok k;rwa [a1,b1] at this
  all_goals
   have hm:y=.non\/∃ m,y=.int m:=by
    rcases hk with h | ⟨e,_⟩ | ⟨_,m,h⟩
    ·exact .inl h
    ·cases e
    ·exact .inr ⟨m,h⟩
   rcases hm with rfl | ⟨m,rfl⟩
   ·rw [zu (by simp)]
    refine ix _ _ _ h ⟨rfl,?_⟩;rw [zt (by decide)];simp only [hy] at k;exact k
   ·rw [zt (by simp)]
    refine ix _ _ _ h ⟨rfl,?_⟩;rw [zt (by decide)];refine ix _ _ _ h ⟨rfl,?_⟩;simp only [hy] at k
    first
    | rw [zu (by decide)]
      exact i2 _ _ _ _ h k
    | rw [zt (by decide)]
      exact i2 _ _ _ _ h ⟨rfl,k⟩
def J3P (K:PySem.W.Frag):Nat->Sp
 | 0=>fun _ _ _ _=>False
 | d+1=>fun vs H Q _=>∃ v ln a ns kds rs F,vs=[v,.ref ln,.ref a]/\AskN H ns kds ln a rs/\Sv ns kds d H v F/\∀ H',Same H H'->Q (.bl (F rs)) H'
theorem J67 {α:Type}(f:α->Bool):∀ cs:List α,(!inV (.bl false) (cs.map fun c=>V.bl (f c)))=cs.all f
 | []=>rfl
 | c::cs=>by
   show (!(eqV (.bl (f c)) (.bl false)||inV (.bl false) (cs.map fun c=>V.bl (f c))))=(f c&&cs.all f);rw [<- J67 f cs];cases f c<;>rfl
theorem J66 {α:Type}(f:α->Bool):∀ cs:List α,inV (.bl true) (cs.map fun c=>V.bl (f c))=cs.any f
 | []=>rfl
 | c::cs=>by
   show (eqV (.bl (f c)) (.bl true)||inV (.bl true) (cs.map fun c=>V.bl (f c)))=(f c||cs.any f);rw [<- J66 f cs];cases f c<;>rfl
theorem st_l_lets (T:Txt K mg f fd)(dp:Nat)(ih:FnOk P w K mg base CX0 (2+dp) (f 69) (fd 69) ["_law_sieve_here","_law_names","_law_row_here"] (J3P K dp)):FnOk P w K mg base CX0 (2+dp+1) (f 69) (fd 69) ["_law_sieve_here","_law_names","_law_row_here"] (J3P K (dp+1)):=by
 walk_at "ok wu J9Z"
 ·obtain ⟨v,ln,a,ns,kds,rs,F,rfl,_⟩:=h
  rfl
 ·obtain ⟨v,ln,a,ns,kds,rs,F,rfl,hA,hS,k⟩:=h
  refine ⟨_,(J9 (Jt (Jk JA (Jj (Jo rfl) (pvl 0) Ja (fun _ _=>rfl)) Jp (Jm _))
   (Jc (Ji (J8P (Jg T.wu ih (hr.mono (by omega)) rfl (by decide) rfl (pal rfl (Jj (Jo rfl) (pvl 0) Ja (fun _ _=>rfl)) (pal rfl (pvc 1) (pal rfl (pvc 2) J1)))))))
   Jl)
   (J9 (Jt (Jk JA (Jj (Jo rfl) (pvl 0) Ja (fun _ _=>rfl)) Jp (Jm _))
   (Jc (Ji (JI (J71 rfl) J0q (J00 ["_law_one"] ["_law_sieve_here","_law_names","_law_row_here"] rfl (show CompSc _ (Je J2u) ["_law_sieve_here","_law_names","_law_row_here"] ["_law_sieve_here","_law_names","_law_row_here"] from Ju (by decide +kernel)) (J1y rfl (Jj (Jo rfl) (pvl 0) Ja (fun _ _=>rfl))) (fun _ _ _ _ _=>(pgl 0 (show (["_law_one","_law_sieve_here","_law_names","_law_row_here"]:List Str).Nodup by decide +kernel))) (fun _ _ _ _ _=>JH) (fun _ _ _ _ _=>(Jg T.wu ih (hr.mono (by omega)) rfl (by decide) rfl (pal rfl (pvl 0) (pal rfl (pvc 2) (pal rfl (pvc 3) J1)))))) rfl)))
   Jl)
   (J9 (Jt (Jk JA (Jj (Jo rfl) (pvl 0) Ja (fun _ _=>rfl)) Jp (Jm _))
   (Jc (Ji (JI (Jby rfl) J0q (J00 ["_law_one"] ["_law_sieve_here","_law_names","_law_row_here"] rfl (show CompSc _ (Je J2u) ["_law_sieve_here","_law_names","_law_row_here"] ["_law_sieve_here","_law_names","_law_row_here"] from Ju (by decide +kernel)) (J1y rfl (Jj (Jo rfl) (pvl 0) Ja (fun _ _=>rfl))) (fun _ _ _ _ _=>(pgl 0 (show (["_law_one","_law_sieve_here","_law_names","_law_row_here"]:List Str).Nodup by decide +kernel))) (fun _ _ _ _ _=>JH) (fun _ _ _ _ _=>(Jg T.wu ih (hr.mono (by omega)) rfl (by decide) rfl (pal rfl (pvl 0) (pal rfl (pvc 2) (pal rfl (pvc 3) J1)))))) rfl)))
   Jl)
   (Jc (Ji (Jg T.yz (ok_l_one_lets T) (hr.mono (by omega)) rfl (by decide) rfl (pal rfl (pvl 0) (pal rfl (Jj (Jo rfl) (pvc 2) (J1h rfl ql PySem.F.slot_list_index PySem.F.type_list_index (J5g rfl) rfl rfl rfl rfl (pvc 1) (pal rfl (Jj (Jo rfl) (pvl 0) Ja (fun _ _=>rfl)) J1)) (fun _ _=>rfl)) J1)))))))),?_⟩
  walk_at "dc";rcases hS.out with hp | ⟨d,p,rfl,rfl,⟨x,G,h1,h2,rfl⟩ | ⟨q,cs,h1,h2,h3,⟨h4,rfl⟩ | ⟨h4,rfl⟩⟩⟩
  ·obtain ⟨j,n,hj,hpj⟩:=hp
   obtain ⟨p,fm,rest,rfl,hp1,n1,n2,n3⟩:=hpj.form;have ix0:∀ R:VK,R (.str fm) H->J1K K (.ref p) (.int 0) H R:=fun R r=>⟨p,_,_,_,rfl,rfl,.of hp1,Jf (j:=0) rfl,r⟩;refine ix0 _ ⟨rfl,?_⟩;rw [zt (by simpa using n1)];refine ix0 _ ⟨rfl,?_⟩;rw [zt (by simpa using n2)];refine ix0 _ ⟨rfl,?_⟩;rw [zt (by simpa using n3)];obtain ⟨g1,g2,g3,g4,g5⟩:=hA;have hjk:j<kds.length:=by rw [<- g3];exact (zK.mp hj).1
   obtain ⟨y,hy,hk⟩:=JaU g5 (zJ hjk);exact ⟨.inl ⟨rfl,_,.of g1⟩,p,_,_,_,rfl,rfl,.of hp1,Jf (j:=1) rfl,ns,n,rfl,.of g1,j,hj,fun m hm z=>absurd (J17 g2 z hj) (by omega),a,rs,_,y,rfl,rfl,.of g4,Jf hy,_,y,j,n,_,kds,rs,F,rfl,hpj,zJ hjk,hy,hk,k H (Same.refl _)⟩
  ·refine ⟨p,_,_,_,rfl,rfl,.of h1,Jf (j:=0) rfl,rfl,?_⟩
   rw [zu (by decide)];exact ⟨p,_,_,_,rfl,rfl,.of h1,Jf (j:=1) rfl,x,ln,a,ns,kds,rs,G,rfl,hA,h2,fun H1 s1=>⟨_,rfl,k H1 s1⟩⟩
  all_goals
   refine ⟨p,_,_,_,rfl,rfl,.of h4,Jf (j:=0) rfl,rfl,?_⟩;rw [zt (by decide)];refine ⟨p,_,_,_,rfl,rfl,.of h4,Jf (j:=0) rfl,rfl,?_⟩
   first
   | rw [zu (by decide)]
   | rw [zt (by decide)]
     refine ⟨p,_,_,_,rfl,rfl,.of h4,Jf (j:=0) rfl,rfl,?_⟩;rw [zu (by decide)]
   refine ⟨p,_,_,_,rfl,rfl,.of h4,Jf (j:=1) rfl,q,rfl,⟨_,.of h1⟩,?_⟩;refine comp_of (as:=cs) (g:=Prod.fst) J0d (Jb (by omega)) (fun H' s=>s.seqT (.of h1)) (fun _=>true) (fun c=>.bl (c.2 rs)) (fun _ H1 Q _ _ q=>q H1 (Same.refl _)) (fun c H1 Q hc _ s1 q=>?_) (fun H1 s1 D hD=>?_)
   ·walk_at "dc"
    exact ⟨c.1,ln,a,ns,kds,rs,c.2,rfl,hA.mono s1,(h3 c hc).mono (Same.t s1),q⟩
   ·rw [J0p]
    refine ⟨D,_,rfl,.inl (.of Jd),rfl,?_,?_⟩
    ·rw [all_map,all_eq_true]
     intro _ _;rfl
    ·first
     | rw [zu rfl,J67 fun c:V×(List V->Bool)=>c.2 rs]
     | rw [zt zw,J66 fun c:V×(List V->Bool)=>c.2 rs]
     exact k _ (s1.new hD _)
theorem J5R (T:Txt K mg f fd):∀ dp:Nat,FnOk P w K mg base CX0 (2+dp) (f 69) (fd 69) ["_law_sieve_here","_law_names","_law_row_here"] (J3P K dp)
 | 0=>⟨fun _ _ _ _ h=>zH h,fun _ _ _ _ _ _ _ _ _ _ _ _ _ h=>zH h⟩
 | dp+1=>st_l_lets T dp (J5R T dp)
inductive Q_l_values (K:PySem.W.Frag)(vs:List V)(H:Hp)(Q:VK):Prop
 | mk (ls ln a:Addr) (ns kds:List Str) (is:List Nat) (rs:List V) (u0_:vs=[.ref ls,.ref ln,.ref a]) (u1_:H ls=some (nmT ns is)) (u2_:AskN H ns kds ln a rs) (u3_:(∀ i∈is,i<kds.length)) (u4_:is.length<=3) (u5_:∀ H' p,Same H H'->H' p=some (.tup ((pj is rs).map nV))->Q (.ref p) H'):Q_l_values K vs H Q
def J7u (K:PySem.W.Frag):Sp:=fun vs H Q _=>Q_l_values K vs H Q
theorem J16 (T:Txt K mg f fd):FnOk P w K mg base CX0 1 (f 70) (fd 70) ["_law_side","_law_names","_law_row_here"] (J7u K):=by
 walk_at "ok wo J7D"
 ·obtain ⟨ls,ln,a,ns,kds,is,rs,rfl,_⟩:=h
  rfl
 ·obtain ⟨ls,ln,a,ns,kds,is,rs,rfl,hls,hA,hi,hl,k⟩:=h
  obtain ⟨g1,g2,g3,g4,g5⟩:=hA;refine ⟨_,(Jc (Ji (J0t (J13 rfl) T.wf J0c rfl (by decide) (by decide) rfl (pal rfl (J00 ["_law_name"] ["_law_side","_law_names","_law_row_here"] rfl (show CompSc _ (Je J2a) ["_law_side","_law_names","_law_row_here"] ["_law_side","_law_names","_law_row_here"] from Ju (by decide +kernel)) (J1y rfl (pvl 0)) (fun _ _ _ _ _=>(pgl 0 (show (["_law_name","_law_side","_law_names","_law_row_here"]:List Str).Nodup by decide +kernel))) (fun _ _ _ _ _=>JH) (fun _ _ _ _ _=>(Jj (Jo rfl) (pvc 3) (J1h rfl ql PySem.F.slot_list_index PySem.F.type_list_index (J5g rfl) rfl rfl rfl rfl (pvc 2) (pal rfl (pvl 0) J1)) (fun _ _=>rfl)))) J1)))),?_⟩;walk_at "dt";unfold nmT at hls;refine ⟨⟨_,.of hls⟩,?_⟩;refine comp_of (as:=is) (g:=fun i=>V.str (ns.getD i JF)) J0d (Jb (by omega)) (fun H' s=>s.seqT (.of hls)) (fun _=>true) (fun i=>rs.getD i .non) (fun _ H1 Q _ _ q=>q H1 (Same.refl _)) (fun i H1 Q hc _ s1 q=>?_) (fun H1 s1 D hD=>?_)
  ·walk_at "dc"
   have hik:=hi i hc;have e1:ns[i]?=some (ns.getD i JF):=by rw [zO,zJ (by omega)];rfl
   have e2:rs[i]?=some (rs.getD i .non):=by rw [zO,zJ (by have:=g5.1;omega)];rfl
   exact ⟨.inl ⟨rfl,_,.of (s1 _ _ g1)⟩,ns,.of (s1 _ _ g1),i,e1,fun m hm z=>absurd (J17 g2 z e1) (by omega),a,rs,_,_,rfl,rfl,.of (s1 _ _ g4),Jf e2,q _ (Same.refl _)⟩
  ·rw [J0p]
   refine J1S Jd fun p G w u=>k G p ((s1.new hD _).trans w) ?_;rw [u,(J7O g5 hi).2]
theorem J5P {K:PySem.W.Frag}{k:Nat}(ha:H a=some (.tup xs))(q:∀ c H',Same H H'->H' c=some (.tup (xs.take k))->Q (.ref c) H'):JaZ K (.ref a) none (some (k:Int)) H Q :=
 ⟨a,xs,rfl,.of ha,fun hw=>q a H (Same.refl _) (by
  have:=hw.2;rw [HT.sIx_nat] at this;rw [take_of_length_le (by omega)];exact ha),fun _ p hp=>q p _ (Same.upd_new hp _) (by rw [Jd,cut_to])⟩
def fkv (ns kds:List Str):List (Key×V):=List.zipWith (fun n kd=>(Sum.inr n,V.str kd)) ns kds
theorem JbL (h1:ns[i]?=some n)(h2:kds[i]?=some kd):(fkv ns kds)[i]?=some (.inr n,.str kd):=by
 unfold fkv;rw [List.getElem?_zipWith,h1,h2]
theorem J86:∀ {ns kds:List Str},ns.length=kds.length->(fkv ns kds).map (·.1)=ns.map Sum.inr
 | [],_,_=>by simp [fkv]
 | n::ns,[],h=>by simp at h
 | n::ns,kd::kds,h=>by
   show Sum.inr n::(fkv ns kds).map (·.1)=_;rw [J86 (by simpa using h)];rfl
theorem JbK (h:ns.length=kds.length)(nd:ns.Nodup):((fkv ns kds).map (·.1)).Nodup:=by
 rw [J86 h];exact List.Pairwise.map _ (fun a b hab e=>hab (Sum.inr.inj e)) nd
inductive Q_l_strange (K:PySem.W.Frag)(vs:List V)(H:Hp)(Q:VK):Prop
 | mk (ls l:Addr) (xs:List V) (ns kds:List Str) (is:List Nat) (u0_:vs=[.ref ls,.ref l]) (u1_:H ls=some (nmT ns is)) (u2_:H l=some (.lst xs)) (u3_:FldsK H xs ns kds) (u4_:ns.Nodup) (u5_:(∀ n∈ns,Nam n)) (u6_:(∀ kd∈kds,kd=JF\/kd=numS)) (u7_:xs.length<=8) (u8_:(∀ i∈is,i<kds.length)) (u9_:is.length<=3) (u10_:∀ H' p ks,Same H H'->H' p=some (.tup (ks.map nV))->HdV kds is ks->Q (.ref p) H'):Q_l_strange K vs H Q
def J6k (K:PySem.W.Frag):Sp:=fun vs H Q _=>Q_l_strange K vs H Q
theorem ok_l_strange (T:Txt K mg f fd):FnOk P w K mg base CX0 1 (f 74) (fd 74) ["_law_side","_law_fields"] (J6k K):=by
 walk_at "ok wP J24"
 ·obtain ⟨ls,l,xs,ns,kds,is,rfl,_⟩:=h
  rfl
 ·obtain ⟨ls,l,xs,ns,kds,is,rfl,hls,hl,hF,hnd,hnm,hkk,h8,hi,hi3,k⟩:=h
  refine ⟨_,(J9 (psl 2 J24.nd (J0B J1))
   (J9 (J09 PassesOwn.never rfl (J1y rfl (J0f (J45 rfl) (pvl 0) J0E (J0o Ja))) (pgl 3 J24.nd)
   (Jc (JM (J1h rfl ql PySem.F.slot_list_append PySem.F.type_list_append J0r rfl rfl rfl rfl (pvl 2) (pal rfl (Jj (J0I rfl) (J0B (pal rfl Ja (pal rfl Jp J1))) (J0t Jax T.wG J7e rfl (by decide) (by decide) rfl (pal rfl (JI JA (JX (J0b hr) (J0t (Jd3 rfl rfl) T.y9 Jdh rfl (by decide) (by decide) rfl (pal rfl (pvl 1) J1)) (pvl 3) (fun _ _=>rfl)) Jp (Jm _)) J1)) (fun _ _=>rfl)) J1)))))
   (Jc (Ji (J0t (J13 rfl) T.wf J0c rfl (by decide) (by decide) rfl (pal rfl (pvl 2) J1)))))),?_⟩
  walk_at "dt";refine ⟨zF _,fun p hp=>?_⟩;have hp0:=hp
  walk_at "nw p hp H1 u1 g1"
  refine J06 ?_;walk_at "dt";unfold nmT at hls;refine J5P (k:=1) (u1 _ _ hls) fun c H2 s2 gc=>⟨c,rfl,⟨_,.of gc⟩,?_⟩;have S2:=u1.trans s2;refine ForW.of (J0d (xs:=(is.map fun i=>V.str (ns.getD i JF)).take 1)) (fun j σ H'=>(∃ v3,σ=[some (V.ref ls),some (V.ref l),some (V.ref p),v3])/\Same H H'/\H' c=some (.tup ((is.map fun i=>V.str (ns.getD i JF)).take 1))/\∃ ks,H' p=some (.lst (ks.map nV))/\ks.length=j/\HdV kds is ks) ⟨⟨none,rfl⟩,S2,gc,[],s2 _ _ g1,rfl,by unfold okP;rfl,fun _ z=>nomatch z⟩ (fun _ _ _ _ q=>.of q.2.2.1) ?_ ?_
  ·rintro j x σ H3 hx ⟨⟨v3,rfl⟩,s3,gc3,ks,gp,hkl,hH⟩
   have hj1:=(zK.mp hx).1;rw [zR,zL] at hj1;obtain rfl:j=0:=by omega
   obtain rfl:=length_eq_zero_iff.mp hkl;rw [List.getElem?_take_of_lt (by decide),zW] at hx;obtain ⟨i0,h0,rfl⟩:=Option.map_eq_some_iff.mp hx;have hi0:=hi i0 (zP h0);obtain ⟨pf,n,kd,e1,e2,e3,e4⟩:=hF.at (show i0<xs.length by have:=hF.2.1;omega);rw [J0Y e2];simp only [JL];walk_at "dt";refine ⟨.inl ⟨rfl,_,.of gp⟩,Jb (by decide),fun q hq=>?_⟩
   walk_at "nw q hq H4 u4 g4"
   have S4:=s3.trans u4;have hlk:ns.length=kds.length:=by have:=hF.1;have:=hF.2.1;omega
   refine ⟨l,xs,fkv ns kds,rfl,.of (S4 _ _ hl),?_,fun i r kv hr hkv=>?_,fun d hd=>?_⟩
   ·unfold fkv
    rw [length_zipWith];have:=hF.1;omega
   ·obtain ⟨pf,n,kd,e1,e2,e3,e4⟩:=hF.at (zK.mp hr).1
    rw [JbL e2 e3] at hkv;obtain rfl:=zA hkv;exact ⟨pf,zA (hr.symm.trans e1),.of (S4 _ _ e4)⟩
   ·rw [J91 (JbK hlk hnd)]
    walk_at "nw d hd H5 u5 g5"
    refine ⟨d,rfl,.str kd,?_,rfl,?_⟩
    ·have:=DGet.k (k:=.inr n) g5
     rwa [J4u (JbK hlk hnd) (JbL e2 e3)] at this
    have gp5:=u5 _ _ (u4 _ _ gp);have fin:∀ k1:Jq,Fl (nV k1)->J6a kd (nV k1)=true->J4B (V.ref p) [nV k1] H5 fun x H1=>(∃ v3,some (V.str n)=v3)/\Same H H1/\H1 c=some (HO.tup (List.take 1 (List.map (fun i=>V.str (ns.getD i JF)) is)))/\∃ ks,H1 p=some (HO.lst (List.map nV ks))/\ks.length=1/\HdV kds is ks:=fun k1 hf hv=>by
     refine ⟨p,_,_,rfl,rfl,gp5,zE (show 0<20 by decide) (Jb (by decide)),⟨_,rfl⟩,(S4.trans u5).set hp0 _,?_,[k1],Jd,rfl,?_,fun v hv=>by rw [zM.mp hv];exact hf⟩
     ·have gc5:=u5 _ _ (u4 _ _ gc3)
      rw [Jh (fun z=>by rw [z,gp5] at gc5;cases gc5)];exact gc5
     ·have hl1:1<=is.length:=(zK.mp h0).1
      have e5:kds.getD (is.getD 0 0) JF=kd:=by rw [J0Y h0,J0Y e3]
      unfold okP;rw [zV,map_nil,length_singleton,zx hl1];show (true&&((J6a (kds.getD (is.getD 0 0) JF) (nV k1))&&true))=true;rw [e5,hv];rfl
    rcases hkk kd (zP e3) with rfl | rfl
    ·rw [zu (by decide)]
     exact ⟨q,_,_,_,rfl,rfl,.of (u5 _ _ g4),Jf (j:=1) rfl,fin (some (.inr "zz9")) (.inr (.inr ⟨_,rfl,by decide,by decide⟩)) (by decide)⟩
    ·rw [zt (by decide)]
     exact ⟨q,_,_,_,rfl,rfl,.of (u5 _ _ g4),Jf (j:=0) rfl,fin (some (.inl 7)) (.inr (.inl ⟨_,rfl⟩)) (by decide)⟩
  ·rintro σ H3 ⟨⟨v3,rfl⟩,s3,gc3,ks,gp,hkl,hH⟩
   walk_at "dt";exact J1S gp fun c G w u=>k G c ks (s3.trans w) u hH
theorem JcG {is:List Nat}(hR:RowOk kds rs)(hi:∀ i∈is,i<kds.length)(m:Nat):((pj is rs).take m).map nV=(is.take m).map fun i=>rs.getD i .non:=by
 rw [map_take,(J7O hR hi).2,map_take]
theorem J5j {is:List Nat}(hR:RowS kds rs)(hi:∀ i∈is,i<kds.length)(m:Nat):HdV kds is ((pj is rs).take m):=by
 have e:((pj is rs).take m).map nV=(is.take m).map fun i=>rs.getD i .non:=JcG hR.ok hi m;unfold HdV;rw [e];refine ⟨?_,fun v hv=>?_⟩
 ·unfold okP
  rw [zL,zR,zx (by omega),Bool.true_and,all_eq_true];intro j hj;have hj:=mem_range.mp hj;have hji:j<is.length:=by omega
  have h1:=zJ hji;have hil:=hi _ (getElem_mem hji);have h2:((is.take m).map fun i=>rs.getD i V.non)[j]?=some (rs.getD is[j] .non):=by
   rw [zW,List.getElem?_take,zu (by omega),h1];rfl
  rw [J0Y h1,J0Y h2,J0Y (zJ hil)];exact JaF (hR.2 _ _ _ (hR.fl hil).1 (zJ hil))
 ·obtain ⟨i,h,rfl⟩:=qb.mp hv
  exact (hR.fl (hi i (mem_of_mem_take h))).2
theorem HdV.nil {is:List Nat}:HdV kds is []:=⟨by unfold okP;rfl,fun _ z=>nomatch z⟩
def PrAt (H:Hp)(kds:List Str)(is0 is1:List Nat)(x:V):Prop:=∃ (q la lb:Addr) (ka kb:List Jq),x=.ref q/\H q=some (.tup [.ref la,.ref lb])/\H la=some (.tup (ka.map nV))/\H lb=some (.tup (kb.map nV))/\HdV kds is0 ka/\HdV kds is1 kb
theorem PrAt.mono (s:TSame H H')(h:PrAt H kds is0 is1 x):PrAt H' kds is0 is1 x:=by
 obtain ⟨q,la,lb,ka,kb,e,h1,h2,h3,h4⟩:=h;exact ⟨q,la,lb,ka,kb,e,s _ _ h1,s _ _ h2,s _ _ h3,h4⟩
inductive Q_l_pairs (K:PySem.W.Frag)(vs:List V)(H:Hp)(Q:VK):Prop
 | mk (a dl ln v l n0 n1 fg:Addr) (ss ks:List Int) (xs:List V) (kvs:List (Key×V)) (ns kds:List Str) (is0 is1:List Nat) (u0_:vs=[.ref a,.ref dl,.ref ln,.ref v,.ref l]) (u1_:SqL K H a (ss.map V.int)) (u2_:H dl=some (.dK kvs)) (u3_:RwK H kds kvs ks) (u4_:kvs.length<=40) (u5_:H ln=some (.lst (ns.map V.str))) (u6_:View H v n0 n1 fg ns kds is0 is1) (u7_:H l=some (.lst xs)) (u8_:FldsK H xs ns kds) (u9_:(∀ n∈ns,Nam n)) (u10_:(∀ kd∈kds,kd=JF\/kd=numS)) (u11_:xs.length<=8) (u12_:∀ H' p ps,Same H H'->H' p=some (.lst ps)->(∀ x∈ps,PrAt H' kds is0 is1 x)->ps.length<=20->Q (.ref p) H'):Q_l_pairs K vs H Q
def J8r (K:PySem.W.Frag):Sp:=fun vs H Q _=>Q_l_pairs K vs H Q
theorem ok_l_pairs (T:Txt K mg f fd):FnOk P w K mg base CX0 2 (f 75) (fd 75) ["_law_script","_law_laid","_law_names","_law_view_here","_law_fields"] (J8r K):=by
 walk_at "ok yD J0m"
 ·obtain ⟨a,dl,ln,v,l,n0,n1,fg,ss,ks,xs,kvs,ns,kds,is0,is1,rfl,_⟩:=h
  rfl
 ·obtain ⟨a,dl,ln,v,l,n0,n1,fg,ss,ks,xs,kvs,ns,kds,is0,is1,rfl,hs,hdl,hK,h40,hln,hV,hl,hF,hnm,hkk,h8,k⟩:=h
  have f0:=hV.few0;have f1:=hV.few1;refine ⟨_,(J9 (psl 5 J0m.nd (J0B (pal rfl (Jy (pal rfl (Jy J1) (pal rfl (Jy J1) J1))) (pal rfl (Jy (pal rfl (Jg T.wP (ok_l_strange T) (hr.mono (by decide)) rfl (by decide) rfl (pal rfl (Jj (Jo rfl) (pvl 3) Ja (fun _ _=>rfl)) (pal rfl (pvl 4) J1))) (pal rfl (Jy J1) J1))) (pal rfl (Jy (pal rfl (Jy J1) (pal rfl (Jg T.wP (ok_l_strange T) (hr.mono (by decide)) rfl (by decide) rfl (pal rfl (Jj (Jo rfl) (pvl 3) Ja (fun _ _=>rfl)) (pal rfl (pvl 4) J1))) J1))) J1)))))
   (J9 (psl 6 J0m.nd (Js (J10 rfl) T.wq J22 rfl (by decide) (by decide) rfl (pal rfl (pvl 1) J1)))
   (J9 (J09 PassesOwn.never rfl (J0l rfl T.wg (pal rfl Ja J1)) (pgl 7 J0m.nd)
   (J9 (psl 8 J0m.nd (Jg T.we (JS T) (hr.mono (by decide)) rfl (by decide) rfl (pal rfl (Jn J05 (Jg T.wn (J0X T) (hr.mono (by decide)) rfl (by decide) rfl (pal rfl (pvl 0) (pal rfl (Jn J05 Ja (pvl 7)) J1))) (pvl 7)) (pal rfl Ja J1))))
   (J9 (psl 9 J0m.nd (J0B J1))
   (J9 (J09 PassesOwn.never rfl (J1y rfl (J0f (J45 rfl) (pvl 3) J0E (J0o Ja))) (pgl 10 J0m.nd)
   (J9 (psl 11 J0m.nd (Jy J1))
   (J9 (Jt (Jk J5Q (Js (JZ rfl) T.wa Jv rfl (by decide) (by decide) rfl (pal rfl (pvl 6) J1)) Ja (Jm _))
   (Jc (psl 11 J0m.nd (Jg T.wo (J16 T) (hr.mono (by decide)) rfl (by decide) rfl (pal rfl (pvl 10) (pal rfl (pvl 2) (pal rfl (JX (J0b hr) (pvl 1) (Jj (J0I rfl) (pvl 6) (Jn Jx (Jg T.we (JS T) (hr.mono (by decide)) rfl (by decide) rfl (pal rfl (pvl 8) (pal rfl (Js (JZ rfl) T.wa Jv rfl (by decide) (by decide) rfl (pal rfl (pvl 9) J1)) J1))) (Js (JZ rfl) T.wa Jv rfl (by decide) (by decide) rfl (pal rfl (pvl 6) J1))) (fun _ _=>rfl)) (fun _ _=>rfl)) J1))))))
   Jl)
   (Jc (JM (J1h rfl ql PySem.F.slot_list_append PySem.F.type_list_append J0r rfl rfl rfl rfl (pvl 9) (pal rfl (J0f (J45 rfl) (pvl 11) J0E (J0o (Jn Jx (Jg T.we (JS T) (hr.mono (by decide)) rfl (by decide) rfl (pal rfl (pvl 8) (pal rfl (Jn J05 Ja (Js (JZ rfl) T.wa Jv rfl (by decide) (by decide) rfl (pal rfl (pvl 9) J1))) J1))) (Jn J05 (Js (JZ rfl) T.wa Jv rfl (by decide) (by decide) rfl (pal rfl (pvl 10) J1)) Ja)))) J1)))))))
   (Jc (JM (J1h rfl ql PySem.F.slot_list_append PySem.F.type_list_append J0r rfl rfl rfl rfl (pvl 5) (pal rfl (Jy (pal rfl (Jj (J0I rfl) (pvl 9) Ja (fun _ _=>rfl)) (pal rfl (Jj (J0I rfl) (pvl 9) Ja (fun _ _=>rfl)) J1))) J1))))))))
   (Jc (Ji (pvl 5)))))),?_⟩
  generalize hB:J1n (J7q _ _ _) _=TB;walk_at "dt";refine ⟨zF _,fun p hp=>⟨zF _,fun p1 hp1=>⟨Jb (by decide),fun p2 hp2=>?_⟩⟩⟩
  walk_at "nw p hp G0 u0 y0"
  walk_at "nw p1 hp1 G1 u1 y1"
  walk_at "nw p2 hp2 G2 u2 y2"
  have S2:=u0.trans (u1.trans u2);refine ⟨v,_,_,_,rfl,rfl,.of (S2 _ _ hV.v),Jf (j:=0) rfl,n0,l,xs,ns,kds,is0,rfl,S2 _ _ hV.n0,S2 _ _ hl,hF.mono S2,hF.2.2.1,hnm,hkk,h8,hV.i0,by omega,fun H3 pa ka s3 ga hka=>?_⟩;refine ⟨zF _,fun p3 hp3=>⟨Jb (by decide),fun p4 hp4=>⟨zF _,fun p5 hp5=>?_⟩⟩⟩
  walk_at "nw p3 hp3 G3 u3 y3"
  walk_at "nw p4 hp4 G4 u4 y4"
  walk_at "nw p5 hp5 G5 u5 y5"
  have v3:=u3.trans (u4.trans u5);have S5:=(S2.trans s3).trans v3;refine ⟨v,_,_,_,rfl,rfl,.of (S5 _ _ hV.v),Jf (j:=1) rfl,n1,l,xs,ns,kds,is1,rfl,S5 _ _ hV.n1,S5 _ _ hl,hF.mono S5,hF.2.2.1,hnm,hkk,h8,hV.i1,by omega,fun H6 pb kb s6 gb hkb=>?_⟩;refine ⟨Jb (by decide),fun p6 hp6=>⟨Jb (by decide),fun p7 hp7=>?_⟩⟩
  walk_at "nw p6 hp6 G6 u6 y6"
  have hp70:=none_of ((S5.trans s6).trans u6) hp7
  walk_at "nw p7 hp7 G7 u7 y7"
  have S7:=(S5.trans s6).trans (u6.trans u7);have hlk:=hK.len;refine ⟨kvs,S7 _ _ hdl,ks,hK.k,by omega,fun p8 ms hp8 hms hup=>?_⟩;obtain rfl:ms=ks:=perm_one (le:=fun a b:Int=>a<=b) (fun a b h1 h2=>by omega) hms hup (hK.up.imp fun {a b} q=>by omega);have n87:p8≠p7:=fun z=>by rw [z,y7] at hp8;cases hp8
  walk_at "nw p8 hp8 G8 u8 y8"
  have w6:=u7.trans u8;have w5:=u6.trans w6;have x5:=s6.trans w5;have x4:=u5.trans x5;have x3:=u4.trans x4;have x2:=s3.trans (u3.trans x3);have x1:=u2.trans x2;have S8:=u0.trans (u1.trans x1);have ini:∀ x∈[V.ref p2,V.ref p4,V.ref p6],PrAt G8 kds is0 is1 x:=forall_mem_cons.2 ⟨⟨p2,p,p1,[],[],rfl,x2 _ _ y2,(u1.trans x1) _ _ y0,x1 _ _ y1,.nil,.nil⟩,forall_mem_cons.2 ⟨⟨p4,pa,p3,ka,[],rfl,x4 _ _ y4,(u3.trans x3) _ _ ga,x3 _ _ y3,hka,.nil⟩,forall_mem_cons.2 ⟨⟨p6,p5,pb,[],kb,rfl,w6 _ _ y6,x5 _ _ y5,w5 _ _ gb,.nil,hkb⟩,fun _ z=>nomatch z⟩⟩⟩;have g7:=u8 _ _ y7;clear y0 y1 y2 y3 y4 y5 y6 x1 x2 x3 x4 x5 w5 w6 ga gb u0 u1 u2 s3 v3 u3 u4 u5 s6 u6 u7 S2 S5 S7;subst hB;walk_at "dt";refine J06 ?_;walk_at "dt";refine ⟨by decide,by decide,?_⟩;refine ForW.of J08 (fun j σ H'=>∃ (v7 v8 v9 v10 v11:Option V) (ps:List V),σ=[some (V.ref a),some (V.ref dl),some (V.ref ln),some (V.ref v),some (V.ref l),some (V.ref p7),some (V.ref p8),v7,v8,v9,v10,v11]/\Same H H'/\H' p8=some (.lst (ms.map V.int))/\H' p7=some (.lst ps)/\(∀ x∈ps,PrAt H' kds is0 is1 x)/\ps.length=3+j) ⟨none,none,none,none,none,_,rfl,S8,y8,g7,ini,rfl⟩ (fun _ _ _ _ _=>trivial) ?_ ?_
  ·rintro j x σ H3 hx ⟨v7,v8,v9,v10,v11,ps,rfl,s3,g8,g7,hps,hpl⟩
   obtain ⟨hj,rfl⟩:=J0n hx;generalize hC:J1n (J7q _ _ _) _=TC;walk_at "dt";refine ⟨a,ss,_,rfl,s3.seq hs,by omega,fun v0=>⟨v0,rfl,_,_,rfl,?_⟩⟩;generalize J5c _ _=seed;refine ⟨zF _,fun pp hpp=>?_⟩;have hpp3:=hpp
   walk_at "nw pp hpp H4 u4 g4"
   subst hC;walk_at "dt";refine J06 ?_;walk_at "dt";refine J5P (k:=2) ((s3.trans u4) _ _ hV.v) fun c H5 s5 gc=>⟨c,rfl,⟨_,.of gc⟩,?_⟩;have gc:H5 c=some (.tup [V.ref n0,V.ref n1]):=gc;refine ForW.of (J0d (xs:=[V.ref n0,V.ref n1])) (fun m σ H'=>∃ (v10 v11:Option V) (qs:List V),σ=[some (V.ref a),some (V.ref dl),some (V.ref ln),some (V.ref v),some (V.ref l),some (V.ref p7),some (V.ref p8),some (V.int (0+(j:Int))),some (V.int seed),some (V.ref pp),v10,v11]/\Same H3 H'/\H' c=some (.tup [V.ref n0,V.ref n1])/\H' pp=some (.lst qs)/\qs.length=m/\∀ (i:Nat) q,qs[i]?=some q->∃ la ka,q=.ref la/\H' la=some (.tup (ka.map nV))/\HdV kds (if i=0 then is0 else is1) ka) ⟨_,_,[],rfl,u4.trans s5,gc,s5 _ _ g4,rfl,fun _ _ z=>by simp at z⟩ (fun _ _ _ _ ⟨_,_,_,_,_,q,_⟩=>.of q) ?_ ?_
   ·rintro m x σ H6 hx ⟨v10,v11,qs,rfl,s6,gc6,gq,hql,hqs⟩
    have S6:=s3.trans s6;obtain ⟨nX,isX,rfl,hn,hi,hl3,hsel⟩:∃ nX isX,x=.ref nX/\H6 nX=some (nmT ns isX)/\(∀ i∈isX,i<kds.length)/\isX.length<=3/\isX=(if m=0 then is0 else is1):=by
     match m,hx with
     | 0,hx=>exact ⟨n0,is0,(zA hx).symm,S6 _ _ hV.n0,hV.i0,by omega,rfl⟩
     | 1,hx=>exact ⟨n1,is1,(zA hx).symm,S6 _ _ hV.n1,hV.i1,by omega,rfl⟩
    generalize hE:J47 _=TE;generalize hD:(Ends.mk _ _ _ _:Ends)=D1;have tl:∀ (H7:Hp) (pt:Addr) (kt:List Jq),Same H6 H7->H7 pt=some (.tup (kt.map nV))->(∀ n,HdV kds isX (kt.take n))->TE D1 [some (V.ref a),some (V.ref dl),some (V.ref ln),some (V.ref v),some (V.ref l),some (V.ref p7),some (V.ref p8),some (V.int (0+(j:Int))),some (V.int seed),some (V.ref pp),some (V.ref nX),some (V.ref pt)] H7:=by
     intro H7 pt kt s7 gt hkt;subst hE;subst hD;walk_at "dt";have gq7:=s7 _ _ gq;have hn7:=s7 _ _ hn;unfold nmT at hn7;refine ⟨.inl ⟨rfl,_,.of gq7⟩,_,.inl (.of gq7),_,_,rfl,?_⟩;generalize J5c _ _=t1;refine ⟨_,.inr (.of hn7),t1,rfl,by omega,?_⟩;obtain ⟨e,he⟩:∃ e:Nat,t1 % (((isX.map fun i=>V.str (ns.getD i JF)).length:Int)+1)=e:=⟨_,(Int.toNat_of_nonneg (zD _ (by omega))).symm⟩;rw [he];refine J5P gt fun pc H8 s8 gc8=>?_;rw [<- map_take] at gc8;have gq8:=s8 _ _ gq7;have w8:=s7.trans s8;refine ⟨pp,qs,_,rfl,rfl,gq8,zE (show qs.length<20 by have:=(zK.mp hx).1;simp at this;omega) (Jb (by decide)),(s6.trans w8).set hpp3 _,TSame.upd_lst gq8 _ _ (w8 _ _ gc6),_,Jd,by rw [zQ,hql];rfl,fun i q hq=>?_⟩;rcases Nat.lt_or_ge i qs.length with hi' | hi'
     ·rw [qd hi'] at hq
      obtain ⟨la,ka,e1,e2,e3⟩:=hqs i q hq;exact ⟨la,e1,ka,TSame.upd_lst gq8 _ _ (w8 _ _ e2),e3⟩
     ·rw [qc hi'] at hq
      have hi2:=(zK.mp hq).1;rw [length_singleton] at hi2;obtain rfl:i=m:=by omega
      rw [show i - qs.length=0 by omega] at hq;obtain rfl:=zA hq;exact ⟨pc,rfl,kt.take e,TSame.upd_lst gq8 _ _ gc8,hsel ▸ hkt e⟩
    simp only [JL];walk_at "dt";refine ⟨zF _,fun p hp=>?_⟩
    walk_at "nw p hp H7 u7 g70"
    have S7:=S6.trans u7;have h8:=u7 _ _ (s6 _ _ g8);refine ⟨_,.inl (.of h8),?_⟩;rw [zL];by_cases hm0:0<ms.length
    ·rw [zu (zx (by omega))]
     refine ⟨_,.inl (.of (u7 _ _ gq)),_,_,rfl,?_⟩;generalize J5c _ _=t1;refine ⟨_,.inl (.of h8),t1,rfl,by rw [zL];omega,?_⟩;refine J1g (.of h8) (zD _ (by rw [zL];omega)) (zC _ (by rw [zL];omega)) fun y hy=>?_;rw [zW] at hy;obtain ⟨n,hn',rfl⟩:=Option.map_eq_some_iff.mp hy;obtain ⟨r,rs,e1,e2,e3,e4⟩:=hK.at hn';refine ⟨.ref r,?_,nX,ln,r,ns,kds,isX,rs,rfl,u7 _ _ hn,⟨S7 _ _ hln,hF.2.2.1,by have:=hF.1;have:=hF.2.1;omega,S7 _ _ e3,e4.ok⟩,hi,hl3,fun H8 pt s8 gt=>tl H8 pt _ (u7.trans s8) gt fun n=>J5j e4 hi n⟩;have:=DGet.k (k:=.inl n) (S7 _ _ hdl);rwa [e2] at this
    ·rw [zt (fun z=>hm0 (by have:=of_decide_eq_true z;omega))]
     exact tl H7 p [] u7 g70 fun n=>by rw [take_nil];exact .nil
   ·rintro σ H6 ⟨v10,v11,qs,rfl,s6,gc6,gq,hql,hqs⟩
    walk_at "dt"
    match qs,hql,hqs with
    | [q0,q1],_,hqs =>
      obtain ⟨la,ka,rfl,gla,hka⟩:=hqs 0 _ rfl;obtain ⟨lb,kb,rfl,glb,hkb⟩:=hqs 1 _ rfl;have g76:=s6 _ _ g7;refine ⟨.inl ⟨rfl,_,.of g76⟩,pp,_,_,_,rfl,rfl,.of gq,Jf (j:=0) rfl,pp,_,_,_,rfl,rfl,.of gq,Jf (j:=1) rfl,Jb (by decide),fun p hp=>?_⟩
      walk_at "nw p hp H7 u7 y7"
      have g77:=u7 _ _ g76;have S7:=(s3.trans s6).trans u7;refine ⟨p7,ps,_,rfl,rfl,g77,zE (show ps.length<20 by omega) (Jb (by decide)),⟨_,rfl⟩,S7.set hp70 _,?_,_,Jd,fun x hx=>?_,by rw [zQ,hpl];rfl⟩
      ·rw [Jh n87]
       exact u7 _ _ (s6 _ _ g8)
      ·rcases zZ.mp hx with hx | hx
       ·exact (hps x hx).mono fun b ys hb=>TSame.upd_lst g77 b ys ((s6.trans u7) _ _ hb)
       ·rw [zM.mp hx]
        exact PrAt.mono (TSame.upd_lst g77) ⟨p,la,lb,ka,kb,rfl,y7,u7 _ _ gla,u7 _ _ glb,hka,hkb⟩
  ·rintro σ H3 ⟨v7,v8,v9,v10,v11,ps,rfl,s3,g8,g7,hps,hpl⟩
   rw [JK] at hpl;walk_at "dt";exact k H3 p7 ps s3 g7 hps (by omega)
theorem JeU {K:PySem.W.Frag}(h:Fl v)(q:Q (.bl (!neg)) H):J6F K neg v v H Q:=by
 obtain ⟨e1,o1⟩:=h.nk;have r:=J6U (K:=K) (H:=H) (toN v);rw [e1] at r;have sh:SeqAt.shaped (nkD (toN v))=true:=by
  unfold SeqAt.shaped;rw [(J2H o1).1,(J2H o1).2];rfl
 refine ⟨_,_,r,r,sh,sh,?_⟩;rw [Jbn,zx rfl];cases neg<;>exact q
def J7i (b:V->V->Bool)(l:List V)(v:V):Prop:=(l=[]/\v=.non)\/(v∈l/\∀ u∈l,b u v=false)
theorem gt_trans {a b c:V}(ha:J0v kd a)(hb:J0v kd b)(hc:J0v kd c)(h1:gtV a b=true)(h2:gtV c a=true):gtV c b=true:=by
 rcases ha with ⟨rfl,x,rfl,_⟩ | ⟨rfl,x,rfl⟩
 ·rcases hb with ⟨_,y,rfl,_⟩ | ⟨z,_⟩
  ·rcases hc with ⟨_,z,rfl,_⟩ | ⟨z,_⟩
   ·simp only [gtV,decide_eq_true_eq] at *
    exact Je8 h1 h2
   ·exact absurd z (by decide)
  ·exact absurd z (by decide)
 ·rcases hb with ⟨z,_⟩ | ⟨_,y,rfl⟩
  ·exact absurd z (by decide)
  ·rcases hc with ⟨z,_⟩ | ⟨_,z,rfl⟩
   ·exact absurd z (by decide)
   ·simp only [gtV,decide_eq_true_eq] at *
    omega
theorem gt_mix {u b:V}(hv:J0v kd v)(hu:J0v kd u)(hb:J0v kd b)(h1:gtV v u=true)(h2:gtV b u=false):gtV v b=true:=by
 rcases hv with ⟨rfl,x,rfl,_⟩ | ⟨rfl,x,rfl⟩
 ·rcases hu with ⟨_,y,rfl,_⟩ | ⟨z,_⟩
  ·rcases hb with ⟨_,z,rfl,_⟩ | ⟨z,_⟩
   ·simp only [gtV,decide_eq_true_eq,decide_eq_false_iff_not] at *
    exact lt_of_le_of_lt (List.not_lt.mp h2) h1
   ·exact absurd z (by decide)
  ·exact absurd z (by decide)
 ·rcases hu with ⟨z,_⟩ | ⟨_,y,rfl⟩
  ·exact absurd z (by decide)
  ·rcases hb with ⟨z,_⟩ | ⟨_,z,rfl⟩
   ·exact absurd z (by decide)
   ·simp only [gtV,decide_eq_true_eq,decide_eq_false_iff_not] at *
    omega
theorem J5k {a:V}(ha:J0v kd a):gtV a a=false:=by
 rcases ha with ⟨rfl,x,rfl,_⟩ | ⟨rfl,x,rfl⟩
 ·simp only [gtV,decide_eq_false_iff_not]
  exact List.lt_irrefl _
 ·simp [gtV]
theorem Jcb {l:List V}(hl:∀ u∈l,J0v kd u)(hx:J0v kd x)(h:v∈l/\∀ u∈l,gtV u v=false):(if gtV x v=true then x else v)∈l++[x]/\∀ u∈l++[x],gtV u (if gtV x v=true then x else v)=false:=by
 by_cases c:gtV x v=true
 ·rw [zu c]
  refine ⟨by simp,fun u hu=>?_⟩;rcases zZ.mp hu with hu | hu
  ·by_cases z:gtV u x=true
   ·exact absurd (gt_trans hx (hl v h.1) (hl u hu) c z) (by rw [h.2 u hu];exact zw)
   ·exact Bool.eq_false_iff.mpr z
  ·rw [zM.mp hu]
   exact J5k hx
 ·rw [zt c]
  refine ⟨z9 _ h.1,fun u hu=>?_⟩;rcases zZ.mp hu with hu | hu
  ·exact h.2 u hu
  ·rw [zM.mp hu]
   exact Bool.eq_false_iff.mpr c
theorem Jca {l:List V}(hl:∀ u∈l,J0v kd u)(hx:J0v kd x)(h:v∈l/\∀ u∈l,ltV u v=false):(if gtV x v=false then x else v)∈l++[x]/\∀ u∈l++[x],ltV u (if gtV x v=false then x else v)=false:=by
 by_cases c:gtV x v=false
 ·rw [zu c]
  refine ⟨by simp,fun u hu=>?_⟩;rcases zZ.mp hu with hu | hu
  ·by_cases z:gtV x u=true
   ·exact absurd (gt_mix hx (hl u hu) (hl v h.1) z (h.2 u hu)) (by rw [c];exact zw)
   ·exact Bool.eq_false_iff.mpr z
  ·rw [zM.mp hu]
   exact J5k hx
 ·rw [zt c]
  refine ⟨z9 _ h.1,fun u hu=>?_⟩;rcases zZ.mp hu with hu | hu
  ·exact h.2 u hu
  ·rw [zM.mp hu]
   have c1:gtV x v=true:=by simpa using c
   show gtV v x=false;by_cases z:gtV v x=true
   ·exact absurd (gt_trans hx (hl v h.1) (hl v h.1) c1 z) (by rw [J5k (hl v h.1)];exact zw)
   ·exact Bool.eq_false_iff.mpr z
theorem JbD (hx:J0v kd x)(hxs:∀ y∈xs,J0v kd y):inV x xs=true↔x∈xs:=by
 have eq:∀ y,J0v kd y->(eqV y x=true↔y=x):=fun y hy=>by
  rcases hx with ⟨rfl,a,rfl,_⟩ | ⟨rfl,a,rfl⟩
  ·rcases hy with ⟨_,b,rfl,_⟩ | ⟨z,_⟩
   ·simp [eqV]
   ·exact absurd z (by decide)
  ·rcases hy with ⟨z,_⟩ | ⟨_,b,rfl⟩
   ·exact absurd z (by decide)
   ·simp [eqV]
 unfold inV;rw [any_eq_true];constructor
 ·rintro ⟨y,hy,e⟩
  rw [<- (eq y (hxs y hy)).mp e];exact hy
 ·exact fun h=>⟨x,h,(eq x hx).mpr rfl⟩
theorem J9I (hx:J0v kd x):J35 x=true:=by
 rcases hx with ⟨_,a,rfl,_⟩ | ⟨_,a,rfl⟩<;>rfl
theorem Jcx {y:V}(hx:J0v kd x)(hy:J0v kd y):Jdq x y=true:=by
 rcases hx with ⟨rfl,a,rfl,_⟩ | ⟨rfl,a,rfl⟩
 ·rcases hy with ⟨_,b,rfl,_⟩ | ⟨z,_⟩
  ·rfl
  ·exact absurd z (by decide)
 ·rcases hy with ⟨z,_⟩ | ⟨_,b,rfl⟩
  ·exact absurd z (by decide)
  ·rfl
theorem Jes (vs:List V):(dd vs).length<=vs.length:=by
 refine J9q (P:=fun vs=>(dd vs).length<=vs.length) (zv _) (fun vs x ih=>?_) vs;rw [J4F]
 split
 ·rw [zQ]
  exact zG ih (Nat.le_add_right _ _)
 ·rw [zQ,zQ]
  exact Nat.add_le_add_right ih 1
theorem J9L {b:V->V->Bool}(h:J7i b (dd vs) v):J7i b vs v:=by
 rcases h with ⟨e,rfl⟩ | ⟨h1,h2⟩
 ·refine .inl ⟨?_,rfl⟩
  cases vs with
  | nil=>rfl
  | cons x r =>
    have:=(J3k x (x::r)).mpr zT;rw [e] at this;cases this
 ·exact .inr ⟨(J3k _ _).mp h1,fun u hu=>h2 u ((J3k _ _).mpr hu)⟩
inductive Q_l_figure (K:PySem.W.Frag)(vs:List V)(H:Hp)(Q:VK):Prop
 | mk (ln lr:Addr) (fv:V) (xr:List V) (ns kds:List Str) (rs:List (List V)) (Res:V->Prop) (u0_:vs=[fv,.ref ln,.ref lr]) (u1_:H ln=some (.lst (ns.map V.str))) (u2_:ns.Nodup) (u3_:(∀ kd∈kds,kd=JF\/kd=numS)) (u4_:H lr=some (.lst xr)) (u5_:RowsI H kds xr rs) (u6_:rs.length<=100) (u7_:Jch H fv ns kds rs Res) (u8_:∀ H' v,Same H H'->Res v->Q v H'):Q_l_figure K vs H Q
def J7w (K:PySem.W.Frag):Sp:=fun vs H Q _=>Q_l_figure K vs H Q
theorem ok_l_figure (T:Txt K mg f fd):FnOk P w K mg base CX0 1 (f 71) (fd 71) ["_law_figure_here","_law_names","_law_rows"] (J7w K):=by
 walk_at "ok yA J0e"
 ·obtain ⟨ln,lr,fv,xr,ns,kds,rs,Res,rfl,_⟩:=h
  rfl
 ·obtain ⟨ln,lr,fv,xr,ns,kds,rs,Res,rfl,hln,hnd,hkk,hlr,hR,h100,⟨q,rfl,hA⟩,k⟩:=h
  refine ⟨_,(J9 (Jt (Jk JA (Jj (Jo rfl) (pvl 0) Ja (fun _ _=>rfl)) Jp (Jm _))
   (Jc (Ji (Js (JZ rfl) T.wa Jv rfl (by decide) (by decide) rfl (pal rfl (pvl 2) J1))))
   Jl)
   (J9 (psl 3 J0e.nd (J1h rfl ql PySem.F.slot_list_index PySem.F.type_list_index (J5g rfl) rfl rfl rfl rfl (pvl 1) (pal rfl (Jj (Jo rfl) (pvl 0) Ja (fun _ _=>rfl)) J1)))
   (J9 (psl 4 J0e.nd Ja)
   (J9 (psl 5 J0e.nd (J0B J1))
   (J9 (J09 PassesOwn.never rfl (J0Q rfl (pvl 2)) (pgl 6 J0e.nd)
   (Jc (Jt (Jk J6K (Jj (Jo rfl) (pvl 6) (pvl 3) (fun _ _=>rfl)) J0N (Jm _))
   (J9 (Jt (Jk JA (Jj (Jo rfl) (pvl 0) Ja (fun _ _=>rfl)) Jp (Jm _))
   (Jc (psl 4 J0e.nd (Jn J05 (pvl 4) (Jj (Jo rfl) (pvl 6) (pvl 3) (fun _ _=>rfl)))))
   Jl)
   (Jc (Jt (Jk (J71 rfl) (Jj (Jo rfl) (pvl 6) (pvl 3) (fun _ _=>rfl)) (pvl 5) rfl)
   (Jc (JM (J1h rfl ql PySem.F.slot_list_append PySem.F.type_list_append J0r rfl rfl rfl rfl (pvl 5) (pal rfl (Jj (Jo rfl) (pvl 6) (pvl 3) (fun _ _=>rfl)) J1))))
   Jl)))
   Jl)))
   (J9 (Jt (Jk JA (Jj (Jo rfl) (pvl 0) Ja (fun _ _=>rfl)) Jp (Jm _))
   (Jc (Ji (pvl 4)))
   Jl)
   (J9 (Jt (Jk JA (Jj (Jo rfl) (pvl 0) Ja (fun _ _=>rfl)) Jp (Jm _))
   (Jc (Ji (Js (JZ rfl) T.wa Jv rfl (by decide) (by decide) rfl (pal rfl (pvl 5) J1))))
   Jl)
   (J9 (psl 7 J0e.nd J0N)
   (J9 (J09 PassesOwn.never rfl (J0Q rfl (pvl 5)) (pgl 8 J0e.nd)
   (Jc (Jt (PW.pt (J1u (Jk J2E (pvl 7) J0N (Jm _)) (J0V (Jk JA (JI Jbh (pvl 8) (pvl 7) (Jm _)) (JI JA (Jj (Jo rfl) (pvl 0) Ja (fun _ _=>rfl)) Jp (Jm _)) (Jm _)))))
   (Jc (psl 7 J0e.nd (pvl 8)))
   Jl)))
   (Jc (Ji (pvl 7)))))))))))),?_⟩
  generalize hB1:J1n (J6e _ (J9U (J4i 4)) _) _=B1;walk_at "dc";have hxl:=hR.1;rcases hA with ⟨hq,rfl⟩ | ⟨hd,n,j,kd,hq,hn,hkd,hhd,rfl⟩
  ·refine ⟨q,_,_,_,rfl,rfl,.of hq,Jf (j:=0) rfl,rfl,?_⟩
   rw [zu (by decide)];exact ⟨_,.inl (.of hlr),k _ _ (Same.refl _) (by rw [hxl])⟩
  ·have ix0:∀ (G:Hp) (R:VK),Same H G->R (.str hd) G->J1K K (.ref q) (.int 0) G R:=fun G R s r=>⟨q,_,_,_,rfl,rfl,.of (s _ _ hq),Jf (j:=0) rfl,r⟩
   refine ix0 H _ (Same.refl _) ⟨rfl,?_⟩;have hc:hd≠"count":=by rcases hhd with ⟨rfl,_⟩ | rfl | rfl | rfl<;>decide
   rw [zt (by simpa using hc)];refine ⟨.inl ⟨rfl,_,.of hln⟩,q,_,_,_,rfl,rfl,.of hq,Jf (j:=1) rfl,ns,n,rfl,.of hln,j,hn,fun m hm z=>absurd (J17 hnd z hn) (by omega),zF _,fun p hp=>?_⟩
   walk_at "nw p hp H1 u1 g1"
   have ck:∀ i,∀ v∈J0u (rs.take i) j,J0v kd v:=fun i=>J7a (fun r hr=>hR.ok r (mem_of_mem_take hr)) hkd;refine J06 ?_;walk_at "dc";refine ⟨⟨_,.of (u1 _ _ hlr)⟩,?_⟩;generalize hD1:(Ends.mk _ _ _ _:Ends)=D1;refine ForW.of (JB (xs:=xr)) (fun i σ H'=>(∃ (w0:Int) (v6:Option V),σ=[some (V.ref q),some (V.ref ln),some (V.ref lr),some (V.int (j:Int)),some (V.int w0),some (V.ref p),v6,none,none]/\(hd="sum"->∃ zs:List Int,J0u (rs.take i) j=zs.map V.int/\w0=zs.foldl (·+·) 0))/\Same H H'/\H' p=some (.lst (dd (J0u (rs.take i) j)))) ⟨⟨0,none,rfl,fun _=>⟨[],rfl,rfl⟩⟩,u1,g1⟩ (fun _ _ H' _ z=>z.2.1.seq (.of hlr)) ?_ ?_
   ·rintro i x σ H2 hx ⟨⟨w0,v6,rfl,hw⟩,s2,g2⟩
    obtain ⟨pr,r,rfl,hr,hpr,hok⟩:=hR.at hx;obtain ⟨e1,e2⟩:=hok.at hkd;have hp2:=s2 _ _ hpr;have es:J0u (rs.take (i+1)) j=if J8W (r.getD j .non)=true then J0u (rs.take i) j++[r.getD j .non] else J0u (rs.take i) j:=by rw [Jw hr,J5Y]
    generalize r.getD j .non=v at *;have ixv:∀ (R:VK),R v H2->J1K K (.ref pr) (.int (j:Int)) H2 R:=fun R r=>⟨pr,_,_,_,rfl,rfl,.of hp2,Jf e1,r⟩;subst hD1;walk_at "dc";refine ixv _ ?_;rcases e2 with rfl | e2
    ·rw [zt (by decide)]
     have es':J0u (rs.take (i+1)) j=J0u (rs.take i) j:=by rw [es,zt (by decide)]
     rw [es'];exact ⟨hw,s2,g2⟩
    ·have hnv:J8W v=true/\v≠.non:=by
      rcases e2 with ⟨_,z,rfl,_⟩ | ⟨_,i,rfl⟩
      ·exact ⟨rfl,by simp⟩
      ·exact ⟨rfl,by simp⟩
     have es':J0u (rs.take (i+1)) j=J0u (rs.take i) j++[v]:=by rw [es,zu hnv.1]
     rw [zu (by simpa using hnv.2),es',J4F];have hil:=(zK.mp hr).1;have cl:=zG (Jes (J0u (rs.take i) j)) (J5o rs i j);have ckC:=ck i;clear es es';generalize J0u (rs.take i) j=C at *;have ckd:∀ y∈dd C,J0v kd y:=fun y hy=>ckC y ((J3k _ _).mp hy);have tail:∀ w1:Int,(hd="sum"->∃ zs:List Int,C++[v]=zs.map V.int/\w1=zs.foldl (·+·) 0)->J1K K (V.ref pr) (V.int (j:Int)) H2 fun x H1=>rIn K true x (V.ref p) H1 fun x H'=>∃ k,x=V.bl k/\if k=true then tyV K "list" (V.ref p) H'/\J1K K (V.ref pr) (V.int (j:Int)) H' fun x H1=>J4B (V.ref p) [x] H1 fun x H1 =>
      (hd=Str.ofString "sum"->∃ zs,C++[v]=List.map V.int zs/\w1=List.foldl (fun x1 x2=>x1+x2) 0 zs)/\Same H H1/\H1 p=some (HO.lst (if v∈dd C then dd C else dd C++[v])) else (hd=Str.ofString "sum"->∃ zs,C++[v]=List.map V.int zs/\w1=List.foldl (fun x1 x2=>x1+x2) 0 zs)/\Same H H'/\H' p=some (HO.lst (if v∈dd C then dd C else dd C++[v])):=by
      intro w1 hw1;refine ixv _ ⟨p,_,rfl,.inl (.of g2),J9I e2,all_eq_true.mpr fun y hy=>J9I (ckd y hy),_,rfl,?_⟩;by_cases cm:v∈dd C
      ·have hi:inV v (dd C)=true:=(JbD e2 ckd).mpr cm
       rw [zt (by rw [hi];decide)];exact ⟨hw1,s2,by rw [zu cm];exact g2⟩
      ·have hi:inV v (dd C)=false:=Bool.eq_false_iff.mpr fun z=>cm ((JbD e2 ckd).mp z)
       rw [zu (by rw [hi];decide)];exact ⟨.inl ⟨rfl,_,.of g2⟩,ixv _ ⟨p,_,_,rfl,rfl,g2,by rw [sizeLine_eq];omega,hw1,s2.set hp _,by rw [Jd,zt cm]⟩⟩
     refine ix0 H2 _ s2 ⟨rfl,?_⟩;by_cases cs:hd="sum"
     ·rw [zu (by simpa using cs)]
      have hkn:kd=numS:=by rcases hhd with ⟨_,e⟩ | rfl | rfl | rfl;exact e;all_goals exact absurd cs (by decide)
      obtain ⟨zs,ez,ew⟩:=hw cs;rcases e2 with ⟨z,_⟩ | ⟨_,z,rfl⟩
      ·exact absurd (hkn.symm.trans z) (by decide)
      ·exact ixv _ ⟨z,rfl,tail (w0+z) fun _=>⟨zs++[z],by rw [ez,zY];rfl,by rw [foldl_append,<- ew];rfl⟩⟩
     ·rw [zt (by simpa using cs)]
      exact tail w0 fun z=>absurd z cs
   ·rintro σ H2 ⟨⟨w0,v6,rfl,hw⟩,s2,g2⟩
    rw [hxl,zX] at hw g2;have ck2:=ck rs.length;rw [zX] at ck2;subst hD1;subst hB1;walk_at "dc";have ckd:∀ y∈dd (J0u rs j),J0v kd y:=fun y hy=>ck2 y ((J3k _ _).mp hy);refine ix0 H2 _ s2 ⟨rfl,?_⟩;by_cases cs:hd="sum"
    ·rw [zu (by simpa using cs)]
     obtain ⟨zs,ez,ew⟩:=hw cs;exact k _ _ s2 (.inl ⟨cs,zs,ez,by rw [ew]⟩)
    rw [zt (by simpa using cs)];refine ix0 H2 _ s2 ⟨rfl,?_⟩;by_cases cu:hd="unlike"
    ·rw [zu (by simpa using cu)]
     exact ⟨_,.inl (.of g2),k _ _ s2 (.inr (.inr (.inr ⟨cu,rfl⟩)))⟩
    rw [zt (by simpa using cu)];refine J06 ?_;walk_at "dc";refine ⟨⟨_,.of g2⟩,?_⟩;generalize hD2:(Ends.mk _ _ _ _:Ends)=D2;have fin:∀ (G:Hp) (v:V),Same H G->J7i (if hd="greatest" then gtV else ltV) (dd (J0u rs j)) v->Q v G:=fun G v sG hb=>by
     refine k G v sG ?_;by_cases cg:hd="greatest"
     ·rw [zu cg] at hb
      exact .inr (.inl ⟨cg,J9L hb⟩)
     ·rw [zt cg] at hb
      refine .inr (.inr (.inl ⟨?_,J9L hb⟩));rcases hhd with ⟨e,_⟩ | e | e | e
      ·exact absurd e cs
      ·exact absurd e cg
      ·exact e
      ·exact absurd e cu
    generalize dd (J0u rs j)=C at *;refine ForW.of (JB (xs:=C)) (fun i σ H'=>(∃ (v7:V) (v8:Option V),σ=[some (V.ref q),some (V.ref ln),some (V.ref lr),some (V.int (j:Int)),some (V.int w0),some (V.ref p),v6,some v7,v8]/\J7i (if hd="greatest" then gtV else ltV) (C.take i) v7)/\Same H2 H') ⟨⟨.non,none,rfl,.inl ⟨rfl,rfl⟩⟩,Same.refl _⟩ (fun _ _ H' _ z=>z.2.seq (.of g2)) ?_ ?_
    ·rintro i x σ H3 hx ⟨⟨v7,v8,rfl,hb⟩,s3⟩
     have hxk:=ckd x (zP hx);have hxn:x≠.non:=by rcases hxk with ⟨_,z,rfl,_⟩ | ⟨_,z,rfl⟩<;>simp
     have ctk:∀ u∈C.take i,J0v kd u:=fun u hu=>ckd u (mem_of_mem_take hu);have et:C.take (i+1)=C.take i++[x]:=Jw hx;subst hD2;walk_at "dc";rw [et];generalize C.take i=L at *;rcases hb with ⟨hL,rfl⟩ | ⟨h1,h2⟩
     ·rw [zu (by decide)]
      refine ⟨.inr ⟨by simp,fun u hu=>?_⟩,s3⟩;rw [hL,nil_append] at hu;rw [zM.mp hu];by_cases cg:hd="greatest"
      ·rw [zu cg]
       exact J5k hxk
      ·rw [zt cg]
       exact J5k hxk
     ·have hvk:=ctk v7 h1
      have hvn:v7≠.non:=by rcases hvk with ⟨_,z,rfl,_⟩ | ⟨_,z,rfl⟩<;>simp
      rw [zt (by simpa using hvn)];refine ⟨Jcx hxk hvk,ix0 H3 _ (s2.trans s3) ⟨rfl,?_⟩⟩;by_cases cg:hd="greatest"
      ·rw [zu cg] at h2
       have bm:=Jcb ctk hxk ⟨h1,h2⟩;have ed:decide (V.str hd=V.str (Str.ofString "greatest"))=true:=zx (by rw [cg]);rw [ed];by_cases c:gtV x v7=true
       ·rw [zu (zx c),zu cg]
        rw [zu c] at bm;exact ⟨.inr bm,s3⟩
       ·rw [zt (by simpa using c),zu cg]
        rw [zt c] at bm;exact ⟨.inr bm,s3⟩
      ·rw [zt cg] at h2
       have bm:=Jca ctk hxk ⟨h1,h2⟩;have ed:decide (V.str hd=V.str (Str.ofString "greatest"))=false:=zy (by intro z;injection z with z;exact cg z);rw [ed];by_cases c:gtV x v7=false
       ·rw [zu (zx c),zt cg]
        rw [zu c] at bm;exact ⟨.inr bm,s3⟩
       ·rw [zt (by simpa using c),zt cg]
        rw [zt c] at bm;exact ⟨.inr bm,s3⟩
    ·rintro σ H3 ⟨⟨v7,v8,rfl,hb⟩,s3⟩
     rw [zX] at hb;subst hD2;walk_at "dc";exact fin _ _ (s2.trans s3) hb
def J8t (K:PySem.W.Frag):Sp:=fun vs H Q _=>∃ v,vs=[v,v]/\Fl v/\Q (.bl true) H
theorem J8T (T:Txt K mg f fd):FnOk P w K mg base CX0 1 (f 72) (fd 72) ["_law_told","_law_due"] (J8t K):=by
 walk_at "ok yB J8D"
 ·obtain ⟨v,rfl,_⟩:=h
  rfl
 ·obtain ⟨v,rfl,hv,k⟩:=h
  refine ⟨_,(J9 (Jt (Jk J2E (pvl 1) J0N (Jm _))
   (Jc (Ji (JI J2E (pvl 0) J0N (Jm _))))
   Jl)
   (J9 (Jt (PW.pt (J1u (J04 (Js (J0K rfl) T.wc Jr rfl (by decide) (by decide) rfl (pal rfl (pvl 1) (pal rfl (pty T.wk J2L) J1)))) (J0V (J04 (Js (J0K rfl) T.wc Jr rfl (by decide) (by decide) rfl (pal rfl (pvl 0) (pal rfl (pty T.wk J2L) J1)))))))
   (Jc (Ji (J1L (Js (J0K rfl) T.wc Jr rfl (by decide) (by decide) rfl (pal rfl (pvl 1) (pal rfl (pty T.wk J2L) J1))) (J1L (Js (J0K rfl) T.wc Jr rfl (by decide) (by decide) rfl (pal rfl (pvl 0) (pal rfl (pty T.wk J2L) J1))) (J3h (JI (J5h rfl hr.units) (pvl 0) (pvl 1) (Jm _)))))))
   Jl)
   (Jc (Ji (J1L (Js (J0K rfl) T.wc Jr rfl (by decide) (by decide) rfl (pal rfl (pvl 0) (pal rfl (pty T.wG J7e) J1))) (J1L (J8P (Js (J0K rfl) T.wc Jr rfl (by decide) (by decide) rfl (pal rfl (pvl 0) (pal rfl (pty T.yP J9O) J1)))) (J3h (JI (J5h rfl hr.units) (pvl 0) (pvl 1) (Jm _))))))))),?_⟩
  walk_at "dc";have he:J6F K false v v H Q:=JeU hv k;rcases hv with rfl | ⟨i,rfl⟩ | ⟨z,rfl,hz⟩
  ·rw [zu (by decide)]
   exact k
  ·have pl:Pl K H (V.int i) "int":=.of_int
   rw [zt (by simp)];refine ⟨_,pl,by decide,?_⟩;rw [zt (by decide)];refine ⟨_,pl,by decide,?_⟩;rw [zt (by decide)];refine ⟨_,pl,by decide,?_⟩;rw [zu (by decide)];refine ⟨_,pl,by decide,?_⟩;rw [zu (by decide)];exact he
  ·have pl:Pl K H (V.str z) "str":=.of_str (Jb (by have:=hz.1;omega))
   rw [zt (by simp)];refine ⟨_,pl,by decide,?_⟩;rw [zu (by decide)];refine ⟨_,pl,by decide,?_⟩;rw [zu (by decide)];refine ⟨_,pl,by decide,?_⟩;rw [zu (by decide)];exact he
theorem JeT {g:Fg}(h:FgAt H ns kds fv g){rs:List (List V)}(hr:∀ r∈rs,RowOk kds r)(hv:FgR g rs v):Fl v:=by
 obtain ⟨q,e,⟨rfl,_⟩ | ⟨hd,n,j,kd,rfl,_,_,h3,_⟩⟩:=h
 ·exact .inr (.inl ⟨_,hv⟩)
 ·have fl:∀ u∈J0u rs j,Fl u:=fun u hu=>by
   rcases J7a hr h3 u hu with ⟨_,z,rfl,hz⟩ | ⟨_,i,rfl⟩
   ·exact .inr (.inr ⟨z,rfl,hz⟩)
   ·exact .inr (.inl ⟨i,rfl⟩)
  rcases hv with ⟨_,zs,_,rfl⟩ | ⟨_,⟨_,rfl⟩ | ⟨hm,_⟩⟩ | ⟨_,⟨_,rfl⟩ | ⟨hm,_⟩⟩ | ⟨_,rfl⟩
  ·exact .inr (.inl ⟨_,rfl⟩)
  ·exact .inl rfl
  ·exact fl _ hm
  ·exact .inl rfl
  ·exact fl _ hm
  ·exact .inr (.inl ⟨_,rfl⟩)
inductive Q_l_box_right (P:Program)(w:World)(K:PySem.W.Frag)(f:Nat->Addr)(vs:List V)(H:Hp)(Q:VK):Prop
 | mk (t dW v pr dl:Addr) (gs:List Fg) (ns kds:List Str) (is0 is1:List Nat) (kss0 kss1:List (List Jq)) (kvs:List (Key×V)) (ks:List Int) (nrs:List NR) (u0_:vs=[.ref t,.ref dW,.ref v,.ref pr,.ref dl]) (u1_:TabAt P w f H t v gs ns kds is0 is1 kss0 kss1 (J3o is0 is1 nrs)) (u2_:Wd H dW ns kds) (u3_:PrAt H kds is0 is1 (.ref pr)) (u4_:H dl=some (.dK kvs)) (u5_:RwK H kds kvs ks) (u6_:RwN H kds kvs nrs) (u7_:kvs.length<=40) (u8_:∀ H',Same H H'->Q (.bl true) H'):Q_l_box_right P w K f vs H Q
def J4P (P:Program)(w:World)(K:PySem.W.Frag)(f:Nat->Addr):Sp:=fun vs H Q _=>Q_l_box_right P w K f vs H Q
theorem ok_l_box_right (T:Txt K mg f fd):FnOk P w K mg base CX0 8 (f 73) (fd 73) ["_law_table","_law_world_here","_law_view_here","_law_pair","_law_laid"] (J4P P w K f):=by
 walk_at "ok yC JE"
 ·obtain ⟨t,dW,v,pr,dl,gs,ns,kds,is0,is1,kss0,kss1,kvs,ks,nrs,rfl,_⟩:=h
  rfl
 ·obtain ⟨t,dW,v,pr,dl,gs,ns,kds,is0,is1,kss0,kss1,kvs,ks,nrs,rfl,hT,hW,hP,hdl,hK,hN,h40,k⟩:=h
  obtain ⟨dx,lf,pd,bx,n0,n1,fg,h0,h1,xs',fvs,hk,kv2,a1,a2,_⟩:=id hT;obtain ⟨l,xs,hl,hF,hkk,h1',h8,hnm,hget⟩:=hW.out;obtain ⟨q,la,lb,ka,kb,e,hq,hla,hlb,hka,hkb⟩:=hP;cases e;have hlk:=hK.len;have hln:=Paired.length hN;refine ⟨_,(J9 (J1D ["_law_field"] ["_law_table","_law_world_here","_law_view_here","_law_pair","_law_laid","_law_names","_law_due","_law_number","_law_row_here","_law_one","_law_other","_law_told","_law_rows","_law_k"] rfl (show CompSc _ (Je J0J) ["_law_table","_law_world_here","_law_view_here","_law_pair","_law_laid","_law_names","_law_due","_law_number","_law_row_here","_law_one","_law_other","_law_told","_law_rows","_law_k"] ["_law_table","_law_world_here","_law_view_here","_law_pair","_law_laid","_law_names","_law_due","_law_number","_law_row_here","_law_one","_law_other","_law_told","_law_rows","_law_k"] from Ju (by decide +kernel)) JE.nd (i:=5) rfl rfl (J0Q rfl (JX (J0b hr) (pvl 1) Jp (fun _ _=>rfl))) (fun _ _ _ _ _=>(pgl 0 (show (["_law_field","_law_table","_law_world_here","_law_view_here","_law_pair","_law_laid","_law_names","_law_due","_law_number","_law_row_here","_law_one","_law_other","_law_told","_law_rows","_law_k"]:List Str).Nodup by decide +kernel))) (fun _ _ _ _ _=>JH) (fun _ _ _ _ _=>(Jj (Jo rfl) (pvl 0) Ja (fun _ _=>rfl))))
   (J9 (psl 6 JE.nd (J0B J1))
   (J9 (J09 PassesOwn.never rfl (J0Q rfl (Js (J10 rfl) T.wq J22 rfl (by decide) (by decide) rfl (pal rfl (pvc 4) J1))) (pgl 7 JE.nd)
   (J9 (psl 8 JE.nd (JX (J0b hr) (pvc 4) (pvl 7) (fun _ _=>rfl)))
   (J9 (psl 9 JE.nd (J0f (J45 rfl) (Jg T.wo (J16 T) (hr.mono (by decide)) rfl (by decide) rfl (pal rfl (Jj (Jo rfl) (pvl 2) Ja (fun _ _=>rfl)) (pal rfl (pvl 5) (pal rfl (pvl 8) J1)))) J0E (J0o (Js (JZ rfl) T.wa Jv rfl (by decide) (by decide) rfl (pal rfl (Jj (Jo rfl) (pvl 3) Ja (fun _ _=>rfl)) J1)))))
   (J9 (psl 10 JE.nd (J0f (J45 rfl) (Jg T.wo (J16 T) (hr.mono (by decide)) rfl (by decide) rfl (pal rfl (Jj (Jo rfl) (pvl 2) Ja (fun _ _=>rfl)) (pal rfl (pvl 5) (pal rfl (pvl 8) J1)))) J0E (J0o (Js (JZ rfl) T.wa Jv rfl (by decide) (by decide) rfl (pal rfl (Jj (Jo rfl) (pvl 3) Ja (fun _ _=>rfl)) J1)))))
   (Jc (Jt (PW.pt (J3g (Jk (J5h rfl hr.units) (pvl 9) (Jj (Jo rfl) (pvl 3) Ja (fun _ _=>rfl)) (Jm _)) (J2g (Jk (J5h rfl hr.units) (pvl 10) (Jj (Jo rfl) (pvl 3) Ja (fun _ _=>rfl)) (Jm _)))))
   (Jc (JM (J1h rfl ql PySem.F.slot_list_append PySem.F.type_list_append J0r rfl rfl rfl rfl (pvl 6) (pal rfl (pvl 7) J1))))
   Jl))))))
   (J9 (psl 11 JE.nd (J0F (pvl 0) T.wd.cls T.wU (J1e T) (hr.mono (by decide)) T.wC.b .nil J0W (pal rfl (Jj (Jo rfl) (pvl 3) Ja (fun _ _=>rfl)) (pal rfl (Jj (Jo rfl) (pvl 3) Ja (fun _ _=>rfl)) J1)) rfl rfl rfl))
   (J9 (Jt (PW.pt (J1u (J0i (J04 (Js (J0K rfl) T.wc Jr rfl (by decide) (by decide) rfl (pal rfl (pvl 11) (pal rfl (pty T.wm J2l) J1))))) (J0V (Jk (Jdy rfl hr.units) (pvl 11) (pvl 6) (Jm _)))))
   (Jc (Ji J0q))
   Jl)
   (J9 (JM (J1h rfl ql PySem.F.slot_list_append PySem.F.type_list_append J0r rfl rfl rfl rfl (pvl 11) (pal rfl (Jdu JaG Ja) J1)))
   (J9 (psl 11 JE.nd (J0F (pvl 0) T.wd.cls T.yN (ok_Table_box T) (hr.mono (by decide)) T.wS.b .nil J0W (pal rfl (Jj (Jo rfl) (pvl 3) Ja (fun _ _=>rfl)) (pal rfl (Jj (Jo rfl) (pvl 3) Ja (fun _ _=>rfl)) J1)) rfl rfl rfl))
   (J9 (Jt (PW.pt (J1u (J0i (J04 (Js (J0K rfl) T.wc Jr rfl (by decide) (by decide) rfl (pal rfl (pvl 11) (pal rfl (pty T.wm J2l) J1))))) (J1u (Jk J7S (Js (JZ rfl) T.wa Jv rfl (by decide) (by decide) rfl (pal rfl (pvl 11) J1)) (Js (JZ rfl) T.wa Jv rfl (by decide) (by decide) rfl (pal rfl (Jj (Jo rfl) (pvl 2) Ja (fun _ _=>rfl)) J1)) (Jm _)) (J0V (Jk (Jdy rfl hr.units) (J0F (pvl 0) T.wd.cls T.wU (J1e T) (hr.mono (by decide)) T.wC.b .nil J0W (pal rfl (Jj (Jo rfl) (pvl 3) Ja (fun _ _=>rfl)) (pal rfl (Jj (Jo rfl) (pvl 3) Ja (fun _ _=>rfl)) J1)) rfl rfl rfl) (pvl 6) (Jm _))))))
   (Jc (Ji J0q))
   Jl)
   (J9 (J1D ["_law_number"] ["_law_table","_law_world_here","_law_view_here","_law_pair","_law_laid","_law_names","_law_due","#7","_law_row_here","_law_one","_law_other","_law_told","_law_rows","_law_k"] rfl (show CompSc _ (Je J0J) ["_law_table","_law_world_here","_law_view_here","_law_pair","_law_laid","_law_names","_law_due","_law_number","_law_row_here","_law_one","_law_other","_law_told","_law_rows","_law_k"] ["_law_table","_law_world_here","_law_view_here","_law_pair","_law_laid","_law_names","_law_due","#7","_law_row_here","_law_one","_law_other","_law_told","_law_rows","_law_k"] from Ju (by decide +kernel)) JE.nd (i:=12) rfl rfl (J0Q rfl (pvl 6)) (fun _ _ _ _ _=>(pgl 0 (show (["_law_number","_law_table","_law_world_here","_law_view_here","_law_pair","_law_laid","_law_names","_law_due","#7","_law_row_here","_law_one","_law_other","_law_told","_law_rows","_law_k"]:List Str).Nodup by decide +kernel))) (fun _ _ _ _ _=>JH) (fun _ _ _ _ _=>(JX (J0b hr) (pvc 5) (pvl 0) (fun _ _=>rfl))))
   (J9 (J09 PassesOwn.never rfl (J0l rfl T.wg (pal rfl (Js (JZ rfl) T.wa Jv rfl (by decide) (by decide) rfl (pal rfl (pvl 11) J1)) J1)) (pgl 13 JE.nd)
   (Jc (Jt (J0i (J04 (Jg T.yB (J8T T) (hr.mono (by decide)) rfl (by decide) rfl (pal rfl (Jj (J0I rfl) (pvl 11) (pvl 13) (fun _ _=>rfl)) (pal rfl (Jg T.yA (ok_l_figure T) (hr.mono (by decide)) rfl (by decide) rfl (pal rfl (Jj (Jo rfl) (Jj (Jo rfl) (pvl 2) Ja (fun _ _=>rfl)) (pvl 13) (fun _ _=>rfl)) (pal rfl (pvl 5) (pal rfl (pvl 12) J1)))) J1)))))
   (Jc (Ji J0q))
   Jl)))
   (J9 (JM (JeP rfl ql PySem.F.slot_list_clear PySem.F.type_list_clear Jbq (pvl 11)))
   (Jc (Ji (JI JA (Js (JZ rfl) T.wa Jv rfl (by decide) (by decide) rfl (pal rfl (J0F (pvl 0) T.wd.cls T.yN (ok_Table_box T) (hr.mono (by decide)) T.wS.b .nil J0W (pal rfl (Jj (Jo rfl) (pvl 3) Ja (fun _ _=>rfl)) (pal rfl (Jj (Jo rfl) (pvl 3) Ja (fun _ _=>rfl)) J1)) rfl rfl rfl) J1)) (Js (JZ rfl) T.wa Jv rfl (by decide) (by decide) rfl (pal rfl (Jj (Jo rfl) (pvl 2) Ja (fun _ _=>rfl)) J1)) (Jm _))))))))))))))),?_⟩
  generalize hB:J1n (J7q _ _ _) _=TB;walk_at "dt";refine ⟨_,hget H (Same.refl _),l,rfl,⟨_,.of hl⟩,?_⟩;refine JV (JB (xs:=xs)) (Jb (by omega)) (fun i ys H'=>Same H H'/\ys=(ns.take i).map V.str) ⟨Same.refl _,rfl⟩ (fun _ _ H' _ z=>z.1.seq (.of hl)) (fun i ys H' z=>by rw [z.2,zL,zR];omega) (fun i x ys H3 hx z=>?_) (fun ys H3 z D hD=>?_)
  ·obtain ⟨t1,rfl⟩:=z
   obtain ⟨p,n,kd,e1,e2,e3,e4⟩:=hF.at (zK.mp hx).1;obtain rfl:x=.ref p:=zA (hx.symm.trans e1);walk_at "dt";refine ⟨p,_,_,_,rfl,rfl,.of (t1 _ _ e4),Jf (j:=0) rfl,⟨_,rfl⟩,t1,?_⟩;rw [Jw e2,zY];rfl
  ·obtain ⟨t1,rfl⟩:=z
   rw [<- hF.1,zX]
   walk_at "nw D hD H4 u4 gn"
   refine ⟨zF _,fun p hp=>?_⟩;have hp0:=none_of (t1.trans u4) hp;have npD:p≠D:=fun z=>by rw [z,gn] at hp;cases hp
   walk_at "nw p hp H5 u5 gp"
   have S5:=t1.trans (u4.trans u5);have gn5:=u5 _ _ gn;clear t1 u4 u5 gn hD;subst hB;generalize hC:J1n (J3t _ (JL 11)) _=TC;walk_at "dt";refine J06 ?_;walk_at "dt";refine ⟨_,S5 _ _ hdl,ks,hK.k,by omega,fun p8 ms hp8 hms hup=>?_⟩;obtain rfl:ms=ks:=perm_one (le:=fun a b:Int=>a<=b) (fun a b h1 h2=>by omega) hms hup (hK.up.imp fun {a b} q=>by omega);have n8p:p8≠p:=fun z=>by rw [z,gp] at hp8;cases hp8
   walk_at "nw p8 hp8 H6 u6 g8"
   have S6:=S5.trans u6;refine ⟨⟨_,.of g8⟩,ForW.of (JB (xs:=ms.map V.int)) (fun i σ H'=>(∃ v7 v8 v9 v10,σ=[some (V.ref t),some (V.ref dW),some (V.ref v),some (V.ref pr),some (V.ref dl),some (V.ref D),some (V.ref p),v7,v8,v9,v10,none,none,none])/\Same H H'/\H' p8=some (.lst (ms.map V.int))/\H' D=some (.lst (ns.map V.str))/\H' p=some (.lst ((((nrs.take i).filter fun nr=>isB is0 nr.2 ka&&isB is1 nr.2 kb).map Prod.fst).map V.int))) ⟨⟨none,none,none,none,rfl⟩,S6,g8,u6 _ _ gn5,u6 _ _ gp⟩ (fun _ _ _ _ z=>.of z.2.2.1) ?_ ?_⟩
   ·rintro i x σ H7 hx ⟨⟨v7,v8,v9,v10,rfl⟩,s7,g8',gn7,gp7⟩
    rw [zW] at hx;obtain ⟨n,hn,rfl⟩:=Option.map_eq_some_iff.mp hx;obtain ⟨r,rs',e1,e2,e3,e4⟩:=hK.at hn;obtain ⟨⟨n',rs⟩,hrs,en,r',e5,e6,e7⟩:=Paired.ix hN e1;obtain rfl:n=n':=by injection en
    obtain rfl:r'=r:=by injection e5 with e5;exact e5.symm
    obtain rfl:rs'=rs:=by have:=e3.symm.trans e6;injection this with this;injection this
    rw [Jw hrs,filter_append,filter_cons,filter_nil];simp only [JL];walk_at "dt";have f0:=a2.vw.few0;have f1:=a2.vw.few1;have hlk2:ns.length=kds.length:=by have:=hF.1;have:=hF.2.1;omega
    refine ⟨.ref r',?_,v,_,_,_,rfl,rfl,.of (s7 _ _ a2.vw.v),Jf (j:=0) rfl,n0,D,r',ns,kds,is0,rs',rfl,s7 _ _ a2.vw.n0,⟨gn7,hF.2.2.1,hlk2,s7 _ _ e3,e4.ok⟩,a2.vw.i0,by omega,fun H8 po s8 go=>?_⟩
    ·have:=DGet.k (k:=.inl n) (s7 _ _ hdl)
     rwa [e2] at this
    have S8:=s7.trans s8;refine ⟨pr,_,_,_,rfl,rfl,.of (S8 _ _ hq),Jf (j:=0) rfl,la,rfl,_,.inr (.of (S8 _ _ hla)),?_⟩;rw [zL];refine J5P go fun c0 H9 s9 g9=>?_;rw [<- map_take] at g9;have S9:=S8.trans s9;refine ⟨v,_,_,_,rfl,rfl,.of (S9 _ _ a2.vw.v),Jf (j:=1) rfl,n1,D,r',ns,kds,is1,rs',rfl,S9 _ _ a2.vw.n1,⟨(s8.trans s9) _ _ gn7,hF.2.2.1,hlk2,S9 _ _ e3,e4.ok⟩,a2.vw.i1,by omega,fun H10 po1 s10 go1=>?_⟩;have S10:=S9.trans s10;refine ⟨pr,_,_,_,rfl,rfl,.of (S10 _ _ hq),Jf (j:=1) rfl,lb,rfl,_,.inr (.of (S10 _ _ hlb)),?_⟩;rw [zL];refine J5P go1 fun c1 H11 s11 g11=>?_;rw [<- map_take] at g11;have S11:=S10.trans s11;have W:=(s8.trans s9).trans (s10.trans s11);have gp11:=W _ _ gp7;have lim:((((nrs.take i).filter fun nr=>isB is0 nr.2 ka&&isB is1 nr.2 kb).map Prod.fst).map V.int).length<=40:=by
     rw [zL,zL];refine zG (length_filter_le _ _) ?_;rw [zR];omega
    generalize hI:(isB is0 rs' ka&&isB is1 rs' kb)=bI;have no:bI=false->(∃ x,some (V.ref c1)=x)/\Same H H11/\H11 p8=some (HO.lst (List.map V.int ms))/\H11 D=some (HO.lst (List.map V.str ns))/\H11 p=some (HO.lst (List.map V.int (List.map Prod.fst (List.filter (fun nr=>isB is0 nr.snd ka&&isB is1 nr.snd kb) (List.take i nrs)++if bI=true then [(n,rs')] else [])))):=fun z=>by
     rw [z,zt zw,append_nil];exact ⟨⟨_,rfl⟩,S11,W _ _ g8',W _ _ gn7,gp11⟩
    refine ⟨pr,_,_,_,rfl,rfl,.of (S11 _ _ hq),Jf (j:=0) rfl,?_⟩;refine JbN ((s10.trans s11) _ _ g9) (S11 _ _ hla) (J5j e4 a2.vw.i0 _).ok hka.ok ⟨_,rfl,?_⟩;rw [zt zw];unfold isB at hI;by_cases c0':(pj is0 rs').take ka.length=ka
    ·rw [zu (zx c0')]
     refine ⟨pr,_,_,_,rfl,rfl,.of (S11 _ _ hq),Jf (j:=1) rfl,?_⟩;refine JbN g11 (S11 _ _ hlb) (J5j e4 a2.vw.i1 _).ok hkb.ok ⟨_,rfl,?_⟩;rw [zt zw];rw [zx c0',Bool.true_and] at hI;by_cases c1':(pj is1 rs').take kb.length=kb
     ·rw [zu (zx c1')]
      rw [zx c1'] at hI;subst hI;refine ⟨.inl ⟨rfl,_,.of gp11⟩,p,_,_,rfl,rfl,gp11,zE (show _<60 by omega) (Jb (by decide)),⟨_,rfl⟩,S11.set hp0 _,?_,?_,?_⟩
      ·rw [Jh n8p]
       exact W _ _ g8'
      ·rw [Jh (Ne.symm npD)]
       exact W _ _ gn7
      ·rw [Jd,zu rfl,zY,zY]
       rfl
     ·rw [zt (by simpa using c1')]
      exact no (hI.symm.trans (zy c1'))
    ·rw [zt (by simpa using c0')]
     exact no (hI.symm.trans (by rw [zy c0',Bool.false_and]))
   ·rintro σ H7 ⟨⟨v7,v8,v9,v10,rfl⟩,s7,g8',gn7,gp7⟩
    rw [zL,show ms.length=nrs.length by omega,zX,<- J7f] at gp7;show TC _ _ _;have gn7:=gn7;subst hC;generalize hE1:J1n (J47 _) _=TE1;walk_at "dt";have ix0:∀ (G:Hp) (R:VK),Same H G->R (.ref la) G->J1K K (.ref pr) (.int 0) G R:=fun G R s r=>⟨pr,_,_,_,rfl,rfl,.of (s _ _ hq),Jf (j:=0) rfl,r⟩;have ix1:∀ (G:Hp) (R:VK),Same H G->R (.ref lb) G->J1K K (.ref pr) (.int 1) G R:=fun G R s r=>⟨pr,_,_,_,rfl,rfl,.of (s _ _ hq),Jf (j:=1) rfl,r⟩;have ix2:∀ (G:Hp) (R:VK),Same H G->R (.ref fg) G->J1K K (.ref v) (.int 2) G R:=fun G R s r=>⟨v,_,_,_,rfl,rfl,.of (s _ _ a2.vw.v),Jf (j:=2) rfl,r⟩;refine ⟨_,_,s7 _ _ a1,rfl,ix0 _ _ s7 (ix1 _ _ s7 ⟨t,v,la,lb,ka,kb,gs,ns,kds,is0,is1,kss0,kss1,_,rfl,hT.mono s7,s7 _ _ hla,s7 _ _ hlb,hka,hkb,fun H8 q8 hq8 s8 gq8=>?_⟩)⟩;refine ⟨_,.of_lst gq8,by decide,?_⟩;rw [zt (by decide)];refine J3U gq8 (s8 _ _ gp7) ⟨_,rfl,?_⟩;rw [zt (by decide)];subst hE1;generalize hE2:J1n (J6e _ _ _) _=TE2;walk_at "dt";have bl:(J3o is0 is1 nrs [ka,kb]).length<=40:=by rw [J7f];exact zG (length_filter_le _ _) (by omega)
    refine ⟨.inl ⟨rfl,_,.of gq8⟩,q8,_,_,rfl,rfl,gq8,zE (show _<60 by rw [zL,zL];omega) (Jb (by decide)),?_⟩;have W9:=s8.set hq8 (HO.lst (List.map V.int (List.map Prod.fst (J3o is0 is1 nrs [ka,kb]))++[V.int (-1)]));generalize upd H8 q8 _=H9 at *;have S9:=s7.trans W9;refine ⟨_,_,S9 _ _ a1,rfl,ix0 _ _ S9 (ix1 _ _ S9 ⟨t,v,la,lb,ka,kb,gs,ns,kds,is0,is1,kss0,kss1,_,rfl,hT.mono S9,S9 _ _ hla,S9 _ _ hlb,hka,hkb,fun H10 q10 hq10 s10 gq10 hfr=>?_⟩)⟩;have S10:=S9.trans s10;have gl:gs.length=fvs.length:=(Paired.length a2.fs).symm;subst hE2;generalize hE:J1n (J7q _ _ _) _=TE;walk_at "dt";refine ⟨_,.of_lst gq10,by decide,?_⟩;rw [zt (by decide)];refine ⟨_,.inl (.of gq10),ix2 _ _ S10 ⟨fg,rfl,_,.inr (.of (S10 _ _ a2.fg)),?_⟩⟩;rw [zL,gl,zt (by simp)];refine ⟨_,_,S10 _ _ a1,rfl,ix0 _ _ S10 (ix1 _ _ S10 ⟨t,v,la,lb,ka,kb,gs,ns,kds,is0,is1,kss0,kss1,_,rfl,hT.mono S10,S10 _ _ hla,S10 _ _ hlb,hka,hkb,fun H11 q11 hq11 s11 gq11=>?_⟩)⟩;have W11:=W9.trans (s10.trans s11);have S11:=S10.trans s11;refine J3U gq11 (W11 _ _ gp7) ⟨_,rfl,?_⟩;rw [zt (by decide)];have gp11:=W11 _ _ gp7;have hbx:∀ nr∈J3o is0 is1 nrs [ka,kb],∃ r,JG kvs (.inl nr.1)=some (.ref r)/\H r=some (.tup nr.2)/\RowS kds nr.2:=fun nr hnr=>by
     rw [J7f] at hnr;obtain ⟨i,hi⟩:=qa.mp (mem_filter.mp hnr).1;have hil:i<kvs.length:=by rw [hln];exact (zK.mp hi).1
     obtain ⟨nr',e1,e2,r,e3,e4,e5⟩:=Paired.ix hN (zJ hil);obtain rfl:=zA (e1.symm.trans hi);exact ⟨r,J4u hK.nd (by rw [zJ hil,<- e2,<- e3]),e4,e5⟩
    generalize J3o is0 is1 nrs [ka,kb]=bs at *;refine ⟨⟨_,.of gp11⟩,?_⟩;refine JV (JB (xs:=(bs.map Prod.fst).map V.int)) (Jb (by rw [zL,zL];omega)) (fun i ys H'=>Same H11 H'/\RowsI H' kds ys ((bs.take i).map Prod.snd)) ⟨Same.refl _,rfl,fun i x r z=>by simp at z⟩ (fun _ _ H' _ z=>z.1.seq (.of gp11)) (fun i ys H' z=>by rw [z.2.1,zL,zR];exact Nat.min_le_left _ _) (fun i x ys H12 hx z=>?_) (fun ys H12 z D1 hD1=>?_)
    ·obtain ⟨t1,hys⟩:=z
     rw [zW,zW,Option.map_map] at hx;obtain ⟨nr,hn,rfl⟩:=Option.map_eq_some_iff.mp hx;obtain ⟨r,e1,e2,e3⟩:=hbx nr (zP hn);walk_at "dt";have S12:=S11.trans t1;refine ⟨.ref r,?_,⟨_,rfl⟩,t1,?_⟩
     ·have:=DGet.k (k:=.inl nr.1) (S12 _ _ hdl)
      rwa [e1] at this
     ·rw [Jw hn,zY]
      exact J4X hys (S12 _ _ e2) e3.ok
    ·obtain ⟨t1,hys⟩:=z
     rw [zL,zL,zX] at hys;have hys:=hys
     walk_at "nw D1 hD1 H13 u13 gD1"
     have hys:=hys.mono u13;have x13:=t1.trans u13;have S13:=S11.trans x13;have gn13:=(W11.trans x13) _ _ gn7;have gq13:=(s11.trans x13) _ _ gq10;have w9:=(s10.trans s11).trans x13;subst hE;generalize hG:J1n (J47 _) _=TG;walk_at "dt";refine J06 ?_;walk_at "dt";have gl4:=a2.fl;refine ⟨_,.inl (.of gq13),by omega,by rw [zL];omega,?_⟩;refine ForW.of J08 (fun i σ H'=>(∃ v13,σ=[some (V.ref t),some (V.ref dW),some (V.ref v),some (V.ref pr),some (V.ref dl),some (V.ref D),some (V.ref p),v7,v8,v9,v10,some (V.ref q10),some (V.ref D1),v13])/\Same H13 H') ⟨⟨none,rfl⟩,Same.refl _⟩ (fun _ _ _ _ _=>trivial) ?_ ?_
     ·rintro i x σ H14 hx ⟨⟨v13,rfl⟩,s14⟩
      obtain ⟨hi,rfl⟩:=J0n hx;rw [zL] at hi;have hi:i<gs.length:=by omega
      have S14:=S13.trans s14;obtain ⟨g,hg,hA⟩:=Paired.ix (FgsAt.tup (fun _ _ z=>S14 _ _ z) a2.fs) (zJ (show i<fvs.length by omega));have e0:(0:Int)+(i:Int)=(i:Int):=by omega
      have hfg:=hfr g (zP hg);simp only [JL];walk_at "dt";rw [e0];refine ⟨q10,_,_,_,rfl,rfl,.of (s14 _ _ gq13),Jf (j:=i) (by rw [zW,hg];rfl),ix2 _ _ S14 ⟨fg,_,_,_,rfl,rfl,.of (S14 _ _ a2.fg),Jf (zJ (show i<fvs.length by omega)),D,D1,_,ys,ns,kds,bs.map Prod.snd,_,rfl,s14 _ _ gn13,hF.2.2.1,hkk,s14 _ _ gD1,hys.mono s14,by rw [zL];omega,hA.ask _,fun H15 v15 s15 hv=>?_⟩⟩;obtain ⟨e1,e2⟩:=hA.one (J4Y hys) hv;subst e1;refine ⟨_,rfl,JeT hA (J4Y hys) hv,_,rfl,?_⟩;rw [zt (by decide)];exact ⟨⟨_,rfl⟩,s14.trans s15⟩
     ·rintro σ H14 ⟨⟨v13,rfl⟩,s14⟩
      show TG _ _ _;subst hG;walk_at "dt";refine ⟨.inl ⟨rfl,_,.of (s14 _ _ gq13)⟩,q10,_,rfl,rfl,s14 _ _ gq13,?_⟩;have S15:=S9.trans ((w9.trans s14).set hq10 (HO.lst []));generalize upd H14 q10 _=H15 at *;refine ⟨_,_,S15 _ _ a1,rfl,ix0 _ _ S15 (ix1 _ _ S15 ⟨t,v,la,lb,ka,kb,gs,ns,kds,is0,is1,kss0,kss1,_,rfl,hT.mono S15,S15 _ _ hla,S15 _ _ hlb,hka,hkb,fun H16 q16 _ s16 gq16 _=>?_⟩)⟩;have S16:=S15.trans s16;refine ⟨q16,rfl,_,.inl (.of gq16),ix2 _ _ S16 ⟨fg,rfl,_,.inr (.of (S16 _ _ a2.fg)),?_⟩⟩;rw [zL,gl,zx rfl];exact k _ S16
theorem JbI {o:Obj}(hd:G d=some (.dK kvs))(s:Same (upd G d (.frz o (.dK kvs))) H'):Same G (upd H' d (.dK kvs)):=fun b u e=>by
 by_cases c:b=d
 ·subst c
  rw [Jd,<- hd];exact e
 ·rw [Jh c]
  exact s b u (by rw [Jh c];exact e)
theorem RwN.tup {H H':Hp}{kds:List Str}{kvs:List (Key×V)}{nrs:List NR}(t:TSame H H')(h:RwN H kds kvs nrs):RwN H' kds kvs nrs:=Paired.mapP h fun _ _ ⟨a,r,b,c,d⟩=>⟨a,r,b,t _ _ c,d⟩
theorem RwN.rwk (h:RwN H kds kvs nrs)(up:(nrs.map Prod.fst).Pairwise (·<·)):RwK H kds kvs (nrs.map Prod.fst):=by
 refine ⟨?_,up,?_⟩
 ·clear up
  induction h with
  | nil=>rfl
  | cons a _ ih=>rw [zV,zV,zV,ih,a.1]
 ·intro kv hkv
  obtain ⟨i,hi⟩:=qa.mp hkv;obtain ⟨nr,_,_,r,e1,e2,e3⟩:=Paired.ix h hi;exact ⟨r,nr.2,e1,e2,e3⟩
theorem Jd6 {n:Int}{ms:List Int}(h:n∈ms):inV (.int n) (ms.map V.int)=true:=by
 unfold inV;rw [any_eq_true];exact ⟨.int n,mem_map_of_mem h,by simp [eqV]⟩
theorem Jan (ms:List Int):(ms.map V.int).all J35=true:=by
 rw [all_map,all_eq_true];intro _ _;rfl
theorem J83 {is:List Nat}:isB is rs ((pj is rs).take m)=true:=by
 unfold isB;rw [zx];rw [zR,take_eq_take_iff];omega
def J6j (K:PySem.W.Frag):Sp:=fun vs H Q _=>∃ (a:Addr) (ns:List Int),vs=[.ref a]/\SqL K H a (ns.map V.int)/\ns.length<=63/\∀ H',Q (.bl true) H'
theorem ok_law (T:Txt K mg f fd):FnOk P w K mg base CX0 10 (f 76) (fd 76) ["_law_script"] (J6j K):=by
 walk_at "ok yE J0s"
 ·obtain ⟨a,ns,rfl,_⟩:=h
  rfl
 ·obtain ⟨a,is,rfl,hs,hlen,k⟩:=h
  refine ⟨_,(J9 (psl 1 J0s.nd (Jg T.yt (ok_l_world T) (hr.mono (by decide)) rfl (by decide) rfl (pal rfl (pvl 0) J1)))
   (J9 (J1D ["_law_field"] ["_law_script","_law_world_here","_law_names","_law_seed","_law_view_here","_law_sieve_here","_law_turn","_law_sheet_here","_law_rows","_law_table","_law_laid","_law_number","_law_one","_law_other","_law_at","_law_pair"] rfl (show CompSc _ (Je s_law) ["_law_script","_law_world_here","_law_names","_law_seed","_law_view_here","_law_sieve_here","_law_turn","_law_sheet_here","_law_rows","_law_table","_law_laid","_law_number","_law_one","_law_other","_law_at","_law_pair"] ["_law_script","_law_world_here","_law_names","_law_seed","_law_view_here","_law_sieve_here","_law_turn","_law_sheet_here","_law_rows","_law_table","_law_laid","_law_number","_law_one","_law_other","_law_at","_law_pair"] from Ju (by decide +kernel)) J0s.nd (i:=2) rfl rfl (J0Q rfl (JX (J0b hr) (pvl 1) Jp (fun _ _=>rfl))) (fun _ _ _ _ _=>(pgl 0 (show (["_law_field","_law_script","_law_world_here","_law_names","_law_seed","_law_view_here","_law_sieve_here","_law_turn","_law_sheet_here","_law_rows","_law_table","_law_laid","_law_number","_law_one","_law_other","_law_at","_law_pair"]:List Str).Nodup by decide +kernel))) (fun _ _ _ _ _=>JH) (fun _ _ _ _ _=>(Jj (Jo rfl) (pvl 0) Ja (fun _ _=>rfl))))
   (J9 (psl 3 J0s.nd (Jg T.we (JS T) (hr.mono (by decide)) rfl (by decide) rfl (pal rfl (Jg T.wn (J0X T) (hr.mono (by decide)) rfl (by decide) rfl (pal rfl (pvl 0) (pal rfl Ja J1))) (pal rfl Ja J1))))
   (J9 (psl 4 J0s.nd (Jg T.yx (ok_l_view T) (hr.mono (by decide)) rfl (by decide) rfl (pal rfl (Jg T.we (JS T) (hr.mono (by decide)) rfl (by decide) rfl (pal rfl (pvl 3) (pal rfl Ja J1))) (pal rfl (pvl 1) J1))))
   (J9 (psl 5 J0s.nd (Jg T.wA (J57 T 4) (hr.mono (by decide)) rfl (by decide) rfl (pal rfl (Jg T.we (JS T) (hr.mono (by decide)) rfl (by decide) rfl (pal rfl (pvl 3) (pal rfl Ja J1))) (pal rfl (pvl 1) (pal rfl Ja J1)))))
   (J9 (Jt (Jk JA (Jn Jx (pvl 3) Ja) Ja (Jm _))
   (Jc (psl 5 J0s.nd (Jy (pal rfl Jp (pal rfl (Jy (pal rfl (pvl 5) (pal rfl (Jy (pal rfl Jp (pal rfl (Jy J1) J1))) J1))) J1)))))
   Jl)
   (J9 (psl 6 J0s.nd (Jg T.we (JS T) (hr.mono (by decide)) rfl (by decide) rfl (pal rfl (Jg T.wn (J0X T) (hr.mono (by decide)) rfl (by decide) rfl (pal rfl (pvl 0) (pal rfl Ja J1))) (pal rfl Ja J1))))
   (J9 (J8L (Jg T.yy (ok_l_sheet T) (hr.mono (by decide)) rfl (by decide) rfl (pal rfl (pvl 0) (pal rfl (pvl 1) (pal rfl (Jn Jx (pvl 6) (Jj (J0I rfl) (J0B (pal rfl Ja (pal rfl Ja (pal rfl Ja (pal rfl Ja J1))))) (Jn Jx (Jn JQ (pvl 6) Ja) Ja) (fun _ _=>rfl))) J1)))) (J4d rfl rfl (J02 (pgl 7 J0s.nd) (J02 (pgl 8 J0s.nd) J1E))))
   (J9 (psl 9 J0s.nd (Jg T.yq (ok_lay T) (hr.mono (by decide)) rfl (by decide) rfl (pal rfl (pvl 7) (pal rfl (pvl 4) (pal rfl (pvl 5) J1)))))
   (J9 (psl 10 J0s.nd J3D)
   (J9 (J9x PassesOwn.never rfl (pvl 8) (pgl 11 J0s.nd)
   (Jc (Jt (J04 (Jg T.wu (J5R T 5) (hr.mono (by decide)) rfl (by decide) rfl (pal rfl (pvl 5) (pal rfl (pvl 2) (pal rfl (JX (J0b hr) (pvl 8) (pvl 11) (fun _ _=>rfl)) J1)))))
   (Jc (J2h (J0b hr) (pvl 10) (pvl 11) (JX (J0b hr) (pvl 8) (pvl 11) (fun _ _=>rfl)) rfl))
   Jl)))
   (J9 (J9x PassesOwn.never rfl (pvl 10) (pgl 11 J0s.nd)
   (J9 (psl 12 J0s.nd (Jg T.wo (J16 T) (hr.mono (by decide)) rfl (by decide) rfl (pal rfl (Jj (Jo rfl) (pvl 4) Ja (fun _ _=>rfl)) (pal rfl (pvl 2) (pal rfl (JX (J0b hr) (pvl 10) (pvl 11) (fun _ _=>rfl)) J1)))))
   (J9 (psl 13 J0s.nd (Jg T.wo (J16 T) (hr.mono (by decide)) rfl (by decide) rfl (pal rfl (Jj (Jo rfl) (pvl 4) Ja (fun _ _=>rfl)) (pal rfl (pvl 2) (pal rfl (JX (J0b hr) (pvl 10) (pvl 11) (fun _ _=>rfl)) J1)))))
   (J9 (psl 14 J0s.nd (Jn Jx (Jn JQ (pvl 3) Ja) (Jn J05 (Js (JZ rfl) T.wa Jv rfl (by decide) (by decide) rfl (pal rfl (pvl 12) J1)) Ja)))
   (Jc (Jt (Jk (J71 rfl) (pvl 11) (J0F (pvl 9) T.wd.cls T.wU (J1e T) (hr.mono (by decide)) T.wC.b .nil J0W (pal rfl (J0f (J45 rfl) (pvl 12) J0E (J0o (pvl 14))) (pal rfl (pvl 13) J1)) rfl rfl rfl) rfl)
   (Jc (Ji J0q))
   Jl))))))
   (J9 (J09 PassesOwn.never rfl (J0Q rfl (Jg T.yD (ok_l_pairs T) (hr.mono (by decide)) rfl (by decide) rfl (pal rfl (pvl 0) (pal rfl (pvl 10) (pal rfl (pvl 2) (pal rfl (pvl 4) (pal rfl (JX (J0b hr) (pvl 1) Jp (fun _ _=>rfl)) J1))))))) (pgl 15 J0s.nd)
   (Jc (Jt (J0i (J04 (Jg T.yC (ok_l_box_right T) (hr.mono (by decide)) rfl (by decide) rfl (pal rfl (pvl 9) (pal rfl (pvl 1) (pal rfl (pvl 4) (pal rfl (pvl 15) (pal rfl (pvl 10) J1))))))))
   (Jc (Ji J0q))
   Jl)))
   (Jc (Ji (JI (J5h rfl hr.units) (J52 (pvl 7) T.wb.cls T.yL (J1Z T) (hr.mono (by decide)) T.wQ.b .nil J0W rfl) (Js (J10 rfl) T.wq J22 rfl (by decide) (by decide) rfl (pal rfl (pvl 8) J1)) (Jm _))))))))))))))))),?_⟩
  generalize hB:J1n (J3t _ (JL 6)) _=TB;walk_at "dt";refine ⟨a,is,rfl,hs,fun H1 dW ns kds s1 hW=>?_⟩;obtain ⟨l,xs,hl,hF,hkk,h1,h8,hnm,hget⟩:=hW.out;refine ⟨dW,rfl,_,hget H1 (Same.refl _),l,rfl,⟨_,.of hl⟩,?_⟩;refine JV (JB (xs:=xs)) (Jb (by omega)) (fun i ys H'=>Same H1 H'/\ys=(ns.take i).map V.str) ⟨Same.refl _,rfl⟩ (fun _ _ H' _ z=>z.1.seq (.of hl)) (fun i ys H' z=>by rw [z.2,zL,zR];omega) (fun i x ys H3 hx z=>?_) (fun ys H3 z D hD=>?_)
  ·obtain ⟨t1,rfl⟩:=z
   obtain ⟨p,n,kd,e1,e2,e3,e4⟩:=hF.at (zK.mp hx).1;obtain rfl:x=.ref p:=zA (hx.symm.trans e1);walk_at "dt";refine ⟨p,_,_,_,rfl,rfl,.of (t1 _ _ e4),Jf (j:=0) rfl,⟨_,rfl⟩,t1,?_⟩;rw [Jw e2,zY];rfl
  ·obtain ⟨t1,rfl⟩:=z
   rw [<- hF.1,zX]
   walk_at "nw D hD H4 u4 gn"
   have S4:=t1.trans u4;refine ⟨a,is,1,rfl,(s1.trans S4).seq hs,by decide,fun v0=>⟨_,_,rfl,?_⟩⟩;generalize J5c v0 2=seed;refine ⟨_,_,rfl,_,dW,ns,kds,rfl,hW.mono S4,fun H5 v n0 n1 fg fvs gs is0 is1 s5 hV gfg hgs g1 g4 nd=>?_⟩;have S5:=S4.trans s5;refine ⟨_,_,rfl,_,dW,ns,kds,2,rfl,by decide,hW.mono S5,fun H6 sv F s6 hSv=>?_⟩;have tail:∀ (H':Hp) (sv:V) (F:List V->Bool),Same H6 H'->Sv ns kds 4 H' sv F->TB { nx:=fun x H'=>Q V.non H',rt:=Q } [some (V.ref a),some (V.ref dW),some (V.ref D),some (V.int seed),some (V.ref v),some sv,none,none,none,none,none,none,none,none,none,none] H':=by
    clear hSv sv F;intro H7 sv F s7 hSv;subst hB;have x5:=s6.trans s7;have S7:=S5.trans x5;generalize hC:J1n (J7p _ _ _ _) _=TC;walk_at "dt";refine ⟨a,is,2,rfl,(s1.trans S7).seq hs,by decide,fun v1=>⟨_,_,rfl,?_⟩⟩;generalize J5c v1 3=sd;refine ⟨Jb (by decide),fun p hp=>?_⟩
    walk_at "nw p hp H8 u8 g8"
    refine ⟨sd,rfl,⟨by decide,by decide⟩,by decide,J1g (.of g8) (zD _ (by decide)) (zC _ (by decide)) fun y hy=>⟨sd,rfl,?_⟩⟩;obtain ⟨mm,rfl,hm0,hm1⟩:∃ mm:Int,y=.int mm/\0<mm/\mm<=41:=(forall_mem_cons.2 ⟨⟨13,rfl,by decide,by decide⟩,forall_mem_cons.2 ⟨⟨13,rfl,by decide,by decide⟩,forall_mem_cons.2 ⟨⟨13,rfl,by decide,by decide⟩,forall_mem_cons.2 ⟨⟨41,rfl,by decide,by decide⟩,fun _ z=>nomatch z⟩⟩⟩⟩:∀ y∈[V.int 13,V.int 13,V.int 13,V.int 41],∃ mm:Int,y=.int mm/\0<mm/\mm<=41) y (zP hy);have e1:=zC sd hm0;have e0:=zD sd (show mm≠0 by omega);have S8:=S7.trans u8;refine ⟨mm,rfl,hm0,a,dW,is,ns,kds,_,rfl,(s1.trans S8).seq hs,hW.mono S8,e0,by omega,fun H9 pt o lf d dt g xs' kvs ks s9 gpt hS gdt hF' hK hle=>?_⟩;obtain ⟨nrs,hN,hks⟩:=RwK.rows hK.k hK.r;have x9:=(x5.trans u8).trans s9;have S9:=S8.trans s9;have hV9:=hV.mono x9;refine ⟨pt,_,rfl,.of gpt,rfl,?_⟩;simp only [J21,J4s,JL];walk_at "dt";refine ⟨o,v,lf,d,n0,n1,fg,sv,g,xs',fvs,kvs,ks,gs,ns,kds,is0,is1,nrs,F,rfl,hS,⟨⟨hS.l,hF',hkk,hV9,x9 _ _ gfg,hgs.tup (fun _ _ z=>x9 _ _ z),by omega⟩,nd,hnm,g1,g4⟩,hSv.mono (Same.t (u8.trans s9)),hK,hN,hle,fun H10 t kss0 kss1 s10 hT=>?_⟩;have hSv10:=hSv.mono (Same.t ((u8.trans s9).trans s10));have x10:=x9.trans s10;have S10:=S9.trans s10;have hV10:=hV9.mono s10;have gn10:=(s5.trans x10) _ _ gn;have gdt10:=s10 _ _ gdt;have hS10:=hS.mono s10;have hK10:=hK.mono s10;have hN10:=RwN.mono s10 hN;clear gpt gdt hS hK hN hV9 x9 S9 S8 s9 u8 g8 hSv s10 hy;have hlk2:ns.length=kds.length:=by have:=hF.1;have:=hF.2.1;omega
    show ∀ p,_->_;intro pl hpl;have npl:pl≠dt:=fun z=>by rw [z,gdt10] at hpl;cases hpl
    have hpl0:=hpl
    walk_at "nw pl hpl H11 u11 gpl"
    subst hC;generalize hE:J1n (J7p _ (J4i 10) _ _) _=TE;walk_at "dt";unfold J7p;refine J06 ?_;unfold J9G;walk_at "dt";refine ⟨kvs,u11 _ _ gdt10,ks,hK10.k,fun ob=>?_⟩;have gB:upd H10 dt (.frz ob (.dK kvs)) dt=some (.frz ob (.dK kvs)):=Jd;have SG:Same (upd H10 dt (.frz ob (.dK kvs))) (upd H11 dt (.frz ob (.dK kvs))):=fun b u e=>by
     by_cases c:b=dt
     ·subst c
      rw [Jd] at e ⊢;exact e
     ·rw [Jh c] at e ⊢
      exact u11 _ _ e
    have plB:upd H10 dt (.frz ob (.dK kvs)) pl=none:=by rw [Jh npl];exact hpl0
    have tB:TSame H10 (upd H10 dt (.frz ob (.dK kvs))):=fun c ys z=>J0S gdt10 (fun _ z=>nomatch z) z;have nB:upd H10 dt (.frz ob (.dK kvs)) D=some (.lst (ns.map V.str)):=by rw [Jh (fun z=>by rw [z,gdt10] at gn10;cases gn10)];exact gn10
    have fin:∀ H',Same (upd H10 dt (.frz ob (.dK kvs))) H'->Same H10 (upd H' dt (.dK kvs)):=fun H' s=>JbI gdt10 s;have gp0:upd H11 dt (.frz ob (.dK kvs)) pl=some (.dK []):=by rw [Jh npl];exact gpl
    generalize upd H10 dt (.frz ob (.dK kvs))=B at *;generalize upd H11 dt (.frz ob (.dK kvs))=H12 at *;have hup:(nrs.map Prod.fst).Pairwise (·<·):=by rw [hks];exact hK10.up
    have hln:=Paired.length hN10;have hlk:=hK10.len;refine J5L (fun j σ H'=>(∃ v11,σ=[some (V.ref a),some (V.ref dW),some (V.ref D),some (V.int seed),some (V.ref v),some sv,some (V.int sd),some (V.ref o),some (V.ref dt),some (V.ref t),some (V.ref pl),v11,none,none,none,none])/\Same B H'/\∃ lk,H' pl=some (.dK lk)/\RwN B kds lk ((nrs.take j).filter fun nr=>F nr.2)) ⟨⟨none,rfl⟩,SG,[],gp0,.nil⟩ (fun i σ H' z=>z.2.1 _ _ gB) ?_ ?_
    ·rintro j n σ H13 hn ⟨⟨v11,rfl⟩,s13,lk,g13,hl13⟩
     obtain ⟨r,rs',e1,e2,e3,e4⟩:=hK10.at hn;obtain ⟨⟨n',rs⟩,hrs,en,r',e5,e6,e7⟩:=Paired.ix hN10 e1;obtain rfl:n=n':=by injection en
     obtain rfl:r'=r:=by injection e5 with e5;exact e5.symm
     obtain rfl:rs'=rs:=by have:=e3.symm.trans e6;injection this with this;injection this
     have dg:∀ H',Same B H'->DGet H' dt (V.int n) (some (.ref r')):=fun H' s=>by rw [<- e2];exact .inl ⟨kvs,.inl n,.inr ⟨ob,s _ _ gB⟩,rfl,rfl⟩
     rw [Jw hrs,filter_append,filter_cons,filter_nil];simp only [JL];walk_at "dt";refine ⟨_,dg _ s13,sv,D,r',ns,kds,rs',F,rfl,⟨s13 _ _ nB,hF.2.2.1,hlk2,s13 _ _ (tB _ _ e3),e4.ok⟩,hSv10.mono (fun c ys z=>s13 _ _ (tB _ _ z)),fun H14 s14=>⟨F rs',rfl,?_⟩⟩;have S14:=s13.trans s14;cases hFr:F rs' with
     | true =>
       rw [zu rfl,zu rfl];refine ⟨_,dg _ S14,?_⟩;have llk:lk.length<60:=by
        rw [Paired.length hl13];refine Nat.lt_of_le_of_lt (length_filter_le _ _) ?_;rw [zR];omega
       have sub:(((nrs.take j).filter fun nr=>F nr.2).map Prod.fst).Sublist ((nrs.map Prod.fst).take j):=by
        rw [<- map_take];exact filter_sublist.map _
       have hno:n∉((nrs.take j).filter fun nr=>F nr.2).map Prod.fst:=fun hm=>by
        obtain ⟨i,hi⟩:=qa.mp (sub.subset hm);obtain ⟨hil,hie⟩:=zK.mp hi;rw [zR,zL] at hil;rw [getElem_take] at hie;obtain ⟨hjl,hje⟩:=zK.mp hrs;have:=pairwise_iff_getElem.mp hup i j (by rw [zL];omega) (by rw [zL];omega) (by omega);rw [hie,getElem_map,hje] at this;exact Int.lt_irrefl _ this
       have hv:=(hl13.rwk ((hup.sublist (take_sublist j _)).sublist sub)).no hno;refine ⟨_,DPut.k (k:=.inl n) (s14 _ _ g13) (zE llk (Jb (by decide))),⟨_,rfl⟩,S14.set plB _,_,Jd,?_⟩;rw [putK_new hv];exact Paired.snoc hl13 ⟨rfl,r',rfl,tB _ _ e3,e4⟩
     | false =>
       rw [zt zw,zt zw,append_nil];exact ⟨⟨_,rfl⟩,S14,lk,s14 _ _ g13,hl13⟩
    ·rintro σ H13 ⟨⟨v11,rfl⟩,s13,lk,g13,hl13⟩
     rw [show ks.length=nrs.length by omega,zX] at hl13;refine ⟨dt,ob,kvs,?_,s13 _ _ gB,?_⟩
     ·intro o' u' e'
      have:=(s1.trans S10) _ _ e';rw [gdt10] at this;cases this
     have S13:=fin H13 s13;have gp14:upd H13 dt (.dK kvs) pl=some (.dK lk):=by rw [Jh npl];exact g13
     have hl14:RwN (upd H13 dt (.dK kvs)) kds lk (nrs.filter fun nr=>F nr.2):=hl13.tup fun c ys z=>J0S (s13 _ _ gB) (fun _ z=>nomatch z) (s13 _ _ z);generalize upd H13 dt (.dK kvs)=H14 at *;have hupf:((nrs.filter fun nr=>F nr.2).map Prod.fst).Pairwise (·<·):=hup.sublist (filter_sublist.map _);have hlf:(nrs.filter fun nr=>F nr.2).length<=40:=zG (length_filter_le _ _) (by omega);generalize (nrs.filter fun nr=>F nr.2)=nf at *;show TE _ _ _;clear SG plB tB nB fin gp0 s13 g13 hl13 gB u11 gpl;subst hE;generalize hG:J1n (J7q _ _ _) _=TG;walk_at "dt";unfold J7p;refine J06 ?_;unfold J9G;walk_at "dt";have hKf:=hl14.rwk hupf;refine ⟨lk,gp14,_,hKf.k,fun ob2=>?_⟩;have g2:upd H14 pl (.frz ob2 (.dK lk)) pl=some (.frz ob2 (.dK lk)):=Jd;have S2:=S13.set hpl0 (.frz ob2 (.dK lk));have hl2:RwN (upd H14 pl (.frz ob2 (.dK lk))) kds lk nf:=hl14.tup fun c ys z=>J0S gp14 (fun _ z=>nomatch z) z;generalize upd H14 pl (.frz ob2 (.dK lk))=G2 at *;refine J5L (fun j σ H'=>(∃ v11 v12 v13 v14,σ=[some (V.ref a),some (V.ref dW),some (V.ref D),some (V.int seed),some (V.ref v),some sv,some (V.int sd),some (V.ref o),some (V.ref dt),some (V.ref t),some (V.ref pl),v11,v12,v13,v14,none])/\Same G2 H') ⟨⟨_,_,_,_,rfl⟩,Same.refl _⟩ (fun i σ H' z=>z.2 _ _ g2) ?_ ?_
     ·rintro j n σ H15 hn ⟨⟨v11',v12,v13,v14,rfl⟩,s15⟩
      obtain ⟨r,rs',e1,e2,e3,e4⟩:=(hl2.rwk hupf).at hn;obtain ⟨⟨n',rs⟩,hrs,en,r',e5,e6,e7⟩:=Paired.ix hl2 e1;obtain rfl:n=n':=by injection en
      obtain rfl:r'=r:=by injection e5 with e5;exact e5.symm
      obtain rfl:rs'=rs:=by have:=e3.symm.trans e6;injection this with this;injection this
      have dg:∀ H',Same G2 H'->DGet H' pl (V.int n) (some (.ref r')):=fun H' s=>by rw [<- e2];exact .inl ⟨lk,.inl n,.inr ⟨ob2,s _ _ g2⟩,rfl,rfl⟩
      have S15:=S2.trans s15;have f0:=hV10.few0;have f1:=hV10.few1;obtain ⟨dx',lf',pd',bx',n0',n1',fg',h0',h1',xs2,fvs2,hk',kv2,a1,_⟩:=id hT;simp only [JL];walk_at "dt";refine ⟨v,_,_,_,rfl,rfl,.of (S15 _ _ hV10.v),Jf (j:=0) rfl,_,dg _ s15,n0,D,r',ns,kds,is0,rs',rfl,S15 _ _ hV10.n0,⟨S15 _ _ gn10,hF.2.2.1,hlk2,s15 _ _ e3,e4.ok⟩,hV10.i0,by omega,fun H17 pa s17 ga=>?_⟩;have t17:=s15.trans s17;have S17:=S15.trans s17;refine ⟨v,_,_,_,rfl,rfl,.of (S17 _ _ hV10.v),Jf (j:=1) rfl,_,dg _ t17,n1,D,r',ns,kds,is1,rs',rfl,S17 _ _ hV10.n1,⟨S17 _ _ gn10,hF.2.2.1,hlk2,t17 _ _ e3,e4.ok⟩,hV10.i1,by omega,fun H18 pb s18 gb=>?_⟩;have S18:=S17.trans s18;refine ⟨⟨by decide,by decide⟩,pa,rfl,_,.inr (.of (s18 _ _ ga)),by omega,_,_,S18 _ _ a1,rfl,?_⟩;obtain ⟨m,hm⟩:∃ m:Nat,seed / 2 % ((((pj is0 rs').map nV).length:Int)+1)=m:=⟨_,(Int.toNat_of_nonneg (zD _ (by omega))).symm⟩;rw [hm];refine J5P (s18 _ _ ga) fun c H19 s19 g19=>?_;rw [<- map_take] at g19;have S19:=S18.trans s19;have hd1:HdV kds is1 (pj is1 rs'):=by
       have:=J5j e4 hV10.i1 (pj is1 rs').length;rwa [zX] at this
      have ib1:isB is1 rs' (pj is1 rs')=true:=by
       have:=J83 (is:=is1) (rs:=rs') (m:=(pj is1 rs').length);rwa [zX] at this
      refine ⟨t,v,c,pb,_,_,gs,ns,kds,is0,is1,kss0,kss1,_,rfl,hT.mono S19,g19,s19 _ _ gb,J5j e4 hV10.i0 m,hd1,fun H20 q20 _ s20 g20=>?_⟩;refine ⟨q20,_,rfl,.inl (.of g20),rfl,Jan _,_,rfl,?_⟩;have hin:n∈(J3o is0 is1 nf [(pj is0 rs').take m,pj is1 rs']).map Prod.fst:=by
       rw [J7f];exact qb.mpr ⟨(n,rs'),mem_filter.mpr ⟨zP hrs,by rw [J83,ib1];rfl⟩,rfl⟩
      rw [Jd6 hin,zt (by decide)];exact ⟨⟨_,rfl⟩,(t17.trans s18).trans (s19.trans s20)⟩
     ·rintro σ H15 ⟨⟨v11',v12,v13,v14,rfl⟩,s15⟩
      refine ⟨pl,ob2,lk,?_,s15 _ _ g2,?_⟩
      ·intro o' u' e'
       have:=(s1.trans S10) _ _ e';rw [hpl0] at this;cases this
      have S16:=(S2.trans s15).set hpl0 (.dK lk);have g16:upd H15 pl (.dK lk) pl=some (.dK lk):=Jd;have hl16:RwN (upd H15 pl (.dK lk)) kds lk nf:=hl2.tup fun c ys z=>J0S (s15 _ _ g2) (fun _ z=>nomatch z) (s15 _ _ z);generalize upd H15 pl (.dK lk)=H16 at *;show TG _ _ _;subst hG;walk_at "dt";refine J06 ?_;walk_at "dt";have Z16:=S10.trans S16;have hKf2:=hl16.rwk hupf;have l16:lk.length<=40:=by rw [Paired.length hl16];exact hlf
      refine ⟨.ref l,hget _ Z16,a,pl,D,v,l,n0,n1,fg,is,nf.map Prod.fst,xs,lk,ns,kds,is0,is1,rfl,(s1.trans Z16).seq hs,g16,hKf2,l16,S16 _ _ gn10,hV10.mono S16,Z16 _ _ hl,hF.mono Z16,hnm,hkk,h8,fun H17 pp ps s17 gpp hps hpl=>?_⟩;refine ⟨pp,rfl,⟨_,.of gpp⟩,ForW.of (JB (xs:=ps)) (fun j σ H'=>(∃ v15,σ=[some (V.ref a),some (V.ref dW),some (V.ref D),some (V.int seed),some (V.ref v),some sv,some (V.int sd),some (V.ref o),some (V.ref dt),some (V.ref t),some (V.ref pl),v11',v12,v13,v14,v15])/\Same H17 H') ⟨⟨none,rfl⟩,Same.refl _⟩ (fun _ _ _ _ z=>z.2.seq (.of gpp)) ?_ ?_⟩
      ·rintro j x σ H18 hx ⟨⟨v15,rfl⟩,s18⟩
       have t18:=s17.trans s18;have S18:=S16.trans t18;have hpx:=hps x (zP hx);obtain ⟨q,hq⟩:∃ q,x=.ref q:=by obtain ⟨q,_,_,_,_,e,_⟩:=hpx;exact ⟨q,e⟩
       subst hq;simp only [JL];walk_at "dt";refine ⟨t,dW,v,q,pl,gs,ns,kds,is0,is1,kss0,kss1,lk,nf.map Prod.fst,nf,rfl,hT.mono S18,hW.mono (S10.trans S18),hpx.mono (Same.t s18),t18 _ _ g16,hKf2.mono t18,RwN.mono t18 hl16,l16,fun H19 s19=>⟨_,rfl,?_⟩⟩;rw [zt (by decide)];exact ⟨⟨_,rfl⟩,s18.trans s19⟩
      ·rintro σ H18 ⟨⟨v15,rfl⟩,s18⟩
       have S18:=S16.trans (s17.trans s18);obtain ⟨dx,ho⟩:=hS10.o;walk_at "dt";refine ⟨_,_,S18 _ _ ho,rfl,o,lf,d,g,xs',kvs,ks,rfl,hS10.mono S18,hK10.k,by omega,fun pm ms hpm hms hup'=>?_⟩;obtain rfl:ms=ks:=perm_one (le:=fun a b:Int=>a<=b) (fun a b h1 h2=>by omega) hms hup' (hK10.up.imp fun {a b} q=>by omega)
       walk_at "nw pm hpm H19 u19 g19"
       refine ⟨kvs,(S18.trans u19) _ _ gdt10,ms,hK10.k,by omega,fun pm2 ms2 hpm2 hms2 hup2=>?_⟩;obtain rfl:ms2=ms:=perm_one (le:=fun a b:Int=>a<=b) (fun a b h1 h2=>by omega) hms2 hup2 (hK10.up.imp fun {a b} q=>by omega)
       walk_at "nw pm2 hpm2 H20 u20 g20"
       exact J3U (u20 _ _ g19) g20 (k _)
   refine ⟨seed,rfl,by decide,?_⟩;by_cases c4:seed % 2=0
   ·rw [zu (zx c4)]
    refine ⟨zF _,fun p1 hp1=>⟨Jb (by decide),fun p2 hp2=>⟨Jb (by decide),fun p3 hp3=>⟨Jb (by decide),fun p4 hp4=>?_⟩⟩⟩⟩
    walk_at "nw p1 hp1 G1 u1 y1"
    walk_at "nw p2 hp2 G2 u2 y2"
    walk_at "nw p3 hp3 G3 u3 y3"
    walk_at "nw p4 hp4 G4 u4 y4"
    have u34:=u3.trans u4;have u24:=u2.trans u34;obtain ⟨F1,h1⟩:=Sv.of_tup (ns:=ns) (kds:=kds) (m:=1) (cs:=[]) (u24 _ _ y1) (u34 _ _ y2) (by decide) (fun _ z=>nomatch z) (.inl rfl);obtain ⟨F2,h2⟩:=Sv.of_tup (ns:=ns) (kds:=kds) (m:=3) (cs:=[(sv,F),(V.ref p2,F1)]) (u4 _ _ y3) y4 (show 2<=60 by decide) (fun c hc=>by
     rcases zU.mp hc with rfl | hc
     ·exact (hSv.mono (Same.t (u1.trans u24))).le (by decide)
     ·rw [zM.mp hc]
      exact h1.le (by decide)) (.inr rfl)
    exact tail _ _ F2 (u1.trans u24) h2
   ·rw [zt (by simpa using c4)]
    exact tail _ _ F (Same.refl _) (hSv.le (by decide))
end
theorem walk {l:PySem.W.OpenLaw}{q:Program}{loose:List Str}{XP:(Str->Option Value)->Heap->Prop}{YP:World->Heap->Prop}{d:DefRec}{K:Params->PySem.W.Frag}(hn:l.most=some 63)(hdf:d.params.defaults=[])
 (hY:∀ (w:World) (h:Heap),YP w h->(K w.params).In h)
 (F:∀ (w:World) (mg:Str->Option Value) (fa:Addr) (h:Heap),(K w.params).In h->h.Ns mainGlobals mg->mg d.name=some (.ref fa) ->
  ∃ fd:FuncData,(∀ (s:Shared) (u:Value),BindsTo s fd ⟨[u],[]⟩ [("_law_script",u)])/\∀ base:Heap,(K w.params).In base->base.Ns mainGlobals mg->FnOk l.prog w (K w.params) mg base CX0 10 fa fd ["_law_script"] (J6j (K w.params))) :
 PySem.W.WalkO q loose XP YP l.row.toRowW d [] (fun f vs=>PySem.call f vs) :=
 L2.walk_of (n:=63) (k:=10) (x:="_law_script") (CX:=fun _=>CX0) (sp:=fun w=>J6j (K w.params)) hn (by decide) hdf ⟨rfl,by decide,by decide⟩ hY F (fun _ _ a ns hl _ hS=>⟨a,ns,rfl,hS,hl,fun _=>rfl⟩) fun _ _ _ _ _ z=>z
theorem all_mk {l:PySem.W.OpenLaw}{w:World}{K:PySem.W.Frag}{h:Heap}{mg:Str->Option Value}{fa:Addr}(X:K.In h)(G:h.Ns mainGlobals mg)(hfa:mg "law"=some (.ref fa))(T:∃ f fd,Txt K mg f fd/\f 76=f 76/\∃ kV dc pm an cd ct,fd 76=PySem.W.fnOf "law" "law" (J14 s_law) (J0Z s_law) (Je s_law) .none kV dc pm an cd ct) :
 ∃ fd:FuncData,(∀ (s:Shared) (v:Value),BindsTo s fd ⟨[v],[]⟩ [("_law_script",v)])/\∀ base:Heap,K.In base->base.Ns mainGlobals mg->FnOk l.prog w K mg base CX0 10 fa fd ["_law_script"] (J6j K):=by
 obtain ⟨f,fd,T,_,kV,dc,pm,an,cd,ct,e⟩:=T;have e2:=hfa.symm.trans T.yE.m;cases e2;exact ⟨fd 76,fun s v=>by rw [e];exact .of_eq rfl,fun base _ _=>ok_law T⟩
end NS
namespace PySem.W.Fast
def tw14422962493944721536:=0
def tw7972598369208758464:=0
def tw4861204989277378752:=0
def tw3227756267483728224:=0
def tw1322855991073611136:=0
def tw1956344366911194528:=0
def tw1128268069039385056:=0
def tw12335191459442474464:=0
def tw4423121474070035936:=0
def tw441852869172208128:=0
def tw1328420408398794336:=0
def tw3118353976467004000:=0
def tw9336391986545250912:=0
def tw4528473443446786688:=0
def tw12586576171709883008:=0
def tw15165387037498898048:=0
def tw15120557830937041728:=0
def tw6280297187382323040:=0
def tw107269041429134208:=0
def tw4780924989793432544:=0
def tw16817360218213917697:=0
def tw15803583864249104417:=0
def tw18401528699607940161:=0
def tw7331670235985959041:=0
def tw10554144112645221537:=0
def tw1978263415127867585:=0
def tw15585949099398131905:=0
def tw1711319684865035553:=0
def tw9415567132261912865:=0
def tw14404359433344530721:=0
def tw8845329496408060321:=0
def tw268117834626923969:=0
def tw13767632746754216385:=0
def tw9834738058298099425:=0
def tw1577491745660391201:=0
def tw7822041567058695969:=0
def tw253809708877435938:=0
def tw5930282434522243170:=0
def tw6402890442098478178:=0
def tw17519846294527934594:=0
def tw4676868558428048546:=0
def tw17838887872961292482:=0
def tw10881749226664797506:=0
def tw12462522269104616770:=0
def tw16598308644381315490:=0
def tw10362753840051910082:=0
def tw16124595028016188898:=0
def tw16140133677374747266:=0
def tw16807823175591721698:=0
def tw16349126663345641250:=0
def tw18184228839304349538:=0
def tw11534427992994209698:=0
def tw17411310673847346114:=0
def tw5014624562733445123:=0
def tw16682652539838538787:=0
def tw1685533989244940387:=0
def tw7814149020925453443:=0
def tw8226844125167689891:=0
def tw762977425618654435:=0
def tw16313559805826231619:=0
def tw80862748601791843:=0
def tw8238239354560932195:=0
def tw618653876568326531:=0
def tw2305861282782248387:=0
def tw4694222584719858179:=0
def tw4686678760319793795:=0
def tw15005656753494043267:=0
def tw8501389688697122467:=0
def tw6225344322504749891:=0
def tw4050354259597134691:=0
def tw9848411970750159747:=0
def tw1950688649881137123:=0
def tw17174399419209556996:=0
def tw9353660098517764164:=0
def tw12384986068606193028:=0
def tw9395902219652376964:=0
def tw16363675949120424356:=0
def tw11868799393236721092:=0
def tw668208057517580772:=0
def tw9691897619297794564:=0
def tw14689862079537013252:=0
def tw14231350101210177124:=0
def tw1867793522587573124:=0
def tw14553283201554479109:=0
def tw559503374696717317:=0
def tw14409376987546260517:=0
def tw11486315388250708069:=0
def tw4022096104949667941:=0
def tw18311277640145556677:=0
def tw9139805731711065413:=0
def tw15255806480252571077:=0
def tw10338634025971325381:=0
def tw6885181662374118853:=0
def tw9254800971931148773:=0
def tw9445224023792309797:=0
def tw15301354023240950309:=0
def tw15436216677687023173:=0
def tw17309529233168076453:=0
def tw9218671138859482853:=0
def tw9196730476651668229:=0
def tw9484427028952332069:=0
def tw18361182449569971206:=0
def tw10109501414085979174:=0
def tw7065311248000767078:=0
def tw3957444252434802214:=0
def tw9555839002912915046:=0
def tw14584655558574896774:=0
def tw9514364763929900678:=0
def tw7316249175805784774:=0
def tw16323895013701459750:=0
def tw10699302741450123078:=0
def tw5899118883252864934:=0
def tw2251964835933751399:=0
def tw17390696741069476967:=0
def tw9386673475340330375:=0
def tw17347784678149935495:=0
def tw1466464937402165703:=0
def tw16568364874496983591:=0
def tw16499153678084266599:=0
def tw2415089271089361511:=0
def tw1812457015120718471:=0
def tw1046357933451456167:=0
def tw14582300552122065639:=0
def tw1028364749626336999:=0
def tw6927217870827320039:=0
def tw2073700018693267207:=0
def tw7515603901560363911:=0
def tw8383278643759177607:=0
def tw5171281815033762791:=0
def tw14558557515740204104:=0
def tw14591173750553173064:=0
def tw17191658414802953640:=0
def tw7880868099818863112:=0
def tw18275543946251742760:=0
def tw11314894307556092456:=0
def tw7181029522464155208:=0
def tw4818620638116556392:=0
def tw16004039706155721320:=0
def tw11993509451377198760:=0
def tw533594741470091976:=0
def tw3247111050338113256:=0
def tw15735690622923633512:=0
def tw3107281805243775880:=0
def tw14288265206711842728:=0
def tw8058449840098164873:=0
def tw17876588693667931337:=0
def tw2541936443733497065:=0
def tw18129168117712486697:=0
def tw5792584721818702281:=0
def tw17521536490915950025:=0
def tw11812742227290594793:=0
def tw5799820244748762601:=0
def tw12147373354774199785:=0
def tw16719632070534059529:=0
def tw3143403754630303305:=0
def tw11324355206909138633:=0
def tw8064153717658702569:=0
def tw126770452802186025:=0
def tw15569979591644133161:=0
def tw8553137058520945641:=0
def tw8952858060456479850:=0
def tw2310155313621814410:=0
def tw7193317987995657386:=0
def tw174647261928472746:=0
def tw15451903648491106634:=0
def tw8213927586357052778:=0
def tw16724768281346962890:=0
def tw15840481672975164938:=0
def tw6915108219591791178:=0
def tw13173923736435608298:=0
def tw14892528325323494122:=0
def tw9394264465895955338:=0
def tw17131342517190442986:=0
def tw10192662376527966411:=0
def tw7202236185387565291:=0
def tw8862039414572954891:=0
def tw16665772396539200811:=0
def tw10097386552385459499:=0
def tw15087821555771838827:=0
def tw2317267727367177579:=0
def tw8256212870116644427:=0
def tw6643414802543763051:=0
def tw13907758594967392043:=0
def tw10474658399589974987:=0
def tw12006343736064060395:=0
def tw3154803678225998924:=0
def tw12831069459879039148:=0
def tw5838008194206515372:=0
def tw14808038528605052076:=0
def tw939708926701958348:=0
def tw11248782829213862124:=0
def tw11162349373990465772:=0
def tw9292152369816203628:=0
def tw13301229785444419116:=0
def tw13317398441616746028:=0
def tw13563094465852236396:=0
def tw4006321858474585868:=0
def tw9003927248506630988:=0
def tw5390677974827363276:=0
def tw2182898591626341389:=0
def tw12636268940306586669:=0
def tw18414462305009380461:=0
def tw5926947521176393229:=0
def tw1558718003780202029:=0
def tw4231695164336454253:=0
def tw1817349660045084461:=0
def tw12554320211473049453:=0
def tw3174399938452357069:=0
def tw2620825628181078062:=0
def tw15871432683201522734:=0
def tw16354649738076402862:=0
def tw3175511013170811214:=0
def tw6379759893259406702:=0
def tw14649426676737475054:=0
def tw337819924878051918:=0
def tw11931183545724177006:=0
def tw9217923186233493102:=0
def tw4114851977757585006:=0
def tw1701535954486480558:=0
def tw940796278621039310:=0
def tw2478349183671981774:=0
def tw17879335415240339182:=0
def tw10420880781257194222:=0
def tw5912305790700891950:=0
def tw8648362782033756014:=0
def tw16739480644465821614:=0
def tw15877070953020617678:=0
def tw17594361088442694638:=0
def tw3799478106851920878:=0
def tw15667418164472181775:=0
def tw7507743328713612303:=0
def tw580740395653571631:=0
def tw14391033217305477199:=0
def tw1009065556666634319:=0
def tw14246853916124208207:=0
def tw3731953164266223727:=0
def tw6408444716322007215:=0
def tw12839365422086529263:=0
def tw14576226580893127919:=0
def tw8452653990445237519:=0
def tw716862899840936303:=0
def tw13352552373981254031:=0
def tw7781858190302441967:=0
def tw3241981329442275919:=0
def tw1346204316839730991:=0
def tw1220477375100740399:=0
def tw11106529977672456015:=0
def tw13829383441521505199:=0
def tw18171002913846611984:=0
def tw7583217310522589264:=0
def tw18388052226459250864:=0
def tw4145857483728405744:=0
def tw10575197834862567696:=0
def tw1843266170428567824:=0
def tw3517647925772083632:=0
def tw12414434906796307952:=0
def tw15795964923317347824:=0
def tw12112576302785424912:=0
def tw5405538488922403344:=0
def tw5145006624749679120:=0
def tw10614332643911939824:=0
def tw2999596348547497808:=0
def tw8134912657692196848:=0
def tw3067692762717422673:=0
def tw8068115668573193329:=0
def tw12674848183849018481:=0
def tw2054586077721755825:=0
def tw1819511978021179601:=0
def tw5885462512094529841:=0
def tw12489627538500917585:=0
def tw11618354691917429105:=0
def tw14415797026633233873:=0
def tw13009177462960352785:=0
def tw948157985503193745:=0
def tw18321223885405795025:=0
def tw6918145297211487985:=0
def tw6588018034828977041:=0
def tw15894369781574598577:=0
def tw11409312932327094257:=0
def tw1558105110285723698:=0
def tw4595283396189154450:=0
def tw10309409468906318066:=0
def tw16953207862306483506:=0
def tw13952236124669688114:=0
def tw4753133586825104818:=0
def tw9618189841150291474:=0
def tw8576482436745583282:=0
def tw14349170140109743826:=0
def tw1725148306745080658:=0
def tw5500206970052974514:=0
def tw9245202853685386194:=0
def tw17233842971473222675:=0
def tw17668189769163076659:=0
def tw1765932558371357779:=0
def tw13396991671522188531:=0
def tw765433012180319507:=0
def tw8634762811132986643:=0
def tw4679719879276237171:=0
def tw15565689686594167187:=0
def tw8561978726727736755:=0
def tw13508830667178972595:=0
def tw9797023686499268083:=0
def tw14856657972496183795:=0
def tw10059970448312184339:=0
def tw244816231075099187:=0
def tw3970159319100607315:=0
def tw7303909575066442675:=0
def tw2151950206379080659:=0
def tw5335803399162680372:=0
def tw7133838537577547828:=0
def tw1203009258258438260:=0
def tw8902637476108890228:=0
def tw18362569296452255924:=0
def tw10732815727753638260:=0
def tw4654600180828484084:=0
def tw10179198624036841044:=0
def tw2223554584269141620:=0
def tw7874890882442221172:=0
def tw8581299029921094356:=0
def tw1684655851253137172:=0
def tw11346949228323173140:=0
def tw6339800847060786004:=0
def tw12551458260117938100:=0
def tw8183337402497013684:=0
def tw12860217893623391253:=0
def tw16117172960141644821:=0
def tw6815601394410602613:=0
def tw7370592571399823509:=0
def tw14412218281271228565:=0
def tw6722693916113274069:=0
def tw7421116148207867093:=0
def tw11005264693912249557:=0
def tw12831508492711547221:=0
def tw1979832583209515509:=0
def tw14148037581733821973:=0
def tw7088020842565388853:=0
def tw11438242041731144277:=0
def tw16482540968831462005:=0
def tw4214859005733457557:=0
def tw5316527034600266421:=0
def tw2950822950204963637:=0
def tw16006837387816690517:=0
def tw11943757075043747701:=0
def tw13043576727349795701:=0
def tw10879057101662922613:=0
def tw15519659824797490069:=0
def tw6440030521725020085:=0
def tw8037365541929719797:=0
def tw14215457394066627702:=0
def tw5163344003565785238:=0
def tw10842526460873873974:=0
def tw15473074229533102646:=0
def tw4680429549155058326:=0
def tw12722066577882887830:=0
def tw12140980961423764310:=0
def tw5415415383336085430:=0
def tw460394143161730006:=0
def tw7275342105818289110:=0
def tw11399482516131257334:=0
def tw9915524608411908183:=0
def tw14381768374383490231:=0
def tw16395323450669089111:=0
def tw4698458435346038199:=0
def tw17751132136856696311:=0
def tw15908142645088684663:=0
def tw8578285673468172919:=0
def tw13145839253997185719:=0
def tw3580433297591463607:=0
def tw15479737690177438423:=0
def tw10235398582895357655:=0
def tw1753366356600084343:=0
def tw4357333227705973655:=0
def tw1633093962463711223:=0
def tw10235515357302395992:=0
def tw18183215518507877464:=0
def tw17314722536716029112:=0
def tw17659346738028449016:=0
def tw11601099791608990968:=0
def tw2896416195614860536:=0
def tw17255667905518363992:=0
def tw13384329092936179032:=0
def tw13303512138991318456:=0
def tw1440957337981593048:=0
def tw16015773973977831960:=0
def tw1554505063964823096:=0
def tw1330883480343994008:=0
def tw7677198449806962392:=0
def tw15456608385141867256:=0
def tw8973371322801512216:=0
def tw3789864460382239608:=0
def tw7605071984194976728:=0
def tw6877590800605770809:=0
def tw5523453343592204377:=0
def tw12024868730329271417:=0
def tw11328304129945256089:=0
def tw7475880199352144057:=0
def tw9677246231444660473:=0
def tw3197726007794762009:=0
def tw10709412434900579609:=0
def tw16465744671076191545:=0
def tw4516295532237925721:=0
def tw8112230819632961977:=0
def tw12264534820226148825:=0
def tw16735821589160739289:=0
def tw7655902373977776665:=0
def tw13869634799644413753:=0
def tw10892850272186152857:=0
def tw12905125413455839129:=0
def tw10184726419992555546:=0
def tw17768304518500145210:=0
def tw3823919500140737722:=0
def tw17681039998147942650:=0
def tw196720265911998810:=0
def tw14167479037207979386:=0
def tw10595906313984829914:=0
def tw6355798750860250618:=0
def tw16852870544767596058:=0
def tw17992904079404447290:=0
def tw4454797927128434330:=0
def tw7297158893155705562:=0
def tw14001295263867668410:=0
def tw9224829154039109562:=0
def tw11596326977375651770:=0
def tw17868082622051320794:=0
def tw469252440075055131:=0
def tw10514852798367054971:=0
def tw6444918710306130203:=0
def tw4944903719122074011:=0
def tw17150282260287043323:=0
def tw17974815209840767739:=0
def tw6126369154775805723:=0
def tw12456348022864551739:=0
def tw14776430682330400603:=0
def tw2123032650896349147:=0
def tw3435115414414313435:=0
def tw9643711982272805948:=0
def tw3584202837418388700:=0
def tw14324805098397501724:=0
def tw6522738236776141148:=0
def tw9678099506620830044:=0
def tw2809854015761800604:=0
def tw257945822228533724:=0
def tw12243830877064605148:=0
def tw976805956445386300:=0
def tw8127846765075244636:=0
def tw10472546611948884604:=0
def tw6083595604586668732:=0
def tw11961167208604322556:=0
def tw830132136729075484:=0
def tw3334040219116909564:=0
def tw8753017758082672765:=0
def tw9790403704767089885:=0
def tw16068191046861316413:=0
def tw10233211057531338109:=0
def tw17711132517023101341:=0
def tw3695379989549845949:=0
def tw3079172085255903741:=0
def tw13716288095957432829:=0
def tw1410560455387184733:=0
def tw11575775331652535933:=0
def tw2558187514870864637:=0
def tw15969137640996155325:=0
def tw14873804744908239837:=0
def tw2171077764614322141:=0
def tw15071141073637584893:=0
def tw4871558845755312125:=0
def tw7381732150658487326:=0
def tw1018260413456072734:=0
def tw12219237317709731934:=0
def tw14838983205313171774:=0
def tw15009139401136160126:=0
def tw6574573376574414238:=0
def tw8805837679021247902:=0
def tw16313861562121974206:=0
def tw5658525576909120990:=0
def tw1704464251505454590:=0
def tw425385054056205918:=0
def tw12425438323946254942:=0
def tw7076427663234463454:=0
def tw11956735517136543614:=0
def tw2553734634282099710:=0
def tw18060864828650960095:=0
def tw10451286507518004479:=0
def tw1801796391421010207:=0
def tw5479049318850775327:=0
def tw563488117557125599:=0
def tw18151362734766188031:=0
def tw1686069920534891007:=0
def tw12619943723131736671:=0
def tw4183097950706534239:=0
def tw1086808847260099583:=0
def tw11798448110142779391:=0
def tw458683660619455112:=0
def tw13713571091261930590:=0
def tw2864300457727449589:=0
def tw13258357491659485686:=0
def tw12643061801759766374:=0
def tw13483698286856520180:=0
def tw1247519323211861541:=0
def tw6465021142435598295:=0
def tw6796990118158009844:=0
def tw7090082839880278041:=0
def tw2414551764344166647:=0
def tw7178175095722203368:=0
def tw12870664018530294409:=0
def tw2849608324564298401:=0
def tw3563042119701816493:=0
def tw6814372521965305108:=0
def tw2239021113018046896:=0
def tw9050948831981353777:=0
def tw2169431082644157880:=0
def tw478208508842688633:=0
def tw7190087188883323773:=0
def tw12648389491268629228:=0
def tw185594038975861865:=0
def tw16540322411903912141:=0
def tw17983021767023293376:=0
def tw3785528412147589935:=0
def tw1062496806490670761:=0
def tw14456383738412631395:=0
def tw8493110604308944439:=0
def tw6966210802154637313:=0
def tw15085066734897960840:=0
def tw12028911949343458850:=0
def tw3634437363098808993:=0
def tw11980255114086775384:=0
def tw7835393369709722806:=0
def tw3444866446939199038:=0
def tw17091009120995646504:=0
def tw8234041414321825841:=0
def tw2343938741979168639:=0
def tw7306877480422939078:=0
def tw18111263121140235166:=0
def tw6744533258516994171:=0
def tw1178253431330317428:=0
def tw12622886769571827561:=0
def tw10818828878129542945:=0
def tw11520436383684305006:=0
def tw1327856664934997085:=0
def tw14978634566799892738:=0
def tw7267730886798046980:=0
def tw9814094418737604914:=0
def tw10000437884885337632:=0
def tw11421332065499489001:=0
def tw11379020123585852886:=0
def tw4600743848386924935:=0
def tw6643949519660569428:=0
def tw12441316766514972069:=0
def tw13471477336187904219:=0
def tw7322331011476647587:=0
def tw3984820499030767565:=0
def tw17174296913166566476:=0
def tw18082342716584252895:=0
def tw15633463583207769907:=0
def tw1188986491603900980:=0
def tw4089131656059860760:=0
def tw10570775042158967358:=0
def tw9486878218298288581:=0
def tw16757100507634928568:=0
def tw336618691298074964:=0
def tw2574330778773492526:=0
def tw3433166965520147066:=0
def tw1675409056034799005:=0
def tw14063852664917747746:=0
def tw14981433325475985576:=0
def tw4902502879993376860:=0
def tw15339354300518583759:=0
def tw3518279951365374068:=0
def tw12021498612416875583:=0
def tw15370638427491027529:=0
def tw3900508511310735039:=0
def tw8416864585713627941:=0
def tw15952408106459169781:=0
def tw10648432569639735648:=0
def tw5056299043644595522:=0
def tw7617015100377208789:=0
end PySem.W.Fast
open PySem PySem.W PyProof.Rows
set_option maxRecDepth 100000 in
set_option maxHeartbeats 0 in
theorem PySem.Challenge.cw_crosshall_k15_whole_boxes_open_to_rows_holds : PySem.Challenge.rw_crosshall_k15_whole_boxes_open_to_rows.Holds := by
 w_on;o_law;k_head;(case hw=>w_witness2)
 k_fill
 refine NS.walk (l:=PySem.Challenge.rw_crosshall_k15_whole_boxes_open_to_rows) rfl rfl (fun w h Y=>by first | exact PySem.W.kIn_of Y | exact PySem.W.km_in_of Y) ?F
 case F =>
  intro w mg fa h KX G hmg;refine NS.all_mk KX G hmg ?_
  suffices TT:∃ f fd,NS.Txt (L2.KOf KX) mg f fd/\f 76=f 76/\∃ kV dc pm an cd ct,fd 76=PySem.W.fnOf "law" "law" (L2.J14 NS.s_law) (L2.J0Z NS.s_law) (L2.Je NS.s_law) .none kV dc pm an cd ct from TT
  dsimp only [L2.KOf];obtain ⟨f,fd,T,_,z⟩:∃ f fd,NS.Txt _ mg f fd/\f 76=_/\∃ kV dc pm an cd ct,fd 76=PySem.W.fnOf "law" "law" (L2.J14 NS.s_law) (L2.J0Z NS.s_law) (L2.Je NS.s_law) .none kV dc pm an cd ct:=by
   refine' NS.txt_mk KX G ?a28 ?a55 ?a14 ?l14 ?a15 ?l15 ?a16 ?l16 ?a17 ?l17 ?a18 ?l18 ?a19 ?l19 ?a20 ?l20 ?a24 ?l24 ?a25 ?l25 ?a26 ?l26 ?a27 ?l27 ?a31 ?l31 ?a32 ?l32 ?a33 ?l33 ?a37 ?l37 ?a38 ?l38 ?a39 ?l39 ?a40 ?l40 ?a41 ?l41 ?a42 ?l42 ?a43 ?l43 ?a44 ?l44 ?a46 ?l46 ?a47 ?l47 ?a48 ?l48 ?a49 ?l49 ?a50 ?l50 ?a51 ?l51 ?a53 ?l53 ?a54 ?l54 ?a57 ?l57 ?a58 ?l58 ?a59 ?l59 ?a60 ?l60 ?a61 ?l61 ?a62 ?l62 ?a63 ?l63 ?a64 ?l64 ?a65 ?l65 ?a66 ?l66 ?a67 ?l67 ?a68 ?l68 ?a69 ?l69 ?a70 ?l70 ?a71 ?l71 ?a72 ?l72 ?a73 ?l73 ?a74 ?l74 ?a75 ?l75 ?a76 ?l76 ?a29000 ?l29000 ?b29000 ?a29001 ?l29001 ?b29001 ?a29002 ?l29002 ?b29002 ?a29003 ?l29003 ?b29003 ?a29004 ?l29004 ?b29004 ?a29005 ?l29005 ?b29005 ?a29006 ?l29006 ?b29006 ?a56000 ?l56000 ?b56000 ?a56006 ?l56006 ?b56006 ?a56007 ?l56007 ?b56007 ?a56008 ?l56008 ?b56008 ?o_Sheet_pg ?o_Sheet_hd ?o_Sheet_po ?o_Sheet_sa ?o_Sheet_ma ?o_Sheet_kp ?o_Table_pg ?o_Table_hd ?o_Table_po ?o_Table_sa ?o_Table_ma ?o_Table_kp ?v_na_Sheet_given ?v_na_Sheet_kept_fields ?v_na_Sheet_kept_rows ?v_na_Table_boxes ?v_na_Table_kept_fields ?v_na_Table_kept_heads ?v_na_Table_kept_view ?z_abs ?z_all ?z_any ?z_bool ?z_dict ?z_enumerate ?z_int ?z_isinstance ?z_len ?z_list ?z_max ?z_min ?z_range ?z_set ?z_sorted ?z_str ?z_sum ?z_tuple ?z_zip ?y_LETTERS ?y_FIGURES ?y_MOST_SIGNS ?y_KINDS ?l22 ?y_MOST_FIELDS ?y_NAMED_FORMS ?l30 ?y_MOST_NAMES ?y_MOST_FIGURES
   (case a28 | a55 | a14 | a15 | a16 | a17 | a18 | a19 | a20 | a24 | a25 | a26 | a27 | a31 | a32 | a33 | a37 | a38 | a39 | a40 | a41 | a42 | a43 | a44 | a46 | a47 | a48 | a49 | a50 | a51 | a53 | a54 | a57 | a58 | a59 | a60 | a61 | a62 | a63 | a64 | a65 | a66 | a67 | a68 | a69 | a70 | a71 | a72 | a73 | a74 | a75 | a76 | a29000 | b29000 | a29001 | b29001 | a29002 | b29002 | a29003 | b29003 | a29004 | b29004 | a29005 | b29005 | a29006 | b29006 | a56000 | b56000 | a56006 | b56006 | a56007 | b56007 | a56008 | b56008 | o_Sheet_pg | o_Sheet_hd | o_Sheet_po | o_Sheet_sa | o_Sheet_ma | o_Sheet_kp | o_Table_pg | o_Table_hd | o_Table_po | o_Table_sa | o_Table_ma | o_Table_kp | v_na_Sheet_given | v_na_Sheet_kept_fields | v_na_Sheet_kept_rows | v_na_Table_boxes | v_na_Table_kept_fields | v_na_Table_kept_heads | v_na_Table_kept_view | z_abs | z_all | z_any | z_bool | z_dict | z_enumerate | z_int | z_isinstance | z_len | z_list | z_max | z_min | z_range | z_set | z_sorted | z_str | z_sum | z_tuple | z_zip | y_LETTERS | y_FIGURES | y_MOST_SIGNS | y_KINDS | l22 | y_MOST_FIELDS | y_NAMED_FORMS | l30 | y_MOST_NAMES | y_MOST_FIGURES=>k_is)
   (case l14 | l15 | l16 | l17 | l18 | l19 | l20 | l24 | l25 | l26 | l27 | l31 | l32 | l33 | l37 | l38 | l39 | l40 | l41 | l42 | l43 | l44 | l46 | l47 | l48 | l49 | l50 | l51 | l53 | l54 | l57 | l58 | l59 | l60 | l61 | l62 | l63 | l64 | l65 | l66 | l67 | l68 | l69 | l70 | l71 | l72 | l73 | l74 | l75 | l76 | l29000 | l29001 | l29002 | l29003 | l29004 | l29005 | l29006 | l56000 | l56006 | l56007 | l56008=>refine' L2.Jeo ?l ?c ?k;(case l=>k_is);(case c | k=>k_is))
  exact ⟨f,fd,T,rfl,z⟩