import PyProof.Rows.All
import Wide.All
import OpenK.AllK
import Wide.FinOn
import Lean
import PyProof.EqAt
import PyProof.EqKinds
import PyProof.TupleCall
import OpenK.KOwn
import PyProof.InstStoreFacts
import PyProof.EnumFor
import PyProof.EnumMake
import PyProof.EnumStmt
import KE.KDictList
import PyProof.ListRange
import PyProof.Rows.SetFrom
import PyProof.WalksMore
import PyProof.ZipIter
import PyProof.AttrMissSeq
import KE.KDictOf
import PyProof.MinMaxWalk
import PyProof.Rows.CallKwBuiltin
import KE.KMinKey
import KE.KRevSl
import PyProof.SumAny
import PyProof.P3In
import PyProof.SeqI3
import PyProof.DictItems
import PyProof.DictItemsLoops
import PyProof.Rows.StrNews2
import KE.KPairComp
import PyProof.FString
import PyProof.StrReplace2
import PySem.Challenge.RW_crosshall_k10_texts_that_are_no_sieves
set_option compiler.extract_closed false
set_option Elab.async false
set_option linter.all false
set_option maxHeartbeats 4000000
set_option maxRecDepth 100000
local macro_rules | `(tactic|omega)=>`(tactic|first | lia | omega (config:={}))
noncomputable section
def za:=@PySem.wpAny_bind
def zb:=@PySem.wpAny_pure
def zc:=@if_neg
def zd:=@if_pos
def ze:=@Nat.le_refl
def zf:=@Bool.false_ne_true
def zg:=@decide_eq_true
def zh:=@decide_eq_false
def zi:=@Option.some.inj
def zj:=@Nat.ne_of_lt
def zk:=@Int.emod_lt_of_pos
def zl:=@Int.emod_nonneg
def zm:=@Nat.lt_of_lt_of_le
def zn:=@Nat.zero_le
def zo:=@Nat.le_trans
def zp:=@False.elim
def zq:=@Array.length_toList
def zr:=@List.getElem?_eq_getElem
def zt:=@List.getElem?_eq_some_iff
def zu:=@List.length_map
def zv:=@List.mem_singleton
def zw:=@List.size_toArray
def zx:=@List.mem_of_getElem?
def zy:=@List.length_append
def zz:=@List.length_take
def zA:=@List.mem_cons_of_mem
def zB:=@List.mem_cons_self
def zC:=@List.mem_cons
def zD:=@List.map_cons
def zE:=@List.getElem?_map
def zF:=@List.take_length
def zG:=@List.map_append
def zH:=@List.mem_append
def zI:=@List.mem_append_right
def zJ:=@List.mem_append_left
def zK:=@List.mem_map
def zL:=@List.getElem?_append_right
def zM:=@List.getElem?_append_left
def zN:=@List.length_range
def zO:=@List.append_assoc
def zP:=@List.length_replicate
def zQ:=@PySem.Heap.get?_push_of_some
def zR:=@PySem.Heap.get?_push_size
def zS:=@PySem.Heap.lt_size
def zT:=@PySem.Heap.get?_update_other
def zU:=@PySem.F.plainAttrs_list
def zV:=@PySem.W.mg_none_of
open List (mem_filter mem_range filterMap_cons getElem_inj mem_filterMap any_eq_false length_cons append_nil nodup_cons of_mem_zip take_sublist length_drop all_cons any_cons replicate_succ flatten_cons foldl_cons length_singleton nil_append length_nil map_nil forIn_cons lookup_cons all_eq_true take_add_one length_filter_le filter_append filter_eq_self not_mem_nil map_map sum_cons any_map range_succ filterMap_append eq_nil_of_length_eq_zero drop_zero length_pos_iff tail_cons take_of_length_le drop_length drop_of_length_le take_succ_cons take_zero contains_cons getD_eq_getElem?_getD foldl_append length_eq_zero_iff all_map drop_one pairwise_map nodup_range append_cancel_left eq_of_mem_replicate mem_of_mem_take cons_ne_nil map_take drop_drop drop_left isPrefixOf_iff_prefix prefix_iff_eq_take getElem_mem take_left exists_cons_of_ne_nil cons_append length_tail takeWhile_append_dropWhile takeWhile_cons dropWhile_cons take_append_drop drop_eq_getElem_cons mem_of_mem_tail filter_eq_nil_iff take_nil map_replicate)
open PySem.W (Frag nsIn findIn)
namespace L2
open PySem PySem.Spec PyProof.Rows
abbrev Key:=Sum Int Str
def J3a:Key->Value->Bool
 | .inl k,v=>Value.isInt k v
 | .inr x,v=>Value.isStrOf x v
def Jbx (w:World):Key->Int
 | .inl k=>hashInt k
 | .inr x=>hashStr w x
theorem JH:∀ {k:Key} {v:Value},J3a k v=true->(∃ i t,k=Sum.inl i/\v=Value.int i t)\/(∃ x t,k=Sum.inr x/\v=Value.str x t)
 | .inl i,v,h=>by
   obtain ⟨t,e⟩:=Value.isInt_shape (k:=i) (v:=v) h;exact .inl ⟨i,t,rfl,e⟩
 | .inr x,v,h=>by
   obtain ⟨t,e⟩:=Value.isStrOf_shape (x:=x) (v:=v) h;exact .inr ⟨x,t,rfl,e⟩
theorem J7P (i:Int)(t:Tok):J3a (.inl i) (.int i t)=true:=by simp [J3a,Value.isInt]
theorem J7O (x:Str)(t:Tok):J3a (.inr x) (.str x t)=true:=by simp [J3a,Value.isStrOf]
theorem JaX (a b:Int):decide ((Sum.inl a:Key)=Sum.inl b)=(a == b):=by
 by_cases e:a=b
 ·subst e;simp
 ·have h:¬ (Sum.inl a:Key)=Sum.inl b:=fun q=>e (Sum.inl.inj q)
  rw [zh h];exact (beq_eq_false_iff_ne.mpr e).symm
theorem JaU (a b:Str):decide ((Sum.inr a:Key)=Sum.inr b)=decide (a=b):=by
 by_cases e:a=b
 ·subst e;simp
 ·have h:¬ (Sum.inr a:Key)=Sum.inr b:=fun q=>e (Sum.inr.inj q)
  rw [zh h,zh e]
theorem JaW (a:Int)(b:Str):decide ((Sum.inl a:Key)=Sum.inr b)=false:=zh (fun q=>nomatch q)
theorem JaV (a:Str)(b:Int):decide ((Sum.inr a:Key)=Sum.inl b)=false:=zh (fun q=>nomatch q)
def J0c (prog:Program)(w:World):PySem.KeyKind prog w Key where
 is:=J3a
 hash:=Jbx w
 inj := fun v a b ha hb=>by
  rcases JH ha with ⟨i,t,rfl,rfl⟩ | ⟨x,t,rfl,rfl⟩
  ·rcases JH hb with ⟨j,u,rfl,e⟩ | ⟨y,u,rfl,e⟩
   ·injection e with e1 _;rw [e1]
   ·exact nomatch e
  ·rcases JH hb with ⟨j,u,rfl,e⟩ | ⟨y,u,rfl,e⟩
   ·exact nomatch e
   ·injection e with e1 _;rw [e1]
 byValue:=fun k v h=>by
  rcases JH h with ⟨i,t,rfl,rfl⟩ | ⟨x,t,rfl,rfl⟩<;>rfl
 pyHash:=fun hv h=>by
  rcases JH hv with ⟨i,t,rfl,rfl⟩ | ⟨x,t,rfl,rfl⟩
  ·exact wpAny_pyHash_int h
  ·exact wpAny_pyHash_str h
 eqBool:=fun hu hv h=>by
  rcases JH hu with ⟨i,t,rfl,rfl⟩ | ⟨x,t,rfl,rfl⟩
  ·rcases JH hv with ⟨j,u,rfl,rfl⟩ | ⟨y,u,rfl,rfl⟩
   ·rw [JaX] at h;exact wpAny_eqBool_int h
   ·rw [JaW] at h;exact SeqAt.EqAt.int_str i t y u _ _ _ _ h
  ·rcases JH hv with ⟨j,u,rfl,rfl⟩ | ⟨y,u,rfl,rfl⟩
   ·rw [JaV] at h;exact SeqAt.EqAt.str_int x t j u _ _ _ _ h
   ·rw [JaU] at h;exact wpAny_eqBool_str h
 «strs»:=fun k x t v h=>by
  rcases JH h with ⟨i,u,rfl,e⟩ | ⟨y,u,rfl,e⟩
  ·exact nomatch e
  ·injection e with e1 _
   subst e1;cases v<;>rfl
theorem J5Y (prog:Program)(w:World)(i:Int)(t:Tok):(J0c prog w).is (.inl i) (.int i t)=true:=J7P i t
theorem J5X (prog:Program)(w:World)(x:Str)(t:Tok):(J0c prog w).is (.inr x) (.str x t)=true:=J7O x t
abbrev J1h:=Option Key
def nIs:J1h->Value->Bool
 | none,.none=>true
 | none,_=>false
 | some k,v=>J3a k v
def nH (w:World):J1h->Int
 | none=>reduceHash 0xFCA86420
 | some k=>Jbx w k
theorem J0m:∀ {k:J1h} {v:Value},nIs k v=true->(k=none/\v=Value.none)\/∃ q,k=some q/\J3a q v=true
 | none,v,h=>by cases v<;>first | exact .inl ⟨rfl,rfl⟩ | exact nomatch h
 | some k,v,h=>.inr ⟨k,rfl,h⟩
theorem J39 {q:Key}(h:J3a q Value.none=true):False:=by
 rcases JH h with ⟨_,_,_,e⟩ | ⟨_,_,_,e⟩<;>exact nomatch e
theorem J5R {prog:Program}{w:World}{A:Around}{E:Value->Shared->Prop}{s:Shared}{Q:Int->Shared->Prop}(h:Q (reduceHash 0xFCA86420) { s with toks:=s.toks+1 }):wpAny (model prog w) A (pyHash .none) Q E s :=
 PySem.W.pyHash_slot (T:="NoneType") rfl F.slot_NoneType_hash F.entry_NoneType_hash (F.args_NoneType_hash_1 _) (beq_builtin_none _) (.inl rfl) (za (zb (za (wpAny_mkInt (zb ⟨_,_,rfl,h⟩)))))
theorem J67 {prog:Program}{w:World}{A:Around}{E:Value->Shared->Prop}{s:Shared}{Q:Bool->Shared->Prop}(h:Q true s):wpAny (model prog w) A (eqBool .none .none) Q E s:=by
 unfold eqBool
 try with_reducible refine wpAny_holding ?_
 show wpAny _ _ (if (Value.none == Value.none)=true then _ else _) Q E s;rw [zd (by decide)];exact za (wpAny_rule (zb h))
def J2r (prog:Program)(w:World):PySem.KeyKind prog w J1h where
 is:=nIs
 hash:=nH w
 inj := fun v a b ha hb=>by
  rcases J0m ha with ⟨rfl,rfl⟩ | ⟨q,rfl,hq⟩
  ·rcases J0m hb with ⟨rfl,_⟩ | ⟨q',rfl,hq'⟩
   ·rfl
   ·exact (J39 hq').elim
  ·rcases J0m hb with ⟨rfl,rfl⟩ | ⟨q',rfl,hq'⟩
   ·exact (J39 hq).elim
   ·rw [(J0c prog w).inj v q q' hq hq']
 byValue:=fun k v h=>by
  rcases J0m h with ⟨rfl,rfl⟩ | ⟨q,rfl,hq⟩
  ·rfl
  ·exact (J0c prog w).byValue q v hq
 pyHash:=fun hv h=>by
  rcases J0m hv with ⟨rfl,rfl⟩ | ⟨q,rfl,hq⟩
  ·exact J5R h
  ·exact (J0c prog w).pyHash hq h
 eqBool:=fun {A E s a b u v Q} hu hv h=>by
  rcases J0m hu with ⟨rfl,rfl⟩ | ⟨q,rfl,hq⟩
  ·rcases J0m hv with ⟨rfl,rfl⟩ | ⟨q',rfl,hq'⟩
   ·exact J67 (by simpa using h)
   ·have h':Q false s:=by simpa using h
    rcases JH hq' with ⟨i,t,rfl,rfl⟩ | ⟨x,t,rfl,rfl⟩
    ·exact SeqAt.EqAt.none_int i t _ _ _ _ h'
    ·exact SeqAt.EqAt.none_str x t _ _ _ _ h'
  ·rcases J0m hv with ⟨rfl,rfl⟩ | ⟨q',rfl,hq'⟩
   ·have h':Q false s:=by simpa using h
    rcases JH hq with ⟨i,t,rfl,rfl⟩ | ⟨x,t,rfl,rfl⟩
    ·exact SeqAt.EqAt.int_none i t _ _ _ _ h'
    ·exact SeqAt.EqAt.str_none x t _ _ _ _ h'
   ·refine (J0c prog w).eqBool hq hq' ?_
    have e:decide ((some q:J1h)=some q')=decide (q=q'):=by simp
    rw [<- e];exact h
 «strs»:=fun k x t v h=>by
  rcases J0m h with ⟨rfl,e⟩ | ⟨q,rfl,hq⟩
  ·exact nomatch e
  ·exact (J0c prog w).strs q x t v hq
inductive V where
 | non | bl (b:Bool) | int (i:Int) | str (x:Str) | byt (b:Array UInt8) | flt (b:UInt64) | ref (a:Addr) | ty (n:String)
 deriving DecidableEq
def RelV:V->Value->Prop
 | .non,u=>u=Value.none
 | .bl b,u=>u=Value.bool b
 | .int i,u=>∃ t,u=Value.int i t
 | .str x,u=>∃ t,u=Value.str x t
 | .byt b,u=>∃ t,u=Value.bytes b t
 | .flt b,u=>∃ t,u=Value.float b t
 | .ref a,u=>u=Value.ref a
 | .ty n,u=>u=Value.type n
abbrev Vals:List V->List Value->Prop:=Paired RelV
theorem Vals.length {xs:List V}{us:List Value}(r:Vals xs us):xs.length=us.length:=Paired.length r
theorem Vals.get:∀ {xs:List V} {us:List Value} {i:Nat} {x:V},Vals xs us->xs[i]?=some x->∃ u,us[i]?=some u/\RelV x u
 | _,_,_,_,.nil,e=>by simp at e
 | _,_,0,_,.cons r _,e=>by simp at e;subst e;exact ⟨_,rfl,r⟩
 | _,_,i+1,x,.cons _ t,e=>by
   obtain ⟨u,h1,h2⟩:=Vals.get (i:=i) (x:=x) t (by simpa using e);exact ⟨u,by simpa using h1,h2⟩
theorem Vals.append:∀ {xs ys:List V} {us ws:List Value},Vals xs us->Vals ys ws->Vals (xs++ys) (us++ws)
 | _,_,_,_,.nil,s=>s
 | _,_,_,_,.cons r t,s=>.cons r (Vals.append t s)
theorem Vals.take:∀ {xs:List V} {us:List Value} (n:Nat),Vals xs us->Vals (xs.take n) (us.take n)
 | _,_,0,_=>.nil
 | _,_,_+1,.nil=>.nil
 | _,_,n+1,.cons r t=>.cons r (Vals.take n t)
theorem Vals.drop:∀ {xs:List V} {us:List Value} (n:Nat),Vals xs us->Vals (xs.drop n) (us.drop n)
 | _,_,0,r=>r
 | _,_,_+1,.nil=>.nil
 | _,_,n+1,.cons _ t=>Vals.drop n t
def RelO:Option V->Option Value->Prop
 | some v,some u=>RelV v u
 | none,none=>True
 | _,_=>False
def KV {κ:Type}:List (κ×V)->List (κ×Value)->Prop:=Paired fun (p:κ×V) (q:κ×Value)=>p.1=q.1/\RelV p.2 q.2
def kV:Key->V
 | .inl i=>.int i
 | .inr x=>.str x
def nV:J1h->V
 | none=>.non
 | some k=>kV k
inductive HO where
 | lst (xs:List V)
 | tup (xs:List V)
 | dK (kvs:List (Key×V)) | dT (kvs:List (List J1h×V))
 | set (S:Int->Bool) (n:Nat)
 | ins (C dx:Addr) (fs:List (Str×V))
 | own (x:Addr)
 | xd (fs:List (Str×V))
 | met (f x:Addr)
 | rng (lo hi:Int)
 | frz (o:Obj) (u:HO)
 | tbl (ps:Array Value)
 | ext (φ:Heap->Prop)
abbrev Hp:=Addr->Option HO
def upd (H:Hp)(a:Addr)(o:HO):Hp:=fun b=>if b=a then some o else H b
theorem Jd {H:Hp}{a:Addr}{o:HO}:upd H a o a=some o:=by unfold upd;rw [zd rfl]
theorem Jo {H:Hp}{a b:Addr}{o:HO}(h:b≠a):upd H a o b=H b:=by unfold upd;rw [zc h]
theorem J0K {H:Hp}{a:Addr}{o u:HO}:upd (upd H a o) a u=upd H a u:=by
 funext b;unfold upd;split<;>rfl
theorem JO {H:Hp}{a b:Addr}{o:HO}(h:H a=some o)(h':H b=none):a≠b:=by
 intro e;subst e;rw [h] at h';cases h'
section
variable (P:Program)(w:World)
def ObjOk (H:Hp)(h:Heap)(a:Addr):HO->Prop
 | .lst xs=>xs.length<=sizeLine/\∃ (its:List Value) (n:Nat),Vals xs its/\h.get? a=some { cls:=.type "list",data:=.seq its.toArray n }
 | .tup xs=>xs.length<=sizeLine/\∃ its:List Value,Vals xs its/\IsTup h a its.toArray
 | .dK kvs=>kvs.length<=sizeLine/\(a == sysModules)=false/\∃ vs,KV kvs vs/\h.DictOf (J0c P w) a vs
 | .dT kvs=>kvs.length<=sizeLine/\(a == sysModules)=false/\∃ xs:List (List J1h×Addr×Value),
  Paired (fun (p:List J1h×V) (q:List J1h×Addr×Value)=>p.1=q.1/\H q.2.1=some (.tup (p.1.map nV))/\RelV p.2 q.2.2) kvs xs /\
  ∃ o es ep,h.get? a=some o/\o.ExactDict/\o.data=.dict es ep/\es.toList=xs.map (entryOfKey (tupleKind (J2r P w)))/\(xs.map (·.1)).Nodup
 | .set S n=>h.SetOf (intKind P w) a S n
 | .ins C dx fs=>H dx=some (.own a)/\fs.length<=1000/\dx≠a/\h.get? a=some (PySem.W.instObj C dx) /\
  ∃ mA,h.Ns1 dx mA/\(∀ f,RelO (fs.lookup f) (mA f))/\PySem.Within mA (fs.map (·.1))
 | .own _=>∃ o,h.get? a=some o
 | .xd fs=>∃ mA,h.Ns1 a mA/\∀ f,RelO (fs.lookup f) (mA f)
 | .rng lo hi=>∃ t u v,h.get? a=some { cls:=.type "range",data:=.fields #[.int lo t,.int hi u,.int 1 v] }
 | .frz o u=>h.get? a=some o/\ObjOk H h a u
 | .tbl ps=>h.get? a=some { cls:=.none,data:=.fields ps }
 | .met f x=>h.get? a=some (PySem.W.methodObj (.ref f) (.ref x))
 | .ext φ=>φ h/\(∃ o,h.get? a=some o)/\∀ h1 h2:Heap,φ h1->(∀ o,h1.get? a=some o->h2.get? a=some o)->φ h2
def HOk (H:Hp)(h:Heap):Prop:=∀ a o,H a=some o->ObjOk P w H h a o
end
section
variable {P:Program}{w:World}{H H':Hp}{h h':Heap}{a:Addr}{o:HO}
theorem ObjOk.lt (x:ObjOk P w H h a o):a<h.objs.size:=by
 cases o with
 | lst xs=>obtain ⟨_,_,_,_,e⟩:=x;exact zS e
 | tup xs=>obtain ⟨_,_,_,p⟩:=x;exact p.lt
 | dK kvs=>obtain ⟨_,_,_,_,o,_,_,e,_⟩:=x;exact zS e
 | dT kvs=>obtain ⟨_,_,_,_,o,_,_,e,_⟩:=x;exact zS e
 | set S n=>obtain ⟨o,_,_,_,e,_⟩:=x;exact zS e
 | ins C dx fs=>obtain ⟨_,_,_,e,_⟩:=x;exact zS e
 | own y=>obtain ⟨_,e⟩:=x;exact zS e
 | xd fs=>obtain ⟨_,⟨_,_,_,e,_⟩,_⟩:=x;exact zS e
 | rng lo hi=>obtain ⟨_,_,_,e⟩:=x;exact zS e
 | frz ob u=>obtain ⟨e,_⟩:=x;exact zS e
 | tbl ps=>exact zS (show h.get? a=some _ from x)
 | met f y=>exact zS (show h.get? a=some _ from x)
 | ext φ=>obtain ⟨_,⟨_,e⟩,_⟩:=x;exact zS e
theorem Paired.mapP {α β:Type}{F G:α->β->Prop}:∀ {l₁:List α} {l₂:List β},Paired F l₁ l₂->(∀ a b,F a b->G a b)->Paired G l₁ l₂
 | _,_,.nil,_=>.nil
 | _,_,.cons r t,f=>.cons (f _ _ r) (Paired.mapP t f)
theorem ObjOk.stay (x:ObjOk P w H h a o)(k:∀ b u,(b=a\/H b=some (.own a))->h.get? b=some u->h'.get? b=some u)
 (ho:∀ b,H b=some (.own a)->H' b=some (.own a)) (ht:∀ b xs,H b=some (.tup xs)->H' b=some (.tup xs)):ObjOk P w H' h' a o:=by
 induction o with
 | lst xs=>obtain ⟨z,its,n,r,e⟩:=x;exact ⟨z,its,n,r,k _ _ (.inl rfl) e⟩
 | tup xs=>obtain ⟨z,its,r,ob,e,c⟩:=x;exact ⟨z,its,r,ob,k _ _ (.inl rfl) e,c⟩
 | dK kvs=>obtain ⟨z,y,vs,r,ob,es,ep,e,c⟩:=x;exact ⟨z,y,vs,r,ob,es,ep,k _ _ (.inl rfl) e,c⟩
 | dT kvs =>
   obtain ⟨z,y,xs,r,ob,es,ep,e,c⟩:=x;exact ⟨z,y,xs,Paired.mapP r fun p q z=>⟨z.1,ht _ _ z.2.1,z.2.2⟩,ob,es,ep,k _ _ (.inl rfl) e,c⟩
 | set S n=>obtain ⟨ob,es,ep,t,e,c⟩:=x;exact ⟨ob,es,ep,t,k _ _ (.inl rfl) e,c⟩
 | ins C dx fs =>
   obtain ⟨d,z,ne,e,mA,⟨od,es,ep,e2,c⟩,r⟩:=x;exact ⟨ho _ d,z,ne,k _ _ (.inl rfl) e,mA,⟨od,es,ep,k _ _ (.inr d) e2,c⟩,r⟩
 | own y=>obtain ⟨ob,e⟩:=x;exact ⟨ob,k _ _ (.inl rfl) e⟩
 | xd fs=>obtain ⟨mA,⟨od,es,ep,e,c⟩,r⟩:=x;exact ⟨mA,⟨od,es,ep,k _ _ (.inl rfl) e,c⟩,r⟩
 | rng lo hi=>obtain ⟨t,u,v,e⟩:=x;exact ⟨t,u,v,k _ _ (.inl rfl) e⟩
 | frz ob u ih=>obtain ⟨e,q⟩:=x;exact ⟨k _ _ (.inl rfl) e,ih q⟩
 | tbl ps =>
   have e:h.get? a=some { cls:=.none,data:=.fields ps }:=x;show h'.get? a=some { cls:=.none,data:=.fields ps };exact k a _ (.inl rfl) e
 | met f y =>
   have e:h.get? a=some (PySem.W.methodObj (.ref f) (.ref y)):=x;show h'.get? a=some (PySem.W.methodObj (.ref f) (.ref y));exact k a _ (.inl rfl) e
 | ext φ=>obtain ⟨p,⟨o,e⟩,st⟩:=x;exact ⟨st _ _ p fun o q=>k _ _ (.inl rfl) q,⟨o,k _ _ (.inl rfl) e⟩,st⟩
theorem HOk.lt (x:HOk P w H h)(e:H a=some o):a<h.objs.size:=(x a o e).lt
theorem HOk.fresh (x:HOk P w H h)(e:h.objs.size<=a):H a=none:=by
 cases q:H a with
 | none=>rfl
 | some u=>exact absurd (zm (x.lt q) e) (Nat.lt_irrefl _)
theorem HOk.kept (x:HOk P w H h)(k:∀ b u,h.get? b=some u->h'.get? b=some u):HOk P w H h':=fun a o e =>
 (x a o e).stay (fun b u _ q=>k b u q) (fun _ q=>q) fun _ _ q=>q
theorem HOk.laid (x:HOk P w H h)(k:∀ b u,h.get? b=some u->h'.get? b=some u)(hp:h.objs.size<=a)(new:ObjOk P w (upd H a o) h' a o):HOk P w (upd H a o) h':=fun b u e=>by
 have hn:=x.fresh hp;by_cases hb:b=a
 ·subst hb;rw [Jd] at e;cases e;exact new
 ·rw [Jo hb] at e
  exact (x b u e).stay (fun c v _ q=>k c v q) (fun c q=>by rw [Jo (JO q hn)];exact q) fun c xs q=>by rw [Jo (JO q hn)];exact q
end
def Rd (H:Hp)(a:Addr)(u:HO):Prop:=H a=some u\/∃ o,H a=some (.frz o u)
theorem Rd.ok {P:Program}{w:World}{H:Hp}{h:Heap}{a:Addr}{u:HO}(r:Rd H a u)(x:HOk P w H h):ObjOk P w H h a u:=by
 rcases r with r | ⟨o,r⟩
 ·exact x a u r
 ·obtain ⟨_,q⟩:=x a _ r
  exact q
def Mut:Option HO->Prop
 | some (.lst _)=>True
 | some (.dK _)=>True
 | some (.dT _)=>True
 | some (.set _ _)=>True
 | some (.ins _ _ _)=>True
 | some (.ext _)=>True
 | _=>False
section
variable {P:Program}{w:World}{H:Hp}{h h':Heap}{x e:Addr}{o':HO}
theorem HOk.write (ok:HOk P w H h)(mu:Mut (H x))(he:e=x\/H e=some (.own x))(k:∀ b u,b≠e->h.get? b=some u->h'.get? b=some u)(heo:∃ u,h'.get? e=some u)
 (new:ObjOk P w (upd H x o') h' x o'):HOk P w (upd H x o') h':=fun b u q=>by
 have nown:∀ c y,H c=some (.own y)->c≠x:=fun c y r z=>by subst z;rw [r] at mu;exact mu
 have ntup:∀ c xs,H c=some (.tup xs)->c≠x:=fun c xs r z=>by subst z;rw [r] at mu;exact mu
 by_cases hb:b=x
 ·subst hb;rw [Jd] at q;cases q;exact new
 ·rw [Jo hb] at q
  by_cases hbe:b=e
  ·have q':H b=some (.own x):=by
    rcases he with z | z
    ·exact absurd (hbe.trans z) hb
    ·rw [hbe];exact z
   rw [q] at q';cases q';obtain ⟨v,hv⟩:=heo;exact ⟨v,by rw [hbe];exact hv⟩
  ·refine (ok b u q).stay (fun c v hc r=>k c v ?_ r) (fun c r=>by rw [Jo (nown c b r)];exact r) fun c xs r=>by rw [Jo (ntup c xs r)];exact r
   rcases hc with rfl | hc
   ·exact hbe
   ·rintro rfl
    rcases he with z | z
    ·exact nown c b hc z
    ·rw [hc] at z;cases z;exact hb rfl
end
structure Un (fs ex:List Addr)(H H':Hp)(h h':Heap):Prop where
 keep:∀ b o,h.get? b=some o->H b=none->b∉fs->b∉ex->h'.get? b=some o
 slot:∀ b o,h.get? b=some o->H b=none->b∈fs->b∉ex->∃ sl,h'.get? b=some { o with slots:=sl }
 free:∀ b o,h.get? b=some o->H b=none->b∉ex->H' b=none
 there:∀ b o,h.get? b=some o->b∉ex->∃ o',h'.get? b=some o'
 tups:∀ b xs,H b=some (.tup xs)->H' b=some (.tup xs)
 frzs:∀ b o u,H b=some (.frz o u)->H' b=some (.frz o u)
 tbls:∀ b ps,H b=some (.tbl ps)->∃ more,H' b=some (.tbl (ps++more))
section
variable {fs fs' ex ex':List Addr}{H H1 H2:Hp}{h h1 h2 h':Heap}{a x e:Addr}{o:HO}
theorem Un.any (u:Un fs ex H H1 h h1){b:Addr}{ob:Obj}(q:h.get? b=some ob)(n:H b=none)(hx:b∉ex):∃ sl,h1.get? b=some { ob with slots:=sl }:=by
 by_cases hb:b∈fs
 ·exact u.slot b ob q n hb hx
 ·exact ⟨ob.slots,u.keep b ob q n hb hx⟩
theorem Un.kept (k:∀ b u,h.get? b=some u->h'.get? b=some u):Un fs ex H H h h' :=
 ⟨fun b ob q _ _ _=>k b ob q,fun b ob q _ _ _=>⟨ob.slots,k b ob q⟩,fun _ _ _ n _=>n,fun b ob q _=>⟨ob,k b ob q⟩,fun _ _ q=>q,fun _ _ _ q=>q,fun _ ps q=>⟨#[],by rw [q];simp⟩⟩
theorem Un.refl:Un fs ex H H h h:=Un.kept fun _ _ q=>q
theorem Un.laid (k:∀ b u,h.get? b=some u->h'.get? b=some u)(hp:h.objs.size<=a)(hn:H a=none):Un fs ex H (upd H a o) h h' where
 keep:=fun b u q _ _ _=>k b u q
 slot:=fun b u q _ _ _=>⟨u.slots,k b u q⟩
 free:=fun b u q n _=>by rw [Jo (zj (zm (zS q) hp))];exact n
 there:=fun b u q _=>⟨u,k b u q⟩
 tups:=fun b xs q=>by rw [Jo (JO q hn)];exact q
 frzs:=fun b u xs q=>by rw [Jo (JO q hn)];exact q
 tbls:=fun b ps q=>⟨#[],by rw [Jo (JO q hn),q];simp⟩
theorem Un.write (mu:Mut (H x))(he:e=x\/H e=some (.own x))(k:∀ b u,b≠e->h.get? b=some u->h'.get? b=some u)(heo:∃ u,h'.get? e=some u):Un fs ex H (upd H x o) h h':=by
 have hx:∀ b,H b=none->b≠x:=fun b n z=>by subst z;rw [n] at mu;exact mu
 have hb:∀ b,H b=none->b≠e:=fun b n z=>by
  subst z;rcases he with r | r
  ·exact hx b n r
  ·rw [n] at r;cases r
 have hm:∀ b u,H b=some u->¬ Mut (some u)->b≠x:=fun b u q nm z=>by subst z;rw [q] at mu;exact nm mu
 refine ⟨fun b u q n _ _=>k b u (hb b n) q,fun b u q n _ _=>⟨u.slots,k b u (hb b n) q⟩,fun b u q n _=>by rw [Jo (hx b n)];exact n,fun b u q _=>?_,
  fun b xs q=>by rw [Jo (hm b _ q fun z=>z)];exact q,fun b u xs q=>by rw [Jo (hm b _ q fun z=>z)];exact q,fun b ps q=>⟨#[],by rw [Jo (hm b _ q fun z=>z),q];simp⟩⟩
 by_cases hbe:b=e
 ·subst hbe;exact heo
 ·exact ⟨u,k b u hbe q⟩
end
def trk (h:Heap)(H:Hp):List Addr:=(List.range h.objs.size).filter fun a=>(H a).isSome
def J5s (h:Heap)(H:Hp):Heap:=PySem.W.hideAll h (trk h H)
theorem J7T (h:Heap)(H:Hp):(J5s h H).objs.size=h.objs.size:=PySem.W.hideAll_size _ _
theorem J92 {h:Heap}{H:Hp}{b:Addr}{o:Obj}(e:h.get? b=some o)(n:H b=none):(J5s h H).get? b=some o :=
 PySem.W.hideAll_get _ e fun hm=>by
  have q:(H b).isSome=true:=(mem_filter.mp hm).2;rw [n] at q;simp at q
theorem J9N {h:Heap}{H:Hp}{b:Addr}{o:Obj}(e:(J5s h H).get? b=some o):h.get? b=some o/\H b=none:=by
 have e':h.get? b=some o:=PySem.W.of_hideAll (trk h H) e;refine ⟨e',?_⟩;cases q:H b with
 | none=>rfl
 | some x =>
   have hm:b∈trk h H:=mem_filter.mpr ⟨mem_range.mpr (zS e'),by simp [q]⟩;have z:(J5s h H).get? b=none:=PySem.W.hideAll_none (trk h H) hm;rw [z] at e;cases e
structure Mod (K:Frag)(mg:Str->Option Value)(base:Heap):Prop where
 kin:K.In base
 glob:base.Ns mainGlobals mg
 blt:∃ mb,base.Ns builtinsNs mb/\∀ x:Str,x≠"__name__"->mb x=bootBuiltins x
 nolimit:base.NoLimit
structure Cx where
 prog:Program
 w:World
 K:Frag
 mg:Str->Option Value
 base:Heap
 A:Around
 N:List Str
 s₀:Shared
 H₀:Hp
 env:Env
 outer:List Env
 stack:List Env
 ex:List Addr
 fn:Str->Bool
 calm:Bool
 pn:List (Addr×Obj)
 xe:Value->Shared->Prop
def frs (l:List Env):List Addr:=l.filterMap (·.frame)
abbrev Cx.fs (X:Cx):List Addr:=frs X.outer
def Vis (sc:Scope)(x:Str):Prop:=sc.names.lookup x=some .local\/sc.names.lookup x=some .cell\/sc.names.lookup x=some .free
def Loc (sc:Scope)(x:Str):Prop:=sc.names.lookup x=some .local\/sc.names.lookup x=some .cell
def JbV (env:Env)(h:Heap)(m:Str->Option Value)(x:Str)(u:Value):Prop :=
 (env.kindOf x=some .local/\m x=some u)\/((env.kindOf x=some .cell\/env.kindOf x=some .free)/\∃ c,env.cells.lookup x=some c/\h.IsCell c (some u))
structure Cx.Ok (X:Cx):Prop where
 mod:Mod X.K X.mg X.base
 kind:X.env.scope.kind=.function
 glob:X.env.globals=mainGlobals
 blt:X.env.builtins=builtinsNs
 above:X.s₀.heap.objs.size<=X.env.locals
 inj:∀ x y c,X.env.cells.lookup x=some c->X.env.cells.lookup y=some c->x=y
 has:∀ x,(X.env.kindOf x=some .cell\/X.env.kindOf x=some .free)->∃ c,X.env.cells.lookup x=some c
 cab:∀ x c,X.fn x=true->X.env.cells.lookup x=some c->X.s₀.heap.objs.size<=c
 hd:X.calm=true->X.A.handled=none
 frames:X.A.frames=some X.stack
 stk:X.stack=X.outer\/(X.stack=X.env::X.outer/\X.env.frame=some X.env.locals)
 exf:∀ b∈X.ex,b≠X.env.locals/\∀ x c,X.env.cells.lookup x=some c->c≠b
 bs:∀ b o,X.base.get? b=some o->X.s₀.heap.get? b=some o/\X.H₀ b=none
 bsz:X.base.objs.size<=X.s₀.heap.objs.size
 noex:∀ b o,X.base.get? b=some o->b∉X.ex
 exfs:∀ b∈X.ex,b∉X.fs
 funs:X.s₀.heap.FunFrames X.base X.outer
 frf:∀ b∈X.fs,X.H₀ b=none
structure Inv (X:Cx)(pins:List (Addr×Obj))(σ:List (Option V))(H:Hp)(s:Shared):Prop where
 ok:X.Ok
 os:s.os=X.s₀.os
 bare:AllBare s.gens
 base:Un X.fs X.ex X.H₀ H X.s₀.heap s.heap
 loc:∃ m,s.heap.Ns X.env.locals m/\∀ (i:Nat) (x:Str) (v:V),X.N[i]?=some x->σ[i]?=some (some v)->Vis X.env.scope x->∃ u,RelV v u/\JbV X.env s.heap m x u
 cell:∀ x c,X.env.cells.lookup x=some c->∃ v,s.heap.IsCell c v
 free:H X.env.locals=none
 freeC:∀ x c,X.env.cells.lookup x=some c->H c=none
 pin:∀ p∈X.pn++pins,s.heap.get? p.1=some p.2/\H p.1=none/\p.1≠X.env.locals/\p.1∉X.fs/\∀ v,p.2.data≠.cell v
 hok:HOk X.prog X.w H s.heap
 len:σ.length=X.N.length
section
variable {X:Cx}{pins:List (Addr×Obj)}{σ:List (Option V)}{H H':Hp}{s:Shared}{h':Heap}
theorem Cx.Ok.nofr (ok:X.Ok){b:Addr}{o:Obj}(e:X.base.get? b=some o):b∉X.fs:=fun hb=>by
 have:=(ok.funs.mem hb).1;rw [e] at this;cases this
theorem Inv.bs (I:Inv X pins σ H s):∀ b o,X.base.get? b=some o->s.heap.get? b=some o/\H b=none:=fun b o e =>
 ⟨I.base.keep b o (I.ok.bs b o e).1 (I.ok.bs b o e).2 (I.ok.nofr e) (I.ok.noex b o e),I.base.free b o (I.ok.bs b o e).1 (I.ok.bs b o e).2 (I.ok.noex b o e)⟩
theorem Inv.bk (I:Inv X pins σ H s):∀ b o,X.base.get? b=some o->s.heap.get? b=some o:=fun b o e=>(I.bs b o e).1
theorem Inv.mod (I:Inv X pins σ H s):Mod X.K X.mg X.base:=I.ok.mod
theorem Inv.kIn (I:Inv X pins σ H s):X.K.In s.heap:=I.ok.mod.kin.keeps I.bk
theorem Inv.nolimit (I:Inv X pins σ H s):s.heap.NoLimit:=I.ok.mod.nolimit.keeps I.bk
theorem Inv.lt (I:Inv X pins σ H s):X.env.locals<s.heap.objs.size:=let ⟨_,hn,_⟩:=I.loc;hn.lt
theorem Inv.sz (I:Inv X pins σ H s):X.s₀.heap.objs.size<=s.heap.objs.size:=zo I.ok.above (Nat.le_of_lt I.lt)
theorem Inv.nofs (I:Inv X pins σ H s){a:Addr}(h:s.heap.objs.size<=a):a∉X.fs:=fun hb=>by
 obtain ⟨_,o,ho,_⟩:=I.ok.funs.mem hb;exact absurd (zm (zS ho) (zo I.sz h)) (Nat.lt_irrefl _)
theorem Inv.cne (I:Inv X pins σ H s):∀ x c,X.env.cells.lookup x=some c->c≠X.env.locals:=fun x c e z=>by
 obtain ⟨v,o,ho,hd⟩:=I.cell x c e;obtain ⟨m,⟨o',es,ep,ho',hd',_⟩,_⟩:=I.loc;rw [z,ho'] at ho;cases ho;rw [hd'] at hd;cases hd
theorem Inv.funs (I:Inv X pins σ H s):s.heap.FunFrames X.base X.outer:=by
 have all:∀ (l:List Env),(∀ b∈frs l,b∈X.fs)->X.s₀.heap.FunFrames X.base l->s.heap.FunFrames X.base l:=by
  intro l
  induction l with
  | nil=>intro _ _;trivial
  | cons env r ih =>
    intro hs hl;obtain ⟨hk,⟨L,o,hf,hn,ho,hd⟩,hr⟩:=hl;have hL:L∈X.fs:=hs L (by unfold frs;rw [filterMap_cons,hf];exact zB);obtain ⟨sl,e⟩:=I.base.slot L o ho (I.ok.frf L hL) hL fun z=>I.ok.exfs L z hL;exact ⟨hk,⟨L,_,hf,hn,e,hd⟩,ih (fun b hb=>hs b (by unfold frs;rw [filterMap_cons,hf];exact zA _ hb)) hr⟩
 exact all X.outer (fun _ hb=>hb) I.ok.funs
theorem Inv.stack (I:Inv X pins σ H s):s.heap.FunFrames X.base X.stack:=by
 rcases I.ok.stk with e | ⟨e,hf⟩
 ·rw [e];exact I.funs
 ·rw [e]
  obtain ⟨m,hn,_⟩:=I.loc;refine .cons (by rw [I.ok.kind];decide) hf hn ?_ I.funs;exact Heap.get?_none_of_le (zo I.ok.bsz I.ok.above)
theorem Inv.stkSub (I:Inv X pins σ H s):∀ b∈frs X.stack,b∈X.env.locals::X.fs:=fun b hb=>by
 rcases I.ok.stk with e | ⟨e,hf⟩
 ·rw [e] at hb;exact zA _ hb
 ·rw [e] at hb
  unfold frs at hb;rw [filterMap_cons,hf] at hb;exact hb
theorem Inv.stkFree (I:Inv X pins σ H s):∀ b∈frs X.stack,H b=none:=fun b hb=>by
 rcases zC.mp (I.stkSub b hb) with e | hb
 ·rw [e];exact I.free
 ·obtain ⟨_,o,ho,_⟩:=I.ok.funs.mem hb
  exact I.base.free b o ho (I.ok.frf b hb) fun z=>I.ok.exfs b z hb
theorem Inv.step {g':Array GenState}{t':Nat}{d':Drawn}{ch:List Addr}(I:Inv X pins σ H s)
 (hch:∀ b∈ch,(b∈X.ex\/X.s₀.heap.objs.size<=b)/\b≠X.env.locals/\(∀ x c,X.env.cells.lookup x=some c->c≠b)/\∀ p∈X.pn++pins,p.1≠b)
 (keep:∀ b o,b≠X.env.locals->b∉X.fs->b∉ch->s.heap.get? b=some o->H b=none->h'.get? b=some o)
 (slot:∀ b o,b≠X.env.locals->b∈X.fs->b∉ch->s.heap.get? b=some o->H b=none->∃ sl,h'.get? b=some { o with slots:=sl }) (free:∀ b o,b∉ch->s.heap.get? b=some o->H b=none->H' b=none)
 (there:∀ b o,b∉ch->s.heap.get? b=some o->∃ o',h'.get? b=some o')
 (tups:∀ b xs,H b=some (.tup xs)->H' b=some (.tup xs)) (frzs:∀ b o u,H b=some (.frz o u)->H' b=some (.frz o u)) (tbls:∀ b ps,H b=some (.tbl ps)->∃ more,H' b=some (.tbl (ps++more)))
 (ns:∀ m,s.heap.Ns X.env.locals m->h'.Ns X.env.locals m) (hok:HOk X.prog X.w H' h') (hg:AllBare g') :
 Inv X pins σ H' { s with heap:=h',gens:=g',drawn:=d',toks:=t' }:=by
 have neL:∀ b o,X.s₀.heap.get? b=some o->b≠X.env.locals:=fun b o e=>zj (zm (zS e) I.ok.above);have neC:∀ b o,X.s₀.heap.get? b=some o->b∉X.ex->b∉ch:=fun b o e hx hb=>by
  rcases (hch b hb).1 with z | z
  ·exact hx z
  ·exact absurd (zm (zS e) z) (Nat.lt_irrefl _)
 have cellK:∀ x c,X.env.cells.lookup x=some c->∀ v,s.heap.IsCell c v->h'.IsCell c v:=fun x c e v ⟨o,ho,hd⟩=>by
  have nch:c∉ch:=fun z=>(hch c z).2.2.1 x c e rfl;by_cases hc:c∈X.fs
  ·obtain ⟨sl,q⟩:=slot c o (I.cne x c e) hc nch ho (I.freeC x c e)
   exact ⟨_,q,hd⟩
  ·exact ⟨o,keep c o (I.cne x c e) hc nch ho (I.freeC x c e),hd⟩
 refine ⟨I.ok,I.os,hg,⟨fun b o e n hb hx=>?_,fun b o e n hb hx=>?_,fun b o e n hx=>?_,fun b o e hx=>?_,fun b xs e=>tups b xs (I.base.tups b xs e),fun b o xs e=>frzs b o xs (I.base.frzs b o xs e),fun b ps e=>?_⟩,?_,fun x c e=>?_,?_,fun x c e=>?_,fun p hp=>?_,hok,I.len⟩
 ·exact keep b o (neL b o e) hb (neC b o e hx) (I.base.keep b o e n hb hx) (I.base.free b o e n hx)
 ·obtain ⟨sl,e1⟩:=I.base.slot b o e n hb hx
  obtain ⟨sl',e2⟩:=slot b _ (neL b o e) hb (neC b o e hx) e1 (I.base.free b o e n hx);exact ⟨sl',e2⟩
 ·obtain ⟨o',e1⟩:=I.base.there b o e hx
  exact free b o' (neC b o e hx) e1 (I.base.free b o e n hx)
 ·obtain ⟨o',e1⟩:=I.base.there b o e hx
  exact there b o' (neC b o e hx) e1
 ·obtain ⟨m1,e1⟩:=I.base.tbls b ps e
  obtain ⟨m2,e2⟩:=tbls b _ e1;exact ⟨m1++m2,by rw [e2,Array.append_assoc]⟩
 ·obtain ⟨m,hn,hl⟩:=I.loc
  refine ⟨m,ns m hn,fun i x v e1 e2 e3=>?_⟩;obtain ⟨u,r,l⟩:=hl i x v e1 e2 e3;refine ⟨u,r,?_⟩;rcases l with l | ⟨k,c,e,z⟩
  ·exact .inl l
  ·exact .inr ⟨k,c,e,cellK x c e _ z⟩
 ·obtain ⟨v,z⟩:=I.cell x c e
  exact ⟨v,cellK x c e v z⟩
 ·obtain ⟨m,⟨o,_,_,ho,_⟩,_⟩:=I.loc
  exact free _ o (fun z=>(hch _ z).2.1 rfl) ho I.free
 ·obtain ⟨v,o,ho,hd⟩:=I.cell x c e
  exact free c o (fun z=>(hch c z).2.2.1 x c e rfl) ho (I.freeC x c e)
 ·obtain ⟨e,n,ne,nf,d⟩:=I.pin p hp
  have nch:p.1∉ch:=fun z=>(hch p.1 z).2.2.2 p hp rfl;exact ⟨keep p.1 p.2 ne nf nch e n,free p.1 p.2 nch e n,ne,nf,d⟩
theorem Inv.un {t':Nat}(I:Inv X pins σ H s)(u:Un X.fs [] H H' s.heap h')(hok:HOk X.prog X.w H' h'):Inv X pins σ H' { s with heap:=h',toks:=t' }:=by
 obtain ⟨m,⟨o,es,ep,ho,r⟩,_⟩:=id I.loc;obtain ⟨sl,hL⟩:=u.any ho I.free (by simp);exact I.step (g':=s.gens) (d':=s.drawn) (ch:=[]) (fun _ z=>nomatch z) (fun b o _ hb _ e n=>u.keep b o e n hb (by simp)) (fun b o _ hb _ e n=>u.slot b o e n hb (by simp)) (fun b o _ e n=>u.free b o e n (by simp)) (fun b o _ e=>u.there b o e (by simp)) u.tups u.frzs u.tbls (fun m' hm=>by
  obtain ⟨o',es',ep',ho',r'⟩:=hm;rw [ho] at ho';cases ho';exact ⟨_,es',ep',hL,r'⟩) hok I.bare
theorem Inv.call {g':Array GenState}{t':Nat}{d':Drawn}{ch:List Addr}(I:Inv X pins σ H s)(u:Un (frs X.stack) ch H H' s.heap h')(hok:HOk X.prog X.w H' h')(hg:AllBare g')
 (hch:∀ b∈ch,(b∈X.ex\/X.s₀.heap.objs.size<=b)/\b≠X.env.locals/\(∀ x c,X.env.cells.lookup x=some c->c≠b)/\∀ p∈X.pn++pins,p.1≠b) :
 Inv X pins σ H' { s with heap:=h',gens:=g',drawn:=d',toks:=t' }:=by
 obtain ⟨m,⟨o,es,ep,ho,r⟩,_⟩:=id I.loc;obtain ⟨sl,hL⟩:=u.any ho I.free fun z=>(hch _ z).2.1 rfl;exact I.step (ch:=ch) hch (fun b o hL hb hc e n=>u.keep b o e n (fun z=>(zC.mp (I.stkSub b z)).elim hL hb) hc) (fun b o _ _ hc e n=>u.any e n hc) (fun b o hc e n=>u.free b o e n hc) (fun b o hc e=>u.there b o e hc) u.tups u.frzs u.tbls (fun m' hm=>by
  obtain ⟨o',es',ep',ho',r'⟩:=hm;rw [ho] at ho';cases ho';exact ⟨_,es',ep',hL,r'⟩) hok hg
theorem Inv.turned {t':Nat}{it:Addr}(I:Inv X pins σ H s)(k:∀ b o,b≠it->s.heap.get? b=some o->h'.get? b=some o)(hn:H it=none)(hL:it≠X.env.locals)
 (h1:it∈X.ex\/X.s₀.heap.objs.size<=it) (h2:∀ x c,X.env.cells.lookup x=some c->c≠it) (h3:∀ p∈X.pn++pins,p.1≠it):Inv X pins σ H { s with heap:=h',toks:=t' }:=by
 have nit:∀ b u,H b=some u->b≠it:=fun b u e z=>by rw [z,hn] at e;cases e
 refine I.step (g':=s.gens) (d':=s.drawn) (ch:=[it]) (fun b hb=>?_) (fun b o _ _ hc e _=>k b o (fun z=>hc (by simp [z])) e) (fun b o _ _ hc e _=>⟨o.slots,k b o (fun z=>hc (by simp [z])) e⟩) (fun _ _ _ _ n=>n)
  (fun b o hc e=>⟨o,k b o (fun z=>hc (by simp [z])) e⟩) (fun _ _ e=>e) (fun _ _ _ e=>e) (fun b ps e=>⟨#[],by rw [e];simp⟩) (fun m hm=>?_) (fun b u e=>?_) I.bare
 ·have e:b=it:=by simpa using hb
  subst e;exact ⟨h1,hL,h2,h3⟩
 ·obtain ⟨o,es,ep,ho,r⟩:=hm
  exact ⟨o,es,ep,k _ o (Ne.symm hL) ho,r⟩
 ·refine (I.hok b u e).stay (fun c v hc q=>k c v ?_ q) (fun _ q=>q) fun _ _ q=>q
  rcases hc with z | z
  ·rw [z];exact nit b u e
  ·exact nit c _ z
theorem Inv.tok (I:Inv X pins σ H s)(t:Nat):Inv X pins σ H { s with toks:=t }:=I.un (h':=s.heap) (t':=t) Un.refl I.hok
theorem Inv.kept {t':Nat}(I:Inv X pins σ H s)(k:∀ b u,s.heap.get? b=some u->h'.get? b=some u):Inv X pins σ H { s with heap:=h',toks:=t' }:=I.un (Un.kept k) (I.hok.kept k)
theorem Inv.laid {a:Addr}{o:HO}{t':Nat}(I:Inv X pins σ H s)(k:∀ b u,s.heap.get? b=some u->h'.get? b=some u)(hp:s.heap.objs.size<=a)(new:ObjOk X.prog X.w (upd H a o) h' a o) :
 Inv X pins σ (upd H a o) { s with heap:=h',toks:=t' }:=I.un (Un.laid k hp (I.hok.fresh hp)) (I.hok.laid k hp new)
theorem Inv.write {x e:Addr}{o:HO}{t':Nat}(I:Inv X pins σ H s)(mu:Mut (H x))(he:e=x\/H e=some (.own x))(k:∀ b u,b≠e->s.heap.get? b=some u->h'.get? b=some u)(heo:∃ u,h'.get? e=some u)
 (new:ObjOk X.prog X.w (upd H x o) h' x o):Inv X pins σ (upd H x o) { s with heap:=h',toks:=t' }:=I.un (Un.write mu he k heo) (I.hok.write mu he k heo new)
theorem Inv.pins_of {pins':List (Addr×Obj)}(I:Inv X pins σ H s)(h:∀ p∈pins',s.heap.get? p.1=some p.2/\H p.1=none/\p.1≠X.env.locals/\p.1∉X.fs/\∀ v,p.2.data≠.cell v):Inv X pins' σ H s :=
 ⟨I.ok,I.os,I.bare,I.base,I.loc,I.cell,I.free,I.freeC,fun p hp=>(zH.mp hp).elim (fun z=>I.pin p (zJ _ z)) (h p),I.hok,I.len⟩
theorem J38 {N:List Str}(hN:N.Nodup){i j:Nat}{x:Str}(a:N[i]?=some x)(b:N[j]?=some x):i=j:=by
 obtain ⟨h1,e1⟩:=zt.mp a;obtain ⟨h2,e2⟩:=zt.mp b;exact (getElem_inj hN).mp (e1.trans e2.symm)
theorem store_ok2 {M:Model}{A:Around}{E:Value->Shared->Prop}{i:Nat}{x:Str}{v:V}{u:Value}{Q:Unit->Shared->Prop}(I:Inv X pins σ H s)(hN:X.N.Nodup)(hi:X.N[i]?=some x)(hx:Loc X.env.scope x)(r:RelV v u)
 (h:∀ s',Inv X pins (σ.set i (some v)) H s'->(∃ a,Heap.SameBut a s.heap s'.heap/\(a=X.env.locals\/X.env.cells.lookup x=some a))->Q () s') (hf:X.fn x=true\/X.env.scope.names.lookup x=some .local:=by first | exact .inl rfl | exact .inr rfl | assumption):wpAny M A (storeName X.env x u) Q E s:=by
 obtain ⟨m,hn,hl⟩:=id I.loc;have hcls:(X.env.scope.kind == .class||(X.env.scope.kind == .module&&X.env.locals != X.env.globals))=false:=by rw [I.ok.kind];rfl
 have hiσ:i<σ.length:=by rw [I.len];exact (zt.mp hi).1
 have cne:=I.cne;have tracked:∀ {a:Addr} {h':Heap},(∃ o,s.heap.get? a=some o/\H a=none)->Heap.SameBut a s.heap h'->HOk X.prog X.w H h':=fun {a h'} ha hs b ob e=>by
  obtain ⟨_,_,hfree⟩:=ha;refine (I.hok b ob e).stay (fun c w' hc q=>(hs.2 c ?_).trans q) (fun _ q=>q) fun _ _ q=>q;rintro rfl;rcases hc with rfl | hc
  ·rw [hfree] at e;cases e
  ·rw [hfree] at hc;cases hc
 rcases hx with hk | hk
 ·refine wpAny_storeName_local hk hn (fun h' hn' hs=>?_) hcls
  obtain ⟨oL,_,_,hoL,_⟩:=id hn;refine h _ ⟨I.ok,I.os,I.bare,⟨fun b o e n hb hx=>?_,fun b o e n hb hx=>?_,I.base.free,fun b o e hx=>?_,I.base.tups,I.base.frzs,I.base.tbls⟩,⟨_,hn',fun j y v' e1 e2 e3=>?_⟩,fun y c e=>?_,I.free,I.freeC,fun p hp=>?_,tracked ⟨oL,hoL,I.free⟩ hs,by simpa using I.len⟩ ⟨_,hs,.inl rfl⟩
  ·exact (hs.2 b (zj (zm (zS e) I.ok.above))).trans (I.base.keep b o e n hb hx)
  ·obtain ⟨sl,e1⟩:=I.base.slot b o e n hb hx
   exact ⟨sl,(hs.2 b (zj (zm (zS e) I.ok.above))).trans e1⟩
  ·obtain ⟨o',e1⟩:=I.base.there b o e hx
   exact ⟨o',(hs.2 b (zj (zm (zS e) I.ok.above))).trans e1⟩
  ·by_cases hj:j=i
   ·subst hj
    rw [hi] at e1;cases e1;rw [List.getElem?_set_self hiσ] at e2;cases e2;exact ⟨u,r,.inl ⟨hk,by simp⟩⟩
   ·rw [List.getElem?_set_ne (Ne.symm hj)] at e2
    obtain ⟨u',r',q⟩:=hl j y v' e1 e2 e3;refine ⟨u',r',?_⟩;rcases q with ⟨k,e⟩ | ⟨k,c,e,z⟩
    ·refine .inl ⟨k,?_⟩
     have:y≠x:=fun e=>hj (J38 hN e1 (e ▸ hi));simp [this,e]
    ·exact .inr ⟨k,c,e,z.sameBut hs (cne y c e)⟩
  ·obtain ⟨w',z⟩:=I.cell y c e
   exact ⟨w',z.sameBut hs (cne y c e)⟩
  ·obtain ⟨e,n,ne,nf,d⟩:=I.pin p hp
   exact ⟨(hs.2 p.1 ne).trans e,n,ne,nf,d⟩
 ·have hfn:X.fn x=true:=by
   rcases hf with z | z
   ·exact z
   ·rw [z] at hk;cases hk
  obtain ⟨c,hc⟩:=I.ok.has x (.inl hk);obtain ⟨w',z⟩:=I.cell x c hc;refine wpAny_storeName_cell I.ok.kind hk hc z (fun h' hc' hs=>?_);obtain ⟨oc,hoc,hocd⟩:=id z;refine h { s with heap:=h' } ⟨I.ok,I.os,I.bare,⟨fun b o e n hb hx=>?_,fun b o e n hb hx=>?_,I.base.free,fun b o e hx=>?_,I.base.tups,I.base.frzs,I.base.tbls⟩,⟨m,hn.sameBut hs (Ne.symm (cne x c hc)),fun j y v' e1 e2 e3=>?_⟩,fun y c' e=>?_,I.free,I.freeC,fun p hp=>?_,tracked ⟨oc,hoc,I.freeC x c hc⟩ hs,by simpa using I.len⟩ ⟨c,hs,.inr hc⟩
  ·exact (hs.2 b (zj (zm (zS e) (I.ok.cab x c hfn hc)))).trans (I.base.keep b o e n hb hx)
  ·obtain ⟨sl,e1⟩:=I.base.slot b o e n hb hx
   exact ⟨sl,(hs.2 b (zj (zm (zS e) (I.ok.cab x c hfn hc)))).trans e1⟩
  ·obtain ⟨o',e1⟩:=I.base.there b o e hx
   exact ⟨o',(hs.2 b (zj (zm (zS e) (I.ok.cab x c hfn hc)))).trans e1⟩
  ·by_cases hj:j=i
   ·subst hj
    rw [hi] at e1;cases e1;rw [List.getElem?_set_self hiσ] at e2;cases e2;exact ⟨u,r,.inr ⟨.inl hk,c,hc,hc'⟩⟩
   ·rw [List.getElem?_set_ne (Ne.symm hj)] at e2
    obtain ⟨u',r',q⟩:=hl j y v' e1 e2 e3;refine ⟨u',r',?_⟩;rcases q with q | ⟨k,c',e,z'⟩
    ·exact .inl q
    ·refine .inr ⟨k,c',e,z'.sameBut hs ?_⟩
     rintro rfl;exact hj (J38 hN e1 (I.ok.inj _ _ _ e hc ▸ hi))
  ·by_cases hcc:c'=c
   ·subst hcc;exact ⟨_,hc'⟩
   ·obtain ⟨w2,z2⟩:=I.cell y c' e
    exact ⟨w2,z2.sameBut hs hcc⟩
  ·obtain ⟨e,n,ne,nf,d⟩:=I.pin p hp
   refine ⟨(hs.2 p.1 ?_).trans e,n,ne,nf,d⟩;intro q;rw [q,hoc] at e;have q':oc=p.2:=zi e;exact d w' (by rw [<- q'];exact hocd)
theorem J2Z {M:Model}{A:Around}{E:Value->Shared->Prop}{i:Nat}{x:Str}{v:V}{u:Value}{Q:Unit->Shared->Prop}(I:Inv X pins σ H s)(hN:X.N.Nodup)(hi:X.N[i]?=some x)(hx:Loc X.env.scope x)(r:RelV v u)
 (h:∀ s',Inv X pins (σ.set i (some v)) H s'->Q () s') (hf:X.fn x=true\/X.env.scope.names.lookup x=some .local:=by first | exact .inl rfl | exact .inr rfl | assumption):wpAny M A (storeName X.env x u) Q E s :=
 store_ok2 I hN hi hx r (fun s' I' _=>h s' I') hf
theorem Inv.call' {s':Shared}{ch:List Addr}(I:Inv X pins σ H s)(ho:s'.os=s.os)(u:Un (frs X.stack) ch H H' s.heap s'.heap)(hok:HOk X.prog X.w H' s'.heap)(hg:AllBare s'.gens)
 (hch:∀ b∈ch,(b∈X.ex\/X.s₀.heap.objs.size<=b)/\b≠X.env.locals/\(∀ x c,X.env.cells.lookup x=some c->c≠b)/\∀ p∈X.pn++pins,p.1≠b):Inv X pins σ H' s':=by
 obtain ⟨h',g',d',t',o'⟩:=s';have e:o'=s.os:=ho;subst e;exact I.call (g':=g') (t':=t') (d':=d') u hok hg hch
end
abbrev XK:=Value->Option Addr->Hp->Prop
abbrev St:=List (Option V)
abbrev VK:=V->Hp->Prop
abbrev TE:=St->Hp->VK->Prop
abbrev TT:=St->Hp->(Bool->Hp->Prop)->Prop
abbrev TA:=St->Hp->(List V->Hp->Prop)->Prop
structure Ends where
 nx:St->Hp->Prop
 rt:VK
 bk:St->Hp->Prop:=fun _ _=>False
 ct:St->Hp->Prop:=fun _ _=>False
abbrev TS:=Ends->St->Hp->Prop
def EP (X:Cx)(pins:List (Addr×Obj))(σ:St)(Q:VK)(u:Value)(s':Shared):Prop:=∃ v H',Inv X pins σ H' s'/\RelV v u/\Q v H'
def TP (X:Cx)(pins:List (Addr×Obj))(σ:St)(Q:Bool->Hp->Prop)(b:Bool)(s':Shared):Prop:=∃ H',Inv X pins σ H' s'/\Q b H'
def AP (X:Cx)(pins:List (Addr×Obj))(σ:St)(Q:List V->Hp->Prop)(us:List Value)(s':Shared):Prop:=∃ vs H',Inv X pins σ H' s'/\Vals vs us/\Q vs H'
def SP (X:Cx)(pins:List (Addr×Obj))(D:Ends)(f:Flow)(s':Shared):Prop :=
 match f with
 | .next=>∃ σ' H',Inv X pins σ' H' s'/\D.nx σ' H'
 | .brk=>∃ σ' H',Inv X pins σ' H' s'/\D.bk σ' H'
 | .cont=>∃ σ' H',Inv X pins σ' H' s'/\D.ct σ' H'
 | .ret u=>∃ v σ' H',Inv X pins σ' H' s'/\RelV v u/\D.rt v H'
def PE (X:Cx)(e:Expr)(t:TE):Prop :=
 ∀ (pins:List (Addr×Obj)) (s:Shared) (σ:St) (H:Hp) (Q:VK),Inv X pins σ H s->t σ H Q->wpAny (model X.prog X.w) X.A (eval e X.env) (EP X pins σ Q) X.xe s
def PT (X:Cx)(e:Expr)(t:TT):Prop :=
 ∀ (pins:List (Addr×Obj)) (s:Shared) (σ:St) (H:Hp) (Q:Bool->Hp->Prop),Inv X pins σ H s->t σ H Q->wpAny (model X.prog X.w) X.A (isTrue e X.env (eval e X.env)) (TP X pins σ Q) X.xe s
def PW (X:Cx)(e:Expr)(t:TT):Prop :=
 ∀ (whole:Sem Value) (pins:List (Addr×Obj)) (s:Shared) (σ:St) (H:Hp) (Q:Bool->Hp->Prop),Inv X pins σ H s->t σ H Q->wpAny (model X.prog X.w) X.A (isTrue e X.env whole) (TP X pins σ Q) X.xe s
theorem PW.pt {X:Cx}{e:Expr}{t:TT}(h:PW X e t):PT X e t:=h _
def PA (X:Cx)(es:List Expr)(t:TA):Prop :=
 ∀ (pos:Pos) (pins:List (Addr×Obj)) (s:Shared) (σ:St) (H:Hp) (Q:List V->Hp->Prop),Inv X pins σ H s->t σ H Q->wpAny (model X.prog X.w) X.A (spliced (backTo pos (starEach es X.env))) (AP X pins σ Q) X.xe s
def PS (X:Cx)(st:Stmt)(t:TS):Prop :=
 ∀ (pins:List (Addr×Obj)) (s:Shared) (σ:St) (H:Hp) (D:Ends),Inv X pins σ H s->t D σ H->wpAny (model X.prog X.w) X.A (exec st X.env) (SP X pins D) X.xe s
def PSs (X:Cx)(st:List Stmt)(t:TS):Prop :=
 ∀ (pins:List (Addr×Obj)) (s:Shared) (σ:St) (H:Hp) (D:Ends),Inv X pins σ H s->t D σ H->wpAny (model X.prog X.w) X.A (execs st X.env) (SP X pins D) X.xe s
theorem thn {α:Type}{t:Sem α}{Q Q':α->Shared->Prop}{M:Model}{A:Around}{E:Value->Shared->Prop}{s:Shared}(h:wpAny M A t Q E s)(hQ:∀ a s,Q a s->Q' a s):wpAny M A t Q' E s:=wpAny_mono h hQ fun _ _ x=>x
section
variable {X:Cx}
def J2J (i:Nat):TE:=fun σ H Q=>match σ[i]? with | some (some v)=>Q v H | _=>False
theorem J71 {i:Nat}{σ:St}{H:Hp}{Q:VK}(h:J2J i σ H Q):∃ v,σ[i]?=some (some v)/\Q v H:=by
 unfold J2J at h
 split at h
 ·rename_i v e;exact ⟨v,e,h⟩
 ·exact h.elim
def tC (v:V):TE:=fun _ H Q=>Q v H
theorem J8I {i:Nat}{x:Str}{pos:Pos}(hN:X.N[i]?=some x)(hv:Vis X.env.scope x)(hd:(x == ("__debug__":Str))=false:=by decide)(hcd:(x == ("__classdict__":Str))=false:=by decide):PE X (.Name x pos) (J2J i):=by
 intro pins s σ H Q I h;obtain ⟨v,e,h⟩:=J71 h;obtain ⟨m,hn,hl⟩:=I.loc;obtain ⟨u,r,l⟩:=hl i x v hN e hv;have fin:EP X pins σ Q u s:=⟨v,H,I,r,h⟩;rcases l with ⟨hk,hm⟩ | ⟨hk,c,hc,hcell⟩
 ·exact wpAny_Name (wpAny_loadName_local I.ok.kind hk hn hm fin) hd
 ·rcases hk with hk | hk
  ·exact wpAny_Name (wpAny_loadName_cell I.ok.kind hk hc hcell fin) hd
  ·exact wpAny_Name (wpAny_loadName_free I.ok.kind hk hc hcell fin hcd) hd
theorem Ja {i j pos}:PE X (.Constant (.int i) j pos) (tC (.int i)):=fun _ _ _ H _ I h=>wpAny_Constant_int ⟨.int i,H,I.tok _,⟨_,rfl⟩,h⟩
theorem J4e {b j pos}:PE X (.Constant (.bool b) j pos) (tC (.bl b)):=fun _ _ _ H _ I h=>Constant_bool ⟨.bl b,H,I,rfl,h⟩
theorem J09 {j pos}:PE X (.Constant .none j pos) (tC .non):=fun _ _ _ H _ I h=>Constant_none ⟨.non,H,I,rfl,h⟩
theorem Jf {x j pos}:PE X (.Constant (.str x) j pos) (tC (.str x)):=fun _ _ _ H _ I h=>Calls.Constant_str ⟨.str x,H,I.tok _,⟨_,rfl⟩,h⟩
def Gl (X:Cx)(x:Str):Prop:=X.env.kindOf x=some .globalImplicit
theorem J0O {E:Value->Shared->Prop}{pins:List (Addr×Obj)}{s:Shared}{σ:St}{H:Hp}{x:Str}{u:Value}{pos:Pos}{Q:Value->Shared->Prop}(I:Inv X pins σ H s)(hg:Gl X x)(hm:X.mg x=some u)(h:Q u s)
 (hd:(x == ("__debug__":Str))=false:=by decide):wpAny (model X.prog X.w) X.A (eval (.Name x pos) X.env) Q E s :=
 Calls.Name_function_global I.ok.kind hg (Calls.loadGlobal_global (by rw [I.ok.glob];exact I.mod.glob.keeps I.bk) hm h) hd
theorem J4j {E:Value->Shared->Prop}{pins:List (Addr×Obj)}{s:Shared}{σ:St}{H:Hp}{x:Str}{u:Value}{pos:Pos}{Q:Value->Shared->Prop}(I:Inv X pins σ H s)(hg:Gl X x)(hm:X.mg x=none)(hv:bootBuiltins x=some u)(h:Q u s)
 (hn:x≠"__name__":=by decide) (hd:(x == ("__debug__":Str))=false:=by decide):wpAny (model X.prog X.w) X.A (eval (.Name x pos) X.env) Q E s:=by
 obtain ⟨mb,h1,h2⟩:=I.mod.blt;exact Calls.Name_function_global I.ok.kind hg (Calls.loadGlobal_builtin (by rw [I.ok.glob];exact I.mod.glob.keeps I.bk) hm (by rw [I.ok.blt];exact h1.keeps I.bk) ((h2 x hn).trans hv) h) hd
theorem J5o {x:Str}{v:V}{u:Value}{pos:Pos}(hg:Gl X x)(hm:X.mg x=some u)(r:RelV v u)(hd:(x == ("__debug__":Str))=false:=by decide):PE X (.Name x pos) (tC v) :=
 fun _ _ _ H _ I h=>J0O I hg hm ⟨v,H,I,r,h⟩ hd
theorem J9L {x:Str}{v:V}{u:Value}{pos:Pos}(hg:Gl X x)(hm:X.mg x=none)(hv:bootBuiltins x=some u)(r:RelV v u)(hn:x≠"__name__":=by decide)(hd:(x == ("__debug__":Str))=false:=by decide):PE X (.Name x pos) (tC v) :=
 fun _ _ _ H _ I h=>J4j I hg hm hv ⟨v,H,I,r,h⟩ hn hd
variable {a b:Expr}{ta tb:TE}{pos:Pos}
def PC (X:Cx)(op:CmpOp)(a b:Expr)(t:TE):Prop :=
 ∀ (pins:List (Addr×Obj)) (s:Shared) (σ:St) (H:Hp) (Q:VK),Inv X pins σ H s->t σ H Q ->
   wpAny (model X.prog X.w) X.A (eval a X.env) (fun v s₁=>wpAny (model X.prog X.w) X.A (eval b X.env) (fun u s₂=>wpAny (model X.prog X.w) X.A (compareOp op v u) (EP X pins σ Q) X.xe s₂) X.xe s₁) X.xe s
def tB (t:TE):TT:=fun σ H Q=>t σ H fun x H1=>∃ c,x=.bl c/\Q c H1
theorem JaF {op:CmpOp}{t:TE}(h:PC X op a b t)(h1:behindInMarks op b=false:=by first | exact nobehind _ (by decide) (by decide) | rfl):PT X (.Compare a [op] [b] pos) (tB t):=by
 intro pins s σ H Q I hw;refine wpAny_isTrue_Compare1 (thn (h pins s σ H _ I hw) fun v s1 h1=>thn h1 fun u s2 h2=>thn h2 fun c s3 ⟨x,H1,I1,r1,q1⟩=>?_) h1;obtain ⟨d,rfl,q⟩:=q1;cases r1;exact wpAny_truthy_bool ⟨H1,I1,q⟩
theorem JV {e:Expr}{t:TE}(h:PE X e t)(he:∀ whole,isTrue e X.env whole=(do let v <- whole;standAt e.pos;holding [v] (truthy v)):=by intro _;rfl):PT X e (tB t):=by
 intro pins s σ H Q I hw;refine isTrue_plain (thn (h pins s σ H _ I hw) fun v s1 ⟨x,H1,I1,r1,q1⟩=>?_) (he _);obtain ⟨d,rfl,q⟩:=q1;cases r1;exact wpAny_truthy_bool ⟨H1,I1,q⟩
variable {tA tB':TT}{rest:List Expr}
def Jax (t u:TT):TT:=fun σ H Q=>t σ H fun c H1=>if c=true then u σ H1 Q else Q false H1
def tOr (t u:TT):TT:=fun σ H Q=>t σ H fun c H1=>if c=true then Q true H1 else u σ H1 Q
def J9t (t:TT):TT:=fun σ H Q=>t σ H fun c H1=>Q (!c) H1
theorem J0z (ha:PT X a tA):PW X (.BoolOp .And [a] pos) tA:=by
 intro wh pins s σ H Q I h;refine isTrue_and (thn (ha pins s σ H Q I h) fun c s1 e=>?_);cases c with
 | true=>exact isTrue_and_nil e
 | false=>exact e
theorem J1u (ha:PT X a tA):PW X (.BoolOp .Or [a] pos) tA:=by
 intro wh pins s σ H Q I h;refine isTrue_or (thn (ha pins s σ H Q I h) fun c s1 e=>?_);cases c with
 | false=>exact isTrue_or_nil e
 | true=>exact e
theorem J0Z (ha:PT X a tA)(hb:PW X (.BoolOp .And (b::rest) pos) tB'):PW X (.BoolOp .And (a::b::rest) pos) (Jax tA tB'):=by
 intro wh pins s σ H Q I h;refine isTrue_and (thn (ha pins s σ H _ I h) fun c s1 ⟨H1,I1,q1⟩=>?_);cases c with
 | true=>exact hb wh pins s1 σ H1 Q I1 q1
 | false=>exact ⟨H1,I1,q1⟩
theorem J1D (ha:PT X a tA)(hb:PW X (.BoolOp .Or (b::rest) pos) tB'):PW X (.BoolOp .Or (a::b::rest) pos) (tOr tA tB'):=by
 intro wh pins s σ H Q I h;refine isTrue_or (thn (ha pins s σ H _ I h) fun c s1 ⟨H1,I1,q1⟩=>?_);cases c with
 | true=>exact ⟨H1,I1,q1⟩
 | false=>exact hb wh pins s1 σ H1 Q I1 q1
theorem J0t (ha:PT X a tA):PT X (.UnaryOp .Not a pos) (J9t tA):=by
 intro pins s σ H Q I h;exact isTrue_not (ha pins s σ H (fun c H1=>Q (!c) H1) I h)
def J8i (ta tb:TE):TE:=fun σ H Q=>ta σ H fun x H1=>∃ c,x=.bl c/\if c=true then tb σ H1 Q else Q (.bl false) H1
def Jau (ta tb:TE):TE:=fun σ H Q=>ta σ H fun x H1=>∃ c,x=.bl c/\if c=true then Q (.bl true) H1 else tb σ H1 Q
def Jaa (ta:TE):TE:=fun σ H Q=>ta σ H fun x H1=>∃ c,x=.bl c/\Q (.bl (!c)) H1
theorem J8J {op}{t:TE}(h:PE X a t):PE X (.BoolOp op [a] pos) t:=fun pins s σ H Q I hw=>BoolOp_one (h pins s σ H Q I hw)
theorem JaK (ha:PE X a ta)(hb:PE X (.BoolOp .And (b::rest) pos) tb):PE X (.BoolOp .And (a::b::rest) pos) (J8i ta tb):=by
 intro pins s σ H Q I h;refine BoolOp_and (thn (ha pins s σ H _ I h) fun v s1 ⟨x,H1,I1,r1,q1⟩=>?_);obtain ⟨c,rfl,q1⟩:=q1;cases r1;refine wpAny_truthy_bool ?_;cases c with
 | true=>exact hb pins s1 σ H1 Q I1 q1
 | false=>exact ⟨.bl false,H1,I1,rfl,q1⟩
theorem Jbo (ha:PE X a ta)(hb:PE X (.BoolOp .Or (b::rest) pos) tb):PE X (.BoolOp .Or (a::b::rest) pos) (Jau ta tb):=by
 intro pins s σ H Q I h;refine BoolOp_or (thn (ha pins s σ H _ I h) fun v s1 ⟨x,H1,I1,r1,q1⟩=>?_);obtain ⟨c,rfl,q1⟩:=q1;cases r1;refine wpAny_truthy_bool ?_;cases c with
 | false=>exact hb pins s1 σ H1 Q I1 q1
 | true=>exact ⟨.bl true,H1,I1,rfl,q1⟩
def tIf (t:TT)(ta tb:TE):TE:=fun σ H Q=>t σ H fun c H1=>if c=true then ta σ H1 Q else tb σ H1 Q
theorem J35 {c:Expr}(hc:PT X c tA)(ha:PE X a ta)(hb:PE X b tb):PE X (.IfExp c a b pos) (tIf tA ta tb):=by
 intro pins s σ H Q I h;refine wpAny_IfExp (thn (hc pins s σ H _ I h) fun d s1 ⟨H1,I1,q1⟩=>?_);cases d with
 | true=>exact ha pins s1 σ H1 Q I1 q1
 | false=>exact hb pins s1 σ H1 Q I1 q1
end
def SqL (K:Frag)(H:Hp)(a:Addr)(xs:List V):Prop :=
 Rd H a (.lst xs) \/
  ∃ (o:Obj) (its:Array Value) (n:Nat),K.lookup a=some o/\o.cls=.type "list"/\o.dict=none/\o.data=.seq its n/\its.size<=sizeLine/\Vals xs its.toList
def SqT (K:Frag)(H:Hp)(a:Addr)(xs:List V):Prop :=
 Rd H a (.tup xs) \/
  ∃ (o:Obj) (its:Array Value) (n:Nat),K.lookup a=some o/\o.cls=.type "tuple"/\o.data=.seq its n/\its.size<=sizeLine/\Vals xs its.toList
def JbS:Value->Option V
 | .none=>some .non
 | .bool b=>some (.bl b)
 | .int i _=>some (.int i)
 | .str x _=>some (.str x)
 | .bytes b _=>some (.byt b)
 | .float b _=>some (.flt b)
 | .ref a=>some (.ref a)
 | .type n=>some (.ty n)
 | _=>none
theorem RelV.abs {x:V}{u:Value}(r:RelV x u):JbS u=some x:=by
 cases x with
 | non=>cases r;rfl
 | bl _=>cases r;rfl
 | int _=>obtain ⟨t,rfl⟩:=r;rfl
 | str _=>obtain ⟨t,rfl⟩:=r;rfl
 | byt _=>obtain ⟨t,rfl⟩:=r;rfl
 | flt _=>obtain ⟨t,rfl⟩:=r;rfl
 | ref _=>cases r;rfl
 | ty _=>cases r;rfl
theorem RelV.inj {x y:V}{u:Value}(r:RelV x u)(q:RelV y u):x=y:=zi (r.abs.symm.trans q.abs)
theorem Vals.inj:∀ {xs ys:List V} {us:List Value},Vals xs us->Vals ys us->xs=ys
 | _,_,_,.nil,.nil=>rfl
 | _,_,_,.cons r t,.cons r' t'=>by rw [r.inj r',Vals.inj t t']
section
variable {X:Cx}{pins:List (Addr×Obj)}{σ:St}{H:Hp}{s:Shared}{a:Addr}{xs ys:List V}
theorem SqL.of {K:Frag}(h:H a=some (.lst xs)):SqL K H a xs:=.inl (.inl h)
theorem SqT.of {K:Frag}(h:H a=some (.tup xs)):SqT K H a xs:=.inl (.inl h)
theorem Inv.list (I:Inv X pins σ H s)(h:SqL X.K H a xs):∃ its:List Value,Vals xs its/\PlainL s.heap a its.toArray/\xs.length<=sizeLine:=by
 rcases h with h | ⟨o,its,n,hk,hc,hd,hs,hz,r⟩
 ·obtain ⟨z,its,n,r,e⟩:=h.ok I.hok
  exact ⟨its,r,⟨_,n,e,rfl,rfl,rfl⟩,z⟩
 ·refine ⟨its.toList,r,⟨o,n,I.kIn a o hk,hc,hd,by simpa using hs⟩,?_⟩
  have e:=r.length;simp only [zq] at e;omega
theorem Inv.tuple (I:Inv X pins σ H s)(h:SqT X.K H a xs):∃ its:List Value,Vals xs its/\IsTup s.heap a its.toArray/\xs.length<=sizeLine:=by
 rcases h with h | ⟨o,its,n,hk,hc,hs,hz,r⟩
 ·obtain ⟨z,its,r,p⟩:=h.ok I.hok
  exact ⟨its,r,p,z⟩
 ·refine ⟨its.toList,r,⟨o,I.kIn a o hk,hc,n,by simpa using hs⟩,?_⟩
  have e:=r.length;simp only [zq] at e;omega
theorem Inv.list_inj (I:Inv X pins σ H s)(h:SqL X.K H a xs)(h':SqL X.K H a ys):xs=ys:=by
 obtain ⟨its,r,⟨o,n,e,_,_,d⟩,_⟩:=I.list h;obtain ⟨its',r',⟨o',n',e',_,_,d'⟩,_⟩:=I.list h';rw [e] at e';cases e';rw [d] at d';injection d' with d1 _
 have:its=its':=by simpa using congrArg Array.toList d1
 subst this;exact r.inj r'
theorem Inv.tuple_inj (I:Inv X pins σ H s)(h:SqT X.K H a xs)(h':SqT X.K H a ys):xs=ys:=by
 obtain ⟨its,r,⟨o,e,_,n,d⟩,_⟩:=I.tuple h;obtain ⟨its',r',⟨o',e',_,n',d'⟩,_⟩:=I.tuple h';rw [e] at e';cases e';rw [d] at d';injection d' with d1 _
 have:its=its':=by simpa using congrArg Array.toList d1
 subst this;exact r.inj r'
end
abbrev Cx.wish (X:Cx)(E:Value->Shared->Prop):Cx:={ X with xe:=E }
abbrev Cx.nox (X:Cx):Cx:=X.wish fun _ _=>False
theorem Cx.Ok.wish {X:Cx}(ok:X.Ok)(E:Value->Shared->Prop):(X.wish E).Ok :=
 ⟨ok.mod,ok.kind,ok.glob,ok.blt,ok.above,ok.inj,ok.has,ok.cab,ok.hd,ok.frames,ok.stk,ok.exf,ok.bs,ok.bsz,ok.noex,ok.exfs,ok.funs,ok.frf⟩
theorem Cx.Ok.unwish {X:Cx}{E:Value->Shared->Prop}(ok:(X.wish E).Ok):X.Ok :=
 ⟨ok.mod,ok.kind,ok.glob,ok.blt,ok.above,ok.inj,ok.has,ok.cab,ok.hd,ok.frames,ok.stk,ok.exf,ok.bs,ok.bsz,ok.noex,ok.exfs,ok.funs,ok.frf⟩
section
variable {X:Cx}{pins:List (Addr×Obj)}{σ:St}{H:Hp}{s:Shared}{E:Value->Shared->Prop}
theorem Inv.wish (I:Inv X pins σ H s)(E:Value->Shared->Prop):Inv (X.wish E) pins σ H s:=⟨I.ok.wish E,I.os,I.bare,I.base,I.loc,I.cell,I.free,I.freeC,I.pin,I.hok,I.len⟩
theorem Inv.unwish (I:Inv (X.wish E) pins σ H s):Inv X pins σ H s:=⟨I.ok.unwish,I.os,I.bare,I.base,I.loc,I.cell,I.free,I.freeC,I.pin,I.hok,I.len⟩
theorem SP.unwish {D:Ends}{f:Flow}{s':Shared}(h:SP (X.wish E) pins D f s'):SP X pins D f s':=by
 cases f with
 | next=>obtain ⟨σ',H',I,q⟩:=h;exact ⟨σ',H',I.unwish,q⟩
 | brk=>obtain ⟨σ',H',I,q⟩:=h;exact ⟨σ',H',I.unwish,q⟩
 | cont=>obtain ⟨σ',H',I,q⟩:=h;exact ⟨σ',H',I.unwish,q⟩
 | ret u=>obtain ⟨v,σ',H',I,r,q⟩:=h;exact ⟨v,σ',H',I.unwish,r,q⟩
theorem PSs.nox {st:List Stmt}{t:TS}(h:PSs X.nox st t):PSs X st t:=fun pins s σ H D I hw =>
 wpAny_mono (h pins s σ H D (I.wish _) hw) (fun _ _ q=>q.unwish) fun _ _ z=>zp z
end
section
variable {X:Cx}{st:Stmt}{rest:List Stmt}{t u:TS}{e:Expr}{te:TE}{pos:Pos}
def J8a:TS:=fun D σ H=>D.nx σ H
def J1f (t u:TS):TS:=fun D σ H=>t { D with nx:=u D } σ H
theorem Jl:PSs X [] J8a:=fun _ _ σ H _ I h=>wpAny_execs_nil ⟨σ,H,I,h⟩
theorem Jc (h1:PS X st t)(h2:PSs X rest u):PSs X (st::rest) (J1f t u):=by
 intro pins s σ H D I h;refine wpAny_execs_cons (thn (h1 pins s σ H { D with nx:=u D } I h) fun f s1 q=>?_);cases f with
 | next =>
   obtain ⟨σ',H',I',q⟩:=q;exact h2 pins s1 σ' H' D I' q
 | ret v=>exact q
 | brk=>exact q
 | cont=>exact q
theorem Je (h1:PS X st t):PSs X [st] t:=by
 intro pins s σ H D I h;refine wpAny_execs_cons (thn (h1 pins s σ H D I h) fun f s1 q=>?_);cases f with
 | next=>exact wpAny_execs_nil q
 | ret v=>exact q
 | brk=>exact q
 | cont=>exact q
theorem Inv.quiet {pins:List (Addr×Obj)}{σ:St}{H:Hp}{s:Shared}(I:Inv X pins σ H s):interactive X.env=false:=by simp [interactive,I.ok.kind]
def J74 (te:TE):TS:=fun D σ H=>te σ H fun _ H1=>D.nx σ H1
theorem J2o (he:PE X e te)(hs:swapsWith e none pos.line X.env=pure false:=by rfl):PS X (.Expr e pos) (J74 te):=by
 intro pins s σ H D I h;exact wpAny_Expr_any (thn (he pins s σ H _ I h) fun v s1 ⟨x,H1,I1,r1,q1⟩=>⟨σ,H1,I1,q1⟩) I.quiet hs
def J56 (te:TE):TS:=fun D σ H=>te σ H D.rt
theorem Jk (he:PE X e te):PS X (.Return (some e) pos) (J56 te):=by
 intro pins s σ H D I h;exact wpAny_Return_some (thn (he pins s σ H _ I h) fun v s1 ⟨x,H1,I1,r1,q1⟩=>⟨x,σ,H1,I1,r1,q1⟩)
def Ja9:TS:=fun D _ H=>D.rt .non H
def J2Y (c:TT)(t u:TS):TS:=fun D σ H=>c σ H fun b H1=>if b=true then t D σ H1 else u D σ H1
theorem Js {c:Expr}{a b:List Stmt}{tc:TT}(hc:PT X c tc)(ha:PSs X a t)(hb:PSs X b u):PS X (.If c a b pos) (J2Y tc t u):=by
 intro pins s σ H D I h;refine wpAny_If (thn (hc pins s σ H _ I h) fun d s1 ⟨H1,I1,q1⟩=>?_);cases d with
 | true=>exact ha pins s1 σ H1 D I1 q1
 | false=>exact hb pins s1 σ H1 D I1 q1
def J8b:TS:=fun _ _ _=>False
end
abbrev TG:=V->St->Hp->(St->Hp->Prop)->Prop
abbrev TGs:=List V->St->Hp->(St->Hp->Prop)->Prop
def PG (X:Cx)(target:Expr)(t:TG):Prop :=
 ∀ (pins:List (Addr×Obj)) (s:Shared) (σ:St) (H:Hp) (v:V) (u:Value) (Q:St->Hp->Prop),Inv X pins σ H s->RelV v u->t v σ H Q ->
   wpAny (model X.prog X.w) X.A (assign target X.env u) (fun _ s'=>∃ σ' H',Inv X pins σ' H' s'/\Q σ' H') X.xe s
def PGs (X:Cx)(ts:List Expr)(t:TGs):Prop :=
 ∀ (pins:List (Addr×Obj)) (s:Shared) (σ:St) (H:Hp) (vs:List V) (us:List Value) (Q:St->Hp->Prop),Inv X pins σ H s->Vals vs us->t vs σ H Q ->
   wpAny (model X.prog X.w) X.A (assignInOrder ((assignEach ts X.env).map (·.2)) us) (fun _ s'=>∃ σ' H',Inv X pins σ' H' s'/\Q σ' H') X.xe s
abbrev JbF:=V->V->V->Hp->(Hp->Prop)->Prop
def JbT (X:Cx)(t:JbF):Prop :=
 ∀ (pins:List (Addr×Obj)) (s:Shared) (σ:St) (H:Hp) (o i v:V) (ov iv u:Value) (Q:Hp->Prop),Inv X pins σ H s->RelV o ov->RelV i iv->RelV v u->t o i v H Q ->
   wpAny (model X.prog X.w) X.A (setItem ov iv u) (fun _ s'=>∃ H',Inv X pins σ H' s'/\Q H') X.xe s
section
variable {X:Cx}{pos:Pos}
def J0C (i:Nat):TG:=fun v σ H Q=>Q (σ.set i (some v)) H
theorem J9I {i:Nat}{x:Str}(hN:X.N.Nodup)(hi:X.N[i]?=some x)(hx:Loc X.env.scope x)(hf:X.fn x=true\/X.env.scope.names.lookup x=some .local:=by first | exact .inl rfl | exact .inr rfl | assumption):PG X (.Name x pos) (J0C i):=by
 intro pins s σ H v u Q I r h;exact wpAny_assign_Name (J2Z I hN hi hx r (fun s' I'=>⟨_,H,I',h⟩) hf)
def J94:TGs:=fun vs σ H Q=>vs=[]/\Q σ H
def J65 (t:TG)(u:TGs):TGs:=fun vs σ H Q=>∃ v r,vs=v::r/\t v σ H fun σ' H'=>u r σ' H' Q
theorem J3T:PGs X [] J94:=by
 intro pins s σ H vs us Q I r h;obtain ⟨e,h⟩:=h;subst e;cases r;exact assignInOrder_nil ⟨σ,H,I,h⟩
theorem J0R {e:Expr}{es:List Expr}{t:TG}{u:TGs}(h1:PG X e t)(h2:PGs X es u)
 (hs:(assignEach (e::es) X.env).map (·.2)=assign e X.env::(assignEach es X.env).map (·.2):=by rfl):PGs X (e::es) (J65 t u):=by
 intro pins s σ H vs us Q I r h;obtain ⟨v,vr,e1,h⟩:=h;subst e1;cases r with
 | cons r rr =>
   rw [hs];refine assignInOrder_cons (thn (h1 pins s σ H _ _ _ I r h) fun _ s1 ⟨σ1,H1,I1,q1⟩=>?_);exact h2 pins s1 σ1 H1 _ _ Q I1 rr q1
def JbB (K:Frag)(n:Nat)(t:TGs):TG:=fun v σ H Q=>∃ a xs,v=.ref a/\SqT K H a xs/\xs.length=n/\t xs σ H Q
theorem JaJ {es:List Expr}{k:Nat}{t:TGs}{n:Nat}(hc:X.calm=true)(h:PGs X es t)
 (hn:(assignEach es X.env).length=n:=by rfl) (hst:(assignEach es X.env).findIdx? (·.1)=none:=by rfl):PG X (.Tuple es k pos) (JbB X.K n t):=by
 intro pins s σ H v u Q I r hw;obtain ⟨a,xs,e1,hq,hl,hw⟩:=hw;subst e1;cases r;obtain ⟨its,rv,ht,hz⟩:=I.tuple hq;refine assign_Tuple_tuple (I.ok.hd hc) ht (by simp [hn,<- hl,rv.length]) hst fun h' hx=>?_;have I1:Inv X pins σ H { s with heap:=h' }:=I.kept (t':=s.toks) fun b o e=>hx b o (zj (zS e)) e;exact h pins _ σ H xs _ Q I1 (by simpa using rv) hw
def JbQ (to ti:TE)(t:JbF):TG:=fun v σ H Q=>to σ H fun o H1=>ti σ H1 fun i H2=>t o i v H2 fun H3=>Q σ H3
def J3g (te:TE)(g:TG):TS:=fun D σ H=>te σ H fun x H1=>g x σ H1 D.nx
theorem JaG {tg e:Expr}{te:TE}{g:TG}(he:PE X e te)(hg:PG X tg g)(hs:swapsWithSole [tg] e pos.line X.env=pure false:=by rfl)(hw:swappedStores [tg] e X.env=pure none:=by rfl)
 (h1:(assignEach [tg] X.env).map (·.2)=[assign tg X.env]:=by rfl):PS X (.Assign [tg] e pos) (J3g te g):=by
 intro pins s σ H D I h;refine wpAny_Assign_stores (thn (he pins s σ H _ I h) fun v s1 ⟨x,H1,I1,r1,q1⟩=>?_) hs hw;rw [h1];exact thn (hg pins s1 σ H1 x v _ I1 r1 q1) fun _ s2 q=>q
theorem J8F {i:Nat}{x:Str}{e:Expr}{te:TE}{pos':Pos}(hN:X.N.Nodup)(hi:X.N[i]?=some x)(hx:Loc X.env.scope x)(he:PE X e te)(hs:swapsWith e (some (.Name x pos')) pos.line X.env=pure false:=by rfl)(hf:X.fn x=true\/X.env.scope.names.lookup x=some .local:=by first | exact .inl rfl | exact .inr rfl | assumption) :
 PS X (.Assign [.Name x pos'] e pos) (J3g te (J0C i)):=by
 intro pins s σ H D I h;refine wpAny_Assign_Name (thn (he pins s σ H _ I h) fun v s1 ⟨y,H1,I1,r1,q1⟩=>?_) hs;exact J2Z I1 hN hi hx r1 (fun s2 I2=>⟨_,H1,I2,q1⟩) hf
end
section
variable {X:Cx}{pos:Pos}
def J6r (c:TT)(tb:TS):TS:=fun D σ H=>∃ W:Nat->St->Hp->Prop,(∃ m,W m σ H)/\∀ m σ H,W m σ H ->
 c σ H fun b H1=>if b=true then ∃ N:St->Hp->Prop,(∀ σ' H',N σ' H'->∃ m',m'<m/\W m' σ' H')/\tb { D with nx:=N,ct:=N,bk:=D.nx } σ H1 else D.nx σ H1
theorem J33 {c:Expr}{body:List Stmt}{tc:TT}{tb:TS}(hp:PassesOwn (model X.prog X.w) X.A X.env X.xe)(hc:PT X c tc)(hb:PSs X body tb):PS X (.While c body [] pos) (J6r tc tb):=by
 intro pins s σ H D I h;obtain ⟨W,⟨m0,w0⟩,turn⟩:=h;refine wpAny_While (codeAny_whileLoop (fun n s'=>∃ σ' H',Inv X pins σ' H' s'/\W n σ' H') ?_ m0 ⟨σ,H,I,w0⟩);rintro n s1 ⟨σ1,H1,I1,w1⟩;refine wpAny_passesOwn hp (thn (hc pins s1 σ1 H1 _ I1 (turn n σ1 H1 w1)) fun b s2 ⟨H2,I2,q2⟩=>?_);cases b with
 | true =>
   obtain ⟨N,hN,q2⟩:=q2;rw [zd rfl];refine wpAny_passesOwn hp (thn (hb pins s2 σ1 H2 _ I2 q2) fun f s3 q3=>?_);cases f with
   | next =>
     obtain ⟨σ3,H3,I3,n3⟩:=q3;obtain ⟨m',hm,w3⟩:=hN σ3 H3 n3;exact ⟨m',hm,σ3,H3,I3,w3⟩
   | cont =>
     obtain ⟨σ3,H3,I3,n3⟩:=q3;obtain ⟨m',hm,w3⟩:=hN σ3 H3 n3;exact ⟨m',hm,σ3,H3,I3,w3⟩
   | brk=>exact q3
   | ret v=>exact q3
 | false =>
   rw [zc zf];exact wpAny_execs_nil ⟨σ1,H2,I2,q2⟩
end
structure It where
 go:Nat->Hp->Prop
 yld:Nat->Hp->V->Hp->Prop
 stop:Nat->Hp->Prop
def J2W (X:Cx)(pins:List (Addr×Obj))(H:Hp)(b:Addr):Prop :=
 H b=none/\b≠X.env.locals/\b∉X.fs/\(b∈X.ex\/X.s₀.heap.objs.size<=b)/\(∀ x c,X.env.cells.lookup x=some c->c≠b)/\∀ p∈X.pn++pins,p.1≠b
theorem Inv.fpOk {X:Cx}{pins:List (Addr×Obj)}{σ:St}{H H':Hp}{s:Shared}{b:Addr}(I:Inv X pins σ H s)(hb:s.heap.objs.size<=b)(hn:H' b=none):J2W X pins H' b:=by
 refine ⟨hn,Nat.ne_of_gt (zm I.lt hb),I.nofs hb,.inr (zo I.sz hb),fun x c e z=>?_,fun p hp z=>?_⟩
 ·obtain ⟨v,q⟩:=I.cell x c e
  exact absurd (zm q.lt (by rw [z];exact hb)) (Nat.lt_irrefl _)
 ·exact absurd (zm (zS (I.pin p hp).1) (by rw [z];exact hb)) (Nat.lt_irrefl _)
structure Turn (P:Program)(w:World)(K:Frag)(tg:Expr)(J:It)(fp:List Addr)(it:Addr)(tn:Nat->Heap->Prop):Prop where
 mem:it∈fp
 obj:∀ i h,tn i h->∀ b∈fp,∃ o,h.get? b=some o/\∀ v,o.data≠.cell v
 keep:∀ i h h',tn i h->(∀ b∈fp,∀ o,h.get? b=some o->h'.get? b=some o)->tn i h'
 item:∀ (X:Cx),X.prog=P->X.w=w->X.K=K->X.calm=true->∀ (i:Nat) (pins:List (Addr×Obj)) (s:Shared) (σ:St) (H:Hp) (E:Value->Shared->Prop),Inv X pins σ H s->(∀ b∈fp,J2W X pins H b)->tn i s.heap->J.go i H ->
  wpAny (model P w) X.A (pyNext (.ref it)) (fun r s1=>∃ u,r=some u /\
   wpAny (model P w) X.A (letOwnedTupleGo tg (.ref it) u) (fun _ s2=>∃ x H',Inv X pins σ H' s2/\RelV x u/\J.yld i H x H'/\tn (i+1) s2.heap/\∀ b∈fp,H' b=none) E s1) E s
 done:∀ (X:Cx),X.prog=P->X.w=w->X.K=K->X.calm=true->∀ (i:Nat) (pins:List (Addr×Obj)) (s:Shared) (σ:St) (H:Hp) (E:Value->Shared->Prop),Inv X pins σ H s->(∀ b∈fp,J2W X pins H b)->tn i s.heap->J.stop i H ->
  wpAny (model P w) X.A (pyNext (.ref it)) (fun r s1=>r=none/\Inv X pins σ H s1) E s
 self:∀ (A:Around) (i:Nat) (s:Shared) (Q:Value->Shared->Prop) (E:Value->Shared->Prop),tn i s.heap->Q (.ref it) s->wpAny (model P w) A (pyIter (.ref it)) Q E s
abbrev TI:=St->Hp->(It->Hp->Prop)->Prop
def PIE (X:Cx)(pins:List (Addr×Obj))(σ:St)(tg:Expr)(R:It->Hp->Prop)(itv:Value)(s2:Shared):Prop :=
 ∃ (it:Addr) (fp:List Addr) (tn:Nat->Heap->Prop) (J:It) (H':Hp),itv=.ref it/\Inv X pins σ H' s2/\Turn X.prog X.w X.K tg J fp it tn/\tn 0 s2.heap/\(∀ b∈fp,J2W X pins H' b)/\R J H'
def PI (X:Cx)(tg iter:Expr)(wi:TI):Prop :=
 ∀ (pins:List (Addr×Obj)) (s:Shared) (σ:St) (H:Hp) (R:It->Hp->Prop),Inv X pins σ H s->wi σ H R ->
   wpAny (model X.prog X.w) X.A (eval iter X.env) (fun v s1=>wpAny (model X.prog X.w) X.A (pyIter v) (PIE X pins σ tg R) X.xe s1) X.xe s
theorem go_of {M:Model}{A:Around}{E:Value->Shared->Prop}{s:Shared}{tg:Expr}{it:Addr}{u:Value}{o:Obj}{n:String}{vs:Array Value}{Q:Unit->Shared->Prop}(ho:s.heap.get? it=some o)(hc:o.cls=.type n)(hd:o.data=.fields vs)
 (hn:["enumerate","zip","dict_itemiterator","dict_reverseitemiterator","odict_iterator","itertools.zip_longest","itertools.pairwise"].contains n=false) (hQ:Q () s):wpAny M A (letOwnedTupleGo tg (.ref it) u) Q E s:=by
 unfold letOwnedTupleGo
 cases tg <;> first
  | exact zb hQ
  | (cases u<;>first
   | exact zb hQ
   | (refine za (wpAny_load ho ?_)
      rw [hc,hd];show wpAny M A (if (["enumerate","zip","dict_itemiterator","dict_reverseitemiterator","odict_iterator","itertools.zip_longest","itertools.pairwise"].contains n&&vs[0]? == some (rawInt _))=true then _ else _) Q E s;rw [zc (by intro h;rw [hn,Bool.false_and] at h;cases h)];exact zb hQ))
def Itl (K:Frag)(a:Addr):It :=
 ⟨fun i H=>∃ xs x,SqL K H a xs/\xs[i]?=some x,fun i H x H'=>H'=H/\∀ xs,SqL K H a xs->xs[i]?=some x,fun i H=>∃ xs,SqL K H a xs/\xs.length<=i⟩
def Itt (K:Frag)(a:Addr):It :=
 ⟨fun i H=>∃ xs x,SqT K H a xs/\xs[i]?=some x,fun i H x H'=>H'=H/\∀ xs,SqT K H a xs->xs[i]?=some x,fun i H=>∃ xs,SqT K H a xs/\xs.length<=i⟩
def Itr (lo:Int)(n:Nat):It:=⟨fun i _=>i<n,fun i H x H'=>H'=H/\x=.int (lo+i),fun i _=>n<=i⟩
theorem J7t {P:Program}{w:World}{K:Frag}{tg:Expr}(a it:Addr):Turn P w K tg (Itl K a) [it] it (fun i h=>h.IsListIter it a i) where
 mem:=by simp
 obj:=fun i h st b hb=>by
  have e:b=it:=by simpa using hb
  subst e;obtain ⟨o,e,c,d⟩:=st;exact ⟨o,e,fun v z=>by rw [d] at z;cases z⟩
 keep:=fun i h h' st k=>st.at fun o e=>k it (by simp) o e
 item:=by
  intro X hP hw hK hc i pins s σ H E I hf st hg;subst hP hw hK;obtain ⟨xs,x,hq,hx⟩:=hg;obtain ⟨its,rv,p,hz⟩:=I.list hq;obtain ⟨u,hu,ru⟩:=rv.get hx;obtain ⟨f0,f1,f2,f3,f4,f5⟩:=hf it (by simp);refine wpAny_pyNext_list_item st p.isList (x:=u) (by simpa using hu) fun h' st' sb=>?_;have I1:Inv X pins σ H { s with heap:=h' }:=I.turned (t':=s.toks) (fun b o hb e=>(sb.2 b hb).trans e) f0 f1 f3 f4 f5;obtain ⟨o,e,c,d⟩:=id st';exact ⟨u,rfl,go_of (s:={ s with heap:=h' }) e c d (by decide) ⟨x,H,I1,ru,⟨rfl,fun ys hy=>by rw [I.list_inj hy hq];exact hx⟩,st',fun b hb=>(hf b hb).1⟩⟩
 done:=by
  intro X hP hw hK hc i pins s σ H E I hf st hg;subst hP hw hK;obtain ⟨xs,hq,hx⟩:=hg;obtain ⟨its,rv,p,hz⟩:=I.list hq;obtain ⟨f0,f1,f2,f3,f4,f5⟩:=hf it (by simp);have hl:=rv.length;exact wpAny_pyNext_list_end (I.ok.hd hc) st p.isList (by simp;omega) fun h' eb=>⟨rfl,I.turned (t':=s.toks) (fun b o hb e=>eb b o hb e) f0 f1 f3 f4 f5⟩
 self:=fun _ _ _ _ _ st h=>wpAny_pyIter_listiter st h
theorem J6p {P:Program}{w:World}{K:Frag}{tg:Expr}(a it:Addr):Turn P w K tg (Itt K a) [it] it (fun i h=>h.IsTupleIter it a i) where
 mem:=by simp
 obj:=fun i h st b hb=>by
  have e:b=it:=by simpa using hb
  subst e;obtain ⟨o,e,c,d⟩:=st;exact ⟨o,e,fun v z=>by rw [d] at z;cases z⟩
 keep:=fun i h h' st k=>st.at fun o e=>k it (by simp) o e
 item:=by
  intro X hP hw hK hc i pins s σ H E I hf st hg;subst hP hw hK;obtain ⟨xs,x,hq,hx⟩:=hg;obtain ⟨its,rv,p,hz⟩:=I.tuple hq;obtain ⟨u,hu,ru⟩:=rv.get hx;obtain ⟨f0,f1,f2,f3,f4,f5⟩:=hf it (by simp);refine wpAny_pyNext_tuple_item st (show s.heap.IsTuple a its.toArray from p) (x:=u) (by simpa using hu) fun h' st' sb=>?_;have I1:Inv X pins σ H { s with heap:=h' }:=I.turned (t':=s.toks) (fun b o hb e=>(sb.2 b hb).trans e) f0 f1 f3 f4 f5;obtain ⟨o,e,c,d⟩:=id st';exact ⟨u,rfl,go_of (s:={ s with heap:=h' }) e c d (by decide) ⟨x,H,I1,ru,⟨rfl,fun ys hy=>by rw [I.tuple_inj hy hq];exact hx⟩,st',fun b hb=>(hf b hb).1⟩⟩
 done:=by
  intro X hP hw hK hc i pins s σ H E I hf st hg;subst hP hw hK;obtain ⟨xs,hq,hx⟩:=hg;obtain ⟨its,rv,p,hz⟩:=I.tuple hq;obtain ⟨f0,f1,f2,f3,f4,f5⟩:=hf it (by simp);have hl:=rv.length;exact wpAny_pyNext_tuple_end (I.ok.hd hc) st (show s.heap.IsTuple a its.toArray from p) (by simp;omega) fun h' eb=>⟨rfl,I.turned (t':=s.toks) (fun b o hb e=>eb b o hb e) f0 f1 f3 f4 f5⟩
 self:=fun _ _ _ _ _ st h=>wpAny_pyIter_tupleiter st h
theorem J6q {P:Program}{w:World}{K:Frag}{tg:Expr}(it:Addr)(lo:Int)(n:Nat):Turn P w K tg (Itr lo n) [it] it (fun i h=>IsRangeIter h it (lo+(i:Nat) * 1) ((n:Int) - (i:Nat)) 1) where
 mem:=by simp
 obj := fun i h st b hb=>by
  have e:b=it:=by simpa using hb
  subst e;exact ⟨_,st,fun v z=>by
   have z':Data.fields _=Data.cell v:=z;cases z'⟩
 keep:=fun i h h' st k=>k it (by simp) _ st
 item:=by
  intro X hP hw hK hc i pins s σ H E I hf st hg;subst hP hw hK;obtain ⟨f0,f1,f2,f3,f4,f5⟩:=hf it (by simp);have W:=Walks.range (prog:=X.prog) (w:=X.w) (I.ok.hd hc) it lo 1 n;refine W.item i s _ _ hg st fun v h' tk hv st' kk=>?_;obtain ⟨t,rfl⟩:=hv;have I1:Inv X pins σ H { s with heap:=h',toks:=tk }:=I.turned (fun b o hb e=>kk b o (by simpa using hb) e) f0 f1 f3 f4 f5;refine ⟨_,rfl,go_of (s:={ s with heap:=h',toks:=tk }) (n:="range_iterator") st' rfl rfl (by decide) ⟨.int (lo+i),H,I1,⟨t,?_⟩,⟨rfl,rfl⟩,st',fun b hb=>(hf b hb).1⟩⟩;rw [Int.mul_one]
 done:=by
  intro X hP hw hK hc i pins s σ H E I hf st hg;subst hP hw hK;obtain ⟨f0,f1,f2,f3,f4,f5⟩:=hf it (by simp);exact wpAny_pyNext_range_end (I.ok.hd hc) st (by have:n<=i:=hg;omega) fun h' eb=>⟨rfl,I.turned (t':=s.toks) (fun b o hb e=>eb b o hb e) f0 f1 f3 f4 f5⟩
 self:=fun _ _ _ _ _ st h=>wpAny_pyIter_rangeiter st h
section
variable {X:Cx}{tg:Expr}
def J7j (K:Frag)(tl:TE):TI:=fun σ H R=>tl σ H fun x H1=>∃ a,x=.ref a/\(∃ xs,SqL K H1 a xs)/\R (Itl K a) H1
def Ja0 (K:Frag)(tl:TE):TI:=fun σ H R=>tl σ H fun x H1=>∃ a,x=.ref a/\(∃ xs,SqT K H1 a xs)/\R (Itt K a) H1
theorem J9G {l:Expr}{tl:TE}(hl:PE X l tl):PI X tg l (J7j X.K tl):=by
 intro pins s σ H R I h;refine thn (hl pins s σ H _ I h) fun v s1 ⟨x,H1,I1,r1,q1⟩=>?_;obtain ⟨a,e,⟨xs,hq⟩,q⟩:=q1;subst e;cases r1;obtain ⟨its,rv,p,hz⟩:=I1.list hq;refine wpAny_pyIter_list p.isList ?_;refine ⟨s1.heap.objs.size,[s1.heap.objs.size],_,_,H1,rfl,I1.kept (t':=s1.toks) fun b o e=>zQ _ e,J7t a _,⟨_,zR _ rfl,rfl,rfl⟩,fun b hb=>?_,q⟩;have e:b=s1.heap.objs.size:=by simpa using hb
 subst e;exact I1.fpOk (ze _) (I1.hok.fresh (ze _))
theorem JaH {l:Expr}{tl:TE}(hl:PE X l tl):PI X tg l (Ja0 X.K tl):=by
 intro pins s σ H R I h;refine thn (hl pins s σ H _ I h) fun v s1 ⟨x,H1,I1,r1,q1⟩=>?_;obtain ⟨a,e,⟨xs,hq⟩,q⟩:=q1;subst e;cases r1;obtain ⟨its,rv,p,hz⟩:=I1.tuple hq;refine wpAny_pyIter_tuple (show s1.heap.IsTuple a its.toArray from p) ?_;refine ⟨s1.heap.objs.size,[s1.heap.objs.size],_,_,H1,rfl,I1.kept (t':=s1.toks) fun b o e=>zQ _ e,J6p a _,⟨_,zR _ rfl,rfl,rfl⟩,fun b hb=>?_,q⟩;have e:b=s1.heap.objs.size:=by simpa using hb
 subst e;exact I1.fpOk (ze _) (I1.hok.fresh (ze _))
theorem J8t {pins:List (Addr×Obj)}{σ:St}{H:Hp}{s:Shared}{R:It->Hp->Prop}{E:Value->Shared->Prop}{lo hi:Int}{t u v:Tok}{tk:Nat}(I:Inv X pins σ H s)(h1:-(2 ^ 62)<=lo)(h2:lo<2 ^ 62)(h3:-(2 ^ 62)<=hi)(h4:hi<2 ^ 62)
 (q:R (Itr lo (hi - lo).toNat) H):wpAny (model X.prog X.w) X.A (pyIter (.ref s.heap.objs.size)) (PIE X pins σ tg R) E { s with heap:=s.heap.push { cls:=.type "range",data:=.fields #[.int lo t,.int hi u,.int 1 v] },toks:=tk }:=by
 refine wpAny_pyIter_range (IsRange.new ..) (small_one h1 h2 h3 h4) ?_;have I1:Inv X pins σ H { s with heap:=s.heap.push { cls:=.type "range",data:=.fields #[.int lo t,.int hi u,.int 1 v] },toks:=tk }:=I.kept fun b o e=>zQ _ e;refine ⟨(s.heap.push { cls:=.type "range",data:=.fields #[.int lo t,.int hi u,.int 1 v] }).objs.size,[(s.heap.push { cls:=.type "range",data:=.fields #[.int lo t,.int hi u,.int 1 v] }).objs.size],_,_,H,rfl,
  I1.kept (t':=tk) fun b o e=>zQ _ e,J6q _ lo (hi - lo).toNat,?_,fun b hb=>?_,q⟩
 ·have e1:lo+((0:Nat):Int) * 1=lo:=by simp
  have e2:(((hi - lo).toNat:Nat):Int) - ((0:Nat):Int)=Builtin.Range.rangeSize lo hi 1:=by rw [rangeSize_one];split<;>omega
  show IsRangeIter _ _ (lo+((0:Nat):Int) * 1) ((((hi - lo).toNat:Nat):Int) - ((0:Nat):Int)) 1;rw [e1,e2];exact zR _ rfl
 ·have e:b=(s.heap.push { cls:=.type "range",data:=.fields #[.int lo t,.int hi u,.int 1 v] }).objs.size:=by simpa using hb
  subst e;exact I1.fpOk (ze _) (I1.hok.fresh (ze _))
def J91 (ta:TA):TI:=fun σ H R=>ta σ H fun vs H1=>∃ j:Int,vs=[.int j]/\-(2 ^ 62)<=j/\j<2 ^ 62/\R (Itr 0 j.toNat) H1
def Jao (ta:TA):TI:=fun σ H R=>ta σ H fun vs H1=>∃ i j:Int,vs=[.int i,.int j]/\(-(2 ^ 62)<=i/\i<2 ^ 62/\-(2 ^ 62)<=j/\j<2 ^ 62)/\R (Itr i (j - i).toNat) H1
theorem J13 {a:Expr}{ta:TA}{p pos:Pos}(hg:Gl X "range")(hm:X.mg "range"=none)(ha:PA X [a] ta)(hs:starEach [a] X.env=[(false,eval a X.env)]:=by rfl):PI X tg (.Call (.Name "range" p) [a] [] pos) (J91 ta):=by
 intro pins s σ H R I h;refine Call_ (J4j I hg hm boot_range (PyProof.Rows.callWith_type1 (thn (ha pos pins s σ H _ I h) fun us s1 ⟨vs,H1,I1,r1,q1⟩=>?_) hs rfl));obtain ⟨j,e,q1,q2,q⟩:=q1;subst e;cases r1 with
 | cons r rr =>
   cases rr;obtain ⟨t,rfl⟩:=r;exact call_range_1 (J8t I1 (by omega) (by omega) q1 q2 (by simpa using q))
def J8e (wi:TI)(g:TG)(tb:TS):TS:=fun D σ H=>wi σ H fun J H1=>∃ W:Nat->Nat->St->Hp->Prop,(∃ m,W 0 m σ H1)/\∀ i m σ H,W i m σ H ->
 (J.stop i H/\D.nx σ H)\/(J.go i H/\∃ N:St->Hp->Prop,(∀ σ' H',N σ' H'->∃ m',m'<m/\W (i+1) m' σ' H')/\∀ x H',J.yld i H x H'->g x σ H' fun σ2 H2=>tb { D with nx:=N,ct:=N,bk:=D.nx } σ2 H2)
def J3x (fp:List Addr)(h:Heap):List (Addr×Obj):=fp.filterMap fun b=>(h.get? b).map fun o=>(b,o)
theorem J0J {fp:List Addr}{h:Heap}{b:Addr}{o:Obj}(hb:b∈fp)(e:h.get? b=some o):(b,o)∈J3x fp h:=mem_filterMap.mpr ⟨b,hb,by rw [e];rfl⟩
theorem J7J {fp:List Addr}{h:Heap}{p:Addr×Obj}(hp:p∈J3x fp h):p.1∈fp/\h.get? p.1=some p.2:=by
 obtain ⟨b,hb,e⟩:=mem_filterMap.mp hp;cases q:h.get? b with
 | none=>rw [q] at e;cases e
 | some o =>
   rw [q] at e;have e':(b,o)=p:=zi e;subst e';exact ⟨hb,q⟩
theorem Inv.pinned {pins:List (Addr×Obj)}{σ:St}{H:Hp}{s:Shared}{fp:List Addr}(I:Inv X pins σ H s)(hf:∀ b∈fp,J2W X pins H b)(ho:∀ b∈fp,∃ o,s.heap.get? b=some o/\∀ v,o.data≠.cell v):Inv X (pins++J3x fp s.heap) σ H s :=
 I.pins_of fun p hp=>(zH.mp hp).elim (fun z=>I.pin p (zI _ z)) fun z=>by
  obtain ⟨hb,e⟩:=J7J z;obtain ⟨f0,f1,f2,_⟩:=hf p.1 hb;obtain ⟨o,e',d⟩:=ho p.1 hb;rw [e] at e';cases e';exact ⟨e,f0,f1,f2,d⟩
theorem Inv.unpinned {pins pl:List (Addr×Obj)}{σ:St}{H:Hp}{s:Shared}(I:Inv X (pins++pl) σ H s):Inv X pins σ H s:=I.pins_of fun p hp=>I.pin p (zI _ (zJ _ hp))
theorem J2a {iter:Expr}{body:List Stmt}{wi:TI}{g:TG}{tb:TS}{pos:Pos}(hp:PassesOwn (model X.prog X.w) X.A X.env X.xe)(hc:X.calm=true)(hi:PI X tg iter wi)(hg:PG X tg g)(hb:PSs X body tb)
 (hs:∀ x,foldedSetIterable iter X.env x=pure x:=by intro _;rfl):PS X (.For tg iter body [] pos) (J8e wi g tb):=by
 intro pins s σ H D I h;refine wpAny_For (thn (hi pins s σ H _ I h) fun v s1 h1=>thn h1 fun itv s2 h2=>?_) hs;obtain ⟨it,fp,tn,J,H2,e,I2,T,st2,f2,W,⟨m0,w0⟩,turn⟩:=h2;subst e;have stat:∀ {H':Hp},(∀ b∈fp,H' b=none)->∀ b∈fp,J2W X pins H' b:=fun hn b hb=>⟨hn b hb,(f2 b hb).2⟩;refine codeAny_forLoop_any (fun n s'=>∃ i σ' H',Inv X pins σ' H' s'/\tn i s'.heap/\(∀ b∈fp,H' b=none)/\W i n σ' H') ?_ m0 ⟨0,σ,H2,I2,st2,fun b hb=>(f2 b hb).1,w0⟩;rintro n s3 ⟨i,σ3,H3,I3,st3,fr3,w3⟩;rcases turn i n σ3 H3 w3 with ⟨stop,qn⟩ | ⟨go,N,hN,step⟩
 ·refine wpAny_passesOwn hp (thn (T.done X rfl rfl rfl hc i pins s3 σ3 H3 X.xe I3 (stat fr3) st3 stop) fun r s4 ⟨hr,I4⟩=>?_)
  subst hr;exact wpAny_execs_nil ⟨σ3,H3,I4,qn⟩
 ·refine wpAny_passesOwn hp (thn (T.item X rfl rfl rfl hc i pins s3 σ3 H3 X.xe I3 (stat fr3) st3 go) fun r s4 ⟨u,hr,h4⟩=>?_)
  subst hr;refine wpAny_passesOwn hp (thn h4 fun _ s5 ⟨x,H5,I5,r5,y5,st5,fr5⟩=>?_);have I5':=I5.pinned (stat fr5) (T.obj _ _ st5);refine wpAny_passesOwn hp (thn (hg _ s5 σ3 H5 x u _ I5' r5 (step x H5 y5)) fun _ s6 ⟨σ6,H6,I6,q6⟩=>?_);refine wpAny_passesOwn hp (thn (hb _ s6 σ6 H6 _ I6 q6) fun f s7 q7=>?_);have again:∀ {σ7:St} {H7:Hp},Inv X (pins++J3x fp s5.heap) σ7 H7 s7->N σ7 H7->∃ m,m<n/\∃ i σ' H',Inv X pins σ' H' s7/\tn i s7.heap/\(∀ b∈fp,H' b=none)/\W i m σ' H':=fun {σ7 H7} I7 n7=>by
   obtain ⟨m',hm,w7⟩:=hN σ7 H7 n7;refine ⟨m',hm,i+1,σ7,H7,I7.unpinned,T.keep _ _ _ st5 fun b hb o e=>(I7.pin (b,o) (zI _ (zI _ (J0J hb e)))).1,fun b hb=>?_,w7⟩;obtain ⟨o,e,d⟩:=T.obj _ _ st5 b hb;exact (I7.pin (b,o) (zI _ (zI _ (J0J hb e)))).2.1
  cases f with
  | next=>obtain ⟨σ7,H7,I7,n7⟩:=q7;exact again I7 n7
  | cont=>obtain ⟨σ7,H7,I7,n7⟩:=q7;exact again I7 n7
  | brk=>obtain ⟨σ7,H7,I7,q7⟩:=q7;exact ⟨σ7,H7,I7.unpinned,q7⟩
  | ret v=>obtain ⟨x7,σ7,H7,I7,r7,q7⟩:=q7;exact ⟨x7,σ7,H7,I7.unpinned,r7,q7⟩
end
abbrev R2:=V->V->Hp->VK->Prop
def OpR (X:Cx)(f:Value->Value->Sem Value)(r:R2):Prop :=
 ∀ (pins:List (Addr×Obj)) (s:Shared) (σ:St) (H:Hp) (x y:V) (v u:Value) (Q:VK),Inv X pins σ H s->RelV x v->RelV y u->r x y H Q ->
   wpAny (model X.prog X.w) X.A (f v u) (EP X pins σ Q) X.xe s
def UnR (X:Cx)(f:Value->Sem Value)(r:V->Hp->VK->Prop):Prop :=
 ∀ (pins:List (Addr×Obj)) (s:Shared) (σ:St) (H:Hp) (x:V) (v:Value) (Q:VK),Inv X pins σ H s->RelV x v->r x H Q ->
   wpAny (model X.prog X.w) X.A (f v) (EP X pins σ Q) X.xe s
def J00 (X:Cx)(f:Value)(r:List V->Hp->VK->Prop):Prop :=
 ∀ (pins:List (Addr×Obj)) (s:Shared) (σ:St) (H:Hp) (xs:List V) (us:List Value) (Q:VK),Inv X pins σ H s->Vals xs us->r xs H Q ->
   wpAny (model X.prog X.w) X.A (call f us) (EP X pins σ Q) X.xe s
def tOp (r:R2)(ta tb:TE):TE:=fun σ H Q=>ta σ H fun x H1=>tb σ H1 fun y H2=>r x y H2 Q
def tUn (r:V->Hp->VK->Prop)(ta:TE):TE:=fun σ H Q=>ta σ H fun x H1=>r x H1 Q
def rI (C:Int->Int->Prop)(g:Int->Int->V):R2:=fun x y H Q=>∃ i j,x=.int i/\y=.int j/\C i j/\Q (g i j) H
def rI0 (g:Int->Int->V):R2:=fun x y H Q=>∃ i j,x=.int i/\y=.int j/\Q (g i j) H
def rU (g:Int->V):V->Hp->VK->Prop:=fun x H Q=>∃ i,x=.int i/\Q (g i) H
section
variable {X:Cx}{a b c:Expr}{ta tb tc:TE}{pos:Pos}
theorem Jbe (ha:PE X a ta)(hb:PE X b tb){pins:List (Addr×Obj)}{s:Shared}{σ:St}{H:Hp}{R:V->V->Hp->Prop}(I:Inv X pins σ H s)
 (h:ta σ H fun x H1=>tb σ H1 fun y H2=>R x y H2) {Q:Value->Shared->Prop} {f:Value->Value->Sem Value}
 (hf:∀ v u s2 x y H2,Inv X pins σ H2 s2->RelV x v->RelV y u->R x y H2->wpAny (model X.prog X.w) X.A (f v u) Q X.xe s2) :
 wpAny (model X.prog X.w) X.A (eval a X.env) (fun v s₁=>wpAny (model X.prog X.w) X.A (eval b X.env) (fun u s₂=>wpAny (model X.prog X.w) X.A (f v u) Q X.xe s₂) X.xe s₁) X.xe s:=by
 refine thn (ha pins s σ H _ I h) fun v s1 ⟨x,H1,I1,r1,q1⟩=>?_;refine thn (hb pins s1 σ H1 _ I1 q1) fun u s2 ⟨y,H2,I2,r2,q2⟩=>?_;exact hf v u s2 x y H2 I2 r1 r2 q2
theorem Jg {op:Operator}{r:R2}(ho:OpR X (binaryOp op) r)(ha:PE X a ta)(hb:PE X b tb):PE X (.BinOp a op b pos) (tOp r ta tb):=by
 intro pins s σ H Q I h;exact wpAny_BinOp (Jbe ha hb I h fun v u s2 x y H2 I2 rx ry q=>ho pins s2 σ H2 x y v u Q I2 rx ry q)
theorem opI {f:Value->Value->Sem Value}{C:Int->Int->Prop}{g:Int->Int->Int}
 (rule:∀ (i j:Int) (t u:Tok) (s:Shared) (Q:Value->Shared->Prop) (E:Value->Shared->Prop),C i j->Q (.int (g i j) s.toks) { s with toks:=s.toks+1 }->wpAny (model X.prog X.w) X.A (f (.int i t) (.int j u)) Q E s) :
 OpR X f (rI C fun i j=>.int (g i j)):=by
 intro pins s σ H x y v u Q I rx ry h;obtain ⟨i,j,rfl,rfl,hc,q⟩:=h;obtain ⟨t,rfl⟩:=rx;obtain ⟨t',rfl⟩:=ry;exact rule i j t t' s _ _ hc ⟨.int (g i j),H,I.tok _,⟨_,rfl⟩,q⟩
theorem Jbq {f:Value->Value->Sem Value}{g:Int->Int->Int}
 (rule:∀ (i j:Int) (t u:Tok) (s:Shared) (Q:Value->Shared->Prop) (E:Value->Shared->Prop),Q (.int (g i j) s.toks) { s with toks:=s.toks+1 }->wpAny (model X.prog X.w) X.A (f (.int i t) (.int j u)) Q E s) :
 OpR X f (rI0 fun i j=>.int (g i j)):=by
 intro pins s σ H x y v u Q I rx ry h;obtain ⟨i,j,rfl,rfl,q⟩:=h;obtain ⟨t,rfl⟩:=rx;obtain ⟨t',rfl⟩:=ry;exact rule i j t t' s _ _ ⟨.int (g i j),H,I.tok _,⟨_,rfl⟩,q⟩
theorem JaQ {f:Value->Value->Sem Value}{g:Int->Int->Bool}
 (rule:∀ (i j:Int) (t u:Tok) (s:Shared) (Q:Value->Shared->Prop) (E:Value->Shared->Prop),Q (.bool (g i j)) s->wpAny (model X.prog X.w) X.A (f (.int i t) (.int j u)) Q E s) :
 OpR X f (rI0 fun i j=>.bl (g i j)):=by
 intro pins s σ H x y v u Q I rx ry h;obtain ⟨i,j,rfl,rfl,q⟩:=h;obtain ⟨t,rfl⟩:=rx;obtain ⟨t',rfl⟩:=ry;exact rule i j t t' s _ _ ⟨.bl (g i j),H,I,rfl,q⟩
def Ja8 (i j:Int):Prop:=0<j/\j<1073741824
def JbX (i j:Int):Prop:=0<=j/\j<=1000000/\i.natAbs<2 ^ 64
def CMul (i j:Int):Prop:=(-(2 ^ 64)<i/\i<2 ^ 64)\/(-(2 ^ 64)<j/\j<2 ^ 64)
theorem CMul.ok {i j:Int}(h:CMul i j):IntMulOk i j:=by
 rcases h with ⟨h1,h2⟩ | ⟨h1,h2⟩
 ·exact .of_left (intBits_le_64 h1 h2)
 ·exact .of_right (intBits_le_64 h1 h2)
theorem JE:OpR X (binaryOp .Add) (rI0 fun i j=>.int (i+j)):=Jbq fun _ _ _ _ _ _ _ q=>add_int q
theorem J1w:OpR X (binaryOp .Sub) (rI0 fun i j=>.int (i - j)):=Jbq fun _ _ _ _ _ _ _ q=>sub_int q
theorem J1T:OpR X (binaryOp .Mult) (rI CMul fun i j=>.int (i * j)):=opI fun _ _ _ _ _ _ _ hc q=>mul_int q hc.ok
theorem J0b:OpR X (binaryOp .FloorDiv) (rI Ja8 fun i j=>.int (i / j)):=opI fun i j _ _ _ _ _ hc q=>by
 have h1:(0:Int)<j:=hc.1;have h2:j<1073741824:=hc.2;exact floordiv_int (by omega) (by rw [Int.fdiv_eq_ediv_of_nonneg i (by omega)];exact q) (.inl (PyProof.noPylong_small (by omega)))
theorem JF:OpR X (binaryOp .Mod) (rI (fun _ j=>0<j) fun i j=>.int (i % j)):=opI fun i j _ _ _ _ _ hc q=>by
 have h1:(0:Int)<j:=hc;exact mod_int' (by omega) (by rw [Int.fmod_eq_emod_of_nonneg i (by omega)];exact q)
theorem J8M:OpR X (binaryOp .Pow) (rI JbX fun i j=>.int (i ^ j.toNat)):=opI fun _ _ _ _ _ _ _ hc q=>pow_int_small hc.1 hc.2.1 hc.2.2 q
end
def J8m:V->V->Bool
 | .non,.non=>true | .non,.int _=>true | .int _,.non=>true | .non,.bl _=>true | .bl _,.non=>true | .non,.str _=>true | .str _,.non=>true
 | .int _,.int _=>true | .bl _,.bl _=>true | .str _,.str _=>true | .byt _,.byt _=>true
 | .int _,.str _=>true | .str _,.int _=>true | .bl _,.str _=>true | .str _,.bl _=>true
 | _,_=>false
def rEq:R2:=fun x y H Q=>J8m x y=true/\Q (.bl (decide (x=y))) H
def rNe:R2:=fun x y H Q=>J8m x y=true/\Q (.bl (!decide (x=y))) H
theorem J7m {i j:Int}:decide (V.int i=V.int j)=(i == j):=by
 rw [Bool.eq_iff_iff];simp
theorem J9c {i j:Bool}:decide (V.bl i=V.bl j)=(i == j):=by
 rw [Bool.eq_iff_iff];simp
theorem J7l {i j:Str}:decide (V.str i=V.str j)=(i == j):=by
 rw [Bool.eq_iff_iff];simp
theorem J7n {i j:Array UInt8}:decide (V.byt i=V.byt j)=(i.toList == j.toList):=by
 rw [Bool.eq_iff_iff];cases i;cases j;simp
section
variable {X:Cx}{a b c:Expr}{ta tb tc:TE}{pos:Pos}
theorem JB {pins:List (Addr×Obj)}{σ:St}{H:Hp}{s:Shared}{Q:VK}{k k':Bool}(I:Inv X pins σ H s)(q:Q (.bl k) H)(e:k=k'):EP X pins σ Q (.bool k') s:=by
 subst e;exact ⟨.bl k,H,I,rfl,q⟩
theorem JN:OpR X (compareOp .Eq) rEq:=by
 intro pins s σ H x y v u Q I rx ry h;obtain ⟨hs,q⟩:=h;cases x with
 | non =>
   cases rx;cases y with
   | non=>cases ry;exact PySem.EqNone.eq_none_none (JB I q (by simp))
   | bl j=>cases ry;exact PySem.EqNone.eq_none_bool (JB I q (by simp))
   | int j=>obtain ⟨t',rfl⟩:=ry;exact PySem.EqNone.eq_none_int (JB I q (by simp))
   | str j=>obtain ⟨t',rfl⟩:=ry;exact PySem.EqNone.eq_none_str (JB I q (by simp))
   | _=>exact absurd (show false=true from hs) zf
 | bl i =>
   cases rx;cases y with
   | non=>cases ry;exact PySem.EqNone.eq_bool_none (JB I q (by simp))
   | bl j=>cases ry;exact eq_bool (JB I q J9c)
   | str j=>obtain ⟨t',rfl⟩:=ry;exact PySem.EqMixed.eq_bool_str (JB I q (by simp))
   | _=>exact absurd (show false=true from hs) zf
 | int i =>
   obtain ⟨t,rfl⟩:=rx;cases y with
   | non=>cases ry;exact PySem.EqNone.eq_int_none (JB I q (by simp))
   | int j=>obtain ⟨t',rfl⟩:=ry;exact eq_int (JB I q J7m)
   | str j=>obtain ⟨t',rfl⟩:=ry;exact PySem.EqMixed.eq_int_str (JB I q (by simp))
   | _=>exact absurd (show false=true from hs) zf
 | str i =>
   obtain ⟨t,rfl⟩:=rx;cases y with
   | non=>cases ry;exact PySem.EqNone.eq_str_none (JB I q (by simp))
   | bl j=>cases ry;exact PySem.EqMixed.eq_str_bool (JB I q (by simp))
   | int j=>obtain ⟨t',rfl⟩:=ry;exact PySem.EqMixed.eq_str_int (JB I q (by simp))
   | str j=>obtain ⟨t',rfl⟩:=ry;exact eq_str (JB I q J7l)
   | _=>exact absurd (show false=true from hs) zf
 | byt i =>
   obtain ⟨t,rfl⟩:=rx;cases y with
   | byt j=>obtain ⟨t',rfl⟩:=ry;exact PySem.W.eq_bytes (JB I q J7n)
   | _=>exact absurd (show false=true from hs) zf
 | _=>cases y<;>exact absurd (show false=true from hs) zf
theorem J2c:OpR X (compareOp .NotEq) rNe:=by
 intro pins s σ H x y v u Q I rx ry h;obtain ⟨hs,q⟩:=h;cases x with
 | non =>
   cases rx;cases y with
   | non=>cases ry;exact PySem.EqNone.ne_none_none (JB I q (by simp))
   | bl j=>cases ry;exact PySem.EqNone.ne_none_bool (JB I q (by simp))
   | int j=>obtain ⟨t',rfl⟩:=ry;exact PySem.EqNone.ne_none_int (JB I q (by simp))
   | str j=>obtain ⟨t',rfl⟩:=ry;exact PySem.EqNone.ne_none_str (JB I q (by simp))
   | _=>exact absurd (show false=true from hs) zf
 | bl i =>
   cases rx;cases y with
   | non=>cases ry;exact PySem.EqNone.ne_bool_none (JB I q (by simp))
   | bl j=>cases ry;exact ne_bool (JB I q (congrArg not J9c))
   | str j=>obtain ⟨t',rfl⟩:=ry;exact PySem.EqMixed.ne_bool_str (JB I q (by simp))
   | _=>exact absurd (show false=true from hs) zf
 | int i =>
   obtain ⟨t,rfl⟩:=rx;cases y with
   | non=>cases ry;exact PySem.EqNone.ne_int_none (JB I q (by simp))
   | int j=>obtain ⟨t',rfl⟩:=ry;exact ne_int (JB I q (congrArg not J7m))
   | str j=>obtain ⟨t',rfl⟩:=ry;exact PySem.EqMixed.ne_int_str (JB I q (by simp))
   | _=>exact absurd (show false=true from hs) zf
 | str i =>
   obtain ⟨t,rfl⟩:=rx;cases y with
   | non=>cases ry;exact PySem.EqNone.ne_str_none (JB I q (by simp))
   | bl j=>cases ry;exact PySem.EqMixed.ne_str_bool (JB I q (by simp))
   | int j=>obtain ⟨t',rfl⟩:=ry;exact PySem.EqMixed.ne_str_int (JB I q (by simp))
   | str j=>obtain ⟨t',rfl⟩:=ry;exact ne_str (JB I q (congrArg not J7l))
   | _=>exact absurd (show false=true from hs) zf
 | byt i =>
   obtain ⟨t,rfl⟩:=rx;cases y with
   | byt j=>obtain ⟨t',rfl⟩:=ry;exact PySem.W.ne_bytes (JB I q (congrArg not J7n))
   | _=>exact absurd (show false=true from hs) zf
 | _=>cases y<;>exact absurd (show false=true from hs) zf
theorem J5V:OpR X (compareOp .Lt) (rI0 fun i j=>.bl (decide (i<j))):=JaQ fun _ _ _ _ _ _ _ q=>lt_int q
theorem J1E:OpR X (compareOp .LtE) (rI0 fun i j=>.bl (decide (i<=j))):=JaQ fun _ _ _ _ _ _ _ q=>le_int q
theorem J4T:OpR X (compareOp .Gt) (rI0 fun i j=>.bl (decide (j<i))):=JaQ fun _ _ _ _ _ _ _ q=>gt_int q
theorem J2s:OpR X (compareOp .In) (fun x y H Q=>∃ i j,x=.str i/\y=.str j/\Q (.bl (!(Builtin.Str.occurrences j i 0 j.length 1).isEmpty)) H):=by
 intro pins s σ H x y v u Q I rx ry h;obtain ⟨i,j,rfl,rfl,q⟩:=h;obtain ⟨t,rfl⟩:=rx;obtain ⟨t',rfl⟩:=ry;exact in_str (JB I q rfl)
theorem J2Q:OpR X (compareOp .Is) (fun x y H Q=>y=.non/\Q (.bl (decide (x=.non))) H):=by
 intro pins s σ H x y v u Q I rx ry h;obtain ⟨rfl,q⟩:=h;cases ry;refine is_none_gen (JB I q ?_);cases x<;>first
  | (cases rx;rfl)
  | (obtain ⟨t,rfl⟩:=rx;rfl)
theorem J1S:OpR X (compareOp .NotIn) (fun x y H Q=>∃ i j,x=.str i/\y=.str j/\Q (.bl (!(!(Builtin.Str.occurrences j i 0 j.length 1).isEmpty))) H):=by
 intro pins s σ H x y v u Q I rx ry h;obtain ⟨i,j,rfl,rfl,q⟩:=h;obtain ⟨t,rfl⟩:=rx;obtain ⟨t',rfl⟩:=ry;exact notIn_str (JB I q rfl)
theorem Jn (b:Expr){op:CmpOp}(h:op≠.In:=by decide)(h2:op≠.NotIn:=by decide):behindInMarks op b=false:=by
 have e1:(op == CmpOp.In)=false:=by cases op<;>first | rfl | exact absurd rfl h
 have e2:(op == CmpOp.NotIn)=false:=by cases op<;>first | rfl | exact absurd rfl h2
 cases b<;>simp [behindInMarks,e1,e2]
theorem J3U {op:CmpOp}{r:R2}(ho:OpR X (compareOp op) r)(ha:PE X a ta)(hb:PE X b tb)(hm:behindInMarks op b=false):PE X (.Compare a [op] [b] pos) (tOp r ta tb):=by
 intro pins s σ H Q I h;exact wpAny_Compare1 (Jbe ha hb I h fun v u s2 x y H2 I2 rx ry q=>ho pins s2 σ H2 x y v u Q I2 rx ry q) hm
def J3H (t:TE):TT:=fun σ H Q=>t σ H fun x H'=>∃ k,x=.bl k/\Q k H'
theorem Jj {op:CmpOp}{r:R2}(ho:OpR X (compareOp op) r)(ha:PE X a ta)(hb:PE X b tb)(hm:behindInMarks op b=false):PT X (.Compare a [op] [b] pos) (J3H (tOp r ta tb)):=by
 intro pins s σ H Q I h;refine wpAny_isTrue_Compare1 (thn (ha pins s σ H _ I h) fun v s1 ⟨x,H1,I1,r1,q1⟩=>thn (hb pins s1 σ H1 _ I1 q1) fun u s2 ⟨y,H2,I2,r2,q2⟩ =>
  thn (ho pins s2 σ H2 x y v u _ I2 r1 r2 q2) fun c s3 ⟨z,H3,I3,r3,k,e,q3⟩=>?_) hm
 subst e;cases r3;exact wpAny_truthy_bool ⟨H3,I3,q3⟩
def J59 (r r':R2)(ta tb tc:TE):TE:=fun σ H Q=>ta σ H fun x H1=>tb σ H1 fun y H2=>r x y H2 fun z H3=>∃ k,z=.bl k /\
 (if k=true then tc σ H3 fun w' H4=>r' y w' H4 Q else Q (.bl false) H3)
theorem J8K {op op':CmpOp}{r r':R2}(ho:OpR X (compareOp op) r)(ho':OpR X (compareOp op') r')(ha:PE X a ta)(hb:PE X b tb)(hc:PE X c tc)
 (hm:lastMarks [op,op'] [b,c]=false:=by with_unfolding_all rfl):PE X (.Compare a [op,op'] [b,c] pos) (J59 r r' ta tb tc):=by
 intro pins s σ H Q I h;refine Compare_chain (thn (ha pins s σ H _ I h) fun v s1 ⟨x,H1,I1,r1,q1⟩=>chain_link (thn (hb pins s1 σ H1 _ I1 q1) fun u s2 ⟨y,H2,I2,r2,q2⟩ =>
  thn (ho pins s2 σ H2 x y v u _ I2 r1 r2 q2) fun d s3 ⟨z,H3,I3,r3,k,e,q3⟩=>?_)) hm
 subst e;cases r3;refine wpAny_truthy_bool ?_;cases k with
 | false=>exact ite_ff ⟨.bl false,H3,I3,rfl,q3⟩
 | true=>exact ite_tt (chain_last (thn (hc pins s3 σ H3 _ I3 q3) fun w' s4 ⟨z',H4,I4,r4,q4⟩=>ho' pins s4 σ H4 y z' u w' Q I4 r2 r4 q4))
theorem J29 {op op':CmpOp}{r r':R2}(ho:OpR X (compareOp op) r)(ho':OpR X (compareOp op') r')(ha:PE X a ta)(hb:PE X b tb)(hc:PE X c tc)
 (hm:lastMarks [op,op'] [b,c]=false:=by with_unfolding_all rfl):PT X (.Compare a [op,op'] [b,c] pos) (J3H (J59 r r' ta tb tc)):=by
 intro pins s σ H Q I h;refine isTrue_chain (thn (ha pins s σ H _ I h) fun v s1 ⟨x,H1,I1,r1,q1⟩=>test_link (thn (hb pins s1 σ H1 _ I1 q1) fun u s2 ⟨y,H2,I2,r2,q2⟩ =>
  thn (ho pins s2 σ H2 x y v u _ I2 r1 r2 q2) fun d s3 ⟨z,H3,I3,r3,k,e,q3⟩=>?_)) hm
 subst e;cases r3;refine wpAny_truthy_bool ?_;cases k with
 | false =>
   obtain ⟨k',e',q'⟩:=q3;cases e';exact ite_ff ⟨H3,I3,q'⟩
 | true =>
   refine ite_tt (test_last (thn (hc pins s3 σ H3 _ I3 q3) fun w' s4 ⟨z',H4,I4,r4,q4⟩=>thn (ho' pins s4 σ H4 y z' u w' _ I4 r2 r4 q4) fun d' s5 ⟨z2,H5,I5,r5,k2,e2,q5⟩=>?_));subst e2;cases r5;exact wpAny_truthy_bool ⟨H5,I5,q5⟩
theorem J3C:(sizeLine:Nat)<2 ^ 63:=by rw [sizeLine_eq];decide
theorem Jp:OpR X (binaryOp .Add) (fun x y H Q=>∃ i j,x=.str i/\y=.str j/\i.length+j.length<=sizeLine/\Q (.str (i++j)) H):=by
 intro pins s σ H x y v u Q I rx ry h;obtain ⟨i,j,rfl,rfl,hz,q⟩:=h;obtain ⟨t,rfl⟩:=rx;obtain ⟨t',rfl⟩:=ry;exact add_str (fun t' tk=>⟨.str (i++j),H,I.tok _,⟨_,rfl⟩,q⟩) hz
theorem J1V {x:V}{us:List Value}(r:Vals [x] us):∃ u,us=[u]/\RelV x u:=by
 cases r with
 | cons r1 r2=>cases r2;exact ⟨_,rfl,r1⟩
theorem J6Z {x y:V}{us:List Value}(r:Vals [x,y] us):∃ u w',us=[u,w']/\RelV x u/\RelV y w':=by
 cases r with
 | cons r1 r2 =>
   cases r2 with
   | cons r3 r4=>cases r4;exact ⟨_,_,rfl,r1,r3⟩
theorem J81:J00 X (.type "int") (fun xs H Q=>(∃ i,xs=[.int i]/\Q (.int i) H)\/∃ k,xs=[.bl k]/\Q (.int (if k then 1 else 0)) H):=by
 intro pins s σ H xs us Q I r h;rcases h with ⟨i,rfl,q⟩ | ⟨k,rfl,q⟩
 ·obtain ⟨u,rfl,t,rfl⟩:=J1V r
  exact call_int_int ⟨.int i,H,I,⟨_,rfl⟩,q⟩
 ·obtain ⟨u,rfl,r1⟩:=J1V r
  cases r1;exact call_int_bool ⟨.int (if k then 1 else 0),H,I.tok _,⟨_,rfl⟩,q⟩
def JbJ (K:Frag)(x:V)(H:Hp)(n:Nat):Prop :=
 match x with
 | .str y=>y.length<=sizeLine/\n=y.length
 | .byt y=>y.size<=sizeLine/\n=y.size
 | .ref p=>(∃ xs,SqL K H p xs/\n=xs.length)\/∃ xs,SqT K H p xs/\n=xs.length
 | _=>False
theorem J9j:J00 X (.builtin "len") (fun xs H Q=>∃ x n,xs=[x]/\JbJ X.K x H n/\Q (.int n) H):=by
 intro pins s σ H xs us Q I r h;obtain ⟨x,n,rfl,e,q⟩:=h;obtain ⟨u,rfl,rx⟩:=J1V r;have hl:=J3C;have hs:sizeLine=16777216:=sizeLine_eq;cases x with
 | str y =>
   obtain ⟨t,rfl⟩:=rx;obtain ⟨hy,e'⟩:y.length<=sizeLine/\n=y.length:=e;subst e';exact len_str (by omega) ⟨.int _,H,I.tok _,⟨_,rfl⟩,q⟩
 | byt y =>
   obtain ⟨t,rfl⟩:=rx;obtain ⟨hy,e'⟩:y.size<=sizeLine/\n=y.size:=e;subst e';exact PySem.W.len_bytes (by omega) ⟨.int _,H,I.tok _,⟨_,rfl⟩,q⟩
 | ref p =>
   cases rx;have e':(∃ xs,SqL X.K H p xs/\n=xs.length)\/∃ xs,SqT X.K H p xs/\n=xs.length:=e;rcases e' with ⟨xs,hx,e'⟩ | ⟨xs,hx,e'⟩
   ·subst e'
    obtain ⟨its,r',pl,hz⟩:=I.list hx;have hlen:=r'.length;exact Calls.call_len_list pl.isList (by simp only [zw];omega) ⟨.int xs.length,H,I.tok _,⟨_,by simp only [zw];rw [hlen]⟩,q⟩
   ·subst e'
    obtain ⟨its,r',pl,hz⟩:=I.tuple hx;have hlen:=r'.length;exact len_tuple pl (by simp only [zw];omega) ⟨.int xs.length,H,I.tok _,⟨_,by simp only [zw];rw [hlen]⟩,q⟩
 | _=>exact (show False from e).elim
end
structure ObjM (h:Heap)(x dx C:Addr)(mA:Str->Option Value):Prop where
 obj:h.get? x=some (PySem.W.instObj C dx)
 ns:h.Ns1 dx mA
 ne:dx≠x
theorem J3B {h:Heap}{dx:Addr}{mA:Str->Option Value}(n:h.Ns1 dx mA):∃ od,h.get? dx=some od/\∀ name,PySem.W.lookIn name od=some (mA name):=by
 obtain ⟨o,es,ep,ho,hd,hk,_,hm⟩:=n;refine ⟨o,ho,fun name=>?_⟩;have e:=hm name;unfold nsFind findBy at e;rw [<- Array.find?_toList] at e;unfold PySem.W.lookIn;rw [hd];dsimp only
 split
 ·rename_i y q
  rw [q] at e;exact congrArg some e
 ·rename_i q
  rw [q] at e;have a:es.toList.any (·.refKey)=false:=by
   rw [any_eq_false];intro y hy;obtain ⟨z,t,hkey⟩:=hk y (Array.mem_toList_iff.mp hy);simp [DictEntry.refKey,hkey]
  have a':¬ es.toList.any (·.refKey)=true:=by rw [a];exact zf
  rw [zc a'];exact congrArg some e
theorem ObjM.look {h:Heap}{x dx C:Addr}{mA:Str->Option Value}(I:ObjM h x dx C mA):∃ od,PySem.W.InstAt h x (PySem.W.instObj C dx) C (some od)/\∀ name,PySem.W.lookIn name od=some (mA name) :=
 let ⟨od,ho,hl⟩:=J3B I.ns
 ⟨od,⟨I.obj,rfl,rfl,ho⟩,hl⟩
section
variable {prog:Program}{w:World}{A:Around}{E:Value->Shared->Prop}{s:Shared}{K:Frag}{x dx C f:Addr}{mA:Str->Option Value}{name:Str}{v:Value}
theorem Ja2 {expr:Bool}{Q:Value->Shared->Prop}(X:K.In s.heap)(I:ObjM s.heap x dx C mA)(hg:PySem.W.plainGet K C name=true)(hh:PySem.W.hasDictIn K C=true)
 (ha:findIn K (.ref C) name=some none) (hv:mA name=some v) (hv':PySem.W.handedIn v=true) (h:Q v { s with toks:=s.toks+1 }) :
 wpAny (model prog w) A (getAttr (.ref x) name expr) Q E s:=by
 obtain ⟨od,J,hl⟩:=I.look;exact PySem.W.get_value X J (PySem.W.plainGet_of hg).1 (PySem.W.findObj_own hh ha rfl (by rw [hl,hv])) hv' h
theorem J93 {pl:Sem Bool}{Q:Value×List Value->Shared->Prop}(X:K.In s.heap)(I:ObjM s.heap x dx C mA)(hg:PySem.W.plainGet K C name=true)
 (hf:findIn K (.ref C) name=some (some (.ref f))) (ht:PySem.W.isFn K (.ref f)=true) (hv:mA name=none) (h:Q (.ref f,[.ref x]) s) :
 wpAny (model prog w) A (getMethod (.ref x) name pl) Q E s:=by
 obtain ⟨od,J,hl⟩:=I.look;exact PySem.W.method_fn X J (PySem.W.plainGet_of hg).1 (PySem.W.plainGet_of hg).2 hf (beq_iff_eq.mp ht) (by show (PySem.W.lookIn name od).map (·.isSome)=some false;rw [hl,hv];rfl) h
theorem J9x {ns:List Str}{Q:Unit->Shared->Prop}(X:K.In s.heap)(I:ObjM s.heap x dx C mA)
 (hs:findIn K (.ref C) "__setattr__"=some (some (.builtin "object.__setattr__"))) (hp:PySem.W.plainOver K C=true) (ht:PySem.W.takerIn K C name=some none) (hh:PySem.W.hasDictIn K C=true)
 (hw:PySem.Within mA ns) (hsz:ns.length<=sizeLine)
 (h:∀ h',ObjM h' x dx C (fun y=>if y=name then some v else mA y)->Heap.SameBut dx s.heap h'->Q () { s with heap:=h',toks:=s.toks+2 }) :
 wpAny (model prog w) A (setAttr (.ref x) name v) Q E s:=by
 obtain ⟨od,J,hl⟩:=I.look;refine PySem.W.set_plain X J hs (PySem.W.osa_open (s:={ s with toks:=s.toks+1 }) (r:=none) X J hp ht fun b=>?_);obtain ⟨cd,hc,hd'⟩:=PySem.W.any_some hh;have hx:s.heap.get? x=some ⟨.ref C,some dx,.plain,#[]⟩:=I.obj;refine za (zb (za (za (wpAny_loadPart hx (za (PySem.W.Looks.here (s:={ s with toks:=s.toks+1 }) (PySem.W.looks_clsIn X hc) ?_))))));rw [hd'];refine zb (a:=some dx) (za (zb (za ?_)));refine wpAny_nsSet1 (s:={ s with toks:=s.toks+1 }) I.ns fun h' hn2 hs2=>?_;obtain ⟨oD,esD,epD,hoD,hdD,hcD⟩:=hn2.count (PySem.Within.cons name v hw);refine za (wpAny_lookBehind hoD (by rw [hdD];exact pastItsLine_dict (zo hcD (by rw [length_cons];omega))) ?_);exact zb (h _ ⟨(hs2.2 _ (Ne.symm I.ne)).trans I.obj,hn2,I.ne⟩ hs2)
theorem J8Q {R:Result->Shared->Prop}{vs:List Value}{kw:List (Str×Value)}(X:K.In s.heap)(hm:PySem.W.makesIn K C=true)
 (hi:findIn K (.ref C) "__init__"=some (some (.ref f))) (hf:PySem.W.typeIn K (.ref f)=some (.type "function"))
 (h:codeAny (model prog w) (A.under (.builtin "type.__call__" ⟨.ref C::vs,kw⟩)) (.call (.ref f) ⟨.ref (s.heap.objs.size+1)::vs,kw⟩) (PySem.W.InitBack (s.heap.objs.size+1) R)
  { s with heap:=(s.heap.push PySem.W.emptyDict).push (PySem.W.instObj C s.heap.objs.size) }) :
 codeAny (model prog w) A (.call (.ref C) ⟨vs,kw⟩) R s:=by
 obtain ⟨hh,g,d,t,os⟩:=s;exact PySem.W.make_core (PySem.W.makes_of X hm) (PySem.W.looks_findIn X hi) (fun self=>PySem.W.bind_fn X self hf) (.inl rfl) h
end
def J0j (f:Str)(v:V):List (Str×V)->List (Str×V)
 | []=>[(f,v)]
 | (g,x)::r=>if g=f then (g,v)::r else (g,x)::J0j f v r
theorem lookup_putF (f g:Str)(v:V):∀ fs:List (Str×V),(J0j f v fs).lookup g=if g=f then some v else fs.lookup g
 | []=>by
   show List.lookup g [(f,v)]=_;by_cases h:g=f
   ·have hb:(g == f)=true:=beq_iff_eq.mpr h
    simp only [List.lookup,hb,zd h]
   ·have hb:(g == f)=false:=beq_eq_false_iff_ne.mpr h
    simp only [List.lookup,hb,zc h]
 | (k,x)::r=>by
   have ih:=lookup_putF f g v r;rw [show J0j f v ((k,x)::r)=(if k=f then (k,v)::r else (k,x)::J0j f v r) from rfl];by_cases hk:k=f
   ·rw [zd hk]
    by_cases h:g=k
    ·have hb:(g == k)=true:=beq_iff_eq.mpr h
     simp only [List.lookup,hb,zd (h.trans hk)]
    ·have hb:(g == k)=false:=beq_eq_false_iff_ne.mpr h
     simp only [List.lookup,hb,zc (fun e:g=f=>h (e.trans hk.symm))]
   ·rw [zc hk]
    by_cases h:g=k
    ·have hb:(g == k)=true:=beq_iff_eq.mpr h
     simp only [List.lookup,hb,zc (fun e:g=f=>hk (h.symm.trans e))]
    ·have hb:(g == k)=false:=beq_eq_false_iff_ne.mpr h
     simp only [List.lookup,hb];exact ih
theorem keys_putF (f:Str)(v:V):∀ fs:List (Str×V),f∈(J0j f v fs).map (·.1)/\∀ g,g∈fs.map (·.1)->g∈(J0j f v fs).map (·.1)
 | []=>⟨by simp [J0j],fun g h=>by simp at h⟩
 | (k,x)::r=>by
   obtain ⟨i1,i2⟩:=keys_putF f v r;rw [show J0j f v ((k,x)::r)=(if k=f then (k,v)::r else (k,x)::J0j f v r) from rfl];by_cases hk:k=f
   ·rw [zd hk]
    subst hk;exact ⟨by simp,fun g h=>by simpa using h⟩
   ·rw [zc hk]
    refine ⟨?_,fun g h=>?_⟩
    ·rw [zD]
     exact zA _ i1
    ·rw [zD] at h ⊢
     rcases zC.mp h with e | e
     ·exact zC.mpr (.inl e)
     ·exact zA _ (i2 g e)
theorem J3L (f:Str)(v:V):∀ fs:List (Str×V),(J0j f v fs).length<=fs.length+1
 | []=>by simp [J0j]
 | (k,x)::r=>by
   have ih:=J3L f v r;rw [show J0j f v ((k,x)::r)=(if k=f then (k,v)::r else (k,x)::J0j f v r) from rfl];by_cases hk:k=f
   ·rw [zd hk,length_cons,length_cons];omega
   ·rw [zc hk,length_cons,length_cons];omega
theorem RelO.some_of {v:V}{o:Option Value}(r:RelO (some v) o):∃ u,o=some u/\RelV v u:=by
 cases o with
 | none=>exact (show False from r).elim
 | some u=>exact ⟨u,rfl,r⟩
theorem RelO.none_of {o:Option Value}(r:RelO none o):o=none:=by
 cases o with
 | none=>rfl
 | some u=>exact (show False from r).elim
theorem J4Z {v:V}{u:Value}(r:RelV v u):PySem.W.handedIn u=true:=by
 cases v with
 | non=>cases (show u=Value.none from r);rfl
 | bl b=>cases (show u=Value.bool b from r);rfl
 | int i=>obtain ⟨t,e⟩:=(show ∃ t,u=Value.int i t from r);cases e;rfl
 | str x=>obtain ⟨t,e⟩:=(show ∃ t,u=Value.str x t from r);cases e;rfl
 | byt b=>obtain ⟨t,e⟩:=(show ∃ t,u=Value.bytes b t from r);cases e;rfl
 | flt b=>obtain ⟨t,e⟩:=(show ∃ t,u=Value.float b t from r);cases e;rfl
 | ref a=>cases (show u=Value.ref a from r);rfl
 | ty n=>cases (show u=Value.type n from r);rfl
section
variable {P:Program}{w:World}{H H':Hp}{h h':Heap}{a C dx:Addr}{fs fs':List (Str×V)}
theorem J3W (hok:HOk P w H h)(e:H a=some (.ins C dx fs)):∃ mA,ObjM h a dx C mA/\(∀ f,RelO (fs.lookup f) (mA f))/\PySem.Within mA (fs.map (·.1))/\fs.length<=1000/\H dx=some (.own a):=by
 obtain ⟨d,z,ne,ob,mA,n,r,q⟩:=(show ObjOk P w H h a (.ins C dx fs) from hok a _ e);exact ⟨mA,⟨ob,n,ne⟩,r,q,z,d⟩
end
structure Cls (K:Frag)(C:Addr):Prop where
 pg:PySem.W.plainGet K C Str.empty=true
 hd:PySem.W.hasDictIn K C=true
 po:PySem.W.plainOver K C=true
 sa:findIn K (.ref C) "__setattr__"=some (some (.builtin "object.__setattr__"))
theorem Cls.get {K:Frag}{C:Addr}(c:Cls K C)(f:Str):PySem.W.plainGet K C f=true:=c.pg
def NoAttr (K:Frag)(C:Addr)(f:Str):Prop:=findIn K (.ref C) f=some none
theorem NoAttr.taker {K:Frag}{C:Addr}{f:Str}(n:NoAttr K C f):PySem.W.takerIn K C f=some none:=by
 unfold PySem.W.takerIn;rw [show findIn K (.ref C) f=some none from n];rfl
structure Meth (K:Frag)(C:Addr)(m:Str)(f:Addr):Prop where
 at_:findIn K (.ref C) m=some (some (.ref f))
 fn:PySem.W.isFn K (.ref f)=true
 kp:PySem.W.keepIn K (.ref f)=true
section
variable {X:Cx}{pins:List (Addr×Obj)}{σ:St}{H:Hp}{s:Shared}{a C dx:Addr}{fs:List (Str×V)}{f:Str}{v:V}{A:Around}{E:Value->Shared->Prop}
theorem J4o {b:Bool}{Q:Value->Shared->Prop}(I:Inv X pins σ H s)(e:H a=some (.ins C dx fs))(c:Cls X.K C)(n:NoAttr X.K C f)(l:fs.lookup f=some v)
 (h:∀ u s',Inv X pins σ H s'->RelV v u->Q u s'):wpAny (model X.prog X.w) A (getAttr (.ref a) f b) Q E s:=by
 obtain ⟨mA,O,r,_,_,_⟩:=J3W I.hok e;obtain ⟨u,hu,ru⟩:=RelO.some_of (v:=v) (o:=mA f) (by rw [<- l];exact r f);exact Ja2 I.kIn O (c.get f) c.hd n hu (J4Z ru) (h u _ (I.tok _) ru)
theorem J2T {m:Str}{g:Addr}{pl:Sem Bool}{Q:Value×List Value->Shared->Prop}(I:Inv X pins σ H s)(e:H a=some (.ins C dx fs))(c:Cls X.K C)(k:Meth X.K C m g)(l:fs.lookup m=none)
 (h:Q (.ref g,[.ref a]) s):wpAny (model X.prog X.w) A (getMethod (.ref a) m pl) Q E s:=by
 obtain ⟨mA,O,r,_,_,_⟩:=J3W I.hok e;have hn:mA m=none:=RelO.none_of (by rw [<- l];exact r m);exact J93 I.kIn O (c.get m) k.at_ k.fn hn h
theorem J47 {y:V}{u:Value}{Q:Unit->Shared->Prop}(I:Inv X pins σ H s)(e:H a=some (.ins C dx fs))(c:Cls X.K C)(n:NoAttr X.K C f)(hl:fs.length<1000)(ry:RelV y u)
 (h:∀ s',Inv X pins σ (upd H a (.ins C dx (J0j f y fs))) s'->Q () s'):wpAny (model X.prog X.w) A (setAttr (.ref a) f u) Q E s:=by
 obtain ⟨mA,O,r,wi,_,ho⟩:=J3W I.hok e;have hz:(fs.map (·.1)).length<=sizeLine:=by rw [zu,sizeLine_eq];omega
 refine J9x I.kIn O c.sa c.po n.taker c.hd wi hz fun h' O' sb=>h _ ?_;have hd:∃ o,h'.get? dx=some o:=let ⟨o,_,_,e',_⟩:=O'.ns;⟨o,e'⟩;refine I.write (x:=a) (e:=dx) (by rw [e];exact True.intro) (.inr ho) (fun b q hb z=>(sb.2 b hb).trans z) hd ?_;refine ⟨by rw [Jo O.ne];exact ho,?_,O.ne,O'.obj,_,O'.ns,fun g=>?_,fun g hg=>?_⟩
 ·have:=J3L f y fs;omega
 ·show RelO ((J0j f y fs).lookup g) (if g=f then some u else mA g)
  rw [lookup_putF];by_cases q:g=f
  ·rw [zd q,zd q];exact ry
  ·rw [zc q,zc q];exact r g
 ·by_cases q:g=f
  ·rw [q];exact (keys_putF f y fs).1
  ·refine (keys_putF f y fs).2 g (wi g fun z=>hg ?_)
   show (if g=f then some u else mA g)=none;rw [zc q];exact z
theorem Inv.made (I:Inv X pins σ H s):Inv X pins σ (upd (upd H s.heap.objs.size (.own (s.heap.objs.size+1))) (s.heap.objs.size+1) (.ins C s.heap.objs.size []))
 { s with heap:=(s.heap.push PySem.W.emptyDict).push (PySem.W.instObj C s.heap.objs.size) }:=by
 have e1:(s.heap.push PySem.W.emptyDict).get? s.heap.objs.size=some PySem.W.emptyDict:=zR s.heap rfl;have e2:((s.heap.push PySem.W.emptyDict).push (PySem.W.instObj C s.heap.objs.size)).get? (s.heap.objs.size+1)=some (PySem.W.instObj C s.heap.objs.size):=by
  have:=zR (s.heap.push PySem.W.emptyDict) (o:=PySem.W.instObj C s.heap.objs.size) rfl;rwa [Heap.size_push] at this
 have e3:(s.heap.push PySem.W.emptyDict).Ns s.heap.objs.size (fun _=>none):=⟨PySem.W.emptyDict,#[],_,e1,rfl,(fun e he=>absurd he (by simp)),fun _=>rfl⟩;have I1:=I.laid (a:=s.heap.objs.size) (o:=.own (s.heap.objs.size+1)) (h':=s.heap.push PySem.W.emptyDict) (t':=s.toks) (fun b u q=>zQ _ q) (ze _) ⟨_,e1⟩;refine I1.laid (a:=s.heap.objs.size+1) (o:=.ins C s.heap.objs.size []) (t':=s.toks) (fun b u q=>zQ _ q) (Nat.le_of_eq (Heap.size_push _ _)) ?_;have ne:s.heap.objs.size≠s.heap.objs.size+1:=zj (Nat.lt_succ_self _);refine ⟨by rw [Jo ne,Jd],zn _,ne,e2,fun _=>none,(Heap.Ns1.of_empty e3).at fun o q=>zQ _ q,fun _=>True.intro,fun y hy=>absurd rfl hy⟩
theorem J7q {prog:Program}{w:World}{env:Env}{e:Expr}{f:Str}{pos:Pos}{s:Shared}{Q:Value->Shared->Prop}(hb:attributeBase e f env (eval e env)=eval e env)
 (h:wpAny (model prog w) A (eval e env) (fun o s₁=>wpAny (model prog w) A (getAttr o f true) Q E s₁) E s):wpAny (model prog w) A (eval (.Attribute e f pos) env) Q E s :=
 Attribute_any_ h (by rw [arm_eval_Attribute,hb])
end
def Jav (K:Frag)(ta:TE)(f:Str):TE:=fun σ H Q=>ta σ H fun x H1=>∃ a C dx fs v,x=.ref a/\H1 a=some (.ins C dx fs)/\Cls K C/\NoAttr K C f/\fs.lookup f=some v/\Q v H1
def JaA (K:Frag)(ta tv:TE)(f:Str):TS:=fun D σ H=>tv σ H fun y H1=>ta σ H1 fun x H2=>∃ a C dx fs,x=.ref a/\H2 a=some (.ins C dx fs)/\Cls K C/\NoAttr K C f/\fs.length<1000 /\
 D.nx σ (upd H2 a (.ins C dx (J0j f y fs)))
def JbK (X:Cx)(op:Operator)(rd:V->V->Hp->VK->Prop):Prop :=
 ∀ (pins:List (Addr×Obj)) (s:Shared) (σ:St) (H:Hp) (x y:V) (u v:Value) (Q:VK),Inv X pins σ H s->RelV x u->RelV y v->rd x y H Q->wpAny (model X.prog X.w) X.A (inplaceOp op u v) (EP X pins σ Q) X.xe s
def J3R (K:Frag)(ta tv:TE)(rd:V->V->Hp->VK->Prop)(f:Str):TS:=fun D σ H=>ta σ H fun x H1=>∃ a C dx fs v,x=.ref a/\H1 a=some (.ins C dx fs)/\Cls K C/\NoAttr K C f/\fs.lookup f=some v /\
 tv σ H1 fun y H2=>rd v y H2 fun z H3=>∃ dx' fs',H3 a=some (.ins C dx' fs')/\fs'.length<1000/\D.nx σ (upd H3 a (.ins C dx' (J0j f z fs')))
section
variable {X:Cx}{o e value:Expr}{f:Str}{pos pos' tpos:Pos}{ta tv:TE}
theorem J1a (he:PE X e ta)(hb:attributeBase e f X.env (eval e X.env)=eval e X.env):PE X (.Attribute e f pos) (Jav X.K ta f):=by
 intro pins s σ H Q I h;refine J7q hb (thn (he pins s σ H _ I h) fun u s1 ⟨x,H1,I1,rx,a,C,dx,fs,v,ex,ea,c,n,l,q⟩=>?_);subst ex;obtain rfl:u=Value.ref a:=rx;exact J4o I1 ea c n l fun u' s2 I2 ru=>⟨v,H1,I2,ru,q⟩
theorem J6F (ha:PE X o ta)(hv:PE X value tv)(hs:swapsWith value (some (.Attribute o f pos')) pos.line X.env=pure false):PS X (.Assign [.Attribute o f pos'] value pos) (JaA X.K ta tv f):=by
 intro pins s σ H D I h;refine plainObj_wpAny_Assign_Attribute (thn (hv pins s σ H _ I h) fun u s1 ⟨y,H1,I1,ry,q⟩=>thn (ha pins s1 σ H1 _ I1 q) fun ov s2 ⟨x,H2,I2,rx,a,C,dx,fs,ex,ea,c,n,l,q2⟩=>?_) hs;subst ex;obtain rfl:ov=Value.ref a:=rx;exact J47 I2 ea c n l ry fun s3 I3=>⟨σ,_,I3,q2⟩
theorem J3w {op:Operator}{rd:V->V->Hp->VK->Prop}(ha:PE X o ta)(hv:PE X value tv)(hop:JbK X op rd):PS X (.AugAssign (.Attribute o f tpos) op value pos) (J3R X.K ta tv rd f):=by
 intro pins s σ H D I h;refine wpAny_AugAssign_AttributeAny (thn (ha pins s σ H _ I h) fun ov s1 ⟨x,H1,I1,rx,a,C,dx,fs,v,ex,ea,c,n,l,q⟩=>?_);subst ex;obtain rfl:ov=Value.ref a:=rx;refine J4o I1 ea c n l fun u s2 I2 ru=>thn (hv pins s2 σ H1 _ I2 q) fun w3 s3 ⟨y,H2,I3,ry,q3⟩=>thn (hop pins s3 σ H2 v y u w3 _ I3 ru ry q3) fun w4 s4 ⟨z,H3,I4,rz,dx',fs',ea',l',q4⟩=>?_;exact J47 I4 ea' c n l' rz fun s5 I5=>⟨σ,_,I5,q4⟩
def JaE:V->V->Hp->VK->Prop:=fun x y H Q=>∃ i j,x=.int i/\y=.int j/\Q (.int (i+j)) H
theorem J6O:JbK X .Add JaE:=by
 rintro pins s σ H x y u v Q I rx ry ⟨i,j,rfl,rfl,q⟩;obtain ⟨t,rfl⟩:=(show ∃ t,u=Value.int i t from rx);obtain ⟨t',rfl⟩:=(show ∃ t',v=Value.int j t' from ry);exact PyProof.Rows.iadd_int ⟨.int (i+j),H,I.tok _,⟨_,rfl⟩,q⟩
end
section
variable {X:Cx}{pins:List (Addr×Obj)}{σ:St}{H:Hp}{s:Shared}{A:Around}{E:Value->Shared->Prop}{Q:Value->Shared->Prop}{c:Value}{b:Bool}
inductive TyOf (K:Frag)(H:Hp):V->Value->Prop where
 | non:TyOf K H .non (.type "NoneType")
 | bl (x:Bool):TyOf K H (.bl x) (.type "bool")
 | int (i:Int):TyOf K H (.int i) (.type "int")
 | str (x:Str):TyOf K H (.str x) (.type "str")
 | flt (x:UInt64):TyOf K H (.flt x) (.type "float")
 | lst {a:Addr} {xs:List V} (e:H a=some (.lst xs)):TyOf K H (.ref a) (.type "list")
 | frz {a:Addr} {o:Obj} {xs:List V} (e:H a=some (.frz o (.lst xs))):TyOf K H (.ref a) (.type "list")
 | tup {a:Addr} {xs:List V} (e:H a=some (.tup xs)):TyOf K H (.ref a) (.type "tuple")
 | dK {a:Addr} {kvs:List (Key×V)} (e:H a=some (.dK kvs)):TyOf K H (.ref a) (.type "dict")
 | dT {a:Addr} {kvs:List (List J1h×V)} (e:H a=some (.dT kvs)):TyOf K H (.ref a) (.type "dict")
 | ins {a C dx:Addr} {fs:List (Str×V)} (e:H a=some (.ins C dx fs)) (cl:Cls K C) (ha:findIn K (.ref C) "__class__"=some (some (.builtin "object.__class__")))
  (hn:PySem.W.specialIn K (.builtin "object.__class__") "__get__"=some (some (.builtin "getset_descriptor.__get__"))) (htk:PySem.W.takesIn K (.builtin "object.__class__")=some true)
  (hm:PySem.W.mroIn K C (.type "object")=some true):TyOf K H (.ref a) (.ref C)
theorem J7Q {x:V}{u t:Value}(I:Inv X pins σ H s)(rx:RelV x u)(ty:TyOf X.K H x t)(e:PySem.W.kitOne X.K t c=some b)(h:∀ tk,Q (.bool b) { s with toks:=tk }) :
 wpAny (model X.prog X.w) A (call (.builtin "isinstance") [u,c]) Q E s:=by
 cases ty with
 | non=>cases (show u=Value.none from rx);exact PySem.W.kia_one PySem.W.kitx_none I.kIn True.intro e (fun z=>nomatch z) h
 | bl y=>cases (show u=Value.bool y from rx);exact PySem.W.kia_one PySem.W.kitx_bool I.kIn True.intro e (fun z=>nomatch z) h
 | int i=>obtain ⟨t,q⟩:=(show ∃ t,u=Value.int i t from rx);cases q;exact PySem.W.kia_one PySem.W.kitx_int I.kIn True.intro e (fun z=>nomatch z) h
 | str y=>obtain ⟨t,q⟩:=(show ∃ t,u=Value.str y t from rx);cases q;exact PySem.W.kia_one PySem.W.kitx_str I.kIn True.intro e (fun z=>nomatch z) h
 | flt y=>obtain ⟨t,q⟩:=(show ∃ t,u=Value.float y t from rx);cases q;exact PySem.W.kia_one PySem.W.kitx_float I.kIn True.intro e (fun z=>nomatch z) h
 | @lst a xs ea =>
   cases (show u=Value.ref a from rx);obtain ⟨_,_,n,_,h1⟩:=(show ObjOk X.prog X.w H s.heap a (.lst xs) from I.hok a _ ea);exact PySem.W.kia_one PySem.W.kitx_list I.kIn ⟨_,h1,rfl⟩ e (fun z=>nomatch z) h
 | @frz a ob xs ea =>
   cases (show u=Value.ref a from rx);obtain ⟨_,_,_,n,_,h1⟩:=(show ObjOk X.prog X.w H s.heap a (.frz ob (.lst xs)) from I.hok a _ ea);exact PySem.W.kia_one PySem.W.kitx_list I.kIn ⟨_,h1,rfl⟩ e (fun z=>nomatch z) h
 | @tup a xs ea =>
   cases (show u=Value.ref a from rx);obtain ⟨_,_,_,p⟩:=(show ObjOk X.prog X.w H s.heap a (.tup xs) from I.hok a _ ea);obtain ⟨o,h1,h2,_⟩:=p;exact PySem.W.kia_one PySem.W.kitx_tuple I.kIn ⟨o,h1,h2⟩ e (fun z=>nomatch z) h
 | @dK a kvs ea =>
   cases (show u=Value.ref a from rx);obtain ⟨_,_,vs,_,p⟩:=(show ObjOk X.prog X.w H s.heap a (.dK kvs) from I.hok a _ ea);obtain ⟨o,es,ep,h1,h2,_⟩:=p;exact PySem.W.kia_one PySem.W.kitx_dict I.kIn ⟨o,h1,h2.1⟩ e (fun z=>nomatch z) h
 | @dT a kvs ea =>
   cases (show u=Value.ref a from rx);obtain ⟨_,_,xs,_,o,es,ep,h1,h2,_⟩:=(show ObjOk X.prog X.w H s.heap a (.dT kvs) from I.hok a _ ea);exact PySem.W.kia_one PySem.W.kitx_dict I.kIn ⟨o,h1,h2.1⟩ e (fun z=>nomatch z) h
 | @ins a C dx fs ea cl ha hn htk hm =>
   cases (show u=Value.ref a from rx);obtain ⟨mA,O,_⟩:=J3W I.hok ea;obtain ⟨od,J,_⟩:=O.look;exact PySem.W.kia_one (PySem.W.kitx_own (cl.get _) cl.hd ha hn htk hm) I.kIn J e (fun z=>nomatch z) h
end
structure Room (k:Nat)(A:Around):Prop where
 hd:A.handled=none
 dp:A.depth+3 * k+5<recursionLimit
 un:A.units+16 * k+200<cLine
theorem Room.mono {j k:Nat}{A:Around}(r:Room k A)(h:j<=k):Room j A:=⟨r.hd,by have:=r.dp;omega,by have:=r.un;omega⟩
theorem Room.deeper {k:Nat}{A:Around}(r:Room (k+1) A)(env:Env):Room k (A.deeper env) :=
 ⟨r.hd,by have:=r.dp;show A.depth+1+3 * k+5<_;omega,by have:=r.un;show A.units+3+16 * k+200<_;omega⟩
theorem J6J {A:Around}{C:Addr}{us:List Value}{kw:List (Str×Value)}:(A.under (.builtin "type.__call__" ⟨.ref C::us,kw⟩)).depth=A.depth+1:=by
 first | rfl | simp [Around.under,Code.weight,Code.isCreation,Code.isGuard,Code.isCaller,Code.frames,Code.isFrame,guardIds]
theorem J6I {A:Around}{C:Addr}{us:List Value}{kw:List (Str×Value)}:(A.under (.builtin "type.__call__" ⟨.ref C::us,kw⟩)).units=A.units+1:=by
 first | rfl | simp [Around.under,Code.cUnits,Code.frames,Code.isFrame]
theorem Room.make {k:Nat}{A:Around}(r:Room (k+1) A)(C:Addr)(us:List Value)(kw:List (Str×Value)):Room k (A.under (.builtin "type.__call__" ⟨.ref C::us,kw⟩)) :=
 ⟨r.hd,by have:=r.dp;rw [J6J];omega,by have:=r.un;rw [J6I];omega⟩
theorem Room.depth {k:Nat}{A:Around}(r:Room k A):A.depth<recursionLimit:=by have:=r.dp;omega
theorem Room.units {k:Nat}{A:Around}(r:Room k A):A.units+64<cLine:=by have:=r.un;omega
def J6u:TA:=fun _ H Q=>Q [] H
def J43 (ta:TE)(tr:TA):TA:=fun σ H Q=>ta σ H fun x H1=>tr σ H1 fun xs H2=>Q (x::xs) H2
section
variable {X:Cx}{e:Expr}{es:List Expr}{te:TE}{t:TA}{pos:Pos}
theorem Jb:PA X [] J6u:=fun _ _ _ _ H Q I h=>Calls.spliced_nil ⟨[],H,I,.nil,h⟩
theorem J9M (ha:PE X e te)(hr:PA X es t)(hs:starEach (e::es) X.env=(false,eval e X.env)::starEach es X.env:=by rfl):PA X (e::es) (J43 te t):=by
 intro pos pins s σ H Q I h;rw [hs];show wpAny _ _ (spliced ((false,eval e X.env)::backTo pos (starEach es X.env))) _ _ s;refine Calls.spliced_cons (thn (ha pins s σ H _ I h) fun u s1 ⟨x,H1,I1,r1,q1⟩=>?_);exact thn (hr pos pins s1 σ H1 _ I1 q1) fun us s2 ⟨xs,H2,I2,r2,q2⟩=>⟨x::xs,H2,I2,.cons r1 r2,q2⟩
def J7v (t:TA):TE:=fun σ H Q=>t σ H fun xs H1=>xs.length<=sizeLine/\∀ p,H1 p=none->Q (.ref p) (upd H1 p (.tup xs))
def J8d (t:TA):TE:=fun σ H Q=>t σ H fun xs H1=>xs.length<=sizeLine/\∀ p,H1 p=none->Q (.ref p) (upd H1 p (.lst xs))
theorem Jx {x1}(h:PA X es t):PE X (.Tuple es x1 pos) (J7v t):=by
 intro pins s σ H Q I hq;refine wpAny_Tuple_spliced (thn (h pos pins s σ H _ I hq) fun us s1 ⟨xs,H1,I1,r,z,q⟩=>⟨by rw [<- r.length];exact z,?_⟩);have hf:H1 s1.heap.objs.size=none:=I1.hok.fresh (ze _);refine ⟨.ref s1.heap.objs.size,upd H1 s1.heap.objs.size (.tup xs),I1.laid (t':=s1.toks) (fun b u e=>zQ _ e) (ze _) ?_,rfl,q _ hf⟩;exact ⟨z,us,r,⟨_,zR _ rfl,rfl,_,rfl⟩⟩
theorem J02 (h:PA X es t):PE X (.List es pos) (J8d t):=by
 intro pins s σ H Q I hq;refine wpAny_List_spliced (thn (h pos pins s σ H _ I hq) fun us s1 ⟨xs,H1,I1,r,z,q⟩=>⟨by rw [<- r.length];exact z,?_⟩);have hf:H1 s1.heap.objs.size=none:=I1.hok.fresh (ze _);refine ⟨.ref s1.heap.objs.size,upd H1 s1.heap.objs.size (.lst xs),I1.laid (t':=s1.toks) (fun b u e=>zQ _ e) (ze _) ?_,rfl,q _ hf⟩;exact ⟨z,us,0,r,zR _ rfl⟩
end
abbrev Sp:=List V->Hp->VK->XK->Prop
abbrev CXT:=List Env->Hp->Shared->XK->Value->Shared->Prop
structure Env0 (P:Program)(w:World)(K:Frag)(mg:Str->Option Value)(base:Heap)(A:Around)(outer:List Env)(s:Shared)(H:Hp):Prop where
 frames:A.frames=some outer
 mod:Mod K mg base
 bs:∀ b o,base.get? b=some o->s.heap.get? b=some o/\H b=none
 bsz:base.objs.size<=s.heap.objs.size
 funs:s.heap.FunFrames base outer
 frf:∀ b∈frs outer,H b=none
 hok:HOk P w H s.heap
 bare:AllBare s.gens
def CE (outer:List Env)(P:Program)(w:World)(H:Hp)(s:Shared)(Q:VK)(u:Value)(s':Shared):Prop :=
 ∃ v H',s'.os=s.os/\AllBare s'.gens/\Un (frs outer) [] H H' s.heap s'.heap/\HOk P w H' s'.heap/\RelV v u/\Q v H'
def CR (CX:CXT)(outer:List Env)(P:Program)(w:World)(H:Hp)(s:Shared)(Q:VK)(E:XK)(r:Result)(s':Shared):Prop :=
 match r with
 | .ok (.ret u)=>CE outer P w H s Q u s'
 | .ok _=>False
 | .error e=>CX outer H s E e s'
structure FnOk (P:Program)(w:World)(K:Frag)(mg:Str->Option Value)(base:Heap)(CX:CXT)(k:Nat)(f:Addr)(fd:FuncData)(ps:List Str)(sp:Sp):Prop where
 len:∀ vs H Q E,sp vs H Q E->vs.length=ps.length
 run:∀ (A:Around) (outer:List Env) (s:Shared) (H:Hp) (args:Args) (us:List Value) (vs:List V) (Q:VK) (E:XK),Room k A->Env0 P w K mg base A outer s H->BindsTo s fd args (ps.zip us)->Vals vs us->sp vs H Q E ->
  codeAny (model P w) A (.call (.ref f) args) (CR CX outer P w H s Q E) s
theorem Env0.make {P:Program}{w:World}{K:Frag}{mg:Str->Option Value}{base:Heap}{A:Around}{outer:List Env}{s:Shared}{H:Hp}(e:Env0 P w K mg base A outer s H)(C:Addr)(us:List Value)(kw:List (Str×Value)) :
 Env0 P w K mg base (A.under (.builtin "type.__call__" ⟨.ref C::us,kw⟩)) outer s H:=⟨by first | exact e.frames | (simpa [Around.under,Code.envs,Code.isFrame,pushEnvs] using e.frames),e.mod,e.bs,e.bsz,e.funs,e.frf,e.hok,e.bare⟩
section
variable {X:Cx}{pins:List (Addr×Obj)}{σ:St}{H:Hp}{s s':Shared}
theorem Inv.env0 (I:Inv X pins σ H s):Env0 X.prog X.w X.K X.mg X.base X.A X.stack s H :=
 ⟨I.ok.frames,I.ok.mod,I.bs,zo I.ok.bsz I.sz,I.stack,I.stkFree,I.hok,I.bare⟩
theorem Inv.after {Q:VK}{u:Value}(I:Inv X pins σ H s)(h:CE X.stack X.prog X.w H s Q u s'):EP X pins σ Q u s':=by
 obtain ⟨v,H',os,bare,un,hok,r,q⟩:=h;obtain ⟨hh,g,d,t,os'⟩:=s';obtain rfl:os'=s.os:=os;exact ⟨v,H',I.call (h':=hh) (g':=g) (d':=d) (t':=t) (ch:=[]) un hok bare (fun b z=>absurd z (by simp)),r,q⟩
end
def J76 (sp:Sp)(dvs:List V)(E:XK)(t:TA):TE:=fun σ H Q=>t σ H fun vs H1=>sp (vs++dvs) H1 Q E
def J73 (C:Addr)(m:Str)(sp:Sp)(dvs:List V)(E:XK)(ta:TE)(t:TA):TE:=fun σ H Q=>ta σ H fun x H1=>∃ a dx fs,x=.ref a/\H1 a=some (.ins C dx fs)/\fs.lookup m=none /\
 t σ H1 fun vs H2=>sp (x::(vs++dvs)) H2 Q E
def Jab (C:Addr)(sp:Sp)(dvs:List V)(E:XK)(t:TA):TE:=fun σ H Q=>t σ H fun vs H1=>∀ x dx,H1 x=none->H1 dx=none->dx≠x ->
 sp (.ref x::(vs++dvs)) (upd (upd H1 dx (.own x)) x (.ins C dx [])) (fun v H2=>v=.non/\Q (.ref x) H2) E
def Binds (K:Frag)(fd:FuncData)(ps:List Str)(ds:List Value):Prop :=
 ∀ (s:Shared) (us:List Value),K.In s.heap->(us++ds).length=ps.length->BindsTo s fd ⟨us,[]⟩ (ps.zip (us++ds))
theorem Binds.all {K:Frag}{fd:FuncData}{ps:List Str}(h:∀ us:List Value,us.length=ps.length->bindArgs fd ⟨us,[]⟩=pure (ps.zip us)):Binds K fd ps []:=fun s us _ hl=>by
 rw [append_nil] at hl ⊢;exact .of_eq (h us hl)
def J3F (CX:CXT)(X:Cx)(E:XK):Prop:=∀ (pins:List (Addr×Obj)) (σ:St) (H:Hp) (s:Shared) (e:Value) (s':Shared),Inv X pins σ H s->CX X.stack H s E e s'->X.xe e s'
section
variable {X:Cx}{CX:CXT}{k:Nat}{f C:Addr}{fd:FuncData}{ps:List Str}{sp:Sp}{dvs:List V}{ds:List Value}{E:XK}{x m:Str}{p pos apos:Pos}{e o:Expr}{es:List Expr}{ta:TE}{t:TA}
theorem J8p {pins:List (Addr×Obj)}{σ:St}{H:Hp}{s:Shared}{Q:VK}{us:List Value}{vs:List V}(F:FnOk X.prog X.w X.K X.mg X.base CX k f fd ps sp)(hr:Room k X.A)(hb:Binds X.K fd ps ds)(hd:Vals dvs ds)(hx:J3F CX X E)
 (I:Inv X pins σ H s) (r:Vals vs us) (h:sp (vs++dvs) H Q E):wpAny (model X.prog X.w) X.A (call (.ref f) us) (EP X pins σ Q) X.xe s:=by
 have r2:Vals (vs++dvs) (us++ds):=r.append hd;have hl:(us++ds).length=ps.length:=by rw [<- r2.length];exact F.len _ _ _ _ h
 refine wpAny_call (codeAny_mono (F.run X.A X.stack s H ⟨us,[]⟩ (us++ds) (vs++dvs) Q E hr I.env0 (hb s us I.kIn hl) r2 h) fun r s' hq=>?_);cases r with
 | error e=>exact hx pins σ H s e s' I hq
 | ok fl =>
   cases fl with
   | ret u=>exact I.after hq
   | next=>exact zp hq
   | brk=>exact zp hq
   | cont=>exact zp hq
theorem J9K (F:FnOk X.prog X.w X.K X.mg X.base CX k f fd ps sp)(hr:Room k X.A)(hg:Gl X x)(hm:X.mg x=some (.ref f))(hk:PySem.W.keepIn X.K (.ref f)=true)(hb:Binds X.K fd ps ds)(hd:Vals dvs ds)(hx:J3F CX X E)
 (ha:PA X (e::es) t) (hdb:(x == ("__debug__":Str))=false:=by decide) (he:starEach (e::es) X.env=(false,eval e X.env)::starEach es X.env:=by rfl) (hpl:(backTo pos (starEach es X.env)).any (·.1)=false:=by rfl) :
 PE X (.Call (.Name x p) (e::es) [] pos) (J76 sp dvs E t):=by
 intro pins s σ H Q I h;refine wpAny_Call_Name_kw (J0O I hg hm ?_ hdb);refine PySem.W.callWith_K (h₀:=X.base) I.ok.mod.kin hk (thn (ha pos pins s σ H _ I h) fun us s1 ⟨vs,H1,I1,r,q⟩=>⟨I1.kIn,?_⟩) he hpl;exact J8p F hr hb hd hx I1 r q
theorem J0M {pl:Sem Bool}(he:PE X o ta)(c:Cls X.K C)(hm:Meth X.K C m f)(F:FnOk X.prog X.w X.K X.mg X.base CX k f fd ps sp)(hr:Room k X.A)(hb:Binds X.K fd ps ds)(hd:Vals dvs ds)(hx:J3F CX X E)(ha:PA X (e::es) t)
 (hst:starEach (e::es) X.env=(false,eval e X.env)::starEach es X.env:=by rfl) (hpl:(backTo pos (starEach es X.env)).any (·.1)=false:=by rfl)
 (ht:eval (.Call (.Attribute o m apos) (e::es) [] pos) X.env=(do
  let ov <- eval o X.env
  standAt apos.atName
  let (f,first) <- holding [ov] (getMethod ov m pl)
  callWith pos f first (backTo pos (starEach (e::es) X.env)) (backToKw pos (keywordEach [] X.env))):=by rfl) :
 PE X (.Call (.Attribute o m apos) (e::es) [] pos) (J73 C m sp dvs E ta t):=by
 intro pins s σ H Q I h;refine PySem.W.methodCall_KW (pl:=pl) (thn (he pins s σ H _ I h) fun u s1 ⟨x,H1,I1,rx,a,dx,fs,ex,ea,l,q⟩=>?_) ht;subst ex;obtain rfl:u=Value.ref a:=rx;refine J2T I1 ea c hm l ?_;refine PySem.W.callWith_K (first:=[.ref a]) (h₀:=X.base) I.ok.mod.kin hm.kp (thn (ha pos pins s1 σ H1 _ I1 q) fun us s2 ⟨vs,H2,I2,r,q2⟩=>⟨I2.kIn,?_⟩) hst hpl;exact J8p (us:=.ref a::us) (vs:=.ref a::vs) F hr hb hd hx I2 (.cons rfl r) q2
structure Mk (K:Frag)(C f:Addr):Prop where
 makes:PySem.W.makesIn K C=true
 init:findIn K (.ref C) "__init__"=some (some (.ref f))
 fn:PySem.W.isFn K (.ref f)=true
 kp:PySem.W.keepIn K (.ref C)=true
theorem J8o {pins:List (Addr×Obj)}{σ:St}{H:Hp}{s:Shared}{Q:VK}{us:List Value}{vs:List V}(M:Mk X.K C f)(F:FnOk X.prog X.w X.K X.mg X.base CX k f fd ps sp)(hr:Room (k+1) X.A)(hb:Binds X.K fd ps ds)(hd:Vals dvs ds)
 (hx:J3F CX X E) (I:Inv X pins σ H s) (r:Vals vs us)
 (h:∀ x dx,H x=none->H dx=none->dx≠x->sp (.ref x::(vs++dvs)) (upd (upd H dx (.own x)) x (.ins C dx [])) (fun v H2=>v=.non/\Q (.ref x) H2) E) :
 wpAny (model X.prog X.w) X.A (call (.ref C) us) (EP X pins σ Q) X.xe s:=by
 have hq:=h (s.heap.objs.size+1) s.heap.objs.size (I.hok.fresh (Nat.le_succ _)) (I.hok.fresh (ze _)) (zj (Nat.lt_succ_self _));have I2:=Inv.made (C:=C) I;have r2:Vals (V.ref (s.heap.objs.size+1)::(vs++dvs)) (Value.ref (s.heap.objs.size+1)::(us++ds)):=.cons rfl (r.append hd);have hl:(Value.ref (s.heap.objs.size+1)::us++ds).length=ps.length:=by
  have e:=r2.length;rw [F.len _ _ _ _ hq] at e;exact e.symm
 refine wpAny_call (J8Q (f:=f) I.kIn M.makes M.init (beq_iff_eq.mp M.fn) (codeAny_mono (F.run _ X.stack _ _ ⟨Value.ref (s.heap.objs.size+1)::us,[]⟩ (Value.ref (s.heap.objs.size+1)::(us++ds)) _ _ E (hr.make C us [])
  (I2.env0.make C us []) (hb _ (Value.ref (s.heap.objs.size+1)::us) I2.kIn hl) r2 hq) fun r s' hq'=>?_))
 cases r with
 | error e=>exact hx pins σ _ _ e s' I2 hq'
 | ok fl =>
   cases fl with
   | ret u =>
     obtain ⟨v,H',I3,rv,ev,q3⟩:=I2.after hq';subst ev;exact ⟨rv,⟨V.ref (s.heap.objs.size+1),H',I3,rfl,q3⟩⟩
   | next=>exact zp hq'
   | brk=>exact zp hq'
   | cont=>exact zp hq'
theorem J9J (M:Mk X.K C f)(F:FnOk X.prog X.w X.K X.mg X.base CX k f fd ps sp)(hr:Room (k+1) X.A)(hg:Gl X x)(hm:X.mg x=some (.ref C))(hb:Binds X.K fd ps ds)(hd:Vals dvs ds)(hx:J3F CX X E)
 (ha:PA X (e::es) t) (hdb:(x == ("__debug__":Str))=false:=by decide) (he:starEach (e::es) X.env=(false,eval e X.env)::starEach es X.env:=by rfl) (hpl:(backTo pos (starEach es X.env)).any (·.1)=false:=by rfl) :
 PE X (.Call (.Name x p) (e::es) [] pos) (Jab C sp dvs E t):=by
 intro pins s σ H Q I h;refine wpAny_Call_Name_kw (J0O I hg hm ?_ hdb);refine PySem.W.callWith_K (h₀:=X.base) I.ok.mod.kin M.kp (thn (ha pos pins s σ H _ I h) fun us s1 ⟨vs,H1,I1,r,q⟩=>⟨I1.kIn,?_⟩) he hpl;exact J8o M F hr hb hd hx I1 r q
end
structure FnScope (N P:List Str)(sc:Scope):Prop where
 kind:sc.kind=.function
 co:sc.isCoroutine=false
 gen:sc.isGenerator=false
 nd:N.Nodup
 pre:N.take P.length=P
 par:∀ x∈P,sc.names.lookup x=some .local\/sc.names.lookup x=some .cell
 nofree:∀ y∈sc.names,y.2≠.free
theorem J51 {kindOf:Str->Option NameKind}{x:Str}:∀ {binds:List (Str×Value)} {m:Str->Option Value},(∀ v,(x,v)∉binds)->bindL kindOf binds m x=m x
 | [],_,_=>rfl
 | (n,v)::r,m,h=>by
   unfold bindL;rw [J51 fun w hw=>h w (zA _ hw)]
   split
   ·have:x≠n:=by rintro rfl;exact h v zB
    simp [this]
   ·rfl
theorem J53 {kindOf:Str->Option NameKind}{x:Str}:∀ {binds:List (Str×Value)} {m:Str->Option Value},(∀ v,(x,v)∉binds)->bindC kindOf binds m x=m x
 | [],_,_=>rfl
 | (n,v)::r,m,h=>by
   unfold bindC;rw [J53 fun w hw=>h w (zA _ hw)]
   split
   ·rfl
   ·have:x≠n:=by rintro rfl;exact h v zB
    simp [this]
theorem J52 {kindOf:Str->Option NameKind}{x:Str}{v:Value}:∀ {P:List Str} {vs:List Value} {i:Nat} {m:Str->Option Value},P.Nodup->P[i]?=some x->vs[i]?=some v->kindOf x=some .local ->
 bindL kindOf (P.zip vs) m x=some v
 | [],_,_,_,_,h,_,_=>by simp at h
 | _::_,[],_,_,_,_,h,_=>by simp at h
 | p::P,w::vs,0,m,nd,h1,h2,hk=>by
   simp at h1 h2;subst h1;subst h2;show bindL kindOf ((p,w)::P.zip vs) m p=_;unfold bindL;rw [J51 fun v hv=>(nodup_cons.mp nd).1 (of_mem_zip hv).1,zd hk];simp
 | p::P,w::vs,i+1,m,nd,h1,h2,hk=>by
   show bindL kindOf ((p,w)::P.zip vs) m x=_;unfold bindL;exact J52 (i:=i) (nodup_cons.mp nd).2 (by simpa using h1) (by simpa using h2) hk
theorem J54 {kindOf:Str->Option NameKind}{x:Str}{v:Value}:∀ {P:List Str} {vs:List Value} {i:Nat} {m:Str->Option Value},P.Nodup->P[i]?=some x->vs[i]?=some v->kindOf x≠some .local ->
 bindC kindOf (P.zip vs) m x=some v
 | [],_,_,_,_,h,_,_=>by simp at h
 | _::_,[],_,_,_,_,h,_=>by simp at h
 | p::P,w::vs,0,m,nd,h1,h2,hk=>by
   simp at h1 h2;subst h1;subst h2;show bindC kindOf ((p,w)::P.zip vs) m p=_;unfold bindC;rw [J53 fun v hv=>(nodup_cons.mp nd).1 (of_mem_zip hv).1,zc hk];simp
 | p::P,w::vs,i+1,m,nd,h1,h2,hk=>by
   show bindC kindOf ((p,w)::P.zip vs) m x=_;unfold bindC;exact J54 (i:=i) (nodup_cons.mp nd).2 (by simpa using h1) (by simpa using h2) hk
def J24 (N:List Str)(vs:List V):St:=vs.map some++List.replicate (N.length - vs.length) none
def J3E (CX:CXT)(P:Program)(w:World)(K:Frag)(mg:Str->Option Value)(base:Heap)(N:List Str)(qual:Str)(scope:Scope)(f:Addr)(cd:Value)(A:Around)(outer:List Env)(s:Shared)(H:Hp)(E:XK):Cx where
 prog:=P
 w:=w
 K:=K
 mg:=mg
 base:=base
 A:=A.deeper (envOfC qual scope s.heap.objs.size f cd)
 N:=N
 s₀:=s
 H₀:=H
 env:=envOfC qual scope s.heap.objs.size f cd
 outer:=outer
 stack:=envOfC qual scope s.heap.objs.size f cd::outer
 ex:=[]
 calm:=true
 fn:=fun _=>true
 pn:=[]
 xe:=fun e s'=>wpAny (model P w) (A.deeper (envOfC qual scope s.heap.objs.size f cd)) (leaving (envOfC qual scope s.heap.objs.size f cd) e) (fun _ s''=>CX outer H s E e s'') (fun e' s''=>CX outer H s E e' s'') s'
theorem J6f {sc:Scope}{n:Nat}{x:Str}(h:sc.names.lookup x=some .cell):∃ c,(cellsFrom n sc.names []).lookup x=some c:=by
 have q:=PySem.W.cellsFrom_some sc.names n [] (.inl h);exact Option.isSome_iff_exists.mp q
theorem inv_start {CX:CXT}{P:Program}{w:World}{K:Frag}{mg:Str->Option Value}{base:Heap}{N ps:List Str}{qual:Str}{scope:Scope}{f:Addr}{cd:Value}{A:Around}{outer:List Env}{s s1:Shared}{H:Hp}{E:XK}{us:List Value}{vs:List V}
 (S:FnScope N ps scope) (hd:A.handled=none) (e0:Env0 P w K mg base A outer s H) (hl:vs.length=ps.length) (r:Vals vs us)
 (x:InCallC s s.heap.objs.size (bindL (envOfC qual scope s.heap.objs.size f cd).kindOf (ps.zip us) fun _=>none) (cellsFrom (s.heap.objs.size+1) scope.names []) (bindC (envOfC qual scope s.heap.objs.size f cd).kindOf (ps.zip us) fun _=>none) s1) :
 Inv (J3E CX P w K mg base N qual scope f cd A outer s H E) [] (J24 N vs) H s1:=by
 have hpl:ps.length<=N.length:=by have:=congrArg List.length S.pre;rw [zz] at this;omega
 obtain ⟨h1,tk,rfl,hk⟩:=x.done;have noA:∀ b:Addr,b∉(J3E CX P w K mg base N qual scope f cd A outer s H E).ex:=fun b z=>absurd (show b∈([]:List Addr) from z) (by simp);refine ⟨⟨e0.mod,S.kind,rfl,rfl,ze _,fun y z c h1 h2=>?_,fun y hy=>?_,fun y c _ h=>?_,fun _=>hd,Around.frames_deeper e0.frames,.inr ⟨rfl,rfl⟩,fun b z=>absurd z (noA b),e0.bs,e0.bsz,fun b _ _=>noA b,fun b z=>absurd z (noA b),e0.funs,e0.frf⟩,
  rfl,e0.bare,Un.kept hk,⟨_,x.toInCall.ns,fun i y v h1 h2 h3=>?_⟩,fun y c h=>⟨_,x.cell y c h⟩,e0.hok.fresh (ze _),fun y c h=>?_,fun p hp=>absurd (show p∈([]:List (Addr×Obj)) from hp) (by simp),e0.hok.kept hk,?_⟩
 ·exact name_of_addr x.apart (PySem.mem_of_lookup h1) (PySem.mem_of_lookup h2)
 ·have hy:scope.names.lookup y=some .cell\/scope.names.lookup y=some .free:=hy
  rcases hy with hy | hy
  ·exact J6f hy
  ·exact absurd rfl (S.nofree _ (PySem.mem_of_lookup hy))
 ·exact Nat.le_of_lt (x.above y c (PySem.mem_of_lookup h))
 ·have hi:i<vs.length:=by
   unfold J24 at h2;by_cases hi:i<vs.length
   ·exact hi
   ·rw [zL (by simpa using hi)] at h2
    rw [List.getElem?_replicate] at h2
    split at h2<;>cases h2
  have ha:vs[i]?=some v:=by
   unfold J24 at h2;rw [zM (by simpa using hi),zE] at h2;cases e:vs[i]? with
   | none=>rw [e] at h2;cases h2
   | some a=>rw [e] at h2;cases h2;rfl
  obtain ⟨u,hu,rv⟩:=r.get ha;have hp:ps[i]?=some y:=by
   rw [<- S.pre,List.getElem?_take_of_lt (by omega)];exact h1
  have ndP:ps.Nodup:=by rw [<- S.pre];exact S.nd.sublist (take_sublist _ _)
  refine ⟨u,rv,?_⟩;rcases S.par y (zx hp) with k | k
  ·exact .inl ⟨k,J52 ndP hp hu k⟩
  ·obtain ⟨c,e⟩:=J6f (n:=s.heap.objs.size+1) k
   refine .inr ⟨.inl k,c,e,?_⟩;have q:=x.cell y c e;rw [J54 ndP hp hu (by show scope.names.lookup y≠_;rw [k];decide)] at q;exact q
 ·exact e0.hok.fresh (Nat.le_of_lt (x.above y c (PySem.mem_of_lookup h)))
 ·unfold J24
  show _=N.length;rw [zy,zu,zP];omega
theorem Jaq {CX:CXT}{P:Program}{w:World}{K:Frag}{mg:Str->Option Value}{base:Heap}{k:Nat}{f:Addr}{name qual:Str}{params:Arguments}{body:List Stmt}{scope:Scope}{dV kV doc pm cdv ct oc:Value}{an od:Option Addr}
 {osl:Array (Option Value)} {N ps:List Str} {sp:Sp} (lk:K.lookup f=some ⟨oc,od,.func (PySem.W.fnOf name qual params body scope dV kV doc pm an cdv ct),osl⟩) (hcd:PySem.W.codeIn K cdv qual=true) (S:FnScope N ps scope)
 (len:∀ vs H Q E,sp vs H Q E->vs.length=ps.length)
 (hbody:∀ (A:Around) (outer:List Env) (s:Shared) (H:Hp) (vs:List V) (Q:VK) (E:XK),Room k (A.deeper (envOfC qual scope s.heap.objs.size f cdv))->sp vs H Q E ->
  ∃ t,PSs (J3E CX P w K mg base N qual scope f cdv A outer s H E) body t/\t { nx:=fun _ H'=>Q .non H',rt:=Q } (J24 N vs) H) :
 FnOk P w K mg base CX (k+1) f (PySem.W.fnOf name qual params body scope dV kV doc pm an cdv ct) ps sp:=by
 refine ⟨len,fun A outer s H args us vs Q E hr e0 hb r hsp=>?_⟩;have hl:=len _ _ _ _ hsp;have KX:K.In s.heap:=e0.mod.kin.keeps fun b o e=>(e0.bs b o e).1;have lim:s.heap.NoLimit:=e0.mod.nolimit.keeps fun b o e=>(e0.bs b o e).1;have hkind:∀ y∈ps.zip us,scope.names.lookup y.1=some .local\/(scope.names.lookup y.1=some .cell/\((cellsFrom (s.heap.objs.size+1) scope.names []).lookup y.1).isSome=true):=fun ⟨n,v⟩ hy=>by
  rcases S.par n (of_mem_zip hy).1 with q | q
  ·exact .inl q
  ·exact .inr ⟨q,PySem.W.cellsFrom_some _ _ _ (.inl q)⟩
 refine codeAny_call_function hr.depth (KX _ _ lk) rfl S.co S.gen rfl (PySem.W.codeRec_of KX hcd) (hb _ _ _ _ ?_);refine wpAny_newFunctionEnv_cells S.kind hkind fun env he s1 x=>?_;subst he;refine ⟨lim.keeps x.toInCall.keep,codeAny_func ?_⟩;obtain ⟨t,ht,hq⟩:=hbody A outer s H vs Q E (hr.deeper _) hsp;have I:Inv (J3E CX P w K mg base N qual scope f cdv A outer s H E) [] (J24 N vs) H s1:=inv_start S hr.hd e0 hl r x;refine wpAny_mono (ht [] s1 (J24 N vs) H _ I hq) (fun fl s' hs=>?_) fun e s' hs=>hs;have fin:∀ {σ':St} {H':Hp} {v:V} {u:Value},Inv (J3E CX P w K mg base N qual scope f cdv A outer s H E) [] σ' H' s'->RelV v u->Q v H'->CE outer P w H s Q u s' :=
  fun {σ' H' v u} J rv q=>⟨v,H',J.os,J.bare,J.base,J.hok,rv,q⟩
 cases fl with
 | ret u =>
   obtain ⟨v,σ',H',J,rv,q⟩:=hs;exact fin J rv q
 | next =>
   obtain ⟨σ',H',J,q⟩:=hs;exact fin (v:=V.non) (u:=Value.none) J rfl q
 | brk =>
   obtain ⟨_,_,_,q⟩:=hs;exact zp q
 | cont =>
   obtain ⟨_,_,_,q⟩:=hs;exact zp q
section
variable {X:Cx}{x:Str}{p pos:Pos}{e:Expr}{es:List Expr}{t:TA}{id T:String}{r:List V->Hp->VK->Prop}
def tCB (r:List V->Hp->VK->Prop)(t:TA):TE:=fun σ H Q=>t σ H fun vs H1=>r vs H1 Q
theorem J8L (hc:J00 X (.builtin id) r)(hg:Gl X x)(hm:X.mg x=none)(hv:bootBuiltins x=some (.builtin id))(ha:PA X (e::es) t)(hn:x≠"__name__":=by decide)(hdb:(x == ("__debug__":Str))=false:=by decide)
 (he:starEach (e::es) X.env=(false,eval e X.env)::starEach es X.env:=by rfl) (hpl:(backTo pos (starEach es X.env)).any (·.1)=false:=by rfl):PE X (.Call (.Name x p) (e::es) [] pos) (tCB r t):=by
 intro pins s σ H Q I h;refine wpAny_Call_Name_kw (J4j I hg hm hv ?_ hn hdb);exact PyProof.Rows.callWith_builtin1 (thn (ha pos pins s σ H _ I h) fun us s1 ⟨vs,H1,I1,r1,q1⟩=>hc pins s1 σ H1 vs us Q I1 r1 q1) he hpl
theorem J7G (hc:J00 X (.type T) r)(hg:Gl X x)(hm:X.mg x=none)(hv:bootBuiltins x=some (.type T))(ha:PA X (e::es) t)(hn:x≠"__name__":=by decide)(hdb:(x == ("__debug__":Str))=false:=by decide)
 (he:starEach (e::es) X.env=(false,eval e X.env)::starEach es X.env:=by rfl) (hpl:(backTo pos (starEach es X.env)).any (·.1)=false:=by rfl):PE X (.Call (.Name x p) (e::es) [] pos) (tCB r t):=by
 intro pins s σ H Q I h;refine wpAny_Call_Name_kw (J4j I hg hm hv ?_ hn hdb);exact PyProof.Rows.callWith_type1 (thn (ha pos pins s σ H _ I h) fun us s1 ⟨vs,H1,I1,r1,q1⟩=>hc pins s1 σ H1 vs us Q I1 r1 q1) he hpl
end
end L2
namespace HT
open PySem PyProof.Rows
section
variable {prog:Program}{w:World}{A:Around}{E:Value->Shared->Prop}{s:Shared}
def sIx (n d:Nat):Option Int->Nat
 | none=>d
 | some v=>if v<0 then (v+(n:Int)).toNat else min v.toNat n
theorem sIx_none (n d:Nat):sIx n d none=d:=rfl
theorem sIx_nat (n d k:Nat):sIx n d (some (k:Int))=min k n:=by
 show (if (k:Int)<0 then ((k:Int)+(n:Int)).toNat else min (k:Int).toNat n)=min k n;rw [zc (by omega),Int.toNat_natCast]
theorem sIx_le (n d:Nat)(hd:d<=n)(o:Option Int):sIx n d o<=n:=by
 cases o with
 | none=>exact hd
 | some v =>
   show (if v<0 then (v+(n:Int)).toNat else min v.toNat n)<=n;by_cases hv:v<0
   ·rw [zd hv];omega
   ·rw [zc hv];exact Nat.min_le_right _ _
end
end HT
namespace L2
open PySem PySem.Spec PyProof.Rows
abbrev TO:=St->Hp->(Option Int->Hp->Prop)->Prop
def PO (X:Cx)(e:Option Expr)(t:TO):Prop :=
 ∀ (pins:List (Addr×Obj)) (s:Shared) (σ:St) (H:Hp) (Q:Option Int->Hp->Prop),Inv X pins σ H s->t σ H Q ->
   wpAny (model X.prog X.w) X.A (evalPart e X.env) (fun u s'=>∃ o H',Inv X pins σ H' s'/\IsPart u o/\Q o H') X.xe s
def J58:TO:=fun _ H Q=>Q none H
def J89 (t:TE):TO:=fun σ H Q=>t σ H fun x H1=>∃ i,x=.int i/\Q (some i) H1
section
variable {X:Cx}{e:Expr}{te:TE}{lo hi:Option Expr}{tl th:TO}{pos p2:Pos}
theorem J0a:PO X none J58:=by
 intro pins s σ H Q I h;rw [evalPart_none];exact zb ⟨none,H,I,.none,h⟩
theorem Jv (h:PE X e te):PO X (some e) (J89 te):=by
 intro pins s σ H Q I hw;rw [evalPart_some];refine thn (h pins s σ H _ I hw) fun u s1 ⟨x,H1,I1,r1,q1⟩=>?_;obtain ⟨i,rfl,q⟩:=q1;obtain ⟨t,rfl⟩:=r1;exact ⟨some i,H1,I1,.int i t,q⟩
def SlR (X:Cx)(r:V->Option Int->Option Int->Hp->VK->Prop):Prop :=
 ∀ (pins:List (Addr×Obj)) (s:Shared) (σ:St) (H:Hp) (x:V) (v vl vu:Value) (lo hi:Option Int) (sl:Addr) (Q:VK),Inv X pins σ H s->RelV x v->s.heap.IsSliceOf sl vl vu .none->IsPart vl lo->IsPart vu hi->r x lo hi H Q ->
   ∃ T id,typeLookup (.type T) "__getitem__"=pure (some (.builtin id))/\s.TypeIs v T/\wpAny (model X.prog X.w) X.A (getItem v (.ref sl)) (EP X pins σ Q) X.xe s
def tSl (r:V->Option Int->Option Int->Hp->VK->Prop)(te:TE)(tl th:TO):TE:=fun σ H Q=>te σ H fun x H1=>tl σ H1 fun l H2=>th σ H2 fun u H3=>r x l u H3 Q
theorem JA {r:V->Option Int->Option Int->Hp->VK->Prop}(hr:SlR X r)(he:PE X e te)(hl:PO X lo tl)(hu:PO X hi th):PE X (.Subscript e (.Slice lo hi none p2) pos) (tSl r te tl th):=by
 intro pins s σ H Q I h;refine Subscript_ (thn (he pins s σ H _ I h) fun v s1 ⟨x,H1,I1,r1,q1⟩=>?_);refine wpAny_Slice (thn (hl pins s1 σ H1 _ I1 q1) fun vl s2 ⟨l,H2,I2,pl,q2⟩=>thn (hu pins s2 σ H2 _ I2 q2) fun vu s3 ⟨u,H3,I3,pu,q3⟩=>?_);rw [evalPart_none];refine zb ?_;have I4:Inv X pins σ H3 { s3 with heap:=s3.heap.push { cls:=.type "slice",data:=.fields #[vl,vu,.none] } }:=I3.kept (t':=s3.toks) fun b ob q=>zQ _ q;obtain ⟨T,id,hT,ht,hg⟩:=hr pins { s3 with heap:=s3.heap.push { cls:=.type "slice",data:=.fields #[vl,vu,.none] } } σ H3 x v vl vu l u s3.heap.objs.size Q I4 r1 (Heap.IsSliceOf.new ..) pl pu q3;show wpAny (model X.prog X.w) X.A (subscriptTail e (.Slice lo hi none p2) v (.ref s3.heap.objs.size)) (EP X pins σ Q) X.xe { s3 with heap:=s3.heap.push { cls:=.type "slice",data:=.fields #[vl,vu,.none] } };exact tail_any (ops:=[.ref s3.heap.objs.size,v]) ht hT hg (by with_unfolding_all rfl)
def J22 (xs:List V)(lo hi:Option Int):List V:=(xs.drop (HT.sIx xs.length 0 lo)).take (HT.sIx xs.length xs.length hi - HT.sIx xs.length 0 lo)
theorem J6d (xs:List V)(lo hi:Option Int):(J22 xs lo hi).length<=xs.length:=by
 unfold J22;rw [zz,length_drop];omega
end
def ixN (n:Nat)(i:Int):Option Nat:=if 0<=i then (if i<n then some i.toNat else none) else if -(n:Int)<=i then some (i+n).toNat else none
def atI {α:Type}(xs:List α)(i:Int):Option α:=(ixN xs.length i).bind fun j=>xs[j]?
theorem J9Y {n:Nat}{i:Int}{j:Nat}(h:ixN n i=some j):seqIndex? i n=some j/\j<n/\-(n:Int)<=i/\i<n:=by
 unfold ixN at h;by_cases h0:0<=i
 ·rw [zd h0] at h
  by_cases h1:i<n
  ·rw [zd h1] at h
   have e:i.toNat=j:=zi h;exact ⟨by rw [seqIndex_of h0 h1,e],by omega,by omega,h1⟩
  ·rw [zc h1] at h;cases h
 ·rw [zc h0] at h
  by_cases h1:-(n:Int)<=i
  ·rw [zd h1] at h
   have e:(i+n).toNat=j:=zi h;exact ⟨by rw [seqIndex_neg (by omega) h1,e],by omega,h1,by omega⟩
  ·rw [zc h1] at h;cases h
theorem J5B {α:Type}{xs:List α}{i:Int}{v:α}(h:atI xs i=some v):∃ j,seqIndex? i xs.length=some j/\xs[j]?=some v/\j<xs.length/\-(xs.length:Int)<=i/\i<xs.length:=by
 unfold atI at h;cases e:ixN xs.length i with
 | none=>rw [e] at h;cases h
 | some j =>
   rw [e] at h;obtain ⟨h1,h2,h3,h4⟩:=J9Y e;exact ⟨j,h1,h,h2,h3,h4⟩
theorem Jh {α:Type}{xs:List α}{j:Nat}{v:α}(h:xs[j]?=some v):atI xs (j:Int)=some v:=by
 have hj:j<xs.length:=(zt.mp h).1;have e:ixN xs.length (j:Int)=some j:=by
  unfold ixN;rw [zd (by omega),zd (by omega)];simp
 unfold atI;rw [e];exact h
def Ja7 (b:Expr):Prop:=∀ o i,subscripted b false o i=operate [o,i] (getItem o i)
def IxR (X:Cx)(r:R2):Prop :=
 ∀ (value slice:Expr) (pins:List (Addr×Obj)) (s:Shared) (σ:St) (H:Hp) (x y:V) (v u:Value) (Q:VK),Inv X pins σ H s->RelV x v->RelV y u->r x y H Q ->
   subscripted slice false v u=operate [v,u] (getItem v u)->wpAny (model X.prog X.w) X.A (subscriptTail value slice v u) (EP X pins σ Q) X.xe s
def MtR (X:Cx)(id:String)(r:V->List V->Hp->VK->Prop):Prop :=
 ∀ (pins:List (Addr×Obj)) (s:Shared) (σ:St) (H:Hp) (x:V) (xs:List V) (v:Value) (us:List Value) (Q:VK),Inv X pins σ H s->RelV x v->Vals xs us->r x xs H Q ->
   wpAny (model X.prog X.w) X.A (call (.builtin id) (v::us)) (EP X pins σ Q) X.xe s
section
variable {X:Cx}{a b:Expr}{ta tb:TE}{pos:Pos}
theorem Jq {r:R2}(hr:IxR X r)(ha:PE X a ta)(hb:PE X b tb)(hs:Ja7 b):PE X (.Subscript a b pos) (tOp r ta tb):=by
 intro pins s σ H Q I h;exact Subscript_ (Jbe ha hb I h fun v u s2 x y H2 I2 rx ry q=>hr a b pins s2 σ H2 x y v u Q I2 rx ry q (hs _ _))
def JaC (K:Frag):R2:=fun x y H Q=>∃ p xs i v,x=.ref p/\y=.int i/\SqL K H p xs/\atI xs i=some v/\Q v H
def J3O (K:Frag):R2:=fun x y H Q=>∃ p xs i v,x=.ref p/\y=.int i/\SqT K H p xs/\atI xs i=some v/\Q v H
def J9B:R2:=fun x y H Q=>∃ z i c,x=.str z/\y=.int i/\z.length<=sizeLine/\atI z.cps.toList i=some c/\Q (.str ⟨#[c]⟩) H
theorem J9W:IxR X (JaC X.K):=by
 intro value slice pins s σ H x y v u Q I rx ry h hs;obtain ⟨p,xs,i,z,rfl,rfl,hq,he,q⟩:=h;cases rx;obtain ⟨t,rfl⟩:=ry;obtain ⟨its,r,pl,hz⟩:=I.list hq;obtain ⟨j,h1,h2,h3,h4,h5⟩:=J5B he;obtain ⟨w,ew,rw'⟩:=r.get h2;have hl:=r.length;have hn:=J3C;have fin:EP X pins σ Q w s:=⟨z,H,I,rw',q⟩;by_cases h0:0<=i
 ·have hj:i.toNat=j:=by
   rw [seqIndex_of h0 h5] at h1;exact zi h1
  exact item_listR pl.isList h0 (by omega) (by rw [hj];simpa using ew) fin hs
 ·have hj:(i+(its.toArray.size:Int)).toNat=j:=by
   rw [seqIndex_neg (by omega) h4] at h1;rw [zw,<- hl];exact zi h1
  exact subscriptTail_builtinR (x:=w) pl.isList.typeIs slot_list_getitem.lookup
   (wpAny_getItem_list_neg (Q:=fun r s'=>r=w/\EP X pins σ Q r s') pl.isList (by omega) (by rw [zw]<;>omega) (by omega) (by rw [hj];simpa using ew) ⟨rfl,fin⟩) hs
theorem Jb1:IxR X (J3O X.K):=by
 intro value slice pins s σ H x y v u Q I rx ry h hs;obtain ⟨p,xs,i,z,rfl,rfl,hq,he,q⟩:=h;cases rx;obtain ⟨t,rfl⟩:=ry;obtain ⟨its,r,pl,hz⟩:=I.tuple hq;obtain ⟨j,h1,h2,h3,h4,h5⟩:=J5B he;obtain ⟨w,ew,rw'⟩:=r.get h2;have hl:=r.length;have hn:=J3C;have fin:EP X pins σ Q w s:=⟨z,H,I,rw',q⟩;exact subscriptTail_builtinR (x:=w) pl.typeIs slot_tuple_getitem.lookup
  (getItem_tuple (j:=j) (Q:=fun r s'=>r=w/\EP X pins σ Q r s') pl (by omega) (by omega) (by rw [zw,<- hl];exact h1) (by simpa using ew) ⟨rfl,fin⟩) hs
theorem J2h:IxR X J9B:=by
 intro value slice pins s σ H x y v u Q I rx ry h hs;obtain ⟨z,i,c,rfl,rfl,hz,he,q⟩:=h;obtain ⟨t,rfl⟩:=rx;obtain ⟨t',rfl⟩:=ry;obtain ⟨j,h1,h2,h3,h4,h5⟩:=J5B he;have hl:z.cps.toList.length=z.length:=by simp [Str.length]
 rw [hl] at h1 h4 h5;have hn:=J3C;exact tail_any (typeIs_str s z t) slot_str_getitem.lookup (getItem_str (c:=c) (by
  have e1:decide (i < -(2 ^ 63:Int))=false:=zh (by omega);have e2:decide (i≥2 ^ 63)=false:=zh (by omega);rw [e1,e2,Bool.or_false]) (by rw [h1];simpa using h2) ⟨.str ⟨#[c]⟩,H,I.tok _,⟨_,rfl⟩,q⟩) hs
theorem J5f (lo hi:Option Int)(n:Nat):(sliceBounds lo hi none n).1=((HT.sIx n 0 lo:Nat):Int)/\(sliceBounds lo hi none n).2.1=((HT.sIx n n hi:Nat):Int)/\(sliceBounds lo hi none n).2.2=1:=by
 refine ⟨?_,?_,rfl⟩
 ·cases lo with
  | none=>simp [sliceBounds,HT.sIx]
  | some i =>
    simp only [sliceBounds,HT.sIx,Option.getD_none,show (1:Int) > 0 by decide,if_true];by_cases h:i<0
    ·simp only [h,if_true]<;>omega
    ·simp only [h,if_false]<;>omega
 ·cases hi with
  | none=>simp [sliceBounds,HT.sIx]
  | some i =>
    simp only [sliceBounds,HT.sIx,Option.getD_none,show (1:Int) > 0 by decide,if_true];by_cases h:i<0
    ·simp only [h,if_true]<;>omega
    ·simp only [h,if_false]<;>omega
theorem J4D (its:List Value)(lo hi:Option Int):slicePick its.toArray lo hi none=((its.drop (HT.sIx its.length 0 lo)).take (HT.sIx its.length its.length hi - HT.sIx its.length 0 lo)).toArray:=by
 obtain ⟨h1,h2,h3⟩:=J5f lo hi its.toArray.size;unfold slicePick;rw [h1,h2,h3];simp only [sliceRange_one,pick_run,zw]<;>rfl
def J9A (K:Frag):V->Option Int->Option Int->Hp->VK->Prop:=fun x lo hi H Q=>∃ a xs,x=.ref a/\SqL K H a xs/\∀ p,H p=none->Q (.ref p) (upd H p (.lst (J22 xs lo hi)))
theorem J9v:SlR X (J9A X.K):=by
 intro pins s σ H x v vl vu lo hi sl Q I rx hs pl pu h;obtain ⟨a,xs,rfl,hx,q⟩:=h;cases rx;obtain ⟨its,r,ht,hz⟩:=I.list hx;have hlen:=r.length;refine ⟨"list",_,slot_list_getitem.lookup,ht.isList.typeIs,?_⟩;refine wpAny_getItem_list_slice ht.isList hs pl pu .none (by simp) ?_ (by rw [zw]<;>omega);rw [J4D,<- hlen];refine ⟨.ref s.heap.objs.size,_,I.laid (t':=s.toks) (o:=.lst (J22 xs lo hi)) (fun b ob q=>zQ _ q) (ze _) ?_,rfl,q _ (I.hok.fresh (ze _))⟩;exact ⟨zo (J6d xs lo hi) hz,_,0,(r.drop (HT.sIx xs.length 0 lo)).take (HT.sIx xs.length xs.length hi - HT.sIx xs.length 0 lo),zR _ rfl⟩
def J3M:V->Bool
 | .non=>true
 | .bl _=>true
 | .int _=>true
 | .str _=>true
 | _=>false
def eqV:V->V->Bool
 | .non,.non=>true
 | .bl a,.bl b=>a == b
 | .bl a,.int b=>(if a then 1 else 0) == b
 | .int a,.bl b=>a == (if b then 1 else 0)
 | .int a,.int b=>a == b
 | .str a,.str b=>a == b
 | _,_=>false
theorem Jba {A:Around}{s:Shared}{y x:V}{u v:Value}(ry:RelV y u)(rx:RelV x v)(fy:J3M y=true)(fx:J3M x=true):SeqAt.EqAt A s u v (eqV y x):=by
 cases y with
 | non =>
   cases ry;cases x with
   | non=>cases rx;exact SeqAt.EqAt.same _
   | bl b=>cases rx;exact SeqAt.EqAt.none_bool b
   | int b=>obtain ⟨t,rfl⟩:=rx;exact SeqAt.EqAt.none_int b t
   | str b=>obtain ⟨t,rfl⟩:=rx;exact SeqAt.EqAt.none_str b t
   | _=>exact absurd (show false=true from fx) zf
 | bl a =>
   cases ry;cases x with
   | non=>cases rx;exact SeqAt.EqAt.bool_none a
   | bl b=>cases rx;exact SeqAt.EqAt.bool_bool a b
   | int b=>obtain ⟨t,rfl⟩:=rx;exact SeqAt.EqAt.bool_int a b t
   | str b=>obtain ⟨t,rfl⟩:=rx;exact SeqAt.EqAt.bool_str a b t
   | _=>exact absurd (show false=true from fx) zf
 | int a =>
   obtain ⟨t',rfl⟩:=ry;cases x with
   | non=>cases rx;exact SeqAt.EqAt.int_none a t'
   | bl b=>cases rx;exact SeqAt.EqAt.int_bool a t' b
   | int b=>obtain ⟨t,rfl⟩:=rx;exact SeqAt.EqAt.int_int a t' b t
   | str b=>obtain ⟨t,rfl⟩:=rx;exact SeqAt.EqAt.int_str a t' b t
   | _=>exact absurd (show false=true from fx) zf
 | str a =>
   obtain ⟨t',rfl⟩:=ry;cases x with
   | non=>cases rx;exact SeqAt.EqAt.str_none a t'
   | bl b=>cases rx;exact SeqAt.EqAt.str_bool a t' b
   | int b=>obtain ⟨t,rfl⟩:=rx;exact SeqAt.EqAt.str_int a t' b t
   | str b=>obtain ⟨t,rfl⟩:=rx;exact SeqAt.EqAt.str_str a t' b t
   | _=>exact absurd (show false=true from fx) zf
 | _=>exact absurd (show false=true from fy) zf
def eqU (x:V)(u:Value):Bool:=match u with
 | .none=>eqV .non x
 | .bool b=>eqV (.bl b) x
 | .int i _=>eqV (.int i) x
 | .str z _=>eqV (.str z) x
 | _=>false
theorem J98 {x y:V}{u:Value}(r:RelV y u)(f:J3M y=true):eqU x u=eqV y x:=by
 cases y with
 | non=>cases r;rfl
 | bl b=>cases r;rfl
 | int i=>obtain ⟨t,rfl⟩:=r;rfl
 | str z=>obtain ⟨t,rfl⟩:=r;rfl
 | _=>exact absurd (show false=true from f) zf
theorem J5C {x:V}:∀ {xs:List V} {us:List Value},Vals xs us->xs.all J3M=true->us.any (eqU x)=xs.any fun y=>eqV y x
 | _,_,.nil,_=>rfl
 | y::xs,u::us,.cons r t,f=>by
   rw [all_cons,Bool.and_eq_true] at f;rw [any_cons,any_cons,J98 r f.1,J5C t f.2]
theorem J4i {A:Around}{s:Shared}{x:V}{v:Value}(rx:RelV x v)(fx:J3M x=true):∀ {xs:List V} {us:List Value},Vals xs us->xs.all J3M=true->∀ u∈us,SeqAt.EqAt A s u v (eqU x u)
 | _,_,.nil,_=>fun u hu=>by cases hu
 | y::xs,u::us,.cons r t,f=>fun u' hu=>by
   rw [all_cons,Bool.and_eq_true] at f;rcases zC.mp hu with rfl | hu
   ·rw [J98 r f.1];exact Jba r rx f.1 fx
   ·exact J4i rx fx t f.2 u' hu
def inV (x:V)(xs:List V):Bool:=xs.any fun y=>eqV y x
def rIn (K:Frag)(neg:Bool):R2:=fun x y H Q=>∃ p xs,y=.ref p/\(SqL K H p xs\/SqT K H p xs)/\J3M x=true/\xs.all J3M=true/\Q (.bl (if neg then !inV x xs else inV x xs)) H
theorem J7H:OpR X (compareOp .In) (rIn X.K false):=by
 intro pins s σ H x y v u Q I rx ry h;obtain ⟨p,xs,rfl,hq,fx,fs,q⟩:=h;cases ry;rcases hq with hq | hq
 ·obtain ⟨its,r,pl,hz⟩:=I.list hq
  refine SeqAt.in_listAt (eqU x) pl.isList (fun w hw=>J4i rx fx r fs w (by simpa using hw)) ⟨.bl _,H,I,rfl,?_⟩;rw [show its.toArray.any (eqU x)=its.any (eqU x) by simp,J5C r fs];exact q
 ·obtain ⟨its,r,pl,hz⟩:=I.tuple hq
  refine SeqAt.in_tupleAt (eqU x) pl (fun w hw=>J4i rx fx r fs w (by simpa using hw)) ⟨.bl _,H,I,rfl,?_⟩;rw [show its.toArray.any (eqU x)=its.any (eqU x) by simp,J5C r fs];exact q
theorem J5A:J00 X (.builtin "len") (fun xs H Q=>∃ p ys,xs=[.ref p]/\(SqL X.K H p ys\/SqT X.K H p ys)/\Q (.int ys.length) H):=by
 intro pins s σ H xs us Q I r h;obtain ⟨p,ys,rfl,hq,q⟩:=h;obtain ⟨u,rfl,rx⟩:=J1V r;cases rx;have hn:=J3C;rcases hq with hq | hq
 ·obtain ⟨its,r',pl,hz⟩:=I.list hq
  have hlen:=r'.length;exact Calls.call_len_list pl.isList (by simp only [zw]<;>omega) ⟨.int ys.length,H,I.tok _,⟨s.toks+1,by rw [zw,hlen]⟩,q⟩
 ·obtain ⟨its,r',pl,hz⟩:=I.tuple hq
  have hlen:=r'.length;exact len_tuple pl (by simp only [zw]<;>omega) ⟨.int ys.length,H,I.tok _,⟨s.toks+1,by rw [zw,hlen]⟩,q⟩
theorem Jz:J00 X (.builtin "len") (fun xs H Q=>∃ z,xs=[.str z]/\z.length<=sizeLine/\Q (.int z.length) H):=by
 intro pins s σ H xs us Q I r h;obtain ⟨z,rfl,hz,q⟩:=h;obtain ⟨u,rfl,t,rfl⟩:=J1V r;have hn:=J3C;exact len_str (by omega) ⟨.int z.length,H,I.tok _,⟨_,rfl⟩,q⟩
theorem J5z:J00 X (.type "list") (fun xs H Q=>∃ p ys,xs=[.ref p]/\(SqL X.K H p ys\/SqT X.K H p ys)/\∀ l,H l=none->Q (.ref l) (upd H l (.lst ys))):=by
 intro pins s σ H xs us Q I r h;obtain ⟨p,ys,rfl,hq,q⟩:=h;obtain ⟨u,rfl,rx⟩:=J1V r;cases rx;have fin:∀ (its:List Value),Vals ys its->ys.length<=sizeLine->∀ (h':Heap) (c':Nat),(∀ b o',s.heap.get? b=some o'->h'.get? b=some o') ->
  h'.get? s.heap.objs.size=some { cls:=.type "list",dict:=none,data:=.seq its.toArray c',slots:=#[] }->EP X pins σ Q (.ref s.heap.objs.size) { s with heap:=h' }:=fun its r' hz h' c' kp e =>
  ⟨.ref s.heap.objs.size,_,I.laid (t':=s.toks) kp (ze _) (show ObjOk X.prog X.w _ h' _ (.lst ys) from ⟨hz,its,c',r',e⟩),rfl,q _ (I.hok.fresh (ze _))⟩
 rcases hq with hq | hq
 ·obtain ⟨its,r',pl,hz⟩:=I.list hq
  have hlen:=r'.length;obtain ⟨o,ho,hc,n,hd⟩:=pl.isList;exact call_list_seq p (.inl rfl) ho hc hd (fun h' c' kp e=>fin its r' hz h' c' kp e) (by simp only [zw]<;>omega)
 ·obtain ⟨its,r',pl,hz⟩:=I.tuple hq
  have hlen:=r'.length;obtain ⟨o,ho,hc,n,hd⟩:=pl;exact call_list_seq p (.inr rfl) ho hc hd (fun h' c' kp e=>fin its r' hz h' c' kp e) (by simp only [zw]<;>omega)
theorem J4L:J00 X (.type "tuple") (fun xs H Q=>∃ p ys,xs=[.ref p]/\((SqL X.K H p ys/\∀ l,H l=none->Q (.ref l) (upd H l (.tup ys)))\/(SqT X.K H p ys/\Q (.ref p) H))):=by
 intro pins s σ H xs us Q I r h;obtain ⟨p,ys,rfl,h⟩:=h;obtain ⟨u,rfl,rx⟩:=J1V r;cases rx;rcases h with ⟨hq,q⟩ | ⟨hq,q⟩
 ·obtain ⟨its,r',pl,hz⟩:=I.list hq
  have hlen:=r'.length;refine call_tuple_list pl.isList (fun h' kp=>?_) (by simp only [zw]<;>omega);have I1:Inv X pins σ H { s with heap:=h' }:=I.kept (t':=s.toks) kp;have I2:Inv X pins σ (upd H h'.objs.size (.tup ys)) { s with heap:=h'.push { cls:=.type "tuple",data:=.seq its.toArray } } :=
   I1.laid (t':=s.toks) (fun b o e=>zQ _ e) (ze _) (show ObjOk X.prog X.w _ _ _ (.tup ys) from ⟨hz,its,r',IsTup.new _ _⟩)
  exact ⟨.ref h'.objs.size,_,I2,rfl,q _ (I1.hok.fresh (ze _))⟩
 ·obtain ⟨its,r',pl,hz⟩:=I.tuple hq
  exact call_tuple_same pl ⟨.ref p,H,I,rfl,q⟩
def tyV (K:Frag)(T:String)(x:V)(H:Hp):Prop:=match x with
 | .str _=>T="str"
 | .int _=>T="int"
 | .ref p=>(T="list"/\∃ xs,SqL K H p xs)\/(T="tuple"/\∃ o,K.lookup p=some o/\o.cls=.type "tuple"/\o.dict=none) \/
  (T="dict"/\((∃ kvs,H p=some (.dK kvs))\/∃ kvs,H p=some (.dT kvs)))\/(T="set"/\∃ S n,H p=some (.set S n))
 | _=>False
theorem tyV_is {pins:List (Addr×Obj)}{σ:St}{H:Hp}{s:Shared}{T:String}{x:V}{v:Value}(I:Inv X pins σ H s)(r:RelV x v)(ty:tyV X.K T x H) :
 s.TypeIs v T/\∀ a,v=.ref a->∃ ob,s.heap.get? a=some ob/\ob.dict=none:=by
 cases x with
 | str z =>
   obtain ⟨t,rfl⟩:=r;cases (show T="str" from ty);exact ⟨typeIs_str s z t,fun _ e=>nomatch e⟩
 | int i =>
   obtain ⟨t,rfl⟩:=r;cases (show T="int" from ty);exact ⟨typeIs_int s i t,fun _ e=>nomatch e⟩
 | ref p =>
   cases r;rcases ty with ⟨rfl,xs,hq⟩ | ⟨rfl,o,hk,hc,hd⟩ | ⟨rfl,hk⟩ | ⟨rfl,S,n,hk⟩
   ·obtain ⟨its,_,pl,_⟩:=I.list hq
    refine ⟨pl.isList.typeIs,fun a e=>?_⟩;cases e;obtain ⟨o,n,e,c,hd,_⟩:=pl;exact ⟨o,e,hd⟩
   ·refine ⟨⟨o,I.kIn p o hk,hc⟩,fun a e=>?_⟩
    cases e;exact ⟨o,I.kIn _ o hk,hd⟩
   ·have z:∃ o,s.heap.get? p=some o/\o.ExactDict:=by
     rcases hk with ⟨kvs,hk⟩ | ⟨kvs,hk⟩
     ·obtain ⟨_,_,_,_,o,_,_,e,ex,_⟩:=I.hok p _ hk
      exact ⟨o,e,ex⟩
     ·obtain ⟨_,_,_,_,o,_,_,e,ex,_⟩:=I.hok p _ hk
      exact ⟨o,e,ex⟩
    obtain ⟨o,e,ex⟩:=z;refine ⟨⟨o,e,ex.1⟩,fun a e2=>?_⟩;cases e2;exact ⟨o,e,ex.2.1⟩
   ·obtain ⟨o,_,_,_,e,ex,_⟩:=I.hok p _ hk
    refine ⟨⟨o,e,ex.1⟩,fun a e2=>?_⟩;cases e2;exact ⟨o,e,ex.2.1⟩
 | _=>exact zp ty
def Jbm (K:Frag)(T:String)(r:V->List V->Hp->VK->Prop)(to:TE):TE:=fun σ H Q=>to σ H fun x H1=>tyV K T x H1/\r x [] H1 Q
def tBM (K:Frag)(T:String)(r:V->List V->Hp->VK->Prop)(to:TE)(t:TA):TE:=fun σ H Q=>to σ H fun x H1=>tyV K T x H1/\t σ H1 fun xs H2=>r x xs H2 Q
variable {o e:Expr}{es:List Expr}{to:TE}{t:TA}{name:Str}{apos cpos:Pos}{T id:String}{r:V->List V->Hp->VK->Prop}
theorem Jbp (pa:PlainAttrs T)(slot:Slot T name id)(hty:typeOf (.builtin id)=pure (.type "method_descriptor"))(hm:MtR X id r)(ho:PE X o to)(ha:PA X (e::es) t)
 (hbase:attributeBase o name X.env (eval o X.env)=eval o X.env:=by rfl)
 (hfew:((backTo cpos (starEach (e::es) X.env)).all (fun x=>!x.1)&&(backToKw cpos (keywordEach [] X.env)).all (fun x=>x.1.isSome)
  && decide ((e::es).length+([]:List Keyword).length+(if ([]:List Keyword).isEmpty then 0 else 1)<30))=true:=by rfl)
 (hline:(apos.endLine == cpos.line)=true:=by rfl) (hs:starEach (e::es) X.env=(false,eval e X.env)::starEach es X.env:=by rfl) (hplain:(backTo cpos (starEach es X.env)).any (·.1)=false:=by rfl) :
 PE X (.Call (.Attribute o name apos) (e::es) [] cpos) (tBM X.K T r to t):=by
 intro pins s σ H Q I h;refine wpAny_Call_method_late hbase hfew hline rfl (thn (ho pins s σ H _ I h) fun v s1 ⟨x,H1,I1,r1,ty,q1⟩=>?_);obtain ⟨h1,h2⟩:=tyV_is I1 r1 ty;refine ⟨T,id,pa,slot,hty,h1,h2,?_⟩;have hA:=ha cpos pins s1 σ H1 _ I1 q1;rw [hs] at hA ⊢;refine Calls.callWith_builtin (by show (false||(backTo cpos (starEach es X.env)).any (·.1))=false;rw [hplain]<;>rfl) (Calls.evalArgs_plain ?_);exact thn hA fun us s2 ⟨vs,H2,I2,r2,q2⟩=>hm pins s2 σ H2 x vs v us Q I2 r1 r2 q2
end
def MtM (X:Cx)(id:String)(r:V->List V->Hp->VK->Prop):Prop :=
 ∀ (pins:List (Addr×Obj)) (s:Shared) (σ:St) (H:Hp) (x:V) (xs:List V) (v:Value) (us:List Value) (Q:VK),Inv X pins σ H s->RelV x v->Vals xs us->r x xs H Q ->
   wpAny (model X.prog X.w) X.A (call (.builtin id) (v::us)) (EP X pins σ Q) X.xe s
theorem Vals.one:∀ {x:V} {us:List Value},Vals [x] us->∃ u,us=[u]/\RelV x u
 | _,_,.cons r .nil=>⟨_,rfl,r⟩
theorem Vals.rep {xs:List V}{us:List Value}(h:Vals xs us):∀ k:Nat,Vals (List.replicate k xs).flatten (List.replicate k us).flatten
 | 0=>.nil
 | k+1=>by
   rw [replicate_succ,replicate_succ,flatten_cons,flatten_cons];exact Vals.append h (Vals.rep h k)
theorem J50 (its:List Value):∀ (k:Nat) (acc:List Value),
 List.foldl (fun x1 x2=>x1++x2) acc.toArray (List.replicate k its.toArray)=(acc++(List.replicate k its).flatten).toArray
 | 0,acc=>by simp
 | k + 1,acc=>by
   have e:acc.toArray++its.toArray=(acc++its).toArray:=by simp
   have e2:(acc++its)++(List.replicate k its).flatten=acc++(List.replicate (k+1) its).flatten:=by
    rw [replicate_succ,flatten_cons,zO]
   rw [<- e2,<- J50 its k (acc++its),<- e,replicate_succ,foldl_cons]
section
variable {X:Cx}{pins:List (Addr×Obj)}{σ:St}{H:Hp}{s:Shared}{l b:Addr}{xs ys zs:List V}
theorem Inv.lset {its its':List Value}{n:Nat}{f:Array Value->Array Value}{t':Nat}(I:Inv X pins σ H s)(hH:H l=some (.lst xs))
 (e:s.heap.get? l=some { cls:=.type "list",data:=.seq its.toArray n }) (hf:f its.toArray=its'.toArray) (hv:Vals ys its') (hz:ys.length<=sizeLine) :
 Inv X pins σ (upd H l (.lst ys)) { s with heap:=s.heap.update l (Obj.mapSeq f),toks:=t' }:=by
 have q:=PySem.IsL.update e f;rw [hf] at q;refine I.write (x:=l) (e:=l) (by rw [hH];exact trivial) (.inl rfl) (fun b' u hb hu=>(zT s.heap (Obj.mapSeq f) (Ne.symm hb)).trans hu) ⟨_,q⟩ ?_;exact ⟨hz,its',_,hv,q⟩
theorem Inv.lnew {its:List Value}{t':Nat}(I:Inv X pins σ H s)(hv:Vals ys its)(hz:ys.length<=sizeLine) :
 Inv X pins σ (upd H s.heap.objs.size (.lst ys)) { s with heap:=s.heap.push { cls:=.type "list",data:=.seq its.toArray },toks:=t' } :=
 I.laid (fun _ _ q=>zQ _ q) (ze _) ⟨hz,its,0,hv,zR _ rfl⟩
theorem Inv.fresh (I:Inv X pins σ H s):H s.heap.objs.size=none:=I.hok.fresh (ze _)
theorem Inv.lstM (I:Inv X pins σ H s)(hH:H l=some (.lst xs)):xs.length<=sizeLine/\∃ (its:List Value) (n:Nat),Vals xs its/\xs.length=its.length/\s.heap.get? l=some { cls:=.type "list",data:=.seq its.toArray n }:=by
 obtain ⟨z,its,n,r,e⟩:=I.hok l _ hH;exact ⟨z,its,n,r,r.length,e⟩
theorem J8N {n:Nat}(h:n<=sizeLine):Builtin.List.listTooLong n=false:=by
 unfold Builtin.List.listTooLong;exact zh (by omega)
end
section
variable {X:Cx}
def J3S:V->List V->Hp->VK->Prop:=fun x vs H Q=>∃ l xs y,x=.ref l/\vs=[y]/\H l=some (.lst xs)/\xs.length<sizeLine/\Q .non (upd H l (.lst (xs++[y])))
theorem J1F:MtM X "list.append" J3S:=by
 intro pins s σ H x vs v us Q I rx rv h;obtain ⟨l,xs,y,rfl,rfl,hH,hz,q⟩:=h;cases rx;obtain ⟨u,rfl,ru⟩:=rv.one;obtain ⟨z,its,n,r,hl,e⟩:=I.lstM hH;refine call_meets F.slot_list_append ⟨_,e,rfl⟩ F.entry_list_append (F.args_list_append_2 _ _) (PySem.list_append l its.toArray n u (by rw [zw];omega)) ⟨e,?_⟩;refine ⟨.non,_,I.lset (its':=its++[u]) hH e (by simp) (r.append (.cons ru .nil)) ?_,rfl,q⟩;rw [zy,length_singleton];omega
def JbN:R2:=fun x y H Q=>∃ l b xs zs,x=.ref l/\y=.ref b/\H l=some (.lst xs)/\H b=some (.lst zs)/\xs.length+zs.length<=sizeLine/\∀ p,H p=none->Q (.ref p) (upd H p (.lst (xs++zs)))
theorem JaP:OpR X (binaryOp .Add) JbN:=by
 intro pins s σ H x y v u Q I rx ry h;obtain ⟨l,b,xs,zs,rfl,rfl,hH,hB,hz,q⟩:=h;cases rx;cases ry;obtain ⟨z,its,n,r,hl,e⟩:=I.lstM hH;obtain ⟨z2,its2,n2,r2,hl2,e2⟩:=I.lstM hB;refine PySem.P.add_list e e2 ?_ (by rw [zw,zw];omega);have ea:its.toArray++its2.toArray=(its++its2).toArray:=by simp
 rw [ea];exact ⟨.ref _,_,I.lnew (t':=s.toks) (r.append r2) (by rw [zy];omega),rfl,q _ I.fresh⟩
def JbL:R2:=fun x y H Q=>∃ l k xs,x=.ref l/\y=.int k/\H l=some (.lst xs)/\-(2 ^ 63)<=k/\k<2 ^ 63/\xs.length * k.toNat<=sizeLine /\
 ∀ p,H p=none->Q (.ref p) (upd H p (.lst (List.replicate k.toNat xs).flatten))
theorem J9U {α:Type}(xs:List α)(k:Nat):(List.replicate k xs).flatten.length=k * xs.length:=by
 induction k with
 | zero=>simp
 | succ k ih=>rw [replicate_succ,flatten_cons,zy,ih,Nat.succ_mul,Nat.add_comm]
theorem JaN:OpR X (binaryOp .Mult) JbL:=by
 intro pins s σ H x y v u Q I rx ry h;obtain ⟨l,k,xs,rfl,rfl,hH,h1,h2,hz,q⟩:=h;cases rx;obtain ⟨t,rfl⟩:=ry;obtain ⟨z,its,n,r,hl,e⟩:=I.lstM hH;have hlen:its.toArray.size * k.toNat<=sizeLine:=by rw [zw,<- hl];exact hz
 have hcap:¬ its.toArray.size * k.toNat > (2 ^ 63 - 1) / 8:=by
  have:(sizeLine:Nat)<=(2 ^ 63 - 1) / 8:=by decide
  omega
 have hfit:¬ (!Builtin.List.listFitsIndex k)=true:=by
  rw [fitsIndex_both h1 h2];exact zf
 have hlong:¬ Builtin.List.listTooLong (its.toArray.size * k.toNat)=true:=by
  rw [J8N hlen];exact zf
 have hnew:List.foldl (fun x1 x2=>x1++x2) #[] (List.replicate (if its.toArray.isEmpty=true then 0 else k.toNat) its.toArray)=(List.replicate k.toNat its).flatten.toArray:=by
  have f0:∀ m:Nat,List.foldl (fun x1 x2=>x1++x2) #[] (List.replicate m its.toArray)=(List.replicate m its).flatten.toArray:=fun m=>by
   have:=J50 its m [];rw [nil_append] at this;exact this
  rw [f0];cases its with
  | nil=>simp
  | cons a r'=>rw [zc (by simp)]
 refine wpAny_binaryOp_repeat_ref (T:="list") (U:="int") (by decide) ⟨_,e,rfl⟩ (fun s'=>typeIs_int s' k t) noFill_list_mul F.fills_int_mul F.slot_int_rmul repeat_list F.slot_int_index.lookup
  (call_meets F.slot_int_rmul (typeIs_int s k t) F.entry_int_rmul (F.args_int_rmul_2 _ _) (int___rmul___int_list k t l its.toArray n)
   ⟨e,rfl,⟨_,e,rfl⟩,call_meets F.slot_list_mul ⟨_,e,rfl⟩ F.entry_list_mul (F.args_list_mul_2 _ _) (AutoListH.list___mul___list_int_3 l its.toArray n k t hfit hcap hlong) ⟨e,?_⟩⟩)
 rw [hnew];exact ⟨.ref _,_,I.lnew (t':=s.toks) (r.rep k.toNat) (by rw [J9U,Nat.mul_comm];exact hz),rfl,q _ I.fresh⟩
end
section
variable {κ:Type}[DecidableEq κ]
def J1H (kvs:List (κ×V))(k:κ):Option V:=(kvs.find? fun kv=>decide (kv.1=k)).map (·.2)
def J4H (kvs:List (κ×V))(k:κ)(v:V):List (κ×V) :=
 if (kvs.any fun kv=>decide (kv.1=k))=true then kvs.map (fun kv=>if kv.1=k then (kv.1,v) else kv) else kvs++[(k,v)]
def JbC (kvs:List (κ×V))(k:κ):List (κ×V):=kvs.filter fun kv=>decide (kv.1≠k)
theorem J5H {p:κ×V}{r:List (κ×V)}{k:κ}(e:p.1=k):J1H (p::r) k=some p.2:=by simp [J1H,List.find?_cons,e]
theorem J5I {p:κ×V}{r:List (κ×V)}{k:κ}(e:¬ p.1=k):J1H (p::r) k=J1H r k:=by simp [J1H,List.find?_cons,e]
theorem J60 (kvs:List (κ×V))(k:κ)(v:V):(J4H kvs k v).length<=kvs.length+1:=by
 unfold J4H
 split
 ·rw [zu];omega
 ·rw [zy,length_cons,length_nil];omega
theorem KV.val {kvs:List (κ×V)}{vs:List (κ×Value)}(r:KV kvs vs)(k:κ):RelO (J1H kvs k) (valueAt vs k):=by
 unfold KV at r
 induction r with
 | nil=>exact True.intro
 | @cons p q ps qs h t ih =>
   obtain ⟨h1,h2⟩:=h;by_cases e:p.1=k
   ·have e':q.1=k:=h1.symm.trans e
    have b:valueAt (q::qs) k=some q.2:=by simp [valueAt,List.find?_cons,e']
    rw [J5H e,b];exact h2
   ·have e':¬ q.1=k:=fun z=>e (h1.trans z)
    have b:valueAt (q::qs) k=valueAt qs k:=by simp [valueAt,List.find?_cons,e']
    rw [J5I e,b];exact ih
theorem KV.any {kvs:List (κ×V)}{vs:List (κ×Value)}(r:KV kvs vs)(k:κ):(kvs.any fun kv=>decide (kv.1=k))=vs.any fun kv=>decide (kv.1=k):=by
 unfold KV at r
 induction r with
 | nil=>rfl
 | cons h t ih=>rw [any_cons,any_cons,ih,h.1]
theorem KV.repl {kvs:List (κ×V)}{vs:List (κ×Value)}(r:KV kvs vs)(k:κ){y:V}{u:Value}(ry:RelV y u) :
 KV (kvs.map fun kv=>if kv.1=k then (kv.1,y) else kv) (vs.map fun kv=>if kv.1=k then (kv.1,u) else kv):=by
 unfold KV at r ⊢
 induction r with
 | nil=>exact .nil
 | @cons p q ps qs h t ih =>
   rw [zD,zD];refine .cons ?_ ih;obtain ⟨h1,h2⟩:=h;by_cases e:p.1=k
   ·rw [zd e,zd (h1.symm.trans e)];exact ⟨h1,ry⟩
   ·rw [zc e,zc (fun z=>e (h1.trans z))];exact ⟨h1,h2⟩
theorem KV.put {kvs:List (κ×V)}{vs:List (κ×Value)}(r:KV kvs vs)(k:κ){y:V}{u:Value}(ry:RelV y u):KV (J4H kvs k y) (stored vs k u):=by
 unfold J4H stored;rw [r.any k];by_cases e:(vs.any fun kv=>decide (kv.1=k))=true
 ·rw [zd e,zd e];exact r.repl k ry
 ·rw [zc e,zc e];exact Paired.snoc r ⟨rfl,ry⟩
end
theorem J8W {P:Program}{w:World}{k:Key}{u:Value}(r:RelV (kV k) u):(J0c P w).is k u=true:=by
 cases k with
 | inl i=>obtain ⟨t,e⟩:=(show ∃ t,u=Value.int i t from r);subst e;exact J5Y P w i t
 | inr x=>obtain ⟨t,e⟩:=(show ∃ t,u=Value.str x t from r);subst e;exact J5X P w x t
theorem Jbt {P:Program}{w:World}{k:J1h}{u:Value}(r:RelV (nV k) u):(J2r P w).is k u=true:=by
 cases k with
 | none=>cases (show u=Value.none from r);rfl
 | some k=>exact J8W (P:=P) (w:=w) (k:=k) r
theorem J4Y {P:Program}{w:World}:∀ {ks:List J1h} {us:List Value},Vals (ks.map nV) us->ItemsAre (J2r P w) ks us
 | [],_,r=>by rw [map_nil] at r;cases r;exact .nil
 | k::ks,_,r=>by
   rw [zD] at r;cases r with
   | cons h t=>exact .cons (Jbt h) (J4Y t)
abbrev KT (H:Hp):List (List J1h×V)->List (List J1h×Addr×Value)->Prop:=Paired fun p q=>p.1=q.1/\H q.2.1=some (.tup (p.1.map nV))/\RelV p.2 q.2.2
theorem KT.val {H:Hp}{kvs:List (List J1h×V)}{xs:List (List J1h×Addr×Value)}(r:KT H kvs xs)(k:List J1h):RelO (J1H kvs k) ((atKey xs k).map (·.2)):=by
 induction r with
 | nil=>exact True.intro
 | @cons p q ps qs h t ih =>
   obtain ⟨h1,_,h2⟩:=h;by_cases e:p.1=k
   ·have e':q.1=k:=h1.symm.trans e
    have b:atKey (q::qs) k=some q.2:=by simp [atKey,List.find?_cons,e']
    rw [J5H e,b];exact h2
   ·have e':¬ q.1=k:=fun z=>e (h1.trans z)
    have b:atKey (q::qs) k=atKey qs k:=by simp [atKey,List.find?_cons,e']
    rw [J5I e,b];exact ih
section
variable {P:Program}{w:World}{H:Hp}{h:Heap}{a:Addr}
theorem Jae {u:HO}(ok:HOk P w H h)(e:Rd H a u):ObjOk P w H h a u:=e.ok ok
theorem J9a {kvs:List (Key×V)}(ok:HOk P w H h)(e:Rd H a (.dK kvs)):kvs.length<=sizeLine/\(a == sysModules)=false/\∃ vs,KV kvs vs/\h.DictOf (J0c P w) a vs :=
 show ObjOk P w H h a (.dK kvs) from Jae ok e
theorem JbD {kvs:List (Key×V)}(ok:HOk P w H h)(e:H a=some (.dK kvs)):kvs.length<=sizeLine/\(a == sysModules)=false/\∃ vs,KV kvs vs/\h.DictOf (J0c P w) a vs:=J9a ok (.inl e)
theorem J8U {ks:List J1h}(ok:HOk P w H h)(e:H a=some (.tup (ks.map nV))):(tupleKind (J2r P w)).is h ks a:=by
 obtain ⟨_,its,r,o,h1,h2,n,h3⟩:=(show ObjOk P w H h a (.tup (ks.map nV)) from ok a _ e);exact ⟨o,its.toArray,n,h1,h2,h3,by simpa using J4Y r⟩
theorem dt_rd {kvs:List (List J1h×V)}(ok:HOk P w H h)(e:Rd H a (.dT kvs)):kvs.length<=sizeLine/\(a == sysModules)=false /\
 ∃ xs,KT H kvs xs/\h.DictOfH (tupleKind (J2r P w)) a xs:=by
 obtain ⟨z,y,xs,r,o,es,ep,h1,h2,h3,h4,h5⟩:=(show ObjOk P w H h a (.dT kvs) from Jae ok e);refine ⟨z,y,xs,r,o,es,ep,h1,h2,h3,h4,fun x hx=>?_,h5⟩;have all:∀ {l:List (List J1h×V)} {m:List (List J1h×Addr×Value)},KT H l m->∀ x∈m,(tupleKind (J2r P w)).is h x.1 x.2.1:=by
  intro l m q
  induction q with
  | nil=>intro x hx;exact nomatch hx
  | @cons p q ps qs hq t ih =>
    intro x hx;rcases zC.mp hx with e | hx
    ·subst e
     exact J8U ok (by rw [<- hq.1];exact hq.2.1)
    ·exact ih x hx
 exact all r x hx
end
def DGet (H:Hp)(a:Addr)(y:V)(r:Option V):Prop :=
 (∃ kvs k,Rd H a (.dK kvs)/\y=kV k/\r=J1H kvs k)\/∃ kvs k b,Rd H a (.dT kvs)/\y=.ref b/\H b=some (.tup (k.map nV))/\r=J1H kvs k
def JbW (H:Hp)(a:Addr)(y v:V)(H':Hp):Prop :=
 (∃ kvs k,H a=some (.dK kvs)/\y=kV k/\kvs.length<sizeLine/\H'=upd H a (.dK (J4H kvs k v))) \/
 ∃ kvs k b,H a=some (.dT kvs)/\y=.ref b/\H b=some (.tup (k.map nV))/\kvs.length<sizeLine/\H'=upd H a (.dT (J4H kvs k v))
theorem DGet.k {H:Hp}{a:Addr}{kvs:List (Key×V)}{k:Key}(e:H a=some (.dK kvs)):DGet H a (kV k) (J1H kvs k):=.inl ⟨kvs,k,.inl e,rfl,rfl⟩
section
variable {X:Cx}{pins:List (Addr×Obj)}{σ:St}{H:Hp}{s:Shared}{a:Addr}{y v:V}{u r:Value}{o:Option V}{A:Around}{E:Value->Shared->Prop}
theorem Inv.big (I:Inv X pins σ H s):sysModules<s.heap.objs.size:=by
 have h:mainGlobals<s.heap.objs.size:=(I.mod.glob.keeps I.bk).lt;exact Nat.lt_trans (by decide) h
theorem J7X {Q:Value->Shared->Prop}(hu:A.units+1<cLine)(I:Inv X pins σ H s)(g:DGet H a y (some v))(ry:RelV y u)(h:∀ w' s',Inv X pins σ H s'->RelV v w'->Q w' s') :
 wpAny (model X.prog X.w) A (getItem (.ref a) u) Q E s:=by
 rcases g with ⟨kvs,k,e,ey,l⟩ | ⟨kvs,k,b,e,ey,eb,l⟩
 ·subst ey
  obtain ⟨z,hd,vs,rel,dd⟩:=J9a I.hok e;obtain ⟨w',hw,rw'⟩:=RelO.some_of (v:=v) (o:=valueAt vs k) (by rw [l];exact rel.val k);exact wpAny_getItem_of (J8W ry) dd.mapOf hw (h w' _ (I.tok _) rw')
 ·subst ey
  cases (show u=Value.ref b from ry);obtain ⟨z,hd,xs,rel,dd⟩:=dt_rd I.hok e;obtain ⟨w',hw,rw'⟩:=RelO.some_of (v:=v) (o:=(atKey xs k).map (·.2)) (by rw [l];exact rel.val k);obtain ⟨p,hp,hp2⟩:=Option.map_eq_some_iff.mp hw;refine wpAny_getItem_heap (tupleKind_room_in1 hu) (J8U I.hok eb) dd hp ?_;rw [hp2];exact h w' _ (I.tok _) rw'
theorem Ja5 {h':Heap}{t':Nat}{ob:HO}(I:Inv X pins σ H s)(mu:Mut (H a))(hs:Heap.SameBut a s.heap h')(he:∃ q,h'.get? a=some q)(new:ObjOk X.prog X.w (upd H a ob) h' a ob) :
 Inv X pins σ (upd H a ob) { s with heap:=h',toks:=t' } :=
 I.write (x:=a) (e:=a) mu (.inl rfl) (fun b q hb z=>(hs.2 b hb).trans z) he new
theorem Jbb {P:Program}{w:World}{H':Hp}{h':Heap}{kvs:List (Key×V)}{vs:List (Key×Value)}(z:kvs.length<=sizeLine)(hd:(a == sysModules)=false)(rel:KV kvs vs)(dd:h'.DictOf (J0c P w) a vs) :
 ObjOk P w H' h' a (.dK kvs):=⟨z,hd,vs,rel,dd⟩
end
def JbI (i:Expr):Prop:=∀ ov iv,subscripted i false ov iv=operate [ov,iv] (getItem ov iv)
theorem J9u {prog:Program}{w:World}{A:Around}{E:Value->Shared->Prop}{s:Shared}{env:Env}{value slice:Expr}{pos:Pos}{T id:String}{Q:Value->Shared->Prop}
 (hl:typeLookup (.type T) "__getitem__"=pure (some (.builtin id))) (hs:JbI slice)
 (h:wpAny (model prog w) A (eval value env) (fun o s₁=>wpAny (model prog w) A (eval slice env) (fun i s₂=>s₂.TypeIs o T/\wpAny (model prog w) A (getItem o i) Q E s₂) E s₁) E s) :
 wpAny (model prog w) A (eval (.Subscript value slice pos) env) Q E s:=by
 refine Subscript_ (wpAny_mono h (fun o s₁ h₁=>wpAny_mono h₁ (fun i s₂ h₂=>?_) fun _ _ x=>x) fun _ _ x=>x);obtain ⟨hT,h₂⟩:=h₂;unfold subscriptTail;refine za ?_;rw [getitemInPython_of_ne hT.not_modules];refine za (wpAny_specialOf hT hl ?_);have fin:wpAny (model prog w) A (subscripted slice false o i) (fun r s₃=>wpAny (model prog w) A (letTemporaryGo value o r >>= fun _=>pure r) Q E s₃) E s₂:=by
  rw [hs o i];exact wpAny_operating (wpAny_mono h₂ (fun r s₃ h₃=>za (wpAny_letTemporaryGo (zb h₃))) fun _ _ x=>x)
 first
  | exact zb (za fin)
  | exact za (zb (za fin))
  | exact za fin
theorem J69 {X:Cx}{pins:List (Addr×Obj)}{σ:St}{H:Hp}{s:Shared}{a:Addr}{y:V}{o:Option V}(I:Inv X pins σ H s)(g:DGet H a y o):s.TypeIs (.ref a) "dict":=by
 rcases g with ⟨kvs,k,e,_,_⟩ | ⟨kvs,k,b,e,_,_,_⟩
 ·obtain ⟨_,_,vs,_,dd⟩:=J9a I.hok e
  exact dd.typeIs
 ·obtain ⟨_,_,xs,_,dd⟩:=dt_rd I.hok e
  exact dd.typeIs
def J8h (td ty:TE):TE:=fun σ H Q=>td σ H fun x H1=>ty σ H1 fun y H2=>∃ a v,x=.ref a/\DGet H2 a y (some v)/\Q v H2
def Jbl (ty td:TE):TE:=fun σ H Q=>ty σ H fun y H1=>td σ H1 fun x H2=>∃ a o,x=.ref a/\DGet H2 a y o/\Q (.bl o.isSome) H2
def J75 (ty td:TE):TE:=fun σ H Q=>ty σ H fun y H1=>td σ H1 fun x H2=>∃ a o,x=.ref a/\DGet H2 a y o/\Q (.bl (!o.isSome)) H2
def Jad (td ty tv:TE):TS:=fun D σ H=>tv σ H fun v H1=>td σ H1 fun x H2=>ty σ H2 fun y H3=>∃ a H4,x=.ref a/\JbW H3 a y v H4/\D.nx σ H4
section
variable {X:Cx}{o i e value:Expr}{pos pos' tpos:Pos}{td ty tv:TE}
theorem J0N (hu:X.A.units+1<cLine)(ho:PE X o td)(hi:PE X i ty)(hs:JbI i):PE X (.Subscript o i pos) (J8h td ty):=by
 intro pins s σ H Q I h;refine J9u PySem.F.slot_dict_getitem.lookup hs (thn (ho pins s σ H _ I h) fun u s1 ⟨x,H1,I1,rx,q1⟩=>thn (hi pins s1 σ H1 _ I1 q1) fun iv s2 ⟨y,H2,I2,ry,a,v,ex,g,q2⟩=>?_);subst ex;obtain rfl:u=Value.ref a:=rx;exact ⟨J69 I2 g,J7X hu I2 g ry fun w' s3 I3 rw'=>⟨v,H2,I3,rw',q2⟩⟩
end
theorem J9b {P:Program}{w:World}{H:Hp}(h:Heap)(hb:sysModules<h.objs.size):ObjOk P w H (h.push { cls:=.type "dict",data:=.dict #[] }) h.objs.size (.dK []) :=
 ⟨zn _,beq_eq_false_iff_ne.mpr (Ne.symm (zj hb)),[],.nil,Heap.DictOf.new h⟩
def J8g:TE:=fun _ H Q=>∀ p,H p=none->Q (.ref p) (upd H p (.dK []))
def J41:List (TE×TE)->St->Hp->(List (V×V)->Hp->Prop)->Prop
 | [],_,H,Q=>Q [] H
 | (tk,tv)::r,σ,H,Q=>tk σ H fun x H1=>tv σ H1 fun y H2=>J41 r σ H2 fun ps H3=>Q ((x,y)::ps) H3
abbrev VV:List (V×V)->List (Value×Value)->Prop:=Paired fun p q=>RelV p.1 q.1/\RelV p.2 q.2
def PPs (X:Cx)(pos:Pos)(keys:List (Option Expr))(values:List Expr)(trs:List (TE×TE)):Prop :=
 ∀ (pins:List (Addr×Obj)) (s:Shared) (σ:St) (H:Hp) (Q:List (V×V)->Hp->Prop),Inv X pins σ H s->J41 trs σ H Q ->
   wpAny (model X.prog X.w) X.A (evalPairs (pairTrees keys values X.env pos)) (fun vs s'=>∃ ps H',Inv X pins σ H' s'/\VV ps vs/\Q ps H') X.xe s
theorem J34 {X:Cx}{pos:Pos}:PPs X pos [] [] []:=fun pins s σ H Q I h=>pairTrees_nil_walk ⟨[],H,I,.nil,h⟩
theorem JZ {X:Cx}{pos:Pos}{k v:Expr}{ks:List (Option Expr)}{vs:List Expr}{tk tv:TE}{trs:List (TE×TE)}(hk:PE X k tk)(hv:PE X v tv)(hr:PPs X pos ks vs trs) :
 PPs X pos (some k::ks) (v::vs) ((tk,tv)::trs):=fun pins s σ H Q I h =>
 pairTrees_cons_walk (thn (hk pins s σ H _ I h) fun u s1 ⟨x,H1,I1,rx,q1⟩=>thn (hv pins s1 σ H1 _ I1 q1) fun w2 s2 ⟨y,H2,I2,ry,q2⟩ =>
  thn (hr pins s2 σ H2 _ I2 q2) fun ws s3 ⟨ps,H3,I3,rel,q3⟩=>⟨(x,y)::ps,H3,I3,.cons ⟨rx,ry⟩ rel,q3⟩)
def JK (kvs more:List (Key×V)):List (Key×V):=more.foldl (fun acc kv=>J4H acc kv.1 kv.2) kvs
theorem KV.merge:∀ {more:List (Key×V)} {rs:List (Key×Value)} {kvs:List (Key×V)} {vs:List (Key×Value)},KV more rs->KV kvs vs->KV (JK kvs more) (merged vs rs):=by
 intro more rs kvs vs r;unfold KV at r
 induction r generalizing kvs vs with
 | nil=>intro q;exact q
 | @cons p q ps qs h t ih =>
   intro r0;have e:KV (J4H kvs p.1 p.2) (stored vs q.1 q.2):=by
    have:=r0.put p.1 h.2;rw [<- h.1];exact this
   exact ih e
theorem J2E:∀ (more kvs:List (Key×V)),(JK kvs more).length<=kvs.length+more.length
 | [],kvs=>by show kvs.length<=kvs.length+0;omega
 | p::r,kvs=>by
   have h1:=J2E r (J4H kvs p.1 p.2);have h2:=J60 kvs p.1 p.2;show (JK (J4H kvs p.1 p.2) r).length<=_;rw [length_cons];omega
theorem J4w {P:Program}{w:World}:∀ {kvs:List (Key×V)} {ws:List (Value×Value)},VV (kvs.map fun kv=>(kV kv.1,kv.2)) ws->∃ rs,Carries (J0c P w) ws rs/\KV kvs rs
 | [],_,r=>by rw [map_nil] at r;cases r;exact ⟨[],True.intro,.nil⟩
 | p :: kvs,_,r=>by
   rw [zD] at r;cases r with
   | @cons a b as bs h t =>
     obtain ⟨rs,c,q⟩:=J4w (P:=P) (w:=w) t;obtain ⟨b1,b2⟩:=b;exact ⟨(p.1,b2)::rs,⟨J8W h.1,rfl,c⟩,.cons ⟨rfl,h.2⟩ q⟩
def J8f (trs:List (TE×TE)):TE:=fun σ H Q=>∀ p,H p=none->J41 trs σ (upd H p (.dK [])) fun ps H2=>H2 p=some (.dK [])/\∃ kvs:List (Key×V),ps=kvs.map (fun kv=>(kV kv.1,kv.2))/\kvs.length<=15/\Q (.ref p) (upd H2 p (.dK (JK [] kvs)))
theorem J36 {X:Cx}{pos:Pos}{keys:List (Option Expr)}{values:List Expr}{trs:List (TE×TE)}(h:PPs X pos keys values trs)(hall:keys.all (·.isSome)=true)(hl:keys.length=values.length)(h0:keys≠[])
 (h15:keys.length<=15):PE X (.Dict keys values pos) (J8f trs):=by
 intro pins s σ H Q I q;have hn:=I.hok.fresh (ze s.heap.objs.size);have I1:=I.laid (a:=s.heap.objs.size) (o:=.dK []) (h':=s.heap.push { cls:=.type "dict",data:=.dict #[] }) (t':=s.toks) (fun _ _ q=>zQ _ q) (ze _) (J9b s.heap I.big);refine wpAny_Dict_walk (knd:=J0c X.prog X.w) hall hl h0 h15 (thn (h pins _ σ _ _ I1 (q _ hn)) fun ws s2 ⟨ps,H2,I2,rel,e,kvs,ep,lk,q2⟩=>?_);subst ep;obtain ⟨rs,c,rk⟩:=J4w (P:=X.prog) (w:=X.w) rel;obtain ⟨z,hd,vs0,r0,dd⟩:=JbD I2.hok e;cases r0;refine ⟨rs,c,dd,fun h' dd' hs=>⟨.ref s.heap.objs.size,_,?_,rfl,q2⟩⟩;have hz:(JK [] kvs).length<=sizeLine:=by
  have h1:=J2E kvs [];rw [length_nil] at h1;rw [sizeLine_eq];omega
 have he:∃ q,h'.get? s.heap.objs.size=some q:=let ⟨q,_,_,hq,_⟩:=dd';⟨q,hq⟩;exact Ja5 I2 (by rw [e];exact True.intro) hs he (Jbb hz hd (rk.merge .nil) dd')
end L2
namespace Att
open PySem PySem.W PySem.Calls PyProof.Rows
theorem J3P {P:Params}{h:Heap}:∀ (ns:List Int) (vs:List Value),WellAll P h vs (ns.map WData.int)->IntsAre vs ns:=by
 intro ns
 induction ns with
 | nil =>
   intro vs w;rw [map_nil] at w;cases w;exact .nil
 | cons n ns ih =>
   intro vs w;rw [zD] at w;cases w with
   | cons a b =>
     cases a;exact .cons _ _ (ih _ b)
theorem J7A {l:OpenLaw}{n:Nat}(hn:l.most=some n){P:Params}{h:Heap}{args:List WData}{vals:List Value}
 (hpre:l.row.toRowW.claim.pre args=true) (hwl:WellAll P h vals args) :
 ∃ a vs ns,vals=[Value.ref a]/\args=[WData.list (ns.map WData.int)]/\h.get? a=some { cls:=.type "list",data:=.seq vs.toArray }/\IntsAre vs ns/\ns.length<=n:=by
 have hsh:WShape.hasAll [] args [.list .int]=true:=(pre_splitW hpre).1;have hc:l.pre.holds [] { args:=args }=true:=(pre_splitW hpre).2;obtain ⟨d,r,rfl,h1,h2⟩:=hasAllW_cons hsh;obtain rfl:=hasAllW_nil h2;obtain ⟨xs,rfl,h3⟩:=hasW_list h1;obtain ⟨ns,rfl⟩:=items_int h3;have hlen:ns.length<=n:=by
  unfold OpenLaw.pre at hc;have h4:(WTm.not (.lt (.lit (.int (n:Int))) (.len (.arg 0)))).holds [] { args:=[.list (ns.map .int)] }=true:=by
   have h4:=(holds_andW hc).1;rw [hn] at h4;exact h4
  have h5:=condW_of h4 (w_not (w_lt w_lit (w_len_list (w_arg rfl))));rw [zu] at h5;refine Nat.le_of_not_lt fun q=>?_;have q':(n:Int)<((ns.length:Nat):Int):=by omega
  first
   | (rw [zg q'] at h5;exact absurd h5 (by decide))
   | (simp at h5;omega)
 cases hwl with
 | cons w1 w2 =>
   cases w2;cases w1 with
   | list ho hall=>exact ⟨_,_,ns,rfl,rfl,ho,J3P ns _ hall,hlen⟩
theorem J7E (l:OpenLaw)(args:List WData):l.row.toRowW.claim.post args (.bool true) args=true :=
 postW_of (r:=l.row.toRowW) (X:=(true == true))
  (show WShape.has [] (.bool true) .bool=true by first | rfl | decide | simp [WShape.has,WShape.arms,WShape.armsAll])
  (show (WTm.eq .res (.lit (.bool true))).value [] { args:=args,res:=some (.bool true),after:=args }=some (.bool (true == true)) from w_eq_bool (w_res rfl) w_lit) rfl
theorem attach_call {l:OpenLaw}{n:Nat}{q:Program}{loose:List Str}{XP:(Str->Option Value)->Heap->Prop}{YP:World->Heap->Prop}{d:DefRec}
 (hn:l.most=some n) (hdf:d.params.defaults=[])
 (call:∀ (w:World) (s₀ s₁:Shared) (mg mb:Str->Option Value) (fa:Addr) (o:Obj) (pm cd doc:Value) (a:Addr) (vs:List Value) (ns:List Int),
  Ground q loose [] XP w s₀ mg mb s₁.heap->YP w s₁.heap ->
  s₁.heap.get? fa=some o->o.data=.func (docDef d.name d.params d.body d.scope pm cd doc)->s₁.heap.CodeRec cd d.name->mg d.name=some (.ref fa) ->
  s₁.heap.get? a=some { cls:=.type "list",data:=.seq vs.toArray }->IntsAre vs ns->ns.length<=n->s₁.gens=#[] ->
  codeAny (model l.prog w) callerA (.call (.ref fa) ⟨[.ref a],[]⟩) (fun r s'=>r=.ok (.ret (.bool true))/\OldK s₁.heap s'.heap/\s'.os=s₁.os/\AllBare s'.gens) s₁) :
 WalkO q loose XP YP l.row.toRowW d [] (fun f vs=>PySem.call f vs):=by
 intro w s₀ s₁ mg mb G Y fa o pm cd doc dV kV ho hd hcd hD hmg hg args vals as hpre hlay hrd hwl hlo;obtain rfl:dV=.none:=Dflts.none hD hdf;obtain rfl:kV=.none:=Dflts.noKw hD;obtain ⟨a,vs,ns,rfl,rfl,hobj,hints,hlen⟩:=J7A hn hpre hwl;refine enter_call (codeAny_mono (call w s₀ s₁ mg mb fa o pm cd doc a vs ns G Y ho (fd_plain hd) hcd hmg hobj hints hlen hg) fun r s' hq=>?_);obtain ⟨rfl,h2,h3,h4⟩:=hq;exact ⟨.inl ⟨.bool true,.bool true,[],rfl,fun _=>rfl,.bool true,J7E l _,fun _=>⟨List.Pairwise.nil,fun _ hm=>(nomatch hm)⟩⟩,h2,h3,h4⟩
end Att
namespace L2
open PySem PySem.Spec PyProof.Rows
theorem J4O:∀ {vs:List Value} {ns:List Int},IntsAre vs ns->Vals (ns.map V.int) vs
 | _,_,.nil=>.nil
 | _,_,.cons n t h=>.cons ⟨t,rfl⟩ (J4O h)
def Jbg (H:Hp):Prop:=∀ b,H b=none\/∃ o xs,H b=some (.frz o (.lst xs))
theorem law_call {P:Program}{w:World}{K:Frag}{mg mb:Str->Option Value}{CX:CXT}{k:Nat}{fa a:Addr}{fd:FuncData}{x:Str}{sp:Sp}{s₁:Shared}{vs:List Value}{ns:List Int}
 (KX:K.In s₁.heap) (hns:s₁.heap.Ns mainGlobals mg) (hb:s₁.heap.Ns builtinsNs mb) (hbb:∀ x:Str,x≠"__name__"->mb x=bootBuiltins x) (hlim:s₁.heap.NoLimit) (hg:s₁.gens=#[])
 (ha:s₁.heap.get? a=some { cls:=.type "list",data:=.seq vs.toArray }) (hi:IntsAre vs ns) (hl:ns.length<=sizeLine) (hr:Room k callerA)
 (F:∀ base:Heap,K.In base->base.Ns mainGlobals mg->FnOk P w K mg base CX k fa fd [x] sp) (hbind:∀ (s:Shared) (u:Value),BindsTo s fd ⟨[u],[]⟩ [(x,u)])
 (hsp:∀ H:Hp,Jbg H->SqL K H a (ns.map V.int)->sp [.ref a] H (fun v _=>v=.bl true) fun _ _ _=>False)
 (hCX:∀ H e s',CX [] H s₁ (fun _ _ _=>False) e s'->False) :
 codeAny (model P w) callerA (.call (.ref fa) ⟨[.ref a],[]⟩) (fun r s'=>r=.ok (.ret (.bool true))/\OldK s₁.heap s'.heap/\s'.os=s₁.os/\AllBare s'.gens) s₁:=by
 have rv:=J4O hi;have lenV:=hi.length
 have core : ∀ H:Hp,Jbg H->SqL K H a (ns.map V.int)->HOk P w H s₁.heap->(∀ b,H b≠none->b=a)->(H a≠none->K.lookup a=none) ->
  codeAny (model P w) callerA (.call (.ref fa) ⟨[.ref a],[]⟩) (fun r s'=>r=.ok (.ret (.bool true))/\OldK s₁.heap s'.heap/\s'.os=s₁.os/\AllBare s'.gens) s₁:=by
  intro H hO hS hok hA hK;have base_of:∀ {b:Addr} {o:Obj},s₁.heap.get? b=some o->H b=none->(J5s s₁.heap H).get? b=some o:=fun e n=>J92 e n;have noA:∀ {b:Addr} {o:Obj} {es:Array DictEntry} {ep:Nat},s₁.heap.get? b=some o->o.data=.dict es ep->H b=none:=fun {b o es ep} e d=>by
   cases q:H b with
   | none=>rfl
   | some u =>
     have e':b=a:=hA b (by rw [q];simp);subst e';rw [ha] at e;cases e;have d':Data.seq vs.toArray _=Data.dict es ep:=d;cases d'
  have nsK:∀ {b:Addr} {m:Str->Option Value},s₁.heap.Ns b m->(J5s s₁.heap H).Ns b m:=fun {b m} ⟨o,es,ep,e,d,r⟩=>⟨o,es,ep,base_of e (noA e d),d,r⟩;have hKb:K.In (J5s s₁.heap H):=fun b o e=>base_of (KX b o e) (by
   cases q:H b with
   | none=>rfl
   | some u =>
     have e':b=a:=hA b (by rw [q];simp);subst e';rw [hK (by rw [q];simp)] at e;cases e)
  have hM:Mod K mg (J5s s₁.heap H):=⟨hKb,nsK hns,⟨mb,nsK hb,hbb⟩,let ⟨mc,h1,h2⟩:=hlim;⟨mc,nsK h1,h2⟩⟩;have e0:Env0 P w K mg (J5s s₁.heap H) callerA [] s₁ H:=⟨rfl,hM,fun b o e=>J9N e,Nat.le_of_eq (J7T _ _),trivial,fun b hb=>absurd (show b∈([]:List Addr) from hb) (by simp),hok,.of_eq hg⟩;refine codeAny_mono ((F _ hKb (nsK hns)).run callerA [] s₁ H ⟨[.ref a],[]⟩ [.ref a] [.ref a] _ _ hr e0 (hbind s₁ (.ref a)) (.cons rfl .nil) (hsp H hO hS)) fun r s' h=>?_;cases r with
  | error e=>exact (hCX H e s' h).elim
  | ok fl =>
    cases fl with
    | next=>exact zp h
    | brk=>exact zp h
    | cont=>exact zp h
    | ret u =>
      obtain ⟨v,H',os,bare,un,hok',r',q⟩:=h;have q':v=.bl true:=q;subst q';obtain rfl:u=Value.bool true:=r';refine ⟨rfl,OldK.of_keep fun b o e=>?_,os,bare⟩;cases q:H b with
      | none=>exact un.keep b o e q (by intro z;exact absurd (show b∈([]:List Addr) from z) (by simp)) (by simp)
      | some u =>
        rcases hO b with z | ⟨ob,xs,z⟩
        ·rw [q] at z;cases z
        ·have z2:=un.frzs b ob _ z
         obtain ⟨e1,_⟩:=hok b _ z;obtain ⟨e2,_⟩:=hok' b _ z2;rw [e] at e1;cases e1;exact e2
 cases hk:K.lookup a with
 | some o =>
   have e:=KX a o hk;rw [ha] at e;cases e;refine core (fun _=>none) (fun _=>.inl rfl) (.inr ⟨_,vs.toArray,_,hk,rfl,rfl,rfl,by rw [zw,lenV];exact hl,by simpa using rv⟩) (fun b u z=>by have z':(none:Option HO)=some u:=z;cases z') (fun b z=>absurd rfl z) fun z=>absurd rfl z
 | none =>
   refine core (fun b=>if b=a then some (.frz { cls:=.type "list",data:=.seq vs.toArray } (.lst (ns.map V.int))) else none) (fun b=>?_) (.inl (.inr ⟨{ cls:=.type "list",data:=.seq vs.toArray },zd rfl⟩)) (fun b u z=>?_) (fun b z=>?_) fun _=>hk
   ·by_cases hb:b=a
    ·exact .inr ⟨_,_,zd hb⟩
    ·exact .inl (zc hb)
   ·by_cases hb:b=a
    ·have z':=(zd hb).symm.trans z
     cases z';subst hb;exact ⟨ha,by rw [zu];exact hl,vs,_,rv,ha⟩
    ·have z':=(zc hb).symm.trans z
     cases z'
   ·by_cases hb:b=a
    ·exact hb
    ·exact absurd (zc hb) z
abbrev KOf {K:Frag}{h:Heap}(_:K.In h):Frag:=K
theorem walk_of {l:PySem.W.OpenLaw}{n k:Nat}{q:Program}{loose:List Str}{XP:(Str->Option Value)->Heap->Prop}{YP:World->Heap->Prop}{d:DefRec}{K:Params->Frag}{CX:World->CXT}{sp:World->Sp}{x:Str}
 (hn:l.most=some n) (hn2:n<=sizeLine) (hdf:d.params.defaults=[]) (hr:Room k callerA)
 (hY:∀ (w:World) (h:Heap),YP w h->(K w.params).In h)
 (F:∀ (w:World) (mg:Str->Option Value) (fa:Addr) (h:Heap),(K w.params).In h->h.Ns mainGlobals mg->mg d.name=some (.ref fa) ->
  ∃ fd:FuncData,(∀ (s:Shared) (u:Value),BindsTo s fd ⟨[u],[]⟩ [(x,u)]) /\
    ∀ base:Heap,(K w.params).In base->base.Ns mainGlobals mg->FnOk l.prog w (K w.params) mg base (CX w) k fa fd [x] (sp w))
 (hsp:∀ (w:World) (H:Hp) (a:Addr) (ns:List Int),ns.length<=n->Jbg H->SqL (K w.params) H a (ns.map V.int)->sp w [.ref a] H (fun v _=>v=.bl true) fun _ _ _=>False)
 (hCX:∀ (w:World) (H:Hp) (s:Shared) (e:Value) (s':Shared),CX w [] H s (fun _ _ _=>False) e s'->False) :
 PySem.W.WalkO q loose XP YP l.row.toRowW d [] (fun f vs=>PySem.call f vs):=by
 refine Att.attach_call hn hdf fun w s₀ s₁ mg mb fa o pm cd doc a vs ns G Y ho hd hcd hmg hobj hints hlen hg=>?_;have KX:=hY w _ Y;obtain ⟨fd,hb,hF⟩:=F w mg fa _ KX G.T.g hmg;exact law_call KX G.T.g G.T.b G.T.builtins G.T.nolimit hg hobj hints (zo hlen hn2) hr hF hb (fun H hO hS=>hsp w H a ns hlen hO hS) fun H e s'=>hCX w H s₁ e s'
def J0P (s:Stmt):Arguments:=match s with
 | .FunctionDef _ a _ _ _ _ _ _ _ _=>a
 | _=>{ posonlyargs:=[],args:=[],vararg:=none,kwonlyargs:=[],kw_defaults:=[],kwarg:=none,defaults:=[] }
def J0q (s:Stmt):List Stmt:=match s with
 | .FunctionDef _ _ b _ _ _ _ _ _ _=>b
 | _=>[]
def Ji (s:Stmt):Scope:=match s with
 | .FunctionDef _ _ _ _ _ _ sc _ _ _=>sc
 | _=>{ kind:=.function,names:=[],isGenerator:=false,isCoroutine:=false }
abbrev CX0:CXT:=fun _ _ _ _ _ _=>False
abbrev E0:XK:=fun _ _ _=>False
theorem J1X {X:Cx}:J3F CX0 X E0:=fun _ _ _ _ _ _ _ h=>h.elim
structure Fun (K:Frag)(x qual:Str)(st:Stmt)(f:Addr)(fd:FuncData):Prop where
 ex:∃ (oc:Value) (od:Option Addr) (kV doc pm:Value) (an:Option Addr) (cdv ct:Value) (osl:Array (Option Value)),
  fd=PySem.W.fnOf x qual (J0P st) (J0q st) (Ji st) .none kV doc pm an cdv ct/\K.lookup f=some ⟨oc,od,.func fd,osl⟩/\PySem.W.codeIn K cdv qual=true
 kp:PySem.W.keepIn K (.ref f)=true
section
variable {P:Program}{w:World}{K:Frag}{mg:Str->Option Value}{base:Heap}
theorem Fun.ok {x qual:Str}{st:Stmt}{f:Addr}{fd:FuncData}{N ps:List Str}{k:Nat}{sp:Sp}(F:Fun K x qual st f fd)(S:FnScope N ps (Ji st))(len:∀ vs H Q E,sp vs H Q E->vs.length=ps.length)
 (hbody:∀ (cdv:Value) (A:Around) (outer:List Env) (s:Shared) (H:Hp) (vs:List V) (Q:VK) (E:XK),Room k (A.deeper (envOfC qual (Ji st) s.heap.objs.size f cdv))->sp vs H Q E ->
  ∃ t,PSs (J3E CX0 P w K mg base N qual (Ji st) f cdv A outer s H E).nox (J0q st) t/\t { nx:=fun _ H'=>Q .non H',rt:=Q } (J24 N vs) H):FnOk P w K mg base CX0 (k+1) f fd ps sp:=by
 obtain ⟨oc,od,kV,doc,pm,an,cdv,ct,osl,rfl,lk,hcd⟩:=F.ex;refine Jaq lk hcd S len fun A outer s H vs Q E hr hsp=>?_;obtain ⟨t,h,q⟩:=hbody cdv A outer s H vs Q E hr hsp;exact ⟨t,h.nox,q⟩
theorem Fun.binds {x qual:Str}{st:Stmt}{f:Addr}{fd:FuncData}{ps:List Str}(F:Fun K x qual st f fd)
 (h:∀ (kV doc pm:Value) (an:Option Addr) (cdv ct:Value) (us:List Value),us.length=ps.length->bindArgs (PySem.W.fnOf x qual (J0P st) (J0q st) (Ji st) .none kV doc pm an cdv ct) ⟨us,[]⟩=pure (ps.zip us)):Binds K fd ps []:=by
 obtain ⟨oc,od,kV,doc,pm,an,cdv,ct,osl,rfl,lk,hcd⟩:=F.ex;exact .all (h kV doc pm an cdv ct)
theorem Jb8 {x qual:Str}{st:Stmt}{f:Addr}{oc:Value}{od an:Option Addr}{osl:Array (Option Value)}{kV doc pm cdv ct:Value}(l:K.lookup f=some ⟨oc,od,.func (PySem.W.fnOf x qual (J0P st) (J0q st) (Ji st) .none kV doc pm an cdv ct),osl⟩)
 (c:PySem.W.codeIn K cdv qual=true) (k:PySem.W.keepIn K (.ref f)=true):Fun K x qual st f (PySem.W.fnOf x qual (J0P st) (J0q st) (Ji st) .none kV doc pm an cdv ct):=⟨⟨oc,od,kV,doc,pm,an,cdv,ct,osl,rfl,l,c⟩,k⟩
end
theorem J2H {A:Around}{k:Nat}(hr:Room k A):A.units+1<cLine:=Nat.lt_of_le_of_lt (Nat.add_le_add_left (by decide:1<=64) _) hr.units
def Same (H H':Hp):Prop:=∀ b o,H b=some o->H' b=some o
theorem Same.refl (H:Hp):Same H H:=fun _ _ h=>h
theorem Same.trans {H H1 H2:Hp}(a:Same H H1)(b:Same H1 H2):Same H H2:=fun c o h=>b c o (a c o h)
theorem Same.free {H H':Hp}(e:Same H H'){l:Addr}(h:H' l=Option.none):H l=Option.none:=by
 cases q:H l with
 | none=>rfl
 | some o =>
   rw [e l o q] at h;cases h
theorem Same.seq {K:Frag}{H H':Hp}{a:Addr}{xs:List V}(e:Same H H')(h:SqL K H a xs):SqL K H' a xs:=by
 rcases h with (h | ⟨o,h⟩) | h
 ·exact .inl (.inl (e _ _ h))
 ·exact .inl (.inr ⟨o,e _ _ h⟩)
 ·exact .inr h
abbrev J6E (ifs:List Expr)(env:Env):Sem Bool :=
 forIn ifs true fun c r=>if r=true then do let ok <- isTrue c env (eval c env);pure (ForInStep.yield ok) else pure (ForInStep.yield r)
theorem J7Y {prog:Program}{w:World}{A:Around}{R:Result->Shared->Prop}{s:Shared}{elt tg iter:Expr}{ifs:List Expr}{scope:Scope}{pos:Pos}{it acc:Value}{env:Env}(I:Nat->Shared->Prop)
 (turn : ∀ n s,I n s->wpAny (model prog w) A (pyNext it) (fun r s1=>match r with
  | none=>R (.ok .next) s1
  | some v=>wpAny (model prog w) A (letOwnedTupleGo tg it v) (fun _ s2=>wpAny (model prog w) A (assign tg env v) (fun _ s3=>wpAny (model prog w) A (J6E ifs env) (fun ok s4 =>
   if ok=true then wpAny (model prog w) A (eval elt env) (fun x s5=>wpAny (model prog w) A (call (.builtin "list.append") [acc,x]) (fun _ s6=>∃ m,m<n/\I m s6) (fun _ _=>False) s5) (fun _ _=>False) s4
   else ∃ m,m<n/\I m s4) (fun _ _=>False) s3) (fun _ _=>False) s2) (fun _ _=>False) s1) (fun _ _=>False) s)
 (n:Nat) (h:I n s):codeAny (model prog w) A (.compLoop (.ListComp elt [⟨tg,iter,ifs,0⟩] scope pos) 0 it acc env) R s:=by
 refine codeAny_loop rfl I (fun n s hI=>?_) n h;show wpAny _ A ((compTurn (.ListComp elt [⟨tg,iter,ifs,0⟩] scope pos) 0 it acc env).onRaise (fun x=>do noteFrame x env;theTreesLotGoes x)) _ _ s;refine wpAny_noted (wpAny_noRaise ?_);rw [compTurn_list];refine za (wpAny_standAt (za (thn (turn n s hI) fun r s1 h1=>?_)));cases r with
 | none=>exact zb h1
 | some v =>
   refine za (thn h1 fun _ s2 h2=>za (thn h2 fun _ s3 h3=>za (thn h3 fun ok s4 h4=>?_)));cases ok with
   | false=>exact zb ⟨rfl,h4⟩
   | true=>exact za (za (thn h4 fun x s5 h5=>za (thn h5 fun _ s6 h6=>zb (zb ⟨rfl,h6⟩))))
theorem closure_go (env:Env):∀ (names:List (Str×NameKind)) (cs:List (Str×Addr)),(∀ n,(n,NameKind.free)∈names->∃ c,env.cells.lookup n=some c)->(∀ n c,cs.lookup n=some c->env.cells.lookup n=some c) ->
 ∃ cl,(forIn names cs fun (p:Str×NameKind) (r:List (Str×Addr))=>(if p.2 == NameKind.free then do let c <- cellOf env p.1;pure (ForInStep.yield ((p.1,c)::r)) else pure (ForInStep.yield r):Sem (ForInStep (List (Str×Addr)))))=pure cl /\
   (∀ n c,cl.lookup n=some c->env.cells.lookup n=some c)/\(∀ n,((n,NameKind.free)∈names\/∃ c,cs.lookup n=some c)->∃ c,cl.lookup n=some c)
 | [],cs,_,hcs=>⟨cs,rfl,hcs,fun n h=>h.elim (fun z=>nomatch z) id⟩
 | (m,k)::r,cs,hn,hcs=>by
   cases hk:k == NameKind.free with
   | false =>
     obtain ⟨cl,e,h1,h2⟩:=closure_go env r cs (fun n z=>hn n (zA _ z)) hcs;refine ⟨cl,?_,h1,fun n z=>h2 n ?_⟩
     ·rw [forIn_cons];simp only [hk];exact e
     ·rcases z with z | z
      ·rcases zC.mp z with q | q
       ·cases q;simp at hk
       ·exact .inl q
      ·exact .inr z
   | true =>
     have ek:k=NameKind.free:=by simpa using hk
     subst ek;obtain ⟨c,hc⟩:=hn m zB;obtain ⟨cl,e,h1,h2⟩:=closure_go env r ((m,c)::cs) (fun n z=>hn n (zA _ z)) (fun n c' z=>by
      by_cases q:n=m
      ·subst q;simp [lookup_cons] at z;subst z;exact hc
      ·rw [lookup_cons,beq_eq_false_iff_ne.mpr q] at z;exact hcs n c' z)
     refine ⟨cl,?_,h1,fun n z=>h2 n ?_⟩
     ·rw [forIn_cons];simp only [cellOf,hc];exact e
     ·rcases z with z | ⟨c',z⟩
      ·rcases zC.mp z with q | q
       ·cases q;exact .inr ⟨c,by simp [lookup_cons]⟩
       ·exact .inl q
      ·by_cases q:n=m
       ·subst q;exact .inr ⟨c,by simp [lookup_cons]⟩
       ·exact .inr ⟨c',by rw [lookup_cons,beq_eq_false_iff_ne.mpr q];exact z⟩
theorem J6V {scope:Scope}{env:Env}(hn:∀ n,(n,NameKind.free)∈scope.names->∃ c,env.cells.lookup n=some c) :
 ∃ cl,closureFor scope env=pure cl/\(∀ n c,cl.lookup n=some c->env.cells.lookup n=some c)/\(∀ n,(n,NameKind.free)∈scope.names->∃ c,cl.lookup n=some c):=by
 obtain ⟨cl,e,h1,h2⟩:=closure_go env scope.names [] hn (fun _ _ z=>nomatch z);refine ⟨cl,?_,h1,fun n z=>h2 n (.inl z)⟩;unfold closureFor;simp only [bind_pure];exact e
def JI (names onames:List (Str×NameKind)):List (Str×NameKind) :=
 names.map fun (n,k)=>if (k == .free&&onames.lookup n == some .cell) then (n,.cell) else (n,k)
def J9f (sc osc:Scope)(N rest:List Str):Bool :=
 (sc.kind == .function&&osc.kind == .function&&sc.names.all fun y=>y.2 != .cell&&(y.2 != .local||sc.names.lookup y.1 == some .local)&&(y.2 != .free||osc.names.lookup y.1 == some .cell||osc.names.lookup y.1 == some .free))
 && N.length == rest.length&&(N.zip rest).all fun p=>match (JI sc.names osc.names).lookup p.2 with
  | some .local=>false
  | some .cell=>p.1 == p.2&&(p.2,NameKind.free)∈sc.names&&(osc.names.lookup p.2 == some .cell||osc.names.lookup p.2 == some .free)
  | some .free=>p.1 == p.2&&(p.2,NameKind.free)∈sc.names&&(osc.names.lookup p.2 == some .cell||osc.names.lookup p.2 == some .free)
  | _=>true
structure CompSc (sc osc:Scope)(N rest:List Str):Prop where
 kind:sc.kind=.function
 okind:osc.kind=.function
 cell:∀ y∈sc.names,y.2≠.cell
 loc:∀ y∈sc.names,y.2=.local->sc.names.lookup y.1=some .local
 free:∀ n,(n,NameKind.free)∈sc.names->osc.names.lookup n=some .cell\/osc.names.lookup n=some .free
 len:N.length=rest.length
 look:∀ (i:Nat) x,rest[i]?=some x->((JI sc.names osc.names).lookup x=some .local\/(JI sc.names osc.names).lookup x=some .cell\/(JI sc.names osc.names).lookup x=some .free) ->
  N[i]?=some x/\(x,NameKind.free)∈sc.names/\(osc.names.lookup x=some .cell\/osc.names.lookup x=some .free)/\((JI sc.names osc.names).lookup x=some .cell\/(JI sc.names osc.names).lookup x=some .free)
theorem J05 {sc osc:Scope}{N rest:List Str}(h:J9f sc osc N rest=true):CompSc sc osc N rest:=by
 unfold J9f at h;simp only [Bool.and_eq_true,beq_iff_eq,all_eq_true] at h;obtain ⟨⟨⟨⟨hk,hok⟩,hy⟩,hl⟩,hz⟩:=h;refine ⟨hk,hok,fun y z e=>?_,fun y z e=>?_,fun n z=>?_,hl,fun i x e v=>?_⟩
 ·have:=(hy y z).1.1;rw [e] at this;simp at this
 ·have:=(hy y z).1.2;rw [e] at this;simpa using this
 ·have:=(hy _ z).2;simpa using this
 ·have hi:i<rest.length:=(zt.mp e).1
  have hi':i<N.length:=by omega
  have hN:N[i]?=some N[i]:=zr hi';have hm:(N[i],x)∈N.zip rest:=by
   refine zx (i:=i) ?_;rw [List.getElem?_zip_eq_some];exact ⟨hN,e⟩
  have q:=hz _ hm;dsimp only at q;rcases v with v | v | v
  ·rw [v] at q;simp at q
  ·rw [v] at q;simp only [Bool.and_eq_true,beq_iff_eq,Bool.or_eq_true,decide_eq_true_eq] at q
   obtain ⟨⟨q1,q2⟩,q3⟩:=q;exact ⟨by rw [hN,q1],q2,q3,.inl v⟩
  ·rw [v] at q;simp only [Bool.and_eq_true,beq_iff_eq,Bool.or_eq_true,decide_eq_true_eq] at q
   obtain ⟨⟨q1,q2⟩,q3⟩:=q;exact ⟨by rw [hN,q1],q2,q3,.inr v⟩
theorem J1t {sc:Scope}{env:Env}(hk:env.scope.kind=.function):(relabel sc env).names=JI sc.names env.scope.names:=by
 unfold relabel JI Env.kindOf;simp [hk]
theorem J8r {names onames:List (Str×NameKind)}(hc:∀ y∈names,y.2≠.cell){x:Str}(h:(JI names onames).lookup x=some .cell\/(JI names onames).lookup x=some .free):(x,NameKind.free)∈names:=by
 have hm:(x,NameKind.cell)∈JI names onames\/(x,NameKind.free)∈JI names onames:=h.imp PySem.mem_of_lookup PySem.mem_of_lookup;rcases hm with hm | hm
 ·obtain ⟨⟨n,k⟩,hn,e⟩:=zK.mp hm
  dsimp only at e
  split at e
  ·rename_i hh;cases e;simp at hh;obtain ⟨rfl,_⟩:=hh;exact hn
  ·cases e;exact absurd rfl (hc _ hn)
 ·obtain ⟨⟨n,k⟩,hn,e⟩:=zK.mp hm
  dsimp only at e
  split at e
  ·cases e
  ·cases e;exact hn
def Ju (X:Cx)(scope:Scope)(N':List Str)(cl:List (Str×Addr))(s2:Shared)(H2:Hp)(C:Addr)(fp:List Addr):Cx :=
 { X with N:=N',s₀:=s2,H₀:=H2,env:=compEnvC scope cl C X.env,outer:=X.stack,stack:=X.stack,ex:=fp,fn:=fun _=>false,pn:=[],xe:=fun _ _=>False }
section
variable {X:Cx}{pins:List (Addr×Obj)}{σ:St}{H2:Hp}{s2:Shared}{scope:Scope}{own rest:List Str}{cl:List (Str×Addr)}{fp:List Addr}{C:Addr}
theorem J7Z (I:Inv X pins σ H2 s2)(S:CompSc scope X.env.scope X.N rest)(h1:∀ n c,cl.lookup n=some c->X.env.cells.lookup n=some c)(h2:∀ n,(n,NameKind.free)∈scope.names->∃ c,cl.lookup n=some c)
 (hC:s2.heap.objs.size<=C) (hf:∀ b∈fp,J2W X pins H2 b) (ho:∀ b∈fp,∃ o,s2.heap.get? b=some o):(Ju X scope (own++rest) cl s2 H2 C fp).Ok where
 mod:=I.ok.mod
 kind:=S.kind
 glob:=I.ok.glob
 blt:=I.ok.blt
 above:=hC
 inj:=fun x y c e1 e2=>I.ok.inj x y c (h1 x c e1) (h1 y c e2)
 has:=fun x hx=>h2 x (J8r S.cell (by
  have e:(Ju X scope (own++rest) cl s2 H2 C fp).env.kindOf x=(JI scope.names X.env.scope.names).lookup x:=congrArg (List.lookup x) (J1t (sc:=scope) I.ok.kind);rw [e] at hx;exact hx))
 cab:=fun _ _ z=>nomatch z
 hd:=I.ok.hd
 frames:=I.ok.frames
 stk:=.inl rfl
 exf:=fun b hb=>by
  obtain ⟨o,e⟩:=ho b hb;exact ⟨zj (zm (zS e) hC),fun x c e=>(hf b hb).2.2.2.2.1 x c (h1 x c e)⟩
 bs:=I.bs
 bsz:=zo I.ok.bsz I.sz
 noex:=fun b o e hb=>by
  rcases (hf b hb).2.2.2.1 with z | z
  ·exact I.ok.noex b o e z
  ·exact absurd (zm (zS e) (zo I.ok.bsz z)) (Nat.lt_irrefl _)
 exfs:=fun b hb z=>by
  rcases zC.mp (I.stkSub b z) with q | q
  ·exact (hf b hb).2.1 q
  ·exact (hf b hb).2.2.1 q
 funs:=I.stack
 frf:=I.stkFree
theorem comp_start {h1:Heap}{t1:Nat}(I:Inv X pins σ H2 s2)(S:CompSc scope X.env.scope X.N rest)(hc1:∀ n c,cl.lookup n=some c->X.env.cells.lookup n=some c)(hc2:∀ n,(n,NameKind.free)∈scope.names->∃ c,cl.lookup n=some c)
 (hC:s2.heap.objs.size<=C) (hf:∀ b∈fp,J2W X pins H2 b) (ho:∀ b∈fp,∃ o,s2.heap.get? b=some o)
 (old:∀ b o,s2.heap.get? b=some o->h1.get? b=some o) (ns:h1.Ns C fun _=>none) :
 Inv (Ju X scope (own++rest) cl s2 H2 C fp) [] (List.replicate own.length none++σ) H2 { s2 with heap:=h1,toks:=t1 }:=by
 obtain ⟨m,hn,hl⟩:=id I.loc;have hv:∀ x,Vis (Ju X scope (own++rest) cl s2 H2 C fp).env.scope x->((JI scope.names X.env.scope.names).lookup x=some .local\/(JI scope.names X.env.scope.names).lookup x=some .cell\/(JI scope.names X.env.scope.names).lookup x=some .free):=fun x z=>by
  have e:(Ju X scope (own++rest) cl s2 H2 C fp).env.scope.names=JI scope.names X.env.scope.names:=J1t (sc:=scope) I.ok.kind;unfold Vis at z;rw [e] at z;exact z
 refine ⟨J7Z I S hc1 hc2 hC hf ho,rfl,I.bare,Un.kept old,⟨_,ns,fun i x v e1 e2 e3=>?_⟩,fun x c e=>?_,I.hok.fresh hC,fun x c e=>I.freeC x c (hc1 x c e),fun p hp=>absurd (show p∈([]:List (Addr×Obj)) from hp) (by simp),I.hok.kept old,?_⟩
 ·have e1':(own++rest)[i]?=some x:=e1
  by_cases hi:i<own.length
  ·rw [zM (by simpa using hi),List.getElem?_replicate] at e2
   split at e2<;>cases e2
  ·have hi':own.length<=i:=Nat.le_of_not_lt hi
   rw [zL (by simpa using hi'),zP] at e2;rw [zL hi'] at e1';obtain ⟨q1,q2,q3,q4⟩:=S.look _ x e1' (hv x e3);obtain ⟨u,r,l⟩:=hl (i - own.length) x v q1 e2 (q3.elim (fun z=>.inr (.inl z)) fun z=>.inr (.inr z));refine ⟨u,r,.inr ⟨?_,?_⟩⟩
   ·have e:(Ju X scope (own++rest) cl s2 H2 C fp).env.kindOf x=(JI scope.names X.env.scope.names).lookup x:=congrArg (List.lookup x) (J1t (sc:=scope) I.ok.kind)
    rw [e];exact q4
   ·rcases l with ⟨k,_⟩ | ⟨_,c,e,z⟩
    ·have k':X.env.scope.names.lookup x=some .local:=k
     rcases q3 with q3 | q3<;>(rw [q3] at k';cases k')
    ·obtain ⟨c',e'⟩:=hc2 x q2
     have e2:=hc1 x c' e';rw [e] at e2;cases e2;obtain ⟨o,q,d⟩:=z;exact ⟨c,e',o,old c o q,d⟩
 ·obtain ⟨v,o,q,d⟩:=I.cell x c (hc1 x c e)
  exact ⟨v,o,old c o q,d⟩
 ·show _=(own++rest).length
  have:=I.len;have:=S.len;simp only [zy,zP];omega
theorem J6e {H':Hp}{s':Shared}{σ':St}{D:Addr}{ys:List V}{its:List Value}{n:Nat}{pins':List (Addr×Obj)}(I:Inv X pins σ H2 s2)(J:Inv (Ju X scope (own++rest) cl s2 H2 C fp) pins' σ' H' s')(hf:∀ b∈fp,J2W X pins H2 b)
 (hD:s2.heap.objs.size<=D) (hDn:H' D=none) (hDo:s'.heap.get? D=some { cls:=.type "list",data:=.seq its.toArray n }) (r:Vals ys its) (hz:ys.length<=sizeLine) :
 Inv X pins σ (upd H' D (.lst ys)) s':=by
 have u:Un (frs X.stack) fp H2 H' s2.heap s'.heap:=J.base;have nD:∀ b o,s2.heap.get? b=some o->b≠D:=fun b o e=>zj (zm (zS e) hD);refine I.call' (ch:=fp) J.os ⟨u.keep,u.slot,fun b o e n hx=>?_,u.there,fun b xs e=>?_,fun b o v e=>?_,fun b ps e=>?_⟩ (fun b o e=>?_) J.bare fun b hb=>?_
 ·rw [Jo (nD b o e)];exact u.free b o e n hx
 ·rw [Jo (JO (u.tups b xs e) hDn)];exact u.tups b xs e
 ·rw [Jo (JO (u.frzs b o v e) hDn)];exact u.frzs b o v e
 ·obtain ⟨more,q⟩:=u.tbls b ps e
  exact ⟨more,by rw [Jo (JO q hDn)];exact q⟩
 ·by_cases hb:b=D
  ·subst hb;rw [Jd] at e;cases e;exact ⟨hz,its,n,r,hDo⟩
  ·rw [Jo hb] at e
   exact (J.hok b o e).stay (fun c v _ q=>q) (fun c q=>by rw [Jo (JO q hDn)];exact q) fun c xs q=>by rw [Jo (JO q hDn)];exact q
 ·obtain ⟨_,f1,_,f3,f4,f5⟩:=hf b hb
  exact ⟨f3,f1,f4,f5⟩
end
def PTs (X:Cx)(ifs:List Expr)(t:TT):Prop :=
 ∀ (pins:List (Addr×Obj)) (s:Shared) (σ:St) (H:Hp) (Q:Bool->Hp->Prop),Inv X pins σ H s->t σ H Q->wpAny (model X.prog X.w) X.A (J6E ifs X.env) (TP X pins σ Q) X.xe s
def Jas:TT:=fun _ H Q=>Q true H
theorem J1m {X:Cx}:PTs X [] Jas:=fun _ _ _ H _ I h=>wpAny_tests_nil ⟨H,I,h⟩
theorem J7a {X:Cx}{c:Expr}{t:TT}(h:PT X c t):PTs X [c] t:=fun pins s σ H Q I q=>wpAny_tests_one (h pins s σ H Q I q)
def J6h (J:It)(g:TG)(tt:TT)(te:TE)(fin:List V->Hp->Prop)(σ0:St)(H1:Hp):Prop :=
 ∃ W : Nat->Nat->List V->St->Hp->Prop,(∃ m,W 0 m [] σ0 H1)/\∀ i m ys σ H,W i m ys σ H ->
   (J.stop i H/\fin ys H)\/(J.go i H/\ys.length<sizeLine/\∃ N:List V->St->Hp->Prop,(∀ ys' σ' H',N ys' σ' H'->∃ m',m'<m/\W (i+1) m' ys' σ' H') /\
    ∀ x H',J.yld i H x H'->g x σ H' fun σ2 H2=>tt σ2 H2 fun b H3=>if b=true then te σ2 H3 fun y H4=>N (ys++[y]) σ2 H4 else N ys σ2 H3)
section
variable {X:Cx}{pins:List (Addr×Obj)}{σ:St}{H2:Hp}{s2:Shared}{scope:Scope}{own rest:List Str}{cl:List (Str×Addr)}{fp:List Addr}{E:Value->Shared->Prop}
theorem comp_run {elt tg iter:Expr}{ifs:List Expr}{pos:Pos}{J:It}{it:Addr}{tn:Nat->Heap->Prop}{g:TG}{tt:TT}{te:TE}{fin:List V->Hp->Prop}{RR:Value->Addr->Result->Shared->Prop}{D:Nat}(hD:s2.heap.objs.size=D)(hcalm:X.calm=true)
 (I:Inv X pins σ H2 s2) (S:CompSc scope X.env.scope X.N rest) (hc1:∀ n c,cl.lookup n=some c->X.env.cells.lookup n=some c) (hc2:∀ n,(n,NameKind.free)∈scope.names->∃ c,cl.lookup n=some c)
 (T:Turn X.prog X.w X.K tg J fp it tn) (st:tn 0 s2.heap) (hf:∀ b∈fp,J2W X pins H2 b)
 (hg:PG (Ju X scope (own++rest) cl s2 H2 (D+1:Nat) fp) tg g) (ht:PTs (Ju X scope (own++rest) cl s2 H2 (D+1:Nat) fp) ifs tt)
 (he:PE (Ju X scope (own++rest) cl s2 H2 (D+1:Nat) fp) elt te)
 (hw:J6h J g tt te fin (List.replicate own.length none++σ) H2)
 (hR:∀ (s':Shared) (H':Hp) (ys:List V),Inv X pins σ (upd H' D (.lst ys)) s'->(∃ m,s'.heap.Ns (D+1:Nat) m)->H' D=none->H' (D+1:Nat)=none->fin ys H'->RR (.ref D) (D+1:Nat) (.ok .next) s') :
 wpAny (model X.prog X.w) X.A (newList []) (fun acc s3=>wpAny (model X.prog X.w) X.A (newFunctionEnv scope X.env.globals cl [] X.env.qual none .none (some X.env)) (fun cenv s4 =>
  codeAny (model X.prog X.w) X.A (.compStart (.ListComp elt [⟨tg,iter,ifs,0⟩] scope pos) 0 (.ref it) acc { cenv with scope:=relabel scope X.env }) (RR acc cenv.locals) s4) E s3) E s2:=by
 refine wpAny_newObj_type (wpAny_newFunctionEnv S.cell (by intro y hy;simp at hy) (fun h1 hns hsb=>?_) S.kind);dsimp only at hns hsb ⊢;generalize hHp:s2.heap.push { cls:=.type "list",dict:=none,data:=.seq ([]:List Value).toArray }=Hp2 at hns hsb ⊢;have hC:Hp2.objs.size=s2.heap.objs.size+1:=by rw [<- hHp,Heap.size_push]
 rw [hD] at hC;rw [hC] at hns hsb ⊢;rw [hD];have nDC:D≠D+1:=zj (Nat.lt_succ_self _);have below:∀ b o,s2.heap.get? b=some o->b<D:=fun b o e=>by rw [<- hD];exact zS e
 have old:∀ b o,s2.heap.get? b=some o->h1.get? b=some o:=fun b o e=>by
  exact hsb.extBut b o (zj (Nat.lt_succ_of_lt (below b o e))) (zQ _ (hHp ▸ zQ _ e))
 have hDo:h1.get? D=some { cls:=.type "list",data:=.seq ([]:List Value).toArray 0 } :=
  hsb.extBut _ _ nDC (zQ _ (by rw [<- hHp,<- hD];exact zR _ rfl))
 have hfo:∀ b∈fp,∃ o,s2.heap.get? b=some o:=fun b hb=>let ⟨o,e,_⟩:=T.obj 0 _ st b hb;⟨o,e⟩;have st1:tn 0 h1:=T.keep _ _ _ st fun b hb o e=>old b o e;have J0:Inv (Ju X scope (own++rest) cl s2 H2 (D+1:Nat) fp) [] (List.replicate own.length none++σ) H2 { s2 with heap:=h1,toks:=s2.toks } :=
  comp_start I S hc1 hc2 (by omega) hf hfo old hns
 have nfs:D∉(Ju X scope (own++rest) cl s2 H2 (D+1:Nat) fp).fs:=fun z=>by
  have z':D∈frs X.stack:=z;rcases zC.mp (I.stkSub D z') with q | q
  ·exact Nat.lt_irrefl D (by have h:=I.lt;rw [<- q,hD] at h;exact h)
  ·exact I.nofs (Nat.le_of_eq hD) q
 have ncl:∀ x c,(Ju X scope (own++rest) cl s2 H2 (D+1:Nat) fp).env.cells.lookup x=some c->c≠D:=fun x c e z=>by
  obtain ⟨v,o,q,d⟩:=I.cell x c (hc1 x c e);exact zj (below c o q) z
 have loop:∀ s3:Shared,s3={ s2 with heap:=h1,toks:=s2.toks } ->
  codeAny (model X.prog X.w) X.A (.compLoop (.ListComp elt [⟨tg,iter,ifs,0⟩] scope pos) 0 (.ref it) (.ref D) (compEnvC scope cl (D+1) X.env)) (RR (.ref D) (D+1)) s3:=by
  rintro s3 rfl;obtain ⟨W,⟨m0,w0⟩,turn⟩:=hw;refine J7Y (fun m s'=>∃ (i:Nat) (ys:List V) (its:List Value) (n:Nat) (σ':St) (H':Hp),Inv (Ju X scope (own++rest) cl s2 H2 (D+1:Nat) fp) [] σ' H' s'/\tn i s'.heap/\(∀ b∈fp,H' b=none) /\
   s'.heap.get? D=some { cls:=.type "list",data:=.seq its.toArray n }/\H' D=none/\Vals ys its/\ys.length<=sizeLine/\W i m ys σ' H') ?_ m0
   ⟨0,[],[],0,_,H2,J0,st1,fun b hb=>(hf b hb).1,hDo,by rw [<- hD];exact I.fresh,.nil,by simp,w0⟩
  rintro m s3 ⟨i,ys,its,n,σ3,H3,J3,st3,fr3,ho3,hn3,r3,z3,w3⟩;have pin:∀ {σ':St} {H':Hp} {s':Shared},Inv (Ju X scope (own++rest) cl s2 H2 (D+1:Nat) fp) [] σ' H' s'->s'.heap.get? D=some { cls:=.type "list",data:=.seq its.toArray n }->H' D=none ->
   Inv (Ju X scope (own++rest) cl s2 H2 (D+1:Nat) fp) [(D,{ cls:=.type "list",data:=.seq its.toArray n })] σ' H' s':=fun {σ' H' s'} K1 K2 K3 =>
   K1.pins_of fun p hp=>by
    have e:p=(D,{ cls:=.type "list",data:=.seq its.toArray n }):=by simpa using hp
    subst e;exact ⟨K2,K3,nDC,nfs,fun v z=>nomatch z⟩
  have fpk:∀ {H':Hp},(∀ b∈fp,H' b=none)->∀ b∈fp,J2W (Ju X scope (own++rest) cl s2 H2 (D+1:Nat) fp) [(D,{ cls:=.type "list",data:=.seq its.toArray n })] H' b:=fun {H'} fr b hb=>by
   obtain ⟨o,e⟩:=hfo b hb;have lt:=below b o e;refine ⟨fr b hb,zj (Nat.lt_succ_of_lt lt),?_,.inl hb,fun x c q=>(hf b hb).2.2.2.2.1 x c (hc1 x c q),fun p hp=>?_⟩
   ·intro z
    have z':b∈frs X.stack:=z;rcases zC.mp (I.stkSub b z') with q | q
    ·exact (hf b hb).2.1 q
    ·exact (hf b hb).2.2.1 q
   ·have e:p=(D,{ cls:=.type "list",data:=.seq its.toArray n }):=by
     have hp':p∈[(D,({ cls:=.type "list",data:=.seq its.toArray n }:Obj))]:=hp;simpa using hp'
    subst e;exact Nat.ne_of_gt lt
  have J3p:=pin J3 ho3 hn3;rcases turn i m ys σ3 H3 w3 with ⟨stop,q⟩ | ⟨go,hlt,N,hN,step⟩
  ·refine thn (T.done (Ju X scope (own++rest) cl s2 H2 (D+1:Nat) fp) rfl rfl rfl hcalm i _ s3 σ3 H3 _ J3p (fpk fr3) st3 stop) fun r s4 ⟨hr,J4⟩=>?_
   subst hr;have ho4:=J4.pin _ (zI _ zB);refine hR s4 H3 ys (J6e I J4 hf (by omega) hn3 ho4.1 r3 z3) ?_ hn3 J4.free q;obtain ⟨mm,hmm,_⟩:=J4.loc;exact ⟨mm,hmm⟩
  ·refine thn (T.item (Ju X scope (own++rest) cl s2 H2 (D+1:Nat) fp) rfl rfl rfl hcalm i _ s3 σ3 H3 _ J3p (fpk fr3) st3 go) fun r s4 ⟨u,hr,h4⟩=>?_
   subst hr;refine thn h4 fun _ s5 ⟨x,H5,J5,r5,y5,st5,fr5⟩=>?_;have J5':=J5.pinned (fpk fr5) (T.obj _ _ st5);refine thn (hg _ s5 σ3 H5 x u _ J5' r5 (step x H5 y5)) fun _ s6 ⟨σ6,H6,J6,q6⟩=>?_;refine thn (ht _ s6 σ6 H6 _ J6 q6) fun b s7 ⟨H7,J7,q7⟩=>?_;have stay:∀ {σ':St} {H':Hp} {s':Shared},Inv (Ju X scope (own++rest) cl s2 H2 (D+1:Nat) fp) ([(D,{ cls:=.type "list",data:=.seq its.toArray n })]++J3x fp s5.heap) σ' H' s' ->
    Inv (Ju X scope (own++rest) cl s2 H2 (D+1:Nat) fp) [] σ' H' s'/\tn (i+1) s'.heap/\(∀ b∈fp,H' b=none)/\s'.heap.get? D=some { cls:=.type "list",data:=.seq its.toArray n }/\H' D=none:=fun {σ' H' s'} K1=>by
    refine ⟨K1.pins_of fun p hp=>absurd hp (by simp),T.keep _ _ _ st5 fun b hb o e=>(K1.pin (b,o) (zI _ (zI _ (J0J hb e)))).1,fun b hb=>?_,?_,?_⟩
    ·obtain ⟨o,e,d⟩:=T.obj _ _ st5 b hb
     exact (K1.pin (b,o) (zI _ (zI _ (J0J hb e)))).2.1
    ·exact (K1.pin (D,_) (zI _ (zJ _ zB))).1
    ·exact (K1.pin (D,_) (zI _ (zJ _ zB))).2.1
   cases b with
   | false =>
     rw [zc zf] at q7 ⊢;obtain ⟨k1,k2,k3,k4,k5⟩:=stay J7;obtain ⟨m',hm,w'⟩:=hN _ _ _ q7;exact ⟨m',hm,i+1,ys,its,n,σ6,H7,k1,k2,k3,k4,k5,r3,z3,w'⟩
   | true =>
     rw [zd rfl] at q7 ⊢;refine thn (he _ s7 σ6 H7 _ J7 q7) fun xv s8 ⟨y,H8,J8,r8,q8⟩=>?_;obtain ⟨k1,k2,k3,k4,k5⟩:=stay J8;refine call_meets F.slot_list_append ⟨_,k4,rfl⟩ F.entry_list_append (F.args_list_append_2 _ _) (PySem.list_append D its.toArray n xv (by rw [zw,<- r3.length];omega)) ⟨k4,?_⟩;obtain ⟨m',hm,w'⟩:=hN _ _ _ q8;have ho9:=PySem.IsL.update k4 (fun a=>a.push xv);have ek:∀ b o,b≠D->s8.heap.get? b=some o->(s8.heap.update D (Obj.mapSeq (fun a=>a.push xv))).get? b=some o:=fun b o hb e=>(zT s8.heap (Obj.mapSeq _) (Ne.symm hb)).trans e;refine ⟨m',hm,i+1,ys++[y],its++[xv],(if ((its.toArray.push xv).size == its.toArray.size)=true then n else n+1),σ6,H8,k1.turned (it:=D) (t':=s8.toks) ek k5 nDC (.inr (show s2.heap.objs.size<=D by omega)) ncl (fun p hp=>absurd (show p∈([]:List (Addr×Obj)) from hp) (by simp)),?_,k3,?_,k5,r3.append (.cons r8 .nil),?_,w'⟩
     ·refine T.keep _ _ _ k2 fun b hb o e=>ek b o ?_ e
      obtain ⟨o',e'⟩:=hfo b hb;exact zj (below b o' e')
     ·have e2:its.toArray.push xv=(its++[xv]).toArray:=by simp
      rw [<- e2];exact ho9
     ·simp only [zy,length_cons,length_nil];omega
 exact codeAny_compStart_list (loop _ rfl) (T.self X.A 0 _ _ _ st1 (loop _ rfl))
end
def J5J (k:Nat)(wi:TI)(g:TG)(tt:TT)(te:TE):TE:=fun σ H Q=>wi σ H fun J H1=>J6h J g tt te (fun ys H'=>∀ D,H' D=none->Q (.ref D) (upd H' D (.lst ys))) (List.replicate k none++σ) H1
section
variable {X:Cx}{elt tg iter:Expr}{ifs:List Expr}{scope:Scope}{pos:Pos}{wi:TI}{g:TG}{tt:TT}{te:TE}
theorem Inv.closed {pins:List (Addr×Obj)}{σ:St}{H:Hp}{s:Shared}{N rest:List Str}(I:Inv X pins σ H s)(S:CompSc scope X.env.scope N rest) :
 ∃ cl,closureFor scope X.env=pure cl/\(∀ n c,cl.lookup n=some c->X.env.cells.lookup n=some c)/\(∀ n,(n,NameKind.free)∈scope.names->∃ c,cl.lookup n=some c) :=
 J6V fun n z=>I.ok.has n (S.free n z)
theorem Inv.letgo {pins pins':List (Addr×Obj)}{σ σ':St}{H H':Hp}{s s':Shared}{b:Addr}{h':Heap}(I:Inv X pins σ H s)(J:Inv X pins σ' H' s')(hb:s.heap.objs.size<=b)(hn:H' b=none)(sb:Heap.SameBut b s'.heap h'):Inv X pins σ' H' { s' with heap:=h' }:=by
 obtain ⟨f0,f1,f2,f3,f4,f5⟩:=I.fpOk hb hn;exact J.turned (t':=s'.toks) (fun c o hc e=>(sb.2 c hc).trans e) f0 f1 f3 f4 f5
theorem J2q (own rest:List Str)(hcalm:X.calm=true)(S:CompSc scope X.env.scope X.N rest)(hi:PI X tg iter wi)
 (hg:∀ cl s2 H2 C fp,PG (Ju X scope (own++rest) cl s2 H2 C fp) tg g) (ht:∀ cl s2 H2 C fp,PTs (Ju X scope (own++rest) cl s2 H2 C fp) ifs tt) (he:∀ cl s2 H2 C fp,PE (Ju X scope (own++rest) cl s2 H2 C fp) elt te)
 (hs:∀ x,foldedSetIterable iter X.env x=pure x:=by intro _;rfl):PE X (.ListComp elt [⟨tg,iter,ifs,0⟩] scope pos) (J5J own.length wi g tt te):=by
 intro pins s σ H Q I h;obtain ⟨cl,hcl,hc1,hc2⟩:=I.closed S;rw [eval_ListComp];refine wpAny_comprehension_free (use:=none) rfl hs hcl S.kind S.loc (thn (hi pins s σ H _ I h) fun v s1 h1=>thn h1 fun itv s2 h2=>?_);obtain ⟨it,fp,tn,J,H2,e,I2,T,st,hf,hw⟩:=h2;subst e;refine comp_run (RR:=fun acc C=>compPost (model X.prog X.w) X.A X.xe none (EP X pins σ Q) acc C) (D:=s2.heap.objs.size) rfl hcalm I2 S hc1 hc2 T st hf (hg _ _ _ _ _) (ht _ _ _ _ _) (he _ _ _ _ _) hw ?_;intro s' H' ys J' ⟨m,hm⟩ hD hC q;refine ⟨m,hm,fun h' sb=>⟨.ref s2.heap.objs.size,_,I2.letgo (pins':=pins) (b:=(s2.heap.objs.size+1:Nat)) J' (Nat.le_succ _) ?_ sb,rfl,q _ hD⟩⟩;rw [Jo (Nat.ne_of_gt (Nat.lt_succ_self _))];exact hC
theorem J7b {i:Nat}{y:Str}{py spos:Pos}(own rest:List Str)(hcalm:X.calm=true)(S:CompSc scope X.env.scope X.N rest)(hN:X.N.Nodup)(hy:X.N[i]?=some y)(hl:X.env.scope.names.lookup y=some .local)(hi:PI X tg iter wi)
 (hg:∀ cl s2 H2 C fp,PG (Ju X scope (own++rest) cl s2 H2 C fp) tg g) (ht:∀ cl s2 H2 C fp,PTs (Ju X scope (own++rest) cl s2 H2 C fp) ifs tt) (he:∀ cl s2 H2 C fp,PE (Ju X scope (own++rest) cl s2 H2 C fp) elt te)
 (hsw:swapsWith (.ListComp elt [⟨tg,iter,ifs,0⟩] scope pos) (some (.Name y py)) spos.line X.env=pure true:=by rfl)
 (hs:∀ x,foldedSetIterable iter X.env x=pure x:=by intro _;rfl):PS X (.Assign [.Name y py] (.ListComp elt [⟨tg,iter,ifs,0⟩] scope pos) spos) (J3g (J5J own.length wi g tt te) (J0C i)):=by
 intro pins s σ H D I h;obtain ⟨cl,hcl,hc1,hc2⟩:=I.closed S;rw [exec_Assign_Name_used _ _ _ _ hsw];refine za (wpAny_standAt (za ?_));show wpAny _ X.A (do let _ <- comprehension (.ListComp elt [⟨tg,iter,ifs,0⟩] scope pos) scope X.env _ (newList []) false (eval iter X.env) (some (assign (.Name y py) X.env))) _ _ s;refine za (wpAny_mono (wpAny_comprehension_free (use:=some (assign (.Name y py) X.env)) (Q:=fun _ s'=>SP X pins D .next s') rfl hs hcl S.kind S.loc (thn (hi pins s σ H _ I h) fun v s1 h1=>thn h1 fun itv s2 h2=>?_)) (fun _ s' hq=>zb (zb hq)) fun _ _ e=>e);obtain ⟨it,fp,tn,J,H2,e,I2,T,st,hf,hw⟩:=h2;subst e;refine comp_run (RR:=fun acc C=>compPost (model X.prog X.w) X.A X.xe (some (assign (.Name y py) X.env)) (fun _ s'=>SP X pins D .next s') acc C) (D:=s2.heap.objs.size) rfl hcalm I2 S hc1 hc2 T st hf (hg _ _ _ _ _) (ht _ _ _ _ _) (he _ _ _ _ _) hw ?_;intro s' H' ys J' ⟨m,hm⟩ hD hC q;show wpAny _ X.A (assign (.Name y py) X.env (.ref s2.heap.objs.size)) _ _ s';refine wpAny_assign_Name (store_ok2 (v:=.ref s2.heap.objs.size) J' hN hy (.inl hl) rfl (fun s3 J3 ⟨a,sb,ha⟩=>?_) (.inr hl));have hne:s2.heap.objs.size+1≠a:=by
  rcases ha with ha | ha
  ·rw [ha];exact Nat.ne_of_gt (Nat.lt_succ_of_lt I2.lt)
  ·obtain ⟨v,o,e,d⟩:=I2.cell y a ha
   exact Nat.ne_of_gt (Nat.lt_succ_of_lt (zS e))
 refine ⟨m,hm.sameBut sb hne,fun h' sb'=>⟨_,_,I2.letgo (pins':=pins) (b:=(s2.heap.objs.size+1:Nat)) J3 (Nat.le_succ _) ?_ sb',q _ hD⟩⟩;rw [Jo (Nat.ne_of_gt (Nat.lt_succ_self _))];exact hC
end
structure Walk (J:It)(xs:List V)(ok:Hp->Prop):Prop where
 go:∀ i H,ok H->i<xs.length->J.go i H
 yld:∀ i H x H',ok H->i<xs.length->J.yld i H x H'->H'=H/\xs[i]?=some x
 stop:∀ H,ok H->J.stop xs.length H
theorem J4N {K:Frag}{a:Addr}{xs:List V}:Walk (Itl K a) xs (fun H=>SqL K H a xs) where
 go:=fun i H q hi=>⟨xs,xs[i],q,by simp [hi]⟩
 yld:=fun i H x H' q _ y=>⟨y.1,y.2 xs q⟩
 stop:=fun H q=>⟨xs,q,ze _⟩
theorem J2X {K:Frag}{a:Addr}{xs:List V}:Walk (Itt K a) xs (fun H=>SqT K H a xs) where
 go:=fun i H q hi=>⟨xs,xs[i],q,by simp [hi]⟩
 yld:=fun i H x H' q _ y=>⟨y.1,y.2 xs q⟩
 stop:=fun H q=>⟨xs,q,ze _⟩
def J3u (lo:Int)(n:Nat):List V:=(List.range n).map fun (i:Nat)=>V.int (lo+i)
theorem J0i (lo:Int)(n:Nat):(J3u lo n).length=n:=by simp [J3u]
theorem J4b {lo:Int}{n i:Nat}(h:i<n):(J3u lo n)[i]?=some (.int (lo+i)):=by simp [J3u,h]
theorem J0F {lo:Int}{n:Nat}:Walk (Itr lo n) (J3u lo n) (fun _=>True) where
 go:=fun i H _ hi=>by rw [J0i] at hi;exact hi
 yld:=fun i H x H' _ hi y=>⟨y.1,by rw [J0i] at hi;rw [J4b hi,y.2]⟩
 stop:=fun H _=>Nat.le_of_eq (J0i lo n).symm
theorem J95 {J:It}{xs:List V}{ok:Hp->Prop}(w:Walk J xs ok){g:TG}{tb:TS}{D:Ends}{σ:St}{H:Hp}(Pv:Nat->St->Hp->Prop)(h0:Pv 0 σ H)(hl:∀ i σ H,i<=xs.length->Pv i σ H->ok H)
 (hs:∀ i x σ H,xs[i]?=some x->Pv i σ H->g x σ H fun σ2 H2=>tb { D with nx:=Pv (i+1),ct:=Pv (i+1),bk:=D.nx } σ2 H2) (hd:∀ σ H,Pv xs.length σ H->D.nx σ H) :
 ∃ W:Nat->Nat->St->Hp->Prop,(∃ m,W 0 m σ H)/\∀ i m σ H,W i m σ H ->
   (J.stop i H/\D.nx σ H)\/(J.go i H/\∃ N:St->Hp->Prop,(∀ σ' H',N σ' H'->∃ m',m'<m/\W (i+1) m' σ' H')/\∀ x H',J.yld i H x H'->g x σ H' fun σ2 H2=>tb { D with nx:=N,ct:=N,bk:=D.nx } σ2 H2):=by
 refine ⟨fun i m σ H=>m=xs.length - i/\i<=xs.length/\Pv i σ H,⟨xs.length,by simp,zn _,h0⟩,?_⟩;rintro i m σ H ⟨rfl,hi,p⟩;have q:=hl i σ H hi p;by_cases hlt:i<xs.length
 ·refine .inr ⟨w.go i H q hlt,Pv (i+1),fun σ' H' p'=>⟨xs.length - (i+1),by omega,rfl,hlt,p'⟩,fun x H' y=>?_⟩
  obtain ⟨e,y'⟩:=w.yld i H x H' q hlt y;subst e;exact hs i x σ _ y' p
 ·have e:i=xs.length:=by omega
  subst e;exact .inl ⟨w.stop H q,hd σ H p⟩
theorem J14 {J:It}{xs:List V}{ok:Hp->Prop}(w:Walk J xs ok){tt:TT}{te:TE}{fin:List V->Hp->Prop}{σ:St}{H:Hp}(hz:xs.length<=sizeLine)(Pv:Nat->List V->Hp->Prop)(h0:Pv 0 [] H)(hl:∀ i ys H,i<=xs.length->Pv i ys H->ok H)
 (hlen:∀ i ys H,Pv i ys H->ys.length<=i)
 (hs:∀ i x ys H,xs[i]?=some x->Pv i ys H->tt (some x::σ) H fun b H3=>if b=true then te (some x::σ) H3 fun y H4=>(∃ o,some x::σ=o::σ)/\Pv (i+1) (ys++[y]) H4 else (∃ o,some x::σ=o::σ)/\Pv (i+1) ys H3) (hd:∀ ys H,Pv xs.length ys H->fin ys H) :
 J6h J (J0C 0) tt te fin (List.replicate 1 none++σ) H:=by
 refine ⟨fun i m ys σ' H=>m=xs.length - i/\i<=xs.length/\(∃ o,σ'=o::σ)/\Pv i ys H,⟨xs.length,by simp,zn _,⟨none,rfl⟩,h0⟩,?_⟩;rintro i m ys σ' H ⟨rfl,hi,⟨o,rfl⟩,p⟩;have hy:=hlen i ys H p;have q:=hl i ys H hi p;by_cases hlt:i<xs.length
 ·refine .inr ⟨w.go i H q hlt,by omega,fun ys' σ' H'=>(∃ o,σ'=o::σ)/\Pv (i+1) ys' H',fun ys' σ' H' p'=>⟨xs.length - (i+1),by omega,rfl,hlt,p'⟩,fun x H' y=>?_⟩
  obtain ⟨e,y'⟩:=w.yld i H x H' q hlt y;subst e;exact hs i x ys _ y' p
 ·have e:i=xs.length:=by omega
  subst e;exact .inl ⟨w.stop H q,hd ys H p⟩
def sgn (c:Nat):V:=.str ⟨#[c]⟩
def Its (z:Str):It:=⟨fun i _=>i<z.cps.size,fun i H x H'=>H'=H/\∃ c,z.cps[i]?=some c/\x=sgn c,fun i _=>i=z.cps.size⟩
theorem J3Z {P:Program}{w:World}{K:Frag}{tg:Expr}{it:Addr}{T:String}{z:Str}{t:Tok}(hT:["enumerate","zip","dict_itemiterator","dict_reverseitemiterator","odict_iterator","itertools.zip_longest","itertools.pairwise"].contains T=false)
 (W:∀ A:Around,A.handled=none->Walks P w A it [it] [it] z.cps.size (SignAt z) (fun i h=>h.IsStrIter it T z t i)) (S:∀ (A:Around) (i:Nat) (s:Shared) (Q:Value->Shared->Prop) (E:Value->Shared->Prop),s.heap.IsStrIter it T z t i->Q (.ref it) s->wpAny (model P w) A (pyIter (.ref it)) Q E s) :
 Turn P w K tg (Its z) [it] it (fun i h=>h.IsStrIter it T z t i) where
 mem:=by simp
 obj:=fun i h st b hb=>by
  have e:b=it:=by simpa using hb
  subst e;obtain ⟨o,e,c,d⟩:=st;exact ⟨o,e,fun v z=>by rw [d] at z;cases z⟩
 keep:=fun i h h' st k=>by obtain ⟨o,e,r⟩:=st;exact ⟨o,k it (by simp) o e,r⟩
 item:=by
  intro X hP hw hK hc i pins s σ H E I hf st hg;subst hP hw hK;obtain ⟨f0,f1,f2,f3,f4,f5⟩:=hf it (by simp);refine (W X.A (I.ok.hd hc)).item i s _ E hg st fun v h' tk hP st' k=>?_;obtain ⟨c,u,hcu,rfl⟩:=hP;have I1:Inv X pins σ H { s with heap:=h',toks:=tk }:=I.turned (t':=tk) (fun b o hb e=>k b o (by simpa using hb) e) f0 f1 f3 f4 f5;obtain ⟨o,e,c',d⟩:=id st';exact ⟨_,rfl,go_of (s:={ s with heap:=h',toks:=tk }) e c' d hT ⟨sgn c,H,I1,⟨u,rfl⟩,⟨rfl,c,hcu,rfl⟩,st',fun b hb=>(hf b hb).1⟩⟩
 done:=by
  intro X hP hw hK hc i pins s σ H E I hf st hg;subst hP hw hK;obtain ⟨f0,f1,f2,f3,f4,f5⟩:=hf it (by simp);have hg':i=z.cps.size:=hg;subst hg';exact (W X.A (I.ok.hd hc)).done s _ E st fun h' tk k=>⟨rfl,I.turned (t':=tk) (fun b o hb e=>k b o (by simpa using hb) e) f0 f1 f3 f4 f5⟩
 self:=fun A i s Q E st h=>S A i s Q E st h
section
variable {X:Cx}{tg:Expr}
def Jb6 (tl:TE):TI:=fun σ H R=>tl σ H fun x H1=>∃ z,x=.str z/\R (Its z) H1
theorem J8G {l:Expr}{tl:TE}(hl:PE X l tl):PI X tg l (Jb6 tl):=by
 intro pins s σ H R I h;refine thn (hl pins s σ H _ I h) fun v s1 ⟨x,H1,I1,r1,q1⟩=>?_;obtain ⟨z,e,q⟩:=q1;subst e;obtain ⟨t,rfl⟩:=r1;have fp:∀ (o:Obj),∀ b∈[s1.heap.objs.size],J2W X pins H1 b:=fun o b hb=>by
  have e:b=s1.heap.objs.size:=by simpa using hb
  subst e;exact I1.fpOk (ze _) (I1.hok.fresh (ze _))
 cases ha:z.cps.all (·<128)
 ·refine wpAny_pyIter_wide ha ?_
  exact ⟨s1.heap.objs.size,[s1.heap.objs.size],_,_,H1,rfl,I1.kept (t':=s1.toks) fun b o e=>zQ _ e,
   J3Z (by decide) (fun A hA=>Walks.strWide hA _ z t) (fun _ _ _ _ _ st h=>wpAny_pyIter_striter_wide st h),⟨_,zR _ rfl,rfl,rfl⟩,fp default,q⟩
 ·refine wpAny_pyIter_ascii ha ?_
  exact ⟨s1.heap.objs.size,[s1.heap.objs.size],_,_,H1,rfl,I1.kept (t':=s1.toks) fun b o e=>zQ _ e,
   J3Z (by decide) (fun A hA=>Walks.strAscii hA _ z t) (fun _ _ _ _ _ st h=>wpAny_pyIter_striter_ascii st h),⟨_,zR _ rfl,rfl,rfl⟩,fp default,q⟩
end
def J5g (z:Str):List V:=z.cps.toList.map sgn
theorem J46 (z:Str):(J5g z).length=z.length:=by simp [J5g,Str.length]
mutual
def Rep (K:Frag)(H:Hp):PyData->V->Prop
 | .none,v=>v=.non
 | .bool b,v=>v=.bl b
 | .int i,v=>v=.int i
 | .str x,v=>v=.str x
 | .list ds,v=>∃ a xs,v=.ref a/\SqL K H a xs/\Reps K H ds xs
 | .tuple ds,v=>∃ a xs,v=.ref a/\SqT K H a xs/\Reps K H ds xs
 | .dict _,_=>False
def Reps (K:Frag)(H:Hp):List PyData->List V->Prop
 | [],vs=>vs=[]
 | d::ds,vs=>∃ v r,vs=v::r/\Rep K H d v/\Reps K H ds r
end
section
variable {X:Cx}{pins:List (Addr×Obj)}{σ:St}{H:Hp}{s:Shared}
mutual
theorem Rep.reads (I:Inv X pins σ H s):∀ (d:PyData) (v:V) (u:Value),Rep X.K H d v->RelV v u->∃ as,Reads s.heap u d as
 | .none,v,u,h,r=>by
   have e:v=.non:=by simpa [Rep] using h
   subst e;cases r;exact ⟨_,.none⟩
 | .bool b,v,u,h,r=>by
   have e:v=.bl b:=by simpa [Rep] using h
   subst e;cases r;exact ⟨_,.bool b⟩
 | .int i,v,u,h,r=>by
   have e:v=.int i:=by simpa [Rep] using h
   subst e;obtain ⟨t,rfl⟩:=r;exact ⟨_,.int i t⟩
 | .str x,v,u,h,r=>by
   have e:v=.str x:=by simpa [Rep] using h
   subst e;obtain ⟨t,rfl⟩:=r;exact ⟨_,.str x t⟩
 | .list ds,v,u,h,r=>by
   obtain ⟨a,xs,rfl,hs,hr⟩:∃ a xs,v=.ref a/\SqL X.K H a xs/\Reps X.K H ds xs:=by simpa only [Rep] using h
   cases r;obtain ⟨its,rv,p,hz⟩:=I.list hs;obtain ⟨o,ho,hc,n,hd⟩:=p.isList;obtain ⟨as,q⟩:=Reps.reads I ds xs its hr rv;exact ⟨_,.list ho hc hd (by simpa using q)⟩
 | .tuple ds,v,u,h,r=>by
   obtain ⟨a,xs,rfl,hs,hr⟩:∃ a xs,v=.ref a/\SqT X.K H a xs/\Reps X.K H ds xs:=by simpa only [Rep] using h
   cases r;obtain ⟨its,rv,p,hz⟩:=I.tuple hs;obtain ⟨o,ho,hc,n,hd⟩:=p;obtain ⟨as,q⟩:=Reps.reads I ds xs its hr rv;exact ⟨_,.tuple ho hc hd (by simpa using q)⟩
 | .dict _,v,u,h,r=>by simp [Rep] at h
theorem Reps.reads (I:Inv X pins σ H s):∀ (ds:List PyData) (vs:List V) (us:List Value),Reps X.K H ds vs->Vals vs us->∃ as,ReadsAll s.heap us ds as
 | [],vs,us,h,r=>by
   have e:vs=[]:=by simpa [Reps] using h
   subst e;cases r;exact ⟨_,.nil⟩
 | d :: ds,vs,us,h,r=>by
   obtain ⟨v,q,rfl,h1,h2⟩:∃ v r,vs=v::r/\Rep X.K H d v/\Reps X.K H ds r:=by simpa only [Reps] using h
   cases r with
   | cons r1 r2 =>
     obtain ⟨as,q1⟩:=Rep.reads I d v _ h1 r1;obtain ⟨bs,q2⟩:=Reps.reads I ds q _ h2 r2;exact ⟨_,.cons q1 q2⟩
end
end
section
variable {X:Cx}
def J8B (K:Frag)(neg:Bool):R2:=fun x y H Q=>∃ d e,Rep K H d x/\Rep K H e y/\SeqAt.shaped d=true/\SeqAt.shaped e=true/\Q (.bl (if neg then !PyData.eqv d e else PyData.eqv d e)) H
theorem JaO (hu:X.A.units+64<cLine):OpR X (compareOp .NotEq) (J8B X.K true):=by
 intro pins s σ H x y v u Q I rx ry h;obtain ⟨d,e,h1,h2,h3,h4,q⟩:=h;obtain ⟨as,q1⟩:=Rep.reads I d x v h1 rx;obtain ⟨bs,q2⟩:=Rep.reads I e y u h2 ry;exact ne_dataH q1 q2 h3 h4 hu (JB I q rfl)
def JbM (K:Frag):List V->Hp->VK->Prop:=fun xs H Q=>∃ x T t b,xs=[x,.ty T]/\TyOf K H x t/\PySem.W.kitOne K t (.type T)=some b/\Q (.bl b) H
theorem J9k:J00 X (.builtin "isinstance") (JbM X.K):=by
 intro pins s σ H xs us Q I r h;obtain ⟨x,T,t,b,rfl,ty,e,q⟩:=h;obtain ⟨u,c,rfl,ru,rc⟩:=J6Z r;cases rc;exact J7Q I ru ty e fun tk=>⟨.bl b,H,I.tok _,rfl,q⟩
theorem J6g:∀ {bs:List Bool} {us:List Value},Vals (bs.map V.bl) us->LSm.BoolsAre us bs
 | [],_,.nil=>.nil
 | _::_,_,.cons r t=>by cases r;exact .cons _ (J6g t)
def J9E (K:Frag)(g:List Bool->Bool):List V->Hp->VK->Prop:=fun xs H Q=>∃ a bs,xs=[.ref a]/\SqL K H a (bs.map V.bl)/\Q (.bl (g bs)) H
theorem J9n (hc:X.calm=true):J00 X (.builtin "all") (J9E X.K fun bs=>bs.all id):=by
 intro pins s σ H xs us Q I r h;obtain ⟨a,bs,rfl,hs,q⟩:=h;obtain ⟨u,rfl,ru⟩:=J1V r;cases ru;obtain ⟨its,rv,p,hz⟩:=I.list hs;have hl:=p.isList;have hb:=J6g rv;have hlt:a<s.heap.objs.size:=by obtain ⟨_,e,_⟩:=hl;exact zS e
 refine call_all_walk (wpAny_pyIter_list hl ?_);refine ⟨s.heap.objs.size,[s.heap.objs.size,a],[s.heap.objs.size],its.toArray.size,_,_,fun i=>(bs[i]?).getD true,rfl,Walks.list (A:=X.A.in1) (I.ok.hd hc) _ a (zj hlt) its.toArray,
  ⟨⟨_,zR _ rfl,rfl,rfl⟩,hl.push _⟩,fun i v s' Q' E' hP hQ=>?_,fun h' tk hk=>?_⟩
 ·obtain ⟨b,e,rfl⟩:=hb.get i v (by simpa using hP)
  simp only [e,Option.getD_some] at hQ;exact wpAny_truthy_bool hQ
 ·have e:((List.range its.toArray.size).all fun i=>(bs[i]?).getD true)=bs.all id:=by
   rw [zw,hb.length];exact LSm.range_all bs
  rw [e];exact ⟨.bl (bs.all id),H,I.kept (LSm.kept_iter hk),rfl,q⟩
theorem J77:∀ {ys:List Str} {us:List Value},Vals (ys.map V.str) us->StrsAre us ys
 | [],_,.nil=>.nil
 | _::_,_,.cons r t=>by obtain ⟨k,rfl⟩:=r;exact .cons _ _ (J77 t)
def J8z (K:Frag):V->List V->Hp->VK->Prop:=fun x vs H Q=>∃ z a ys,x=.str z/\vs=[.ref a]/\SqL K H a (ys.map V.str)/\(ys.map (·.length)).sum+ys.length * z.length<=16777216/\Q (.str (Txt.join z ys)) H
theorem J9R:MtR X "str.join" (J8z X.K):=by
 intro pins s σ H x vs v us Q I rx rv h;obtain ⟨z,a,ys,rfl,rfl,hs,hz,q⟩:=h;obtain ⟨t,rfl⟩:=rx;obtain ⟨u,rfl,ru⟩:=rv.one;cases ru;obtain ⟨its,r2,p,_⟩:=I.list hs;exact join_list p.isList (by simpa using J77 r2) hz fun t' k=>⟨.str _,H,I.tok _,⟨_,rfl⟩,q⟩
end
section
variable {X:Cx}
structure DefOk (K:Frag)(mg:Str->Option Value)(x:Str)(st:Stmt)(ps:List Str)(f:Addr)(fd:FuncData):Prop where
 F:Fun K x x st f fd
 b:Binds K fd ps []
 m:mg x=some (.ref f)
theorem pvl (i:Nat){x:Str}{pos:Pos}(hN:X.N[i]?=some x:=by rfl)(hv:X.env.scope.names.lookup x=some .local:=by rfl)(hd:(x == ("__debug__":Str))=false:=by decide)(hcd:(x == ("__classdict__":Str))=false:=by decide):PE X (.Name x pos) (J2J i):=J8I hN (.inl hv) hd hcd
theorem pvc (i:Nat){x:Str}{pos:Pos}(hN:X.N[i]?=some x:=by rfl)(hv:X.env.scope.names.lookup x=some .cell:=by rfl)(hd:(x == ("__debug__":Str))=false:=by decide)(hcd:(x == ("__classdict__":Str))=false:=by decide):PE X (.Name x pos) (J2J i):=J8I hN (.inr (.inl hv)) hd hcd
theorem pgl (i:Nat){x:Str}{pos:Pos}(hN:X.N.Nodup)(hi:X.N[i]?=some x:=by rfl)(hv:X.env.scope.names.lookup x=some .local:=by rfl):PG X (.Name x pos) (J0C i):=J9I hN hi (.inl hv) (.inr hv)
theorem psl (i:Nat){x:Str}{pos pos':Pos}{e:Expr}{te:TE}(hN:X.N.Nodup)(he:PE X e te)(hi:X.N[i]?=some x:=by rfl)(hv:X.env.scope.names.lookup x=some .local:=by rfl)(hs:swapsWith e (some (.Name x pos')) pos.line X.env=pure false:=by rfl) :
 PS X (.Assign [.Name x pos'] e pos) (J3g te (J0C i)):=J8F hN hi (.inl hv) he hs (.inr hv)
theorem psc (i:Nat){x:Str}{pos pos':Pos}{e:Expr}{te:TE}(hN:X.N.Nodup)(he:PE X e te)(hi:X.N[i]?=some x:=by rfl)(hv:X.env.scope.names.lookup x=some .cell:=by rfl)(hs:swapsWith e (some (.Name x pos')) pos.line X.env=pure false:=by rfl)(hf:X.fn x=true:=by rfl) :
 PS X (.Assign [.Name x pos'] e pos) (J3g te (J0C i)):=J8F hN hi (.inr hv) he hs (.inl hf)
theorem pgi {x:Str}{i:Int}{pos:Pos}(hm:∃ tk,X.mg x=some (.int i tk))(hg:Gl X x:=by rfl)(hd:(x == ("__debug__":Str))=false:=by decide):PE X (.Name x pos) (tC (.int i)):=let ⟨t,e⟩:=hm;J5o hg e ⟨t,rfl⟩ hd
theorem pgs {x:Str}{z:Str}{pos:Pos}(hm:∃ tk,X.mg x=some (.str z tk))(hg:Gl X x:=by rfl)(hd:(x == ("__debug__":Str))=false:=by decide):PE X (.Name x pos) (tC (.str z)):=let ⟨t,e⟩:=hm;J5o hg e ⟨t,rfl⟩ hd
theorem pty {x:Str}{T:String}{pos:Pos}(hm:X.mg x=none)(hv:bootBuiltins x=some (.type T))(hg:Gl X x:=by rfl)(hn:x≠"__name__":=by decide)(hd:(x == ("__debug__":Str))=false:=by decide):PE X (.Name x pos) (tC (.ty T)):=J9L hg hm hv rfl hn hd
end
theorem Same.new {H H':Hp}(e:Same H H'){p:Addr}(h:H' p=none)(o:HO):Same H (upd H' p o):=fun b q z=>by
 rw [Jo (JO (e b q z) h)];exact e b q z
theorem Same.upd_new {H:Hp}{p:Addr}(h:H p=none)(o:HO):Same H (upd H p o):=(Same.refl H).new h o
theorem Same.set {H H':Hp}(e:Same H H'){p:Addr}(h:H p=none)(o:HO):Same H (upd H' p o):=fun b q z=>by
 rw [Jo (JO z h)];exact e b q z
theorem Same.seqT {K:Frag}{H H':Hp}{a:Addr}{xs:List V}(e:Same H H')(h:SqT K H a xs):SqT K H' a xs:=by
 rcases h with (h | ⟨o,h⟩) | h
 ·exact .inl (.inl (e _ _ h))
 ·exact .inl (.inr ⟨o,e _ _ h⟩)
 ·exact .inr h
theorem JY:bootBuiltins "len"=some (.builtin "len"):=by decide +kernel
theorem J9p:bootBuiltins "all"=some (.builtin "all"):=by decide +kernel
theorem Jbd:bootBuiltins "sum"=some (.builtin "sum"):=by decide +kernel
theorem JS:bootBuiltins "isinstance"=some (.builtin "isinstance"):=by decide +kernel
theorem J6W:bootBuiltins "int"=some (.type "int"):=by decide +kernel
theorem J9o:bootBuiltins "str"=some (.type "str"):=by decide +kernel
theorem Ja6:bootBuiltins "list"=some (.type "list"):=by decide +kernel
theorem J2k:bootBuiltins "tuple"=some (.type "tuple"):=by decide +kernel
theorem J9 {n:Nat}(h:n<=1000000):n<=sizeLine:=by rw [sizeLine_eq];omega
theorem J5G {z:Str}:Walk (Its z) (J5g z) (fun _=>True) where
 go:=fun i H _ hi=>by rw [J46] at hi;exact hi
 yld:=fun i H x H' _ hi y=>by
  obtain ⟨e,c,hc,hx⟩:=y;refine ⟨e,?_⟩;rw [hx,J5g,zE];have:z.cps.toList[i]?=some c:=by simpa using hc
  rw [this];rfl
 stop:=fun H _=>J46 z
theorem J0G {α:Type}{xs:List α}{i:Nat}{x:α}(h:xs[i]?=some x):xs.take (i+1)=xs.take i++[x]:=by rw [take_add_one,h];rfl
theorem comp_of {α:Type}{J:It}{as:List α}{g:α->V}{ok:Hp->Prop}(w:Walk J (as.map g) ok){tt:TT}{te:TE}{fin:List V->Hp->Prop}{σ:St}{H:Hp}(hz:as.length<=sizeLine)(h0:∀ H',Same H H'->ok H')(p:α->Bool)(f:α->V)
 (ht:∀ a H1 Q,a∈as->Same H H1->(∀ H2,Same H1 H2->Q (p a) H2)->tt (some (g a)::σ) H1 Q)
 (he:∀ a H1 Q,a∈as->p a=true->Same H H1->(∀ H2,Same H1 H2->Q (f a) H2)->te (some (g a)::σ) H1 Q)
 (hd:∀ H',Same H H'->fin ((as.filter p).map f) H'):J6h J (J0C 0) tt te fin (none::σ) H:=by
 refine J14 w (by rw [zu];exact hz) (fun i ys H'=>Same H H'/\ys=((as.take i).filter p).map f) ⟨Same.refl H,rfl⟩ (fun i ys H' _ q=>h0 H' q.1) (fun i ys H' q=>?_) (fun i x ys H' hx q=>?_) (fun ys H' q=>?_)
 ·rw [q.2,zu]
  exact zo (length_filter_le _ _) (by rw [zz];omega)
 ·obtain ⟨s1,e⟩:=q
  rw [zE] at hx;cases ha:as[i]? with
  | none=>rw [ha] at hx;cases hx
  | some a =>
    rw [ha] at hx;have hx':g a=x:=zi hx;subst hx';have hm:a∈as:=zx ha;refine ht a H' _ hm s1 fun H2 s2=>?_;cases hp:p a with
    | false =>
      rw [zc zf];exact ⟨⟨_,rfl⟩,s1.trans s2,by rw [e,J0G ha,filter_append,zG];simp [hp]⟩
    | true =>
      rw [zd rfl];exact he a H2 _ hm hp (s1.trans s2) fun H3 s3=>⟨⟨_,rfl⟩,(s1.trans s2).trans s3,by rw [e,J0G ha,filter_append,zG];simp [hp]⟩
 ·obtain ⟨s1,e⟩:=q
  rw [e,zu,zF];exact hd H' s1
theorem J2U {α:Type}(as:List α):as.filter (fun _=>true)=as:=filter_eq_self.mpr fun _ _=>rfl
theorem J1U (g:Str)(c:Nat):(!(Builtin.Str.occurrences g ⟨#[c]⟩ 0 g.length 1).isEmpty)=decide (c∈g.cps.toList):=PySem.StrLaws.found_one g c
def J2p:List String:=["NoneType","bool","int","str","list","tuple","dict"]
structure Pl (K:Frag)(H:Hp)(x:V)(T:String):Prop where
 ty:TyOf K H x (.type T)
 mem:T∈J2p
 sz:∀ z,x=.str z->z.length<=sizeLine
def Jb3 (T S:String):Bool:=T == S||(T == "bool"&&S == "int")
theorem J7R {K:Frag}{T S:String}(hT:T∈J2p)(hS:S∈J2p):PySem.W.kitOne K (.type T) (.type S)=some (Jb3 T S):=by
 simp only [J2p,zC,not_mem_nil,or_false] at hT hS;rcases hT with rfl | rfl | rfl | rfl | rfl | rfl | rfl<;>rcases hS with rfl | rfl | rfl | rfl | rfl | rfl | rfl<;>rfl
theorem Pl.of_str {K:Frag}{H:Hp}{z:Str}(h:z.length<=sizeLine):Pl K H (.str z) "str":=⟨.str z,by decide,fun _ e=>by cases e;exact h⟩
theorem Pl.name {K:Frag}{H:Hp}{x:V}{T:String}(h:Pl K H x T) :
 (T="NoneType"/\x=.non)\/(∃ b,T="bool"/\x=.bl b)\/(∃ i,T="int"/\x=.int i)\/(∃ z,T="str"/\x=.str z/\z.length<=sizeLine)\/(∃ a,(T="list"\/T="tuple"\/T="dict")/\x=.ref a):=by
 obtain ⟨ty,hm,hz⟩:=h;generalize hv:Value.type T=t at ty;cases ty with
 | non=>cases hv;exact .inl ⟨rfl,rfl⟩
 | bl b=>cases hv;exact .inr (.inl ⟨b,rfl,rfl⟩)
 | int i=>cases hv;exact .inr (.inr (.inl ⟨i,rfl,rfl⟩))
 | str z=>cases hv;exact .inr (.inr (.inr (.inl ⟨z,rfl,rfl,hz z rfl⟩)))
 | flt x=>cases hv;simp [J2p] at hm
 | lst e=>cases hv;exact .inr (.inr (.inr (.inr ⟨_,.inl rfl,rfl⟩)))
 | frz e=>cases hv;exact .inr (.inr (.inr (.inr ⟨_,.inl rfl,rfl⟩)))
 | tup e=>cases hv;exact .inr (.inr (.inr (.inr ⟨_,.inr (.inl rfl),rfl⟩)))
 | dK e=>cases hv;exact .inr (.inr (.inr (.inr ⟨_,.inr (.inr rfl),rfl⟩)))
 | dT e=>cases hv;exact .inr (.inr (.inr (.inr ⟨_,.inr (.inr rfl),rfl⟩)))
 | ins e c h1 h2 h3 h4=>cases hv
def J9D (K:Frag):List V->Hp->VK->Prop:=fun xs H Q=>∃ x S T,xs=[x,.ty S]/\Pl K H x T/\S∈J2p/\Q (.bl (Jb3 T S)) H
theorem J9m {X:Cx}:J00 X (.builtin "isinstance") (J9D X.K):=by
 intro pins s σ H xs us Q I r h;obtain ⟨x,S,T,rfl,p,hS,q⟩:=h;exact J9k pins s σ H _ us Q I r ⟨x,S,.type T,_,rfl,p.ty,J7R p.mem hS,q⟩
section
variable {X:Cx}
def JaD (K:Frag):R2:=fun x y H Q=>∃ a b xs,x=.ref a/\y=.ref b/\SqL K H a xs/\SqL K H b []/\Q (.bl xs.isEmpty) H
theorem J7I (hu:X.A.units+64<cLine):OpR X (compareOp .Eq) (JaD X.K):=by
 intro pins s σ H x y v u Q I rx ry h;obtain ⟨a,b,xs,rfl,rfl,h1,h2,q⟩:=h;cases rx;cases ry;obtain ⟨its,r1,p1,_⟩:=I.list h1;obtain ⟨it2,r2,p2,_⟩:=I.list h2;have e2:it2=[]:=by cases r2;rfl
 subst e2;have hl:=r1.length;cases xs with
 | nil =>
   have e1:its=[]:=by cases r1;rfl
   subst e1;exact SeqAt.eq_listAt (e:=fun _=>true) p1.isList p2.isList rfl (by omega) (fun j h1 _=>absurd h1 (by simp)) (JB I q (by simp))
 | cons z zs =>
   refine SeqAt.eq_list_lengthsAt p1.isList p2.isList ?_ (by omega) (JB I q rfl);rw [zw,zw,<- hl];simp
end
theorem J1x {K:Frag}{H:Hp}{p:Addr}{xs:List V}{i:Int}{Q:VK}(h:SqL K H p xs)(h0:0<=i)(h1:i<xs.length)(q:∀ v,xs[i.toNat]?=some v->Q v H):JaC K (.ref p) (.int i) H Q:=by
 have hj:i.toNat<xs.length:=by omega
 refine ⟨p,xs,i,xs[i.toNat],rfl,rfl,h,?_,q _ (zr hj)⟩;have e:=Jh (zr hj);rwa [Int.toNat_of_nonneg h0] at e
theorem Jb2 {K:Frag}{H:Hp}{p:Addr}{xs:List V}{i:Int}{Q:VK}(h:SqT K H p xs)(h0:0<=i)(h1:i<xs.length)(q:∀ v,xs[i.toNat]?=some v->Q v H):J3O K (.ref p) (.int i) H Q:=by
 have hj:i.toNat<xs.length:=by omega
 refine ⟨p,xs,i,xs[i.toNat],rfl,rfl,h,?_,q _ (zr hj)⟩;have e:=Jh (zr hj);rwa [Int.toNat_of_nonneg h0] at e
theorem J3D {H:Hp}{z:Str}{i:Int}{Q:VK}(hz:z.length<=sizeLine)(h0:0<=i)(h1:i<z.length)(q:∀ c,z.cps.toList[i.toNat]?=some c->Q (sgn c) H):J9B (.str z) (.int i) H Q:=by
 have hl:z.cps.toList.length=z.length:=by simp [Str.length]
 have hj:i.toNat<z.cps.toList.length:=by omega
 refine ⟨z,i,z.cps.toList[i.toNat],rfl,rfl,hz,?_,q _ (zr hj)⟩;have e:=Jh (zr hj);rwa [Int.toNat_of_nonneg h0] at e
theorem Ja1 (parts:List Str)(acc:Array Nat):(parts.foldl (fun acc p=>acc++(#[]:Array Nat)++p.cps) acc).toList=acc.toList++(parts.map fun p=>p.cps.toList).flatten:=by
 induction parts generalizing acc with
 | nil=>simp
 | cons a r ih=>rw [foldl_cons,ih];simp
theorem J8Y (parts:List Str):(Txt.join (Str.ofString "") parts).cps.toList=(parts.map fun p=>p.cps.toList).flatten:=by
 show (Builtin.Str.glued (Str.ofString "") parts).cps.toList=_;have e:(Str.ofString "").cps=#[]:=by decide
 unfold Builtin.Str.glued;rw [e];cases parts with
 | nil=>rfl
 | cons a r =>
   show (r.foldl _ a.cps).toList=_;rw [Ja1];simp
theorem J4q:∀ cs:List Nat,((cs.map fun c=>(⟨#[c]⟩:Str)).map fun p=>p.cps.toList).flatten=cs
 | []=>rfl
 | a::r=>by
   have ih:=J4q r;simp only [zD,flatten_cons,ih];rfl
theorem J2K {z:Str}{cs:List Nat}(h:z.cps.toList=cs):z=⟨cs.toArray⟩:=by
 subst h;cases z with
 | mk a=>rfl
theorem J6M (cs:List Nat):Txt.join (Str.ofString "") (cs.map fun c=>⟨#[c]⟩)=⟨cs.toArray⟩ :=
 J2K ((J8Y (cs.map fun c=>(⟨#[c]⟩:Str))).trans (J4q cs))
theorem J4y (cs:List Nat):cs.map sgn=(cs.map fun c=>(⟨#[c]⟩:Str)).map V.str:=by rw [map_map];rfl
theorem J8j (cs:List Nat):((cs.map fun c=>(⟨#[c]⟩:Str)).map (·.length)).sum=cs.length:=by
 induction cs with
 | nil=>rfl
 | cons a r ih=>simp only [zD,sum_cons,ih,length_cons];show 1+_=_;omega
theorem J8Z {K:Frag}{H:Hp}{p:Addr}{cs:List Nat}{Q:VK}(h:SqL K H p (cs.map sgn))(hl:cs.length<=1000000)(q:Q (.str ⟨cs.toArray⟩) H):J8z K (.str (Str.ofString "")) [.ref p] H Q:=by
 refine ⟨Str.ofString "",p,cs.map fun c=>⟨#[c]⟩,rfl,rfl,by rw [<- J4y];exact h,?_,?_⟩
 ·rw [J8j,zu]
  have e:(Str.ofString "").length=0:=by decide
  rw [e];omega
 ·rw [J6M];exact q
section
variable {X:Cx}{K:Frag}(e:X.K=K)
include e
theorem Jbz:J00 X (.builtin "isinstance") (J9D K):=by subst e;exact J9m
theorem Jam (hc:X.calm=true):J00 X (.builtin "all") (J9E K fun bs=>bs.all id):=by subst e;exact J9n hc
def J8y (K:Frag):List V->Hp->VK->Prop:=fun xs H Q=>∃ p ys,xs=[.ref p]/\(SqL K H p ys\/SqT K H p ys)/\Q (.int ys.length) H
theorem J63:J00 X (.builtin "len") (J8y K):=by subst e;exact J5A
def J8x (K:Frag):List V->Hp->VK->Prop:=fun xs H Q=>∃ x n,xs=[x]/\JbJ K x H n/\Q (.int n) H
theorem Jb0:J00 X (.builtin "len") (J8x K):=by subst e;exact J9j
def J5n (K:Frag):List V->Hp->VK->Prop:=fun xs H Q=>∃ p ys,xs=[.ref p]/\(SqL K H p ys\/SqT K H p ys)/\∀ l,H l=none->Q (.ref l) (upd H l (.lst ys))
theorem JaZ:J00 X (.type "list") (J5n K):=by subst e;exact J5z
def J4c (K:Frag):List V->Hp->VK->Prop:=fun xs H Q=>∃ p ys,xs=[.ref p]/\((SqL K H p ys/\∀ l,H l=none->Q (.ref l) (upd H l (.tup ys)))\/(SqT K H p ys/\Q (.ref p) H))
theorem J3b:J00 X (.type "tuple") (J4c K):=by subst e;exact J4L
theorem J1d:IxR X (JaC K):=by subst e;exact J9W
theorem Jt:IxR X (J3O K):=by subst e;exact Jb1
theorem Jaj:SlR X (J9A K):=by subst e;exact J9v
theorem Jal (hu:X.A.units+64<cLine):OpR X (compareOp .NotEq) (J8B K true):=by subst e;exact JaO hu
theorem JbA (hu:X.A.units+64<cLine):OpR X (compareOp .Eq) (JaD K):=by subst e;exact J7I hu
theorem J8V:OpR X (compareOp .In) (rIn K false):=by subst e;exact J7H
theorem J6L:MtR X "str.join" (J8z K):=by subst e;exact J9R
theorem Jak {tg l:Expr}{tl:TE}(hl:PE X l tl):PI X tg l (J7j K tl):=by subst e;exact J9G hl
theorem J62 {tg l:Expr}{tl:TE}(hl:PE X l tl):PI X tg l (Ja0 K tl):=by subst e;exact JaH hl
theorem J7h {es:List Expr}{k:Nat}{t:TGs}{n:Nat}{pos:Pos}(hc:X.calm=true)(h:PGs X es t)(hn:(assignEach es X.env).length=n:=by rfl)(hst:(assignEach es X.env).findIdx? (·.1)=none:=by rfl):PG X (.Tuple es k pos) (JbB K n t):=by subst e;exact JaJ hc h hn hst
theorem JbP {o a:Expr}{es:List Expr}{to:TE}{t:TA}{name:Str}{apos cpos:Pos}{T id:String}{r:V->List V->Hp->VK->Prop}(pa:PlainAttrs T)(slot:Slot T name id)(hty:typeOf (.builtin id)=pure (.type "method_descriptor"))(hm:MtR X id r)(ho:PE X o to)(ha:PA X (a::es) t)
 (hbase:attributeBase o name X.env (eval o X.env)=eval o X.env:=by rfl)
 (hfew:((backTo cpos (starEach (a::es) X.env)).all (fun x=>!x.1)&&(backToKw cpos (keywordEach [] X.env)).all (fun x=>x.1.isSome)
  && decide ((a::es).length+([]:List Keyword).length+(if ([]:List Keyword).isEmpty then 0 else 1)<30))=true:=by rfl)
 (hline:(apos.endLine == cpos.line)=true:=by rfl) (hs:starEach (a::es) X.env=(false,eval a X.env)::starEach es X.env:=by rfl) (hplain:(backTo cpos (starEach es X.env)).any (·.1)=false:=by rfl) :
 PE X (.Call (.Attribute o name apos) (a::es) [] cpos) (tBM K T r to t):=by subst e;exact Jbp pa slot hty hm ho ha hbase hfew hline hs hplain
end
def Jw:Expr->Bool
 | .Starred _ _=>false
 | _=>true
theorem JW {e:Expr}{es:List Expr}{env:Env}(h:Jw e=true):starEach (e::es) env=(false,eval e env)::starEach es env:=by
 cases e<;>first | rfl | cases h
theorem J4Q {env:Env}:∀ {es:List Expr},es.all Jw=true->(starEach es env).any (·.1)=false
 | [],_=>rfl
 | e::es,h=>by
   rw [all_cons,Bool.and_eq_true] at h;rw [JW h.1,any_cons,J4Q h.2];rfl
theorem J06 {env:Env}{pos:Pos}{es:List Expr}(h:es.all Jw=true):(backTo pos (starEach es env)).any (·.1)=false:=by
 have:=J4Q (env:=env) h;unfold backTo;rw [any_map];exact this
section
variable {X:Cx}{e:Expr}{es:List Expr}{te:TE}{t:TA}
theorem pal (hn:Jw e=true)(ha:PE X e te)(hr:PA X es t):PA X (e::es) (J43 te t):=J9M ha hr (JW hn)
theorem Jm {x:Str}{st:Stmt}{ps:List Str}{f:Addr}{fd:FuncData}{k:Nat}{sp:Sp}{p pos:Pos}(D:DefOk X.K X.mg x st ps f fd)(G:FnOk X.prog X.w X.K X.mg X.base CX0 k f fd ps sp)(hr:Room k X.A)
 (hg:Gl X x) (hdb:(x == ("__debug__":Str))=false) (hn:(e::es).all Jw=true) (ha:PA X (e::es) t) :
 PE X (.Call (.Name x p) (e::es) [] pos) (J76 sp [] E0 t) :=
 have h:Jw e=true/\es.all Jw=true:=by rw [all_cons,Bool.and_eq_true] at hn;exact hn
 J9K G hr hg D.m D.F.kp D.b .nil J1X ha hdb (JW h.1) (J06 h.2)
theorem JR {x:Str}{p pos:Pos}{id:String}{r:List V->Hp->VK->Prop}(hc:J00 X (.builtin id) r)(hm:X.mg x=none)(hv:bootBuiltins x=some (.builtin id))(hg:Gl X x)(hn:x≠"__name__")(hdb:(x == ("__debug__":Str))=false)
 (hs:(e::es).all Jw=true) (ha:PA X (e::es) t):PE X (.Call (.Name x p) (e::es) [] pos) (tCB r t) :=
 have h:Jw e=true/\es.all Jw=true:=by rw [all_cons,Bool.and_eq_true] at hs;exact hs
 J8L hc hg hm hv ha hn hdb (JW h.1) (J06 h.2)
theorem J1v {x:Str}{p pos:Pos}{T:String}{r:List V->Hp->VK->Prop}(hc:J00 X (.type T) r)(hm:X.mg x=none)(hv:bootBuiltins x=some (.type T))(hg:Gl X x)(hn:x≠"__name__")(hdb:(x == ("__debug__":Str))=false)
 (hs:(e::es).all Jw=true) (ha:PA X (e::es) t):PE X (.Call (.Name x p) (e::es) [] pos) (tCB r t) :=
 have h:Jw e=true/\es.all Jw=true:=by rw [all_cons,Bool.and_eq_true] at hs;exact hs
 J7G hc hg hm hv ha hn hdb (JW h.1) (J06 h.2)
theorem J9q {env:Env}{pos:Pos}{es:List Expr}(h:es.all Jw=true):(backTo pos (starEach es env)).all (fun x=>!x.1)=true:=by
 have:=J06 (env:=env) (pos:=pos) h;rw [any_eq_false] at this;rw [all_eq_true];intro x hx;have:=this x hx;simpa using this
theorem J2F {K:Frag}{o a:Expr}{to:TE}{name:Str}{apos cpos:Pos}{T id:String}{r:V->List V->Hp->VK->Prop}(ek:X.K=K)(pa:PlainAttrs T)(slot:Slot T name id)(hty:typeOf (.builtin id)=pure (.type "method_descriptor"))(hm:MtR X id r)
 (hbase:attributeBase o name X.env (eval o X.env)=eval o X.env) (hs:(a::es).all Jw=true) (hsz:decide ((a::es).length+0+0<30)=true) (hline:(apos.endLine == cpos.line)=true) (ho:PE X o to) (ha:PA X (a::es) t) :
 PE X (.Call (.Attribute o name apos) (a::es) [] cpos) (tBM K T r to t) :=
 have h:Jw a=true/\es.all Jw=true:=by rw [all_cons,Bool.and_eq_true] at hs;exact hs
 JbP ek pa slot hty hm ho ha hbase (by rw [J9q hs];exact hsz) hline (JW h.1) (J06 h.2)
end
def ForW (J:It)(g:TG)(tb:TS)(D:Ends)(σ:St)(H1:Hp):Prop:=∃ W:Nat->Nat->St->Hp->Prop,(∃ m,W 0 m σ H1)/\∀ i m σ H,W i m σ H ->
 (J.stop i H/\D.nx σ H)\/(J.go i H/\∃ N:St->Hp->Prop,(∀ σ' H',N σ' H'->∃ m',m'<m/\W (i+1) m' σ' H')/\∀ x H',J.yld i H x H'->g x σ H' fun σ2 H2=>tb { D with nx:=N,ct:=N,bk:=D.nx } σ2 H2)
theorem J2j {wi:TI}{g:TG}{tb:TS}{D:Ends}{σ:St}{H:Hp}(h:wi σ H fun J H1=>ForW J g tb D σ H1):J8e wi g tb D σ H:=h
theorem ForW.of {g:TG}{tb:TS}{D:Ends}{σ:St}{H:Hp}{J:It}{xs:List V}{ok:Hp->Prop}(w:Walk J xs ok)(Pv:Nat->St->Hp->Prop)(h0:Pv 0 σ H)(hl:∀ i σ H,i<=xs.length->Pv i σ H->ok H)
 (hs:∀ i x σ H,xs[i]?=some x->Pv i σ H->g x σ H fun σ2 H2=>tb { D with nx:=Pv (i+1),ct:=Pv (i+1),bk:=D.nx } σ2 H2) (hd:∀ σ H,Pv xs.length σ H->D.nx σ H):ForW J g tb D σ H:=J95 w Pv h0 hl hs hd
def J03 {α:Type}(xs:List α)(lo hi:Option Int):List α:=(xs.drop (HT.sIx xs.length 0 lo)).take (HT.sIx xs.length xs.length hi - HT.sIx xs.length 0 lo)
theorem J5S {α:Type}(xs:List α)(a:Nat):∀ k:Nat,((List.range k).map (a+·)).filterMap (fun i=>xs[i]?)=(xs.drop a).take k
 | 0=>by simp
 | k+1=>by
   rw [range_succ,zG,filterMap_append,J5S xs a k,take_add_one,List.getElem?_drop];cases h:xs[a+k]?<;>simp [h]
theorem J7p (v:Option Int)(n d:Nat)(hd:d<=n):(match v with | none=>(d:Int) | some i=>max 0 (min (if i<0 then i+(n:Int) else i) (n:Int)))=((HT.sIx n d v:Nat):Int):=by
 cases v with
 | none=>rfl
 | some i =>
   unfold HT.sIx;dsimp only;by_cases h:i<0
   ·simp only [h,if_true]<;>omega
   ·simp only [h,if_false]<;>omega
theorem J6N (lo hi:Option Int)(n:Nat):Builtin.Str.strSliceIndices lo hi 1 n=(List.range (HT.sIx n n hi - HT.sIx n 0 lo)).map (HT.sIx n 0 lo+·):=by
 have e1:=J7p lo n 0 (zn _);have e2:=J7p hi n n (ze _);rw [<- sliceRange_one,<- e1,<- e2];unfold Builtin.Str.strSliceIndices;simp only [show (1:Int) > 0 by decide,if_true];cases lo<;>cases hi<;>rfl
theorem J7y (x:Str)(lo hi:Option Int):(Txt.slice x lo hi).cps.toList=J03 x.cps.toList lo hi:=by
 have hl:x.cps.toList.length=x.length:=by simp [Str.length]
 unfold Txt.slice J03;rw [J6N,hl]
 split
 ·rename_i h
  have h:(HT.sIx x.length x.length hi - HT.sIx x.length 0 lo)=x.length:=by simpa using h
  have h2:=HT.sIx_le x.length x.length (ze _) hi;by_cases h0:x.length=0
  ·have:x.cps.toList=[]:=eq_nil_of_length_eq_zero (by omega)
   rw [this];simp
  ·have h3:HT.sIx x.length 0 lo=0:=by omega
   rw [h3,h3] at *;rw [drop_zero,show HT.sIx x.length x.length hi - 0=x.cps.toList.length by omega,zF]
 ·show ((List.map _ _).filterMap fun (i:Nat)=>x.cps[i]?)=_
  have e:(fun (i:Nat)=>x.cps[i]?)=fun (i:Nat)=>x.cps.toList[i]?:=by funext i;simp
  rw [e,J5S]
theorem J4u {α:Type}(xs:List α)(lo hi:Option Int):(J03 xs lo hi).length<=xs.length:=by
 unfold J03;rw [zz,length_drop];omega
section
variable {X:Cx}
def JaB:V->Option Int->Option Int->Hp->VK->Prop:=fun x lo hi H Q=>∃ z,x=.str z/\z.length<=sizeLine/\Q (.str ⟨(J03 z.cps.toList lo hi).toArray⟩) H
theorem JU:SlR X JaB:=by
 intro pins s σ H x v vl vu lo hi sl Q I rx hs pl pu h;obtain ⟨z,rfl,hz,q⟩:=h;obtain ⟨t,rfl⟩:=rx;have e:Txt.slice z lo hi=⟨(J03 z.cps.toList lo hi).toArray⟩:=J2K (J7y z lo hi);have fin:∀ t' k,EP X pins σ Q (.str (Txt.slice z lo hi) t') { s with toks:=k }:=fun t' k=>by
  rw [e];exact ⟨.str _,H,I.tok _,⟨_,rfl⟩,q⟩
 have hle:=zo (Txt.slice_le z lo hi) hz;refine ⟨"str",_,F.slot_str_getitem.lookup,typeIs_str _ _ _,?_⟩;obtain ⟨o,ho,hc,hd⟩:=hs;cases pl with
 | none =>
   cases pu with
   | none=>exact wpAny_getItem_str_slice (l:=none) (u:=none) (st:=none) ⟨o,ho,hc,hd⟩ rfl (post_val_or_str ⟨hle,fin⟩)
   | int j uj=>exact wpAny_getItem_str_slice (l:=none) (u:=some (j,uj)) (st:=none) ⟨o,ho,hc,hd⟩ rfl (post_val_or_str ⟨hle,fin⟩)
 | int i ui =>
   cases pu with
   | none=>exact wpAny_getItem_str_slice (l:=some (i,ui)) (u:=none) (st:=none) ⟨o,ho,hc,hd⟩ rfl (post_val_or_str ⟨hle,fin⟩)
   | int j uj=>exact wpAny_getItem_str_slice (l:=some (i,ui)) (u:=some (j,uj)) (st:=none) ⟨o,ho,hc,hd⟩ rfl (post_val_or_str ⟨hle,fin⟩)
def Jag:V->List V->Hp->VK->Prop:=fun x vs H Q=>∃ z y,x=.str z/\vs=[.str y]/\Q (.int (Txt.find z y)) H
def J5m:V->List V->Hp->VK->Prop:=fun x vs H Q=>∃ z y,x=.str z/\vs=[.str y]/\Q (.bl (Txt.startswith z y)) H
theorem J4J:MtR X "str.startswith" J5m:=by
 intro pins s σ H x vs v us Q I rx rv h;obtain ⟨z,y,rfl,rfl,q⟩:=h;obtain ⟨t,rfl⟩:=rx;obtain ⟨u,rfl,t',rfl⟩:=rv.one;exact SC.startswith ⟨.bl _,H,I,rfl,q⟩
end
end L2
namespace L2
open PySem
theorem J1R {lo:Int}{n i:Nat}{x:V}(h:(J3u lo n)[i]?=some x):i<n/\x=.int (lo+i):=by
 have hi:i<n:=by have:=(zt.mp h).1;rwa [J0i] at this
 rw [J4b hi] at h;cases h;exact ⟨hi,rfl⟩
end L2
namespace L2
open PySem PySem.Spec PyProof.Rows PySem.NumText
def dgs (m:Nat):List Nat:=(Nat.toDigits 10 m).map Char.toNat
theorem J68:∀ d:Nat,d<10->(Nat.digitChar d).toNat=48+d:=by decide
theorem J4s {m:Nat}(h:m<10):dgs m=[48+m]:=by
 unfold dgs;rw [Nat.toDigits_of_lt_base h,zD,J68 m h];rfl
theorem J6S {m:Nat}(h:10<=m):dgs m=dgs (m / 10)++[48+m % 10]:=by
 have hm:m % 10<10:=Nat.mod_lt _ (by decide);have t:Nat.toDigits 10 (m / 10)++Nat.toDigits 10 (m % 10)=Nat.toDigits 10 (10 * (m / 10)+m % 10):=Nat.toDigits_append_toDigits (by decide) (by omega) hm;rw [Nat.div_add_mod] at t;unfold dgs;rw [<- t,zG,Nat.toDigits_of_lt_base hm,zD,J68 _ hm];rfl
def J1g (n:Int):List Nat:=if n<0 then 45::dgs n.natAbs else dgs n.natAbs
theorem J9P (n:Int):(Str.ofString (toString n)).cps.toList=J1g n:=by
 rw [signs_ofString,Int.toString_eq_repr,Int.repr_eq_if];unfold J1g dgs;by_cases h:n<0
 ·rw [zc (by omega),zd h,String.toList_append,zG,Nat.toList_repr]
  have e:(-n).toNat=n.natAbs:=by omega
  rw [e];rfl
 ·rw [zd (by omega),zc h,Nat.toList_repr]
  have e:n.toNat=n.natAbs:=by omega
  rw [e]
theorem J2V (m:Nat):AllDigits (dgs m):=by
 induction m using Nat.strongRecOn with
 | ind m ih =>
   by_cases h:m<10
   ·rw [J4s h];intro c hc;rw [zv.mp hc];omega
   ·rw [J6S (by omega)]
    intro c hc;rcases zH.mp hc with z | z
    ·exact ih (m / 10) (by omega) c z
    ·rw [zv.mp z];omega
theorem Ja4 (m:Nat):digitsVal (dgs m)=m:=PySem.W.KIN.val_back m
theorem J6b {m:Nat}(h:m≠0):∃ c r,dgs m=c::r/\49<=c:=by
 induction m using Nat.strongRecOn with
 | ind m ih =>
   by_cases h':m<10
   ·exact ⟨_,_,J4s h',by omega⟩
   ·obtain ⟨c,r,e,hc⟩:=ih (m / 10) (by omega) (by omega)
    exact ⟨c,r++[48+m % 10],by rw [J6S (by omega),e];rfl,hc⟩
theorem J6a:dgs 0=[48]:=J4s (by decide)
theorem Jbc (m:Nat):dgs m≠[]:=by
 by_cases h:m=0
 ·subst h;rw [J6a];simp
 ·obtain ⟨c,r,e,_⟩:=J6b h;rw [e];simp
theorem J5u:∀ (k:Nat) {m:Nat},m<10 ^ (k+1)->(dgs m).length<=k+1
 | 0,m,h=>by rw [J4s (by simpa using h)];simp
 | k + 1,m,h=>by
   by_cases h':m<10
   ·rw [J4s h'];simp
   ·rw [J6S (by omega),zy]
    have:m / 10<10 ^ (k+1):=by rw [Nat.pow_succ] at h;omega
    have:=J5u k this;simp only [length_cons,length_nil];omega
def J2i (c:Nat):Bool:=decide (48<=c/\c<=57)
theorem J5D {cs:List Nat}:cs.all J2i=true↔AllDigits cs:=by
 rw [all_eq_true];exact ⟨fun h c hc=>of_decide_eq_true (h c hc),fun h c hc=>zg (h c hc)⟩
def J1e (t:List Nat):List Nat:=if t.head?=some 45 then t.tail else t
def JX (t:List Nat):Bool:=decide (1<=(J1e t).length)&&(decide ((J1e t).length<=60)&&((J1e t).all J2i&&(!decide ((J1e t).head?=some 48)||decide (t=[48]))))
def J1c (t:List Nat):Int:=if t.head?=some 45 then -((digitsVal (J1e t):Nat):Int) else ((digitsVal (J1e t):Nat):Int)
theorem figs_num (n:Int):J1e (J1g n)=dgs n.natAbs/\((J1g n).head?=some 45↔n<0):=by
 unfold J1g J1e;by_cases h:n<0
 ·rw [zd h];exact ⟨rfl,by simp [h]⟩
 ·rw [zc h]
  have e:(dgs n.natAbs).head?≠some 45:=by
   cases e:dgs n.natAbs with
   | nil=>simp
   | cons c r =>
     have:=J2V n.natAbs c (by rw [e];exact zB);simp only [List.head?_cons,ne_eq,Option.some.injEq];omega
  rw [zc e];exact ⟨rfl,by simp [h,e]⟩
theorem J5W {n:Int}(h:n.natAbs<10 ^ 60):JX (J1g n)=true/\J1c (J1g n)=n:=by
 obtain ⟨e1,e2⟩:=figs_num n;have hl:=J5u 59 h;have h1:1<=(dgs n.natAbs).length:=length_pos_iff.mpr (Jbc _);constructor
 ·unfold JX
  rw [e1,zg h1,zg hl,J5D.mpr (J2V _),Bool.true_and,Bool.true_and,Bool.true_and];by_cases h0:n=0
  ·subst h0
   have:J1g 0=[48]:=by unfold J1g;rw [zc (by decide)];exact J6a
   rw [this];simp
  ·obtain ⟨c,r,e,hc⟩:=J6b (m:=n.natAbs) (by omega)
   rw [e];simp only [List.head?_cons,Option.some.injEq];rw [zh (by omega)];rfl
 ·unfold J1c
  rw [e1,Ja4];by_cases h0:n<0
  ·rw [zd (e2.mpr h0)];omega
  ·rw [zc (fun z=>h0 (e2.mp z))];omega
theorem J4m {z:Str}(h:JX z.cps.toList=true):intText? z=some (J1c z.cps.toList)/\z.length<=61:=by
 unfold JX at h;simp only [Bool.and_eq_true,decide_eq_true_eq] at h;obtain ⟨h1,h2,h3,_⟩:=h;have hl:z.cps.toList.length=z.length:=by simp [Str.length]
 unfold J1c;by_cases h0:z.cps.toList.head?=some 45
 ·have ef:J1e z.cps.toList=z.cps.toList.tail:=by unfold J1e;rw [zd h0]
  rw [ef] at h1 h2 h3;cases e:z.cps.toList with
  | nil=>rw [e] at h0;cases h0
  | cons c r =>
    rw [e] at h0 h1 h2 h3 hl;have hc:c=45:=by simpa using h0
    subst hc;simp only [tail_cons,length_cons] at h1 h2 h3 hl;rw [zd (by rfl),show J1e (45::r)=r by unfold J1e;rfl];exact ⟨intText_neg e (J5D.mp h3) (length_pos_iff.mp h1) (by omega),by omega⟩
 ·have ef:J1e z.cps.toList=z.cps.toList:=by unfold J1e;rw [zc h0]
  rw [ef] at h1 h2 h3;rw [zc h0,ef];exact ⟨intText_digits (J5D.mp h3) (length_pos_iff.mp h1) (by omega),by omega⟩
theorem J6c {α:Type}(xs:List α)(k:Nat):J03 xs (some (k:Int)) none=xs.drop k:=by
 unfold J03;rw [HT.sIx_nat,HT.sIx_none];by_cases h:k<=xs.length
 ·rw [Nat.min_eq_left h,take_of_length_le (by rw [length_drop];omega)]
 ·rw [Nat.min_eq_right (by omega),drop_length,drop_of_length_le (by omega)];simp
theorem J4t {α:Type}(xs:List α)(k:Nat):J03 xs none (some (k:Int))=xs.take k:=by
 unfold J03;rw [HT.sIx_nat,HT.sIx_none,drop_zero,Nat.sub_zero];by_cases h:k<=xs.length
 ·rw [Nat.min_eq_left h]
 ·rw [Nat.min_eq_right (by omega),zF,take_of_length_le (by omega)]
theorem J01 {z w:Str}:z=w↔z.cps.toList=w.cps.toList:=⟨fun e=>by rw [e],fun e=>by
 cases z with
 | mk a=>cases w with
   | mk b=>exact congrArg Str.mk (Array.toList_inj.mp e)⟩
theorem J5c (z:Str):Txt.startswith z (Str.ofString "-")=decide (z.cps.toList.head?=some 45):=by
 have hl:z.cps.toList.length=z.length:=by simp [Str.length]
 have e1:(Str.ofString "-").length=1:=by decide
 have e2:(Str.ofString "-").cps.toList=[45]:=by decide
 unfold Txt.startswith;rw [PySem.StrLaws.subAt_eq,e1,e2,drop_zero];cases h:z.cps.toList with
 | nil=>rw [h] at hl;simp at hl;simp [<- hl]
 | cons c r =>
   rw [h] at hl;simp only [length_cons] at hl;rw [show decide (0+1<=z.length)=true from zg (by omega)];rw [Bool.true_and,take_succ_cons,take_zero,List.head?_cons];by_cases hc:c=45
   ·subst hc;simp
   ·simp [hc]
section
variable {X:Cx}
def J8A:List V->Hp->VK->Prop:=fun xs H Q=>∃ z n,xs=[.str z]/\intText? z=some n/\z.length<=640/\Q (.int n) H
theorem J2I:J00 X (.type "int") J8A:=by
 intro pins s σ H xs us Q I r h;obtain ⟨z,n,rfl,hn,hl,q⟩:=h;obtain ⟨u,rfl,t,rfl⟩:=J1V r;exact PySem.W.KIN.call_text hn hl ⟨.int n,H,I.tok _,⟨_,rfl⟩,q⟩
def J8u:List V->Hp->VK->Prop:=fun xs H Q=>(∃ i,xs=[.int i]/\i.natAbs<10 ^ 100/\Q (.str ⟨(J1g i).toArray⟩) H)\/∃ z,xs=[.str z]/\Q (.str z) H
theorem J9T {n:Nat}(h:n<10 ^ 100):n.log2<1920:=by
 by_cases h0:n=0
 ·subst h0;decide
 ·have h1:=Nat.log2_self_le h0
  refine Nat.lt_of_not_le fun h2=>?_;have h3:2 ^ 1920<=2 ^ n.log2:=Nat.pow_le_pow_right (by decide) h2;have h4:(10:Nat) ^ 100<=2 ^ 1920:=by decide +kernel
  exact absurd (zm h (zo h4 (zo h3 h1))) (Nat.lt_irrefl _)
theorem J80:J00 X (.type "str") J8u:=by
 intro pins s σ H xs us Q I r h;rcases h with ⟨i,rfl,hi,q⟩ | ⟨z,rfl,q⟩
 ·obtain ⟨u,rfl,t,rfl⟩:=J1V r
  have e:Str.ofString (toString i)=⟨(J1g i).toArray⟩:=J2K (J9P i);exact PySem.P.str_of_int (J9T hi) ⟨.str _,H,I.tok _,⟨_,rfl⟩,by rw [e];exact q⟩
 ·obtain ⟨u,rfl,t,rfl⟩:=J1V r
  exact PySem.P.str_of_str ⟨.str z,H,I,⟨_,rfl⟩,q⟩
end
end L2
namespace L2
open PySem PySem.Spec PyProof.Rows
section
variable {X:Cx}
def J8w:R2:=fun x y H Q=>∃ z n,x=.str z/\y=.int n/\MulOk z n/\Q (.str (Txt.mul z n)) H
theorem J1b:OpR X (binaryOp .Mult) J8w:=by
 intro pins s σ H x y v u Q I rx ry h;obtain ⟨z,n,rfl,rfl,hm,q⟩:=h;obtain ⟨t,rfl⟩:=rx;obtain ⟨t',rfl⟩:=ry;exact SB.mul hm fun t' k=>⟨.str _,H,I.tok _,⟨_,rfl⟩,q⟩
end
end L2
namespace L2
open PySem
def WGo (Pv:Nat->St->Hp->Prop)(m:Nat)(tb:TS)(D:Ends)(σ:St)(H1:Hp):Prop:=∃ N:St->Hp->Prop,(∀ σ' H',N σ' H'->∃ m',m'<m/\Pv m' σ' H')/\tb { D with nx:=N,ct:=N,bk:=D.nx } σ H1
theorem WGo.of {Pv:Nat->St->Hp->Prop}{m:Nat}{tb:TS}{D:Ends}{σ:St}{H1:Hp}(h:tb { D with nx:=fun σ' H'=>∃ m',m'<m/\Pv m' σ' H',ct:=fun σ' H'=>∃ m',m'<m/\Pv m' σ' H',bk:=D.nx } σ H1):WGo Pv m tb D σ H1:=⟨_,fun _ _ q=>q,h⟩
theorem J23 {c:TT}{tb:TS}{D:Ends}{σ:St}{H:Hp}(Pv:Nat->St->Hp->Prop)(h0:∃ m,Pv m σ H)(hs:∀ m σ H,Pv m σ H->c σ H fun b H1=>if b=true then WGo Pv m tb D σ H1 else D.nx σ H1):J6r c tb D σ H:=⟨Pv,h0,hs⟩
end L2
namespace L2
open PySem PySem.Spec PyProof.Rows
def Trc (H:Hp)(h G:Heap)(e:Addr)(C:Value)(ed:Option Addr)(fl:Value):Prop :=
 G.get? e=none/\H e=none/\∃ oe vs,h.get? e=some oe/\oe.cls=C/\oe.dict=ed/\oe.data=.fields vs/\1<vs.size /\
  ((vs[1]?=some .none/\fl=.none)\/∃ T oT ts,vs[1]?=some (.ref T)/\G.get? T=none/\T≠e/\H T=none/\h.get? T=some oT/\oT.data=.fields ts/\ts[3]?=some fl)
structure Kp (H:Hp)(G:Heap)(fs:List Addr)(h h':Heap):Prop where
 keep:∀ b o,h.get? b=some o->b∉fs->(G.get? b≠none\/H b≠none)->h'.get? b=some o
 slot:∀ b o,h.get? b=some o->b∈fs->∃ sl,h'.get? b=some { o with slots:=sl }
 there:∀ b o,h.get? b=some o->∃ o',h'.get? b=some o'
 size:h.objs.size<=h'.objs.size
theorem Kp.refl (H:Hp)(G:Heap)(fs:List Addr)(h:Heap):Kp H G fs h h:=⟨fun _ _ e _ _=>e,fun _ o e _=>⟨o.slots,e⟩,fun _ o e=>⟨o,e⟩,ze _⟩
section
variable {M:Model}{A:Around}{E:Value->Shared->Prop}{s:Shared}{Q:Unit->Shared->Prop}{base:Heap}{env:Env}{outer:List Env}{L e:Addr}{C:Value}{ed:Option Addr}{G:Heap}{H:Hp}
theorem J3d {oe:Obj}{vs:Array Value}{head:Value}{hadNext:Bool}(hfr:A.frames=some (env::outer))(hl:s.heap.FunFrames base (env::outer))(hf:env.frame=some L)
 (he:s.heap.get? e=some oe) (hd:oe.data=.fields vs) (hsz:1<vs.size)
 (h:∀ h' T oT ts,s.heap.objs.size<=T->h'.get? e=some (oe.mapFields (·.setIfInBounds 1 (.ref T)))->h'.get? T=some oT->oT.data=.fields ts->ts[3]?=some (rawInt L) ->
  (∀ b o,b≠e->s.heap.get? b=some o->b∉frs (env::outer)->h'.get? b=some o)->(∀ b o,b≠e->s.heap.get? b=some o->∃ sl,h'.get? b=some { o with slots:=sl })->s.heap.objs.size<=h'.objs.size->Q () { s with heap:=h' }) :
 wpAny M A (do let a <- frameOf env;let pl <- entryPlaceOf L hadNext;let b <- EntryCells.newEntry head a .none (rawInt L) .none pl;setField (.ref e) 1 b) Q E s:=by
 have hene:e∉frs (env::outer):=fun hm=>by
  obtain ⟨_,o,ho,hnf⟩:=hl.mem hm;rw [he] at ho;cases ho;exact hnf vs hd
 refine za (wpAny_frameOf_fun hfr hl hf fun h₁ hs₁=>?_);refine za (wpAny_entryPlaceOf fun pl hpl=>?_);unfold EntryCells.newEntry newFields;refine za (wpAny_newObj_type ?_ (hpl.sizeOk5 _ _ _ _ _));have he₁:h₁.get? e=some oe:=(hs₁.2.1 e hene).trans he;generalize hO:({ cls:=.type "traceback",dict:=none,data:=.fields ([head,.ref L,.none,rawInt L,.none]++(if pl.isEmpty then List.replicate 6 Value.none else pl)).toArray }:Obj)=O;have he₂:=zQ (h:=h₁) O he₁;have hTe:h₁.objs.size≠e:=Nat.ne_of_gt (zS he₁);refine wpAny_setField he₂ hd hsz (h _ h₁.objs.size O _ (Nat.le_of_eq hs₁.1.symm) (Heap.get?_update_self _ he₂ (Obj.isFreed_of_fields (Obj.data_mapFields hd _))) ?_ (by rw [<- hO]) ?_ ?_ ?_ ?_)
 ·rw [zT _ _ (Ne.symm hTe)]
  exact zR h₁ (by rw [<- hO];rfl)
 ·first | (simp;done) | (rcases hpl with rfl | ⟨_,_,_,_,_,_,_,rfl⟩<;>simp)
 ·intro b o hb ho hn
  rw [zT _ _ (Ne.symm hb)];exact zQ _ ((hs₁.2.1 b hn).trans ho)
 ·intro b o hb ho
  obtain ⟨sl,e1⟩:=hs₁.2.2 b o ho;exact ⟨sl,by rw [zT _ _ (Ne.symm hb)];exact zQ _ e1⟩
 ·rw [Heap.size_after_update,Heap.size_push,hs₁.1]
  exact Nat.le_succ _
theorem note_wp (hfr:A.frames=some (env::outer))(hl:s.heap.FunFrames base (env::outer))(hf:env.frame=some L)(hH:∀ b,s.heap.objs.size<=b->H b=none)(hG:∀ b,s.heap.objs.size<=b->G.get? b=none)(t:Trc H s.heap G e C ed .none)
 (h:∀ h',Trc H h' G e C ed (rawInt L)->h'.FunFrames base (env::outer)->Kp H G (frs (env::outer)) s.heap h'->Q () { s with heap:=h' }):wpAny M A (noteFrame (.ref e) env) Q E s:=by
 obtain ⟨hn,hHe,oe,vs,he,hc,hdi,hd,hsz,ht⟩:=t;unfold noteFrame;simp only [hf];have nfr:∀ b o ws,s.heap.get? b=some o->o.data=.fields ws->b∉frs (env::outer):=fun b o ws ho hw hm=>by
  obtain ⟨_,o',ho',hnf⟩:=hl.mem hm;rw [ho] at ho';cases ho';exact hnf ws hw
 have fin:∀ (s1:Shared) (h':Heap) (T:Addr) (oT:Obj) (ts:Array Value),s.heap.objs.size<=T->h'.get? e=some (oe.mapFields (·.setIfInBounds 1 (.ref T)))->h'.get? T=some oT->oT.data=.fields ts->ts[3]?=some (rawInt L) ->
  (∀ b o,s.heap.get? b=some o->b∉frs (env::outer)->(G.get? b≠none\/H b≠none)->h'.get? b=some o)->(∀ b o,s.heap.get? b=some o->(∀ ws,o.data≠.fields ws)->∃ sl,h'.get? b=some { o with slots:=sl }) ->
  (∀ b o,s.heap.get? b=some o->∃ o',h'.get? b=some o')->s.heap.objs.size<=h'.objs.size->Q () { s with heap:=h' }:=by
  intro s1 h' T oT ts hT e1 e2 e3 e4 k1 k2 k3 k4;have le:e<s.heap.objs.size:=zS he;refine h h' ⟨hn,hHe,_,_,e1,by rw [Obj.cls_mapFields];exact hc,?_,Obj.data_mapFields hd _,by simpa using hsz,.inr ⟨T,oT,ts,by simp [hsz],hG T hT,Nat.ne_of_gt (zm le hT),hH T hT,e2,e3,e4⟩⟩ (hl.of_keeps fun b o hb hnf=>?_) ⟨k1,fun b o hb hm=>?_,k3,k4⟩
  ·rw [<- hdi]
   obtain ⟨c,d,dt,sl⟩:=oe;cases dt<;>rfl
  ·obtain ⟨sl,q⟩:=k2 b o hb hnf
   exact ⟨_,q,rfl⟩
  ·obtain ⟨_,o',ho',hnf⟩:=hl.mem hm
   rw [hb] at ho';cases ho';exact k2 b o hb hnf
 have nee:∀ b o,s.heap.get? b=some o->(G.get? b≠none\/H b≠none)->b≠e:=fun b o hb hx z=>by
  subst z;rcases hx with hx | hx
  ·exact hx hn
  ·exact hx hHe
 rcases ht with ⟨h1,_⟩ | ⟨T,oT,ts,h1,hT,hTe,hHT,gT,hdT,h3⟩
 ·refine za (wpAny_field he hd h1 ?_)
  rw [zc (by decide)];refine J3d hfr hl hf he hd hsz fun h' T' oT' ts' q1 q2 q3 q4 q5 q6 q7 q8=>fin s h' T' oT' ts' q1 q2 q3 q4 q5 (fun b o hb hm hx=>q6 b o (nee b o hb hx) hb hm) (fun b o hb hnf=>q7 b o (fun z=>?_) hb) (fun b o hb=>?_) q8
  ·subst z
   rw [he] at hb;cases hb;exact hnf vs hd
  ·by_cases z:b=e
   ·subst z
    exact ⟨_,q2⟩
   ·obtain ⟨sl,q⟩:=q7 b o z hb
    exact ⟨_,q⟩
 ·refine za (wpAny_field he hd h1 ?_)
  rw [zd (show (Value.ref T != Value.none)=true from by simp)];refine za (wpAny_field gT hdT h3 ?_);rw [zc (show ¬ ((Value.none == rawInt L)=true) from by simp [rawInt])];refine za (wpAny_setField gT hdT (Array.getElem?_eq_some_iff.mp h3).1 ?_);have other:∀ b,b≠T->(s.heap.update T (Obj.mapFields (·.setIfInBounds 3 Value.none))).get? b=s.heap.get? b:=fun b hb=>zT _ _ (Ne.symm hb);have self:=Heap.get?_update_self (Obj.mapFields (·.setIfInBounds 3 Value.none)) gT (Obj.isFreed_of_fields (Obj.data_mapFields hdT _));have neT:∀ b o,s.heap.get? b=some o->(G.get? b≠none\/H b≠none)->b≠T:=fun b o hb hx z=>by
   subst z;rcases hx with hx | hx
   ·exact hx hT
   ·exact hx hHT
  have neF:∀ b o,s.heap.get? b=some o->(∀ ws,o.data≠.fields ws)->b≠T:=fun b o hb hnf z=>by
   subst z;rw [gT] at hb;cases hb;exact hnf ts hdT
  have sz:(s.heap.update T (Obj.mapFields (·.setIfInBounds 3 Value.none))).objs.size=s.heap.objs.size:=Heap.size_after_update ..;refine J3d hfr (hl.of_keeps fun b o hb hnf=>⟨o,(other b (neF b o hb hnf)).trans hb,rfl⟩) hf ((other e (Ne.symm hTe)).trans he) hd hsz
   fun h' T' oT' ts' q1 q2 q3 q4 q5 q6 q7 q8=>fin s h' T' oT' ts' (by rw [sz] at q1;exact q1) q2 q3 q4 q5 (fun b o hb hm hx=>q6 b o (nee b o hb hx) ((other b (neT b o hb hx)).trans hb) hm)
    (fun b o hb hnf=>q7 b o (fun z=>?_) ((other b (neF b o hb hnf)).trans hb)) (fun b o hb=>?_) (by rw [sz] at q8;exact q8)
  ·subst z
   rw [he] at hb;cases hb;exact hnf vs hd
  ·by_cases z:b=e
   ·subst z
    exact ⟨_,q2⟩
   ·by_cases y:b=T
    ·subst y
     obtain ⟨sl,q⟩:=q7 b _ z self;exact ⟨_,q⟩
    ·obtain ⟨sl,q⟩:=q7 b o z ((other b y).trans hb)
     exact ⟨_,q⟩
theorem flight_wp {fl:Value}(hl:s.heap.FunFrames base outer)(t:Trc H s.heap G e C ed fl)
 (h:∀ h',Trc H h' G e C ed .none->h'.FunFrames base outer->Kp H G [] s.heap h'->(∀ b o,s.heap.get? b=some o->(∀ ws,o.data≠.fields ws)->h'.get? b=some o)->Q () { s with heap:=h' }):wpAny M A (setFlight (.ref e) none) Q E s:=by
 obtain ⟨hn,hHe,oe,vs,he,hc,hdi,hd,hsz,ht⟩:=t;unfold setFlight;rcases ht with ⟨h1,_⟩ | ⟨T,oT,ts,h1,hT,hTe,hHT,gT,hdT,h3⟩
 ·refine za (wpAny_field he hd h1 ?_)
  rw [zc (by decide)];exact zb (h s.heap ⟨hn,hHe,oe,vs,he,hc,hdi,hd,hsz,.inl ⟨h1,rfl⟩⟩ hl (Kp.refl ..) fun _ _ e _=>e)
 ·have hs3:3<ts.size:=(Array.getElem?_eq_some_iff.mp h3).1
  refine za (wpAny_field he hd h1 ?_);rw [zd (show (Value.ref T != Value.none)=true from by simp)];have other:∀ b,b≠T->(s.heap.update T (Obj.mapFields (·.setIfInBounds 3 ((none:Option Addr).elim Value.none fun f=>rawInt f)))).get? b=s.heap.get? b:=fun b hb=>zT _ _ (Ne.symm hb);have self:=Heap.get?_update_self (Obj.mapFields (·.setIfInBounds 3 ((none:Option Addr).elim Value.none fun f=>rawInt f))) gT (Obj.isFreed_of_fields (Obj.data_mapFields hdT _));refine wpAny_setField gT hdT hs3 (h _ ⟨hn,hHe,oe,vs,(other e (Ne.symm hTe)).trans he,hc,hdi,hd,hsz,.inr ⟨T,_,_,h1,hT,hTe,hHT,self,Obj.data_mapFields hdT _,by simp [hs3]⟩⟩ (hl.of_keeps fun b o hb hnf=>⟨o,(other b fun z=>?_).trans hb,rfl⟩)
   ⟨fun b o hb _ hx=>(other b fun z=>?_).trans hb,fun _ _ _ hm=>(nomatch hm),fun b o hb=>?_,Nat.le_of_eq (Heap.size_after_update ..).symm⟩ fun b o hb hnf=>(other b fun z=>?_).trans hb)
  ·subst z
   rw [gT] at hb;cases hb;exact hnf ts hdT
  ·subst z
   rcases hx with hx | hx
   ·exact hx hT
   ·exact hx hHT
  ·by_cases z:b=T
   ·subst z
    exact ⟨_,self⟩
   ·exact ⟨o,(other b z).trans hb⟩
  ·subst z
   rw [gT] at hb;cases hb;exact hnf ts hdT
end
def CXE (P:Program)(w:World):CXT:=fun outer H s E e s'=>∃ a C ed H',e=.ref a/\s'.os=s.os/\AllBare s'.gens/\Un (frs outer) [] H H' s.heap s'.heap/\HOk P w H' s'.heap/\Trc H' s'.heap s.heap a C ed .none/\E C ed H'
theorem Trc.older {H:Hp}{h G G':Heap}{e:Addr}{C:Value}{ed:Option Addr}{fl:Value}(t:Trc H h G e C ed fl)(hm:∀ b,G.get? b=none->G'.get? b=none):Trc H h G' e C ed fl:=by
 obtain ⟨hn,hHe,oe,vs,he,hc,hdi,hd,hsz,ht⟩:=t;refine ⟨hm _ hn,hHe,oe,vs,he,hc,hdi,hd,hsz,?_⟩;rcases ht with ht | ⟨T,oT,ts,h1,hT,r⟩
 ·exact .inl ht
 ·exact .inr ⟨T,oT,ts,h1,hm _ hT,r⟩
theorem J4p {h:Heap}{b:Addr}(hb:h.objs.size<=b):h.get? b=none:=Heap.get?_none_of_le hb
theorem Inv.back {X:Cx}{pins:List (Addr×Obj)}{σ:St}{H:Hp}{s:Shared}(I:Inv X pins σ H s)(hex:X.ex=[])(b:Addr)(e:s.heap.get? b=none):X.s₀.heap.get? b=none:=by
 cases q:X.s₀.heap.get? b with
 | none=>rfl
 | some o =>
   obtain ⟨o',e'⟩:=I.base.there b o q (by rw [hex];simp);rw [e] at e';cases e'
structure Cov (X:Cx)(pins:List (Addr×Obj))(G:Heap):Prop where
 loc:G.get? X.env.locals≠none
 cell:∀ x c,X.env.cells.lookup x=some c->G.get? c≠none
 pin:∀ p∈X.pn++pins,G.get? p.1≠none
 old:∀ b,G.get? b=none->X.s₀.heap.get? b=none
theorem Inv.cov {X:Cx}{pins:List (Addr×Obj)}{σ:St}{H:Hp}{s:Shared}(I:Inv X pins σ H s)(hex:X.ex=[]):Cov X pins s.heap :=
 ⟨by obtain ⟨m,⟨o,_,_,ho,_⟩,_⟩:=I.loc;rw [ho];simp,fun x c e=>by obtain ⟨v,o,ho,_⟩:=I.cell x c e;rw [ho];simp,fun p hp=>by rw [(I.pin p hp).1];simp,I.back hex⟩
structure Told (X:Cx)(S:St->Prop)(E:XK):Prop where
 ex:X.ex=[]
 on:∀ pins σ H s a C ed G,S σ->Inv X pins σ H s->Trc H s.heap G a C ed .none->Cov X pins G->(∀ b,s.heap.get? b=none->G.get? b=none)->E C ed H->X.xe (.ref a) s
theorem Told.passes {X:Cx}{S:St->Prop}{E:XK}(T:Told X S E){pins:List (Addr×Obj)}{σ:St}{H:Hp}{s s':Shared}{e:Value}(hS:S σ)(I:Inv X pins σ H s)(h:CXE X.prog X.w X.stack H s E e s'):X.xe e s':=by
 obtain ⟨a,C,ed,H',rfl,os,bare,un,hok,t,q⟩:=h;have J:Inv X pins σ H' s':=I.call' os un hok bare (fun b z=>absurd z (by simp));refine T.on pins σ H' s' a C ed s.heap hS J t (I.cov T.ex) (fun b e=>?_) q;cases z:s.heap.get? b with
 | none=>rfl
 | some o =>
   obtain ⟨o',e'⟩:=un.there b o z (by simp);rw [e] at e';cases e'
theorem Kp.hok {P:Program}{w:World}{H:Hp}{G:Heap}{fs:List Addr}{h h':Heap}(k:Kp H G fs h h')(hf:∀ b∈fs,H b=none)(ok:HOk P w H h):HOk P w H h':=fun a o e =>
 (ok a o e).stay (fun b u hb q=>by
  have hn:H b≠none:=by
   rcases hb with rfl | hb
   ·rw [e];simp
   ·rw [hb];simp
  exact k.keep b u q (fun z=>hn (hf b z)) (.inr hn)) (fun _ q=>q) fun _ _ q=>q
theorem J7M {X:Cx}{pins:List (Addr×Obj)}{σ:St}{H:Hp}{s:Shared}{a:Addr}{C:Value}{ed:Option Addr}{E:XK}{E':Value->Shared->Prop}(hf:X.env.frame=some X.env.locals)(hst:X.stack=X.env::X.outer)(hex:X.ex=[])
 (I:Inv X pins σ H s) (t:Trc H s.heap X.s₀.heap a C ed .none) (q:E C ed H) :
 wpAny (model X.prog X.w) X.A (leaving X.env (.ref a)) (fun _ s'=>CXE X.prog X.w X.outer X.H₀ X.s₀ E (.ref a) s') E' s:=by
 have stk:s.heap.FunFrames X.base (X.env::X.outer):=hst ▸ I.stack;have sfr:∀ b∈frs (X.env::X.outer),H b=none:=hst ▸ I.stkFree;unfold leaving;refine za (note_wp (hst ▸ I.ok.frames) stk hf (fun b hb=>I.hok.fresh hb) (fun b hb=>I.back hex b (J4p hb)) t fun h1 t1 f1 k1=>?_);refine flight_wp (s:={ s with heap:=h1 }) (outer:=X.env::X.outer) f1 t1 fun h2 t2 f2 k2 _=>?_;have hlt:∀ b o,X.s₀.heap.get? b=some o->X.s₀.heap.get? b≠none:=fun b o e=>by rw [e];simp
 have hnl:∀ b o,X.s₀.heap.get? b=some o->b≠X.env.locals:=fun b o e=>zj (zm (zS e) I.ok.above);have mem:∀ b,b∈frs (X.env::X.outer)->b=X.env.locals\/b∈frs X.outer:=fun b hb=>by
  unfold frs at hb ⊢;rw [filterMap_cons,hf] at hb;exact zC.mp hb
 have mem2:∀ b,b∈frs X.outer->b∈frs (X.env::X.outer):=fun b hb=>by
  unfold frs at hb ⊢;rw [filterMap_cons,hf];exact zA _ hb
 refine ⟨a,C,ed,H,rfl,I.os,I.bare,⟨fun b o e hn hb _=>?_,fun b o e hn hb _=>?_,fun b o e hn _=>?_,fun b o e _=>?_,I.base.tups,I.base.frzs,I.base.tbls⟩,k2.hok (fun _ z=>absurd z (by simp)) (k1.hok sfr I.hok),t2,q⟩
 ·have e1:=I.base.keep b o e hn hb (by rw [hex];simp)
  have e2:=k1.keep b o e1 (fun z=>(mem b z).elim (hnl b o e) hb) (.inl (hlt b o e));exact k2.keep b o e2 (by simp) (.inl (hlt b o e))
 ·obtain ⟨sl,e1⟩:=I.base.slot b o e hn hb (by rw [hex];simp)
  obtain ⟨sl',e2⟩:=k1.slot b _ e1 (mem2 b hb);exact ⟨sl',k2.keep b _ e2 (by simp) (.inl (hlt b o e))⟩
 ·exact I.base.free b o e hn (by rw [hex];simp)
 ·obtain ⟨o1,e1⟩:=I.base.there b o e (by rw [hex];simp)
  obtain ⟨o2,e2⟩:=k1.there b o1 e1;exact k2.there b o2 e2
theorem JD {P:Program}{w:World}{K:Frag}{mg:Str->Option Value}{base:Heap}{N:List Str}{qual:Str}{scope:Scope}{f:Addr}{cd:Value}{A:Around}{outer:List Env}{s:Shared}{H:Hp}{E:XK} :
 Told (J3E (CXE P w) P w K mg base N qual scope f cd A outer s H E) (fun _=>True) E:=⟨rfl,fun _ _ _ _ _ _ _ _ _ I t c _ q=>J7M (X:=J3E (CXE P w) P w K mg base N qual scope f cd A outer s H E) rfl rfl rfl I (t.older c.old) q⟩
theorem Fun.okX {P:Program}{w:World}{K:Frag}{mg:Str->Option Value}{base:Heap}{x qual:Str}{st:Stmt}{f:Addr}{fd:FuncData}{N ps:List Str}{k:Nat}{sp:Sp}(F:Fun K x qual st f fd)(S:FnScope N ps (Ji st))(len:∀ vs H Q E,sp vs H Q E->vs.length=ps.length)
 (hbody:∀ (cdv:Value) (A:Around) (outer:List Env) (s:Shared) (H:Hp) (vs:List V) (Q:VK) (E:XK),Room k (A.deeper (envOfC qual (Ji st) s.heap.objs.size f cdv))->sp vs H Q E ->
  ∃ t,PSs (J3E (CXE P w) P w K mg base N qual (Ji st) f cdv A outer s H E) (J0q st) t/\t { nx:=fun _ H'=>Q .non H',rt:=Q } (J24 N vs) H):FnOk P w K mg base (CXE P w) (k+1) f fd ps sp:=by
 obtain ⟨oc,od,kV,doc,pm,an,cdv,ct,osl,rfl,lk,hcd⟩:=F.ex;exact Jaq lk hcd S len fun A outer s H vs Q E hr hsp=>hbody cdv A outer s H vs Q E hr hsp
section
variable {X:Cx}{k:Nat}{f C:Addr}{fd:FuncData}{ps:List Str}{sp:Sp}{x m:Str}{p pos apos:Pos}{e o:Expr}{es:List Expr}{ta:TE}{t:TA}{S:St->Prop}{E:XK}
theorem J5l {pins:List (Addr×Obj)}{σ:St}{H:Hp}{s:Shared}{Q:VK}{us:List Value}{vs:List V}(T:Told X S E)(F:FnOk X.prog X.w X.K X.mg X.base (CXE X.prog X.w) k f fd ps sp)(hr:Room k X.A)(hb:Binds X.K fd ps [])(hS:S σ)
 (I:Inv X pins σ H s) (r:Vals vs us) (h:sp vs H Q E):wpAny (model X.prog X.w) X.A (call (.ref f) us) (EP X pins σ Q) X.xe s:=by
 have hl:(us++([]:List Value)).length=ps.length:=by rw [append_nil,<- r.length];exact F.len _ _ _ _ h
 have bd:=hb s us I.kIn hl;rw [append_nil] at bd;refine wpAny_call (codeAny_mono (F.run X.A X.stack s H ⟨us,[]⟩ us vs Q E hr I.env0 bd r h) fun r s' hq=>?_)
 match r,hq with
 | .error e,hq=>exact T.passes hS I hq
 | .ok (.ret u),hq=>exact I.after hq
 | .ok .next,hq=>exact zp hq
 | .ok .brk,hq=>exact zp hq
 | .ok .cont,hq=>exact zp hq
def J5a (S:St->Prop)(sp:Sp)(E:XK)(t:TA):TE:=fun σ H Q=>t σ H fun vs H1=>S σ/\sp vs H1 Q E
theorem J12 {st:Stmt}(T:Told X S E)(D:DefOk X.K X.mg x st ps f fd)(G:FnOk X.prog X.w X.K X.mg X.base (CXE X.prog X.w) k f fd ps sp)(hr:Room k X.A)
 (hg:Gl X x) (hdb:(x == ("__debug__":Str))=false) (hn:(e::es).all Jw=true) (ha:PA X (e::es) t) :
 PE X (.Call (.Name x p) (e::es) [] pos) (J5a S sp E t):=by
 have hs:Jw e=true/\es.all Jw=true:=by rw [all_cons,Bool.and_eq_true] at hn;exact hn
 intro pins s σ H Q I h;refine wpAny_Call_Name_kw (J0O I hg D.m ?_ hdb);refine PySem.W.callWith_K (h₀:=X.base) I.ok.mod.kin D.F.kp (thn (ha pos pins s σ H _ I h) fun us s1 ⟨vs,H1,I1,r,hS,q⟩=>⟨I1.kIn,?_⟩) (JW hs.1) (J06 hs.2);exact J5l T G hr D.b hS I1 r q
end
abbrev vbm:List Value:=[.type "ValueError",.type "Exception",.type "BaseException",.type "object"]
theorem JaS {K:Frag}{h:Heap}{N:Addr}{mg:Str->Option Value}{n:Str}{r:Option Value}(X:K.In h)(G:h.Ns N mg)(e:nsIn K N n=some r):mg n=r:=by
 obtain ⟨o,es,ep,ho,hd,_,hf⟩:=G;unfold nsIn at e
 split at e
 ·rename_i q
  have z:=X _ _ q;rw [ho] at z;cases z;cases hd;rw [<- hf];unfold nsFind findBy;rw [<- Array.find?_toList]
  split at e
  ·rename_i he
   rw [he];exact zi e
  ·rename_i he
   rw [he]
   split at e
   ·cases e
   ·exact zi e
 ·cases e
def exB (K:Frag)(C:Addr)(ini:Option Value):Bool:=match K.lookup C with
 | some ⟨.type "type",_,.cls cd,sl⟩=>(match cd.mro,sl.toList with
   | .ref C'::bm,[_,_,_,_,some (.builtin n),_]=>C' == C&&(n == "ValueError.__new__"&&(PySem.W.tailIn K vbm bm&&(!cd.hasDel&&(PySem.W.nsOkIn K cd.ns&&nsIn K cd.ns "__init__" == some ini))))
   | _,_=>false)
 | _=>false
theorem J3c {K:Frag}{h:Heap}{C:Addr}{ini:Option Value}(X:K.In h)(q:exB K C ini=true) :
 ∃ nm qn N bs bm hd sn sub ab col dd k0 k1 k2 k3 k5,h.get? C=some (excClassObj nm qn C N bs bm hd sn sub ab col dd k0 k1 k2 k3 k5 "ValueError.__new__")/\(∃ mN,h.Ns N mN/\mN "__init__"=ini)/\OwnTail h vbm bm:=by
 unfold exB at q
 split at q
 ·rename_i dd cd sl ho
  split at q
  ·rename_i C' bm k0 k1 k2 k3 n k5 hm hs
   simp only [Bool.and_eq_true,beq_iff_eq,Bool.not_eq_true'] at q;obtain ⟨rfl,rfl,ht,hdel,hok,hni⟩:=q;obtain ⟨nm,bs,mro,ns,qn,hd,sn,sub,ab,col,del⟩:=cd;obtain ⟨l⟩:=sl;dsimp only at hm hdel hok hni hs;subst hm hdel hs;have hN:h.Ns ns (h.nsMap ns):=.of_isNs (PySem.W.isNs_of_in X hok);exact ⟨nm,qn,ns,bs,bm,hd,sn,sub,ab,col,dd,k0,k1,k2,k3,k5,X _ _ ho,⟨_,hN,JaS X hN hni⟩,PySem.W.tail_of_in X ht⟩
  ·cases q
 ·cases q
theorem J4r {h:Heap}{bm:List Value}(T:OwnTail h vbm bm):bm.contains (.type "BaseException")=true:=T.hasType (by decide)
theorem ObjOk.got {P:Program}{w:World}{H:Hp}{h:Heap}{a:Addr}{o:HO}(x:ObjOk P w H h a o):∃ u,h.get? a=some u:=by
 cases o with
 | lst xs=>obtain ⟨_,_,_,_,e⟩:=x;exact ⟨_,e⟩
 | tup xs=>obtain ⟨_,_,_,_,e,_⟩:=x;exact ⟨_,e⟩
 | dK kvs=>obtain ⟨_,_,_,_,o,_,_,e,_⟩:=x;exact ⟨_,e⟩
 | dT kvs=>obtain ⟨_,_,_,_,o,_,_,e,_⟩:=x;exact ⟨_,e⟩
 | set S n=>obtain ⟨o,_,_,_,e,_⟩:=x;exact ⟨_,e⟩
 | ins C dx fs=>obtain ⟨_,_,_,e,_⟩:=x;exact ⟨_,e⟩
 | own y=>exact x
 | xd fs=>obtain ⟨_,⟨_,_,_,e,_⟩,_⟩:=x;exact ⟨_,e⟩
 | rng lo hi=>obtain ⟨_,_,_,e⟩:=x;exact ⟨_,e⟩
 | frz ob u=>obtain ⟨e,_⟩:=x;exact ⟨_,e⟩
 | tbl ps=>exact ⟨_,(show h.get? a=some _ from x)⟩
 | met f y=>exact ⟨_,(show h.get? a=some _ from x)⟩
 | ext φ=>obtain ⟨_,e,_⟩:=x;exact e
theorem HOk.unheld {P:Program}{w:World}{H:Hp}{h:Heap}{a:Addr}(x:HOk P w H h)(e:h.get? a=none):H a=none:=by
 cases q:H a with
 | none=>rfl
 | some o =>
   obtain ⟨u,e'⟩:=(x a o q).got;rw [e] at e';cases e'
theorem J8R {H:Hp}{h h' G:Heap}{e:Addr}{C:Value}{vs:List Value}(m:Heap.MadeExcOf h h' e C vs)(hG:∀ b,h.get? b=none->G.get? b=none)(hH:∀ b,h.get? b=none->H b=none):Trc H h' G e C none .none:=by
 obtain ⟨t,he,_,_⟩:=m.there;exact ⟨hG e m.new,hH e m.new,_,_,he,rfl,rfl,rfl,Nat.lt_of_sub_eq_succ rfl,.inl ⟨rfl,rfl⟩⟩
section
variable {X:Cx}{e:Expr}{es:List Expr}{t:TA}{S:St->Prop}{E:XK}
def J6t (S:St->Prop)(E:XK)(C:Addr)(t:TA):TS:=fun _ σ H=>t σ H fun vs H1=>S σ/\vs.length<=sizeLine/\E (.ref C) none H1
theorem J19 {x:Str}{np cpos pos:Pos}{C:Addr}(T:Told X S E)(hcalm:X.calm=true)(q:exB X.K C none=true)(hg:Gl X x)(hm:X.mg x=some (.ref C))(hdb:(x == ("__debug__":Str))=false)(hn:(e::es).all Jw=true)(ha:PA X (e::es) t) :
 PS X (.Raise (some (.Call (.Name x np) (e::es) [] cpos)) none pos) (J6t S E C t):=by
 intro pins s σ H D I h;have hs:Jw e=true/\es.all Jw=true:=by rw [all_cons,Bool.and_eq_true] at hn;exact hn
 obtain ⟨nm,qn,N,bs,bm,hd,sn,sub,ab,col,dd,k0,k1,k2,k3,k5,hC,⟨mN,hN,hni⟩,TL⟩:=J3c I.ok.mod.kin q;have F:=PySem.F.excBase_ValueError;refine wpAny_Raise_call_subU (nm:=nm) (q:=qn) (C:=C) (N:=N) (bs:=bs) (bm:=bm) (hdct:=hd) (sn:=sn) (sub:=sub) (ab:=ab) (col:=col) (dd:=dd) (k0:=k0) (k1:=k1) (k2:=k2) (k3:=k3) (k5:=k5) F (by decide) F (J4r TL) (I.ok.hd hcalm) (J06 hn) hni (J0O I hg hm ⟨rfl,?_⟩ hdb);have hst:=JW (es:=es) (env:=X.env) hs.1;have ha2:=ha cpos pins s σ H _ I h;rw [hst] at ha2 ⊢;refine Calls.evalArgs_plain (thn ha2 fun us s1 z=>?_);obtain ⟨vs,H1,I1,r,hS,hl,qE⟩:=z;refine ⟨rfl,by rw [<- r.length];exact hl,I1.bk _ _ hC,hN.keeps I1.bk,TL.keeps I1.bk,fun h' a m=>?_⟩;have J:Inv X pins σ H1 { s1 with heap:=h' }:=by
  have:=I1.kept (h':=h') (t':=s1.toks) m.keeps;exact this
 refine T.on pins σ H1 _ a (.ref C) none s1.heap hS J (J8R m (fun b hb=>hb) fun b hb=>I1.hok.unheld hb) (I1.cov T.ex) (fun b hb=>?_) qE;cases z:s1.heap.get? b with
 | none=>rfl
 | some o =>
   have:=m.keeps b o z;rw [show h'.get? b=none from hb] at this;cases this
end
section
variable {X:Cx}{pins:List (Addr×Obj)}{σ:St}{H:Hp}{s:Shared}{G:Heap}
theorem Inv.kp {h':Heap}(I:Inv X pins σ H s)(c:Cov X pins G)(k:Kp H G (frs X.stack) s.heap h'):Inv X pins σ H { s with heap:=h' }:=by
 have any:∀ b o,s.heap.get? b=some o->G.get? b≠none->∃ sl,h'.get? b=some { o with slots:=sl }:=fun b o e hg=>by
  by_cases hb:b∈frs X.stack
  ·exact k.slot b o e hb
  ·exact ⟨o.slots,k.keep b o e hb (.inl hg)⟩
 have hG:∀ b o,X.s₀.heap.get? b=some o->G.get? b≠none:=fun b o e z=>by
  have:=c.old b z;rw [e] at this;cases this
 have nL:∀ b o,X.s₀.heap.get? b=some o->b≠X.env.locals:=fun b o e=>zj (zm (zS e) I.ok.above);have cellK:∀ x cc,X.env.cells.lookup x=some cc->∀ v,s.heap.IsCell cc v->h'.IsCell cc v:=fun x cc e v ⟨o,ho,hd⟩=>by
  obtain ⟨sl,q⟩:=any cc o ho (c.cell x cc e);exact ⟨_,q,hd⟩
 refine ⟨I.ok,I.os,I.bare,⟨fun b o e hn hb hx=>?_,fun b o e hn hb hx=>?_,I.base.free,fun b o e hx=>?_,I.base.tups,I.base.frzs,I.base.tbls⟩,?_,fun x cc e=>?_,I.free,I.freeC,fun p hp=>?_,k.hok I.stkFree I.hok,I.len⟩
 ·exact k.keep b o (I.base.keep b o e hn hb hx) (fun z=>(zC.mp (I.stkSub b z)).elim (nL b o e) hb) (.inl (hG b o e))
 ·obtain ⟨sl,e1⟩:=I.base.slot b o e hn hb hx
  obtain ⟨sl',e2⟩:=any b _ e1 (hG b o e);exact ⟨sl',e2⟩
 ·obtain ⟨o1,e1⟩:=I.base.there b o e hx
  exact k.there b o1 e1
 ·obtain ⟨m,⟨o,es,ep,ho,r⟩,hl⟩:=I.loc
  obtain ⟨sl,q⟩:=any _ o ho c.loc;refine ⟨m,⟨_,es,ep,q,r⟩,fun i x v e1 e2 e3=>?_⟩;obtain ⟨u,ru,l⟩:=hl i x v e1 e2 e3;refine ⟨u,ru,?_⟩;rcases l with l | ⟨kk,cc,e,z⟩
  ·exact .inl l
  ·exact .inr ⟨kk,cc,e,cellK x cc e _ z⟩
 ·obtain ⟨v,z⟩:=I.cell x cc e
  exact ⟨v,cellK x cc e v z⟩
 ·obtain ⟨e,n,ne,nf,d⟩:=I.pin p hp
  exact ⟨k.keep p.1 p.2 e (fun z=>(zC.mp (I.stkSub p.1 z)).elim ne nf) (.inl (c.pin p hp)),n,ne,nf,d⟩
theorem Inv.hold {a:Addr}{o:HO}(I:Inv X pins σ H s)(c:Cov X pins G)(ha:G.get? a=none)(hH:H a=none)(ok:ObjOk X.prog X.w (upd H a o) s.heap a o):Inv X pins σ (upd H a o) s:=by
 have ne:∀ b,G.get? b≠none->b≠a:=fun b h z=>by subst z;exact h ha
 have ne2:∀ b u,H b=some u->b≠a:=fun b u h z=>by subst z;rw [hH] at h;cases h
 have neo:∀ b o',X.s₀.heap.get? b=some o'->b≠a:=fun b o' e z=>by
  subst z;have:=c.old b ha;rw [e] at this;cases this
 refine ⟨I.ok,I.os,I.bare,⟨I.base.keep,I.base.slot,fun b o' e hn hx=>by rw [Jo (neo b o' e)];exact I.base.free b o' e hn hx,I.base.there,fun b xs e=>?_,fun b o' u e=>?_,fun b ps e=>?_⟩,I.loc,I.cell,by rw [Jo (ne _ c.loc)];exact I.free,fun x cc e=>by rw [Jo (ne _ (c.cell x cc e))];exact I.freeC x cc e,fun p hp=>?_,fun b u e=>?_,I.len⟩
 ·have:=I.base.tups b xs e
  rw [Jo (ne2 b _ this)];exact this
 ·have:=I.base.frzs b o' u e
  rw [Jo (ne2 b _ this)];exact this
 ·obtain ⟨m,this⟩:=I.base.tbls b ps e
  exact ⟨m,by rw [Jo (ne2 b _ this)];exact this⟩
 ·obtain ⟨e,n,r⟩:=I.pin p hp
  exact ⟨e,by rw [Jo (ne _ (c.pin p hp))];exact n,r⟩
 ·by_cases z:b=a
  ·subst z
   rw [Jd] at e;cases e;exact ok
  ·rw [Jo z] at e
   exact (I.hok b u e).stay (fun _ _ _ q=>q) (fun d q=>by rw [Jo (ne2 d _ q)];exact q) fun d xs q=>by rw [Jo (ne2 d _ q)];exact q
theorem name_gone {M:Model}{A:Around}{E:Value->Shared->Prop}{i:Nat}{n:Str}{pos:Pos}{Q:Unit->Shared->Prop}(I:Inv X pins σ H s)(hN:X.N.Nodup)(hi:X.N[i]?=some n)(hk:X.env.scope.names.lookup n=some .local)
 (h:∀ s',Inv X pins (σ.set i none) H s'->Q () s'):wpAny M A (do bindName X.env n .none;unbindBehindTheSuite X.env n pos) Q E s:=by
 refine za (wpAny_bindName (J2Z (v:=.non) I hN hi (.inl hk) rfl (fun s1 I1=>?_) (.inr hk)));have hcls:(X.env.scope.kind == .class||(X.env.scope.kind == .module&&X.env.locals != X.env.globals))=false:=by rw [I.ok.kind];rfl
 have hiσ:i<σ.length:=by rw [I.len];exact (zt.mp hi).1
 obtain ⟨m,hn,hl⟩:=id I1.loc;obtain ⟨u,ru,l⟩:=hl i n .non hi (List.getElem?_set_self hiσ) (.inl hk);have hv:m n=some u:=by
  rcases l with l | ⟨l,_⟩
  ·exact l.2
  ·have l2:X.env.scope.names.lookup n=some .cell\/X.env.scope.names.lookup n=some .free:=l
   rw [hk] at l2;rcases l2 with l2 | l2<;>cases l2
 unfold unbindBehindTheSuite;refine wpAny_onRaise (wpAny_unbindName_local hk hn hv hcls fun h' u' hn' hs=>h _ ?_);obtain ⟨oL,_,_,hoL,_⟩:=id hn;refine ⟨I1.ok,I1.os,I1.bare,⟨fun b o e n hb hx=>?_,fun b o e n hb hx=>?_,I1.base.free,fun b o e hx=>?_,I1.base.tups,I1.base.frzs,I1.base.tbls⟩,⟨_,hn',fun j y v' e1 e2 e3=>?_⟩,fun y c e=>?_,I1.free,I1.freeC,fun p hp=>?_,fun b ob e=>?_,by simpa using I.len⟩
 ·exact (hs.2 b (zj (zm (zS e) I1.ok.above))).trans (I1.base.keep b o e n hb hx)
 ·obtain ⟨sl,e1⟩:=I1.base.slot b o e n hb hx
  exact ⟨sl,(hs.2 b (zj (zm (zS e) I1.ok.above))).trans e1⟩
 ·obtain ⟨o',e1⟩:=I1.base.there b o e hx
  exact ⟨o',(hs.2 b (zj (zm (zS e) I1.ok.above))).trans e1⟩
 ·by_cases hj:j=i
  ·subst hj
   rw [List.getElem?_set_self hiσ] at e2;cases e2
  ·rw [List.getElem?_set_ne (Ne.symm hj)] at e2
   obtain ⟨w,rw',q⟩:=hl j y v' e1 (by rw [List.getElem?_set_ne (Ne.symm hj)];exact e2) e3;refine ⟨w,rw',?_⟩;rcases q with ⟨kk,e⟩ | ⟨kk,c,e,z⟩
   ·refine .inl ⟨kk,?_⟩
    have:y≠n:=fun e=>hj (J38 hN e1 (e ▸ hi));simp [this,e]
   ·exact .inr ⟨kk,c,e,z.sameBut hs (I1.cne y c e)⟩
 ·obtain ⟨w',z⟩:=I1.cell y c e
  exact ⟨w',z.sameBut hs (I1.cne y c e)⟩
 ·obtain ⟨e,n,ne,nf,d⟩:=I1.pin p hp
  exact ⟨(hs.2 p.1 ne).trans e,n,ne,nf,d⟩
 ·refine (I1.hok b ob e).stay (fun c w' hc q=>(hs.2 c ?_).trans q) (fun _ q=>q) fun _ _ q=>q
  rintro rfl;rcases hc with rfl | hc
  ·rw [I1.free] at e;cases e
  ·rw [I1.free] at hc;cases hc
end
def ExO (a:Addr)(C:Value)(ed:Option Addr):HO:=.ext fun h=>∃ oe vs,h.get? a=some oe/\oe.cls=C/\oe.dict=ed/\oe.data=.fields vs
theorem Jb9 {P:Program}{w:World}{H:Hp}{h:Heap}{a:Addr}{C:Value}{ed:Option Addr}(x:∃ oe vs,h.get? a=some oe/\oe.cls=C/\oe.dict=ed/\oe.data=.fields vs):ObjOk P w H h a (ExO a C ed) :=
 ⟨x,(let ⟨oe,_,e,_⟩:=x;⟨oe,e⟩),fun h1 h2 ⟨oe,vs,e,r⟩ k=>⟨oe,vs,k oe e,r⟩⟩
def Cx.inTry (X:Cx)(pins:List (Addr×Obj))(W:Value->Shared->Prop):Cx:={ X with xe:=W,pn:=X.pn++pins }
def Cx.inHand (X:Cx)(a:Addr):Cx:={ X with A:=X.A.mark (some (.ref a)),calm:=false,xe:=fun _ _=>False }
section
variable {X:Cx}{pins:List (Addr×Obj)}{σ:St}{H:Hp}{s:Shared}{G:Heap}{W:Value->Shared->Prop}
theorem Inv.inTry (I:Inv X pins σ H s):Inv (X.inTry pins W) [] σ H s :=
 have ok:=I.ok
 ⟨⟨ok.mod,ok.kind,ok.glob,ok.blt,ok.above,ok.inj,ok.has,ok.cab,ok.hd,ok.frames,ok.stk,ok.exf,ok.bs,ok.bsz,ok.noex,ok.exfs,ok.funs,ok.frf⟩,I.os,I.bare,I.base,I.loc,I.cell,I.free,I.freeC,
   fun p hp=>I.pin p (by rw [append_nil] at hp;exact hp),I.hok,I.len⟩
theorem Inv.offTry {pins':List (Addr×Obj)}(I:Inv (X.inTry pins W) pins' σ H s):Inv X pins σ H s :=
 have ok:=I.ok
 ⟨⟨ok.mod,ok.kind,ok.glob,ok.blt,ok.above,ok.inj,ok.has,ok.cab,ok.hd,ok.frames,ok.stk,ok.exf,ok.bs,ok.bsz,ok.noex,ok.exfs,ok.funs,ok.frf⟩,I.os,I.bare,I.base,I.loc,I.cell,I.free,I.freeC,
   fun p hp=>I.pin p (zJ _ hp),I.hok,I.len⟩
theorem Cov.offTry {pins':List (Addr×Obj)}(c:Cov (X.inTry pins W) pins' G):Cov X pins G:=⟨c.loc,c.cell,fun p hp=>c.pin p (zJ _ hp),c.old⟩
theorem Inv.inHand {a:Addr}(I:Inv X pins σ H s):Inv (X.inHand a) pins σ H s :=
 have ok:=I.ok
 ⟨⟨ok.mod,ok.kind,ok.glob,ok.blt,ok.above,ok.inj,ok.has,ok.cab,(fun z=>nomatch z),ok.frames,ok.stk,ok.exf,ok.bs,ok.bsz,ok.noex,ok.exfs,ok.funs,ok.frf⟩,I.os,I.bare,I.base,I.loc,I.cell,I.free,I.freeC,I.pin,I.hok,I.len⟩
theorem Inv.offHand {a:Addr}(I:Inv (X.inHand a) pins σ H s)(ox:X.Ok):Inv X pins σ H s:=⟨ox,I.os,I.bare,I.base,I.loc,I.cell,I.free,I.freeC,I.pin,I.hok,I.len⟩
end
def Jbj (X:Cx)(pins:List (Addr×Obj))(σ:St)(E:XK):Value->Shared->Prop:=fun e s=>∃ a C ed H G,e=.ref a/\Inv X pins σ H s/\Trc H s.heap G a C ed .none/\Cov X pins G/\(∀ b,s.heap.get? b=none->G.get? b=none)/\E C ed H
theorem J87 {X:Cx}{pins:List (Addr×Obj)}{σ:St}{E:XK}(hex:X.ex=[]):Told (X.inTry pins (Jbj X pins σ E)) (fun σ'=>σ'=σ) E :=
 ⟨hex,fun _ _ H _ a C ed G hS I t c hG q=>⟨a,C,ed,H,G,rfl,by subst hS;exact I.offTry,t,c.offTry,hG,q⟩⟩
def PH (X:Cx)(hs:List ExceptHandler)(th:Value->Option Addr->TS):Prop :=
 ∀ (pins:List (Addr×Obj)) (s:Shared) (σ:St) (H:Hp) (D:Ends) (a:Addr) (C:Value) (ed:Option Addr) (G:Heap),Inv X pins σ H s->Trc H s.heap G a C ed .none->Cov X pins G->th C ed D σ H ->
   wpAny (model X.prog X.w) X.A (handleBy (.ref a) X.env hs) (SP X pins D) X.xe s
theorem JaI {X:Cx}:PH X [] (fun _ _ _ _ _=>False):=fun _ _ _ _ _ _ _ _ _ _ _ _ h=>h.elim
def J1p (K:Frag)(C B:Addr):Bool:=match K.lookup C with
 | some ⟨_,_,.cls cd,_⟩=>cd.mro.contains (.ref B)
 | _=>false
theorem Jay {K:Frag}{h:Heap}{C B:Addr}{ini:Option Value}{nm qn:Str}{N:Addr}{bs bm:List Value}{hd:Bool}{sn:List Str}{sub:List Value}{ab:Bool}{col:Option Bool}{dd:Option Addr}{k0 k1 k2 k3 k5:Option Value}{nw:String}(X:K.In h)(q:exB K C ini=true)
 (hC:h.get? C=some (excClassObj nm qn C N bs bm hd sn sub ab col dd k0 k1 k2 k3 k5 nw)):J1p K C B=(Value.ref C::bm).contains (.ref B):=by
 unfold exB at q
 split at q
 ·rename_i ho
  have e:=X _ _ ho;rw [hC] at e;cases e;unfold J1p;rw [ho]
 ·cases q
theorem J7K {M:Model}{A:Around}{E:Value->Shared->Prop}{h:Heap}{g:Array GenState}{d:Drawn}{t:Nat}{os:OsState}{e C B:Addr}{oe:Obj}{Q:Bool->Shared->Prop}
 {nm qn:Str} {N:Addr} {bs bm:List Value} {hd:Bool} {sn:List Str} {sub:List Value} {ab:Bool} {col:Option Bool} {dd:Option Addr} {k0 k1 k2 k3 k5:Option Value} {nw:String}
 {nm' qn':Str} {N':Addr} {bs' bm':List Value} {hd':Bool} {sn':List Str} {sub':List Value} {ab':Bool} {col':Option Bool} {dd':Option Addr} {l0 l1 l2 l3 l5:Option Value} {nw':String}
 (hC:h.get? C=some (excClassObj nm qn C N bs bm hd sn sub ab col dd k0 k1 k2 k3 k5 nw)) (hB:h.get? B=some (excClassObj nm' qn' B N' bs' bm' hd' sn' sub' ab' col' dd' l0 l1 l2 l3 l5 nw'))
 (he:h.get? e=some oe) (hcls:oe.cls=.ref C) (hbase:bm'.contains (.type "BaseException")=true) (hq:Q ((Value.ref C::bm).contains (.ref B)) ⟨h,g,d,t,os⟩):wpAny M A (excMatches (.ref e) (.ref B)) Q E ⟨h,g,d,t,os⟩:=by
 have hcB:(Value.ref B::bm').contains (.type "BaseException")=true:=by rw [contains_cons,hbase,Bool.or_true]
 have f:=tc_notTuple;unfold excMatches
 repeat (first | (with_reducible refine wpAny_loadPart_at he ?_;rw [hcls]) | with_reducible refine wpAny_loadPart_at hB ?_ | (with_reducible refine wpAny_isSubtype_exc hB ?_;rw [hcB]) | with_reducible refine wpAny_isSubtype_exc hC ?_ | wp_step)
 cases hb:(Value.ref C::bm).contains (.ref B)<;>(rw [hb] at hq;wp_walk;exact hq)
def JaR (i:Nat)(D:Ends):Ends:={ nx:=fun σ H=>D.nx (σ.set i none) H,rt:=D.rt,bk:=fun σ H=>D.bk (σ.set i none) H,ct:=fun σ H=>D.ct (σ.set i none) H }
def tAs (K:Frag)(B:Addr)(i:Nat)(ts:TS)(thr:Value->Option Addr->TS):Value->Option Addr->TS:=fun C ed D σ H=>∃ Cc ini b,C=.ref Cc/\exB K Cc ini=true/\J1p K Cc B=b /\
 if b=true then (∀ a,H a=none->ts (JaR i D) (σ.set i (some (.ref a))) (upd H a (ExO a C ed))) else thr C ed D σ H
section
variable {X:Cx}
theorem Kp.wide' {H:Hp}{G:Heap}{h h':Heap}{fs:List Addr}(k:Kp H G [] h h')(hd:∀ b∈fs,∀ o,h.get? b=some o->∃ sl,h'.get? b=some { o with slots:=sl }):Kp H G fs h h' :=
 ⟨fun b o e _ hx=>k.keep b o e (by simp) hx,fun b o e hm=>hd b hm o e,k.there,k.size⟩
theorem ph_as {x n:Str}{np hpos:Pos}{b₀:Stmt}{suite:List Stmt}{rest:List ExceptHandler}{ts:TS}{thr:Value->Option Addr->TS}{B:Addr}{i:Nat}{inB:Option Value}(hg:Gl X x)(hm:X.mg x=some (.ref B))(qB:exB X.K B inB=true)(hdb:(x == ("__debug__":Str))=false)
 (hN:X.N.Nodup) (hi:X.N[i]?=some n) (hk:X.env.scope.names.lookup n=some .local) (hsu:∀ a,PSs (X.inHand a) (b₀::suite) ts) (hr:PH X rest thr) :
 PH X (.ExceptHandler (some (.Name x np)) (some n) (b₀::suite) hpos::rest) (tAs X.K B i ts thr):=by
 intro pins s σ H D a C ed G I t c h;obtain ⟨Cc,ini,b,rfl,q,hb,h⟩:=h;have Ih:Inv (X.inHand a) pins σ H s:=I.inHand;refine wpAny_handleBy_cons (codeAny_handlers_test (J0O (X:=X.inHand a) Ih hg hm ?_ hdb)) (by intro z;cases z);obtain ⟨_,qn,N,bs,bm,hd,sn,sub,ab,col,dd,k0,k1,k2,k3,k5,hC,_,TL⟩:=J3c I.kIn q;obtain ⟨_,qn',N',bs',bm',hd',sn',sub',ab',col',dd',l0,l1,l2,l3,l5,hB,_,TB⟩:=J3c I.kIn qB;obtain ⟨ha,hHa,oe,vs,he,hcl,hdi,hda,hsz,htb⟩:=id t;obtain ⟨sh,sg,sd,stk,sos⟩:=s;refine J7K hC hB he hcl (J4r TB) ?_;rw [<- Jay I.kIn q hC,hb];cases b with
 | false =>
   rw [zc zf] at h;exact hr pins _ σ H D a _ ed G I t c h
 | true =>
   rw [zd rfl] at h;refine codeAny_handlers_suite_as ?_;refine flight_wp (outer:=X.stack) I.stack t fun h1 t1 f1 kp1 kn1=>?_;have I1:Inv X pins σ H { heap:=h1,gens:=sg,drawn:=sd,toks:=stk,os:=sos }:=I.kp c (kp1.wide' fun b hm o e=>?_)
   ·have Ia:Inv X pins σ (upd H a (ExO a (.ref Cc) ed)) { heap:=h1,gens:=sg,drawn:=sd,toks:=stk,os:=sos }:=by
     obtain ⟨_,_,oe1,vs1,he1,hcl1,hdi1,hda1,_⟩:=id t1;exact I1.hold c ha hHa (Jb9 ⟨oe1,vs1,he1,hcl1,hdi1,hda1⟩)
    refine J2Z (X:=X.inHand a) (v:=.ref a) Ia.inHand hN hi (.inl hk) rfl (fun s2 I2=>?_) (.inr hk);refine wpAny_mono (hsu a pins s2 _ _ _ I2 (h a hHa)) (fun f s3 z=>?_) fun _ _ z=>z.elim;show wpAny _ X.A (do bindName X.env n .none;unbindBehindTheSuite X.env n hpos) _ _ s3;cases f with
    | next =>
      obtain ⟨σ',H',J,z⟩:=z;exact name_gone (J.offHand I.ok) hN hi hk fun s4 J4=>⟨_,H',J4,z⟩
    | brk =>
      obtain ⟨σ',H',J,z⟩:=z;exact name_gone (J.offHand I.ok) hN hi hk fun s4 J4=>⟨_,H',J4,z⟩
    | cont =>
      obtain ⟨σ',H',J,z⟩:=z;exact name_gone (J.offHand I.ok) hN hi hk fun s4 J4=>⟨_,H',J4,z⟩
    | ret u =>
      obtain ⟨v,σ',H',J,rv,z⟩:=z;exact name_gone (J.offHand I.ok) hN hi hk fun s4 J4=>⟨v,_,H',J4,rv,z⟩
   ·obtain ⟨_,o',ho',hnf⟩:=I.stack.mem hm
    have e':=ho'.symm.trans e;cases e';exact ⟨o.slots,kn1 b o ho' hnf⟩
def Jat (tb:St->XK->TS)(th:Value->Option Addr->TS):TS:=fun D σ H=>tb σ (fun C ed H'=>th C ed D σ H') D σ H
theorem ps_try {body:List Stmt}{h₀:ExceptHandler}{hs:List ExceptHandler}{pos:Pos}{tb:St->XK->TS}{th:Value->Option Addr->TS}(hst:X.stack=X.env::X.outer)(hfr:X.env.frame=some X.env.locals)
 (hb:∀ (pins:List (Addr×Obj)) (σ:St) (E:XK),PSs (X.inTry pins (Jbj X pins σ E)) body (tb σ E)) (hh:PH X (h₀::hs) th):PS X (.Try body (h₀::hs) [] [] pos) (Jat tb th):=by
 intro pins s σ H D I h;refine wpAny_Try_except (wpAny_mono (hb pins σ _ [] s σ H D I.inTry h) (fun f s1 z=>?_) fun e s1 z=>?_)
 ·cases f with
  | next =>
    obtain ⟨σ',H',J,z⟩:=z;exact wpAny_execs_nil ⟨σ',H',J.offTry,z⟩
  | brk =>
    obtain ⟨σ',H',J,z⟩:=z;exact ⟨σ',H',J.offTry,z⟩
  | cont =>
    obtain ⟨σ',H',J,z⟩:=z;exact ⟨σ',H',J.offTry,z⟩
  | ret u =>
    obtain ⟨v,σ',H',J,rv,z⟩:=z;exact ⟨v,σ',H',J.offTry,rv,z⟩
 ·obtain ⟨a,C,ed,H',G,rfl,J,t,c,hG,q⟩:=z
  refine note_wp (hst ▸ J.ok.frames) (hst ▸ J.stack) hfr (fun b hb=>J.hok.fresh hb) ?_ t fun h1 t1 f1 k1=>?_
  ·exact fun b hb=>hG b (J4p hb)
  ·have J1:Inv X pins σ H' { s1 with heap:=h1 }:=J.kp c (hst ▸ k1)
   refine flight_wp (s:={ s1 with heap:=h1 }) (outer:=X.env::X.outer) f1 t1 fun h2 t2 f2 k2 kn2=>?_;have J2:Inv X pins σ H' { s1 with heap:=h2 }:=J1.kp c (k2.wide' fun b hm o e=>?_)
   ·exact hh pins _ σ H' D a C ed G J2 t2 c q
   ·have fs1:h1.FunFrames X.base X.stack:=hst ▸ f1
    obtain ⟨_,o',ho',hnf⟩:=fs1.mem hm;have e':=ho'.symm.trans e;cases e';exact ⟨o.slots,kn2 b o ho' hnf⟩
end
section
variable {prog:Program}{w:World}{A:Around}{E:Value->Shared->Prop}{s:Shared}{K:Frag}{a C:Addr}{ox:Obj}{od:Option Obj}{name:Str}
structure XCls (K:Frag)(C:Addr):Prop where
 ga:findIn K (.ref C) "__getattribute__"=some (some (.builtin "BaseException.__getattribute__"))
 gh:findIn K (.ref C) "__getattr__"=some none
 base:PySem.W.mroIn K C (.type "BaseException")=some true
 obj:PySem.W.mroIn K C (.type "object")=some true
 hd:PySem.W.hasDictIn K C=true
 cl:findIn K (.ref C) "__class__"=some (some (.builtin "object.__class__"))
 cg:PySem.W.specialIn K (.builtin "object.__class__") "__get__"=some (some (.builtin "getset_descriptor.__get__"))
 ct:PySem.W.takesIn K (.builtin "object.__class__")=some true
theorem J5F {tk:Tok}{R:Result->Shared->Prop}(c:XCls K C)(X:K.In s.heap)(I:PySem.W.InstAt s.heap a ox C od)
 (h:wpAny (model prog w) A.in1 (Builtin.«object.__getattribute__» ⟨[.ref a,.str name tk],[]⟩) (fun fin s'=>match fin with | .done f=>R (.ok f) s' | .again c'=>c'.quiet=true/\codeAny (model prog w) A c' R s') (fun e s'=>R (.error e) s') s) :
 codeAny (model prog w) A (.call (.builtin "BaseException.__getattribute__") ⟨[.ref a,.str name tk],[]⟩) R s:=by
 have hi:PySem.W.Looks (model prog w) s.heap (isInstance (.ref a) (.type "BaseException")) true:=I.type.andThen (PySem.W.looks_mroIn X c.base);have hk:builtinKind "BaseException.__getattribute__"=some .slot:=by decide +kernel
 have hs:splitId "BaseException.__getattribute__"=some ("BaseException","__getattribute__"):=by decide +kernel
 refine codeAny_call_builtin PySem.F.attr_ValueError.ga.plain PySem.F.entry_bexc_ga (@PySem.W.check_slot (model prog w) _ _ s "BaseException.__getattribute__" "BaseException" "__getattribute__" (.ref a) [.str name tk] [] _ hk hs hi (PySem.F.args_bexc_ga _ _) ?_);exact h
theorem J6Y {tk:Tok}{fill expr:Bool}{v:Value}{Q:Value->Shared->Prop}(c:XCls K C)(X:K.In s.heap)(I:PySem.W.InstAt s.heap a ox C od)(hh:PySem.W.handedIn v=true)
 (h:∀ R:Result->Shared->Prop,R (.ok (.ret v)) s->codeAny (model prog w) A (.call (.builtin "BaseException.__getattribute__") ⟨[.ref a,.str name tk],[]⟩) R s) (q:Q v s) :
 wpAny (model prog w) A (getAttrBy (.ref a) (.str name tk) fill expr) Q E s:=by
 obtain ⟨sh,g,d,t,os⟩:=s;have L0:=I.type (M:=model prog w);have L1:=PySem.W.looks_findIn (M:=model prog w) X c.ga;have L2:=PySem.W.looks_findIn (M:=model prog w) X c.gh;have f3:=PySem.F.attr_ValueError.ga.bind (.ref a);have hx2:(Value.builtin "BaseException.__getattribute__" == Value.builtin "object.__getattribute__")=false:=by decide +kernel
 unfold getAttrBy;refine wpAny_holding (za (L0.at (za (L1.at ?_))));dsimp only;rw [hx2,Bool.and_false,zc zf];unfold getAttrByItsOwn hookBefore;refine za ?_;rw [zd (show onTheHeap (Value.ref C)=true from rfl)];refine L2.at (za (wpAny_attempt (wpAny_holding ?_)));unfold callGetattribute boundAndCalled;rw [zc (by cases expr<;>decide)];rw [f3];refine za (zb (wpAny_call (h _ ?_)));show wpAny _ _ (handedOut v) _ _ _;rw [PySem.W.handedOut_of hh];exact zb q
theorem J82 {tk:Tok}{v:Value}{R:Result->Shared->Prop}(c:XCls K C)(X:K.In s.heap)(I:PySem.W.InstAt s.heap a ox C od)(hf:PySem.W.findObj K C od name=some (.value v))(q:R (.ok (.ret v)) s) :
 codeAny (model prog w) A (.call (.builtin "BaseException.__getattribute__") ⟨[.ref a,.str name tk],[]⟩) R s:=by
 refine J5F c X I ?_;obtain ⟨sh,g,d,t,os⟩:=s;have L0:=I.type (M:=model prog w);have L1:=PySem.W.looks_find (M:=model prog w) X I hf;unfold Builtin.«object.__getattribute__»;refine za (zb (za (zb (za (L0.at (za (L1.at ?_)))))));exact zb q
theorem J6l {tk:Tok}{R:Result->Shared->Prop}(c:XCls K C)(X:K.In s.heap)(I:PySem.W.InstAt s.heap a ox C od)(q:R (.ok (.ret (.ref C))) s) :
 codeAny (model prog w) A (.call (.builtin "BaseException.__getattribute__") ⟨[.ref a,.str "__class__" tk],[]⟩) R s:=by
 have hf:PySem.W.findObj K C od "__class__"=some (.bind (.builtin "getset_descriptor.__get__") (.builtin "object.__class__")):=by
  obtain ⟨cd,hc,_⟩:=PySem.W.any_some c.hd;unfold PySem.W.findObj;rw [hc,Option.bind_some,c.cl,Option.bind_some];simp [c.cg,c.ct]
 refine J5F c X I ?_;obtain ⟨sh,g,d,t,os⟩:=s;have L0:=I.type (M:=model prog w);have L1:=PySem.W.looks_find (M:=model prog w) X I hf;unfold Builtin.«object.__getattribute__»;refine za (zb (za (zb (za (L0.at (za (L1.at ?_)))))));dsimp only;refine za (wpAny_holding (wpAny_call (PySem.W.class_get (s:=⟨sh,g,d,t,os⟩) X I c.obj ?_)));exact zb q
end
section
variable {K:Frag}{a C:Addr}
theorem J61 (c:XCls K C):PySem.W.KitX K (.ref a) (.ref C) (fun h=>∃ ox od,PySem.W.InstAt h a ox C od) where
 ty:=fun _ _ _ ⟨_,_,I⟩=>I.type
 it:=fun _ _ X _=>by
  obtain ⟨cd,hc,_⟩:=PySem.W.any_some c.hd;unfold PySem.W.clsIn at hc
  split at hc
  ·rename_i ho
   intro A' Q' E' s' k q;unfold isType loadHead;exact za (wpAny_loadPart (k _ _ (X _ _ ho)) (zb q))
  ·cases hc
 ne:=fun h tp dd its n sl X htp=>by
  obtain ⟨cd,hc,_⟩:=PySem.W.any_some c.hd;refine Bool.eq_false_iff.mpr fun q=>?_;have e:C=tp:=Value.ref.inj (beq_iff_eq.mp q);subst e;unfold PySem.W.clsIn at hc
  split at hc
  ·rename_i ho
   have z:=(X _ _ ho).symm.trans htp;cases z
  ·cases hc
 ca:=fun {prog w A E Q s} X p k=>by
  obtain ⟨ox,od,I⟩:=p;unfold getAttr? getAttrBy?;refine za (wpAny_mkText (za (wpAny_attempt ?_)));refine J6Y (s:={ s with toks:=s.toks+1 }) c X I rfl (fun R q=>J6l (s:={ s with toks:=s.toks+1 }) c X I q) ?_;exact zb k
end
def JbE (H:Hp)(ed:Option Addr):Prop:=ed=none\/∃ dx fs,ed=some dx/\H dx=some (.xd fs)
section
variable {P:Program}{w:World}{H:Hp}{h:Heap}{a C:Addr}{ed:Option Addr}
theorem J96 (hok:HOk P w H h)(e:H a=some (ExO a (.ref C) ed))(hd:JbE H ed):∃ ox od,PySem.W.InstAt h a ox C od:=by
 obtain ⟨⟨oe,vs,e1,e2,e3,e4⟩,_⟩:=(show ObjOk P w H h a (ExO a (.ref C) ed) from hok a _ e);have hn:PySem.W.notCls oe=true:=by
  obtain ⟨c,d,dt,sl⟩:=oe;cases e4;rfl
 rcases hd with rfl | ⟨dx,fs,rfl,hx⟩
 ·exact ⟨oe,none,e1,e2,hn,by rw [e3];trivial⟩
 ·obtain ⟨mA,hns,_⟩:=(show ObjOk P w H h dx (.xd fs) from hok dx _ hx)
  obtain ⟨od,ho,_⟩:=J3B hns;exact ⟨oe,some od,e1,e2,hn,by rw [e3];exact ho⟩
end
section
variable {X:Cx}
def J9C (K:Frag):List V->Hp->VK->Prop:=fun xs H Q=>∃ a C ed b,H a=some (ExO a (.ref C) ed)/\JbE H ed/\XCls K C/\((∃ B,xs=[.ref a,.ref B]/\PySem.W.kitOne K (.ref C) (.ref B)=some b)\/∃ S,xs=[.ref a,.ty S]/\PySem.W.kitOne K (.ref C) (.type S)=some b)/\Q (.bl b) H
theorem J9l:J00 X (.builtin "isinstance") (J9C X.K):=by
 intro pins s σ H xs us Q I r h;obtain ⟨a,C,ed,b,e,hd,c,hx,q⟩:=h;have J:=J96 I.hok e hd;rcases hx with ⟨B,rfl,hk⟩ | ⟨S,rfl,hk⟩
 ·obtain ⟨u,z,rfl,ru,rz⟩:=J6Z r
  cases (show u=Value.ref a from ru);cases (show z=Value.ref B from rz);exact PySem.W.kia_one (J61 c) I.kIn J hk (fun z=>nomatch z) fun tk=>⟨.bl b,H,I.tok _,rfl,q⟩
 ·obtain ⟨u,z,rfl,ru,rz⟩:=J6Z r
  cases (show u=Value.ref a from ru);cases rz;exact PySem.W.kia_one (J61 c) I.kIn J hk (fun z=>nomatch z) fun tk=>⟨.bl b,H,I.tok _,rfl,q⟩
theorem J4k {K:Frag}(e:X.K=K):J00 X (.builtin "isinstance") (J9C K):=by subst e;exact J9l
def tXF (K:Frag)(te:TE)(f:Str):TE:=fun σ H Q=>te σ H fun x H1=>∃ a C dx fs v,x=.ref a/\H1 a=some (ExO a (.ref C) (some dx))/\H1 dx=some (.xd fs)/\XCls K C/\NoAttr K C f/\fs.lookup f=some v/\Q v H1
theorem Jbn {e:Expr}{te:TE}{f:Str}{pos:Pos}(he:PE X e te)(hb:attributeBase e f X.env (eval e X.env)=eval e X.env):PE X (.Attribute e f pos) (tXF X.K te f):=by
 intro pins s σ H Q I h;refine J7q hb (thn (he pins s σ H _ I h) fun u s1 z=>?_);obtain ⟨x,H1,I1,rx,a,C,dx,fs,v,rfl,e1,e2,c,na,hl,q⟩:=z;obtain rfl:u=Value.ref a:=rx;obtain ⟨mA,hns,rel⟩:=(show ObjOk X.prog X.w H1 s1.heap dx (.xd fs) from I1.hok dx _ e2);obtain ⟨od,ho,hlook⟩:=J3B hns;obtain ⟨⟨oe,vs,g1,g2,g3,g4⟩,_⟩:=(show ObjOk X.prog X.w H1 s1.heap a (ExO a (.ref C) (some dx)) from I1.hok a _ e1);have hn:PySem.W.notCls oe=true:=by
  obtain ⟨c,d,dt,sl⟩:=oe;cases g4;rfl
 have J:PySem.W.InstAt s1.heap a oe C (some od):=⟨g1,g2,hn,by rw [g3];exact ho⟩;obtain ⟨w',hw,rw'⟩:=RelO.some_of (v:=v) (o:=mA f) (by rw [<- hl];exact rel f);have hf:PySem.W.findObj X.K C (some od) f=some (.value w'):=PySem.W.findObj_own c.hd na rfl (by rw [hlook,hw]);unfold getAttr;refine za (wpAny_mkText ?_);exact J6Y (s:={ s1 with toks:=s1.toks+1 }) c I1.kIn J (J4Z rw') (fun R q=>J82 (s:={ s1 with toks:=s1.toks+1 }) c I1.kIn J hf q) ⟨v,H1,I1.tok _,rw',q⟩
end
theorem J3I {h:Heap}{self:Value}:∀ {tl:List Value},OwnTail h vbm tl->refuseLoop self "__setattr__" tl=pure ()
 | _,.base=>PySem.F.store_ValueError.passes self
 | _,.own _ _ _ T=>by rw [refuseLoop_ref];exact J3I T
section
variable {prog:Program}{w:World}{A:Around}{E:Value->Shared->Prop}{h:Heap}{g:Array GenState}{d:Drawn}{t:Nat}{os:OsState}{K:Frag}
variable {nm q:Str}{C N a:Addr}{bs bm:List Value}{sn:List Str}{sub:List Value}{ab:Bool}{col:Option Bool}{dd:Option Addr}{k0 k1 k2 k3 k5:Option Value}{newId:String}{name:Str}{v:Value}{o:Obj}{vs:Array Value}
theorem J6j {tk:Tok}{Q:Fin->Shared->Prop}(X:K.In h)(hC:h.get? C=some (excClassObj nm q C N bs bm true sn sub ab col dd k0 k1 k2 k3 k5 newId))(hpass:refuseLoop (.ref a) "__setattr__" bm=pure ())
 (hna:findIn K (.ref C) name=some none) (hx:h.get? a=some o) (hc:o.cls=.ref C) (hd:o.data=.fields vs) (hdn:o.dict=none)
 (hq:∀ h' tk',h'.get? a=some { o with dict:=some h.objs.size }->h'.Ns1 h.objs.size (fun y=>if y=name then some v else none)->(∀ b u,b≠a->h.get? b=some u->h'.get? b=some u)->Q (.done (.ret .none)) ⟨h',g,d,tk',os⟩) :
 wpAny (model prog w) A (Builtin.«object.__setattr__» ⟨[.ref a,.str name tk,v],[]⟩) Q E ⟨h,g,d,t,os⟩:=by
 have L3:=PySem.W.looks_findIn (M:=model prog w) X hna;unfold Builtin.«object.__setattr__»
 repeat (first | rw [refuse_eq] | (rw [refuseLoop_ref,hpass]) | (with_reducible refine wpAny_loadPart_at hx ?_;rw [hc]) | with_reducible refine wpAny_mroOf_exc hC ?_ | with_reducible refine L3.at ?_ | wp_step)
 rw [hdn];dsimp only;rw [zc (by simp [typeHasDict]),hd];dsimp only;have ne:a≠h.objs.size:=zj (zS hx);have g1:(h.push { cls:=.type "dict",data:=.dict #[] }).get? a=some o:=zQ _ hx;refine za (wpAny_alloc' (za (wpAny_update' g1 (zb ?_))));generalize hH:(h.push { cls:=.type "dict",data:=.dict #[] }).update a (fun o=>{ cls:=o.cls,dict:=some h.objs.size,data:=o.data,slots:=o.slots })=h1;have g2:h1.get? h.objs.size=some { cls:=.type "dict",data:=.dict #[] }:=by
  rw [<- hH];exact (Heap.get?_update_ne _ _ _ _ ne.symm).trans (Heap.get?_push_at rfl rfl)
 have g3:h1.get? a=some { cls:=o.cls,dict:=some h.objs.size,data:=o.data,slots:=o.slots }:=by
  rw [<- hH];refine Heap.get?_update_self _ g1 ?_;have fr:=(Heap.get?_some_iff.mp hx).2;obtain ⟨oc,od,odt,osl⟩:=o;cases odt<;>first | rfl | exact fr
 have g4:∀ b u,b≠a->h.get? b=some u->h1.get? b=some u:=fun b u hb e=>by
  rw [<- hH];exact (Heap.get?_update_ne _ _ _ _ hb).trans (zQ _ e)
 have n1:h1.Ns h.objs.size (fun _=>none):=⟨_,#[],_,g2,rfl,fun e he=>absurd he (by simp),fun _=>rfl⟩;show wpAny _ _ (Builtin.ObjectAttr.storeInDict h.objs.size (.str name tk) name v) _ _ _;unfold Builtin.ObjectAttr.storeInDict Builtin.ObjectAttr.newKeyGuard;refine za (zb (za (wpAny_nsSet1 (Heap.Ns1.of_empty n1) fun h2 n2 hs=>?_)));obtain ⟨oD,esD,epD,hoD,hdD,hcD⟩:=n2.count (Within.cons name v Within.nil);refine za (wpAny_lookBehind hoD (by rw [hdD];exact pastItsLine_dict (zo hcD (by rw [length_cons,length_nil,sizeLine_eq];omega))) ?_)
 wp_walk
 exact hq h2 _ ((hs.2 a ne).trans g3) n2 fun b u hb e=>(hs.2 b (zj (zS e))).trans (g4 b u hb e)
theorem J7s {Q:Unit->Shared->Prop}(X:K.In h)(hC:h.get? C=some (excClassObj nm q C N bs bm true sn sub ab col dd k0 k1 k2 k3 k5 newId))(T:OwnTail h vbm bm)(hsa:findIn K (.ref C) "__setattr__"=some (some (.builtin "object.__setattr__")))
 (hna:findIn K (.ref C) name=some none) (hx:h.get? a=some o) (hc:o.cls=.ref C) (hd:o.data=.fields vs) (hdn:o.dict=none)
 (hq:∀ h' tk',h'.get? a=some { o with dict:=some h.objs.size }->h'.Ns1 h.objs.size (fun y=>if y=name then some v else none)->(∀ b u,b≠a->h.get? b=some u->h'.get? b=some u)->Q () ⟨h',g,d,tk',os⟩) :
 wpAny (model prog w) A (setAttr (.ref a) name v) Q E ⟨h,g,d,t,os⟩:=by
 have SF:=PySem.F.store_ValueError;have J:PySem.W.InstAt h a o C none:=⟨hx,hc,by obtain ⟨c,d,dt,sl⟩:=o;cases hd;rfl,by rw [hdn];trivial⟩;have hob:PySem.W.Looks (model prog w) h (isInstance (.ref a) (.type "object")) true:=J.type.andThen fun A Q E s k z=>by
  obtain ⟨sh,sg,sd,st,so⟩:=s;refine wpAny_isSubtype_exc (k _ _ hC) ?_;have:(Value.ref C::bm).contains (.type "object")=true:=by rw [contains_cons,T.hasType (X:="object") (b:=true) (by decide),Bool.or_true]
  rw [this];exact z
 refine PySem.W.set_plain (s:=⟨h,g,d,t,os⟩) X J hsa ?_;refine codeAny_call_builtin SF.slot.plain SF.entry (@PySem.W.check_slot (model prog w) _ _ ⟨h,g,d,t+1,os⟩ "object.__setattr__" "object" "__setattr__" (.ref a) [.str name t,v] [] _ SF.kind SF.split hob (SF.args (.ref a) (.str name t) v) ?_);exact J6j X hC (J3I T) hna hx hc hd hdn fun h' tk' e1 e2 e3=>hq h' tk' e1 e2 e3
end
def ExN (a:Addr)(C:Value)(ed:Option Addr):HO:=.ext fun h=>∃ oe vs,h.get? a=some oe/\oe.cls=C/\oe.dict=ed/\oe.data=.fields vs/\1<vs.size/\vs[1]?=some .none
theorem J97 {P:Program}{w:World}{H:Hp}{h:Heap}{a:Addr}{C:Value}{ed:Option Addr}(x:∃ oe vs,h.get? a=some oe/\oe.cls=C/\oe.dict=ed/\oe.data=.fields vs/\1<vs.size/\vs[1]?=some .none):ObjOk P w H h a (ExN a C ed) :=
 ⟨x,(let ⟨oe,_,e,_⟩:=x;⟨oe,e⟩),fun _ _ ⟨oe,vs,e,r⟩ k=>⟨oe,vs,k oe e,r⟩⟩
theorem J7k {P:Program}{w:World}{H:Hp}{h:Heap}{a:Addr}{C:Value}{ed:Option Addr}(hok:HOk P w H h)(e:H a=some (ExN a C ed)):∃ oe vs,h.get? a=some oe/\oe.cls=C/\oe.dict=ed/\oe.data=.fields vs/\1<vs.size/\vs[1]?=some .none :=
 (show ObjOk P w H h a (ExN a C ed) from hok a _ e).1
def J1n (H:Hp)(a:Addr):Hp:=fun b=>if b=a then none else H b
theorem J5t {H:Hp}{a b:Addr}(h:b≠a):J1n H a b=H b:=by unfold J1n;rw [zc h]
theorem J7V {H:Hp}{a:Addr}:J1n H a a=none:=by unfold J1n;rw [zd rfl]
section
variable {X:Cx}{pins:List (Addr×Obj)}{σ:St}{H:Hp}{s:Shared}{a:Addr}
theorem Inv.dropX {C:Value}{ed:Option Addr}(I:Inv X pins σ H s)(e:H a=some (ExN a C ed)):Inv X pins σ (J1n H a) s:=by
 have keep:∀ b o,H b=some o->(∀ φ,o≠.ext φ)->J1n H a b=some o:=fun b o q n=>by
  rw [J5t]
  ·exact q
  ·intro z
   subst z;rw [e] at q;exact n _ (zi q).symm
 have none_:∀ b,H b=none->J1n H a b=none:=fun b q=>by
  unfold J1n
  split
  ·rfl
  ·exact q
 refine ⟨I.ok,I.os,I.bare,⟨I.base.keep,I.base.slot,fun b o q n hx=>none_ b (I.base.free b o q n hx),I.base.there,fun b xs q=>keep b _ (I.base.tups b xs q) (fun _ z=>nomatch z),fun b o u q=>keep b _ (I.base.frzs b o u q) (fun _ z=>nomatch z),fun b ps q=>?_⟩,I.loc,I.cell,none_ _ I.free,fun x c q=>none_ _ (I.freeC x c q),fun p hp=>?_,fun b o q=>?_,I.len⟩
 ·obtain ⟨m,q⟩:=I.base.tbls b ps q
  exact ⟨m,keep b _ q (fun _ z=>nomatch z)⟩
 ·obtain ⟨e1,n,r⟩:=I.pin p hp
  exact ⟨e1,none_ _ n,r⟩
 ·have hb:H b=some o:=by
   unfold J1n at q
   split at q
   ·cases q
   ·exact q
  exact (I.hok b o hb).stay (fun _ _ _ z=>z) (fun d z=>keep d _ z (fun _ y=>nomatch y)) fun d xs z=>keep d _ z (fun _ y=>nomatch y)
theorem J6P {K:Frag}{h:Heap}{C:Addr}{nm qn:Str}{N:Addr}{bs bm:List Value}{hd:Bool}{sn:List Str}{sub:List Value}{ab:Bool}{col:Option Bool}{dd:Option Addr}{k0 k1 k2 k3 k5:Option Value}{nw:String}(X:K.In h)(q:PySem.W.hasDictIn K C=true)
 (hC:h.get? C=some (excClassObj nm qn C N bs bm hd sn sub ab col dd k0 k1 k2 k3 k5 nw)):hd=true:=by
 obtain ⟨cd,hc,hdd⟩:=PySem.W.any_some q;unfold PySem.W.clsIn at hc
 split at hc
 ·rename_i ho
  have e:=X _ _ ho;rw [hC] at e;cases e;cases hc;exact hdd
 ·cases hc
def J8n (K:Frag)(ta tv:TE)(f:Str):TS:=fun D σ H=>tv σ H fun y H1=>ta σ H1 fun x H2=>∃ a C ini,x=.ref a/\H2 a=some (ExN a (.ref C) none)/\exB K C ini=true/\PySem.W.hasDictIn K C=true /\
 findIn K (.ref C) "__setattr__"=some (some (.builtin "object.__setattr__"))/\NoAttr K C f/\∀ dx,H2 dx=none->dx≠a->D.nx σ (upd (upd H2 dx (.xd [(f,y)])) a (ExN a (.ref C) (some dx)))
theorem ps_xset {o value:Expr}{f:Str}{pos pos':Pos}{ta tv:TE}(ha:PE X o ta)(hv:PE X value tv)(hs:swapsWith value (some (.Attribute o f pos')) pos.line X.env=pure false):PS X (.Assign [.Attribute o f pos'] value pos) (J8n X.K ta tv f):=by
 intro pins s σ H D I h;refine plainObj_wpAny_Assign_Attribute (thn (hv pins s σ H _ I h) fun u s1 ⟨y,H1,I1,ry,q⟩=>thn (ha pins s1 σ H1 _ I1 q) fun ov s2 ⟨x,H2,I2,rx,a,C,ini,ex,ea,qC,hd,hsa,na,q2⟩=>?_) hs;subst ex;obtain rfl:ov=Value.ref a:=rx;obtain ⟨_,qn,N,bs,bm,hd',sn,sub,ab,col,dd,k0,k1,k2,k3,k5,hC,_,TL⟩:=J3c I2.kIn qC;obtain rfl:=J6P I2.kIn hd hC;obtain ⟨oe,vs,e1,e2,e3,e4,e5,e6⟩:=J7k I2.hok ea;have fr:H2 s2.heap.objs.size=none:=I2.hok.fresh (ze _);have nea:s2.heap.objs.size≠a:=Nat.ne_of_gt (zS e1);obtain ⟨sh,sg,sd,st,so⟩:=s2;refine J7s I2.kIn hC TL hsa na e1 e2 e4 e3 fun h' tk' g1 g2 g3=>⟨σ,_,?_,q2 sh.objs.size fr nea⟩;have nb:∀ b,H2 b=none->b≠a:=fun b z y=>by subst y;rw [ea] at z;cases z
 have ob:∀ b u,H2 b=some u->(∀ φ,u≠.ext φ)->upd (upd H2 sh.objs.size (.xd [(f,y)])) a (ExN a (.ref C) (some sh.objs.size)) b=some u:=fun b u z n=>by
  have h1:b≠a:=fun y=>by subst y;rw [ea] at z;exact n _ (zi z).symm
  have h2:b≠sh.objs.size:=fun y=>by subst y;rw [fr] at z;cases z
  rw [Jo h1,Jo h2];exact z
 refine I2.step (g':=sg) (d':=sd) (ch:=[]) (fun _ z=>nomatch z) (fun b o _ _ _ z n=>g3 b o (nb b n) z) (fun b o _ _ _ z n=>⟨o.slots,g3 b o (nb b n) z⟩) (fun b o _ z n=>?_) (fun b o _ z=>?_)
  (fun b xs z=>ob b _ z (fun _ y=>nomatch y)) (fun b o u z=>ob b _ z (fun _ y=>nomatch y)) (fun b ps z=>⟨#[],by rw [Array.append_empty];exact ob b _ z (fun _ y=>nomatch y)⟩) (fun m hm=>?_) (fun b o z=>?_) I2.bare
 ·rw [Jo (nb b n),Jo (zj (zS z))];exact n
 ·by_cases y:b=a
  ·subst y;exact ⟨_,g1⟩
  ·exact ⟨o,g3 b o y z⟩
 ·obtain ⟨o,es,ep,ho,r⟩:=hm
  exact ⟨o,es,ep,g3 _ o (nb _ I2.free) ho,r⟩
 ·by_cases ya:b=a
  ·subst ya
   rw [Jd] at z;cases z;exact J97 ⟨_,vs,g1,e2,rfl,e4,e5,e6⟩
  ·rw [Jo ya] at z
   by_cases y2:b=sh.objs.size
   ·subst y2
    rw [Jd] at z;cases z;refine ⟨_,g2,fun g=>?_⟩;show RelO (J0j f y [] |>.lookup g) (if g=f then some u else none);rw [lookup_putF];by_cases q:g=f
    ·rw [zd q,zd q];exact ry
    ·rw [zc q,zc q];exact True.intro
   ·rw [Jo y2] at z
    refine (I2.hok b o z).stay (fun c w hc e=>g3 c w ?_ e) (fun c z=>ob c _ z (fun _ y=>nomatch y)) fun c xs z=>ob c _ z (fun _ y=>nomatch y);rcases hc with rfl | hc
    ·exact ya
    ·intro y3
     subst y3;rw [ea] at hc;cases hc
end
section
variable {prog:Program}{w:World}{A:Around}{E:Value->Shared->Prop}{h:Heap}{g:Array GenState}{d:Drawn}{t:Nat}{os:OsState}
variable {nm qn:Str}{C N:Addr}{bs bm:List Value}{hd:Bool}{sn:List Str}{sub:List Value}{ab:Bool}{col:Option Bool}{dd:Option Addr}{k0 k1 k2 k3 k5:Option Value}
theorem J6o {mN:Str->Option Value}{rest:List Value}{fI:Addr}{oI:Obj}{Q:PySem.Fin->Shared->Prop}
 (hC:h.get? C=some (excClassObj nm qn C N bs bm hd sn sub ab col dd k0 k1 k2 k3 k5 "ValueError.__new__")) (T:OwnTail h vbm bm) (hn:h.Ns N mN) (hi:mN "__init__"=some (.ref fI)) (hfI:h.get? fI=some oI) (hfc:oI.cls=.type "function")
 (hq:∀ h' e,Heap.MadeExcOf h h' e (.ref C) rest->wpAny (model prog w) A (call (.ref fI) (.ref e::rest)) (fun r s'=>r=.none/\Q (.done (.ret (.ref e))) s') E ⟨h',g,d,t,os⟩) (hrest:rest.length<=sizeLine) :
 wpAny (model prog w) A (Builtin.«type.__call__» ⟨.ref C::rest,[]⟩) Q E ⟨h,g,d,t,os⟩:=by
 have F:=PySem.F.excBase_ValueError;have hB:vbm.contains (.type "ValueError")=true:=by decide
 repeat (first | with_reducible refine wpAny_loadPart_at hC ?_ | with_reducible refine wpAny_madeBy_exc hC ?_ | wp_step)
 refine codeAny_call_builtin_code (Code.quiet_builtin _ F.quiet) (wpAny_check_new_subU F hB T hC ?_);refine codeAny_exc_new_subU F hB F T hC ?_ hrest;show wpAny _ _ _ _ _ _;generalize hO:({ cls:=.ref C,data:=.fields #[.ref h.objs.size,.none,.none,.none,.bool false,.none] }:Obj)=O;generalize hP:({ cls:=.type "tuple",data:=.seq rest.toArray }:Obj)=P;have kp:∀ b o,h.get? b=some o->((h.push P).push O).get? b=some o:=fun b o e=>zQ _ (zQ _ e);have e0:((h.push P).push O).get? (h.objs.size+1)=some O:=Heap.get?_push_at (by simp only [Heap.size_push]) (by rw [<- hO];rfl);have e1:((h.push P).push O).get? h.objs.size=some P:=zQ _ (Heap.get?_push_at rfl (by rw [<- hP];rfl));have hcC:(Value.ref C::bm).contains (.ref C)=true:=by simp
 have oc:O.cls=.ref C:=by rw [<- hO]
 unfold isInstance
 repeat (first | (with_reducible refine wpAny_loadPart_at e0 ?_;rw [oc]) | (with_reducible refine wpAny_isSubtype_exc (kp _ _ hC) ?_;rw [hcC]) | wp_step)
 show wpAny _ _ (typeLookup (.ref C) _) _ _ _;refine wpAny_typeLookup_tail (kp _ _ hC) (hn.keeps kp) (T.keeps kp) F.mroIs F.init.lookup ?_;rw [hi];refine wpAny_holding (za ?_);unfold bindSpecial;refine za (wpAny_typeOf (T:="function") ⟨_,kp _ _ hfI,hfc⟩ ?_);rw [zd (by decide)];refine zb (za (wpAny_mono (hq _ (h.objs.size+1) ⟨kp,Heap.get?_none_of_le (Nat.le_succ _),h.objs.size,by rw [e0,<- hO],Heap.get?_none_of_le (ze _),by rw [e1,<- hP]⟩) (fun r s' hr=>?_) fun _ _ x=>x));obtain ⟨rfl,hQ⟩:=hr
 wp_walk
 exact hQ
theorem J6n {mN:Str->Option Value}{rest:List Value}{fI:Addr}{oI:Obj}{Q:Value->Shared->Prop}
 (hC:h.get? C=some (excClassObj nm qn C N bs bm hd sn sub ab col dd k0 k1 k2 k3 k5 "ValueError.__new__")) (T:OwnTail h vbm bm) (hn:h.Ns N mN) (hi:mN "__init__"=some (.ref fI)) (hfI:h.get? fI=some oI) (hfc:oI.cls=.type "function")
 (hq:∀ h' e,Heap.MadeExcOf h h' e (.ref C) rest->wpAny (model prog w) (A.under (.builtin "type.__call__" ⟨.ref C::rest,[]⟩)) (call (.ref fI) (.ref e::rest)) (fun r s'=>r=.none/\Q (.ref e) s') E ⟨h',g,d,t,os⟩) (hrest:rest.length<=sizeLine) :
 wpAny (model prog w) A (call (.ref C) rest) Q E ⟨h,g,d,t,os⟩:=by
 have f1:=tc_lookup;have f2:=tc_bind (.ref C);have hT:(⟨h,g,d,t,os⟩:Shared).TypeIs (.ref C) "type":=⟨_,hC,rfl⟩;refine wpAny_call (codeAny_of_tree ?_);show wpAny _ _ (callAny (.ref C) _) _ _ _
 repeat (any_goals (first | assumption | with_reducible refine wpAny_loadPart_at hC ?_ | wp_step))
 refine ⟨rfl,?_⟩;exact codeAny_call_builtin_at (Code.quiet_builtin _ (by decide +kernel)) entry_typeCall (wpAny_check_type_call_sub hC (J6o hC T hn hi hfI hfc (fun h' e hm=>hq h' e hm) hrest))
theorem J6k {M:Model}{env:Env}{s:Shared}{x:Sem Value}{Q:Flow->Shared->Prop}(hh:A.handled=none)
 (hq:wpAny M A x (fun v s₁=>∃ e oe,v=.ref e/\s₁.heap.get? C=some (excClassObj nm qn C N bs bm hd sn sub ab col dd k0 k1 k2 k3 k5 "ValueError.__new__")/\OwnTail s₁.heap vbm bm/\s₁.heap.get? e=some oe/\oe.cls=.ref C/\(∃ vs,oe.data=.fields vs/\vs[1]?=some .none)/\E (.ref e) s₁) E s) :
 wpAny M A (raiseStmt env (some x) none) Q E s:=by
 unfold raiseStmt;refine za (wpAny_mono hq (fun v s₁ h₁=>?_) fun _ _ x=>x);obtain ⟨e,oe,rfl,hC,T,he,hcls,⟨vs,hdt,h1⟩,hE⟩:=h₁;have hcB:(Value.ref C::bm).contains (.type "BaseException")=true:=by rw [contains_cons,J4r T,Bool.or_true]
 obtain ⟨hp,g,d,tk,os⟩:=s₁
 repeat (first | (with_reducible refine wpAny_loadPart_at he ?_;(try rw [hcls])) | with_reducible refine wpAny_loadPart_at hC ?_ | (with_reducible refine wpAny_isSubtype_exc hC ?_;rw [hcB]) | wp_step)
 rw [hdt];refine zb ?_;rw [h1];refine zb ?_;rw [zc (by decide)];exact zb (wpAny_raiseNew_none hh hE)
end
section
variable {X:Cx}{e:Expr}{es:List Expr}{t:TA}{S:St->Prop}{E:XK}{k:Nat}{f C:Addr}{fd:FuncData}{ps:List Str}{sp:Sp}
def J57 (S:St->Prop)(E:XK)(C:Addr)(sp:Sp)(t:TA):TS:=fun _ σ H=>t σ H fun vs H1=>S σ/\vs.length<=sizeLine/\∀ a,H1 a=none->sp (.ref a::vs) (upd H1 a (ExN a (.ref C) none)) (fun v H2=>v=.non/\∃ ed,H2 a=some (ExN a (.ref C) ed)/\E (.ref C) ed (J1n H2 a)) E0
theorem J2n {x:Str}{np cpos pos:Pos}(T:Told X S E)(hcalm:X.calm=true)(q:exB X.K C (some (.ref f))=true)(hfn:PySem.W.isFn X.K (.ref f)=true)(F:FnOk X.prog X.w X.K X.mg X.base CX0 k f fd ps sp)(hr:Room (k+1) X.A)(hb:Binds X.K fd ps [])(hkp:PySem.W.keepIn X.K (.ref C)=true)
 (hg:Gl X x) (hm:X.mg x=some (.ref C)) (hdb:(x == ("__debug__":Str))=false) (hn:(e::es).all Jw=true) (ha:PA X (e::es) t) :
 PS X (.Raise (some (.Call (.Name x np) (e::es) [] cpos)) none pos) (J57 S E C sp t):=by
 intro pins s σ H D I h;have hs:Jw e=true/\es.all Jw=true:=by rw [all_cons,Bool.and_eq_true] at hn;exact hn
 obtain ⟨nm,qn,N,bs,bm,hd,sn,sub,ab,col,dd,k0,k1,k2,k3,k5,hC,⟨mN,hN,hni⟩,TL⟩:=J3c I.ok.mod.kin q;rw [arm_exec_Raise];simp only [evalOpt,Option.map];refine za (wpAny_standAt (J6k (C:=C) (nm:=nm) (qn:=qn) (N:=N) (bs:=bs) (bm:=bm) (hd:=hd) (sn:=sn) (sub:=sub) (ab:=ab) (col:=col) (dd:=dd) (k0:=k0) (k1:=k1) (k2:=k2) (k3:=k3) (k5:=k5) (I.ok.hd hcalm) ?_));refine za (wpAny_mono (Q:=fun v s₁=>∃ e oe,v=.ref e/\s₁.heap.get? C=some (excClassObj nm qn C N bs bm hd sn sub ab col dd k0 k1 k2 k3 k5 "ValueError.__new__")/\OwnTail s₁.heap vbm bm/\s₁.heap.get? e=some oe/\oe.cls=.ref C/\(∃ vs,oe.data=.fields vs/\vs[1]?=some .none)/\X.xe (.ref e) s₁) ?_ (fun v s₃ h₃=>za (wpAny_standAt (zb h₃))) fun _ _ x=>x);refine wpAny_Call_Name_kw (J0O I hg hm ?_ hdb);refine PySem.W.callWith_K (h₀:=X.base) I.ok.mod.kin hkp (thn (ha cpos pins s σ H _ I h) fun us s1 z=>?_) (JW hs.1) (J06 hs.2);obtain ⟨vs,H1,I1,r,hS,hl,hi⟩:=z;refine ⟨I1.kIn,?_⟩;obtain ⟨oI,hoI,hfc⟩:∃ oI,X.base.get? f=some oI/\oI.cls=.type "function":=by
  have e1:=beq_iff_eq.mp hfn;unfold PySem.W.typeIn at e1;obtain ⟨o,ho,hc⟩:=Option.map_eq_some_iff.mp e1;exact ⟨o,I.ok.mod.kin _ _ ho,hc⟩
 have hus:us.length<=sizeLine:=by rw [<- r.length];exact hl
 obtain ⟨sh,sg,sd,st,so⟩:=s1;show wpAny _ _ (call (.ref C) us) _ _ _;refine J6n (I1.bk _ _ hC) (TL.keeps I1.bk) (hN.keeps I1.bk) hni (I1.bk _ _ hoI) hfc (fun h' a m=>?_) hus;have hHa:H1 a=none:=I1.hok.unheld m.new;obtain ⟨tp,ht,_,_⟩:=m.there;have J1:Inv X pins σ H1 ⟨h',sg,sd,st,so⟩:=I1.kept (h':=h') (t':=st) m.keeps;have J2:Inv X pins σ (upd H1 a (ExN a (.ref C) none)) ⟨h',sg,sd,st,so⟩:=J1.hold (I1.cov T.ex) m.new hHa (J97 ⟨_,_,ht,rfl,rfl,rfl,Nat.lt_of_sub_eq_succ rfl,rfl⟩);have r2:Vals (V.ref a::vs) (Value.ref a::us):=.cons rfl r;have sp1:=hi a hHa;have hlen:(Value.ref a::us++([]:List Value)).length=ps.length:=by rw [append_nil,<- r2.length];exact F.len _ _ _ _ sp1
 have bd:=hb ⟨h',sg,sd,st,so⟩ (Value.ref a::us) J2.kIn hlen;rw [append_nil] at bd;refine wpAny_call (codeAny_mono (F.run _ X.stack _ _ ⟨Value.ref a::us,[]⟩ (Value.ref a::us) _ _ E0 (hr.make C us []) (J2.env0.make C us []) bd r2 sp1) fun res s' hq=>?_)
 match res,hq with
 | .error e,hq=>exact zp hq
 | .ok .next,hq=>exact zp hq
 | .ok .brk,hq=>exact zp hq
 | .ok .cont,hq=>exact zp hq
 | .ok (.ret u),hq =>
   obtain ⟨v,H',os',bare,un,hok,rv,rfl,ed,hx,qE⟩:=hq;have J3:Inv X pins σ H' s':=J2.call' os' un hok bare (fun b z=>absurd z (by simp));obtain ⟨oe,ws,g1,g2,g3,g4,g5,g6⟩:=J7k J3.hok hx;refine ⟨rv,a,oe,rfl,J3.bk _ _ hC,TL.keeps J3.bk,g1,g2,⟨ws,g4,g6⟩,?_⟩;refine T.on pins σ (J1n H' a) s' a (.ref C) ed sh hS (J3.dropX hx) ⟨m.new,J7V,oe,ws,g1,g2,g3,g4,g5,.inl ⟨g6,rfl⟩⟩ (I1.cov T.ex) (fun b hb=>?_) qE;cases z:sh.get? b with
   | none=>rfl
   | some o =>
     obtain ⟨o',e'⟩:=un.there b o (m.keeps b o z) (by simp);rw [hb] at e';cases e'
end
section
variable {X:Cx}{k:Nat}{f C:Addr}{fd:FuncData}{ps:List Str}{sp:Sp}{x m:Str}{p pos apos:Pos}{e o:Expr}{es:List Expr}{ta:TE}{t:TA}{S:St->Prop}{E:XK}
def J42 (S:St->Prop)(C:Addr)(m:Str)(sp:Sp)(E:XK)(ta:TE)(t:TA):TE:=fun σ H Q=>ta σ H fun x H1=>∃ a dx fs,x=.ref a/\H1 a=some (.ins C dx fs)/\fs.lookup m=none/\t σ H1 fun vs H2=>S σ/\sp (x::vs) H2 Q E
theorem J2b {pl:Sem Bool}(T:Told X S E)(he:PE X o ta)(c:Cls X.K C)(hm:Meth X.K C m f)(F:FnOk X.prog X.w X.K X.mg X.base (CXE X.prog X.w) k f fd ps sp)(hr:Room k X.A)(hb:Binds X.K fd ps [])(hn:(e::es).all Jw=true)(ha:PA X (e::es) t)
 (ht:eval (.Call (.Attribute o m apos) (e::es) [] pos) X.env=(do
  let ov <- eval o X.env
  standAt apos.atName
  let (f,first) <- holding [ov] (getMethod ov m pl)
  callWith pos f first (backTo pos (starEach (e::es) X.env)) (backToKw pos (keywordEach [] X.env)))) :
 PE X (.Call (.Attribute o m apos) (e::es) [] pos) (J42 S C m sp E ta t):=by
 have hs:Jw e=true/\es.all Jw=true:=by rw [all_cons,Bool.and_eq_true] at hn;exact hn
 intro pins s σ H Q I h;refine PySem.W.methodCall_KW (pl:=pl) (thn (he pins s σ H _ I h) fun u s1 ⟨x,H1,I1,rx,a,dx,fs,ex,ea,l,q⟩=>?_) ht;subst ex;obtain rfl:u=Value.ref a:=rx;refine J2T I1 ea c hm l ?_;refine PySem.W.callWith_K (first:=[.ref a]) (h₀:=X.base) I.ok.mod.kin hm.kp (thn (ha pos pins s1 σ H1 _ I1 q) fun us s2 ⟨vs,H2,I2,r,hS,q2⟩=>⟨I2.kIn,?_⟩) (JW hs.1) (J06 hs.2);exact J5l (us:=.ref a::us) (vs:=.ref a::vs) T F hr hb hS I2 (.cons rfl r) q2
def J8c (S:St->Prop)(C:Addr)(sp:Sp)(E:XK)(t:TA):TE:=fun σ H Q=>t σ H fun vs H1=>S σ/\∀ x dx,H1 x=none->H1 dx=none->dx≠x->sp (.ref x::vs) (upd (upd H1 dx (.own x)) x (.ins C dx [])) (fun v H2=>v=.non/\Q (.ref x) H2) E
end
def J2G (s:Stmt)(j:Nat):Stmt:=match s with
 | .ClassDef _ _ _ b _ _ _ _ _ _ _=>b.getD j (.Pass ⟨0,0,0,0⟩)
 | _=>.Pass ⟨0,0,0,0⟩
structure MthOk (K:Frag)(x qual:Str)(st:Stmt)(ps:List Str)(f:Addr)(fd:FuncData):Prop where
 F:Fun K x qual st f fd
 b:Binds K fd ps []
 fn:PySem.W.isFn K (.ref f)=true
structure ExcOk (K:Frag)(mg:Str->Option Value)(x:Str)(c:Addr)(ini:Option Value):Prop where
 m:mg x=some (.ref c)
 x:exB K c ini=true
 kp:PySem.W.keepIn K (.ref c)=true
 xc:XCls K c
 sa:findIn K (.ref c) "__setattr__"=some (some (.builtin "object.__setattr__"))
structure OwnOk (K:Frag)(mg:Str->Option Value)(x:Str)(c fi:Addr):Prop where
 m:mg x=some (.ref c)
 cls:Cls K c
 mkr:Mk K c fi
theorem J6Q {K:Frag}{h:Heap}{mg:Str->Option Value}{x:Str}{c:Addr}{ini:Option Value}(X:K.In h)(G:h.Ns mainGlobals mg)(a:nsIn K mainGlobals x=some (some (.ref c)))(e:exB K c ini=true)(kp:PySem.W.keepIn K (.ref c)=true)
 (ga:findIn K (.ref c) "__getattribute__"=some (some (.builtin "BaseException.__getattribute__"))) (gh:findIn K (.ref c) "__getattr__"=some none) (ba:PySem.W.mroIn K c (.type "BaseException")=some true) (ob:PySem.W.mroIn K c (.type "object")=some true) (hd:PySem.W.hasDictIn K c=true)
 (cl:findIn K (.ref c) "__class__"=some (some (.builtin "object.__class__"))) (cg:PySem.W.specialIn K (.builtin "object.__class__") "__get__"=some (some (.builtin "getset_descriptor.__get__"))) (ct:PySem.W.takesIn K (.builtin "object.__class__")=some true)
 (sa:findIn K (.ref c) "__setattr__"=some (some (.builtin "object.__setattr__"))):ExcOk K mg x c ini:=⟨PySem.W.mg_of X G a,e,kp,⟨ga,gh,ba,ob,hd,cl,cg,ct⟩,sa⟩
theorem JaM {K:Frag}{h:Heap}{mg:Str->Option Value}{x:Str}{c fi:Addr}(X:K.In h)(G:h.Ns mainGlobals mg)(a:nsIn K mainGlobals x=some (some (.ref c)))(pg:PySem.W.plainGet K c Str.empty=true)(hd:PySem.W.hasDictIn K c=true)(po:PySem.W.plainOver K c=true)
 (sa:findIn K (.ref c) "__setattr__"=some (some (.builtin "object.__setattr__"))) (ma:PySem.W.makesIn K c=true) (i:findIn K (.ref c) "__init__"=some (some (.ref fi))) (fn:PySem.W.isFn K (.ref fi)=true) (kp:PySem.W.keepIn K (.ref c)=true):OwnOk K mg x c fi :=
 ⟨PySem.W.mg_of X G a,⟨pg,hd,po,sa⟩,⟨ma,i,fn,kp⟩⟩
section
variable {X:Cx}
theorem J7F {x:Str}{c:Addr}{pos:Pos}(hm:X.mg x=some (.ref c))(hg:Gl X x)(hd:(x == ("__debug__":Str))=false):PE X (.Name x pos) (tC (.ref c)):=J5o hg hm rfl hd
end
theorem J4M:bootBuiltins "ValueError"=some (.type "ValueError"):=by decide +kernel
theorem Jby {X:Cx}{K:Frag}{e:Expr}{te:TE}{f:Str}{pos:Pos}(ek:X.K=K)(hb:attributeBase e f X.env (eval e X.env)=eval e X.env)(he:PE X e te):PE X (.Attribute e f pos) (tXF K te f):=by subst ek;exact Jbn he hb
def Ite (K:Frag)(a:Addr):It where
 go:=fun i H=>∃ xs x,SqL K H a xs/\xs[i]?=some x
 yld:=fun i H y H'=>∃ p x,H p=none/\y=.ref p/\(∀ ys,SqL K H a ys->ys[i]?=some x)/\H'=upd H p (.tup [.int i,x])
 stop:=fun i H=>∃ xs,SqL K H a xs/\xs.length<=i
theorem turn_enum {P:Program}{w:World}{K:Frag}{elts:List Expr}{x1:Nat}{tpos:Pos}(a e it:Addr)(hne:e≠it):Turn P w K (.Tuple elts x1 tpos) (Ite K a) [e,it] e (fun i h=>∃ old,IsEnum h e it i old/\h.IsListIter it a i) where
 mem:=by simp
 obj := fun i h st b hb=>by
  obtain ⟨old,h1,o,h2,c,d⟩:=st;rcases zC.mp hb with rfl | hb
  ·exact ⟨_,h1,fun v z=>nomatch z⟩
  ·cases zv.mp hb
   exact ⟨o,h2,fun v z=>by rw [d] at z;cases z⟩
 keep:=fun i h h' st k=>by
  obtain ⟨old,h1,h2⟩:=st;exact ⟨old,k e (by simp) _ h1,h2.at fun o z=>k it (by simp) o z⟩
 item:=by
  intro X hP hw hK hc i pins s σ H E I hf st hg;subst hP hw hK;obtain ⟨xs,x,hq,hx⟩:=hg;obtain ⟨its,rv,p,hz⟩:=I.list hq;obtain ⟨u,hu,ru⟩:=rv.get hx;obtain ⟨old,h1,h2⟩:=st;obtain ⟨f0,f1,f2,f3,f4,f5⟩:=hf e (by simp);obtain ⟨g0,g1,g2,g3,g4,g5⟩:=hf it (by simp);have fr:H s.heap.objs.size=none:=I.hok.fresh (ze _);have pe:s.heap.objs.size≠e:=Nat.ne_of_gt (zS h1);refine wpAny_pyNext_enum_item h1 h2 p.isList (x:=u) (by simpa using hu) hne fun h' out st' tup sz k=>⟨.ref s.heap.objs.size,rfl,?_⟩;refine wpAny_letOwnedTupleGo_enum (s:={ s with heap:=h',toks:=s.toks+1 }) out fun h'' he' sb=>?_;have kk:∀ b o,b∉[e,it]->s.heap.get? b=some o->h''.get? b=some o:=fun b o hb z =>
   (sb.2 b (fun q=>hb (by simp [q]))).trans (k b o (fun q=>hb (by simp [q])) (fun q=>hb (by simp [q])) z)
  have kt:h''.get? s.heap.objs.size=some { cls:=.type "tuple",data:=.seq #[.int i s.toks,u] }:=(sb.2 _ pe).trans tup;have nt:∀ b v,H b=some v->b∉[e,it]:=fun b v z hb=>by
   rcases zC.mp hb with rfl | hb
   ·rw [f0] at z;cases z
   ·cases zv.mp hb
    rw [g0] at z;cases z
  have np:∀ b v,H b=some v->b≠s.heap.objs.size:=fun b v z q=>by subst q;rw [fr] at z;cases z
  have up:∀ b v,H b=some v->upd H s.heap.objs.size (.tup [.int i,x]) b=some v:=fun b v z=>by rw [Jo (np b v z)];exact z
  refine ⟨.ref s.heap.objs.size,upd H s.heap.objs.size (.tup [.int i,x]),?_,rfl,⟨_,x,fr,rfl,fun ys hy=>by rw [I.list_inj hy hq];exact hx,rfl⟩,⟨u,he',st'.at fun o z=>(sb.2 it (Ne.symm hne)).trans z⟩,fun b hb=>?_⟩
  ·show Inv X pins σ _ { s with heap:=h'',gens:=s.gens,drawn:=s.drawn,toks:=s.toks+1 }
   refine Inv.step (s:=s) (h':=h'') (t':=s.toks+1) (g':=s.gens) (d':=s.drawn) (ch:=[e,it]) I (fun b hb=>?_) (fun b o _ _ hb z _=>kk b o hb z) (fun b o _ _ hb z _=>⟨o.slots,kk b o hb z⟩) (fun b o _ z n=>by rw [Jo (zj (zS z))];exact n) (fun b o hb z=>⟨o,kk b o hb z⟩)
    (fun b ys z=>up b _ z) (fun b o v z=>up b _ z) (fun b ps z=>⟨#[],by rw [Array.append_empty];exact up b _ z⟩) (fun m hm=>?_) (fun b v z=>?_) I.bare
   ·rcases zC.mp hb with rfl | hb
    ·exact ⟨f3,f1,f4,f5⟩
    ·cases zv.mp hb
     exact ⟨g3,g1,g4,g5⟩
   ·obtain ⟨o,es,ep,ho,r⟩:=hm
    refine ⟨o,es,ep,kk _ o (fun hb=>?_) ho,r⟩;rcases zC.mp hb with q | hb
    ·exact f1 q.symm
    ·exact g1 (zv.mp hb).symm
   ·by_cases q:b=s.heap.objs.size
    ·subst q
     rw [Jd] at z;cases z;exact ⟨J9 (Nat.le_of_ble_eq_true rfl),[.int i s.toks,u],.cons ⟨_,rfl⟩ (.cons ru .nil),_,kt,rfl,_,rfl⟩
    ·rw [Jo q] at z
     refine (I.hok b v z).stay (fun c o hc y=>kk c o ?_ y) (fun c y=>up c _ y) fun c ys y=>up c _ y;rcases hc with rfl | hc
     ·exact nt _ _ z
     ·exact nt _ _ hc
  ·rcases zC.mp hb with rfl | hb
   ·rw [Jo (Ne.symm pe)];exact f0
   ·cases zv.mp hb
    obtain ⟨o,h2',_⟩:=h2;rw [Jo (zj (zS h2'))];exact g0
 done:=by
  intro X hP hw hK hc i pins s σ H E I hf st hg;subst hP hw hK;obtain ⟨xs,hq,hx⟩:=hg;obtain ⟨its,rv,p,hz⟩:=I.list hq;obtain ⟨old,h1,h2⟩:=st;obtain ⟨g0,g1,g2,g3,g4,g5⟩:=hf it (by simp);have hl:=rv.length;exact wpAny_pyNext_enum_end (I.ok.hd hc) h1 h2 p.isList (by simp;omega) fun h' eb=>⟨rfl,I.turned (t':=s.toks) (fun b o hb z=>eb b o hb z) g0 g1 g3 g4 g5⟩
 self:=fun _ _ _ _ _ st h=>by
  obtain ⟨old,h1,h2⟩:=st;exact wpAny_pyIter_enum h1 h
section
variable {X:Cx}
def Jap (K:Frag)(ta:TA):TI:=fun σ H R=>ta σ H fun vs H1=>∃ a,vs=[.ref a]/\(∃ xs,SqL K H1 a xs)/\R (Ite K a) H1
theorem J9H {a:Expr}{ta:TA}{p pos tpos:Pos}{elts:List Expr}{x1:Nat}(hg:Gl X "enumerate")(hm:X.mg "enumerate"=none)(ha:PA X [a] ta)(hn:Jw a=true):PI X (.Tuple elts x1 tpos) (.Call (.Name "enumerate" p) [a] [] pos) (Jap X.K ta):=by
 intro pins s σ H R I h;refine Call_ (J4j I hg hm boot_enumerate (PyProof.Rows.callWith_type1 (thn (ha pos pins s σ H _ I h) fun us s1 ⟨vs,H1,I1,r1,q1⟩=>?_) (JW hn) rfl));obtain ⟨l,e,⟨xs,hq⟩,q⟩:=q1;subst e;cases r1 with
 | cons r rr =>
   cases rr;cases (show _=Value.ref l from r);obtain ⟨its,rv,pl,hz⟩:=I1.list hq;refine call_enumerate_list pl.isList fun h' he st sz k=>?_;refine wpAny_pyIter_enum (s:={ s1 with heap:=h' }) he ?_;refine ⟨s1.heap.objs.size+1,[s1.heap.objs.size+1,s1.heap.objs.size],_,_,H1,rfl,I1.kept (t':=s1.toks) k,turn_enum l _ _ (Nat.succ_ne_self _),⟨_,he,st⟩,fun b hb=>?_,q⟩;rcases zC.mp hb with rfl | hb
   ·exact I1.fpOk (Nat.le_succ _) (I1.hok.fresh (Nat.le_succ _))
   ·cases zv.mp hb
    exact I1.fpOk (ze _) (I1.hok.fresh (ze _))
end
theorem ForW.enum {K:Frag}{a:Addr}{xs:List V}{g:TG}{tb:TS}{D:Ends}{σ:St}{H:Hp}(Pv:Nat->St->Hp->Prop)(h0:Pv 0 σ H)(hl:∀ i σ H,Pv i σ H->SqL K H a xs)
 (hs:∀ (i:Nat) x σ H p,xs[i]?=some x->Pv i σ H->H p=none->g (.ref p) σ (upd H p (.tup [.int i,x])) fun σ2 H2=>tb { D with nx:=Pv (i+1),ct:=Pv (i+1),bk:=D.nx } σ2 H2)
 (hd:∀ σ H,Pv xs.length σ H->D.nx σ H):ForW (Ite K a) g tb D σ H:=by
 refine ⟨fun i m σ H=>Pv i σ H/\i<=xs.length/\m=xs.length - i,⟨_,h0,zn _,rfl⟩,fun i m σ H ⟨h1,h2,h3⟩=>?_⟩;have sq:=hl i σ H h1;by_cases e:i=xs.length
 ·subst e
  exact .inl ⟨⟨xs,sq,ze _⟩,hd σ H h1⟩
 ·have lt:i<xs.length:=Nat.lt_of_le_of_ne h2 e
  refine .inr ⟨⟨xs,xs[i],sq,zr lt⟩,Pv (i+1),fun σ' H' z=>⟨xs.length - (i+1),by omega,z,lt,rfl⟩,fun x H' hy=>?_⟩;obtain ⟨p,x',hp,rfl,hx,rfl⟩:=hy;exact hs i x' σ H p (hx xs sq) h1 hp
section
variable {X:Cx}
def J8v:List V->Hp->VK->Prop:=fun xs H Q=>∃ d kvs,∃ ks:List Int,xs=[.ref d]/\H d=some (.dK kvs)/\kvs.map (·.1)=ks.map Sum.inl/\kvs.length<64 /\
 ∀ p,∀ ms:List Int,H p=none->ms.Perm ks->ms.Pairwise (·<=·)->Q (.ref p) (upd H p (.lst (ms.map V.int)))
end
open AutoSeq1 (wpAny_loadPart')
section
variable {X:Cx}
def Jah:V->List V->Hp->VK->Prop:=fun x vs H Q=>∃ d kvs k v,x=.ref d/\vs=[kV k]/\H d=some (.dK kvs)/\J1H kvs k=some v/\Q v (upd H d (.dK (JbC kvs k)))
end
section
variable {X:Cx}
def J78 (K:Frag):V->List V->Hp->VK->Prop:=fun x vs H Q=>∃ l,∃ ns:List Str,∃ z,∃ j:Nat,x=.ref l/\vs=[.str z]/\SqL K H l (ns.map V.str)/\ns[j]?=some z/\(∀ m,m<j->ns[m]?≠some z)/\Q (.int j) H
end
section
variable {M:Model}{A:Around}{E:Value->Shared->Prop}{s:Shared}{Q:Unit->Shared->Prop}{base:Heap}{env:Env}{outer:List Env}{L e:Addr}{C:Value}{ed:Option Addr}{G:Heap}{H:Hp}
theorem note_any {fl:Value}(hfr:A.frames=some (env::outer))(hl:s.heap.FunFrames base (env::outer))(hf:env.frame=some L)(hH:∀ b,s.heap.objs.size<=b->H b=none)(hG:∀ b,s.heap.objs.size<=b->G.get? b=none)(t:Trc H s.heap G e C ed fl)
 (h:∀ h',Trc H h' G e C ed (rawInt L)->h'.FunFrames base (env::outer)->Kp H G (frs (env::outer)) s.heap h'->Q () { s with heap:=h' }):wpAny M A (noteFrame (.ref e) env) Q E s:=by
 obtain ⟨hn,hHe,oe,vs,he,hc,hdi,hd,hsz,ht⟩:=t;unfold noteFrame;simp only [hf];have nfr:∀ b o ws,s.heap.get? b=some o->o.data=.fields ws->b∉frs (env::outer):=fun b o ws ho hw hm=>by
  obtain ⟨_,o',ho',hnf⟩:=hl.mem hm;rw [ho] at ho';cases ho';exact hnf ws hw
 have fin:∀ (s1:Shared) (h':Heap) (T:Addr) (oT:Obj) (ts:Array Value),s.heap.objs.size<=T->h'.get? e=some (oe.mapFields (·.setIfInBounds 1 (.ref T)))->h'.get? T=some oT->oT.data=.fields ts->ts[3]?=some (rawInt L) ->
  (∀ b o,s.heap.get? b=some o->b∉frs (env::outer)->(G.get? b≠none\/H b≠none)->h'.get? b=some o)->(∀ b o,s.heap.get? b=some o->(∀ ws,o.data≠.fields ws)->∃ sl,h'.get? b=some { o with slots:=sl }) ->
  (∀ b o,s.heap.get? b=some o->∃ o',h'.get? b=some o')->s.heap.objs.size<=h'.objs.size->Q () { s with heap:=h' }:=by
  intro s1 h' T oT ts hT e1 e2 e3 e4 k1 k2 k3 k4;have le:e<s.heap.objs.size:=zS he;refine h h' ⟨hn,hHe,_,_,e1,by rw [Obj.cls_mapFields];exact hc,?_,Obj.data_mapFields hd _,by simpa using hsz,.inr ⟨T,oT,ts,by simp [hsz],hG T hT,Nat.ne_of_gt (zm le hT),hH T hT,e2,e3,e4⟩⟩ (hl.of_keeps fun b o hb hnf=>?_) ⟨k1,fun b o hb hm=>?_,k3,k4⟩
  ·rw [<- hdi]
   obtain ⟨c,d,dt,sl⟩:=oe;cases dt<;>rfl
  ·obtain ⟨sl,q⟩:=k2 b o hb hnf
   exact ⟨_,q,rfl⟩
  ·obtain ⟨_,o',ho',hnf⟩:=hl.mem hm
   rw [hb] at ho';cases ho';exact k2 b o hb hnf
 have nee:∀ b o,s.heap.get? b=some o->(G.get? b≠none\/H b≠none)->b≠e:=fun b o hb hx z=>by
  subst z;rcases hx with hx | hx
  ·exact hx hn
  ·exact hx hHe
 rcases ht with ⟨h1,_⟩ | ⟨T,oT,ts,h1,hT,hTe,hHT,gT,hdT,h3⟩
 ·refine za (wpAny_field he hd h1 ?_)
  rw [zc (by decide)];refine J3d hfr hl hf he hd hsz fun h' T' oT' ts' q1 q2 q3 q4 q5 q6 q7 q8=>fin s h' T' oT' ts' q1 q2 q3 q4 q5 (fun b o hb hm hx=>q6 b o (nee b o hb hx) hb hm) (fun b o hb hnf=>q7 b o (fun z=>?_) hb) (fun b o hb=>?_) q8
  ·subst z
   rw [he] at hb;cases hb;exact hnf vs hd
  ·by_cases z:b=e
   ·subst z
    exact ⟨_,q2⟩
   ·obtain ⟨sl,q⟩:=q7 b o z hb
    exact ⟨_,q⟩
 ·refine za (wpAny_field he hd h1 ?_)
  rw [zd (show (Value.ref T != Value.none)=true from by simp)];refine za (wpAny_field gT hdT h3 ?_);by_cases hfl:(fl == rawInt L)=true
  ·rw [zd hfl]
   have efl:fl=rawInt L:=by simpa using hfl
   subst efl;exact zb (h s.heap ⟨hn,hHe,oe,vs,he,hc,hdi,hd,hsz,.inr ⟨T,oT,ts,h1,hT,hTe,hHT,gT,hdT,h3⟩⟩ hl (Kp.refl ..))
  rw [zc hfl];refine za (wpAny_setField gT hdT (Array.getElem?_eq_some_iff.mp h3).1 ?_);have other:∀ b,b≠T->(s.heap.update T (Obj.mapFields (·.setIfInBounds 3 Value.none))).get? b=s.heap.get? b:=fun b hb=>zT _ _ (Ne.symm hb);have self:=Heap.get?_update_self (Obj.mapFields (·.setIfInBounds 3 Value.none)) gT (Obj.isFreed_of_fields (Obj.data_mapFields hdT _));have neT:∀ b o,s.heap.get? b=some o->(G.get? b≠none\/H b≠none)->b≠T:=fun b o hb hx z=>by
   subst z;rcases hx with hx | hx
   ·exact hx hT
   ·exact hx hHT
  have neF:∀ b o,s.heap.get? b=some o->(∀ ws,o.data≠.fields ws)->b≠T:=fun b o hb hnf z=>by
   subst z;rw [gT] at hb;cases hb;exact hnf ts hdT
  have sz:(s.heap.update T (Obj.mapFields (·.setIfInBounds 3 Value.none))).objs.size=s.heap.objs.size:=Heap.size_after_update ..;refine J3d hfr (hl.of_keeps fun b o hb hnf=>⟨o,(other b (neF b o hb hnf)).trans hb,rfl⟩) hf ((other e (Ne.symm hTe)).trans he) hd hsz
   fun h' T' oT' ts' q1 q2 q3 q4 q5 q6 q7 q8=>fin s h' T' oT' ts' (by rw [sz] at q1;exact q1) q2 q3 q4 q5 (fun b o hb hm hx=>q6 b o (nee b o hb hx) ((other b (neT b o hb hx)).trans hb) hm)
    (fun b o hb hnf=>q7 b o (fun z=>?_) ((other b (neF b o hb hnf)).trans hb)) (fun b o hb=>?_) (by rw [sz] at q8;exact q8)
  ·subst z
   rw [he] at hb;cases hb;exact hnf vs hd
  ·by_cases z:b=e
   ·subst z
    exact ⟨_,q2⟩
   ·by_cases y:b=T
    ·subst y
     obtain ⟨sl,q⟩:=q7 b _ z self;exact ⟨_,q⟩
    ·obtain ⟨sl,q⟩:=q7 b o z ((other b y).trans hb)
     exact ⟨_,q⟩
theorem flight_any {fl:Value}{o:Option Addr}(hl:s.heap.FunFrames base outer)(t:Trc H s.heap G e C ed fl)
 (h:∀ h' fl',Trc H h' G e C ed fl'->h'.FunFrames base outer->Kp H G [] s.heap h'->(∀ b o,s.heap.get? b=some o->(∀ ws,o.data≠.fields ws)->h'.get? b=some o)->Q () { s with heap:=h' }):wpAny M A (setFlight (.ref e) o) Q E s:=by
 obtain ⟨hn,hHe,oe,vs,he,hc,hdi,hd,hsz,ht⟩:=t;unfold setFlight;rcases ht with ⟨h1,_⟩ | ⟨T,oT,ts,h1,hT,hTe,hHT,gT,hdT,h3⟩
 ·refine za (wpAny_field he hd h1 ?_)
  rw [zc (by decide)];exact zb (h s.heap .none ⟨hn,hHe,oe,vs,he,hc,hdi,hd,hsz,.inl ⟨h1,rfl⟩⟩ hl (Kp.refl ..) fun _ _ e _=>e)
 ·have hs3:3<ts.size:=(Array.getElem?_eq_some_iff.mp h3).1
  refine za (wpAny_field he hd h1 ?_);rw [zd (show (Value.ref T != Value.none)=true from by simp)];have other:∀ b,b≠T->(s.heap.update T (Obj.mapFields (·.setIfInBounds 3 (o.elim Value.none fun f=>rawInt f)))).get? b=s.heap.get? b:=fun b hb=>zT _ _ (Ne.symm hb);have self:=Heap.get?_update_self (Obj.mapFields (·.setIfInBounds 3 (o.elim Value.none fun f=>rawInt f))) gT (Obj.isFreed_of_fields (Obj.data_mapFields hdT _));refine wpAny_setField gT hdT hs3 (h _ (o.elim Value.none fun f=>rawInt f) ⟨hn,hHe,oe,vs,(other e (Ne.symm hTe)).trans he,hc,hdi,hd,hsz,.inr ⟨T,_,_,h1,hT,hTe,hHT,self,Obj.data_mapFields hdT _,by simp [hs3]⟩⟩ (hl.of_keeps fun b ob hb hnf=>⟨ob,(other b fun z=>?_).trans hb,rfl⟩)
   ⟨fun b ob hb _ hx=>(other b fun z=>?_).trans hb,fun _ _ _ hm=>(nomatch hm),fun b ob hb=>?_,Nat.le_of_eq (Heap.size_after_update ..).symm⟩ fun b ob hb hnf=>(other b fun z=>?_).trans hb)
  ·subst z
   rw [gT] at hb;cases hb;exact hnf ts hdT
  ·subst z
   rcases hx with hx | hx
   ·exact hx hT
   ·exact hx hHT
  ·by_cases z:b=T
   ·subst z
    exact ⟨_,self⟩
   ·exact ⟨ob,(other b z).trans hb⟩
  ·subst z
   rw [gT] at hb;cases hb;exact hnf ts hdT
end
theorem J7N {X:Cx}{fl:Value}{pins:List (Addr×Obj)}{σ:St}{H:Hp}{s:Shared}{a:Addr}{C:Value}{ed:Option Addr}{E:XK}{E':Value->Shared->Prop}(hf:X.env.frame=some X.env.locals)(hst:X.stack=X.env::X.outer)(hex:X.ex=[])
 (I:Inv X pins σ H s) (t:Trc H s.heap X.s₀.heap a C ed fl) (q:E C ed H) :
 wpAny (model X.prog X.w) X.A (leaving X.env (.ref a)) (fun _ s'=>CXE X.prog X.w X.outer X.H₀ X.s₀ E (.ref a) s') E' s:=by
 have stk:s.heap.FunFrames X.base (X.env::X.outer):=hst ▸ I.stack;have sfr:∀ b∈frs (X.env::X.outer),H b=none:=hst ▸ I.stkFree;unfold leaving;refine za (note_any (hst ▸ I.ok.frames) stk hf (fun b hb=>I.hok.fresh hb) (fun b hb=>I.back hex b (J4p hb)) t fun h1 t1 f1 k1=>?_);refine flight_wp (s:={ s with heap:=h1 }) (outer:=X.env::X.outer) f1 t1 fun h2 t2 f2 k2 _=>?_;have hlt:∀ b o,X.s₀.heap.get? b=some o->X.s₀.heap.get? b≠none:=fun b o e=>by rw [e];simp
 have hnl:∀ b o,X.s₀.heap.get? b=some o->b≠X.env.locals:=fun b o e=>zj (zm (zS e) I.ok.above);have mem:∀ b,b∈frs (X.env::X.outer)->b=X.env.locals\/b∈frs X.outer:=fun b hb=>by
  unfold frs at hb ⊢;rw [filterMap_cons,hf] at hb;exact zC.mp hb
 have mem2:∀ b,b∈frs X.outer->b∈frs (X.env::X.outer):=fun b hb=>by
  unfold frs at hb ⊢;rw [filterMap_cons,hf];exact zA _ hb
 refine ⟨a,C,ed,H,rfl,I.os,I.bare,⟨fun b o e hn hb _=>?_,fun b o e hn hb _=>?_,fun b o e hn _=>?_,fun b o e _=>?_,I.base.tups,I.base.frzs,I.base.tbls⟩,k2.hok (fun _ z=>absurd z (by simp)) (k1.hok sfr I.hok),t2,q⟩
 ·have e1:=I.base.keep b o e hn hb (by rw [hex];simp)
  have e2:=k1.keep b o e1 (fun z=>(mem b z).elim (hnl b o e) hb) (.inl (hlt b o e));exact k2.keep b o e2 (by simp) (.inl (hlt b o e))
 ·obtain ⟨sl,e1⟩:=I.base.slot b o e hn hb (by rw [hex];simp)
  obtain ⟨sl',e2⟩:=k1.slot b _ e1 (mem2 b hb);exact ⟨sl',k2.keep b _ e2 (by simp) (.inl (hlt b o e))⟩
 ·exact I.base.free b o e hn (by rw [hex];simp)
 ·obtain ⟨o1,e1⟩:=I.base.there b o e (by rw [hex];simp)
  obtain ⟨o2,e2⟩:=k1.there b o1 e1;exact k2.there b o2 e2
structure Leaves (X:Cx)(E:XK):Prop where
 ex:X.ex=[]
 stk:X.stack=X.env::X.outer
 fr:X.env.frame=some X.env.locals
 on:∀ pins σ H s a C ed fl,Inv X pins σ H s->Trc H s.heap X.s₀.heap a C ed fl->E C ed H->X.xe (.ref a) s
theorem J4X {P:Program}{w:World}{K:Frag}{mg:Str->Option Value}{base:Heap}{N:List Str}{qual:Str}{scope:Scope}{f:Addr}{cd:Value}{A:Around}{outer:List Env}{s:Shared}{H:Hp}{E:XK} :
 Leaves (J3E (CXE P w) P w K mg base N qual scope f cd A outer s H E) E:=⟨rfl,rfl,rfl,fun _ _ _ _ _ _ _ _ I t q=>J7N (X:=J3E (CXE P w) P w K mg base N qual scope f cd A outer s H E) rfl rfl rfl I t q⟩
structure ToldC (X:Cx)(E:XK):Prop where
 on:∀ pins σ H s e s',Inv X pins σ H s->CXE X.prog X.w X.stack H s E e s'->X.xe e s'
section
variable {X:Cx}{k:Nat}{f C:Addr}{fd:FuncData}{ps:List Str}{sp:Sp}{x m:Str}{p pos apos:Pos}{e o:Expr}{es:List Expr}{ta:TE}{t:TA}{E:XK}
theorem J9y {pins:List (Addr×Obj)}{σ:St}{H:Hp}{s:Shared}{Q:VK}{us:List Value}{vs:List V}(T:ToldC X E)(F:FnOk X.prog X.w X.K X.mg X.base (CXE X.prog X.w) k f fd ps sp)(hr:Room k X.A)(hb:Binds X.K fd ps [])
 (I:Inv X pins σ H s) (r:Vals vs us) (h:sp vs H Q E):wpAny (model X.prog X.w) X.A (call (.ref f) us) (EP X pins σ Q) X.xe s:=by
 have hl:(us++([]:List Value)).length=ps.length:=by rw [append_nil,<- r.length];exact F.len _ _ _ _ h
 have bd:=hb s us I.kIn hl;rw [append_nil] at bd;refine wpAny_call (codeAny_mono (F.run X.A X.stack s H ⟨us,[]⟩ us vs Q E hr I.env0 bd r h) fun r s' hq=>?_)
 match r,hq with
 | .error e,hq=>exact T.on _ _ _ _ _ _ I hq
 | .ok (.ret u),hq=>exact I.after hq
 | .ok .next,hq=>exact zp hq
 | .ok .brk,hq=>exact zp hq
 | .ok .cont,hq=>exact zp hq
theorem J7f {st:Stmt}(T:ToldC X E)(D:DefOk X.K X.mg x st ps f fd)(G:FnOk X.prog X.w X.K X.mg X.base (CXE X.prog X.w) k f fd ps sp)(hr:Room k X.A)
 (hg:Gl X x) (hdb:(x == ("__debug__":Str))=false) (hn:(e::es).all Jw=true) (ha:PA X (e::es) t) :
 PE X (.Call (.Name x p) (e::es) [] pos) (J5a (fun _=>True) sp E t):=by
 have hs:Jw e=true/\es.all Jw=true:=by rw [all_cons,Bool.and_eq_true] at hn;exact hn
 intro pins s σ H Q I h;refine wpAny_Call_Name_kw (J0O I hg D.m ?_ hdb);refine PySem.W.callWith_K (h₀:=X.base) I.ok.mod.kin D.F.kp (thn (ha pos pins s σ H _ I h) fun us s1 ⟨vs,H1,I1,r,_,q⟩=>⟨I1.kIn,?_⟩) (JW hs.1) (J06 hs.2);exact J9y T G hr D.b I1 r q
end
def J1o (X:Cx)(scope:Scope)(N':List Str)(cl:List (Str×Addr))(s2:Shared)(H2:Hp)(C:Addr)(fp:List Addr)(xe:Value->Shared->Prop):Cx:={ Ju X scope N' cl s2 H2 C fp with xe:=xe }
section
variable {X:Cx}{pins:List (Addr×Obj)}{σ:St}{H:Hp}{s:Shared}{W:Value->Shared->Prop}
theorem Inv.toXe (I:Inv X pins σ H s):Inv { X with xe:=W } pins σ H s :=
 have ok:=I.ok
 ⟨⟨ok.mod,ok.kind,ok.glob,ok.blt,ok.above,ok.inj,ok.has,ok.cab,ok.hd,ok.frames,ok.stk,ok.exf,ok.bs,ok.bsz,ok.noex,ok.exfs,ok.funs,ok.frf⟩,I.os,I.bare,I.base,I.loc,I.cell,I.free,I.freeC,I.pin,I.hok,I.len⟩
theorem Inv.offXe (I:Inv { X with xe:=W } pins σ H s):Inv X pins σ H s :=
 have ok:=I.ok
 ⟨⟨ok.mod,ok.kind,ok.glob,ok.blt,ok.above,ok.inj,ok.has,ok.cab,ok.hd,ok.frames,ok.stk,ok.exf,ok.bs,ok.bsz,ok.noex,ok.exfs,ok.funs,ok.frf⟩,I.os,I.bare,I.base,I.loc,I.cell,I.free,I.freeC,I.pin,I.hok,I.len⟩
end
theorem J6U {Ex:Value->Shared->Prop}{prog:Program}{w:World}{A:Around}{R:Result->Shared->Prop}{s:Shared}{elt tg iter:Expr}{ifs:List Expr}{scope:Scope}{pos:Pos}{it acc:Value}{env:Env}(I:Nat->Shared->Prop)
 (turn : ∀ n s,I n s->wpAny (model prog w) A (pyNext it) (fun r s1=>match r with
  | none=>R (.ok .next) s1
  | some v=>wpAny (model prog w) A (letOwnedTupleGo tg it v) (fun _ s2=>wpAny (model prog w) A (assign tg env v) (fun _ s3=>wpAny (model prog w) A (J6E ifs env) (fun ok s4 =>
   if ok=true then wpAny (model prog w) A (eval elt env) (fun x s5=>wpAny (model prog w) A (call (.builtin "list.append") [acc,x]) (fun _ s6=>∃ m,m<n/\I m s6) (fun _ _=>False) s5) Ex s4
   else ∃ m,m<n/\I m s4) Ex s3) Ex s2) (fun _ _=>False) s1) (fun _ _=>False) s)
 (hEx:∀ e s',Ex e s'->notedBy (model prog w) A env (fun x s''=>R (.error x) s'') e s') (n:Nat) (h:I n s):codeAny (model prog w) A (.compLoop (.ListComp elt [⟨tg,iter,ifs,0⟩] scope pos) 0 it acc env) R s:=by
 refine codeAny_loop rfl I (fun n s hI=>?_) n h;show wpAny _ A ((compTurn (.ListComp elt [⟨tg,iter,ifs,0⟩] scope pos) 0 it acc env).onRaise (fun x=>do noteFrame x env;theTreesLotGoes x)) _ _ s;refine wpAny_noted ?_;have no:∀ (e:Value) (s':Shared),False->notedBy (model prog w) A env (fun x s''=>R (.error x) s'') e s':=fun _ _ z=>z.elim;rw [compTurn_list];refine za (wpAny_standAt (za (wpAny_mono (turn n s hI) (fun r s1 h1=>?_) no)));cases r with
 | none=>exact zb h1
 | some v =>
   refine za (wpAny_mono h1 (fun _ s2 h2=>za (wpAny_mono h2 (fun _ s3 h3=>za (wpAny_mono h3 (fun ok s4 h4=>?_) hEx)) hEx)) no);cases ok with
   | false=>exact zb ⟨rfl,h4⟩
   | true=>exact za (za (wpAny_mono h4 (fun x s5 h5=>za (wpAny_mono h5 (fun _ s6 h6=>zb (zb ⟨rfl,h6⟩)) no)) hEx))
def J6m (X':Cx)(EX:XK):Value->Shared->Prop:=fun e s'=>∃ pins σ H s,Inv X' pins σ H s/\CXE X'.prog X'.w X'.stack H s EX e s'
theorem J7u {X:Cx}{scope:Scope}{N':List Str}{cl:List (Str×Addr)}{s2:Shared}{H2:Hp}{C:Addr}{fp:List Addr}{EX:XK}:ToldC (J1o X scope N' cl s2 H2 C fp (J6m (Ju X scope N' cl s2 H2 C fp) EX)) EX :=
 ⟨fun pins σ H s e s' I h=>⟨pins,σ,H,s,Inv.offXe I,h⟩⟩
section
variable {X:Cx}{pins:List (Addr×Obj)}{σ:St}{H2:Hp}{s2:Shared}{scope:Scope}{own rest:List Str}{cl:List (Str×Addr)}{fp:List Addr}{E:Value->Shared->Prop}
theorem comp_runX {EX:XK}{elt tg iter:Expr}{ifs:List Expr}{pos:Pos}{J:It}{it:Addr}{tn:Nat->Heap->Prop}{g:TG}{tt:TT}{te:TE}{fin:List V->Hp->Prop}{RR:Value->Addr->Result->Shared->Prop}{D:Nat}(hD:s2.heap.objs.size=D)(hcalm:X.calm=true)
 (I:Inv X pins σ H2 s2) (S:CompSc scope X.env.scope X.N rest) (hc1:∀ n c,cl.lookup n=some c->X.env.cells.lookup n=some c) (hc2:∀ n,(n,NameKind.free)∈scope.names->∃ c,cl.lookup n=some c)
 (T:Turn X.prog X.w X.K tg J fp it tn) (st:tn 0 s2.heap) (hf:∀ b∈fp,J2W X pins H2 b)
 (hg:PG (J1o X scope (own++rest) cl s2 H2 (D+1:Nat) fp (J6m (Ju X scope (own++rest) cl s2 H2 (D+1:Nat) fp) EX)) tg g) (ht:PTs (J1o X scope (own++rest) cl s2 H2 (D+1:Nat) fp (J6m (Ju X scope (own++rest) cl s2 H2 (D+1:Nat) fp) EX)) ifs tt)
 (he:PE (J1o X scope (own++rest) cl s2 H2 (D+1:Nat) fp (J6m (Ju X scope (own++rest) cl s2 H2 (D+1:Nat) fp) EX)) elt te)
 (hX:∀ e s',J6m (Ju X scope (own++rest) cl s2 H2 (D+1:Nat) fp) EX e s'->notedBy (model X.prog X.w) X.A (compEnvC scope cl (D+1) X.env) (fun x s''=>RR (.ref D) (D+1:Nat) (.error x) s'') e s')
 (hw:J6h J g tt te fin (List.replicate own.length none++σ) H2)
 (hR:∀ (s':Shared) (H':Hp) (ys:List V),Inv X pins σ (upd H' D (.lst ys)) s'->(∃ m,s'.heap.Ns (D+1:Nat) m)->H' D=none->H' (D+1:Nat)=none->fin ys H'->RR (.ref D) (D+1:Nat) (.ok .next) s') :
 wpAny (model X.prog X.w) X.A (newList []) (fun acc s3=>wpAny (model X.prog X.w) X.A (newFunctionEnv scope X.env.globals cl [] X.env.qual none .none (some X.env)) (fun cenv s4 =>
  codeAny (model X.prog X.w) X.A (.compStart (.ListComp elt [⟨tg,iter,ifs,0⟩] scope pos) 0 (.ref it) acc { cenv with scope:=relabel scope X.env }) (RR acc cenv.locals) s4) E s3) E s2:=by
 refine wpAny_newObj_type (wpAny_newFunctionEnv S.cell (by intro y hy;simp at hy) (fun h1 hns hsb=>?_) S.kind);dsimp only at hns hsb ⊢;generalize hHp:s2.heap.push { cls:=.type "list",dict:=none,data:=.seq ([]:List Value).toArray }=Hp2 at hns hsb ⊢;have hC:Hp2.objs.size=s2.heap.objs.size+1:=by rw [<- hHp,Heap.size_push]
 rw [hD] at hC;rw [hC] at hns hsb ⊢;rw [hD];have nDC:D≠D+1:=zj (Nat.lt_succ_self _);have below:∀ b o,s2.heap.get? b=some o->b<D:=fun b o e=>by rw [<- hD];exact zS e
 have old:∀ b o,s2.heap.get? b=some o->h1.get? b=some o:=fun b o e=>by
  exact hsb.extBut b o (zj (Nat.lt_succ_of_lt (below b o e))) (zQ _ (hHp ▸ zQ _ e))
 have hDo:h1.get? D=some { cls:=.type "list",data:=.seq ([]:List Value).toArray 0 } :=
  hsb.extBut _ _ nDC (zQ _ (by rw [<- hHp,<- hD];exact zR _ rfl))
 have hfo:∀ b∈fp,∃ o,s2.heap.get? b=some o:=fun b hb=>let ⟨o,e,_⟩:=T.obj 0 _ st b hb;⟨o,e⟩;have st1:tn 0 h1:=T.keep _ _ _ st fun b hb o e=>old b o e;have J0:Inv (Ju X scope (own++rest) cl s2 H2 (D+1:Nat) fp) [] (List.replicate own.length none++σ) H2 { s2 with heap:=h1,toks:=s2.toks } :=
  comp_start I S hc1 hc2 (by omega) hf hfo old hns
 have nfs:D∉(Ju X scope (own++rest) cl s2 H2 (D+1:Nat) fp).fs:=fun z=>by
  have z':D∈frs X.stack:=z;rcases zC.mp (I.stkSub D z') with q | q
  ·exact Nat.lt_irrefl D (by have h:=I.lt;rw [<- q,hD] at h;exact h)
  ·exact I.nofs (Nat.le_of_eq hD) q
 have ncl:∀ x c,(Ju X scope (own++rest) cl s2 H2 (D+1:Nat) fp).env.cells.lookup x=some c->c≠D:=fun x c e z=>by
  obtain ⟨v,o,q,d⟩:=I.cell x c (hc1 x c e);exact zj (below c o q) z
 have loop:∀ s3:Shared,s3={ s2 with heap:=h1,toks:=s2.toks } ->
  codeAny (model X.prog X.w) X.A (.compLoop (.ListComp elt [⟨tg,iter,ifs,0⟩] scope pos) 0 (.ref it) (.ref D) (compEnvC scope cl (D+1) X.env)) (RR (.ref D) (D+1)) s3:=by
  rintro s3 rfl;obtain ⟨W,⟨m0,w0⟩,turn⟩:=hw;refine J6U (Ex:=J6m (Ju X scope (own++rest) cl s2 H2 (D+1:Nat) fp) EX) (fun m s'=>∃ (i:Nat) (ys:List V) (its:List Value) (n:Nat) (σ':St) (H':Hp),Inv (Ju X scope (own++rest) cl s2 H2 (D+1:Nat) fp) [] σ' H' s'/\tn i s'.heap/\(∀ b∈fp,H' b=none) /\
   s'.heap.get? D=some { cls:=.type "list",data:=.seq its.toArray n }/\H' D=none/\Vals ys its/\ys.length<=sizeLine/\W i m ys σ' H') ?_ hX m0
   ⟨0,[],[],0,_,H2,J0,st1,fun b hb=>(hf b hb).1,hDo,by rw [<- hD];exact I.fresh,.nil,by simp,w0⟩
  rintro m s3 ⟨i,ys,its,n,σ3,H3,J3,st3,fr3,ho3,hn3,r3,z3,w3⟩;have pin:∀ {σ':St} {H':Hp} {s':Shared},Inv (Ju X scope (own++rest) cl s2 H2 (D+1:Nat) fp) [] σ' H' s'->s'.heap.get? D=some { cls:=.type "list",data:=.seq its.toArray n }->H' D=none ->
   Inv (Ju X scope (own++rest) cl s2 H2 (D+1:Nat) fp) [(D,{ cls:=.type "list",data:=.seq its.toArray n })] σ' H' s':=fun {σ' H' s'} K1 K2 K3 =>
   K1.pins_of fun p hp=>by
    have e:p=(D,{ cls:=.type "list",data:=.seq its.toArray n }):=by simpa using hp
    subst e;exact ⟨K2,K3,nDC,nfs,fun v z=>nomatch z⟩
  have fpk:∀ {H':Hp},(∀ b∈fp,H' b=none)->∀ b∈fp,J2W (Ju X scope (own++rest) cl s2 H2 (D+1:Nat) fp) [(D,{ cls:=.type "list",data:=.seq its.toArray n })] H' b:=fun {H'} fr b hb=>by
   obtain ⟨o,e⟩:=hfo b hb;have lt:=below b o e;refine ⟨fr b hb,zj (Nat.lt_succ_of_lt lt),?_,.inl hb,fun x c q=>(hf b hb).2.2.2.2.1 x c (hc1 x c q),fun p hp=>?_⟩
   ·intro z
    have z':b∈frs X.stack:=z;rcases zC.mp (I.stkSub b z') with q | q
    ·exact (hf b hb).2.1 q
    ·exact (hf b hb).2.2.1 q
   ·have e:p=(D,{ cls:=.type "list",data:=.seq its.toArray n }):=by
     have hp':p∈[(D,({ cls:=.type "list",data:=.seq its.toArray n }:Obj))]:=hp;simpa using hp'
    subst e;exact Nat.ne_of_gt lt
  have J3p:=pin J3 ho3 hn3;rcases turn i m ys σ3 H3 w3 with ⟨stop,q⟩ | ⟨go,hlt,N,hN,step⟩
  ·refine thn (T.done (Ju X scope (own++rest) cl s2 H2 (D+1:Nat) fp) rfl rfl rfl hcalm i _ s3 σ3 H3 _ J3p (fpk fr3) st3 stop) fun r s4 ⟨hr,J4⟩=>?_
   subst hr;have ho4:=J4.pin _ (zI _ zB);refine hR s4 H3 ys (J6e I J4 hf (by omega) hn3 ho4.1 r3 z3) ?_ hn3 J4.free q;obtain ⟨mm,hmm,_⟩:=J4.loc;exact ⟨mm,hmm⟩
  ·refine thn (T.item (Ju X scope (own++rest) cl s2 H2 (D+1:Nat) fp) rfl rfl rfl hcalm i _ s3 σ3 H3 _ J3p (fpk fr3) st3 go) fun r s4 ⟨u,hr,h4⟩=>?_
   subst hr;refine thn h4 fun _ s5 ⟨x,H5,J5,r5,y5,st5,fr5⟩=>?_;have J5':=J5.pinned (fpk fr5) (T.obj _ _ st5);refine thn (hg _ s5 σ3 H5 x u _ (Inv.toXe J5') r5 (step x H5 y5)) fun _ s6 ⟨σ6,H6,J6,q6⟩=>?_;refine thn (ht _ s6 σ6 H6 _ J6 q6) fun b s7 ⟨H7,J7,q7⟩=>?_;have stay:∀ {σ':St} {H':Hp} {s':Shared},Inv (Ju X scope (own++rest) cl s2 H2 (D+1:Nat) fp) ([(D,{ cls:=.type "list",data:=.seq its.toArray n })]++J3x fp s5.heap) σ' H' s' ->
    Inv (Ju X scope (own++rest) cl s2 H2 (D+1:Nat) fp) [] σ' H' s'/\tn (i+1) s'.heap/\(∀ b∈fp,H' b=none)/\s'.heap.get? D=some { cls:=.type "list",data:=.seq its.toArray n }/\H' D=none:=fun {σ' H' s'} K1=>by
    refine ⟨K1.pins_of fun p hp=>absurd hp (by simp),T.keep _ _ _ st5 fun b hb o e=>(K1.pin (b,o) (zI _ (zI _ (J0J hb e)))).1,fun b hb=>?_,?_,?_⟩
    ·obtain ⟨o,e,d⟩:=T.obj _ _ st5 b hb
     exact (K1.pin (b,o) (zI _ (zI _ (J0J hb e)))).2.1
    ·exact (K1.pin (D,_) (zI _ (zJ _ zB))).1
    ·exact (K1.pin (D,_) (zI _ (zJ _ zB))).2.1
   cases b with
   | false =>
     rw [zc zf] at q7 ⊢;obtain ⟨k1,k2,k3,k4,k5⟩:=stay (Inv.offXe J7);obtain ⟨m',hm,w'⟩:=hN _ _ _ q7;exact ⟨m',hm,i+1,ys,its,n,σ6,H7,k1,k2,k3,k4,k5,r3,z3,w'⟩
   | true =>
     rw [zd rfl] at q7 ⊢;refine thn (he _ s7 σ6 H7 _ J7 q7) fun xv s8 ⟨y,H8,J8,r8,q8⟩=>?_;obtain ⟨k1,k2,k3,k4,k5⟩:=stay (Inv.offXe J8);refine call_meets F.slot_list_append ⟨_,k4,rfl⟩ F.entry_list_append (F.args_list_append_2 _ _) (PySem.list_append D its.toArray n xv (by rw [zw,<- r3.length];omega)) ⟨k4,?_⟩;obtain ⟨m',hm,w'⟩:=hN _ _ _ q8;have ho9:=PySem.IsL.update k4 (fun a=>a.push xv);have ek:∀ b o,b≠D->s8.heap.get? b=some o->(s8.heap.update D (Obj.mapSeq (fun a=>a.push xv))).get? b=some o:=fun b o hb e=>(zT s8.heap (Obj.mapSeq _) (Ne.symm hb)).trans e;refine ⟨m',hm,i+1,ys++[y],its++[xv],(if ((its.toArray.push xv).size == its.toArray.size)=true then n else n+1),σ6,H8,k1.turned (it:=D) (t':=s8.toks) ek k5 nDC (.inr (show s2.heap.objs.size<=D by omega)) ncl (fun p hp=>absurd (show p∈([]:List (Addr×Obj)) from hp) (by simp)),?_,k3,?_,k5,r3.append (.cons r8 .nil),?_,w'⟩
     ·refine T.keep _ _ _ k2 fun b hb o e=>ek b o ?_ e
      obtain ⟨o',e'⟩:=hfo b hb;exact zj (below b o' e')
     ·have e2:its.toArray.push xv=(its++[xv]).toArray:=by simp
      rw [<- e2];exact ho9
     ·simp only [zy,length_cons,length_nil];omega
 exact codeAny_compStart_list (loop _ rfl) (T.self X.A 0 _ _ _ st1 (loop _ rfl))
end
section
variable {X:Cx}{pins:List (Addr×Obj)}{σ:St}{H2:Hp}{s2:Shared}{scope:Scope}{N':List Str}{cl:List (Str×Addr)}{fp:List Addr}{C:Addr}{EX:XK}{use:Option (Value->Sem Unit)}{QQ:Value->Shared->Prop}{acc:Value}
theorem comp_throw (L:Leaves X EX)(I:Inv X pins σ H2 s2)(hf:∀ b∈fp,J2W X pins H2 b)(hC:s2.heap.objs.size<=C):∀ e s',J6m (Ju X scope N' cl s2 H2 C fp) EX e s' ->
 notedBy (model X.prog X.w) X.A (compEnvC scope cl C X.env) (fun x s''=>compPost (model X.prog X.w) X.A X.xe use QQ acc C (.error x) s'') e s':=by
 rintro e s' ⟨pins1,σ1,H1,s1,J1,a,Cv,ed,H',rfl,os,bare,un,hok,t,q⟩;have J:Inv (Ju X scope N' cl s2 H2 C fp) pins1 σ1 H' s':=J1.call' os un hok bare (fun b z=>absurd z (by simp));have u:Un (frs X.stack) fp H2 H' s2.heap s'.heap:=J.base;have u1:Un (frs X.stack) fp H2 H1 s2.heap s1.heap:=J1.base;have hfr:X.A.frames=some (X.env::X.outer):=L.stk ▸ I.ok.frames;have hst:X.stack=X.env::X.outer:=L.stk;have hfun:s'.heap.FunFrames X.base (X.env::X.outer):=hst ▸ (show s'.heap.FunFrames X.base X.stack from J.stack);have sfr:∀ b∈frs (X.env::X.outer),H' b=none:=hst ▸ (show ∀ b∈frs X.stack,H' b=none from J.stkFree);have low:∀ b o,s2.heap.get? b=some o->b≠C:=fun b o z=>zj (zm (zS z) hC);have frl:∀ b∈frs X.stack,b≠C:=fun b hb=>by
  obtain ⟨_,o,ho,_⟩:=I.stack.mem hb;exact low b o ho
 have hG:∀ b,s'.heap.objs.size<=b->s1.heap.get? b=none:=fun b hb=>by
  cases z:s1.heap.get? b with
  | none=>rfl
  | some o =>
    obtain ⟨o',e'⟩:=un.there b o z (by simp);exact absurd (zS e') (Nat.not_lt.mpr hb)
 show wpAny _ X.A (noteFrame (.ref a) (compEnvC scope cl C X.env)) _ _ s';have en:noteFrame (.ref a) (compEnvC scope cl C X.env)=noteFrame (.ref a) X.env:=rfl;rw [en];refine note_wp hfr hfun L.fr (fun b hb=>J.hok.fresh hb) hG t fun h1 t1 f1 k1=>?_;have c1:s1.heap.get? C≠none:=by
  obtain ⟨m,⟨o,_,_,ho,_⟩,_⟩:=J1.loc;have ho':s1.heap.get? C=some o:=ho;rw [ho'];simp
 have fC:H' C=none:=J.free;have old:∀ b,s1.heap.get? b=none->X.s₀.heap.get? b=none:=fun b hb=>by
  cases z:X.s₀.heap.get? b with
  | none=>rfl
  | some o =>
    obtain ⟨o1,e1⟩:=I.base.there b o z (by rw [L.ex];simp);have nf:b∉fp:=fun hfb=>by
     rcases (hf b hfb).2.2.2.1 with y | y
     ·rw [L.ex] at y
      cases y
     ·exact absurd (zS z) (Nat.not_lt.mpr y)
    obtain ⟨o2,e2⟩:=u1.there b o1 e1 nf;rw [hb] at e2;cases e2
 have fin:∃ m,({ s' with heap:=h1 }:Shared).heap.Ns C m/\∀ h',Heap.SameBut C h1 h'->∀ cenv:Env,cenv.locals=C->wpAny (model X.prog X.w) X.A (PySem.passOn "comprehension.variables-let-go" (.ref a) cenv:Sem Value) (fun _ _=>False) X.xe { s' with heap:=h' }:=by
  obtain ⟨m,⟨o,es,ep,ho,hr⟩,_⟩:=J.loc;have ho':s'.heap.get? C=some o:=ho;refine ⟨m,⟨o,es,ep,k1.keep C o ho' (fun z=>frl C (hst ▸ z) rfl) (.inl c1),hr⟩,fun h3 sb cenv _=>?_⟩;have nC:∀ b,s1.heap.get? b=none->b≠C:=fun b hb z=>by subst z;exact c1 hb
  have st3:∀ b,b≠C->h3.get? b=h1.get? b:=fun b hb=>sb.2 b hb;obtain ⟨hn,hHe,oe,vs,he,hc,hdi,hd,hsz,ht⟩:=t1;rcases ht with ⟨_,z⟩ | ⟨T,oT,ts,hv,hT,hTe,hHT,gT,hdT,h3'⟩
  ·exact absurd z (by simp [rawInt])
  have he3:h3.get? a=some oe:=(st3 a (nC a hn)).trans he;have t3:Trc H' h3 s1.heap a Cv ed (rawInt X.env.locals):=⟨hn,hHe,oe,vs,he3,hc,hdi,hd,hsz,.inr ⟨T,oT,ts,hv,hT,hTe,hHT,(st3 T (nC T hT)).trans gT,hdT,h3'⟩⟩;unfold PySem.passOn;refine za (wpAny_field (s:={ s' with heap:=h3 }) he3 hd hv ?_);rw [zc (show ¬ ((Value.ref T == Value.none)=true) from by simp)];refine za (flight_any (s:={ s' with heap:=h3 }) (base:=X.base) (outer:=[]) trivial t3 fun h4 fl' t4 _ k4 _=>wpAny_throw ?_);have hok4:HOk X.prog X.w H' h4:=k4.hok (fun _ z=>absurd z (by simp)) (fun b ob eb=>((k1.hok sfr (show HOk X.prog X.w H' s'.heap from J.hok)) b ob eb).stay (fun c v hb qq=>by
   have hne:H' c≠none:=by
    rcases hb with rfl | hb
    ·rw [eb];simp
    ·rw [hb];simp
   exact (st3 c fun z=>hne (by rw [z];exact fC)).trans qq) (fun _ qq=>qq) fun _ _ qq=>qq)
  have in1:∀ b o,s2.heap.get? b=some o->b∉fp->s1.heap.get? b≠none:=fun b o z hx=>by
   obtain ⟨o',e'⟩:=u1.there b o z hx;rw [e'];simp
  have I4:Inv X pins σ H' { s' with heap:=h4 }:=by
   refine I.call' (s':={ s' with heap:=h4 }) (ch:=fp) J.os ⟨fun b o z n hb hx=>?_,fun b o z n hb hx=>?_,u.free,fun b o z hx=>?_,u.tups,u.frzs,u.tbls⟩ hok4 bare fun b hb=>?_
   ·have e1:=u.keep b o z n hb hx
    have e2:=k1.keep b o e1 (by rw [<- hst];exact hb) (.inl (in1 b o z hx));exact k4.keep b o ((st3 b (low b o z)).trans e2) (by simp) (.inl (in1 b o z hx))
   ·obtain ⟨sl,e1⟩:=u.slot b o z n hb hx
    obtain ⟨sl',e2⟩:=k1.slot b _ e1 (by rw [<- hst];exact hb);exact ⟨sl',k4.keep b _ ((st3 b (low b o z)).trans e2) (by simp) (.inl (in1 b o z hx))⟩
   ·obtain ⟨o1,e1⟩:=u.there b o z hx
    obtain ⟨o2,e2⟩:=k1.there b o1 e1;exact k4.there b o2 ((st3 b (low b o z)).trans e2)
   ·obtain ⟨_,f1,_,f3,f4,f5⟩:=hf b hb
    exact ⟨f3,f1,f4,f5⟩
  exact L.on pins σ H' _ a Cv ed fl' I4 (t4.older old) q
 cases use<;>exact fin
end
section
variable {X:Cx}{elt tg iter:Expr}{ifs:List Expr}{scope:Scope}{pos:Pos}{wi:TI}{g:TG}{tt:TT}{te:TE}{EX:XK}
theorem J5U (L:Leaves X EX)(own rest:List Str)(hcalm:X.calm=true)(S:CompSc scope X.env.scope X.N rest)(hi:PI X tg iter wi)
 (hg:∀ cl s2 H2 C fp xe,PG (J1o X scope (own++rest) cl s2 H2 C fp xe) tg g) (ht:∀ cl s2 H2 C fp xe,PTs (J1o X scope (own++rest) cl s2 H2 C fp xe) ifs tt) (he:∀ cl s2 H2 C fp xe,ToldC (J1o X scope (own++rest) cl s2 H2 C fp xe) EX->PE (J1o X scope (own++rest) cl s2 H2 C fp xe) elt te)
 (hs:∀ x,foldedSetIterable iter X.env x=pure x:=by intro _;rfl):PE X (.ListComp elt [⟨tg,iter,ifs,0⟩] scope pos) (J5J own.length wi g tt te):=by
 intro pins s σ H Q I h;obtain ⟨cl,hcl,hc1,hc2⟩:=I.closed S;rw [eval_ListComp];refine wpAny_comprehension_free (use:=none) rfl hs hcl S.kind S.loc (thn (hi pins s σ H _ I h) fun v s1 h1=>thn h1 fun itv s2 h2=>?_);obtain ⟨it,fp,tn,J,H2,e,I2,T,st,hf,hw⟩:=h2;subst e;refine comp_runX (EX:=EX) (RR:=fun acc C=>compPost (model X.prog X.w) X.A X.xe none (EP X pins σ Q) acc C) (D:=s2.heap.objs.size) rfl hcalm I2 S hc1 hc2 T st hf (hg _ _ _ _ _ _) (ht _ _ _ _ _ _) (he _ _ _ _ _ _ J7u) (comp_throw L I2 hf (Nat.le_succ _)) hw ?_;intro s' H' ys J' ⟨m,hm⟩ hD hC q;refine ⟨m,hm,fun h' sb=>⟨.ref s2.heap.objs.size,_,I2.letgo (pins':=pins) (b:=(s2.heap.objs.size+1:Nat)) J' (Nat.le_succ _) ?_ sb,rfl,q _ hD⟩⟩;rw [Jo (Nat.ne_of_gt (Nat.lt_succ_self _))];exact hC
end
section
variable {X:Cx}
def Jbk:TS:=fun _ _ _=>False
end
section
variable {X:Cx}
theorem J9Z {zs:List Int}{its:List Value}{i:Nat}{v:Value}(r:Vals (zs.map V.int) its)(hv:its.toArray[i]?=some v):i<zs.length/\∃ t,v=.int (zs.getD i 0) t:=by
 have hv':its[i]?=some v:=by simpa using hv
 have hm:i<zs.length:=by
  have:=r.length;rw [zu] at this;rw [this];exact (zt.mp hv').1
 obtain ⟨u,hu,t,e⟩:=r.get (i:=i) (x:=V.int zs[i]) (by rw [zE,zr hm];rfl);rw [hv'] at hu;cases hu;exact ⟨hm,t,by rw [getD_eq_getElem?_getD,zr hm];exact e⟩
theorem Ja3 {α:Type}{l:List α}{i:Nat}{x d:α}(h:l[i]?=some x):l.getD i d=x:=by rw [getD_eq_getElem?_getD,h];rfl
end
section
variable {X:Cx}
def Jaf (K:Frag):List V->Hp->VK->Prop:=fun xs H Q=>∃ l,∃ zs:List Int,xs=[.ref l]/\SqL K H l (zs.map V.int)/\Q (.int (zs.foldl (·+·) 0)) H
theorem J3J (zs:List Int):∀ k,k<=zs.length->preSum (fun i=>zs.getD i 0) k=(zs.take k).foldl (·+·) 0
 | 0,_=>rfl
 | k+1,h=>by
   have hk:k<zs.length:=h;show preSum (fun i=>zs.getD i 0) k+zs.getD k 0=_;rw [J3J zs k (by omega),take_add_one,zr hk,foldl_append,Ja3 (zr hk)];rfl
theorem J9i (hc:X.calm=true):J00 X (.builtin "sum") (Jaf X.K):=by
 intro pins s σ H xs us Q I r h;obtain ⟨l,zs,rfl,hq,q⟩:=h;obtain ⟨lv,rfl,rl⟩:=J1V r;cases (show lv=Value.ref l from rl);obtain ⟨its,r',pl,hz⟩:=I.list hq;have hl:=r'.length;rw [zu] at hl;obtain ⟨ol,hol,hcl⟩:=id pl.isList;have ll:l<s.heap.objs.size:=zS hol;refine call_sum_walkAnyS (wpAny_pyIter_list pl.isList ⟨s.heap.objs.size,_,_,_,_,_,_,fun i=>zs.getD i 0,rfl,(Walks.list (by simp [I.ok.hd hc]) s.heap.objs.size l (zj ll) its.toArray).toS,⟨⟨_,zR _ rfl,rfl,rfl⟩,pl.isList.push _⟩,?_,fun i v hv=>(J9Z r' hv).2,fun s' t' mv=>?_⟩)
 ·intro b hb
  rw [Heap.size_push];simp only [zC,not_mem_nil,or_false] at hb;rcases hb with rfl | rfl
  ·exact Nat.lt_succ_self _
  ·exact Nat.lt_succ_of_lt ll
 ·obtain ⟨h',g',d',tk',os'⟩:=s'
  obtain rfl:g'=s.gens:=mv.gens;obtain rfl:d'=s.drawn:=mv.drawn;obtain rfl:os'=s.os:=mv.os;have e:preSum (fun i=>zs.getD i 0) its.toArray.size=zs.foldl (·+·) 0:=by
   rw [zw,<- hl,J3J zs zs.length (ze _),zF]
  rw [e];refine ⟨.int _,H,I.kept (t':=tk') fun b o hb=>?_,⟨_,rfl⟩,q⟩;refine mv.heap b o ?_ (zQ _ hb);simp only [zC,not_mem_nil,or_false];exact zj (zS hb)
theorem JaY {K:Frag}(e:X.K=K)(hc:X.calm=true):J00 X (.builtin "sum") (Jaf K):=by subst e;exact J9i hc
end
structure ExcM (mg:Str->Option Value)(n:Str)(a:Addr):Prop where
 m:mg n=some (.ref a)
def ConD (w:World)(K:Frag)(d:Addr)(kvs:List (Str×Str)):Prop:=(d == sysModules)=false/\(kvs.map (·.1)).Nodup/\∃ (es:Array DictEntry) (n:Nat),K.lookup d=some ⟨.type "dict",none,.dict es n,#[]⟩/\PySem.W.KeysLit w.params es.toList /\
 Paired (fun (e:DictEntry) (kv:Str×Str)=>(∃ t,e.key=.str kv.1 t)/\∃ t,e.val=.str kv.2 t) es.toList kvs
def ValD (us:List (Str×Value))(kvs:List (Str×Str)):Prop:=Paired (fun (u:Str×Value) (kv:Str×Str)=>u.1=kv.1/\∃ t,u.2=.str kv.2 t) us kvs
theorem J9e {P:Program}{w:World}:∀ {l:List DictEntry} {kvs:List (Str×Str)},Paired (fun (e:DictEntry) (kv:Str×Str)=>(∃ t,e.key=.str kv.1 t)/\∃ t,e.val=.str kv.2 t) l kvs->∃ us,Pairs (strKind P w) l us/\ValD us kvs/\us.map (·.1)=kvs.map (·.1)
 | _,_,.nil=>⟨[],.nil,.nil,rfl⟩
 | e::l,kv::kvs,.cons r t=>by
   obtain ⟨us,h1,h2,h3⟩:=J9e (P:=P) (w:=w) t;obtain ⟨⟨t1,e1⟩,t2,e2⟩:=r;exact ⟨(kv.1,e.val)::us,.cons (by rw [e1];exact strKind_is P w kv.1 t1) rfl h1,.cons ⟨rfl,t2,e2⟩ h2,by rw [zD,zD,h3]⟩
theorem ConD.at {P:Program}{w:World}{K:Frag}{d:Addr}{kvs:List (Str×Str)}(c:ConD w K d kvs):∃ us ep,ValD us kvs/\∀ h:Heap,K.In h->h.DictAt (strKind P w) d us ep:=by
 obtain ⟨_,nd,es,n,hl,hk,pr⟩:=c;obtain ⟨us,h1,h2,h3⟩:=J9e (P:=P) (w:=w) pr;refine ⟨us,n,h2,fun h X=>⟨_,es,X _ _ hl,⟨rfl,rfl,rfl⟩,rfl,fun e he=>?_,h1,by rw [h3];exact nd⟩⟩;obtain ⟨x,t,e1,e2⟩:=hk.all e (Array.mem_toList_iff.mpr he);exact ⟨x,by rw [e1];exact strKind_is P w x t,e2⟩
theorem ValD.get {us:List (Str×Value)}{kvs:List (Str×Str)}(h:ValD us kvs){i:Nat}{kv:Str×Str}(e:kvs[i]?=some kv):∃ t,us[i]?=some (kv.1,.str kv.2 t):=by
 induction h generalizing i with
 | nil=>simp at e
 | cons r t ih =>
   cases i with
   | zero =>
     obtain rfl:=zi (show some _=some kv from e);obtain ⟨e1,t1,e2⟩:=r;exact ⟨t1,congrArg some (Prod.ext e1 e2)⟩
   | succ i=>exact ih (i:=i) (by simpa using e)
theorem ValD.length {us:List (Str×Value)}{kvs:List (Str×Str)}(h:ValD us kvs):us.length=kvs.length:=by
 induction h with
 | nil=>rfl
 | cons _ _ ih=>rw [length_cons,length_cons,ih]
def Itd (kvs:List (Str×Str)):It where
 go:=fun i _=>i<kvs.length
 yld:=fun i H y H'=>∃ p kv,H p=none/\y=.ref p/\kvs[i]?=some kv/\H'=upd H p (.tup [.str kv.1,.str kv.2])
 stop:=fun i _=>kvs.length<=i
theorem Jb4 {P:Program}{w:World}{k:Str}{v:Value}(h:(strKind P w).is k v=true):∃ t,v=.str k t:=by
 cases v with
 | str x t =>
   have:Value.isStrOf k (.str x t)=true:=h;unfold Value.isStrOf at this;exact ⟨t,by rw [show x=k by simpa using this]⟩
 | _=>exact absurd h (by simp [PySem.strKind,Value.isStrOf])
theorem turn_items {P:Program}{w:World}{K:Frag}{elts:List Expr}{x1:Nat}{tpos:Pos}{d:Addr}{kvs:List (Str×Str)}{us:List (Str×Value)}{ep:Nat}(it:Addr)(hv:ValD us kvs)(hd:∀ h:Heap,K.In h->h.DictAt (strKind P w) d us ep):Turn P w K (.Tuple elts x1 tpos) (Itd kvs) [it] it (fun i h=>∃ ok ov,IsItemIter h it d i us.length ep ok ov) where
 mem:=by simp
 obj:=fun i h st b hb=>by
  obtain ⟨ok,ov,h1⟩:=st;cases zv.mp hb;exact ⟨_,h1,fun v z=>nomatch z⟩
 keep:=fun i h h' st k=>by
  obtain ⟨ok,ov,h1⟩:=st;exact ⟨ok,ov,k it (by simp) _ h1⟩
 item:=by
  intro X hP hw hK hc i pins s σ H E I hf st hg;subst hP hw hK;have hi:i<kvs.length:=hg;obtain ⟨t,ht⟩:=hv.get (zr hi);obtain ⟨ok,ov,h1⟩:=st;obtain ⟨g0,g1,g2,g3,g4,g5⟩:=hf it (by simp);have fr:H s.heap.objs.size=none:=I.hok.fresh (ze _);have pe:s.heap.objs.size≠it:=Nat.ne_of_gt (zS h1);refine wpAny_pyNext_items_item h1 (hd _ I.kIn) ht fun key h' hkey out tup sz k=>⟨.ref s.heap.objs.size,rfl,?_⟩;obtain ⟨tk,rfl⟩:=Jb4 hkey;refine wpAny_letOwnedTupleGo_items (s:={ s with heap:=h' }) out fun h'' he' sb=>?_;have kk:∀ b o,b∉[it]->s.heap.get? b=some o->h''.get? b=some o:=fun b o hb z =>
   (sb.2 b (fun q=>hb (by simp [q]))).trans (k b o (fun q=>hb (by simp [q])) z)
  have kt:h''.get? s.heap.objs.size=some { cls:=.type "tuple",data:=.seq #[.str kvs[i].1 tk,.str kvs[i].2 t] }:=(sb.2 _ pe).trans tup;have nt:∀ b v,H b=some v->b∉[it]:=fun b v z hb=>by
   cases zv.mp hb;rw [g0] at z;cases z
  have np:∀ b v,H b=some v->b≠s.heap.objs.size:=fun b v z q=>by subst q;rw [fr] at z;cases z
  have up:∀ b v,H b=some v->upd H s.heap.objs.size (.tup [.str kvs[i].1,.str kvs[i].2]) b=some v:=fun b v z=>by rw [Jo (np b v z)];exact z
  refine ⟨.ref s.heap.objs.size,upd H s.heap.objs.size (.tup [.str kvs[i].1,.str kvs[i].2]),?_,rfl,⟨_,kvs[i],fr,rfl,zr hi,rfl⟩,⟨_,_,he'⟩,fun b hb=>?_⟩
  ·show Inv X pins σ _ { s with heap:=h'',gens:=s.gens,drawn:=s.drawn,toks:=s.toks }
   refine Inv.step (s:=s) (h':=h'') (t':=s.toks) (g':=s.gens) (d':=s.drawn) (ch:=[it]) I (fun b hb=>?_) (fun b o _ _ hb z _=>kk b o hb z) (fun b o _ _ hb z _=>⟨o.slots,kk b o hb z⟩) (fun b o _ z n=>by rw [Jo (zj (zS z))];exact n) (fun b o hb z=>⟨o,kk b o hb z⟩)
    (fun b ys z=>up b _ z) (fun b o v z=>up b _ z) (fun b ps z=>⟨#[],by rw [Array.append_empty];exact up b _ z⟩) (fun m hm=>?_) (fun b v z=>?_) I.bare
   ·cases zv.mp hb
    exact ⟨g3,g1,g4,g5⟩
   ·obtain ⟨o,es,ep',ho,r⟩:=hm
    refine ⟨o,es,ep',kk _ o (fun hb=>?_) ho,r⟩;exact g1 (zv.mp hb).symm
   ·by_cases q:b=s.heap.objs.size
    ·subst q
     rw [Jd] at z;cases z;exact ⟨J9 (Nat.le_of_ble_eq_true rfl),[.str kvs[i].1 tk,.str kvs[i].2 t],.cons ⟨_,rfl⟩ (.cons ⟨_,rfl⟩ .nil),_,kt,rfl,_,rfl⟩
    ·rw [Jo q] at z
     refine (I.hok b v z).stay (fun c o hc y=>kk c o ?_ y) (fun c y=>up c _ y) fun c ys y=>up c _ y;rcases hc with rfl | hc
     ·exact nt _ _ z
     ·exact nt _ _ hc
  ·cases zv.mp hb
   rw [Jo (Ne.symm pe)];exact g0
 done:=by
  intro X hP hw hK hc i pins s σ H E I hf st hg;subst hP hw hK;have hi:kvs.length<=i:=hg;obtain ⟨ok,ov,h1⟩:=st;obtain ⟨g0,g1,g2,g3,g4,g5⟩:=hf it (by simp);exact wpAny_pyNext_items_end (I.ok.hd hc) h1 (hd _ I.kIn) (List.getElem?_eq_none (by rw [hv.length];exact hi)) fun h' eb=>⟨rfl,I.turned (t':=s.toks) (fun b o hb z=>eb b o hb z) g0 g1 g3 g4 g5⟩
 self:=fun _ _ _ _ _ st h=>by
  obtain ⟨ok,ov,h1⟩:=st;exact PySem.W.kcp_self h1 h
section
variable {X:Cx}
def J4n (kvs:List (Str×Str)):TI:=fun _ H R=>R (Itd kvs) H
theorem J5T {x:Str}{d:Addr}{kvs:List (Str×Str)}{np apos pos tpos:Pos}{elts:List Expr}{x1:Nat}(c:ConD X.w X.K d kvs)(hm:X.mg x=some (.ref d))(hg:Gl X x)(hdb:(x == ("__debug__":Str))=false)(hb:attributeBase (.Name x np) "items" X.env (eval (.Name x np) X.env)=eval (.Name x np) X.env)(hl:(apos.endLine == pos.line)=true) :
 PI X (.Tuple elts x1 tpos) (.Call (.Attribute (.Name x np) "items" apos) [] [] pos) (J4n kvs):=by
 intro pins s σ H R I h;obtain ⟨us,ep,hv,hd⟩:=c.at (P:=X.prog);refine wpAny_Call_items (knd:=strKind X.prog X.w) c.1 (hd _ I.kIn).dictOf hb hl (fun Q' q=>J0O I hg hm q hdb) ?_;have I1:=I.kept (h':=s.heap.push { cls:=.type "dict_items",data:=.fields #[.ref d] }) (t':=s.toks) fun _ _ q=>zQ _ q;have I1:Inv X pins σ H { s with heap:=s.heap.push { cls:=.type "dict_items",data:=.fields #[.ref d] } }:=I1;refine wpAny_pyIter_items (s:={ s with heap:=s.heap.push { cls:=.type "dict_items",data:=.fields #[.ref d] } }) ⟨_,zR _ rfl,rfl,rfl⟩ (hd _ I1.kIn) ?_;have I2:=I1.kept (h':=(s.heap.push { cls:=.type "dict_items",data:=.fields #[.ref d] }).push { cls:=.type "dict_itemiterator",data:=.fields #[.none,.bool false,.ref d,.int 0 0,.int us.length 0,.int ep 0,.none,.none] }) (t':=s.toks) fun _ _ q=>zQ _ q;refine ⟨_,[_],_,_,H,rfl,I2,turn_items _ hv hd,⟨_,_,zR _ rfl⟩,fun b hb=>?_,h⟩;cases zv.mp hb;exact I1.fpOk (ze _) (I1.hok.fresh (ze _))
end
theorem ForW.items {kvs:List (Str×Str)}{g:TG}{tb:TS}{D:Ends}{σ:St}{H:Hp}(Pv:Nat->St->Hp->Prop)(h0:Pv 0 σ H)
 (hs:∀ (i:Nat) kv σ H p,kvs[i]?=some kv->Pv i σ H->H p=none->g (.ref p) σ (upd H p (.tup [.str kv.1,.str kv.2])) fun σ2 H2=>tb { D with nx:=Pv (i+1),ct:=Pv (i+1),bk:=D.nx } σ2 H2)
 (hd:∀ σ H,Pv kvs.length σ H->D.nx σ H):ForW (Itd kvs) g tb D σ H:=by
 refine ⟨fun i m σ H=>Pv i σ H/\i<=kvs.length/\m=kvs.length - i,⟨_,h0,zn _,rfl⟩,fun i m σ H ⟨h1,h2,h3⟩=>?_⟩;by_cases e:i=kvs.length
 ·subst e
  exact .inl ⟨ze _,hd σ H h1⟩
 ·have lt:i<kvs.length:=Nat.lt_of_le_of_ne h2 e
  refine .inr ⟨lt,Pv (i+1),fun σ' H' z=>⟨kvs.length - (i+1),by omega,z,lt,rfl⟩,fun x H' hy=>?_⟩;obtain ⟨p,kv,hp,rfl,hx,rfl⟩:=hy;exact hs i kv σ H p hx h1 hp
section
variable {X:Cx}
def J4d:V->List V->Hp->VK->Prop:=fun x vs H Q=>∃ z y i,x=.str z/\vs=[.str y,.int i]/\Q (.bl (Txt.startswith3 z y i)) H
theorem J4h:MtR X "str.startswith" J4d:=by
 intro pins s σ H x vs v us Q I rx rv h;obtain ⟨z,y,i,rfl,rfl,q⟩:=h;obtain ⟨t,rfl⟩:=rx;obtain ⟨u,w',rfl,⟨t1,rfl⟩,t2,rfl⟩:=J6Z rv;exact SC.startswith3 ⟨.bl _,H,I,rfl,q⟩
end
def J5y (kvs:List (Str×Str))(k:Str):Option Str:=(kvs.find? fun kv=>decide (kv.1=k)).map (·.2)
theorem ValD.val {us:List (Str×Value)}{kvs:List (Str×Str)}(h:ValD us kvs)(k:Str):(J5y kvs k=none/\valueAt us k=none)\/∃ z t,J5y kvs k=some z/\valueAt us k=some (.str z t):=by
 unfold J5y valueAt
 induction h with
 | nil=>exact .inl ⟨rfl,rfl⟩
 | @cons u kv us kvs r _ ih =>
   obtain ⟨e1,t1,e2⟩:=r;rw [List.find?_cons,List.find?_cons];by_cases c:kv.1=k
   ·rw [zg c,zg (e1.trans c)]
    exact .inr ⟨kv.2,t1,rfl,congrArg some e2⟩
   ·rw [zh c,zh (fun z=>c (e1.symm.trans z))]
    exact ih
def Jaw (kvs:List (Str×Str))(ty:TE):TE:=fun σ H Q=>ty σ H fun y H1=>∃ k,y=.str k/\Q (.bl (J5y kvs k).isSome) H1
def Jac (kvs:List (Str×Str))(ty:TE):TE:=fun σ H Q=>ty σ H fun y H1=>∃ k z,y=.str k/\J5y kvs k=some z/\Q (.str z) H1
section
variable {X:Cx}{i:Expr}{ty:TE}{x:Str}{d:Addr}{kvs:List (Str×Str)}{np pos:Pos}
theorem JaL (c:ConD X.w X.K d kvs)(hm:X.mg x=some (.ref d))(hg:Gl X x)(hdb:(x == ("__debug__":Str))=false)(hi:PE X i ty):PC X .In i (.Name x np) (Jaw kvs ty):=by
 intro pins s σ H Q I h;obtain ⟨us,ep,hv,hd⟩:=c.at (P:=X.prog);refine thn (hi pins s σ H _ I h) fun iv s1 ⟨y,H1,I1,ry,k,ey,q⟩=>J0O I1 hg hm ?_ hdb;subst ey;obtain ⟨t,rfl⟩:=ry;refine wpAny_in_of (knd:=strKind X.prog X.w) (strKind_is X.prog X.w k t) c.1 (hd _ I1.kIn).dictOf.mapOf ?_;have e:(valueAt us k).isSome=(J5y kvs k).isSome:=by
  rcases hv.val k with ⟨e1,e2⟩ | ⟨z,t,e1,e2⟩<;>rw [e1,e2]<;>rfl
 exact ⟨.bl (J5y kvs k).isSome,H1,I1.tok _,by rw [<- e];rfl,q⟩
end
theorem J9Q {K:Frag}{h:Heap}{a:Addr}{mg:Str->Option Value}{n:Str}(kin:K.In h)(G:h.Ns a mg)(e:nsIn K a n=some none):mg n=none:=by
 obtain ⟨o,es,ep,ho,hd,_,hf⟩:=G;unfold nsIn at e;cases hl:K.lookup a with
 | none=>rw [hl] at e;cases e
 | some ob =>
   rw [hl] at e;obtain rfl:ob=o:=zi ((kin a ob hl).symm.trans ho);obtain ⟨c,d,dt,sl⟩:=ob;cases hd;dsimp only at e;cases hq:es.toList.find? (fun x=>x.key.isStr n) with
   | some x=>rw [hq] at e;cases e
   | none =>
     have z:=hf n;unfold nsFind findBy at z;rw [<- Array.find?_toList,hq] at z;exact z.symm
section
variable {X:Cx}
theorem Inv.nobook {pins:List (Addr×Obj)}{σ:St}{H:Hp}{s:Shared}(I:Inv X pins σ H s)(e:nsIn X.K cStatics sharingNotToldKey=some none):NoneBooked s.heap :=
 let ⟨mc,hn,_⟩:=I.nolimit
 ⟨mc,hn,J9Q I.kIn hn e⟩
def PEm (X:Cx)(e:Expr)(t:TE):Prop :=
 ∀ (n:Nat) (pins:List (Addr×Obj)) (s:Shared) (σ:St) (H:Hp) (Q:VK),Inv X pins σ H s->t σ H Q->n<=s.toks->wpAny (model X.prog X.w) X.A (eval e X.env) (fun u s'=>EP X pins σ Q u s'/\n<=s'.toks) X.xe s
theorem J7d (i:Nat){x:Str}{pos:Pos}(hN:X.N[i]?=some x:=by rfl)(hv:X.env.scope.names.lookup x=some .local:=by rfl)(hd:(x == ("__debug__":Str))=false:=by decide):PEm X (.Name x pos) (J2J i):=by
 intro n pins s σ H Q I h hn';obtain ⟨v,e,h⟩:=J71 h;obtain ⟨m,hn,hl⟩:=I.loc;obtain ⟨u,r,l⟩:=hl i x v hN e (.inl hv);rcases l with ⟨hk,hm⟩ | ⟨hk,c,hc,hcell⟩
 ·exact wpAny_Name (wpAny_loadName_local I.ok.kind hk hn hm ⟨⟨v,H,I,r,h⟩,hn'⟩) hd
 ·rcases hk with hk | hk<;>exact absurd (hk.symm.trans hv) (by decide)
theorem J7e {i j pos}:PEm X (.Constant (.int i) j pos) (tC (.int i)):=fun _ _ _ _ H _ I h hn=>wpAny_Constant_int ⟨⟨.int i,H,I.tok _,⟨_,rfl⟩,h⟩,Nat.le_succ_of_le hn⟩
theorem J8H {a b:Expr}{ta tb:TE}{op:Operator}{pos:Pos}{C:Int->Int->Prop}{g:Int->Int->Int}
 (rule:∀ (i j:Int) (t u:Tok) (s:Shared) (Q:Value->Shared->Prop) (E:Value->Shared->Prop),C i j->Q (.int (g i j) s.toks) { s with toks:=s.toks+1 }->wpAny (model X.prog X.w) X.A (binaryOp op (.int i t) (.int j u)) Q E s)
 (ha:PEm X a ta) (hb:PEm X b tb):PEm X (.BinOp a op b pos) (tOp (rI C fun i j=>.int (g i j)) ta tb):=by
 intro n pins s σ H Q I h hn;refine wpAny_BinOp (thn (ha n pins s σ H _ I h hn) fun v s1 ⟨⟨x,H1,I1,r1,q1⟩,n1⟩=>thn (hb n pins s1 σ H1 _ I1 q1 n1) fun u s2 ⟨⟨y,H2,I2,r2,q2⟩,n2⟩=>?_);obtain ⟨i,j,rfl,rfl,hc,q⟩:=q2;obtain ⟨t,rfl⟩:=r1;obtain ⟨t',rfl⟩:=r2;exact rule i j t t' s2 _ _ hc ⟨⟨.int (g i j),H2,I2.tok _,⟨_,rfl⟩,q⟩,Nat.le_succ_of_le n2⟩
theorem J9z (i j:Int)(t u:Tok)(s:Shared)(Q:Value->Shared->Prop)(E:Value->Shared->Prop)(hc:0<j)(q:Q (.int (i % j) s.toks) { s with toks:=s.toks+1 }):wpAny (model X.prog X.w) X.A (binaryOp .Mod (.int i t) (.int j u)) Q E s :=
 mod_int' (by omega) (by rw [Int.fmod_eq_emod_of_nonneg i (by omega)];exact q)
theorem J8q (i j:Int)(t u:Tok)(s:Shared)(Q:Value->Shared->Prop)(E:Value->Shared->Prop)(hc:Ja8 i j)(q:Q (.int (i / j) s.toks) { s with toks:=s.toks+1 }):wpAny (model X.prog X.w) X.A (binaryOp .FloorDiv (.int i t) (.int j u)) Q E s:=by
 have h1:(0:Int)<j:=hc.1;have h2:j<1073741824:=hc.2;exact floordiv_int (by omega) (by rw [Int.fdiv_eq_ediv_of_nonneg i (by omega)];exact q) (.inl (PyProof.noPylong_small (by omega)))
end
theorem J8T (x y z:Str):(Txt.replace x y z).length<=x.length+(x.length+1) * z.length:=by
 unfold Txt.replace
 split
 ·omega
 ·have g:=congrArg Str.length (StrLaws.glued_between_self x y (x.length+1))
  have m:=Nat.mul_le_mul_right z.length (StrLaws.occ_length_le x y 0 x.length (x.length+1));rw [size_glued,length_partsBetween,Nat.add_sub_cancel] at g;rw [size_glued,length_partsBetween,Nat.add_sub_cancel];omega
section
variable {X:Cx}
def J72 (i:Nat)(z:Str)(tl:TE):TE:=fun σ H Q=>J2J i σ H fun x H1=>∃ t:Str,x=.str t/\t.length<=100000/\tl σ H1 fun v H2=>∃ k,v=.int k/\∀ r:Str,r.length<=t.length+(t.length+1) * z.length->Q (.str r) H2
def J6s (ta:TE)(k:Int):TT:=fun σ H Q=>ta σ H fun x H1=>∃ i,x=.int i/\Q (decide (i=k)) H1
theorem J7C {y z:Str}{lo:Expr}{tl:TE}{j1 j2:Nat}{p5 p6 p7 p8 pos:Pos}(hlo:PEm X lo tl)(hz:z.length<=100){pins:List (Addr×Obj)}{s:Shared}{σ:St}{H:Hp}{Q:Hp->Prop}(I:Inv X pins σ H s)(h0:1<=s.toks)
 (q:tl σ H fun v H2=>∃ k,v=.int k/\Q H2) :
 wpAny (model X.prog X.w) X.A (spliced (backTo pos (starEach [.Constant (.str y) j1 p5,.Subscript (.Constant (.str z) j2 p6) (.Slice (some lo) none none p7) p8] X.env)))
  (fun us s'=>∃ u v r H',us=[.str y u,.str r v]/\u≠0/\v≠0/\u≠v/\Inv X pins σ H' s'/\Q H'/\r.length<=z.length) X.xe s:=by
 show wpAny _ _ (spliced ((false,eval (.Constant (.str y) j1 p5) X.env)::(false,eval (.Subscript (.Constant (.str z) j2 p6) (.Slice (some lo) none none p7) p8) X.env)::[])) _ _ s;refine Calls.spliced_cons (Calls.Constant_str ?_);refine Calls.spliced_cons ?_;refine Subscript_ (Calls.Constant_str ?_);refine wpAny_Slice ?_;rw [evalPart_some];refine thn (hlo (s.toks+2) pins _ σ H _ ((I.tok _).tok _) q (ze _)) fun vl s3 ⟨⟨x,H3,I3,r3,k,e,q3⟩,n3⟩=>?_;subst e;obtain ⟨t3,rfl⟩:=r3;rw [evalPart_none];refine zb ?_;refine zb ?_;have I4:Inv X pins σ H3 { s3 with heap:=s3.heap.push { cls:=.type "slice",data:=.fields #[.int k t3,.none,.none] } }:=I3.kept (t':=s3.toks) fun b ob q=>zQ _ q;have hle:=Txt.slice_le z (some k) none;refine tail_any (ops:=[.ref s3.heap.objs.size,.str z (s.toks+1)]) (T:="str") (typeIs_str _ _ _) F.slot_str_getitem.lookup ?_ (by with_unfolding_all rfl);obtain ⟨o,ho,hc,hd⟩:=Heap.IsSliceOf.new s3.heap (.int k t3) .none .none;refine wpAny_getItem_str_slice (l:=some (k,t3)) (u:=none) (st:=none) ⟨o,ho,hc,hd⟩ rfl ?_;have fin:∀ (r:Str) (v k':Nat),r.length<=z.length->0<v->s.toks<v->wpAny (model X.prog X.w) X.A (spliced []) (fun us s'=>∃ u' v' r' H',Value.str y s.toks::Value.str r v::us=[.str y u',.str r' v']/\u'≠0/\v'≠0/\u'≠v'/\Inv X pins σ H' s'/\Q H'/\r'.length<=z.length) X.xe { s3 with heap:=s3.heap.push { cls:=.type "slice",data:=.fields #[.int k t3,.none,.none] },toks:=k' }:=fun r v k' hr hv hs =>
  Calls.spliced_nil ⟨s.toks,v,r,H3,rfl,Nat.ne_of_gt h0,Nat.ne_of_gt hv,zj hs,I4.tok _,q3,hr⟩
 unfold Txt.slice at hle;unfold sliceMade;by_cases c:((1:Int) == 1&&(Builtin.Str.strSliceIndices (some k) none 1 z.length).length == z.length)=true
 ·refine Eq.mpr (congrArg (fun m=>Made.post m _ _) (zd c)) ?_
  exact fin z (s.toks+1) s3.toks (ze _) (by omega) (by omega)
 ·rw [zc c] at hle
  refine Eq.mpr (congrArg (fun m=>Made.post m _ _) (zc c)) ?_;exact ⟨zo hle (J9 (by omega)),fin _ s3.toks (s3.toks+1) hle (by omega) (by omega)⟩
theorem J9F {a lo:Expr}{x y z:Str}{k:Int}{ta tl:TE}{b:List Stmt}{u:TS}{j0 j1 j2:Nat}{p1 p2 p3 p4 p5 p6 p7 p8 p9 p10 p11:Pos}(e0:nsIn X.K cStatics sharingNotToldKey=some none)(i:Nat)(ha:PE X a ta)(hx:PEm X (.Name x p3) (J2J i))(hlo:PEm X lo tl)(hb:PSs X b u)(hz:z.length<=100)(hline:(p4.endLine == p9.line)=true)
 (hbase:attributeBase (.Name x p3) "replace" X.env (eval (.Name x p3) X.env)=eval (.Name x p3) X.env:=by rfl) :
 PS X (.If (.Compare a [.Eq] [.Constant (.int k) j0 p1] p2) [.Return (some (.Call (.Attribute (.Name x p3) "replace" p4) [.Constant (.str y) j1 p5,.Subscript (.Constant (.str z) j2 p6) (.Slice (some lo) none none p7) p8] [] p9)) p10] b p11) (J2Y (J6s ta k) (J56 (J72 i z tl)) u):=by
 intro pins s σ H D I h;refine wpAny_If (wpAny_isTrue_Compare1 (thn (ha pins s σ H _ I h) fun v s1 ⟨x1,H1,I1,r1,n,e,q1⟩=>?_) rfl);subst e;obtain ⟨t,rfl⟩:=r1;refine wpAny_Constant_int (eq_int (wpAny_truthy_bool ?_));have I2:=I1.tok (s1.toks+1);have h1:1<=s1.toks+1:=by omega
 have ed:(n == k)=decide (n=k):=by rw [Bool.eq_iff_iff,beq_iff_eq,decide_eq_true_iff]
 rw [ed];cases hd:decide (n=k) with
 | false =>
   rw [hd,zc (by decide)] at q1;exact hb pins _ σ H1 D I2 q1
 | true =>
   rw [hd,zd rfl] at q1;refine wpAny_execs_cons (wpAny_Return_some ?_);unfold J56 J72 at q1;refine wpAny_Call_method_late hbase rfl hline rfl (thn (hx 1 pins _ σ H1 _ I2 q1 h1) fun v s3 ⟨⟨x3,H3,I3,r3,tx,e3,hl,q3⟩,n3⟩=>?_);subst e3;obtain ⟨t3,rfl⟩:=r3;refine ⟨"str","str.replace",F.plainAttrs_str,F.slot_str_replace,rfl,typeIs_str _ _ _,(fun _ e=>nomatch e),?_⟩;refine Calls.callWith_builtin rfl (Calls.evalArgs_plain ?_);refine thn (J7C (Q:=fun H'=>∀ r':Str,r'.length<=tx.length+(tx.length+1) * z.length->D.rt (.str r') H') hlo hz I3 n3 q3) fun us s4 ⟨u4,v4,r4,H4,e4,hu,hv,huv,I4,q4,l4⟩=>?_;subst e4;have m1:(tx.length+1) * r4.length<=(tx.length+1) * z.length:=Nat.mul_le_mul_left _ l4;have m2:(tx.length+1) * z.length<=(tx.length+1) * 100:=Nat.mul_le_mul_left _ hz;refine SC.replaceA hu hv huv (by omega) (fun t' k'=>?_) (I4.nobook e0);have l5:=J8T tx y r4;exact ⟨.str _,σ,H4,I4.tok _,⟨_,rfl⟩,q4 _ (by omega)⟩
end
section
variable {X:Cx}{k:Nat}{f C:Addr}{fd:FuncData}{ps:List Str}{sp:Sp}{m:Str}{pos apos:Pos}{o:Expr}{ta:TE}{S:St->Prop}{E:XK}
theorem J3y {pl:Sem Bool}(T:Told X S E)(he:PE X o ta)(c:Cls X.K C)(hm:Meth X.K C m f)(F:FnOk X.prog X.w X.K X.mg X.base (CXE X.prog X.w) k f fd ps sp)(hr:Room k X.A)(hb:Binds X.K fd ps [])
 (ht:eval (.Call (.Attribute o m apos) [] [] pos) X.env=(do
  let ov <- eval o X.env
  standAt apos.atName
  let (f,first) <- holding [ov] (getMethod ov m pl)
  callWith pos f first (backTo pos (starEach [] X.env)) (backToKw pos (keywordEach [] X.env)))) :
 PE X (.Call (.Attribute o m apos) [] [] pos) (J42 S C m sp E ta J6u):=by
 intro pins s σ H Q I h;refine PySem.W.methodCall_KW (pl:=pl) (thn (he pins s σ H _ I h) fun u s1 ⟨x,H1,I1,rx,a,dx,fs,ex,ea,l,q⟩=>?_) ht;subst ex;obtain rfl:u=Value.ref a:=rx;refine J2T I1 ea c hm l ?_;obtain ⟨hS,q2⟩:=q;refine PySem.W.callWith_K0 (first:=[.ref a]) I1.kIn hm.kp ?_;exact J5l (us:=[.ref a]) (vs:=[.ref a]) T F hr hb hS I1 (.cons rfl .nil) q2
end
end L2
namespace NS
open PySem L2
seal L2.PE L2.PT L2.PA L2.PS L2.PSs L2.PG L2.PI L2.PTs L2.PW L2.PO L2.PGs L2.PPs L2.OpR L2.J00 L2.IxR L2.SlR L2.UnR L2.JbT
def top (i:Nat):Stmt:=PySem.Challenge.pw_crosshall_k10_texts_that_are_no_sieves.main.body.getD i (.Pass ⟨0,0,0,0⟩)
abbrev J11:Stmt:=top 10
abbrev J0W:Stmt:=top 11
abbrev J3t:Stmt:=top 12
abbrev J3s:Stmt:=top 13
abbrev J0U:Stmt:=top 14
abbrev J1M:Stmt:=top 15
abbrev J2P:Stmt:=top 17
abbrev J1Q:Stmt:=top 19
abbrev J1s:Stmt:=top 20
abbrev J0L:Stmt:=top 21
abbrev J0V:Stmt:=top 29
abbrev J2l:Stmt:=top 30
abbrev J1N:Stmt:=top 31
abbrev J28:Stmt:=top 33
abbrev J5j:Stmt:=top 34
abbrev J1C:Stmt:=top 35
abbrev J2m:Stmt:=top 36
abbrev J18:Stmt:=top 37
abbrev J3r:Stmt:=top 38
abbrev J3q:Stmt:=top 39
abbrev J31:Stmt:=top 40
abbrev J1P:Stmt:=top 41
abbrev J5i:Stmt:=top 42
abbrev J1O:Stmt:=top 43
abbrev J6D:Stmt:=top 44
abbrev J32:Stmt:=top 45
abbrev J10:Stmt:=top 46
abbrev J5k:Stmt:=top 47
abbrev J49:Stmt:=top 48
abbrev J2O:Stmt:=top 49
abbrev J4a:Stmt:=top 50
abbrev s_law:Stmt:=top 51
abbrev J0s:Stmt:=J2G (top 3) 0
abbrev J0y:Stmt:=J2G (top 4) 0
abbrev J0r:Stmt:=J2G (top 28) 0
abbrev J0X:Stmt:=J2G (top 28) 1
abbrev J0I:Stmt:=J2G (top 28) 2
abbrev J0p:Stmt:=J2G (top 28) 3
abbrev J07:Stmt:=J2G (top 28) 4
abbrev J08:Stmt:=J2G (top 28) 5
abbrev J0h:Stmt:=J2G (top 28) 6
abbrev J0Y:Stmt:=J2G (top 28) 7
theorem J4G:FnScope ["text","signs"] ["text","signs"] (Ji J11):=⟨rfl,rfl,rfl,by decide +kernel,rfl,by decide +kernel,by decide +kernel⟩
theorem J3n:FnScope ["thing","signs"] ["thing","signs"] (Ji J0W):=⟨rfl,rfl,rfl,by decide +kernel,rfl,by decide +kernel,by decide +kernel⟩
theorem J6C:FnScope ["thing"] ["thing"] (Ji J3t):=⟨rfl,rfl,rfl,by decide +kernel,rfl,by decide +kernel,by decide +kernel⟩
theorem J6B:FnScope ["thing"] ["thing"] (Ji J3s):=⟨rfl,rfl,rfl,by decide +kernel,rfl,by decide +kernel,by decide +kernel⟩
theorem J1A:FnScope ["text","figures"] ["text"] (Ji J0U):=⟨rfl,rfl,rfl,by decide +kernel,rfl,by decide +kernel,by decide +kernel⟩
theorem J4E:FnScope ["kind","text"] ["kind","text"] (Ji J1M):=⟨rfl,rfl,rfl,by decide +kernel,rfl,by decide +kernel,by decide +kernel⟩
theorem J27:FnScope ["fields","name","place","field"] ["fields","name"] (Ji J2P):=⟨rfl,rfl,rfl,by decide +kernel,rfl,by decide +kernel,by decide +kernel⟩
theorem J4F:FnScope ["kind","value"] ["kind","value"] (Ji J1Q):=⟨rfl,rfl,rfl,by decide +kernel,rfl,by decide +kernel,by decide +kernel⟩
theorem J17:FnScope ["fields","sieve","name","kind"] ["fields","sieve"] (Ji J1s):=⟨rfl,rfl,rfl,by decide +kernel,rfl,by decide +kernel,by decide +kernel⟩
theorem J48:FnScope ["fields","sieve"] ["fields","sieve"] (Ji J0L):=⟨rfl,rfl,rfl,by decide +kernel,rfl,by decide +kernel,by decide +kernel⟩
theorem J0H:FnScope ["fields","name","text","kind","value"] ["fields","name","text"] (Ji J0V):=⟨rfl,rfl,rfl,by decide +kernel,rfl,by decide +kernel,by decide +kernel⟩
theorem J6A:FnScope ["fields","sieve"] ["fields","sieve"] (Ji J2l):=⟨rfl,rfl,rfl,by decide +kernel,rfl,by decide +kernel,by decide +kernel⟩
theorem J1r:FnScope ["fields","text","reading","sieve"] ["fields","text"] (Ji J1N):=⟨rfl,rfl,rfl,by decide +kernel,rfl,by decide +kernel,by decide +kernel⟩
theorem J5h:FnScope ["_law_script","_law_k"] ["_law_script","_law_k"] (Ji J28):=⟨rfl,rfl,rfl,by decide +kernel,rfl,by decide +kernel,by decide +kernel⟩
theorem J5P:FnScope ["_law_seed","_law_k","_law_turn"] ["_law_seed","_law_k"] (Ji J5j):=⟨rfl,rfl,rfl,by decide +kernel,rfl,by decide +kernel,by decide +kernel⟩
theorem J0f:FnScope ["_law_seed","_law_signs","_law_many_here","_law_most","_law_word","_law_few","_law_at_here","_law_rest","_law_heads_here","_law_k","_law_sign"] ["_law_seed","_law_signs","_law_many_here","_law_most"] (Ji J1C):=⟨rfl,rfl,rfl,by decide +kernel,rfl,by decide +kernel,by decide +kernel⟩
theorem J0e:FnScope ["_law_script","_law_seed","_law_many_here","_law_names","_law_fields","_law_words","_law_base"] ["_law_script"] (Ji J2m):=⟨rfl,rfl,rfl,by decide +kernel,rfl,by decide +kernel,by decide +kernel⟩
theorem J3N:FnScope ["_law_seed","_law_kind","_law_world_here"] ["_law_seed","_law_kind","_law_world_here"] (Ji J18):=⟨rfl,rfl,rfl,by decide +kernel,rfl,by decide +kernel,by decide +kernel⟩
theorem J1K:FnScope ["_law_seed","_law_world_here","_law_name","_law_kind","_law_way"] ["_law_seed","_law_world_here"] (Ji J3r):=⟨rfl,rfl,rfl,by decide +kernel,rfl,by decide +kernel,by decide +kernel⟩
theorem J1J:FnScope ["_law_seed","_law_world_here","_law_deep_here","_law_way","_law_told_here","_law_k"] ["_law_seed","_law_world_here","_law_deep_here"] (Ji J3q):=⟨rfl,rfl,rfl,by decide +kernel,rfl,by decide +kernel,by decide +kernel⟩
theorem J4R:FnScope ["_law_sieve_here","_law_sign"] ["_law_sieve_here"] (Ji J31):=⟨rfl,rfl,rfl,by decide +kernel,rfl,by decide +kernel,by decide +kernel⟩
theorem J26:FnScope ["_law_text_here","_law_figures"] ["_law_text_here"] (Ji J1P):=⟨rfl,rfl,rfl,by decide +kernel,rfl,by decide +kernel,by decide +kernel⟩
theorem J5O:FnScope ["_law_text_here","_law_at_here","_law_signs"] ["_law_text_here","_law_at_here","_law_signs"] (Ji J5i):=⟨rfl,rfl,rfl,by decide +kernel,rfl,by decide +kernel,by decide +kernel⟩
theorem J04:FnScope ["_law_text_here","_law_at_here","_law_letters","_law_end","_law_sign","_law_behind","_law_value"] ["_law_text_here","_law_at_here"] (Ji J1O):=⟨rfl,rfl,rfl,by decide +kernel,rfl,by decide +kernel,by decide +kernel⟩
theorem J1L:FnScope ["_law_text_here","_law_at_here","_law_levels","_law_sign","_law_told_here","_law_found"] ["_law_text_here","_law_at_here","_law_levels"] (Ji J6D):=⟨rfl,rfl,rfl,by decide +kernel,rfl,by decide +kernel,by decide +kernel⟩
theorem J7B:FnScope ["_law_sieve_here"] ["_law_sieve_here"] (Ji J32):=⟨rfl,rfl,rfl,by decide +kernel,rfl,by decide +kernel,by decide +kernel⟩
theorem JQ:FnScope ["_law_sieve_here","_law_fields","_law_told_here","_law_found","_law_part","_law_kinds","_law_value"] ["_law_sieve_here","_law_fields"] (Ji J10):=⟨rfl,rfl,rfl,by decide +kernel,rfl,by decide +kernel,by decide +kernel⟩
theorem J5Q:FnScope ["_law_text_here","_law_fields","_law_told_here"] ["_law_text_here","_law_fields"] (Ji J5k):=⟨rfl,rfl,rfl,by decide +kernel,rfl,by decide +kernel,by decide +kernel⟩
theorem J0l:FnScope ["_law_fields","_law_text_here","_law_told_here","e"] ["_law_fields","_law_text_here"] (Ji J49):=⟨rfl,rfl,rfl,by decide +kernel,rfl,by decide +kernel,by decide +kernel⟩
theorem J1j:FnScope ["_law_text_here","_law_seed","_law_at_here","_law_signs","_law_sign"] ["_law_text_here","_law_seed"] (Ji J2O):=⟨rfl,rfl,rfl,by decide +kernel,rfl,by decide +kernel,by decide +kernel⟩
theorem J4S:FnScope ["_law_text_here","_law_seed","_law_many_here"] ["_law_text_here","_law_seed"] (Ji J4a):=⟨rfl,rfl,rfl,by decide +kernel,rfl,by decide +kernel,by decide +kernel⟩
theorem J0T:FnScope ["_law_script","_law_world_here","_law_fields","_law_name","_law_k","_law_seed","_law_text_here","_law_plain_here","_law_odd","_law_bent","_law_some","_law_one"] ["_law_script"] (Ji s_law):=⟨rfl,rfl,rfl,by decide +kernel,rfl,by decide +kernel,by decide +kernel⟩
theorem J2y:FnScope ["self","name"] ["self","name"] (Ji J0s):=⟨rfl,rfl,rfl,by decide +kernel,rfl,by decide +kernel,by decide +kernel⟩
theorem J2N:FnScope ["self","name"] ["self","name"] (Ji J0y):=⟨rfl,rfl,rfl,by decide +kernel,rfl,by decide +kernel,by decide +kernel⟩
theorem J2x:FnScope ["self","text"] ["self","text"] (Ji J0r):=⟨rfl,rfl,rfl,by decide +kernel,rfl,by decide +kernel,by decide +kernel⟩
theorem J3o:FnScope ["self","signs"] ["self","signs"] (Ji J0X):=⟨rfl,rfl,rfl,by decide +kernel,rfl,by decide +kernel,by decide +kernel⟩
theorem J1k:FnScope ["self","signs","begin"] ["self","signs"] (Ji J0I):=⟨rfl,rfl,rfl,by decide +kernel,rfl,by decide +kernel,by decide +kernel⟩
theorem J0g:FnScope ["self","level","form","joint"] ["self","level"] (Ji J0p):=⟨rfl,rfl,rfl,by decide +kernel,rfl,by decide +kernel,by decide +kernel⟩
theorem J0x:FnScope ["self","joint","level","sieves"] ["self","joint","level"] (Ji J07):=⟨rfl,rfl,rfl,by decide +kernel,rfl,by decide +kernel,by decide +kernel⟩
theorem JP:FnScope ["self","name","form","mark"] ["self"] (Ji J08):=⟨rfl,rfl,rfl,by decide +kernel,rfl,by decide +kernel,by decide +kernel⟩
theorem J0E:FnScope ["self","text"] ["self"] (Ji J0h):=⟨rfl,rfl,rfl,by decide +kernel,rfl,by decide +kernel,by decide +kernel⟩
theorem J1B:FnScope ["self","number"] ["self"] (Ji J0Y):=⟨rfl,rfl,rfl,by decide +kernel,rfl,by decide +kernel,by decide +kernel⟩
structure Txt (w:World)(K:Frag)(mg:Str->Option Value)(f:Nat->Addr)(fd:Nat->FuncData):Prop where
 wG:DefOk K mg "is_made_of" J11 ["text","signs"] (f 10) (fd 10)
 wH:DefOk K mg "is_short_text" J0W ["thing","signs"] (f 11) (fd 11)
 wW:DefOk K mg "is_name" J3t ["thing"] (f 12) (fd 12)
 wX:DefOk K mg "is_word" J3s ["thing"] (f 13) (fd 13)
 wY:DefOk K mg "writes_number" J0U ["text"] (f 14) (fd 14)
 wI:DefOk K mg "read_value" J1M ["kind","text"] (f 15) (fd 15)
 wJ:DefOk K mg "field_at" J2P ["fields","name"] (f 17) (fd 17)
 wZ:DefOk K mg "is_of_kind" J1Q ["kind","value"] (f 19) (fd 19)
 w5:DefOk K mg "asked_plain" J1s ["fields","sieve"] (f 20) (fd 20)
 wu:DefOk K mg "asked_sieve" J0L ["fields","sieve"] (f 21) (fd 21)
 w6:DefOk K mg "settled_value" J0V ["fields","name","text"] (f 29) (fd 29)
 wv:DefOk K mg "settled" J2l ["fields","sieve"] (f 30) (fd 30)
 w8:DefOk K mg "read_sieve" J1N ["fields","text"] (f 31) (fd 31)
 wK:DefOk K mg "_law_cell_at" J28 ["_law_script","_law_k"] (f 33) (fd 33)
 we:DefOk K mg "_law_mix" J5j ["_law_seed","_law_k"] (f 34) (fd 34)
 wL:DefOk K mg "_law_heads" J1C ["_law_seed","_law_signs","_law_many_here","_law_most"] (f 35) (fd 35)
 w9:DefOk K mg "_law_world" J2m ["_law_script"] (f 36) (fd 36)
 wM:DefOk K mg "_law_sure_value" J18 ["_law_seed","_law_kind","_law_world_here"] (f 37) (fd 37)
 wN:DefOk K mg "_law_plain" J3r ["_law_seed","_law_world_here"] (f 38) (fd 38)
 ww:DefOk K mg "_law_sieve" J3q ["_law_seed","_law_world_here","_law_deep_here"] (f 39) (fd 39)
 wq:DefOk K mg "_law_text" J31 ["_law_sieve_here"] (f 40) (fd 40)
 wO:DefOk K mg "_law_number" J1P ["_law_text_here"] (f 41) (fd 41)
 wP:DefOk K mg "_law_run" J5i ["_law_text_here","_law_at_here","_law_signs"] (f 42) (fd 42)
 yb:DefOk K mg "_law_plain_at" J1O ["_law_text_here","_law_at_here"] (f 43) (fd 43)
 wx:DefOk K mg "_law_at" J6D ["_law_text_here","_law_at_here","_law_levels"] (f 44) (fd 44)
 wA:DefOk K mg "_law_many" J32 ["_law_sieve_here"] (f 45) (fd 45)
 wB:DefOk K mg "_law_by_kinds" J10 ["_law_sieve_here","_law_fields"] (f 46) (fd 46)
 yc:DefOk K mg "_law_due" J5k ["_law_text_here","_law_fields"] (f 47) (fd 47)
 yd:DefOk K mg "_law_told" J49 ["_law_fields","_law_text_here"] (f 48) (fd 48)
 wQ:DefOk K mg "_law_spoilt" J2O ["_law_text_here","_law_seed"] (f 49) (fd 49)
 ye:DefOk K mg "_law_deep" J4a ["_law_text_here","_law_seed"] (f 50) (fd 50)
 yf:DefOk K mg "law" s_law ["_law_script"] (f 51) (fd 51)
 wR:MthOk K "__init__" "NoField.__init__" J0s ["self","name"] (f 4000) (fd 4000)
 wm:MthOk K "__init__" "NoKind.__init__" J0y ["self","name"] (f 5000) (fd 5000)
 yg:MthOk K "__init__" "Reading.__init__" J0r ["self","text"] (f 29000) (fd 29000)
 wk:MthOk K "takes" "Reading.takes" J0X ["self","signs"] (f 29001) (fd 29001)
 wC:MthOk K "run_of" "Reading.run_of" J0I ["self","signs"] (f 29002) (fd 29002)
 wr:MthOk K "one_sieve" "Reading.one_sieve" J0p ["self","level"] (f 29003) (fd 29003)
 yh:MthOk K "some_sieves" "Reading.some_sieves" J07 ["self","joint","level"] (f 29004) (fd 29004)
 yi:MthOk K "plain_sieve" "Reading.plain_sieve" J08 ["self"] (f 29005) (fd 29005)
 yj:MthOk K "value_text" "Reading.value_text" J0h ["self"] (f 29006) (fd 29006)
 yk:MthOk K "bound" "Reading.bound" J0Y ["self"] (f 29007) (fd 29007)
 yl:ExcM mg "CrossError" (f 1)
 wd:ExcOk K mg "NoSieve" (f 2) none
 wg:ExcOk K mg "NoField" (f 3) (some (.ref (f 4000)))
 wb:ExcOk K mg "NoKind" (f 4) (some (.ref (f 5000)))
 wa:OwnOk K mg "Reading" (f 28) (f 29000)
 wn:Meth K (f 28) "takes" (f 29001)
 wS:Meth K (f 28) "run_of" (f 29002)
 wD:Meth K (f 28) "one_sieve" (f 29003)
 yr:Meth K (f 28) "some_sieves" (f 29004)
 yt:Meth K (f 28) "plain_sieve" (f 29005)
 yu:Meth K (f 28) "value_text" (f 29006)
 yv:Meth K (f 28) "bound" (f 29007)
 ym:findIn K (.ref (f 3)) "name"=some none
 wT:findIn K (.ref (f 4)) "name"=some none
 wj:findIn K (.ref (f 28)) "at"=some none
 wU:findIn K (.ref (f 28)) "begun"=some none
 wo:findIn K (.ref (f 28)) "text"=some none
 yV:PySem.W.kitOne K (.ref (f 3)) (.ref (f 1))=some true
 yw:J1p K (f 3) (f 2)=false
 yW:PySem.W.kitOne K (.ref (f 3)) (.ref (f 2))=some false
 yx:J1p K (f 3) (f 3)=true
 yX:PySem.W.kitOne K (.ref (f 3)) (.ref (f 3))=some true
 yY:J1p K (f 3) (f 4)=false
 yy:PySem.W.kitOne K (.ref (f 3)) (.ref (f 4))=some false
 yz:PySem.W.kitOne K (.ref (f 3)) (.type "ValueError")=some true
 yA:PySem.W.kitOne K (.ref (f 4)) (.ref (f 1))=some true
 yB:J1p K (f 4) (f 2)=false
 yZ:PySem.W.kitOne K (.ref (f 4)) (.ref (f 2))=some false
 yC:J1p K (f 4) (f 3)=false
 yD:PySem.W.kitOne K (.ref (f 4)) (.ref (f 3))=some false
 yE:J1p K (f 4) (f 4)=true
 y0:PySem.W.kitOne K (.ref (f 4)) (.ref (f 4))=some true
 y4:PySem.W.kitOne K (.ref (f 4)) (.type "ValueError")=some true
 yF:PySem.W.kitOne K (.ref (f 2)) (.ref (f 1))=some true
 yG:J1p K (f 2) (f 2)=true
 y6:PySem.W.kitOne K (.ref (f 2)) (.ref (f 2))=some true
 y7:J1p K (f 2) (f 3)=false
 yH:PySem.W.kitOne K (.ref (f 2)) (.ref (f 3))=some false
 y8:J1p K (f 2) (f 4)=false
 yI:PySem.W.kitOne K (.ref (f 2)) (.ref (f 4))=some false
 y9:PySem.W.kitOne K (.ref (f 2)) (.type "ValueError")=some true
 yJ:nsIn K cStatics sharingNotToldKey=some none
 yK:mg "ValueError"=none
 yn:mg "all"=none
 yL:mg "enumerate"=none
 wV:mg "int"=none
 wl:mg "isinstance"=none
 wc:mg "len"=none
 yM:mg "list"=none
 wp:mg "range"=none
 yo:mg "str"=none
 yN:mg "sum"=none
 wt:mg "tuple"=none
 wE:∃ tk,mg "LETTERS"=some (.str "abcdefghijklmnopqrstuvwxyz" tk)
 wF:∃ tk,mg "FIGURES"=some (.str "0123456789" tk)
 yO:∃ tk,mg "MOST_SIGNS"=some (.int (12) tk)
 yP:∃ tk,mg "MOST_FIGURES"=some (.int (60) tk)
 yQ:∃ tk,mg "MOST_LEVELS"=some (.int (12) tk)
 yR:∃ tk,mg "MOST_SIEVES"=some (.int (60) tk)
 yS:∃ tk,mg "MOST_VALUE_SIGNS"=some (.int (61) tk)
 yp:mg "JOINTS"=some (.ref (f 26))
 yq:ConD w K (f 26) [("all","&"),("some","|")]
 yT:mg "MARKS"=some (.ref (f 27))
 yU:ConD w K (f 27) [("is","="),("under","<"),("over",">")]
theorem J9V {α:Type}{C:List α->Prop}(h:C [])(us:List α)(e:us.length=0):C us:=(length_eq_zero_iff.mp e) ▸ h
theorem J4K {α:Type}{n:Nat}{C:List α->Prop}(h:∀ (a:α) (us:List α),us.length=n->C (a::us))(us:List α)(e:us.length=n+1):C us:=by
 cases us with
 | nil=>cases e
 | cons a r=>exact h a r (Nat.succ.inj e)
theorem J2g {fd:FuncData}{ps:List Str}(h:∀ a:Value,bindArgs fd ⟨[a],[]⟩=pure (ps.zip [a]))(us:List Value)(e:us.length=1):bindArgs fd ⟨us,[]⟩=pure (ps.zip us):=by
 revert us
 exact J4K fun a=>J9V (h a)
theorem J0d {fd:FuncData}{ps:List Str}(h:∀ a b:Value,bindArgs fd ⟨[a,b],[]⟩=pure (ps.zip [a,b]))(us:List Value)(e:us.length=2):bindArgs fd ⟨us,[]⟩=pure (ps.zip us):=by
 revert us
 exact J4K fun a=>J4K fun b=>J9V (h a b)
theorem J4W {fd:FuncData}{ps:List Str}(h:∀ a b c:Value,bindArgs fd ⟨[a,b,c],[]⟩=pure (ps.zip [a,b,c]))(us:List Value)(e:us.length=3):bindArgs fd ⟨us,[]⟩=pure (ps.zip us):=by
 revert us
 exact J4K fun a=>J4K fun b=>J4K fun c=>J9V (h a b c)
theorem Jbw {fd:FuncData}{ps:List Str}(h:∀ a b c d:Value,bindArgs fd ⟨[a,b,c,d],[]⟩=pure (ps.zip [a,b,c,d]))(us:List Value)(e:us.length=4):bindArgs fd ⟨us,[]⟩=pure (ps.zip us):=by
 revert us
 exact J4K fun a=>J4K fun b=>J4K fun c=>J4K fun d=>J9V (h a b c d)
theorem dkm {K:Frag}{h:Heap}{mg:Str->Option Value}{x:Str}{st:Stmt}{ps:List Str}{f:Addr}{fd:FuncData}(X:K.In h)(G:h.Ns mainGlobals mg)(F:Fun K x x st f fd)(hb:∀ kV doc pm an cdv ct (us:List Value),us.length=ps.length->bindArgs (PySem.W.fnOf x x (J0P st) (J0q st) (Ji st) .none kV doc pm an cdv ct) ⟨us,[]⟩=pure (ps.zip us))(a:nsIn K mainGlobals x=some (some (.ref f))):DefOk K mg x st ps f fd:=⟨F,F.binds hb,PySem.W.mg_of X G a⟩
theorem txt_mk {w:World}{K:Frag}{h:Heap}{mg:Str->Option Value}(X:K.In h)(G:h.Ns mainGlobals mg)
 {f10 f11 f12 f13 f14 f15 f17 f19 f20 f21 f29 f30 f31 f33 f34 f35 f36 f37 f38 f39 f40 f41 f42 f43 f44 f45 f46 f47 f48 f49 f50 f51 f4000 f5000 f29000 f29001 f29002 f29003 f29004 f29005 f29006 f29007:Addr} {d10 d11 d12 d13 d14 d15 d17 d19 d20 d21 d29 d30 d31 d33 d34 d35 d36 d37 d38 d39 d40 d41 d42 d43 d44 d45 d46 d47 d48 d49 d50 d51 d4000 d5000 d29000 d29001 d29002 d29003 d29004 d29005 d29006 d29007:FuncData}
 {f1:Addr}
 {f2:Addr}
 {f3:Addr}
 {f4:Addr}
 {f28:Addr}
 (a1:nsIn K mainGlobals "CrossError"=some (some (.ref f1)))
 (a2:nsIn K mainGlobals "NoSieve"=some (some (.ref f2)))
 (a3:nsIn K mainGlobals "NoField"=some (some (.ref f3)))
 (a4:nsIn K mainGlobals "NoKind"=some (some (.ref f4)))
 (a28:nsIn K mainGlobals "Reading"=some (some (.ref f28)))
 (a10:nsIn K mainGlobals "is_made_of"=some (some (.ref f10)))
 (l10:Fun K "is_made_of" "is_made_of" J11 f10 d10)
 (a11:nsIn K mainGlobals "is_short_text"=some (some (.ref f11)))
 (l11:Fun K "is_short_text" "is_short_text" J0W f11 d11)
 (a12:nsIn K mainGlobals "is_name"=some (some (.ref f12)))
 (l12:Fun K "is_name" "is_name" J3t f12 d12)
 (a13:nsIn K mainGlobals "is_word"=some (some (.ref f13)))
 (l13:Fun K "is_word" "is_word" J3s f13 d13)
 (a14:nsIn K mainGlobals "writes_number"=some (some (.ref f14)))
 (l14:Fun K "writes_number" "writes_number" J0U f14 d14)
 (a15:nsIn K mainGlobals "read_value"=some (some (.ref f15)))
 (l15:Fun K "read_value" "read_value" J1M f15 d15)
 (a17:nsIn K mainGlobals "field_at"=some (some (.ref f17)))
 (l17:Fun K "field_at" "field_at" J2P f17 d17)
 (a19:nsIn K mainGlobals "is_of_kind"=some (some (.ref f19)))
 (l19:Fun K "is_of_kind" "is_of_kind" J1Q f19 d19)
 (a20:nsIn K mainGlobals "asked_plain"=some (some (.ref f20)))
 (l20:Fun K "asked_plain" "asked_plain" J1s f20 d20)
 (a21:nsIn K mainGlobals "asked_sieve"=some (some (.ref f21)))
 (l21:Fun K "asked_sieve" "asked_sieve" J0L f21 d21)
 (a29:nsIn K mainGlobals "settled_value"=some (some (.ref f29)))
 (l29:Fun K "settled_value" "settled_value" J0V f29 d29)
 (a30:nsIn K mainGlobals "settled"=some (some (.ref f30)))
 (l30:Fun K "settled" "settled" J2l f30 d30)
 (a31:nsIn K mainGlobals "read_sieve"=some (some (.ref f31)))
 (l31:Fun K "read_sieve" "read_sieve" J1N f31 d31)
 (a33:nsIn K mainGlobals "_law_cell_at"=some (some (.ref f33)))
 (l33:Fun K "_law_cell_at" "_law_cell_at" J28 f33 d33)
 (a34:nsIn K mainGlobals "_law_mix"=some (some (.ref f34)))
 (l34:Fun K "_law_mix" "_law_mix" J5j f34 d34)
 (a35:nsIn K mainGlobals "_law_heads"=some (some (.ref f35)))
 (l35:Fun K "_law_heads" "_law_heads" J1C f35 d35)
 (a36:nsIn K mainGlobals "_law_world"=some (some (.ref f36)))
 (l36:Fun K "_law_world" "_law_world" J2m f36 d36)
 (a37:nsIn K mainGlobals "_law_sure_value"=some (some (.ref f37)))
 (l37:Fun K "_law_sure_value" "_law_sure_value" J18 f37 d37)
 (a38:nsIn K mainGlobals "_law_plain"=some (some (.ref f38)))
 (l38:Fun K "_law_plain" "_law_plain" J3r f38 d38)
 (a39:nsIn K mainGlobals "_law_sieve"=some (some (.ref f39)))
 (l39:Fun K "_law_sieve" "_law_sieve" J3q f39 d39)
 (a40:nsIn K mainGlobals "_law_text"=some (some (.ref f40)))
 (l40:Fun K "_law_text" "_law_text" J31 f40 d40)
 (a41:nsIn K mainGlobals "_law_number"=some (some (.ref f41)))
 (l41:Fun K "_law_number" "_law_number" J1P f41 d41)
 (a42:nsIn K mainGlobals "_law_run"=some (some (.ref f42)))
 (l42:Fun K "_law_run" "_law_run" J5i f42 d42)
 (a43:nsIn K mainGlobals "_law_plain_at"=some (some (.ref f43)))
 (l43:Fun K "_law_plain_at" "_law_plain_at" J1O f43 d43)
 (a44:nsIn K mainGlobals "_law_at"=some (some (.ref f44)))
 (l44:Fun K "_law_at" "_law_at" J6D f44 d44)
 (a45:nsIn K mainGlobals "_law_many"=some (some (.ref f45)))
 (l45:Fun K "_law_many" "_law_many" J32 f45 d45)
 (a46:nsIn K mainGlobals "_law_by_kinds"=some (some (.ref f46)))
 (l46:Fun K "_law_by_kinds" "_law_by_kinds" J10 f46 d46)
 (a47:nsIn K mainGlobals "_law_due"=some (some (.ref f47)))
 (l47:Fun K "_law_due" "_law_due" J5k f47 d47)
 (a48:nsIn K mainGlobals "_law_told"=some (some (.ref f48)))
 (l48:Fun K "_law_told" "_law_told" J49 f48 d48)
 (a49:nsIn K mainGlobals "_law_spoilt"=some (some (.ref f49)))
 (l49:Fun K "_law_spoilt" "_law_spoilt" J2O f49 d49)
 (a50:nsIn K mainGlobals "_law_deep"=some (some (.ref f50)))
 (l50:Fun K "_law_deep" "_law_deep" J4a f50 d50)
 (a51:nsIn K mainGlobals "law"=some (some (.ref f51)))
 (l51:Fun K "law" "law" s_law f51 d51)
 (a4000:findIn K (.ref f3) "__init__"=some (some (.ref f4000)))
 (l4000:Fun K "__init__" "NoField.__init__" J0s f4000 d4000)
 (b4000:PySem.W.isFn K (.ref f4000)=true)
 (a5000:findIn K (.ref f4) "__init__"=some (some (.ref f5000)))
 (l5000:Fun K "__init__" "NoKind.__init__" J0y f5000 d5000)
 (b5000:PySem.W.isFn K (.ref f5000)=true)
 (a29000:findIn K (.ref f28) "__init__"=some (some (.ref f29000)))
 (l29000:Fun K "__init__" "Reading.__init__" J0r f29000 d29000)
 (b29000:PySem.W.isFn K (.ref f29000)=true)
 (a29001:findIn K (.ref f28) "takes"=some (some (.ref f29001)))
 (l29001:Fun K "takes" "Reading.takes" J0X f29001 d29001)
 (b29001:PySem.W.isFn K (.ref f29001)=true)
 (a29002:findIn K (.ref f28) "run_of"=some (some (.ref f29002)))
 (l29002:Fun K "run_of" "Reading.run_of" J0I f29002 d29002)
 (b29002:PySem.W.isFn K (.ref f29002)=true)
 (a29003:findIn K (.ref f28) "one_sieve"=some (some (.ref f29003)))
 (l29003:Fun K "one_sieve" "Reading.one_sieve" J0p f29003 d29003)
 (b29003:PySem.W.isFn K (.ref f29003)=true)
 (a29004:findIn K (.ref f28) "some_sieves"=some (some (.ref f29004)))
 (l29004:Fun K "some_sieves" "Reading.some_sieves" J07 f29004 d29004)
 (b29004:PySem.W.isFn K (.ref f29004)=true)
 (a29005:findIn K (.ref f28) "plain_sieve"=some (some (.ref f29005)))
 (l29005:Fun K "plain_sieve" "Reading.plain_sieve" J08 f29005 d29005)
 (b29005:PySem.W.isFn K (.ref f29005)=true)
 (a29006:findIn K (.ref f28) "value_text"=some (some (.ref f29006)))
 (l29006:Fun K "value_text" "Reading.value_text" J0h f29006 d29006)
 (b29006:PySem.W.isFn K (.ref f29006)=true)
 (a29007:findIn K (.ref f28) "bound"=some (some (.ref f29007)))
 (l29007:Fun K "bound" "Reading.bound" J0Y f29007 d29007)
 (b29007:PySem.W.isFn K (.ref f29007)=true)
 (x_NoSieve_e:exB K f2 none=true)
 (x_NoSieve_kp:PySem.W.keepIn K (.ref f2)=true)
 (x_NoSieve_ga:findIn K (.ref f2) "__getattribute__"=some (some (.builtin "BaseException.__getattribute__")))
 (x_NoSieve_gh:findIn K (.ref f2) "__getattr__"=some none)
 (x_NoSieve_ba:PySem.W.mroIn K f2 (.type "BaseException")=some true)
 (x_NoSieve_ob:PySem.W.mroIn K f2 (.type "object")=some true)
 (x_NoSieve_hd:PySem.W.hasDictIn K f2=true)
 (x_NoSieve_cl:findIn K (.ref f2) "__class__"=some (some (.builtin "object.__class__")))
 (x_NoSieve_cg:PySem.W.specialIn K (.builtin "object.__class__") "__get__"=some (some (.builtin "getset_descriptor.__get__")))
 (x_NoSieve_ct:PySem.W.takesIn K (.builtin "object.__class__")=some true)
 (x_NoSieve_sa:findIn K (.ref f2) "__setattr__"=some (some (.builtin "object.__setattr__")))
 (x_NoField_e:exB K f3 (some (.ref f4000))=true)
 (x_NoField_kp:PySem.W.keepIn K (.ref f3)=true)
 (x_NoField_ga:findIn K (.ref f3) "__getattribute__"=some (some (.builtin "BaseException.__getattribute__")))
 (x_NoField_gh:findIn K (.ref f3) "__getattr__"=some none)
 (x_NoField_ba:PySem.W.mroIn K f3 (.type "BaseException")=some true)
 (x_NoField_ob:PySem.W.mroIn K f3 (.type "object")=some true)
 (x_NoField_hd:PySem.W.hasDictIn K f3=true)
 (x_NoField_cl:findIn K (.ref f3) "__class__"=some (some (.builtin "object.__class__")))
 (x_NoField_cg:PySem.W.specialIn K (.builtin "object.__class__") "__get__"=some (some (.builtin "getset_descriptor.__get__")))
 (x_NoField_ct:PySem.W.takesIn K (.builtin "object.__class__")=some true)
 (x_NoField_sa:findIn K (.ref f3) "__setattr__"=some (some (.builtin "object.__setattr__")))
 (x_NoKind_e:exB K f4 (some (.ref f5000))=true)
 (x_NoKind_kp:PySem.W.keepIn K (.ref f4)=true)
 (x_NoKind_ga:findIn K (.ref f4) "__getattribute__"=some (some (.builtin "BaseException.__getattribute__")))
 (x_NoKind_gh:findIn K (.ref f4) "__getattr__"=some none)
 (x_NoKind_ba:PySem.W.mroIn K f4 (.type "BaseException")=some true)
 (x_NoKind_ob:PySem.W.mroIn K f4 (.type "object")=some true)
 (x_NoKind_hd:PySem.W.hasDictIn K f4=true)
 (x_NoKind_cl:findIn K (.ref f4) "__class__"=some (some (.builtin "object.__class__")))
 (x_NoKind_cg:PySem.W.specialIn K (.builtin "object.__class__") "__get__"=some (some (.builtin "getset_descriptor.__get__")))
 (x_NoKind_ct:PySem.W.takesIn K (.builtin "object.__class__")=some true)
 (x_NoKind_sa:findIn K (.ref f4) "__setattr__"=some (some (.builtin "object.__setattr__")))
 (o_Reading_pg:PySem.W.plainGet K f28 Str.empty=true)
 (o_Reading_hd:PySem.W.hasDictIn K f28=true)
 (o_Reading_po:PySem.W.plainOver K f28=true)
 (o_Reading_sa:findIn K (.ref f28) "__setattr__"=some (some (.builtin "object.__setattr__")))
 (o_Reading_ma:PySem.W.makesIn K f28=true)
 (o_Reading_kp:PySem.W.keepIn K (.ref f28)=true)
 (v_na_NoField_name:findIn K (.ref f3) "name"=some none)
 (v_na_NoKind_name:findIn K (.ref f4) "name"=some none)
 (v_na_Reading_at:findIn K (.ref f28) "at"=some none)
 (v_na_Reading_begun:findIn K (.ref f28) "begun"=some none)
 (v_na_Reading_text:findIn K (.ref f28) "text"=some none)
 (v_ki_NoField_CrossError:PySem.W.kitOne K (.ref f3) (.ref f1)=some true)
 (v_su_NoField_NoSieve:J1p K f3 f2=false)
 (v_ki_NoField_NoSieve:PySem.W.kitOne K (.ref f3) (.ref f2)=some false)
 (v_su_NoField_NoField:J1p K f3 f3=true)
 (v_ki_NoField_NoField:PySem.W.kitOne K (.ref f3) (.ref f3)=some true)
 (v_su_NoField_NoKind:J1p K f3 f4=false)
 (v_ki_NoField_NoKind:PySem.W.kitOne K (.ref f3) (.ref f4)=some false)
 (v_kv_NoField:PySem.W.kitOne K (.ref f3) (.type "ValueError")=some true)
 (v_ki_NoKind_CrossError:PySem.W.kitOne K (.ref f4) (.ref f1)=some true)
 (v_su_NoKind_NoSieve:J1p K f4 f2=false)
 (v_ki_NoKind_NoSieve:PySem.W.kitOne K (.ref f4) (.ref f2)=some false)
 (v_su_NoKind_NoField:J1p K f4 f3=false)
 (v_ki_NoKind_NoField:PySem.W.kitOne K (.ref f4) (.ref f3)=some false)
 (v_su_NoKind_NoKind:J1p K f4 f4=true)
 (v_ki_NoKind_NoKind:PySem.W.kitOne K (.ref f4) (.ref f4)=some true)
 (v_kv_NoKind:PySem.W.kitOne K (.ref f4) (.type "ValueError")=some true)
 (v_ki_NoSieve_CrossError:PySem.W.kitOne K (.ref f2) (.ref f1)=some true)
 (v_su_NoSieve_NoSieve:J1p K f2 f2=true)
 (v_ki_NoSieve_NoSieve:PySem.W.kitOne K (.ref f2) (.ref f2)=some true)
 (v_su_NoSieve_NoField:J1p K f2 f3=false)
 (v_ki_NoSieve_NoField:PySem.W.kitOne K (.ref f2) (.ref f3)=some false)
 (v_su_NoSieve_NoKind:J1p K f2 f4=false)
 (v_ki_NoSieve_NoKind:PySem.W.kitOne K (.ref f2) (.ref f4)=some false)
 (v_kv_NoSieve:PySem.W.kitOne K (.ref f2) (.type "ValueError")=some true)
 (v_nobook:nsIn K cStatics sharingNotToldKey=some none)
 (z_ValueError:nsIn K mainGlobals "ValueError"=some none)
 (z_all:nsIn K mainGlobals "all"=some none)
 (z_enumerate:nsIn K mainGlobals "enumerate"=some none)
 (z_int:nsIn K mainGlobals "int"=some none)
 (z_isinstance:nsIn K mainGlobals "isinstance"=some none)
 (z_len:nsIn K mainGlobals "len"=some none)
 (z_list:nsIn K mainGlobals "list"=some none)
 (z_range:nsIn K mainGlobals "range"=some none)
 (z_str:nsIn K mainGlobals "str"=some none)
 (z_sum:nsIn K mainGlobals "sum"=some none)
 (z_tuple:nsIn K mainGlobals "tuple"=some none)
 {tk_LETTERS:Tok} (y_LETTERS:nsIn K mainGlobals "LETTERS"=some (some (.str "abcdefghijklmnopqrstuvwxyz" tk_LETTERS)))
 {tk_FIGURES:Tok} (y_FIGURES:nsIn K mainGlobals "FIGURES"=some (some (.str "0123456789" tk_FIGURES)))
 {tk_MOST_SIGNS:Tok} (y_MOST_SIGNS:nsIn K mainGlobals "MOST_SIGNS"=some (some (.int (12) tk_MOST_SIGNS)))
 {tk_MOST_FIGURES:Tok} (y_MOST_FIGURES:nsIn K mainGlobals "MOST_FIGURES"=some (some (.int (60) tk_MOST_FIGURES)))
 {tk_MOST_LEVELS:Tok} (y_MOST_LEVELS:nsIn K mainGlobals "MOST_LEVELS"=some (some (.int (12) tk_MOST_LEVELS)))
 {tk_MOST_SIEVES:Tok} (y_MOST_SIEVES:nsIn K mainGlobals "MOST_SIEVES"=some (some (.int (60) tk_MOST_SIEVES)))
 {tk_MOST_VALUE_SIGNS:Tok} (y_MOST_VALUE_SIGNS:nsIn K mainGlobals "MOST_VALUE_SIGNS"=some (some (.int (61) tk_MOST_VALUE_SIGNS)))
 {f26:Addr} {es26:Array DictEntry} {n26:Nat} (y_JOINTS:nsIn K mainGlobals "JOINTS"=some (some (.ref f26))) (l26:K.lookup f26=some ⟨.type "dict",none,.dict es26 n26,#[]⟩) (m26:(f26 == sysModules)=false) (k26:PySem.W.KeysLit w.params es26.toList) (v26:Paired (fun (e:DictEntry) (kv:Str×Str)=>(∃ t,e.key=.str kv.1 t)/\∃ t,e.val=.str kv.2 t) es26.toList [("all","&"),("some","|")])
 {f27:Addr} {es27:Array DictEntry} {n27:Nat} (y_MARKS:nsIn K mainGlobals "MARKS"=some (some (.ref f27))) (l27:K.lookup f27=some ⟨.type "dict",none,.dict es27 n27,#[]⟩) (m27:(f27 == sysModules)=false) (k27:PySem.W.KeysLit w.params es27.toList) (v27:Paired (fun (e:DictEntry) (kv:Str×Str)=>(∃ t,e.key=.str kv.1 t)/\∃ t,e.val=.str kv.2 t) es27.toList [("is","="),("under","<"),("over",">")])
 : ∃ f fd,Txt w K mg f fd/\f 51=f51/\∃ kV dc pm an cd ct,fd 51=PySem.W.fnOf "law" "law" (J0P s_law) (J0q s_law) (Ji s_law) .none kV dc pm an cd ct:=by
 obtain ⟨kV,dc,pm,an,cd,ct,e⟩:∃ kV dc pm an cd ct,d51=PySem.W.fnOf "law" "law" (J0P s_law) (J0q s_law) (Ji s_law) .none kV dc pm an cd ct:=by
  obtain ⟨⟨_,_,kV,dc,pm,an,cd,ct,_,e,_⟩,_⟩:=l51;exact ⟨kV,dc,pm,an,cd,ct,e⟩
 refine ⟨fun i=>match i with | 10=>f10 | 11=>f11 | 12=>f12 | 13=>f13 | 14=>f14 | 15=>f15 | 17=>f17 | 19=>f19 | 20=>f20 | 21=>f21 | 29=>f29 | 30=>f30 | 31=>f31 | 33=>f33 | 34=>f34 | 35=>f35 | 36=>f36 | 37=>f37 | 38=>f38 | 39=>f39 | 40=>f40 | 41=>f41 | 42=>f42 | 43=>f43 | 44=>f44 | 45=>f45 | 46=>f46 | 47=>f47 | 48=>f48 | 49=>f49 | 50=>f50 | 51=>f51 | 4000=>f4000 | 5000=>f5000 | 29000=>f29000 | 29001=>f29001 | 29002=>f29002 | 29003=>f29003 | 29004=>f29004 | 29005=>f29005 | 29006=>f29006 | 29007=>f29007 | 1=>f1 | 2=>f2 | 3=>f3 | 4=>f4 | 28=>f28 | 26=>f26 | 27=>f27 | _=>0,fun i=>match i with | 10=>d10 | 11=>d11 | 12=>d12 | 13=>d13 | 14=>d14 | 15=>d15 | 17=>d17 | 19=>d19 | 20=>d20 | 21=>d21 | 29=>d29 | 30=>d30 | 31=>d31 | 33=>d33 | 34=>d34 | 35=>d35 | 36=>d36 | 37=>d37 | 38=>d38 | 39=>d39 | 40=>d40 | 41=>d41 | 42=>d42 | 43=>d43 | 44=>d44 | 45=>d45 | 46=>d46 | 47=>d47 | 48=>d48 | 49=>d49 | 50=>d50 | 51=>d51 | 4000=>d4000 | 5000=>d5000 | 29000=>d29000 | 29001=>d29001 | 29002=>d29002 | 29003=>d29003 | 29004=>d29004 | 29005=>d29005 | 29006=>d29006 | 29007=>d29007 | _=>d51,⟨?_,?_,?_,?_,?_,?_,?_,?_,?_,?_,?_,?_,?_,?_,?_,?_,?_,?_,?_,?_,?_,?_,?_,?_,?_,?_,?_,?_,?_,?_,?_,?_,?_,?_,?_,?_,?_,?_,?_,?_,?_,?_,?_,?_,?_,?_,?_,?_,?_,?_,?_,?_,?_,?_,?_,?_,?_,?_,?_,?_,?_,?_,?_,?_,?_,?_,?_,?_,?_,?_,?_,?_,?_,?_,?_,?_,?_,?_,?_,?_,?_,?_,?_,?_,?_,?_,?_,?_,?_,?_,?_,?_,?_,?_,?_,?_,?_,?_,?_,?_,?_,?_,?_,?_,?_,?_⟩,rfl,kV,dc,pm,an,cd,ct,e⟩
 ·exact dkm X G l10 (fun _ _ _ _ _ _=>J0d fun _ _=>rfl) a10
 ·exact dkm X G l11 (fun _ _ _ _ _ _=>J0d fun _ _=>rfl) a11
 ·exact dkm X G l12 (fun _ _ _ _ _ _=>J2g fun _=>rfl) a12
 ·exact dkm X G l13 (fun _ _ _ _ _ _=>J2g fun _=>rfl) a13
 ·exact dkm X G l14 (fun _ _ _ _ _ _=>J2g fun _=>rfl) a14
 ·exact dkm X G l15 (fun _ _ _ _ _ _=>J0d fun _ _=>rfl) a15
 ·exact dkm X G l17 (fun _ _ _ _ _ _=>J0d fun _ _=>rfl) a17
 ·exact dkm X G l19 (fun _ _ _ _ _ _=>J0d fun _ _=>rfl) a19
 ·exact dkm X G l20 (fun _ _ _ _ _ _=>J0d fun _ _=>rfl) a20
 ·exact dkm X G l21 (fun _ _ _ _ _ _=>J0d fun _ _=>rfl) a21
 ·exact dkm X G l29 (fun _ _ _ _ _ _=>J4W fun _ _ _=>rfl) a29
 ·exact dkm X G l30 (fun _ _ _ _ _ _=>J0d fun _ _=>rfl) a30
 ·exact dkm X G l31 (fun _ _ _ _ _ _=>J0d fun _ _=>rfl) a31
 ·exact dkm X G l33 (fun _ _ _ _ _ _=>J0d fun _ _=>rfl) a33
 ·exact dkm X G l34 (fun _ _ _ _ _ _=>J0d fun _ _=>rfl) a34
 ·exact dkm X G l35 (fun _ _ _ _ _ _=>Jbw fun _ _ _ _=>rfl) a35
 ·exact dkm X G l36 (fun _ _ _ _ _ _=>J2g fun _=>rfl) a36
 ·exact dkm X G l37 (fun _ _ _ _ _ _=>J4W fun _ _ _=>rfl) a37
 ·exact dkm X G l38 (fun _ _ _ _ _ _=>J0d fun _ _=>rfl) a38
 ·exact dkm X G l39 (fun _ _ _ _ _ _=>J4W fun _ _ _=>rfl) a39
 ·exact dkm X G l40 (fun _ _ _ _ _ _=>J2g fun _=>rfl) a40
 ·exact dkm X G l41 (fun _ _ _ _ _ _=>J2g fun _=>rfl) a41
 ·exact dkm X G l42 (fun _ _ _ _ _ _=>J4W fun _ _ _=>rfl) a42
 ·exact dkm X G l43 (fun _ _ _ _ _ _=>J0d fun _ _=>rfl) a43
 ·exact dkm X G l44 (fun _ _ _ _ _ _=>J4W fun _ _ _=>rfl) a44
 ·exact dkm X G l45 (fun _ _ _ _ _ _=>J2g fun _=>rfl) a45
 ·exact dkm X G l46 (fun _ _ _ _ _ _=>J0d fun _ _=>rfl) a46
 ·exact dkm X G l47 (fun _ _ _ _ _ _=>J0d fun _ _=>rfl) a47
 ·exact dkm X G l48 (fun _ _ _ _ _ _=>J0d fun _ _=>rfl) a48
 ·exact dkm X G l49 (fun _ _ _ _ _ _=>J0d fun _ _=>rfl) a49
 ·exact dkm X G l50 (fun _ _ _ _ _ _=>J0d fun _ _=>rfl) a50
 ·exact dkm X G l51 (fun _ _ _ _ _ _=>J2g fun _=>rfl) a51
 ·exact ⟨l4000,l4000.binds (fun _ _ _ _ _ _=>J0d fun _ _=>rfl),b4000⟩
 ·exact ⟨l5000,l5000.binds (fun _ _ _ _ _ _=>J0d fun _ _=>rfl),b5000⟩
 ·exact ⟨l29000,l29000.binds (fun _ _ _ _ _ _=>J0d fun _ _=>rfl),b29000⟩
 ·exact ⟨l29001,l29001.binds (fun _ _ _ _ _ _=>J0d fun _ _=>rfl),b29001⟩
 ·exact ⟨l29002,l29002.binds (fun _ _ _ _ _ _=>J0d fun _ _=>rfl),b29002⟩
 ·exact ⟨l29003,l29003.binds (fun _ _ _ _ _ _=>J0d fun _ _=>rfl),b29003⟩
 ·exact ⟨l29004,l29004.binds (fun _ _ _ _ _ _=>J4W fun _ _ _=>rfl),b29004⟩
 ·exact ⟨l29005,l29005.binds (fun _ _ _ _ _ _=>J2g fun _=>rfl),b29005⟩
 ·exact ⟨l29006,l29006.binds (fun _ _ _ _ _ _=>J2g fun _=>rfl),b29006⟩
 ·exact ⟨l29007,l29007.binds (fun _ _ _ _ _ _=>J2g fun _=>rfl),b29007⟩
 ·exact ⟨PySem.W.mg_of X G a1⟩
 ·exact (J6Q X G a2 x_NoSieve_e x_NoSieve_kp x_NoSieve_ga x_NoSieve_gh x_NoSieve_ba x_NoSieve_ob x_NoSieve_hd x_NoSieve_cl x_NoSieve_cg x_NoSieve_ct x_NoSieve_sa)
 ·exact (J6Q X G a3 x_NoField_e x_NoField_kp x_NoField_ga x_NoField_gh x_NoField_ba x_NoField_ob x_NoField_hd x_NoField_cl x_NoField_cg x_NoField_ct x_NoField_sa)
 ·exact (J6Q X G a4 x_NoKind_e x_NoKind_kp x_NoKind_ga x_NoKind_gh x_NoKind_ba x_NoKind_ob x_NoKind_hd x_NoKind_cl x_NoKind_cg x_NoKind_ct x_NoKind_sa)
 ·exact (JaM X G a28 o_Reading_pg o_Reading_hd o_Reading_po o_Reading_sa o_Reading_ma a29000 b29000 o_Reading_kp)
 ·exact ⟨a29001,b29001,l29001.kp⟩
 ·exact ⟨a29002,b29002,l29002.kp⟩
 ·exact ⟨a29003,b29003,l29003.kp⟩
 ·exact ⟨a29004,b29004,l29004.kp⟩
 ·exact ⟨a29005,b29005,l29005.kp⟩
 ·exact ⟨a29006,b29006,l29006.kp⟩
 ·exact ⟨a29007,b29007,l29007.kp⟩
 ·exact v_na_NoField_name
 ·exact v_na_NoKind_name
 ·exact v_na_Reading_at
 ·exact v_na_Reading_begun
 ·exact v_na_Reading_text
 ·exact v_ki_NoField_CrossError
 ·exact v_su_NoField_NoSieve
 ·exact v_ki_NoField_NoSieve
 ·exact v_su_NoField_NoField
 ·exact v_ki_NoField_NoField
 ·exact v_su_NoField_NoKind
 ·exact v_ki_NoField_NoKind
 ·exact v_kv_NoField
 ·exact v_ki_NoKind_CrossError
 ·exact v_su_NoKind_NoSieve
 ·exact v_ki_NoKind_NoSieve
 ·exact v_su_NoKind_NoField
 ·exact v_ki_NoKind_NoField
 ·exact v_su_NoKind_NoKind
 ·exact v_ki_NoKind_NoKind
 ·exact v_kv_NoKind
 ·exact v_ki_NoSieve_CrossError
 ·exact v_su_NoSieve_NoSieve
 ·exact v_ki_NoSieve_NoSieve
 ·exact v_su_NoSieve_NoField
 ·exact v_ki_NoSieve_NoField
 ·exact v_su_NoSieve_NoKind
 ·exact v_ki_NoSieve_NoKind
 ·exact v_kv_NoSieve
 ·exact v_nobook
 ·exact (zV X G z_ValueError)
 ·exact (zV X G z_all)
 ·exact (zV X G z_enumerate)
 ·exact (zV X G z_int)
 ·exact (zV X G z_isinstance)
 ·exact (zV X G z_len)
 ·exact (zV X G z_list)
 ·exact (zV X G z_range)
 ·exact (zV X G z_str)
 ·exact (zV X G z_sum)
 ·exact (zV X G z_tuple)
 ·exact ⟨_,PySem.W.mg_of X G y_LETTERS⟩
 ·exact ⟨_,PySem.W.mg_of X G y_FIGURES⟩
 ·exact ⟨_,PySem.W.mg_of X G y_MOST_SIGNS⟩
 ·exact ⟨_,PySem.W.mg_of X G y_MOST_FIGURES⟩
 ·exact ⟨_,PySem.W.mg_of X G y_MOST_LEVELS⟩
 ·exact ⟨_,PySem.W.mg_of X G y_MOST_SIEVES⟩
 ·exact ⟨_,PySem.W.mg_of X G y_MOST_VALUE_SIGNS⟩
 ·exact (PySem.W.mg_of X G y_JOINTS)
 ·exact ⟨m26,by decide,es26,n26,l26,k26,v26⟩
 ·exact (PySem.W.mg_of X G y_MARKS)
 ·exact ⟨m27,by decide,es27,n27,l27,k27,v27⟩
open Lean in
local macro_rules | `(tactic|walk_at $s:str)=>do
 let g:=fun (t:String)=>(t.splitOn ",").toArray.mapM fun x=>`(Parser.Tactic.simpLemma|$(mkIdent x.toName):ident)
 let b:="Jbl,J75,J8h,Jad,J78,J4n,J4d,JaE,J8b,Jaw,Jac,J6s,J72,L2.J24,J1f,J8a,J2Y,J56,Ja9,J3g,J74,J0C,J2J,L2.tC,L2.tOp,L2.tUn,J76,L2.tCB,J43,J6u,J3H,L2.tB,J9t,Jax,L2.tOr,J8i,Jau,Jaa,L2.tIf,J59,J8d,J7v,L2.tBM,Jbm,L2.rI,L2.rI0,L2.rU,L2.rEq,L2.rNe,J8m,J5J,Jb6,J7j,Ja0,J91,Jao,Jas,J9D,J9E,J8y,J8x,J5n,J4c,J8f,J41,L2.tSl,J89,J58,JaB,J9A,Jag,J5m,J8A,J8u,J8w,J5a,J6t,J57,Jat,L2.tAs,JaR,L2.tXF,J8n,J42,J8c,J9C,Jav,JaA,J73,J8v,Jah,J8g,List.map_cons,List.map_nil,List.cons_append,List.nil_append,List.length_cons,List.length_nil,List.getElem?_cons_zero,List.getElem?_cons_succ,Option.some.injEq,exists_eq_left',exists_eq_left,List.set_cons_zero,List.set_cons_succ,List.cons.injEq,and_true,true_and,V.int.injEq,V.str.injEq,V.bl.injEq,V.ref.injEq,V.ty.injEq,exists_and_left,exists_and_right,List.append_nil,reduceCtorEq,false_and,and_false,exists_false,or_false,false_or,decide_true,decide_false,Bool.not_true,Bool.not_false,if_true,if_false,Bool.false_eq_true,ite_true,ite_false,and_assoc,Nat.reduceAdd,Nat.reduceSub,List.replicate_succ,List.replicate_zero,Nat.zero_add,Nat.add_zero,Nat.sub_self"
 let n:=fun (x:String)=>mkIdent x.toName
 match s.getString.splitOn " " with
 | ["ok",p,h]=>`(tactic|refine $(mkIdent (`T++p.toName++`F.ok)) $(n h) (fun $(n "vs") $(n "H") $(n "Q") $(n "E") $(n "h")=>?_) (fun $(n "cdv") $(n "A") $(n "outer") $(n "s") $(n "H") $(n "vs") $(n "Q") $(n "E") $(n "hr") $(n "h")=>?_))
 | x=>do
  let d←g "J3E,L2.Cx.inTry,L2.Cx.inHand"
  let m:=match x with
   | ["py"]=>some ""
   | ["dc"]=>some ",Jbk,JbQ"
   | _=>none
  let some m:=m | Macro.throwUnsupported
  let e←g (b++m)
  `(tactic|((try dsimp only [$d,*]);simp only [$e,*]))
section
variable {P:Program}{w:World}{K:Frag}{mg:Str->Option Value}{base:Heap}{f:Nat->Addr}{fd:Nat->FuncData}
variable {sg z:Str}{n:Int}{H H' H1:Hp}{kds ns:List Str}{a c i m:Nat}{v:V}{o:Addr}{cs rest:List Nat}{Q:VK}
def J0v (z g:Str):Bool:=z.cps.toList.all fun c=>decide (c∈g.cps.toList)
def J2B (_:Frag):Sp:=fun vs H Q _=>∃ z g,vs=[.str z,.str g]/\z.length<=sizeLine/\∀ H',Same H H'->Q (.bl (J0v z g)) H'
theorem J2D (T:Txt w K mg f fd):FnOk P w K mg base CX0 1 (f 10) (fd 10) ["text","signs"] (J2B K):=by
 walk_at "ok wG J4G"
 ·obtain ⟨z,g,rfl,_⟩:=h
  rfl
 ·obtain ⟨z,g,rfl,hz,k⟩:=h
  refine ⟨_,(Je (Jk (JR (Jam rfl rfl) T.yn J9p rfl (by decide) (by decide) rfl (pal rfl (J2q ["sign"] ["text","signs"] rfl (show CompSc _ (Ji J11) ["text","signs"] ["text","signs"] from J05 (by decide +kernel)) (J8G (pvl 0)) (fun _ _ _ _ _=>(pgl 0 (show (["sign","text","signs"]:List Str).Nodup by decide +kernel))) (fun _ _ _ _ _=>J1m) (fun _ _ _ _ _=>(J3U J2s (pvl 0) (pvc 2) rfl))) Jb)))),?_⟩;walk_at "py";refine comp_of (as:=z.cps.toList) (g:=sgn) J5G (by rw [zq];exact hz) (fun _ _=>trivial) (fun _=>true) (fun c=>.bl (decide (c∈g.cps.toList))) (fun c H1 Q _ _ q=>q H1 (Same.refl _)) (fun c H1 Q _ _ _ q=>?_) (fun H' s1 D hD=>?_)
  ·walk_at "py"
   unfold sgn;walk_at "py";rw [J1U];exact q H1 (Same.refl _)
  ·refine ⟨z.cps.toList.map fun c=>decide (c∈g.cps.toList),.of (by rw [Jd,J2U,map_map];rfl),?_⟩
   have e:(z.cps.toList.map fun c=>decide (c∈g.cps.toList)).all id=J0v z g:=by unfold J0v;rw [all_map];rfl
   rw [e];exact k _ (s1.new hD _)
def J0o (x:V)(g:Str):Bool:=match x with
 | .str z=>decide (1<=z.length)&&(decide (z.length<=12)&&J0v z g)
 | _=>false
def J3l (K:Frag):Sp:=fun vs H Q _=>∃ x g T,vs=[x,.str g]/\Pl K H x T/\∀ H',Same H H'->Q (.bl (J0o x g)) H'
theorem ok_is_short_text (T:Txt w K mg f fd):FnOk P w K mg base CX0 2 (f 11) (fd 11) ["thing","signs"] (J3l K):=by
 walk_at "ok wH J3n"
 ·obtain ⟨x,g,T,rfl,_⟩:=h
  rfl
 ·obtain ⟨x,g,t,rfl,p,k⟩:=h
  refine ⟨_,(Jc (Js (J0t (JV (JR (Jbz rfl) T.wl JS rfl (by decide) (by decide) rfl (pal rfl (pvl 0) (pal rfl (pty T.yo J9o) Jb)))))
   (Je (Jk J4e))
   Jl)
   (Je (Jk (JaK (J8K J1E J1E Ja (JR Jz T.wc JY rfl (by decide) (by decide) rfl (pal rfl (pvl 0) Jb)) (pgi T.yO)) (J8J (Jm T.wG (J2D T) (hr.mono (by decide)) rfl (by decide) rfl (pal rfl (pvl 0) (pal rfl (pvl 1) Jb)))))))),?_⟩
  walk_at "py";refine ⟨t,p,by decide,?_⟩;rcases p.name with ⟨rfl,rfl⟩ | ⟨b,rfl,rfl⟩ | ⟨i,rfl,rfl⟩ | ⟨z,rfl,rfl,hz⟩ | ⟨a,rfl | rfl | rfl,rfl⟩
  case inr.inr.inr.inl =>
   rw [show Jb3 "str" "str"=true from rfl];walk_at "py";refine ⟨hz,?_⟩;by_cases h1:(1:Int)<=(z.length:Int)
   ·by_cases h2:(z.length:Int)<=12
    ·rw [zd (zg h1),zd (zg h2)]
     refine ⟨z,g,rfl,hz,fun H' s1=>?_⟩;have e:J0o (.str z) g=J0v z g:=by
      show (decide (1<=z.length)&&(decide (z.length<=12)&&J0v z g))=_;rw [zg (by omega),zg (by omega)];rfl
     rw [<- e];exact k H' s1
    ·rw [zd (zg h1),zc (by simpa using h2)]
     have e:J0o (.str z) g=false:=by
      show (decide (1<=z.length)&&(decide (z.length<=12)&&J0v z g))=_;rw [zh (show ¬ z.length<=12 by omega),Bool.false_and,Bool.and_false]
     rw [<- e];exact k H (Same.refl H)
   ·rw [zc (by simpa using h1)]
    have e:J0o (.str z) g=false:=by
     show (decide (1<=z.length)&&(decide (z.length<=12)&&J0v z g))=_;rw [zh (show ¬ 1<=z.length by omega),Bool.false_and]
    rw [<- e];exact k H (Same.refl H)
  all_goals
   rw [zd (by decide)];exact k H (Same.refl H)
abbrev Jy:Str:="abcdefghijklmnopqrstuvwxyz"
abbrev JG:Str:="0123456789"
def J6x (K:Frag):Sp:=fun vs H Q _=>∃ x T,vs=[x]/\Pl K H x T/\∀ H',Same H H'->Q (.bl (J0o x (Jy++JG))) H'
theorem J6G (T:Txt w K mg f fd):FnOk P w K mg base CX0 3 (f 13) (fd 13) ["thing"] (J6x K):=by
 walk_at "ok wX J6B"
 ·obtain ⟨x,T,rfl,_⟩:=h
  rfl
 ·obtain ⟨x,t,rfl,p,k⟩:=h
  refine ⟨_,(Je (Jk (Jm T.wH (ok_is_short_text T) (hr.mono (by decide)) rfl (by decide) rfl (pal rfl (pvl 0) (pal rfl (Jg Jp (pgs T.wE) (pgs T.wF)) Jb))))),?_⟩;walk_at "py";exact ⟨J9 (by decide),x,_,t,rfl,p,k⟩
def J5Z (a b:Int):Int:=((a % 2147483647 * 48271+b * 7919+11) % 2147483647 * ((a % 2147483647 * 48271+b * 7919+11) % 2147483647) % 2147483629 * 69621) % 2147483647
def J5M (K:Frag):Sp:=fun vs H Q _=>∃ a b,vs=[.int a,.int b]/\Q (.int (J5Z a b)) H
theorem JT (T:Txt w K mg f fd):FnOk P w K mg base CX0 1 (f 34) (fd 34) ["_law_seed","_law_k"] (J5M K):=by
 walk_at "ok we J5P"
 ·obtain ⟨x,T,rfl,_⟩:=h
  rfl
 ·obtain ⟨a,b,rfl,k⟩:=h
  refine ⟨_,(Jc (psl 2 J5P.nd (Jg JF (Jg JE (Jg JE (Jg J1T (Jg JF (pvl 0) Ja) Ja) (Jg J1T (pvl 1) Ja)) Ja) Ja))
   (Je (Jk (Jg JF (Jg J1T (Jg JF (Jg J1T (pvl 2) (pvl 2)) Ja) Ja) Ja)))),?_⟩
  walk_at "py"
  repeat (refine And.intro (by first | decide | omega | exact Or.inl ⟨by omega,by omega⟩ | exact Or.inr ⟨by omega,by omega⟩ | exact ⟨by omega,by omega⟩ | exact ⟨by decide,by decide,by decide⟩) ?_)
  exact k
def J5e (K:Frag):Sp:=fun vs H Q _=>∃ (a:Addr) (ns:List Int) (i:Int),vs=[.ref a,.int i]/\SqL K H a (ns.map V.int)/\0<=i/\∀ v,Q (.int v) H
theorem J37 (T:Txt w K mg f fd):FnOk P w K mg base CX0 1 (f 33) (fd 33) ["_law_script","_law_k"] (J5e K):=by
 walk_at "ok wK J5h"
 ·obtain ⟨x,T,_,rfl,_⟩:=h
  rfl
 ·obtain ⟨a,ns,i,rfl,hs,h0,k⟩:=h
  refine ⟨_,(Jc (Js (Jj J5V (pvl 1) (JR (J63 rfl) T.wc JY rfl (by decide) (by decide) rfl (pal rfl (pvl 0) Jb)) (Jn _))
   (Je (Jk (Jq (J1d rfl) (pvl 0) (pvl 1) (fun _ _=>rfl))))
   Jl)
   (Je (Jk Ja))),?_⟩
  walk_at "py";refine ⟨_,.inl hs,?_⟩;rw [zu];by_cases h:i<(ns.length:Int)
  ·rw [zd (zg h)]
   obtain ⟨j,rfl⟩:∃ j:Nat,i=(j:Int):=⟨i.toNat,by omega⟩;have hj:j<ns.length:=by omega
   refine ⟨a,_,_,.int ns[j],rfl,rfl,hs,Jh (by rw [zE,zr hj];rfl),k _⟩
  ·rw [zc (by simpa using h)]
   exact k _
def J6y (K:Frag):Sp:=fun vs H Q _=>∃ x T,vs=[x]/\Pl K H x T/\∀ H',Same H H'->Q (.bl (J0o x Jy)) H'
theorem J6H (T:Txt w K mg f fd):FnOk P w K mg base CX0 3 (f 12) (fd 12) ["thing"] (J6y K):=by
 walk_at "ok wW J6C"
 ·obtain ⟨x,T,rfl,_⟩:=h
  rfl
 ·obtain ⟨x,t,rfl,p,k⟩:=h
  refine ⟨_,(Je (Jk (Jm T.wH (ok_is_short_text T) (hr.mono (by decide)) rfl (by decide) rfl (pal rfl (pvl 0) (pal rfl (pgs T.wE) Jb))))),?_⟩;walk_at "py";exact ⟨x,_,t,rfl,p,k⟩
theorem J3Y (c:Nat):decide (c∈JG.cps.toList)=J2i c:=by
 have e:JG.cps.toList=[48,49,50,51,52,53,54,55,56,57]:=by decide
 rw [e];unfold J2i;rw [decide_eq_decide];simp only [zC,not_mem_nil,or_false];omega
theorem J8S (z:Str):J0v z JG=z.cps.toList.all J2i:=by
 unfold J0v;congr 1;funext c;exact J3Y c
def J3h (_:Frag):Sp:=fun vs H Q _=>∃ z,vs=[.str z]/\z.length<=sizeLine/\∀ H',Same H H'->Q (.bl (JX z.cps.toList)) H'
theorem ok_writes_number (T:Txt w K mg f fd):FnOk P w K mg base CX0 2 (f 14) (fd 14) ["text"] (J3h K):=by
 walk_at "ok wY J1A"
 ·obtain ⟨z,rfl,_⟩:=h
  rfl
 ·obtain ⟨z,rfl,hz,k⟩:=h
  refine ⟨_,(Jc (psl 1 J1A.nd (J35 (JV (J2F rfl PySem.F.plainAttrs_str PySem.F.slot_str_startswith PySem.F.type_str_startswith J4J rfl rfl rfl rfl (pvl 0) (pal rfl Jf Jb))) (JA JU (pvl 0) (Jv Ja) J0a) (pvl 0)))
   (Jc (Js (PW.pt (J1D (J0t (J29 J1E J1E Ja (JR Jz T.wc JY rfl (by decide) (by decide) rfl (pal rfl (pvl 1) Jb)) (pgi T.yP))) (J1u (J0t (JV (Jm T.wG (J2D T) (hr.mono (by decide)) rfl (by decide) rfl (pal rfl (pvl 1) (pal rfl (pgs T.wF) Jb))))))))
   (Je (Jk J4e))
   Jl)
   (Je (Jk (Jbo (J3U J2c (Jq J2h (pvl 1) Ja (fun _ _=>rfl)) Jf (Jn _)) (J8J (J3U JN (pvl 0) Jf (Jn _)))))))),?_⟩
  walk_at "py"
  have core : ∀ fz:Str,fz.cps.toList=J1e z.cps.toList->fz.length<=sizeLine->(fz.length<=sizeLine/\if decide (1<=(fz.length:Int))=true then
   if (!decide ((fz.length:Int)<=60))=true then Q (V.bl false) H
   else J2B K [V.str fz,V.str (Str.ofString "0123456789")] H (fun x H1=>∃ c,x=V.bl c/\if (!c)=true then Q (V.bl false) H1
    else J9B (V.str fz) (V.int 0) H1 fun x H1=>J8m x (V.str (Str.ofString "0"))=true/\if (!decide (x=V.str (Str.ofString "0")))=true then Q (V.bl true) H1 else Q (V.bl (decide (z=Str.ofString "0"))) H1) E0
   else Q (V.bl false) H):=by
   intro fz ef hf;have hl:fz.cps.toList.length=fz.length:=by simp [Str.length]
   have eo:JX z.cps.toList=(decide (1<=fz.length)&&(decide (fz.length<=60)&&(fz.cps.toList.all J2i&&(!decide (fz.cps.toList.head?=some 48)||decide (z.cps.toList=[48]))))):=by
    unfold JX;rw [<- ef,hl]
   rw [eo] at k;refine ⟨hf,?_⟩;by_cases h1:1<=fz.length
   ·rw [zd (zg (by omega))]
    rw [zg h1,Bool.true_and] at k;by_cases h2:fz.length<=60
    ·rw [zc (by simp;omega)]
     rw [zg h2,Bool.true_and] at k;refine ⟨fz,_,rfl,hf,fun H1 s1=>⟨_,rfl,?_⟩⟩;rw [show J0v fz (Str.ofString "0123456789")=fz.cps.toList.all J2i from J8S fz];cases ha:fz.cps.toList.all J2i with
     | false =>
       rw [zd (by decide)];rw [ha,Bool.false_and] at k;exact k H1 s1
     | true =>
       rw [zc (by decide)];rw [ha,Bool.true_and] at k;refine J3D hf (by decide) (by omega) fun c hc=>?_;have hc':fz.cps.toList.head?=some c:=by rw [List.head?_eq_getElem?];exact hc
       rw [hc'] at k;refine ⟨rfl,?_⟩;have e0:decide (z=Str.ofString "0")=decide (z.cps.toList=[48]):=by rw [decide_eq_decide,J01];exact Iff.rfl
       by_cases hc0:c=48
       ·subst hc0
        rw [zc (by unfold sgn;decide),e0];exact k H1 s1
       ·rw [zd (by
         unfold sgn;rw [Bool.not_eq_true',decide_eq_false_iff_not];intro z;injection z with z
         have e1:[c]=[48]:=J01.mp z;exact hc0 (by simpa using e1))]
        rw [zh (by simpa using hc0)] at k;exact k H1 s1
    ·rw [zd (by simp;omega)]
     rw [zh h2,Bool.false_and] at k;exact k H (Same.refl H)
   ·rw [zc (by simp;omega)]
    rw [zh h1,Bool.false_and] at k;exact k H (Same.refl H)
  refine ⟨rfl,?_⟩;rw [J5c];by_cases h0:z.cps.toList.head?=some 45
  ·rw [zd (zg h0)]
   have ec:J03 z.cps.toList (some 1) none=z.cps.toList.tail:=by rw [show (1:Int)=((1:Nat):Int) from rfl,J6c,drop_one]
   refine ⟨hz,?_⟩;refine core ⟨(J03 z.cps.toList (some 1) none).toArray⟩ ?_ ?_
   ·show (J03 z.cps.toList (some 1) none).toArray.toList=_
    rw [ec];unfold J1e;rw [zd h0]
   ·show (J03 z.cps.toList (some 1) none).toArray.size<=_
    rw [zw];exact zo (J4u _ _ _) (by rw [zq];exact hz)
  ·rw [zc (by simpa using h0)]
   exact core z (by unfold J1e;rw [zc h0]) hz
def J0Q (num:Bool)(z:Str):V:=if num then (if JX z.cps.toList then .int (J1c z.cps.toList) else .non) else (if J0o (.str z) (Jy++JG) then .str z else .non)
def J4z (K:Frag):Sp:=fun vs H Q _=>∃ kd z,vs=[.str kd,.str z]/\z.length<=sizeLine/\∀ H',Same H H'->Q (J0Q (decide (kd="number")) z) H'
theorem ok_read_value (T:Txt w K mg f fd):FnOk P w K mg base CX0 4 (f 15) (fd 15) ["kind","text"] (J4z K):=by
 walk_at "ok wI J4E"
 ·obtain ⟨z,y,rfl,_⟩:=h
  rfl
 ·obtain ⟨kd,z,rfl,hz,k⟩:=h
  refine ⟨_,(Jc (Js (Jj JN (pvl 0) Jf (Jn _))
   (Je (Jk (J35 (JV (Jm T.wY (ok_writes_number T) (hr.mono (by decide)) rfl (by decide) rfl (pal rfl (pvl 1) Jb))) (J1v J2I T.wV J6W rfl (by decide) (by decide) rfl (pal rfl (pvl 1) Jb)) J09)))
   Jl)
   (Je (Jk (J35 (JV (Jm T.wX (J6G T) (hr.mono (by decide)) rfl (by decide) rfl (pal rfl (pvl 1) Jb))) (pvl 1) J09)))),?_⟩
  walk_at "py";by_cases hk:kd=Str.ofString "number"
  ·rw [zd (zg hk)]
   rw [zg hk] at k;refine ⟨z,rfl,hz,fun H1 s1=>⟨_,rfl,?_⟩⟩;cases ho:JX z.cps.toList with
   | true =>
     rw [zd rfl];obtain ⟨e1,e2⟩:=J4m ho;refine ⟨_,e1,by omega,?_⟩;have:=k H1 s1;unfold J0Q at this;rw [zd rfl,ho,zd rfl] at this;exact this
   | false =>
     rw [zc zf];have:=k H1 s1;unfold J0Q at this;rw [zd rfl,ho,zc zf] at this;exact this
  ·rw [zc (by simpa using hk)]
   rw [zh hk] at k;refine ⟨_,_,rfl,Pl.of_str hz,fun H1 s1=>⟨_,rfl,?_⟩⟩;have:=k H1 s1;unfold J0Q at this;rw [zc zf] at this;cases ho:J0o (.str z) (Jy++JG) with
   | true=>rw [zd rfl];rw [ho,zd rfl] at this;exact this
   | false=>rw [zc zf];rw [ho,zc zf] at this;exact this
theorem JbR:∀ d:Nat,d<10->(Str.ofString "0123456789").cps.toList[d]?=some (48+d):=by decide +kernel
def Wrd (z:Str):Prop:=1<=z.length/\z.length<=12/\∀ c∈z.cps.toList,c∈(Jy++JG).cps.toList
def Tx (n:Nat)(z:Str):Prop:=z.length<=n/\∀ c∈z.cps.toList,c<1114112
theorem Jbi:∀ c∈(Jy++JG).cps.toList,c<1114112:=by decide +kernel
abbrev J9w:Str:="abcdefghijklmnopqrstuvwxyz0123456789"
theorem J6z:J9w=Jy++JG:=by decide +kernel
theorem Wrd.tx (h:Wrd z):Tx 100 z:=⟨by have:=h.2.1;omega,fun c hc=>Jbi c (h.2.2 c hc)⟩
theorem Wrd.read (h:Wrd z):J0Q false z=.str z:=by
 have e:J0o (.str z) (Jy++JG)=true:=by
  show (decide (1<=z.length)&&(decide (z.length<=12)&&J0v z (Jy++JG)))=true;rw [zg h.1,zg h.2.1];unfold J0v;rw [all_eq_true.mpr fun c hc=>zg (h.2.2 c hc)];rfl
 unfold J0Q;rw [zc zf,zd e]
theorem JbO (h:n.natAbs<10 ^ 60):Tx 100 ⟨(J1g n).toArray⟩:=by
 have l:=J5u 59 h;have ad:∀ c∈J1g n,c<1114112:=by
  intro c hc;unfold J1g at hc;have hd:∀ c∈dgs n.natAbs,c<1114112:=fun c hc=>by have:=J2V n.natAbs c hc;omega
  split at hc
  ·rcases zC.mp hc with rfl | hc
   ·decide
   ·exact hd c hc
  ·exact hd c hc
 refine ⟨?_,ad⟩;show (J1g n).toArray.size<=100;rw [zw];unfold J1g
 split
 ·rw [length_cons];omega
 ·omega
theorem Jbr (h:n.natAbs<10 ^ 60):J0Q true ⟨(J1g n).toArray⟩=.int n:=by
 obtain ⟨e1,e2⟩:=J5W h;unfold J0Q;rw [zd rfl];show (if JX (J1g n)=true then V.int (J1c (J1g n)) else V.non)=_;rw [zd e1,e2]
def J2w (K:Frag):Sp:=fun vs H Q _=>∃ a C v ini,vs=[.ref a,v]/\H a=some (ExN a (.ref C) none)/\exB K C ini=true/\PySem.W.hasDictIn K C=true/\findIn K (.ref C) "__setattr__"=some (some (.builtin "object.__setattr__"))/\findIn K (.ref C) "name"=some none /\
 ∀ dx,H dx=none->dx≠a->Q .non (upd (upd H dx (.xd [("name",v)])) a (ExN a (.ref C) (some dx)))
theorem J2A (T:Txt w K mg f fd):FnOk P w K mg base CX0 1 (f 4000) (fd 4000) ["self","name"] (J2w K):=by
 walk_at "ok wR J2y"
 ·obtain ⟨a,C,v,ini,rfl,_⟩:=h
  rfl
 ·obtain ⟨a,C,v,ini,rfl,e1,e2,e3,e4,e5,k⟩:=h
  refine ⟨_,(Je (ps_xset (pvl 0) (pvl 1) rfl)),?_⟩;walk_at "py";exact ⟨C,e1,⟨ini,e2⟩,e3,e4,e5,k⟩
def J16 (K:Frag):Sp:=fun vs H Q _=>∃ a C v ini,vs=[.ref a,v]/\H a=some (ExN a (.ref C) none)/\exB K C ini=true/\PySem.W.hasDictIn K C=true/\findIn K (.ref C) "__setattr__"=some (some (.builtin "object.__setattr__"))/\findIn K (.ref C) "name"=some none /\
 ∀ dx,H dx=none->dx≠a->Q .non (upd (upd H dx (.xd [("name",v)])) a (ExN a (.ref C) (some dx)))
theorem J0u (T:Txt w K mg f fd):FnOk P w K mg base CX0 1 (f 5000) (fd 5000) ["self","name"] (J16 K):=by
 walk_at "ok wm J2N"
 ·obtain ⟨a,C,v,ini,rfl,_⟩:=h
  rfl
 ·obtain ⟨a,C,v,ini,rfl,e1,e2,e3,e4,e5,k⟩:=h
  refine ⟨_,(Je (ps_xset (pvl 0) (pvl 1) rfl)),?_⟩;walk_at "py";exact ⟨C,e1,⟨ini,e2⟩,e3,e4,e5,k⟩
def FldsK (H:Hp)(xs:List V)(ns kds:List Str):Prop:=ns.length=xs.length/\kds.length=xs.length/\ns.Nodup/\∀ (i:Nat) x n kd,xs[i]?=some x->ns[i]?=some n->kds[i]?=some kd->∃ p,x=.ref p/\H p=some (.tup [.str n,.str kd])
theorem FldsK.mono {xs:List V}(s:Same H H')(h:FldsK H xs ns kds):FldsK H' xs ns kds:=⟨h.1,h.2.1,h.2.2.1,fun i x n kd a b c=>by
 obtain ⟨p,e,g⟩:=h.2.2.2 i x n kd a b c;exact ⟨p,e,s _ _ g⟩⟩
theorem FldsK.at {xs:List V}(h:FldsK H xs ns kds)(hi:i<xs.length):∃ p n kd,xs[i]?=some (.ref p)/\ns[i]?=some n/\kds[i]?=some kd/\H p=some (.tup [.str n,.str kd]):=by
 have h1:i<ns.length:=by rw [h.1];exact hi
 have h2:i<kds.length:=by rw [h.2.1];exact hi
 obtain ⟨p,e,g⟩:=h.2.2.2 i _ _ _ (zr hi) (zr h1) (zr h2);exact ⟨p,_,_,by rw [zr hi,e],zr h1,zr h2,g⟩
theorem J3v {a dx:Addr}{o1 o2 o3:HO}(ha:H1 a=none)(hdx:upd H1 a o1 dx=none)(hne:dx≠a):Same H1 (J1n (upd (upd (upd H1 a o1) dx o2) a o3) a)/\J1n (upd (upd (upd H1 a o1) dx o2) a o3) a dx=some o2:=by
 refine ⟨fun b o hb1=>?_,?_⟩
 ·have n1:b≠a:=fun z=>by subst z;rw [ha] at hb1;cases hb1
  have n2:b≠dx:=fun z=>by
   subst z;rw [Jo n1] at hdx;rw [hdx] at hb1;cases hb1
  rw [J5t n1,Jo n1,Jo n2,Jo n1];exact hb1
 ·rw [J5t hne,Jo hne,Jd]
def J5N (K:Frag)(f:Nat->Addr):Sp:=fun vs H Q E=>∃ l xs ns kds n,vs=[.ref l,.str n]/\H l=some (.lst xs)/\FldsK H xs ns kds /\
 ((∃ i:Nat,ns[i]?=some n/\∀ H',Same H H'->Q (.int i) H')\/(n∉ns/\∀ H' dx,Same H H'->H' dx=some (.xd [("name",.str n)])->E (.ref (f 3)) (some dx) H'))
theorem ok_field_at (T:Txt w K mg f fd):FnOk P w K mg base (CXE P w) 3 (f 17) (fd 17) ["fields","name"] (J5N K f):=by
 refine T.wJ.F.okX J27 (fun vs H Q E h=>?_) (fun cdv A outer s H vs Q E hr h=>?_)
 ·obtain ⟨l,xs,ns,kds,n,rfl,_⟩:=h
  rfl
 ·obtain ⟨l,xs,ns,kds,n,rfl,hl,hF,k⟩:=h
  refine ⟨_,(Jc (J2a PassesOwn.leaving rfl (J9H rfl T.yL (pal rfl (pvl 0) Jb) rfl) (J7h rfl rfl (J0R (pgl 2 J27.nd) (J0R (pgl 3 J27.nd) J3T)))
   (Je (Js (Jj JN (Jq (Jt rfl) (pvl 3) Ja (fun _ _=>rfl)) (pvl 1) (Jn _))
   (Je (Jk (pvl 2)))
   Jl)))
   (Je (J2n JD rfl T.wg.x T.wR.fn (J2A T) (hr.mono (by decide)) T.wR.b T.wg.kp rfl T.wg.m (by decide) rfl (pal rfl (pvl 1) Jb)))),?_⟩
  walk_at "py";refine J2j ?_;unfold Jap;walk_at "py";refine ⟨⟨xs,.of hl⟩,ForW.enum (xs:=xs) (fun j σ H'=>(∃ v2 v3,σ=[some (V.ref l),some (V.str n),v2,v3])/\n∉ns.take j/\Same H H') ⟨⟨none,none,rfl⟩,by simp,Same.refl _⟩ (fun _ _ _ q=>q.2.2.seq (.of hl)) ?_ ?_⟩
  ·rintro j x σ H1 p hx ⟨⟨v2,v3,rfl⟩,hnot,s1⟩ hp
   have s2:=s1.new hp (HO.tup [V.int (j:Int),x]);refine ⟨p,_,rfl,.of Jd,rfl,?_⟩;generalize upd H1 p (HO.tup [V.int (j:Int),x])=H2 at *;obtain ⟨q,nj,kd,hxq,hj,_,hq⟩:=hF.at (zt.mp hx).1;obtain rfl:x=.ref q:=zi (hx.symm.trans hxq);simp only [J65,J94,J0C];walk_at "py";refine Jb2 (.of (s2 _ _ hq)) (by decide) (by simp) fun v hv=>?_;obtain rfl:V.str nj=v:=by simpa using hv
   refine ⟨rfl,?_⟩;by_cases e:nj=n
   ·subst e
    rw [zd (by simp)];rcases k with ⟨i,hi,k⟩ | ⟨hno,_⟩
    ·obtain rfl:=J38 hF.2.2.1 hi hj
     exact k _ s2
    ·exact absurd (zx hj) hno
   ·rw [zc (by simpa using e)]
    refine ⟨⟨_,rfl⟩,?_,s2⟩;rw [J0G hj];intro z;rcases zH.mp z with z | z
    ·exact hnot z
    ·exact e (zv.mp z).symm
  ·rintro σ H1 ⟨⟨v2,v3,rfl⟩,hnot,s1⟩
   rw [<- hF.1,zF] at hnot;rcases k with ⟨i,hi,_⟩ | ⟨_,k⟩
   ·exact absurd (zx hi) hnot
   ·walk_at "py"
    exact ⟨J9 (by decide),fun a ha=>⟨a,f 3,.str n,some (.ref (f 4000)),rfl,Jd,T.wg.x,T.wg.xc.hd,T.wg.sa,T.ym,fun dx hdx hne=>⟨rfl,some dx,Jd,k _ dx (s1.trans (J3v ha hdx hne).1) (J3v ha hdx hne).2⟩⟩⟩
abbrev J1i:Str:="word"
abbrev kdN:Str:="number"
def JbZ (b:Nat)(n:Str):Prop:=n.length<=b/\∀ c∈n.cps.toList,c<1114112
abbrev J0S (z:Str):Prop:=∀ c∈z.cps.toList,c<1114112
theorem J1y (h:J0S z):PyData.strOk z=true:=by
 simp only [PyData.strOk];rw [Array.all_eq_true_iff_forall_mem];intro c hc';exact zg (h c (by simpa using hc'))
abbrev Jbf:Str:="abcdefghijklmnopqrstuvwxyz0123456789"
theorem JaT:∀ d:Nat,d<26->Jy.cps.toList[d]?=some (97+d):=by decide +kernel
theorem J9S:Jy.length=26:=by decide
def ch (sg:Str)(i:Int):Nat:=sg.cps.toList.getD (i % (sg.length:Int)).toNat 0
theorem J5x (h:1<=sg.length)(i:Int):sg.cps.toList[(i % (sg.length:Int)).toNat]?=some (ch sg i):=by
 have h1:=zk i (show (0:Int)<sg.length by omega);have h0:=zl i (show (sg.length:Int)≠0 by omega);have hl:(i % (sg.length:Int)).toNat<sg.cps.toList.length:=by rw [show sg.cps.toList.length=sg.length by simp [Str.length]];omega
 unfold ch;rw [getD_eq_getElem?_getD,zr hl];rfl
theorem J9g (h:1<=sg.length)(i:Int):ch sg i∈sg.cps.toList:=zx (J5x h i)
theorem J9h (i:Int):ch Jy i=97+(i % 26).toNat:=by
 have e:=J5x (sg:=Jy) (by decide) i;rw [J9S] at e;have e2:=JaT (i % 26).toNat (by have:=zk i (show (0:Int)<26 by decide);have:=zl i (show (26:Int)≠0 by decide);omega);exact zi (e.symm.trans e2)
theorem J1Z {α:Type}{f:Nat->α}(h:∀ i j,i<m->j<m->f i=f j->i=j):((List.range m).map f).Nodup:=by
 unfold List.Nodup;rw [pairwise_map];refine List.Pairwise.imp_of_mem (fun {a b} ha hb hn e=>hn (h a b (mem_range.mp ha) (mem_range.mp hb) e)) nodup_range
theorem J4V (c:Nat)(h0:0<=n)(h:n<=12):MulOk ⟨#[c]⟩ n:=by
 refine ⟨by rw [zh (by omega),zh (by omega)];rfl,fun h1 _=>?_,fun h1 _=>?_⟩
 ·show ¬ (1:Int) > (2 ^ 63 - 1) / n
  rcases (by omega:n=1\/n=2\/n=3\/n=4\/n=5\/n=6\/n=7\/n=8\/n=9\/n=10\/n=11\/n=12) with rfl | rfl | rfl | rfl | rfl | rfl | rfl | rfl | rfl | rfl | rfl | rfl<;>decide
 ·show Builtin.Str.tooLong (1 * n.toNat)=false
  rcases (by omega:n=1\/n=2\/n=3\/n=4\/n=5\/n=6\/n=7\/n=8\/n=9\/n=10\/n=11\/n=12) with rfl | rfl | rfl | rfl | rfl | rfl | rfl | rfl | rfl | rfl | rfl | rfl<;>decide +kernel
theorem J0n (z:Str):z.cps.toList.length=z.length:=by simp [Str.length]
theorem Jr (x y:Str):(x++y).length=x.length+y.length:=by
 rw [<- J0n,<- J0n,<- J0n,PySem.W.KT.app_list,zy]
theorem J5q (c:Nat)(n:Int):(Txt.mul ⟨#[c]⟩ n).length=n.toNat:=by rw [<- J0n,PyProof.Rows.mul_one_list,zP]
def Jar (sg:Str)(zs:List Str)(m:Nat):Prop:=zs.length=m/\(sg=Jy->zs.Nodup)/\∀ z∈zs,1<=z.length/\z.length<=12/\∀ c∈z.cps.toList,c∈sg.cps.toList
def hdS (sg:Str)(sd:Int)(c:Nat)(at0 few:Int)(i:Nat):Str:=Txt.mul ⟨#[c]⟩ at0++⟨#[ch sg (sd / 1664+5 * (0+(i:Int)))]⟩++Txt.mul ⟨#[c]⟩ (1+few - at0 - 1)
theorem J3X (sg:Str)(sd:Int)(c:Nat)(at0 few:Int)(i:Nat):(hdS sg sd c at0 few i).cps.toList=List.replicate at0.toNat c++[ch sg (sd / 1664+5 * (0+(i:Int)))]++List.replicate (1+few - at0 - 1).toNat c:=by
 unfold hdS;rw [PySem.W.KT.app_list,PySem.W.KT.app_list,PyProof.Rows.mul_one_list,PyProof.Rows.mul_one_list]
theorem J7U {sd:Int}{at0 few:Int}(hsg:1<=sg.length)(hc:c∈sg.cps.toList)(h0:0<=at0)(h1:at0<1+few)(h2:few<12)(hm:m<=9):Jar sg ((List.range m).map (hdS sg sd c at0 few)) m:=by
 refine ⟨by rw [zu,zN],fun hlt=>J1Z fun i j hi hj e=>?_,fun z hz=>?_⟩
 ·have e1:=J01.mp e
  rw [J3X,J3X,zO,zO] at e1;have e2:=append_cancel_left e1;have e3:ch sg (sd / 1664+5 * (0+(i:Int)))=ch sg (sd / 1664+5 * (0+(j:Int))):=by
   injection e2
  subst hlt;rw [J9h,J9h] at e3;omega
 ·obtain ⟨i,_,rfl⟩:=zK.mp hz
  have hl:(hdS sg sd c at0 few i).length=(1+few).toNat:=by
   rw [<- J0n,J3X,zy,zy,zP,zP,length_singleton];omega
  refine ⟨by omega,by omega,fun d hd=>?_⟩;rw [J3X] at hd;rcases zH.mp hd with hd | hd
  ·rcases zH.mp hd with hd | hd
   ·rw [eq_of_mem_replicate hd];exact hc
   ·rw [zv.mp hd];exact J9g hsg _
  ·rw [eq_of_mem_replicate hd];exact hc
def J6w (K:Frag):Sp:=fun vs H Q _=>∃ sd:Int,∃ m:Nat,∃ sg:Str,vs=[.int sd,.str sg,.int m,.int 12]/\m<=9/\1<=sg.length/\sg.length<=1000/\∀ H' p zs,Same H H'->H' p=some (.lst (zs.map V.str))->Jar sg zs m->Q (.ref p) H'
theorem ok_l_heads (T:Txt w K mg f fd):FnOk P w K mg base CX0 1 (f 35) (fd 35) ["_law_seed","_law_signs","_law_many_here","_law_most"] (J6w K):=by
 walk_at "ok wL J0f"
 ·obtain ⟨sd,m,sg,rfl,_⟩:=h
  rfl
 ·obtain ⟨sd,m,sg,rfl,h9,hg1,hg2,k⟩:=h
  have hgl:sg.length<=sizeLine:=J9 (by omega);have hg0:(0:Int)<sg.length:=by omega
  refine ⟨_,(Jc (Js (PW.pt (J0Z (Jj JN (Jg JF (Jg J0b (pvc 0) Ja) Ja) Ja (Jn _)) (J0z (Jj J1E (pvl 2) (pvl 3) (Jn _)))))
   (Jc (psc 4 J0f.nd (J2F rfl PySem.F.plainAttrs_str PySem.F.slot_str_join PySem.F.type_str_join (J6L rfl) rfl rfl rfl rfl Jf (pal rfl (J2q ["_law_k"] ["_law_seed","_law_signs","_law_many_here","_law_most","_law_word","_law_few","_law_at_here","_law_rest","_law_heads_here","#9","_law_sign"] rfl (show CompSc _ (Ji J1C) ["_law_seed","_law_signs","_law_many_here","_law_most","_law_word","_law_few","_law_at_here","_law_rest","_law_heads_here","_law_k","_law_sign"] ["_law_seed","_law_signs","_law_many_here","_law_most","_law_word","_law_few","_law_at_here","_law_rest","_law_heads_here","#9","_law_sign"] from J05 (by decide +kernel)) (J13 rfl T.wp (pal rfl (pvl 3) Jb)) (fun _ _ _ _ _=>(pgl 0 (show (["_law_k","_law_seed","_law_signs","_law_many_here","_law_most","_law_word","_law_few","_law_at_here","_law_rest","_law_heads_here","#9","_law_sign"]:List Str).Nodup by decide +kernel))) (fun _ _ _ _ _=>J1m) (fun _ _ _ _ _=>(Jq J2h (pvc 2) (Jg JF (Jg JE (Jg J0b (pvc 1) Ja) (Jg J1T (Jg J1T Ja (pvl 0)) (pvl 0))) (JR Jz T.wc JY rfl (by decide) (by decide) rfl (pal rfl (pvc 2) Jb))) (fun _ _=>rfl)))) Jb)))
   (Je (Jk (J2q ["_law_k"] ["_law_seed","_law_signs","_law_many_here","_law_most","_law_word","_law_few","_law_at_here","_law_rest","_law_heads_here","#9","_law_sign"] rfl (show CompSc _ (Ji J1C) ["_law_seed","_law_signs","_law_many_here","_law_most","_law_word","_law_few","_law_at_here","_law_rest","_law_heads_here","_law_k","_law_sign"] ["_law_seed","_law_signs","_law_many_here","_law_most","_law_word","_law_few","_law_at_here","_law_rest","_law_heads_here","#9","_law_sign"] from J05 (by decide +kernel)) (J13 rfl T.wp (pal rfl (pvl 2) Jb)) (fun _ _ _ _ _=>(pgl 0 (show (["_law_k","_law_seed","_law_signs","_law_many_here","_law_most","_law_word","_law_few","_law_at_here","_law_rest","_law_heads_here","#9","_law_sign"]:List Str).Nodup by decide +kernel))) (fun _ _ _ _ _=>J1m) (fun _ _ _ _ _=>(JA JU (pvc 5) J0a (Jv (Jg JE (pvl 0) Ja))))))))
   Jl)
   (Jc (psl 5 J0f.nd (Jg JE Ja (Jg JF (pvc 0) (pvl 3))))
   (Jc (psl 6 J0f.nd (Jg JF (Jg J0b (pvc 0) Ja) (pvl 5)))
   (Jc (psl 7 J0f.nd (Jq J2h (pvc 1) (Jg JF (Jg J0b (pvc 0) Ja) (JR Jz T.wc JY rfl (by decide) (by decide) rfl (pal rfl (pvc 1) Jb))) (fun _ _=>rfl)))
   (Jc (psl 8 J0f.nd (J02 Jb))
   (Jc (J2a PassesOwn.never rfl (J13 rfl T.wp (pal rfl (pvl 2) Jb)) (pgl 9 J0f.nd)
   (Jc (psl 10 J0f.nd (Jq J2h (pvc 1) (Jg JF (Jg JE (Jg J0b (pvc 0) Ja) (Jg J1T Ja (pvl 9))) (JR Jz T.wc JY rfl (by decide) (by decide) rfl (pal rfl (pvc 1) Jb))) (fun _ _=>rfl)))
   (Je (J2o (J2F rfl zU PySem.F.slot_list_append PySem.F.type_list_append J1F rfl rfl rfl rfl (pvl 8) (pal rfl (Jg Jp (Jg Jp (Jg J1b (pvl 7) (pvl 6)) (pvl 10)) (Jg J1b (pvl 7) (Jg J1w (Jg J1w (pvl 5) (pvl 6)) Ja))) Jb))))))
   (Je (Jk (pvl 8))))))))),?_⟩
  walk_at "py";refine ⟨⟨by decide,by decide⟩,by decide,?_⟩;by_cases h4:sd / 43264 % 4=3
  ·rw [zd (zg h4),zd (zg (by omega))]
   refine ⟨rfl,by decide,by decide,comp_of (as:=List.range 12) (g:=fun i=>V.int (0+(i:Int))) J0F (J9 (by decide)) (fun _ _=>trivial) (fun _=>true) (fun i=>sgn (ch sg (sd / 1664+5 * (0+(i:Int)) * (0+(i:Int))))) (fun _ H1 Q _ _ q=>q H1 (Same.refl _)) (fun i H1 Q hi _ _ q=>?_) (fun H1 s1 D hD=>?_)⟩
   ·have hi:=mem_range.mp hi
    walk_at "py";refine ⟨⟨by decide,by decide⟩,.inl ⟨by decide,by decide⟩,.inr ⟨by omega,by omega⟩,hgl,hg0,?_⟩;refine J3D hgl (zl _ (by omega)) (zk _ hg0) fun c hc=>?_;have e:=J5x hg1 (sd / 1664+5 * (0+(i:Int)) * (0+(i:Int)));obtain rfl:c=ch sg (sd / 1664+5 * (0+(i:Int)) * (0+(i:Int))):=zi (hc.symm.trans e);exact q H1 (Same.refl _)
   ·rw [J2U]
    have ecs:(List.range 12).map (fun (i:Nat)=>sgn (ch sg (sd / 1664+5 * (0+(i:Int)) * (0+(i:Int)))))=((List.range 12).map fun (i:Nat)=>ch sg (sd / 1664+5 * (0+(i:Int)) * (0+(i:Int)))).map sgn:=by rw [map_map];rfl
    rw [ecs];have hlc:((List.range 12).map fun (i:Nat)=>ch sg (sd / 1664+5 * (0+(i:Int)) * (0+(i:Int)))).length=12:=by rw [zu,zN]
    have hmc:∀ c∈(List.range 12).map fun (i:Nat)=>ch sg (sd / 1664+5 * (0+(i:Int)) * (0+(i:Int))),c∈sg.cps.toList:=fun c hc=>by
     obtain ⟨i,_,rfl⟩:=zK.mp hc;exact J9g hg1 _
    generalize ((List.range 12).map fun (i:Nat)=>ch sg (sd / 1664+5 * (0+(i:Int)) * (0+(i:Int))))=cs at *;have s2:=s1.new hD (HO.lst (cs.map sgn));refine J8Z (.of Jd) (by omega) ⟨by omega,by omega,?_⟩;generalize upd H1 D (HO.lst (cs.map sgn))=H2 at *;rw [Int.toNat_natCast];refine comp_of (as:=List.range m) (g:=fun i=>V.int (0+(i:Int))) J0F (by rw [zN];exact J9 (by omega)) (fun _ _=>trivial) (fun _=>true) (fun i=>.str ⟨(cs.take (i+1)).toArray⟩) (fun _ H1 Q _ _ q=>q H1 (Same.refl _)) (fun i H3 Q hi _ _ q=>?_) (fun H3 s3 D3 hD3=>?_)
    ·walk_at "py"
     refine ⟨J9 (by show cs.toArray.size<=_;rw [zw];omega),?_⟩;have e:J03 cs none (some (0+(i:Int)+1))=cs.take (i+1):=by
      rw [show (0+(i:Int)+1)=((i+1:Nat):Int) by omega,J4t]
     have e2:J03 (⟨cs.toArray⟩:Str).cps.toList none (some (0+(i:Int)+1))=cs.take (i+1):=e
     first
      | (rw [e2];exact q H3 (Same.refl _))
      | (rw [e];exact q H3 (Same.refl _))
    ·rw [J2U]
     have lt:∀ i,i<m->(cs.take (i+1)).length=i+1:=fun i hi=>by rw [zz,hlc];omega
     refine k _ D3 ((List.range m).map fun i=>⟨(cs.take (i+1)).toArray⟩) ((s2.trans s3).new hD3 _) (by rw [Jd,map_map];rfl) ⟨by rw [zu,zN],fun _=>J1Z fun i j hi hj e=>?_,fun z hz=>?_⟩
     ·have e2:=congrArg List.length (J01.mp e)
      have e3:(cs.take (i+1)).length=(cs.take (j+1)).length:=e2;rw [lt i hi,lt j hj] at e3;omega
     ·obtain ⟨i,hi,rfl⟩:=zK.mp hz
      have hi:=mem_range.mp hi;have hl:(⟨(cs.take (i+1)).toArray⟩:Str).length=i+1:=by
       show (cs.take (i+1)).toArray.size=_;rw [zw,lt i hi]
      exact ⟨by omega,by omega,fun c hc=>hmc c (mem_of_mem_take hc)⟩
  ·rw [zc (by simpa using h4)]
   refine ⟨by decide,⟨by decide,by decide⟩,by omega,⟨by decide,by decide⟩,hgl,hg0,?_⟩;refine J3D hgl (zl _ (by omega)) (zk _ hg0) fun c hc=>⟨J9 (by decide),fun p hp=>?_⟩;have hcl:c∈sg.cps.toList:=zx hc;have b1:0<=sd % 12:=zl _ (by decide);have b2:sd % 12<12:=zk _ (by decide);have b3:0<=sd / 12 % (1+sd % 12):=zl _ (by omega);have b4:sd / 12 % (1+sd % 12)<1+sd % 12:=zk _ (by omega);generalize sd / 12 % (1+sd % 12)=at0 at *;generalize sd % 12=few at *;have s1:=Same.upd_new hp (HO.lst []);have g1:upd H p (HO.lst []) p=some (.lst []):=Jd;generalize upd H p (HO.lst [])=H1 at *;refine J2j ?_;walk_at "py";refine ⟨by omega,by omega,?_⟩;rw [Int.toNat_natCast];refine ForW.of J0F (fun j σ H'=>(∃ v9 v10,σ=[some (V.int sd),some (V.str sg),some (V.int (m:Int)),some (V.int 12),none,some (V.int (1+few)),some (V.int at0),some (V.str ⟨#[c]⟩),some (V.ref p),v9,v10])/\H' p=some (.lst (((List.range j).map (hdS sg sd c at0 few)).map V.str))/\Same H H') ⟨⟨none,none,rfl⟩,g1,s1⟩ (fun _ _ _ _ _=>trivial) ?_ ?_
   ·rintro j x σ H2 hx ⟨⟨v9,v10,rfl⟩,g2,s2⟩
    obtain ⟨hj,rfl⟩:=J1R hx;walk_at "py";refine ⟨⟨by decide,by decide⟩,.inl ⟨by decide,by decide⟩,hgl,hg0,?_⟩;refine J3D hgl (zl _ (by omega)) (zk _ hg0) fun d hd=>?_;obtain rfl:d=ch sg (sd / 1664+5 * (0+(j:Int))):=zi (hd.symm.trans (J5x hg1 _));unfold sgn;walk_at "py";refine ⟨.inl ⟨rfl,_,.of g2⟩,J4V c b3 (by omega),J9 ?_,J4V c (by omega) (by omega),J9 ?_,p,_,_,rfl,rfl,g2,?_,⟨_,rfl⟩,?_,s2.set hp _⟩
    ·rw [J5q]
     show at0.toNat+1<=_;omega
    ·rw [Jr,J5q,J5q]
     show at0.toNat+1+_<=_;omega
    ·rw [zu,zu,zN,sizeLine_eq]
     omega
    ·rw [Jd,range_succ,zG,zG]
     rfl
   ·rintro σ H2 ⟨⟨v9,v10,rfl⟩,g2,s2⟩
    rw [J0i] at g2;walk_at "py";exact k _ p _ s2 g2 (J7U hg1 hcl b3 b4 b2 h9)
def Nam (n:Str):Prop:=1<=n.length/\n.length<=12/\∀ c∈n.cps.toList,c∈Jy.cps.toList
theorem Nam.wrd {n:Str}(h:Nam n):Wrd n:=⟨h.1,h.2.1,fun c hc=>by rw [PySem.W.KT.app_list];exact zJ _ (h.2.2 c hc)⟩
theorem J83 {n:Str}(h:1<=n.length/\n.length<=12/\∀ c∈n.cps.toList,c∈Jbf.cps.toList):Wrd n:=⟨h.1,h.2.1,fun c hc=>by rw [<- J6z];exact h.2.2 c hc⟩
theorem JbY:∀ c∈Jbf.cps.toList,c<1114112:=by decide +kernel
theorem J6K:∀ c∈Jy.cps.toList,c<1114112:=by decide +kernel
def Wd (H:Hp)(d:Addr)(ns kds:List Str):Prop:=∃ (kvs:List (Key×V)) (l w:Addr) (b:Int) (xs:List V) (ws:List Str),H d=some (.dK kvs)/\J1H kvs (.inr "fields")=some (.ref l)/\J1H kvs (.inr "words")=some (.ref w)/\J1H kvs (.inr "base")=some (.int b) /\
 H l=some (.lst xs)/\FldsK H xs ns kds/\(∀ kd∈kds,kd=J1i\/kd=kdN)/\1<=xs.length/\xs.length<=8/\H w=some (.lst (ws.map V.str))/\1<=ws.length/\ws.length<=60/\(∀ n∈ns,Nam n)/\(∀ z∈ws,Wrd z)/\-(9 * 10 ^ 59)<=b/\b<=9 * 10 ^ 59
theorem Wd.mono {d:Addr}(s:Same H H')(h:Wd H d ns kds):Wd H' d ns kds:=by
 obtain ⟨kvs,l,w,b,xs,ws,h1,h2,h3,h4,h5,h6,h7,h8,h9,h10,h11⟩:=h;exact ⟨kvs,l,w,b,xs,ws,s _ _ h1,h2,h3,h4,s _ _ h5,h6.mono s,h7,h8,h9,s _ _ h10,h11⟩
theorem J4x {d:Addr}{kvs:List (Key×V)}(h:H d=some (.dK kvs))(e:J1H kvs (.inr z)=some v):DGet H d (.str z) (some v):=by
 have:=DGet.k (k:=.inr z) h;rwa [e] at this
def J6v (K:Frag):Sp:=fun vs H Q _=>∃ (a:Addr) (ns0:List Int),vs=[.ref a]/\SqL K H a (ns0.map V.int)/\∀ H' d ns kds,Same H H'->Wd H' d ns kds->Q (.ref d) H'
theorem ok_l_world (T:Txt w K mg f fd):FnOk P w K mg base CX0 2 (f 36) (fd 36) ["_law_script"] (J6v K):=by
 walk_at "ok w9 J0e"
 ·obtain ⟨a,ns0,rfl,_⟩:=h
  rfl
 ·obtain ⟨a,ns0,rfl,hs,k⟩:=h
  refine ⟨_,(Jc (psc 1 J0e.nd (Jm T.we (JT T) (hr.mono (by decide)) rfl (by decide) rfl (pal rfl (Jm T.wK (J37 T) (hr.mono (by decide)) rfl (by decide) rfl (pal rfl (pvl 0) (pal rfl Ja Jb))) (pal rfl Ja Jb))))
   (Jc (psl 2 J0e.nd (Jg JE Ja (Jg JF (pvc 1) Ja)))
   (Jc (psc 3 J0e.nd (Jm T.wL (ok_l_heads T) (hr.mono (by decide)) rfl (by decide) rfl (pal rfl (Jm T.we (JT T) (hr.mono (by decide)) rfl (by decide) rfl (pal rfl (pvc 1) (pal rfl Ja Jb))) (pal rfl Jf (pal rfl (pvl 2) (pal rfl Ja Jb))))))
   (Jc (J7b ["_law_k"] ["_law_script","_law_seed","_law_many_here","_law_names","_law_fields","_law_words","_law_base"] rfl (show CompSc _ (Ji J2m) ["_law_script","_law_seed","_law_many_here","_law_names","_law_fields","_law_words","_law_base"] ["_law_script","_law_seed","_law_many_here","_law_names","_law_fields","_law_words","_law_base"] from J05 (by decide +kernel)) J0e.nd (i:=4) rfl rfl (J13 rfl T.wp (pal rfl (pvl 2) Jb)) (fun _ _ _ _ _=>(pgl 0 (show (["_law_k","_law_script","_law_seed","_law_many_here","_law_names","_law_fields","_law_words","_law_base"]:List Str).Nodup by decide +kernel))) (fun _ _ _ _ _=>J1m) (fun _ _ _ _ _=>(Jx (pal rfl (Jq (J1d rfl) (pvc 4) (pvl 0) (fun _ _=>rfl)) (pal rfl (Jq (J1d rfl) (J02 (pal rfl Jf (pal rfl Jf Jb))) (Jg JF (Jm T.we (JT T) (hr.mono (by decide)) rfl (by decide) rfl (pal rfl (pvc 2) (pal rfl (Jg JE (pvl 0) Ja) Jb))) Ja) (fun _ _=>rfl)) Jb)))))
   (Jc (psl 5 J0e.nd (Jm T.wL (ok_l_heads T) (hr.mono (by decide)) rfl (by decide) rfl (pal rfl (Jm T.we (JT T) (hr.mono (by decide)) rfl (by decide) rfl (pal rfl (pvc 1) (pal rfl Ja Jb))) (pal rfl Jf (pal rfl Ja (pal rfl Ja Jb))))))
   (Jc (Js (Jj JN (Jg JF (Jg J0b (pvc 1) Ja) Ja) Ja (Jn _))
   (Je (psl 5 J0e.nd (Jg JaP (JA (Jaj rfl) (pvc 3) J0a (Jv Ja)) (JA (Jaj rfl) (pvl 5) J0a (Jv Ja)))))
   Jl)
   (Jc (psl 6 J0e.nd (Jq (J1d rfl) (J02 (pal rfl Ja (pal rfl (Jg J1T Ja (Jg J8M Ja Ja)) (pal rfl (Jg J1w Ja (Jg J1T Ja (Jg J8M Ja Ja))) (pal rfl Ja Jb))))) (Jg JF (Jg J0b (pvc 1) Ja) Ja) (fun _ _=>rfl)))
   (Je (Jk (J36 (JZ Jf (pvl 4) (JZ Jf (pvl 5) (JZ Jf (pvl 6) J34))) rfl rfl (cons_ne_nil _ _) (by show 3<=15;decide))))))))))),?_⟩
  walk_at "dc";refine ⟨a,ns0,_,rfl,hs,by decide,fun v0=>⟨_,_,rfl,?_⟩⟩;generalize J5Z v0 1=sd at *;refine ⟨_,rfl,by decide,_,_,rfl,?_⟩;obtain ⟨m,hm⟩:∃ m:Nat,1+sd % 8=(m:Int):=⟨(1+sd % 8).toNat,by omega⟩;rw [hm];have hm1:1<=m/\m<=8:=by omega
  refine ⟨_,m,Jy,rfl,by omega,by decide,by decide,fun H1 pn zs s1 hpn hz=>?_⟩;refine ⟨by omega,by omega,?_⟩;rw [Int.toNat_natCast];refine J14 J0F (by rw [J0i];exact J9 (by omega)) (fun j ys H'=>Same H1 H'/\ys.length=j/\∃ kds:List Str,kds.length=j/\(∀ kd∈kds,kd=J1i\/kd=kdN)/\∀ (i:Nat) x n kd,ys[i]?=some x->zs[i]?=some n->kds[i]?=some kd->∃ p,x=.ref p/\H' p=some (.tup [.str n,.str kd])) ⟨Same.refl _,rfl,[],rfl,(fun _ h=>nomatch h),fun _ _ _ _ h=>by simp at h⟩ (fun _ _ _ _ _=>trivial) (fun j ys H' q=>Nat.le_of_eq q.2.1) (fun j x ys H2 hx q=>?_) (fun ys H2 q D hD=>?_)
  ·obtain ⟨hj,rfl⟩:=J1R hx
   obtain ⟨t1,t2,kds,t3,t4,t5⟩:=q;obtain ⟨n,hn⟩:∃ n,zs[j]?=some n:=⟨_,zr (by rw [hz.1];exact hj)⟩;walk_at "dc";rw [Int.zero_add];refine ⟨pn,_,_,_,rfl,rfl,.of (t1 _ _ hpn),Jh (by rw [zE,hn];rfl),J9 (by decide),fun p hp=>?_⟩;have u:=Same.upd_new hp (HO.lst [V.str (Str.ofString "word"),V.str (Str.ofString "number")]);have gp:upd H2 p (HO.lst [V.str (Str.ofString "word"),V.str (Str.ofString "number")]) p=some (.lst [V.str (Str.ofString "word"),V.str (Str.ofString "number")]):=Jd;generalize upd H2 p (HO.lst [V.str (Str.ofString "word"),V.str (Str.ofString "number")])=H3 at *;refine ⟨by decide,J1x (.of gp) (zl _ (by decide)) (zk _ (by decide)) fun kv hkv=>⟨J9 (by decide),fun r hr=>?_⟩⟩;obtain ⟨kd,rfl,hk2⟩:∃ kd:Str,kv=.str kd/\(kd=J1i\/kd=kdN):=by
    have h2:J5Z sd ((j:Int)+30) % 2=0\/J5Z sd ((j:Int)+30) % 2=1:=by omega
    rcases h2 with h | h
    ·rw [h] at hkv
     obtain rfl:V.str (Str.ofString "word")=kv:=by simpa using hkv
     exact ⟨_,rfl,.inl rfl⟩
    ·rw [h] at hkv
     obtain rfl:V.str (Str.ofString "number")=kv:=by simpa using hkv
     exact ⟨_,rfl,.inr rfl⟩
   have u3:=Same.upd_new hr (HO.tup [V.str n,V.str kd]);refine ⟨⟨_,rfl⟩,(t1.trans u).trans u3,by simp [t2],kds++[kd],by simp [t3],fun kd' hk'=>?_,fun i x n' kd' hx' hn' hk'=>?_⟩
   ·rcases zH.mp hk' with h | h
    ·exact t4 kd' h
    ·rw [zv.mp h]
     exact hk2
   ·by_cases hi:i<ys.length
    ·rw [zM hi] at hx'
     rw [zM (by omega)] at hk';obtain ⟨p',e1,e2⟩:=t5 i x n' kd' hx' hn' hk';exact ⟨p',e1,(u.trans u3) _ _ e2⟩
    ·have hil:=(zt.mp hx').1
     rw [zy,length_singleton] at hil;obtain rfl:i=ys.length:=by omega
     rw [zL (ze _),Nat.sub_self] at hx';obtain rfl:V.ref r=x:=by simpa using hx'
     rw [t2,hn] at hn';cases hn';rw [zL (by omega),t2,t3,Nat.sub_self] at hk';obtain rfl:kd=kd':=by simpa using hk'
     exact ⟨r,rfl,Jd⟩
  ·obtain ⟨t1,t2,kds,t3,hkk,t5⟩:=q
   rw [J0i] at t2 t3;have u3:=Same.upd_new hD (HO.lst ys);have gD:upd H2 D (HO.lst ys) D=some (.lst ys):=Jd;have hF:FldsK (upd H2 D (HO.lst ys)) ys zs kds:=FldsK.mono u3 ⟨hz.1.trans t2.symm,t3.trans t2.symm,hz.2.1 rfl,t5⟩;have s3:=(s1.trans t1).trans u3;have hpn3:=(t1.trans u3) _ _ hpn;generalize upd H2 D (HO.lst ys)=H3 at *;refine ⟨_,_,rfl,_,4,Jbf,rfl,by omega,by decide,by decide,fun H4 pw wz s4 hpw hwz=>⟨sd,rfl,⟨by decide,by decide⟩,by decide,?_⟩⟩;have hnms:∀ n∈zs,Nam n:=fun n hn=>hz.2.2 n hn;by_cases c:sd / 8 % 3=1
   ·rw [zd (zg c)]
    refine ⟨pn,rfl,_,.of (s4 _ _ hpn3),fun pa hpa=>?_⟩;have v1:=Same.upd_new hpa (HO.lst (J22 (zs.map V.str) none (some 3)));have gpa:upd H4 pa (HO.lst (J22 (zs.map V.str) none (some 3))) pa=some (.lst (J22 (zs.map V.str) none (some 3))):=Jd;generalize upd H4 pa (HO.lst (J22 (zs.map V.str) none (some 3)))=H4a at *;refine ⟨pw,rfl,_,.of (v1 _ _ hpw),fun pc hpc=>?_⟩;have v2:=Same.upd_new hpc (HO.lst (J22 (wz.map V.str) none (some 1)));have gpc:upd H4a pc (HO.lst (J22 (wz.map V.str) none (some 1))) pc=some (.lst (J22 (wz.map V.str) none (some 1))):=Jd;generalize upd H4a pc (HO.lst (J22 (wz.map V.str) none (some 1)))=H4b at *;have ew:J22 (zs.map V.str) none (some 3)++J22 (wz.map V.str) none (some 1)=(zs.take 3++wz.take 1).map V.str:=by
     rw [show J22 (zs.map V.str) none (some 3)=(zs.map V.str).take 3 from J4t _ 3,show J22 (wz.map V.str) none (some 1)=(wz.map V.str).take 1 from J4t _ 1,zG,map_take,map_take]
    have hwl:=hwz.1;have hzl:=hz.1;have elen:(zs.take 3++wz.take 1).length=min 3 m+1:=by
     rw [zy,zz,zz,hwl,hzl];omega
    have esum:(J22 (zs.map V.str) none (some 3)).length+(J22 (wz.map V.str) none (some 1)).length=(zs.take 3++wz.take 1).length:=by
     rw [<- zy,ew,zu]
    refine ⟨pa,pc,_,_,rfl,rfl,v2 _ _ gpa,gpc,by rw [esum,elen];exact J9 (by omega),fun pe hpe=>?_⟩;rw [ew];have v3:=Same.upd_new hpe (HO.lst ((zs.take 3++wz.take 1).map V.str));have gpe:upd H4b pe (HO.lst ((zs.take 3++wz.take 1).map V.str)) pe=some (.lst ((zs.take 3++wz.take 1).map V.str)):=Jd;generalize upd H4b pe (HO.lst ((zs.take 3++wz.take 1).map V.str))=H5 at *;have hwl12:∀ z∈zs.take 3++wz.take 1,Wrd z:=fun z hzm=>by
     rcases zH.mp hzm with h | h
     ·exact Nam.wrd (hz.2.2 z (mem_of_mem_take h))
     ·exact J83 (hwz.2.2 z (mem_of_mem_take h))
    have sD5:=((s4.trans v1).trans v2).trans v3;have s5:=s3.trans sD5;refine ⟨⟨by decide,by decide,by decide⟩,.inl ⟨by decide +kernel,by decide +kernel⟩,⟨by decide,by decide,by decide⟩,.inl ⟨by decide +kernel,by decide +kernel⟩,J9 (by decide),fun pb hpb=>⟨sd,rfl,⟨by decide,by decide⟩,by decide,?_⟩⟩;have u6:=Same.upd_new hpb (HO.lst [V.int 0,V.int (9 * 10 ^ Int.toNat 59),V.int (0 - 9 * 10 ^ Int.toNat 59),V.int 98]);have g6:upd H5 pb (HO.lst [V.int 0,V.int (9 * 10 ^ Int.toNat 59),V.int (0 - 9 * 10 ^ Int.toNat 59),V.int 98]) pb=some (.lst [V.int 0,V.int (9 * 10 ^ Int.toNat 59),V.int (0 - 9 * 10 ^ Int.toNat 59),V.int 98]):=Jd;generalize upd H5 pb (HO.lst [V.int 0,V.int (9 * 10 ^ Int.toNat 59),V.int (0 - 9 * 10 ^ Int.toNat 59),V.int 98])=H6 at *;refine J1x (.of g6) (zl _ (by decide)) (zk _ (by decide)) fun bv hbv pd hpd=>⟨Jd,[(.inr "fields",.ref D),(.inr "words",.ref pe),(.inr "base",bv)],rfl,(by show 3<=15;decide),?_⟩;obtain ⟨b,rfl,hbb⟩:∃ b,bv=.int b/\-(9 * 10 ^ 59)<=b/\b<=9 * 10 ^ 59:=by
     rcases (by omega:sd / 24 % 4=0\/sd / 24 % 4=1\/sd / 24 % 4=2\/sd / 24 % 4=3) with h | h | h | h<;>rw [h] at hbv<;>exact ⟨_,(zi hbv).symm,by decide +kernel,by decide +kernel⟩
    rw [J0K];have u7:=Same.upd_new hpd (HO.dK (JK [] [(.inr "fields",.ref D),(.inr "words",.ref pe),(.inr "base",.int b)]));exact k _ pd zs kds ((s5.trans u6).trans u7) ⟨_,D,pe,b,ys,(zs.take 3++wz.take 1),Jd,rfl,rfl,rfl,(sD5.trans (u6.trans u7)) _ _ gD,FldsK.mono (sD5.trans (u6.trans u7)) hF,hkk,by omega,by omega,(u6.trans u7) _ _ gpe,by omega,by omega,hnms,hwl12,hbb⟩
   ·rw [zc (by simpa using c)]
    have hwl:=hwz.1;have s5:=s3.trans s4;have hwl12:∀ z∈wz,Wrd z:=fun z hzm=>J83 (hwz.2.2 z hzm);refine ⟨⟨by decide,by decide,by decide⟩,.inl ⟨by decide +kernel,by decide +kernel⟩,⟨by decide,by decide,by decide⟩,.inl ⟨by decide +kernel,by decide +kernel⟩,J9 (by decide),fun pb hpb=>⟨sd,rfl,⟨by decide,by decide⟩,by decide,?_⟩⟩;have u6:=Same.upd_new hpb (HO.lst [V.int 0,V.int (9 * 10 ^ Int.toNat 59),V.int (0 - 9 * 10 ^ Int.toNat 59),V.int 98]);have g6:upd H4 pb (HO.lst [V.int 0,V.int (9 * 10 ^ Int.toNat 59),V.int (0 - 9 * 10 ^ Int.toNat 59),V.int 98]) pb=some (.lst [V.int 0,V.int (9 * 10 ^ Int.toNat 59),V.int (0 - 9 * 10 ^ Int.toNat 59),V.int 98]):=Jd;generalize upd H4 pb (HO.lst [V.int 0,V.int (9 * 10 ^ Int.toNat 59),V.int (0 - 9 * 10 ^ Int.toNat 59),V.int 98])=H6 at *;refine J1x (.of g6) (zl _ (by decide)) (zk _ (by decide)) fun bv hbv pd hpd=>⟨Jd,[(.inr "fields",.ref D),(.inr "words",.ref pw),(.inr "base",bv)],rfl,(by show 3<=15;decide),?_⟩;obtain ⟨b,rfl,hbb⟩:∃ b,bv=.int b/\-(9 * 10 ^ 59)<=b/\b<=9 * 10 ^ 59:=by
     rcases (by omega:sd / 24 % 4=0\/sd / 24 % 4=1\/sd / 24 % 4=2\/sd / 24 % 4=3) with h | h | h | h<;>rw [h] at hbv<;>exact ⟨_,(zi hbv).symm,by decide +kernel,by decide +kernel⟩
    rw [J0K];have u7:=Same.upd_new hpd (HO.dK (JK [] [(.inr "fields",.ref D),(.inr "words",.ref pw),(.inr "base",.int b)]));exact k _ pd zs kds ((s5.trans u6).trans u7) ⟨_,D,pw,b,ys,wz,Jd,rfl,rfl,rfl,(s4.trans (u6.trans u7)) _ _ gD,FldsK.mono (s4.trans (u6.trans u7)) hF,hkk,by omega,by omega,(u6.trans u7) _ _ hpw,by omega,by omega,hnms,hwl12,hbb⟩
def JC (z:Str)(a b:Int):List (Str×V):=[("text",.str z),("at",.int a),("begun",.int b)]
theorem J8E (z:Str)(a b c:Int):J0j "at" (.int c) (JC z a b)=JC z c b:=by
 unfold JC;rw [J0j,zc (by decide),J0j,zd rfl]
theorem J7D (z:Str)(a b c:Int):J0j "begun" (.int c) (JC z a b)=JC z a c:=by
 unfold JC;rw [J0j,zc (by decide),J0j,zc (by decide),J0j,zd rfl]
theorem J8D (z:Str):J0j "begun" (.int 0) (J0j "at" (.int 0) (J0j "text" (.str z) []))=JC z 0 0:=by
 have e1:J0j "at" (.int 0) (J0j "text" (.str z) [])=([("text",.str z),("at",.int 0)]:List (Str×V)):=by
  show (if (("text":Str)="at") then _ else _)=_;rw [zc (by decide)];rfl
 rw [e1,J0j,zc (by decide),J0j,zc (by decide),J0j];rfl
theorem st3 (x y:Str)(i:Nat):Txt.startswith3 x y (i:Int)=(decide (i+y.length<=x.length)&&((x.cps.toList.drop i).take y.length == y.cps.toList)):=by
 unfold Txt.startswith3;rw [PySem.StrLaws.subAt_eq,show fromIndex x.length (i:Int)=i by unfold fromIndex;rw [zc (by omega)];omega]
def J2v (K:Frag)(f:Nat->Addr):Sp:=fun vs H Q _=>∃ o dx z,vs=[.ref o,.str z]/\H o=some (.ins (f 28) dx [])/\Q .non (upd H o (.ins (f 28) dx (JC z 0 0)))
theorem J2z (T:Txt w K mg f fd):FnOk P w K mg base CX0 1 (f 29000) (fd 29000) ["self","text"] (J2v K f):=by
 walk_at "ok yg J2x"
 ·obtain ⟨o,dx,z,rfl,_⟩:=h
  rfl
 ·obtain ⟨o,dx,z,rfl,ho,k⟩:=h
  refine ⟨_,(Jc (J6F (pvl 0) (pvl 1) rfl)
   (Jc (J6F (pvl 0) Ja rfl)
   (Je (J6F (pvl 0) Ja rfl)))),?_⟩
  walk_at "dc";refine ⟨_,_,_,ho,T.wa.cls,T.wo,by decide,_,_,_,Jd,T.wa.cls,T.wj,by simp [J0j],_,_,_,Jd,T.wa.cls,T.wU,?_,?_⟩
  ·simp [J0j]
   split<;>simp
  ·rw [J0K,J0K,J8D]
   exact k
theorem J85 {v:HO}(h:H o=some v):upd H o v=H:=by
 funext b;unfold upd
 split
 ·next e=>rw [e,h]
 ·rfl
def TSame (H H':Hp):Prop:=∀ b ys,H b=some (.tup ys)->H' b=some (.tup ys)
theorem _root_.L2.Same.t (s:Same H H'):TSame H H':=fun b ys h=>s b _ h
theorem TSame.trans {H2:Hp}(s:TSame H H1)(t:TSame H1 H2):TSame H H2:=fun b ys h=>t b ys (s b ys h)
theorem TSame.upd_no {p:Addr}{u o:HO}(h:H p=some u)(hu:∀ ys,HO.tup ys≠u):TSame H (upd H p o):=fun b zs hb=>by
 have n:b≠p:=fun z=>by subst z;rw [h] at hb;exact hu _ (zi hb).symm
 rw [Jo n];exact hb
structure At (z:Str)(a:Nat)(cs:List Nat):Prop where
 le:a<=z.length
 cs:z.cps.toList.drop a=cs
theorem At.len (h:At z a cs):z.length=a+cs.length:=by
 have e:=congrArg List.length h.cs;rw [length_drop,J0n] at e;have:=h.le;omega
theorem At.step {r:List Nat}(h:At z a (r++cs)):At z (a+r.length) cs:=by
 have e:=h.len;rw [zy] at e;refine ⟨by omega,?_⟩;rw [<- drop_drop,h.cs,drop_left]
theorem At.one (h:At z a (c::cs)):At z (a+1) cs:=At.step (r:=[c]) h
theorem At.get (h:At z a cs):z.cps.toList[a+i]?=cs[i]?:=by
 rw [<- h.cs,List.getElem?_drop]
theorem Jaz {y:Str}(h:At z a cs):Txt.startswith3 z y (a:Int)=y.cps.toList.isPrefixOf cs:=by
 have hl:=h.len;have ly:=J0n y;rw [st3,h.cs,Bool.eq_iff_iff];simp only [Bool.and_eq_true,decide_eq_true_eq,beq_iff_eq,isPrefixOf_iff_prefix,prefix_iff_eq_take];rw [ly];constructor
 ·rintro ⟨_,h2⟩
  exact h2.symm
 ·intro e
  have e2:=congrArg List.length e;rw [zz,ly] at e2;exact ⟨by omega,e.symm⟩
def J1z (K:Frag)(f:Nat->Addr):Sp:=fun vs H Q _=>∃ (o dx:Addr) (z:Str) (a:Nat) (b:Int) (g:Str) (cs:List Nat),vs=[.ref o,.str g]/\H o=some (.ins (f 28) dx (JC z a b))/\At z a cs/\g.length<=100/\(g.cps.toList.isPrefixOf cs=false->Q (.bl false) H)/\(g.cps.toList.isPrefixOf cs=true->Q (.bl true) (upd H o (.ins (f 28) dx (JC z (a+g.length:Nat) b))))
theorem JJ (T:Txt w K mg f fd):FnOk P w K mg base CX0 1 (f 29001) (fd 29001) ["self","signs"] (J1z K f):=by
 walk_at "ok wk J3o"
 ·obtain ⟨o,dx,z,a,b,g,cs,rfl,_⟩:=h
  rfl
 ·obtain ⟨o,dx,z,a,b,g,cs,rfl,ho,hA,hg,k0,k1⟩:=h
  refine ⟨_,(Jc (Js (J0t (JV (J2F rfl PySem.F.plainAttrs_str PySem.F.slot_str_startswith PySem.F.type_str_startswith J4h rfl rfl rfl rfl (J1a (pvl 0) rfl) (pal rfl (pvl 1) (pal rfl (J1a (pvl 0) rfl) Jb)))))
   (Je (Jk J4e))
   Jl)
   (Jc (J3w (pvl 0) (JR Jz T.wc JY rfl (by decide) (by decide) rfl (pal rfl (pvl 1) Jb)) J6O)
   (Je (Jk J4e)))),?_⟩
  walk_at "dc";refine ⟨_,_,_,ho,T.wa.cls,T.wo,.str z,rfl,rfl,_,_,_,ho,T.wa.cls,T.wj,.int a,rfl,z,rfl,a,rfl,?_⟩;rw [Jaz hA];cases hs:g.cps.toList.isPrefixOf cs with
  | false =>
    rw [zd (by simp)];exact k0 hs
  | true =>
    rw [zc (by simp)];unfold J3R;walk_at "dc";refine ⟨_,_,_,ho,T.wa.cls,T.wj,.int a,rfl,J9 (by omega),a,rfl,_,_,ho,by simp [JC],?_⟩;rw [J8E];exact k1 hs
def J30 (K:Frag)(f:Nat->Addr):Sp:=fun vs H Q _=>∃ (o dx:Addr) (z:Str) (a:Nat) (b:Int) (g:Str) (r rest:List Nat),vs=[.ref o,.str g]/\H o=some (.ins (f 28) dx (JC z a b))/\At z a (r++rest)/\z.length<=1000000/\(∀ c∈r,c∈g.cps.toList)/\(∀ c,rest.head?=some c->c∉g.cps.toList)/\Q (.str ⟨r.toArray⟩) (upd H o (.ins (f 28) dx (JC z (a+r.length:Nat) b)))
theorem ok_Reading_run_of (T:Txt w K mg f fd):FnOk P w K mg base CX0 1 (f 29002) (fd 29002) ["self","signs"] (J30 K f):=by
 walk_at "ok wC J1k"
 ·obtain ⟨o,dx,z,a,b,g,r,rest,rfl,_⟩:=h
  rfl
 ·obtain ⟨o,dx,z,a,b,g,r,rest,rfl,ho,hA,hz,hin,hno,k⟩:=h
  refine ⟨_,(Jc (psl 2 J1k.nd (J1a (pvl 0) rfl))
   (Jc (J33 PassesOwn.never (PW.pt (J0Z (Jj J5V (J1a (pvl 0) rfl) (JR Jz T.wc JY rfl (by decide) (by decide) rfl (pal rfl (J1a (pvl 0) rfl) Jb)) (Jn _)) (J0z (Jj J2s (Jq J2h (J1a (pvl 0) rfl) (J1a (pvl 0) rfl) (fun _ _=>rfl)) (pvl 1) rfl))))
   (Je (J3w (pvl 0) Ja J6O)))
   (Je (Jk (JA JU (J1a (pvl 0) rfl) (Jv (pvl 2)) (Jv (J1a (pvl 0) rfl))))))),?_⟩
  walk_at "dc";refine ⟨_,_,_,ho,T.wa.cls,T.wj,.int a,rfl,?_⟩;rw [<- J85 ho];have hzl:=hA.len;rw [zy] at hzl;refine J23 (fun m σ H'=>∃ i:Nat,i<=r.length/\m=r.length - i/\σ=[some (V.ref o),some (V.str g),some (V.int a)]/\H'=upd H o (.ins (f 28) dx (JC z (a+i:Nat) b))) ⟨_,0,zn _,rfl,rfl,rfl⟩ ?_;rintro m σ H' ⟨i,hi,rfl,rfl,rfl⟩;have gi:upd H o (.ins (f 28) dx (JC z (a+i:Nat) b)) o=some (.ins (f 28) dx (JC z (a+i:Nat) b)):=Jd;walk_at "dc";refine ⟨_,_,_,gi,T.wa.cls,T.wj,.int (a+i:Nat),rfl,_,_,_,gi,T.wa.cls,T.wo,.str z,rfl,z,rfl,J9 (by omega),(a+i:Nat),rfl,?_⟩;by_cases hc:i<r.length
  ·rw [zd (zg (by omega))]
   refine ⟨_,_,_,gi,T.wa.cls,T.wo,.str z,rfl,_,_,_,gi,T.wa.cls,T.wj,.int (a+i:Nat),rfl,?_⟩;have hc1:z.cps.toList[a+i]?=some r[i]:=by rw [hA.get,zM hc,zr hc]
   refine ⟨z,(a+i:Nat),r[i],rfl,rfl,J9 (by omega),Jh hc1,⟨#[r[i]]⟩,rfl,?_⟩;rw [J1U,zd (zg (hin _ (getElem_mem hc)))];refine WGo.of ?_;unfold J3R;walk_at "dc";refine ⟨_,_,_,gi,T.wa.cls,T.wj,.int (a+i:Nat),rfl,(a+i:Nat),rfl,_,_,gi,by simp [JC],?_⟩;rw [J8E,J0K];exact ⟨r.length - (i+1),by omega,i+1,by omega,rfl,rfl⟩
  ·obtain rfl:i=r.length:=by omega
   have e:(⟨(J03 z.cps.toList (some (a:Int)) (some ((a+r.length:Nat):Int))).toArray⟩:Str)=⟨r.toArray⟩:=by
    have e1:J03 z.cps.toList (some (a:Int)) (some ((a+r.length:Nat):Int))=r:=by
     unfold J03;rw [HT.sIx_nat,HT.sIx_nat,J0n,Nat.min_eq_left (by omega),Nat.min_eq_left (by omega),hA.cs,Nat.add_sub_cancel_left,take_left]
    rw [e1]
   by_cases hr:rest=[]
   ·rw [zc (by rw [hr] at hzl;simp at hzl ⊢;omega)]
    refine ⟨_,_,_,gi,T.wa.cls,T.wo,.str z,rfl,_,_,_,gi,T.wa.cls,T.wj,.int (a+r.length:Nat),rfl,(a+r.length:Nat),rfl,z,rfl,J9 (by omega),?_⟩;rw [e];exact k
   ·obtain ⟨c,t,rfl⟩:=exists_cons_of_ne_nil hr
    rw [length_cons] at hzl;rw [zd (zg (by omega))];refine ⟨_,_,_,gi,T.wa.cls,T.wo,.str z,rfl,_,_,_,gi,T.wa.cls,T.wj,.int (a+r.length:Nat),rfl,?_⟩;have hc1:z.cps.toList[a+r.length]?=some c:=by rw [hA.get,zL (ze _),Nat.sub_self];rfl
    refine ⟨z,(a+r.length:Nat),c,rfl,rfl,J9 (by omega),Jh hc1,⟨#[c]⟩,rfl,?_⟩;rw [J1U,zc (by simpa using hno c rfl)];refine ⟨_,_,_,gi,T.wa.cls,T.wo,.str z,rfl,_,_,_,gi,T.wa.cls,T.wj,.int (a+r.length:Nat),rfl,(a+r.length:Nat),rfl,z,rfl,J9 (by omega),?_⟩;rw [e];exact k
inductive Rv
 | pl (w n:Str) (x:Option V)
 | neg (s:Rv)
 | many (o:Bool) (ss:List Rv)
def mw (o:Bool):Str:=if o then "some" else "all"
mutual
def Rx (H:Hp):Rv->V->Prop
 | .pl w n x,v=>∃ p,v=.ref p/\H p=some (.tup (.str w::.str n::x.toList))
 | .neg s,v=>∃ p x,v=.ref p/\H p=some (.tup [.str "not",x])/\Rx H s x
 | .many o ss,v=>∃ p q xs,v=.ref p/\H p=some (.tup [.str (mw o),.ref q])/\H q=some (.tup xs)/\Rxs H ss xs
def Rxs (H:Hp):List Rv->List V->Prop
 | [],xs=>xs=[]
 | s::ss,xs=>∃ x r,xs=x::r/\Rx H s x/\Rxs H ss r
end
mutual
theorem Rx.mono {H H':Hp}(t:TSame H H'):∀ {s:Rv} {v:V},Rx H s v->Rx H' s v
 | .pl w n x,v,h=>by simp only [Rx] at h ⊢;obtain ⟨p,e,g⟩:=h;exact ⟨p,e,t _ _ g⟩
 | .neg s,v,h=>by simp only [Rx] at h ⊢;obtain ⟨p,x,e,g,k⟩:=h;exact ⟨p,x,e,t _ _ g,Rx.mono t k⟩
 | .many o ss,v,h=>by simp only [Rx] at h ⊢;obtain ⟨p,q,xs,e,g,g2,k⟩:=h;exact ⟨p,q,xs,e,t _ _ g,t _ _ g2,Rxs.mono t k⟩
theorem Rxs.mono {H H':Hp}(t:TSame H H'):∀ {ss:List Rv} {xs:List V},Rxs H ss xs->Rxs H' ss xs
 | [],xs,h=>by simp only [Rxs] at h ⊢;exact h
 | s::ss,xs,h=>by simp only [Rxs] at h ⊢;obtain ⟨x,r,e,g,k⟩:=h;exact ⟨x,r,e,Rx.mono t g,Rxs.mono t k⟩
end
theorem Rxs.len :∀ {ss:List Rv} {xs:List V},Rxs H ss xs->xs.length=ss.length
 | [],xs,h=>by simp only [Rxs] at h;rw [h];rfl
 | s::ss,xs,h=>by simp only [Rxs] at h;obtain ⟨x,r,rfl,_,k⟩:=h;rw [length_cons,length_cons,k.len]
theorem Rxs.at {H:Hp}:∀ {ss:List Rv} {xs:List V} {i:Nat} {x:V},Rxs H ss xs->xs[i]?=some x->∃ s,ss[i]?=some s/\Rx H s x
 | [],xs,i,x,h,e=>by simp only [Rxs] at h;subst h;simp at e
 | s::ss,xs,i,x,h,e=>by
   simp only [Rxs] at h;obtain ⟨y,r,rfl,g,k⟩:=h;cases i with
   | zero=>obtain rfl:y=x:=by simpa using e
           exact ⟨s,rfl,g⟩
   | succ i=>exact Rxs.at (i:=i) k (by simpa using e)
theorem Rxs.snoc {H:Hp}:∀ {ss:List Rv} {xs:List V} {s:Rv} {x:V},Rxs H ss xs->Rx H s x->Rxs H (ss++[s]) (xs++[x])
 | [],xs,s,x,h,g=>by simp only [Rxs] at h;subst h;simp only [nil_append,Rxs];exact ⟨x,[],rfl,g,rfl⟩
 | s'::ss,xs,s,x,h,g=>by
   simp only [Rxs,cons_append] at h ⊢;obtain ⟨y,r,rfl,g',k⟩:=h;exact ⟨y,r++[x],rfl,g',Rxs.snoc k g⟩
mutual
def cnt:Rv->Nat
 | .pl _ _ _=>1
 | .neg s=>cnt s+1
 | .many _ ss=>JL ss+1
def JL:List Rv->Nat
 | []=>0
 | s::ss=>cnt s+JL ss
end
mutual
def dep:Rv->Nat
 | .pl _ _ _=>1
 | .neg s=>dep s+1
 | .many _ ss=>J3f ss+1
def J3f:List Rv->Nat
 | []=>0
 | s::ss=>max (dep s) (J3f ss)
end
theorem J7o (s:Rv):1<=cnt s:=by cases s<;>simp only [cnt]<;>omega
theorem J2u (s:Rv):1<=dep s:=by cases s<;>simp only [dep]<;>omega
theorem J2f:∀ ss:List Rv,ss.length<=JL ss
 | []=>ze _
 | s::ss=>by
   have h1:=J7o s;have h2:=J2f ss;simp only [JL,length_cons];omega
abbrev J7W:Str:="-"
def isL (c:Nat):Bool:=decide (c∈Jy.cps.toList)
def isV (c:Nat):Bool:=decide (c∈(Jy++JG++J7W).cps.toList)
def isN (c:Nat):Bool:=decide (c∈(JG++J7W).cps.toList)
def fwd (c:Nat):Str:=if c=61 then "is" else if c=60 then "under" else "over"
def sOf (l:List Nat):Str:=⟨l.toArray⟩
def Rt (nm:Str):List Nat->Option (Rv×List Nat)
 | []=>none
 | c :: r =>
   if c=63 then some (.pl "lacks" nm none,r)
   else if c=61\/c=60\/c=62 then
    (if 1<=(r.takeWhile isV).length/\(r.takeWhile isV).length<=61/\(c=61\/JX (r.takeWhile isV)=true) then some (.pl (fwd c) nm (some (.str (sOf (r.takeWhile isV)))),r.dropWhile isV) else none)
   else none
def Rp (cs:List Nat):Option (Rv×List Nat):=if 1<=(cs.takeWhile isL).length/\(cs.takeWhile isL).length<=12 then Rt (sOf (cs.takeWhile isL)) (cs.dropWhile isL) else none
def Rm (f:List Nat->Option (Rv×List Nat))(c:Nat):Nat->Bool->List Nat->Option (List Rv×List Nat)
 | 0,_,_=>none
 | k + 1,first,cs =>
   if cs.head?=some 41 then some ([],cs.tail)
   else if first=false/\cs.head?≠some c then none
   else match f (if first then cs else cs.tail) with
    | none=>none
    | some (s,rest)=>(Rm f c k false rest).map fun x=>(s::x.1,x.2)
def Rd:Nat->List Nat->Option (Rv×List Nat)
 | 0,_=>none
 | lv+1,cs =>
   if cs.head?=some 33 then (Rd lv cs.tail).map fun x=>(.neg x.1,x.2)
   else if cs.head?=some 40 then
    (if cs.tail.head?=some 38\/cs.tail.head?=some 124 then
     (Rm (Rd lv) (cs.tail.head?.getD 0) (cs.length+1) true cs.tail.tail).map fun x=>(.many (decide (cs.tail.head?=some 124)) x.1,x.2)
    else none)
   else Rp cs
theorem J0B (cs:List Nat):cs.tail.length<=cs.length:=by rw [length_tail];omega
theorem Rt_len {nm:Str}{s:Rv}(h:Rt nm cs=some (s,rest)):rest.length<cs.length:=by
 cases cs with
 | nil=>cases h
 | cons c r =>
   rw [Rt] at h;rw [length_cons]
   split at h
   ·cases h
    omega
   ·split at h
    ·split at h
     ·cases h
      have e2:=congrArg List.length (takeWhile_append_dropWhile (p:=isV) (l:=r));rw [zy] at e2;omega
     ·cases h
    ·cases h
theorem J9r {s:Rv}(h:Rp cs=some (s,rest)):rest.length<cs.length:=by
 unfold Rp at h;have e:=congrArg List.length (takeWhile_append_dropWhile (p:=isL) (l:=cs));rw [zy] at e
 split at h
 ·have:=Rt_len h
  omega
 ·cases h
theorem Rm_len {f:List Nat->Option (Rv×List Nat)}{c:Nat}(hf:∀ cs s rest,f cs=some (s,rest)->rest.length<cs.length):∀ {k:Nat} {b:Bool} {cs:List Nat} {ss:List Rv} {rest:List Nat},Rm f c k b cs=some (ss,rest)->rest.length<cs.length
 | 0,_,_,_,_,h=>by simp [Rm] at h
 | k + 1,b,cs,ss,rest,h=>by
   rw [Rm] at h
   split at h
   ·rename_i hc
    cases h;cases cs with
    | nil=>simp at hc
    | cons x r=>simp
   ·split at h
    ·cases h
    ·split at h
     ·cases h
     ·rename_i s r hs
      obtain ⟨⟨ss',r'⟩,h1,h2⟩:=Option.map_eq_some_iff.mp h;cases h2;show r'.length<cs.length;have a1:=Rm_len hf h1;have a2:=hf _ _ _ hs;have a3:=J0B cs
      split at a2<;>omega
theorem Rd_len:∀ {lv:Nat} {cs:List Nat} {s:Rv} {rest:List Nat},Rd lv cs=some (s,rest)->rest.length<cs.length
 | 0,_,_,_,h=>by simp [Rd] at h
 | lv+1,cs,s,rest,h=>by
   rw [Rd] at h;have a3:=J0B cs;have a4:=J0B cs.tail
   split at h
   ·rename_i hc
    obtain ⟨⟨s',r'⟩,h1,h2⟩:=Option.map_eq_some_iff.mp h;cases h2;show r'.length<cs.length;have:=Rd_len h1;omega
   ·split at h
    ·split at h
     ·obtain ⟨⟨s',r'⟩,h1,h2⟩:=Option.map_eq_some_iff.mp h
      cases h2;show r'.length<cs.length;have:=Rm_len (fun _ _ _=>Rd_len) h1;omega
     ·cases h
    ·exact J9r h
def Frm (o:Addr)(H H':Hp):Prop:=∀ q u,q≠o->H q=some u->H' q=some u
theorem Frm.refl (o:Addr)(H:Hp):Frm o H H:=fun _ _ _ h=>h
theorem Frm.trans {H2:Hp}(s:Frm o H H1)(t:Frm o H1 H2):Frm o H H2:=fun q u n h=>t q u n (s q u n h)
theorem Frm.upd {u:HO}:Frm o H (upd H o u):=fun q v n h=>by rw [Jo n];exact h
theorem Frm.of (s:Same H H'):Frm o H H':=fun q u _ h=>s q u h
theorem Frm.t {c dx:Addr}{fs:List (Str×V)}(s:Frm o H H')(h:H o=some (.ins c dx fs)):TSame H H':=fun b ys hb=>s b _ (fun z=>by subst z;rw [h] at hb;cases hb) hb
theorem J3G {p:Nat->Bool}:∀ {l:List Nat} {c:Nat},c∈l.takeWhile p->p c=true
 | x :: l,c,h=>by
   rw [takeWhile_cons] at h
   split at h
   ·rename_i hx
    rcases zC.mp h with e | e
    ·rw [e];exact hx
    ·exact J3G e
   ·cases h
theorem J3e {p:Nat->Bool}:∀ {l:List Nat} {c:Nat},(l.dropWhile p).head?=some c->p c=false
 | [],c,h=>by cases h
 | x :: l,c,h=>by
   rw [dropWhile_cons] at h
   split at h
   ·exact J3e h
   ·rename_i hx
    have:x=c:=by simpa using h
    rw [<- this];simpa using hx
theorem At.cut (h:At z a cs)(p:Nat->Bool):At z a (cs.takeWhile p++cs.dropWhile p):=by rw [takeWhile_append_dropWhile];exact h
theorem J90 (h:isN c=true):isV c=true:=by
 have h':=of_decide_eq_true h;refine zg ?_;rw [PySem.W.KT.app_list] at h' ⊢;rw [PySem.W.KT.app_list];rcases zH.mp h' with e | e
 ·exact zJ _ (zI _ e)
 ·exact zI _ e
theorem J7S (h:isV c=true):isN c=true\/isL c=true:=by
 have h':=of_decide_eq_true h;rw [PySem.W.KT.app_list,PySem.W.KT.app_list] at h';unfold isN isL;rw [PySem.W.KT.app_list,decide_eq_true_iff,decide_eq_true_iff];rcases zH.mp h' with e | e
 ·rcases zH.mp e with e | e
  ·exact .inr e
  ·exact .inl (zJ _ e)
 ·exact .inl (zI _ e)
theorem J86 {p q:Nat->Bool}(hpq:∀ c,p c=true->q c=true):∀ {l:List Nat},(∀ c∈l.takeWhile q,p c=true)->l.takeWhile p=l.takeWhile q/\l.dropWhile p=l.dropWhile q
 | [],_=>⟨rfl,rfl⟩
 | x :: l,h=>by
   rw [takeWhile_cons,takeWhile_cons,dropWhile_cons,dropWhile_cons];by_cases hq:q x=true
   ·rw [takeWhile_cons,zd hq] at h
    have hp:=h x zB;obtain ⟨e1,e2⟩:=J86 hpq (l:=l) fun c hc=>h c (zA _ hc);rw [zd hq,zd hp,zd hq,zd hp,e1,e2];exact ⟨rfl,rfl⟩
   ·have hp:¬ p x=true:=fun z=>hq (hpq x z)
    rw [zc hq,zc hp,zc hq,zc hp];exact ⟨rfl,rfl⟩
theorem tw_ne {p q:Nat->Bool}(hpq:∀ c,p c=true->q c=true):∀ {l:List Nat},l.takeWhile p≠l.takeWhile q->∃ c,(l.dropWhile p).head?=some c/\q c=true/\p c=false
 | [],h=>absurd rfl h
 | x :: l,h=>by
   rw [takeWhile_cons,takeWhile_cons] at h;rw [dropWhile_cons];by_cases hp:p x=true
   ·rw [zd hp,zd (hpq x hp)] at h
    rw [zd hp];exact tw_ne hpq fun e=>h (by rw [e])
   ·rw [zc hp] at h ⊢
    by_cases hq:q x=true
    ·exact ⟨x,rfl,hq,by simpa using hp⟩
    ·rw [zc hq] at h
     exact absurd rfl h
theorem num_chars {l:List Nat}(h:JX l=true):(∀ c∈l,isN c=true)/\1<=l.length/\l.length<=61:=by
 unfold JX at h;simp only [Bool.and_eq_true,decide_eq_true_eq] at h;obtain ⟨h1,h2,h3,_⟩:=h;have dg:∀ c∈J1e l,isN c=true:=fun c hc=>by
  have e:=all_eq_true.mp h3 c hc;rw [<- J3Y] at e;refine zg ?_;rw [PySem.W.KT.app_list];exact zJ _ (of_decide_eq_true e)
 unfold J1e at h1 h2 dg;cases l with
 | nil=>simp at h1
 | cons x l =>
   by_cases hx:x=45
   ·subst hx
    simp only [List.head?_cons,if_true,tail_cons] at h1 h2 dg;exact ⟨fun c hc=>by
     rcases zC.mp hc with e | e
     ·rw [e];decide +kernel
     ·exact dg c e,by rw [length_cons];omega,by rw [length_cons];omega⟩
   ·rw [zc (by simpa using hx)] at h1 h2 dg
    exact ⟨dg,h1,by omega⟩
def J88 (w:Str):Option V->Option V
 | some (.str t)=>if w="is" then some (.str t) else some (.int (J1c t.cps.toList))
 | x=>x
mutual
def toP:Rv->Rv
 | .pl w n x=>.pl w n (J88 w x)
 | .neg s=>.neg (toP s)
 | .many o ss=>.many o (J20 ss)
def J20:List Rv->List Rv
 | []=>[]
 | s::ss=>toP s::J20 ss
end
def Ltr (rest:List Nat):Prop:=∃ c,rest.head?=some c/\isL c=true
def J21 (K:Frag)(f:Nat->Addr):Sp:=fun vs H Q E=>∃ (o dx:Addr) (z:Str) (a:Nat) (b:Int) (cs:List Nat),vs=[.ref o]/\H o=some (.ins (f 28) dx (JC z a b))/\At z a cs/\z.length<=1000000 /\
 (1<=(cs.takeWhile isV).length/\(cs.takeWhile isV).length<=61->Q (.str (sOf (cs.takeWhile isV))) (upd H o (.ins (f 28) dx (JC z (a+(cs.takeWhile isV).length:Nat) b))))/\(¬ (1<=(cs.takeWhile isV).length/\(cs.takeWhile isV).length<=61)->∀ H',Frm o H H'->E (.ref (f 2)) none H')
theorem ok_Reading_value_text (T:Txt w K mg f fd):FnOk P w K mg base (CXE P w) 2 (f 29006) (fd 29006) ["self"] (J21 K f):=by
 refine T.yj.F.okX J0E (fun vs H Q E h=>?_) (fun cdv A outer s H vs Q E hr h=>?_)
 ·obtain ⟨o,dx,z,a,b,cs,rfl,_⟩:=h
  rfl
 ·obtain ⟨o,dx,z,a,b,cs,rfl,ho,hA,hz,k,ke⟩:=h
  refine ⟨_,(Jc (psl 1 J0E.nd (J0M (pvl 0) T.wa.cls T.wS (ok_Reading_run_of T) (hr.mono (by decide)) T.wC.b .nil J1X (pal rfl (Jg Jp (Jg Jp (pgs T.wE) (pgs T.wF)) Jf) Jb) rfl rfl rfl))
   (Jc (Js (J0t (J29 J1E J1E Ja (JR Jz T.wc JY rfl (by decide) (by decide) rfl (pal rfl (pvl 1) Jb)) (pgi T.yS)))
   (Je (J19 JD rfl T.wd.x rfl T.wd.m (by decide) rfl (pal rfl Jf Jb)))
   Jl)
   (Je (Jk (pvl 1))))),?_⟩
  walk_at "dc";have hl:=hA.len;have hw:=congrArg List.length (takeWhile_append_dropWhile (p:=isV) (l:=cs));rw [zy] at hw;refine ⟨_,_,ho,rfl,J9 (by decide),J9 (by decide),o,dx,z,a,b,_,cs.takeWhile isV,cs.dropWhile isV,rfl,ho,hA.cut isV,hz,(fun c hc=>of_decide_eq_true (J3G hc)),(fun c hc=>by have:=J3e hc;unfold isV at this;exact of_decide_eq_false this),?_⟩;refine ⟨_,rfl,J9 (by show (cs.takeWhile isV).toArray.size<=_;rw [zw];omega),?_⟩;have e:((⟨(cs.takeWhile isV).toArray⟩:Str).length:Int)=((cs.takeWhile isV).length:Int):=by show (((cs.takeWhile isV).toArray.size:Nat):Int)=_;rw [zw]
  rw [e];by_cases c1:1<=(cs.takeWhile isV).length/\(cs.takeWhile isV).length<=61
  ·rw [zd (zg (by omega)),zc (by rw [zg (by omega)];decide)]
   exact k c1
  ·by_cases c2:(1:Int)<=((cs.takeWhile isV).length:Int)
   ·rw [zd (zg c2),zd (by rw [zh (by omega)];decide)]
    exact ⟨J9 (by decide),ke c1 _ Frm.upd⟩
   ·rw [zc (by simpa using c2)]
    exact ⟨J9 (by decide),ke c1 _ Frm.upd⟩
def J3m (K:Frag)(f:Nat->Addr):Sp:=fun vs H Q E=>∃ (o dx:Addr) (z:Str) (a:Nat) (b:Int) (cs:List Nat),vs=[.ref o]/\H o=some (.ins (f 28) dx (JC z a b))/\At z a cs/\z.length<=1000000 /\
 (JX (cs.takeWhile isN)=true->∀ H',Frm o H H'->H' o=some (.ins (f 28) dx (JC z (a+(cs.takeWhile isN).length:Nat) b))->Q (.int (J1c (cs.takeWhile isN))) H')/\(JX (cs.takeWhile isN)=false->∀ H',Frm o H H'->E (.ref (f 2)) none H')
theorem J3A (T:Txt w K mg f fd):FnOk P w K mg base (CXE P w) 5 (f 29007) (fd 29007) ["self"] (J3m K f):=by
 refine T.yk.F.okX J1B (fun vs H Q E h=>?_) (fun cdv A outer s H vs Q E hr h=>?_)
 ·obtain ⟨o,dx,z,a,b,cs,rfl,_⟩:=h
  rfl
 ·obtain ⟨o,dx,z,a,b,cs,rfl,ho,hA,hz,k,ke⟩:=h
  refine ⟨_,(Jc (psl 1 J1B.nd (Jm T.wI (ok_read_value T) (hr.mono (by decide)) rfl (by decide) rfl (pal rfl Jf (pal rfl (J0M (pvl 0) T.wa.cls T.wS (ok_Reading_run_of T) (hr.mono (by decide)) T.wC.b .nil J1X (pal rfl (Jg Jp (pgs T.wF) Jf) Jb) rfl rfl rfl) Jb))))
   (Jc (Js (Jj J2Q (pvl 1) J09 (Jn _))
   (Je (J19 JD rfl T.wd.x rfl T.wd.m (by decide) rfl (pal rfl Jf Jb)))
   Jl)
   (Je (Jk (pvl 1))))),?_⟩
  walk_at "dc";have hl:=hA.len;have hw:=congrArg List.length (takeWhile_append_dropWhile (p:=isN) (l:=cs));rw [zy] at hw;refine ⟨_,_,ho,rfl,J9 (by decide),o,dx,z,a,b,_,cs.takeWhile isN,cs.dropWhile isN,rfl,ho,hA.cut isN,hz,(fun c hc=>of_decide_eq_true (J3G hc)),(fun c hc=>by have:=J3e hc;unfold isN at this;exact of_decide_eq_false this),?_⟩;refine ⟨_,_,rfl,J9 (by show (cs.takeWhile isN).toArray.size<=_;rw [zw];omega),fun H1 s1=>?_⟩;rw [show decide (Str.ofString "number"=Str.ofString "number")=true from rfl];have F1:=Frm.trans (Frm.upd (o:=o) (H:=H) (u:=.ins (f 28) dx (JC z (a+(cs.takeWhile isN).length:Nat) b))) (Frm.of s1);unfold J0Q;by_cases hn:JX (cs.takeWhile isN)=true
  ·rw [zd rfl,zd hn]
   dsimp only;rw [zc (by simp)];exact k hn H1 F1 (s1 _ _ Jd)
  ·rw [zd rfl,zc hn]
   dsimp only;rw [zd (by simp)];exact ⟨J9 (by decide),ke (by simpa using hn) H1 F1⟩
theorem Nam.short {n:Str}(h:Nam n):J0o (.str n) Jy=true:=by
 have e:J0v n Jy=true:=all_eq_true.mpr fun c hc=>zg (h.2.2 c hc);unfold J0o;simp [h.1,h.2.1,e]
theorem J0A {m:Str}{mk:Nat}(e:m.cps.toList=[mk])(cs:List Nat):m.cps.toList.isPrefixOf cs=decide (cs.head?=some mk):=by
 rw [e];cases cs with
 | nil=>rfl
 | cons c cs =>
   by_cases h:c=mk
   ·simp [List.isPrefixOf,h]
   ·simp [List.isPrefixOf,h,Ne.symm h]
theorem J0D (h:At z a cs)(hc:cs.head?=some c):At z (a+1) cs.tail:=by
 cases cs with
 | nil=>cases hc
 | cons x r=>exact h.one
theorem J1l (l:List Nat):(sOf l).length=l.length:=by show l.toArray.size=_;rw [zw]
theorem J8O (h:1<=(cs.takeWhile isL).length/\(cs.takeWhile isL).length<=12):Nam (sOf (cs.takeWhile isL)):=⟨by rw [J1l];exact h.1,by rw [J1l];exact h.2,fun c hc=>of_decide_eq_true (J3G (p:=isL) hc)⟩
def PlQ (f:Nat->Addr)(o dx:Addr)(z:Str)(b:Int)(cs:List Nat)(H:Hp)(Q:VK)(E:XK):Prop :=
 (∀ s rest H' v (a':Nat),Rp cs=some (s,rest)->Frm o H H'->H' o=some (.ins (f 28) dx (JC z a' b))->At z a' rest->Rx H' (toP s) v->Q v H') /\
 (∀ rest H' v (a':Nat),Rp cs=none->Frm o H H'->H' o=some (.ins (f 28) dx (JC z a' b))->At z a' rest->Ltr rest->Q v H') /\
 (∀ H',Rp cs=none->Frm o H H'->E (.ref (f 2)) none H')
def J1I (K:Frag)(f:Nat->Addr):Sp:=fun vs H Q E=>∃ (o dx:Addr) (z:Str) (a:Nat) (b:Int) (cs:List Nat),vs=[.ref o]/\H o=some (.ins (f 28) dx (JC z a b))/\At z a cs/\z.length<=1000000/\PlQ f o dx z b cs H Q E
theorem ok_Reading_plain_sieve (T:Txt w K mg f fd):FnOk P w K mg base (CXE P w) 6 (f 29005) (fd 29005) ["self"] (J1I K f):=by
 refine T.yi.F.okX JP (fun vs H Q E h=>?_) (fun cdv A outer s H vs Q E hr h=>?_)
 ·obtain ⟨o,dx,z,a,b,cs,rfl,_⟩:=h
  rfl
 ·obtain ⟨o,dx,z,a,b,cs,rfl,ho,hA,hz,k,kl,ke⟩:=h
  refine ⟨_,(Jc (psl 1 JP.nd (J0M (pvl 0) T.wa.cls T.wS (ok_Reading_run_of T) (hr.mono (by decide)) T.wC.b .nil J1X (pal rfl (pgs T.wE) Jb) rfl rfl rfl))
   (Jc (Js (J0t (JV (Jm T.wW (J6H T) (hr.mono (by decide)) rfl (by decide) rfl (pal rfl (pvl 1) Jb))))
   (Je (J19 JD rfl T.wd.x rfl T.wd.m (by decide) rfl (pal rfl Jf Jb)))
   Jl)
   (Jc (Js (JV (J0M (pvl 0) T.wa.cls T.wn (JJ T) (hr.mono (by decide)) T.wk.b .nil J1X (pal rfl Jf Jb) rfl rfl rfl))
   (Je (Jk (Jx (pal rfl Jf (pal rfl (pvl 1) Jb)))))
   Jl)
   (Jc (J2a PassesOwn.leaving rfl (J5T T.yU T.yT rfl (by decide) rfl rfl) (J7h rfl rfl (J0R (pgl 2 JP.nd) (J0R (pgl 3 JP.nd) J3T)))
   (Je (Js (JV (J0M (pvl 0) T.wa.cls T.wn (JJ T) (hr.mono (by decide)) T.wk.b .nil J1X (pal rfl (pvl 3) Jb) rfl rfl rfl))
   (Je (Jk (Jx (pal rfl (pvl 2) (pal rfl (pvl 1) (pal rfl (J35 (Jj JN (pvl 2) Jf (Jn _)) (J3y JD (pvl 0) T.wa.cls T.yu (ok_Reading_value_text T) (hr.mono (by decide)) T.yj.b rfl) (J3y JD (pvl 0) T.wa.cls T.yv (J3A T) (hr.mono (by decide)) T.yk.b rfl)) Jb))))))
   Jl)))
   (Je (J19 JD rfl T.wd.x rfl T.wd.m (by decide) rfl (pal rfl Jf Jb))))))),?_⟩
  generalize hB:J1f (J8e _ _ _) _=B;walk_at "dc";have hl:=hA.len;have hw:=congrArg List.length (takeWhile_append_dropWhile (p:=isL) (l:=cs));rw [zy] at hw;have hA1:=(hA.cut isL).step;refine ⟨_,_,ho,rfl,o,dx,z,a,b,_,cs.takeWhile isL,cs.dropWhile isL,rfl,ho,hA.cut isL,hz,(fun c hc=>of_decide_eq_true (J3G hc)),(fun c hc=>by have:=J3e hc;unfold isL at this;exact of_decide_eq_false this),?_⟩;have F1:Frm o H (upd H o (.ins (f 28) dx (JC z (a+(cs.takeWhile isL).length:Nat) b))):=Frm.upd;have g1:upd H o (.ins (f 28) dx (JC z (a+(cs.takeWhile isL).length:Nat) b)) o=some (.ins (f 28) dx (JC z (a+(cs.takeWhile isL).length:Nat) b)):=Jd;generalize upd H o (.ins (f 28) dx (JC z (a+(cs.takeWhile isL).length:Nat) b))=H1 at *;have enm:(⟨(cs.takeWhile isL).toArray⟩:Str)=sOf (cs.takeWhile isL):=rfl;rw [enm];refine ⟨_,_,rfl,Pl.of_str (J9 (by rw [J1l];omega)),fun H2 s2=>⟨_,rfl,?_⟩⟩;have F2:=F1.trans (Frm.of s2);have g2:=s2 _ _ g1;clear F1 g1 s2;by_cases hn:1<=(cs.takeWhile isL).length/\(cs.takeWhile isL).length<=12
  ·have hnm:=J8O hn
   rw [hnm.short,zc (by decide)];generalize hnm':sOf (cs.takeWhile isL)=nm at *;generalize hd:cs.dropWhile isL=r1 at *;have hRp:Rp cs=Rt nm r1:=by
    unfold Rp;rw [zd hn,hd,hnm']
   generalize a+(cs.takeWhile isL).length=a1 at *;clear hA hw hl;refine ⟨_,_,g2,rfl,o,dx,z,a1,b,"?",r1,rfl,g2,hA1,by decide,fun e=>⟨_,rfl,?_⟩,fun e=>⟨_,rfl,?_⟩⟩
   ·rw [zc (by decide)]
    rw [J0A (mk:=63) (by decide)] at e;have e63:=of_decide_eq_false e;subst hB;walk_at "dc";refine J2j ?_;unfold J4n;refine ForW.items (fun j σ H'=>(∃ v2 v3,σ=[some (V.ref o),some (V.str nm),v2,v3])/\Same H2 H'/\∀ i mk,i<j->([61,60,62]:List Nat)[i]?=some mk->r1.head?≠some mk) ⟨⟨none,none,rfl⟩,Same.refl _,fun i _ h=>absurd h (by omega)⟩ ?_ ?_
    ·rintro j kv σ H3 p hkv ⟨⟨v2,v3,rfl⟩,s3,nn⟩ hp
     have s4:=s3.new hp (HO.tup [V.str kv.1,V.str kv.2]);refine ⟨p,_,rfl,.of Jd,rfl,?_⟩;generalize upd H3 p (HO.tup [V.str kv.1,V.str kv.2])=H4 at *;have g4:=s4 _ _ g2;have F4:=F2.trans (Frm.of s4);obtain ⟨mk,hmk,e1,e2,em⟩:∃ mk:Nat,([61,60,62]:List Nat)[j]?=some mk/\kv.2.cps.toList=[mk]/\kv.1=fwd mk/\(mk=61\/mk=60\/mk=62):=by
      match j,hkv with
      | 0,h=>cases h;exact ⟨61,rfl,by decide,by decide,by decide⟩
      | 1,h=>cases h;exact ⟨60,rfl,by decide,by decide,by decide⟩
      | 2,h=>cases h;exact ⟨62,rfl,by decide,by decide,by decide⟩
      | n+3,h=>simp at h
     obtain ⟨k1,k2⟩:=kv;simp only [J65,J94,J0C] at *;have l2:k2.length=1:=by rw [<- J0n,e1];rfl
     walk_at "dc";refine ⟨_,_,g4,rfl,o,dx,z,a1,b,k2,r1,rfl,g4,hA1,by omega,fun e=>⟨_,rfl,?_⟩,fun e=>⟨_,rfl,?_⟩⟩
     ·rw [zc (by decide)]
      rw [J0A e1] at e;refine ⟨⟨_,rfl⟩,s4,fun i mk' hi hm=>?_⟩;by_cases hij:i=j
      ·subst hij
       rw [zi (hm.symm.trans hmk)];exact of_decide_eq_false e
      ·exact nn i mk' (by omega) hm
     ·rw [zd rfl,l2]
      rw [J0A e1] at e;have eh:=of_decide_eq_true e;obtain ⟨r,rfl⟩:∃ r,r1=mk::r:=by
       cases r1 with
       | nil=>cases eh
       | cons x r=>exact ⟨r,by rw [show x=mk by simpa using eh]⟩
      have hA2:=hA1.one;have F5:=F4.trans (Frm.upd (u:=.ins (f 28) dx (JC z (a1+1:Nat) b)));have g5:upd H4 o (.ins (f 28) dx (JC z (a1+1:Nat) b)) o=some (.ins (f 28) dx (JC z (a1+1:Nat) b)):=Jd;generalize upd H4 o (.ins (f 28) dx (JC z (a1+1:Nat) b))=H5 at *;have n63:mk≠63:=by omega
      rw [Rt,zc n63,zd em] at hRp;have hA3:=(hA2.cut isV).step;subst e2;by_cases c61:mk=61
      ·subst c61
       rw [zd (by decide)];refine ⟨_,_,g5,rfl,o,dx,z,a1+1,b,r,rfl,g5,hA2,hz,fun hv=>⟨J9 (by decide),fun p2 hp2=>?_⟩,fun hv H' F'=>ke H' (by rw [hRp,zc fun z=>hv ⟨z.1,z.2.1⟩]) (F5.trans F')⟩;rw [zd ⟨hv.1,hv.2,.inl rfl⟩] at hRp;exact k _ _ _ _ _ hRp ((F5.trans Frm.upd).trans (Frm.of (Same.upd_new hp2 _))) (Same.upd_new hp2 _ _ _ Jd) hA3 (by simp only [toP,Rx];exact ⟨p2,rfl,Jd⟩)
      ·rw [zc (by rcases em with e | rfl | rfl<;>first | exact absurd e c61 | decide)]
       refine ⟨_,_,g5,rfl,o,dx,z,a1+1,b,r,rfl,g5,hA2,hz,fun hv H' F' g'=>⟨J9 (by decide),fun p2 hp2=>?_⟩,fun hv H' F'=>ke H' ?_ (F5.trans F')⟩
       ·have g6:=Same.upd_new hp2 (HO.tup [V.str (fwd mk),V.str nm,V.int (J1c (r.takeWhile isN))]) _ _ g'
        have F6:=(F5.trans F').trans (Frm.of (Same.upd_new hp2 (HO.tup [V.str (fwd mk),V.str nm,V.int (J1c (r.takeWhile isN))])));by_cases ev:r.takeWhile isN=r.takeWhile isV
        ·have hv':=hv
         rw [ev] at hv';have nc:=num_chars hv';rw [zd ⟨nc.2.1,nc.2.2,.inr hv'⟩] at hRp;refine k _ _ _ _ _ hRp F6 g6 (by rw [ev];exact hA3) ?_;simp only [toP,J88,Rx];rw [zc (by rcases em with e | rfl | rfl<;>first | exact absurd e c61 | decide)];refine ⟨p2,rfl,?_⟩;rw [Jd,ev];rfl
        ·obtain ⟨c,hc,hq,hp'⟩:=tw_ne (fun _=>J90) ev
         rw [zc fun z=>z.2.2.elim c61 fun z=>ev (J86 (fun _=>J90) (num_chars z).1).1] at hRp;exact kl _ _ _ _ hRp F6 g6 (hA2.cut isN).step ⟨c,hc,(J7S hq).resolve_left (by rw [hp'];decide)⟩
       ·rw [hRp,zc fun z=>?_]
        rcases z.2.2 with z | z
        ·exact c61 z
        ·rw [(J86 (fun _=>J90) (num_chars z).1).1,z] at hv
         cases hv
    ·rintro σ H3 ⟨⟨v2,v3,rfl⟩,s3,nn⟩
     walk_at "dc";refine ⟨J9 (by decide),ke _ ?_ (F2.trans (Frm.of s3))⟩;rw [hRp];cases r1 with
     | nil=>rfl
     | cons c r =>
       have a0:=nn 0 61 (by decide) rfl;have a1:=nn 1 60 (by decide) rfl;have a2:=nn 2 62 (by decide) rfl;simp only [List.head?_cons,ne_eq,Option.some.injEq] at a0 a1 a2 e63;rw [Rt,zc e63,zc (by rintro (z | z | z)<;>contradiction)]
   ·rw [zd rfl]
    rw [J0A (mk:=63) (by decide)] at e;have e63:=of_decide_eq_true e;have hA2:=J0D hA1 e63;obtain ⟨r,rfl⟩:∃ r,r1=63::r:=by
     cases r1 with
     | nil=>cases e63
     | cons x r=>exact ⟨r,by rw [show x=63 by simpa using e63]⟩
    have h3:Rp cs=some (.pl "lacks" nm none,r):=by rw [hRp,Rt,zd rfl]
    exact ⟨J9 (by decide),fun p hp=>k _ _ _ _ (a1+1) h3 ((F2.trans Frm.upd).trans (Frm.of (Same.upd_new hp _))) (Same.upd_new hp _ _ _ Jd) hA2 (by simp only [toP,J88,Rx];exact ⟨p,rfl,Jd⟩)⟩
  ·have hf:J0o (.str (sOf (cs.takeWhile isL))) Jy=false:=by
    cases hs:J0o (.str (sOf (cs.takeWhile isL))) Jy with
    | false=>rfl
    | true =>
      exfalso;unfold J0o at hs;simp only [Bool.and_eq_true,decide_eq_true_eq] at hs;rw [J1l] at hs;exact hn ⟨hs.1,hs.2.1⟩
   rw [hf,zd (by decide)];exact ⟨J9 (by decide),ke _ (by unfold Rp;rw [zc hn]) F2⟩
def OnQ (f:Nat->Addr)(o dx:Addr)(z:Str)(b:Nat)(r:Option (Rv×List Nat))(H:Hp)(Q:VK)(E:XK):Prop :=
 (∀ s rest H' v (a':Nat),r=some (s,rest)->b+cnt s<=60->Frm o H H'->H' o=some (.ins (f 28) dx (JC z a' (b+cnt s:Nat)))->At z a' rest->Rx H' (toP s) v->Q v H') /\
 (∀ rest H' v (a' b':Nat),r=none->Frm o H H'->H' o=some (.ins (f 28) dx (JC z a' b'))->At z a' rest->Ltr rest->Q v H') /\
 (∀ H',(∀ s rest,r=some (s,rest)->60<b+cnt s)->Frm o H H'->E (.ref (f 2)) none H')
def SmQ (f:Nat->Addr)(o dx:Addr)(z:Str)(b:Nat)(r:Option (List Rv×List Nat))(H:Hp)(Q:VK)(E:XK):Prop :=
 (∀ ss rest H' q xs (a':Nat),r=some (ss,rest)->b+JL ss<=60->Frm o H H'->H' o=some (.ins (f 28) dx (JC z a' (b+JL ss:Nat)))->At z a' rest->H' q=some (.tup xs)->Rxs H' (J20 ss) xs->Q (.ref q) H') /\
 (∀ H',(∀ ss rest,r=some (ss,rest)->60<b+JL ss)->Frm o H H'->E (.ref (f 2)) none H')
def JM (K:Frag)(f:Nat->Addr):Nat->Sp
 | 0=>fun _ _ _ _=>False
 | d+1=>fun vs H Q E=>∃ (o dx:Addr) (z:Str) (a b lvl:Nat) (cs:List Nat),vs=[.ref o,.int lvl]/\H o=some (.ins (f 28) dx (JC z a b))/\At z a cs/\z.length<=1000000/\1<=lvl/\lvl<=13/\13<=lvl+d/\OnQ f o dx z b (Rd (13 - lvl) cs) H Q E
def J0w (K:Frag)(f:Nat->Addr)(d:Nat):Sp:=fun vs H Q E=>∃ (o dx:Addr) (z:Str) (a b lvl c fu:Nat) (jz:Str) (cs:List Nat),vs=[.ref o,.str jz,.int lvl]/\jz.cps.toList=[c]/\c≠41/\isL c=false/\H o=some (.ins (f 28) dx (JC z a b))/\At z a cs/\z.length<=1000000/\1<=lvl/\lvl<=13/\14<=lvl+d/\cs.length<fu/\b<=60/\SmQ f o dx z b (Rm (Rd (13 - lvl)) c fu true cs) H Q E
theorem Jbv (h:Ltr rest):rest.head?≠some 41:=fun e=>by
 obtain ⟨c,hc,hl⟩:=h;rw [e] at hc;cases hc
 revert hl
 decide +kernel
theorem J4P (s:Rv):∀ ss:List Rv,J20 (ss++[s])=J20 ss++[toP s]
 | []=>by simp only [nil_append,J20]
 | x::ss=>by simp only [cons_append,J20,J4P s ss]
theorem J40:∀ ss:List Rv,(J20 ss).length=ss.length
 | []=>by simp only [J20]
 | x::ss=>by simp only [J20,length_cons,J40 ss]
theorem J4v (us:List Rv):∀ ss:List Rv,JL (ss++us)=JL ss+JL us
 | []=>by simp only [nil_append,JL];omega
 | x::ss=>by simp only [cons_append,JL,J4v us ss];omega
inductive SI (f:Nat->Addr)(o dx:Addr)(z:Str)(H:Hp)(b:Nat)(r:Option (List Rv×List Nat))(g:List Nat->Option (Rv×List Nat))(c:Nat)(p:Addr)(m:Nat)(H':Hp):Prop
 | good (ss:List Rv) (xs:List V) (a':Nat) (rest:List Nat) (fu:Nat) (F:Frm o H H') (ho:H' o=some (.ins (f 28) dx (JC z a' (b+JL ss:Nat)))) (hA:At z a' rest) (hb:b+JL ss<=60) (hp:H' p=some (.lst xs)) (hx:Rxs H' (J20 ss) xs) (hf:rest.length<fu) (hr:r=(Rm g c fu false rest).map fun x=>(ss++x.1,x.2)) (hm:m=rest.length+1):SI f o dx z H b r g c p m H'
 | bad (xs:List V) (a' b':Nat) (rest:List Nat) (F:Frm o H H') (ho:H' o=some (.ins (f 28) dx (JC z a' b'))) (hA:At z a' rest) (hp:H' p=some (.lst xs)) (hL:Ltr rest) (hr:r=none):SI f o dx z H b r g c p m H'
theorem st_Reading_some_sieves (T:Txt w K mg f fd)(dp:Nat)(ih:FnOk P w K mg base (CXE P w) (7+2 * dp) (f 29003) (fd 29003) ["self","level"] (JM K f dp)):FnOk P w K mg base (CXE P w) (7+2 * dp+1) (f 29004) (fd 29004) ["self","joint","level"] (J0w K f dp):=by
 refine T.yh.F.okX J0x (fun vs H Q E h=>?_) (fun cdv A outer s H vs Q E hr h=>?_)
 ·obtain ⟨o,dx,z,a,b,lvl,c,fu,jz,cs,rfl,_⟩:=h
  rfl
 ·obtain ⟨o,dx,z,a,b,lvl,c,fu,jz,cs,rfl,hj,hc41,hcL,ho,hA,hz,hl1,hl2,hd,hfu,hb,k,ke⟩:=h
  have hjl:jz.length=1:=by rw [<- J0n,hj];rfl
  obtain ⟨fu,rfl⟩:∃ n,fu=n+1:=⟨fu - 1,by omega⟩;obtain ⟨e,rfl⟩:∃ e,dp=e+1:=⟨dp - 1,by omega⟩;refine ⟨_,(Jc (Js (JV (J0M (pvl 0) T.wa.cls T.wn (JJ T) (hr.mono (by omega)) T.wk.b .nil J1X (pal rfl Jf Jb) rfl rfl rfl))
   (Je (Jk (Jx Jb)))
   Jl)
   (Jc (psl 3 J0x.nd (J02 (pal rfl (J2b JD (pvl 0) T.wa.cls T.wD ih (hr.mono (by omega)) T.wr.b rfl (pal rfl (pvl 2) Jb) rfl) Jb)))
   (Jc (J33 PassesOwn.leaving (JV (J0M (pvl 0) T.wa.cls T.wn (JJ T) (hr.mono (by omega)) T.wk.b .nil J1X (pal rfl (pvl 1) Jb) rfl rfl rfl))
   (Je (J2o (J2F rfl zU PySem.F.slot_list_append PySem.F.type_list_append J1F rfl rfl rfl rfl (pvl 3) (pal rfl (J2b JD (pvl 0) T.wa.cls T.wD ih (hr.mono (by omega)) T.wr.b rfl (pal rfl (pvl 2) Jb) rfl) Jb)))))
   (Jc (Js (J0t (JV (J0M (pvl 0) T.wa.cls T.wn (JJ T) (hr.mono (by omega)) T.wk.b .nil J1X (pal rfl Jf Jb) rfl rfl rfl)))
   (Je (J19 JD rfl T.wd.x rfl T.wd.m (by decide) rfl (pal rfl Jf Jb)))
   Jl)
   (Je (Jk (J1v (J3b rfl) T.wt J2k rfl (by decide) (by decide) rfl (pal rfl (pvl 3) Jb)))))))),?_⟩
  generalize hB:J1f (J2Y (J9t _) _ _) _=B;walk_at "dc";refine ⟨_,_,ho,rfl,o,dx,z,a,b,Str.ofString ")",cs,rfl,ho,hA,by decide,fun e1=>⟨_,rfl,?_⟩,fun e1=>⟨_,rfl,?_⟩⟩
  ·rw [zc (by decide)]
   rw [J0A (mk:=41) (by decide)] at e1;have n41:=of_decide_eq_false e1;have hRm:Rm (Rd (13 - lvl)) c (fu+1) true cs=match Rd (13 - lvl) cs with | none=>none | some (s,rest)=>(Rm (Rd (13 - lvl)) c fu false rest).map fun x=>(s::x.1,x.2):=by
    rw [Rm,zc n41,zc (by simp)];rfl
   refine ⟨_,_,ho,rfl,?_⟩;generalize hr:Rm (Rd (13 - lvl)) c (fu+1) true cs=r at *;have gl:=@Rd_len (13 - lvl);generalize hg:Rd (13 - lvl)=g at *
   have tailOk : ∀ (p:Addr) (m:Nat) (H':Hp),SI f o dx z H b r g c p m H'->p≠o->H p=none->J6r
    (tB (J73 (f 28) (Str.ofString "takes") (J1z K f) [] E0 (J2J 0) (J43 (J2J 1) J6u)))
    (J74
     (tBM K "list" J3S (J2J 3)
      (J43
       (J42 (fun x=>True) (f 28) (Str.ofString "one_sieve") (JM K f (e+1)) E
        (J2J 0) (J43 (J2J 2) J6u))
       J6u)))
    { nx:=B { nx:=fun x H'=>Q V.non H',rt:=Q },rt:=Q }
    [some (V.ref o),some (V.str jz),some (V.int ↑lvl),some (V.ref p)] H':=by
    intro p m0 H0 I0 hpo hHp;refine J23 (fun m σ H'=>σ=[some (V.ref o),some (V.str jz),some (V.int lvl),some (V.ref p)]/\SI f o dx z H b r g c p m H') ⟨m0,rfl,I0⟩ ?_;rintro m σ H' ⟨rfl,I⟩;walk_at "dc";cases I with
    | bad xs a' b' rest F go hA' gp hL hrn =>
      refine ⟨_,_,go,rfl,o,dx,z,a',b',jz,rest,rfl,go,hA',by omega,fun _=>⟨_,rfl,?_⟩,fun e2=>?_⟩
      ·rw [zc (by decide)]
       subst hB;walk_at "dc";refine ⟨_,_,go,rfl,o,dx,z,a',b',Str.ofString ")",rest,rfl,go,hA',by decide,fun _=>⟨_,rfl,?_⟩,fun e3=>?_⟩
       ·rw [zd (by decide)]
        exact ⟨J9 (by decide),ke H' (fun _ _ h=>by rw [hrn] at h;cases h) F⟩
       ·rw [J0A (mk:=41) (by decide)] at e3
        exact absurd (of_decide_eq_true e3) (Jbv hL)
      ·rw [J0A hj] at e2
       obtain ⟨c',hc',hl'⟩:=hL;rw [of_decide_eq_true e2] at hc';cases hc';rw [hcL] at hl';cases hl'
    | good ss xs a' rest fu' F go hA' hb' gp hx hf hr' hm =>
      obtain ⟨fu',rfl⟩:∃ n,fu'=n+1:=⟨fu' - 1,by omega⟩;have hxl:xs.length<=60:=by
       have h1:=hx.len;have h2:=J2f ss;have h3:(J20 ss).length=ss.length:=J40 ss;omega
      refine ⟨_,_,go,rfl,o,dx,z,a',_,jz,rest,rfl,go,hA',by omega,fun e2=>⟨_,rfl,?_⟩,fun e2=>⟨_,rfl,?_⟩⟩
      ·rw [zc (by decide)]
       rw [J0A hj] at e2;have n2:=of_decide_eq_false e2;subst hB;walk_at "dc";refine ⟨_,_,go,rfl,o,dx,z,a',_,Str.ofString ")",rest,rfl,go,hA',by decide,fun e3=>⟨_,rfl,?_⟩,fun e3=>⟨_,rfl,?_⟩⟩
       ·rw [zd (by decide)]
        rw [J0A (mk:=41) (by decide)] at e3;refine ⟨J9 (by decide),ke H' (fun _ _ h=>?_) F⟩;rw [hr',Rm,zc (of_decide_eq_false e3),zd ⟨rfl,n2⟩] at h;cases h
       ·rw [zc (by decide)]
        rw [J0A (mk:=41) (by decide)] at e3;have h41:=of_decide_eq_true e3;rw [Rm,zd h41] at hr';have hr2:r=some (ss,rest.tail):=by rw [hr'];show some (ss++[],rest.tail)=_;rw [append_nil]
        have F3:=F.trans (Frm.upd (u:=.ins (f 28) dx (JC z (a'+(Str.ofString ")").length:Nat) (b+JL ss:Nat))));have g3:upd H' o (.ins (f 28) dx (JC z (a'+(Str.ofString ")").length:Nat) (b+JL ss:Nat))) o=some (.ins (f 28) dx (JC z (a'+1:Nat) (b+JL ss:Nat))):=Jd;have p3:upd H' o (.ins (f 28) dx (JC z (a'+(Str.ofString ")").length:Nat) (b+JL ss:Nat))) p=some (.lst xs):=by rw [Jo hpo];exact gp
        have x3:=hx.mono (TSame.upd_no (o:=.ins (f 28) dx (JC z (a'+(Str.ofString ")").length:Nat) (b+JL ss:Nat))) go (fun _ h=>nomatch h));generalize upd H' o (.ins (f 28) dx (JC z (a'+(Str.ofString ")").length:Nat) (b+JL ss:Nat)))=H3 at *;exact ⟨xs,.inl ⟨.of p3,fun q hq=>k _ _ _ q xs _ hr2 hb' (F3.trans (Frm.of (Same.upd_new hq _))) (Same.upd_new hq _ _ _ g3) (J0D hA' h41) Jd (x3.mono (Same.upd_new hq _).t)⟩⟩
      ·rw [zd rfl]
       rw [J0A hj] at e2;have hc':=of_decide_eq_true e2;have hA2:=J0D hA' hc';have n41:rest.head?≠some 41:=by rw [hc'];exact fun z=>hc41 (zi z)
       have F3:=F.trans (Frm.upd (u:=.ins (f 28) dx (JC z (a'+1:Nat) (b+JL ss:Nat))));have g3:upd H' o (.ins (f 28) dx (JC z (a'+1:Nat) (b+JL ss:Nat))) o=some (.ins (f 28) dx (JC z (a'+1:Nat) (b+JL ss:Nat))):=Jd;have p3:upd H' o (.ins (f 28) dx (JC z (a'+1:Nat) (b+JL ss:Nat))) p=some (.lst xs):=by rw [Jo hpo];exact gp
       have x3:=hx.mono (TSame.upd_no (o:=.ins (f 28) dx (JC z (a'+1:Nat) (b+JL ss:Nat))) go (fun _ h=>nomatch h));rw [hjl];generalize upd H' o (.ins (f 28) dx (JC z (a'+1:Nat) (b+JL ss:Nat)))=H3 at *;rw [Rm,zc n41,zc (by simp [hc'])] at hr';refine WGo.of ?_;walk_at "dc";have hif:(if false=true then rest else rest.tail)=rest.tail:=rfl;rw [hif] at hr';have fp:∀ {H4:Hp} {y:HO},Frm o H H4->Frm o H (upd H4 p y):=fun F4 q u n h=>by
        rw [Jo (fun z=>by rw [z,hHp] at h;cases h)];exact F4 q u n h
       have rl:rest.tail.length<rest.length:=by
        cases rest with
        | nil=>cases hc'
        | cons x r=>simp
       have on:OnQ f o dx z (b+JL ss) (g rest.tail) H3 (fun x H1=>J3S (V.ref p) [x] H1 fun x H1=>∃ m',m'<m/\SI f o dx z H b r g c p m' H1) E:=by
        refine ⟨fun s rest2 H4 v a2 hs hcn F4 g4 hA4 hv=>?_,fun rest2 H4 v a2 b2 hs F4 g4 hA4 hL=>?_,fun H4 hno F4=>ke H4 (fun ss2 rest2 h=>?_) (F3.trans F4)⟩
        ·have p4:=F4 p _ hpo p3
         have x4:=x3.mono (F4.t g3);have l2:=gl hs;have tt:=TSame.upd_no (o:=.lst (xs++[v])) p4 (fun _ h=>nomatch h);have ec:JL (ss++[s])=JL ss+cnt s:=by rw [J4v];simp only [JL];omega
         rw [hs] at hr';refine ⟨p,_,_,rfl,rfl,p4,by rw [sizeLine_eq];omega,rest2.length+1,by omega,.good (ss++[s]) (xs++[v]) a2 rest2 fu' (fp (F3.trans F4)) ?_ hA4 (by omega) Jd ?_ (by omega) ?_ rfl⟩
         ·rw [Jo (Ne.symm hpo),g4,ec,Nat.add_assoc]
         ·rw [J4P]
          exact Rxs.snoc (x4.mono tt) (hv.mono tt)
         ·rw [hr']
          show Option.map _ (Option.map (fun x=>(s::x.1,x.2)) (Rm g c fu' false rest2))=_;cases Rm g c fu' false rest2 with
          | none=>rfl
          | some x=>show some (ss++s::x.1,x.2)=some (ss++[s]++x.1,x.2);rw [zO];rfl
        ·have p4:=F4 p _ hpo p3
         rw [hs] at hr';exact ⟨p,_,_,rfl,rfl,p4,by rw [sizeLine_eq];omega,0,by omega,.bad (xs++[v]) a2 b2 rest2 (fp (F3.trans F4)) (by rw [Jo (Ne.symm hpo)];exact g4) hA4 Jd hL hr'⟩
        ·cases hs:g rest.tail with
         | none=>rw [hr',hs] at h;cases h
         | some x =>
           have h1:=hno x.1 x.2 hs;rw [hr',hs] at h;obtain ⟨y,hy,e5⟩:=Option.map_eq_some_iff.mp h;obtain ⟨y2,hy2,e6⟩:=Option.map_eq_some_iff.mp hy;cases e5;cases e6;show 60<b+JL (ss++x.1::y2.1);rw [J4v];simp only [JL];omega
       exact ⟨.inl ⟨rfl,_,.of p3⟩,_,_,g3,rfl,o,dx,z,a'+1,b+JL ss,lvl,rest.tail,rfl,g3,hA2,hz,hl1,hl2,by omega,by rw [hg];exact on⟩
   have fresh:∀ {H1:Hp} {p:Addr} {aa bb:Nat},Frm o H H1->H1 o=some (.ins (f 28) dx (JC z aa bb))->H1 p=none->p≠o/\H p=none:=fun {H1 p aa bb} F1 g1 hp=>by
    have hpo:p≠o:=fun z=>by rw [z,g1] at hp;cases hp
    refine ⟨hpo,?_⟩;cases hq:H p with
    | none=>rfl
    | some u=>rw [F1 p u hpo hq] at hp;cases hp
   refine ⟨o,dx,z,a,b,lvl,cs,rfl,ho,hA,hz,hl1,hl2,by omega,?_⟩;rw [hg];refine ⟨fun s rest H1 v a1 hs hcn F1 g1 hA1 hv=>⟨J9 (by decide),fun p hp=>?_⟩,fun rest H1 v a1 b1 hs F1 g1 hA1 hL=>⟨J9 (by decide),fun p hp=>?_⟩,fun H1 hno F1=>ke H1 (fun ss2 rest2 h=>?_) F1⟩
   ·obtain ⟨hpo,hHp⟩:=fresh F1 g1 hp
    have s2:=Same.upd_new hp (HO.lst [v]);have l2:=gl hs;rw [hs] at hRm;have ec:JL [s]=cnt s:=by simp only [JL];omega
    refine tailOk p (rest.length+1) _ (.good [s] [v] a1 rest fu (F1.trans (Frm.of s2)) (by rw [ec];exact s2 _ _ g1) hA1 (by omega) Jd (by simp only [J20,Rxs];exact ⟨v,[],rfl,hv.mono s2.t,rfl⟩) (by omega) ?_ rfl) hpo hHp;rw [hRm];rfl
   ·obtain ⟨hpo,hHp⟩:=fresh F1 g1 hp
    have s2:=Same.upd_new hp (HO.lst [v]);rw [hs] at hRm;exact tailOk p 0 _ (.bad [v] a1 b1 rest (F1.trans (Frm.of s2)) (s2 _ _ g1) hA1 Jd hL hRm) hpo hHp
   ·cases hs:g cs with
    | none=>rw [hRm,hs] at h;cases h
    | some x =>
      have h1:=hno x.1 x.2 hs;rw [hRm,hs] at h;obtain ⟨y,hy,e5⟩:=Option.map_eq_some_iff.mp h;cases e5;show 60<b+JL (x.1::y.1);simp only [JL];omega
  ·rw [zd rfl]
   rw [J0A (mk:=41) (by decide)] at e1;have h41:=of_decide_eq_true e1;have hRm:Rm (Rd (13 - lvl)) c (fu+1) true cs=some ([],cs.tail):=by rw [Rm,zd h41]
   exact ⟨J9 (by decide),fun q hq=>k _ _ _ q [] (a+1) hRm (by simp only [JL];omega) (Frm.upd.trans (Frm.of (Same.upd_new hq _))) (by simp only [JL];exact Same.upd_new hq _ _ _ Jd) (J0D hA h41) Jd (by simp only [J20,Rxs])⟩
theorem J7c {m:Str}{mk:Nat}(e:m.cps.toList=[mk])(cs:List Nat):(Str.ofString "("++m).cps.toList.isPrefixOf cs=decide (cs.head?=some 40/\cs.tail.head?=some mk):=by
 rw [PySem.W.KT.app_list,e,show (Str.ofString "(").cps.toList=[40] by decide];cases cs with
 | nil=>simp [List.isPrefixOf]
 | cons x r =>
   cases r with
   | nil=>simp [List.isPrefixOf]
   | cons y r =>
     simp only [cons_append,nil_append,List.isPrefixOf,List.head?_cons,tail_cons,Bool.and_true,Option.some.injEq,Bool.decide_and];rw [Bool.eq_iff_iff];simp only [Bool.and_eq_true,beq_iff_eq,decide_eq_true_eq];exact ⟨fun h=>⟨h.1.symm,h.2.symm⟩,fun h=>⟨h.1.symm,h.2.symm⟩⟩
theorem JbG (h:cs.head?=some 40):Rp cs=none:=by
 cases cs with
 | nil=>cases h
 | cons x r =>
   obtain rfl:x=40:=by simpa using h
   unfold Rp;rw [zc];rw [takeWhile_cons,zc (by decide +kernel)];decide
theorem Rp_cnt {s:Rv}(h:Rp cs=some (s,rest)):cnt s=1:=by
 unfold Rp at h
 split at h
 ·cases hd:cs.dropWhile isL with
  | nil=>rw [hd] at h;cases h
  | cons c r =>
    rw [hd,Rt] at h
    split at h
    ·cases h;simp only [cnt]
    ·split at h
     ·split at h
      ·cases h;simp only [cnt]
      ·cases h
     ·cases h
 ·cases h
theorem J4l (h:c=38\/c=124):c≠41/\isL c=false:=by rcases h with rfl | rfl<;>exact ⟨by decide,by decide +kernel⟩
theorem st_Reading_one_sieve (T:Txt w K mg f fd)(dp:Nat)(ih:FnOk P w K mg base (CXE P w) (7+2 * dp) (f 29003) (fd 29003) ["self","level"] (JM K f dp))(ih2:FnOk P w K mg base (CXE P w) (7+2 * dp+1) (f 29004) (fd 29004) ["self","joint","level"] (J0w K f dp)):FnOk P w K mg base (CXE P w) (7+2 * dp+1+1) (f 29003) (fd 29003) ["self","level"] (JM K f (dp+1)):=by
 refine T.wr.F.okX J0g (fun vs H Q E h=>?_) (fun cdv A outer s H vs Q E hr h=>?_)
 ·obtain ⟨o,dx,z,a,b,lvl,cs,rfl,_⟩:=h
  rfl
 ·obtain ⟨o,dx,z,a,b,lvl,cs,rfl,ho,hA,hz,hl1,hl2,hd,k,kl,ke⟩:=h
  have elv:((lvl:Int)+1)=((lvl+1:Nat):Int):=by omega
  have ebv:((b:Int)+1)=((b+1:Nat):Int):=by omega
  refine ⟨_,(Jc (J3w (pvl 0) Ja J6O)
   (Jc (Js (PW.pt (J1D (Jj J4T (pvl 1) (pgi T.yQ) (Jn _)) (J1u (Jj J4T (J1a (pvl 0) rfl) (pgi T.yR) (Jn _)))))
   (Je (J19 JD rfl T.wd.x rfl T.wd.m (by decide) rfl (pal rfl Jf Jb)))
   Jl)
   (Jc (Js (JV (J0M (pvl 0) T.wa.cls T.wn (JJ T) (hr.mono (by omega)) T.wk.b .nil J1X (pal rfl Jf Jb) rfl rfl rfl))
   (Je (Jk (Jx (pal rfl Jf (pal rfl (J2b JD (pvl 0) T.wa.cls T.wD ih (hr.mono (by omega)) T.wr.b rfl (pal rfl (Jg JE (pvl 1) Ja) Jb) rfl) Jb)))))
   Jl)
   (Jc (J2a PassesOwn.leaving rfl (J5T T.yq T.yp rfl (by decide) rfl rfl) (J7h rfl rfl (J0R (pgl 2 J0g.nd) (J0R (pgl 3 J0g.nd) J3T)))
   (Je (Js (JV (J0M (pvl 0) T.wa.cls T.wn (JJ T) (hr.mono (by omega)) T.wk.b .nil J1X (pal rfl (Jg Jp Jf (pvl 3)) Jb) rfl rfl rfl))
   (Je (Jk (Jx (pal rfl (pvl 2) (pal rfl (J2b JD (pvl 0) T.wa.cls T.yr ih2 (hr.mono (by omega)) T.yh.b rfl (pal rfl (pvl 3) (pal rfl (Jg JE (pvl 1) Ja) Jb)) rfl) Jb)))))
   Jl)))
   (Je (Jk (J3y JD (pvl 0) T.wa.cls T.yt (ok_Reading_plain_sieve T) (hr.mono (by omega)) T.yi.b rfl))))))),?_⟩
  generalize hB:J1f (J2Y (tB _) _ _) _=B;unfold J3R;walk_at "dc";refine ⟨_,_,_,ho,T.wa.cls,T.wU,.int b,rfl,b,rfl,_,_,ho,by simp [JC],?_⟩;rw [J7D,ebv];have g1:upd H o (.ins (f 28) dx (JC z a (b+1:Nat))) o=some (.ins (f 28) dx (JC z a (b+1:Nat))):=Jd;have F1:Frm o H (upd H o (.ins (f 28) dx (JC z a (b+1:Nat)))):=Frm.upd;generalize upd H o (.ins (f 28) dx (JC z a (b+1:Nat)))=H1 at *;by_cases c13:lvl=13
  ·rw [zd (by subst c13;decide)]
   refine ⟨J9 (by decide),ke H1 (fun s rest h=>?_) F1⟩;rw [c13,Rd] at h;cases h
  rw [zc (by simp;omega)];refine ⟨_,_,_,g1,T.wa.cls,T.wU,.int (b+1:Nat),rfl,(b+1:Nat),rfl,?_⟩;by_cases c60:60<b+1
  ·rw [zd (by simp;omega)]
   refine ⟨J9 (by decide),ke H1 (fun s rest h=>?_) F1⟩;have:=J7o s;omega
  rw [zc (by simp;omega)];subst hB;walk_at "dc";rw [elv];obtain ⟨lv,elvn⟩:∃ lv,13 - lvl=lv+1:=⟨12 - lvl,by omega⟩;have elv1:13 - (lvl+1)=lv:=by omega
  obtain ⟨d',rfl⟩:∃ d',dp=d'+1:=⟨dp - 1,by omega⟩;rw [elvn] at k kl ke;refine ⟨_,_,g1,rfl,o,dx,z,a,_,Str.ofString "!",cs,rfl,g1,hA,by decide,fun e1=>⟨_,rfl,?_⟩,fun e1=>⟨_,rfl,?_⟩⟩
  ·rw [zc (by decide)]
   rw [J0A (mk:=33) (by decide)] at e1;have n33:=of_decide_eq_false e1;refine J2j ?_;unfold J4n;refine ForW.items (fun j σ H'=>(∃ v2 v3,σ=[some (V.ref o),some (V.int lvl),v2,v3])/\Same H1 H'/\∀ i mk,i<j->([38,124]:List Nat)[i]?=some mk->¬ (cs.head?=some 40/\cs.tail.head?=some mk)) ⟨⟨none,none,rfl⟩,Same.refl _,fun i _ h=>absurd h (by omega)⟩ ?_ ?_
   ·rintro j kv σ H2 p hkv ⟨⟨v2,v3,rfl⟩,s2,nn⟩ hp
    have s3:=s2.new hp (HO.tup [V.str kv.1,V.str kv.2]);refine ⟨p,_,rfl,.of Jd,rfl,?_⟩;generalize upd H2 p (HO.tup [V.str kv.1,V.str kv.2])=H3 at *;have g3:=s3 _ _ g1;obtain ⟨mk,hmk,e2,e3,em⟩:∃ mk:Nat,([38,124]:List Nat)[j]?=some mk/\kv.2.cps.toList=[mk]/\kv.1=mw (decide (mk=124))/\(mk=38\/mk=124):=by
     match j,hkv with
     | 0,h=>cases h;exact ⟨38,rfl,by decide,by decide,by decide⟩
     | 1,h=>cases h;exact ⟨124,rfl,by decide,by decide,by decide⟩
     | n+2,h=>simp at h
    obtain ⟨k1,k2⟩:=kv;simp only [J65,J94,J0C] at *;have l2:k2.length=1:=by rw [<- J0n,e2];rfl
    have len1:(Str.ofString "(").length=1:=by decide
    walk_at "dc";refine ⟨_,_,g3,rfl,J9 (by omega),o,dx,z,a,_,_,cs,rfl,g3,hA,by rw [Jr];omega,fun e4=>⟨_,rfl,?_⟩,fun e4=>⟨_,rfl,?_⟩⟩
    ·rw [zc (by decide)]
     rw [J7c e2] at e4;refine ⟨⟨_,rfl⟩,s3,fun i mk' hi hm=>?_⟩;by_cases hij:i=j
     ·subst hij
      rw [zi (hm.symm.trans hmk)];exact of_decide_eq_false e4
     ·exact nn i mk' (by omega) hm
    ·rw [zd rfl]
     rw [J7c e2] at e4;obtain ⟨h40,hmk2⟩:=of_decide_eq_true e4;have hRd:Rd (lv+1) cs=(Rm (Rd lv) mk (cs.length+1) true cs.tail.tail).map fun x=>(.many (decide (mk=124)) x.1,x.2):=by
      rw [Rd,zc n33,zd h40,hmk2,zd (by rcases em with rfl | rfl<;>simp)];simp only [Option.getD_some,Option.some.injEq]
     rw [hRd] at k ke;have hA2:=J0D (J0D hA h40) hmk2;rw [Jr,len1,l2];have F4:=(F1.trans (Frm.of s3)).trans (Frm.upd (u:=.ins (f 28) dx (JC z (a+(1+1):Nat) (b+1:Nat))));have g4:upd H3 o (.ins (f 28) dx (JC z (a+(1+1):Nat) (b+1:Nat))) o=some (.ins (f 28) dx (JC z (a+1+1:Nat) (b+1:Nat))):=Jd;generalize upd H3 o (.ins (f 28) dx (JC z (a+(1+1):Nat) (b+1:Nat)))=H4 at *;have tl:=J0B cs;have tl2:=J0B cs.tail;refine ⟨_,_,g4,rfl,o,dx,z,a+1+1,b+1,lvl+1,mk,cs.length+1,k2,cs.tail.tail,rfl,e2,(J4l em).1,(J4l em).2,g4,hA2,hz,by omega,by omega,by omega,by omega,by omega,?_⟩;rw [elv1];refine ⟨fun ss rest H5 q xs a5 hs hcn F5 g5 hA5 hq hxs=>⟨J9 (by decide),fun p2 hp2=>?_⟩,fun H5 hno F5=>ke H5 (fun s rest h=>?_) (F4.trans F5)⟩
     ·have ec:cnt (.many (decide (mk=124)) ss)=JL ss+1:=by simp only [cnt]
      refine k _ rest _ _ a5 (by rw [hs];rfl) (by rw [ec];omega) ((F4.trans F5).trans (Frm.of (Same.upd_new hp2 _))) ?_ hA5 ?_
      ·rw [ec,show b+(JL ss+1)=b+1+JL ss by omega]
       exact Same.upd_new hp2 _ _ _ g5
      ·simp only [toP,Rx]
       exact ⟨p2,q,xs,rfl,by rw [Jd,e3],Same.upd_new hp2 _ _ _ hq,hxs.mono (Same.upd_new hp2 _).t⟩
     ·obtain ⟨x,hx,e5⟩:=Option.map_eq_some_iff.mp h
      cases e5;have:=hno x.1 x.2 hx;simp only [cnt];omega
   ·rintro σ H2 ⟨⟨v2,v3,rfl⟩,s2,nn⟩
    walk_at "dc";have hRd:Rd (lv+1) cs=Rp cs:=by
     rw [Rd,zc n33];by_cases h40:cs.head?=some 40
     ·rw [zd h40,JbG h40,zc]
      rintro (z | z)
      ·exact nn 0 38 (by decide) rfl ⟨h40,z⟩
      ·exact nn 1 124 (by decide) rfl ⟨h40,z⟩
     ·rw [zc h40]
    rw [hRd] at k kl ke;have F2:=F1.trans (Frm.of s2);refine ⟨_,_,s2 _ _ g1,rfl,o,dx,z,a,_,cs,rfl,s2 _ _ g1,hA,hz,fun s rest H3 v a3 hs F3 g3 hA3 hv=>?_,fun rest H3 v a3 hs F3 g3 hA3 hL=>kl rest H3 v a3 (b+1) hs (F2.trans F3) g3 hA3 hL,fun H3 hs F3=>ke H3 (fun s rest h=>by rw [hs] at h;cases h) (F2.trans F3)⟩;have ec:=Rp_cnt hs;exact k s rest H3 v a3 hs (by omega) (F2.trans F3) (by rw [ec];exact g3) hA3 hv
  ·rw [zd rfl]
   rw [J0A (mk:=33) (by decide)] at e1;have h33:=of_decide_eq_true e1;have hRd:Rd (lv+1) cs=(Rd lv cs.tail).map fun x=>(.neg x.1,x.2):=by rw [Rd,zd h33]
   rw [hRd] at k kl ke;have F2:=F1.trans (Frm.upd (u:=.ins (f 28) dx (JC z (a+(Str.ofString "!").length:Nat) (b+1:Nat))));have g2:upd H1 o (.ins (f 28) dx (JC z (a+(Str.ofString "!").length:Nat) (b+1:Nat))) o=some (.ins (f 28) dx (JC z (a+1:Nat) (b+1:Nat))):=Jd;generalize upd H1 o (.ins (f 28) dx (JC z (a+(Str.ofString "!").length:Nat) (b+1:Nat)))=H2 at *;refine ⟨_,_,g2,rfl,o,dx,z,a+1,b+1,lvl+1,cs.tail,rfl,g2,J0D hA h33,hz,by omega,by omega,by omega,?_⟩;rw [elv1];refine ⟨fun s rest H3 v a3 hs hcn F3 g3 hA3 hv=>⟨J9 (by decide),fun p hp=>?_⟩,fun rest H3 v a3 b3 hs F3 g3 hA3 hL=>⟨J9 (by decide),fun p hp=>kl _ _ _ a3 b3 (by rw [hs];rfl) ((F2.trans F3).trans (Frm.of (Same.upd_new hp _))) (Same.upd_new hp _ _ _ g3) hA3 hL⟩,fun H3 hno F3=>ke H3 (fun s rest h=>?_) (F2.trans F3)⟩
   ·have ec:cnt (.neg s)=cnt s+1:=by simp only [cnt]
    refine k (.neg s) rest _ _ a3 (by rw [hs];rfl) (by omega) ((F2.trans F3).trans (Frm.of (Same.upd_new hp _))) ?_ hA3 ?_
    ·rw [ec,show b+(cnt s+1)=b+1+cnt s by omega]
     exact Same.upd_new hp _ _ _ g3
    ·simp only [toP,Rx]
     exact ⟨p,v,rfl,Jd,hv.mono (Same.upd_new hp _).t⟩
   ·obtain ⟨x,hx,e5⟩:=Option.map_eq_some_iff.mp h
    cases e5;have:=hno x.1 x.2 hx;simp only [cnt];omega
theorem J0k (T:Txt w K mg f fd):∀ dp:Nat,FnOk P w K mg base (CXE P w) (7+2 * dp) (f 29003) (fd 29003) ["self","level"] (JM K f dp)
 | 0=>⟨fun _ _ _ _ h=>zp h,fun _ _ _ _ _ _ _ _ _ _ _ _ _ h=>zp h⟩
 | dp+1=>st_Reading_one_sieve T dp (J0k T dp) (st_Reading_some_sieves T dp (J0k T dp))
def LFD (t:Str):Prop:=1<=t.length/\t.length<=61/\∀ c∈t.cps.toList,isV c=true
mutual
def Wf:Rv->Prop
 | .pl w n x=>Nam n/\((w="lacks"/\x=none)\/(w="is"/\∃ t,x=some (.str t)/\LFD t)\/((w="under"\/w="over")/\∃ t,x=some (.str t)/\LFD t/\JX t.cps.toList=true))
 | .neg s=>Wf s
 | .many _ ss=>Wfs ss
def Wfs:List Rv->Prop
 | []=>True
 | s::ss=>Wf s/\Wfs ss
end
theorem Rp_ok {s:Rv}(h:Rp cs=some (s,rest)):Wf s/\dep s=1:=by
 unfold Rp at h
 split at h
 ·rename_i hn
  have hnm:=J8O hn;cases hd:cs.dropWhile isL with
  | nil=>rw [hd] at h;cases h
  | cons c r =>
    rw [hd,Rt] at h
    split at h
    ·cases h
     refine ⟨?_,by simp only [dep]⟩;rw [Wf];exact ⟨hnm,.inl ⟨rfl,rfl⟩⟩
    ·split at h
     ·rename_i em
      split at h
      ·rename_i hv
       cases h;refine ⟨?_,by simp only [dep]⟩;rw [Wf];have lf:LFD (sOf (r.takeWhile isV)):=⟨by rw [J1l];exact hv.1,by rw [J1l];exact hv.2.1,fun c hc=>J3G (p:=isV) hc⟩;refine ⟨hnm,.inr ?_⟩;rcases em with rfl | rfl | rfl
       ·exact .inl ⟨rfl,_,rfl,lf⟩
       ·exact .inr ⟨.inl rfl,_,rfl,lf,hv.2.2.resolve_left (by decide)⟩
       ·exact .inr ⟨.inr rfl,_,rfl,lf,hv.2.2.resolve_left (by decide)⟩
      ·cases h
     ·cases h
 ·cases h
theorem Rm_ok {f:List Nat->Option (Rv×List Nat)}{c lv:Nat}(hf:∀ cs s rest,f cs=some (s,rest)->Wf s/\dep s<=lv):∀ {k:Nat} {b:Bool} {cs:List Nat} {ss:List Rv} {rest:List Nat},Rm f c k b cs=some (ss,rest)->Wfs ss/\J3f ss<=lv
 | 0,_,_,_,_,h=>by simp [Rm] at h
 | k + 1,b,cs,ss,rest,h=>by
   rw [Rm] at h
   split at h
   ·cases h
    simp only [Wfs,J3f];exact ⟨trivial,zn _⟩
   ·split at h
    ·cases h
    ·split at h
     ·cases h
     ·rename_i s r hs
      obtain ⟨⟨ss',r'⟩,h1,h2⟩:=Option.map_eq_some_iff.mp h;cases h2;have a1:=Rm_ok hf h1;have a2:=hf _ _ _ hs;simp only [Wfs,J3f];exact ⟨⟨a2.1,a1.1⟩,by omega⟩
theorem Rd_ok:∀ {lv:Nat} {cs:List Nat} {s:Rv} {rest:List Nat},Rd lv cs=some (s,rest)->Wf s/\dep s<=lv
 | 0,_,_,_,h=>by simp [Rd] at h
 | lv+1,cs,s,rest,h=>by
   rw [Rd] at h
   split at h
   ·obtain ⟨⟨s',r'⟩,h1,h2⟩:=Option.map_eq_some_iff.mp h
    cases h2;have:=Rd_ok h1;simp only [Wf,dep];exact ⟨this.1,by omega⟩
   ·split at h
    ·split at h
     ·obtain ⟨⟨s',r'⟩,h1,h2⟩:=Option.map_eq_some_iff.mp h
      cases h2;have:=Rm_ok (fun _ _ _=>Rd_ok) h1;simp only [Wf,dep];exact ⟨this.1,by omega⟩
     ·cases h
    ·have:=Rp_ok h
     exact ⟨this.1,by omega⟩
inductive Ou (α:Type)
 | fld (n:Str)
 | knd (n:Str)
 | ok (a:α)
def Ou.map {α β:Type}(f:α->β):Ou α->Ou β
 | .fld n=>.fld n
 | .knd n=>.knd n
 | .ok a=>.ok (f a)
def J2S:List Str->List Str->Str->Option Str
 | n::ns,k::ks,m=>if n=m then some k else J2S ns ks m
 | _,_,_=>none
theorem J1G:∀ {ns ks:List Str} {m kd:Str},J2S ns ks m=some kd->∃ i:Nat,ns[i]?=some m/\ks[i]?=some kd
 | [],_,_,_,h=>by cases h
 | _::_,[],_,_,h=>by cases h
 | n :: ns,k::ks,m,kd,h=>by
   rw [J2S] at h
   split at h
   ·rename_i e
    exact ⟨0,by rw [e];rfl,by cases h;rfl⟩
   ·obtain ⟨i,h1,h2⟩:=J1G h
    exact ⟨i+1,h1,h2⟩
theorem J2t:∀ {ns ks:List Str} {m:Str},ns.length=ks.length->J2S ns ks m=none->m∉ns
 | [],_,_,_,_=>by simp
 | n::ns,[],_,e,_=>by simp at e
 | n :: ns,k::ks,m,e,h=>by
   rw [J2S] at h
   split at h
   ·cases h
   ·rename_i ne
    intro z;rcases zC.mp z with z | z
    ·exact ne z.symm
    ·exact J2t (by simpa using e) h z
def BKp (ns kds:List Str)(w n:Str)(x:Option V):Ou Rv :=
 match J2S ns kds n with
 | none=>.fld n
 | some kd=>match x with
   | some (.str t)=>if kd="word" then (if w="is"/\t.length<=12/\45∉t.cps.toList then .ok (.pl w n (some (.str t))) else .knd n) else (if JX t.cps.toList=true then .ok (.pl w n (some (.int (J1c t.cps.toList)))) else .knd n)
   | x=>.ok (.pl w n x)
mutual
def BK (ns kds:List Str):Rv->Ou Rv
 | .pl w n x=>BKp ns kds w n x
 | .neg s=>(BK ns kds s).map .neg
 | .many o ss=>(BKs ns kds ss).map (.many o)
def BKs (ns kds:List Str):List Rv->Ou (List Rv)
 | []=>.ok []
 | s::ss=>match BK ns kds s with
   | .fld n=>.fld n
   | .knd n=>.knd n
   | .ok s'=>(BKs ns kds ss).map (s'::·)
end
def Rz (f:Nat->Addr)(E:XK)(H:Hp)(i:Nat)(n:Str):Prop:=∀ H' dx,Same H H'->H' dx=some (.xd [("name",.str n)])->E (.ref (f i)) (some dx) H'
theorem Rz.mono {f:Nat->Addr}{E:XK}{n:Str}(s:Same H H1)(h:Rz f E H i n):Rz f E H1 i n:=fun H' dx s' e=>h H' dx (s.trans s') e
def Tl (f:Nat->Addr)(Q:VK)(E:XK)(H:Hp):Ou Rv->Prop
 | .fld n=>Rz f E H 3 n
 | .knd n=>Rz f E H 4 n
 | .ok s=>∀ H' v,Same H H'->Rx H' s v->Q v H'
def J4C (K:Frag):Sp:=fun _ _ _ _=>False
theorem J4I (T:Txt w K mg f fd):FnOk P w K mg base CX0 1 (f 19) (fd 19) ["kind","value"] (J4C K):=by
 walk_at "ok wZ J4F"
 ·exact h.elim
 ·exact h.elim
theorem in2 {a b fm:Str}:inV (.str fm) [.str a,.str b]=(decide (a=fm)||decide (b=fm)):=by
 by_cases h1:a=fm<;>by_cases h2:b=fm<;>simp [inV,eqV,h1,h2]
def J25 (K:Frag)(f:Nat->Addr):Sp:=fun vs H Q E=>∃ (l p:Addr) (fm n:Str) (rest xs:List V) (ns kds:List Str),vs=[.ref l,.ref p]/\H l=some (.lst xs)/\FldsK H xs ns kds/\H p=some (.tup (.str fm::.str n::rest))/\(fm="lacks"\/fm="under"\/fm="over") /\
 ((∃ (j:Nat) (kd:Str),ns[j]?=some n/\kds[j]?=some kd/\(fm="lacks"\/kd=kdN->∀ H',Same H H'->Q (.bl true) H')/\(¬ (fm="lacks"\/kd=kdN)->Rz f E H 4 n))\/(n∉ns/\Rz f E H 3 n))
theorem ok_asked_plain (T:Txt w K mg f fd):FnOk P w K mg base (CXE P w) 4 (f 20) (fd 20) ["fields","sieve"] (J25 K f):=by
 refine T.w5.F.okX J17 (fun vs H Q E h=>?_) (fun cdv A outer s H vs Q E hr h=>?_)
 ·obtain ⟨l,p,fm,n,rest,xs,ns,kds,rfl,_⟩:=h
  rfl
 ·obtain ⟨l,p,fm,n,rest,xs,ns,kds,rfl,hl,hF,hp,hfm,ho⟩:=h
  refine ⟨_,(Jc (psl 2 J17.nd (Jq (Jt rfl) (pvl 1) Ja (fun _ _=>rfl)))
   (Jc (psl 3 J17.nd (Jq (Jt rfl) (Jq (J1d rfl) (pvl 0) (J12 JD T.wJ (ok_field_at T) (hr.mono (by decide)) rfl (by decide) rfl (pal rfl (pvl 0) (pal rfl (pvl 2) Jb))) (fun _ _=>rfl)) Ja (fun _ _=>rfl)))
   (Jc (Js (PW.pt (J0Z (Jj (J8V rfl) (Jq (Jt rfl) (pvl 1) Ja (fun _ _=>rfl)) (Jx (pal rfl Jf (pal rfl Jf Jb))) rfl) (J0z (Jj J2c (pvl 3) Jf (Jn _)))))
   (Je (J2n JD rfl T.wb.x T.wm.fn (J0u T) (hr.mono (by decide)) T.wm.b T.wb.kp rfl T.wb.m (by decide) rfl (pal rfl (pvl 2) Jb)))
   Jl)
   (Jc (Js (PW.pt (J0Z (Jj JN (Jq (Jt rfl) (pvl 1) Ja (fun _ _=>rfl)) Jf (Jn _)) (J0z (J0t (JV (Jm T.wZ (J4I T) (hr.mono (by decide)) rfl (by decide) rfl (pal rfl (pvl 3) (pal rfl (Jq (Jt rfl) (pvl 1) Ja (fun _ _=>rfl)) Jb))))))))
   (Je (J2n JD rfl T.wb.x T.wm.fn (J0u T) (hr.mono (by decide)) T.wm.b T.wb.kp rfl T.wb.m (by decide) rfl (pal rfl (pvl 2) Jb)))
   Jl)
   (Je (Jk J4e)))))),?_⟩
  walk_at "py";refine ⟨p,_,_,_,rfl,rfl,.of hp,Jh (j:=1) rfl,?_⟩;rcases ho with ⟨j,kd,hj,hkd,k1,k2⟩ | ⟨hno,k⟩
  ·refine ⟨l,xs,ns,kds,n,rfl,hl,hF,.inl ⟨j,hj,fun H1 s1=>?_⟩⟩
   obtain ⟨p',n',kd',e1,e2,e3,e4⟩:=hF.at (show j<xs.length by rw [<- hF.1];exact (zt.mp hj).1);obtain rfl:kd=kd':=zi (hkd.symm.trans e3);refine ⟨l,xs,_,_,rfl,rfl,.of (s1 _ _ hl),Jh e1,p',_,_,_,rfl,rfl,.of (s1 _ _ e4),Jh (j:=1) rfl,p,_,_,_,rfl,rfl,.of (s1 _ _ hp),Jh (j:=0) rfl,J9 (by decide),fun q hq=>?_⟩;have u:=Same.upd_new hq (HO.tup [V.str (Str.ofString "under"),V.str (Str.ofString "over")]);have gq:upd H1 q (HO.tup [V.str (Str.ofString "under"),V.str (Str.ofString "over")]) q=some (.tup [V.str (Str.ofString "under"),V.str (Str.ofString "over")]):=Jd;generalize upd H1 q (HO.tup [V.str (Str.ofString "under"),V.str (Str.ofString "over")])=H2 at *;have s2:=s1.trans u;refine ⟨q,_,rfl,.inr (.of gq),by rfl,by decide,_,rfl,?_⟩;rw [zc zf];have ix0:∀ R:VK,R (.str fm) H2->J3O K (.ref p) (.int 0) H2 R:=fun R r=>⟨p,_,_,_,rfl,rfl,.of (s2 _ _ hp),Jh (j:=0) rfl,r⟩;rcases hfm with rfl | hf
   ·rw [zc (by decide)]
    refine ix0 _ ⟨rfl,?_⟩;rw [zc (by decide)];exact k1 (.inl rfl) H2 s2
   ·have hin:inV (V.str fm) [V.str (Str.ofString "under"),V.str (Str.ofString "over")]=true:=by rcases hf with rfl | rfl<;>decide
    have hni:fm≠"is"/\fm≠"lacks":=by rcases hf with rfl | rfl<;>exact ⟨by decide,by decide⟩
    rw [zd hin];refine ⟨rfl,?_⟩;by_cases ck:kd=kdN
    ·rw [zc (by simp [ck])]
     refine ix0 _ ⟨rfl,?_⟩;rw [zc (by simpa using hni.1)];exact k1 (.inr ck) H2 s2
    ·rw [zd (by simpa using ck)]
     have kk:=k2 (fun z=>z.elim hni.2 ck);exact ⟨J9 (by decide),fun a ha=>⟨a,f 4,.str n,some (.ref (f 5000)),rfl,Jd,T.wb.x,T.wb.xc.hd,T.wb.sa,T.wT,fun dx hdx hne=>⟨rfl,some dx,Jd,kk _ dx (s2.trans (J3v ha hdx hne).1) (J3v ha hdx hne).2⟩⟩⟩
  ·exact ⟨l,xs,ns,kds,n,rfl,hl,hF,.inr ⟨hno,k⟩⟩
def J15 (K:Frag)(f:Nat->Addr):Nat->Sp
 | 0=>fun _ _ _ _=>False
 | _+1=>J25 K f
theorem J44 (T:Txt w K mg f fd)(dp:Nat)(ih:FnOk P w K mg base (CXE P w) (5+dp) (f 21) (fd 21) ["fields","sieve"] (J15 K f dp)):FnOk P w K mg base (CXE P w) (5+dp+1) (f 21) (fd 21) ["fields","sieve"] (J15 K f (dp+1)):=by
 refine T.wu.F.okX J48 (fun vs H Q E h=>?_) (fun cdv A outer s H vs Q E hr h=>?_)
 ·obtain ⟨l,p,fm,n,rest,xs,ns,kds,rfl,_⟩:=h
  rfl
 ·obtain ⟨l,p,fm,n,rest,xs,ns,kds,rfl,hl,hF,hp,hfm,ho⟩:=h
  have nn:fm≠"not"/\fm≠"all"/\fm≠"some":=by rcases hfm with rfl | rfl | rfl<;>exact ⟨by decide,by decide,by decide⟩
  refine ⟨_,(Jc (Js (Jj JN (Jq (Jt rfl) (pvl 1) Ja (fun _ _=>rfl)) Jf (Jn _))
   (Je (Jk (J12 JD T.wu ih (hr.mono (by omega)) rfl (by decide) rfl (pal rfl (pvc 0) (pal rfl (Jq (Jt rfl) (pvl 1) Ja (fun _ _=>rfl)) Jb)))))
   Jl)
   (Jc (Js (Jj (J8V rfl) (Jq (Jt rfl) (pvl 1) Ja (fun _ _=>rfl)) (Jx (pal rfl Jf (pal rfl Jf Jb))) rfl)
   (Je (Jk (JR (Jam rfl rfl) T.yn J9p rfl (by decide) (by decide) rfl (pal rfl (J5U J4X ["inner"] ["fields","sieve"] rfl (show CompSc _ (Ji J0L) ["fields","sieve"] ["fields","sieve"] from J05 (by decide +kernel)) (J62 rfl (Jq (Jt rfl) (pvl 1) Ja (fun _ _=>rfl))) (fun _ _ _ _ _ _=>(pgl 0 (show (["inner","fields","sieve"]:List Str).Nodup by decide +kernel))) (fun _ _ _ _ _ _=>J1m) (fun _ _ _ _ _ _ TC=>(J7f TC T.wu ih (hr.mono (by omega)) rfl (by decide) rfl (pal rfl (pvc 1) (pal rfl (pvl 0) Jb))))) Jb))))
   Jl)
   (Je (Jk (J12 JD T.w5 (ok_asked_plain T) (hr.mono (by omega)) rfl (by decide) rfl (pal rfl (pvc 0) (pal rfl (pvl 1) Jb))))))),?_⟩
  walk_at "py";refine ⟨p,_,_,_,rfl,rfl,.of hp,Jh (j:=0) rfl,rfl,?_⟩;rw [zc (by simpa using nn.1)];refine ⟨p,_,_,_,rfl,rfl,.of hp,Jh (j:=0) rfl,J9 (by decide),fun q hq=>?_⟩;have u:=Same.upd_new hq (HO.tup [V.str (Str.ofString "all"),V.str (Str.ofString "some")]);have gq:upd H q (HO.tup [V.str (Str.ofString "all"),V.str (Str.ofString "some")]) q=some (.tup [V.str (Str.ofString "all"),V.str (Str.ofString "some")]):=Jd;generalize upd H q (HO.tup [V.str (Str.ofString "all"),V.str (Str.ofString "some")])=H2 at *;refine ⟨q,_,rfl,.inr (.of gq),by rfl,by decide,_,rfl,?_⟩;rw [zc zf,in2,zh (Ne.symm nn.2.1),zh (Ne.symm nn.2.2),zc (by decide)];refine ⟨l,p,fm,n,rest,xs,ns,kds,rfl,u _ _ hl,hF.mono u,u _ _ hp,hfm,?_⟩;rcases ho with ⟨j,kd,hj,hkd,k1,k2⟩ | ⟨hno,k⟩
  ·exact .inl ⟨j,kd,hj,hkd,fun z H' s'=>k1 z H' (u.trans s'),fun z=>(k2 z).mono u⟩
  ·exact .inr ⟨hno,k.mono u⟩
theorem J2d (T:Txt w K mg f fd):∀ dp:Nat,FnOk P w K mg base (CXE P w) (5+dp) (f 21) (fd 21) ["fields","sieve"] (J15 K f dp)
 | 0=>⟨fun _ _ _ _ h=>zp h,fun _ _ _ _ _ _ _ _ _ _ _ _ _ h=>zp h⟩
 | dp+1=>J44 T dp (J2d T dp)
theorem J9d:∀ c∈(Jy++JG).cps.toList,c≠45:=by decide +kernel
theorem Jb5 (h:isV c=true)(n:c≠45):c∈(Jy++JG).cps.toList:=by
 have h':=of_decide_eq_true h;rw [PySem.W.KT.app_list] at h';rcases zH.mp h' with e | e
 ·exact e
 ·rw [show J7W.cps.toList=[45] by decide] at e
  exact absurd (zv.mp e) n
theorem J84 {t:Str}(h:LFD t):J0o (.str t) (Jy++JG)=decide (t.length<=12/\45∉t.cps.toList):=by
 unfold J0o J0v;rw [Bool.eq_iff_iff];simp only [Bool.and_eq_true,decide_eq_true_eq,all_eq_true];constructor
 ·rintro ⟨_,h2,h3⟩
  exact ⟨h2,fun z=>J9d _ (h3 45 z) rfl⟩
 ·rintro ⟨h2,h3⟩
  exact ⟨h.1,h2,fun c hc=>Jb5 (h.2.2 c hc) fun z=>h3 (z ▸ hc)⟩
def vOf (ns kds:List Str)(n t:Str):Ou V:=match J2S ns kds n with
 | none=>.fld n
 | some kd=>if kd="word" then (if t.length<=12/\45∉t.cps.toList then .ok (.str t) else .knd n) else (if JX t.cps.toList=true then .ok (.int (J1c t.cps.toList)) else .knd n)
theorem Jbh (ns kds:List Str)(n t:Str):BKp ns kds "is" n (some (.str t))=(vOf ns kds n t).map fun x=>.pl "is" n (some x):=by
 unfold BKp vOf;cases J2S ns kds n with
 | none=>rfl
 | some kd =>
   dsimp only;by_cases c:kd="word"
   ·rw [zd c,zd c]
    by_cases c2:t.length<=12/\45∉t.cps.toList
    ·rw [zd c2,zd ⟨rfl,c2⟩];rfl
    ·rw [zc c2,zc fun z=>c2 z.2];rfl
   ·rw [zc c,zc c]
    by_cases c2:JX t.cps.toList=true
    ·rw [zd c2,zd c2];rfl
    ·rw [zc c2,zc c2];rfl
def TlV (f:Nat->Addr)(Q:VK)(E:XK)(H:Hp):Ou V->Prop
 | .fld n=>Rz f E H 3 n
 | .knd n=>Rz f E H 4 n
 | .ok x=>∀ H',Same H H'->Q x H'
def J3i (K:Frag)(f:Nat->Addr):Sp:=fun vs H Q E=>∃ (l:Addr) (n t:Str) (xs:List V) (ns kds:List Str),vs=[.ref l,.str n,.str t]/\H l=some (.lst xs)/\FldsK H xs ns kds/\(∀ kd∈kds,kd=J1i\/kd=kdN)/\LFD t/\TlV f Q E H (vOf ns kds n t)
theorem ok_settled_value (T:Txt w K mg f fd):FnOk P w K mg base (CXE P w) 5 (f 29) (fd 29) ["fields","name","text"] (J3i K f):=by
 refine T.w6.F.okX J0H (fun vs H Q E h=>?_) (fun cdv A outer s H vs Q E hr h=>?_)
 ·obtain ⟨l,n,t,xs,ns,kds,rfl,_⟩:=h
  rfl
 ·obtain ⟨l,n,t,xs,ns,kds,rfl,hl,hF,hks,ht,k⟩:=h
  refine ⟨_,(Jc (psl 3 J0H.nd (Jq (Jt rfl) (Jq (J1d rfl) (pvl 0) (J12 JD T.wJ (ok_field_at T) (hr.mono (by decide)) rfl (by decide) rfl (pal rfl (pvl 0) (pal rfl (pvl 1) Jb))) (fun _ _=>rfl)) Ja (fun _ _=>rfl)))
   (Jc (psl 4 J0H.nd (Jm T.wI (ok_read_value T) (hr.mono (by decide)) rfl (by decide) rfl (pal rfl (pvl 3) (pal rfl (pvl 2) Jb))))
   (Jc (Js (Jj J2Q (pvl 4) J09 (Jn _))
   (Je (J2n JD rfl T.wb.x T.wm.fn (J0u T) (hr.mono (by decide)) T.wm.b T.wb.kp rfl T.wb.m (by decide) rfl (pal rfl (pvl 1) Jb)))
   Jl)
   (Je (Jk (pvl 4)))))),?_⟩
  walk_at "dc";unfold vOf at k;cases hk:J2S ns kds n with
  | none =>
    rw [hk] at k;exact ⟨l,xs,ns,kds,n,rfl,hl,hF,.inr ⟨J2t (hF.1.trans hF.2.1.symm) hk,k⟩⟩
  | some kd =>
    rw [hk] at k;obtain ⟨j,hj,hkd⟩:=J1G hk;refine ⟨l,xs,ns,kds,n,rfl,hl,hF,.inl ⟨j,hj,fun H1 s1=>?_⟩⟩;obtain ⟨p',n',kd',e1,e2,e3,e4⟩:=hF.at (show j<xs.length by rw [<- hF.1];exact (zt.mp hj).1);obtain rfl:kd=kd':=zi (hkd.symm.trans e3);refine ⟨l,xs,_,_,rfl,rfl,.of (s1 _ _ hl),Jh e1,p',_,_,_,rfl,rfl,.of (s1 _ _ e4),Jh (j:=1) rfl,kd,t,rfl,J9 (by have:=ht.2.1;omega),fun H2 s2=>?_⟩;have s3:=s1.trans s2;have no:Rz f E H 4 n->(1<=sizeLine/\∀ a,H2 a=none->J16 K [V.ref a,V.str n] (upd H2 a (ExN a (.ref (f 4)) none)) (fun v H2=>v=.non/\∃ ed,H2 a=some (ExN a (.ref (f 4)) ed)/\E (.ref (f 4)) ed (J1n H2 a)) E0):=fun kk =>
     ⟨J9 (by decide),fun a ha=>⟨a,f 4,.str n,some (.ref (f 5000)),rfl,Jd,T.wb.x,T.wb.xc.hd,T.wb.sa,T.wT,fun dx hdx hne=>⟨rfl,some dx,Jd,kk _ dx (s3.trans (J3v ha hdx hne).1) (J3v ha hdx hne).2⟩⟩⟩
    dsimp only at k;rcases hks kd (zx hkd) with rfl | rfl
    ·rw [show decide (J1i="number")=false by decide]
     unfold J0Q;rw [zc (by decide),J84 ht];rw [zd rfl] at k;by_cases c2:t.length<=12/\45∉t.cps.toList
     ·rw [zd c2] at k
      rw [zd (zg c2)];dsimp only;rw [zc (by simp)];exact k H2 s3
     ·rw [zc c2] at k
      rw [zc (by simpa using c2)];dsimp only;rw [zd (by simp)];exact no k
    ·rw [show decide (kdN="number")=true by decide]
     unfold J0Q;rw [zd rfl];rw [zc (by decide)] at k;by_cases c2:JX t.cps.toList=true
     ·rw [zd c2] at k
      rw [zd c2];dsimp only;rw [zc (by simp)];exact k H2 s3
     ·rw [zc c2] at k
      rw [zc c2];dsimp only;rw [zd (by simp)];exact no k
theorem J5v:∀ {ss:List Rv} {i:Nat} {s:Rv},ss[i]?=some s->dep s<=J3f ss/\cnt s<=JL ss
 | [],i,s,h=>by simp at h
 | x::ss,0,s,h=>by
   obtain rfl:x=s:=by simpa using h
   simp only [J3f,JL];omega
 | x::ss,i+1,s,h=>by
   have:=J5v (ss:=ss) (i:=i) (by simpa using h);simp only [J3f,JL];omega
theorem J5E:∀ {ss:List Rv} {i:Nat} {s:Rv},Wfs ss->ss[i]?=some s->Wf s
 | [],i,s,_,h=>by simp at h
 | x::ss,0,s,w,h=>by
   obtain rfl:x=s:=by simpa using h
   rw [Wfs] at w;exact w.1
 | x::ss,i+1,s,w,h=>by
   rw [Wfs] at w;exact J5E (ss:=ss) (i:=i) w.2 (by simpa using h)
theorem J70:∀ {ss:List Rv} {i:Nat} {r:Rv},(J20 ss)[i]?=some r->∃ s,ss[i]?=some s/\r=toP s
 | [],i,r,h=>by simp [J20] at h
 | x::ss,0,r,h=>by
   rw [J20] at h;exact ⟨x,rfl,(zi h).symm⟩
 | x::ss,i+1,r,h=>by
   rw [J20] at h;exact J70 (ss:=ss) (i:=i) (by simpa using h)
theorem BKs_app {ns kds:List Str}{b:List Rv}:∀ {a us:List Rv},BKs ns kds a=.ok us->BKs ns kds (a++b)=(BKs ns kds b).map (us++·)
 | [],us,h=>by
   rw [BKs] at h;cases h;rw [nil_append];cases BKs ns kds b<;>rfl
 | x :: a,us,h=>by
   rw [BKs] at h;rw [cons_append,BKs];cases hx:BK ns kds x with
   | fld n=>rw [hx] at h;cases h
   | knd n=>rw [hx] at h;cases h
   | ok s' =>
     rw [hx] at h;dsimp only at h ⊢;cases ha:BKs ns kds a with
     | fld n=>rw [ha] at h;cases h
     | knd n=>rw [ha] at h;cases h
     | ok vs =>
       rw [ha] at h;cases h;rw [BKs_app ha];cases BKs ns kds b<;>rfl
theorem J7r {ss us:List Rv}{s:Rv}(h:BKs ns kds (ss.take i)=.ok us)(hs:ss[i]?=some s):BKs ns kds ss=(match BK ns kds s with
 | .fld n=>.fld n
 | .knd n=>.knd n
 | .ok s'=>(BKs ns kds (ss.drop (i+1))).map fun x=>us++s'::x):=by
 have hi:=(zt.mp hs).1;have e:ss=ss.take i++s::ss.drop (i+1):=by
  have:=(take_append_drop i ss).symm;rw [drop_eq_getElem_cons hi] at this;rw [show s=ss[i] from zi (hs.symm.trans (zr hi))];exact this
 conv=>lhs;rw [e]
 rw [BKs_app h,BKs];cases BK ns kds s with
 | fld n=>rfl
 | knd n=>rfl
 | ok s'=>dsimp only;cases BKs ns kds (ss.drop (i+1))<;>rfl
theorem J6i {ss us:List Rv}{s s':Rv}(h:BKs ns kds (ss.take i)=.ok us)(hs:ss[i]?=some s)(hb:BK ns kds s=.ok s'):BKs ns kds (ss.take (i+1))=.ok (us++[s']):=by
 rw [J0G hs,BKs_app h,BKs,hb,BKs];rfl
theorem BK_len {ns kds:List Str}:∀ {ss us:List Rv},BKs ns kds ss=.ok us->us.length=ss.length
 | [],us,h=>by rw [BKs] at h;cases h;rfl
 | x :: ss,us,h=>by
   rw [BKs] at h;cases hx:BK ns kds x with
   | fld n=>rw [hx] at h;cases h
   | knd n=>rw [hx] at h;cases h
   | ok s' =>
     rw [hx] at h;cases ha:BKs ns kds ss with
     | fld n=>rw [ha] at h;cases h
     | knd n=>rw [ha] at h;cases h
     | ok vs =>
       rw [ha] at h;cases h;rw [length_cons,length_cons,BK_len ha]
theorem Tl.mono {f:Nat->Addr}{E:XK}{r:Ou Rv}(s:Same H H1)(h:Tl f Q E H r):Tl f Q E H1 r:=by
 cases r with
 | fld n=>exact Rz.mono s h
 | knd n=>exact Rz.mono s h
 | ok a=>exact fun H' v s' hv=>h H' v (s.trans s') hv
def J2L (K:Frag)(f:Nat->Addr):Nat->Sp
 | 0=>fun _ _ _ _=>False
 | d+1=>fun vs H Q E=>∃ (l:Addr) (v:V) (s:Rv) (xs:List V) (ns kds:List Str),vs=[.ref l,v]/\H l=some (.lst xs)/\FldsK H xs ns kds/\(∀ kd∈kds,kd=J1i\/kd=kdN)/\Wf s/\Rx H (toP s) v/\dep s<=d+1/\cnt s<=60/\Tl f Q E H (BK ns kds s)
theorem st_settled (T:Txt w K mg f fd)(dp:Nat)(ih:FnOk P w K mg base (CXE P w) (7+dp) (f 30) (fd 30) ["fields","sieve"] (J2L K f dp)):FnOk P w K mg base (CXE P w) (7+dp+1) (f 30) (fd 30) ["fields","sieve"] (J2L K f (dp+1)):=by
 refine T.wv.F.okX J6A (fun vs H Q E h=>?_) (fun cdv A outer s H vs Q E hr h=>?_)
 ·obtain ⟨l,v,s,xs,ns,kds,rfl,_⟩:=h
  rfl
 ·obtain ⟨l,v,s,xs,ns,kds,rfl,hl,hF,hks,hG,hS,hL,hC,k⟩:=h
  refine ⟨_,(Jc (Js (Jj JN (Jq (Jt rfl) (pvl 1) Ja (fun _ _=>rfl)) Jf (Jn _))
   (Je (Jk (Jx (pal rfl Jf (pal rfl (J12 JD T.wv ih (hr.mono (by omega)) rfl (by decide) rfl (pal rfl (pvc 0) (pal rfl (Jq (Jt rfl) (pvl 1) Ja (fun _ _=>rfl)) Jb))) Jb)))))
   Jl)
   (Jc (Js (JaF (JaL T.yq T.yp rfl (by decide) (Jq (Jt rfl) (pvl 1) Ja (fun _ _=>rfl))))
   (Je (Jk (Jx (pal rfl (Jq (Jt rfl) (pvl 1) Ja (fun _ _=>rfl)) (pal rfl (J1v (J3b rfl) T.wt J2k rfl (by decide) (by decide) rfl (pal rfl (J5U J4X ["inner"] ["fields","sieve"] rfl (show CompSc _ (Ji J2l) ["fields","sieve"] ["fields","sieve"] from J05 (by decide +kernel)) (J62 rfl (Jq (Jt rfl) (pvl 1) Ja (fun _ _=>rfl))) (fun _ _ _ _ _ _=>(pgl 0 (show (["inner","fields","sieve"]:List Str).Nodup by decide +kernel))) (fun _ _ _ _ _ _=>J1m) (fun _ _ _ _ _ _ TC=>(J7f TC T.wv ih (hr.mono (by omega)) rfl (by decide) rfl (pal rfl (pvc 1) (pal rfl (pvl 0) Jb))))) Jb)) Jb)))))
   Jl)
   (Jc (Js (Jj JN (Jq (Jt rfl) (pvl 1) Ja (fun _ _=>rfl)) Jf (Jn _))
   (Je (Jk (Jx (pal rfl Jf (pal rfl (Jq (Jt rfl) (pvl 1) Ja (fun _ _=>rfl)) (pal rfl (J12 JD T.w6 (ok_settled_value T) (hr.mono (by omega)) rfl (by decide) rfl (pal rfl (pvc 0) (pal rfl (Jq (Jt rfl) (pvl 1) Ja (fun _ _=>rfl)) (pal rfl (Jq (Jt rfl) (pvl 1) Ja (fun _ _=>rfl)) Jb)))) Jb))))))
   Jl)
   (Jc (J2o (J12 JD T.wu (J2d T 1) (hr.mono (by omega)) rfl (by decide) rfl (pal rfl (pvc 0) (pal rfl (pvl 1) Jb))))
   (Je (Jk (pvl 1))))))),?_⟩
  walk_at "dc";cases s with
  | neg s =>
    simp only [toP,Rx] at hS;rw [Wf] at hG;simp only [dep] at hL;simp only [cnt] at hC;rw [BK] at k;obtain ⟨p,x,rfl,hp,hs⟩:=hS;have lp:=J2u s;obtain ⟨e,rfl⟩:∃ e,dp=e+1:=⟨dp - 1,by omega⟩;refine ⟨p,_,_,_,rfl,rfl,.of hp,Jh (j:=0) rfl,?_⟩;walk_at "dc";refine ⟨p,_,_,_,rfl,rfl,.of hp,Jh (j:=1) rfl,l,x,s,xs,ns,kds,rfl,hl,hF,hks,hG,hs,by omega,by omega,?_⟩;cases hb:BK ns kds s with
    | fld n=>rw [hb] at k;exact k
    | knd n=>rw [hb] at k;exact k
    | ok s' =>
      rw [hb] at k;exact fun H1 v1 s1 hv1=>⟨J9 (by decide),fun p2 hp2=>k _ _ (s1.new hp2 _) (by simp only [Rx];exact ⟨p2,v1,rfl,Jd,hv1.mono (Same.upd_new hp2 _).t⟩)⟩
  | many ov ss =>
    simp only [toP,Rx] at hS;rw [Wf] at hG;simp only [dep] at hL;simp only [cnt] at hC;rw [BK] at k;obtain ⟨p,q,ys,rfl,hp,hq,hs⟩:=hS;have hyl:=hs.len;rw [J40] at hyl;have hsl:=J2f ss;have nn:mw ov≠"not"/\(J5y [(Str.ofString "all",Str.ofString "&"),(Str.ofString "some",Str.ofString "|")] (mw ov)).isSome=true:=by cases ov<;>exact ⟨by decide,by decide⟩
    refine ⟨p,_,_,_,rfl,rfl,.of hp,Jh (j:=0) rfl,rfl,?_⟩;rw [zc (by simpa using nn.1)];refine ⟨p,_,_,_,rfl,rfl,.of hp,Jh (j:=0) rfl,_,rfl,?_⟩;rw [zd nn.2];refine ⟨p,_,_,_,rfl,rfl,.of hp,Jh (j:=0) rfl,p,_,_,_,rfl,rfl,.of hp,Jh (j:=1) rfl,q,rfl,⟨_,.of hq⟩,?_⟩;refine J14 (J2X (xs:=ys)) (J9 (by omega)) (fun i us H'=>Same H H'/\∃ us',BKs ns kds (ss.take i)=.ok us'/\Rxs H' us' us) ⟨Same.refl _,[],by rw [take_zero,BKs],by simp only [Rxs]⟩ (fun _ _ H' _ q'=>q'.1.seqT (.of hq)) (fun i us H' q'=>by obtain ⟨_,us',h1,h2⟩:=q';rw [h2.len,BK_len h1,zz];exact Nat.min_le_left _ _) (fun i x us H3 hx q'=>?_) (fun us H3 q' D hD=>?_)
    ·obtain ⟨t1,us',hu,hux⟩:=q'
     obtain ⟨r,hr,hrx⟩:=hs.at hx;obtain ⟨s',hs',rfl⟩:=J70 hr;have l1:=J5v hs';have l2:=J2u s';obtain ⟨e,rfl⟩:∃ e,dp=e+1:=⟨dp - 1,by omega⟩;walk_at "dc";refine ⟨l,x,s',xs,ns,kds,rfl,t1 _ _ hl,hF.mono t1,hks,J5E hG hs',hrx.mono t1.t,by omega,by omega,?_⟩;have ct:=J7r hu hs';cases hb:BK ns kds s' with
     | fld n =>
       rw [hb] at ct;rw [ct] at k;exact Rz.mono t1 k
     | knd n =>
       rw [hb] at ct;rw [ct] at k;exact Rz.mono t1 k
     | ok s2=>exact fun H4 v4 s4 hv4=>⟨⟨_,rfl⟩,t1.trans s4,us'++[s2],J6i hu hs' hb,Rxs.snoc (hux.mono s4.t) hv4⟩
    ·obtain ⟨t1,us',hu,hux⟩:=q'
     rw [hyl,zF] at hu;rw [hu] at k;have t2:=t1.new hD (HO.lst us);have hu2:=hux.mono (Same.upd_new hD (HO.lst us)).t;have gD:upd H3 D (HO.lst us) D=some (.lst us):=Jd;generalize upd H3 D (HO.lst us)=H4 at *;refine ⟨us,.inl ⟨.of gD,fun q2 hq2=>⟨J9 (by decide),fun p2 hp2=>k _ _ ((t2.new hq2 _).new hp2 _) ?_⟩⟩⟩;simp only [Rx];exact ⟨p2,q2,us,rfl,Jd,Same.upd_new hp2 _ _ _ Jd,(hu2.mono (Same.upd_new hq2 _).t).mono (Same.upd_new hp2 _).t⟩
  | pl w' n x =>
    simp only [toP,Rx] at hS;rw [Wf] at hG;rw [BK] at k;obtain ⟨p,rfl,hp⟩:=hS;obtain ⟨hn,hx⟩:=hG;have nn:w'≠"not"/\(J5y [(Str.ofString "all",Str.ofString "&"),(Str.ofString "some",Str.ofString "|")] w').isSome≠true:=by
     rcases hx with ⟨rfl,_⟩ | ⟨rfl,_⟩ | ⟨rfl | rfl,_⟩<;>exact ⟨by decide,by decide⟩
    refine ⟨p,_,_,_,rfl,rfl,.of hp,Jh (j:=0) rfl,rfl,?_⟩;rw [zc (by simpa using nn.1)];refine ⟨p,_,_,_,rfl,rfl,.of hp,Jh (j:=0) rfl,_,rfl,?_⟩;rw [zc nn.2];refine ⟨p,_,_,_,rfl,rfl,.of hp,Jh (j:=0) rfl,rfl,?_⟩;rcases hx with ⟨rfl,rfl⟩ | ⟨rfl,t,rfl,ht⟩ | ⟨hw,t,rfl,ht,hnum⟩
    ·rw [zc (by decide)]
     refine ⟨l,p,_,n,_,xs,ns,kds,rfl,hl,hF,hp,.inl rfl,?_⟩;unfold BKp at k;cases hk:J2S ns kds n with
     | none =>
       rw [hk] at k;exact .inr ⟨J2t (hF.1.trans hF.2.1.symm) hk,k⟩
     | some kd =>
       rw [hk] at k;obtain ⟨j,hj,hkd⟩:=J1G hk;exact .inl ⟨j,kd,hj,hkd,fun _ H' s'=>k H' _ s' (by simp only [Rx];exact ⟨p,rfl,s' _ _ hp⟩),fun z=>absurd (.inl rfl) z⟩
    ·rw [zd (by decide)]
     simp only [J88,if_true,Option.toList] at hp;refine ⟨p,_,_,_,rfl,rfl,.of hp,Jh (j:=1) rfl,p,_,_,_,rfl,rfl,.of hp,Jh (j:=1) rfl,p,_,_,_,rfl,rfl,.of hp,Jh (j:=2) rfl,l,n,t,xs,ns,kds,rfl,hl,hF,hks,ht,?_⟩;rw [Jbh] at k;cases hv:vOf ns kds n t with
     | fld n'=>rw [hv] at k;exact k
     | knd n'=>rw [hv] at k;exact k
     | ok y =>
       rw [hv] at k;exact fun H1 s1=>⟨J9 (by decide),fun p2 hp2=>k _ _ (s1.new hp2 _) (by simp only [Rx];exact ⟨p2,rfl,Jd⟩)⟩
    ·have nis:w'≠"is"/\w'≠"lacks":=by rcases hw with rfl | rfl<;>exact ⟨by decide,by decide⟩
     rw [zc (by simpa using nis.1)];refine ⟨l,p,_,n,_,xs,ns,kds,rfl,hl,hF,hp,.inr hw,?_⟩;unfold BKp at k;cases hk:J2S ns kds n with
     | none =>
       rw [hk] at k;exact .inr ⟨J2t (hF.1.trans hF.2.1.symm) hk,k⟩
     | some kd =>
       rw [hk] at k;obtain ⟨j,hj,hkd⟩:=J1G hk;dsimp only at k;refine .inl ⟨j,kd,hj,hkd,fun z H' s'=>?_,fun z=>?_⟩
       ·rw [zc (by rw [z.resolve_left nis.2];decide),zd hnum] at k
        refine k H' _ s' ?_;simp only [Rx];refine ⟨p,rfl,?_⟩;rw [s' _ _ hp];simp only [J88,zc nis.1]
       ·have hw2:=(hks kd (zx hkd)).resolve_right fun y=>z (.inr y)
        rw [zd hw2,zc fun y=>nis.1 y.1] at k;exact k
theorem J4f (T:Txt w K mg f fd):∀ dp:Nat,FnOk P w K mg base (CXE P w) (7+dp) (f 30) (fd 30) ["fields","sieve"] (J2L K f dp)
 | 0=>⟨fun _ _ _ _ h=>zp h,fun _ _ _ _ _ _ _ _ _ _ _ _ _ h=>zp h⟩
 | dp+1=>st_settled T dp (J4f T dp)
def J4A (K:Frag)(f:Nat->Addr):Sp:=fun vs H Q E=>∃ (l:Addr) (z:Str) (xs:List V) (ns kds:List Str),vs=[.ref l,.str z]/\z.length<=1000000/\H l=some (.lst xs)/\FldsK H xs ns kds/\(∀ kd∈kds,kd=J1i\/kd=kdN) /\
 (∀ s,Rd 12 z.cps.toList=some (s,[])->cnt s<=60->Tl f Q E H (BK ns kds s))/\((∀ s,Rd 12 z.cps.toList=some (s,[])->60<cnt s)->∀ H',Same H H'->E (.ref (f 2)) none H')
theorem ok_read_sieve (T:Txt w K mg f fd):FnOk P w K mg base (CXE P w) 34 (f 31) (fd 31) ["fields","text"] (J4A K f):=by
 refine T.w8.F.okX J1r (fun vs H Q E h=>?_) (fun cdv A outer s H vs Q E hr h=>?_)
 ·obtain ⟨l,z,xs,ns,kds,rfl,_⟩:=h
  rfl
 ·obtain ⟨l,z,xs,ns,kds,rfl,hz,hl,hF,hks,k,ke⟩:=h
  refine ⟨_,(Jc (psl 2 J1r.nd (J9J T.wa.mkr (J2z T) (hr.mono (by decide)) rfl T.wa.m T.yg.b .nil J1X (pal rfl (pvl 1) Jb) (by decide) rfl rfl))
   (Jc (psl 3 J1r.nd (J2b JD (pvl 2) T.wa.cls T.wD (J0k T 13) (hr.mono (by decide)) T.wr.b rfl (pal rfl Ja Jb) rfl))
   (Jc (Js (Jj J5V (J1a (pvl 2) rfl) (JR Jz T.wc JY rfl (by decide) (by decide) rfl (pal rfl (pvl 1) Jb)) (Jn _))
   (Je (J19 JD rfl T.wd.x rfl T.wd.m (by decide) rfl (pal rfl Jf Jb)))
   Jl)
   (Je (Jk (J12 JD T.wv (J4f T 13) (hr.mono (by decide)) rfl (by decide) rfl (pal rfl (pvl 0) (pal rfl (pvl 3) Jb)))))))),?_⟩
  walk_at "dc";unfold Jab;walk_at "dc";intro o dx ho hdx hne;refine ⟨o,dx,z,rfl,Jd,rfl,?_⟩;rw [J0K];have hn1:upd H dx (.own o) o=none:=by rw [Jo (Ne.symm hne)];exact ho
  have s1:Same H (upd (upd H dx (.own o)) o (.ins (f 28) dx (JC z 0 0))):=(Same.upd_new hdx _).new hn1 _;have g1:upd (upd H dx (.own o)) o (.ins (f 28) dx (JC z 0 0)) o=some (.ins (f 28) dx (JC z (0:Nat) (0:Nat))):=Jd;generalize upd (upd H dx (.own o)) o (.ins (f 28) dx (JC z 0 0))=H1 at *;have SM:∀ H2,Frm o H1 H2->Same H H2:=fun H2 F2 q u e=>F2 q u (fun z=>by rw [z,ho] at e;cases e) (s1 _ _ e);refine ⟨_,_,g1,rfl,o,dx,z,0,0,1,z.cps.toList,rfl,g1,⟨zn _,by rw [drop_zero]⟩,hz,by decide,by decide,by decide,fun s rest H2 v a2 hs hcn F2 g2 hA2 hv=>?_,fun rest H2 v a2 b2 hs F2 g2 hA2 hL=>?_,fun H2 hno F2=>ke (fun s hs=>by have:=hno s [] hs;omega) H2 (SM H2 F2)⟩
  ·have S2:=SM H2 F2
   have hl2:=hA2.len;refine ⟨_,_,_,g2,T.wa.cls,T.wj,.int (a2:Nat),rfl,J9 (by omega),_,rfl,?_⟩;have ok:=Rd_ok hs;cases rest with
   | nil =>
     rw [zc (by simp at hl2 ⊢;omega)];exact ⟨l,v,s,xs,ns,kds,rfl,S2 _ _ hl,hF.mono S2,hks,ok.1,hv,Nat.le_succ_of_le ok.2,by omega,Tl.mono S2 (k s hs (by omega))⟩
   | cons c r =>
     rw [length_cons] at hl2;rw [zd (by simp;omega)];exact ⟨J9 (by decide),ke (fun s' hs'=>by rw [hs] at hs';cases hs') H2 S2⟩
  ·have hl2:=hA2.len
   refine ⟨_,_,_,g2,T.wa.cls,T.wj,.int (a2:Nat),rfl,J9 (by omega),_,rfl,?_⟩;obtain ⟨c,hc,_⟩:=hL;cases rest with
   | nil=>cases hc
   | cons c r =>
     rw [length_cons] at hl2;rw [zd (by simp;omega)];exact ⟨J9 (by decide),ke (fun s' hs'=>by rw [hs] at hs';cases hs') H2 (SM H2 F2)⟩
theorem chars_reps {K:Frag}{H:Hp}:∀ fs:List Nat,(∀ c∈fs,c<1114112)->Reps K H (fs.map fun c=>.str ⟨#[c]⟩) (fs.map sgn)/\PyData.canLayAll0 (fs.map fun c=>.str ⟨#[c]⟩)=true/\PyData.depthAll (fs.map fun c=>.str ⟨#[c]⟩)=0
 | [],_=>by simp [Reps,PyData.canLayAll0,PyData.depthAll]
 | c :: fs,h=>by
   obtain ⟨r1,r2,r3⟩:=chars_reps (K:=K) (H:=H) fs fun x hx=>h x (zA _ hx);refine ⟨?_,?_,?_⟩
   ·simp only [zD,Reps]
    exact ⟨_,_,rfl,by unfold sgn;simp [Rep],r1⟩
   ·have:PyData.strOk ⟨#[c]⟩=true:=J1y fun x hx=>by
     have e:x=c:=by simpa using hx
     rw [e];exact h c zB
    simp [PyData.canLayAll0,PyData.canLay0,r2,this]
   ·simp [PyData.depthAll,PyData.depth,r3]
theorem Jbs {K:Frag}{a b:Addr}{fs:List Nat}(h:∀ c∈fs,c<1114112)(ha:H a=some (.lst (fs.map sgn)))(hb:H b=some (.lst []))(q:Q (.bl (decide (fs≠[]))) H):J8B K true (.ref a) (.ref b) H Q:=by
 obtain ⟨r1,r2,r3⟩:=chars_reps (K:=K) (H:=H) fs h;refine ⟨.list (fs.map fun c=>.str ⟨#[c]⟩),.list [],by rw [Rep];exact ⟨a,_,rfl,.of ha,r1⟩,by rw [Rep];exact ⟨b,_,rfl,.of hb,by simp [Reps]⟩,?_,by decide,?_⟩
 ·unfold SeqAt.shaped
  simp only [PyData.canLay0,PyData.depth,r2,Bool.true_and];exact zg (by omega)
 ·cases fs with
  | nil=>simpa [PyData.eqv,PyData.eqvAll] using q
  | cons c fs=>simpa [PyData.eqv,PyData.eqvAll] using q
theorem Jb7 (l:List Nat)(c:Nat)(s:Str)(hs:s.cps.toList=[c]):decide ((⟨(J03 l none (some 1)).toArray⟩:Str)=s)=decide (l.head?=some c):=by
 rw [decide_eq_decide,J01,show (1:Int)=((1:Nat):Int) from rfl,J4t,hs];show l.take 1=[c]↔_;cases l with
 | nil=>simp
 | cons a r=>simp
def J5L (K:Frag):Sp:=fun vs H Q _=>∃ z,vs=[.str z]/\LFD z/\∀ H',Same H H'->Q (J0Q true z) H'
theorem ok_l_number (T:Txt w K mg f fd):FnOk P w K mg base CX0 1 (f 41) (fd 41) ["_law_text_here"] (J5L K):=by
 walk_at "ok wO J26"
 ·obtain ⟨z,rfl,_⟩:=h
  rfl
 ·obtain ⟨z,rfl,hz,k⟩:=h
  refine ⟨_,(Jc (psl 1 J26.nd (pvl 0))
   (Jc (Js (Jj JN (JA JU (pvl 0) J0a (Jv Ja)) Jf (Jn _))
   (Je (psl 1 J26.nd (JA JU (pvl 0) (Jv Ja) J0a)))
   Jl)
   (Jc (Js (PW.pt (J1D (J0t (J29 J1E J1E Ja (JR Jz T.wc JY rfl (by decide) (by decide) rfl (pal rfl (pvl 1) Jb)) Ja)) (J1u (Jj (Jal rfl hr.units) (J2q ["_law_sign"] ["_law_text_here","_law_figures"] rfl (show CompSc _ (Ji J1P) ["_law_text_here","_law_figures"] ["_law_text_here","_law_figures"] from J05 (by decide +kernel)) (J8G (pvl 1)) (fun _ _ _ _ _=>(pgl 0 (show (["_law_sign","_law_text_here","_law_figures"]:List Str).Nodup by decide +kernel))) (fun _ _ _ _ _=>(J7a (Jj J1S (pvl 0) Jf rfl))) (fun _ _ _ _ _=>(pvl 0))) (J02 Jb) (Jn _)))))
   (Je (Jk J09))
   Jl)
   (Jc (Js (PW.pt (J0Z (Jj JN (Jq J2h (pvl 1) Ja (fun _ _=>rfl)) Jf (Jn _)) (J0z (Jj J2c (pvl 0) Jf (Jn _)))))
   (Je (Jk J09))
   Jl)
   (Je (Jk (J1v J2I T.wV J6W rfl (by decide) (by decide) rfl (pal rfl (pvl 0) Jb)))))))),?_⟩
  generalize hB:J1f (J2Y (tOr _ _) _ _) _=B;walk_at "dc";have hzl:=hz.2.1;have vlt:∀ c∈z.cps.toList,c<1114112:=fun c hc=>by
   have h':=of_decide_eq_true (hz.2.2 c hc)
   revert h'
   have:∀ c∈(Jy++JG++J7W).cps.toList,c<1114112:=by decide +kernel
   exact this c
  have er:J0Q true z=if JX z.cps.toList then .int (J1c z.cps.toList) else .non:=rfl
  rw [er] at k
  have core : ∀ fz:Str,fz.cps.toList=J1e z.cps.toList->fz.length<=61->B { nx:=fun x H'=>Q V.non H',rt:=Q } [some (V.str z),some (V.str fz)] H:=by
   intro fz ef hf;have hl:fz.cps.toList.length=fz.length:=by simp [Str.length]
   have fsub:∀ c∈fz.cps.toList,c∈z.cps.toList:=fun c hc=>by
    rw [ef] at hc;unfold J1e at hc
    split at hc
    ·exact mem_of_mem_tail hc
    ·exact hc
   have eo:JX z.cps.toList=(decide (1<=fz.length)&&(decide (fz.length<=60)&&(fz.cps.toList.all J2i&&(!decide (fz.cps.toList.head?=some 48)||decide (z.cps.toList=[48]))))):=by
    unfold JX;rw [<- ef,hl]
   have e0:decide (z=Str.ofString "0")=decide (z.cps.toList=[48]):=by rw [decide_eq_decide,J01];exact Iff.rfl
   subst hB;walk_at "dc";refine ⟨J9 (by omega),?_⟩;by_cases h1:1<=fz.length
   ·rw [zd (zg (by omega))]
    by_cases h2:fz.length<=60
    ·rw [zc (by simp;omega)]
     refine comp_of (as:=fz.cps.toList) (g:=sgn) J5G (by rw [zq];exact J9 (by show fz.length<=_;omega)) (fun _ _=>trivial) (fun c=>!decide (c∈JG.cps.toList)) sgn (fun c H1 Q _ _ q=>?_) (fun c H1 Q _ _ _ q=>?_) (fun H' s1 D hD=>?_)
     ·walk_at "dc"
      unfold sgn;walk_at "dc";rw [J1U];exact q H1 (Same.refl _)
     ·walk_at "dc"
      exact q H1 (Same.refl _)
     ·refine ⟨J9 (by decide),fun p hp=>Jbs (fs:=fz.cps.toList.filter fun c=>!decide (c∈JG.cps.toList)) (fun c hc=>vlt c (fsub c (mem_filter.mp hc).1)) ((Same.upd_new hp _) _ _ Jd) Jd ⟨_,rfl,?_⟩⟩
      have s2:=(s1.new hD (HO.lst ((fz.cps.toList.filter fun c=>!decide (c∈JG.cps.toList)).map sgn))).trans (Same.upd_new hp (HO.lst []));generalize upd _ p (HO.lst [])=H3 at *;have ea:(fz.cps.toList.filter fun c=>!decide (c∈JG.cps.toList))=[]↔fz.cps.toList.all J2i=true:=by
       rw [filter_eq_nil_iff,all_eq_true];simp only [Bool.not_eq_true',decide_eq_false_iff_not,Classical.not_not];constructor
       ·intro h c hc
        rw [<- J3Y];exact zg (h c hc)
       ·intro h c hc
        have:=h c hc;rw [<- J3Y] at this;exact of_decide_eq_true this
      by_cases ha:fz.cps.toList.all J2i=true
      ·rw [zc (by simp only [decide_eq_true_eq,ne_eq,Classical.not_not];exact ea.mpr ha)]
       refine J3D (J9 (by omega)) (by decide) (by omega) fun c hc=>?_;have hc':fz.cps.toList.head?=some c:=by rw [List.head?_eq_getElem?];exact hc
       have hn:JX z.cps.toList=(!decide (some c=some 48)||decide (z.cps.toList=[48])):=by rw [eo,ha,zg h1,zg h2,hc'];rfl
       have fin:JX z.cps.toList=true->∃ x,intText? z=some x/\z.length<=640/\Q (V.int x) H3:=fun hn'=>by
        obtain ⟨i1,i2⟩:=J4m hn';have hk:=k H3 s2;rw [zd hn'] at hk;exact ⟨_,i1,by omega,hk⟩
       refine ⟨rfl,?_⟩;by_cases c48:c=48
       ·subst c48
        rw [zd (by unfold sgn;decide),e0];by_cases z0:z.cps.toList=[48]
        ·rw [zc (by simp [z0])]
         exact fin (by rw [hn];simp [z0])
        ·rw [zd (by simp only [z0];decide)]
         have hk:=k H3 s2;rw [zc (by rw [hn];simp [z0])] at hk;exact hk
       ·rw [zc (by
         unfold sgn;rw [decide_eq_true_iff];intro z;injection z with z
         have e1:[c]=[48]:=J01.mp z;exact c48 (by simpa using e1))]
        exact fin (by rw [hn];simp [c48])
      ·rw [zd (by simp only [decide_eq_true_eq,ne_eq];exact fun z=>ha (ea.mp z))]
       have hk:=k H3 s2;rw [zc (by rw [eo];simp [ha])] at hk;exact hk
    ·rw [zd (by simp;omega)]
     have hk:=k H (Same.refl _);rw [zc (by rw [eo];simp;omega)] at hk;exact hk
   ·rw [zc (by simp;omega)]
    have hk:=k H (Same.refl _);rw [zc (by rw [eo];simp;omega)] at hk;exact hk
  refine ⟨J9 (by omega),?_⟩;rw [Jb7 _ 45 _ (by decide)];by_cases h0:z.cps.toList.head?=some 45
  ·rw [zd (zg h0)]
   have ec:J03 z.cps.toList (some 1) none=z.cps.toList.tail:=by rw [show (1:Int)=((1:Nat):Int) from rfl,J6c,drop_one]
   refine ⟨J9 (by omega),?_⟩;refine core ⟨(J03 z.cps.toList (some 1) none).toArray⟩ ?_ ?_
   ·show (J03 z.cps.toList (some 1) none).toArray.toList=_
    rw [ec];unfold J1e;rw [zd h0]
   ·show (J03 z.cps.toList (some 1) none).toArray.size<=_
    rw [zw];exact zo (J4u _ _ _) (by rw [zq];exact hzl)
  ·rw [zc (by simpa using h0)]
   exact core z (by unfold J1e;rw [zc h0]) hzl
def J8k (K:Frag):Sp:=fun vs H Q _=>∃ (z g:Str) (a:Nat) (cs:List Nat) (p:Nat->Bool),vs=[.str z,.int a,.str g]/\z.length<=1000000/\((At z a cs/\(∀ c,p c=decide (c∈g.cps.toList))/\Q (.int (a+(cs.takeWhile p).length:Nat)) H)\/(z.length<=a/\Q (.int a) H))
theorem ok_l_run (T:Txt w K mg f fd):FnOk P w K mg base CX0 1 (f 42) (fd 42) ["_law_text_here","_law_at_here","_law_signs"] (J8k K):=by
 walk_at "ok wP J5O"
 ·obtain ⟨z,g,a,cs,p,rfl,_⟩:=h
  rfl
 ·obtain ⟨z,g,a,cs,p,rfl,hz,k⟩:=h
  refine ⟨_,(Jc (J33 PassesOwn.never (PW.pt (J0Z (Jj J5V (pvl 1) (JR Jz T.wc JY rfl (by decide) (by decide) rfl (pal rfl (pvl 0) Jb)) (Jn _)) (J0z (Jj J2s (Jq J2h (pvl 0) (pvl 1) (fun _ _=>rfl)) (pvl 2) rfl))))
   (Je (psl 1 J5O.nd (Jg JE (pvl 1) Ja))))
   (Je (Jk (pvl 1)))),?_⟩
  walk_at "dc";rcases k with ⟨hA,hp,k⟩ | ⟨ha,k⟩
  ·have hl:=hA.len
   have hw:=congrArg List.length (takeWhile_append_dropWhile (p:=p) (l:=cs));rw [zy] at hw;have hA2:=hA.cut p;refine J23 (fun m σ H'=>∃ i:Nat,i<=(cs.takeWhile p).length/\m=(cs.takeWhile p).length - i/\σ=[some (V.str z),some (V.int (a+i:Nat)),some (V.str g)]/\H'=H) ⟨_,0,zn _,rfl,rfl,rfl⟩ ?_;rintro m σ H' ⟨i,hi,rfl,rfl,rfl⟩;walk_at "dc";refine ⟨J9 (by omega),?_⟩;by_cases hc:i<(cs.takeWhile p).length
   ·rw [zd (zg (by omega))]
    have hc1:z.cps.toList[a+i]?=some (cs.takeWhile p)[i]:=by rw [hA2.get,zM hc,zr hc]
    refine ⟨z,(a+i:Nat),(cs.takeWhile p)[i],rfl,rfl,J9 (by omega),Jh hc1,⟨#[(cs.takeWhile p)[i]]⟩,rfl,?_⟩;rw [J1U,zd (by rw [<- hp];exact J3G (getElem_mem hc))];refine WGo.of ?_;walk_at "dc";exact ⟨(cs.takeWhile p).length - (i+1),by omega,i+1,by omega,rfl,by rw [show ((a+i:Nat):Int)+1=((a+(i+1):Nat):Int) by omega]⟩
   ·obtain rfl:i=(cs.takeWhile p).length:=by omega
    cases hr:cs.dropWhile p with
    | nil =>
      rw [hr] at hw;rw [zc (by simp at hw ⊢;omega)];exact k
    | cons c t =>
      rw [hr,length_cons] at hw;rw [zd (zg (by omega))];have hc1:z.cps.toList[a+(cs.takeWhile p).length]?=some c:=by rw [hA2.get,zL (ze _),Nat.sub_self,hr];rfl
      refine ⟨z,(a+(cs.takeWhile p).length:Nat),c,rfl,rfl,J9 (by omega),Jh hc1,⟨#[c]⟩,rfl,?_⟩;have hcf:=J3e (p:=p) (l:=cs) (c:=c) (by rw [hr];rfl);rw [J1U,zc (by rw [<- hp,hcf];decide)];exact k
  ·refine J23 (fun m σ H'=>σ=[some (V.str z),some (V.int a),some (V.str g)]/\H'=H) ⟨0,rfl,rfl⟩ ?_
   rintro m σ H' ⟨rfl,rfl⟩;walk_at "dc";refine ⟨J9 (by omega),?_⟩;rw [zc (by simp;omega)];exact k
theorem J5w (xs:List Nat)(a b:Nat):J03 xs (some (a:Int)) (some (b:Int))=(xs.drop a).take (b - a):=by
 unfold J03;rw [HT.sIx_nat,HT.sIx_nat];by_cases ha:a<=xs.length
 ·rw [Nat.min_eq_left ha]
  by_cases hb:b<=xs.length
  ·rw [Nat.min_eq_left hb]
  ·rw [Nat.min_eq_right (by omega),take_of_length_le (by rw [length_drop];exact ze _),take_of_length_le (by rw [length_drop];omega)]
 ·rw [Nat.min_eq_right (show xs.length<=a by omega),drop_of_length_le (ze _),drop_of_length_le (show xs.length<=a by omega),take_nil,take_nil]
theorem J55 {p:Nat->Bool}:∀ l:List Nat,l.take (l.takeWhile p).length=l.takeWhile p
 | []=>rfl
 | x::l=>by
   rw [takeWhile_cons]
   split
   ·rw [length_cons,take_succ_cons,J55 l]
   ·rfl
def J9s (H:Hp)(z:Str):Option (Rv×List Nat)->V->Prop
 | none,v=>v=.non
 | some (s,rest),v=>∃ (p:Addr) (x:V) (a':Nat),v=.ref p/\H p=some (.tup [x,.int a'])/\At z a' rest/\Rx H s x
theorem J7z (c:Nat):isV c=decide (c∈(Jy++Str.ofString "0123456789-").cps.toList):=by
 unfold isV;rw [show (Jy++JG++J7W).cps.toList=(Jy++Str.ofString "0123456789-").cps.toList by decide +kernel]
def J4B (K:Frag):Sp:=fun vs H Q _=>∃ (z:Str) (a:Nat) (cs:List Nat),vs=[.str z,.int a]/\At z a cs/\z.length<=1000000/\∀ H' v,Same H H'->J9s H' z (Rp cs) v->Q v H'
theorem ok_l_plain_at (T:Txt w K mg f fd):FnOk P w K mg base CX0 2 (f 43) (fd 43) ["_law_text_here","_law_at_here"] (J4B K):=by
 walk_at "ok yb J04"
 ·obtain ⟨z,a,cs,rfl,_⟩:=h
  rfl
 ·obtain ⟨z,a,cs,rfl,hA,hz,k⟩:=h
  refine ⟨_,(Jc (psl 2 J04.nd Jf)
   (Jc (psl 3 J04.nd (Jm T.wP (ok_l_run T) (hr.mono (by decide)) rfl (by decide) rfl (pal rfl (pvl 0) (pal rfl (pvl 1) (pal rfl (pvl 2) Jb)))))
   (Jc (psl 4 J04.nd (JA JU (pvl 0) (Jv (pvl 3)) (Jv (Jg JE (pvl 3) Ja))))
   (Jc (psl 5 J04.nd (Jm T.wP (ok_l_run T) (hr.mono (by decide)) rfl (by decide) rfl (pal rfl (pvl 0) (pal rfl (Jg JE (pvl 3) Ja) (pal rfl (Jg Jp (pvl 2) Jf) Jb)))))
   (Jc (psl 6 J04.nd (JA JU (pvl 0) (Jv (Jg JE (pvl 3) Ja)) (Jv (pvl 5))))
   (Jc (Js (PW.pt (J1D (J0t (J29 J1E J1E Ja (Jg J1w (pvl 3) (pvl 1)) Ja)) (J1D (Jj JN (pvl 4) Jf (Jn _)) (J1u (Jj J1S (pvl 4) Jf rfl)))))
   (Je (Jk J09))
   Jl)
   (Jc (Js (Jj JN (pvl 4) Jf (Jn _))
   (Je (Jk (Jx (pal rfl (Jx (pal rfl Jf (pal rfl (JA JU (pvl 0) (Jv (pvl 1)) (Jv (pvl 3))) Jb))) (pal rfl (Jg JE (pvl 3) Ja) Jb)))))
   Jl)
   (Jc (Js (PW.pt (J1D (J0t (J29 J1E J1E Ja (JR Jz T.wc JY rfl (by decide) (by decide) rfl (pal rfl (pvl 6) Jb)) Ja)) (J1u (PW.pt (J0Z (Jj J2c (pvl 4) Jf (Jn _)) (J0z (Jj J2Q (Jm T.wO (ok_l_number T) (hr.mono (by decide)) rfl (by decide) rfl (pal rfl (pvl 6) Jb)) J09 (Jn _))))))))
   (Je (Jk J09))
   Jl)
   (Je (Jk (Jx (pal rfl (Jx (pal rfl (J0N (J2H hr) (J36 (JZ Jf Jf (JZ Jf Jf (JZ Jf Jf J34))) rfl rfl (cons_ne_nil _ _) (by show 3<=15;decide)) (pvl 4) (fun _ _=>rfl)) (pal rfl (JA JU (pvl 0) (Jv (pvl 1)) (Jv (pvl 3))) (pal rfl (pvl 6) Jb)))) (pal rfl (pvl 5) Jb))))))))))))),?_⟩
  generalize hB:J1f (J2Y (tOr _ _) _ _) _=B;walk_at "dc";have hl:=hA.len;have hw:=congrArg List.length (takeWhile_append_dropWhile (p:=isL) (l:=cs));rw [zy] at hw;have hA1:=(hA.cut isL).step;refine ⟨z,_,a,cs,isL,rfl,hz,.inl ⟨hA,fun c=>rfl,?_⟩⟩;generalize hn':(cs.takeWhile isL).length=nl at *;have e1:((a+nl:Nat):Int)+1=((a+nl+1:Nat):Int):=by omega
  refine ⟨_,rfl,_,rfl,J9 (by omega),?_⟩;rw [e1,J5w,show a+nl+1 - (a+nl)=1 by omega,hA1.cs];refine ⟨_,rfl,J9 (by decide),?_⟩;rw [e1];cases hd:cs.dropWhile isL with
  | nil =>
    have hRp:Rp cs=none:=by
     unfold Rp;rw [hd]
     split<;>rfl
    rw [hRp] at k;have kn:Q .non H:=k H .non (Same.refl _) rfl;rw [hd] at hA1 hw;have hl1:=hA1.len;refine ⟨z,_,a+nl+1,[],isV,rfl,hz,.inr ⟨by simp at hl1;omega,_,rfl,_,rfl,J9 (by omega),?_⟩⟩;generalize J03 z.cps.toList _ _=vl;generalize hB4:J1f (J2Y (J3H _) _ _) _=B4 at hB;subst hB;walk_at "dc"
    split
    ·split
     ·exact kn
     ·exact kn
    ·exact kn
  | cons c r =>
    rw [hd] at hA1 hw;have hA2:=hA1.one;have hA3:=(hA2.cut isV).step;have hl2:=hA2.len;have hw2:=congrArg List.length (takeWhile_append_dropWhile (p:=isV) (l:=r));rw [zy] at hw2;refine ⟨z,_,a+nl+1,r,isV,rfl,hz,.inl ⟨hA2,J7z,_,rfl,_,rfl,J9 (by omega),?_⟩⟩;rw [e1,J5w,Nat.add_sub_cancel_left,hA2.cs,J55];generalize hB4:J1f (J2Y (tOr _ _) _ _) (J56 (J7v _))=B4 at hB;subst hB;have kn:Rp cs=none->Q .non H:=fun e=>k H .non (Same.refl _) (by rw [e];rfl);have esg:(⟨(List.take 1 (c::r)).toArray⟩:Str)=⟨#[c]⟩:=rfl;have enm:(⟨(J03 z.cps.toList (some (a:Int)) (some ((a+nl:Nat):Int))).toArray⟩:Str)=sOf (cs.takeWhile isL):=by
     rw [J5w,Nat.add_sub_cancel_left,hA.cs,<- hn',J55];rfl
    have sE:∀ (y:Str) (m:Nat),y.cps.toList=[m]->decide ((⟨#[c]⟩:Str)=y)=decide (c=m):=fun y m hy=>by
     rw [decide_eq_decide,J01,hy];show [c]=[m]↔_;simp
    rw [esg];walk_at "dc";rw [J1U,enm,sE (Str.ofString "?") 63 (by decide)];have hRp:(1<=nl/\nl<=12)->Rp cs=Rt (sOf (cs.takeWhile isL)) (c::r):=fun h=>by
     unfold Rp;rw [hn',zd h,hd]
    by_cases h1:(1:Int)<=((a+nl:Nat):Int) - (a:Int)
    ·rw [zd (zg h1)]
     by_cases h2:((a+nl:Nat):Int) - (a:Int)<=12
     ·rw [zc (by rw [zg h2];decide)]
      have hRp:=hRp (by omega);have ne:decide ((⟨#[c]⟩:Str)=Str.ofString "")=false:=zh fun z=>by
       have:=congrArg Str.length z
       revert this
       show (1:Nat)=_->False;decide
      rw [ne,zc (by decide)];have em4:(Str.ofString "=<>?").cps.toList=[61,60,62,63]:=by decide
      by_cases hm:c∈([61,60,62,63]:List Nat)
      ·rw [em4,zc (by rw [zg hm];decide)]
       by_cases c63:c=63
       ·subst c63
        rw [zd (by decide)];rw [Rt,zd rfl] at hRp;refine ⟨J9 (by omega),J9 (by decide),fun p hp=>⟨J9 (by decide),fun q hq=>k _ _ ((Same.upd_new hp _).new hq _) ?_⟩⟩;rw [hRp];refine ⟨q,V.ref p,a+nl+1,rfl,by rw [Jd,e1],hA2,?_⟩;simp only [Rx];exact ⟨p,rfl,(Same.upd_new hq _) _ _ Jd⟩
       ·rw [zc (by rw [zh c63];decide)]
        have em:c=61\/c=60\/c=62:=by
         simp only [zC,not_mem_nil,or_false] at hm;omega
        rw [Rt,zc c63,zd em] at hRp;have evl:(⟨(r.takeWhile isV).toArray⟩:Str)=sOf (r.takeWhile isV):=rfl;have lvl:=J1l (r.takeWhile isV);rw [evl];generalize hB5:J56 (J7v _)=B5 at hB4;have fin:∀ H1,Same H H1->(1<=(r.takeWhile isV).length/\(r.takeWhile isV).length<=61/\(c=61\/JX (r.takeWhile isV)=true))->B5 { nx:=fun x H'=>Q V.non H',rt:=Q } [some (V.str z),some (V.int ↑a),some (V.str (Str.ofString "abcdefghijklmnopqrstuvwxyz")),some (V.int ((a+nl:Nat):Int)),some (V.str ⟨#[c]⟩),some (V.int ((a+nl+1+(r.takeWhile isV).length:Nat):Int)),some (V.str (sOf (r.takeWhile isV)))] H1:=by
         intro H1 s1 hv;rw [zd hv] at hRp;subst hB5;walk_at "dc";rw [enm];refine fun pd hpd=>⟨Jd,[(.inr "=",.str "is"),(.inr "<",.str "under"),(.inr ">",.str "over")],rfl,(by show 3<=15;decide),?_⟩;rw [J0K];have u2:=Same.upd_new hpd (HO.dK (JK [] [(.inr "=",.str "is"),(.inr "<",.str "under"),(.inr ">",.str "over")]));have gd:upd H1 pd (HO.dK (JK [] [(.inr "=",.str "is"),(.inr "<",.str "under"),(.inr ">",.str "over")])) pd=some (HO.dK (JK [] [(.inr "=",.str "is"),(.inr "<",.str "under"),(.inr ">",.str "over")])):=Jd;generalize upd H1 pd (HO.dK (JK [] [(.inr "=",.str "is"),(.inr "<",.str "under"),(.inr ">",.str "over")]))=H3 at *;have gv:J1H (JK [] [((.inr "=":Key),V.str "is"),(.inr "<",.str "under"),(.inr ">",.str "over")]) (.inr ⟨#[c]⟩)=some (V.str (fwd c)):=by rcases em with rfl | rfl | rfl<;>decide
         refine ⟨_,J4x gd gv,J9 (by omega),J9 (by decide),fun p hp=>⟨J9 (by decide),fun q hq=>k _ _ (((s1.trans u2).new hp _).new hq _) ?_⟩⟩;rw [hRp];refine ⟨q,V.ref p,a+nl+1+(r.takeWhile isV).length,rfl,Jd,hA3,?_⟩;simp only [Rx];exact ⟨p,rfl,(Same.upd_new hq _) _ _ Jd⟩
        clear hB5;subst hB4;walk_at "dc";refine ⟨J9 (by omega),?_⟩;rw [sE (Str.ofString "=") 61 (by decide),lvl];by_cases v1:1<=(r.takeWhile isV).length
        ·rw [zd (zg (by omega))]
         by_cases v2:(r.takeWhile isV).length<=61
         ·rw [zc (by rw [zg (by omega)];decide)]
          by_cases c61:c=61
          ·rw [zc (by rw [zg c61];decide)]
           exact fin H (Same.refl _) ⟨v1,v2,.inl c61⟩
          ·rw [zd (by rw [zh c61];decide)]
           refine ⟨_,rfl,⟨by rw [lvl];exact v1,by rw [lvl];exact v2,fun c' hc'=>J3G (p:=isV) hc'⟩,fun H1 s1=>?_⟩;by_cases hno:JX (r.takeWhile isV)=true
           ·rw [show J0Q true (sOf (r.takeWhile isV))=.int (J1c (r.takeWhile isV)) from zd hno]
            dsimp only;rw [zc (by simp)];exact fin H1 s1 ⟨v1,v2,.inr hno⟩
           ·rw [show J0Q true (sOf (r.takeWhile isV))=.non from zc hno]
            dsimp only;rw [zd (by simp)];rw [zc fun z=>z.2.2.elim c61 hno] at hRp;exact k H1 .non s1 (by rw [hRp];rfl)
         ·rw [zd (by rw [zh (by omega)];decide)]
          exact kn (by rw [hRp,zc fun z=>v2 z.2.1])
        ·rw [zc (by rw [zh (by omega)];decide)]
         exact kn (by rw [hRp,zc fun z=>v1 z.1])
      ·rw [em4,zd (by rw [zh hm];decide)]
       refine kn ?_;simp only [zC,not_mem_nil,or_false,not_or] at hm;rw [hRp,Rt,zc hm.2.2.2,zc (by rintro (z | z | z)<;>simp_all)]
     ·rw [zd (by rw [zh h2];decide)]
      exact kn (by unfold Rp;rw [hn',zc (by omega)])
    ·rw [zc (by rw [zh h1];decide)]
     exact kn (by unfold Rp;rw [hn',zc (by omega)])
def J3Q (K:Frag):Nat->Sp
 | 0=>fun _ _ _ _=>False
 | d+1=>fun vs H Q _=>∃ (z:Str) (a lv:Nat) (cs:List Nat),vs=[.str z,.int a,.int lv]/\At z a cs/\z.length<=1000000/\lv<=d/\∀ H' v,Same H H'->J9s H' z (Rd lv cs) v->Q v H'
theorem J3V (h:At z a cs):J03 z.cps.toList (some (a:Int)) (some ((a+1:Nat):Int))=cs.take 1:=by rw [J5w,Nat.add_sub_cancel_left,h.cs]
theorem J5p {y:Str}(hy:y.cps.toList=[m]):decide ((⟨(cs.take 1).toArray⟩:Str)=y)=decide (cs.head?=some m):=by
 rw [decide_eq_decide,J01,hy];show cs.take 1=[m]↔_;cases cs with
 | nil=>simp
 | cons x r=>simp
theorem J8s {s:Rv}(h:J9s H z (some (s,rest)) v):∃ (p:Addr) (x:V) (a':Nat),v=.ref p/\H p=some (.tup [x,.int a'])/\At z a' rest/\Rx H s x:=h
theorem st_l_at (T:Txt w K mg f fd)(dp:Nat)(ih:FnOk P w K mg base CX0 (3+dp) (f 44) (fd 44) ["_law_text_here","_law_at_here","_law_levels"] (J3Q K dp)):FnOk P w K mg base CX0 (3+dp+1) (f 44) (fd 44) ["_law_text_here","_law_at_here","_law_levels"] (J3Q K (dp+1)):=by
 walk_at "ok wx J1L"
 ·obtain ⟨z,a,lv,cs,rfl,_⟩:=h
  rfl
 ·obtain ⟨z,a,lv,cs,rfl,hA,hz,hlv,k⟩:=h
  refine ⟨_,(Jc (Js (Jj JN (pvl 2) Ja (Jn _))
   (Je (Jk J09))
   Jl)
   (Jc (psl 3 J1L.nd (JA JU (pvl 0) (Jv (Jg JE (pvl 1) Ja)) (Jv (Jg JE (pvl 1) Ja))))
   (Jc (Js (Jj JN (JA JU (pvl 0) (Jv (pvl 1)) (Jv (Jg JE (pvl 1) Ja))) Jf (Jn _))
   (Jc (psl 4 J1L.nd (Jm T.wx ih (hr.mono (by omega)) rfl (by decide) rfl (pal rfl (pvl 0) (pal rfl (Jg JE (pvl 1) Ja) (pal rfl (Jg J1w (pvl 2) Ja) Jb)))))
   (Jc (Js (Jj J2Q (pvl 4) J09 (Jn _))
   (Je (Jk J09))
   Jl)
   (Je (Jk (Jx (pal rfl (Jx (pal rfl Jf (pal rfl (Jq (Jt rfl) (pvl 4) Ja (fun _ _=>rfl)) Jb))) (pal rfl (Jq (Jt rfl) (pvl 4) Ja (fun _ _=>rfl)) Jb)))))))
   Jl)
   (Jc (Js (Jj J2c (JA JU (pvl 0) (Jv (pvl 1)) (Jv (Jg JE (pvl 1) Ja))) Jf (Jn _))
   (Je (Jk (Jm T.yb (ok_l_plain_at T) (hr.mono (by omega)) rfl (by decide) rfl (pal rfl (pvl 0) (pal rfl (pvl 1) Jb)))))
   Jl)
   (Jc (Js (PW.pt (J1D (Jj JN (pvl 3) Jf (Jn _)) (J1u (Jj J1S (pvl 3) Jf rfl))))
   (Je (Jk J09))
   Jl)
   (Jc (psl 5 J1L.nd (J02 Jb))
   (Jc (psl 1 J1L.nd (Jg JE (pvl 1) Ja))
   (Jc (J33 PassesOwn.never (Jj J2c (JA JU (pvl 0) (Jv (pvl 1)) (Jv (Jg JE (pvl 1) Ja))) Jf (Jn _))
   (Jc (Js (PW.pt (J0Z (Jj J4T (JR (J63 rfl) T.wc JY rfl (by decide) (by decide) rfl (pal rfl (pvl 5) Jb)) Ja (Jn _)) (J0z (Jj J2c (JA JU (pvl 0) (Jv (pvl 1)) (Jv (Jg JE (pvl 1) Ja))) (pvl 3) (Jn _)))))
   (Je (Jk J09))
   Jl)
   (Jc (psl 4 J1L.nd (Jm T.wx ih (hr.mono (by omega)) rfl (by decide) rfl (pal rfl (pvl 0) (pal rfl (Jg JE (pvl 1) (J1v J81 T.wV J6W rfl (by decide) (by decide) rfl (pal rfl (J3U J4T (JR (J63 rfl) T.wc JY rfl (by decide) (by decide) rfl (pal rfl (pvl 5) Jb)) Ja (Jn _)) Jb))) (pal rfl (Jg J1w (pvl 2) Ja) Jb)))))
   (Jc (Js (Jj J2Q (pvl 4) J09 (Jn _))
   (Je (Jk J09))
   Jl)
   (Jc (J2o (J2F rfl zU PySem.F.slot_list_append PySem.F.type_list_append J1F rfl rfl rfl rfl (pvl 5) (pal rfl (Jq (Jt rfl) (pvl 4) Ja (fun _ _=>rfl)) Jb)))
   (Je (psl 1 J1L.nd (Jq (Jt rfl) (pvl 4) Ja (fun _ _=>rfl)))))))))
   (Je (Jk (Jx (pal rfl (Jx (pal rfl (J0N (J2H hr) (J36 (JZ Jf Jf (JZ Jf Jf J34)) rfl rfl (cons_ne_nil _ _) (by show 2<=15;decide)) (pvl 3) (fun _ _=>rfl)) (pal rfl (J1v (J3b rfl) T.wt J2k rfl (by decide) (by decide) rfl (pal rfl (pvl 5) Jb)) Jb))) (pal rfl (Jg JE (pvl 1) Ja) Jb))))))))))))),?_⟩
  generalize hB:J1f (J2Y (tOr _ _) _ _) _=B;walk_at "dc";have hl:=hA.len;have e1:(a:Int)+1=((a+1:Nat):Int):=by omega
  have e2:(a:Int)+1+1=((a+1+1:Nat):Int):=by omega
  cases lv with
  | zero =>
    rw [zd (by decide)];exact k H .non (Same.refl _) rfl
  | succ lv =>
    rw [zc (by simp;omega)];obtain ⟨d',rfl⟩:∃ d',dp=d'+1:=⟨dp - 1,by omega⟩;have elv:((lv+1:Nat):Int) - 1=(lv:Int):=by omega
    have e3:(a:Int)+2=((a+2:Nat):Int):=by omega
    refine ⟨J9 (by omega),J9 (by omega),?_⟩;rw [e1,e3,elv,J3V hA,J5p (m:=33) (by decide),J5p (m:=40) (by decide)];by_cases h33:cs.head?=some 33
    ·rw [zd (zg h33)]
     have hRd:Rd (lv+1) cs=(Rd lv cs.tail).map fun x=>(.neg x.1,x.2):=by rw [Rd,zd h33]
     rw [hRd] at k;refine ⟨z,a+1,lv,cs.tail,rfl,J0D hA h33,hz,by omega,fun H1 v s1 hv=>?_⟩;cases hr:Rd lv cs.tail with
     | none =>
       rw [hr] at hv k;obtain rfl:v=.non:=hv;rw [zd (by simp)];exact k H1 .non s1 rfl
     | some x =>
       rw [hr] at hv k;obtain ⟨p,y,a',rfl,hp,hA',hy⟩:=J8s (s:=x.1) (rest:=x.2) hv;rw [zc (by simp)];refine ⟨p,_,_,_,rfl,rfl,.of hp,Jh (j:=0) rfl,J9 (by decide),fun q hq=>⟨p,_,_,_,rfl,rfl,.of ((Same.upd_new hq _) _ _ hp),Jh (j:=1) rfl,J9 (by decide),fun q2 hq2=>k _ _ ((s1.new hq _).new hq2 _) ?_⟩⟩;refine ⟨q2,V.ref q,a',rfl,Jd,hA',?_⟩;simp only [Rx];exact ⟨q,y,rfl,(Same.upd_new hq2 _) _ _ Jd,hy.mono ((Same.upd_new hq _).new hq2 _).t⟩
    ·rw [zc (by rw [zh h33];decide)]
     refine ⟨J9 (by omega),?_⟩;by_cases h40:cs.head?=some 40
     ·rw [zc (by rw [zg h40];decide)]
      have hA1:=J0D hA h40;have ecs:J03 z.cps.toList (some ((a+1:Nat):Int)) (some ((a+2:Nat):Int))=cs.tail.take 1:=J3V hA1;rw [ecs];cases ht:cs.tail with
      | nil =>
        have hRd:Rd (lv+1) cs=none:=by rw [Rd,zc h33,zd h40,ht,zc (by simp)]
        rw [hRd] at k;generalize hB4:J1f (J3g (J8d _) _) _=B4 at hB;subst hB;walk_at "dc";exact k H .non (Same.refl _) rfl
      | cons c r =>
        rw [ht] at hA1;have hA2:=hA1.one;have esg:(⟨(List.take 1 (c::r)).toArray⟩:Str)=⟨#[c]⟩:=rfl;rw [esg];have ne:decide ((⟨#[c]⟩:Str)=Str.ofString "")=false:=zh fun z=>by
         have:=congrArg Str.length z
         revert this
         show (1:Nat)=_->False;decide
        generalize hB4:J1f (J3g (J8d _) _) _=B4 at hB;subst hB;walk_at "dc";rw [J1U,ne,zc (by decide),show (Str.ofString "&|").cps.toList=[38,124] by decide];by_cases hm:c=38\/c=124
        ·rw [zc (by rcases hm with rfl | rfl<;>decide)]
         have hRd:Rd (lv+1) cs=(Rm (Rd lv) c (cs.length+1) true r).map fun x=>(.many (decide (c=124)) x.1,x.2):=by
          rw [Rd,zc h33,zd h40,ht,zd (by rcases hm with rfl | rfl<;>simp)];simp
         rw [hRd] at k;have hcl:r.length<cs.length+1:=by
          have:=congrArg List.length ht;rw [length_tail,length_cons] at this;omega
         have gl:=@Rd_len lv;have hrz:r.length<=z.length:=by have:=hA2.len;omega
         generalize hr0:Rm (Rd lv) c (cs.length+1) true r=r0 at *;have hc41:=(J4l hm).1;subst hB4;generalize hB9:J56 (J7v _)=B9;walk_at "dc";refine ⟨zn _,fun D hD=>?_⟩;have s1:=Same.upd_new hD (HO.lst []);have d1:upd H D (HO.lst []) D=some (.lst []):=Jd;generalize upd H D (HO.lst [])=H1 at *;rw [show (a:Int)+2=((a+1+1:Nat):Int) by omega];refine J23 (fun m σ H'=>∃ (ss:List Rv) (xs:List V) (a' fu:Nat) (rest:List Nat) (v4:Option V),σ=[some (V.str z),some (V.int (a':Nat)),some (V.int ((lv+1:Nat):Int)),some (V.str ⟨#[c]⟩),v4,some (V.ref D)]/\Same H H'/\H' D=some (.lst xs)/\Rxs H' ss xs/\At z a' rest/\rest.length<fu/\ss.length+rest.length<=z.length/\r0=((Rm (Rd lv) c fu ss.isEmpty rest).map fun x=>(ss++x.1,x.2))/\m=rest.length) ⟨_,[],[],a+1+1,cs.length+1,r,none,rfl,s1,d1,by simp only [Rxs],hA2,hcl,by simpa using hrz,?_,rfl⟩ ?_
         ·rw [<- hr0]
          show _=Option.map (fun x=>([]++x.1,x.2)) (Rm (Rd lv) c (cs.length+1) true r);cases Rm (Rd lv) c (cs.length+1) true r<;>rfl
         ·rintro m σ H' ⟨ss,xs,a',fu,rest,v4,rfl,s2,d2,hx,hA',hf,hsz,hr,rfl⟩
          obtain ⟨fu,rfl⟩:∃ n,fu=n+1:=⟨fu - 1,by omega⟩;have hxl:=hx.len;have e5:(a':Int)+1=((a'+1:Nat):Int):=by omega
          walk_at "dc";refine ⟨J9 (by omega),?_⟩;rw [e5,J3V hA',J5p (m:=41) (by decide)];by_cases h41:rest.head?=some 41
          ·rw [zc (by rw [zg h41];decide)]
           rw [Rm,zd h41] at hr;have hr2:r0=some (ss,rest.tail):=by rw [hr];show some (ss++[],rest.tail)=_;rw [append_nil]
           rw [hr2] at k;subst hB9;walk_at "dc";refine fun pd hpd=>⟨Jd,[(.inr "&",.str "all"),(.inr "|",.str "some")],rfl,(by show 2<=15;decide),?_⟩;rw [J0K];have u2:=Same.upd_new hpd (HO.dK (JK [] [(.inr "&",.str "all"),(.inr "|",.str "some")]));have gd:upd H' pd (HO.dK (JK [] [(.inr "&",.str "all"),(.inr "|",.str "some")])) pd=some (HO.dK (JK [] [(.inr "&",.str "all"),(.inr "|",.str "some")])):=Jd;generalize upd H' pd (HO.dK (JK [] [(.inr "&",.str "all"),(.inr "|",.str "some")]))=H3 at *;have gv:J1H (JK [] [((.inr "&":Key),V.str "all"),(.inr "|",.str "some")]) (.inr ⟨#[c]⟩)=some (V.str (mw (decide (c=124)))):=by rcases hm with rfl | rfl<;>decide
           refine ⟨_,J4x gd gv,xs,.inl ⟨.of (u2 _ _ d2),fun l hl2=>⟨J9 (by decide),fun p hp=>⟨J9 (by decide),fun q hq=>k _ _ ((((s2.trans u2).new hl2 _).new hp _).new hq _) ?_⟩⟩⟩⟩;have v1:=Same.upd_new hl2 (HO.tup xs);have v2:=Same.upd_new hp (HO.tup [V.str (mw (decide (c=124))),V.ref l]);have v3:=Same.upd_new hq (HO.tup [V.ref p,V.int ((a':Int)+1)]);refine ⟨q,V.ref p,a'+1,rfl,by rw [Jd,e5],J0D hA' h41,?_⟩;simp only [Rx];exact ⟨p,l,xs,rfl,v3 _ _ Jd,v3 _ _ (v2 _ _ Jd),hx.mono (((u2.trans v1).trans v2).trans v3).t⟩
          ·rw [zd (by rw [zh h41];decide)]
           refine WGo.of ?_;have step:∀ (n:Nat) (cs2:List Nat),At z n cs2->cs2.length<=rest.length->r0=(match Rd lv cs2 with | none=>none | some (s,rest2)=>(Rm (Rd lv) c fu false rest2).map fun x=>(ss++s::x.1,x.2))->J3Q K (d'+1) [V.str z,V.int n,V.int lv] H'
            (fun x H1=>if decide (x=V.non)=true then Q V.non H1 else tyV K "list" (V.ref D) H1/\J3O K x (V.int 0) H1 fun x_1 H1=>J3S (V.ref D) [x_1] H1 fun x_2 H1=>J3O K x (V.int 1) H1 fun x_3 H1 =>
             ∃ m',m'<rest.length/\∃ (ss:List Rv) (xs:List V) (a':Nat),x_3=V.int ↑a'/\(∃ x_4,some x=x_4)/\Same H H1/\H1 D=some (HO.lst xs)/\Rxs H1 ss xs/\∃ (x:Nat) (x_4:List Nat),At z a' x_4/\x_4.length<x/\ss.length+x_4.length<=z.length/\r0=Option.map (fun x=>(ss++x.fst,x.snd)) (Rm (Rd lv) c x ss.isEmpty x_4)/\m'=x_4.length) E0:=by
            intro n cs2 hA2' hc2 hr2;refine ⟨z,n,lv,cs2,rfl,hA2',hz,by omega,fun H1' v s3 hv=>?_⟩;cases hg:Rd lv cs2 with
            | none =>
              rw [hg] at hv hr2;obtain rfl:v=.non:=hv;rw [zd (by simp)];rw [hr2] at k;exact k H1' .non (s2.trans s3) rfl
            | some x =>
              rw [hg] at hv hr2;obtain ⟨p,y,a3,rfl,hp,hA3,hy⟩:=J8s (s:=x.1) (rest:=x.2) hv;have l3:=gl (s:=x.1) (rest:=x.2) hg;have d3:=s3 _ _ d2;have hpD:p≠D:=fun e=>by rw [e,d3] at hp;cases hp
              have tt:=TSame.upd_no (o:=.lst (xs++[y])) d3 (fun _ h=>nomatch h);rw [zc (by simp)];refine ⟨.inl ⟨rfl,_,.of d3⟩,p,_,_,_,rfl,rfl,.of hp,Jh (j:=0) rfl,D,_,_,rfl,rfl,d3,by rw [sizeLine_eq];omega,p,_,_,_,rfl,rfl,.of (by rw [Jo hpD];exact hp),Jh (j:=1) rfl,x.2.length,by omega,ss++[x.1],xs++[y],a3,rfl,⟨_,rfl⟩,(s2.trans s3).set hD _,Jd,Rxs.snoc ((hx.mono s3.t).mono tt) (hy.mono tt),fu,x.2,hA3,by omega,by rw [zy];show _+1+_<=_;omega,?_,rfl⟩;rw [hr2,show (ss++[x.1]).isEmpty=false by cases ss<;>rfl];show Option.map (fun y=>(ss++x.1::y.1,y.2)) (Rm (Rd lv) c fu false x.2)=_;cases Rm (Rd lv) c fu false x.2 with
              | none=>rfl
              | some y=>show some (ss++x.1::y.1,y.2)=some (ss++[x.1]++y.1,y.2);rw [zO];rfl
           walk_at "dc";refine ⟨xs,.inl (.of d2),?_⟩;rw [e5,J3V hA',J5p (m:=c) rfl,elv];rw [Rm,zc h41] at hr;cases ss with
           | nil =>
             obtain rfl:xs=[]:=eq_nil_of_length_eq_zero (by simpa using hxl);rw [zc (by decide)];refine ⟨[],.inl (.of d2),?_⟩;rw [show ((a':Int)+if decide (0<(([]:List V).length:Int))=true then 1 else 0)=((a':Nat):Int) by simp];refine step a' rest hA' (ze _) ?_;rw [hr,zc (by simp)];show Option.map _ (match Rd lv rest with | none=>none | some (s,rest)=>Option.map _ _)=_;cases Rd lv rest with
             | none=>rfl
             | some x=>show Option.map _ (Option.map _ (Rm (Rd lv) c fu false x.2))=Option.map _ (Rm (Rd lv) c fu false x.2);cases Rm (Rd lv) c fu false x.2<;>rfl
           | cons s0 ss0 =>
             have hx0:0<(xs.length:Int):=by rw [hxl,length_cons];omega
             rw [zd (zg hx0)];refine ⟨J9 (by omega),?_⟩;by_cases hcc:rest.head?=some c
             ·rw [zc (by rw [zg hcc];decide)]
              refine ⟨xs,.inl (.of d2),?_⟩;rw [zd (zg hx0),e5];refine step (a'+1) rest.tail (J0D hA' hcc) (J0B _) ?_;rw [hr,zc (by simp [hcc])];show Option.map _ (match Rd lv rest.tail with | none=>none | some (s,rest)=>Option.map _ _)=_;cases Rd lv rest.tail with
              | none=>rfl
              | some x=>show Option.map _ (Option.map _ (Rm (Rd lv) c fu false x.2))=Option.map _ (Rm (Rd lv) c fu false x.2);cases Rm (Rd lv) c fu false x.2<;>rfl
             ·rw [zd (by rw [zh hcc];decide)]
              rw [zd ⟨rfl,hcc⟩] at hr;rw [hr] at k;exact k H' .non s2 rfl
        ·rw [zd (by simp only [zC,not_mem_nil,or_false];rw [zh hm];decide)]
         have hRd:Rd (lv+1) cs=none:=by rw [Rd,zc h33,zd h40,ht,zc (by simpa using hm)]
         rw [hRd] at k;exact k H .non (Same.refl _) rfl
     ·rw [zd (by rw [zh h40];decide)]
      refine ⟨z,a,cs,rfl,hA,hz,fun H1 v s1 hv=>k H1 v s1 ?_⟩;rw [show Rd (lv+1) cs=Rp cs by rw [Rd,zc h33,zc h40]];exact hv
theorem J7g (T:Txt w K mg f fd):∀ dp:Nat,FnOk P w K mg base CX0 (3+dp) (f 44) (fd 44) ["_law_text_here","_law_at_here","_law_levels"] (J3Q K dp)
 | 0=>⟨fun _ _ _ _ h=>zp h,fun _ _ _ _ _ _ _ _ _ _ _ _ _ h=>zp h⟩
 | dp+1=>st_l_at T dp (J7g T dp)
theorem Rm_cnt {f:List Nat->Option (Rv×List Nat)}{c:Nat}(hf:∀ cs s rest,f cs=some (s,rest)->cnt s+rest.length<=cs.length):∀ {k:Nat} {b:Bool} {cs:List Nat} {ss:List Rv} {rest:List Nat},Rm f c k b cs=some (ss,rest)->JL ss+rest.length<=cs.length
 | 0,_,_,_,_,h=>by simp [Rm] at h
 | k + 1,b,cs,ss,rest,h=>by
   rw [Rm] at h
   split at h
   ·cases h
    simp only [JL];have:=J0B cs;omega
   ·split at h
    ·cases h
    ·split at h
     ·cases h
     ·rename_i s r hs
      obtain ⟨⟨ss',r'⟩,h1,h2⟩:=Option.map_eq_some_iff.mp h;cases h2;show JL (s::ss')+r'.length<=cs.length;have a1:=Rm_cnt hf h1;have a2:=hf _ _ _ hs;have a3:=J0B cs;simp only [JL]
      split at a2<;>omega
theorem Rd_cnt:∀ {lv:Nat} {cs:List Nat} {s:Rv} {rest:List Nat},Rd lv cs=some (s,rest)->cnt s+rest.length<=cs.length
 | 0,_,_,_,h=>by simp [Rd] at h
 | lv+1,cs,s,rest,h=>by
   rw [Rd] at h
   split at h
   ·rename_i hc
    obtain ⟨⟨s',r'⟩,h1,h2⟩:=Option.map_eq_some_iff.mp h;cases h2;show cnt (.neg s')+r'.length<=cs.length;have:=Rd_cnt h1;simp only [cnt];cases cs with
    | nil=>cases hc
    | cons x r=>rw [tail_cons] at this;rw [length_cons];omega
   ·split at h
    ·rename_i hc
     split at h
     ·obtain ⟨⟨s',r'⟩,h1,h2⟩:=Option.map_eq_some_iff.mp h
      cases h2;show cnt (.many _ s')+r'.length<=cs.length;have:=Rm_cnt (fun _ _ _=>Rd_cnt) h1;have a4:=J0B cs.tail;simp only [cnt];cases cs with
      | nil=>cases hc
      | cons x r=>rw [tail_cons] at this a4;rw [length_cons];omega
     ·cases h
    ·have h1:=Rp_cnt h
     have h2:=J9r h;omega
theorem J66:∀ (ss:List Rv) (a:Int),List.foldl (fun x1 x2=>x1+x2) a (ss.map fun s=>(cnt s:Int))=a+JL ss
 | [],a=>by simp [JL]
 | s::ss,a=>by
   rw [zD,foldl_cons,J66 ss];simp only [JL];omega
theorem J5r {K:Frag}{p:Addr}{fm:Str}{rest:List V}{Q':Bool->Hp->Prop}(hp:H p=some (.tup (.str fm::rest)))(q:∀ H2,Same H H2->Q' (decide (fm="all"\/fm="some")) H2) :
 J3O K (.ref p) (.int 0) H fun x H1=>2<=sizeLine/\∀ q,H1 q=none->rIn K false x (.ref q) (upd H1 q (HO.lst [V.str (Str.ofString "all"),V.str (Str.ofString "some")])) fun x H'=>∃ k,x=.bl k/\Q' k H':=by
 refine ⟨p,_,_,_,rfl,rfl,.of hp,Jh (j:=0) rfl,J9 (by decide),fun q0 hq=>⟨q0,_,rfl,.inl (.of Jd),by rfl,by decide,_,rfl,?_⟩⟩;have:=q _ (Same.upd_new hq (HO.lst [V.str (Str.ofString "all"),V.str (Str.ofString "some")]));rw [zc zf,in2];have e:(decide (Str.ofString "all"=fm)||decide (Str.ofString "some"=fm))=decide (fm="all"\/fm="some"):=by
  rw [Bool.eq_iff_iff];simp only [Bool.or_eq_true,decide_eq_true_eq];exact ⟨fun h=>h.imp Eq.symm Eq.symm,fun h=>h.imp Eq.symm Eq.symm⟩
 rw [e];exact this
theorem J8P (ov:Bool):decide (mw ov="all"\/mw ov="some")=true:=by cases ov<;>decide
def J3k (K:Frag):Nat->Sp
 | 0=>fun _ _ _ _=>False
 | d+1=>fun vs H Q _=>∃ (v:V) (s:Rv),vs=[v]/\Wf s/\Rx H s v/\dep s<=d+1/\cnt s<=1000000/\∀ H',Same H H'->Q (.int (cnt s)) H'
theorem st_l_many (T:Txt w K mg f fd)(dp:Nat)(ih:FnOk P w K mg base CX0 (1+dp) (f 45) (fd 45) ["_law_sieve_here"] (J3k K dp)):FnOk P w K mg base CX0 (1+dp+1) (f 45) (fd 45) ["_law_sieve_here"] (J3k K (dp+1)):=by
 walk_at "ok wA J7B"
 ·obtain ⟨v,s,rfl,_⟩:=h
  rfl
 ·obtain ⟨v,s,rfl,hG,hS,hL,hC,k⟩:=h
  refine ⟨_,(Jc (Js (Jj JN (Jq (Jt rfl) (pvl 0) Ja (fun _ _=>rfl)) Jf (Jn _))
   (Je (Jk (Jg JE Ja (Jm T.wA ih (hr.mono (by omega)) rfl (by decide) rfl (pal rfl (Jq (Jt rfl) (pvl 0) Ja (fun _ _=>rfl)) Jb)))))
   Jl)
   (Jc (Js (Jj (J8V rfl) (Jq (Jt rfl) (pvl 0) Ja (fun _ _=>rfl)) (J02 (pal rfl Jf (pal rfl Jf Jb))) rfl)
   (Je (Jk (Jg JE Ja (JR (JaY rfl rfl) T.yN Jbd rfl (by decide) (by decide) rfl (pal rfl (J2q ["_law_part"] ["_law_sieve_here"] rfl (show CompSc _ (Ji J32) ["_law_sieve_here"] ["_law_sieve_here"] from J05 (by decide +kernel)) (J62 rfl (Jq (Jt rfl) (pvl 0) Ja (fun _ _=>rfl))) (fun _ _ _ _ _=>(pgl 0 (show (["_law_part","_law_sieve_here"]:List Str).Nodup by decide +kernel))) (fun _ _ _ _ _=>J1m) (fun _ _ _ _ _=>(Jm T.wA ih (hr.mono (by omega)) rfl (by decide) rfl (pal rfl (pvl 0) Jb)))) Jb)))))
   Jl)
   (Je (Jk Ja)))),?_⟩
  walk_at "dc";cases s with
  | neg s =>
    simp only [Rx] at hS;rw [Wf] at hG;simp only [dep] at hL;simp only [cnt] at hC k;obtain ⟨p,x,rfl,hp,hs⟩:=hS;have lp:=J2u s;obtain ⟨e,rfl⟩:∃ e,dp=e+1:=⟨dp - 1,by omega⟩;refine ⟨p,_,_,_,rfl,rfl,.of hp,Jh (j:=0) rfl,?_⟩;walk_at "dc";refine ⟨p,_,_,_,rfl,rfl,.of hp,Jh (j:=1) rfl,x,s,rfl,hG,hs,by omega,by omega,fun H1 s1=>⟨_,rfl,?_⟩⟩;have:=k H1 s1;rw [show ((cnt s+1:Nat):Int)=1+(cnt s:Int) by omega] at this;exact this
  | many ov ss =>
    simp only [Rx] at hS;rw [Wf] at hG;simp only [dep] at hL;simp only [cnt] at hC k;obtain ⟨p,q,ys,rfl,hp,hq,hs⟩:=hS;have nn:mw ov≠"not":=by cases ov<;>decide
    refine ⟨p,_,_,_,rfl,rfl,.of hp,Jh (j:=0) rfl,rfl,?_⟩;rw [zc (by simpa using nn)];have hyl:=hs.len;have hsl:=J2f ss;refine J5r hp fun H2 s2=>?_;rw [zd (J8P ov)];refine ⟨p,_,_,_,rfl,rfl,.of (s2 _ _ hp),Jh (j:=1) rfl,q,rfl,⟨_,.of (s2 _ _ hq)⟩,?_⟩;refine J14 (J2X (xs:=ys)) (J9 (by omega)) (fun i us H'=>Same H2 H'/\us=((ss.take i).map fun s=>(cnt s:Int)).map V.int) ⟨Same.refl _,rfl⟩ (fun _ _ H' _ q'=>(s2.trans q'.1).seqT (.of hq)) (fun i us H' q'=>by rw [q'.2,zu,zu,zz];exact Nat.min_le_left _ _) (fun i x us H3 hx q'=>?_) (fun us H3 q' D hD=>?_)
    ·obtain ⟨t1,rfl⟩:=q'
     obtain ⟨s',hs',hrx⟩:=hs.at hx;have l1:=J5v hs';have l2:=J2u s';obtain ⟨e,rfl⟩:∃ e,dp=e+1:=⟨dp - 1,by omega⟩;walk_at "dc";refine ⟨x,s',rfl,J5E hG hs',hrx.mono (s2.trans t1).t,by omega,by omega,fun H4 s4=>⟨⟨_,rfl⟩,t1.trans s4,?_⟩⟩;rw [J0G hs',zG,zG];rfl
    ·obtain ⟨t1,rfl⟩:=q'
     rw [hyl,zF];refine ⟨D,_,rfl,.of Jd,_,rfl,?_⟩;rw [J66,show 1+(0+(JL ss:Int))=((JL ss+1:Nat):Int) by omega];exact k _ ((s2.trans t1).new hD _)
  | pl w' n x =>
    simp only [Rx] at hS;rw [Wf] at hG;obtain ⟨p,rfl,hp⟩:=hS;have nn:w'≠"not"/\decide (w'="all"\/w'="some")=false:=by rcases hG.2 with ⟨rfl,_⟩ | ⟨rfl,_⟩ | ⟨rfl | rfl,_⟩<;>exact ⟨by decide,by decide⟩
    refine ⟨p,_,_,_,rfl,rfl,.of hp,Jh (j:=0) rfl,rfl,?_⟩;rw [zc (by simpa using nn.1)];refine J5r hp fun H2 s2=>?_;rw [nn.2,zc (by decide)];simp only [cnt] at k;exact k H2 s2
theorem J4U (T:Txt w K mg f fd):∀ dp:Nat,FnOk P w K mg base CX0 (1+dp) (f 45) (fd 45) ["_law_sieve_here"] (J3k K dp)
 | 0=>⟨fun _ _ _ _ h=>zp h,fun _ _ _ _ _ _ _ _ _ _ _ _ _ h=>zp h⟩
 | dp+1=>st_l_many T dp (J4U T dp)
def kL:List Str->List Str->Str->List Str
 | n::ns,k::ks,m=>if n=m then k::kL ns ks m else kL ns ks m
 | _,_,_=>[]
theorem Jan:∀ (ns ks:List Str) (m:Str),J2S ns ks m=(kL ns ks m).head?
 | [],_,_=>rfl
 | _::_,[],_=>rfl
 | n::ns,k::ks,m=>by
   rw [J2S,kL]
   split
   ·rfl
   ·exact Jan ns ks m
theorem J7i {x y m:Str}:∀ {a b:List Str},a.length=b.length->kL (a++[x]) (b++[y]) m=kL a b m++(if x=m then [y] else [])
 | [],[],_=>by
   show kL [x] [y] m=_;rw [kL]
   split<;>rfl
 | [],_::_,h=>by simp at h
 | _::_,[],h=>by simp at h
 | n::a,k::b,h=>by
   rw [cons_append,cons_append,kL,kL,J7i (by simpa using h)]
   split<;>rfl
theorem J8X:∀ (ns ks:List Str) (m:Str) (j:Nat),ns.length<=j->(kL ns ks m).length<=j
 | [],_,_,_,_=>zn _
 | _::_,[],_,_,_=>zn _
 | n::ns,k::ks,m,j,h=>by
   rw [length_cons] at h;have:=J8X ns ks m (j - 1) (by omega);rw [kL]
   split
   ·rw [length_cons];omega
   ·omega
def BkAt (H:Hp):Ou Rv->V->Prop
 | .fld n,v=>∃ p,v=.ref p/\H p=some (.tup [.str "field",.str n])
 | .knd n,v=>∃ p,v=.ref p/\H p=some (.tup [.str "kind",.str n])
 | .ok s,v=>∃ p x,v=.ref p/\H p=some (.tup [.str "right",x])/\Rx H s x
theorem BkAt.mono {r:Ou Rv}(t:TSame H H')(h:BkAt H r v):BkAt H' r v:=by
 cases r with
 | fld n=>obtain ⟨p,e,g⟩:=h;exact ⟨p,e,t _ _ g⟩
 | knd n=>obtain ⟨p,e,g⟩:=h;exact ⟨p,e,t _ _ g⟩
 | ok s=>obtain ⟨p,x,e,g,k⟩:=h;exact ⟨p,x,e,t _ _ g,k.mono t⟩
def J1q (K:Frag):Nat->Sp
 | 0=>fun _ _ _ _=>False
 | d+1=>fun vs H Q _=>∃ (l:Addr) (v:V) (s:Rv) (xs:List V) (ns kds:List Str),vs=[v,.ref l]/\H l=some (.lst xs)/\FldsK H xs ns kds/\(∀ kd∈kds,kd=J1i\/kd=kdN)/\xs.length<=8/\Wf s/\Rx H s v/\dep s<=d+1/\cnt s<=60/\∀ H' v',Same H H'->BkAt H' (BK ns kds s) v'->Q v' H'
theorem st_l_by_kinds (T:Txt w K mg f fd)(dp:Nat)(ih:FnOk P w K mg base CX0 (2+dp) (f 46) (fd 46) ["_law_sieve_here","_law_fields"] (J1q K dp)):FnOk P w K mg base CX0 (2+dp+1) (f 46) (fd 46) ["_law_sieve_here","_law_fields"] (J1q K (dp+1)):=by
 walk_at "ok wB JQ"
 ·obtain ⟨l,v,s,xs,ns,kds,rfl,_⟩:=h
  rfl
 ·obtain ⟨l,v,s,xs,ns,kds,rfl,hl,hF,hks,hx8,hG,hS,hL,hC,k⟩:=h
  refine ⟨_,(Jc (Js (Jj JN (Jq (Jt rfl) (pvc 0) Ja (fun _ _=>rfl)) Jf (Jn _))
   (Jc (psl 2 JQ.nd (Jm T.wB ih (hr.mono (by omega)) rfl (by decide) rfl (pal rfl (Jq (Jt rfl) (pvc 0) Ja (fun _ _=>rfl)) (pal rfl (pvl 1) Jb))))
   (Jc (Js (Jj J2c (Jq (Jt rfl) (pvl 2) Ja (fun _ _=>rfl)) Jf (Jn _))
   (Je (Jk (pvl 2)))
   Jl)
   (Je (Jk (Jx (pal rfl Jf (pal rfl (Jx (pal rfl Jf (pal rfl (Jq (Jt rfl) (pvl 2) Ja (fun _ _=>rfl)) Jb))) Jb)))))))
   Jl)
   (Jc (Js (Jj (J8V rfl) (Jq (Jt rfl) (pvc 0) Ja (fun _ _=>rfl)) (J02 (pal rfl Jf (pal rfl Jf Jb))) rfl)
   (Jc (psl 3 JQ.nd (J02 Jb))
   (Jc (J2a PassesOwn.never rfl (J62 rfl (Jq (Jt rfl) (pvc 0) Ja (fun _ _=>rfl))) (pgl 4 JQ.nd)
   (Jc (psl 2 JQ.nd (Jm T.wB ih (hr.mono (by omega)) rfl (by decide) rfl (pal rfl (pvl 4) (pal rfl (pvl 1) Jb))))
   (Jc (Js (Jj J2c (Jq (Jt rfl) (pvl 2) Ja (fun _ _=>rfl)) Jf (Jn _))
   (Je (Jk (pvl 2)))
   Jl)
   (Je (J2o (J2F rfl zU PySem.F.slot_list_append PySem.F.type_list_append J1F rfl rfl rfl rfl (pvl 3) (pal rfl (Jq (Jt rfl) (pvl 2) Ja (fun _ _=>rfl)) Jb)))))))
   (Je (Jk (Jx (pal rfl Jf (pal rfl (Jx (pal rfl (Jq (Jt rfl) (pvc 0) Ja (fun _ _=>rfl)) (pal rfl (J1v (J3b rfl) T.wt J2k rfl (by decide) (by decide) rfl (pal rfl (pvl 3) Jb)) Jb))) Jb)))))))
   Jl)
   (Jc (J7b ["_law_field"] ["_law_sieve_here","_law_fields","_law_told_here","_law_found","_law_part","_law_kinds","_law_value"] rfl (show CompSc _ (Ji J10) ["_law_sieve_here","_law_fields","_law_told_here","_law_found","_law_part","_law_kinds","_law_value"] ["_law_sieve_here","_law_fields","_law_told_here","_law_found","_law_part","_law_kinds","_law_value"] from J05 (by decide +kernel)) JQ.nd (i:=5) rfl rfl (Jak rfl (pvl 1)) (fun _ _ _ _ _=>(pgl 0 (show (["_law_field","_law_sieve_here","_law_fields","_law_told_here","_law_found","_law_part","_law_kinds","_law_value"]:List Str).Nodup by decide +kernel))) (fun _ _ _ _ _=>(J7a (Jj JN (Jq (Jt rfl) (pvl 0) Ja (fun _ _=>rfl)) (Jq (Jt rfl) (pvc 1) Ja (fun _ _=>rfl)) (Jn _)))) (fun _ _ _ _ _=>(Jq (Jt rfl) (pvl 0) Ja (fun _ _=>rfl))))
   (Jc (Js (Jj (JbA rfl hr.units) (pvl 5) (J02 Jb) (Jn _))
   (Je (Jk (Jx (pal rfl Jf (pal rfl (Jq (Jt rfl) (pvc 0) Ja (fun _ _=>rfl)) Jb)))))
   Jl)
   (Jc (Js (Jj JN (Jq (Jt rfl) (pvc 0) Ja (fun _ _=>rfl)) Jf (Jn _))
   (Je (Jk (Jx (pal rfl Jf (pal rfl (pvc 0) Jb)))))
   Jl)
   (Jc (psl 6 JQ.nd (Jm T.wO (ok_l_number T) (hr.mono (by omega)) rfl (by decide) rfl (pal rfl (Jq (Jt rfl) (pvc 0) Ja (fun _ _=>rfl)) Jb)))
   (Jc (Js (Jj JN (Jq (J1d rfl) (pvl 5) Ja (fun _ _=>rfl)) Jf (Jn _))
   (Jc (psl 6 JQ.nd (Jq (Jt rfl) (pvc 0) Ja (fun _ _=>rfl)))
   (Je (Js (PW.pt (J1D (Jj J2c (Jq (Jt rfl) (pvc 0) Ja (fun _ _=>rfl)) Jf (Jn _)) (J1D (Jj J4T (JR (Jb0 rfl) T.wc JY rfl (by decide) (by decide) rfl (pal rfl (pvl 6) Jb)) Ja (Jn _)) (J1u (Jj J2s Jf (pvl 6) rfl)))))
   (Je (Jk (Jx (pal rfl Jf (pal rfl (Jq (Jt rfl) (pvc 0) Ja (fun _ _=>rfl)) Jb)))))
   Jl)))
   Jl)
   (Jc (Js (Jj J2Q (pvl 6) J09 (Jn _))
   (Je (Jk (Jx (pal rfl Jf (pal rfl (Jq (Jt rfl) (pvc 0) Ja (fun _ _=>rfl)) Jb)))))
   Jl)
   (Je (Jk (Jx (pal rfl Jf (pal rfl (Jx (pal rfl (Jq (Jt rfl) (pvc 0) Ja (fun _ _=>rfl)) (pal rfl (Jq (Jt rfl) (pvc 0) Ja (fun _ _=>rfl)) (pal rfl (pvl 6) Jb)))) Jb))))))))))))),?_⟩
  generalize hB:J1f _ (J1f (J2Y (J3H (tOp (JaD _) _ _)) _ _) _)=B;walk_at "dc";cases s with
  | neg s =>
    simp only [Rx] at hS;rw [Wf] at hG;simp only [dep] at hL;simp only [cnt] at hC;rw [BK] at k;obtain ⟨p,x,rfl,hp,hs⟩:=hS;have lp:=J2u s;obtain ⟨e,rfl⟩:∃ e,dp=e+1:=⟨dp - 1,by omega⟩;refine ⟨p,_,_,_,rfl,rfl,.of hp,Jh (j:=0) rfl,?_⟩;walk_at "dc";refine ⟨p,_,_,_,rfl,rfl,.of hp,Jh (j:=1) rfl,l,x,s,xs,ns,kds,rfl,hl,hF,hks,hx8,hG,hs,by omega,by omega,fun H1 v1 s1 hb1=>?_⟩;cases hb:BK ns kds s with
    | fld n =>
      rw [hb] at hb1 k;obtain ⟨q,rfl,hq⟩:=id hb1;refine ⟨q,_,_,_,rfl,rfl,.of hq,Jh (j:=0) rfl,rfl,?_⟩;rw [zd (by decide)];exact k H1 _ s1 hb1
    | knd n =>
      rw [hb] at hb1 k;obtain ⟨q,rfl,hq⟩:=id hb1;refine ⟨q,_,_,_,rfl,rfl,.of hq,Jh (j:=0) rfl,rfl,?_⟩;rw [zd (by decide)];exact k H1 _ s1 hb1
    | ok s' =>
      rw [hb] at hb1 k;obtain ⟨q,y,rfl,hq,hy⟩:=hb1;refine ⟨q,_,_,_,rfl,rfl,.of hq,Jh (j:=0) rfl,rfl,?_⟩;rw [zc (by decide)];refine ⟨q,_,_,_,rfl,rfl,.of hq,Jh (j:=1) rfl,J9 (by decide),fun p1 hp1=>⟨J9 (by decide),fun p2 hp2=>k _ _ ((s1.new hp1 _).new hp2 _) ⟨p2,V.ref p1,rfl,Jd,?_⟩⟩⟩;simp only [Rx];exact ⟨p1,y,rfl,(Same.upd_new hp2 _) _ _ Jd,hy.mono ((Same.upd_new hp1 _).new hp2 _).t⟩
  | many ov ss =>
    simp only [Rx] at hS;rw [Wf] at hG;simp only [dep] at hL;simp only [cnt] at hC;rw [BK] at k;obtain ⟨p,q,ys,rfl,hp,hq,hs⟩:=hS;have hyl:=hs.len;have hsl:=J2f ss;have nn:mw ov≠"not":=by cases ov<;>decide
    refine ⟨p,_,_,_,rfl,rfl,.of hp,Jh (j:=0) rfl,rfl,?_⟩;rw [zc (by simpa using nn)];refine J5r hp fun H2 s2=>?_;rw [zd (J8P ov)];refine ⟨zn _,fun D hD=>?_⟩;have s3:=s2.new hD (HO.lst []);have d3:upd H2 D (HO.lst []) D=some (.lst []):=Jd;have hD0:H D=none:=s2.free hD;generalize upd H2 D (HO.lst [])=H3 at *;refine J2j ?_;walk_at "dc";refine ⟨p,_,_,_,rfl,rfl,.of (s3 _ _ hp),Jh (j:=1) rfl,q,rfl,⟨_,.of (s3 _ _ hq)⟩,?_⟩;refine ForW.of (J2X (xs:=ys)) (fun i σ H'=>(∃ v2 v4,σ=[some (V.ref p),some (V.ref l),v2,some (V.ref D),v4,none,none])/\Same H H'/\∃ us us',BKs ns kds (ss.take i)=.ok us'/\H' D=some (.lst us)/\Rxs H' us' us) ⟨⟨none,none,rfl⟩,s3,[],[],by rw [take_zero,BKs],d3,by simp only [Rxs]⟩ (fun i σ H' _ q'=>q'.2.1.seqT (.of hq)) ?_ ?_
    ·rintro i x σ H4 hx ⟨⟨v2,v4,rfl⟩,s4,us,us',hu,d4,hux⟩
     obtain ⟨s',hs',hrx⟩:=hs.at hx;have l1:=J5v hs';have l2:=J2u s';have hil:=(zt.mp hs').1;have hul:us.length<=60:=by
      have h1:=hux.len;have h2:=BK_len hu;rw [zz] at h2;omega
     obtain ⟨e,rfl⟩:∃ e,dp=e+1:=⟨dp - 1,by omega⟩;walk_at "dc";refine ⟨l,x,s',xs,ns,kds,rfl,s4 _ _ hl,hF.mono s4,hks,hx8,J5E hG hs',hrx.mono s4.t,by omega,by omega,fun H5 v5 s5 hb5=>?_⟩;have ct:=J7r hu hs';cases hb:BK ns kds s' with
     | fld n =>
       rw [hb] at hb5 ct;rw [ct] at k;obtain ⟨q5,rfl,hq5⟩:=id hb5;refine ⟨q5,_,_,_,rfl,rfl,.of hq5,Jh (j:=0) rfl,rfl,?_⟩;rw [zd (by decide)];exact k H5 _ (s4.trans s5) hb5
     | knd n =>
       rw [hb] at hb5 ct;rw [ct] at k;obtain ⟨q5,rfl,hq5⟩:=id hb5;refine ⟨q5,_,_,_,rfl,rfl,.of hq5,Jh (j:=0) rfl,rfl,?_⟩;rw [zd (by decide)];exact k H5 _ (s4.trans s5) hb5
     | ok s2' =>
       rw [hb] at hb5;obtain ⟨q5,y,rfl,hq5,hy⟩:=hb5;have d5:=s5 _ _ d4;have tt:=TSame.upd_no (o:=.lst (us++[y])) d5 (fun _ h=>nomatch h);refine ⟨q5,_,_,_,rfl,rfl,.of hq5,Jh (j:=0) rfl,rfl,?_⟩;rw [zc (by decide)];exact ⟨.inl ⟨rfl,_,.of d5⟩,q5,_,_,_,rfl,rfl,.of hq5,Jh (j:=1) rfl,D,_,_,rfl,rfl,d5,by rw [sizeLine_eq];omega,⟨_,rfl⟩,(s4.trans s5).set hD0 _,us++[y],us'++[s2'],J6i hu hs' hb,Jd,Rxs.snoc ((hux.mono s5.t).mono tt) (hy.mono tt)⟩
    ·rintro σ H4 ⟨⟨v2,v4,rfl⟩,s4,us,us',hu,d4,hux⟩
     rw [hyl,zF] at hu;rw [hu] at k;walk_at "dc";refine ⟨p,_,_,_,rfl,rfl,.of (s4 _ _ hp),Jh (j:=0) rfl,us,.inl ⟨.of d4,fun q2 hq2=>⟨J9 (by decide),fun p2 hp2=>⟨J9 (by decide),fun p3 hp3=>k _ _ (((s4.new hq2 _).new hp2 _).new hp3 _) ⟨p3,V.ref p2,rfl,Jd,?_⟩⟩⟩⟩⟩;have u1:=Same.upd_new hq2 (HO.tup us);have u2:=Same.upd_new hp2 (HO.tup [V.str (mw ov),V.ref q2]);have u3:=Same.upd_new hp3 (HO.tup [V.str (Str.ofString "right"),V.ref p2]);simp only [Rx];exact ⟨p2,q2,us,rfl,u3 _ _ Jd,u3 _ _ (u2 _ _ Jd),hux.mono ((u1.trans u2).trans u3).t⟩
  | pl w' n x =>
    simp only [Rx] at hS;rw [Wf] at hG;rw [BK] at k;obtain ⟨p,rfl,hp⟩:=hS;have nn:w'≠"not"/\decide (w'="all"\/w'="some")=false:=by rcases hG.2 with ⟨rfl,_⟩ | ⟨rfl,_⟩ | ⟨rfl | rfl,_⟩<;>exact ⟨by decide,by decide⟩
    refine ⟨p,_,_,_,rfl,rfl,.of hp,Jh (j:=0) rfl,rfl,?_⟩;rw [zc (by simpa using nn.1)];refine J5r hp fun H2 s2=>?_;rw [nn.2,zc (by decide)];subst hB;generalize hB2:J1f (J2Y (J3H (tOp rEq _ _)) _ _) _=B2;walk_at "dc";have hl2:=s2 _ _ hl;have hF2:=hF.mono s2;have hp2:=s2 _ _ hp;refine ⟨⟨_,.of hl2⟩,?_⟩;refine J14 (xs:=xs) J4N (J9 (by omega)) (fun i ys H'=>H'=H2/\ys=(kL (ns.take i) (kds.take i) n).map V.str) ⟨rfl,rfl⟩ (fun _ _ _ _ q=>by rw [q.1];exact .of hl2) (fun i ys H' q=>by rw [q.2,zu];exact J8X _ _ _ _ (by rw [zz];exact Nat.min_le_left _ _)) ?_ ?_
    ·rintro i y ys H3 hy ⟨rfl,rfl⟩
     obtain ⟨q,nj,kd,e1,e2,e3,e4⟩:=hF2.at (zt.mp hy).1;obtain rfl:y=.ref q:=zi (hy.symm.trans e1);walk_at "dc";refine ⟨q,_,_,_,rfl,rfl,.of e4,Jh (j:=0) rfl,p,_,_,_,rfl,rfl,.of hp2,Jh (j:=1) rfl,rfl,?_⟩;have len:(ns.take i).length=(kds.take i).length:=by rw [zz,zz,hF.1,hF.2.1]
     rw [J0G e2,J0G e3,J7i len,zG];by_cases c:nj=n
     ·subst c
      rw [zd (by simp)];refine ⟨q,_,_,_,rfl,rfl,.of e4,Jh (j:=1) rfl,⟨_,rfl⟩,rfl,?_⟩;simp
     ·rw [zc (by simpa using c)]
      refine ⟨⟨_,rfl⟩,rfl,?_⟩;simp [c]
    ·rintro ys H3 ⟨rfl,rfl⟩ D hD
     rw [show ns.take xs.length=ns by rw [<- hF.1,zF],show kds.take xs.length=kds by rw [<- hF.2.1,zF]];have hh:=Jan ns kds n;generalize hkl:kL ns kds n=kl at *;refine ⟨zn _,fun p1 hp1=>⟨D,p1,_,rfl,rfl,(Same.upd_new hp1 _).seq (.of Jd),.of Jd,_,rfl,?_⟩⟩;have s4:=(s2.new hD (HO.lst (kl.map V.str))).new hp1 (HO.lst []);have d4:upd (upd H3 D (HO.lst (kl.map V.str))) p1 (HO.lst []) D=some (.lst (kl.map V.str)):=(Same.upd_new hp1 _) _ _ Jd;generalize upd (upd H3 D (HO.lst (kl.map V.str))) p1 (HO.lst [])=H4 at *;have hp4:=s4 _ _ hp;cases kl with
     | nil =>
       rw [zd (by rfl)];refine ⟨p,_,_,_,rfl,rfl,.of hp4,Jh (j:=1) rfl,J9 (by decide),fun p2 hp2=>k _ _ (s4.new hp2 _) ?_⟩;unfold BKp;rw [hh];exact ⟨p2,rfl,Jd⟩
     | cons kd kr =>
       rw [zc (by simp)];have hh':J2S ns kds n=some kd:=hh;unfold BKp at k;rw [hh'] at k;have hkd:=hks kd (by obtain ⟨j,_,z⟩:=J1G hh';exact zx z);generalize hB3:J1f (J3g _ (J0C 6)) _=B3 at hB2;subst hB2;walk_at "dc";refine ⟨p,_,_,_,rfl,rfl,.of hp4,Jh (j:=0) rfl,rfl,?_⟩;rcases hG.2 with ⟨rfl,rfl⟩ | ht
       ·rw [zd (by decide)]
        refine ⟨J9 (by decide),fun p2 hp2=>k _ _ (s4.new hp2 _) ⟨p2,V.ref p,rfl,Jd,?_⟩⟩;simp only [Rx];exact ⟨p,rfl,(Same.upd_new hp2 _) _ _ hp4⟩
       ·obtain ⟨t,rfl,hlf,hwn⟩:∃ t,x=some (.str t)/\LFD t/\w'≠"lacks":=by
         rcases ht with ⟨rfl,t,rfl,hlf⟩ | ⟨hw,t,rfl,hlf,_⟩
         ·exact ⟨t,rfl,hlf,by decide⟩
         ·exact ⟨t,rfl,hlf,by rcases hw with rfl | rfl<;>decide⟩
        rw [zc (by simpa using hwn)];subst hB3;generalize hB5:J1f (J2Y (J3H (tOp _ _ (tC V.non))) _ _) _=B5;walk_at "dc";refine ⟨p,_,_,_,rfl,rfl,.of hp4,Jh (j:=2) rfl,t,rfl,hlf,fun H5 s5=>⟨D,_,_,_,rfl,rfl,.of (s5 _ _ d4),Jh (j:=0) rfl,rfl,?_⟩⟩;have S5:=s4.trans s5;have hp5:=S5 _ _ hp;have ix1:∀ R:VK,R (.str n) H5->J3O K (.ref p) (.int 1) H5 R:=fun R r=>⟨p,_,_,_,rfl,rfl,.of hp5,Jh (j:=1) rfl,r⟩;have ix0:∀ R:VK,R (.str w') H5->J3O K (.ref p) (.int 0) H5 R:=fun R r=>⟨p,_,_,_,rfl,rfl,.of hp5,Jh (j:=0) rfl,r⟩;dsimp only at k;have fin:∀ (y:V),(∀ H' v',Same H H'->BkAt H' (.ok (.pl w' n (some y))) v'->Q v' H')->J3O K (V.ref p) (V.int 0) H5 fun x H1=>J3O K (V.ref p) (V.int 1) H1 fun x_1 H1=>3<=sizeLine/\∀ (p:Addr),H1 p=none->2<=sizeLine/\∀ (p_1:Addr),upd H1 p (HO.tup [x,x_1,y]) p_1=none->Q (V.ref p_1) (upd (upd H1 p (HO.tup [x,x_1,y])) p_1 (HO.tup [V.str (Str.ofString "right"),V.ref p])):=fun y ky =>
         ix0 _ (ix1 _ ⟨J9 (by decide),fun p1 hp1=>⟨J9 (by decide),fun p2 hp2=>ky _ _ ((S5.new hp1 _).new hp2 _) ⟨p2,V.ref p1,rfl,Jd,by simp only [Rx];exact ⟨p1,rfl,(Same.upd_new hp2 _) _ _ Jd⟩⟩⟩⟩)
        rcases hkd with rfl | rfl
        ·rw [zd (by decide)]
         rw [zd rfl] at k;refine ⟨p,_,_,_,rfl,rfl,.of hp5,Jh (j:=2) rfl,ix0 _ ⟨rfl,?_⟩⟩;have no:¬ (w'="is"/\t.length<=12/\45∉t.cps.toList)->J3O K (V.ref p) (V.int 1) H5 fun x H1=>2<=sizeLine/\∀ (p:Addr),H1 p=none->Q (V.ref p) (upd H1 p (HO.tup [V.str (Str.ofString "kind"),x])):=fun z=>by
          rw [zc z] at k;exact ix1 _ ⟨J9 (by decide),fun p1 hp1=>k _ _ (S5.new hp1 _) ⟨p1,rfl,Jd⟩⟩
         by_cases cw:w'="is"
         ·rw [zc (by simp [cw])]
          refine ⟨_,⟨J9 (by have:=hlf.2.1;omega),rfl⟩,?_⟩;by_cases c12:t.length<=12
          ·rw [zc (by simp;omega)]
           refine ⟨t,rfl,?_⟩;rw [show Str.ofString "-"=⟨#[45]⟩ by decide,J1U];by_cases c45:45∈t.cps.toList
           ·rw [zd (zg c45)]
            exact no fun z=>z.2.2 c45
           ·rw [zc (by simpa using c45)]
            rw [zd ⟨cw,c12,c45⟩] at k;subst hB5;walk_at "dc";exact fin _ k
          ·rw [zd (by simp;omega)]
           exact no fun z=>c12 z.2.1
         ·rw [zd (by simpa using cw)]
          exact no fun z=>cw z.1
        ·rw [zc (by decide)]
         rw [zc (by decide)] at k;subst hB5;walk_at "dc";by_cases hno:JX t.cps.toList=true
         ·rw [show J0Q true t=.int (J1c t.cps.toList) from zd hno,zc (by simp)]
          rw [zd hno] at k;exact fin _ k
         ·rw [show J0Q true t=.non from zc hno,zd (by simp)]
          rw [zc hno] at k;exact ix1 _ ⟨J9 (by decide),fun p1 hp1=>k _ _ (S5.new hp1 _) ⟨p1,rfl,Jd⟩⟩
theorem J2C (T:Txt w K mg f fd):∀ dp:Nat,FnOk P w K mg base CX0 (2+dp) (f 46) (fd 46) ["_law_sieve_here","_law_fields"] (J1q K dp)
 | 0=>⟨fun _ _ _ _ h=>zp h,fun _ _ _ _ _ _ _ _ _ _ _ _ _ h=>zp h⟩
 | dp+1=>st_l_by_kinds T dp (J2C T dp)
def DuAt (ns kds:List Str)(z:Str)(H:Hp)(v:V):Prop:=(∀ s,Rd 12 z.cps.toList=some (s,[])->cnt s<=60->BkAt H (BK ns kds s) v)/\((∀ s,Rd 12 z.cps.toList=some (s,[])->60<cnt s)->∃ p,v=.ref p/\H p=some (.tup [.str "none",.str ""]))
def J8l (K:Frag):Sp:=fun vs H Q _=>∃ (l:Addr) (z:Str) (xs:List V) (ns kds:List Str),vs=[.str z,.ref l]/\z.length<=1000000/\H l=some (.lst xs)/\FldsK H xs ns kds/\(∀ kd∈kds,kd=J1i\/kd=kdN)/\xs.length<=8/\∀ H' v,Same H H'->DuAt ns kds z H' v->Q v H'
theorem ok_l_due (T:Txt w K mg f fd):FnOk P w K mg base CX0 17 (f 47) (fd 47) ["_law_text_here","_law_fields"] (J8l K):=by
 walk_at "ok yc J5Q"
 ·obtain ⟨l,z,xs,ns,kds,rfl,_⟩:=h
  rfl
 ·obtain ⟨l,z,xs,ns,kds,rfl,hz,hl,hF,hks,hx8,k⟩:=h
  refine ⟨_,(Jc (psl 2 J5Q.nd (Jm T.wx (J7g T 13) (hr.mono (by decide)) rfl (by decide) rfl (pal rfl (pvl 0) (pal rfl Ja (pal rfl Ja Jb)))))
   (Jc (Js (PW.pt (J1D (Jj J2Q (pvl 2) J09 (Jn _)) (J1D (Jj J2c (Jq (Jt rfl) (pvl 2) Ja (fun _ _=>rfl)) (JR Jz T.wc JY rfl (by decide) (by decide) rfl (pal rfl (pvl 0) Jb)) (Jn _)) (J1u (Jj J4T (Jm T.wA (J4U T 13) (hr.mono (by decide)) rfl (by decide) rfl (pal rfl (Jq (Jt rfl) (pvl 2) Ja (fun _ _=>rfl)) Jb)) Ja (Jn _))))))
   (Je (Jk (Jx (pal rfl Jf (pal rfl Jf Jb)))))
   Jl)
   (Je (Jk (Jm T.wB (J2C T 13) (hr.mono (by decide)) rfl (by decide) rfl (pal rfl (Jq (Jt rfl) (pvl 2) Ja (fun _ _=>rfl)) (pal rfl (pvl 1) Jb))))))),?_⟩
  walk_at "dc";refine ⟨z,0,12,z.cps.toList,rfl,⟨zn _,by rw [drop_zero]⟩,hz,by decide,fun H1 v s1 hv=>?_⟩;have none_:∀ H2,Same H H2->(∀ s,Rd 12 z.cps.toList=some (s,[])->60<cnt s)->2<=sizeLine/\∀ p,H2 p=none->Q (V.ref p) (upd H2 p (HO.tup [V.str (Str.ofString "none"),V.str (Str.ofString "")])):=fun H2 s2 hno =>
   ⟨J9 (by decide),fun p hp=>k _ _ (s2.new hp _) ⟨fun s hs hc=>by have:=hno s hs;omega,fun _=>⟨p,rfl,Jd⟩⟩⟩
  cases hr:Rd 12 z.cps.toList with
  | none =>
    rw [hr] at hv;obtain rfl:v=.non:=hv;dsimp only;rw [zd (by simp)];exact none_ H1 s1 fun s hs=>by rw [hr] at hs;cases hs
  | some x =>
    rw [hr] at hv;obtain ⟨p,y,a',rfl,hp,hA,hy⟩:=J8s (s:=x.1) (rest:=x.2) hv;dsimp only;rw [zc (by simp)];have hl2:=hA.len;have ok:=Rd_ok (s:=x.1) (rest:=x.2) hr;have hcn:=Rd_cnt (s:=x.1) (rest:=x.2) hr;rw [J0n] at hcn;refine ⟨p,_,_,_,rfl,rfl,.of hp,Jh (j:=1) rfl,J9 (by omega),rfl,?_⟩;obtain ⟨s,rest⟩:=x;dsimp only at *;cases rest with
    | nil =>
      rw [zc (by simp at hl2 ⊢;omega)];refine ⟨p,_,_,_,rfl,rfl,.of hp,Jh (j:=0) rfl,y,s,rfl,ok.1,hy,Nat.le_succ_of_le ok.2,by omega,fun H2 s2=>⟨_,rfl,?_⟩⟩;by_cases c60:cnt s<=60
      ·rw [zc (by simp;omega)]
       refine ⟨p,_,_,_,rfl,rfl,.of (s2 _ _ hp),Jh (j:=0) rfl,l,y,s,xs,ns,kds,rfl,(s1.trans s2) _ _ hl,hF.mono (s1.trans s2),hks,hx8,ok.1,hy.mono s2.t,Nat.le_succ_of_le ok.2,c60,fun H3 v3 s3 hb=>k H3 v3 ((s1.trans s2).trans s3) ⟨fun s' hs' _=>?_,fun hno=>absurd (hno s hr) (by omega)⟩⟩;rw [hr] at hs';cases hs';exact hb
      ·rw [zd (by simp;omega)]
       exact none_ H2 (s1.trans s2) fun s' hs'=>by rw [hr] at hs';cases hs';omega
    | cons c r =>
      rw [length_cons] at hl2;rw [zd (by simp;omega)];exact none_ H1 s1 fun s' hs'=>by rw [hr] at hs';cases hs'
theorem J99 {s:Rv}{r:Ou Rv}(hs:Rd 12 z.cps.toList=some (s,[]))(hc:cnt s<=60)(hb:BK ns kds s=r)(h:BkAt H r v):DuAt ns kds z H v :=
 ⟨fun s' hs' _=>by rw [hs] at hs';cases hs';rw [hb];exact h,fun hno=>absurd (hno s hs) (by omega)⟩
def J7w (K:Frag):Sp:=fun vs H Q _=>∃ (l:Addr) (z:Str) (xs:List V) (ns kds:List Str),vs=[.ref l,.str z]/\z.length<=1000000/\H l=some (.lst xs)/\FldsK H xs ns kds/\(∀ kd∈kds,kd=J1i\/kd=kdN)/\∀ H' v,Same H H'->DuAt ns kds z H' v->Q v H'
theorem ok_l_told (T:Txt w K mg f fd):FnOk P w K mg base CX0 35 (f 48) (fd 48) ["_law_fields","_law_text_here"] (J7w K):=by
 walk_at "ok yd J0l"
 ·obtain ⟨l,z,xs,ns,kds,rfl,_⟩:=h
  rfl
 ·obtain ⟨l,z,xs,ns,kds,rfl,hz,hl,hF,hks,k⟩:=h
  refine ⟨_,(Jc (psl 2 J0l.nd (Jx (pal rfl Jf (pal rfl Jf Jb))))
   (Jc (ps_try rfl rfl (fun _ _ _=>(Je (psl 2 J0l.nd (Jx (pal rfl Jf (pal rfl (J12 (J87 rfl) T.w8 (ok_read_sieve T) (hr.mono (by decide)) rfl (by decide) rfl (pal rfl (pvl 0) (pal rfl (pvl 1) Jb))) Jb))))))
   (ph_as rfl T.wd.m T.wd.x (by decide) J0l.nd (i:=3) rfl rfl (fun _=>(Je (Js (PW.pt (J0Z (JV (JR (J4k rfl) T.wl JS rfl (by decide) (by decide) rfl (pal rfl (pvl 3) (pal rfl (J7F T.yl.m rfl (by decide)) Jb)))) (J0Z (J0t (JV (JR (J4k rfl) T.wl JS rfl (by decide) (by decide) rfl (pal rfl (pvl 3) (pal rfl (J7F T.wg.m rfl (by decide)) Jb))))) (J0z (J0t (JV (JR (J4k rfl) T.wl JS rfl (by decide) (by decide) rfl (pal rfl (pvl 3) (pal rfl (J7F T.wb.m rfl (by decide)) Jb)))))))))
   (Je (psl 2 J0l.nd (Jx (pal rfl Jf (pal rfl Jf Jb)))))
   Jl)))
   (ph_as rfl T.wg.m T.wg.x (by decide) J0l.nd (i:=3) rfl rfl (fun _=>(Je (Js (PW.pt (J0Z (JV (JR (J4k rfl) T.wl JS rfl (by decide) (by decide) rfl (pal rfl (pvl 3) (pal rfl (pty T.yK J4M) Jb)))) (J0z (J0t (JV (JR (J4k rfl) T.wl JS rfl (by decide) (by decide) rfl (pal rfl (pvl 3) (pal rfl (J7F T.wb.m rfl (by decide)) Jb))))))))
   (Je (psl 2 J0l.nd (Jx (pal rfl Jf (pal rfl (Jby rfl rfl (pvl 3)) Jb)))))
   Jl)))
   (ph_as rfl T.wb.m T.wb.x (by decide) J0l.nd (i:=3) rfl rfl (fun _=>(Je (Js (PW.pt (J0Z (JV (JR (J4k rfl) T.wl JS rfl (by decide) (by decide) rfl (pal rfl (pvl 3) (pal rfl (J7F T.yl.m rfl (by decide)) Jb)))) (J0z (J0t (JV (JR (J4k rfl) T.wl JS rfl (by decide) (by decide) rfl (pal rfl (pvl 3) (pal rfl (J7F T.wg.m rfl (by decide)) Jb))))))))
   (Je (psl 2 J0l.nd (Jx (pal rfl Jf (pal rfl (Jby rfl rfl (pvl 3)) Jb)))))
   Jl)))
   JaI))))
   (Je (Jk (pvl 2))))),?_⟩
  walk_at "dc";refine ⟨J9 (by decide),fun p0 hp0=>?_⟩;have u0:=Same.upd_new hp0 (HO.tup [V.str (Str.ofString "odd"),V.str (Str.ofString "")]);generalize upd H p0 (HO.tup [V.str (Str.ofString "odd"),V.str (Str.ofString "")])=H0 at *;refine ⟨hz,xs,u0 _ _ hl,ns,kds,hF.mono u0,hks,fun s hs hc=>?_,fun hno H' s'=>?_⟩
  ·cases hb:BK ns kds s with
   | ok s' =>
     intro H' v s1 hv;exact ⟨J9 (by decide),fun p hp=>k _ _ ((u0.trans s1).new hp _) (J99 hs hc hb ⟨p,v,rfl,Jd,hv.mono (Same.upd_new hp _).t⟩)⟩
   | fld n =>
     intro H' dx s' he;refine ⟨f 3,rfl,⟨_,T.wg.x⟩,?_⟩;rw [zc (by rw [T.yw];exact zf)];refine ⟨f 3,rfl,⟨_,T.wg.x⟩,?_⟩;rw [zd T.yx];intro x hx';have u7:=Same.upd_new hx' (ExO x (Value.ref (f 3)) (some dx));have xo:upd H' x (ExO x (Value.ref (f 3)) (some dx)) x=some (ExO x (.ref (f 3)) (some dx)):=Jd;have xd:=u7 _ _ he;generalize upd H' x (ExO x (Value.ref (f 3)) (some dx))=H8 at *;refine ⟨x,f 3,some dx,xo,.inr ⟨dx,_,rfl,xd⟩,T.wg.xc,rfl,_,T.yz,?_⟩;rw [zd rfl];refine ⟨x,f 3,some dx,xo,.inr ⟨dx,_,rfl,xd⟩,T.wg.xc,rfl,_,T.yy,?_⟩;rw [zd (by decide)];exact ⟨f 3,dx,xo,_,xd,T.wg.xc,T.ym,_,rfl,J9 (by decide),fun p hp=>k _ _ (((u0.trans s').trans u7).new hp _) (J99 hs hc hb ⟨p,rfl,Jd⟩)⟩
   | knd n =>
     intro H' dx s' he;refine ⟨f 4,rfl,⟨_,T.wb.x⟩,?_⟩;rw [zc (by rw [T.yB];exact zf)];refine ⟨f 4,rfl,⟨_,T.wb.x⟩,?_⟩;rw [zc (by rw [T.yC];exact zf)];refine ⟨f 4,rfl,⟨_,T.wb.x⟩,?_⟩;rw [zd T.yE];intro x hx';have u7:=Same.upd_new hx' (ExO x (Value.ref (f 4)) (some dx));have xo:upd H' x (ExO x (Value.ref (f 4)) (some dx)) x=some (ExO x (.ref (f 4)) (some dx)):=Jd;have xd:=u7 _ _ he;generalize upd H' x (ExO x (Value.ref (f 4)) (some dx))=H8 at *;refine ⟨x,f 4,some dx,xo,.inr ⟨dx,_,rfl,xd⟩,T.wb.xc,rfl,_,T.yA,?_⟩;rw [zd rfl];refine ⟨x,f 4,some dx,xo,.inr ⟨dx,_,rfl,xd⟩,T.wb.xc,rfl,_,T.yD,?_⟩;rw [zd (by decide)];exact ⟨f 4,dx,xo,_,xd,T.wb.xc,T.wT,_,rfl,J9 (by decide),fun p hp=>k _ _ (((u0.trans s').trans u7).new hp _) (J99 hs hc hb ⟨p,rfl,Jd⟩)⟩
  ·refine ⟨f 2,rfl,⟨_,T.wd.x⟩,?_⟩
   rw [zd T.yG];intro x hx';have u7:=Same.upd_new hx' (ExO x (Value.ref (f 2)) none);have xo:upd H' x (ExO x (Value.ref (f 2)) none) x=some (ExO x (.ref (f 2)) none):=Jd;generalize upd H' x (ExO x (Value.ref (f 2)) none)=H8 at *;refine ⟨x,f 2,none,xo,.inl rfl,T.wd.xc,rfl,_,T.yF,?_⟩;rw [zd rfl];refine ⟨x,f 2,none,xo,.inl rfl,T.wd.xc,rfl,_,T.yH,?_⟩;rw [zd (by decide)];refine ⟨x,f 2,none,xo,.inl rfl,T.wd.xc,rfl,_,T.yI,?_⟩;rw [zd (by decide)];exact ⟨J9 (by decide),fun p hp=>k _ _ (((u0.trans s').trans u7).new hp _) ⟨fun s hs hc=>absurd (hno s hs) (by omega),fun _=>⟨p,rfl,Jd⟩⟩⟩
def KdV (kd:Str)(x:V):Prop:=(kd=J1i/\∃ z,x=.str z/\Wrd z)\/(kd=kdN/\∃ i,x=.int i/\i.natAbs<10 ^ 60)
def J1W (K:Frag):Sp:=fun vs H Q _=>∃ (sd:Int) (kd:Str) (d:Addr) (ns kds:List Str),vs=[.int sd,.str kd,.ref d]/\Wd H d ns kds/\(kd=J1i\/kd=kdN)/\∀ v,KdV kd v->Q v H
theorem J1Y (T:Txt w K mg f fd):FnOk P w K mg base CX0 1 (f 37) (fd 37) ["_law_seed","_law_kind","_law_world_here"] (J1W K):=by
 walk_at "ok wM J3N"
 ·obtain ⟨sd,kd,d,ns,kds,rfl,_⟩:=h
  rfl
 ·obtain ⟨sd,kd,d,ns,kds,rfl,⟨kvs,l,w',b,xs,ws,h1,h2,h3,h4,h5,h6,h7,h8,h9,h10,h11,h12,h13,h14,hb1,hb2⟩,hk,k⟩:=h
  refine ⟨_,(Jc (Js (Jj JN (pvl 1) Jf (Jn _))
   (Je (Jk (Jq (J1d rfl) (J0N (J2H hr) (pvl 2) Jf (fun _ _=>rfl)) (Jg JF (pvl 0) (JR (J63 rfl) T.wc JY rfl (by decide) (by decide) rfl (pal rfl (J0N (J2H hr) (pvl 2) Jf (fun _ _=>rfl)) Jb))) (fun _ _=>rfl))))
   Jl)
   (Je (Jk (Jg J1w (Jg JE (J0N (J2H hr) (pvl 2) Jf (fun _ _=>rfl)) (Jg JF (pvl 0) Ja)) Ja)))),?_⟩
  walk_at "dc";by_cases hw:kd=J1i
  ·rw [zd (zg hw)]
   refine ⟨_,J4x h1 h3,_,J4x h1 h3,w',rfl,_,.inl (.of h10),by rw [zu];omega,J1x (.of h10) (zl _ (by rw [zu];omega)) (zk _ (by rw [zu];omega)) fun v hv=>k v ?_⟩;rw [zE] at hv;obtain ⟨z,hz,rfl⟩:=Option.map_eq_some_iff.mp hv;exact .inl ⟨hw,z,rfl,h14 z (zx hz)⟩
  ·rw [zc (by simpa using hw)]
   refine ⟨_,J4x h1 h4,by decide,b,rfl,k _ (.inr ⟨hk.resolve_left hw,_,rfl,?_⟩)⟩;have e0:=zl sd (show (6:Int)≠0 by decide);have e1:=zk sd (show (0:Int)<6 by decide);generalize sd % 6=t at *;omega
def Pn (H:Hp)(v:V):Prop:=∃ p w n x,v=.ref p/\H p=some (.tup (.str w::.str n::x))/\n.length<=12/\((w="lacks"/\x=[])\/((w="is"\/w="under"\/w="over")/\∃ y,x=[y]/\((∃ z,y=.str z/\z.length<=12)\/∃ i:Int,y=.int i/\i.natAbs<10 ^ 60)))
theorem Pn.mono (t:TSame H H')(h:Pn H v):Pn H' v:=by
 obtain ⟨p,w,n,x,e,g,r⟩:=h;exact ⟨p,w,n,x,e,t _ _ g,r⟩
theorem Jai {kd:Str}{y:V}(h:KdV kd y):(∃ z,y=.str z/\z.length<=12)\/∃ i:Int,y=.int i/\i.natAbs<10 ^ 60:=by
 rcases h with ⟨_,z,rfl,hz⟩ | ⟨_,i,rfl,hi⟩
 ·exact .inl ⟨z,rfl,hz.2.1⟩
 ·exact .inr ⟨i,rfl,hi⟩
def J45 (K:Frag):Sp:=fun vs H Q _=>∃ (sd:Int) (d:Addr) (ns kds:List Str),vs=[.int sd,.ref d]/\Wd H d ns kds/\∀ H' v,Same H H'->Pn H' v->Q v H'
theorem ok_l_plain (T:Txt w K mg f fd):FnOk P w K mg base CX0 2 (f 38) (fd 38) ["_law_seed","_law_world_here"] (J45 K):=by
 walk_at "ok wN J1K"
 ·obtain ⟨sd,d,ns,kds,rfl,_⟩:=h
  rfl
 ·obtain ⟨sd,d,ns,kds,rfl,hW,k⟩:=h
  obtain ⟨kvs,l,w',b,xs,ws,h1,h2,h3,h4,h5,h6,h7,h8,h9,h10,h11,h12,h13,h14⟩:=id hW;refine ⟨_,(Jc (JaG (Jq (J1d rfl) (J0N (J2H hr) (pvl 1) Jf (fun _ _=>rfl)) (Jg JF (pvl 0) (JR (J63 rfl) T.wc JY rfl (by decide) (by decide) rfl (pal rfl (J0N (J2H hr) (pvl 1) Jf (fun _ _=>rfl)) Jb))) (fun _ _=>rfl)) (J7h rfl rfl (J0R (pgl 2 J1K.nd) (J0R (pgl 3 J1K.nd) J3T))))
   (Jc (psl 4 J1K.nd (Jg JF (Jg J0b (pvl 0) Ja) Ja))
   (Jc (Js (Jj JN (pvl 4) Ja (Jn _))
   (Je (Jk (Jx (pal rfl Jf (pal rfl (pvl 2) Jb)))))
   Jl)
   (Jc (Js (PW.pt (J1D (Jj JN (pvl 4) Ja (Jn _)) (J1u (Jj JN (pvl 3) Jf (Jn _)))))
   (Je (Jk (Jx (pal rfl Jf (pal rfl (pvl 2) (pal rfl (Jm T.wM (J1Y T) (hr.mono (by decide)) rfl (by decide) rfl (pal rfl (Jg J0b (pvl 0) Ja) (pal rfl (pvl 3) (pal rfl (pvl 1) Jb)))) Jb))))))
   Jl)
   (Je (Jk (Jx (pal rfl (Jq (J1d rfl) (J02 (pal rfl Jf (pal rfl Jf Jb))) (Jg J1w (pvl 4) Ja) (fun _ _=>rfl)) (pal rfl (pvl 2) (pal rfl (Jm T.wM (J1Y T) (hr.mono (by decide)) rfl (by decide) rfl (pal rfl (Jg J0b (pvl 0) Ja) (pal rfl (pvl 3) (pal rfl (pvl 1) Jb)))) Jb)))))))))),?_⟩
  walk_at "dc";refine ⟨_,J4x h1 h2,_,J4x h1 h2,l,rfl,xs,.inl (.of h5),by omega,J1x (.of h5) (zl _ (by omega)) (zk _ (by omega)) fun v hv=>?_⟩;generalize (sd % (xs.length:Int)).toNat=j at *;obtain ⟨p,n,kd,e1,e2,e3,e4⟩:=h6.at (zt.mp hv).1;obtain rfl:v=.ref p:=zi (hv.symm.trans e1);refine ⟨p,_,rfl,.of e4,rfl,?_⟩;simp only [J65,J94,J0C];walk_at "dc";refine ⟨⟨by decide,by decide⟩,by decide,?_⟩;have hk:=h7 kd (zx e3);have hnm:=(h13 n (zx e2)).2.1;have w1:0<=sd / 8 % 4:=zl _ (by decide);have w2:sd / 8 % 4<4:=zk _ (by decide);generalize sd / 8 % 4=wy at *;by_cases c0:wy=0
  ·rw [zd (zg c0)]
   exact ⟨J9 (by decide),fun q hq=>k _ _ (Same.upd_new hq _) ⟨q,_,n,[],rfl,Jd,hnm,.inl ⟨rfl,rfl⟩⟩⟩
  ·rw [zc (by simpa using c0)]
   have hdv:Ja8 sd 32:=⟨by decide,by decide⟩;have isq:Ja8 sd 32/\J1W K [V.int (sd / 32),V.str kd,V.ref d] H (fun x H1=>3<=sizeLine/\∀ (p:Addr),H1 p=none->Q (V.ref p) (upd H1 p (HO.tup [V.str (Str.ofString "is"),V.str n,x]))) E0 :=
    ⟨hdv,_,kd,d,ns,kds,rfl,hW,hk,fun v hv=>⟨J9 (by decide),fun q hq=>k _ _ (Same.upd_new hq _) ⟨q,_,n,[v],rfl,Jd,hnm,.inr ⟨.inl rfl,v,rfl,Jai hv⟩⟩⟩⟩
   by_cases c1:wy=1
   ·rw [zd (zg c1)]
    exact isq
   ·rw [zc (by simpa using c1)]
    by_cases c2:kd=J1i
    ·rw [zd (zg c2)]
     exact isq
    ·rw [zc (by simpa using c2)]
     refine ⟨J9 (by decide),fun q hq=>?_⟩;have u:=Same.upd_new hq (HO.lst [V.str (Str.ofString "under"),V.str (Str.ofString "over")]);have gq:upd H q (HO.lst [V.str (Str.ofString "under"),V.str (Str.ofString "over")]) q=some (.lst [V.str (Str.ofString "under"),V.str (Str.ofString "over")]):=Jd;generalize upd H q (HO.lst [V.str (Str.ofString "under"),V.str (Str.ofString "over")])=H2 at *;refine J1x (.of gq) (by omega) (by simp;omega) fun fm hfm=>⟨hdv,_,kd,d,ns,kds,rfl,hW.mono u,hk,fun v hv=>⟨J9 (by decide),fun r hr=>?_⟩⟩;obtain ⟨w2',rfl,hw2⟩:∃ w2':Str,fm=.str w2'/\(w2'="under"\/w2'="over"):=by
      rcases (by omega:wy=2\/wy=3) with rfl | rfl
      ·exact ⟨"under",(by simpa using hfm.symm),.inl rfl⟩
      ·exact ⟨"over",(by simpa using hfm.symm),.inr rfl⟩
     exact k _ _ (u.new hr _) ⟨r,_,n,[v],rfl,Jd,hnm,.inr ⟨.inr hw2,v,rfl,Jai hv⟩⟩
def TS:Nat->Hp->V->Prop
 | 0,H,v=>Pn H v
 | d+1,H,v=>Pn H v\/(∃ p x,v=.ref p/\H p=some (.tup [.str "not",x])/\TS d H x)\/(∃ p q ys o,v=.ref p/\H p=some (.tup [.str (mw o),.ref q])/\H q=some (.tup ys)/\ys.length<=3/\∀ y∈ys,TS d H y)
theorem TS.mono (t:TSame H H'):∀ {d:Nat} {v:V},TS d H v->TS d H' v
 | 0,v,h=>Pn.mono t h
 | d+1,v,h=>by
   rcases h with h | ⟨p,x,e,g,r⟩ | ⟨p,q,ys,o,e,g,g2,l,r⟩
   ·exact .inl (Pn.mono t h)
   ·exact .inr (.inl ⟨p,x,e,t _ _ g,r.mono t⟩)
   ·exact .inr (.inr ⟨p,q,ys,o,e,t _ _ g,t _ _ g2,l,fun y hy=>(r y hy).mono t⟩)
theorem TS.pn {d:Nat}(h:Pn H v):TS d H v:=by
 cases d with
 | zero=>exact h
 | succ d=>exact .inl h
def J2M (K:Frag):Nat->Sp
 | 0=>fun _ _ _ _=>False
 | dp+1=>fun vs H Q _=>∃ (sd:Int) (d:Addr) (ns kds:List Str) (m:Nat),vs=[.int sd,.ref d,.int m]/\m<=dp/\Wd H d ns kds/\∀ H' v,Same H H'->TS m H' v->Q v H'
theorem st_l_sieve (T:Txt w K mg f fd)(dp:Nat)(ih:FnOk P w K mg base CX0 (3+dp) (f 39) (fd 39) ["_law_seed","_law_world_here","_law_deep_here"] (J2M K dp)):FnOk P w K mg base CX0 (3+dp+1) (f 39) (fd 39) ["_law_seed","_law_world_here","_law_deep_here"] (J2M K (dp+1)):=by
 walk_at "ok ww J1J"
 ·obtain ⟨sd,d,ns,kds,m,rfl,_⟩:=h
  rfl
 ·obtain ⟨sd,d,ns,kds,m,rfl,hm,hW,k⟩:=h
  refine ⟨_,(Jc (psl 3 J1J.nd (Jg JF (pvl 0) Ja))
   (Jc (Js (PW.pt (J1D (Jj J5V (pvl 3) Ja (Jn _)) (J1u (Jj JN (pvl 2) Ja (Jn _)))))
   (Je (Jk (Jm T.wN (ok_l_plain T) (hr.mono (by omega)) rfl (by decide) rfl (pal rfl (Jm T.we (JT T) (hr.mono (by omega)) rfl (by decide) rfl (pal rfl (pvl 0) (pal rfl Ja Jb))) (pal rfl (pvl 1) Jb)))))
   Jl)
   (Jc (Js (Jj JN (pvl 3) Ja (Jn _))
   (Je (Jk (Jx (pal rfl Jf (pal rfl (Jm T.ww ih (hr.mono (by omega)) rfl (by decide) rfl (pal rfl (Jm T.we (JT T) (hr.mono (by omega)) rfl (by decide) rfl (pal rfl (pvl 0) (pal rfl Ja Jb))) (pal rfl (pvl 1) (pal rfl (Jg J1w (pvl 2) Ja) Jb)))) Jb)))))
   Jl)
   (Jc (psl 4 J1J.nd (J02 Jb))
   (Jc (J2a PassesOwn.never rfl (J13 rfl T.wp (pal rfl (Jg JF (Jg J0b (pvl 0) Ja) Ja) Jb)) (pgl 5 J1J.nd)
   (Je (J2o (J2F rfl zU PySem.F.slot_list_append PySem.F.type_list_append J1F rfl rfl rfl rfl (pvl 4) (pal rfl (Jm T.ww ih (hr.mono (by omega)) rfl (by decide) rfl (pal rfl (Jm T.we (JT T) (hr.mono (by omega)) rfl (by decide) rfl (pal rfl (pvl 0) (pal rfl (Jg JE (pvl 5) Ja) Jb))) (pal rfl (pvl 1) (pal rfl (Jg J1w (pvl 2) Ja) Jb)))) Jb)))))
   (Je (Jk (Jx (pal rfl (Jq (J1d rfl) (J02 (pal rfl Jf (pal rfl Jf Jb))) (Jg JF (Jg J0b (pvl 0) Ja) Ja) (fun _ _=>rfl)) (pal rfl (J1v (J3b rfl) T.wt J2k rfl (by decide) (by decide) rfl (pal rfl (pvl 4) Jb)) Jb)))))))))),?_⟩
  walk_at "dc";refine ⟨by decide,?_⟩;have pl:J5M K [V.int sd,V.int 1] H (fun x H1=>J45 K [x,V.ref d] H1 Q E0) E0:=⟨_,_,rfl,_,d,ns,kds,rfl,hW,fun H1 v s1 hp=>k H1 v s1 (TS.pn hp)⟩;by_cases c1:sd % 8<4
  ·rw [zd (zg c1)]
   exact pl
  rw [zc (by simpa using c1)];by_cases c2:m=0
  ·subst c2
   rw [zd (by decide)];exact pl
  rw [zc (by simpa using c2)];obtain ⟨m,rfl⟩:∃ m',m=m'+1:=⟨m - 1,by omega⟩;obtain ⟨e,rfl⟩:∃ e,dp=e+1:=⟨dp - 1,by omega⟩;have hm1:(((m+1:Nat):Int) - 1)=(m:Int):=by omega
  by_cases c3:sd % 8=4
  ·rw [zd (zg c3),hm1]
   exact ⟨_,_,rfl,_,d,ns,kds,m,rfl,by omega,hW,fun H1 v s1 hS=>⟨J9 (by decide),fun p hp=>k _ _ (s1.new hp _) (.inr (.inl ⟨p,v,rfl,Jd,hS.mono (Same.t (Same.upd_new hp _))⟩))⟩⟩
  rw [zc (by simpa using c3)];refine ⟨J9 (by decide),fun p hp=>?_⟩;have s1:=Same.upd_new hp (HO.lst []);have g1:upd H p (HO.lst []) p=some (.lst []):=Jd;generalize upd H p (HO.lst [])=H1 at *;refine J2j ?_;walk_at "dc";have b0:0<=sd / 8 % 4:=zl _ (by decide);have b4:sd / 8 % 4<4:=zk _ (by decide);refine ⟨⟨by decide,by decide⟩,by decide,by omega,by omega,?_⟩;generalize hN:(sd / 8 % 4).toNat=N at *;have hN4:N<4:=by omega
  refine ForW.of J0F (fun j σ H'=>(∃ v5,σ=[some (V.int sd),some (V.ref d),some (V.int ((m+1:Nat):Int)),some (V.int (sd % 8)),some (V.ref p),v5])/\Same H H'/\∃ ys:List V,H' p=some (.lst ys)/\ys.length=j/\∀ y∈ys,TS m H' y) ⟨⟨none,rfl⟩,s1,[],g1,rfl,fun _ h=>nomatch h⟩ (fun _ _ _ _ _=>trivial) ?_ ?_
  ·rintro j x σ H2 hx ⟨⟨v5,rfl⟩,s2,ys,g2,hys,hS⟩
   obtain ⟨hj,rfl⟩:=J1R hx;walk_at "dc";rw [hm1];refine ⟨.inl ⟨rfl,_,.of g2⟩,_,_,rfl,_,d,ns,kds,m,rfl,by omega,hW.mono s2,fun H3 v s3 hv=>⟨p,_,_,rfl,rfl,s3 _ _ g2,?_,⟨_,rfl⟩,(s2.trans s3).set hp _,ys++[v],Jd,?_,?_⟩⟩
   ·rw [hys,sizeLine_eq]
    omega
   ·rw [zy,hys]
    rfl
   ·intro y hy
    have tt:=TSame.upd_no (o:=HO.lst (ys++[v])) (s3 _ _ g2) (fun _ h=>nomatch h);rcases zH.mp hy with hy | hy
    ·exact ((hS y hy).mono (Same.t s3)).mono tt
    ·rw [zv.mp hy]
     exact hv.mono tt
  ·rintro σ H2 ⟨⟨v5,rfl⟩,s2,ys,g2,hys,hS⟩
   rw [J0i] at hys;walk_at "dc";refine ⟨J9 (by decide),fun q hq=>?_⟩;have u:=Same.upd_new hq (HO.lst [V.str (Str.ofString "all"),V.str (Str.ofString "some")]);have gq:upd H2 q (HO.lst [V.str (Str.ofString "all"),V.str (Str.ofString "some")]) q=some (.lst [V.str (Str.ofString "all"),V.str (Str.ofString "some")]):=Jd;generalize upd H2 q (HO.lst [V.str (Str.ofString "all"),V.str (Str.ofString "some")])=H3 at *;refine ⟨⟨by decide,by decide⟩,by decide,J1x (.of gq) (zl _ (by decide)) (zk _ (by decide)) fun fm hfm=>?_⟩;refine ⟨ys,.inl ⟨.of (u _ _ g2),fun l hl=>⟨J9 (by decide),fun r hr=>?_⟩⟩⟩;have v1:=Same.upd_new hl (HO.tup ys);have v2:=Same.upd_new hr (HO.tup [fm,V.ref l]);obtain ⟨o,rfl⟩:∃ o,fm=.str (mw o):=by
    rcases (by omega:sd / 32 % 2=0\/sd / 32 % 2=1) with h | h
    ·rw [h] at hfm
     exact ⟨false,show fm=V.str (Str.ofString "all") by simpa using hfm.symm⟩
    ·rw [h] at hfm
     exact ⟨true,show fm=V.str (Str.ofString "some") by simpa using hfm.symm⟩
   exact k _ _ (((s2.trans u).trans v1).trans v2) (.inr (.inr ⟨r,l,ys,o,rfl,Jd,v2 _ _ Jd,by omega,fun y hy=>(hS y hy).mono (Same.t ((u.trans v1).trans v2))⟩))
theorem J4g (T:Txt w K mg f fd):∀ dp:Nat,FnOk P w K mg base CX0 (3+dp) (f 39) (fd 39) ["_law_seed","_law_world_here","_law_deep_here"] (J2M K dp)
 | 0=>⟨fun _ _ _ _ h=>zp h,fun _ _ _ _ _ _ _ _ _ _ _ _ _ h=>zp h⟩
 | dp+1=>st_l_sieve T dp (J4g T dp)
theorem J64 (z:Str)(ys:List Str):(Txt.join z ys).length=(ys.map (·.length)).sum+(ys.length - 1) * z.length:=size_glued z ys
theorem J5b {b:Nat}:∀ {ys:List Str},(∀ y∈ys,y.length<=b)->(ys.map (·.length)).sum<=ys.length * b
 | [],_=>by simp
 | y::ys,h=>by
   have h1:=h y zB;have h2:=J5b (ys:=ys) fun z hz=>h z (zA _ hz);rw [zD,sum_cons,length_cons,Nat.succ_mul];omega
theorem J9O {i:Int}(h:i.natAbs<10 ^ 60):(J1g i).length<=61:=(num_chars (J5W h).1).2.2
def J3j (K:Frag):Nat->Sp
 | 0=>fun _ _ _ _=>False
 | dp+1=>fun vs H Q _=>∃ (v:V) (m:Nat),vs=[v]/\m<=dp/\m<=3/\TS m H v/\∀ H' (r:Str),Same H H'->r.length<=80 * 4 ^ m->Q (.str r) H'
theorem st_l_text (T:Txt w K mg f fd)(dp:Nat)(ih:FnOk P w K mg base CX0 (1+dp) (f 40) (fd 40) ["_law_sieve_here"] (J3j K dp)):FnOk P w K mg base CX0 (1+dp+1) (f 40) (fd 40) ["_law_sieve_here"] (J3j K (dp+1)):=by
 walk_at "ok wq J4R"
 ·obtain ⟨v,m,rfl,_⟩:=h
  rfl
 ·obtain ⟨v,m,rfl,hm,hm3,hS,k⟩:=h
  refine ⟨_,(Jc (Js (Jj JN (Jq (Jt rfl) (pvl 0) Ja (fun _ _=>rfl)) Jf (Jn _))
   (Je (Jk (Jg Jp Jf (Jm T.wq ih (hr.mono (by omega)) rfl (by decide) rfl (pal rfl (Jq (Jt rfl) (pvl 0) Ja (fun _ _=>rfl)) Jb)))))
   Jl)
   (Jc (Js (Jj JN (Jq (Jt rfl) (pvl 0) Ja (fun _ _=>rfl)) Jf (Jn _))
   (Je (Jk (Jg Jp (Jq (Jt rfl) (pvl 0) Ja (fun _ _=>rfl)) Jf)))
   Jl)
   (Jc (Js (Jj (J8V rfl) (Jq (Jt rfl) (pvl 0) Ja (fun _ _=>rfl)) (J02 (pal rfl Jf (pal rfl Jf (pal rfl Jf Jb)))) rfl)
   (Je (Jk (Jg Jp (Jg Jp (Jq (Jt rfl) (pvl 0) Ja (fun _ _=>rfl)) (J0N (J2H hr) (J36 (JZ Jf Jf (JZ Jf Jf (JZ Jf Jf J34))) rfl rfl (cons_ne_nil _ _) (by show 3<=15;decide)) (Jq (Jt rfl) (pvl 0) Ja (fun _ _=>rfl)) (fun _ _=>rfl))) (J1v J80 T.yo J9o rfl (by decide) (by decide) rfl (pal rfl (Jq (Jt rfl) (pvl 0) Ja (fun _ _=>rfl)) Jb)))))
   Jl)
   (Jc (psl 1 J4R.nd (J0N (J2H hr) (J36 (JZ Jf Jf (JZ Jf Jf J34)) rfl rfl (cons_ne_nil _ _) (by show 2<=15;decide)) (Jq (Jt rfl) (pvl 0) Ja (fun _ _=>rfl)) (fun _ _=>rfl)))
   (Je (Jk (Jg Jp (Jg Jp (Jg Jp Jf (pvl 1)) (J2F rfl PySem.F.plainAttrs_str PySem.F.slot_str_join PySem.F.type_str_join (J6L rfl) rfl rfl rfl rfl (pvl 1) (pal rfl (J2q ["_law_part"] ["_law_sieve_here","_law_sign"] rfl (show CompSc _ (Ji J31) ["_law_sieve_here","_law_sign"] ["_law_sieve_here","_law_sign"] from J05 (by decide +kernel)) (J62 rfl (Jq (Jt rfl) (pvl 0) Ja (fun _ _=>rfl))) (fun _ _ _ _ _=>(pgl 0 (show (["_law_part","_law_sieve_here","_law_sign"]:List Str).Nodup by decide +kernel))) (fun _ _ _ _ _=>J1m) (fun _ _ _ _ _=>(Jm T.wq ih (hr.mono (by omega)) rfl (by decide) rfl (pal rfl (pvl 0) Jb)))) Jb))) Jf))))))),?_⟩
  walk_at "dc";have b80:80<=80 * 4 ^ m:=Nat.le_mul_of_pos_right 80 (Nat.pow_pos (by decide));have hS':Pn H v\/∃ m',m=m'+1/\((∃ p x,v=.ref p/\H p=some (.tup [.str "not",x])/\TS m' H x)\/(∃ p q ys o,v=.ref p/\H p=some (.tup [.str (mw o),.ref q])/\H q=some (.tup ys)/\ys.length<=3/\∀ y∈ys,TS m' H y)):=by
   cases m with
   | zero=>exact .inl hS
   | succ m=>exact hS.imp id fun h=>⟨m,rfl,h⟩
  clear hS;rcases hS' with ⟨p,w',n,x,rfl,hp,hn,hx⟩ | ⟨m',rfl,⟨p,x,rfl,hp,hx⟩ | ⟨p,q,ys,o,rfl,hp,hq,hyl,hys⟩⟩
  ·have nn:w'≠"not":=by rcases hx with ⟨rfl,_⟩ | ⟨rfl | rfl | rfl,_⟩<;>decide
   refine ⟨p,_,_,_,rfl,rfl,.of hp,Jh (j:=0) rfl,rfl,?_⟩;rw [zc (by simpa using nn)];refine ⟨p,_,_,_,rfl,rfl,.of hp,Jh (j:=0) rfl,rfl,?_⟩;rcases hx with ⟨rfl,rfl⟩ | ⟨hw,y,rfl,hy⟩
   ·rw [zd (by decide)]
    have l1:(Str.ofString "?").length=1:=by decide
    exact ⟨p,_,_,_,rfl,rfl,.of hp,Jh (j:=1) rfl,n,rfl,J9 (by omega),k H _ (Same.refl _) (by rw [Jr];omega)⟩
   ·have nl:w'≠"lacks":=by rcases hw with rfl | rfl | rfl<;>decide
    rw [zc (by simpa using nl)];refine ⟨p,_,_,_,rfl,rfl,.of hp,Jh (j:=0) rfl,J9 (by decide),fun q0 hq0=>⟨q0,_,rfl,.inl (.of Jd),by rfl,by decide,_,rfl,?_⟩⟩;have u:=Same.upd_new hq0 (HO.lst [V.str (Str.ofString "is"),V.str (Str.ofString "under"),V.str (Str.ofString "over")]);generalize upd H q0 (HO.lst [V.str (Str.ofString "is"),V.str (Str.ofString "under"),V.str (Str.ofString "over")])=H2 at *;have hin:inV (V.str w') [V.str (Str.ofString "is"),V.str (Str.ofString "under"),V.str (Str.ofString "over")]=true:=by rcases hw with rfl | rfl | rfl<;>decide
    rw [zc zf,zd hin];refine ⟨p,_,_,_,rfl,rfl,.of (u _ _ hp),Jh (j:=1) rfl,fun pd hpd=>⟨Jd,[(.inr "is",.str "="),(.inr "under",.str "<"),(.inr "over",.str ">")],rfl,(by show 3<=15;decide),?_⟩⟩;rw [J0K];have u2:=Same.upd_new hpd (HO.dK (JK [] [(.inr "is",.str "="),(.inr "under",.str "<"),(.inr "over",.str ">")]));have gd:upd H2 pd (HO.dK (JK [] [(.inr "is",.str "="),(.inr "under",.str "<"),(.inr "over",.str ">")])) pd=some (HO.dK (JK [] [(.inr "is",.str "="),(.inr "under",.str "<"),(.inr "over",.str ">")])):=Jd;generalize upd H2 pd (HO.dK (JK [] [(.inr "is",.str "="),(.inr "under",.str "<"),(.inr "over",.str ">")]))=H3 at *;have S3:=u.trans u2;obtain ⟨mk,gv,lm⟩:∃ mk:Str,J1H (JK [] [((.inr "is":Key),V.str "="),(.inr "under",.str "<"),(.inr "over",.str ">")]) (.inr w')=some (V.str mk)/\mk.length=1:=by
     rcases hw with rfl | rfl | rfl
     ·exact ⟨"=",by decide,by decide⟩
     ·exact ⟨"<",by decide,by decide⟩
     ·exact ⟨">",by decide,by decide⟩
    refine ⟨p,_,_,_,rfl,rfl,.of (S3 _ _ hp),Jh (j:=0) rfl,_,J4x gd gv,n,rfl,mk,rfl,J9 (by omega),p,_,_,_,rfl,rfl,.of (S3 _ _ hp),Jh (j:=2) rfl,?_⟩;rcases hy with ⟨z,rfl,hz⟩ | ⟨i,rfl,hi⟩
    ·exact .inr ⟨z,rfl,J9 (by rw [Jr];omega),k H3 _ S3 (by rw [Jr,Jr];omega)⟩
    ·have hnl:=J9O hi
     have e9:(⟨(J1g i).toArray⟩:Str).length=(J1g i).length:=J1l _;exact .inl ⟨i,rfl,Nat.lt_trans hi (by decide),J9 (by rw [Jr,e9];omega),k H3 _ S3 (by rw [Jr,Jr,e9];omega)⟩
  ·obtain ⟨e,rfl⟩:∃ e,dp=e+1:=⟨dp - 1,by omega⟩
   have e4:80 * 4 ^ (m'+1)=4 * (80 * 4 ^ m'):=by rw [Nat.pow_succ];omega
   have b81:80<=80 * 4 ^ m':=Nat.le_mul_of_pos_right 80 (Nat.pow_pos (by decide));have bb:80 * 4 ^ m'<=80 * 4 ^ 3:=Nat.mul_le_mul_left 80 (Nat.pow_le_pow_right (by decide) (by omega));rw [e4] at k;generalize 80 * 4 ^ m'=B at *;have l1:(Str.ofString "!").length=1:=by decide
   refine ⟨p,_,_,_,rfl,rfl,.of hp,Jh (j:=0) rfl,rfl,?_⟩;rw [zd (by decide)];refine ⟨p,_,_,_,rfl,rfl,.of hp,Jh (j:=1) rfl,x,m',rfl,by omega,by omega,hx,fun H1 r s1 hr=>⟨r,rfl,J9 (by omega),k H1 _ s1 (by rw [Jr];omega)⟩⟩
  ·have nn:mw o≠"not"/\mw o≠"lacks"/\inV (V.str (mw o)) [V.str (Str.ofString "is"),V.str (Str.ofString "under"),V.str (Str.ofString "over")]=false:=by cases o<;>exact ⟨by decide,by decide,by decide⟩
   have e4:80 * 4 ^ (m'+1)=4 * (80 * 4 ^ m'):=by rw [Nat.pow_succ];omega
   have b81:80<=80 * 4 ^ m':=Nat.le_mul_of_pos_right 80 (Nat.pow_pos (by decide));have bb:80 * 4 ^ m'<=80 * 4 ^ 3:=Nat.mul_le_mul_left 80 (Nat.pow_le_pow_right (by decide) (by omega));rw [e4] at k;refine ⟨p,_,_,_,rfl,rfl,.of hp,Jh (j:=0) rfl,rfl,?_⟩;rw [zc (by simpa using nn.1)];refine ⟨p,_,_,_,rfl,rfl,.of hp,Jh (j:=0) rfl,rfl,?_⟩;rw [zc (by simpa using nn.2.1)];refine ⟨p,_,_,_,rfl,rfl,.of hp,Jh (j:=0) rfl,J9 (by decide),fun q0 hq0=>⟨q0,_,rfl,.inl (.of Jd),by rfl,by decide,_,rfl,?_⟩⟩;have u:=Same.upd_new hq0 (HO.lst [V.str (Str.ofString "is"),V.str (Str.ofString "under"),V.str (Str.ofString "over")]);generalize upd H q0 (HO.lst [V.str (Str.ofString "is"),V.str (Str.ofString "under"),V.str (Str.ofString "over")])=H2 at *;rw [zc zf,nn.2.2,zc (by decide)];refine fun pd hpd=>⟨Jd,[(.inr "all",.str "&"),(.inr "some",.str "|")],rfl,(by show 2<=15;decide),?_⟩;rw [J0K];have u2:=Same.upd_new hpd (HO.dK (JK [] [(.inr "all",.str "&"),(.inr "some",.str "|")]));have gd:upd H2 pd (HO.dK (JK [] [(.inr "all",.str "&"),(.inr "some",.str "|")])) pd=some (HO.dK (JK [] [(.inr "all",.str "&"),(.inr "some",.str "|")])):=Jd;generalize upd H2 pd (HO.dK (JK [] [(.inr "all",.str "&"),(.inr "some",.str "|")]))=H3 at *;have S3:=u.trans u2;obtain ⟨mk,gv,lm⟩:∃ mk:Str,J1H (JK [] [((.inr "all":Key),V.str "&"),(.inr "some",.str "|")]) (.inr (mw o))=some (V.str mk)/\mk.length=1:=by
    cases o
    ·exact ⟨"&",by decide,by decide⟩
    ·exact ⟨"|",by decide,by decide⟩
   refine ⟨p,_,_,_,rfl,rfl,.of (S3 _ _ hp),Jh (j:=0) rfl,_,J4x gd gv,?_⟩;have lb1:(Str.ofString "(").length=1:=by decide
   have lb2:(Str.ofString ")").length=1:=by decide
   refine ⟨mk,rfl,J9 (by omega),rfl,p,_,_,_,rfl,rfl,.of (S3 _ _ hp),Jh (j:=1) rfl,q,rfl,⟨_,.of (S3 _ _ hq)⟩,?_⟩;refine J14 (J2X (xs:=ys)) (J9 (by omega)) (fun i us H'=>Same H3 H'/\∃ zs:List Str,us=zs.map V.str/\zs.length=i/\∀ z∈zs,z.length<=80 * 4 ^ m') ⟨Same.refl _,[],rfl,rfl,fun _ h=>nomatch h⟩ (fun _ _ H' _ q'=>(S3.trans q'.1).seqT (.of hq)) (fun i us H' q'=>by obtain ⟨_,zs,rfl,hl,_⟩:=q';rw [zu];omega) (fun i x us H4 hx q'=>?_) (fun us H4 q' D hD=>?_)
   ·obtain ⟨t1,zs,rfl,hl,hb⟩:=q'
    obtain ⟨e,rfl⟩:∃ e,dp=e+1:=⟨dp - 1,by omega⟩;walk_at "dc";refine ⟨x,m',rfl,by omega,by omega,(hys x (zx hx)).mono (S3.trans t1).t,fun H5 r s5 hr=>⟨⟨_,rfl⟩,t1.trans s5,zs++[r],by rw [zG];rfl,by rw [zy,hl];rfl,fun z hz=>?_⟩⟩;rcases zH.mp hz with h | h
    ·exact hb z h
    ·rw [zv.mp h];exact hr
   ·obtain ⟨t1,zs,rfl,hl,hb⟩:=q'
    have sb:=J5b hb;have sl:zs.length * (80 * 4 ^ m')<=3 * (80 * 4 ^ m'):=Nat.mul_le_mul_right _ (by omega);have jl:=J64 mk zs;rw [lm,Nat.mul_one] at jl;generalize 80 * 4 ^ m'=B at *;refine ⟨mk,D,zs,rfl,rfl,.of Jd,by rw [lm,Nat.mul_one];omega,_,rfl,J9 (by rw [Jr];omega),J9 (by rw [Jr,Jr];omega),k _ _ ((S3.trans t1).new hD _) (by rw [Jr,Jr,Jr];omega)⟩
theorem J3z (T:Txt w K mg f fd):∀ dp:Nat,FnOk P w K mg base CX0 (1+dp) (f 40) (fd 40) ["_law_sieve_here"] (J3j K dp)
 | 0=>⟨fun _ _ _ _ h=>zp h,fun _ _ _ _ _ _ _ _ _ _ _ _ _ h=>zp h⟩
 | dp+1=>st_l_text T dp (J3z T dp)
theorem J6T (z:Str)(lo hi:Option Int):(⟨(J03 z.cps.toList lo hi).toArray⟩:Str).length<=z.length:=by
 show (J03 z.cps.toList lo hi).toArray.size<=_;rw [zw,<- J0n z];exact J4u _ _ _
theorem J9X {i:Int}(hz:z.length<=sizeLine)(h0:-(z.length:Int)<=i)(h1:i<z.length)(q:∀ c∈z.cps.toList,Q (sgn c) H):J9B (.str z) (.int i) H Q:=by
 have hl:z.cps.toList.length=z.length:=by simp [Str.length]
 by_cases hi:0<=i
 ·exact J3D hz hi h1 fun c hc=>q c (zx hc)
 ·have hj:(i+(z.cps.toList.length:Int)).toNat<z.cps.toList.length:=by omega
  refine ⟨z,i,z.cps.toList[(i+(z.cps.toList.length:Int)).toNat],rfl,rfl,hz,?_,q _ (getElem_mem hj)⟩;unfold atI ixN;rw [zc hi,zd (by omega)];exact zr hj
def J5K (K:Frag):Sp:=fun vs H Q _=>∃ (z:Str) (i:Int),vs=[.str z,.int i]/\z.length<=30000/\∀ r:Str,r.length<=12 * z.length+100->Q (.str r) H
theorem ok_l_spoilt (T:Txt w K mg f fd):FnOk P w K mg base CX0 2 (f 49) (fd 49) ["_law_text_here","_law_seed"] (J5K K):=by
 walk_at "ok wQ J1j"
 ·obtain ⟨z,i,rfl,_⟩:=h
  rfl
 ·obtain ⟨z,i,rfl,hz,k⟩:=h
  refine ⟨_,(Jc (psl 2 J1j.nd (Jg JF (Jm T.we (JT T) (hr.mono (by decide)) rfl (by decide) rfl (pal rfl (pvl 1) (pal rfl Ja Jb))) (Jg JE (JR Jz T.wc JY rfl (by decide) (by decide) rfl (pal rfl (pvl 0) Jb)) Ja)))
   (Jc (psl 3 J1j.nd (Jg Jp Jf (pvl 0)))
   (Jc (psl 4 J1j.nd (Jq J2h (pvl 3) (Jg JF (Jm T.we (JT T) (hr.mono (by decide)) rfl (by decide) rfl (pal rfl (pvl 1) (pal rfl Ja Jb))) (JR Jz T.wc JY rfl (by decide) (by decide) rfl (pal rfl (pvl 3) Jb))) (fun _ _=>rfl)))
   (Jc (Js (Jj JN (Jg JF (pvl 1) Ja) Ja (Jn _))
   (Je (Jk (Jg Jp (Jg Jp (JA JU (pvl 0) J0a (Jv (pvl 2))) (pvl 4)) (JA JU (pvl 0) (Jv (pvl 2)) J0a))))
   Jl)
   (Jc (Js (Jj JN (Jg JF (pvl 1) Ja) Ja (Jn _))
   (Je (Jk (Jg Jp (JA JU (pvl 0) J0a (Jv (pvl 2))) (JA JU (pvl 0) (Jv (Jg JE (pvl 2) Ja)) J0a))))
   Jl)
   (Jc (Js (Jj JN (Jg JF (pvl 1) Ja) Ja (Jn _))
   (Je (Jk (Jg Jp (Jg Jp (JA JU (pvl 0) J0a (Jv (pvl 2))) (pvl 4)) (JA JU (pvl 0) (Jv (Jg JE (pvl 2) Ja)) J0a))))
   Jl)
   (Jc (J9F T.yJ 0 (Jg JF (pvl 1) Ja) (J7d 0) (J8H J9z (J8H J8q (J7d 1) J7e) J7e)
   Jl (by decide) rfl)
   (Je (Jk (Jg Jp (Jg Jp (Jg Jp (Jg Jp Jf (pvl 0)) Jf) (JA JU (pvl 0) (Jv (pvl 2)) J0a)) Jf)))))))))),?_⟩
  walk_at "dc";have l17:(Str.ofString "&|!()?=<>-07az A\n").length=17:=by decide
  have lsg:(Str.ofString "&|!()?=<>-07az A\n"++z).length=17+z.length:=by rw [Jr,l17]
  refine ⟨_,_,rfl,J9 (by omega),_,rfl,by omega,J9 (by omega),_,_,rfl,J9 (by omega),_,rfl,by omega,?_⟩;generalize J5Z i 1 % ((z.length:Int)+1)=at0;have hpos:(0:Int)<((Str.ofString "&|!()?=<>-07az A\n"++z).length:Int):=by omega
  have m0:=zl (J5Z i 2) (Int.ne_of_gt hpos);have m1:=zk (J5Z i 2) hpos;refine J9X (J9 (by omega)) (by omega) m1 fun c hc=>⟨by decide,?_⟩;have c1:=J6T z none (some at0);have c2:=J6T z (some at0) none;have c3:=J6T z (some (at0+1)) none;generalize (⟨(J03 z.cps.toList none (some at0)).toArray⟩:Str)=A at *;generalize (⟨(J03 z.cps.toList (some at0) none).toArray⟩:Str)=B at *;generalize (⟨(J03 z.cps.toList (some (at0+1)) none).toArray⟩:Str)=C at *;have lc:(⟨#[c]⟩:Str).length=1:=rfl;unfold sgn
  split
  ·exact ⟨J9 (by omega),_,rfl,J9 (by omega),J9 (by omega),J9 (by rw [Jr];omega),k _ (by rw [Jr,Jr];omega)⟩
  ·refine ⟨by decide,?_⟩
   split
   ·exact ⟨J9 (by omega),J9 (by omega),J9 (by omega),k _ (by rw [Jr];omega)⟩
   ·refine ⟨by decide,?_⟩
    split
    ·exact ⟨J9 (by omega),_,rfl,J9 (by omega),J9 (by omega),J9 (by rw [Jr];omega),k _ (by rw [Jr,Jr];omega)⟩
    ·refine ⟨by decide,?_⟩
     split
     ·have l11:(Str.ofString "qqqqqqqqqq=").length=11:=by decide
      exact ⟨by omega,⟨by decide,by decide⟩,by decide,fun r hr=>k r (by rw [l11] at hr;omega)⟩
     ·have a1:(Str.ofString "(&").length=2:=by decide
      have a2:(Str.ofString "&").length=1:=by decide
      have a3:(Str.ofString ")").length=1:=by decide
      exact ⟨J9 (by omega),J9 (by rw [Jr];omega),J9 (by omega),J9 (by rw [Jr,Jr];omega),J9 (by rw [Jr,Jr,Jr];omega),k _ (by rw [Jr,Jr,Jr,Jr];omega)⟩
theorem J2e {x:Str}(h0:0<=n)(h:n<=999)(hx:x.length<=2):MulOk x n:=PyProof.Rows.mulOk_of 2 999 hx h (by omega) (by decide) (by decide)
theorem J2R (x:Str)(_:0<=n)(h:n<=999):(Txt.mul x n).length<=x.length * 999:=PyProof.Rows.len_mul_leN (ze _) h
def J7x (K:Frag):Sp:=fun vs H Q _=>∃ (z:Str) (i:Int),vs=[.str z,.int i]/\z.length<=100/\∀ H' (r:Str),Same H H'->r.length<=20000->Q (.str r) H'
theorem ok_l_deep (T:Txt w K mg f fd):FnOk P w K mg base CX0 1 (f 50) (fd 50) ["_law_text_here","_law_seed"] (J7x K):=by
 walk_at "ok ye J4S"
 ·obtain ⟨z,i,rfl,_⟩:=h
  rfl
 ·obtain ⟨z,i,rfl,hz,k⟩:=h
  refine ⟨_,(Jc (psl 2 J4S.nd (Jq (J1d rfl) (J02 (pal rfl Ja (pal rfl Ja (pal rfl Ja (pal rfl Ja (pal rfl Ja (pal rfl Ja (pal rfl Ja (pal rfl Ja Jb))))))))) (Jg JF (pvl 1) Ja) (fun _ _=>rfl)))
   (Jc (Js (Jj JN (Jg JF (Jg J0b (pvl 1) Ja) Ja) Ja (Jn _))
   (Je (Jk (Jg Jp (Jg J1b Jf (pvl 2)) (pvl 0))))
   Jl)
   (Jc (Js (Jj JN (Jg JF (Jg J0b (pvl 1) Ja) Ja) Ja (Jn _))
   (Je (Jk (Jg Jp (Jg Jp (Jg J1b Jf (pvl 2)) (pvl 0)) (Jg J1b Jf (pvl 2)))))
   Jl)
   (Je (Jk (Jg Jp (Jg Jp Jf (J2F rfl PySem.F.plainAttrs_str PySem.F.slot_str_join PySem.F.type_str_join (J6L rfl) rfl rfl rfl rfl Jf (pal rfl (Jg JaN (J02 (pal rfl (pvl 0) Jb)) (Jq (J1d rfl) (J02 (pal rfl Ja (pal rfl Ja (pal rfl Ja (pal rfl Ja (pal rfl Ja (pal rfl Ja (pal rfl Ja (pal rfl Ja Jb))))))))) (Jg JF (pvl 1) Ja) (fun _ _=>rfl))) Jb))) Jf)))))),?_⟩
  walk_at "dc";have i0:=zl i (show (8:Int)≠0 by decide);have i1:=zk i (show (0:Int)<8 by decide);have pick:∀ (f0 f1 f2 f3 f4 f5 f6 f7 b:Int) (y:V),([V.int f0,V.int f1,V.int f2,V.int f3,V.int f4,V.int f5,V.int f6,V.int f7]:List V)[(i % 8).toNat]?=some y->(0<=f0/\0<=f1/\0<=f2/\0<=f3/\0<=f4/\0<=f5/\0<=f6/\0<=f7)->(f0<=b/\f1<=b/\f2<=b/\f3<=b/\f4<=b/\f5<=b/\f6<=b/\f7<=b)->∃ n,y=.int n/\0<=n/\n<=b:=by
   intro f0 f1 f2 f3 f4 f5 f6 f7 b y hy h0 h1;generalize (i % 8).toNat=j at *
   match j,hy with
   | 0,h=>cases h;exact ⟨_,rfl,h0.1,h1.1⟩
   | 1,h=>cases h;exact ⟨_,rfl,h0.2.1,h1.2.1⟩
   | 2,h=>cases h;exact ⟨_,rfl,h0.2.2.1,h1.2.2.1⟩
   | 3,h=>cases h;exact ⟨_,rfl,h0.2.2.2.1,h1.2.2.2.1⟩
   | 4,h=>cases h;exact ⟨_,rfl,h0.2.2.2.2.1,h1.2.2.2.2.1⟩
   | 5,h=>cases h;exact ⟨_,rfl,h0.2.2.2.2.2.1,h1.2.2.2.2.2.1⟩
   | 6,h=>cases h;exact ⟨_,rfl,h0.2.2.2.2.2.2.1,h1.2.2.2.2.2.2.1⟩
   | 7,h=>cases h;exact ⟨_,rfl,h0.2.2.2.2.2.2.2,h1.2.2.2.2.2.2.2⟩
   | _+8,h=>simp at h
  refine ⟨J9 (by decide),fun p hp=>⟨by decide,?_⟩⟩;have u1:=Same.upd_new hp (HO.lst [V.int 7,V.int 8,V.int 9,V.int 10,V.int 11,V.int 12,V.int 13,V.int 999]);have g1:upd H p (HO.lst [V.int 7,V.int 8,V.int 9,V.int 10,V.int 11,V.int 12,V.int 13,V.int 999]) p=some (.lst [V.int 7,V.int 8,V.int 9,V.int 10,V.int 11,V.int 12,V.int 13,V.int 999]):=Jd;generalize upd H p (HO.lst [V.int 7,V.int 8,V.int 9,V.int 10,V.int 11,V.int 12,V.int 13,V.int 999])=H1 at *;refine J1x (.of g1) i0 i1 fun y hy=>⟨⟨by decide,by decide⟩,by decide,?_⟩;obtain ⟨n,rfl,n0,n1⟩:=pick _ _ _ _ _ _ _ _ 999 y hy (by decide) (by decide);have mk1:=J2R (Str.ofString "!") n0 n1;have mk2:=J2R (Str.ofString "(&") n0 n1;have mk3:=J2R (Str.ofString ")") n0 n1;have ma1:(Str.ofString "!").length=1:=by decide
  have ma2:(Str.ofString "(&").length=2:=by decide
  have ma3:(Str.ofString ")").length=1:=by decide
  split
  ·exact ⟨n,rfl,J2e n0 n1 (by decide),J9 (by omega),k H1 _ u1 (by rw [Jr];omega)⟩
  ·refine ⟨⟨by decide,by decide⟩,by decide,?_⟩
   split
   ·exact ⟨n,rfl,J2e n0 n1 (by decide),J9 (by omega),n,rfl,J2e n0 n1 (by decide),J9 (by rw [Jr];omega),k H1 _ u1 (by rw [Jr,Jr];omega)⟩
   ·refine ⟨rfl,J9 (by decide),fun p1 hp1=>⟨J9 (by decide),fun p2 hp2=>⟨by decide,?_⟩⟩⟩
    have u2:=(u1.new hp1 (HO.lst [V.str z])).new hp2 (HO.lst [V.int 1,V.int 9,V.int 19,V.int 20,V.int 29,V.int 30,V.int 59,V.int 60]);have g2:upd (upd H1 p1 (HO.lst [V.str z])) p2 (HO.lst [V.int 1,V.int 9,V.int 19,V.int 20,V.int 29,V.int 30,V.int 59,V.int 60]) p2=some (.lst [V.int 1,V.int 9,V.int 19,V.int 20,V.int 29,V.int 30,V.int 59,V.int 60]):=Jd;have g3:upd (upd H1 p1 (HO.lst [V.str z])) p2 (HO.lst [V.int 1,V.int 9,V.int 19,V.int 20,V.int 29,V.int 30,V.int 59,V.int 60]) p1=some (.lst [V.str z]):=(Same.upd_new hp2 _) _ _ Jd;generalize upd (upd H1 p1 (HO.lst [V.str z])) p2 (HO.lst [V.int 1,V.int 9,V.int 19,V.int 20,V.int 29,V.int 30,V.int 59,V.int 60])=H2 at *;refine J1x (.of g2) i0 i1 fun y hy2=>?_;obtain ⟨m,rfl,m0,m1⟩:=pick _ _ _ _ _ _ _ _ 60 y hy2 (by decide) (by decide);have ef:(List.replicate m.toNat [V.str z]).flatten=(List.replicate m.toNat z).map V.str:=by
     rw [map_replicate]
     induction m.toNat with
     | zero=>rfl
     | succ j ih=>rw [replicate_succ,flatten_cons,ih,replicate_succ];rfl
    have sb:=J5b (b:=100) (ys:=List.replicate m.toNat z) fun y hy=>by rw [eq_of_mem_replicate hy];exact hz
    rw [zP] at sb;have jl:=J64 (Str.ofString "|") (List.replicate m.toNat z);have lb:(Str.ofString "|").length=1:=by decide
    have lb2:(Str.ofString "(|").length=2:=by decide
    have lb3:(Str.ofString ")").length=1:=by decide
    rw [lb,zP,Nat.mul_one] at jl;have mm:m.toNat<=60:=by omega
    refine ⟨p1,m,_,rfl,rfl,g3,by omega,by omega,by rw [sizeLine_eq];show 1 * m.toNat<=_;omega,fun p3 hp3=>?_⟩;rw [ef];refine ⟨_,p3,_,rfl,rfl,.of Jd,by rw [lb,zP,Nat.mul_one];omega,_,rfl,J9 (by omega),J9 (by rw [Jr];omega),k _ _ (u2.new hp3 _) (by rw [Jr,Jr];omega)⟩
theorem J3K {x1 x2:Str}(h1:J0S x1)(h2:J0S x2):SeqAt.shaped (.tuple [.str x1,.str x2])=true:=by
 simp [SeqAt.shaped,PyData.canLay0,PyData.canLayAll0,PyData.depth,PyData.depthAll,J1y h1,J1y h2]
theorem J6R {K:Frag}{a b:Addr}{x1 x2 y1 y2:Str}{neg:Bool}(h1:H a=some (.tup [.str x1,.str x2]))(h2:H b=some (.tup [.str y1,.str y2]))(v1:J0S x1)(v2:J0S x2)(w1:J0S y1)(w2:J0S y2)
 (q:Q (.bl (if neg then !(decide (x1=y1)&&decide (x2=y2)) else (decide (x1=y1)&&decide (x2=y2)))) H):J8B K neg (.ref a) (.ref b) H Q:=by
 have r:∀ c z1 z2,H c=some (.tup [.str z1,.str z2])->Rep K H (.tuple [.str z1,.str z2]) (.ref c):=fun c z1 z2 hc=>by
  simp only [Rep];exact ⟨c,_,rfl,.of hc,by simp [Reps,Rep]⟩
 refine ⟨_,_,r a _ _ h1,r b _ _ h2,J3K v1 v2,J3K w1 w2,?_⟩;have e:PyData.eqv (.tuple [.str x1,.str x2]) (.tuple [.str y1,.str y2])=(decide (x1=y1)&&decide (x2=y2)):=by
  by_cases c1:x1=y1<;>by_cases c2:x2=y2<;>simp [PyData.eqv,PyData.eqvAll,c1,c2]
 rw [e];exact q
mutual
def Fin:Rv->Prop
 | .pl w n x=>Nam n/\J0S w/\(x=none\/(∃ t,x=some (.str t)/\LFD t)\/∃ i,x=some (.int i))
 | .neg s=>Fin s
 | .many _ ss=>J6X ss
def J6X:List Rv->Prop
 | []=>True
 | s::ss=>Fin s/\J6X ss
end
def JbU (d:Nat):Ou Rv->Prop
 | .fld n=>Nam n
 | .knd n=>Nam n
 | .ok s=>Fin s/\dep s<=d
def JbH (d:Nat):Ou (List Rv)->Prop
 | .fld n=>Nam n
 | .knd n=>Nam n
 | .ok s=>J6X s/\J3f s<=d
theorem J7L {t:Str}(h:LFD t):J0S t:=fun c hc=>by
 have h':=of_decide_eq_true (h.2.2 c hc)
 revert h'
 have:∀ c∈(Jy++JG++J7W).cps.toList,c<1114112:=by decide +kernel
 exact this c
mutual
theorem BK_ok {ns kds:List Str}:∀ {s:Rv},Wf s->JbU (dep s) (BK ns kds s)
 | .pl w n x,h=>by
   rw [Wf] at h;rw [BK];unfold BKp;obtain ⟨hn,hx⟩:=h;have vw:J0S w:=by rcases hx with ⟨rfl,_⟩ | ⟨rfl,_⟩ | ⟨rfl | rfl,_⟩<;>(intro c hc;revert c;decide +kernel)
   cases J2S ns kds n with
   | none=>exact hn
   | some kd =>
     dsimp only;rcases hx with ⟨rfl,rfl⟩ | hx
     ·exact ⟨by rw [Fin];exact ⟨hn,vw,.inl rfl⟩,by simp only [dep];exact ze _⟩
     ·obtain ⟨t,rfl,ht⟩:∃ t,x=some (.str t)/\LFD t:=by
       rcases hx with ⟨_,t,rfl,ht⟩ | ⟨_,t,rfl,ht,_⟩
       ·exact ⟨t,rfl,ht⟩
       ·exact ⟨t,rfl,ht⟩
      dsimp only
      split
      ·split
       ·exact ⟨by rw [Fin];exact ⟨hn,vw,.inr (.inl ⟨t,rfl,ht⟩)⟩,by simp only [dep];exact ze _⟩
       ·exact hn
      ·split
       ·exact ⟨by rw [Fin];exact ⟨hn,vw,.inr (.inr ⟨_,rfl⟩)⟩,by simp only [dep];exact ze _⟩
       ·exact hn
 | .neg s,h=>by
   rw [Wf] at h;have:=BK_ok (ns:=ns) (kds:=kds) h;rw [BK];cases hb:BK ns kds s with
   | fld n=>rw [hb] at this;exact this
   | knd n=>rw [hb] at this;exact this
   | ok s'=>rw [hb] at this;exact ⟨by rw [Fin];exact this.1,by simp only [dep];have:=this.2;omega⟩
 | .many o ss,h=>by
   rw [Wf] at h;have:=BKs_ok (ns:=ns) (kds:=kds) h;rw [BK];cases hb:BKs ns kds ss with
   | fld n=>rw [hb] at this;exact this
   | knd n=>rw [hb] at this;exact this
   | ok s'=>rw [hb] at this;exact ⟨by rw [Fin];exact this.1,by simp only [dep];have:=this.2;omega⟩
theorem BKs_ok {ns kds:List Str}:∀ {ss:List Rv},Wfs ss->JbH (J3f ss) (BKs ns kds ss)
 | [],_=>by
   rw [BKs];exact ⟨by rw [J6X];trivial,by simp only [J3f];exact ze _⟩
 | s :: ss,h=>by
   rw [Wfs] at h;have a:=BK_ok (ns:=ns) (kds:=kds) h.1;have b:=BKs_ok (ns:=ns) (kds:=kds) h.2;rw [BKs];cases hb:BK ns kds s with
   | fld n=>rw [hb] at a;exact a
   | knd n=>rw [hb] at a;exact a
   | ok s' =>
     rw [hb] at a;dsimp only;cases hc:BKs ns kds ss with
     | fld n=>rw [hc] at b;exact b
     | knd n=>rw [hc] at b;exact b
     | ok ss' =>
       rw [hc] at b;refine ⟨by rw [J6X];exact ⟨a.1,b.1⟩,?_⟩;have h1:=a.2;have h2:=b.2;simp only [J3f];omega
end
def vD:V->PyData
 | .int i=>.int i
 | .str z=>.str z
 | _=>.none
mutual
def rD:Rv->PyData
 | .pl w n x=>.tuple (.str w::.str n::x.toList.map vD)
 | .neg s=>.tuple [.str "not",rD s]
 | .many o ss=>.tuple [.str (mw o),.tuple (rDs ss)]
def rDs:List Rv->List PyData
 | []=>[]
 | s::ss=>rD s::rDs ss
end
theorem Jbu (o:Bool):PyData.strOk (mw o)=true:=by cases o<;>decide +kernel
mutual
theorem J79 {K:Frag}{H:Hp}:∀ {s:Rv} {v:V},Rx H s v->Fin s->Rep K H (rD s) v/\PyData.canLay0 (rD s)=true/\PyData.depth (rD s)<=2 * dep s/\PyData.eqv (rD s) (rD s)=true
 | .pl w n x,v,h,g=>by
   simp only [Rx] at h;rw [Fin] at g;obtain ⟨p,rfl,hp⟩:=h;obtain ⟨hn,hw,hx⟩:=g;have sn:=J1y (show J0S n from fun c hc=>J6K c (hn.2.2 c hc));have sw:=J1y hw;rcases hx with rfl | ⟨t,rfl,ht⟩ | ⟨i,rfl⟩
   ·refine ⟨by simp only [rD,Rep];exact ⟨p,_,rfl,.of hp,by simp [Reps,Rep]⟩,by simp [rD,PyData.canLay0,PyData.canLayAll0,sn,sw],by simp [rD,PyData.depth,PyData.depthAll,dep],by simp [rD,PyData.eqv,PyData.eqvAll]⟩
   ·have st:=J1y (J7L ht)
    refine ⟨by simp only [rD,Rep];exact ⟨p,_,rfl,.of hp,by simp [Reps,Rep,vD]⟩,by simp [rD,vD,PyData.canLay0,PyData.canLayAll0,sn,sw,st],by simp [rD,vD,PyData.depth,PyData.depthAll,dep],by simp [rD,vD,PyData.eqv,PyData.eqvAll]⟩
   ·refine ⟨by simp only [rD,Rep];exact ⟨p,_,rfl,.of hp,by simp [Reps,Rep,vD]⟩,by simp [rD,vD,PyData.canLay0,PyData.canLayAll0,sn,sw],by simp [rD,vD,PyData.depth,PyData.depthAll,dep],by simp [rD,vD,PyData.eqv,PyData.eqvAll]⟩
 | .neg s,v,h,g=>by
   simp only [Rx] at h;rw [Fin] at g;obtain ⟨p,x,rfl,hp,hs⟩:=h;obtain ⟨r1,r2,r3,r4⟩:=J79 (K:=K) hs g;refine ⟨by simp only [rD,Rep,Reps];exact ⟨p,_,rfl,.of hp,_,_,rfl,rfl,_,_,rfl,r1,rfl⟩,by simp [rD,PyData.canLay0,PyData.canLayAll0,r2,show PyData.strOk "not"=true by decide +kernel],?_,by simp [rD,PyData.eqv,PyData.eqvAll,r4]⟩;simp only [rD,PyData.depth,PyData.depthAll,dep];omega
 | .many o ss,v,h,g=>by
   simp only [Rx] at h;rw [Fin] at g;obtain ⟨p,q,xs,rfl,hp,hq,hs⟩:=h;obtain ⟨r1,r2,r3,r4⟩:=J8C (K:=K) hs g;refine ⟨?_,by simp [rD,PyData.canLay0,PyData.canLayAll0,r2,Jbu],?_,by simp [rD,PyData.eqv,PyData.eqvAll,r4]⟩
   ·simp only [rD,Rep,Reps]
    exact ⟨p,_,rfl,.of hp,_,_,rfl,rfl,_,_,rfl,⟨q,xs,rfl,.of hq,r1⟩,rfl⟩
   ·simp only [rD,PyData.depth,PyData.depthAll,dep]
    omega
theorem J8C {K:Frag}{H:Hp}:∀ {ss:List Rv} {xs:List V},Rxs H ss xs->J6X ss->Reps K H (rDs ss) xs/\PyData.canLayAll0 (rDs ss)=true/\PyData.depthAll (rDs ss)<=2 * J3f ss/\PyData.eqvAll (rDs ss) (rDs ss)=true
 | [],xs,h,_=>by
   simp only [Rxs] at h;subst h;exact ⟨by simp [rDs,Reps],by simp [rDs,PyData.canLayAll0],by simp [rDs,PyData.depthAll],by simp [rDs,PyData.eqvAll]⟩
 | s::ss,xs,h,g=>by
   simp only [Rxs] at h;rw [J6X] at g;obtain ⟨x,r,rfl,h1,h2⟩:=h;obtain ⟨a1,a2,a3,a4⟩:=J79 (K:=K) h1 g.1;obtain ⟨b1,b2,b3,b4⟩:=J8C (K:=K) h2 g.2;refine ⟨by simp only [rDs,Reps];exact ⟨x,r,rfl,a1,b1⟩,by simp [rDs,PyData.canLayAll0,a2,b2],?_,by simp [rDs,PyData.eqvAll,a4,b4]⟩;simp only [rDs,PyData.depthAll,J3f];omega
end
theorem DuAt.mono (h:DuAt ns kds z H v)(t:TSame H H'):DuAt ns kds z H' v :=
 ⟨fun s hs hc=>(h.1 s hs hc).mono t,fun hno=>let ⟨p,e,g⟩:=h.2 hno;⟨p,e,t _ _ g⟩⟩
theorem du_eq {K:Frag}{v':V}(h:DuAt ns kds z H v)(h':DuAt ns kds z H v')(q:Q (.bl false) H):J8B K true v v' H Q:=by
 have ve:J0S "":=fun c hc=>by revert c;decide
 by_cases hs:∃ s,Rd 12 z.cps.toList=some (s,[])/\cnt s<=60
 ·obtain ⟨s,hs,hc⟩:=hs
  have a:=h.1 s hs hc;have b:=h'.1 s hs hc;have wf:=Rd_ok hs;have ok:=BK_ok (ns:=ns) (kds:=kds) wf.1;cases hb:BK ns kds s with
  | fld n =>
    rw [hb] at a b ok;obtain ⟨p,rfl,hp⟩:=a;obtain ⟨p',rfl,hp'⟩:=b;have vn:J0S n:=fun c hc=>J6K c (ok.2.2 c hc);have vf:J0S "field":=by intro c hc;revert c;decide +kernel
    refine J6R hp hp' vf vn vf vn ?_;simpa using q
  | knd n =>
    rw [hb] at a b ok;obtain ⟨p,rfl,hp⟩:=a;obtain ⟨p',rfl,hp'⟩:=b;have vn:J0S n:=fun c hc=>J6K c (ok.2.2 c hc);have vf:J0S "kind":=by intro c hc;revert c;decide +kernel
    refine J6R hp hp' vf vn vf vn ?_;simpa using q
  | ok s' =>
    rw [hb] at a b ok;obtain ⟨p,x,rfl,hp,hx⟩:=a;obtain ⟨p',x',rfl,hp',hx'⟩:=b;obtain ⟨r1,r2,r3,r4⟩:=J79 (K:=K) hx ok.1;obtain ⟨r1',_,_,_⟩:=J79 (K:=K) hx' ok.1;have d1:=ok.2;have d2:=wf.2;have sh:SeqAt.shaped (.tuple [.str "right",rD s'])=true:=by
     unfold SeqAt.shaped;simp only [PyData.canLay0,PyData.canLayAll0,PyData.depth,PyData.depthAll,r2,show PyData.strOk "right"=true by decide +kernel,Bool.true_and];exact zg (by omega)
    refine ⟨.tuple [.str "right",rD s'],.tuple [.str "right",rD s'],?_,?_,sh,sh,?_⟩
    ·simp only [Rep,Reps]
     exact ⟨p,_,rfl,.of hp,_,_,rfl,rfl,_,_,rfl,r1,rfl⟩
    ·simp only [Rep,Reps]
     exact ⟨p',_,rfl,.of hp',_,_,rfl,rfl,_,_,rfl,r1',rfl⟩
    ·simpa [PyData.eqv,PyData.eqvAll,r4] using q
 ·have hno:∀ s,Rd 12 z.cps.toList=some (s,[])->60<cnt s:=fun s h1=>by
   apply Nat.lt_of_not_ge;exact fun h2=>hs ⟨s,h1,h2⟩
  obtain ⟨p,rfl,hp⟩:=h.2 hno;obtain ⟨p',rfl,hp'⟩:=h'.2 hno;have vf:J0S "none":=by intro c hc;revert c;decide +kernel
  refine J6R hp hp' vf ve vf ve ?_;simpa using q
def J5d (K:Frag):Sp:=fun vs H Q _=>∃ (a:Addr) (ns:List Int),vs=[.ref a]/\SqL K H a (ns.map V.int)/\ns.length<=63/\∀ H',Q (.bl true) H'
theorem ok_law (T:Txt w K mg f fd):FnOk P w K mg base CX0 36 (f 51) (fd 51) ["_law_script"] (J5d K):=by
 walk_at "ok yf J0T"
 ·obtain ⟨a,ns,rfl,_⟩:=h
  rfl
 ·obtain ⟨a,ns0,rfl,hs,_,k⟩:=h
  refine ⟨_,(Jc (psl 1 J0T.nd (Jm T.w9 (ok_l_world T) (hr.mono (by decide)) rfl (by decide) rfl (pal rfl (pvl 0) Jb)))
   (Jc (psl 2 J0T.nd (J0N (J2H hr) (pvl 1) Jf (fun _ _=>rfl)))
   (Jc (psl 3 J0T.nd (Jq (Jt rfl) (Jq (J1d rfl) (pvl 2) Ja (fun _ _=>rfl)) Ja (fun _ _=>rfl)))
   (Jc (J2a PassesOwn.never rfl (J13 rfl T.wp (pal rfl Ja Jb)) (pgl 4 J0T.nd)
   (Jc (psl 5 J0T.nd (Jm T.we (JT T) (hr.mono (by decide)) rfl (by decide) rfl (pal rfl (Jg JE (Jm T.wK (J37 T) (hr.mono (by decide)) rfl (by decide) rfl (pal rfl (pvl 0) (pal rfl (Jg JE Ja (pvl 4)) Jb))) (pvl 4)) (pal rfl Ja Jb))))
   (Jc (psl 6 J0T.nd (Jm T.wq (J3z T 5) (hr.mono (by decide)) rfl (by decide) rfl (pal rfl (Jm T.ww (J4g T 4) (hr.mono (by decide)) rfl (by decide) rfl (pal rfl (Jm T.we (JT T) (hr.mono (by decide)) rfl (by decide) rfl (pal rfl (pvl 5) (pal rfl Ja Jb))) (pal rfl (pvl 1) (pal rfl Ja Jb)))) Jb)))
   (Jc (psl 7 J0T.nd (Jm T.wq (J3z T 5) (hr.mono (by decide)) rfl (by decide) rfl (pal rfl (Jm T.wN (ok_l_plain T) (hr.mono (by decide)) rfl (by decide) rfl (pal rfl (Jm T.we (JT T) (hr.mono (by decide)) rfl (by decide) rfl (pal rfl (pvl 5) (pal rfl Ja Jb))) (pal rfl (pvl 1) Jb))) Jb)))
   (Jc (psl 8 J0T.nd (J02 (pal rfl Jf (pal rfl Jf (pal rfl Jf (pal rfl Jf (pal rfl Jf (pal rfl Jf (pal rfl Jf (pal rfl (pvl 3) (pal rfl (Jg Jp (pvl 3) Jf) (pal rfl (Jg Jp (pvl 3) Jf) (pal rfl (Jg Jp (pvl 3) Jf) (pal rfl Jf (pal rfl Jf Jb)))))))))))))))
   (Jc (psl 9 J0T.nd (JA JU (Jm T.wQ (ok_l_spoilt T) (hr.mono (by decide)) rfl (by decide) rfl (pal rfl (pvl 6) (pal rfl (Jm T.we (JT T) (hr.mono (by decide)) rfl (by decide) rfl (pal rfl (pvl 5) (pal rfl Ja Jb))) Jb))) J0a (Jv Ja)))
   (Jc (psl 10 J0T.nd (J02 (pal rfl (pvl 9) (pal rfl (Jm T.wQ (ok_l_spoilt T) (hr.mono (by decide)) rfl (by decide) rfl (pal rfl (pvl 9) (pal rfl (Jm T.we (JT T) (hr.mono (by decide)) rfl (by decide) rfl (pal rfl (pvl 5) (pal rfl Ja Jb))) Jb))) (pal rfl (Jm T.ye (ok_l_deep T) (hr.mono (by decide)) rfl (by decide) rfl (pal rfl (pvl 7) (pal rfl (Jm T.we (JT T) (hr.mono (by decide)) rfl (by decide) rfl (pal rfl (pvl 5) (pal rfl Ja Jb))) Jb))) (pal rfl (Jq (J1d rfl) (pvl 8) (Jg JF (pvl 5) Ja) (fun _ _=>rfl)) Jb))))))
   (Je (J2a PassesOwn.never rfl (Jak rfl (pvl 10)) (pgl 11 J0T.nd)
   (Je (Js (Jj (Jal rfl hr.units) (Jm T.yd (ok_l_told T) (hr.mono (by decide)) rfl (by decide) rfl (pal rfl (J1v (JaZ rfl) T.yM Ja6 rfl (by decide) (by decide) rfl (pal rfl (pvl 2) Jb)) (pal rfl (pvl 11) Jb))) (Jm T.yc (ok_l_due T) (hr.mono (by decide)) rfl (by decide) rfl (pal rfl (pvl 11) (pal rfl (pvl 2) Jb))) (Jn _))
   (Je (Jk J4e))
   Jl)))))))))))
   (Je (Jk J4e)))))),?_⟩
  generalize hB2:J1f (J8e _ _ _) (J56 _)=B2;walk_at "dc";refine ⟨a,ns0,rfl,hs,fun H1 d ns kds s1 hW=>?_⟩;obtain ⟨kvs,l,w',b,xs,ws,h1,h2,h3,h4,h5,h6,h7,h8,h9,h10,h11,h12,h13,h14⟩:=id hW;obtain ⟨p0,n0,kd0,e1,e2,e3,e4⟩:=h6.at (show 0<xs.length by omega);have hn0:=(h13 n0 (zx e2)).2.1;refine ⟨d,rfl,_,J4x h1 h2,l,xs,_,_,rfl,rfl,.of h5,Jh (j:=0) e1,p0,_,_,_,rfl,rfl,.of e4,Jh (j:=0) rfl,?_⟩;have hs1:=s1.seq hs;subst hB2;refine J2j ?_;walk_at "dc";refine ⟨by decide,by decide,?_⟩;refine ForW.of J0F (fun i σ H'=>(∃ v4 v5 v6 v7 v8 v9 v10 v11,σ=[some (V.ref a),some (V.ref d),some (V.ref l),some (V.str n0),v4,v5,v6,v7,v8,v9,v10,v11])/\Same H1 H') ⟨⟨none,none,none,none,none,none,none,none,rfl⟩,Same.refl _⟩ (fun _ _ _ _ _=>trivial) ?_ ?_
  ·rintro i x σ H2 hx ⟨⟨v4,v5,v6,v7,v8,v9,v10,v11,rfl⟩,s2⟩
   obtain ⟨hi,rfl⟩:=J1R hx;have hs2:=s2.seq hs1;generalize hB11:J8e _ (J0C 11) _=B11;generalize hB10:J1f (J3g _ (J0C 10)) _=B10;generalize hB9:J1f (J3g _ (J0C 9)) _=B9;generalize hB8:J1f (J3g _ (J0C 8)) _=B8;walk_at "dc";refine ⟨a,ns0,_,rfl,hs2,by omega,fun v=>⟨v,rfl,_,_,rfl,_,_,rfl,_,d,ns,kds,3,rfl,by decide,hW.mono s2,fun H3 u3 s3 ht3=>⟨u3,3,rfl,by decide,by decide,ht3,fun H4 r4 s4 hr4=>?_⟩⟩⟩;have S4:=(s2.trans s3).trans s4;generalize J5Z (v+(0+(i:Int))) 4=sd;refine ⟨_,_,rfl,_,d,ns,kds,rfl,hW.mono S4,fun H5 u5 s5 hp5=>⟨u5,0,rfl,by decide,by decide,hp5,fun H6 r6 s6 hr6=>?_⟩⟩;have S6:=(S4.trans s5).trans s6;subst hB8;walk_at "dc";have q1:(Str.ofString "=").length=1:=by decide
   have q2:(Str.ofString "<-").length=2:=by decide
   have q3:(Str.ofString "=00").length=3:=by decide
   refine ⟨J9 (by omega),J9 (by omega),J9 (by omega),J9 (by decide),fun p1 hp1=>?_⟩;obtain ⟨od,hod,hol,ob⟩:∃ od:List Str,[V.str (Str.ofString ""),V.str (Str.ofString "("),V.str (Str.ofString "(&"),V.str (Str.ofString "()"),V.str (Str.ofString "(&&)"),V.str (Str.ofString "(&|)"),V.str (Str.ofString "!"),V.str n0,V.str (n0++Str.ofString "="),V.str (n0++Str.ofString "<-"),V.str (n0++Str.ofString "=00"),V.str (Str.ofString "(&)x"),V.str (Str.ofString "?")]=od.map V.str/\od.length=13/\∀ z∈od,z.length<=100:=by
    refine ⟨[Str.ofString "",Str.ofString "(",Str.ofString "(&",Str.ofString "()",Str.ofString "(&&)",Str.ofString "(&|)",Str.ofString "!",n0,n0++Str.ofString "=",n0++Str.ofString "<-",n0++Str.ofString "=00",Str.ofString "(&)x",Str.ofString "?"],rfl,rfl,fun z hz=>?_⟩;simp only [zC,not_mem_nil,or_false] at hz;rcases hz with rfl | rfl | rfl | rfl | rfl | rfl | rfl | rfl | rfl | rfl | rfl | rfl | rfl<;>first | decide | (rw [Jr];omega) | omega
   rw [hod];have S7:=S6.new hp1 (HO.lst (od.map V.str));have g7:upd H6 p1 (HO.lst (od.map V.str)) p1=some (.lst (od.map V.str)):=Jd;generalize upd H6 p1 (HO.lst (od.map V.str))=H7 at *;subst hB9;walk_at "dc";refine ⟨_,_,rfl,r4,_,rfl,by omega,fun r8 hr8=>⟨r8,rfl,J9 (by omega),?_⟩⟩;have lbn:(⟨(J03 r8.cps.toList none (some 2900)).toArray⟩:Str).length<=2900:=by
    show (J03 r8.cps.toList none (some 2900)).toArray.size<=_;rw [zw,show (2900:Int)=((2900:Nat):Int) from rfl,J4t,zz];exact Nat.min_le_left _ _
   generalize (⟨(J03 r8.cps.toList none (some 2900)).toArray⟩:Str)=bn at *;subst hB10;walk_at "dc";refine ⟨_,_,rfl,bn,_,rfl,by omega,fun r9 hr9=>⟨_,_,rfl,r6,_,rfl,by omega,fun H8 r10 s8 hr10=>?_⟩⟩;have m0:=zl sd (show (13:Int)≠0 by decide);have m1:=zk sd (show (0:Int)<13 by decide);refine ⟨by decide,J1x (.of (s8 _ _ g7)) m0 (by rw [zu,hol];exact m1) fun y hy=>?_⟩;rw [zE] at hy;obtain ⟨oz,hoz,rfl⟩:=Option.map_eq_some_iff.mp hy;have loz:=ob oz (zx hoz);refine ⟨J9 (by decide),fun p2 hp2=>?_⟩;rw [show [V.str bn,V.str r9,V.str r10,V.str oz]=[bn,r9,r10,oz].map V.str from rfl];have hall:∀ z∈[bn,r9,r10,oz],z.length<=1000000:=fun z hz=>by
    simp only [zC,not_mem_nil,or_false] at hz;rcases hz with rfl | rfl | rfl | rfl<;>omega
   have S8:=(S7.trans s8).new hp2 (HO.lst ([bn,r9,r10,oz].map V.str));have g8:upd H8 p2 (HO.lst ([bn,r9,r10,oz].map V.str)) p2=some (.lst ([bn,r9,r10,oz].map V.str)):=Jd;generalize upd H8 p2 (HO.lst ([bn,r9,r10,oz].map V.str))=H9 at *;generalize [bn,r9,r10,oz]=zs at *;subst hB11;refine J2j ?_;walk_at "dc";refine ⟨⟨_,.of g8⟩,?_⟩;refine ForW.of (J4N (xs:=zs.map V.str)) (fun i' σ H'=>(∃ v11,σ=[some (V.ref a),some (V.ref d),some (V.ref l),some (V.str n0),some (V.int (0+(i:Int))),some (V.int sd),some (V.str r4),some (V.str r6),some (V.ref p1),some (V.str bn),some (V.ref p2),v11])/\Same H9 H') ⟨⟨_,rfl⟩,Same.refl _⟩ (fun i σ H' _ q=>.of (q.2 _ _ g8)) ?_ ?_
   ·rintro i' x σ H10 hx' ⟨⟨v11',rfl⟩,s10⟩
    rw [zE] at hx';obtain ⟨z,hz,rfl⟩:=Option.map_eq_some_iff.mp hx';have hzl:=hall z (zx hz);have S10:=S8.trans s10;walk_at "dc";have hl10:=S10 _ _ h5;refine ⟨xs,.inl (.of hl10),fun l1 hl1=>?_⟩;have s11:=Same.upd_new hl1 (HO.lst xs);have g11:upd H10 l1 (HO.lst xs) l1=some (.lst xs):=Jd;generalize upd H10 l1 (HO.lst xs)=H11 at *;have S11:=S10.trans s11;refine ⟨l1,z,xs,ns,kds,rfl,hzl,g11,h6.mono S11,h7,fun H12 v12 s12 du12=>⟨l,z,xs,ns,kds,rfl,hzl,(S11.trans s12) _ _ h5,h6.mono (S11.trans s12),h7,h9,fun H13 v13 s13 du13=>du_eq (du12.mono s13.t) du13 ⟨false,rfl,?_⟩⟩⟩;rw [zc (by decide)];exact ⟨⟨_,rfl⟩,((s10.trans s11).trans s12).trans s13⟩
   ·rintro σ H10 ⟨⟨v11',rfl⟩,s10⟩
    exact ⟨⟨_,_,_,_,_,_,_,_,rfl⟩,S8.trans s10⟩
  ·rintro σ H2 ⟨⟨v4,v5,v6,v7,v8,v9,v10,v11,rfl⟩,s2⟩
   walk_at "dc";exact k _
end
theorem walk {l:PySem.W.OpenLaw}{q:Program}{loose:List Str}{XP:(Str->Option Value)->Heap->Prop}{YP:World->Heap->Prop}{d:DefRec}{K:Params->Frag}(hn:l.most=some 63)(hdf:d.params.defaults=[])
 (hY:∀ (w:World) (h:Heap),YP w h->(K w.params).In h)
 (F:∀ (w:World) (mg:Str->Option Value) (fa:Addr) (h:Heap),(K w.params).In h->h.Ns mainGlobals mg->mg d.name=some (.ref fa) ->
  ∃ fd:FuncData,(∀ (s:Shared) (u:Value),BindsTo s fd ⟨[u],[]⟩ [("_law_script",u)])/\∀ base:Heap,(K w.params).In base->base.Ns mainGlobals mg->FnOk l.prog w (K w.params) mg base CX0 36 fa fd ["_law_script"] (J5d (K w.params))) :
 PySem.W.WalkO q loose XP YP l.row.toRowW d [] (fun f vs=>PySem.call f vs) :=
 L2.walk_of (n:=63) (k:=36) (x:="_law_script") (CX:=fun _=>CX0) (sp:=fun w=>J5d (K w.params)) hn (by decide) hdf ⟨rfl,by decide,by decide⟩ hY F (fun _ _ a ns hl _ hS=>⟨a,ns,rfl,hS,hl,fun _=>rfl⟩) fun _ _ _ _ _ z=>z
theorem all_mk {l:PySem.W.OpenLaw}{w:World}{K:Frag}{h:Heap}{mg:Str->Option Value}{fa:Addr}(X:K.In h)(G:h.Ns mainGlobals mg)(hfa:mg "law"=some (.ref fa))(T:∃ f fd,Txt w K mg f fd/\f 51=f 51/\∃ kV dc pm an cd ct,fd 51=PySem.W.fnOf "law" "law" (J0P s_law) (J0q s_law) (Ji s_law) .none kV dc pm an cd ct) :
 ∃ fd:FuncData,(∀ (s:Shared) (v:Value),BindsTo s fd ⟨[v],[]⟩ [("_law_script",v)])/\∀ base:Heap,K.In base->base.Ns mainGlobals mg->FnOk l.prog w K mg base CX0 36 fa fd ["_law_script"] (J5d K):=by
 obtain ⟨f,fd,T,_,kV,dc,pm,an,cd,ct,e⟩:=T;have e2:=hfa.symm.trans T.yf.m;cases e2;exact ⟨fd 51,fun s v=>by rw [e];exact .of_eq rfl,fun base _ _=>ok_law T⟩
end NS
namespace PySem.W.Fast
def tw17366898107962941590:=0
def tw12678069984307218375:=0
def tw11656186288182908365:=0
def tw13635922190702204940:=0
def tw4426113663590887574:=0
def tw10826678847376000313:=0
def tw17445915027637901783:=0
def tw15589275179264316930:=0
def tw11015699203575376841:=0
def tw15860254992942587862:=0
def tw13287427333848547991:=0
def tw17686825063717068610:=0
def tw17817440736661619846:=0
def tw12121985077323165066:=0
def tw17826537886569166100:=0
def tw11792912769099640907:=0
def tw6736523973592688095:=0
def tw7150826786478223967:=0
def tw14725288952463961219:=0
def tw15850832509190221313:=0
def tw5493526025372146938:=0
def tw5017201481889218356:=0
def tw8020759890344607113:=0
def tw8687788845430659371:=0
def tw12729129121750970292:=0
def tw6871255646018712112:=0
def tw7842996944105699930:=0
def tw7381200335283872652:=0
def tw7409714602293340802:=0
def tw6392423748756809754:=0
def tw17120120935147824502:=0
def tw3249807282052919300:=0
def tw13912362070221348598:=0
def tw4301518562046358484:=0
def tw6820959653851839507:=0
def tw6613721370099637454:=0
def tw15624671905200101012:=0
def tw4866344088315508787:=0
def tw15339402272592550500:=0
def tw1321269276159362687:=0
def tw593756248467687241:=0
def tw5306561479294274720:=0
def tw12263156497080194953:=0
def tw3389331952214802777:=0
def tw6527971250157747537:=0
def tw3903146617662114611:=0
def tw6230201361549821073:=0
def tw5097971329855691541:=0
def tw17449164412613935274:=0
def tw5296328899189296484:=0
def tw14923837260750166322:=0
def tw6100951644075530196:=0
def tw11600536647397333397:=0
def tw6306475215125615297:=0
def tw13649951104701769951:=0
def tw5832062712447552825:=0
def tw12519155930387716079:=0
def tw4306982727312379707:=0
def tw18394643255496645127:=0
def tw3520400798784569917:=0
def tw8132437337530156764:=0
def tw16759057814525202339:=0
def tw4523354345860817079:=0
def tw2616148485360628071:=0
def tw624528116047646819:=0
def tw7149531991107127652:=0
def tw6138792735872792355:=0
def tw18065702435540598093:=0
def tw3044488227449377165:=0
def tw14749653915158146005:=0
def tw11877581256835184895:=0
def tw13835534483096792749:=0
def tw935731064565489093:=0
def tw14532930196867095467:=0
def tw3791152187641622075:=0
def tw1058371987711254983:=0
def tw17362002327189328387:=0
def tw711095165423996943:=0
def tw3017199254395525388:=0
def tw16457352803329820142:=0
def tw4064493934683198313:=0
def tw10694548769417351179:=0
def tw3659394143060664469:=0
def tw2926405980458883411:=0
def tw2027722943182722865:=0
def tw12473562059761862389:=0
def tw13787324330816162821:=0
def tw17741962647960828266:=0
def tw10932693697312674465:=0
def tw15603592907356113433:=0
def tw10273904091690545327:=0
def tw1560152863960291766:=0
def tw17149814210185237451:=0
def tw13279034549808567687:=0
def tw15085563640297146210:=0
def tw14412826863078756506:=0
def tw18349783452783786719:=0
def tw14075776066790317216:=0
def tw11672809205654444046:=0
def tw10303454669577864793:=0
def tw9720777346589608760:=0
def tw14052060676019737734:=0
def tw3980921276566593891:=0
def tw17743729066285058714:=0
def tw12933613897008455124:=0
def tw17777163659957597619:=0
def tw15516746183021789519:=0
def tw2845611621947844630:=0
def tw14475217429870409419:=0
def tw9832217229343014337:=0
def tw11753064048828294160:=0
def tw845122250202393061:=0
def tw12063763865831508513:=0
def tw1915005008876035094:=0
def tw5379697968719127718:=0
def tw17362233753523795124:=0
def tw16936893797881252195:=0
def tw16915495975663659837:=0
def tw673162767544116058:=0
def tw15570804272115212125:=0
def tw6301579571955678855:=0
def tw12350291895494944287:=0
def tw104308988068875213:=0
def tw13414953819003765951:=0
def tw18396691354485271258:=0
def tw15673676295249223433:=0
def tw2621392596921532080:=0
def tw2753438100331755900:=0
def tw544011354461187028:=0
def tw5124919753970365643:=0
def tw8927303040551478921:=0
def tw10731415176705088756:=0
def tw13497058554695323473:=0
def tw5277037012181675655:=0
def tw17758260022239569208:=0
def tw9795539102977000770:=0
def tw4160822520297752244:=0
def tw14606494564854329233:=0
def tw18445039387866092982:=0
def tw3458674297876930144:=0
def tw15172533682578401712:=0
def tw11833461475343482374:=0
def tw11131759888785525992:=0
def tw3230708281498639067:=0
def tw14334390843473441245:=0
def tw10713518455282446597:=0
def tw3051295528087127966:=0
def tw2850176305607237324:=0
def tw8832912716517115469:=0
def tw9749676386067701522:=0
def tw1858368941787669398:=0
def tw14624237452610932341:=0
def tw14211919860609866357:=0
def tw4934947742812165728:=0
def tw4592538136941712298:=0
def tw12546116267307002074:=0
def tw11591509685287128654:=0
def tw16483869138230502210:=0
def tw10880339355117693333:=0
def tw7576784634963443998:=0
def tw4191120985213832778:=0
def tw6314674349529001253:=0
def tw9256646569160958060:=0
def tw387143460108716376:=0
def tw12533309368037729583:=0
def tw481619008675709127:=0
def tw9892391509643226521:=0
def tw5899268343146611054:=0
def tw12566690964326981539:=0
def tw14741757871260311798:=0
def tw2223944384073500154:=0
def tw1862723327220550936:=0
def tw14268259528359365829:=0
def tw15769967468132421344:=0
def tw8724012170133691674:=0
def tw4064521039204588104:=0
def tw15541464388986311064:=0
def tw12207271989396118900:=0
def tw1649987575339741343:=0
def tw18043401317474601750:=0
def tw12162540288670769797:=0
def tw3150682644541976659:=0
def tw8129001042212828022:=0
def tw12663463285166342211:=0
def tw15686313496607865517:=0
def tw9897586270503096781:=0
def tw2156999683877311880:=0
def tw13163424629624112373:=0
def tw4922043412056995698:=0
def tw12075802099857909626:=0
def tw9116204559289852415:=0
def tw5760004152760522752:=0
def tw4044341024758078492:=0
def tw8305092653080466000:=0
def tw14251796643491121401:=0
def tw4001502880969776762:=0
def tw8174334155081198751:=0
def tw665893014158822380:=0
def tw12800876405268340006:=0
def tw8631627172999063852:=0
def tw750240179934034527:=0
def tw9615562871161721767:=0
def tw1003897341220461052:=0
def tw14978580108869328002:=0
def tw15992445223752051038:=0
def tw1540478664836426726:=0
def tw13364045043288256999:=0
def tw58920587602823616:=0
def tw4907159376144936093:=0
def tw12998792354264720824:=0
def tw9774204060633511591:=0
def tw11233304611272558446:=0
def tw2085492453040833326:=0
def tw4183272320736250322:=0
def tw687335283835235616:=0
def tw11012847168348121236:=0
def tw12448482737854131850:=0
def tw17487067630995938652:=0
def tw2402851806592613305:=0
def tw17954609209039916164:=0
def tw6851166238011120649:=0
def tw11211763967769965787:=0
def tw18019629771962975025:=0
def tw11723708750235427639:=0
def tw16610592019705005277:=0
def tw1319488528018682781:=0
def tw15644849325644413057:=0
def tw8147527669632562889:=0
def tw18124108993434676860:=0
def tw2150935841371017019:=0
def tw8833892163260712992:=0
def tw10132942100863866875:=0
def tw8967225611213514645:=0
def tw4175659155804036876:=0
def tw327119896916541693:=0
def tw5365909187307051695:=0
def tw2283417918653528408:=0
def tw4920660097299569916:=0
def tw3944906222269852468:=0
def tw5640761511528708172:=0
def tw10916360209281437750:=0
def tw9960472625760371495:=0
def tw15866541050821001799:=0
def tw15163753905522488241:=0
def tw8100191923598385821:=0
def tw12813638145616120861:=0
def tw11133072141184837873:=0
def tw8271332896377117596:=0
def tw11838387300399720200:=0
def tw5379518854592056832:=0
def tw15699471122456006042:=0
def tw18360068616364804941:=0
def tw5618583691091054461:=0
def tw5284280537070245140:=0
def tw901718722683749221:=0
def tw12972671411098336100:=0
def tw6402558307839255511:=0
def tw9329695863281141982:=0
def tw16916712190507271762:=0
def tw7276576915624036205:=0
def tw7644727966927110912:=0
def tw18272206516768842676:=0
def tw15429149794706235303:=0
def tw17879013784944411476:=0
def tw292323911329617785:=0
def tw5328194510078035178:=0
def tw4259175304908553637:=0
def tw8168390948366771648:=0
def tw6350709412859711453:=0
def tw13268148875608784572:=0
def tw3728470127900723398:=0
def tw12368241754854842819:=0
def tw8360520390972799145:=0
def tw3953019972638360140:=0
def tw17121997847847833598:=0
def tw3335253328235436833:=0
def tw12462442184499271541:=0
def tw417533373579852810:=0
def tw15588029453149695107:=0
def tw5037620631231353011:=0
def tw16745759722601273172:=0
def tw8565249608625838929:=0
def tw14786968707424371661:=0
def tw16683412491656583799:=0
def tw11810047963084564706:=0
def tw11534893184029193497:=0
def tw4868650731153388055:=0
def tw1645289796079717705:=0
def tw2144213498641963497:=0
def tw17361840637816124378:=0
def tw17600506499163450276:=0
def tw17630200862143610202:=0
def tw13480622173812171985:=0
def tw3239951633785791759:=0
def tw5535362644634145446:=0
def tw10659361085219103616:=0
def tw12394881387506666272:=0
def tw17749960862142693315:=0
def tw9348930940910506537:=0
def tw1056113436432840057:=0
def tw13212941131703249130:=0
def tw14353150954804292182:=0
def tw5294357229302264763:=0
def tw3901280092145025178:=0
def tw16751161314120648452:=0
def tw5492253372354534336:=0
def tw8322943273318258458:=0
def tw12483186518283552880:=0
def tw3643553118266228373:=0
def tw719522256859728166:=0
def tw7323695476721979629:=0
def tw15896541472707519486:=0
def tw12395693758086926470:=0
def tw3478593628527521041:=0
def tw7699718815232688661:=0
def tw863490539979882181:=0
def tw16436759925097331309:=0
def tw5759508484394957689:=0
def tw982855017401902911:=0
def tw7705618534294640006:=0
def tw5246833533507651314:=0
def tw10875974879279497773:=0
def tw13985083971080956828:=0
def tw7692742740838669020:=0
def tw2676751437694462405:=0
def tw8288434650460243749:=0
def tw10290579539682035391:=0
def tw6453106924626588395:=0
def tw1163290680329910380:=0
def tw4451944718441248432:=0
def tw2555958843650172094:=0
def tw10755558663424375138:=0
end PySem.W.Fast
open PySem PySem.W PyProof.Rows
set_option maxRecDepth 100000 in
set_option maxHeartbeats 0 in
theorem PySem.Challenge.cw_crosshall_k10_texts_that_are_no_sieves_holds : PySem.Challenge.rw_crosshall_k10_texts_that_are_no_sieves.Holds := by
 w_on;o_law;k_head;(case hw=>w_witness2)
 k_fill
 refine NS.walk (l:=PySem.Challenge.rw_crosshall_k10_texts_that_are_no_sieves) rfl rfl (fun w h Y=>by first | exact PySem.W.kIn_of Y | exact PySem.W.km_in_of Y) ?F
 case F =>
  intro w mg fa h KX G hmg;refine NS.all_mk KX G hmg ?_
  suffices TT:∃ f fd,NS.Txt w (L2.KOf KX) mg f fd/\f 51=f 51/\∃ kV dc pm an cd ct,fd 51=PySem.W.fnOf "law" "law" (L2.J0P NS.s_law) (L2.J0q NS.s_law) (L2.Ji NS.s_law) .none kV dc pm an cd ct from TT
  dsimp only [L2.KOf];obtain ⟨f,fd,T,_,z⟩:∃ f fd,NS.Txt w _ mg f fd/\f 51=_/\∃ kV dc pm an cd ct,fd 51=PySem.W.fnOf "law" "law" (L2.J0P NS.s_law) (L2.J0q NS.s_law) (L2.Ji NS.s_law) .none kV dc pm an cd ct:=by
   refine' NS.txt_mk KX G ?a1 ?a2 ?a3 ?a4 ?a28 ?a10 ?l10 ?a11 ?l11 ?a12 ?l12 ?a13 ?l13 ?a14 ?l14 ?a15 ?l15 ?a17 ?l17 ?a19 ?l19 ?a20 ?l20 ?a21 ?l21 ?a29 ?l29 ?a30 ?l30 ?a31 ?l31 ?a33 ?l33 ?a34 ?l34 ?a35 ?l35 ?a36 ?l36 ?a37 ?l37 ?a38 ?l38 ?a39 ?l39 ?a40 ?l40 ?a41 ?l41 ?a42 ?l42 ?a43 ?l43 ?a44 ?l44 ?a45 ?l45 ?a46 ?l46 ?a47 ?l47 ?a48 ?l48 ?a49 ?l49 ?a50 ?l50 ?a51 ?l51 ?a4000 ?l4000 ?b4000 ?a5000 ?l5000 ?b5000 ?a29000 ?l29000 ?b29000 ?a29001 ?l29001 ?b29001 ?a29002 ?l29002 ?b29002 ?a29003 ?l29003 ?b29003 ?a29004 ?l29004 ?b29004 ?a29005 ?l29005 ?b29005 ?a29006 ?l29006 ?b29006 ?a29007 ?l29007 ?b29007 ?x_NoSieve_e ?x_NoSieve_kp ?x_NoSieve_ga ?x_NoSieve_gh ?x_NoSieve_ba ?x_NoSieve_ob ?x_NoSieve_hd ?x_NoSieve_cl ?x_NoSieve_cg ?x_NoSieve_ct ?x_NoSieve_sa ?x_NoField_e ?x_NoField_kp ?x_NoField_ga ?x_NoField_gh ?x_NoField_ba ?x_NoField_ob ?x_NoField_hd ?x_NoField_cl ?x_NoField_cg ?x_NoField_ct ?x_NoField_sa ?x_NoKind_e ?x_NoKind_kp ?x_NoKind_ga ?x_NoKind_gh ?x_NoKind_ba ?x_NoKind_ob ?x_NoKind_hd ?x_NoKind_cl ?x_NoKind_cg ?x_NoKind_ct ?x_NoKind_sa ?o_Reading_pg ?o_Reading_hd ?o_Reading_po ?o_Reading_sa ?o_Reading_ma ?o_Reading_kp ?v_na_NoField_name ?v_na_NoKind_name ?v_na_Reading_at ?v_na_Reading_begun ?v_na_Reading_text ?v_ki_NoField_CrossError ?v_su_NoField_NoSieve ?v_ki_NoField_NoSieve ?v_su_NoField_NoField ?v_ki_NoField_NoField ?v_su_NoField_NoKind ?v_ki_NoField_NoKind ?v_kv_NoField ?v_ki_NoKind_CrossError ?v_su_NoKind_NoSieve ?v_ki_NoKind_NoSieve ?v_su_NoKind_NoField ?v_ki_NoKind_NoField ?v_su_NoKind_NoKind ?v_ki_NoKind_NoKind ?v_kv_NoKind ?v_ki_NoSieve_CrossError ?v_su_NoSieve_NoSieve ?v_ki_NoSieve_NoSieve ?v_su_NoSieve_NoField ?v_ki_NoSieve_NoField ?v_su_NoSieve_NoKind ?v_ki_NoSieve_NoKind ?v_kv_NoSieve ?v_nobook ?z_ValueError ?z_all ?z_enumerate ?z_int ?z_isinstance ?z_len ?z_list ?z_range ?z_str ?z_sum ?z_tuple ?y_LETTERS ?y_FIGURES ?y_MOST_SIGNS ?y_MOST_FIGURES ?y_MOST_LEVELS ?y_MOST_SIEVES ?y_MOST_VALUE_SIGNS ?y_JOINTS ?l26 ?m26 ?k26 ?v26 ?y_MARKS ?l27 ?m27 ?k27 ?v27
   (case a1 | a2 | a3 | a4 | a28 | a10 | a11 | a12 | a13 | a14 | a15 | a17 | a19 | a20 | a21 | a29 | a30 | a31 | a33 | a34 | a35 | a36 | a37 | a38 | a39 | a40 | a41 | a42 | a43 | a44 | a45 | a46 | a47 | a48 | a49 | a50 | a51 | a4000 | b4000 | a5000 | b5000 | a29000 | b29000 | a29001 | b29001 | a29002 | b29002 | a29003 | b29003 | a29004 | b29004 | a29005 | b29005 | a29006 | b29006 | a29007 | b29007 | x_NoSieve_kp | x_NoSieve_ga | x_NoSieve_gh | x_NoSieve_ba | x_NoSieve_ob | x_NoSieve_hd | x_NoSieve_cl | x_NoSieve_cg | x_NoSieve_ct | x_NoSieve_sa | x_NoField_kp | x_NoField_ga | x_NoField_gh | x_NoField_ba | x_NoField_ob | x_NoField_hd | x_NoField_cl | x_NoField_cg | x_NoField_ct | x_NoField_sa | x_NoKind_kp | x_NoKind_ga | x_NoKind_gh | x_NoKind_ba | x_NoKind_ob | x_NoKind_hd | x_NoKind_cl | x_NoKind_cg | x_NoKind_ct | x_NoKind_sa | o_Reading_pg | o_Reading_hd | o_Reading_po | o_Reading_sa | o_Reading_ma | o_Reading_kp | v_na_NoField_name | v_na_NoKind_name | v_na_Reading_at | v_na_Reading_begun | v_na_Reading_text | v_nobook | z_ValueError | z_all | z_enumerate | z_int | z_isinstance | z_len | z_list | z_range | z_str | z_sum | z_tuple | y_LETTERS | y_FIGURES | y_MOST_SIGNS | y_MOST_FIGURES | y_MOST_LEVELS | y_MOST_SIEVES | y_MOST_VALUE_SIGNS | y_JOINTS | l26 | y_MARKS | l27=>k_is)
   (case l10 | l11 | l12 | l13 | l14 | l15 | l17 | l19 | l20 | l21 | l29 | l30 | l31 | l33 | l34 | l35 | l36 | l37 | l38 | l39 | l40 | l41 | l42 | l43 | l44 | l45 | l46 | l47 | l48 | l49 | l50 | l51 | l4000 | l5000 | l29000 | l29001 | l29002 | l29003 | l29004 | l29005 | l29006 | l29007=>refine' L2.Jb8 ?l ?c ?k;(case l=>k_is);(case c | k=>k_is))
   (case x_NoSieve_e | x_NoField_e | x_NoKind_e=>kernel_rfl)
   (case v_ki_NoField_CrossError | v_su_NoField_NoSieve | v_ki_NoField_NoSieve | v_su_NoField_NoField | v_ki_NoField_NoField | v_su_NoField_NoKind | v_ki_NoField_NoKind | v_kv_NoField | v_ki_NoKind_CrossError | v_su_NoKind_NoSieve | v_ki_NoKind_NoSieve | v_su_NoKind_NoField | v_ki_NoKind_NoField | v_su_NoKind_NoKind | v_ki_NoKind_NoKind | v_kv_NoKind | v_ki_NoSieve_CrossError | v_su_NoSieve_NoSieve | v_ki_NoSieve_NoSieve | v_su_NoSieve_NoField | v_ki_NoSieve_NoField | v_su_NoSieve_NoKind | v_ki_NoSieve_NoKind | v_kv_NoSieve=>rfl)
   (case m26 | m27=>decide)
   (case k26 | k27=>k_keys)
   (case v26 | v27=>repeat (first | exact .nil | refine .cons ⟨⟨_,rfl⟩,⟨_,rfl⟩⟩ ?_))
  exact ⟨f,fd,T,rfl,z⟩