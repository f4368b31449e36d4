import PyProof.Rows.All
import Wide.All
import OpenK.AllK
import Wide.FinOn
import Lean
import PyProof.EqAt
import PyProof.EqKinds
import PyProof.TupleCall
import OpenK.KOwn
import PyProof.InstStoreFacts
import PyProof.EnumFor
import PyProof.EnumMake
import PyProof.EnumStmt
import KE.KDictList
import PyProof.ListRange
import PyProof.Rows.SetFrom
import PyProof.WalksMore
import PyProof.ZipIter
import PyProof.AttrMissSeq
import KE.KDictOf
import PyProof.MinMaxWalk
import PyProof.Rows.CallKwBuiltin
import KE.KMinKey
import KE.KRevSl
import PyProof.SumAny
import PyProof.P3In
import PyProof.SeqI3
import KE.KSortTup
import KE.KSortKey
import PyProof.Rows.SortRunsK
import PyProof.Rows.SortShellK
import PyProof.P3Eq
import PyProof.DictRoadsH
import PyProof.MeetsDict
import PyProof.TupleIter
import PySem.Challenge.RW_crosshall_k14_paths
set_option compiler.extract_closed false
set_option Elab.async false
set_option linter.all false
set_option maxHeartbeats 4000000
set_option maxRecDepth 100000
namespace L2
open PySem PySem.Spec PyProof.Rows
abbrev Key:=Sum Int Str
noncomputable def J2H:Key→Value→Bool
 | .inl k,v=>Value.isInt k v
 | .inr x,v=>Value.isStrOf x v
noncomputable def Jd5 (w:World):Key→Int
 | .inl k=>hashInt k
 | .inr x=>hashStr w x
theorem JO:∀ {k:Key} {v:Value},J2H k v=true→(∃ i t,k=Sum.inl i∧v=Value.int i t)∨(∃ x t,k=Sum.inr x∧v=Value.str x t)
 | .inl i,v,h=>by
   obtain ⟨t,e⟩:=Value.isInt_shape (k:=i) (v:=v) h
   exact .inl ⟨i,t,rfl,e⟩
 | .inr x,v,h=>by
   obtain ⟨t,e⟩:=Value.isStrOf_shape (x:=x) (v:=v) h
   exact .inr ⟨x,t,rfl,e⟩
theorem J8p (i:Int)(t:Tok):J2H (.inl i) (.int i t)=true:=by simp [J2H,Value.isInt]
theorem J8o (x:Str)(t:Tok):J2H (.inr x) (.str x t)=true:=by simp [J2H,Value.isStrOf]
theorem Jcv (a b:Int):decide ((Sum.inl a:Key)=Sum.inl b)=(a == b):=by
 by_cases e:a=b
 ·subst e;simp
 ·have h:¬ (Sum.inl a:Key)=Sum.inl b:=fun q=>e (Sum.inl.inj q)
  rw [decide_eq_false h]
  exact (beq_eq_false_iff_ne.mpr e).symm
theorem Jcs (a b:Str):decide ((Sum.inr a:Key)=Sum.inr b)=decide (a=b):=by
 by_cases e:a=b
 ·subst e;simp
 ·have h:¬ (Sum.inr a:Key)=Sum.inr b:=fun q=>e (Sum.inr.inj q)
  rw [decide_eq_false h,decide_eq_false e]
theorem Jcu (a:Int)(b:Str):decide ((Sum.inl a:Key)=Sum.inr b)=false:=decide_eq_false (fun q=>nomatch q)
theorem Jct (a:Str)(b:Int):decide ((Sum.inr a:Key)=Sum.inl b)=false:=decide_eq_false (fun q=>nomatch q)
noncomputable def J0q (prog:Program)(w:World):PySem.KeyKind prog w Key where
 is:=J2H
 hash:=Jd5 w
 inj := fun v a b ha hb=>by
  rcases JO ha with ⟨i,t,rfl,rfl⟩ | ⟨x,t,rfl,rfl⟩
  ·rcases JO hb with ⟨j,u,rfl,e⟩ | ⟨y,u,rfl,e⟩
   ·injection e with e1 _;rw [e1]
   ·exact nomatch e
  ·rcases JO hb with ⟨j,u,rfl,e⟩ | ⟨y,u,rfl,e⟩
   ·exact nomatch e
   ·injection e with e1 _;rw [e1]
 byValue:=fun k v h=>by
  rcases JO h with ⟨i,t,rfl,rfl⟩ | ⟨x,t,rfl,rfl⟩<;>rfl
 pyHash:=fun hv h=>by
  rcases JO hv with ⟨i,t,rfl,rfl⟩ | ⟨x,t,rfl,rfl⟩
  ·exact wpAny_pyHash_int h
  ·exact wpAny_pyHash_str h
 eqBool:=fun hu hv h=>by
  rcases JO hu with ⟨i,t,rfl,rfl⟩ | ⟨x,t,rfl,rfl⟩
  ·rcases JO hv with ⟨j,u,rfl,rfl⟩ | ⟨y,u,rfl,rfl⟩
   ·rw [Jcv] at h;exact wpAny_eqBool_int h
   ·rw [Jcu] at h;exact SeqAt.EqAt.int_str i t y u _ _ _ _ h
  ·rcases JO hv with ⟨j,u,rfl,rfl⟩ | ⟨y,u,rfl,rfl⟩
   ·rw [Jct] at h;exact SeqAt.EqAt.str_int x t j u _ _ _ _ h
   ·rw [Jcs] at h;exact wpAny_eqBool_str h
 «strs»:=fun k x t v h=>by
  rcases JO h with ⟨i,u,rfl,e⟩ | ⟨y,u,rfl,e⟩
  ·exact nomatch e
  ·injection e with e1 _
   subst e1
   cases v<;>rfl
theorem J5Y (prog:Program)(w:World)(i:Int)(t:Tok):(J0q prog w).is (.inl i) (.int i t)=true:=J8p i t
theorem J5X (prog:Program)(w:World)(x:Str)(t:Tok):(J0q prog w).is (.inr x) (.str x t)=true:=J8o x t
abbrev Ji:=Option Key
noncomputable def nIs:Ji→Value→Bool
 | none,.none=>true
 | none,_=>false
 | some k,v=>J2H k v
noncomputable def nH (w:World):Ji→Int
 | none=>reduceHash 0xFCA86420
 | some k=>Jd5 w k
theorem J0L:∀ {k:Ji} {v:Value},nIs k v=true→(k=none∧v=Value.none)∨∃ q,k=some q∧J2H q v=true
 | none,v,h=>by cases v<;>first | exact .inl ⟨rfl,rfl⟩ | exact nomatch h
 | some k,v,h=>.inr ⟨k,rfl,h⟩
theorem J2G {q:Key}(h:J2H q Value.none=true):False:=by
 rcases JO h with ⟨_,_,_,e⟩ | ⟨_,_,_,e⟩<;>exact nomatch e
theorem J5K {prog:Program}{w:World}{A:Around}{E:Value→Shared→Prop}{s:Shared}{Q:Int→Shared→Prop}(h:Q (reduceHash 0xFCA86420) { s with toks:=s.toks+1 }):wpAny (model prog w) A (pyHash .none) Q E s :=
 PySem.W.pyHash_slot (T:="NoneType") rfl F.slot_NoneType_hash F.entry_NoneType_hash (F.args_NoneType_hash_1 _) (beq_builtin_none _) (.inl rfl) (wpAny_bind (wpAny_pure (wpAny_bind (wpAny_mkInt (wpAny_pure ⟨_,_,rfl,h⟩)))))
theorem J6g {prog:Program}{w:World}{A:Around}{E:Value→Shared→Prop}{s:Shared}{Q:Bool→Shared→Prop}(h:Q true s):wpAny (model prog w) A (eqBool .none .none) Q E s:=by
 unfold eqBool
 try with_reducible refine wpAny_holding ?_
 show wpAny _ _ (if (Value.none == Value.none)=true then _ else _) Q E s
 rw [if_pos (by decide)]
 exact wpAny_bind (wpAny_rule (wpAny_pure h))
noncomputable def J0p (prog:Program)(w:World):PySem.KeyKind prog w Ji where
 is:=nIs
 hash:=nH w
 inj := fun v a b ha hb=>by
  rcases J0L ha with ⟨rfl,rfl⟩ | ⟨q,rfl,hq⟩
  ·rcases J0L hb with ⟨rfl,_⟩ | ⟨q',rfl,hq'⟩
   ·rfl
   ·exact (J2G hq').elim
  ·rcases J0L hb with ⟨rfl,rfl⟩ | ⟨q',rfl,hq'⟩
   ·exact (J2G hq).elim
   ·rw [(J0q prog w).inj v q q' hq hq']
 byValue:=fun k v h=>by
  rcases J0L h with ⟨rfl,rfl⟩ | ⟨q,rfl,hq⟩
  ·rfl
  ·exact (J0q prog w).byValue q v hq
 pyHash:=fun hv h=>by
  rcases J0L hv with ⟨rfl,rfl⟩ | ⟨q,rfl,hq⟩
  ·exact J5K h
  ·exact (J0q prog w).pyHash hq h
 eqBool:=fun {A E s a b u v Q} hu hv h=>by
  rcases J0L hu with ⟨rfl,rfl⟩ | ⟨q,rfl,hq⟩
  ·rcases J0L hv with ⟨rfl,rfl⟩ | ⟨q',rfl,hq'⟩
   ·exact J6g (by simpa using h)
   ·have h':Q false s:=by simpa using h
    rcases JO hq' with ⟨i,t,rfl,rfl⟩ | ⟨x,t,rfl,rfl⟩
    ·exact SeqAt.EqAt.none_int i t _ _ _ _ h'
    ·exact SeqAt.EqAt.none_str x t _ _ _ _ h'
  ·rcases J0L hv with ⟨rfl,rfl⟩ | ⟨q',rfl,hq'⟩
   ·have h':Q false s:=by simpa using h
    rcases JO hq with ⟨i,t,rfl,rfl⟩ | ⟨x,t,rfl,rfl⟩
    ·exact SeqAt.EqAt.int_none i t _ _ _ _ h'
    ·exact SeqAt.EqAt.str_none x t _ _ _ _ h'
   ·refine (J0q prog w).eqBool hq hq' ?_
    have e:decide ((some q:Ji)=some q')=decide (q=q'):=by simp
    rw [← e];exact h
 «strs»:=fun k x t v h=>by
  rcases J0L h with ⟨rfl,e⟩ | ⟨q,rfl,hq⟩
  ·exact nomatch e
  ·exact (J0q prog w).strs q x t v hq
inductive V where
 | non | bl (b:Bool) | int (i:Int) | str (x:Str) | byt (b:Array UInt8) | flt (b:UInt64) | ref (a:Addr) | ty (n:String)
 deriving DecidableEq
def RelV:V→Value→Prop
 | .non,u=>u=Value.none
 | .bl b,u=>u=Value.bool b
 | .int i,u=>∃ t,u=Value.int i t
 | .str x,u=>∃ t,u=Value.str x t
 | .byt b,u=>∃ t,u=Value.bytes b t
 | .flt b,u=>∃ t,u=Value.float b t
 | .ref a,u=>u=Value.ref a
 | .ty n,u=>u=Value.type n
abbrev Vals:List V→List Value→Prop:=Paired RelV
theorem Vals.length {xs:List V}{us:List Value}(r:Vals xs us):xs.length=us.length:=Paired.length r
theorem Vals.get:∀ {xs:List V} {us:List Value} {i:Nat} {x:V},Vals xs us→xs[i]?=some x→∃ u,us[i]?=some u∧RelV x u
 | _,_,_,_,.nil,e=>by simp at e
 | _,_,0,_,.cons r _,e=>by simp at e;subst e;exact ⟨_,rfl,r⟩
 | _,_,i+1,x,.cons _ t,e=>by
   obtain ⟨u,h1,h2⟩:=Vals.get (i:=i) (x:=x) t (by simpa using e)
   exact ⟨u,by simpa using h1,h2⟩
theorem Vals.set {x:V}{u:Value}(r:RelV x u):∀ {xs:List V} {us:List Value} (i:Nat),Vals xs us→Vals (xs.set i x) (us.set i u)
 | _,_,_,.nil=>.nil
 | _,_,0,.cons _ t=>.cons r t
 | _,_,i+1,.cons q t=>.cons q (Vals.set r i t)
theorem Vals.append:∀ {xs ys:List V} {us ws:List Value},Vals xs us→Vals ys ws→Vals (xs++ys) (us++ws)
 | _,_,_,_,.nil,s=>s
 | _,_,_,_,.cons r t,s=>.cons r (Vals.append t s)
theorem Vals.take:∀ {xs:List V} {us:List Value} (n:Nat),Vals xs us→Vals (xs.take n) (us.take n)
 | _,_,0,_=>.nil
 | _,_,_+1,.nil=>.nil
 | _,_,n+1,.cons r t=>.cons r (Vals.take n t)
theorem Vals.drop:∀ {xs:List V} {us:List Value} (n:Nat),Vals xs us→Vals (xs.drop n) (us.drop n)
 | _,_,0,r=>r
 | _,_,_+1,.nil=>.nil
 | _,_,n+1,.cons _ t=>Vals.drop n t
def RelO:Option V→Option Value→Prop
 | some v,some u=>RelV v u
 | none,none=>True
 | _,_=>False
def KV {κ:Type}:List (κ×V)→List (κ×Value)→Prop:=Paired fun (p:κ×V) (q:κ×Value)=>p.1=q.1∧RelV p.2 q.2
noncomputable def kV:Key→V
 | .inl i=>.int i
 | .inr x=>.str x
noncomputable def nV:Ji→V
 | none=>.non
 | some k=>kV k
inductive HO where
 | lst (xs:List V)
 | tup (xs:List V)
 | dK (kvs:List (Key×V)) | dT (kvs:List (List Ji×V))
 | set (S:Int→Bool) (n:Nat)
 | ins (C dx:Addr) (fs:List (Str×V))
 | own (x:Addr)
 | xd (fs:List (Str×V))
 | met (f x:Addr)
 | rng (lo hi:Int)
 | frz (o:Obj) (u:HO)
 | tbl (ps:Array Value)
 | ext (φ:Heap→Prop)
abbrev Hp:=Addr→Option HO
noncomputable def upd (H:Hp)(a:Addr)(o:HO):Hp:=fun b=>if b=a then some o else H b
theorem Jb {H:Hp}{a:Addr}{o:HO}:upd H a o a=some o:=by unfold upd;rw [if_pos rfl]
theorem Jk {H:Hp}{a b:Addr}{o:HO}(h:b≠a):upd H a o b=H b:=by unfold upd;rw [if_neg h]
theorem J4y {H:Hp}{a:Addr}{o u:HO}:upd (upd H a o) a u=upd H a u:=by
 funext b;unfold upd;split<;>rfl
theorem J3M {H:Hp}{a b:Addr}{o u:HO}(h:H a=some o)(h':H b=some u)(d:o≠u):a≠b:=by
 intro e;subst e;rw [h] at h';exact d (Option.some.inj h')
theorem J03 {H:Hp}{a b:Addr}{o:HO}(h:H a=some o)(h':H b=none):a≠b:=by
 intro e;subst e;rw [h] at h';cases h'
section
variable (P:Program)(w:World)
def ObjOk (H:Hp)(h:Heap)(a:Addr):HO→Prop
 | .lst xs=>xs.length≤sizeLine∧∃ (its:List Value) (n:Nat),Vals xs its∧h.get? a=some { cls:=.type "list",data:=.seq its.toArray n }
 | .tup xs=>xs.length≤sizeLine∧∃ its:List Value,Vals xs its∧IsTup h a its.toArray
 | .dK kvs=>kvs.length≤sizeLine∧(a == sysModules)=false∧∃ vs,KV kvs vs∧h.DictOf (J0q P w) a vs
 | .dT kvs=>kvs.length≤sizeLine∧(a == sysModules)=false∧∃ xs:List (List Ji×Addr×Value),
  Paired (fun (p:List Ji×V) (q:List Ji×Addr×Value)=>p.1=q.1∧H q.2.1=some (.tup (p.1.map nV))∧RelV p.2 q.2.2) kvs xs ∧
  ∃ o es ep,h.get? a=some o∧o.ExactDict∧o.data=.dict es ep∧es.toList=xs.map (entryOfKey (tupleKind (J0p P w)))∧(xs.map (·.1)).Nodup
 | .set S n=>h.SetOf (intKind P w) a S n
 | .ins C dx fs=>H dx=some (.own a)∧fs.length≤1000∧dx≠a∧h.get? a=some (PySem.W.instObj C dx) ∧
  ∃ mA,h.Ns1 dx mA∧(∀ f,RelO (fs.lookup f) (mA f))∧PySem.Within mA (fs.map (·.1))
 | .own _=>∃ o,h.get? a=some o
 | .xd fs=>∃ mA,h.Ns1 a mA∧∀ f,RelO (fs.lookup f) (mA f)
 | .rng lo hi=>∃ t u v,h.get? a=some { cls:=.type "range",data:=.fields #[.int lo t,.int hi u,.int 1 v] }
 | .frz o u=>h.get? a=some o∧ObjOk H h a u
 | .tbl ps=>h.get? a=some { cls:=.none,data:=.fields ps }
 | .met f x=>h.get? a=some (PySem.W.methodObj (.ref f) (.ref x))
 | .ext φ=>φ h∧(∃ o,h.get? a=some o)∧∀ h1 h2:Heap,φ h1→(∀ o,h1.get? a=some o→h2.get? a=some o)→φ h2
def HOk (H:Hp)(h:Heap):Prop:=∀ a o,H a=some o→ObjOk P w H h a o
end
section
variable {P:Program}{w:World}{H H':Hp}{h h':Heap}{a:Addr}{o:HO}
theorem ObjOk.lt (x:ObjOk P w H h a o):a<h.objs.size:=by
 cases o with
 | lst xs=>obtain ⟨_,_,_,_,e⟩:=x;exact Heap.lt_size e
 | tup xs=>obtain ⟨_,_,_,p⟩:=x;exact p.lt
 | dK kvs=>obtain ⟨_,_,_,_,o,_,_,e,_⟩:=x;exact Heap.lt_size e
 | dT kvs=>obtain ⟨_,_,_,_,o,_,_,e,_⟩:=x;exact Heap.lt_size e
 | set S n=>obtain ⟨o,_,_,_,e,_⟩:=x;exact Heap.lt_size e
 | ins C dx fs=>obtain ⟨_,_,_,e,_⟩:=x;exact Heap.lt_size e
 | own y=>obtain ⟨_,e⟩:=x;exact Heap.lt_size e
 | xd fs=>obtain ⟨_,⟨_,_,_,e,_⟩,_⟩:=x;exact Heap.lt_size e
 | rng lo hi=>obtain ⟨_,_,_,e⟩:=x;exact Heap.lt_size e
 | frz ob u=>obtain ⟨e,_⟩:=x;exact Heap.lt_size e
 | tbl ps=>exact Heap.lt_size (show h.get? a=some _ from x)
 | met f y=>exact Heap.lt_size (show h.get? a=some _ from x)
 | ext φ=>obtain ⟨_,⟨_,e⟩,_⟩:=x;exact Heap.lt_size e
theorem Paired.mapP {α β:Type}{F G:α→β→Prop}:∀ {l₁:List α} {l₂:List β},Paired F l₁ l₂→(∀ a b,F a b→G a b)→Paired G l₁ l₂
 | _,_,.nil,_=>.nil
 | _,_,.cons r t,f=>.cons (f _ _ r) (Paired.mapP t f)
theorem ObjOk.stay (x:ObjOk P w H h a o)(k:∀ b u,(b=a∨H b=some (.own a))→h.get? b=some u→h'.get? b=some u)
 (ho:∀ b,H b=some (.own a)→H' b=some (.own a)) (ht:∀ b xs,H b=some (.tup xs)→H' b=some (.tup xs)):ObjOk P w H' h' a o:=by
 induction o with
 | lst xs=>obtain ⟨z,its,n,r,e⟩:=x;exact ⟨z,its,n,r,k _ _ (.inl rfl) e⟩
 | tup xs=>obtain ⟨z,its,r,ob,e,c⟩:=x;exact ⟨z,its,r,ob,k _ _ (.inl rfl) e,c⟩
 | dK kvs=>obtain ⟨z,y,vs,r,ob,es,ep,e,c⟩:=x;exact ⟨z,y,vs,r,ob,es,ep,k _ _ (.inl rfl) e,c⟩
 | dT kvs =>
   obtain ⟨z,y,xs,r,ob,es,ep,e,c⟩:=x
   exact ⟨z,y,xs,Paired.mapP r fun p q z=>⟨z.1,ht _ _ z.2.1,z.2.2⟩,ob,es,ep,k _ _ (.inl rfl) e,c⟩
 | set S n=>obtain ⟨ob,es,ep,t,e,c⟩:=x;exact ⟨ob,es,ep,t,k _ _ (.inl rfl) e,c⟩
 | ins C dx fs =>
   obtain ⟨d,z,ne,e,mA,⟨od,es,ep,e2,c⟩,r⟩:=x
   exact ⟨ho _ d,z,ne,k _ _ (.inl rfl) e,mA,⟨od,es,ep,k _ _ (.inr d) e2,c⟩,r⟩
 | own y=>obtain ⟨ob,e⟩:=x;exact ⟨ob,k _ _ (.inl rfl) e⟩
 | xd fs=>obtain ⟨mA,⟨od,es,ep,e,c⟩,r⟩:=x;exact ⟨mA,⟨od,es,ep,k _ _ (.inl rfl) e,c⟩,r⟩
 | rng lo hi=>obtain ⟨t,u,v,e⟩:=x;exact ⟨t,u,v,k _ _ (.inl rfl) e⟩
 | frz ob u ih=>obtain ⟨e,q⟩:=x;exact ⟨k _ _ (.inl rfl) e,ih q⟩
 | tbl ps =>
   have e:h.get? a=some { cls:=.none,data:=.fields ps }:=x
   show h'.get? a=some { cls:=.none,data:=.fields ps }
   exact k a _ (.inl rfl) e
 | met f y =>
   have e:h.get? a=some (PySem.W.methodObj (.ref f) (.ref y)):=x
   show h'.get? a=some (PySem.W.methodObj (.ref f) (.ref y))
   exact k a _ (.inl rfl) e
 | ext φ=>obtain ⟨p,⟨o,e⟩,st⟩:=x;exact ⟨st _ _ p fun o q=>k _ _ (.inl rfl) q,⟨o,k _ _ (.inl rfl) e⟩,st⟩
theorem HOk.lt (x:HOk P w H h)(e:H a=some o):a<h.objs.size:=(x a o e).lt
theorem HOk.fresh (x:HOk P w H h)(e:h.objs.size≤a):H a=none:=by
 cases q:H a with
 | none=>rfl
 | some u=>exact absurd (Nat.lt_of_lt_of_le (x.lt q) e) (Nat.lt_irrefl _)
theorem HOk.kept (x:HOk P w H h)(k:∀ b u,h.get? b=some u→h'.get? b=some u):HOk P w H h':=fun a o e =>
 (x a o e).stay (fun b u _ q=>k b u q) (fun _ q=>q) fun _ _ q=>q
theorem HOk.laid (x:HOk P w H h)(k:∀ b u,h.get? b=some u→h'.get? b=some u)(hp:h.objs.size≤a)(new:ObjOk P w (upd H a o) h' a o):HOk P w (upd H a o) h':=fun b u e=>by
 have hn:=x.fresh hp
 by_cases hb:b=a
 ·subst hb;rw [Jb] at e;cases e;exact new
 ·rw [Jk hb] at e
  exact (x b u e).stay (fun c v _ q=>k c v q) (fun c q=>by rw [Jk (J03 q hn)];exact q) fun c xs q=>by rw [Jk (J03 q hn)];exact q
end
def Rd (H:Hp)(a:Addr)(u:HO):Prop:=H a=some u∨∃ o,H a=some (.frz o u)
theorem Rd.ok {P:Program}{w:World}{H:Hp}{h:Heap}{a:Addr}{u:HO}(r:Rd H a u)(x:HOk P w H h):ObjOk P w H h a u:=by
 rcases r with r | ⟨o,r⟩
 ·exact x a u r
 ·obtain ⟨_,q⟩:=x a _ r
  exact q
def Mut:Option HO→Prop
 | some (.lst _)=>True
 | some (.dK _)=>True
 | some (.dT _)=>True
 | some (.set _ _)=>True
 | some (.ins _ _ _)=>True
 | some (.ext _)=>True
 | _=>False
section
variable {P:Program}{w:World}{H:Hp}{h h':Heap}{x e:Addr}{o':HO}
theorem HOk.write (ok:HOk P w H h)(mu:Mut (H x))(he:e=x∨H e=some (.own x))(k:∀ b u,b≠e→h.get? b=some u→h'.get? b=some u)(heo:∃ u,h'.get? e=some u)
 (new:ObjOk P w (upd H x o') h' x o'):HOk P w (upd H x o') h':=fun b u q=>by
 have nown:∀ c y,H c=some (.own y)→c≠x:=fun c y r z=>by subst z;rw [r] at mu;exact mu
 have ntup:∀ c xs,H c=some (.tup xs)→c≠x:=fun c xs r z=>by subst z;rw [r] at mu;exact mu
 by_cases hb:b=x
 ·subst hb;rw [Jb] at q;cases q;exact new
 ·rw [Jk hb] at q
  by_cases hbe:b=e
  ·have q':H b=some (.own x):=by
    rcases he with z | z
    ·exact absurd (hbe.trans z) hb
    ·rw [hbe];exact z
   rw [q] at q';cases q'
   obtain ⟨v,hv⟩:=heo
   exact ⟨v,by rw [hbe];exact hv⟩
  ·refine (ok b u q).stay (fun c v hc r=>k c v ?_ r) (fun c r=>by rw [Jk (nown c b r)];exact r) fun c xs r=>by rw [Jk (ntup c xs r)];exact r
   rcases hc with rfl | hc
   ·exact hbe
   ·rintro rfl
    rcases he with z | z
    ·exact nown c b hc z
    ·rw [hc] at z;cases z;exact hb rfl
end
structure Un (fs ex:List Addr)(H H':Hp)(h h':Heap):Prop where
 keep:∀ b o,h.get? b=some o→H b=none→b∉fs→b∉ex→h'.get? b=some o
 slot:∀ b o,h.get? b=some o→H b=none→b∈fs→b∉ex→∃ sl,h'.get? b=some { o with slots:=sl }
 free:∀ b o,h.get? b=some o→H b=none→b∉ex→H' b=none
 there:∀ b o,h.get? b=some o→b∉ex→∃ o',h'.get? b=some o'
 tups:∀ b xs,H b=some (.tup xs)→H' b=some (.tup xs)
 frzs:∀ b o u,H b=some (.frz o u)→H' b=some (.frz o u)
 tbls:∀ b ps,H b=some (.tbl ps)→∃ more,H' b=some (.tbl (ps++more))
section
variable {fs fs' ex ex':List Addr}{H H1 H2:Hp}{h h1 h2 h':Heap}{a x e:Addr}{o:HO}
theorem Un.any (u:Un fs ex H H1 h h1){b:Addr}{ob:Obj}(q:h.get? b=some ob)(n:H b=none)(hx:b∉ex):∃ sl,h1.get? b=some { ob with slots:=sl }:=by
 by_cases hb:b∈fs
 ·exact u.slot b ob q n hb hx
 ·exact ⟨ob.slots,u.keep b ob q n hb hx⟩
theorem Un.kept (k:∀ b u,h.get? b=some u→h'.get? b=some u):Un fs ex H H h h' :=
 ⟨fun b ob q _ _ _=>k b ob q,fun b ob q _ _ _=>⟨ob.slots,k b ob q⟩,fun _ _ _ n _=>n,fun b ob q _=>⟨ob,k b ob q⟩,fun _ _ q=>q,fun _ _ _ q=>q,fun _ ps q=>⟨#[],by rw [q];simp⟩⟩
theorem Un.refl:Un fs ex H H h h:=Un.kept fun _ _ q=>q
theorem Un.laid (k:∀ b u,h.get? b=some u→h'.get? b=some u)(hp:h.objs.size≤a)(hn:H a=none):Un fs ex H (upd H a o) h h' where
 keep:=fun b u q _ _ _=>k b u q
 slot:=fun b u q _ _ _=>⟨u.slots,k b u q⟩
 free:=fun b u q n _=>by rw [Jk (Nat.ne_of_lt (Nat.lt_of_lt_of_le (Heap.lt_size q) hp))];exact n
 there:=fun b u q _=>⟨u,k b u q⟩
 tups:=fun b xs q=>by rw [Jk (J03 q hn)];exact q
 frzs:=fun b u xs q=>by rw [Jk (J03 q hn)];exact q
 tbls:=fun b ps q=>⟨#[],by rw [Jk (J03 q hn),q];simp⟩
theorem Un.write (mu:Mut (H x))(he:e=x∨H e=some (.own x))(k:∀ b u,b≠e→h.get? b=some u→h'.get? b=some u)(heo:∃ u,h'.get? e=some u):Un fs ex H (upd H x o) h h':=by
 have hx:∀ b,H b=none→b≠x:=fun b n z=>by subst z;rw [n] at mu;exact mu
 have hb:∀ b,H b=none→b≠e:=fun b n z=>by
  subst z
  rcases he with r | r
  ·exact hx b n r
  ·rw [n] at r;cases r
 have hm:∀ b u,H b=some u→¬ Mut (some u)→b≠x:=fun b u q nm z=>by subst z;rw [q] at mu;exact nm mu
 refine ⟨fun b u q n _ _=>k b u (hb b n) q,fun b u q n _ _=>⟨u.slots,k b u (hb b n) q⟩,fun b u q n _=>by rw [Jk (hx b n)];exact n,fun b u q _=>?_,
  fun b xs q=>by rw [Jk (hm b _ q fun z=>z)];exact q,fun b u xs q=>by rw [Jk (hm b _ q fun z=>z)];exact q,fun b ps q=>⟨#[],by rw [Jk (hm b _ q fun z=>z),q];simp⟩⟩
 by_cases hbe:b=e
 ·subst hbe;exact heo
 ·exact ⟨u,k b u hbe q⟩
end
noncomputable def trk (h:Heap)(H:Hp):List Addr:=(List.range h.objs.size).filter fun a=>(H a).isSome
noncomputable def J5h (h:Heap)(H:Hp):Heap:=PySem.W.hideAll h (trk h H)
theorem J8t (h:Heap)(H:Hp):(J5h h H).objs.size=h.objs.size:=PySem.W.hideAll_size _ _
theorem Ja4 {h:Heap}{H:Hp}{b:Addr}{o:Obj}(e:h.get? b=some o)(n:H b=none):(J5h h H).get? b=some o :=
 PySem.W.hideAll_get _ e fun hm=>by
  have q:(H b).isSome=true:=(List.mem_filter.mp hm).2
  rw [n] at q;simp at q
theorem Jbd {h:Heap}{H:Hp}{b:Addr}{o:Obj}(e:(J5h h H).get? b=some o):h.get? b=some o∧H b=none:=by
 have e':h.get? b=some o:=PySem.W.of_hideAll (trk h H) e
 refine ⟨e',?_⟩
 cases q:H b with
 | none=>rfl
 | some x =>
   have hm:b∈trk h H:=List.mem_filter.mpr ⟨List.mem_range.mpr (Heap.lt_size e'),by simp [q]⟩
   have z:(J5h h H).get? b=none:=PySem.W.hideAll_none (trk h H) hm
   rw [z] at e;cases e
structure Mod (K:PySem.W.Frag)(mg:Str→Option Value)(base:Heap):Prop where
 kin:K.In base
 glob:base.Ns mainGlobals mg
 blt:∃ mb,base.Ns builtinsNs mb∧∀ x:Str,x≠"__name__"→mb x=bootBuiltins x
 nolimit:base.NoLimit
structure Cx where
 prog:Program
 w:World
 K:PySem.W.Frag
 mg:Str→Option Value
 base:Heap
 A:Around
 N:List Str
 s₀:Shared
 H₀:Hp
 env:Env
 outer:List Env
 stack:List Env
 ex:List Addr
 fn:Str→Bool
 calm:Bool
 pn:List (Addr×Obj)
 xe:Value→Shared→Prop
noncomputable def frs (l:List Env):List Addr:=l.filterMap (·.frame)
noncomputable abbrev Cx.fs (X:Cx):List Addr:=frs X.outer
def Vis (sc:Scope)(x:Str):Prop:=sc.names.lookup x=some .local∨sc.names.lookup x=some .cell∨sc.names.lookup x=some .free
def Loc (sc:Scope)(x:Str):Prop:=sc.names.lookup x=some .local∨sc.names.lookup x=some .cell
def Jdo (env:Env)(h:Heap)(m:Str→Option Value)(x:Str)(u:Value):Prop :=
 (env.kindOf x=some .local∧m x=some u)∨((env.kindOf x=some .cell∨env.kindOf x=some .free)∧∃ c,env.cells.lookup x=some c∧h.IsCell c (some u))
structure Cx.Ok (X:Cx):Prop where
 mod:Mod X.K X.mg X.base
 kind:X.env.scope.kind=.function
 glob:X.env.globals=mainGlobals
 blt:X.env.builtins=builtinsNs
 above:X.s₀.heap.objs.size≤X.env.locals
 inj:∀ x y c,X.env.cells.lookup x=some c→X.env.cells.lookup y=some c→x=y
 has:∀ x,(X.env.kindOf x=some .cell∨X.env.kindOf x=some .free)→∃ c,X.env.cells.lookup x=some c
 cab:∀ x c,X.fn x=true→X.env.cells.lookup x=some c→X.s₀.heap.objs.size≤c
 hd:X.calm=true→X.A.handled=none
 frames:X.A.frames=some X.stack
 stk:X.stack=X.outer∨(X.stack=X.env::X.outer∧X.env.frame=some X.env.locals)
 exf:∀ b∈X.ex,b≠X.env.locals∧∀ x c,X.env.cells.lookup x=some c→c≠b
 bs:∀ b o,X.base.get? b=some o→X.s₀.heap.get? b=some o∧X.H₀ b=none
 bsz:X.base.objs.size≤X.s₀.heap.objs.size
 noex:∀ b o,X.base.get? b=some o→b∉X.ex
 exfs:∀ b∈X.ex,b∉X.fs
 funs:X.s₀.heap.FunFrames X.base X.outer
 frf:∀ b∈X.fs,X.H₀ b=none
structure Inv (X:Cx)(pins:List (Addr×Obj))(σ:List (Option V))(H:Hp)(s:Shared):Prop where
 ok:X.Ok
 os:s.os=X.s₀.os
 bare:AllBare s.gens
 base:Un X.fs X.ex X.H₀ H X.s₀.heap s.heap
 loc:∃ m,s.heap.Ns X.env.locals m∧∀ (i:Nat) (x:Str) (v:V),X.N[i]?=some x→σ[i]?=some (some v)→Vis X.env.scope x→∃ u,RelV v u∧Jdo X.env s.heap m x u
 cell:∀ x c,X.env.cells.lookup x=some c→∃ v,s.heap.IsCell c v
 free:H X.env.locals=none
 freeC:∀ x c,X.env.cells.lookup x=some c→H c=none
 pin:∀ p∈X.pn++pins,s.heap.get? p.1=some p.2∧H p.1=none∧p.1≠X.env.locals∧p.1∉X.fs∧∀ v,p.2.data≠.cell v
 hok:HOk X.prog X.w H s.heap
 len:σ.length=X.N.length
section
variable {X:Cx}{pins:List (Addr×Obj)}{σ:List (Option V)}{H H':Hp}{s:Shared}{h':Heap}
theorem Cx.Ok.nofr (ok:X.Ok){b:Addr}{o:Obj}(e:X.base.get? b=some o):b∉X.fs:=fun hb=>by
 have:=(ok.funs.mem hb).1
 rw [e] at this;cases this
theorem Inv.bs (I:Inv X pins σ H s):∀ b o,X.base.get? b=some o→s.heap.get? b=some o∧H b=none:=fun b o e =>
 ⟨I.base.keep b o (I.ok.bs b o e).1 (I.ok.bs b o e).2 (I.ok.nofr e) (I.ok.noex b o e),I.base.free b o (I.ok.bs b o e).1 (I.ok.bs b o e).2 (I.ok.noex b o e)⟩
theorem Inv.bk (I:Inv X pins σ H s):∀ b o,X.base.get? b=some o→s.heap.get? b=some o:=fun b o e=>(I.bs b o e).1
theorem Inv.mod (I:Inv X pins σ H s):Mod X.K X.mg X.base:=I.ok.mod
theorem Inv.kIn (I:Inv X pins σ H s):X.K.In s.heap:=I.ok.mod.kin.keeps I.bk
theorem Inv.lt (I:Inv X pins σ H s):X.env.locals<s.heap.objs.size:=let ⟨_,hn,_⟩:=I.loc;hn.lt
theorem Inv.sz (I:Inv X pins σ H s):X.s₀.heap.objs.size≤s.heap.objs.size:=Nat.le_trans I.ok.above (Nat.le_of_lt I.lt)
theorem Inv.nofs (I:Inv X pins σ H s){a:Addr}(h:s.heap.objs.size≤a):a∉X.fs:=fun hb=>by
 obtain ⟨_,o,ho,_⟩:=I.ok.funs.mem hb
 exact absurd (Nat.lt_of_lt_of_le (Heap.lt_size ho) (Nat.le_trans I.sz h)) (Nat.lt_irrefl _)
theorem Inv.cne (I:Inv X pins σ H s):∀ x c,X.env.cells.lookup x=some c→c≠X.env.locals:=fun x c e z=>by
 obtain ⟨v,o,ho,hd⟩:=I.cell x c e
 obtain ⟨m,⟨o',es,ep,ho',hd',_⟩,_⟩:=I.loc
 rw [z,ho'] at ho;cases ho;rw [hd'] at hd;cases hd
theorem Inv.funs (I:Inv X pins σ H s):s.heap.FunFrames X.base X.outer:=by
 have all:∀ (l:List Env),(∀ b∈frs l,b∈X.fs)→X.s₀.heap.FunFrames X.base l→s.heap.FunFrames X.base l:=by
  intro l
  induction l with
  | nil=>intro _ _;trivial
  | cons env r ih =>
    intro hs hl
    obtain ⟨hk,⟨L,o,hf,hn,ho,hd⟩,hr⟩:=hl
    have hL:L∈X.fs:=hs L (by unfold frs;rw [List.filterMap_cons,hf];exact List.mem_cons_self)
    obtain ⟨sl,e⟩:=I.base.slot L o ho (I.ok.frf L hL) hL fun z=>I.ok.exfs L z hL
    exact ⟨hk,⟨L,_,hf,hn,e,hd⟩,ih (fun b hb=>hs b (by unfold frs;rw [List.filterMap_cons,hf];exact List.mem_cons_of_mem _ hb)) hr⟩
 exact all X.outer (fun _ hb=>hb) I.ok.funs
theorem Inv.stack (I:Inv X pins σ H s):s.heap.FunFrames X.base X.stack:=by
 rcases I.ok.stk with e | ⟨e,hf⟩
 ·rw [e];exact I.funs
 ·rw [e]
  obtain ⟨m,hn,_⟩:=I.loc
  refine .cons (by rw [I.ok.kind];decide) hf hn ?_ I.funs
  exact Heap.get?_none_of_le (Nat.le_trans I.ok.bsz I.ok.above)
theorem Inv.stkSub (I:Inv X pins σ H s):∀ b∈frs X.stack,b∈X.env.locals::X.fs:=fun b hb=>by
 rcases I.ok.stk with e | ⟨e,hf⟩
 ·rw [e] at hb;exact List.mem_cons_of_mem _ hb
 ·rw [e] at hb
  unfold frs at hb
  rw [List.filterMap_cons,hf] at hb
  exact hb
theorem Inv.stkFree (I:Inv X pins σ H s):∀ b∈frs X.stack,H b=none:=fun b hb=>by
 rcases List.mem_cons.mp (I.stkSub b hb) with e | hb
 ·rw [e];exact I.free
 ·obtain ⟨_,o,ho,_⟩:=I.ok.funs.mem hb
  exact I.base.free b o ho (I.ok.frf b hb) fun z=>I.ok.exfs b z hb
theorem Inv.step {g':Array GenState}{t':Nat}{d':Drawn}{ch:List Addr}(I:Inv X pins σ H s)
 (hch:∀ b∈ch,(b∈X.ex∨X.s₀.heap.objs.size≤b)∧b≠X.env.locals∧(∀ x c,X.env.cells.lookup x=some c→c≠b)∧∀ p∈X.pn++pins,p.1≠b)
 (keep:∀ b o,b≠X.env.locals→b∉X.fs→b∉ch→s.heap.get? b=some o→H b=none→h'.get? b=some o)
 (slot:∀ b o,b≠X.env.locals→b∈X.fs→b∉ch→s.heap.get? b=some o→H b=none→∃ sl,h'.get? b=some { o with slots:=sl }) (free:∀ b o,b∉ch→s.heap.get? b=some o→H b=none→H' b=none)
 (there:∀ b o,b∉ch→s.heap.get? b=some o→∃ o',h'.get? b=some o')
 (tups:∀ b xs,H b=some (.tup xs)→H' b=some (.tup xs)) (frzs:∀ b o u,H b=some (.frz o u)→H' b=some (.frz o u)) (tbls:∀ b ps,H b=some (.tbl ps)→∃ more,H' b=some (.tbl (ps++more)))
 (ns:∀ m,s.heap.Ns X.env.locals m→h'.Ns X.env.locals m) (hok:HOk X.prog X.w H' h') (hg:AllBare g') :
 Inv X pins σ H' { s with heap:=h',gens:=g',drawn:=d',toks:=t' }:=by
 have neL:∀ b o,X.s₀.heap.get? b=some o→b≠X.env.locals:=fun b o e=>Nat.ne_of_lt (Nat.lt_of_lt_of_le (Heap.lt_size e) I.ok.above)
 have neC:∀ b o,X.s₀.heap.get? b=some o→b∉X.ex→b∉ch:=fun b o e hx hb=>by
  rcases (hch b hb).1 with z | z
  ·exact hx z
  ·exact absurd (Nat.lt_of_lt_of_le (Heap.lt_size e) z) (Nat.lt_irrefl _)
 have cellK:∀ x c,X.env.cells.lookup x=some c→∀ v,s.heap.IsCell c v→h'.IsCell c v:=fun x c e v ⟨o,ho,hd⟩=>by
  have nch:c∉ch:=fun z=>(hch c z).2.2.1 x c e rfl
  by_cases hc:c∈X.fs
  ·obtain ⟨sl,q⟩:=slot c o (I.cne x c e) hc nch ho (I.freeC x c e)
   exact ⟨_,q,hd⟩
  ·exact ⟨o,keep c o (I.cne x c e) hc nch ho (I.freeC x c e),hd⟩
 refine ⟨I.ok,I.os,hg,⟨fun b o e n hb hx=>?_,fun b o e n hb hx=>?_,fun b o e n hx=>?_,fun b o e hx=>?_,fun b xs e=>tups b xs (I.base.tups b xs e),fun b o xs e=>frzs b o xs (I.base.frzs b o xs e),fun b ps e=>?_⟩,?_,fun x c e=>?_,?_,fun x c e=>?_,fun p hp=>?_,hok,I.len⟩
 ·exact keep b o (neL b o e) hb (neC b o e hx) (I.base.keep b o e n hb hx) (I.base.free b o e n hx)
 ·obtain ⟨sl,e1⟩:=I.base.slot b o e n hb hx
  obtain ⟨sl',e2⟩:=slot b _ (neL b o e) hb (neC b o e hx) e1 (I.base.free b o e n hx)
  exact ⟨sl',e2⟩
 ·obtain ⟨o',e1⟩:=I.base.there b o e hx
  exact free b o' (neC b o e hx) e1 (I.base.free b o e n hx)
 ·obtain ⟨o',e1⟩:=I.base.there b o e hx
  exact there b o' (neC b o e hx) e1
 ·obtain ⟨m1,e1⟩:=I.base.tbls b ps e
  obtain ⟨m2,e2⟩:=tbls b _ e1
  exact ⟨m1++m2,by rw [e2,Array.append_assoc]⟩
 ·obtain ⟨m,hn,hl⟩:=I.loc
  refine ⟨m,ns m hn,fun i x v e1 e2 e3=>?_⟩
  obtain ⟨u,r,l⟩:=hl i x v e1 e2 e3
  refine ⟨u,r,?_⟩
  rcases l with l | ⟨k,c,e,z⟩
  ·exact .inl l
  ·exact .inr ⟨k,c,e,cellK x c e _ z⟩
 ·obtain ⟨v,z⟩:=I.cell x c e
  exact ⟨v,cellK x c e v z⟩
 ·obtain ⟨m,⟨o,_,_,ho,_⟩,_⟩:=I.loc
  exact free _ o (fun z=>(hch _ z).2.1 rfl) ho I.free
 ·obtain ⟨v,o,ho,hd⟩:=I.cell x c e
  exact free c o (fun z=>(hch c z).2.2.1 x c e rfl) ho (I.freeC x c e)
 ·obtain ⟨e,n,ne,nf,d⟩:=I.pin p hp
  have nch:p.1∉ch:=fun z=>(hch p.1 z).2.2.2 p hp rfl
  exact ⟨keep p.1 p.2 ne nf nch e n,free p.1 p.2 nch e n,ne,nf,d⟩
theorem Inv.un {t':Nat}(I:Inv X pins σ H s)(u:Un X.fs [] H H' s.heap h')(hok:HOk X.prog X.w H' h'):Inv X pins σ H' { s with heap:=h',toks:=t' }:=by
 obtain ⟨m,⟨o,es,ep,ho,r⟩,_⟩:=id I.loc
 obtain ⟨sl,hL⟩:=u.any ho I.free (by simp)
 exact I.step (g':=s.gens) (d':=s.drawn) (ch:=[]) (fun _ z=>nomatch z) (fun b o _ hb _ e n=>u.keep b o e n hb (by simp)) (fun b o _ hb _ e n=>u.slot b o e n hb (by simp)) (fun b o _ e n=>u.free b o e n (by simp)) (fun b o _ e=>u.there b o e (by simp)) u.tups u.frzs u.tbls (fun m' hm=>by
  obtain ⟨o',es',ep',ho',r'⟩:=hm
  rw [ho] at ho';cases ho'
  exact ⟨_,es',ep',hL,r'⟩) hok I.bare
theorem Inv.call {g':Array GenState}{t':Nat}{d':Drawn}{ch:List Addr}(I:Inv X pins σ H s)(u:Un (frs X.stack) ch H H' s.heap h')(hok:HOk X.prog X.w H' h')(hg:AllBare g')
 (hch:∀ b∈ch,(b∈X.ex∨X.s₀.heap.objs.size≤b)∧b≠X.env.locals∧(∀ x c,X.env.cells.lookup x=some c→c≠b)∧∀ p∈X.pn++pins,p.1≠b) :
 Inv X pins σ H' { s with heap:=h',gens:=g',drawn:=d',toks:=t' }:=by
 obtain ⟨m,⟨o,es,ep,ho,r⟩,_⟩:=id I.loc
 obtain ⟨sl,hL⟩:=u.any ho I.free fun z=>(hch _ z).2.1 rfl
 exact I.step (ch:=ch) hch (fun b o hL hb hc e n=>u.keep b o e n (fun z=>(List.mem_cons.mp (I.stkSub b z)).elim hL hb) hc) (fun b o _ _ hc e n=>u.any e n hc) (fun b o hc e n=>u.free b o e n hc) (fun b o hc e=>u.there b o e hc) u.tups u.frzs u.tbls (fun m' hm=>by
  obtain ⟨o',es',ep',ho',r'⟩:=hm
  rw [ho] at ho';cases ho'
  exact ⟨_,es',ep',hL,r'⟩) hok hg
theorem Inv.turned {t':Nat}{it:Addr}(I:Inv X pins σ H s)(k:∀ b o,b≠it→s.heap.get? b=some o→h'.get? b=some o)(hn:H it=none)(hL:it≠X.env.locals)
 (h1:it∈X.ex∨X.s₀.heap.objs.size≤it) (h2:∀ x c,X.env.cells.lookup x=some c→c≠it) (h3:∀ p∈X.pn++pins,p.1≠it):Inv X pins σ H { s with heap:=h',toks:=t' }:=by
 have nit:∀ b u,H b=some u→b≠it:=fun b u e z=>by rw [z,hn] at e;cases e
 refine I.step (g':=s.gens) (d':=s.drawn) (ch:=[it]) (fun b hb=>?_) (fun b o _ _ hc e _=>k b o (fun z=>hc (by simp [z])) e) (fun b o _ _ hc e _=>⟨o.slots,k b o (fun z=>hc (by simp [z])) e⟩) (fun _ _ _ _ n=>n)
  (fun b o hc e=>⟨o,k b o (fun z=>hc (by simp [z])) e⟩) (fun _ _ e=>e) (fun _ _ _ e=>e) (fun b ps e=>⟨#[],by rw [e];simp⟩) (fun m hm=>?_) (fun b u e=>?_) I.bare
 ·have e:b=it:=by simpa using hb
  subst e
  exact ⟨h1,hL,h2,h3⟩
 ·obtain ⟨o,es,ep,ho,r⟩:=hm
  exact ⟨o,es,ep,k _ o (Ne.symm hL) ho,r⟩
 ·refine (I.hok b u e).stay (fun c v hc q=>k c v ?_ q) (fun _ q=>q) fun _ _ q=>q
  rcases hc with z | z
  ·rw [z];exact nit b u e
  ·exact nit c _ z
theorem Inv.tok (I:Inv X pins σ H s)(t:Nat):Inv X pins σ H { s with toks:=t }:=I.un (h':=s.heap) (t':=t) Un.refl I.hok
theorem Inv.kept {t':Nat}(I:Inv X pins σ H s)(k:∀ b u,s.heap.get? b=some u→h'.get? b=some u):Inv X pins σ H { s with heap:=h',toks:=t' }:=I.un (Un.kept k) (I.hok.kept k)
theorem Inv.laid {a:Addr}{o:HO}{t':Nat}(I:Inv X pins σ H s)(k:∀ b u,s.heap.get? b=some u→h'.get? b=some u)(hp:s.heap.objs.size≤a)(new:ObjOk X.prog X.w (upd H a o) h' a o) :
 Inv X pins σ (upd H a o) { s with heap:=h',toks:=t' }:=I.un (Un.laid k hp (I.hok.fresh hp)) (I.hok.laid k hp new)
theorem Inv.write {x e:Addr}{o:HO}{t':Nat}(I:Inv X pins σ H s)(mu:Mut (H x))(he:e=x∨H e=some (.own x))(k:∀ b u,b≠e→s.heap.get? b=some u→h'.get? b=some u)(heo:∃ u,h'.get? e=some u)
 (new:ObjOk X.prog X.w (upd H x o) h' x o):Inv X pins σ (upd H x o) { s with heap:=h',toks:=t' }:=I.un (Un.write mu he k heo) (I.hok.write mu he k heo new)
theorem Inv.pins_of {pins':List (Addr×Obj)}(I:Inv X pins σ H s)(h:∀ p∈pins',s.heap.get? p.1=some p.2∧H p.1=none∧p.1≠X.env.locals∧p.1∉X.fs∧∀ v,p.2.data≠.cell v):Inv X pins' σ H s :=
 ⟨I.ok,I.os,I.bare,I.base,I.loc,I.cell,I.free,I.freeC,fun p hp=>(List.mem_append.mp hp).elim (fun z=>I.pin p (List.mem_append_left _ z)) (h p),I.hok,I.len⟩
theorem J1k {N:List Str}(hN:N.Nodup){i j:Nat}{x:Str}(a:N[i]?=some x)(b:N[j]?=some x):i=j:=by
 obtain ⟨h1,e1⟩:=List.getElem?_eq_some_iff.mp a
 obtain ⟨h2,e2⟩:=List.getElem?_eq_some_iff.mp b
 exact (List.getElem_inj hN).mp (e1.trans e2.symm)
theorem store_ok2 {M:Model}{A:Around}{E:Value→Shared→Prop}{i:Nat}{x:Str}{v:V}{u:Value}{Q:Unit→Shared→Prop}(I:Inv X pins σ H s)(hN:X.N.Nodup)(hi:X.N[i]?=some x)(hx:Loc X.env.scope x)(r:RelV v u)
 (h:∀ s',Inv X pins (σ.set i (some v)) H s'→(∃ a,Heap.SameBut a s.heap s'.heap∧(a=X.env.locals∨X.env.cells.lookup x=some a))→Q () s') (hf:X.fn x=true∨X.env.scope.names.lookup x=some .local:=by first | exact .inl rfl | exact .inr rfl | assumption):wpAny M A (storeName X.env x u) Q E s:=by
 obtain ⟨m,hn,hl⟩:=id I.loc
 have hcls:(X.env.scope.kind == .class||(X.env.scope.kind == .module&&X.env.locals != X.env.globals))=false:=by rw [I.ok.kind];rfl
 have hiσ:i<σ.length:=by rw [I.len];exact (List.getElem?_eq_some_iff.mp hi).1
 have cne:=I.cne
 have tracked:∀ {a:Addr} {h':Heap},(∃ o,s.heap.get? a=some o∧H a=none)→Heap.SameBut a s.heap h'→HOk X.prog X.w H h':=fun {a h'} ha hs b ob e=>by
  obtain ⟨_,_,hfree⟩:=ha
  refine (I.hok b ob e).stay (fun c w' hc q=>(hs.2 c ?_).trans q) (fun _ q=>q) fun _ _ q=>q
  rintro rfl
  rcases hc with rfl | hc
  ·rw [hfree] at e;cases e
  ·rw [hfree] at hc;cases hc
 rcases hx with hk | hk
 ·refine wpAny_storeName_local hk hn (fun h' hn' hs=>?_) hcls
  obtain ⟨oL,_,_,hoL,_⟩:=id hn
  refine h _ ⟨I.ok,I.os,I.bare,⟨fun b o e n hb hx=>?_,fun b o e n hb hx=>?_,I.base.free,fun b o e hx=>?_,I.base.tups,I.base.frzs,I.base.tbls⟩,⟨_,hn',fun j y v' e1 e2 e3=>?_⟩,fun y c e=>?_,I.free,I.freeC,fun p hp=>?_,tracked ⟨oL,hoL,I.free⟩ hs,by simpa using I.len⟩ ⟨_,hs,.inl rfl⟩
  ·exact (hs.2 b (Nat.ne_of_lt (Nat.lt_of_lt_of_le (Heap.lt_size e) I.ok.above))).trans (I.base.keep b o e n hb hx)
  ·obtain ⟨sl,e1⟩:=I.base.slot b o e n hb hx
   exact ⟨sl,(hs.2 b (Nat.ne_of_lt (Nat.lt_of_lt_of_le (Heap.lt_size e) I.ok.above))).trans e1⟩
  ·obtain ⟨o',e1⟩:=I.base.there b o e hx
   exact ⟨o',(hs.2 b (Nat.ne_of_lt (Nat.lt_of_lt_of_le (Heap.lt_size e) I.ok.above))).trans e1⟩
  ·by_cases hj:j=i
   ·subst hj
    rw [hi] at e1;cases e1
    rw [List.getElem?_set_self hiσ] at e2
    cases e2
    exact ⟨u,r,.inl ⟨hk,by simp⟩⟩
   ·rw [List.getElem?_set_ne (Ne.symm hj)] at e2
    obtain ⟨u',r',q⟩:=hl j y v' e1 e2 e3
    refine ⟨u',r',?_⟩
    rcases q with ⟨k,e⟩ | ⟨k,c,e,z⟩
    ·refine .inl ⟨k,?_⟩
     have:y≠x:=fun e=>hj (J1k hN e1 (e ▸ hi))
     simp [this,e]
    ·exact .inr ⟨k,c,e,z.sameBut hs (cne y c e)⟩
  ·obtain ⟨w',z⟩:=I.cell y c e
   exact ⟨w',z.sameBut hs (cne y c e)⟩
  ·obtain ⟨e,n,ne,nf,d⟩:=I.pin p hp
   exact ⟨(hs.2 p.1 ne).trans e,n,ne,nf,d⟩
 ·have hfn:X.fn x=true:=by
   rcases hf with z | z
   ·exact z
   ·rw [z] at hk;cases hk
  obtain ⟨c,hc⟩:=I.ok.has x (.inl hk)
  obtain ⟨w',z⟩:=I.cell x c hc
  refine wpAny_storeName_cell I.ok.kind hk hc z (fun h' hc' hs=>?_)
  obtain ⟨oc,hoc,hocd⟩:=id z
  refine h { s with heap:=h' } ⟨I.ok,I.os,I.bare,⟨fun b o e n hb hx=>?_,fun b o e n hb hx=>?_,I.base.free,fun b o e hx=>?_,I.base.tups,I.base.frzs,I.base.tbls⟩,⟨m,hn.sameBut hs (Ne.symm (cne x c hc)),fun j y v' e1 e2 e3=>?_⟩,fun y c' e=>?_,I.free,I.freeC,fun p hp=>?_,tracked ⟨oc,hoc,I.freeC x c hc⟩ hs,by simpa using I.len⟩ ⟨c,hs,.inr hc⟩
  ·exact (hs.2 b (Nat.ne_of_lt (Nat.lt_of_lt_of_le (Heap.lt_size e) (I.ok.cab x c hfn hc)))).trans (I.base.keep b o e n hb hx)
  ·obtain ⟨sl,e1⟩:=I.base.slot b o e n hb hx
   exact ⟨sl,(hs.2 b (Nat.ne_of_lt (Nat.lt_of_lt_of_le (Heap.lt_size e) (I.ok.cab x c hfn hc)))).trans e1⟩
  ·obtain ⟨o',e1⟩:=I.base.there b o e hx
   exact ⟨o',(hs.2 b (Nat.ne_of_lt (Nat.lt_of_lt_of_le (Heap.lt_size e) (I.ok.cab x c hfn hc)))).trans e1⟩
  ·by_cases hj:j=i
   ·subst hj
    rw [hi] at e1;cases e1
    rw [List.getElem?_set_self hiσ] at e2
    cases e2
    exact ⟨u,r,.inr ⟨.inl hk,c,hc,hc'⟩⟩
   ·rw [List.getElem?_set_ne (Ne.symm hj)] at e2
    obtain ⟨u',r',q⟩:=hl j y v' e1 e2 e3
    refine ⟨u',r',?_⟩
    rcases q with q | ⟨k,c',e,z'⟩
    ·exact .inl q
    ·refine .inr ⟨k,c',e,z'.sameBut hs ?_⟩
     rintro rfl
     exact hj (J1k hN e1 (I.ok.inj _ _ _ e hc ▸ hi))
  ·by_cases hcc:c'=c
   ·subst hcc;exact ⟨_,hc'⟩
   ·obtain ⟨w2,z2⟩:=I.cell y c' e
    exact ⟨w2,z2.sameBut hs hcc⟩
  ·obtain ⟨e,n,ne,nf,d⟩:=I.pin p hp
   refine ⟨(hs.2 p.1 ?_).trans e,n,ne,nf,d⟩
   intro q
   rw [q,hoc] at e
   have q':oc=p.2:=Option.some.inj e
   exact d w' (by rw [← q'];exact hocd)
theorem J2t {M:Model}{A:Around}{E:Value→Shared→Prop}{i:Nat}{x:Str}{v:V}{u:Value}{Q:Unit→Shared→Prop}(I:Inv X pins σ H s)(hN:X.N.Nodup)(hi:X.N[i]?=some x)(hx:Loc X.env.scope x)(r:RelV v u)
 (h:∀ s',Inv X pins (σ.set i (some v)) H s'→Q () s') (hf:X.fn x=true∨X.env.scope.names.lookup x=some .local:=by first | exact .inl rfl | exact .inr rfl | assumption):wpAny M A (storeName X.env x u) Q E s :=
 store_ok2 I hN hi hx r (fun s' I' _=>h s' I') hf
theorem Inv.call' {s':Shared}{ch:List Addr}(I:Inv X pins σ H s)(ho:s'.os=s.os)(u:Un (frs X.stack) ch H H' s.heap s'.heap)(hok:HOk X.prog X.w H' s'.heap)(hg:AllBare s'.gens)
 (hch:∀ b∈ch,(b∈X.ex∨X.s₀.heap.objs.size≤b)∧b≠X.env.locals∧(∀ x c,X.env.cells.lookup x=some c→c≠b)∧∀ p∈X.pn++pins,p.1≠b):Inv X pins σ H' s':=by
 obtain ⟨h',g',d',t',o'⟩:=s'
 have e:o'=s.os:=ho
 subst e
 exact I.call (g':=g') (t':=t') (d':=d') u hok hg hch
end
abbrev XK:=Value→Option Addr→Hp→Prop
abbrev St:=List (Option V)
abbrev VK:=V→Hp→Prop
abbrev TE:=St→Hp→VK→Prop
abbrev TT:=St→Hp→(Bool→Hp→Prop)→Prop
abbrev TA:=St→Hp→(List V→Hp→Prop)→Prop
structure Ends where
 nx:St→Hp→Prop
 rt:VK
 bk:St→Hp→Prop:=fun _ _=>False
 ct:St→Hp→Prop:=fun _ _=>False
abbrev TS:=Ends→St→Hp→Prop
def EP (X:Cx)(pins:List (Addr×Obj))(σ:St)(Q:VK)(u:Value)(s':Shared):Prop:=∃ v H',Inv X pins σ H' s'∧RelV v u∧Q v H'
def TP (X:Cx)(pins:List (Addr×Obj))(σ:St)(Q:Bool→Hp→Prop)(b:Bool)(s':Shared):Prop:=∃ H',Inv X pins σ H' s'∧Q b H'
def AP (X:Cx)(pins:List (Addr×Obj))(σ:St)(Q:List V→Hp→Prop)(us:List Value)(s':Shared):Prop:=∃ vs H',Inv X pins σ H' s'∧Vals vs us∧Q vs H'
def SP (X:Cx)(pins:List (Addr×Obj))(D:Ends)(f:Flow)(s':Shared):Prop :=
 match f with
 | .next=>∃ σ' H',Inv X pins σ' H' s'∧D.nx σ' H'
 | .brk=>∃ σ' H',Inv X pins σ' H' s'∧D.bk σ' H'
 | .cont=>∃ σ' H',Inv X pins σ' H' s'∧D.ct σ' H'
 | .ret u=>∃ v σ' H',Inv X pins σ' H' s'∧RelV v u∧D.rt v H'
def PE (X:Cx)(e:Expr)(t:TE):Prop :=
 ∀ (pins:List (Addr×Obj)) (s:Shared) (σ:St) (H:Hp) (Q:VK),Inv X pins σ H s→t σ H Q→wpAny (model X.prog X.w) X.A (eval e X.env) (EP X pins σ Q) X.xe s
def PT (X:Cx)(e:Expr)(t:TT):Prop :=
 ∀ (pins:List (Addr×Obj)) (s:Shared) (σ:St) (H:Hp) (Q:Bool→Hp→Prop),Inv X pins σ H s→t σ H Q→wpAny (model X.prog X.w) X.A (isTrue e X.env (eval e X.env)) (TP X pins σ Q) X.xe s
def PW (X:Cx)(e:Expr)(t:TT):Prop :=
 ∀ (whole:Sem Value) (pins:List (Addr×Obj)) (s:Shared) (σ:St) (H:Hp) (Q:Bool→Hp→Prop),Inv X pins σ H s→t σ H Q→wpAny (model X.prog X.w) X.A (isTrue e X.env whole) (TP X pins σ Q) X.xe s
theorem PW.pt {X:Cx}{e:Expr}{t:TT}(h:PW X e t):PT X e t:=h _
def PA (X:Cx)(es:List Expr)(t:TA):Prop :=
 ∀ (pos:Pos) (pins:List (Addr×Obj)) (s:Shared) (σ:St) (H:Hp) (Q:List V→Hp→Prop),Inv X pins σ H s→t σ H Q→wpAny (model X.prog X.w) X.A (spliced (backTo pos (starEach es X.env))) (AP X pins σ Q) X.xe s
def PS (X:Cx)(st:Stmt)(t:TS):Prop :=
 ∀ (pins:List (Addr×Obj)) (s:Shared) (σ:St) (H:Hp) (D:Ends),Inv X pins σ H s→t D σ H→wpAny (model X.prog X.w) X.A (exec st X.env) (SP X pins D) X.xe s
def PSs (X:Cx)(st:List Stmt)(t:TS):Prop :=
 ∀ (pins:List (Addr×Obj)) (s:Shared) (σ:St) (H:Hp) (D:Ends),Inv X pins σ H s→t D σ H→wpAny (model X.prog X.w) X.A (execs st X.env) (SP X pins D) X.xe s
theorem thn {α:Type}{t:Sem α}{Q Q':α→Shared→Prop}{M:Model}{A:Around}{E:Value→Shared→Prop}{s:Shared}(h:wpAny M A t Q E s)(hQ:∀ a s,Q a s→Q' a s):wpAny M A t Q' E s:=wpAny_mono h hQ fun _ _ x=>x
section
variable {X:Cx}
def J4B (i:Nat):TE:=fun σ H Q=>match σ[i]? with | some (some v)=>Q v H | _=>False
theorem JaC {i:Nat}{σ:St}{H:Hp}{Q:VK}(h:J4B i σ H Q):∃ v,σ[i]?=some (some v)∧Q v H:=by
 unfold J4B at h
 split at h
 ·rename_i v e;exact ⟨v,e,h⟩
 ·exact h.elim
def tC (v:V):TE:=fun _ H Q=>Q v H
theorem J9w {i:Nat}{x:Str}{pos:Pos}(hN:X.N[i]?=some x)(hv:Vis X.env.scope x)(hd:(x == ("__debug__":Str))=false:=by decide)(hcd:(x == ("__classdict__":Str))=false:=by decide):PE X (.Name x pos) (J4B i):=by
 intro pins s σ H Q I h
 obtain ⟨v,e,h⟩:=JaC h
 obtain ⟨m,hn,hl⟩:=I.loc
 obtain ⟨u,r,l⟩:=hl i x v hN e hv
 have fin:EP X pins σ Q u s:=⟨v,H,I,r,h⟩
 rcases l with ⟨hk,hm⟩ | ⟨hk,c,hc,hcell⟩
 ·exact wpAny_Name (wpAny_loadName_local I.ok.kind hk hn hm fin) hd
 ·rcases hk with hk | hk
  ·exact wpAny_Name (wpAny_loadName_cell I.ok.kind hk hc hcell fin) hd
  ·exact wpAny_Name (wpAny_loadName_free I.ok.kind hk hc hcell fin hcd) hd
theorem Je {i j pos}:PE X (.Constant (.int i) j pos) (tC (.int i)):=fun _ _ _ H _ I h=>wpAny_Constant_int ⟨.int i,H,I.tok _,⟨_,rfl⟩,h⟩
theorem J1b {b j pos}:PE X (.Constant (.bool b) j pos) (tC (.bl b)):=fun _ _ _ H _ I h=>Constant_bool ⟨.bl b,H,I,rfl,h⟩
theorem J1t {j pos}:PE X (.Constant .none j pos) (tC .non):=fun _ _ _ H _ I h=>Constant_none ⟨.non,H,I,rfl,h⟩
theorem Jp {x j pos}:PE X (.Constant (.str x) j pos) (tC (.str x)):=fun _ _ _ H _ I h=>Calls.Constant_str ⟨.str x,H,I.tok _,⟨_,rfl⟩,h⟩
def Gl (X:Cx)(x:Str):Prop:=X.env.kindOf x=some .globalImplicit
theorem J27 {E:Value→Shared→Prop}{pins:List (Addr×Obj)}{s:Shared}{σ:St}{H:Hp}{x:Str}{u:Value}{pos:Pos}{Q:Value→Shared→Prop}(I:Inv X pins σ H s)(hg:Gl X x)(hm:X.mg x=some u)(h:Q u s)
 (hd:(x == ("__debug__":Str))=false:=by decide):wpAny (model X.prog X.w) X.A (eval (.Name x pos) X.env) Q E s :=
 Calls.Name_function_global I.ok.kind hg (Calls.loadGlobal_global (by rw [I.ok.glob];exact I.mod.glob.keeps I.bk) hm h) hd
theorem J1P {E:Value→Shared→Prop}{pins:List (Addr×Obj)}{s:Shared}{σ:St}{H:Hp}{x:Str}{u:Value}{pos:Pos}{Q:Value→Shared→Prop}(I:Inv X pins σ H s)(hg:Gl X x)(hm:X.mg x=none)(hv:bootBuiltins x=some u)(h:Q u s)
 (hn:x≠"__name__":=by decide) (hd:(x == ("__debug__":Str))=false:=by decide):wpAny (model X.prog X.w) X.A (eval (.Name x pos) X.env) Q E s:=by
 obtain ⟨mb,h1,h2⟩:=I.mod.blt
 exact Calls.Name_function_global I.ok.kind hg (Calls.loadGlobal_builtin (by rw [I.ok.glob];exact I.mod.glob.keeps I.bk) hm (by rw [I.ok.blt];exact h1.keeps I.bk) ((h2 x hn).trans hv) h) hd
theorem J55 {x:Str}{v:V}{u:Value}{pos:Pos}(hg:Gl X x)(hm:X.mg x=some u)(r:RelV v u)(hd:(x == ("__debug__":Str))=false:=by decide):PE X (.Name x pos) (tC v) :=
 fun _ _ _ H _ I h=>J27 I hg hm ⟨v,H,I,r,h⟩ hd
theorem Jba {x:Str}{v:V}{u:Value}{pos:Pos}(hg:Gl X x)(hm:X.mg x=none)(hv:bootBuiltins x=some u)(r:RelV v u)(hn:x≠"__name__":=by decide)(hd:(x == ("__debug__":Str))=false:=by decide):PE X (.Name x pos) (tC v) :=
 fun _ _ _ H _ I h=>J1P I hg hm hv ⟨v,H,I,r,h⟩ hn hd
variable {a b:Expr}{ta tb:TE}{pos:Pos}
def tB (t:TE):TT:=fun σ H Q=>t σ H fun x H1=>∃ c,x=.bl c∧Q c H1
theorem J1j {e:Expr}{t:TE}(h:PE X e t)(he:∀ whole,isTrue e X.env whole=(do let v ← whole;standAt e.pos;holding [v] (truthy v)):=by intro _;rfl):PT X e (tB t):=by
 intro pins s σ H Q I hw
 refine isTrue_plain (thn (h pins s σ H _ I hw) fun v s1 ⟨x,H1,I1,r1,q1⟩=>?_) (he _)
 obtain ⟨d,rfl,q⟩:=q1
 cases r1
 exact wpAny_truthy_bool ⟨H1,I1,q⟩
variable {tA tB':TT}{rest:List Expr}
def JaG (t u:TT):TT:=fun σ H Q=>t σ H fun c H1=>if c=true then u σ H1 Q else Q false H1
def tOr (t u:TT):TT:=fun σ H Q=>t σ H fun c H1=>if c=true then Q true H1 else u σ H1 Q
def J8T (t:TT):TT:=fun σ H Q=>t σ H fun c H1=>Q (!c) H1
theorem J2y (ha:PT X a tA):PW X (.BoolOp .And [a] pos) tA:=by
 intro wh pins s σ H Q I h
 refine isTrue_and (thn (ha pins s σ H Q I h) fun c s1 e=>?_)
 cases c with
 | true=>exact isTrue_and_nil e
 | false=>exact e
theorem J6O (ha:PT X a tA):PW X (.BoolOp .Or [a] pos) tA:=by
 intro wh pins s σ H Q I h
 refine isTrue_or (thn (ha pins s σ H Q I h) fun c s1 e=>?_)
 cases c with
 | false=>exact isTrue_or_nil e
 | true=>exact e
theorem J2V (ha:PT X a tA)(hb:PW X (.BoolOp .And (b::rest) pos) tB'):PW X (.BoolOp .And (a::b::rest) pos) (JaG tA tB'):=by
 intro wh pins s σ H Q I h
 refine isTrue_and (thn (ha pins s σ H _ I h) fun c s1 ⟨H1,I1,q1⟩=>?_)
 cases c with
 | true=>exact hb wh pins s1 σ H1 Q I1 q1
 | false=>exact ⟨H1,I1,q1⟩
theorem J9p (ha:PT X a tA)(hb:PW X (.BoolOp .Or (b::rest) pos) tB'):PW X (.BoolOp .Or (a::b::rest) pos) (tOr tA tB'):=by
 intro wh pins s σ H Q I h
 refine isTrue_or (thn (ha pins s σ H _ I h) fun c s1 ⟨H1,I1,q1⟩=>?_)
 cases c with
 | true=>exact ⟨H1,I1,q1⟩
 | false=>exact hb wh pins s1 σ H1 Q I1 q1
theorem J1X (ha:PT X a tA):PT X (.UnaryOp .Not a pos) (J8T tA):=by
 intro pins s σ H Q I h
 exact isTrue_not (ha pins s σ H (fun c H1=>Q (!c) H1) I h)
def J7v (ta tb:TE):TE:=fun σ H Q=>ta σ H fun x H1=>∃ c,x=.bl c∧if c=true then tb σ H1 Q else Q (.bl false) H1
def JaF (ta tb:TE):TE:=fun σ H Q=>ta σ H fun x H1=>∃ c,x=.bl c∧if c=true then Q (.bl true) H1 else tb σ H1 Q
def J8S (ta:TE):TE:=fun σ H Q=>ta σ H fun x H1=>∃ c,x=.bl c∧Q (.bl (!c)) H1
theorem J9y {op}{t:TE}(h:PE X a t):PE X (.BoolOp op [a] pos) t:=fun pins s σ H Q I hw=>BoolOp_one (h pins s σ H Q I hw)
theorem Jcg (ha:PE X a ta)(hb:PE X (.BoolOp .And (b::rest) pos) tb):PE X (.BoolOp .And (a::b::rest) pos) (J7v ta tb):=by
 intro pins s σ H Q I h
 refine BoolOp_and (thn (ha pins s σ H _ I h) fun v s1 ⟨x,H1,I1,r1,q1⟩=>?_)
 obtain ⟨c,rfl,q1⟩:=q1
 cases r1
 refine wpAny_truthy_bool ?_
 cases c with
 | true=>exact hb pins s1 σ H1 Q I1 q1
 | false=>exact ⟨.bl false,H1,I1,rfl,q1⟩
theorem JbG (ha:PE X a ta)(hb:PE X (.BoolOp .Or (b::rest) pos) tb):PE X (.BoolOp .Or (a::b::rest) pos) (JaF ta tb):=by
 intro pins s σ H Q I h
 refine BoolOp_or (thn (ha pins s σ H _ I h) fun v s1 ⟨x,H1,I1,r1,q1⟩=>?_)
 obtain ⟨c,rfl,q1⟩:=q1
 cases r1
 refine wpAny_truthy_bool ?_
 cases c with
 | false=>exact hb pins s1 σ H1 Q I1 q1
 | true=>exact ⟨.bl true,H1,I1,rfl,q1⟩
def tIf (t:TT)(ta tb:TE):TE:=fun σ H Q=>t σ H fun c H1=>if c=true then ta σ H1 Q else tb σ H1 Q
theorem J5P {c:Expr}(hc:PT X c tA)(ha:PE X a ta)(hb:PE X b tb):PE X (.IfExp c a b pos) (tIf tA ta tb):=by
 intro pins s σ H Q I h
 refine wpAny_IfExp (thn (hc pins s σ H _ I h) fun d s1 ⟨H1,I1,q1⟩=>?_)
 cases d with
 | true=>exact ha pins s1 σ H1 Q I1 q1
 | false=>exact hb pins s1 σ H1 Q I1 q1
end
def SqL (K:PySem.W.Frag)(H:Hp)(a:Addr)(xs:List V):Prop :=
 Rd H a (.lst xs) ∨
  ∃ (o:Obj) (its:Array Value) (n:Nat),K.lookup a=some o∧o.cls=.type "list"∧o.dict=none∧o.data=.seq its n∧its.size≤sizeLine∧Vals xs its.toList
def SqT (K:PySem.W.Frag)(H:Hp)(a:Addr)(xs:List V):Prop :=
 Rd H a (.tup xs) ∨
  ∃ (o:Obj) (its:Array Value) (n:Nat),K.lookup a=some o∧o.cls=.type "tuple"∧o.data=.seq its n∧its.size≤sizeLine∧Vals xs its.toList
noncomputable def Jdn:Value→Option V
 | .none=>some .non
 | .bool b=>some (.bl b)
 | .int i _=>some (.int i)
 | .str x _=>some (.str x)
 | .bytes b _=>some (.byt b)
 | .float b _=>some (.flt b)
 | .ref a=>some (.ref a)
 | .type n=>some (.ty n)
 | _=>none
theorem RelV.abs {x:V}{u:Value}(r:RelV x u):Jdn u=some x:=by
 cases x with
 | non=>cases r;rfl
 | bl _=>cases r;rfl
 | int _=>obtain ⟨t,rfl⟩:=r;rfl
 | str _=>obtain ⟨t,rfl⟩:=r;rfl
 | byt _=>obtain ⟨t,rfl⟩:=r;rfl
 | flt _=>obtain ⟨t,rfl⟩:=r;rfl
 | ref _=>cases r;rfl
 | ty _=>cases r;rfl
theorem RelV.inj {x y:V}{u:Value}(r:RelV x u)(q:RelV y u):x=y:=Option.some.inj (r.abs.symm.trans q.abs)
theorem Vals.inj:∀ {xs ys:List V} {us:List Value},Vals xs us→Vals ys us→xs=ys
 | _,_,_,.nil,.nil=>rfl
 | _,_,_,.cons r t,.cons r' t'=>by rw [r.inj r',Vals.inj t t']
section
variable {X:Cx}{pins:List (Addr×Obj)}{σ:St}{H:Hp}{s:Shared}{a:Addr}{xs ys:List V}
theorem SqL.of {K:PySem.W.Frag}(h:H a=some (.lst xs)):SqL K H a xs:=.inl (.inl h)
theorem SqT.of {K:PySem.W.Frag}(h:H a=some (.tup xs)):SqT K H a xs:=.inl (.inl h)
theorem Inv.list (I:Inv X pins σ H s)(h:SqL X.K H a xs):∃ its:List Value,Vals xs its∧PlainL s.heap a its.toArray∧xs.length≤sizeLine:=by
 rcases h with h | ⟨o,its,n,hk,hc,hd,hs,hz,r⟩
 ·obtain ⟨z,its,n,r,e⟩:=h.ok I.hok
  exact ⟨its,r,⟨_,n,e,rfl,rfl,rfl⟩,z⟩
 ·refine ⟨its.toList,r,⟨o,n,I.kIn a o hk,hc,hd,by simpa using hs⟩,?_⟩
  have e:=r.length
  simp only [Array.length_toList] at e
  omega
theorem Inv.tuple (I:Inv X pins σ H s)(h:SqT X.K H a xs):∃ its:List Value,Vals xs its∧IsTup s.heap a its.toArray∧xs.length≤sizeLine:=by
 rcases h with h | ⟨o,its,n,hk,hc,hs,hz,r⟩
 ·obtain ⟨z,its,r,p⟩:=h.ok I.hok
  exact ⟨its,r,p,z⟩
 ·refine ⟨its.toList,r,⟨o,I.kIn a o hk,hc,n,by simpa using hs⟩,?_⟩
  have e:=r.length
  simp only [Array.length_toList] at e
  omega
theorem Inv.list_inj (I:Inv X pins σ H s)(h:SqL X.K H a xs)(h':SqL X.K H a ys):xs=ys:=by
 obtain ⟨its,r,⟨o,n,e,_,_,d⟩,_⟩:=I.list h
 obtain ⟨its',r',⟨o',n',e',_,_,d'⟩,_⟩:=I.list h'
 rw [e] at e';cases e'
 rw [d] at d'
 injection d' with d1 _
 have:its=its':=by simpa using congrArg Array.toList d1
 subst this
 exact r.inj r'
theorem Inv.tuple_inj (I:Inv X pins σ H s)(h:SqT X.K H a xs)(h':SqT X.K H a ys):xs=ys:=by
 obtain ⟨its,r,⟨o,e,_,n,d⟩,_⟩:=I.tuple h
 obtain ⟨its',r',⟨o',e',_,n',d'⟩,_⟩:=I.tuple h'
 rw [e] at e';cases e'
 rw [d] at d'
 injection d' with d1 _
 have:its=its':=by simpa using congrArg Array.toList d1
 subst this
 exact r.inj r'
end
noncomputable abbrev Cx.wish (X:Cx)(E:Value→Shared→Prop):Cx:={ X with xe:=E }
noncomputable abbrev Cx.nox (X:Cx):Cx:=X.wish fun _ _=>False
theorem Cx.Ok.wish {X:Cx}(ok:X.Ok)(E:Value→Shared→Prop):(X.wish E).Ok :=
 ⟨ok.mod,ok.kind,ok.glob,ok.blt,ok.above,ok.inj,ok.has,ok.cab,ok.hd,ok.frames,ok.stk,ok.exf,ok.bs,ok.bsz,ok.noex,ok.exfs,ok.funs,ok.frf⟩
theorem Cx.Ok.unwish {X:Cx}{E:Value→Shared→Prop}(ok:(X.wish E).Ok):X.Ok :=
 ⟨ok.mod,ok.kind,ok.glob,ok.blt,ok.above,ok.inj,ok.has,ok.cab,ok.hd,ok.frames,ok.stk,ok.exf,ok.bs,ok.bsz,ok.noex,ok.exfs,ok.funs,ok.frf⟩
section
variable {X:Cx}{pins:List (Addr×Obj)}{σ:St}{H:Hp}{s:Shared}{E:Value→Shared→Prop}
theorem Inv.wish (I:Inv X pins σ H s)(E:Value→Shared→Prop):Inv (X.wish E) pins σ H s:=⟨I.ok.wish E,I.os,I.bare,I.base,I.loc,I.cell,I.free,I.freeC,I.pin,I.hok,I.len⟩
theorem Inv.unwish (I:Inv (X.wish E) pins σ H s):Inv X pins σ H s:=⟨I.ok.unwish,I.os,I.bare,I.base,I.loc,I.cell,I.free,I.freeC,I.pin,I.hok,I.len⟩
theorem SP.unwish {D:Ends}{f:Flow}{s':Shared}(h:SP (X.wish E) pins D f s'):SP X pins D f s':=by
 cases f with
 | next=>obtain ⟨σ',H',I,q⟩:=h;exact ⟨σ',H',I.unwish,q⟩
 | brk=>obtain ⟨σ',H',I,q⟩:=h;exact ⟨σ',H',I.unwish,q⟩
 | cont=>obtain ⟨σ',H',I,q⟩:=h;exact ⟨σ',H',I.unwish,q⟩
 | ret u=>obtain ⟨v,σ',H',I,r,q⟩:=h;exact ⟨v,σ',H',I.unwish,r,q⟩
theorem PSs.nox {st:List Stmt}{t:TS}(h:PSs X.nox st t):PSs X st t:=fun pins s σ H D I hw =>
 wpAny_mono (h pins s σ H D (I.wish _) hw) (fun _ _ q=>q.unwish) fun _ _ z=>False.elim z
end
section
variable {X:Cx}{st:Stmt}{rest:List Stmt}{t u:TS}{e:Expr}{te:TE}{pos:Pos}
def J5v:TS:=fun D σ H=>D.nx σ H
def J3Z (t u:TS):TS:=fun D σ H=>t { D with nx:=u D } σ H
theorem Jt:PSs X [] J5v:=fun _ _ σ H _ I h=>wpAny_execs_nil ⟨σ,H,I,h⟩
theorem Jd (h1:PS X st t)(h2:PSs X rest u):PSs X (st::rest) (J3Z t u):=by
 intro pins s σ H D I h
 refine wpAny_execs_cons (thn (h1 pins s σ H { D with nx:=u D } I h) fun f s1 q=>?_)
 cases f with
 | next =>
   obtain ⟨σ',H',I',q⟩:=q
   exact h2 pins s1 σ' H' D I' q
 | ret v=>exact q
 | brk=>exact q
 | cont=>exact q
theorem Jf (h1:PS X st t):PSs X [st] t:=by
 intro pins s σ H D I h
 refine wpAny_execs_cons (thn (h1 pins s σ H D I h) fun f s1 q=>?_)
 cases f with
 | next=>exact wpAny_execs_nil q
 | ret v=>exact q
 | brk=>exact q
 | cont=>exact q
theorem Inv.quiet {pins:List (Addr×Obj)}{σ:St}{H:Hp}{s:Shared}(I:Inv X pins σ H s):interactive X.env=false:=by simp [interactive,I.ok.kind]
def J7s (te:TE):TS:=fun D σ H=>te σ H fun _ H1=>D.nx σ H1
theorem J0T (he:PE X e te)(hs:swapsWith e none pos.line X.env=pure false:=by rfl):PS X (.Expr e pos) (J7s te):=by
 intro pins s σ H D I h
 exact wpAny_Expr_any (thn (he pins s σ H _ I h) fun v s1 ⟨x,H1,I1,r1,q1⟩=>⟨σ,H1,I1,q1⟩) I.quiet hs
def J82 (te:TE):TS:=fun D σ H=>te σ H D.rt
theorem Jn (he:PE X e te):PS X (.Return (some e) pos) (J82 te):=by
 intro pins s σ H D I h
 exact wpAny_Return_some (thn (he pins s σ H _ I h) fun v s1 ⟨x,H1,I1,r1,q1⟩=>⟨x,σ,H1,I1,r1,q1⟩)
def J8R:TS:=fun D _ H=>D.rt .non H
def J6z (c:TT)(t u:TS):TS:=fun D σ H=>c σ H fun b H1=>if b=true then t D σ H1 else u D σ H1
theorem J00 {c:Expr}{a b:List Stmt}{tc:TT}(hc:PT X c tc)(ha:PSs X a t)(hb:PSs X b u):PS X (.If c a b pos) (J6z tc t u):=by
 intro pins s σ H D I h
 refine wpAny_If (thn (hc pins s σ H _ I h) fun d s1 ⟨H1,I1,q1⟩=>?_)
 cases d with
 | true=>exact ha pins s1 σ H1 D I1 q1
 | false=>exact hb pins s1 σ H1 D I1 q1
def J4F:TS:=fun _ _ _=>False
theorem J9r:PS X st J4F:=fun _ _ _ _ _ _ h=>h.elim
end
abbrev TG:=V→St→Hp→(St→Hp→Prop)→Prop
abbrev TGs:=List V→St→Hp→(St→Hp→Prop)→Prop
def PG (X:Cx)(target:Expr)(t:TG):Prop :=
 ∀ (pins:List (Addr×Obj)) (s:Shared) (σ:St) (H:Hp) (v:V) (u:Value) (Q:St→Hp→Prop),Inv X pins σ H s→RelV v u→t v σ H Q →
   wpAny (model X.prog X.w) X.A (assign target X.env u) (fun _ s'=>∃ σ' H',Inv X pins σ' H' s'∧Q σ' H') X.xe s
def PGs (X:Cx)(ts:List Expr)(t:TGs):Prop :=
 ∀ (pins:List (Addr×Obj)) (s:Shared) (σ:St) (H:Hp) (vs:List V) (us:List Value) (Q:St→Hp→Prop),Inv X pins σ H s→Vals vs us→t vs σ H Q →
   wpAny (model X.prog X.w) X.A (assignInOrder ((assignEach ts X.env).map (·.2)) us) (fun _ s'=>∃ σ' H',Inv X pins σ' H' s'∧Q σ' H') X.xe s
abbrev JcO:=V→V→V→Hp→(Hp→Prop)→Prop
def JcP (X:Cx)(t:JcO):Prop :=
 ∀ (pins:List (Addr×Obj)) (s:Shared) (σ:St) (H:Hp) (o i v:V) (ov iv u:Value) (Q:Hp→Prop),Inv X pins σ H s→RelV o ov→RelV i iv→RelV v u→t o i v H Q →
   wpAny (model X.prog X.w) X.A (setItem ov iv u) (fun _ s'=>∃ H',Inv X pins σ H' s'∧Q H') X.xe s
section
variable {X:Cx}{pos:Pos}
def J0s (i:Nat):TG:=fun v σ H Q=>Q (σ.set i (some v)) H
theorem J7G {i:Nat}{x:Str}(hN:X.N.Nodup)(hi:X.N[i]?=some x)(hx:Loc X.env.scope x)(hf:X.fn x=true∨X.env.scope.names.lookup x=some .local:=by first | exact .inl rfl | exact .inr rfl | assumption):PG X (.Name x pos) (J0s i):=by
 intro pins s σ H v u Q I r h
 exact wpAny_assign_Name (J2t I hN hi hx r (fun s' I'=>⟨_,H,I',h⟩) hf)
def J4b:TGs:=fun vs σ H Q=>vs=[]∧Q σ H
def J22 (t:TG)(u:TGs):TGs:=fun vs σ H Q=>∃ v r,vs=v::r∧t v σ H fun σ' H'=>u r σ' H' Q
theorem J2z:PGs X [] J4b:=by
 intro pins s σ H vs us Q I r h
 obtain ⟨e,h⟩:=h
 subst e
 cases r
 exact assignInOrder_nil ⟨σ,H,I,h⟩
theorem J0Q {e:Expr}{es:List Expr}{t:TG}{u:TGs}(h1:PG X e t)(h2:PGs X es u)
 (hs:(assignEach (e::es) X.env).map (·.2)=assign e X.env::(assignEach es X.env).map (·.2):=by rfl):PGs X (e::es) (J22 t u):=by
 intro pins s σ H vs us Q I r h
 obtain ⟨v,vr,e1,h⟩:=h
 subst e1
 cases r with
 | cons r rr =>
   rw [hs]
   refine assignInOrder_cons (thn (h1 pins s σ H _ _ _ I r h) fun _ s1 ⟨σ1,H1,I1,q1⟩=>?_)
   exact h2 pins s1 σ1 H1 _ _ Q I1 rr q1
def JcE (K:PySem.W.Frag)(n:Nat)(t:TGs):TG:=fun v σ H Q=>∃ a xs,v=.ref a∧SqT K H a xs∧xs.length=n∧t xs σ H Q
theorem Jcd {es:List Expr}{k:Nat}{t:TGs}{n:Nat}(hc:X.calm=true)(h:PGs X es t)
 (hn:(assignEach es X.env).length=n:=by rfl) (hst:(assignEach es X.env).findIdx? (·.1)=none:=by rfl):PG X (.Tuple es k pos) (JcE X.K n t):=by
 intro pins s σ H v u Q I r hw
 obtain ⟨a,xs,e1,hq,hl,hw⟩:=hw
 subst e1
 cases r
 obtain ⟨its,rv,ht,hz⟩:=I.tuple hq
 refine assign_Tuple_tuple (I.ok.hd hc) ht (by simp [hn,← hl,rv.length]) hst fun h' hx=>?_
 have I1:Inv X pins σ H { s with heap:=h' }:=I.kept (t':=s.toks) fun b o e=>hx b o (Nat.ne_of_lt (Heap.lt_size e)) e
 exact h pins _ σ H xs _ Q I1 (by simpa using rv) hw
def Jbs (to ti:TE)(t:JcO):TG:=fun v σ H Q=>to σ H fun o H1=>ti σ H1 fun i H2=>t o i v H2 fun H3=>Q σ H3
theorem Jce {o i:Expr}{to ti:TE}{t:JcO}(ho:PE X o to)(hi:PE X i ti)(hs:JcP X t)
 (ha:∀ v,assign (.Subscript o i pos) X.env v=(do
  let ov ← holding [v] (eval o X.env)
  let iv ← holding [v,ov] (eval i X.env)
  standAt pos
  holding [v,ov,iv] (setItem ov iv v)
  release [v,ov,iv] []):=by intro _;rfl):PG X (.Subscript o i pos) (Jbs to ti t):=by
 intro pins s σ H v u Q I r h
 rw [ha]
 refine wpAny_bind (wpAny_holding (thn (ho pins s σ H _ I h) fun ov s1 ⟨x,H1,I1,r1,q1⟩=>?_))
 refine wpAny_bind (wpAny_holding (thn (hi pins s1 σ H1 _ I1 q1) fun iv s2 ⟨y,H2,I2,r2,q2⟩=>?_))
 refine wpAny_bind (wpAny_standAt (wpAny_bind (wpAny_holding (thn (hs pins s2 σ H2 x y v ov iv u _ I2 r1 r2 r q2) fun _ s3 ⟨H3,I3,q3⟩=>?_))))
 exact wpAny_release ⟨σ,H3,I3,q3⟩
def J3a (te:TE)(g:TG):TS:=fun D σ H=>te σ H fun x H1=>g x σ H1 D.nx
theorem J9s {tg e:Expr}{te:TE}{g:TG}(he:PE X e te)(hg:PG X tg g)(hs:swapsWithSole [tg] e pos.line X.env=pure false:=by rfl)(hw:swappedStores [tg] e X.env=pure none:=by rfl)
 (h1:(assignEach [tg] X.env).map (·.2)=[assign tg X.env]:=by rfl):PS X (.Assign [tg] e pos) (J3a te g):=by
 intro pins s σ H D I h
 refine wpAny_Assign_stores (thn (he pins s σ H _ I h) fun v s1 ⟨x,H1,I1,r1,q1⟩=>?_) hs hw
 rw [h1]
 exact thn (hg pins s1 σ H1 x v _ I1 r1 q1) fun _ s2 q=>q
theorem J9q {i:Nat}{x:Str}{e:Expr}{te:TE}{pos':Pos}(hN:X.N.Nodup)(hi:X.N[i]?=some x)(hx:Loc X.env.scope x)(he:PE X e te)(hs:swapsWith e (some (.Name x pos')) pos.line X.env=pure false:=by rfl)(hf:X.fn x=true∨X.env.scope.names.lookup x=some .local:=by first | exact .inl rfl | exact .inr rfl | assumption) :
 PS X (.Assign [.Name x pos'] e pos) (J3a te (J0s i)):=by
 intro pins s σ H D I h
 refine wpAny_Assign_Name (thn (he pins s σ H _ I h) fun v s1 ⟨y,H1,I1,r1,q1⟩=>?_) hs
 exact J2t I1 hN hi hx r1 (fun s2 I2=>⟨_,H1,I2,q1⟩) hf
end
section
variable {X:Cx}{pos:Pos}
end
structure It where
 go:Nat→Hp→Prop
 yld:Nat→Hp→V→Hp→Prop
 stop:Nat→Hp→Prop
def J24 (X:Cx)(pins:List (Addr×Obj))(H:Hp)(b:Addr):Prop :=
 H b=none∧b≠X.env.locals∧b∉X.fs∧(b∈X.ex∨X.s₀.heap.objs.size≤b)∧(∀ x c,X.env.cells.lookup x=some c→c≠b)∧∀ p∈X.pn++pins,p.1≠b
theorem Inv.fpOk {X:Cx}{pins:List (Addr×Obj)}{σ:St}{H H':Hp}{s:Shared}{b:Addr}(I:Inv X pins σ H s)(hb:s.heap.objs.size≤b)(hn:H' b=none):J24 X pins H' b:=by
 refine ⟨hn,Nat.ne_of_gt (Nat.lt_of_lt_of_le I.lt hb),I.nofs hb,.inr (Nat.le_trans I.sz hb),fun x c e z=>?_,fun p hp z=>?_⟩
 ·obtain ⟨v,q⟩:=I.cell x c e
  exact absurd (Nat.lt_of_lt_of_le q.lt (by rw [z];exact hb)) (Nat.lt_irrefl _)
 ·exact absurd (Nat.lt_of_lt_of_le (Heap.lt_size (I.pin p hp).1) (by rw [z];exact hb)) (Nat.lt_irrefl _)
structure Turn (P:Program)(w:World)(K:PySem.W.Frag)(tg:Expr)(J:It)(fp:List Addr)(it:Addr)(tn:Nat→Heap→Prop):Prop where
 mem:it∈fp
 obj:∀ i h,tn i h→∀ b∈fp,∃ o,h.get? b=some o∧∀ v,o.data≠.cell v
 keep:∀ i h h',tn i h→(∀ b∈fp,∀ o,h.get? b=some o→h'.get? b=some o)→tn i h'
 item:∀ (X:Cx),X.prog=P→X.w=w→X.K=K→X.calm=true→∀ (i:Nat) (pins:List (Addr×Obj)) (s:Shared) (σ:St) (H:Hp) (E:Value→Shared→Prop),Inv X pins σ H s→(∀ b∈fp,J24 X pins H b)→tn i s.heap→J.go i H →
  wpAny (model P w) X.A (pyNext (.ref it)) (fun r s1=>∃ u,r=some u ∧
   wpAny (model P w) X.A (letOwnedTupleGo tg (.ref it) u) (fun _ s2=>∃ x H',Inv X pins σ H' s2∧RelV x u∧J.yld i H x H'∧tn (i+1) s2.heap∧∀ b∈fp,H' b=none) E s1) E s
 done:∀ (X:Cx),X.prog=P→X.w=w→X.K=K→X.calm=true→∀ (i:Nat) (pins:List (Addr×Obj)) (s:Shared) (σ:St) (H:Hp) (E:Value→Shared→Prop),Inv X pins σ H s→(∀ b∈fp,J24 X pins H b)→tn i s.heap→J.stop i H →
  wpAny (model P w) X.A (pyNext (.ref it)) (fun r s1=>r=none∧Inv X pins σ H s1) E s
 self:∀ (A:Around) (i:Nat) (s:Shared) (Q:Value→Shared→Prop) (E:Value→Shared→Prop),tn i s.heap→Q (.ref it) s→wpAny (model P w) A (pyIter (.ref it)) Q E s
abbrev TI:=St→Hp→(It→Hp→Prop)→Prop
def PIE (X:Cx)(pins:List (Addr×Obj))(σ:St)(tg:Expr)(R:It→Hp→Prop)(itv:Value)(s2:Shared):Prop :=
 ∃ (it:Addr) (fp:List Addr) (tn:Nat→Heap→Prop) (J:It) (H':Hp),itv=.ref it∧Inv X pins σ H' s2∧Turn X.prog X.w X.K tg J fp it tn∧tn 0 s2.heap∧(∀ b∈fp,J24 X pins H' b)∧R J H'
def PI (X:Cx)(tg iter:Expr)(wi:TI):Prop :=
 ∀ (pins:List (Addr×Obj)) (s:Shared) (σ:St) (H:Hp) (R:It→Hp→Prop),Inv X pins σ H s→wi σ H R →
   wpAny (model X.prog X.w) X.A (eval iter X.env) (fun v s1=>wpAny (model X.prog X.w) X.A (pyIter v) (PIE X pins σ tg R) X.xe s1) X.xe s
theorem go_of {M:Model}{A:Around}{E:Value→Shared→Prop}{s:Shared}{tg:Expr}{it:Addr}{u:Value}{o:Obj}{n:String}{vs:Array Value}{Q:Unit→Shared→Prop}(ho:s.heap.get? it=some o)(hc:o.cls=.type n)(hd:o.data=.fields vs)
 (hn:["enumerate","zip","dict_itemiterator","dict_reverseitemiterator","odict_iterator","itertools.zip_longest","itertools.pairwise"].contains n=false) (hQ:Q () s):wpAny M A (letOwnedTupleGo tg (.ref it) u) Q E s:=by
 unfold letOwnedTupleGo
 cases tg <;> first
  | exact wpAny_pure hQ
  | (cases u<;>first
   | exact wpAny_pure hQ
   | (refine wpAny_bind (wpAny_load ho ?_)
      rw [hc,hd]
      show wpAny M A (if (["enumerate","zip","dict_itemiterator","dict_reverseitemiterator","odict_iterator","itertools.zip_longest","itertools.pairwise"].contains n&&vs[0]? == some (rawInt _))=true then _ else _) Q E s
      rw [if_neg (by intro h;rw [hn,Bool.false_and] at h;cases h)]
      exact wpAny_pure hQ))
noncomputable def Itl (K:PySem.W.Frag)(a:Addr):It :=
 ⟨fun i H=>∃ xs x,SqL K H a xs∧xs[i]?=some x,fun i H x H'=>H'=H∧∀ xs,SqL K H a xs→xs[i]?=some x,fun i H=>∃ xs,SqL K H a xs∧xs.length≤i⟩
noncomputable def Itt (K:PySem.W.Frag)(a:Addr):It :=
 ⟨fun i H=>∃ xs x,SqT K H a xs∧xs[i]?=some x,fun i H x H'=>H'=H∧∀ xs,SqT K H a xs→xs[i]?=some x,fun i H=>∃ xs,SqT K H a xs∧xs.length≤i⟩
noncomputable def Itr (lo:Int)(n:Nat):It:=⟨fun i _=>i<n,fun i H x H'=>H'=H∧x=.int (lo+i),fun i _=>n≤i⟩
theorem J81 {P:Program}{w:World}{K:PySem.W.Frag}{tg:Expr}(a it:Addr):Turn P w K tg (Itl K a) [it] it (fun i h=>h.IsListIter it a i) where
 mem:=by simp
 obj:=fun i h st b hb=>by
  have e:b=it:=by simpa using hb
  subst e
  obtain ⟨o,e,c,d⟩:=st
  exact ⟨o,e,fun v z=>by rw [d] at z;cases z⟩
 keep:=fun i h h' st k=>st.at fun o e=>k it (by simp) o e
 item:=by
  intro X hP hw hK hc i pins s σ H E I hf st hg
  subst hP hw hK
  obtain ⟨xs,x,hq,hx⟩:=hg
  obtain ⟨its,rv,p,hz⟩:=I.list hq
  obtain ⟨u,hu,ru⟩:=rv.get hx
  obtain ⟨f0,f1,f2,f3,f4,f5⟩:=hf it (by simp)
  refine wpAny_pyNext_list_item st p.isList (x:=u) (by simpa using hu) fun h' st' sb=>?_
  have I1:Inv X pins σ H { s with heap:=h' }:=I.turned (t':=s.toks) (fun b o hb e=>(sb.2 b hb).trans e) f0 f1 f3 f4 f5
  obtain ⟨o,e,c,d⟩:=id st'
  exact ⟨u,rfl,go_of (s:={ s with heap:=h' }) e c d (by decide) ⟨x,H,I1,ru,⟨rfl,fun ys hy=>by rw [I.list_inj hy hq];exact hx⟩,st',fun b hb=>(hf b hb).1⟩⟩
 done:=by
  intro X hP hw hK hc i pins s σ H E I hf st hg
  subst hP hw hK
  obtain ⟨xs,hq,hx⟩:=hg
  obtain ⟨its,rv,p,hz⟩:=I.list hq
  obtain ⟨f0,f1,f2,f3,f4,f5⟩:=hf it (by simp)
  have hl:=rv.length
  exact wpAny_pyNext_list_end (I.ok.hd hc) st p.isList (by simp;omega) fun h' eb=>⟨rfl,I.turned (t':=s.toks) (fun b o hb e=>eb b o hb e) f0 f1 f3 f4 f5⟩
 self:=fun _ _ _ _ _ st h=>wpAny_pyIter_listiter st h
theorem J6w {P:Program}{w:World}{K:PySem.W.Frag}{tg:Expr}(a it:Addr):Turn P w K tg (Itt K a) [it] it (fun i h=>h.IsTupleIter it a i) where
 mem:=by simp
 obj:=fun i h st b hb=>by
  have e:b=it:=by simpa using hb
  subst e
  obtain ⟨o,e,c,d⟩:=st
  exact ⟨o,e,fun v z=>by rw [d] at z;cases z⟩
 keep:=fun i h h' st k=>st.at fun o e=>k it (by simp) o e
 item:=by
  intro X hP hw hK hc i pins s σ H E I hf st hg
  subst hP hw hK
  obtain ⟨xs,x,hq,hx⟩:=hg
  obtain ⟨its,rv,p,hz⟩:=I.tuple hq
  obtain ⟨u,hu,ru⟩:=rv.get hx
  obtain ⟨f0,f1,f2,f3,f4,f5⟩:=hf it (by simp)
  refine wpAny_pyNext_tuple_item st (show s.heap.IsTuple a its.toArray from p) (x:=u) (by simpa using hu) fun h' st' sb=>?_
  have I1:Inv X pins σ H { s with heap:=h' }:=I.turned (t':=s.toks) (fun b o hb e=>(sb.2 b hb).trans e) f0 f1 f3 f4 f5
  obtain ⟨o,e,c,d⟩:=id st'
  exact ⟨u,rfl,go_of (s:={ s with heap:=h' }) e c d (by decide) ⟨x,H,I1,ru,⟨rfl,fun ys hy=>by rw [I.tuple_inj hy hq];exact hx⟩,st',fun b hb=>(hf b hb).1⟩⟩
 done:=by
  intro X hP hw hK hc i pins s σ H E I hf st hg
  subst hP hw hK
  obtain ⟨xs,hq,hx⟩:=hg
  obtain ⟨its,rv,p,hz⟩:=I.tuple hq
  obtain ⟨f0,f1,f2,f3,f4,f5⟩:=hf it (by simp)
  have hl:=rv.length
  exact wpAny_pyNext_tuple_end (I.ok.hd hc) st (show s.heap.IsTuple a its.toArray from p) (by simp;omega) fun h' eb=>⟨rfl,I.turned (t':=s.toks) (fun b o hb e=>eb b o hb e) f0 f1 f3 f4 f5⟩
 self:=fun _ _ _ _ _ st h=>wpAny_pyIter_tupleiter st h
theorem J6x {P:Program}{w:World}{K:PySem.W.Frag}{tg:Expr}(it:Addr)(lo:Int)(n:Nat):Turn P w K tg (Itr lo n) [it] it (fun i h=>IsRangeIter h it (lo+(i:Nat) * 1) ((n:Int) - (i:Nat)) 1) where
 mem:=by simp
 obj := fun i h st b hb=>by
  have e:b=it:=by simpa using hb
  subst e
  exact ⟨_,st,fun v z=>by
   have z':Data.fields _=Data.cell v:=z
   cases z'⟩
 keep:=fun i h h' st k=>k it (by simp) _ st
 item:=by
  intro X hP hw hK hc i pins s σ H E I hf st hg
  subst hP hw hK
  obtain ⟨f0,f1,f2,f3,f4,f5⟩:=hf it (by simp)
  have W:=Walks.range (prog:=X.prog) (w:=X.w) (I.ok.hd hc) it lo 1 n
  refine W.item i s _ _ hg st fun v h' tk hv st' kk=>?_
  obtain ⟨t,rfl⟩:=hv
  have I1:Inv X pins σ H { s with heap:=h',toks:=tk }:=I.turned (fun b o hb e=>kk b o (by simpa using hb) e) f0 f1 f3 f4 f5
  refine ⟨_,rfl,go_of (s:={ s with heap:=h',toks:=tk }) (n:="range_iterator") st' rfl rfl (by decide) ⟨.int (lo+i),H,I1,⟨t,?_⟩,⟨rfl,rfl⟩,st',fun b hb=>(hf b hb).1⟩⟩
  rw [Int.mul_one]
 done:=by
  intro X hP hw hK hc i pins s σ H E I hf st hg
  subst hP hw hK
  obtain ⟨f0,f1,f2,f3,f4,f5⟩:=hf it (by simp)
  exact wpAny_pyNext_range_end (I.ok.hd hc) st (by have:n≤i:=hg;omega) fun h' eb=>⟨rfl,I.turned (t':=s.toks) (fun b o hb e=>eb b o hb e) f0 f1 f3 f4 f5⟩
 self:=fun _ _ _ _ _ st h=>wpAny_pyIter_rangeiter st h
section
variable {X:Cx}{tg:Expr}
def J6d (K:PySem.W.Frag)(tl:TE):TI:=fun σ H R=>tl σ H fun x H1=>∃ a,x=.ref a∧(∃ xs,SqL K H1 a xs)∧R (Itl K a) H1
def Ja2 (K:PySem.W.Frag)(tl:TE):TI:=fun σ H R=>tl σ H fun x H1=>∃ a,x=.ref a∧(∃ xs,SqT K H1 a xs)∧R (Itt K a) H1
theorem Jb2 {l:Expr}{tl:TE}(hl:PE X l tl):PI X tg l (J6d X.K tl):=by
 intro pins s σ H R I h
 refine thn (hl pins s σ H _ I h) fun v s1 ⟨x,H1,I1,r1,q1⟩=>?_
 obtain ⟨a,e,⟨xs,hq⟩,q⟩:=q1
 subst e
 cases r1
 obtain ⟨its,rv,p,hz⟩:=I1.list hq
 refine wpAny_pyIter_list p.isList ?_
 refine ⟨s1.heap.objs.size,[s1.heap.objs.size],_,_,H1,rfl,I1.kept (t':=s1.toks) fun b o e=>Heap.get?_push_of_some _ e,J81 a _,⟨_,Heap.get?_push_size _ rfl,rfl,rfl⟩,fun b hb=>?_,q⟩
 have e:b=s1.heap.objs.size:=by simpa using hb
 subst e
 exact I1.fpOk (Nat.le_refl _) (I1.hok.fresh (Nat.le_refl _))
theorem Jca {l:Expr}{tl:TE}(hl:PE X l tl):PI X tg l (Ja2 X.K tl):=by
 intro pins s σ H R I h
 refine thn (hl pins s σ H _ I h) fun v s1 ⟨x,H1,I1,r1,q1⟩=>?_
 obtain ⟨a,e,⟨xs,hq⟩,q⟩:=q1
 subst e
 cases r1
 obtain ⟨its,rv,p,hz⟩:=I1.tuple hq
 refine wpAny_pyIter_tuple (show s1.heap.IsTuple a its.toArray from p) ?_
 refine ⟨s1.heap.objs.size,[s1.heap.objs.size],_,_,H1,rfl,I1.kept (t':=s1.toks) fun b o e=>Heap.get?_push_of_some _ e,J6w a _,⟨_,Heap.get?_push_size _ rfl,rfl,rfl⟩,fun b hb=>?_,q⟩
 have e:b=s1.heap.objs.size:=by simpa using hb
 subst e
 exact I1.fpOk (Nat.le_refl _) (I1.hok.fresh (Nat.le_refl _))
theorem J9b {pins:List (Addr×Obj)}{σ:St}{H:Hp}{s:Shared}{R:It→Hp→Prop}{E:Value→Shared→Prop}{lo hi:Int}{t u v:Tok}{tk:Nat}(I:Inv X pins σ H s)(h1:-(2 ^ 62)≤lo)(h2:lo<2 ^ 62)(h3:-(2 ^ 62)≤hi)(h4:hi<2 ^ 62)
 (q:R (Itr lo (hi - lo).toNat) H):wpAny (model X.prog X.w) X.A (pyIter (.ref s.heap.objs.size)) (PIE X pins σ tg R) E { s with heap:=s.heap.push { cls:=.type "range",data:=.fields #[.int lo t,.int hi u,.int 1 v] },toks:=tk }:=by
 refine wpAny_pyIter_range (IsRange.new ..) (small_one h1 h2 h3 h4) ?_
 have I1:Inv X pins σ H { s with heap:=s.heap.push { cls:=.type "range",data:=.fields #[.int lo t,.int hi u,.int 1 v] },toks:=tk }:=I.kept fun b o e=>Heap.get?_push_of_some _ e
 refine ⟨(s.heap.push { cls:=.type "range",data:=.fields #[.int lo t,.int hi u,.int 1 v] }).objs.size,[(s.heap.push { cls:=.type "range",data:=.fields #[.int lo t,.int hi u,.int 1 v] }).objs.size],_,_,H,rfl,
  I1.kept (t':=tk) fun b o e=>Heap.get?_push_of_some _ e,J6x _ lo (hi - lo).toNat,?_,fun b hb=>?_,q⟩
 ·have e1:lo+((0:Nat):Int) * 1=lo:=by simp
  have e2:(((hi - lo).toNat:Nat):Int) - ((0:Nat):Int)=Builtin.Range.rangeSize lo hi 1:=by rw [rangeSize_one];split<;>omega
  show IsRangeIter _ _ (lo+((0:Nat):Int) * 1) ((((hi - lo).toNat:Nat):Int) - ((0:Nat):Int)) 1
  rw [e1,e2]
  exact Heap.get?_push_size _ rfl
 ·have e:b=(s.heap.push { cls:=.type "range",data:=.fields #[.int lo t,.int hi u,.int 1 v] }).objs.size:=by simpa using hb
  subst e
  exact I1.fpOk (Nat.le_refl _) (I1.hok.fresh (Nat.le_refl _))
def J6c (ta:TA):TI:=fun σ H R=>ta σ H fun vs H1=>∃ j:Int,vs=[.int j]∧-(2 ^ 62)≤j∧j<2 ^ 62∧R (Itr 0 j.toNat) H1
def Ja3 (ta:TA):TI:=fun σ H R=>ta σ H fun vs H1=>∃ i j:Int,vs=[.int i,.int j]∧(-(2 ^ 62)≤i∧i<2 ^ 62∧-(2 ^ 62)≤j∧j<2 ^ 62)∧R (Itr i (j - i).toNat) H1
theorem J0a {a:Expr}{ta:TA}{p pos:Pos}(hg:Gl X "range")(hm:X.mg "range"=none)(ha:PA X [a] ta)(hs:starEach [a] X.env=[(false,eval a X.env)]:=by rfl):PI X tg (.Call (.Name "range" p) [a] [] pos) (J6c ta):=by
 intro pins s σ H R I h
 refine Call_ (J1P I hg hm boot_range (PyProof.Rows.callWith_type1 (thn (ha pos pins s σ H _ I h) fun us s1 ⟨vs,H1,I1,r1,q1⟩=>?_) hs rfl))
 obtain ⟨j,e,q1,q2,q⟩:=q1
 subst e
 cases r1 with
 | cons r rr =>
   cases rr
   obtain ⟨t,rfl⟩:=r
   exact call_range_1 (J9b I1 (by omega) (by omega) q1 q2 (by simpa using q))
def JbW (wi:TI)(g:TG)(tb:TS):TS:=fun D σ H=>wi σ H fun J H1=>∃ W:Nat→Nat→St→Hp→Prop,(∃ m,W 0 m σ H1)∧∀ i m σ H,W i m σ H →
 (J.stop i H∧D.nx σ H)∨(J.go i H∧∃ N:St→Hp→Prop,(∀ σ' H',N σ' H'→∃ m',m'<m∧W (i+1) m' σ' H')∧∀ x H',J.yld i H x H'→g x σ H' fun σ2 H2=>tb { D with nx:=N,ct:=N,bk:=D.nx } σ2 H2)
noncomputable def J3E (fp:List Addr)(h:Heap):List (Addr×Obj):=fp.filterMap fun b=>(h.get? b).map fun o=>(b,o)
theorem J1M {fp:List Addr}{h:Heap}{b:Addr}{o:Obj}(hb:b∈fp)(e:h.get? b=some o):(b,o)∈J3E fp h:=List.mem_filterMap.mpr ⟨b,hb,by rw [e];rfl⟩
theorem J8g {fp:List Addr}{h:Heap}{p:Addr×Obj}(hp:p∈J3E fp h):p.1∈fp∧h.get? p.1=some p.2:=by
 obtain ⟨b,hb,e⟩:=List.mem_filterMap.mp hp
 cases q:h.get? b with
 | none=>rw [q] at e;cases e
 | some o =>
   rw [q] at e
   have e':(b,o)=p:=Option.some.inj e
   subst e'
   exact ⟨hb,q⟩
theorem Inv.pinned {pins:List (Addr×Obj)}{σ:St}{H:Hp}{s:Shared}{fp:List Addr}(I:Inv X pins σ H s)(hf:∀ b∈fp,J24 X pins H b)(ho:∀ b∈fp,∃ o,s.heap.get? b=some o∧∀ v,o.data≠.cell v):Inv X (pins++J3E fp s.heap) σ H s :=
 I.pins_of fun p hp=>(List.mem_append.mp hp).elim (fun z=>I.pin p (List.mem_append_right _ z)) fun z=>by
  obtain ⟨hb,e⟩:=J8g z
  obtain ⟨f0,f1,f2,_⟩:=hf p.1 hb
  obtain ⟨o,e',d⟩:=ho p.1 hb
  rw [e] at e';cases e'
  exact ⟨e,f0,f1,f2,d⟩
theorem Inv.unpinned {pins pl:List (Addr×Obj)}{σ:St}{H:Hp}{s:Shared}(I:Inv X (pins++pl) σ H s):Inv X pins σ H s:=I.pins_of fun p hp=>I.pin p (List.mem_append_right _ (List.mem_append_left _ hp))
theorem J0X {iter:Expr}{body:List Stmt}{wi:TI}{g:TG}{tb:TS}{pos:Pos}(hp:PassesOwn (model X.prog X.w) X.A X.env X.xe)(hc:X.calm=true)(hi:PI X tg iter wi)(hg:PG X tg g)(hb:PSs X body tb)
 (hs:∀ x,foldedSetIterable iter X.env x=pure x:=by intro _;rfl):PS X (.For tg iter body [] pos) (JbW wi g tb):=by
 intro pins s σ H D I h
 refine wpAny_For (thn (hi pins s σ H _ I h) fun v s1 h1=>thn h1 fun itv s2 h2=>?_) hs
 obtain ⟨it,fp,tn,J,H2,e,I2,T,st2,f2,W,⟨m0,w0⟩,turn⟩:=h2
 subst e
 have stat:∀ {H':Hp},(∀ b∈fp,H' b=none)→∀ b∈fp,J24 X pins H' b:=fun hn b hb=>⟨hn b hb,(f2 b hb).2⟩
 refine codeAny_forLoop_any (fun n s'=>∃ i σ' H',Inv X pins σ' H' s'∧tn i s'.heap∧(∀ b∈fp,H' b=none)∧W i n σ' H') ?_ m0 ⟨0,σ,H2,I2,st2,fun b hb=>(f2 b hb).1,w0⟩
 rintro n s3 ⟨i,σ3,H3,I3,st3,fr3,w3⟩
 rcases turn i n σ3 H3 w3 with ⟨stop,qn⟩ | ⟨go,N,hN,step⟩
 ·refine wpAny_passesOwn hp (thn (T.done X rfl rfl rfl hc i pins s3 σ3 H3 X.xe I3 (stat fr3) st3 stop) fun r s4 ⟨hr,I4⟩=>?_)
  subst hr
  exact wpAny_execs_nil ⟨σ3,H3,I4,qn⟩
 ·refine wpAny_passesOwn hp (thn (T.item X rfl rfl rfl hc i pins s3 σ3 H3 X.xe I3 (stat fr3) st3 go) fun r s4 ⟨u,hr,h4⟩=>?_)
  subst hr
  refine wpAny_passesOwn hp (thn h4 fun _ s5 ⟨x,H5,I5,r5,y5,st5,fr5⟩=>?_)
  have I5':=I5.pinned (stat fr5) (T.obj _ _ st5)
  refine wpAny_passesOwn hp (thn (hg _ s5 σ3 H5 x u _ I5' r5 (step x H5 y5)) fun _ s6 ⟨σ6,H6,I6,q6⟩=>?_)
  refine wpAny_passesOwn hp (thn (hb _ s6 σ6 H6 _ I6 q6) fun f s7 q7=>?_)
  have again:∀ {σ7:St} {H7:Hp},Inv X (pins++J3E fp s5.heap) σ7 H7 s7→N σ7 H7→∃ m,m<n∧∃ i σ' H',Inv X pins σ' H' s7∧tn i s7.heap∧(∀ b∈fp,H' b=none)∧W i m σ' H':=fun {σ7 H7} I7 n7=>by
   obtain ⟨m',hm,w7⟩:=hN σ7 H7 n7
   refine ⟨m',hm,i+1,σ7,H7,I7.unpinned,T.keep _ _ _ st5 fun b hb o e=>(I7.pin (b,o) (List.mem_append_right _ (List.mem_append_right _ (J1M hb e)))).1,fun b hb=>?_,w7⟩
   obtain ⟨o,e,d⟩:=T.obj _ _ st5 b hb
   exact (I7.pin (b,o) (List.mem_append_right _ (List.mem_append_right _ (J1M hb e)))).2.1
  cases f with
  | next=>obtain ⟨σ7,H7,I7,n7⟩:=q7;exact again I7 n7
  | cont=>obtain ⟨σ7,H7,I7,n7⟩:=q7;exact again I7 n7
  | brk=>obtain ⟨σ7,H7,I7,q7⟩:=q7;exact ⟨σ7,H7,I7.unpinned,q7⟩
  | ret v=>obtain ⟨x7,σ7,H7,I7,r7,q7⟩:=q7;exact ⟨x7,σ7,H7,I7.unpinned,r7,q7⟩
end
abbrev R2:=V→V→Hp→VK→Prop
def OpR (X:Cx)(f:Value→Value→Sem Value)(r:R2):Prop :=
 ∀ (pins:List (Addr×Obj)) (s:Shared) (σ:St) (H:Hp) (x y:V) (v u:Value) (Q:VK),Inv X pins σ H s→RelV x v→RelV y u→r x y H Q →
   wpAny (model X.prog X.w) X.A (f v u) (EP X pins σ Q) X.xe s
def UnR (X:Cx)(f:Value→Sem Value)(r:V→Hp→VK→Prop):Prop :=
 ∀ (pins:List (Addr×Obj)) (s:Shared) (σ:St) (H:Hp) (x:V) (v:Value) (Q:VK),Inv X pins σ H s→RelV x v→r x H Q →
   wpAny (model X.prog X.w) X.A (f v) (EP X pins σ Q) X.xe s
def J0e (X:Cx)(f:Value)(r:List V→Hp→VK→Prop):Prop :=
 ∀ (pins:List (Addr×Obj)) (s:Shared) (σ:St) (H:Hp) (xs:List V) (us:List Value) (Q:VK),Inv X pins σ H s→Vals xs us→r xs H Q →
   wpAny (model X.prog X.w) X.A (call f us) (EP X pins σ Q) X.xe s
def tOp (r:R2)(ta tb:TE):TE:=fun σ H Q=>ta σ H fun x H1=>tb σ H1 fun y H2=>r x y H2 Q
def tUn (r:V→Hp→VK→Prop)(ta:TE):TE:=fun σ H Q=>ta σ H fun x H1=>r x H1 Q
def rI (C:Int→Int→Prop)(g:Int→Int→V):R2:=fun x y H Q=>∃ i j,x=.int i∧y=.int j∧C i j∧Q (g i j) H
def rI0 (g:Int→Int→V):R2:=fun x y H Q=>∃ i j,x=.int i∧y=.int j∧Q (g i j) H
def rU (g:Int→V):V→Hp→VK→Prop:=fun x H Q=>∃ i,x=.int i∧Q (g i) H
section
variable {X:Cx}{a b c:Expr}{ta tb tc:TE}{pos:Pos}
theorem JcM (ha:PE X a ta)(hb:PE X b tb){pins:List (Addr×Obj)}{s:Shared}{σ:St}{H:Hp}{R:V→V→Hp→Prop}(I:Inv X pins σ H s)
 (h:ta σ H fun x H1=>tb σ H1 fun y H2=>R x y H2) {Q:Value→Shared→Prop} {f:Value→Value→Sem Value}
 (hf:∀ v u s2 x y H2,Inv X pins σ H2 s2→RelV x v→RelV y u→R x y H2→wpAny (model X.prog X.w) X.A (f v u) Q X.xe s2) :
 wpAny (model X.prog X.w) X.A (eval a X.env) (fun v s₁=>wpAny (model X.prog X.w) X.A (eval b X.env) (fun u s₂=>wpAny (model X.prog X.w) X.A (f v u) Q X.xe s₂) X.xe s₁) X.xe s:=by
 refine thn (ha pins s σ H _ I h) fun v s1 ⟨x,H1,I1,r1,q1⟩=>?_
 refine thn (hb pins s1 σ H1 _ I1 q1) fun u s2 ⟨y,H2,I2,r2,q2⟩=>?_
 exact hf v u s2 x y H2 I2 r1 r2 q2
theorem Jj {op:Operator}{r:R2}(ho:OpR X (binaryOp op) r)(ha:PE X a ta)(hb:PE X b tb):PE X (.BinOp a op b pos) (tOp r ta tb):=by
 intro pins s σ H Q I h
 exact wpAny_BinOp (JcM ha hb I h fun v u s2 x y H2 I2 rx ry q=>ho pins s2 σ H2 x y v u Q I2 rx ry q)
theorem JcZ {op:UnaryOp}{r:V→Hp→VK→Prop}(ho:UnR X (unaryOp op) r)(ha:PE X a ta):PE X (.UnaryOp op a pos) (tUn r ta):=by
 intro pins s σ H Q I h
 exact UnaryOp_ (thn (ha pins s σ H _ I h) fun v s1 ⟨x,H1,I1,r1,q1⟩=>ho pins s1 σ H1 x v Q I1 r1 q1)
theorem opI {f:Value→Value→Sem Value}{C:Int→Int→Prop}{g:Int→Int→Int}
 (rule:∀ (i j:Int) (t u:Tok) (s:Shared) (Q:Value→Shared→Prop) (E:Value→Shared→Prop),C i j→Q (.int (g i j) s.toks) { s with toks:=s.toks+1 }→wpAny (model X.prog X.w) X.A (f (.int i t) (.int j u)) Q E s) :
 OpR X f (rI C fun i j=>.int (g i j)):=by
 intro pins s σ H x y v u Q I rx ry h
 obtain ⟨i,j,rfl,rfl,hc,q⟩:=h
 obtain ⟨t,rfl⟩:=rx
 obtain ⟨t',rfl⟩:=ry
 exact rule i j t t' s _ _ hc ⟨.int (g i j),H,I.tok _,⟨_,rfl⟩,q⟩
theorem Jd1 {f:Value→Value→Sem Value}{g:Int→Int→Int}
 (rule:∀ (i j:Int) (t u:Tok) (s:Shared) (Q:Value→Shared→Prop) (E:Value→Shared→Prop),Q (.int (g i j) s.toks) { s with toks:=s.toks+1 }→wpAny (model X.prog X.w) X.A (f (.int i t) (.int j u)) Q E s) :
 OpR X f (rI0 fun i j=>.int (g i j)):=by
 intro pins s σ H x y v u Q I rx ry h
 obtain ⟨i,j,rfl,rfl,q⟩:=h
 obtain ⟨t,rfl⟩:=rx
 obtain ⟨t',rfl⟩:=ry
 exact rule i j t t' s _ _ ⟨.int (g i j),H,I.tok _,⟨_,rfl⟩,q⟩
theorem Jcl {f:Value→Value→Sem Value}{g:Int→Int→Bool}
 (rule:∀ (i j:Int) (t u:Tok) (s:Shared) (Q:Value→Shared→Prop) (E:Value→Shared→Prop),Q (.bool (g i j)) s→wpAny (model X.prog X.w) X.A (f (.int i t) (.int j u)) Q E s) :
 OpR X f (rI0 fun i j=>.bl (g i j)):=by
 intro pins s σ H x y v u Q I rx ry h
 obtain ⟨i,j,rfl,rfl,q⟩:=h
 obtain ⟨t,rfl⟩:=rx
 obtain ⟨t',rfl⟩:=ry
 exact rule i j t t' s _ _ ⟨.bl (g i j),H,I,rfl,q⟩
def Jds (i j:Int):Prop:=0<j∧j<1073741824
def Jdr (i j:Int):Prop:=0≤j∧j≤1000000∧i.natAbs<2 ^ 64
def CMul (i j:Int):Prop:=(-(2 ^ 64)<i∧i<2 ^ 64)∨(-(2 ^ 64)<j∧j<2 ^ 64)
theorem CMul.ok {i j:Int}(h:CMul i j):IntMulOk i j:=by
 rcases h with ⟨h1,h2⟩ | ⟨h1,h2⟩
 ·exact .of_left (intBits_le_64 h1 h2)
 ·exact .of_right (intBits_le_64 h1 h2)
theorem J0o:OpR X (binaryOp .Add) (rI0 fun i j=>.int (i+j)):=Jd1 fun _ _ _ _ _ _ _ q=>add_int q
theorem J3G:OpR X (binaryOp .Sub) (rI0 fun i j=>.int (i - j)):=Jd1 fun _ _ _ _ _ _ _ q=>sub_int q
theorem J1L:OpR X (binaryOp .Mult) (rI CMul fun i j=>.int (i * j)):=opI fun _ _ _ _ _ _ _ hc q=>mul_int q hc.ok
theorem J0k:OpR X (binaryOp .FloorDiv) (rI Jds fun i j=>.int (i / j)):=opI fun i j _ _ _ _ _ hc q=>by
 have h1:(0:Int)<j:=hc.1
 have h2:j<1073741824:=hc.2
 exact floordiv_int (by omega) (by rw [Int.fdiv_eq_ediv_of_nonneg i (by omega)];exact q) (.inl (PyProof.noPylong_small (by omega)))
theorem JK:OpR X (binaryOp .Mod) (rI (fun _ j=>0<j) fun i j=>.int (i % j)):=opI fun i j _ _ _ _ _ hc q=>by
 have h1:(0:Int)<j:=hc
 exact mod_int' (by omega) (by rw [Int.fmod_eq_emod_of_nonneg i (by omega)];exact q)
theorem J3I:OpR X (binaryOp .Pow) (rI Jdr fun i j=>.int (i ^ j.toNat)):=opI fun _ _ _ _ _ _ _ hc q=>pow_int_small hc.1 hc.2.1 hc.2.2 q
theorem unI {f:Value→Sem Value}{g:Int→Int}
 (rule:∀ (i:Int) (t:Tok) (s:Shared) (Q:Value→Shared→Prop) (E:Value→Shared→Prop),Q (.int (g i) s.toks) { s with toks:=s.toks+1 }→wpAny (model X.prog X.w) X.A (f (.int i t)) Q E s) :
 UnR X f (rU fun i=>.int (g i)):=by
 intro pins s σ H x v Q I rx h
 obtain ⟨i,rfl,q⟩:=h
 obtain ⟨t,rfl⟩:=rx
 exact rule i t s _ _ ⟨.int (g i),H,I.tok _,⟨_,rfl⟩,q⟩
theorem JbU:UnR X (unaryOp .USub) (rU fun i=>.int (-i)):=unI fun _ _ _ _ _ q=>neg_int q
end
noncomputable def J95:V→V→Bool
 | .non,.non=>true | .non,.int _=>true | .int _,.non=>true | .non,.bl _=>true | .bl _,.non=>true | .non,.str _=>true | .str _,.non=>true
 | .int _,.int _=>true | .bl _,.bl _=>true | .str _,.str _=>true | .byt _,.byt _=>true
 | .int _,.str _=>true | .str _,.int _=>true | .bl _,.str _=>true | .str _,.bl _=>true
 | _,_=>false
def rEq:R2:=fun x y H Q=>J95 x y=true∧Q (.bl (decide (x=y))) H
def rNe:R2:=fun x y H Q=>J95 x y=true∧Q (.bl (!decide (x=y))) H
theorem J5k {i j:Int}:decide (V.int i=V.int j)=(i == j):=by
 rw [Bool.eq_iff_iff]
 simp
theorem Jae {i j:Bool}:decide (V.bl i=V.bl j)=(i == j):=by
 rw [Bool.eq_iff_iff]
 simp
theorem J5j {i j:Str}:decide (V.str i=V.str j)=(i == j):=by
 rw [Bool.eq_iff_iff]
 simp
theorem J7R {i j:Array UInt8}:decide (V.byt i=V.byt j)=(i.toList == j.toList):=by
 rw [Bool.eq_iff_iff]
 cases i
 cases j
 simp
section
variable {X:Cx}{a b c:Expr}{ta tb tc:TE}{pos:Pos}
theorem Js {pins:List (Addr×Obj)}{σ:St}{H:Hp}{s:Shared}{Q:VK}{k k':Bool}(I:Inv X pins σ H s)(q:Q (.bl k) H)(e:k=k'):EP X pins σ Q (.bool k') s:=by
 subst e
 exact ⟨.bl k,H,I,rfl,q⟩
theorem J0N:OpR X (compareOp .Eq) rEq:=by
 intro pins s σ H x y v u Q I rx ry h
 obtain ⟨hs,q⟩:=h
 cases x with
 | non =>
   cases rx
   cases y with
   | non=>cases ry;exact PySem.EqNone.eq_none_none (Js I q (by simp))
   | bl j=>cases ry;exact PySem.EqNone.eq_none_bool (Js I q (by simp))
   | int j=>obtain ⟨t',rfl⟩:=ry;exact PySem.EqNone.eq_none_int (Js I q (by simp))
   | str j=>obtain ⟨t',rfl⟩:=ry;exact PySem.EqNone.eq_none_str (Js I q (by simp))
   | _=>exact absurd (show false=true from hs) Bool.false_ne_true
 | bl i =>
   cases rx
   cases y with
   | non=>cases ry;exact PySem.EqNone.eq_bool_none (Js I q (by simp))
   | bl j=>cases ry;exact eq_bool (Js I q Jae)
   | str j=>obtain ⟨t',rfl⟩:=ry;exact PySem.EqMixed.eq_bool_str (Js I q (by simp))
   | _=>exact absurd (show false=true from hs) Bool.false_ne_true
 | int i =>
   obtain ⟨t,rfl⟩:=rx
   cases y with
   | non=>cases ry;exact PySem.EqNone.eq_int_none (Js I q (by simp))
   | int j=>obtain ⟨t',rfl⟩:=ry;exact eq_int (Js I q J5k)
   | str j=>obtain ⟨t',rfl⟩:=ry;exact PySem.EqMixed.eq_int_str (Js I q (by simp))
   | _=>exact absurd (show false=true from hs) Bool.false_ne_true
 | str i =>
   obtain ⟨t,rfl⟩:=rx
   cases y with
   | non=>cases ry;exact PySem.EqNone.eq_str_none (Js I q (by simp))
   | bl j=>cases ry;exact PySem.EqMixed.eq_str_bool (Js I q (by simp))
   | int j=>obtain ⟨t',rfl⟩:=ry;exact PySem.EqMixed.eq_str_int (Js I q (by simp))
   | str j=>obtain ⟨t',rfl⟩:=ry;exact eq_str (Js I q J5j)
   | _=>exact absurd (show false=true from hs) Bool.false_ne_true
 | byt i =>
   obtain ⟨t,rfl⟩:=rx
   cases y with
   | byt j=>obtain ⟨t',rfl⟩:=ry;exact PySem.W.eq_bytes (Js I q J7R)
   | _=>exact absurd (show false=true from hs) Bool.false_ne_true
 | _=>cases y<;>exact absurd (show false=true from hs) Bool.false_ne_true
theorem J9E:OpR X (compareOp .NotEq) rNe:=by
 intro pins s σ H x y v u Q I rx ry h
 obtain ⟨hs,q⟩:=h
 cases x with
 | non =>
   cases rx
   cases y with
   | non=>cases ry;exact PySem.EqNone.ne_none_none (Js I q (by simp))
   | bl j=>cases ry;exact PySem.EqNone.ne_none_bool (Js I q (by simp))
   | int j=>obtain ⟨t',rfl⟩:=ry;exact PySem.EqNone.ne_none_int (Js I q (by simp))
   | str j=>obtain ⟨t',rfl⟩:=ry;exact PySem.EqNone.ne_none_str (Js I q (by simp))
   | _=>exact absurd (show false=true from hs) Bool.false_ne_true
 | bl i =>
   cases rx
   cases y with
   | non=>cases ry;exact PySem.EqNone.ne_bool_none (Js I q (by simp))
   | bl j=>cases ry;exact ne_bool (Js I q (congrArg not Jae))
   | str j=>obtain ⟨t',rfl⟩:=ry;exact PySem.EqMixed.ne_bool_str (Js I q (by simp))
   | _=>exact absurd (show false=true from hs) Bool.false_ne_true
 | int i =>
   obtain ⟨t,rfl⟩:=rx
   cases y with
   | non=>cases ry;exact PySem.EqNone.ne_int_none (Js I q (by simp))
   | int j=>obtain ⟨t',rfl⟩:=ry;exact ne_int (Js I q (congrArg not J5k))
   | str j=>obtain ⟨t',rfl⟩:=ry;exact PySem.EqMixed.ne_int_str (Js I q (by simp))
   | _=>exact absurd (show false=true from hs) Bool.false_ne_true
 | str i =>
   obtain ⟨t,rfl⟩:=rx
   cases y with
   | non=>cases ry;exact PySem.EqNone.ne_str_none (Js I q (by simp))
   | bl j=>cases ry;exact PySem.EqMixed.ne_str_bool (Js I q (by simp))
   | int j=>obtain ⟨t',rfl⟩:=ry;exact PySem.EqMixed.ne_str_int (Js I q (by simp))
   | str j=>obtain ⟨t',rfl⟩:=ry;exact ne_str (Js I q (congrArg not J5j))
   | _=>exact absurd (show false=true from hs) Bool.false_ne_true
 | byt i =>
   obtain ⟨t,rfl⟩:=rx
   cases y with
   | byt j=>obtain ⟨t',rfl⟩:=ry;exact PySem.W.ne_bytes (Js I q (congrArg not J7R))
   | _=>exact absurd (show false=true from hs) Bool.false_ne_true
 | _=>cases y<;>exact absurd (show false=true from hs) Bool.false_ne_true
theorem JbI:OpR X (compareOp .Lt) (rI0 fun i j=>.bl (decide (i<j))):=Jcl fun _ _ _ _ _ _ _ q=>lt_int q
theorem J9F:OpR X (compareOp .LtE) (rI0 fun i j=>.bl (decide (i≤j))):=Jcl fun _ _ _ _ _ _ _ q=>le_int q
theorem J3J:OpR X (compareOp .Gt) (rI0 fun i j=>.bl (decide (j<i))):=Jcl fun _ _ _ _ _ _ _ q=>gt_int q
theorem J8e:OpR X (compareOp .In) (fun x y H Q=>∃ i j,x=.str i∧y=.str j∧Q (.bl (!(Builtin.Str.occurrences j i 0 j.length 1).isEmpty)) H):=by
 intro pins s σ H x y v u Q I rx ry h
 obtain ⟨i,j,rfl,rfl,q⟩:=h
 obtain ⟨t,rfl⟩:=rx
 obtain ⟨t',rfl⟩:=ry
 exact in_str (Js I q rfl)
theorem J9G:OpR X (compareOp .Is) (fun x y H Q=>y=.non∧Q (.bl (decide (x=.non))) H):=by
 intro pins s σ H x y v u Q I rx ry h
 obtain ⟨rfl,q⟩:=h
 cases ry
 refine is_none_gen (Js I q ?_)
 cases x<;>first
  | (cases rx;rfl)
  | (obtain ⟨t,rfl⟩:=rx;rfl)
theorem J7I:OpR X (compareOp .IsNot) (fun x y H Q=>y=.non∧Q (.bl (!decide (x=.non))) H):=by
 intro pins s σ H x y v u Q I rx ry h
 obtain ⟨rfl,q⟩:=h
 cases ry
 refine isnot_none_gen (Js I q ?_)
 cases x<;>first
  | (cases rx;rfl)
  | (obtain ⟨t,rfl⟩:=rx;rfl)
theorem Jr (b:Expr){op:CmpOp}(h:op≠.In:=by decide)(h2:op≠.NotIn:=by decide):behindInMarks op b=false:=by
 have e1:(op == CmpOp.In)=false:=by cases op<;>first | rfl | exact absurd rfl h
 have e2:(op == CmpOp.NotIn)=false:=by cases op<;>first | rfl | exact absurd rfl h2
 cases b<;>simp [behindInMarks,e1,e2]
theorem J1a {op:CmpOp}{r:R2}(ho:OpR X (compareOp op) r)(ha:PE X a ta)(hb:PE X b tb)(hm:behindInMarks op b=false):PE X (.Compare a [op] [b] pos) (tOp r ta tb):=by
 intro pins s σ H Q I h
 exact wpAny_Compare1 (JcM ha hb I h fun v u s2 x y H2 I2 rx ry q=>ho pins s2 σ H2 x y v u Q I2 rx ry q) hm
def J7q (t:TE):TT:=fun σ H Q=>t σ H fun x H'=>∃ k,x=.bl k∧Q k H'
theorem Jq {op:CmpOp}{r:R2}(ho:OpR X (compareOp op) r)(ha:PE X a ta)(hb:PE X b tb)(hm:behindInMarks op b=false):PT X (.Compare a [op] [b] pos) (J7q (tOp r ta tb)):=by
 intro pins s σ H Q I h
 refine wpAny_isTrue_Compare1 (thn (ha pins s σ H _ I h) fun v s1 ⟨x,H1,I1,r1,q1⟩=>thn (hb pins s1 σ H1 _ I1 q1) fun u s2 ⟨y,H2,I2,r2,q2⟩ =>
  thn (ho pins s2 σ H2 x y v u _ I2 r1 r2 q2) fun c s3 ⟨z,H3,I3,r3,k,e,q3⟩=>?_) hm
 subst e
 cases r3
 exact wpAny_truthy_bool ⟨H3,I3,q3⟩
def J4L (r r':R2)(ta tb tc:TE):TE:=fun σ H Q=>ta σ H fun x H1=>tb σ H1 fun y H2=>r x y H2 fun z H3=>∃ k,z=.bl k ∧
 (if k=true then tc σ H3 fun w' H4=>r' y w' H4 Q else Q (.bl false) H3)
theorem J9C {op op':CmpOp}{r r':R2}(ho:OpR X (compareOp op) r)(ho':OpR X (compareOp op') r')(ha:PE X a ta)(hb:PE X b tb)(hc:PE X c tc)
 (hm:lastMarks [op,op'] [b,c]=false:=by with_unfolding_all rfl):PE X (.Compare a [op,op'] [b,c] pos) (J4L r r' ta tb tc):=by
 intro pins s σ H Q I h
 refine Compare_chain (thn (ha pins s σ H _ I h) fun v s1 ⟨x,H1,I1,r1,q1⟩=>chain_link (thn (hb pins s1 σ H1 _ I1 q1) fun u s2 ⟨y,H2,I2,r2,q2⟩ =>
  thn (ho pins s2 σ H2 x y v u _ I2 r1 r2 q2) fun d s3 ⟨z,H3,I3,r3,k,e,q3⟩=>?_)) hm
 subst e
 cases r3
 refine wpAny_truthy_bool ?_
 cases k with
 | false=>exact ite_ff ⟨.bl false,H3,I3,rfl,q3⟩
 | true=>exact ite_tt (chain_last (thn (hc pins s3 σ H3 _ I3 q3) fun w' s4 ⟨z',H4,I4,r4,q4⟩=>ho' pins s4 σ H4 y z' u w' Q I4 r2 r4 q4))
theorem J2X:(sizeLine:Nat)<2 ^ 63:=by rw [sizeLine_eq];decide
theorem J2h:OpR X (binaryOp .Add) (fun x y H Q=>∃ i j,x=.str i∧y=.str j∧i.length+j.length≤sizeLine∧Q (.str (i++j)) H):=by
 intro pins s σ H x y v u Q I rx ry h
 obtain ⟨i,j,rfl,rfl,hz,q⟩:=h
 obtain ⟨t,rfl⟩:=rx
 obtain ⟨t',rfl⟩:=ry
 exact add_str (fun t' tk=>⟨.str (i++j),H,I.tok _,⟨_,rfl⟩,q⟩) hz
theorem J0Z {x:V}{us:List Value}(r:Vals [x] us):∃ u,us=[u]∧RelV x u:=by
 cases r with
 | cons r1 r2=>cases r2;exact ⟨_,rfl,r1⟩
theorem J5t {x y:V}{us:List Value}(r:Vals [x,y] us):∃ u w',us=[u,w']∧RelV x u∧RelV y w':=by
 cases r with
 | cons r1 r2 =>
   cases r2 with
   | cons r3 r4=>cases r4;exact ⟨_,_,rfl,r1,r3⟩
theorem Jaq:J0e X (.builtin "abs") (fun xs H Q=>∃ i,xs=[.int i]∧Q (.int (if i<0 then -i else i)) H):=by
 intro pins s σ H xs us Q I r h
 obtain ⟨i,rfl,q⟩:=h
 obtain ⟨u,rfl,t,rfl⟩:=J0Z r
 exact call_abs_int fun u tk=>⟨.int (if i<0 then -i else i),H,I.tok _,⟨_,rfl⟩,q⟩
theorem J31:J0e X (.type "int") (fun xs H Q=>(∃ i,xs=[.int i]∧Q (.int i) H)∨∃ k,xs=[.bl k]∧Q (.int (if k then 1 else 0)) H):=by
 intro pins s σ H xs us Q I r h
 rcases h with ⟨i,rfl,q⟩ | ⟨k,rfl,q⟩
 ·obtain ⟨u,rfl,t,rfl⟩:=J0Z r
  exact call_int_int ⟨.int i,H,I,⟨_,rfl⟩,q⟩
 ·obtain ⟨u,rfl,r1⟩:=J0Z r
  cases r1
  exact call_int_bool ⟨.int (if k then 1 else 0),H,I.tok _,⟨_,rfl⟩,q⟩
def Jdp (K:PySem.W.Frag)(x:V)(H:Hp)(n:Nat):Prop :=
 match x with
 | .str y=>y.length≤sizeLine∧n=y.length
 | .byt y=>y.size≤sizeLine∧n=y.size
 | .ref p=>(∃ xs,SqL K H p xs∧n=xs.length)∨∃ xs,SqT K H p xs∧n=xs.length
 | _=>False
end
structure ObjM (h:Heap)(x dx C:Addr)(mA:Str→Option Value):Prop where
 obj:h.get? x=some (PySem.W.instObj C dx)
 ns:h.Ns1 dx mA
 ne:dx≠x
theorem J4k {h:Heap}{dx:Addr}{mA:Str→Option Value}(n:h.Ns1 dx mA):∃ od,h.get? dx=some od∧∀ name,PySem.W.lookIn name od=some (mA name):=by
 obtain ⟨o,es,ep,ho,hd,hk,_,hm⟩:=n
 refine ⟨o,ho,fun name=>?_⟩
 have e:=hm name
 unfold nsFind findBy at e
 rw [← Array.find?_toList] at e
 unfold PySem.W.lookIn
 rw [hd]
 dsimp only
 split
 ·rename_i y q
  rw [q] at e
  exact congrArg some e
 ·rename_i q
  rw [q] at e
  have a:es.toList.any (·.refKey)=false:=by
   rw [List.any_eq_false]
   intro y hy
   obtain ⟨z,t,hkey⟩:=hk y (Array.mem_toList_iff.mp hy)
   simp [DictEntry.refKey,hkey]
  have a':¬ es.toList.any (·.refKey)=true:=by rw [a];exact Bool.false_ne_true
  rw [if_neg a']
  exact congrArg some e
theorem ObjM.look {h:Heap}{x dx C:Addr}{mA:Str→Option Value}(I:ObjM h x dx C mA):∃ od,PySem.W.InstAt h x (PySem.W.instObj C dx) C (some od)∧∀ name,PySem.W.lookIn name od=some (mA name) :=
 let ⟨od,ho,hl⟩:=J4k I.ns
 ⟨od,⟨I.obj,rfl,rfl,ho⟩,hl⟩
section
variable {prog:Program}{w:World}{A:Around}{E:Value→Shared→Prop}{s:Shared}{K:PySem.W.Frag}{x dx C f:Addr}{mA:Str→Option Value}{name:Str}{v:Value}
theorem Jbr {expr:Bool}{Q:Value→Shared→Prop}(X:K.In s.heap)(I:ObjM s.heap x dx C mA)(hg:PySem.W.plainGet K C name=true)(hh:PySem.W.hasDictIn K C=true)
 (ha:PySem.W.findIn K (.ref C) name=some none) (hv:mA name=some v) (hv':PySem.W.handedIn v=true) (h:Q v { s with toks:=s.toks+1 }) :
 wpAny (model prog w) A (getAttr (.ref x) name expr) Q E s:=by
 obtain ⟨od,J,hl⟩:=I.look
 exact PySem.W.get_value X J (PySem.W.plainGet_of hg).1 (PySem.W.findObj_own hh ha rfl (by rw [hl,hv])) hv' h
theorem Ja6 {pl:Sem Bool}{Q:Value×List Value→Shared→Prop}(X:K.In s.heap)(I:ObjM s.heap x dx C mA)(hg:PySem.W.plainGet K C name=true)
 (hf:PySem.W.findIn K (.ref C) name=some (some (.ref f))) (ht:PySem.W.isFn K (.ref f)=true) (hv:mA name=none) (h:Q (.ref f,[.ref x]) s) :
 wpAny (model prog w) A (getMethod (.ref x) name pl) Q E s:=by
 obtain ⟨od,J,hl⟩:=I.look
 exact PySem.W.method_fn X J (PySem.W.plainGet_of hg).1 (PySem.W.plainGet_of hg).2 hf (beq_iff_eq.mp ht) (by show (PySem.W.lookIn name od).map (·.isSome)=some false;rw [hl,hv];rfl) h
theorem JaN {ns:List Str}{Q:Unit→Shared→Prop}(X:K.In s.heap)(I:ObjM s.heap x dx C mA)
 (hs:PySem.W.findIn K (.ref C) "__setattr__"=some (some (.builtin "object.__setattr__"))) (hp:PySem.W.plainOver K C=true) (ht:PySem.W.takerIn K C name=some none) (hh:PySem.W.hasDictIn K C=true)
 (hw:PySem.Within mA ns) (hsz:ns.length≤sizeLine)
 (h:∀ h',ObjM h' x dx C (fun y=>if y=name then some v else mA y)→Heap.SameBut dx s.heap h'→Q () { s with heap:=h',toks:=s.toks+2 }) :
 wpAny (model prog w) A (setAttr (.ref x) name v) Q E s:=by
 obtain ⟨od,J,hl⟩:=I.look
 refine PySem.W.set_plain X J hs (PySem.W.osa_open (s:={ s with toks:=s.toks+1 }) (r:=none) X J hp ht fun b=>?_)
 obtain ⟨cd,hc,hd'⟩:=PySem.W.any_some hh
 have hx:s.heap.get? x=some ⟨.ref C,some dx,.plain,#[]⟩:=I.obj
 refine wpAny_bind (wpAny_pure (wpAny_bind (wpAny_bind (wpAny_loadPart hx (wpAny_bind (PySem.W.Looks.here (s:={ s with toks:=s.toks+1 }) (PySem.W.looks_clsIn X hc) ?_))))))
 rw [hd']
 refine wpAny_pure (a:=some dx) (wpAny_bind (wpAny_pure (wpAny_bind ?_)))
 refine wpAny_nsSet1 (s:={ s with toks:=s.toks+1 }) I.ns fun h' hn2 hs2=>?_
 obtain ⟨oD,esD,epD,hoD,hdD,hcD⟩:=hn2.count (PySem.Within.cons name v hw)
 refine wpAny_bind (wpAny_lookBehind hoD (by rw [hdD];exact pastItsLine_dict (Nat.le_trans hcD (by rw [List.length_cons];omega))) ?_)
 exact wpAny_pure (h _ ⟨(hs2.2 _ (Ne.symm I.ne)).trans I.obj,hn2,I.ne⟩ hs2)
theorem J9P {R:Result→Shared→Prop}{vs:List Value}{kw:List (Str×Value)}(X:K.In s.heap)(hm:PySem.W.makesIn K C=true)
 (hi:PySem.W.findIn K (.ref C) "__init__"=some (some (.ref f))) (hf:PySem.W.typeIn K (.ref f)=some (.type "function"))
 (h:codeAny (model prog w) (A.under (.builtin "type.__call__" ⟨.ref C::vs,kw⟩)) (.call (.ref f) ⟨.ref (s.heap.objs.size+1)::vs,kw⟩) (PySem.W.InitBack (s.heap.objs.size+1) R)
  { s with heap:=(s.heap.push PySem.W.emptyDict).push (PySem.W.instObj C s.heap.objs.size) }) :
 codeAny (model prog w) A (.call (.ref C) ⟨vs,kw⟩) R s:=by
 obtain ⟨hh,g,d,t,os⟩:=s
 exact PySem.W.make_core (PySem.W.makes_of X hm) (PySem.W.looks_findIn X hi) (fun self=>PySem.W.bind_fn X self hf) (.inl rfl) h
end
noncomputable def J16 (f:Str)(v:V):List (Str×V)→List (Str×V)
 | []=>[(f,v)]
 | (g,x)::r=>if g=f then (g,v)::r else (g,x)::J16 f v r
theorem lookup_putF (f g:Str)(v:V):∀ fs:List (Str×V),(J16 f v fs).lookup g=if g=f then some v else fs.lookup g
 | []=>by
   show List.lookup g [(f,v)]=_
   by_cases h:g=f
   ·have hb:(g == f)=true:=beq_iff_eq.mpr h
    simp only [List.lookup,hb,if_pos h]
   ·have hb:(g == f)=false:=beq_eq_false_iff_ne.mpr h
    simp only [List.lookup,hb,if_neg h]
 | (k,x)::r=>by
   have ih:=lookup_putF f g v r
   rw [show J16 f v ((k,x)::r)=(if k=f then (k,v)::r else (k,x)::J16 f v r) from rfl]
   by_cases hk:k=f
   ·rw [if_pos hk]
    by_cases h:g=k
    ·have hb:(g == k)=true:=beq_iff_eq.mpr h
     simp only [List.lookup,hb,if_pos (h.trans hk)]
    ·have hb:(g == k)=false:=beq_eq_false_iff_ne.mpr h
     simp only [List.lookup,hb,if_neg (fun e:g=f=>h (e.trans hk.symm))]
   ·rw [if_neg hk]
    by_cases h:g=k
    ·have hb:(g == k)=true:=beq_iff_eq.mpr h
     simp only [List.lookup,hb,if_neg (fun e:g=f=>hk (h.symm.trans e))]
    ·have hb:(g == k)=false:=beq_eq_false_iff_ne.mpr h
     simp only [List.lookup,hb]
     exact ih
theorem keys_putF (f:Str)(v:V):∀ fs:List (Str×V),f∈(J16 f v fs).map (·.1)∧∀ g,g∈fs.map (·.1)→g∈(J16 f v fs).map (·.1)
 | []=>⟨by simp [J16],fun g h=>by simp at h⟩
 | (k,x)::r=>by
   obtain ⟨i1,i2⟩:=keys_putF f v r
   rw [show J16 f v ((k,x)::r)=(if k=f then (k,v)::r else (k,x)::J16 f v r) from rfl]
   by_cases hk:k=f
   ·rw [if_pos hk]
    subst hk
    exact ⟨by simp,fun g h=>by simpa using h⟩
   ·rw [if_neg hk]
    refine ⟨?_,fun g h=>?_⟩
    ·rw [List.map_cons]
     exact List.mem_cons_of_mem _ i1
    ·rw [List.map_cons] at h ⊢
     rcases List.mem_cons.mp h with e | e
     ·exact List.mem_cons.mpr (.inl e)
     ·exact List.mem_cons_of_mem _ (i2 g e)
theorem J35 (f:Str)(v:V):∀ fs:List (Str×V),(J16 f v fs).length≤fs.length+1
 | []=>by simp [J16]
 | (k,x)::r=>by
   have ih:=J35 f v r
   rw [show J16 f v ((k,x)::r)=(if k=f then (k,v)::r else (k,x)::J16 f v r) from rfl]
   by_cases hk:k=f
   ·rw [if_pos hk,List.length_cons,List.length_cons];omega
   ·rw [if_neg hk,List.length_cons,List.length_cons];omega
theorem RelO.some_of {v:V}{o:Option Value}(r:RelO (some v) o):∃ u,o=some u∧RelV v u:=by
 cases o with
 | none=>exact (show False from r).elim
 | some u=>exact ⟨u,rfl,r⟩
theorem RelO.none_of {o:Option Value}(r:RelO none o):o=none:=by
 cases o with
 | none=>rfl
 | some u=>exact (show False from r).elim
theorem J8v {v:V}{u:Value}(r:RelV v u):PySem.W.handedIn u=true:=by
 cases v with
 | non=>cases (show u=Value.none from r);rfl
 | bl b=>cases (show u=Value.bool b from r);rfl
 | int i=>obtain ⟨t,e⟩:=(show ∃ t,u=Value.int i t from r);cases e;rfl
 | str x=>obtain ⟨t,e⟩:=(show ∃ t,u=Value.str x t from r);cases e;rfl
 | byt b=>obtain ⟨t,e⟩:=(show ∃ t,u=Value.bytes b t from r);cases e;rfl
 | flt b=>obtain ⟨t,e⟩:=(show ∃ t,u=Value.float b t from r);cases e;rfl
 | ref a=>cases (show u=Value.ref a from r);rfl
 | ty n=>cases (show u=Value.type n from r);rfl
section
variable {P:Program}{w:World}{H H':Hp}{h h':Heap}{a C dx:Addr}{fs fs':List (Str×V)}
theorem J3n (hok:HOk P w H h)(e:H a=some (.ins C dx fs)):∃ mA,ObjM h a dx C mA∧(∀ f,RelO (fs.lookup f) (mA f))∧PySem.Within mA (fs.map (·.1))∧fs.length≤1000∧H dx=some (.own a):=by
 obtain ⟨d,z,ne,ob,mA,n,r,q⟩:=(show ObjOk P w H h a (.ins C dx fs) from hok a _ e)
 exact ⟨mA,⟨ob,n,ne⟩,r,q,z,d⟩
end
structure Cls (K:PySem.W.Frag)(C:Addr):Prop where
 pg:PySem.W.plainGet K C Str.empty=true
 hd:PySem.W.hasDictIn K C=true
 po:PySem.W.plainOver K C=true
 sa:PySem.W.findIn K (.ref C) "__setattr__"=some (some (.builtin "object.__setattr__"))
theorem Cls.get {K:PySem.W.Frag}{C:Addr}(c:Cls K C)(f:Str):PySem.W.plainGet K C f=true:=c.pg
def NoAttr (K:PySem.W.Frag)(C:Addr)(f:Str):Prop:=PySem.W.findIn K (.ref C) f=some none
theorem NoAttr.taker {K:PySem.W.Frag}{C:Addr}{f:Str}(n:NoAttr K C f):PySem.W.takerIn K C f=some none:=by
 unfold PySem.W.takerIn
 rw [show PySem.W.findIn K (.ref C) f=some none from n]
 rfl
structure Meth (K:PySem.W.Frag)(C:Addr)(m:Str)(f:Addr):Prop where
 at_:PySem.W.findIn K (.ref C) m=some (some (.ref f))
 fn:PySem.W.isFn K (.ref f)=true
 kp:PySem.W.keepIn K (.ref f)=true
section
variable {X:Cx}{pins:List (Addr×Obj)}{σ:St}{H:Hp}{s:Shared}{a C dx:Addr}{fs:List (Str×V)}{f:Str}{v:V}{A:Around}{E:Value→Shared→Prop}
theorem J7d {b:Bool}{Q:Value→Shared→Prop}(I:Inv X pins σ H s)(e:H a=some (.ins C dx fs))(c:Cls X.K C)(n:NoAttr X.K C f)(l:fs.lookup f=some v)
 (h:∀ u s',Inv X pins σ H s'→RelV v u→Q u s'):wpAny (model X.prog X.w) A (getAttr (.ref a) f b) Q E s:=by
 obtain ⟨mA,O,r,_,_,_⟩:=J3n I.hok e
 obtain ⟨u,hu,ru⟩:=RelO.some_of (v:=v) (o:=mA f) (by rw [← l];exact r f)
 exact Jbr I.kIn O (c.get f) c.hd n hu (J8v ru) (h u _ (I.tok _) ru)
theorem J7c {m:Str}{g:Addr}{pl:Sem Bool}{Q:Value×List Value→Shared→Prop}(I:Inv X pins σ H s)(e:H a=some (.ins C dx fs))(c:Cls X.K C)(k:Meth X.K C m g)(l:fs.lookup m=none)
 (h:Q (.ref g,[.ref a]) s):wpAny (model X.prog X.w) A (getMethod (.ref a) m pl) Q E s:=by
 obtain ⟨mA,O,r,_,_,_⟩:=J3n I.hok e
 have hn:mA m=none:=RelO.none_of (by rw [← l];exact r m)
 exact Ja6 I.kIn O (c.get m) k.at_ k.fn hn h
theorem J6G {y:V}{u:Value}{Q:Unit→Shared→Prop}(I:Inv X pins σ H s)(e:H a=some (.ins C dx fs))(c:Cls X.K C)(n:NoAttr X.K C f)(hl:fs.length<1000)(ry:RelV y u)
 (h:∀ s',Inv X pins σ (upd H a (.ins C dx (J16 f y fs))) s'→Q () s'):wpAny (model X.prog X.w) A (setAttr (.ref a) f u) Q E s:=by
 obtain ⟨mA,O,r,wi,_,ho⟩:=J3n I.hok e
 have hz:(fs.map (·.1)).length≤sizeLine:=by rw [List.length_map,sizeLine_eq];omega
 refine JaN I.kIn O c.sa c.po n.taker c.hd wi hz fun h' O' sb=>h _ ?_
 have hd:∃ o,h'.get? dx=some o:=let ⟨o,_,_,e',_⟩:=O'.ns;⟨o,e'⟩
 refine I.write (x:=a) (e:=dx) (by rw [e];exact True.intro) (.inr ho) (fun b q hb z=>(sb.2 b hb).trans z) hd ?_
 refine ⟨by rw [Jk O.ne];exact ho,?_,O.ne,O'.obj,_,O'.ns,fun g=>?_,fun g hg=>?_⟩
 ·have:=J35 f y fs;omega
 ·show RelO ((J16 f y fs).lookup g) (if g=f then some u else mA g)
  rw [lookup_putF]
  by_cases q:g=f
  ·rw [if_pos q,if_pos q];exact ry
  ·rw [if_neg q,if_neg q];exact r g
 ·by_cases q:g=f
  ·rw [q];exact (keys_putF f y fs).1
  ·refine (keys_putF f y fs).2 g (wi g fun z=>hg ?_)
   show (if g=f then some u else mA g)=none
   rw [if_neg q];exact z
theorem Inv.made (I:Inv X pins σ H s):Inv X pins σ (upd (upd H s.heap.objs.size (.own (s.heap.objs.size+1))) (s.heap.objs.size+1) (.ins C s.heap.objs.size []))
 { s with heap:=(s.heap.push PySem.W.emptyDict).push (PySem.W.instObj C s.heap.objs.size) }:=by
 have e1:(s.heap.push PySem.W.emptyDict).get? s.heap.objs.size=some PySem.W.emptyDict:=Heap.get?_push_size s.heap rfl
 have e2:((s.heap.push PySem.W.emptyDict).push (PySem.W.instObj C s.heap.objs.size)).get? (s.heap.objs.size+1)=some (PySem.W.instObj C s.heap.objs.size):=by
  have:=Heap.get?_push_size (s.heap.push PySem.W.emptyDict) (o:=PySem.W.instObj C s.heap.objs.size) rfl
  rwa [Heap.size_push] at this
 have e3:(s.heap.push PySem.W.emptyDict).Ns s.heap.objs.size (fun _=>none):=⟨PySem.W.emptyDict,#[],_,e1,rfl,(fun e he=>absurd he (by simp)),fun _=>rfl⟩
 have I1:=I.laid (a:=s.heap.objs.size) (o:=.own (s.heap.objs.size+1)) (h':=s.heap.push PySem.W.emptyDict) (t':=s.toks) (fun b u q=>Heap.get?_push_of_some _ q) (Nat.le_refl _) ⟨_,e1⟩
 refine I1.laid (a:=s.heap.objs.size+1) (o:=.ins C s.heap.objs.size []) (t':=s.toks) (fun b u q=>Heap.get?_push_of_some _ q) (Nat.le_of_eq (Heap.size_push _ _)) ?_
 have ne:s.heap.objs.size≠s.heap.objs.size+1:=Nat.ne_of_lt (Nat.lt_succ_self _)
 refine ⟨by rw [Jk ne,Jb],Nat.zero_le _,ne,e2,fun _=>none,(Heap.Ns1.of_empty e3).at fun o q=>Heap.get?_push_of_some _ q,fun _=>True.intro,fun y hy=>absurd rfl hy⟩
theorem Jbz {prog:Program}{w:World}{env:Env}{e:Expr}{f:Str}{pos:Pos}{s:Shared}{Q:Value→Shared→Prop}(hb:attributeBase e f env (eval e env)=eval e env)
 (h:wpAny (model prog w) A (eval e env) (fun o s₁=>wpAny (model prog w) A (getAttr o f true) Q E s₁) E s):wpAny (model prog w) A (eval (.Attribute e f pos) env) Q E s :=
 Attribute_any_ h (by rw [arm_eval_Attribute,hb])
end
def J8Y (K:PySem.W.Frag)(ta:TE)(f:Str):TE:=fun σ H Q=>ta σ H fun x H1=>∃ a C dx fs v,x=.ref a∧H1 a=some (.ins C dx fs)∧Cls K C∧NoAttr K C f∧fs.lookup f=some v∧Q v H1
def JaP (K:PySem.W.Frag)(ta tv:TE)(f:Str):TS:=fun D σ H=>tv σ H fun y H1=>ta σ H1 fun x H2=>∃ a C dx fs,x=.ref a∧H2 a=some (.ins C dx fs)∧Cls K C∧NoAttr K C f∧fs.length<1000 ∧
 D.nx σ (upd H2 a (.ins C dx (J16 f y fs)))
section
variable {X:Cx}{o e value:Expr}{f:Str}{pos pos' tpos:Pos}{ta tv:TE}
theorem J1u (he:PE X e ta)(hb:attributeBase e f X.env (eval e X.env)=eval e X.env):PE X (.Attribute e f pos) (J8Y X.K ta f):=by
 intro pins s σ H Q I h
 refine Jbz hb (thn (he pins s σ H _ I h) fun u s1 ⟨x,H1,I1,rx,a,C,dx,fs,v,ex,ea,c,n,l,q⟩=>?_)
 subst ex
 obtain rfl:u=Value.ref a:=rx
 exact J7d I1 ea c n l fun u' s2 I2 ru=>⟨v,H1,I2,ru,q⟩
theorem J51 (ha:PE X o ta)(hv:PE X value tv)(hs:swapsWith value (some (.Attribute o f pos')) pos.line X.env=pure false):PS X (.Assign [.Attribute o f pos'] value pos) (JaP X.K ta tv f):=by
 intro pins s σ H D I h
 refine plainObj_wpAny_Assign_Attribute (thn (hv pins s σ H _ I h) fun u s1 ⟨y,H1,I1,ry,q⟩=>thn (ha pins s1 σ H1 _ I1 q) fun ov s2 ⟨x,H2,I2,rx,a,C,dx,fs,ex,ea,c,n,l,q2⟩=>?_) hs
 subst ex
 obtain rfl:ov=Value.ref a:=rx
 exact J6G I2 ea c n l ry fun s3 I3=>⟨σ,_,I3,q2⟩
def Jc6:V→V→Hp→VK→Prop:=fun x y H Q=>∃ i j,x=.int i∧y=.int j∧Q (.int (i+j)) H
end
section
variable {X:Cx}{pins:List (Addr×Obj)}{σ:St}{H:Hp}{s:Shared}{A:Around}{E:Value→Shared→Prop}{Q:Value→Shared→Prop}{c:Value}{b:Bool}
inductive TyOf (K:PySem.W.Frag)(H:Hp):V→Value→Prop where
 | non:TyOf K H .non (.type "NoneType")
 | bl (x:Bool):TyOf K H (.bl x) (.type "bool")
 | int (i:Int):TyOf K H (.int i) (.type "int")
 | str (x:Str):TyOf K H (.str x) (.type "str")
 | flt (x:UInt64):TyOf K H (.flt x) (.type "float")
 | lst {a:Addr} {xs:List V} (e:H a=some (.lst xs)):TyOf K H (.ref a) (.type "list")
 | frz {a:Addr} {o:Obj} {xs:List V} (e:H a=some (.frz o (.lst xs))):TyOf K H (.ref a) (.type "list")
 | tup {a:Addr} {xs:List V} (e:H a=some (.tup xs)):TyOf K H (.ref a) (.type "tuple")
 | dK {a:Addr} {kvs:List (Key×V)} (e:H a=some (.dK kvs)):TyOf K H (.ref a) (.type "dict")
 | dT {a:Addr} {kvs:List (List Ji×V)} (e:H a=some (.dT kvs)):TyOf K H (.ref a) (.type "dict")
 | ins {a C dx:Addr} {fs:List (Str×V)} (e:H a=some (.ins C dx fs)) (cl:Cls K C) (ha:PySem.W.findIn K (.ref C) "__class__"=some (some (.builtin "object.__class__")))
  (hn:PySem.W.specialIn K (.builtin "object.__class__") "__get__"=some (some (.builtin "getset_descriptor.__get__"))) (htk:PySem.W.takesIn K (.builtin "object.__class__")=some true)
  (hm:PySem.W.mroIn K C (.type "object")=some true):TyOf K H (.ref a) (.ref C)
theorem J8r {x:V}{u t:Value}(I:Inv X pins σ H s)(rx:RelV x u)(ty:TyOf X.K H x t)(e:PySem.W.kitOne X.K t c=some b)(h:∀ tk,Q (.bool b) { s with toks:=tk }) :
 wpAny (model X.prog X.w) A (call (.builtin "isinstance") [u,c]) Q E s:=by
 cases ty with
 | non=>cases (show u=Value.none from rx);exact PySem.W.kia_one PySem.W.kitx_none I.kIn True.intro e (fun z=>nomatch z) h
 | bl y=>cases (show u=Value.bool y from rx);exact PySem.W.kia_one PySem.W.kitx_bool I.kIn True.intro e (fun z=>nomatch z) h
 | int i=>obtain ⟨t,q⟩:=(show ∃ t,u=Value.int i t from rx);cases q;exact PySem.W.kia_one PySem.W.kitx_int I.kIn True.intro e (fun z=>nomatch z) h
 | str y=>obtain ⟨t,q⟩:=(show ∃ t,u=Value.str y t from rx);cases q;exact PySem.W.kia_one PySem.W.kitx_str I.kIn True.intro e (fun z=>nomatch z) h
 | flt y=>obtain ⟨t,q⟩:=(show ∃ t,u=Value.float y t from rx);cases q;exact PySem.W.kia_one PySem.W.kitx_float I.kIn True.intro e (fun z=>nomatch z) h
 | @lst a xs ea =>
   cases (show u=Value.ref a from rx)
   obtain ⟨_,_,n,_,h1⟩:=(show ObjOk X.prog X.w H s.heap a (.lst xs) from I.hok a _ ea)
   exact PySem.W.kia_one PySem.W.kitx_list I.kIn ⟨_,h1,rfl⟩ e (fun z=>nomatch z) h
 | @frz a ob xs ea =>
   cases (show u=Value.ref a from rx)
   obtain ⟨_,_,_,n,_,h1⟩:=(show ObjOk X.prog X.w H s.heap a (.frz ob (.lst xs)) from I.hok a _ ea)
   exact PySem.W.kia_one PySem.W.kitx_list I.kIn ⟨_,h1,rfl⟩ e (fun z=>nomatch z) h
 | @tup a xs ea =>
   cases (show u=Value.ref a from rx)
   obtain ⟨_,_,_,p⟩:=(show ObjOk X.prog X.w H s.heap a (.tup xs) from I.hok a _ ea)
   obtain ⟨o,h1,h2,_⟩:=p
   exact PySem.W.kia_one PySem.W.kitx_tuple I.kIn ⟨o,h1,h2⟩ e (fun z=>nomatch z) h
 | @dK a kvs ea =>
   cases (show u=Value.ref a from rx)
   obtain ⟨_,_,vs,_,p⟩:=(show ObjOk X.prog X.w H s.heap a (.dK kvs) from I.hok a _ ea)
   obtain ⟨o,es,ep,h1,h2,_⟩:=p
   exact PySem.W.kia_one PySem.W.kitx_dict I.kIn ⟨o,h1,h2.1⟩ e (fun z=>nomatch z) h
 | @dT a kvs ea =>
   cases (show u=Value.ref a from rx)
   obtain ⟨_,_,xs,_,o,es,ep,h1,h2,_⟩:=(show ObjOk X.prog X.w H s.heap a (.dT kvs) from I.hok a _ ea)
   exact PySem.W.kia_one PySem.W.kitx_dict I.kIn ⟨o,h1,h2.1⟩ e (fun z=>nomatch z) h
 | @ins a C dx fs ea cl ha hn htk hm =>
   cases (show u=Value.ref a from rx)
   obtain ⟨mA,O,_⟩:=J3n I.hok ea
   obtain ⟨od,J,_⟩:=O.look
   exact PySem.W.kia_one (PySem.W.kitx_own (cl.get _) cl.hd ha hn htk hm) I.kIn J e (fun z=>nomatch z) h
end
structure Room (k:Nat)(A:Around):Prop where
 hd:A.handled=none
 dp:A.depth+3 * k+5<recursionLimit
 un:A.units+16 * k+200<cLine
theorem Room.mono {j k:Nat}{A:Around}(r:Room k A)(h:j≤k):Room j A:=⟨r.hd,by have:=r.dp;omega,by have:=r.un;omega⟩
theorem Room.deeper {k:Nat}{A:Around}(r:Room (k+1) A)(env:Env):Room k (A.deeper env) :=
 ⟨r.hd,by have:=r.dp;show A.depth+1+3 * k+5<_;omega,by have:=r.un;show A.units+3+16 * k+200<_;omega⟩
theorem Room.in1 {k:Nat}{A:Around}(r:Room (k+1) A):Room k A.in1 :=
 ⟨r.hd,by have:=r.dp;show A.depth+3 * k+5<_;omega,by have:=r.un;show A.units+1+16 * k+200<_;omega⟩
theorem J73 {A:Around}{C:Addr}{us:List Value}{kw:List (Str×Value)}:(A.under (.builtin "type.__call__" ⟨.ref C::us,kw⟩)).depth=A.depth+1:=by
 first | rfl | simp [Around.under,Code.weight,Code.isCreation,Code.isGuard,Code.isCaller,Code.frames,Code.isFrame,guardIds]
theorem J72 {A:Around}{C:Addr}{us:List Value}{kw:List (Str×Value)}:(A.under (.builtin "type.__call__" ⟨.ref C::us,kw⟩)).units=A.units+1:=by
 first | rfl | simp [Around.under,Code.cUnits,Code.frames,Code.isFrame]
theorem Room.make {k:Nat}{A:Around}(r:Room (k+1) A)(C:Addr)(us:List Value)(kw:List (Str×Value)):Room k (A.under (.builtin "type.__call__" ⟨.ref C::us,kw⟩)) :=
 ⟨r.hd,by have:=r.dp;rw [J73];omega,by have:=r.un;rw [J72];omega⟩
theorem Room.depth {k:Nat}{A:Around}(r:Room k A):A.depth<recursionLimit:=by have:=r.dp;omega
theorem Room.units {k:Nat}{A:Around}(r:Room k A):A.units+64<cLine:=by have:=r.un;omega
def J8U:TA:=fun _ H Q=>Q [] H
def J3u (ta:TE)(tr:TA):TA:=fun σ H Q=>ta σ H fun x H1=>tr σ H1 fun xs H2=>Q (x::xs) H2
section
variable {X:Cx}{e:Expr}{es:List Expr}{te:TE}{t:TA}{pos:Pos}
theorem Ja:PA X [] J8U:=fun _ _ _ _ H Q I h=>Calls.spliced_nil ⟨[],H,I,.nil,h⟩
theorem Jbb (ha:PE X e te)(hr:PA X es t)(hs:starEach (e::es) X.env=(false,eval e X.env)::starEach es X.env:=by rfl):PA X (e::es) (J3u te t):=by
 intro pos pins s σ H Q I h
 rw [hs]
 show wpAny _ _ (spliced ((false,eval e X.env)::backTo pos (starEach es X.env))) _ _ s
 refine Calls.spliced_cons (thn (ha pins s σ H _ I h) fun u s1 ⟨x,H1,I1,r1,q1⟩=>?_)
 exact thn (hr pos pins s1 σ H1 _ I1 q1) fun us s2 ⟨xs,H2,I2,r2,q2⟩=>⟨x::xs,H2,I2,.cons r1 r2,q2⟩
def JaD (t:TA):TE:=fun σ H Q=>t σ H fun xs H1=>xs.length≤sizeLine∧∀ p,H1 p=none→Q (.ref p) (upd H1 p (.tup xs))
def J8X (t:TA):TE:=fun σ H Q=>t σ H fun xs H1=>xs.length≤sizeLine∧∀ p,H1 p=none→Q (.ref p) (upd H1 p (.lst xs))
theorem J0n {x1}(h:PA X es t):PE X (.Tuple es x1 pos) (JaD t):=by
 intro pins s σ H Q I hq
 refine wpAny_Tuple_spliced (thn (h pos pins s σ H _ I hq) fun us s1 ⟨xs,H1,I1,r,z,q⟩=>⟨by rw [← r.length];exact z,?_⟩)
 have hf:H1 s1.heap.objs.size=none:=I1.hok.fresh (Nat.le_refl _)
 refine ⟨.ref s1.heap.objs.size,upd H1 s1.heap.objs.size (.tup xs),I1.laid (t':=s1.toks) (fun b u e=>Heap.get?_push_of_some _ e) (Nat.le_refl _) ?_,rfl,q _ hf⟩
 exact ⟨z,us,r,⟨_,Heap.get?_push_size _ rfl,rfl,_,rfl⟩⟩
theorem J0c (h:PA X es t):PE X (.List es pos) (J8X t):=by
 intro pins s σ H Q I hq
 refine wpAny_List_spliced (thn (h pos pins s σ H _ I hq) fun us s1 ⟨xs,H1,I1,r,z,q⟩=>⟨by rw [← r.length];exact z,?_⟩)
 have hf:H1 s1.heap.objs.size=none:=I1.hok.fresh (Nat.le_refl _)
 refine ⟨.ref s1.heap.objs.size,upd H1 s1.heap.objs.size (.lst xs),I1.laid (t':=s1.toks) (fun b u e=>Heap.get?_push_of_some _ e) (Nat.le_refl _) ?_,rfl,q _ hf⟩
 exact ⟨z,us,0,r,Heap.get?_push_size _ rfl⟩
end
abbrev Sp:=List V→Hp→VK→XK→Prop
abbrev CXT:=List Env→Hp→Shared→XK→Value→Shared→Prop
structure Env0 (P:Program)(w:World)(K:PySem.W.Frag)(mg:Str→Option Value)(base:Heap)(A:Around)(outer:List Env)(s:Shared)(H:Hp):Prop where
 frames:A.frames=some outer
 mod:Mod K mg base
 bs:∀ b o,base.get? b=some o→s.heap.get? b=some o∧H b=none
 bsz:base.objs.size≤s.heap.objs.size
 funs:s.heap.FunFrames base outer
 frf:∀ b∈frs outer,H b=none
 hok:HOk P w H s.heap
 bare:AllBare s.gens
def CE (outer:List Env)(P:Program)(w:World)(H:Hp)(s:Shared)(Q:VK)(u:Value)(s':Shared):Prop :=
 ∃ v H',s'.os=s.os∧AllBare s'.gens∧Un (frs outer) [] H H' s.heap s'.heap∧HOk P w H' s'.heap∧RelV v u∧Q v H'
def CR (CX:CXT)(outer:List Env)(P:Program)(w:World)(H:Hp)(s:Shared)(Q:VK)(E:XK)(r:Result)(s':Shared):Prop :=
 match r with
 | .ok (.ret u)=>CE outer P w H s Q u s'
 | .ok _=>False
 | .error e=>CX outer H s E e s'
structure FnOk (P:Program)(w:World)(K:PySem.W.Frag)(mg:Str→Option Value)(base:Heap)(CX:CXT)(k:Nat)(f:Addr)(fd:FuncData)(ps:List Str)(sp:Sp):Prop where
 len:∀ vs H Q E,sp vs H Q E→vs.length=ps.length
 run:∀ (A:Around) (outer:List Env) (s:Shared) (H:Hp) (args:Args) (us:List Value) (vs:List V) (Q:VK) (E:XK),Room k A→Env0 P w K mg base A outer s H→BindsTo s fd args (ps.zip us)→Vals vs us→sp vs H Q E →
  codeAny (model P w) A (.call (.ref f) args) (CR CX outer P w H s Q E) s
theorem Env0.make {P:Program}{w:World}{K:PySem.W.Frag}{mg:Str→Option Value}{base:Heap}{A:Around}{outer:List Env}{s:Shared}{H:Hp}(e:Env0 P w K mg base A outer s H)(C:Addr)(us:List Value)(kw:List (Str×Value)) :
 Env0 P w K mg base (A.under (.builtin "type.__call__" ⟨.ref C::us,kw⟩)) outer s H:=⟨by first | exact e.frames | (simpa [Around.under,Code.envs,Code.isFrame,pushEnvs] using e.frames),e.mod,e.bs,e.bsz,e.funs,e.frf,e.hok,e.bare⟩
theorem Env0.in1 {P:Program}{w:World}{K:PySem.W.Frag}{mg:Str→Option Value}{base:Heap}{A:Around}{outer:List Env}{s:Shared}{H:Hp}(e:Env0 P w K mg base A outer s H) :
 Env0 P w K mg base A.in1 outer s H:=⟨e.frames,e.mod,e.bs,e.bsz,e.funs,e.frf,e.hok,e.bare⟩
section
variable {X:Cx}{pins:List (Addr×Obj)}{σ:St}{H:Hp}{s s':Shared}
theorem Inv.env0 (I:Inv X pins σ H s):Env0 X.prog X.w X.K X.mg X.base X.A X.stack s H :=
 ⟨I.ok.frames,I.ok.mod,I.bs,Nat.le_trans I.ok.bsz I.sz,I.stack,I.stkFree,I.hok,I.bare⟩
theorem Inv.after {Q:VK}{u:Value}(I:Inv X pins σ H s)(h:CE X.stack X.prog X.w H s Q u s'):EP X pins σ Q u s':=by
 obtain ⟨v,H',os,bare,un,hok,r,q⟩:=h
 obtain ⟨hh,g,d,t,os'⟩:=s'
 obtain rfl:os'=s.os:=os
 exact ⟨v,H',I.call (h':=hh) (g':=g) (d':=d) (t':=t) (ch:=[]) un hok bare (fun b z=>absurd z (by simp)),r,q⟩
end
def J5w (sp:Sp)(dvs:List V)(E:XK)(t:TA):TE:=fun σ H Q=>t σ H fun vs H1=>sp (vs++dvs) H1 Q E
def J8V (C:Addr)(m:Str)(sp:Sp)(dvs:List V)(E:XK)(ta:TE)(t:TA):TE:=fun σ H Q=>ta σ H fun x H1=>∃ a dx fs,x=.ref a∧H1 a=some (.ins C dx fs)∧fs.lookup m=none ∧
 t σ H1 fun vs H2=>sp (x::(vs++dvs)) H2 Q E
def J8W (C:Addr)(sp:Sp)(dvs:List V)(E:XK)(t:TA):TE:=fun σ H Q=>t σ H fun vs H1=>∀ x dx,H1 x=none→H1 dx=none→dx≠x →
 sp (.ref x::(vs++dvs)) (upd (upd H1 dx (.own x)) x (.ins C dx [])) (fun v H2=>v=.non∧Q (.ref x) H2) E
def Binds (K:PySem.W.Frag)(fd:FuncData)(ps:List Str)(ds:List Value):Prop :=
 ∀ (s:Shared) (us:List Value),K.In s.heap→(us++ds).length=ps.length→BindsTo s fd ⟨us,[]⟩ (ps.zip (us++ds))
theorem Binds.all {K:PySem.W.Frag}{fd:FuncData}{ps:List Str}(h:∀ us:List Value,us.length=ps.length→bindArgs fd ⟨us,[]⟩=pure (ps.zip us)):Binds K fd ps []:=fun s us _ hl=>by
 rw [List.append_nil] at hl ⊢
 exact .of_eq (h us hl)
def J3Y (CX:CXT)(X:Cx)(E:XK):Prop:=∀ (pins:List (Addr×Obj)) (σ:St) (H:Hp) (s:Shared) (e:Value) (s':Shared),Inv X pins σ H s→CX X.stack H s E e s'→X.xe e s'
section
variable {X:Cx}{CX:CXT}{k:Nat}{f C:Addr}{fd:FuncData}{ps:List Str}{sp:Sp}{dvs:List V}{ds:List Value}{E:XK}{x m:Str}{p pos apos:Pos}{e o:Expr}{es:List Expr}{ta:TE}{t:TA}
theorem Jc3 {pins:List (Addr×Obj)}{σ:St}{H:Hp}{s:Shared}{Q:VK}{us:List Value}{vs:List V}(F:FnOk X.prog X.w X.K X.mg X.base CX k f fd ps sp)(hr:Room k X.A)(hb:Binds X.K fd ps ds)(hd:Vals dvs ds)(hx:J3Y CX X E)
 (I:Inv X pins σ H s) (r:Vals vs us) (h:sp (vs++dvs) H Q E):wpAny (model X.prog X.w) X.A (call (.ref f) us) (EP X pins σ Q) X.xe s:=by
 have r2:Vals (vs++dvs) (us++ds):=r.append hd
 have hl:(us++ds).length=ps.length:=by rw [← r2.length];exact F.len _ _ _ _ h
 refine wpAny_call (codeAny_mono (F.run X.A X.stack s H ⟨us,[]⟩ (us++ds) (vs++dvs) Q E hr I.env0 (hb s us I.kIn hl) r2 h) fun r s' hq=>?_)
 cases r with
 | error e=>exact hx pins σ H s e s' I hq
 | ok fl =>
   cases fl with
   | ret u=>exact I.after hq
   | next=>exact False.elim hq
   | brk=>exact False.elim hq
   | cont=>exact False.elim hq
theorem Jb9 (F:FnOk X.prog X.w X.K X.mg X.base CX k f fd ps sp)(hr:Room k X.A)(hg:Gl X x)(hm:X.mg x=some (.ref f))(hk:PySem.W.keepIn X.K (.ref f)=true)(hb:Binds X.K fd ps ds)(hd:Vals dvs ds)(hx:J3Y CX X E)
 (ha:PA X (e::es) t) (hdb:(x == ("__debug__":Str))=false:=by decide) (he:starEach (e::es) X.env=(false,eval e X.env)::starEach es X.env:=by rfl) (hpl:(backTo pos (starEach es X.env)).any (·.1)=false:=by rfl) :
 PE X (.Call (.Name x p) (e::es) [] pos) (J5w sp dvs E t):=by
 intro pins s σ H Q I h
 refine wpAny_Call_Name_kw (J27 I hg hm ?_ hdb)
 refine PySem.W.callWith_K (h₀:=X.base) I.ok.mod.kin hk (thn (ha pos pins s σ H _ I h) fun us s1 ⟨vs,H1,I1,r,q⟩=>⟨I1.kIn,?_⟩) he hpl
 exact Jc3 F hr hb hd hx I1 r q
structure Mk (K:PySem.W.Frag)(C f:Addr):Prop where
 makes:PySem.W.makesIn K C=true
 init:PySem.W.findIn K (.ref C) "__init__"=some (some (.ref f))
 fn:PySem.W.isFn K (.ref f)=true
 kp:PySem.W.keepIn K (.ref C)=true
theorem J97 {pins:List (Addr×Obj)}{σ:St}{H:Hp}{s:Shared}{Q:VK}{us:List Value}{vs:List V}(M:Mk X.K C f)(F:FnOk X.prog X.w X.K X.mg X.base CX k f fd ps sp)(hr:Room (k+1) X.A)(hb:Binds X.K fd ps ds)(hd:Vals dvs ds)
 (hx:J3Y CX X E) (I:Inv X pins σ H s) (r:Vals vs us)
 (h:∀ x dx,H x=none→H dx=none→dx≠x→sp (.ref x::(vs++dvs)) (upd (upd H dx (.own x)) x (.ins C dx [])) (fun v H2=>v=.non∧Q (.ref x) H2) E) :
 wpAny (model X.prog X.w) X.A (call (.ref C) us) (EP X pins σ Q) X.xe s:=by
 have hq:=h (s.heap.objs.size+1) s.heap.objs.size (I.hok.fresh (Nat.le_succ _)) (I.hok.fresh (Nat.le_refl _)) (Nat.ne_of_lt (Nat.lt_succ_self _))
 have I2:=Inv.made (C:=C) I
 have r2:Vals (V.ref (s.heap.objs.size+1)::(vs++dvs)) (Value.ref (s.heap.objs.size+1)::(us++ds)):=.cons rfl (r.append hd)
 have hl:(Value.ref (s.heap.objs.size+1)::us++ds).length=ps.length:=by
  have e:=r2.length
  rw [F.len _ _ _ _ hq] at e
  exact e.symm
 refine wpAny_call (J9P (f:=f) I.kIn M.makes M.init (beq_iff_eq.mp M.fn) (codeAny_mono (F.run _ X.stack _ _ ⟨Value.ref (s.heap.objs.size+1)::us,[]⟩ (Value.ref (s.heap.objs.size+1)::(us++ds)) _ _ E (hr.make C us [])
  (I2.env0.make C us []) (hb _ (Value.ref (s.heap.objs.size+1)::us) I2.kIn hl) r2 hq) fun r s' hq'=>?_))
 cases r with
 | error e=>exact hx pins σ _ _ e s' I2 hq'
 | ok fl =>
   cases fl with
   | ret u =>
     obtain ⟨v,H',I3,rv,ev,q3⟩:=I2.after hq'
     subst ev
     exact ⟨rv,⟨V.ref (s.heap.objs.size+1),H',I3,rfl,q3⟩⟩
   | next=>exact False.elim hq'
   | brk=>exact False.elim hq'
   | cont=>exact False.elim hq'
theorem Jb8 (M:Mk X.K C f)(F:FnOk X.prog X.w X.K X.mg X.base CX k f fd ps sp)(hr:Room (k+1) X.A)(hg:Gl X x)(hm:X.mg x=some (.ref C))(hb:Binds X.K fd ps ds)(hd:Vals dvs ds)(hx:J3Y CX X E)
 (ha:PA X (e::es) t) (hdb:(x == ("__debug__":Str))=false:=by decide) (he:starEach (e::es) X.env=(false,eval e X.env)::starEach es X.env:=by rfl) (hpl:(backTo pos (starEach es X.env)).any (·.1)=false:=by rfl) :
 PE X (.Call (.Name x p) (e::es) [] pos) (J8W C sp dvs E t):=by
 intro pins s σ H Q I h
 refine wpAny_Call_Name_kw (J27 I hg hm ?_ hdb)
 refine PySem.W.callWith_K (h₀:=X.base) I.ok.mod.kin M.kp (thn (ha pos pins s σ H _ I h) fun us s1 ⟨vs,H1,I1,r,q⟩=>⟨I1.kIn,?_⟩) he hpl
 exact J97 M F hr hb hd hx I1 r q
end
def PK (X:Cx)(kws:List Keyword)(t:TA):Prop :=
 ∀ (pos:Pos) (pins:List (Addr×Obj)) (s:Shared) (σ:St) (H:Hp) (Q:List V→Hp→Prop),Inv X pins σ H s→t σ H Q→wpAny (model X.prog X.w) X.A (evalAll ((backToKw pos (keywordEach kws X.env)).map (·.2))) (AP X pins σ Q) X.xe s
section
variable {X:Cx}{CX:CXT}{k:Nat}{f C:Addr}{fd:FuncData}{ps ks:List Str}{sp:Sp}{E:XK}{x m:Str}{p pos apos kpos:Pos}{e o:Expr}{es:List Expr}{kws:List Keyword}{te ta:TE}{t tk:TA}{nm:Option Str}
theorem J6Q:PK X [] J8U:=fun _ _ _ _ H Q I h=>wpAny_evalAll_nil ⟨[],H,I,.nil,h⟩
theorem J54 (ha:PE X e te)(hr:PK X kws t):PK X (⟨nm,e,kpos⟩::kws) (J3u te t):=by
 intro pos pins s σ H Q I h
 show wpAny _ _ (evalAll ((do let v ← eval e X.env;standAt pos;pure v)::(backToKw pos (keywordEach kws X.env)).map (·.2))) _ _ s
 refine wpAny_evalAll_cons (wpAny_bind (thn (ha pins s σ H _ I h) fun u s1 ⟨x,H1,I1,r1,q1⟩=>wpAny_bind (wpAny_standAt (wpAny_pure ?_))))
 exact thn (hr pos pins s1 σ H1 _ I1 q1) fun us s2 ⟨xs,H2,I2,r2,q2⟩=>⟨x::xs,H2,I2,.cons r1 r2,q2⟩
variable {g:List Value→List Value→List Value}{gV:List V→List V→List V}
end
structure FnScope (N P:List Str)(sc:Scope):Prop where
 kind:sc.kind=.function
 co:sc.isCoroutine=false
 gen:sc.isGenerator=false
 nd:N.Nodup
 pre:N.take P.length=P
 par:∀ x∈P,sc.names.lookup x=some .local∨sc.names.lookup x=some .cell
 nofree:∀ y∈sc.names,y.2≠.free
theorem J4p {kindOf:Str→Option NameKind}{x:Str}:∀ {binds:List (Str×Value)} {m:Str→Option Value},(∀ v,(x,v)∉binds)→bindL kindOf binds m x=m x
 | [],_,_=>rfl
 | (n,v)::r,m,h=>by
   unfold bindL
   rw [J4p fun w hw=>h w (List.mem_cons_of_mem _ hw)]
   split
   ·have:x≠n:=by rintro rfl;exact h v List.mem_cons_self
    simp [this]
   ·rfl
theorem J4r {kindOf:Str→Option NameKind}{x:Str}:∀ {binds:List (Str×Value)} {m:Str→Option Value},(∀ v,(x,v)∉binds)→bindC kindOf binds m x=m x
 | [],_,_=>rfl
 | (n,v)::r,m,h=>by
   unfold bindC
   rw [J4r fun w hw=>h w (List.mem_cons_of_mem _ hw)]
   split
   ·rfl
   ·have:x≠n:=by rintro rfl;exact h v List.mem_cons_self
    simp [this]
theorem J4q {kindOf:Str→Option NameKind}{x:Str}{v:Value}:∀ {P:List Str} {vs:List Value} {i:Nat} {m:Str→Option Value},P.Nodup→P[i]?=some x→vs[i]?=some v→kindOf x=some .local →
 bindL kindOf (P.zip vs) m x=some v
 | [],_,_,_,_,h,_,_=>by simp at h
 | _::_,[],_,_,_,_,h,_=>by simp at h
 | p::P,w::vs,0,m,nd,h1,h2,hk=>by
   simp at h1 h2;subst h1;subst h2
   show bindL kindOf ((p,w)::P.zip vs) m p=_
   unfold bindL
   rw [J4p fun v hv=>(List.nodup_cons.mp nd).1 (List.of_mem_zip hv).1,if_pos hk]
   simp
 | p::P,w::vs,i+1,m,nd,h1,h2,hk=>by
   show bindL kindOf ((p,w)::P.zip vs) m x=_
   unfold bindL
   exact J4q (i:=i) (List.nodup_cons.mp nd).2 (by simpa using h1) (by simpa using h2) hk
theorem J4s {kindOf:Str→Option NameKind}{x:Str}{v:Value}:∀ {P:List Str} {vs:List Value} {i:Nat} {m:Str→Option Value},P.Nodup→P[i]?=some x→vs[i]?=some v→kindOf x≠some .local →
 bindC kindOf (P.zip vs) m x=some v
 | [],_,_,_,_,h,_,_=>by simp at h
 | _::_,[],_,_,_,_,h,_=>by simp at h
 | p::P,w::vs,0,m,nd,h1,h2,hk=>by
   simp at h1 h2;subst h1;subst h2
   show bindC kindOf ((p,w)::P.zip vs) m p=_
   unfold bindC
   rw [J4r fun v hv=>(List.nodup_cons.mp nd).1 (List.of_mem_zip hv).1,if_neg hk]
   simp
 | p::P,w::vs,i+1,m,nd,h1,h2,hk=>by
   show bindC kindOf ((p,w)::P.zip vs) m x=_
   unfold bindC
   exact J4s (i:=i) (List.nodup_cons.mp nd).2 (by simpa using h1) (by simpa using h2) hk
noncomputable def start (N:List Str)(vs:List V):St:=vs.map some++List.replicate (N.length - vs.length) none
noncomputable def J30 (CX:CXT)(P:Program)(w:World)(K:PySem.W.Frag)(mg:Str→Option Value)(base:Heap)(N:List Str)(qual:Str)(scope:Scope)(f:Addr)(cd:Value)(A:Around)(outer:List Env)(s:Shared)(H:Hp)(E:XK):Cx where
 prog:=P
 w:=w
 K:=K
 mg:=mg
 base:=base
 A:=A.deeper (envOfC qual scope s.heap.objs.size f cd)
 N:=N
 s₀:=s
 H₀:=H
 env:=envOfC qual scope s.heap.objs.size f cd
 outer:=outer
 stack:=envOfC qual scope s.heap.objs.size f cd::outer
 ex:=[]
 calm:=true
 fn:=fun _=>true
 pn:=[]
 xe:=fun e s'=>wpAny (model P w) (A.deeper (envOfC qual scope s.heap.objs.size f cd)) (leaving (envOfC qual scope s.heap.objs.size f cd) e) (fun _ s''=>CX outer H s E e s'') (fun e' s''=>CX outer H s E e' s'') s'
theorem J6l {sc:Scope}{n:Nat}{x:Str}(h:sc.names.lookup x=some .cell):∃ c,(cellsFrom n sc.names []).lookup x=some c:=by
 have q:=PySem.W.cellsFrom_some sc.names n [] (.inl h)
 exact Option.isSome_iff_exists.mp q
theorem inv_start {CX:CXT}{P:Program}{w:World}{K:PySem.W.Frag}{mg:Str→Option Value}{base:Heap}{N ps:List Str}{qual:Str}{scope:Scope}{f:Addr}{cd:Value}{A:Around}{outer:List Env}{s s1:Shared}{H:Hp}{E:XK}{us:List Value}{vs:List V}
 (S:FnScope N ps scope) (hd:A.handled=none) (e0:Env0 P w K mg base A outer s H) (hl:vs.length=ps.length) (r:Vals vs us)
 (x:InCallC s s.heap.objs.size (bindL (envOfC qual scope s.heap.objs.size f cd).kindOf (ps.zip us) fun _=>none) (cellsFrom (s.heap.objs.size+1) scope.names []) (bindC (envOfC qual scope s.heap.objs.size f cd).kindOf (ps.zip us) fun _=>none) s1) :
 Inv (J30 CX P w K mg base N qual scope f cd A outer s H E) [] (start N vs) H s1:=by
 have hpl:ps.length≤N.length:=by have:=congrArg List.length S.pre;rw [List.length_take] at this;omega
 obtain ⟨h1,tk,rfl,hk⟩:=x.done
 have noA:∀ b:Addr,b∉(J30 CX P w K mg base N qual scope f cd A outer s H E).ex:=fun b z=>absurd (show b∈([]:List Addr) from z) (by simp)
 refine ⟨⟨e0.mod,S.kind,rfl,rfl,Nat.le_refl _,fun y z c h1 h2=>?_,fun y hy=>?_,fun y c _ h=>?_,fun _=>hd,Around.frames_deeper e0.frames,.inr ⟨rfl,rfl⟩,fun b z=>absurd z (noA b),e0.bs,e0.bsz,fun b _ _=>noA b,fun b z=>absurd z (noA b),e0.funs,e0.frf⟩,
  rfl,e0.bare,Un.kept hk,⟨_,x.toInCall.ns,fun i y v h1 h2 h3=>?_⟩,fun y c h=>⟨_,x.cell y c h⟩,e0.hok.fresh (Nat.le_refl _),fun y c h=>?_,fun p hp=>absurd (show p∈([]:List (Addr×Obj)) from hp) (by simp),e0.hok.kept hk,?_⟩
 ·exact name_of_addr x.apart (PySem.mem_of_lookup h1) (PySem.mem_of_lookup h2)
 ·have hy:scope.names.lookup y=some .cell∨scope.names.lookup y=some .free:=hy
  rcases hy with hy | hy
  ·exact J6l hy
  ·exact absurd rfl (S.nofree _ (PySem.mem_of_lookup hy))
 ·exact Nat.le_of_lt (x.above y c (PySem.mem_of_lookup h))
 ·have hi:i<vs.length:=by
   unfold start at h2
   by_cases hi:i<vs.length
   ·exact hi
   ·rw [List.getElem?_append_right (by simpa using hi)] at h2
    rw [List.getElem?_replicate] at h2
    split at h2<;>cases h2
  have ha:vs[i]?=some v:=by
   unfold start at h2
   rw [List.getElem?_append_left (by simpa using hi),List.getElem?_map] at h2
   cases e:vs[i]? with
   | none=>rw [e] at h2;cases h2
   | some a=>rw [e] at h2;cases h2;rfl
  obtain ⟨u,hu,rv⟩:=r.get ha
  have hp:ps[i]?=some y:=by
   rw [← S.pre,List.getElem?_take_of_lt (by omega)];exact h1
  have ndP:ps.Nodup:=by rw [← S.pre];exact S.nd.sublist (List.take_sublist _ _)
  refine ⟨u,rv,?_⟩
  rcases S.par y (List.mem_of_getElem? hp) with k | k
  ·exact .inl ⟨k,J4q ndP hp hu k⟩
  ·obtain ⟨c,e⟩:=J6l (n:=s.heap.objs.size+1) k
   refine .inr ⟨.inl k,c,e,?_⟩
   have q:=x.cell y c e
   rw [J4s ndP hp hu (by show scope.names.lookup y≠_;rw [k];decide)] at q
   exact q
 ·exact e0.hok.fresh (Nat.le_of_lt (x.above y c (PySem.mem_of_lookup h)))
 ·unfold start
  show _=N.length
  rw [List.length_append,List.length_map,List.length_replicate]
  omega
theorem JbM {CX:CXT}{P:Program}{w:World}{K:PySem.W.Frag}{mg:Str→Option Value}{base:Heap}{k:Nat}{f:Addr}{name qual:Str}{params:Arguments}{body:List Stmt}{scope:Scope}{dV kV doc pm cdv ct oc:Value}{an od:Option Addr}
 {osl:Array (Option Value)} {N ps:List Str} {sp:Sp} (lk:K.lookup f=some ⟨oc,od,.func (PySem.W.fnOf name qual params body scope dV kV doc pm an cdv ct),osl⟩) (hcd:PySem.W.codeIn K cdv qual=true) (S:FnScope N ps scope)
 (len:∀ vs H Q E,sp vs H Q E→vs.length=ps.length)
 (hbody:∀ (A:Around) (outer:List Env) (s:Shared) (H:Hp) (vs:List V) (Q:VK) (E:XK),Room k (A.deeper (envOfC qual scope s.heap.objs.size f cdv))→sp vs H Q E →
  ∃ t,PSs (J30 CX P w K mg base N qual scope f cdv A outer s H E) body t∧t { nx:=fun _ H'=>Q .non H',rt:=Q } (start N vs) H) :
 FnOk P w K mg base CX (k+1) f (PySem.W.fnOf name qual params body scope dV kV doc pm an cdv ct) ps sp:=by
 refine ⟨len,fun A outer s H args us vs Q E hr e0 hb r hsp=>?_⟩
 have hl:=len _ _ _ _ hsp
 have KX:K.In s.heap:=e0.mod.kin.keeps fun b o e=>(e0.bs b o e).1
 have lim:s.heap.NoLimit:=e0.mod.nolimit.keeps fun b o e=>(e0.bs b o e).1
 have hkind:∀ y∈ps.zip us,scope.names.lookup y.1=some .local∨(scope.names.lookup y.1=some .cell∧((cellsFrom (s.heap.objs.size+1) scope.names []).lookup y.1).isSome=true):=fun ⟨n,v⟩ hy=>by
  rcases S.par n (List.of_mem_zip hy).1 with q | q
  ·exact .inl q
  ·exact .inr ⟨q,PySem.W.cellsFrom_some _ _ _ (.inl q)⟩
 refine codeAny_call_function hr.depth (KX _ _ lk) rfl S.co S.gen rfl (PySem.W.codeRec_of KX hcd) (hb _ _ _ _ ?_)
 refine wpAny_newFunctionEnv_cells S.kind hkind fun env he s1 x=>?_
 subst he
 refine ⟨lim.keeps x.toInCall.keep,codeAny_func ?_⟩
 obtain ⟨t,ht,hq⟩:=hbody A outer s H vs Q E (hr.deeper _) hsp
 have I:Inv (J30 CX P w K mg base N qual scope f cdv A outer s H E) [] (start N vs) H s1:=inv_start S hr.hd e0 hl r x
 refine wpAny_mono (ht [] s1 (start N vs) H _ I hq) (fun fl s' hs=>?_) fun e s' hs=>hs
 have fin:∀ {σ':St} {H':Hp} {v:V} {u:Value},Inv (J30 CX P w K mg base N qual scope f cdv A outer s H E) [] σ' H' s'→RelV v u→Q v H'→CE outer P w H s Q u s' :=
  fun {σ' H' v u} J rv q=>⟨v,H',J.os,J.bare,J.base,J.hok,rv,q⟩
 cases fl with
 | ret u =>
   obtain ⟨v,σ',H',J,rv,q⟩:=hs
   exact fin J rv q
 | next =>
   obtain ⟨σ',H',J,q⟩:=hs
   exact fin (v:=V.non) (u:=Value.none) J rfl q
 | brk =>
   obtain ⟨_,_,_,q⟩:=hs
   exact False.elim q
 | cont =>
   obtain ⟨_,_,_,q⟩:=hs
   exact False.elim q
section
variable {X:Cx}{x:Str}{p pos:Pos}{e:Expr}{es:List Expr}{t:TA}{id T:String}{r:List V→Hp→VK→Prop}
def tCB (r:List V→Hp→VK→Prop)(t:TA):TE:=fun σ H Q=>t σ H fun vs H1=>r vs H1 Q
theorem J9D (hc:J0e X (.builtin id) r)(hg:Gl X x)(hm:X.mg x=none)(hv:bootBuiltins x=some (.builtin id))(ha:PA X (e::es) t)(hn:x≠"__name__":=by decide)(hdb:(x == ("__debug__":Str))=false:=by decide)
 (he:starEach (e::es) X.env=(false,eval e X.env)::starEach es X.env:=by rfl) (hpl:(backTo pos (starEach es X.env)).any (·.1)=false:=by rfl):PE X (.Call (.Name x p) (e::es) [] pos) (tCB r t):=by
 intro pins s σ H Q I h
 refine wpAny_Call_Name_kw (J1P I hg hm hv ?_ hn hdb)
 exact PyProof.Rows.callWith_builtin1 (thn (ha pos pins s σ H _ I h) fun us s1 ⟨vs,H1,I1,r1,q1⟩=>hc pins s1 σ H1 vs us Q I1 r1 q1) he hpl
theorem J8d (hc:J0e X (.type T) r)(hg:Gl X x)(hm:X.mg x=none)(hv:bootBuiltins x=some (.type T))(ha:PA X (e::es) t)(hn:x≠"__name__":=by decide)(hdb:(x == ("__debug__":Str))=false:=by decide)
 (he:starEach (e::es) X.env=(false,eval e X.env)::starEach es X.env:=by rfl) (hpl:(backTo pos (starEach es X.env)).any (·.1)=false:=by rfl):PE X (.Call (.Name x p) (e::es) [] pos) (tCB r t):=by
 intro pins s σ H Q I h
 refine wpAny_Call_Name_kw (J1P I hg hm hv ?_ hn hdb)
 exact PyProof.Rows.callWith_type1 (thn (ha pos pins s σ H _ I h) fun us s1 ⟨vs,H1,I1,r1,q1⟩=>hc pins s1 σ H1 vs us Q I1 r1 q1) he hpl
end
end L2
namespace HT
open PySem PyProof.Rows
theorem rcLt_int (A:Around)(s:Shared)(a:Int)(t:Tok)(c:Int)(u:Tok)(prog:Program)(w:World)(E:Value→Shared→Prop)(Q:Value→Shared→Prop)(h:Q (.bool (decide (a<c))) s) :
 wpAny (model prog w) A (richCompare .Lt (.int a t) (.int c u)) Q E s :=
 (PyProof.Rows.lt_int h:wpAny (model prog w) A (compareOp .Lt (.int a t) (.int c u)) Q E s)
section
open PySem.SeqAt
open PySem.AutoSeq1 (wpAny_loadPart')
open PySem.MeetsSeq PySem.MeetsSeq2 PySem.MeetsSeq3
end
section
variable {prog:Program}{w:World}{A:Around}{E:Value→Shared→Prop}{s:Shared}
noncomputable def sIx (n d:Nat):Option Int→Nat
 | none=>d
 | some v=>if v<0 then (v+(n:Int)).toNat else min v.toNat n
theorem sIx_none (n d:Nat):sIx n d none=d:=rfl
theorem sIx_nat (n d k:Nat):sIx n d (some (k:Int))=min k n:=by
 show (if (k:Int)<0 then ((k:Int)+(n:Int)).toNat else min (k:Int).toNat n)=min k n
 rw [if_neg (by omega),Int.toNat_natCast]
theorem sIx_le (n d:Nat)(hd:d≤n)(o:Option Int):sIx n d o≤n:=by
 cases o with
 | none=>exact hd
 | some v =>
   show (if v<0 then (v+(n:Int)).toNat else min v.toNat n)≤n
   by_cases hv:v<0
   ·rw [if_pos hv];omega
   ·rw [if_neg hv];exact Nat.min_le_right _ _
theorem J7U (v:Int)(n d:Nat):(if v<0 then max (v+(n:Int)) 0 else min v (n:Int))=((sIx n d (some v):Nat):Int):=by
 show (if v<0 then max (v+(n:Int)) 0 else min v (n:Int))=(((if v<0 then (v+(n:Int)).toNat else min v.toNat n):Nat):Int)
 by_cases hv:v<0
 ·simp only [if_pos hv];omega
 ·simp only [if_neg hv];omega
theorem J7l (lo hi:Option Int)(n:Nat):Builtin.Slice.sliceAdjust lo hi 1 (n:Int)=(((sIx n 0 lo:Nat):Int),((sIx n n hi:Nat):Int)):=by
 have h1:¬ ((1:Int)<0):=by omega
 unfold Builtin.Slice.sliceAdjust
 simp only [h1,if_false]
 refine Prod.ext ?_ ?_
 ·cases lo with
  | none=>rfl
  | some v=>exact J7U v n 0
 ·cases hi with
  | none=>rfl
  | some v=>exact J7U v n n
theorem J6P (i j:Nat):Builtin.Slice.slicePlaces (i:Int) (j:Int) 1=j - i:=by
 unfold Builtin.Slice.slicePlaces
 have h1:(1:Int) > 0:=by omega
 simp only [h1,if_true,Int.ediv_one]
 split<;>omega
theorem J3z {v:Value}{o:Option Int}{Q:Option Int→Shared→Prop}(p:IsPart v o)(h:Q o s):wpAny (model prog w) A (Builtin.Slice.slicePartIndex v) Q E s:=by
 cases p with
 | none=>exact slicePart_none h
 | int i t=>exact slicePart_int h
theorem J1z {sl:Addr}{vl vu:Value}{lo hi:Option Int}{n:Nat}{Q:Int×Int×Nat→Shared→Prop}(hs:s.heap.IsSliceOf sl vl vu .none)(pl:IsPart vl lo)(pu:IsPart vu hi)
 (h:Q (((sIx n 0 lo:Nat):Int),1,sIx n n hi - sIx n 0 lo) s):wpAny (model prog w) A (Builtin.Slice.sliceApplied (.ref sl) (pure (n:Int))) Q E s:=by
 obtain ⟨os,hos,hcs,hds⟩:=id hs
 unfold Builtin.Slice.sliceApplied Builtin.Slice.sliceFields
 refine wpAny_bind (wpAny_bind (wpAny_field hos hds (x:=vl) rfl (wpAny_bind (wpAny_field hos hds (x:=vu) rfl (wpAny_bind (wpAny_field hos hds (x:=.none) rfl (wpAny_pure ?_)))))))
 refine wpAny_bind (slicePart_none ?_)
 show wpAny _ _ (if ((1:Int) == 0)=true then _ else _) _ _ s
 rw [if_neg (by decide)]
 refine wpAny_bind (J3z pl (wpAny_bind (J3z pu (wpAny_bind (wpAny_pure ?_)))))
 show wpAny _ _ (match Builtin.Slice.sliceAdjust lo hi 1 (n:Int) with | (lo,hi)=>pure (lo,(1:Int),Builtin.Slice.slicePlaces lo hi 1)) _ _ s
 rw [J7l lo hi n]
 show wpAny _ _ (pure (((sIx n 0 lo:Nat):Int),(1:Int),Builtin.Slice.slicePlaces ((sIx n 0 lo:Nat):Int) ((sIx n n hi:Nat):Int) 1)) _ _ s
 rw [J6P]
 exact wpAny_pure h
theorem J9v (xs:Array Value)(i k:Nat):((List.range k).filterMap fun (m:Nat)=>xs[((i:Int)+(m:Int) * 1).toNat]?).toArray=((xs.toList.drop i).take k).toArray:=by
 have e:(fun (m:Nat)=>xs[((i:Int)+(m:Int) * 1).toNat]?)=fun m=>xs[i+m]?:=by
  funext m
  have:((i:Int)+(m:Int) * 1).toNat=i+m:=by omega
  rw [this]
 rw [e]
 have:=pick_run xs i k
 rw [List.filterMap_map] at this
 have e2:((fun x=>xs[x]?)∘fun x=>i+x)=fun m=>xs[i+m]?:=rfl
 rw [e2] at this
 rw [this]
theorem getItem_tuple_cut {t sl:Addr}{items:Array Value}{vl vu:Value}{lo hi:Option Int}{Q:Value→Shared→Prop}(ht:IsTup s.heap t items)(hs:s.heap.IsSliceOf sl vl vu .none)(pl:IsPart vl lo)(pu:IsPart vu hi)
 (hw:¬ (sIx items.size 0 lo=0∧sIx items.size items.size hi=items.size))
 (h:Q (.ref s.heap.objs.size) { s with heap:=s.heap.push { cls:=.type "tuple",data:=.seq ((items.toList.drop (sIx items.size 0 lo)).take (sIx items.size items.size hi - sIx items.size 0 lo)).toArray } })
 (hsz:items.size≤sizeLine):wpAny (model prog w) A (getItem (.ref t) (.ref sl)) Q E s:=by
 have htake:sizeOk (.seq ((items.toList.drop (sIx items.size 0 lo)).take (sIx items.size items.size hi - sIx items.size 0 lo)).toArray):=by
  show ((items.toList.drop (sIx items.size 0 lo)).take (sIx items.size items.size hi - sIx items.size 0 lo)).toArray.size≤sizeLine
  rw [List.size_toArray,List.length_take,List.length_drop,Array.length_toList]
  omega
 have hj:sIx items.size items.size hi≤items.size:=sIx_le _ _ (Nat.le_refl _) hi
 obtain ⟨os,hos,hcs,hds⟩:=id hs
 have hTs:s.TypeIs (.ref sl) "slice":=⟨os,hos,hcs⟩
 unfold getItem
 try with_reducible refine wpAny_holding ?_
 first | refine wpAny_bind (wpAny_pure ?_) | skip
 refine wpAny_bind (wpAny_sequenceKey ht.typeIs (by decide) ?_)
 refine wpAny_bind (wpAny_callSpecial?_slot (name:=Str.ofString "__getitem__") ht.typeIs PyProof.Rows.slot_tuple_getitem
  (wpAny_call_entry PyProof.Rows.slot_tuple_getitem ht.typeIs entry_tuple_getitem ?_ (args_tuple_getitem _ _)))
 show wpAny _ _ (Builtin.Tuple.tupleItemsOf (.ref t) >>= _) _ _ s
 refine wpAny_bind (tupleItemsOf_ ht ?_)
 refine wpAny_bind (wpAny_typeOf hTs ?_)
 rw [if_pos (by decide)]
 refine wpAny_bind (J1z hs pl pu ?_)
 have hno:¬ ((((sIx items.size 0 lo:Nat):Int) == 0&&(1:Int) == 1&&(sIx items.size items.size hi - sIx items.size 0 lo) == items.size)=true):=by
  intro q
  rw [Bool.and_eq_true,Bool.and_eq_true] at q
  have q1:((sIx items.size 0 lo:Nat):Int)=0:=eq_of_beq q.1.1
  have q2:sIx items.size items.size hi - sIx items.size 0 lo=items.size:=eq_of_beq q.2
  exact hw ⟨by omega,by omega⟩
 show wpAny _ _ (if (((sIx items.size 0 lo:Nat):Int) == 0&&(1:Int) == 1&&(sIx items.size items.size hi - sIx items.size 0 lo) == items.size)=true then _ else _) _ _ s
 rw [if_neg hno,J9v]
 first
  | exact wpAny_bind (m:=Builtin.Tuple.tupleExact _) (wpAny_newObj_type (wpAny_pure ⟨_,rfl,wpAny_pure h⟩) htake)
  | exact wpAny_bind (m:=Builtin.Tuple.tupleExact _) (wpAny_newObj_type (wpAny_bind (wpAny_pure (wpAny_pure ⟨_,rfl,wpAny_pure h⟩))) htake)
  | exact wpAny_bind (wpAny_bind (m:=Builtin.Tuple.tupleExact _) (wpAny_newObj_type (wpAny_pure (wpAny_pure ⟨_,rfl,wpAny_pure h⟩)) htake))
  | exact wpAny_bind (wpAny_bind (m:=Builtin.Tuple.tupleExact _) (wpAny_newObj_type (wpAny_pure ⟨_,rfl,wpAny_pure h⟩) htake))
end
end HT
namespace L2
open PySem PySem.Spec PyProof.Rows
abbrev TO:=St→Hp→(Option Int→Hp→Prop)→Prop
def PO (X:Cx)(e:Option Expr)(t:TO):Prop :=
 ∀ (pins:List (Addr×Obj)) (s:Shared) (σ:St) (H:Hp) (Q:Option Int→Hp→Prop),Inv X pins σ H s→t σ H Q →
   wpAny (model X.prog X.w) X.A (evalPart e X.env) (fun u s'=>∃ o H',Inv X pins σ H' s'∧IsPart u o∧Q o H') X.xe s
def J3k:TO:=fun _ H Q=>Q none H
def J7r (t:TE):TO:=fun σ H Q=>t σ H fun x H1=>∃ i,x=.int i∧Q (some i) H1
section
variable {X:Cx}{e:Expr}{te:TE}{lo hi:Option Expr}{tl th:TO}{pos p2:Pos}
theorem J19:PO X none J3k:=by
 intro pins s σ H Q I h
 rw [evalPart_none]
 exact wpAny_pure ⟨none,H,I,.none,h⟩
theorem J0U (h:PE X e te):PO X (some e) (J7r te):=by
 intro pins s σ H Q I hw
 rw [evalPart_some]
 refine thn (h pins s σ H _ I hw) fun u s1 ⟨x,H1,I1,r1,q1⟩=>?_
 obtain ⟨i,rfl,q⟩:=q1
 obtain ⟨t,rfl⟩:=r1
 exact ⟨some i,H1,I1,.int i t,q⟩
def SlR (X:Cx)(r:V→Option Int→Option Int→Hp→VK→Prop):Prop :=
 ∀ (pins:List (Addr×Obj)) (s:Shared) (σ:St) (H:Hp) (x:V) (v vl vu:Value) (lo hi:Option Int) (sl:Addr) (Q:VK),Inv X pins σ H s→RelV x v→s.heap.IsSliceOf sl vl vu .none→IsPart vl lo→IsPart vu hi→r x lo hi H Q →
   ∃ T id,typeLookup (.type T) "__getitem__"=pure (some (.builtin id))∧s.TypeIs v T∧wpAny (model X.prog X.w) X.A (getItem v (.ref sl)) (EP X pins σ Q) X.xe s
def tSl (r:V→Option Int→Option Int→Hp→VK→Prop)(te:TE)(tl th:TO):TE:=fun σ H Q=>te σ H fun x H1=>tl σ H1 fun l H2=>th σ H2 fun u H3=>r x l u H3 Q
theorem J0G {r:V→Option Int→Option Int→Hp→VK→Prop}(hr:SlR X r)(he:PE X e te)(hl:PO X lo tl)(hu:PO X hi th):PE X (.Subscript e (.Slice lo hi none p2) pos) (tSl r te tl th):=by
 intro pins s σ H Q I h
 refine Subscript_ (thn (he pins s σ H _ I h) fun v s1 ⟨x,H1,I1,r1,q1⟩=>?_)
 refine wpAny_Slice (thn (hl pins s1 σ H1 _ I1 q1) fun vl s2 ⟨l,H2,I2,pl,q2⟩=>thn (hu pins s2 σ H2 _ I2 q2) fun vu s3 ⟨u,H3,I3,pu,q3⟩=>?_)
 rw [evalPart_none]
 refine wpAny_pure ?_
 have I4:Inv X pins σ H3 { s3 with heap:=s3.heap.push { cls:=.type "slice",data:=.fields #[vl,vu,.none] } }:=I3.kept (t':=s3.toks) fun b ob q=>Heap.get?_push_of_some _ q
 obtain ⟨T,id,hT,ht,hg⟩:=hr pins { s3 with heap:=s3.heap.push { cls:=.type "slice",data:=.fields #[vl,vu,.none] } } σ H3 x v vl vu l u s3.heap.objs.size Q I4 r1 (Heap.IsSliceOf.new ..) pl pu q3
 show wpAny (model X.prog X.w) X.A (subscriptTail e (.Slice lo hi none p2) v (.ref s3.heap.objs.size)) (EP X pins σ Q) X.xe { s3 with heap:=s3.heap.push { cls:=.type "slice",data:=.fields #[vl,vu,.none] } }
 exact tail_any (ops:=[.ref s3.heap.objs.size,v]) ht hT hg (by with_unfolding_all rfl)
noncomputable def J0M (xs:List V)(lo hi:Option Int):List V:=(xs.drop (HT.sIx xs.length 0 lo)).take (HT.sIx xs.length xs.length hi - HT.sIx xs.length 0 lo)
theorem J38 (xs:List V)(lo hi:Option Int):(J0M xs lo hi).length≤xs.length:=by
 unfold J0M
 rw [List.length_take,List.length_drop]
 omega
def Jdf (K:PySem.W.Frag):V→Option Int→Option Int→Hp→VK→Prop:=fun x lo hi H Q=>∃ a xs,x=.ref a∧SqT K H a xs ∧
 ¬ (HT.sIx xs.length 0 lo=0∧HT.sIx xs.length xs.length hi=xs.length)∧∀ p,H p=none→Q (.ref p) (upd H p (.tup (J0M xs lo hi)))
theorem Jc1:SlR X (Jdf X.K):=by
 intro pins s σ H x v vl vu lo hi sl Q I rx hs pl pu h
 obtain ⟨a,xs,rfl,hx,hw,q⟩:=h
 cases rx
 obtain ⟨its,r,ht,hz⟩:=I.tuple hx
 have hlen:its.toArray.size=xs.length:=by rw [List.size_toArray];exact r.length.symm
 refine ⟨"tuple",_,PyProof.Rows.slot_tuple_getitem.lookup,ht.typeIs,?_⟩
 refine HT.getItem_tuple_cut ht hs pl pu (by rw [hlen];exact hw) ?_ (by rw [hlen];exact hz)
 rw [hlen]
 refine ⟨.ref s.heap.objs.size,_,I.laid (t':=s.toks) (o:=.tup (J0M xs lo hi)) (fun b ob q=>Heap.get?_push_of_some _ q) (Nat.le_refl _) ?_,rfl,q _ (I.hok.fresh (Nat.le_refl _))⟩
 exact ⟨Nat.le_trans (J38 xs lo hi) hz,_,(r.drop (HT.sIx xs.length 0 lo)).take (HT.sIx xs.length xs.length hi - HT.sIx xs.length 0 lo),IsTup.new _ _⟩
end
noncomputable def ixN (n:Nat)(i:Int):Option Nat:=if 0≤i then (if i<n then some i.toNat else none) else if -(n:Int)≤i then some (i+n).toNat else none
noncomputable def atI {α:Type}(xs:List α)(i:Int):Option α:=(ixN xs.length i).bind fun j=>xs[j]?
theorem J7O {n:Nat}{i:Int}{j:Nat}(h:ixN n i=some j):seqIndex? i n=some j∧j<n∧-(n:Int)≤i∧i<n:=by
 unfold ixN at h
 by_cases h0:0≤i
 ·rw [if_pos h0] at h
  by_cases h1:i<n
  ·rw [if_pos h1] at h
   have e:i.toNat=j:=Option.some.inj h
   exact ⟨by rw [seqIndex_of h0 h1,e],by omega,by omega,h1⟩
  ·rw [if_neg h1] at h;cases h
 ·rw [if_neg h0] at h
  by_cases h1:-(n:Int)≤i
  ·rw [if_pos h1] at h
   have e:(i+n).toNat=j:=Option.some.inj h
   exact ⟨by rw [seqIndex_neg (by omega) h1,e],by omega,h1,by omega⟩
  ·rw [if_neg h1] at h;cases h
theorem J5p {α:Type}{xs:List α}{i:Int}{v:α}(h:atI xs i=some v):∃ j,seqIndex? i xs.length=some j∧xs[j]?=some v∧j<xs.length∧-(xs.length:Int)≤i∧i<xs.length:=by
 unfold atI at h
 cases e:ixN xs.length i with
 | none=>rw [e] at h;cases h
 | some j =>
   rw [e] at h
   obtain ⟨h1,h2,h3,h4⟩:=J7O e
   exact ⟨j,h1,h,h2,h3,h4⟩
theorem Jl {α:Type}{xs:List α}{j:Nat}{v:α}(h:xs[j]?=some v):atI xs (j:Int)=some v:=by
 have hj:j<xs.length:=(List.getElem?_eq_some_iff.mp h).1
 have e:ixN xs.length (j:Int)=some j:=by
  unfold ixN
  rw [if_pos (by omega),if_pos (by omega)];simp
 unfold atI;rw [e];exact h
def JbB (b:Expr):Prop:=∀ o i,subscripted b false o i=operate [o,i] (getItem o i)
def IxR (X:Cx)(r:R2):Prop :=
 ∀ (value slice:Expr) (pins:List (Addr×Obj)) (s:Shared) (σ:St) (H:Hp) (x y:V) (v u:Value) (Q:VK),Inv X pins σ H s→RelV x v→RelV y u→r x y H Q →
   subscripted slice false v u=operate [v,u] (getItem v u)→wpAny (model X.prog X.w) X.A (subscriptTail value slice v u) (EP X pins σ Q) X.xe s
def MtR (X:Cx)(id:String)(r:V→List V→Hp→VK→Prop):Prop :=
 ∀ (pins:List (Addr×Obj)) (s:Shared) (σ:St) (H:Hp) (x:V) (xs:List V) (v:Value) (us:List Value) (Q:VK),Inv X pins σ H s→RelV x v→Vals xs us→r x xs H Q →
   wpAny (model X.prog X.w) X.A (call (.builtin id) (v::us)) (EP X pins σ Q) X.xe s
section
variable {X:Cx}{a b:Expr}{ta tb:TE}{pos:Pos}
theorem Jo {r:R2}(hr:IxR X r)(ha:PE X a ta)(hb:PE X b tb)(hs:JbB b):PE X (.Subscript a b pos) (tOp r ta tb):=by
 intro pins s σ H Q I h
 exact Subscript_ (JcM ha hb I h fun v u s2 x y H2 I2 rx ry q=>hr a b pins s2 σ H2 x y v u Q I2 rx ry q (hs _ _))
def JaW (K:PySem.W.Frag):R2:=fun x y H Q=>∃ p xs i v,x=.ref p∧y=.int i∧SqL K H p xs∧atI xs i=some v∧Q v H
def JaV (K:PySem.W.Frag):R2:=fun x y H Q=>∃ p xs i v,x=.ref p∧y=.int i∧SqT K H p xs∧atI xs i=some v∧Q v H
def JcX:R2:=fun x y H Q=>∃ z i c,x=.str z∧y=.int i∧z.length≤sizeLine∧atI z.cps.toList i=some c∧Q (.str ⟨#[c]⟩) H
theorem Jbo:IxR X (JaW X.K):=by
 intro value slice pins s σ H x y v u Q I rx ry h hs
 obtain ⟨p,xs,i,z,rfl,rfl,hq,he,q⟩:=h
 cases rx
 obtain ⟨t,rfl⟩:=ry
 obtain ⟨its,r,pl,hz⟩:=I.list hq
 obtain ⟨j,h1,h2,h3,h4,h5⟩:=J5p he
 obtain ⟨w,ew,rw'⟩:=r.get h2
 have hl:=r.length
 have hn:=J2X
 have fin:EP X pins σ Q w s:=⟨z,H,I,rw',q⟩
 by_cases h0:0≤i
 ·have hj:i.toNat=j:=by
   rw [seqIndex_of h0 h5] at h1
   exact Option.some.inj h1
  exact item_listR pl.isList h0 (by omega) (by rw [hj];simpa using ew) fin hs
 ·have hj:(i+(its.toArray.size:Int)).toNat=j:=by
   rw [seqIndex_neg (by omega) h4] at h1
   rw [List.size_toArray,← hl]
   exact Option.some.inj h1
  exact subscriptTail_builtinR (x:=w) pl.isList.typeIs slot_list_getitem.lookup
   (wpAny_getItem_list_neg (Q:=fun r s'=>r=w∧EP X pins σ Q r s') pl.isList (by omega) (by rw [List.size_toArray]<;>omega) (by omega) (by rw [hj];simpa using ew) ⟨rfl,fin⟩) hs
theorem JcB:IxR X (JaV X.K):=by
 intro value slice pins s σ H x y v u Q I rx ry h hs
 obtain ⟨p,xs,i,z,rfl,rfl,hq,he,q⟩:=h
 cases rx
 obtain ⟨t,rfl⟩:=ry
 obtain ⟨its,r,pl,hz⟩:=I.tuple hq
 obtain ⟨j,h1,h2,h3,h4,h5⟩:=J5p he
 obtain ⟨w,ew,rw'⟩:=r.get h2
 have hl:=r.length
 have hn:=J2X
 have fin:EP X pins σ Q w s:=⟨z,H,I,rw',q⟩
 exact subscriptTail_builtinR (x:=w) pl.typeIs slot_tuple_getitem.lookup
  (getItem_tuple (j:=j) (Q:=fun r s'=>r=w∧EP X pins σ Q r s') pl (by omega) (by omega) (by rw [List.size_toArray,← hl];exact h1) (by simpa using ew) ⟨rfl,fin⟩) hs
theorem J78:IxR X JcX:=by
 intro value slice pins s σ H x y v u Q I rx ry h hs
 obtain ⟨z,i,c,rfl,rfl,hz,he,q⟩:=h
 obtain ⟨t,rfl⟩:=rx
 obtain ⟨t',rfl⟩:=ry
 obtain ⟨j,h1,h2,h3,h4,h5⟩:=J5p he
 have hl:z.cps.toList.length=z.length:=by simp [Str.length]
 rw [hl] at h1 h4 h5
 have hn:=J2X
 exact tail_any (typeIs_str s z t) slot_str_getitem.lookup (getItem_str (c:=c) (by
  have e1:decide (i < -(2 ^ 63:Int))=false:=decide_eq_false (by omega)
  have e2:decide (i≥2 ^ 63)=false:=decide_eq_false (by omega)
  rw [e1,e2,Bool.or_false]) (by rw [h1];simpa using h2) ⟨.str ⟨#[c]⟩,H,I.tok _,⟨_,rfl⟩,q⟩) hs
theorem J71 (its:List Value)(n j:Nat)(u:Value):Obj.mapSeq (·.setIfInBounds j u) { cls:=.type "list",data:=.seq its.toArray n }={ cls:=.type "list",data:=.seq (its.set j u).toArray n }:=by
 simp [Obj.mapSeq]
theorem Inv.lst {pins:List (Addr×Obj)}{σ:St}{H:Hp}{s:Shared}{p:Addr}{xs:List V}(I:Inv X pins σ H s)(h:H p=some (.lst xs)) :
 ∃ (its:List Value) (n:Nat),Vals xs its∧s.heap.get? p=some { cls:=.type "list",data:=.seq its.toArray n }∧xs.length≤sizeLine:=by
 obtain ⟨z,its,n,r,e⟩:=I.hok p _ h
 exact ⟨its,n,r,e,z⟩
theorem Inv.lstUpd {pins:List (Addr×Obj)}{σ:St}{H:Hp}{s:Shared}{p:Addr}{xs ys:List V}{its its':List Value}{n n':Nat}{f:Obj→Obj}(I:Inv X pins σ H s)(h:H p=some (.lst xs))
 (ho:s.heap.get? p=some { cls:=.type "list",data:=.seq its.toArray n }) (hf:f { cls:=.type "list",data:=.seq its.toArray n }={ cls:=.type "list",data:=.seq its'.toArray n' }) (r:Vals ys its') (hz:ys.length≤sizeLine) (t:Nat) :
 Inv X pins σ (upd H p (.lst ys)) { s with heap:=s.heap.update p f,toks:=t }:=by
 have e:(s.heap.update p f).get? p=some { cls:=.type "list",data:=.seq its'.toArray n' }:=by
  rw [Heap.get?_update_self f ho (by rw [hf]<;>rfl),hf]
 refine I.write (x:=p) (e:=p) (by rw [h];trivial) (.inl rfl) (fun b u hb q=>(Heap.get?_update_other _ _ (Ne.symm hb)).trans q) ⟨_,e⟩ ?_
 exact ⟨hz,its',n',r,e⟩
def JbF:V→V→V→Hp→(Hp→Prop)→Prop:=fun o i v H Q=>∃ p xs k j,o=.ref p∧i=.int k∧H p=some (.lst xs)∧ixN xs.length k=some j∧Q (upd H p (.lst (xs.set j v)))
theorem J94:JcP X JbF:=by
 intro pins s σ H o i v ov iv u Q I ro ri rv h
 obtain ⟨p,xs,k,j,rfl,rfl,hp,hj,q⟩:=h
 cases ro
 obtain ⟨t,rfl⟩:=ri
 obtain ⟨its,n,r,ho,hz⟩:=I.lst hp
 obtain ⟨h1,h2,h3,h4⟩:=J7O hj
 have hl:=r.length
 have hn:=J2X
 have I':Inv X pins σ (upd H p (.lst (xs.set j v))) { s with heap:=s.heap.update p (Obj.mapSeq (·.setIfInBounds j u)) } :=
  I.lstUpd hp ho (J71 its n j u) (r.set rv j) (by rw [List.length_set];exact hz) s.toks
 by_cases h0:0≤k
 ·have hk:k.toNat=j:=by
   rw [seqIndex_of h0 h4] at h1
   exact Option.some.inj h1
  exact PySem.W.ki_setAt ho h0 (by omega) (by rw [List.size_toArray,← hl];exact h4) (by rw [hk];exact ⟨_,I',q⟩)
 ·have hk:(k+(its.toArray.size:Int)).toNat=j:=by
   rw [seqIndex_neg (by omega) h3] at h1
   rw [List.size_toArray,← hl]
   exact Option.some.inj h1
  exact PySem.W.ki_setBack ho (by omega) (by rw [List.size_toArray,← hl];exact h3) (by omega) (by rw [hk];exact ⟨_,I',q⟩)
theorem J4V (lo hi:Option Int)(n:Nat):(sliceBounds lo hi none n).1=((HT.sIx n 0 lo:Nat):Int)∧(sliceBounds lo hi none n).2.1=((HT.sIx n n hi:Nat):Int)∧(sliceBounds lo hi none n).2.2=1:=by
 refine ⟨?_,?_,rfl⟩
 ·cases lo with
  | none=>simp [sliceBounds,HT.sIx]
  | some i =>
    simp only [sliceBounds,HT.sIx,Option.getD_none,show (1:Int) > 0 by decide,if_true]
    by_cases h:i<0
    ·simp only [h,if_true]<;>omega
    ·simp only [h,if_false]<;>omega
 ·cases hi with
  | none=>simp [sliceBounds,HT.sIx]
  | some i =>
    simp only [sliceBounds,HT.sIx,Option.getD_none,show (1:Int) > 0 by decide,if_true]
    by_cases h:i<0
    ·simp only [h,if_true]<;>omega
    ·simp only [h,if_false]<;>omega
theorem J47 (its:List Value)(lo hi:Option Int):slicePick its.toArray lo hi none=((its.drop (HT.sIx its.length 0 lo)).take (HT.sIx its.length its.length hi - HT.sIx its.length 0 lo)).toArray:=by
 obtain ⟨h1,h2,h3⟩:=J4V lo hi its.toArray.size
 unfold slicePick
 rw [h1,h2,h3]
 simp only [sliceRange_one,pick_run,List.size_toArray]<;>rfl
def J9e (K:PySem.W.Frag):V→Option Int→Option Int→Hp→VK→Prop:=fun x lo hi H Q=>∃ a xs,x=.ref a∧SqL K H a xs∧∀ p,H p=none→Q (.ref p) (upd H p (.lst (J0M xs lo hi)))
theorem JaK:SlR X (J9e X.K):=by
 intro pins s σ H x v vl vu lo hi sl Q I rx hs pl pu h
 obtain ⟨a,xs,rfl,hx,q⟩:=h
 cases rx
 obtain ⟨its,r,ht,hz⟩:=I.list hx
 have hlen:=r.length
 refine ⟨"list",_,slot_list_getitem.lookup,ht.isList.typeIs,?_⟩
 refine wpAny_getItem_list_slice ht.isList hs pl pu .none (by simp) ?_ (by rw [List.size_toArray]<;>omega)
 rw [J47,← hlen]
 refine ⟨.ref s.heap.objs.size,_,I.laid (t':=s.toks) (o:=.lst (J0M xs lo hi)) (fun b ob q=>Heap.get?_push_of_some _ q) (Nat.le_refl _) ?_,rfl,q _ (I.hok.fresh (Nat.le_refl _))⟩
 exact ⟨Nat.le_trans (J38 xs lo hi) hz,_,0,(r.drop (HT.sIx xs.length 0 lo)).take (HT.sIx xs.length xs.length hi - HT.sIx xs.length 0 lo),Heap.get?_push_size _ rfl⟩
theorem J5n:J0e X (.builtin "len") (fun xs H Q=>∃ p ys,xs=[.ref p]∧(SqL X.K H p ys∨SqT X.K H p ys)∧Q (.int ys.length) H):=by
 intro pins s σ H xs us Q I r h
 obtain ⟨p,ys,rfl,hq,q⟩:=h
 obtain ⟨u,rfl,rx⟩:=J0Z r
 cases rx
 have hn:=J2X
 rcases hq with hq | hq
 ·obtain ⟨its,r',pl,hz⟩:=I.list hq
  have hlen:=r'.length
  exact Calls.call_len_list pl.isList (by simp only [List.size_toArray]<;>omega) ⟨.int ys.length,H,I.tok _,⟨s.toks+1,by rw [List.size_toArray,hlen]⟩,q⟩
 ·obtain ⟨its,r',pl,hz⟩:=I.tuple hq
  have hlen:=r'.length
  exact len_tuple pl (by simp only [List.size_toArray]<;>omega) ⟨.int ys.length,H,I.tok _,⟨s.toks+1,by rw [List.size_toArray,hlen]⟩,q⟩
theorem J1h:J0e X (.builtin "len") (fun xs H Q=>∃ z,xs=[.str z]∧z.length≤sizeLine∧Q (.int z.length) H):=by
 intro pins s σ H xs us Q I r h
 obtain ⟨z,rfl,hz,q⟩:=h
 obtain ⟨u,rfl,t,rfl⟩:=J0Z r
 have hn:=J2X
 exact len_str (by omega) ⟨.int z.length,H,I.tok _,⟨_,rfl⟩,q⟩
theorem J5m:J0e X (.type "list") (fun xs H Q=>∃ p ys,xs=[.ref p]∧(SqL X.K H p ys∨SqT X.K H p ys)∧∀ l,H l=none→Q (.ref l) (upd H l (.lst ys))):=by
 intro pins s σ H xs us Q I r h
 obtain ⟨p,ys,rfl,hq,q⟩:=h
 obtain ⟨u,rfl,rx⟩:=J0Z r
 cases rx
 have fin:∀ (its:List Value),Vals ys its→ys.length≤sizeLine→∀ (h':Heap) (c':Nat),(∀ b o',s.heap.get? b=some o'→h'.get? b=some o') →
  h'.get? s.heap.objs.size=some { cls:=.type "list",dict:=none,data:=.seq its.toArray c',slots:=#[] }→EP X pins σ Q (.ref s.heap.objs.size) { s with heap:=h' }:=fun its r' hz h' c' kp e =>
  ⟨.ref s.heap.objs.size,_,I.laid (t':=s.toks) kp (Nat.le_refl _) (show ObjOk X.prog X.w _ h' _ (.lst ys) from ⟨hz,its,c',r',e⟩),rfl,q _ (I.hok.fresh (Nat.le_refl _))⟩
 rcases hq with hq | hq
 ·obtain ⟨its,r',pl,hz⟩:=I.list hq
  have hlen:=r'.length
  obtain ⟨o,ho,hc,n,hd⟩:=pl.isList
  exact call_list_seq p (.inl rfl) ho hc hd (fun h' c' kp e=>fin its r' hz h' c' kp e) (by simp only [List.size_toArray]<;>omega)
 ·obtain ⟨its,r',pl,hz⟩:=I.tuple hq
  have hlen:=r'.length
  obtain ⟨o,ho,hc,n,hd⟩:=pl
  exact call_list_seq p (.inr rfl) ho hc hd (fun h' c' kp e=>fin its r' hz h' c' kp e) (by simp only [List.size_toArray]<;>omega)
theorem J4d:J0e X (.type "tuple") (fun xs H Q=>∃ p ys,xs=[.ref p]∧((SqL X.K H p ys∧∀ l,H l=none→Q (.ref l) (upd H l (.tup ys)))∨(SqT X.K H p ys∧Q (.ref p) H))):=by
 intro pins s σ H xs us Q I r h
 obtain ⟨p,ys,rfl,h⟩:=h
 obtain ⟨u,rfl,rx⟩:=J0Z r
 cases rx
 rcases h with ⟨hq,q⟩ | ⟨hq,q⟩
 ·obtain ⟨its,r',pl,hz⟩:=I.list hq
  have hlen:=r'.length
  refine call_tuple_list pl.isList (fun h' kp=>?_) (by simp only [List.size_toArray]<;>omega)
  have I1:Inv X pins σ H { s with heap:=h' }:=I.kept (t':=s.toks) kp
  have I2:Inv X pins σ (upd H h'.objs.size (.tup ys)) { s with heap:=h'.push { cls:=.type "tuple",data:=.seq its.toArray } } :=
   I1.laid (t':=s.toks) (fun b o e=>Heap.get?_push_of_some _ e) (Nat.le_refl _) (show ObjOk X.prog X.w _ _ _ (.tup ys) from ⟨hz,its,r',IsTup.new _ _⟩)
  exact ⟨.ref h'.objs.size,_,I2,rfl,q _ (I1.hok.fresh (Nat.le_refl _))⟩
 ·obtain ⟨its,r',pl,hz⟩:=I.tuple hq
  exact call_tuple_same pl ⟨.ref p,H,I,rfl,q⟩
def tyV (K:PySem.W.Frag)(T:String)(x:V)(H:Hp):Prop:=match x with
 | .str _=>T="str"
 | .int _=>T="int"
 | .ref p=>(T="list"∧∃ xs,SqL K H p xs)∨(T="tuple"∧∃ o,K.lookup p=some o∧o.cls=.type "tuple"∧o.dict=none) ∨
  (T="dict"∧((∃ kvs,H p=some (.dK kvs))∨∃ kvs,H p=some (.dT kvs)))∨(T="set"∧∃ S n,H p=some (.set S n))
 | _=>False
theorem tyV_is {pins:List (Addr×Obj)}{σ:St}{H:Hp}{s:Shared}{T:String}{x:V}{v:Value}(I:Inv X pins σ H s)(r:RelV x v)(ty:tyV X.K T x H) :
 s.TypeIs v T∧∀ a,v=.ref a→∃ ob,s.heap.get? a=some ob∧ob.dict=none:=by
 cases x with
 | str z =>
   obtain ⟨t,rfl⟩:=r
   cases (show T="str" from ty)
   exact ⟨typeIs_str s z t,fun _ e=>nomatch e⟩
 | int i =>
   obtain ⟨t,rfl⟩:=r
   cases (show T="int" from ty)
   exact ⟨typeIs_int s i t,fun _ e=>nomatch e⟩
 | ref p =>
   cases r
   rcases ty with ⟨rfl,xs,hq⟩ | ⟨rfl,o,hk,hc,hd⟩ | ⟨rfl,hk⟩ | ⟨rfl,S,n,hk⟩
   ·obtain ⟨its,_,pl,_⟩:=I.list hq
    refine ⟨pl.isList.typeIs,fun a e=>?_⟩
    cases e
    obtain ⟨o,n,e,c,hd,_⟩:=pl
    exact ⟨o,e,hd⟩
   ·refine ⟨⟨o,I.kIn p o hk,hc⟩,fun a e=>?_⟩
    cases e
    exact ⟨o,I.kIn _ o hk,hd⟩
   ·have z:∃ o,s.heap.get? p=some o∧o.ExactDict:=by
     rcases hk with ⟨kvs,hk⟩ | ⟨kvs,hk⟩
     ·obtain ⟨_,_,_,_,o,_,_,e,ex,_⟩:=I.hok p _ hk
      exact ⟨o,e,ex⟩
     ·obtain ⟨_,_,_,_,o,_,_,e,ex,_⟩:=I.hok p _ hk
      exact ⟨o,e,ex⟩
    obtain ⟨o,e,ex⟩:=z
    refine ⟨⟨o,e,ex.1⟩,fun a e2=>?_⟩
    cases e2
    exact ⟨o,e,ex.2.1⟩
   ·obtain ⟨o,_,_,_,e,ex,_⟩:=I.hok p _ hk
    refine ⟨⟨o,e,ex.1⟩,fun a e2=>?_⟩
    cases e2
    exact ⟨o,e,ex.2.1⟩
 | _=>exact False.elim ty
def JbY (K:PySem.W.Frag)(T:String)(r:V→List V→Hp→VK→Prop)(to:TE):TE:=fun σ H Q=>to σ H fun x H1=>tyV K T x H1∧r x [] H1 Q
def tBM (K:PySem.W.Frag)(T:String)(r:V→List V→Hp→VK→Prop)(to:TE)(t:TA):TE:=fun σ H Q=>to σ H fun x H1=>tyV K T x H1∧t σ H1 fun xs H2=>r x xs H2 Q
variable {o e:Expr}{es:List Expr}{to:TE}{t:TA}{name:Str}{apos cpos:Pos}{T id:String}{r:V→List V→Hp→VK→Prop}
theorem Jd0 (pa:PlainAttrs T)(slot:Slot T name id)(hty:typeOf (.builtin id)=pure (.type "method_descriptor"))(hm:MtR X id r)(ho:PE X o to)(ha:PA X (e::es) t)
 (hbase:attributeBase o name X.env (eval o X.env)=eval o X.env:=by rfl)
 (hfew:((backTo cpos (starEach (e::es) X.env)).all (fun x=>!x.1)&&(backToKw cpos (keywordEach [] X.env)).all (fun x=>x.1.isSome)
  && decide ((e::es).length+([]:List Keyword).length+(if ([]:List Keyword).isEmpty then 0 else 1)<30))=true:=by rfl)
 (hline:(apos.endLine == cpos.line)=true:=by rfl) (hs:starEach (e::es) X.env=(false,eval e X.env)::starEach es X.env:=by rfl) (hplain:(backTo cpos (starEach es X.env)).any (·.1)=false:=by rfl) :
 PE X (.Call (.Attribute o name apos) (e::es) [] cpos) (tBM X.K T r to t):=by
 intro pins s σ H Q I h
 refine wpAny_Call_method_late hbase hfew hline rfl (thn (ho pins s σ H _ I h) fun v s1 ⟨x,H1,I1,r1,ty,q1⟩=>?_)
 obtain ⟨h1,h2⟩:=tyV_is I1 r1 ty
 refine ⟨T,id,pa,slot,hty,h1,h2,?_⟩
 have hA:=ha cpos pins s1 σ H1 _ I1 q1
 rw [hs] at hA ⊢
 refine Calls.callWith_builtin (by show (false||(backTo cpos (starEach es X.env)).any (·.1))=false;rw [hplain]<;>rfl) (Calls.evalArgs_plain ?_)
 exact thn hA fun us s2 ⟨vs,H2,I2,r2,q2⟩=>hm pins s2 σ H2 x vs v us Q I2 r1 r2 q2
end
def MtM (X:Cx)(id:String)(r:V→List V→Hp→VK→Prop):Prop :=
 ∀ (pins:List (Addr×Obj)) (s:Shared) (σ:St) (H:Hp) (x:V) (xs:List V) (v:Value) (us:List Value) (Q:VK),Inv X pins σ H s→RelV x v→Vals xs us→r x xs H Q →
   wpAny (model X.prog X.w) X.A (call (.builtin id) (v::us)) (EP X pins σ Q) X.xe s
theorem Vals.one:∀ {x:V} {us:List Value},Vals [x] us→∃ u,us=[u]∧RelV x u
 | _,_,.cons r .nil=>⟨_,rfl,r⟩
theorem Vals.reverse {xs:List V}{us:List Value}(h:Vals xs us):Vals xs.reverse us.reverse:=by
 induction h with
 | nil=>exact .nil
 | cons r t ih=>rw [List.reverse_cons,List.reverse_cons];exact Vals.append ih (.cons r .nil)
theorem Vals.rep {xs:List V}{us:List Value}(h:Vals xs us):∀ k:Nat,Vals (List.replicate k xs).flatten (List.replicate k us).flatten
 | 0=>.nil
 | k+1=>by
   rw [List.replicate_succ,List.replicate_succ,List.flatten_cons,List.flatten_cons]
   exact Vals.append h (Vals.rep h k)
theorem J4o (its:List Value):∀ (k:Nat) (acc:List Value),
 List.foldl (fun x1 x2=>x1++x2) acc.toArray (List.replicate k its.toArray)=(acc++(List.replicate k its).flatten).toArray
 | 0,acc=>by simp
 | k + 1,acc=>by
   have e:acc.toArray++its.toArray=(acc++its).toArray:=by simp
   have e2:(acc++its)++(List.replicate k its).flatten=acc++(List.replicate (k+1) its).flatten:=by
    rw [List.replicate_succ,List.flatten_cons,List.append_assoc]
   rw [← e2,← J4o its k (acc++its),← e,List.replicate_succ,List.foldl_cons]
section
variable {X:Cx}{pins:List (Addr×Obj)}{σ:St}{H:Hp}{s:Shared}{l b:Addr}{xs ys zs:List V}
theorem Inv.lset {its its':List Value}{n:Nat}{f:Array Value→Array Value}{t':Nat}(I:Inv X pins σ H s)(hH:H l=some (.lst xs))
 (e:s.heap.get? l=some { cls:=.type "list",data:=.seq its.toArray n }) (hf:f its.toArray=its'.toArray) (hv:Vals ys its') (hz:ys.length≤sizeLine) :
 Inv X pins σ (upd H l (.lst ys)) { s with heap:=s.heap.update l (Obj.mapSeq f),toks:=t' }:=by
 have q:=PySem.IsL.update e f
 rw [hf] at q
 refine I.write (x:=l) (e:=l) (by rw [hH];exact trivial) (.inl rfl) (fun b' u hb hu=>(Heap.get?_update_other s.heap (Obj.mapSeq f) (Ne.symm hb)).trans hu) ⟨_,q⟩ ?_
 exact ⟨hz,its',_,hv,q⟩
theorem Inv.lnew {its:List Value}{t':Nat}(I:Inv X pins σ H s)(hv:Vals ys its)(hz:ys.length≤sizeLine) :
 Inv X pins σ (upd H s.heap.objs.size (.lst ys)) { s with heap:=s.heap.push { cls:=.type "list",data:=.seq its.toArray },toks:=t' } :=
 I.laid (fun _ _ q=>Heap.get?_push_of_some _ q) (Nat.le_refl _) ⟨hz,its,0,hv,Heap.get?_push_size _ rfl⟩
theorem Inv.fresh (I:Inv X pins σ H s):H s.heap.objs.size=none:=I.hok.fresh (Nat.le_refl _)
theorem Inv.lstM (I:Inv X pins σ H s)(hH:H l=some (.lst xs)):xs.length≤sizeLine∧∃ (its:List Value) (n:Nat),Vals xs its∧xs.length=its.length∧s.heap.get? l=some { cls:=.type "list",data:=.seq its.toArray n }:=by
 obtain ⟨z,its,n,r,e⟩:=I.hok l _ hH
 exact ⟨z,its,n,r,r.length,e⟩
theorem J9I {n:Nat}(h:n≤sizeLine):Builtin.List.listTooLong n=false:=by
 unfold Builtin.List.listTooLong
 exact decide_eq_false (by omega)
end
section
variable {X:Cx}
def J7D:V→List V→Hp→VK→Prop:=fun x vs H Q=>∃ l xs y,x=.ref l∧vs=[y]∧H l=some (.lst xs)∧xs.length<sizeLine∧Q .non (upd H l (.lst (xs++[y])))
theorem J1E:MtM X "list.append" J7D:=by
 intro pins s σ H x vs v us Q I rx rv h
 obtain ⟨l,xs,y,rfl,rfl,hH,hz,q⟩:=h
 cases rx
 obtain ⟨u,rfl,ru⟩:=rv.one
 obtain ⟨z,its,n,r,hl,e⟩:=I.lstM hH
 refine call_meets F.slot_list_append ⟨_,e,rfl⟩ F.entry_list_append (F.args_list_append_2 _ _) (PySem.list_append l its.toArray n u (by rw [List.size_toArray];omega)) ⟨e,?_⟩
 refine ⟨.non,_,I.lset (its':=its++[u]) hH e (by simp) (r.append (.cons ru .nil)) ?_,rfl,q⟩
 rw [List.length_append,List.length_singleton]
 omega
def Jdi:R2:=fun x y H Q=>∃ l b xs zs,x=.ref l∧y=.ref b∧H l=some (.lst xs)∧H b=some (.lst zs)∧xs.length+zs.length≤sizeLine∧∀ p,H p=none→Q (.ref p) (upd H p (.lst (xs++zs)))
theorem J6S:OpR X (binaryOp .Add) Jdi:=by
 intro pins s σ H x y v u Q I rx ry h
 obtain ⟨l,b,xs,zs,rfl,rfl,hH,hB,hz,q⟩:=h
 cases rx
 cases ry
 obtain ⟨z,its,n,r,hl,e⟩:=I.lstM hH
 obtain ⟨z2,its2,n2,r2,hl2,e2⟩:=I.lstM hB
 refine PySem.P.add_list e e2 ?_ (by rw [List.size_toArray,List.size_toArray];omega)
 have ea:its.toArray++its2.toArray=(its++its2).toArray:=by simp
 rw [ea]
 exact ⟨.ref _,_,I.lnew (t':=s.toks) (r.append r2) (by rw [List.length_append];omega),rfl,q _ I.fresh⟩
def Jdg:R2:=fun x y H Q=>∃ l k xs,x=.ref l∧y=.int k∧H l=some (.lst xs)∧-(2 ^ 63)≤k∧k<2 ^ 63∧xs.length * k.toNat≤sizeLine ∧
 ∀ p,H p=none→Q (.ref p) (upd H p (.lst (List.replicate k.toNat xs).flatten))
theorem Jbn {α:Type}(xs:List α)(k:Nat):(List.replicate k xs).flatten.length=k * xs.length:=by
 induction k with
 | zero=>simp
 | succ k ih=>rw [List.replicate_succ,List.flatten_cons,List.length_append,ih,Nat.succ_mul,Nat.add_comm]
theorem Jci:OpR X (binaryOp .Mult) Jdg:=by
 intro pins s σ H x y v u Q I rx ry h
 obtain ⟨l,k,xs,rfl,rfl,hH,h1,h2,hz,q⟩:=h
 cases rx
 obtain ⟨t,rfl⟩:=ry
 obtain ⟨z,its,n,r,hl,e⟩:=I.lstM hH
 have hlen:its.toArray.size * k.toNat≤sizeLine:=by rw [List.size_toArray,← hl];exact hz
 have hcap:¬ its.toArray.size * k.toNat > (2 ^ 63 - 1) / 8:=by
  have:(sizeLine:Nat)≤(2 ^ 63 - 1) / 8:=by decide
  omega
 have hfit:¬ (!Builtin.List.listFitsIndex k)=true:=by
  rw [fitsIndex_both h1 h2]
  exact Bool.false_ne_true
 have hlong:¬ Builtin.List.listTooLong (its.toArray.size * k.toNat)=true:=by
  rw [J9I hlen]
  exact Bool.false_ne_true
 have hnew:List.foldl (fun x1 x2=>x1++x2) #[] (List.replicate (if its.toArray.isEmpty=true then 0 else k.toNat) its.toArray)=(List.replicate k.toNat its).flatten.toArray:=by
  have f0:∀ m:Nat,List.foldl (fun x1 x2=>x1++x2) #[] (List.replicate m its.toArray)=(List.replicate m its).flatten.toArray:=fun m=>by
   have:=J4o its m []
   rw [List.nil_append] at this
   exact this
  rw [f0]
  cases its with
  | nil=>simp
  | cons a r'=>rw [if_neg (by simp)]
 refine wpAny_binaryOp_repeat_ref (T:="list") (U:="int") (by decide) ⟨_,e,rfl⟩ (fun s'=>typeIs_int s' k t) noFill_list_mul F.fills_int_mul F.slot_int_rmul repeat_list F.slot_int_index.lookup
  (call_meets F.slot_int_rmul (typeIs_int s k t) F.entry_int_rmul (F.args_int_rmul_2 _ _) (int___rmul___int_list k t l its.toArray n)
   ⟨e,rfl,⟨_,e,rfl⟩,call_meets F.slot_list_mul ⟨_,e,rfl⟩ F.entry_list_mul (F.args_list_mul_2 _ _) (AutoListH.list___mul___list_int_3 l its.toArray n k t hfit hcap hlong) ⟨e,?_⟩⟩)
 rw [hnew]
 exact ⟨.ref _,_,I.lnew (t':=s.toks) (r.rep k.toNat) (by rw [Jbn,Nat.mul_comm];exact hz),rfl,q _ I.fresh⟩
end
section
variable {prog:Program}{w:World}{A:Around}{E:Value→Shared→Prop}{s:Shared}
set_option maxRecDepth 100000 in
end
section
variable {X:Cx}
end
section
variable {κ:Type}[DecidableEq κ]
noncomputable def J0t (kvs:List (κ×V))(k:κ):Option V:=(kvs.find? fun kv=>decide (kv.1=k)).map (·.2)
noncomputable def J0W (kvs:List (κ×V))(k:κ)(v:V):List (κ×V) :=
 if (kvs.any fun kv=>decide (kv.1=k))=true then kvs.map (fun kv=>if kv.1=k then (kv.1,v) else kv) else kvs++[(k,v)]
noncomputable def Jda (kvs:List (κ×V))(k:κ):List (κ×V):=kvs.filter fun kv=>decide (kv.1≠k)
theorem J3q {p:κ×V}{r:List (κ×V)}{k:κ}(e:p.1=k):J0t (p::r) k=some p.2:=by simp [J0t,List.find?_cons,e]
theorem J3r {p:κ×V}{r:List (κ×V)}{k:κ}(e:¬ p.1=k):J0t (p::r) k=J0t r k:=by simp [J0t,List.find?_cons,e]
theorem J1U (k:κ):∀ kvs:List (κ×V),(kvs.any fun kv=>decide (kv.1=k))=(J0t kvs k).isSome
 | []=>rfl
 | p::r=>by
   rw [List.any_cons]
   by_cases e:p.1=k
   ·simp only [J3q e,decide_eq_true e,Bool.true_or,Option.isSome_some]
   ·rw [J3r e,decide_eq_false e,Bool.false_or];exact J1U k r
theorem J21 (kvs:List (κ×V))(k:κ)(v:V):(J0W kvs k v).length≤kvs.length+1:=by
 unfold J0W
 split
 ·rw [List.length_map];omega
 ·rw [List.length_append,List.length_cons,List.length_nil];omega
theorem putK_new {kvs:List (κ×V)}{k:κ}(v:V)(h:J0t kvs k=none):J0W kvs k v=kvs++[(k,v)]:=by
 unfold J0W
 rw [J1U,h]
 exact if_neg (by decide)
theorem RelO.isSome_eq {o:Option V}{u:Option Value}(r:RelO o u):o.isSome=u.isSome:=by
 cases o with
 | none=>cases u with
   | none=>rfl
   | some _=>exact (show False from r).elim
 | some _=>cases u with
   | none=>exact (show False from r).elim
   | some _=>rfl
theorem KV.val {kvs:List (κ×V)}{vs:List (κ×Value)}(r:KV kvs vs)(k:κ):RelO (J0t kvs k) (valueAt vs k):=by
 unfold KV at r
 induction r with
 | nil=>exact True.intro
 | @cons p q ps qs h t ih =>
   obtain ⟨h1,h2⟩:=h
   by_cases e:p.1=k
   ·have e':q.1=k:=h1.symm.trans e
    have b:valueAt (q::qs) k=some q.2:=by simp [valueAt,List.find?_cons,e']
    rw [J3q e,b];exact h2
   ·have e':¬ q.1=k:=fun z=>e (h1.trans z)
    have b:valueAt (q::qs) k=valueAt qs k:=by simp [valueAt,List.find?_cons,e']
    rw [J3r e,b];exact ih
theorem KV.any {kvs:List (κ×V)}{vs:List (κ×Value)}(r:KV kvs vs)(k:κ):(kvs.any fun kv=>decide (kv.1=k))=vs.any fun kv=>decide (kv.1=k):=by
 unfold KV at r
 induction r with
 | nil=>rfl
 | cons h t ih=>rw [List.any_cons,List.any_cons,ih,h.1]
theorem KV.repl {kvs:List (κ×V)}{vs:List (κ×Value)}(r:KV kvs vs)(k:κ){y:V}{u:Value}(ry:RelV y u) :
 KV (kvs.map fun kv=>if kv.1=k then (kv.1,y) else kv) (vs.map fun kv=>if kv.1=k then (kv.1,u) else kv):=by
 unfold KV at r ⊢
 induction r with
 | nil=>exact .nil
 | @cons p q ps qs h t ih =>
   rw [List.map_cons,List.map_cons]
   refine .cons ?_ ih
   obtain ⟨h1,h2⟩:=h
   by_cases e:p.1=k
   ·rw [if_pos e,if_pos (h1.symm.trans e)];exact ⟨h1,ry⟩
   ·rw [if_neg e,if_neg (fun z=>e (h1.trans z))];exact ⟨h1,h2⟩
theorem KV.put {kvs:List (κ×V)}{vs:List (κ×Value)}(r:KV kvs vs)(k:κ){y:V}{u:Value}(ry:RelV y u):KV (J0W kvs k y) (stored vs k u):=by
 unfold J0W stored
 rw [r.any k]
 by_cases e:(vs.any fun kv=>decide (kv.1=k))=true
 ·rw [if_pos e,if_pos e];exact r.repl k ry
 ·rw [if_neg e,if_neg e];exact Paired.snoc r ⟨rfl,ry⟩
theorem KV.length {kvs:List (κ×V)}{vs:List (κ×Value)}(r:KV kvs vs):kvs.length=vs.length:=Paired.length r
end
theorem J68 {P:Program}{w:World}{k:Key}{u:Value}(r:RelV (kV k) u):(J0q P w).is k u=true:=by
 cases k with
 | inl i=>obtain ⟨t,e⟩:=(show ∃ t,u=Value.int i t from r);subst e;exact J5Y P w i t
 | inr x=>obtain ⟨t,e⟩:=(show ∃ t,u=Value.str x t from r);subst e;exact J5X P w x t
theorem Jd3 {P:Program}{w:World}{k:Ji}{u:Value}(r:RelV (nV k) u):(J0p P w).is k u=true:=by
 cases k with
 | none=>cases (show u=Value.none from r);rfl
 | some k=>exact J68 (P:=P) (w:=w) (k:=k) r
theorem J4n {P:Program}{w:World}:∀ {ks:List Ji} {us:List Value},Vals (ks.map nV) us→ItemsAre (J0p P w) ks us
 | [],_,r=>by rw [List.map_nil] at r;cases r;exact .nil
 | k::ks,_,r=>by
   rw [List.map_cons] at r
   cases r with
   | cons h t=>exact .cons (Jd3 h) (J4n t)
abbrev KT (H:Hp):List (List Ji×V)→List (List Ji×Addr×Value)→Prop:=Paired fun p q=>p.1=q.1∧H q.2.1=some (.tup (p.1.map nV))∧RelV p.2 q.2.2
theorem KT.val {H:Hp}{kvs:List (List Ji×V)}{xs:List (List Ji×Addr×Value)}(r:KT H kvs xs)(k:List Ji):RelO (J0t kvs k) ((atKey xs k).map (·.2)):=by
 induction r with
 | nil=>exact True.intro
 | @cons p q ps qs h t ih =>
   obtain ⟨h1,_,h2⟩:=h
   by_cases e:p.1=k
   ·have e':q.1=k:=h1.symm.trans e
    have b:atKey (q::qs) k=some q.2:=by simp [atKey,List.find?_cons,e']
    rw [J3q e,b];exact h2
   ·have e':¬ q.1=k:=fun z=>e (h1.trans z)
    have b:atKey (q::qs) k=atKey qs k:=by simp [atKey,List.find?_cons,e']
    rw [J3r e,b];exact ih
theorem KT.repl {H:Hp}{kvs:List (List Ji×V)}{xs:List (List Ji×Addr×Value)}(r:KT H kvs xs)(k:List Ji){y:V}{u:Value}(ry:RelV y u) :
 KT H (kvs.map fun kv=>if kv.1=k then (kv.1,y) else kv) (xs.map (putAt k u)):=by
 induction r with
 | nil=>exact .nil
 | @cons p q ps qs h t ih =>
   rw [List.map_cons,List.map_cons]
   refine .cons ?_ ih
   obtain ⟨h1,h2,h3⟩:=h
   unfold putAt
   by_cases e:p.1=k
   ·rw [if_pos e,if_pos (h1.symm.trans e)];exact ⟨h1,h2,ry⟩
   ·rw [if_neg e,if_neg (fun z=>e (h1.trans z))];exact ⟨h1,h2,h3⟩
theorem KT.put {H:Hp}{kvs:List (List Ji×V)}{xs:List (List Ji×Addr×Value)}(r:KT H kvs xs)(k:List Ji){b:Addr}{y:V}{u:Value}(hb:H b=some (.tup (k.map nV)))(ry:RelV y u) :
 KT H (J0W kvs k y) (storedH xs k b u):=by
 have e:(kvs.any fun kv=>decide (kv.1=k))=(atKey xs k).isSome:=by
  rw [J1U,(r.val k).isSome_eq,Option.isSome_map]
 unfold J0W storedH
 rw [e]
 by_cases q:(atKey xs k).isSome=true
 ·rw [if_pos q,if_pos q];exact r.repl k ry
 ·rw [if_neg q,if_neg q];exact Paired.snoc r ⟨rfl,hb,ry⟩
theorem KT.keeps {H H':Hp}{kvs:List (List Ji×V)}{xs:List (List Ji×Addr×Value)}(r:KT H kvs xs)(ht:∀ b ys,H b=some (.tup ys)→H' b=some (.tup ys)):KT H' kvs xs :=
 Paired.mapP r fun _ _ z=>⟨z.1,ht _ _ z.2.1,z.2.2⟩
section
variable {P:Program}{w:World}{H:Hp}{h:Heap}{a:Addr}
theorem JbD {u:HO}(ok:HOk P w H h)(e:Rd H a u):ObjOk P w H h a u:=e.ok ok
theorem Jab {kvs:List (Key×V)}(ok:HOk P w H h)(e:Rd H a (.dK kvs)):kvs.length≤sizeLine∧(a == sysModules)=false∧∃ vs,KV kvs vs∧h.DictOf (J0q P w) a vs :=
 show ObjOk P w H h a (.dK kvs) from JbD ok e
theorem JbN {kvs:List (Key×V)}(ok:HOk P w H h)(e:H a=some (.dK kvs)):kvs.length≤sizeLine∧(a == sysModules)=false∧∃ vs,KV kvs vs∧h.DictOf (J0q P w) a vs:=Jab ok (.inl e)
theorem J3Q {ks:List Ji}(ok:HOk P w H h)(e:H a=some (.tup (ks.map nV))):(tupleKind (J0p P w)).is h ks a:=by
 obtain ⟨_,its,r,o,h1,h2,n,h3⟩:=(show ObjOk P w H h a (.tup (ks.map nV)) from ok a _ e)
 exact ⟨o,its.toArray,n,h1,h2,h3,by simpa using J4n r⟩
theorem dt_rd {kvs:List (List Ji×V)}(ok:HOk P w H h)(e:Rd H a (.dT kvs)):kvs.length≤sizeLine∧(a == sysModules)=false ∧
 ∃ xs,KT H kvs xs∧h.DictOfH (tupleKind (J0p P w)) a xs:=by
 obtain ⟨z,y,xs,r,o,es,ep,h1,h2,h3,h4,h5⟩:=(show ObjOk P w H h a (.dT kvs) from JbD ok e)
 refine ⟨z,y,xs,r,o,es,ep,h1,h2,h3,h4,fun x hx=>?_,h5⟩
 have all:∀ {l:List (List Ji×V)} {m:List (List Ji×Addr×Value)},KT H l m→∀ x∈m,(tupleKind (J0p P w)).is h x.1 x.2.1:=by
  intro l m q
  induction q with
  | nil=>intro x hx;exact nomatch hx
  | @cons p q ps qs hq t ih =>
    intro x hx
    rcases List.mem_cons.mp hx with e | hx
    ·subst e
     exact J3Q ok (by rw [← hq.1];exact hq.2.1)
    ·exact ih x hx
 exact all r x hx
theorem Ja9 {kvs:List (List Ji×V)}(ok:HOk P w H h)(e:H a=some (.dT kvs)):kvs.length≤sizeLine∧(a == sysModules)=false ∧
 ∃ xs,KT H kvs xs∧h.DictOfH (tupleKind (J0p P w)) a xs:=dt_rd ok (.inl e)
end
def DGet (H:Hp)(a:Addr)(y:V)(r:Option V):Prop :=
 (∃ kvs k,Rd H a (.dK kvs)∧y=kV k∧r=J0t kvs k)∨∃ kvs k b,Rd H a (.dT kvs)∧y=.ref b∧H b=some (.tup (k.map nV))∧r=J0t kvs k
def DPut (H:Hp)(a:Addr)(y v:V)(H':Hp):Prop :=
 (∃ kvs k,H a=some (.dK kvs)∧y=kV k∧kvs.length<sizeLine∧H'=upd H a (.dK (J0W kvs k v))) ∨
 ∃ kvs k b,H a=some (.dT kvs)∧y=.ref b∧H b=some (.tup (k.map nV))∧kvs.length<sizeLine∧H'=upd H a (.dT (J0W kvs k v))
theorem DGet.k {H:Hp}{a:Addr}{kvs:List (Key×V)}{k:Key}(e:H a=some (.dK kvs)):DGet H a (kV k) (J0t kvs k):=.inl ⟨kvs,k,.inl e,rfl,rfl⟩
theorem DPut.t {H:Hp}{a b:Addr}{kvs:List (List Ji×V)}{k:List Ji}{v:V}(e:H a=some (.dT kvs))(eb:H b=some (.tup (k.map nV)))(hl:kvs.length<sizeLine) :
 DPut H a (.ref b) v (upd H a (.dT (J0W kvs k v))):=.inr ⟨kvs,k,b,e,rfl,eb,hl,rfl⟩
section
variable {X:Cx}{pins:List (Addr×Obj)}{σ:St}{H:Hp}{s:Shared}{a:Addr}{y v:V}{u r:Value}{o:Option V}{A:Around}{E:Value→Shared→Prop}
theorem Inv.big (I:Inv X pins σ H s):sysModules<s.heap.objs.size:=by
 have h:mainGlobals<s.heap.objs.size:=(I.mod.glob.keeps I.bk).lt
 exact Nat.lt_trans (by decide) h
theorem J8y {Q:Value→Shared→Prop}(hu:A.units+1<cLine)(I:Inv X pins σ H s)(g:DGet H a y (some v))(ry:RelV y u)(h:∀ w' s',Inv X pins σ H s'→RelV v w'→Q w' s') :
 wpAny (model X.prog X.w) A (getItem (.ref a) u) Q E s:=by
 rcases g with ⟨kvs,k,e,ey,l⟩ | ⟨kvs,k,b,e,ey,eb,l⟩
 ·subst ey
  obtain ⟨z,hd,vs,rel,dd⟩:=Jab I.hok e
  obtain ⟨w',hw,rw'⟩:=RelO.some_of (v:=v) (o:=valueAt vs k) (by rw [l];exact rel.val k)
  exact wpAny_getItem_of (J68 ry) dd.mapOf hw (h w' _ (I.tok _) rw')
 ·subst ey
  cases (show u=Value.ref b from ry)
  obtain ⟨z,hd,xs,rel,dd⟩:=dt_rd I.hok e
  obtain ⟨w',hw,rw'⟩:=RelO.some_of (v:=v) (o:=(atKey xs k).map (·.2)) (by rw [l];exact rel.val k)
  obtain ⟨p,hp,hp2⟩:=Option.map_eq_some_iff.mp hw
  refine wpAny_getItem_heap (tupleKind_room_in1 hu) (J3Q I.hok eb) dd hp ?_
  rw [hp2]
  exact h w' _ (I.tok _) rw'
theorem J2L {h':Heap}{t':Nat}{ob:HO}(I:Inv X pins σ H s)(mu:Mut (H a))(hs:Heap.SameBut a s.heap h')(he:∃ q,h'.get? a=some q)(new:ObjOk X.prog X.w (upd H a ob) h' a ob) :
 Inv X pins σ (upd H a ob) { s with heap:=h',toks:=t' } :=
 I.write (x:=a) (e:=a) mu (.inl rfl) (fun b q hb z=>(hs.2 b hb).trans z) he new
theorem J7g {P:Program}{w:World}{H':Hp}{h':Heap}{kvs:List (Key×V)}{vs:List (Key×Value)}(z:kvs.length≤sizeLine)(hd:(a == sysModules)=false)(rel:KV kvs vs)(dd:h'.DictOf (J0q P w) a vs) :
 ObjOk P w H' h' a (.dK kvs):=⟨z,hd,vs,rel,dd⟩
theorem J8x {H':Hp}{Q:Unit→Shared→Prop}(hu:A.units+1<cLine)(I:Inv X pins σ H s)(g:DPut H a y v H')(ry:RelV y u)(rv:RelV v r)(h:∀ s',Inv X pins σ H' s'→Q () s') :
 wpAny (model X.prog X.w) A (setItem (.ref a) u r) Q E s:=by
 rcases g with ⟨kvs,k,e,ey,l,eH⟩ | ⟨kvs,k,b,e,ey,eb,l,eH⟩
 ·subst ey eH
  obtain ⟨z,hd,vs,rel,dd⟩:=JbN I.hok e
  have hz:vs.length≤sizeLine:=by rw [← rel.length];exact z
  have hl:(J0W kvs k v).length≤sizeLine:=by have:=J21 kvs k v;omega
  refine wpAny_setItem_pairs (hsz:=hz) (J68 ry) dd fun h' dd' hs=>h _ ?_
  have he:∃ q,h'.get? a=some q:=let ⟨q,_,_,hq,_⟩:=dd';⟨q,hq⟩
  exact J2L I (by rw [e];exact True.intro) hs he (J7g hl hd (rel.put k rv) dd')
 ·subst ey eH
  cases (show u=Value.ref b from ry)
  obtain ⟨z,hd,xs,rel,dd⟩:=Ja9 I.hok e
  have hz:xs.length≤sizeLine:=by rw [← Paired.length rel];exact z
  have hl:(J0W kvs k v).length≤sizeLine:=by have:=J21 kvs k v;omega
  refine wpAny_setItem_heap (hsz:=hz) (tupleKind_room_in1 hu) (J3Q I.hok eb) dd fun h' dd' hs=>h _ ?_
  obtain ⟨q,es,ep,hq,h2,h3,h4,_,h5⟩:=dd'
  refine J2L I (by rw [e];exact True.intro) hs ⟨q,hq⟩ ⟨hl,hd,_,(rel.put k eb rv).keeps fun c ys ec=>?_,q,es,ep,hq,h2,h3,h4,h5⟩
  rw [Jk (J3M ec e (fun z=>nomatch z))]
  exact ec
end
section
variable {X:Cx}{pins:List (Addr×Obj)}{σ:St}{H:Hp}{s:Shared}{a:Addr}{kvs:List (Key×V)}{k:Key}{u:Value}{A:Around}{E:Value→Shared→Prop}
end
def Jdd (i:Expr):Prop:=∀ ov iv,subscripted i false ov iv=operate [ov,iv] (getItem ov iv)
theorem JaH {prog:Program}{w:World}{A:Around}{E:Value→Shared→Prop}{s:Shared}{env:Env}{value slice:Expr}{pos:Pos}{T id:String}{Q:Value→Shared→Prop}
 (hl:typeLookup (.type T) "__getitem__"=pure (some (.builtin id))) (hs:Jdd slice)
 (h:wpAny (model prog w) A (eval value env) (fun o s₁=>wpAny (model prog w) A (eval slice env) (fun i s₂=>s₂.TypeIs o T∧wpAny (model prog w) A (getItem o i) Q E s₂) E s₁) E s) :
 wpAny (model prog w) A (eval (.Subscript value slice pos) env) Q E s:=by
 refine Subscript_ (wpAny_mono h (fun o s₁ h₁=>wpAny_mono h₁ (fun i s₂ h₂=>?_) fun _ _ x=>x) fun _ _ x=>x)
 obtain ⟨hT,h₂⟩:=h₂
 unfold subscriptTail
 refine wpAny_bind ?_
 rw [getitemInPython_of_ne hT.not_modules]
 refine wpAny_bind (wpAny_specialOf hT hl ?_)
 have fin:wpAny (model prog w) A (subscripted slice false o i) (fun r s₃=>wpAny (model prog w) A (letTemporaryGo value o r >>= fun _=>pure r) Q E s₃) E s₂:=by
  rw [hs o i]
  exact wpAny_operating (wpAny_mono h₂ (fun r s₃ h₃=>wpAny_bind (wpAny_letTemporaryGo (wpAny_pure h₃))) fun _ _ x=>x)
 first
  | exact wpAny_pure (wpAny_bind fin)
  | exact wpAny_bind (wpAny_pure (wpAny_bind fin))
  | exact wpAny_bind fin
theorem J6i {X:Cx}{pins:List (Addr×Obj)}{σ:St}{H:Hp}{s:Shared}{a:Addr}{y:V}{o:Option V}(I:Inv X pins σ H s)(g:DGet H a y o):s.TypeIs (.ref a) "dict":=by
 rcases g with ⟨kvs,k,e,_,_⟩ | ⟨kvs,k,b,e,_,_,_⟩
 ·obtain ⟨_,_,vs,_,dd⟩:=Jab I.hok e
  exact dd.typeIs
 ·obtain ⟨_,_,xs,_,dd⟩:=dt_rd I.hok e
  exact dd.typeIs
def J7u (td ty:TE):TE:=fun σ H Q=>td σ H fun x H1=>ty σ H1 fun y H2=>∃ a v,x=.ref a∧DGet H2 a y (some v)∧Q v H2
def JbX (ty td:TE):TE:=fun σ H Q=>ty σ H fun y H1=>td σ H1 fun x H2=>∃ a o,x=.ref a∧DGet H2 a y o∧Q (.bl o.isSome) H2
def J4J (ty td:TE):TE:=fun σ H Q=>ty σ H fun y H1=>td σ H1 fun x H2=>∃ a o,x=.ref a∧DGet H2 a y o∧Q (.bl (!o.isSome)) H2
def J7y (td ty tv:TE):TS:=fun D σ H=>tv σ H fun v H1=>td σ H1 fun x H2=>ty σ H2 fun y H3=>∃ a H4,x=.ref a∧DPut H3 a y v H4∧D.nx σ H4
section
variable {X:Cx}{o i e value:Expr}{pos pos' tpos:Pos}{td ty tv:TE}
theorem J13 (hu:X.A.units+1<cLine)(ho:PE X o td)(hi:PE X i ty)(hs:Jdd i):PE X (.Subscript o i pos) (J7u td ty):=by
 intro pins s σ H Q I h
 refine JaH PySem.F.slot_dict_getitem.lookup hs (thn (ho pins s σ H _ I h) fun u s1 ⟨x,H1,I1,rx,q1⟩=>thn (hi pins s1 σ H1 _ I1 q1) fun iv s2 ⟨y,H2,I2,ry,a,v,ex,g,q2⟩=>?_)
 subst ex
 obtain rfl:u=Value.ref a:=rx
 exact ⟨J6i I2 g,J8y hu I2 g ry fun w' s3 I3 rw'=>⟨v,H2,I3,rw',q2⟩⟩
theorem JaZ (hu:X.A.units+1<cLine)(ho:PE X o td)(hi:PE X i ty)(hv:PE X value tv)(hs:swapsWith value (some (.Subscript o i pos')) pos.line X.env=pure false) :
 PS X (.Assign [.Subscript o i pos'] value pos) (J7y td ty tv):=by
 intro pins s σ H D I h
 refine wpAny_Assign_Subscript (thn (hv pins s σ H _ I h) fun r s1 ⟨v,H1,I1,rv,q1⟩=>thn (ho pins s1 σ H1 _ I1 q1) fun u s2 ⟨x,H2,I2,rx,q2⟩=>thn (hi pins s2 σ H2 _ I2 q2) fun iv s3 ⟨y,H3,I3,ry,a,H4,ex,g,q3⟩=>?_) hs
 subst ex
 obtain rfl:u=Value.ref a:=rx
 exact J8x hu I3 g ry rv fun s4 I4=>⟨σ,H4,I4,q3⟩
end
theorem Jac {P:Program}{w:World}{H:Hp}(h:Heap)(hb:sysModules<h.objs.size):ObjOk P w H (h.push { cls:=.type "dict",data:=.dict #[] }) h.objs.size (.dK []) :=
 ⟨Nat.zero_le _,beq_eq_false_iff_ne.mpr (Ne.symm (Nat.ne_of_lt hb)),[],.nil,Heap.DictOf.new h⟩
theorem Jaa {P:Program}{w:World}{H:Hp}(h:Heap)(hb:sysModules<h.objs.size):ObjOk P w H (h.push { cls:=.type "dict",data:=.dict #[] }) h.objs.size (.dT []) :=
 ⟨Nat.zero_le _,beq_eq_false_iff_ne.mpr (Ne.symm (Nat.ne_of_lt hb)),[],.nil,_,#[],0,Heap.get?_push_size _ rfl,⟨rfl,rfl,rfl⟩,rfl,rfl,List.nodup_nil⟩
def J6A:TE:=fun _ H Q=>∀ p,H p=none→Q (.ref p) (upd H p (.dK []))
section
variable {X:Cx}{pos:Pos}
end
def J2g:List (TE×TE)→St→Hp→(List (V×V)→Hp→Prop)→Prop
 | [],_,H,Q=>Q [] H
 | (tk,tv)::r,σ,H,Q=>tk σ H fun x H1=>tv σ H1 fun y H2=>J2g r σ H2 fun ps H3=>Q ((x,y)::ps) H3
abbrev VV:List (V×V)→List (Value×Value)→Prop:=Paired fun p q=>RelV p.1 q.1∧RelV p.2 q.2
def PPs (X:Cx)(pos:Pos)(keys:List (Option Expr))(values:List Expr)(trs:List (TE×TE)):Prop :=
 ∀ (pins:List (Addr×Obj)) (s:Shared) (σ:St) (H:Hp) (Q:List (V×V)→Hp→Prop),Inv X pins σ H s→J2g trs σ H Q →
   wpAny (model X.prog X.w) X.A (evalPairs (pairTrees keys values X.env pos)) (fun vs s'=>∃ ps H',Inv X pins σ H' s'∧VV ps vs∧Q ps H') X.xe s
theorem J53 {X:Cx}{pos:Pos}:PPs X pos [] [] []:=fun pins s σ H Q I h=>pairTrees_nil_walk ⟨[],H,I,.nil,h⟩
theorem J1B {X:Cx}{pos:Pos}{k v:Expr}{ks:List (Option Expr)}{vs:List Expr}{tk tv:TE}{trs:List (TE×TE)}(hk:PE X k tk)(hv:PE X v tv)(hr:PPs X pos ks vs trs) :
 PPs X pos (some k::ks) (v::vs) ((tk,tv)::trs):=fun pins s σ H Q I h =>
 pairTrees_cons_walk (thn (hk pins s σ H _ I h) fun u s1 ⟨x,H1,I1,rx,q1⟩=>thn (hv pins s1 σ H1 _ I1 q1) fun w2 s2 ⟨y,H2,I2,ry,q2⟩ =>
  thn (hr pins s2 σ H2 _ I2 q2) fun ws s3 ⟨ps,H3,I3,rel,q3⟩=>⟨(x,y)::ps,H3,I3,.cons ⟨rx,ry⟩ rel,q3⟩)
noncomputable def J0d (kvs more:List (Key×V)):List (Key×V):=more.foldl (fun acc kv=>J0W acc kv.1 kv.2) kvs
theorem KV.merge:∀ {more:List (Key×V)} {rs:List (Key×Value)} {kvs:List (Key×V)} {vs:List (Key×Value)},KV more rs→KV kvs vs→KV (J0d kvs more) (merged vs rs):=by
 intro more rs kvs vs r
 unfold KV at r
 induction r generalizing kvs vs with
 | nil=>intro q;exact q
 | @cons p q ps qs h t ih =>
   intro r0
   have e:KV (J0W kvs p.1 p.2) (stored vs q.1 q.2):=by
    have:=r0.put p.1 h.2
    rw [← h.1];exact this
   exact ih e
theorem J1w:∀ (more kvs:List (Key×V)),(J0d kvs more).length≤kvs.length+more.length
 | [],kvs=>by show kvs.length≤kvs.length+0;omega
 | p::r,kvs=>by
   have h1:=J1w r (J0W kvs p.1 p.2)
   have h2:=J21 kvs p.1 p.2
   show (J0d (J0W kvs p.1 p.2) r).length≤_
   rw [List.length_cons];omega
theorem J3W {P:Program}{w:World}:∀ {kvs:List (Key×V)} {ws:List (Value×Value)},VV (kvs.map fun kv=>(kV kv.1,kv.2)) ws→∃ rs,Carries (J0q P w) ws rs∧KV kvs rs
 | [],_,r=>by rw [List.map_nil] at r;cases r;exact ⟨[],True.intro,.nil⟩
 | p :: kvs,_,r=>by
   rw [List.map_cons] at r
   cases r with
   | @cons a b as bs h t =>
     obtain ⟨rs,c,q⟩:=J3W (P:=P) (w:=w) t
     obtain ⟨b1,b2⟩:=b
     exact ⟨(p.1,b2)::rs,⟨J68 h.1,rfl,c⟩,.cons ⟨rfl,h.2⟩ q⟩
def J7t (trs:List (TE×TE)):TE:=fun σ H Q=>∀ p,H p=none→J2g trs σ (upd H p (.dK [])) fun ps H2=>H2 p=some (.dK [])∧∃ kvs:List (Key×V),ps=kvs.map (fun kv=>(kV kv.1,kv.2))∧kvs.length≤15∧Q (.ref p) (upd H2 p (.dK (J0d [] kvs)))
theorem J7H {X:Cx}{pos:Pos}{keys:List (Option Expr)}{values:List Expr}{trs:List (TE×TE)}(h:PPs X pos keys values trs)(hall:keys.all (·.isSome)=true)(hl:keys.length=values.length)(h0:keys≠[])
 (h15:keys.length≤15):PE X (.Dict keys values pos) (J7t trs):=by
 intro pins s σ H Q I q
 have hn:=I.hok.fresh (Nat.le_refl s.heap.objs.size)
 have I1:=I.laid (a:=s.heap.objs.size) (o:=.dK []) (h':=s.heap.push { cls:=.type "dict",data:=.dict #[] }) (t':=s.toks) (fun _ _ q=>Heap.get?_push_of_some _ q) (Nat.le_refl _) (Jac s.heap I.big)
 refine wpAny_Dict_walk (knd:=J0q X.prog X.w) hall hl h0 h15 (thn (h pins _ σ _ _ I1 (q _ hn)) fun ws s2 ⟨ps,H2,I2,rel,e,kvs,ep,lk,q2⟩=>?_)
 subst ep
 obtain ⟨rs,c,rk⟩:=J3W (P:=X.prog) (w:=X.w) rel
 obtain ⟨z,hd,vs0,r0,dd⟩:=JbN I2.hok e
 cases r0
 refine ⟨rs,c,dd,fun h' dd' hs=>⟨.ref s.heap.objs.size,_,?_,rfl,q2⟩⟩
 have hz:(J0d [] kvs).length≤sizeLine:=by
  have h1:=J1w kvs []
  rw [List.length_nil] at h1
  rw [sizeLine_eq];omega
 have he:∃ q,h'.get? s.heap.objs.size=some q:=let ⟨q,_,_,hq,_⟩:=dd';⟨q,hq⟩
 exact J2L I2 (by rw [e];exact True.intro) hs he (J7g hz hd (rk.merge .nil) dd')
structure M2 (X:Cx)(o:Expr)(m:Str)(apos:Pos)(e f:Expr)(cpos:Pos):Prop where
 base:attributeBase o m X.env (eval o X.env)=eval o X.env
 few:((backTo cpos (starEach [e,f] X.env)).all (fun x=>!x.1)&&(backToKw cpos (keywordEach [] X.env)).all (fun x=>x.1.isSome)
  && decide (([e,f]:List Expr).length+([]:List Keyword).length+(if ([]:List Keyword).isEmpty then 0 else 1)<30))=true
 line:(apos.endLine == cpos.line)=true
 trees:backTo cpos (starEach [e,f] X.env)=[(false,eval e X.env),(false,eval f X.env)]
section
variable {X:Cx}{pins:List (Addr×Obj)}{σ:St}{H:Hp}{s:Shared}{a:Addr}{y d:V}{u r:Value}{o:Option V}{A:Around}{E:Value→Shared→Prop}
end
section
variable {X:Cx}{o e f:Expr}{apos cpos:Pos}{td ty tx:TE}
end
section
variable {X:Cx}{pins:List (Addr×Obj)}{σ:St}{H:Hp}{s:Shared}{a:Addr}{kvs:List (Key×V)}{A:Around}{E:Value→Shared→Prop}
end
section
variable {X:Cx}{pins:List (Addr×Obj)}{σ:St}{H:Hp}{s:Shared}{a:Addr}{y:V}{u:Value}{A:Around}{E:Value→Shared→Prop}
end
end L2
namespace Att
open PySem PySem.W PySem.Calls PyProof.Rows
theorem J3i {P:Params}{h:Heap}:∀ (ns:List Int) (vs:List Value),WellAll P h vs (ns.map WData.int)→IntsAre vs ns:=by
 intro ns
 induction ns with
 | nil =>
   intro vs w
   rw [List.map_nil] at w
   cases w
   exact .nil
 | cons n ns ih =>
   intro vs w
   rw [List.map_cons] at w
   cases w with
   | cons a b =>
     cases a
     exact .cons _ _ (ih _ b)
theorem J87 {l:OpenLaw}{n:Nat}(hn:l.most=some n){P:Params}{h:Heap}{args:List WData}{vals:List Value}
 (hpre:l.row.toRowW.claim.pre args=true) (hwl:WellAll P h vals args) :
 ∃ a vs ns,vals=[Value.ref a]∧args=[WData.list (ns.map WData.int)]∧h.get? a=some { cls:=.type "list",data:=.seq vs.toArray }∧IntsAre vs ns∧ns.length≤n:=by
 have hsh:WShape.hasAll [] args [.list .int]=true:=(pre_splitW hpre).1
 have hc:l.pre.holds [] { args:=args }=true:=(pre_splitW hpre).2
 obtain ⟨d,r,rfl,h1,h2⟩:=hasAllW_cons hsh
 obtain rfl:=hasAllW_nil h2
 obtain ⟨xs,rfl,h3⟩:=hasW_list h1
 obtain ⟨ns,rfl⟩:=items_int h3
 have hlen:ns.length≤n:=by
  unfold OpenLaw.pre at hc
  have h4:(WTm.not (.lt (.lit (.int (n:Int))) (.len (.arg 0)))).holds [] { args:=[.list (ns.map .int)] }=true:=by
   have h4:=(holds_andW hc).1
   rw [hn] at h4
   exact h4
  have h5:=condW_of h4 (w_not (w_lt w_lit (w_len_list (w_arg rfl))))
  rw [List.length_map] at h5
  refine Nat.le_of_not_lt fun q=>?_
  have q':(n:Int)<((ns.length:Nat):Int):=by omega
  first
   | (rw [decide_eq_true q'] at h5;exact absurd h5 (by decide))
   | (simp at h5;omega)
 cases hwl with
 | cons w1 w2 =>
   cases w2
   cases w1 with
   | list ho hall=>exact ⟨_,_,ns,rfl,rfl,ho,J3i ns _ hall,hlen⟩
theorem J8c (l:OpenLaw)(args:List WData):l.row.toRowW.claim.post args (.bool true) args=true :=
 postW_of (r:=l.row.toRowW) (X:=(true == true))
  (show WShape.has [] (.bool true) .bool=true by first | rfl | decide | simp [WShape.has,WShape.arms,WShape.armsAll])
  (show (WTm.eq .res (.lit (.bool true))).value [] { args:=args,res:=some (.bool true),after:=args }=some (.bool (true == true)) from w_eq_bool (w_res rfl) w_lit) rfl
theorem attach_call {l:OpenLaw}{n:Nat}{q:Program}{loose:List Str}{XP:(Str→Option Value)→Heap→Prop}{YP:World→Heap→Prop}{d:DefRec}
 (hn:l.most=some n) (hdf:d.params.defaults=[])
 (call:∀ (w:World) (s₀ s₁:Shared) (mg mb:Str→Option Value) (fa:Addr) (o:Obj) (pm cd doc:Value) (a:Addr) (vs:List Value) (ns:List Int),
  Ground q loose [] XP w s₀ mg mb s₁.heap→YP w s₁.heap →
  s₁.heap.get? fa=some o→o.data=.func (docDef d.name d.params d.body d.scope pm cd doc)→s₁.heap.CodeRec cd d.name→mg d.name=some (.ref fa) →
  s₁.heap.get? a=some { cls:=.type "list",data:=.seq vs.toArray }→IntsAre vs ns→ns.length≤n→s₁.gens=#[] →
  codeAny (model l.prog w) callerA (.call (.ref fa) ⟨[.ref a],[]⟩) (fun r s'=>r=.ok (.ret (.bool true))∧OldK s₁.heap s'.heap∧s'.os=s₁.os∧AllBare s'.gens) s₁) :
 WalkO q loose XP YP l.row.toRowW d [] (fun f vs=>PySem.call f vs):=by
 intro w s₀ s₁ mg mb G Y fa o pm cd doc dV kV ho hd hcd hD hmg hg args vals as hpre hlay hrd hwl hlo
 obtain rfl:dV=.none:=Dflts.none hD hdf
 obtain rfl:kV=.none:=Dflts.noKw hD
 obtain ⟨a,vs,ns,rfl,rfl,hobj,hints,hlen⟩:=J87 hn hpre hwl
 refine enter_call (codeAny_mono (call w s₀ s₁ mg mb fa o pm cd doc a vs ns G Y ho (fd_plain hd) hcd hmg hobj hints hlen hg) fun r s' hq=>?_)
 obtain ⟨rfl,h2,h3,h4⟩:=hq
 exact ⟨.inl ⟨.bool true,.bool true,[],rfl,fun _=>rfl,.bool true,J8c l _,fun _=>⟨List.Pairwise.nil,fun _ hm=>(nomatch hm)⟩⟩,h2,h3,h4⟩
section
variable {prog:Program}{w:World}{A:Around}{E:Value→Shared→Prop}{s:Shared}{K:Frag}
end
end Att
namespace L2
open PySem PySem.Spec PyProof.Rows
theorem J4e:∀ {vs:List Value} {ns:List Int},IntsAre vs ns→Vals (ns.map V.int) vs
 | _,_,.nil=>.nil
 | _,_,.cons n t h=>.cons ⟨t,rfl⟩ (J4e h)
def JcQ (H:Hp):Prop:=∀ b,H b=none∨∃ o xs,H b=some (.frz o (.lst xs))
theorem law_call {P:Program}{w:World}{K:PySem.W.Frag}{mg mb:Str→Option Value}{CX:CXT}{k:Nat}{fa a:Addr}{fd:FuncData}{x:Str}{sp:Sp}{s₁:Shared}{vs:List Value}{ns:List Int}
 (KX:K.In s₁.heap) (hns:s₁.heap.Ns mainGlobals mg) (hb:s₁.heap.Ns builtinsNs mb) (hbb:∀ x:Str,x≠"__name__"→mb x=bootBuiltins x) (hlim:s₁.heap.NoLimit) (hg:s₁.gens=#[])
 (ha:s₁.heap.get? a=some { cls:=.type "list",data:=.seq vs.toArray }) (hi:IntsAre vs ns) (hl:ns.length≤sizeLine) (hr:Room k callerA)
 (F:∀ base:Heap,K.In base→base.Ns mainGlobals mg→FnOk P w K mg base CX k fa fd [x] sp) (hbind:∀ (s:Shared) (u:Value),BindsTo s fd ⟨[u],[]⟩ [(x,u)])
 (hsp:∀ H:Hp,JcQ H→SqL K H a (ns.map V.int)→sp [.ref a] H (fun v _=>v=.bl true) fun _ _ _=>False)
 (hCX:∀ H e s',CX [] H s₁ (fun _ _ _=>False) e s'→False) :
 codeAny (model P w) callerA (.call (.ref fa) ⟨[.ref a],[]⟩) (fun r s'=>r=.ok (.ret (.bool true))∧OldK s₁.heap s'.heap∧s'.os=s₁.os∧AllBare s'.gens) s₁:=by
 have rv:=J4e hi
 have lenV:=hi.length
 have core : ∀ H:Hp,JcQ H→SqL K H a (ns.map V.int)→HOk P w H s₁.heap→(∀ b,H b≠none→b=a)→(H a≠none→K.lookup a=none) →
  codeAny (model P w) callerA (.call (.ref fa) ⟨[.ref a],[]⟩) (fun r s'=>r=.ok (.ret (.bool true))∧OldK s₁.heap s'.heap∧s'.os=s₁.os∧AllBare s'.gens) s₁:=by
  intro H hO hS hok hA hK
  have base_of:∀ {b:Addr} {o:Obj},s₁.heap.get? b=some o→H b=none→(J5h s₁.heap H).get? b=some o:=fun e n=>Ja4 e n
  have noA:∀ {b:Addr} {o:Obj} {es:Array DictEntry} {ep:Nat},s₁.heap.get? b=some o→o.data=.dict es ep→H b=none:=fun {b o es ep} e d=>by
   cases q:H b with
   | none=>rfl
   | some u =>
     have e':b=a:=hA b (by rw [q];simp)
     subst e'
     rw [ha] at e;cases e
     have d':Data.seq vs.toArray _=Data.dict es ep:=d
     cases d'
  have nsK:∀ {b:Addr} {m:Str→Option Value},s₁.heap.Ns b m→(J5h s₁.heap H).Ns b m:=fun {b m} ⟨o,es,ep,e,d,r⟩=>⟨o,es,ep,base_of e (noA e d),d,r⟩
  have hKb:K.In (J5h s₁.heap H):=fun b o e=>base_of (KX b o e) (by
   cases q:H b with
   | none=>rfl
   | some u =>
     have e':b=a:=hA b (by rw [q];simp)
     subst e'
     rw [hK (by rw [q];simp)] at e;cases e)
  have hM:Mod K mg (J5h s₁.heap H):=⟨hKb,nsK hns,⟨mb,nsK hb,hbb⟩,let ⟨mc,h1,h2⟩:=hlim;⟨mc,nsK h1,h2⟩⟩
  have e0:Env0 P w K mg (J5h s₁.heap H) callerA [] s₁ H:=⟨rfl,hM,fun b o e=>Jbd e,Nat.le_of_eq (J8t _ _),trivial,fun b hb=>absurd (show b∈([]:List Addr) from hb) (by simp),hok,.of_eq hg⟩
  refine codeAny_mono ((F _ hKb (nsK hns)).run callerA [] s₁ H ⟨[.ref a],[]⟩ [.ref a] [.ref a] _ _ hr e0 (hbind s₁ (.ref a)) (.cons rfl .nil) (hsp H hO hS)) fun r s' h=>?_
  cases r with
  | error e=>exact (hCX H e s' h).elim
  | ok fl =>
    cases fl with
    | next=>exact False.elim h
    | brk=>exact False.elim h
    | cont=>exact False.elim h
    | ret u =>
      obtain ⟨v,H',os,bare,un,hok',r',q⟩:=h
      have q':v=.bl true:=q
      subst q'
      obtain rfl:u=Value.bool true:=r'
      refine ⟨rfl,OldK.of_keep fun b o e=>?_,os,bare⟩
      cases q:H b with
      | none=>exact un.keep b o e q (by intro z;exact absurd (show b∈([]:List Addr) from z) (by simp)) (by simp)
      | some u =>
        rcases hO b with z | ⟨ob,xs,z⟩
        ·rw [q] at z;cases z
        ·have z2:=un.frzs b ob _ z
         obtain ⟨e1,_⟩:=hok b _ z
         obtain ⟨e2,_⟩:=hok' b _ z2
         rw [e] at e1;cases e1
         exact e2
 cases hk:K.lookup a with
 | some o =>
   have e:=KX a o hk
   rw [ha] at e
   cases e
   refine core (fun _=>none) (fun _=>.inl rfl) (.inr ⟨_,vs.toArray,_,hk,rfl,rfl,rfl,by rw [List.size_toArray,lenV];exact hl,by simpa using rv⟩) (fun b u z=>by have z':(none:Option HO)=some u:=z;cases z') (fun b z=>absurd rfl z) fun z=>absurd rfl z
 | none =>
   refine core (fun b=>if b=a then some (.frz { cls:=.type "list",data:=.seq vs.toArray } (.lst (ns.map V.int))) else none) (fun b=>?_) (.inl (.inr ⟨{ cls:=.type "list",data:=.seq vs.toArray },if_pos rfl⟩)) (fun b u z=>?_) (fun b z=>?_) fun _=>hk
   ·by_cases hb:b=a
    ·exact .inr ⟨_,_,if_pos hb⟩
    ·exact .inl (if_neg hb)
   ·by_cases hb:b=a
    ·have z':=(if_pos hb).symm.trans z
     cases z'
     subst hb
     exact ⟨ha,by rw [List.length_map];exact hl,vs,_,rv,ha⟩
    ·have z':=(if_neg hb).symm.trans z
     cases z'
   ·by_cases hb:b=a
    ·exact hb
    ·exact absurd (if_neg hb) z
noncomputable abbrev KOf {K:PySem.W.Frag}{h:Heap}(_:K.In h):PySem.W.Frag:=K
theorem walk_of {l:PySem.W.OpenLaw}{n k:Nat}{q:Program}{loose:List Str}{XP:(Str→Option Value)→Heap→Prop}{YP:World→Heap→Prop}{d:DefRec}{K:Params→PySem.W.Frag}{CX:World→CXT}{sp:World→Sp}{x:Str}
 (hn:l.most=some n) (hn2:n≤sizeLine) (hdf:d.params.defaults=[]) (hr:Room k callerA)
 (hY:∀ (w:World) (h:Heap),YP w h→(K w.params).In h)
 (F:∀ (w:World) (mg:Str→Option Value) (fa:Addr) (h:Heap),(K w.params).In h→h.Ns mainGlobals mg→mg d.name=some (.ref fa) →
  ∃ fd:FuncData,(∀ (s:Shared) (u:Value),BindsTo s fd ⟨[u],[]⟩ [(x,u)]) ∧
    ∀ base:Heap,(K w.params).In base→base.Ns mainGlobals mg→FnOk l.prog w (K w.params) mg base (CX w) k fa fd [x] (sp w))
 (hsp:∀ (w:World) (H:Hp) (a:Addr) (ns:List Int),ns.length≤n→JcQ H→SqL (K w.params) H a (ns.map V.int)→sp w [.ref a] H (fun v _=>v=.bl true) fun _ _ _=>False)
 (hCX:∀ (w:World) (H:Hp) (s:Shared) (e:Value) (s':Shared),CX w [] H s (fun _ _ _=>False) e s'→False) :
 PySem.W.WalkO q loose XP YP l.row.toRowW d [] (fun f vs=>PySem.call f vs):=by
 refine Att.attach_call hn hdf fun w s₀ s₁ mg mb fa o pm cd doc a vs ns G Y ho hd hcd hmg hobj hints hlen hg=>?_
 have KX:=hY w _ Y
 obtain ⟨fd,hb,hF⟩:=F w mg fa _ KX G.T.g hmg
 exact law_call KX G.T.g G.T.b G.T.builtins G.T.nolimit hg hobj hints (Nat.le_trans hlen hn2) hr hF hb (fun H hO hS=>hsp w H a ns hlen hO hS) fun H e s'=>hCX w H s₁ e s'
noncomputable def Jh (s:Stmt):Arguments:=match s with
 | .FunctionDef _ a _ _ _ _ _ _ _ _=>a
 | _=>{ posonlyargs:=[],args:=[],vararg:=none,kwonlyargs:=[],kw_defaults:=[],kwarg:=none,defaults:=[] }
noncomputable def Jg (s:Stmt):List Stmt:=match s with
 | .FunctionDef _ _ b _ _ _ _ _ _ _=>b
 | _=>[]
noncomputable def J9 (s:Stmt):Scope:=match s with
 | .FunctionDef _ _ _ _ _ _ sc _ _ _=>sc
 | _=>{ kind:=.function,names:=[],isGenerator:=false,isCoroutine:=false }
abbrev CX0:CXT:=fun _ _ _ _ _ _=>False
abbrev E0:XK:=fun _ _ _=>False
theorem JbH {X:Cx}:J3Y CX0 X E0:=fun _ _ _ _ _ _ _ h=>h.elim
structure Fun (K:PySem.W.Frag)(x qual:Str)(st:Stmt)(f:Addr)(fd:FuncData):Prop where
 ex:∃ (oc:Value) (od:Option Addr) (kV doc pm:Value) (an:Option Addr) (cdv ct:Value) (osl:Array (Option Value)),
  fd=PySem.W.fnOf x qual (Jh st) (Jg st) (J9 st) .none kV doc pm an cdv ct∧K.lookup f=some ⟨oc,od,.func fd,osl⟩∧PySem.W.codeIn K cdv qual=true
 kp:PySem.W.keepIn K (.ref f)=true
section
variable {P:Program}{w:World}{K:PySem.W.Frag}{mg:Str→Option Value}{base:Heap}
theorem Fun.ok {x qual:Str}{st:Stmt}{f:Addr}{fd:FuncData}{N ps:List Str}{k:Nat}{sp:Sp}(F:Fun K x qual st f fd)(S:FnScope N ps (J9 st))(len:∀ vs H Q E,sp vs H Q E→vs.length=ps.length)
 (hbody:∀ (cdv:Value) (A:Around) (outer:List Env) (s:Shared) (H:Hp) (vs:List V) (Q:VK) (E:XK),Room k (A.deeper (envOfC qual (J9 st) s.heap.objs.size f cdv))→sp vs H Q E →
  ∃ t,PSs (J30 CX0 P w K mg base N qual (J9 st) f cdv A outer s H E).nox (Jg st) t∧t { nx:=fun _ H'=>Q .non H',rt:=Q } (start N vs) H):FnOk P w K mg base CX0 (k+1) f fd ps sp:=by
 obtain ⟨oc,od,kV,doc,pm,an,cdv,ct,osl,rfl,lk,hcd⟩:=F.ex
 refine JbM lk hcd S len fun A outer s H vs Q E hr hsp=>?_
 obtain ⟨t,h,q⟩:=hbody cdv A outer s H vs Q E hr hsp
 exact ⟨t,h.nox,q⟩
theorem Fun.binds {x qual:Str}{st:Stmt}{f:Addr}{fd:FuncData}{ps:List Str}(F:Fun K x qual st f fd)
 (h:∀ (kV doc pm:Value) (an:Option Addr) (cdv ct:Value) (us:List Value),us.length=ps.length→bindArgs (PySem.W.fnOf x qual (Jh st) (Jg st) (J9 st) .none kV doc pm an cdv ct) ⟨us,[]⟩=pure (ps.zip us)):Binds K fd ps []:=by
 obtain ⟨oc,od,kV,doc,pm,an,cdv,ct,osl,rfl,lk,hcd⟩:=F.ex
 exact .all (h kV doc pm an cdv ct)
theorem JD {x qual:Str}{st:Stmt}{f:Addr}{oc:Value}{od an:Option Addr}{osl:Array (Option Value)}{kV doc pm cdv ct:Value}(l:K.lookup f=some ⟨oc,od,.func (PySem.W.fnOf x qual (Jh st) (Jg st) (J9 st) .none kV doc pm an cdv ct),osl⟩)
 (c:PySem.W.codeIn K cdv qual=true) (k:PySem.W.keepIn K (.ref f)=true):Fun K x qual st f (PySem.W.fnOf x qual (Jh st) (Jg st) (J9 st) .none kV doc pm an cdv ct):=⟨⟨oc,od,kV,doc,pm,an,cdv,ct,osl,rfl,l,c⟩,k⟩
end
theorem J1F {A:Around}{k:Nat}(hr:Room k A):A.units+1<cLine:=Nat.lt_of_le_of_lt (Nat.add_le_add_left (by decide:1≤64) _) hr.units
section
variable {X:Cx}
end
theorem Jd9 {c A B:Prop}[Decidable c](h1:c→A)(h2:¬ c→B):if c then A else B:=by
 by_cases h:c
 ·rw [if_pos h]
  exact h1 h
 ·rw [if_neg h]
  exact h2 h
def Same (H H':Hp):Prop:=∀ b o,H b=some o→H' b=some o
theorem Same.refl (H:Hp):Same H H:=fun _ _ h=>h
theorem Same.trans {H H1 H2:Hp}(a:Same H H1)(b:Same H1 H2):Same H H2:=fun c o h=>b c o (a c o h)
theorem Same.seq {K:PySem.W.Frag}{H H':Hp}{a:Addr}{xs:List V}(e:Same H H')(h:SqL K H a xs):SqL K H' a xs:=by
 rcases h with (h | ⟨o,h⟩) | h
 ·exact .inl (.inl (e _ _ h))
 ·exact .inl (.inr ⟨o,e _ _ h⟩)
 ·exact .inr h
section
variable {X:Cx}
end
section
variable {κ:Type}[DecidableEq κ]
end
noncomputable abbrev J98 (ifs:List Expr)(env:Env):Sem Bool :=
 forIn ifs true fun c r=>if r=true then do let ok ← isTrue c env (eval c env);pure (ForInStep.yield ok) else pure (ForInStep.yield r)
theorem J8A {prog:Program}{w:World}{A:Around}{R:Result→Shared→Prop}{s:Shared}{elt tg iter:Expr}{ifs:List Expr}{scope:Scope}{pos:Pos}{it acc:Value}{env:Env}(I:Nat→Shared→Prop)
 (turn : ∀ n s,I n s→wpAny (model prog w) A (pyNext it) (fun r s1=>match r with
  | none=>R (.ok .next) s1
  | some v=>wpAny (model prog w) A (letOwnedTupleGo tg it v) (fun _ s2=>wpAny (model prog w) A (assign tg env v) (fun _ s3=>wpAny (model prog w) A (J98 ifs env) (fun ok s4 =>
   if ok=true then wpAny (model prog w) A (eval elt env) (fun x s5=>wpAny (model prog w) A (call (.builtin "list.append") [acc,x]) (fun _ s6=>∃ m,m<n∧I m s6) (fun _ _=>False) s5) (fun _ _=>False) s4
   else ∃ m,m<n∧I m s4) (fun _ _=>False) s3) (fun _ _=>False) s2) (fun _ _=>False) s1) (fun _ _=>False) s)
 (n:Nat) (h:I n s):codeAny (model prog w) A (.compLoop (.ListComp elt [⟨tg,iter,ifs,0⟩] scope pos) 0 it acc env) R s:=by
 refine codeAny_loop rfl I (fun n s hI=>?_) n h
 show wpAny _ A ((compTurn (.ListComp elt [⟨tg,iter,ifs,0⟩] scope pos) 0 it acc env).onRaise (fun x=>do noteFrame x env;theTreesLotGoes x)) _ _ s
 refine wpAny_noted (wpAny_noRaise ?_)
 rw [compTurn_list]
 refine wpAny_bind (wpAny_standAt (wpAny_bind (thn (turn n s hI) fun r s1 h1=>?_)))
 cases r with
 | none=>exact wpAny_pure h1
 | some v =>
   refine wpAny_bind (thn h1 fun _ s2 h2=>wpAny_bind (thn h2 fun _ s3 h3=>wpAny_bind (thn h3 fun ok s4 h4=>?_)))
   cases ok with
   | false=>exact wpAny_pure ⟨rfl,h4⟩
   | true=>exact wpAny_bind (wpAny_bind (thn h4 fun x s5 h5=>wpAny_bind (thn h5 fun _ s6 h6=>wpAny_pure (wpAny_pure ⟨rfl,h6⟩))))
theorem closure_go (env:Env):∀ (names:List (Str×NameKind)) (cs:List (Str×Addr)),(∀ n,(n,NameKind.free)∈names→∃ c,env.cells.lookup n=some c)→(∀ n c,cs.lookup n=some c→env.cells.lookup n=some c) →
 ∃ cl,(forIn names cs fun (p:Str×NameKind) (r:List (Str×Addr))=>(if p.2 == NameKind.free then do let c ← cellOf env p.1;pure (ForInStep.yield ((p.1,c)::r)) else pure (ForInStep.yield r):Sem (ForInStep (List (Str×Addr)))))=pure cl ∧
   (∀ n c,cl.lookup n=some c→env.cells.lookup n=some c)∧(∀ n,((n,NameKind.free)∈names∨∃ c,cs.lookup n=some c)→∃ c,cl.lookup n=some c)
 | [],cs,_,hcs=>⟨cs,rfl,hcs,fun n h=>h.elim (fun z=>nomatch z) id⟩
 | (m,k)::r,cs,hn,hcs=>by
   cases hk:k == NameKind.free with
   | false =>
     obtain ⟨cl,e,h1,h2⟩:=closure_go env r cs (fun n z=>hn n (List.mem_cons_of_mem _ z)) hcs
     refine ⟨cl,?_,h1,fun n z=>h2 n ?_⟩
     ·rw [List.forIn_cons];simp only [hk];exact e
     ·rcases z with z | z
      ·rcases List.mem_cons.mp z with q | q
       ·cases q;simp at hk
       ·exact .inl q
      ·exact .inr z
   | true =>
     have ek:k=NameKind.free:=by simpa using hk
     subst ek
     obtain ⟨c,hc⟩:=hn m List.mem_cons_self
     obtain ⟨cl,e,h1,h2⟩:=closure_go env r ((m,c)::cs) (fun n z=>hn n (List.mem_cons_of_mem _ z)) (fun n c' z=>by
      by_cases q:n=m
      ·subst q;simp [List.lookup_cons] at z;subst z;exact hc
      ·rw [List.lookup_cons,beq_eq_false_iff_ne.mpr q] at z;exact hcs n c' z)
     refine ⟨cl,?_,h1,fun n z=>h2 n ?_⟩
     ·rw [List.forIn_cons];simp only [cellOf,hc];exact e
     ·rcases z with z | ⟨c',z⟩
      ·rcases List.mem_cons.mp z with q | q
       ·cases q;exact .inr ⟨c,by simp [List.lookup_cons]⟩
       ·exact .inl q
      ·by_cases q:n=m
       ·subst q;exact .inr ⟨c,by simp [List.lookup_cons]⟩
       ·exact .inr ⟨c',by rw [List.lookup_cons,beq_eq_false_iff_ne.mpr q];exact z⟩
theorem J7h {scope:Scope}{env:Env}(hn:∀ n,(n,NameKind.free)∈scope.names→∃ c,env.cells.lookup n=some c) :
 ∃ cl,closureFor scope env=pure cl∧(∀ n c,cl.lookup n=some c→env.cells.lookup n=some c)∧(∀ n,(n,NameKind.free)∈scope.names→∃ c,cl.lookup n=some c):=by
 obtain ⟨cl,e,h1,h2⟩:=closure_go env scope.names [] hn (fun _ _ z=>nomatch z)
 refine ⟨cl,?_,h1,fun n z=>h2 n (.inl z)⟩
 unfold closureFor
 simp only [bind_pure]
 exact e
noncomputable def JQ (names onames:List (Str×NameKind)):List (Str×NameKind) :=
 names.map fun (n,k)=>if (k == .free&&onames.lookup n == some .cell) then (n,.cell) else (n,k)
noncomputable def Jai (sc osc:Scope)(N rest:List Str):Bool :=
 (sc.kind == .function&&osc.kind == .function&&sc.names.all fun y=>y.2 != .cell&&(y.2 != .local||sc.names.lookup y.1 == some .local)&&(y.2 != .free||osc.names.lookup y.1 == some .cell||osc.names.lookup y.1 == some .free))
 && N.length == rest.length&&(N.zip rest).all fun p=>match (JQ sc.names osc.names).lookup p.2 with
  | some .local=>false
  | some .cell=>p.1 == p.2&&(p.2,NameKind.free)∈sc.names&&(osc.names.lookup p.2 == some .cell||osc.names.lookup p.2 == some .free)
  | some .free=>p.1 == p.2&&(p.2,NameKind.free)∈sc.names&&(osc.names.lookup p.2 == some .cell||osc.names.lookup p.2 == some .free)
  | _=>true
structure CompSc (sc osc:Scope)(N rest:List Str):Prop where
 kind:sc.kind=.function
 okind:osc.kind=.function
 cell:∀ y∈sc.names,y.2≠.cell
 loc:∀ y∈sc.names,y.2=.local→sc.names.lookup y.1=some .local
 free:∀ n,(n,NameKind.free)∈sc.names→osc.names.lookup n=some .cell∨osc.names.lookup n=some .free
 len:N.length=rest.length
 look:∀ (i:Nat) x,rest[i]?=some x→((JQ sc.names osc.names).lookup x=some .local∨(JQ sc.names osc.names).lookup x=some .cell∨(JQ sc.names osc.names).lookup x=some .free) →
  N[i]?=some x∧(x,NameKind.free)∈sc.names∧(osc.names.lookup x=some .cell∨osc.names.lookup x=some .free)∧((JQ sc.names osc.names).lookup x=some .cell∨(JQ sc.names osc.names).lookup x=some .free)
theorem Jx {sc osc:Scope}{N rest:List Str}(h:Jai sc osc N rest=true):CompSc sc osc N rest:=by
 unfold Jai at h
 simp only [Bool.and_eq_true,beq_iff_eq,List.all_eq_true] at h
 obtain ⟨⟨⟨⟨hk,hok⟩,hy⟩,hl⟩,hz⟩:=h
 refine ⟨hk,hok,fun y z e=>?_,fun y z e=>?_,fun n z=>?_,hl,fun i x e v=>?_⟩
 ·have:=(hy y z).1.1;rw [e] at this;simp at this
 ·have:=(hy y z).1.2;rw [e] at this;simpa using this
 ·have:=(hy _ z).2;simpa using this
 ·have hi:i<rest.length:=(List.getElem?_eq_some_iff.mp e).1
  have hi':i<N.length:=by omega
  have hN:N[i]?=some N[i]:=List.getElem?_eq_getElem hi'
  have hm:(N[i],x)∈N.zip rest:=by
   refine List.mem_of_getElem? (i:=i) ?_
   rw [List.getElem?_zip_eq_some];exact ⟨hN,e⟩
  have q:=hz _ hm
  dsimp only at q
  rcases v with v | v | v
  ·rw [v] at q;simp at q
  ·rw [v] at q;simp only [Bool.and_eq_true,beq_iff_eq,Bool.or_eq_true,decide_eq_true_eq] at q
   obtain ⟨⟨q1,q2⟩,q3⟩:=q
   exact ⟨by rw [hN,q1],q2,q3,.inl v⟩
  ·rw [v] at q;simp only [Bool.and_eq_true,beq_iff_eq,Bool.or_eq_true,decide_eq_true_eq] at q
   obtain ⟨⟨q1,q2⟩,q3⟩:=q
   exact ⟨by rw [hN,q1],q2,q3,.inr v⟩
theorem J1s {sc:Scope}{env:Env}(hk:env.scope.kind=.function):(relabel sc env).names=JQ sc.names env.scope.names:=by
 unfold relabel JQ Env.kindOf
 simp [hk]
theorem J99 {names onames:List (Str×NameKind)}(hc:∀ y∈names,y.2≠.cell){x:Str}(h:(JQ names onames).lookup x=some .cell∨(JQ names onames).lookup x=some .free):(x,NameKind.free)∈names:=by
 have hm:(x,NameKind.cell)∈JQ names onames∨(x,NameKind.free)∈JQ names onames:=h.imp PySem.mem_of_lookup PySem.mem_of_lookup
 rcases hm with hm | hm
 ·obtain ⟨⟨n,k⟩,hn,e⟩:=List.mem_map.mp hm
  dsimp only at e
  split at e
  ·rename_i hh;cases e;simp at hh;obtain ⟨rfl,_⟩:=hh;exact hn
  ·cases e;exact absurd rfl (hc _ hn)
 ·obtain ⟨⟨n,k⟩,hn,e⟩:=List.mem_map.mp hm
  dsimp only at e
  split at e
  ·cases e
  ·cases e;exact hn
noncomputable def JT (X:Cx)(scope:Scope)(N':List Str)(cl:List (Str×Addr))(s2:Shared)(H2:Hp)(C:Addr)(fp:List Addr):Cx :=
 { X with N:=N',s₀:=s2,H₀:=H2,env:=compEnvC scope cl C X.env,outer:=X.stack,stack:=X.stack,ex:=fp,fn:=fun _=>false,pn:=[],xe:=fun _ _=>False }
section
variable {X:Cx}{pins:List (Addr×Obj)}{σ:St}{H2:Hp}{s2:Shared}{scope:Scope}{own rest:List Str}{cl:List (Str×Addr)}{fp:List Addr}{C:Addr}
theorem J8B (I:Inv X pins σ H2 s2)(S:CompSc scope X.env.scope X.N rest)(h1:∀ n c,cl.lookup n=some c→X.env.cells.lookup n=some c)(h2:∀ n,(n,NameKind.free)∈scope.names→∃ c,cl.lookup n=some c)
 (hC:s2.heap.objs.size≤C) (hf:∀ b∈fp,J24 X pins H2 b) (ho:∀ b∈fp,∃ o,s2.heap.get? b=some o):(JT X scope (own++rest) cl s2 H2 C fp).Ok where
 mod:=I.ok.mod
 kind:=S.kind
 glob:=I.ok.glob
 blt:=I.ok.blt
 above:=hC
 inj:=fun x y c e1 e2=>I.ok.inj x y c (h1 x c e1) (h1 y c e2)
 has:=fun x hx=>h2 x (J99 S.cell (by
  have e:(JT X scope (own++rest) cl s2 H2 C fp).env.kindOf x=(JQ scope.names X.env.scope.names).lookup x:=congrArg (List.lookup x) (J1s (sc:=scope) I.ok.kind)
  rw [e] at hx;exact hx))
 cab:=fun _ _ z=>nomatch z
 hd:=I.ok.hd
 frames:=I.ok.frames
 stk:=.inl rfl
 exf:=fun b hb=>by
  obtain ⟨o,e⟩:=ho b hb
  exact ⟨Nat.ne_of_lt (Nat.lt_of_lt_of_le (Heap.lt_size e) hC),fun x c e=>(hf b hb).2.2.2.2.1 x c (h1 x c e)⟩
 bs:=I.bs
 bsz:=Nat.le_trans I.ok.bsz I.sz
 noex:=fun b o e hb=>by
  rcases (hf b hb).2.2.2.1 with z | z
  ·exact I.ok.noex b o e z
  ·exact absurd (Nat.lt_of_lt_of_le (Heap.lt_size e) (Nat.le_trans I.ok.bsz z)) (Nat.lt_irrefl _)
 exfs:=fun b hb z=>by
  rcases List.mem_cons.mp (I.stkSub b z) with q | q
  ·exact (hf b hb).2.1 q
  ·exact (hf b hb).2.2.1 q
 funs:=I.stack
 frf:=I.stkFree
theorem comp_start {h1:Heap}{t1:Nat}(I:Inv X pins σ H2 s2)(S:CompSc scope X.env.scope X.N rest)(hc1:∀ n c,cl.lookup n=some c→X.env.cells.lookup n=some c)(hc2:∀ n,(n,NameKind.free)∈scope.names→∃ c,cl.lookup n=some c)
 (hC:s2.heap.objs.size≤C) (hf:∀ b∈fp,J24 X pins H2 b) (ho:∀ b∈fp,∃ o,s2.heap.get? b=some o)
 (old:∀ b o,s2.heap.get? b=some o→h1.get? b=some o) (ns:h1.Ns C fun _=>none) :
 Inv (JT X scope (own++rest) cl s2 H2 C fp) [] (List.replicate own.length none++σ) H2 { s2 with heap:=h1,toks:=t1 }:=by
 obtain ⟨m,hn,hl⟩:=id I.loc
 have hv:∀ x,Vis (JT X scope (own++rest) cl s2 H2 C fp).env.scope x→((JQ scope.names X.env.scope.names).lookup x=some .local∨(JQ scope.names X.env.scope.names).lookup x=some .cell∨(JQ scope.names X.env.scope.names).lookup x=some .free):=fun x z=>by
  have e:(JT X scope (own++rest) cl s2 H2 C fp).env.scope.names=JQ scope.names X.env.scope.names:=J1s (sc:=scope) I.ok.kind
  unfold Vis at z;rw [e] at z;exact z
 refine ⟨J8B I S hc1 hc2 hC hf ho,rfl,I.bare,Un.kept old,⟨_,ns,fun i x v e1 e2 e3=>?_⟩,fun x c e=>?_,I.hok.fresh hC,fun x c e=>I.freeC x c (hc1 x c e),fun p hp=>absurd (show p∈([]:List (Addr×Obj)) from hp) (by simp),I.hok.kept old,?_⟩
 ·have e1':(own++rest)[i]?=some x:=e1
  by_cases hi:i<own.length
  ·rw [List.getElem?_append_left (by simpa using hi),List.getElem?_replicate] at e2
   split at e2<;>cases e2
  ·have hi':own.length≤i:=Nat.le_of_not_lt hi
   rw [List.getElem?_append_right (by simpa using hi'),List.length_replicate] at e2
   rw [List.getElem?_append_right hi'] at e1'
   obtain ⟨q1,q2,q3,q4⟩:=S.look _ x e1' (hv x e3)
   obtain ⟨u,r,l⟩:=hl (i - own.length) x v q1 e2 (q3.elim (fun z=>.inr (.inl z)) fun z=>.inr (.inr z))
   refine ⟨u,r,.inr ⟨?_,?_⟩⟩
   ·have e:(JT X scope (own++rest) cl s2 H2 C fp).env.kindOf x=(JQ scope.names X.env.scope.names).lookup x:=congrArg (List.lookup x) (J1s (sc:=scope) I.ok.kind)
    rw [e];exact q4
   ·rcases l with ⟨k,_⟩ | ⟨_,c,e,z⟩
    ·have k':X.env.scope.names.lookup x=some .local:=k
     rcases q3 with q3 | q3<;>(rw [q3] at k';cases k')
    ·obtain ⟨c',e'⟩:=hc2 x q2
     have e2:=hc1 x c' e'
     rw [e] at e2;cases e2
     obtain ⟨o,q,d⟩:=z
     exact ⟨c,e',o,old c o q,d⟩
 ·obtain ⟨v,o,q,d⟩:=I.cell x c (hc1 x c e)
  exact ⟨v,o,old c o q,d⟩
 ·show _=(own++rest).length
  have:=I.len;have:=S.len
  simp only [List.length_append,List.length_replicate];omega
theorem Jah {H':Hp}{s':Shared}{σ':St}{D:Addr}{ys:List V}{its:List Value}{n:Nat}{pins':List (Addr×Obj)}(I:Inv X pins σ H2 s2)(J:Inv (JT X scope (own++rest) cl s2 H2 C fp) pins' σ' H' s')(hf:∀ b∈fp,J24 X pins H2 b)
 (hD:s2.heap.objs.size≤D) (hDn:H' D=none) (hDo:s'.heap.get? D=some { cls:=.type "list",data:=.seq its.toArray n }) (r:Vals ys its) (hz:ys.length≤sizeLine) :
 Inv X pins σ (upd H' D (.lst ys)) s':=by
 have u:Un (frs X.stack) fp H2 H' s2.heap s'.heap:=J.base
 have nD:∀ b o,s2.heap.get? b=some o→b≠D:=fun b o e=>Nat.ne_of_lt (Nat.lt_of_lt_of_le (Heap.lt_size e) hD)
 refine I.call' (ch:=fp) J.os ⟨u.keep,u.slot,fun b o e n hx=>?_,u.there,fun b xs e=>?_,fun b o v e=>?_,fun b ps e=>?_⟩ (fun b o e=>?_) J.bare fun b hb=>?_
 ·rw [Jk (nD b o e)];exact u.free b o e n hx
 ·rw [Jk (J03 (u.tups b xs e) hDn)];exact u.tups b xs e
 ·rw [Jk (J03 (u.frzs b o v e) hDn)];exact u.frzs b o v e
 ·obtain ⟨more,q⟩:=u.tbls b ps e
  exact ⟨more,by rw [Jk (J03 q hDn)];exact q⟩
 ·by_cases hb:b=D
  ·subst hb;rw [Jb] at e;cases e;exact ⟨hz,its,n,r,hDo⟩
  ·rw [Jk hb] at e
   exact (J.hok b o e).stay (fun c v _ q=>q) (fun c q=>by rw [Jk (J03 q hDn)];exact q) fun c xs q=>by rw [Jk (J03 q hDn)];exact q
 ·obtain ⟨_,f1,_,f3,f4,f5⟩:=hf b hb
  exact ⟨f3,f1,f4,f5⟩
end
def PTs (X:Cx)(ifs:List Expr)(t:TT):Prop :=
 ∀ (pins:List (Addr×Obj)) (s:Shared) (σ:St) (H:Hp) (Q:Bool→Hp→Prop),Inv X pins σ H s→t σ H Q→wpAny (model X.prog X.w) X.A (J98 ifs X.env) (TP X pins σ Q) X.xe s
def JaB:TT:=fun _ H Q=>Q true H
theorem J06 {X:Cx}:PTs X [] JaB:=fun _ _ _ H _ I h=>wpAny_tests_nil ⟨H,I,h⟩
theorem J7E {X:Cx}{c:Expr}{t:TT}(h:PT X c t):PTs X [c] t:=fun pins s σ H Q I q=>wpAny_tests_one (h pins s σ H Q I q)
def J4v (J:It)(g:TG)(tt:TT)(te:TE)(fin:List V→Hp→Prop)(σ0:St)(H1:Hp):Prop :=
 ∃ W : Nat→Nat→List V→St→Hp→Prop,(∃ m,W 0 m [] σ0 H1)∧∀ i m ys σ H,W i m ys σ H →
   (J.stop i H∧fin ys H)∨(J.go i H∧ys.length<sizeLine∧∃ N:List V→St→Hp→Prop,(∀ ys' σ' H',N ys' σ' H'→∃ m',m'<m∧W (i+1) m' ys' σ' H') ∧
    ∀ x H',J.yld i H x H'→g x σ H' fun σ2 H2=>tt σ2 H2 fun b H3=>if b=true then te σ2 H3 fun y H4=>N (ys++[y]) σ2 H4 else N ys σ2 H3)
section
variable {X:Cx}{pins:List (Addr×Obj)}{σ:St}{H2:Hp}{s2:Shared}{scope:Scope}{own rest:List Str}{cl:List (Str×Addr)}{fp:List Addr}{E:Value→Shared→Prop}
theorem comp_run {elt tg iter:Expr}{ifs:List Expr}{pos:Pos}{J:It}{it:Addr}{tn:Nat→Heap→Prop}{g:TG}{tt:TT}{te:TE}{fin:List V→Hp→Prop}{RR:Value→Addr→Result→Shared→Prop}{D:Nat}(hD:s2.heap.objs.size=D)(hcalm:X.calm=true)
 (I:Inv X pins σ H2 s2) (S:CompSc scope X.env.scope X.N rest) (hc1:∀ n c,cl.lookup n=some c→X.env.cells.lookup n=some c) (hc2:∀ n,(n,NameKind.free)∈scope.names→∃ c,cl.lookup n=some c)
 (T:Turn X.prog X.w X.K tg J fp it tn) (st:tn 0 s2.heap) (hf:∀ b∈fp,J24 X pins H2 b)
 (hg:PG (JT X scope (own++rest) cl s2 H2 (D+1:Nat) fp) tg g) (ht:PTs (JT X scope (own++rest) cl s2 H2 (D+1:Nat) fp) ifs tt)
 (he:PE (JT X scope (own++rest) cl s2 H2 (D+1:Nat) fp) elt te)
 (hw:J4v J g tt te fin (List.replicate own.length none++σ) H2)
 (hR:∀ (s':Shared) (H':Hp) (ys:List V),Inv X pins σ (upd H' D (.lst ys)) s'→(∃ m,s'.heap.Ns (D+1:Nat) m)→H' D=none→H' (D+1:Nat)=none→fin ys H'→RR (.ref D) (D+1:Nat) (.ok .next) s') :
 wpAny (model X.prog X.w) X.A (newList []) (fun acc s3=>wpAny (model X.prog X.w) X.A (newFunctionEnv scope X.env.globals cl [] X.env.qual none .none (some X.env)) (fun cenv s4 =>
  codeAny (model X.prog X.w) X.A (.compStart (.ListComp elt [⟨tg,iter,ifs,0⟩] scope pos) 0 (.ref it) acc { cenv with scope:=relabel scope X.env }) (RR acc cenv.locals) s4) E s3) E s2:=by
 refine wpAny_newObj_type (wpAny_newFunctionEnv S.cell (by intro y hy;simp at hy) (fun h1 hns hsb=>?_) S.kind)
 dsimp only at hns hsb ⊢
 generalize hHp:s2.heap.push { cls:=.type "list",dict:=none,data:=.seq ([]:List Value).toArray }=Hp2 at hns hsb ⊢
 have hC:Hp2.objs.size=s2.heap.objs.size+1:=by rw [← hHp,Heap.size_push]
 rw [hD] at hC
 rw [hC] at hns hsb ⊢
 rw [hD]
 have nDC:D≠D+1:=Nat.ne_of_lt (Nat.lt_succ_self _)
 have below:∀ b o,s2.heap.get? b=some o→b<D:=fun b o e=>by rw [← hD];exact Heap.lt_size e
 have old:∀ b o,s2.heap.get? b=some o→h1.get? b=some o:=fun b o e=>by
  exact hsb.extBut b o (Nat.ne_of_lt (Nat.lt_succ_of_lt (below b o e))) (Heap.get?_push_of_some _ (hHp ▸ Heap.get?_push_of_some _ e))
 have hDo:h1.get? D=some { cls:=.type "list",data:=.seq ([]:List Value).toArray 0 } :=
  hsb.extBut _ _ nDC (Heap.get?_push_of_some _ (by rw [← hHp,← hD];exact Heap.get?_push_size _ rfl))
 have hfo:∀ b∈fp,∃ o,s2.heap.get? b=some o:=fun b hb=>let ⟨o,e,_⟩:=T.obj 0 _ st b hb;⟨o,e⟩
 have st1:tn 0 h1:=T.keep _ _ _ st fun b hb o e=>old b o e
 have J0:Inv (JT X scope (own++rest) cl s2 H2 (D+1:Nat) fp) [] (List.replicate own.length none++σ) H2 { s2 with heap:=h1,toks:=s2.toks } :=
  comp_start I S hc1 hc2 (by omega) hf hfo old hns
 have nfs:D∉(JT X scope (own++rest) cl s2 H2 (D+1:Nat) fp).fs:=fun z=>by
  have z':D∈frs X.stack:=z
  rcases List.mem_cons.mp (I.stkSub D z') with q | q
  ·exact Nat.lt_irrefl D (by have h:=I.lt;rw [← q,hD] at h;exact h)
  ·exact I.nofs (Nat.le_of_eq hD) q
 have ncl:∀ x c,(JT X scope (own++rest) cl s2 H2 (D+1:Nat) fp).env.cells.lookup x=some c→c≠D:=fun x c e z=>by
  obtain ⟨v,o,q,d⟩:=I.cell x c (hc1 x c e)
  exact Nat.ne_of_lt (below c o q) z
 have loop:∀ s3:Shared,s3={ s2 with heap:=h1,toks:=s2.toks } →
  codeAny (model X.prog X.w) X.A (.compLoop (.ListComp elt [⟨tg,iter,ifs,0⟩] scope pos) 0 (.ref it) (.ref D) (compEnvC scope cl (D+1) X.env)) (RR (.ref D) (D+1)) s3:=by
  rintro s3 rfl
  obtain ⟨W,⟨m0,w0⟩,turn⟩:=hw
  refine J8A (fun m s'=>∃ (i:Nat) (ys:List V) (its:List Value) (n:Nat) (σ':St) (H':Hp),Inv (JT X scope (own++rest) cl s2 H2 (D+1:Nat) fp) [] σ' H' s'∧tn i s'.heap∧(∀ b∈fp,H' b=none) ∧
   s'.heap.get? D=some { cls:=.type "list",data:=.seq its.toArray n }∧H' D=none∧Vals ys its∧ys.length≤sizeLine∧W i m ys σ' H') ?_ m0
   ⟨0,[],[],0,_,H2,J0,st1,fun b hb=>(hf b hb).1,hDo,by rw [← hD];exact I.fresh,.nil,by simp,w0⟩
  rintro m s3 ⟨i,ys,its,n,σ3,H3,J3,st3,fr3,ho3,hn3,r3,z3,w3⟩
  have pin:∀ {σ':St} {H':Hp} {s':Shared},Inv (JT X scope (own++rest) cl s2 H2 (D+1:Nat) fp) [] σ' H' s'→s'.heap.get? D=some { cls:=.type "list",data:=.seq its.toArray n }→H' D=none →
   Inv (JT X scope (own++rest) cl s2 H2 (D+1:Nat) fp) [(D,{ cls:=.type "list",data:=.seq its.toArray n })] σ' H' s':=fun {σ' H' s'} K1 K2 K3 =>
   K1.pins_of fun p hp=>by
    have e:p=(D,{ cls:=.type "list",data:=.seq its.toArray n }):=by simpa using hp
    subst e
    exact ⟨K2,K3,nDC,nfs,fun v z=>nomatch z⟩
  have fpk:∀ {H':Hp},(∀ b∈fp,H' b=none)→∀ b∈fp,J24 (JT X scope (own++rest) cl s2 H2 (D+1:Nat) fp) [(D,{ cls:=.type "list",data:=.seq its.toArray n })] H' b:=fun {H'} fr b hb=>by
   obtain ⟨o,e⟩:=hfo b hb
   have lt:=below b o e
   refine ⟨fr b hb,Nat.ne_of_lt (Nat.lt_succ_of_lt lt),?_,.inl hb,fun x c q=>(hf b hb).2.2.2.2.1 x c (hc1 x c q),fun p hp=>?_⟩
   ·intro z
    have z':b∈frs X.stack:=z
    rcases List.mem_cons.mp (I.stkSub b z') with q | q
    ·exact (hf b hb).2.1 q
    ·exact (hf b hb).2.2.1 q
   ·have e:p=(D,{ cls:=.type "list",data:=.seq its.toArray n }):=by
     have hp':p∈[(D,({ cls:=.type "list",data:=.seq its.toArray n }:Obj))]:=hp
     simpa using hp'
    subst e
    exact Nat.ne_of_gt lt
  have J3p:=pin J3 ho3 hn3
  rcases turn i m ys σ3 H3 w3 with ⟨stop,q⟩ | ⟨go,hlt,N,hN,step⟩
  ·refine thn (T.done (JT X scope (own++rest) cl s2 H2 (D+1:Nat) fp) rfl rfl rfl hcalm i _ s3 σ3 H3 _ J3p (fpk fr3) st3 stop) fun r s4 ⟨hr,J4⟩=>?_
   subst hr
   have ho4:=J4.pin _ (List.mem_append_right _ List.mem_cons_self)
   refine hR s4 H3 ys (Jah I J4 hf (by omega) hn3 ho4.1 r3 z3) ?_ hn3 J4.free q
   obtain ⟨mm,hmm,_⟩:=J4.loc
   exact ⟨mm,hmm⟩
  ·refine thn (T.item (JT X scope (own++rest) cl s2 H2 (D+1:Nat) fp) rfl rfl rfl hcalm i _ s3 σ3 H3 _ J3p (fpk fr3) st3 go) fun r s4 ⟨u,hr,h4⟩=>?_
   subst hr
   refine thn h4 fun _ s5 ⟨x,H5,J5,r5,y5,st5,fr5⟩=>?_
   have J5':=J5.pinned (fpk fr5) (T.obj _ _ st5)
   refine thn (hg _ s5 σ3 H5 x u _ J5' r5 (step x H5 y5)) fun _ s6 ⟨σ6,H6,J6,q6⟩=>?_
   refine thn (ht _ s6 σ6 H6 _ J6 q6) fun b s7 ⟨H7,J7,q7⟩=>?_
   have stay:∀ {σ':St} {H':Hp} {s':Shared},Inv (JT X scope (own++rest) cl s2 H2 (D+1:Nat) fp) ([(D,{ cls:=.type "list",data:=.seq its.toArray n })]++J3E fp s5.heap) σ' H' s' →
    Inv (JT X scope (own++rest) cl s2 H2 (D+1:Nat) fp) [] σ' H' s'∧tn (i+1) s'.heap∧(∀ b∈fp,H' b=none)∧s'.heap.get? D=some { cls:=.type "list",data:=.seq its.toArray n }∧H' D=none:=fun {σ' H' s'} K1=>by
    refine ⟨K1.pins_of fun p hp=>absurd hp (by simp),T.keep _ _ _ st5 fun b hb o e=>(K1.pin (b,o) (List.mem_append_right _ (List.mem_append_right _ (J1M hb e)))).1,fun b hb=>?_,?_,?_⟩
    ·obtain ⟨o,e,d⟩:=T.obj _ _ st5 b hb
     exact (K1.pin (b,o) (List.mem_append_right _ (List.mem_append_right _ (J1M hb e)))).2.1
    ·exact (K1.pin (D,_) (List.mem_append_right _ (List.mem_append_left _ List.mem_cons_self))).1
    ·exact (K1.pin (D,_) (List.mem_append_right _ (List.mem_append_left _ List.mem_cons_self))).2.1
   cases b with
   | false =>
     rw [if_neg Bool.false_ne_true] at q7 ⊢
     obtain ⟨k1,k2,k3,k4,k5⟩:=stay J7
     obtain ⟨m',hm,w'⟩:=hN _ _ _ q7
     exact ⟨m',hm,i+1,ys,its,n,σ6,H7,k1,k2,k3,k4,k5,r3,z3,w'⟩
   | true =>
     rw [if_pos rfl] at q7 ⊢
     refine thn (he _ s7 σ6 H7 _ J7 q7) fun xv s8 ⟨y,H8,J8,r8,q8⟩=>?_
     obtain ⟨k1,k2,k3,k4,k5⟩:=stay J8
     refine call_meets F.slot_list_append ⟨_,k4,rfl⟩ F.entry_list_append (F.args_list_append_2 _ _) (PySem.list_append D its.toArray n xv (by rw [List.size_toArray,← r3.length];omega)) ⟨k4,?_⟩
     obtain ⟨m',hm,w'⟩:=hN _ _ _ q8
     have ho9:=PySem.IsL.update k4 (fun a=>a.push xv)
     have ek:∀ b o,b≠D→s8.heap.get? b=some o→(s8.heap.update D (Obj.mapSeq (fun a=>a.push xv))).get? b=some o:=fun b o hb e=>(Heap.get?_update_other s8.heap (Obj.mapSeq _) (Ne.symm hb)).trans e
     refine ⟨m',hm,i+1,ys++[y],its++[xv],(if ((its.toArray.push xv).size == its.toArray.size)=true then n else n+1),σ6,H8,k1.turned (it:=D) (t':=s8.toks) ek k5 nDC (.inr (show s2.heap.objs.size≤D by omega)) ncl (fun p hp=>absurd (show p∈([]:List (Addr×Obj)) from hp) (by simp)),?_,k3,?_,k5,r3.append (.cons r8 .nil),?_,w'⟩
     ·refine T.keep _ _ _ k2 fun b hb o e=>ek b o ?_ e
      obtain ⟨o',e'⟩:=hfo b hb
      exact Nat.ne_of_lt (below b o' e')
     ·have e2:its.toArray.push xv=(its++[xv]).toArray:=by simp
      rw [← e2];exact ho9
     ·simp only [List.length_append,List.length_cons,List.length_nil];omega
 exact codeAny_compStart_list (loop _ rfl) (T.self X.A 0 _ _ _ st1 (loop _ rfl))
end
def J4g (k:Nat)(wi:TI)(g:TG)(tt:TT)(te:TE):TE:=fun σ H Q=>wi σ H fun J H1=>J4v J g tt te (fun ys H'=>∀ D,H' D=none→Q (.ref D) (upd H' D (.lst ys))) (List.replicate k none++σ) H1
section
variable {X:Cx}{elt tg iter:Expr}{ifs:List Expr}{scope:Scope}{pos:Pos}{wi:TI}{g:TG}{tt:TT}{te:TE}
theorem Inv.closed {pins:List (Addr×Obj)}{σ:St}{H:Hp}{s:Shared}{N rest:List Str}(I:Inv X pins σ H s)(S:CompSc scope X.env.scope N rest) :
 ∃ cl,closureFor scope X.env=pure cl∧(∀ n c,cl.lookup n=some c→X.env.cells.lookup n=some c)∧(∀ n,(n,NameKind.free)∈scope.names→∃ c,cl.lookup n=some c) :=
 J7h fun n z=>I.ok.has n (S.free n z)
theorem Inv.letgo {pins pins':List (Addr×Obj)}{σ σ':St}{H H':Hp}{s s':Shared}{b:Addr}{h':Heap}(I:Inv X pins σ H s)(J:Inv X pins σ' H' s')(hb:s.heap.objs.size≤b)(hn:H' b=none)(sb:Heap.SameBut b s'.heap h'):Inv X pins σ' H' { s' with heap:=h' }:=by
 obtain ⟨f0,f1,f2,f3,f4,f5⟩:=I.fpOk hb hn
 exact J.turned (t':=s'.toks) (fun c o hc e=>(sb.2 c hc).trans e) f0 f1 f3 f4 f5
theorem J0y (own rest:List Str)(hcalm:X.calm=true)(S:CompSc scope X.env.scope X.N rest)(hi:PI X tg iter wi)
 (hg:∀ cl s2 H2 C fp,PG (JT X scope (own++rest) cl s2 H2 C fp) tg g) (ht:∀ cl s2 H2 C fp,PTs (JT X scope (own++rest) cl s2 H2 C fp) ifs tt) (he:∀ cl s2 H2 C fp,PE (JT X scope (own++rest) cl s2 H2 C fp) elt te)
 (hs:∀ x,foldedSetIterable iter X.env x=pure x:=by intro _;rfl):PE X (.ListComp elt [⟨tg,iter,ifs,0⟩] scope pos) (J4g own.length wi g tt te):=by
 intro pins s σ H Q I h
 obtain ⟨cl,hcl,hc1,hc2⟩:=I.closed S
 rw [eval_ListComp]
 refine wpAny_comprehension_free (use:=none) rfl hs hcl S.kind S.loc (thn (hi pins s σ H _ I h) fun v s1 h1=>thn h1 fun itv s2 h2=>?_)
 obtain ⟨it,fp,tn,J,H2,e,I2,T,st,hf,hw⟩:=h2
 subst e
 refine comp_run (RR:=fun acc C=>compPost (model X.prog X.w) X.A X.xe none (EP X pins σ Q) acc C) (D:=s2.heap.objs.size) rfl hcalm I2 S hc1 hc2 T st hf (hg _ _ _ _ _) (ht _ _ _ _ _) (he _ _ _ _ _) hw ?_
 intro s' H' ys J' ⟨m,hm⟩ hD hC q
 refine ⟨m,hm,fun h' sb=>⟨.ref s2.heap.objs.size,_,I2.letgo (pins':=pins) (b:=(s2.heap.objs.size+1:Nat)) J' (Nat.le_succ _) ?_ sb,rfl,q _ hD⟩⟩
 rw [Jk (Nat.ne_of_gt (Nat.lt_succ_self _))];exact hC
theorem J25 {i:Nat}{y:Str}{py spos:Pos}(own rest:List Str)(hcalm:X.calm=true)(S:CompSc scope X.env.scope X.N rest)(hN:X.N.Nodup)(hy:X.N[i]?=some y)(hl:X.env.scope.names.lookup y=some .local)(hi:PI X tg iter wi)
 (hg:∀ cl s2 H2 C fp,PG (JT X scope (own++rest) cl s2 H2 C fp) tg g) (ht:∀ cl s2 H2 C fp,PTs (JT X scope (own++rest) cl s2 H2 C fp) ifs tt) (he:∀ cl s2 H2 C fp,PE (JT X scope (own++rest) cl s2 H2 C fp) elt te)
 (hsw:swapsWith (.ListComp elt [⟨tg,iter,ifs,0⟩] scope pos) (some (.Name y py)) spos.line X.env=pure true:=by rfl)
 (hs:∀ x,foldedSetIterable iter X.env x=pure x:=by intro _;rfl):PS X (.Assign [.Name y py] (.ListComp elt [⟨tg,iter,ifs,0⟩] scope pos) spos) (J3a (J4g own.length wi g tt te) (J0s i)):=by
 intro pins s σ H D I h
 obtain ⟨cl,hcl,hc1,hc2⟩:=I.closed S
 rw [exec_Assign_Name_used _ _ _ _ hsw]
 refine wpAny_bind (wpAny_standAt (wpAny_bind ?_))
 show wpAny _ X.A (do let _ ← comprehension (.ListComp elt [⟨tg,iter,ifs,0⟩] scope pos) scope X.env _ (newList []) false (eval iter X.env) (some (assign (.Name y py) X.env))) _ _ s
 refine wpAny_bind (wpAny_mono (wpAny_comprehension_free (use:=some (assign (.Name y py) X.env)) (Q:=fun _ s'=>SP X pins D .next s') rfl hs hcl S.kind S.loc (thn (hi pins s σ H _ I h) fun v s1 h1=>thn h1 fun itv s2 h2=>?_)) (fun _ s' hq=>wpAny_pure (wpAny_pure hq)) fun _ _ e=>e)
 obtain ⟨it,fp,tn,J,H2,e,I2,T,st,hf,hw⟩:=h2
 subst e
 refine comp_run (RR:=fun acc C=>compPost (model X.prog X.w) X.A X.xe (some (assign (.Name y py) X.env)) (fun _ s'=>SP X pins D .next s') acc C) (D:=s2.heap.objs.size) rfl hcalm I2 S hc1 hc2 T st hf (hg _ _ _ _ _) (ht _ _ _ _ _) (he _ _ _ _ _) hw ?_
 intro s' H' ys J' ⟨m,hm⟩ hD hC q
 show wpAny _ X.A (assign (.Name y py) X.env (.ref s2.heap.objs.size)) _ _ s'
 refine wpAny_assign_Name (store_ok2 (v:=.ref s2.heap.objs.size) J' hN hy (.inl hl) rfl (fun s3 J3 ⟨a,sb,ha⟩=>?_) (.inr hl))
 have hne:s2.heap.objs.size+1≠a:=by
  rcases ha with ha | ha
  ·rw [ha];exact Nat.ne_of_gt (Nat.lt_succ_of_lt I2.lt)
  ·obtain ⟨v,o,e,d⟩:=I2.cell y a ha
   exact Nat.ne_of_gt (Nat.lt_succ_of_lt (Heap.lt_size e))
 refine ⟨m,hm.sameBut sb hne,fun h' sb'=>⟨_,_,I2.letgo (pins':=pins) (b:=(s2.heap.objs.size+1:Nat)) J3 (Nat.le_succ _) ?_ sb',q _ hD⟩⟩
 rw [Jk (Nat.ne_of_gt (Nat.lt_succ_self _))];exact hC
end
structure Walk (J:It)(xs:List V)(ok:Hp→Prop):Prop where
 go:∀ i H,ok H→i<xs.length→J.go i H
 yld:∀ i H x H',ok H→i<xs.length→J.yld i H x H'→H'=H∧xs[i]?=some x
 stop:∀ H,ok H→J.stop xs.length H
theorem J01 {K:PySem.W.Frag}{a:Addr}{xs:List V}:Walk (Itl K a) xs (fun H=>SqL K H a xs) where
 go:=fun i H q hi=>⟨xs,xs[i],q,by simp [hi]⟩
 yld:=fun i H x H' q _ y=>⟨y.1,y.2 xs q⟩
 stop:=fun H q=>⟨xs,q,Nat.le_refl _⟩
theorem J1T {K:PySem.W.Frag}{a:Addr}{xs:List V}:Walk (Itt K a) xs (fun H=>SqT K H a xs) where
 go:=fun i H q hi=>⟨xs,xs[i],q,by simp [hi]⟩
 yld:=fun i H x H' q _ y=>⟨y.1,y.2 xs q⟩
 stop:=fun H q=>⟨xs,q,Nat.le_refl _⟩
noncomputable def J2T (lo:Int)(n:Nat):List V:=(List.range n).map fun (i:Nat)=>V.int (lo+i)
theorem JC (lo:Int)(n:Nat):(J2T lo n).length=n:=by simp [J2T]
theorem J3D {lo:Int}{n i:Nat}(h:i<n):(J2T lo n)[i]?=some (.int (lo+i)):=by simp [J2T,h]
theorem JR {lo:Int}{n:Nat}:Walk (Itr lo n) (J2T lo n) (fun _=>True) where
 go:=fun i H _ hi=>by rw [JC] at hi;exact hi
 yld:=fun i H x H' _ hi y=>⟨y.1,by rw [JC] at hi;rw [J3D hi,y.2]⟩
 stop:=fun H _=>Nat.le_of_eq (JC lo n).symm
theorem Ja7 {J:It}{xs:List V}{ok:Hp→Prop}(w:Walk J xs ok){g:TG}{tb:TS}{D:Ends}{σ:St}{H:Hp}(Pv:Nat→St→Hp→Prop)(h0:Pv 0 σ H)(hl:∀ i σ H,i≤xs.length→Pv i σ H→ok H)
 (hs:∀ i x σ H,xs[i]?=some x→Pv i σ H→g x σ H fun σ2 H2=>tb { D with nx:=Pv (i+1),ct:=Pv (i+1),bk:=D.nx } σ2 H2) (hd:∀ σ H,Pv xs.length σ H→D.nx σ H) :
 ∃ W:Nat→Nat→St→Hp→Prop,(∃ m,W 0 m σ H)∧∀ i m σ H,W i m σ H →
   (J.stop i H∧D.nx σ H)∨(J.go i H∧∃ N:St→Hp→Prop,(∀ σ' H',N σ' H'→∃ m',m'<m∧W (i+1) m' σ' H')∧∀ x H',J.yld i H x H'→g x σ H' fun σ2 H2=>tb { D with nx:=N,ct:=N,bk:=D.nx } σ2 H2):=by
 refine ⟨fun i m σ H=>m=xs.length - i∧i≤xs.length∧Pv i σ H,⟨xs.length,by simp,Nat.zero_le _,h0⟩,?_⟩
 rintro i m σ H ⟨rfl,hi,p⟩
 have q:=hl i σ H hi p
 by_cases hlt:i<xs.length
 ·refine .inr ⟨w.go i H q hlt,Pv (i+1),fun σ' H' p'=>⟨xs.length - (i+1),by omega,rfl,hlt,p'⟩,fun x H' y=>?_⟩
  obtain ⟨e,y'⟩:=w.yld i H x H' q hlt y
  subst e
  exact hs i x σ _ y' p
 ·have e:i=xs.length:=by omega
  subst e
  exact .inl ⟨w.stop H q,hd σ H p⟩
theorem J02 {J:It}{xs:List V}{ok:Hp→Prop}(w:Walk J xs ok){tt:TT}{te:TE}{fin:List V→Hp→Prop}{σ:St}{H:Hp}(hz:xs.length≤sizeLine)(Pv:Nat→List V→Hp→Prop)(h0:Pv 0 [] H)(hl:∀ i ys H,i≤xs.length→Pv i ys H→ok H)
 (hlen:∀ i ys H,Pv i ys H→ys.length≤i)
 (hs:∀ i x ys H,xs[i]?=some x→Pv i ys H→tt (some x::σ) H fun b H3=>if b=true then te (some x::σ) H3 fun y H4=>(∃ o,some x::σ=o::σ)∧Pv (i+1) (ys++[y]) H4 else (∃ o,some x::σ=o::σ)∧Pv (i+1) ys H3) (hd:∀ ys H,Pv xs.length ys H→fin ys H) :
 J4v J (J0s 0) tt te fin (List.replicate 1 none++σ) H:=by
 refine ⟨fun i m ys σ' H=>m=xs.length - i∧i≤xs.length∧(∃ o,σ'=o::σ)∧Pv i ys H,⟨xs.length,by simp,Nat.zero_le _,⟨none,rfl⟩,h0⟩,?_⟩
 rintro i m ys σ' H ⟨rfl,hi,⟨o,rfl⟩,p⟩
 have hy:=hlen i ys H p
 have q:=hl i ys H hi p
 by_cases hlt:i<xs.length
 ·refine .inr ⟨w.go i H q hlt,by omega,fun ys' σ' H'=>(∃ o,σ'=o::σ)∧Pv (i+1) ys' H',fun ys' σ' H' p'=>⟨xs.length - (i+1),by omega,rfl,hlt,p'⟩,fun x H' y=>?_⟩
  obtain ⟨e,y'⟩:=w.yld i H x H' q hlt y
  subst e
  exact hs i x ys _ y' p
 ·have e:i=xs.length:=by omega
  subst e
  exact .inl ⟨w.stop H q,hd ys H p⟩
noncomputable def sgn (c:Nat):V:=.str ⟨#[c]⟩
noncomputable def Its (z:Str):It:=⟨fun i _=>i<z.cps.size,fun i H x H'=>H'=H∧∃ c,z.cps[i]?=some c∧x=sgn c,fun i _=>i=z.cps.size⟩
theorem J3s {P:Program}{w:World}{K:PySem.W.Frag}{tg:Expr}{it:Addr}{T:String}{z:Str}{t:Tok}(hT:["enumerate","zip","dict_itemiterator","dict_reverseitemiterator","odict_iterator","itertools.zip_longest","itertools.pairwise"].contains T=false)
 (W:∀ A:Around,A.handled=none→Walks P w A it [it] [it] z.cps.size (SignAt z) (fun i h=>h.IsStrIter it T z t i)) (S:∀ (A:Around) (i:Nat) (s:Shared) (Q:Value→Shared→Prop) (E:Value→Shared→Prop),s.heap.IsStrIter it T z t i→Q (.ref it) s→wpAny (model P w) A (pyIter (.ref it)) Q E s) :
 Turn P w K tg (Its z) [it] it (fun i h=>h.IsStrIter it T z t i) where
 mem:=by simp
 obj:=fun i h st b hb=>by
  have e:b=it:=by simpa using hb
  subst e
  obtain ⟨o,e,c,d⟩:=st
  exact ⟨o,e,fun v z=>by rw [d] at z;cases z⟩
 keep:=fun i h h' st k=>by obtain ⟨o,e,r⟩:=st;exact ⟨o,k it (by simp) o e,r⟩
 item:=by
  intro X hP hw hK hc i pins s σ H E I hf st hg
  subst hP hw hK
  obtain ⟨f0,f1,f2,f3,f4,f5⟩:=hf it (by simp)
  refine (W X.A (I.ok.hd hc)).item i s _ E hg st fun v h' tk hP st' k=>?_
  obtain ⟨c,u,hcu,rfl⟩:=hP
  have I1:Inv X pins σ H { s with heap:=h',toks:=tk }:=I.turned (t':=tk) (fun b o hb e=>k b o (by simpa using hb) e) f0 f1 f3 f4 f5
  obtain ⟨o,e,c',d⟩:=id st'
  exact ⟨_,rfl,go_of (s:={ s with heap:=h',toks:=tk }) e c' d hT ⟨sgn c,H,I1,⟨u,rfl⟩,⟨rfl,c,hcu,rfl⟩,st',fun b hb=>(hf b hb).1⟩⟩
 done:=by
  intro X hP hw hK hc i pins s σ H E I hf st hg
  subst hP hw hK
  obtain ⟨f0,f1,f2,f3,f4,f5⟩:=hf it (by simp)
  have hg':i=z.cps.size:=hg
  subst hg'
  exact (W X.A (I.ok.hd hc)).done s _ E st fun h' tk k=>⟨rfl,I.turned (t':=tk) (fun b o hb e=>k b o (by simpa using hb) e) f0 f1 f3 f4 f5⟩
 self:=fun A i s Q E st h=>S A i s Q E st h
section
variable {X:Cx}{tg:Expr}
def Jbp (tl:TE):TI:=fun σ H R=>tl σ H fun x H1=>∃ z,x=.str z∧R (Its z) H1
theorem Jcb {l:Expr}{tl:TE}(hl:PE X l tl):PI X tg l (Jbp tl):=by
 intro pins s σ H R I h
 refine thn (hl pins s σ H _ I h) fun v s1 ⟨x,H1,I1,r1,q1⟩=>?_
 obtain ⟨z,e,q⟩:=q1
 subst e
 obtain ⟨t,rfl⟩:=r1
 have fp:∀ (o:Obj),∀ b∈[s1.heap.objs.size],J24 X pins H1 b:=fun o b hb=>by
  have e:b=s1.heap.objs.size:=by simpa using hb
  subst e
  exact I1.fpOk (Nat.le_refl _) (I1.hok.fresh (Nat.le_refl _))
 cases ha:z.cps.all (·<128)
 ·refine wpAny_pyIter_wide ha ?_
  exact ⟨s1.heap.objs.size,[s1.heap.objs.size],_,_,H1,rfl,I1.kept (t':=s1.toks) fun b o e=>Heap.get?_push_of_some _ e,
   J3s (by decide) (fun A hA=>Walks.strWide hA _ z t) (fun _ _ _ _ _ st h=>wpAny_pyIter_striter_wide st h),⟨_,Heap.get?_push_size _ rfl,rfl,rfl⟩,fp default,q⟩
 ·refine wpAny_pyIter_ascii ha ?_
  exact ⟨s1.heap.objs.size,[s1.heap.objs.size],_,_,H1,rfl,I1.kept (t':=s1.toks) fun b o e=>Heap.get?_push_of_some _ e,
   J3s (by decide) (fun A hA=>Walks.strAscii hA _ z t) (fun _ _ _ _ _ st h=>wpAny_pyIter_striter_ascii st h),⟨_,Heap.get?_push_size _ rfl,rfl,rfl⟩,fp default,q⟩
end
noncomputable def J4W (z:Str):List V:=z.cps.toList.map sgn
theorem J3A (z:Str):(J4W z).length=z.length:=by simp [J4W,Str.length]
mutual
def Rep (K:PySem.W.Frag)(H:Hp):PyData→V→Prop
 | .none,v=>v=.non
 | .bool b,v=>v=.bl b
 | .int i,v=>v=.int i
 | .str x,v=>v=.str x
 | .list ds,v=>∃ a xs,v=.ref a∧SqL K H a xs∧Reps K H ds xs
 | .tuple ds,v=>∃ a xs,v=.ref a∧SqT K H a xs∧Reps K H ds xs
 | .dict _,_=>False
def Reps (K:PySem.W.Frag)(H:Hp):List PyData→List V→Prop
 | [],vs=>vs=[]
 | d::ds,vs=>∃ v r,vs=v::r∧Rep K H d v∧Reps K H ds r
end
section
variable {X:Cx}{pins:List (Addr×Obj)}{σ:St}{H:Hp}{s:Shared}
mutual
theorem Rep.reads (I:Inv X pins σ H s):∀ (d:PyData) (v:V) (u:Value),Rep X.K H d v→RelV v u→∃ as,Reads s.heap u d as
 | .none,v,u,h,r=>by
   have e:v=.non:=by simpa [Rep] using h
   subst e;cases r;exact ⟨_,.none⟩
 | .bool b,v,u,h,r=>by
   have e:v=.bl b:=by simpa [Rep] using h
   subst e;cases r;exact ⟨_,.bool b⟩
 | .int i,v,u,h,r=>by
   have e:v=.int i:=by simpa [Rep] using h
   subst e;obtain ⟨t,rfl⟩:=r;exact ⟨_,.int i t⟩
 | .str x,v,u,h,r=>by
   have e:v=.str x:=by simpa [Rep] using h
   subst e;obtain ⟨t,rfl⟩:=r;exact ⟨_,.str x t⟩
 | .list ds,v,u,h,r=>by
   obtain ⟨a,xs,rfl,hs,hr⟩:∃ a xs,v=.ref a∧SqL X.K H a xs∧Reps X.K H ds xs:=by simpa only [Rep] using h
   cases r
   obtain ⟨its,rv,p,hz⟩:=I.list hs
   obtain ⟨o,ho,hc,n,hd⟩:=p.isList
   obtain ⟨as,q⟩:=Reps.reads I ds xs its hr rv
   exact ⟨_,.list ho hc hd (by simpa using q)⟩
 | .tuple ds,v,u,h,r=>by
   obtain ⟨a,xs,rfl,hs,hr⟩:∃ a xs,v=.ref a∧SqT X.K H a xs∧Reps X.K H ds xs:=by simpa only [Rep] using h
   cases r
   obtain ⟨its,rv,p,hz⟩:=I.tuple hs
   obtain ⟨o,ho,hc,n,hd⟩:=p
   obtain ⟨as,q⟩:=Reps.reads I ds xs its hr rv
   exact ⟨_,.tuple ho hc hd (by simpa using q)⟩
 | .dict _,v,u,h,r=>by simp [Rep] at h
theorem Reps.reads (I:Inv X pins σ H s):∀ (ds:List PyData) (vs:List V) (us:List Value),Reps X.K H ds vs→Vals vs us→∃ as,ReadsAll s.heap us ds as
 | [],vs,us,h,r=>by
   have e:vs=[]:=by simpa [Reps] using h
   subst e;cases r;exact ⟨_,.nil⟩
 | d :: ds,vs,us,h,r=>by
   obtain ⟨v,q,rfl,h1,h2⟩:∃ v r,vs=v::r∧Rep X.K H d v∧Reps X.K H ds r:=by simpa only [Reps] using h
   cases r with
   | cons r1 r2 =>
     obtain ⟨as,q1⟩:=Rep.reads I d v _ h1 r1
     obtain ⟨bs,q2⟩:=Reps.reads I ds q _ h2 r2
     exact ⟨_,.cons q1 q2⟩
end
end
section
variable {X:Cx}
def J89 (K:PySem.W.Frag)(neg:Bool):R2:=fun x y H Q=>∃ d e,Rep K H d x∧Rep K H e y∧SeqAt.shaped d=true∧SeqAt.shaped e=true∧Q (.bl (if neg then !PyData.eqv d e else PyData.eqv d e)) H
theorem Jck (hu:X.A.units+64<cLine):OpR X (compareOp .Eq) (J89 X.K false):=by
 intro pins s σ H x y v u Q I rx ry h
 obtain ⟨d,e,h1,h2,h3,h4,q⟩:=h
 obtain ⟨as,q1⟩:=Rep.reads I d x v h1 rx
 obtain ⟨bs,q2⟩:=Rep.reads I e y u h2 ry
 exact eq_dataH q1 q2 h3 h4 hu (Js I q rfl)
def Jdh (K:PySem.W.Frag):List V→Hp→VK→Prop:=fun xs H Q=>∃ x T t b,xs=[x,.ty T]∧TyOf K H x t∧PySem.W.kitOne K t (.type T)=some b∧Q (.bl b) H
theorem Jam:J0e X (.builtin "isinstance") (Jdh X.K):=by
 intro pins s σ H xs us Q I r h
 obtain ⟨x,T,t,b,rfl,ty,e,q⟩:=h
 obtain ⟨u,c,rfl,ru,rc⟩:=J5t r
 cases rc
 exact J8r I ru ty e fun tk=>⟨.bl b,H,I.tok _,rfl,q⟩
theorem J6n:∀ {bs:List Bool} {us:List Value},Vals (bs.map V.bl) us→LSm.BoolsAre us bs
 | [],_,.nil=>.nil
 | _::_,_,.cons r t=>by cases r;exact .cons _ (J6n t)
def J9o (K:PySem.W.Frag)(g:List Bool→Bool):List V→Hp→VK→Prop:=fun xs H Q=>∃ a bs,xs=[.ref a]∧SqL K H a (bs.map V.bl)∧Q (.bl (g bs)) H
theorem Jap (hc:X.calm=true):J0e X (.builtin "all") (J9o X.K fun bs=>bs.all id):=by
 intro pins s σ H xs us Q I r h
 obtain ⟨a,bs,rfl,hs,q⟩:=h
 obtain ⟨u,rfl,ru⟩:=J0Z r
 cases ru
 obtain ⟨its,rv,p,hz⟩:=I.list hs
 have hl:=p.isList
 have hb:=J6n rv
 have hlt:a<s.heap.objs.size:=by obtain ⟨_,e,_⟩:=hl;exact Heap.lt_size e
 refine call_all_walk (wpAny_pyIter_list hl ?_)
 refine ⟨s.heap.objs.size,[s.heap.objs.size,a],[s.heap.objs.size],its.toArray.size,_,_,fun i=>(bs[i]?).getD true,rfl,Walks.list (A:=X.A.in1) (I.ok.hd hc) _ a (Nat.ne_of_lt hlt) its.toArray,
  ⟨⟨_,Heap.get?_push_size _ rfl,rfl,rfl⟩,hl.push _⟩,fun i v s' Q' E' hP hQ=>?_,fun h' tk hk=>?_⟩
 ·obtain ⟨b,e,rfl⟩:=hb.get i v (by simpa using hP)
  simp only [e,Option.getD_some] at hQ
  exact wpAny_truthy_bool hQ
 ·have e:((List.range its.toArray.size).all fun i=>(bs[i]?).getD true)=bs.all id:=by
   rw [List.size_toArray,hb.length];exact LSm.range_all bs
  rw [e]
  exact ⟨.bl (bs.all id),H,I.kept (LSm.kept_iter hk),rfl,q⟩
theorem strs_of:∀ {ys:List Str} {us:List Value},Vals (ys.map V.str) us→StrsAre us ys
 | [],_,.nil=>.nil
 | _::_,_,.cons r t=>by obtain ⟨k,rfl⟩:=r;exact .cons _ _ (strs_of t)
def J9i (K:PySem.W.Frag):V→List V→Hp→VK→Prop:=fun x vs H Q=>∃ z a ys,x=.str z∧vs=[.ref a]∧SqL K H a (ys.map V.str)∧(ys.map (·.length)).sum+ys.length * z.length≤16777216∧Q (.str (Txt.join z ys)) H
theorem Jbi:MtR X "str.join" (J9i X.K):=by
 intro pins s σ H x vs v us Q I rx rv h
 obtain ⟨z,a,ys,rfl,rfl,hs,hz,q⟩:=h
 obtain ⟨t,rfl⟩:=rx
 obtain ⟨u,rfl,ru⟩:=rv.one
 cases ru
 obtain ⟨its,r2,p,_⟩:=I.list hs
 exact join_list p.isList (by simpa using strs_of r2) hz fun t' k=>⟨.str _,H,I.tok _,⟨_,rfl⟩,q⟩
end
section
variable {X:Cx}
theorem J5Q:OpR X (compareOp .IsNot) (fun x y H Q=>∃ b,y=.bl b∧Q (.bl (!decide (x=.bl b))) H):=by
 intro pins s σ H x y v u Q I rx ry h
 obtain ⟨b,rfl,q⟩:=h
 cases ry
 cases x with
 | bl c=>cases rx;exact isnot_bool (Js I q (by cases b<;>cases c<;>rfl))
 | non=>cases rx;exact wpAny_pure (Js I q rfl)
 | int i=>obtain ⟨t,rfl⟩:=rx;exact wpAny_pure (Js I q rfl)
 | str i=>obtain ⟨t,rfl⟩:=rx;exact wpAny_pure (Js I q rfl)
 | byt i=>obtain ⟨t,rfl⟩:=rx;exact wpAny_pure (Js I q rfl)
 | flt i=>obtain ⟨t,rfl⟩:=rx;exact wpAny_pure (Js I q rfl)
 | ref i=>cases rx;exact wpAny_pure (Js I q rfl)
 | ty i=>cases rx;exact wpAny_pure (Js I q rfl)
structure DefOk (K:PySem.W.Frag)(mg:Str→Option Value)(x:Str)(st:Stmt)(ps:List Str)(f:Addr)(fd:FuncData):Prop where
 F:Fun K x x st f fd
 b:Binds K fd ps []
 m:mg x=some (.ref f)
theorem pvl (i:Nat){x:Str}{pos:Pos}(hN:X.N[i]?=some x:=by rfl)(hv:X.env.scope.names.lookup x=some .local:=by rfl)(hd:(x == ("__debug__":Str))=false:=by decide)(hcd:(x == ("__classdict__":Str))=false:=by decide):PE X (.Name x pos) (J4B i):=J9w hN (.inl hv) hd hcd
theorem pvc (i:Nat){x:Str}{pos:Pos}(hN:X.N[i]?=some x:=by rfl)(hv:X.env.scope.names.lookup x=some .cell:=by rfl)(hd:(x == ("__debug__":Str))=false:=by decide)(hcd:(x == ("__classdict__":Str))=false:=by decide):PE X (.Name x pos) (J4B i):=J9w hN (.inr (.inl hv)) hd hcd
theorem pgl (i:Nat){x:Str}{pos:Pos}(hN:X.N.Nodup)(hi:X.N[i]?=some x:=by rfl)(hv:X.env.scope.names.lookup x=some .local:=by rfl):PG X (.Name x pos) (J0s i):=J7G hN hi (.inl hv) (.inr hv)
theorem pgc (i:Nat){x:Str}{pos:Pos}(hN:X.N.Nodup)(hi:X.N[i]?=some x:=by rfl)(hv:X.env.scope.names.lookup x=some .cell:=by rfl)(hf:X.fn x=true:=by rfl):PG X (.Name x pos) (J0s i):=J7G hN hi (.inr hv) (.inl hf)
theorem psl (i:Nat){x:Str}{pos pos':Pos}{e:Expr}{te:TE}(hN:X.N.Nodup)(he:PE X e te)(hi:X.N[i]?=some x:=by rfl)(hv:X.env.scope.names.lookup x=some .local:=by rfl)(hs:swapsWith e (some (.Name x pos')) pos.line X.env=pure false:=by rfl) :
 PS X (.Assign [.Name x pos'] e pos) (J3a te (J0s i)):=J9q hN hi (.inl hv) he hs (.inr hv)
theorem psc (i:Nat){x:Str}{pos pos':Pos}{e:Expr}{te:TE}(hN:X.N.Nodup)(he:PE X e te)(hi:X.N[i]?=some x:=by rfl)(hv:X.env.scope.names.lookup x=some .cell:=by rfl)(hs:swapsWith e (some (.Name x pos')) pos.line X.env=pure false:=by rfl)(hf:X.fn x=true:=by rfl) :
 PS X (.Assign [.Name x pos'] e pos) (J3a te (J0s i)):=J9q hN hi (.inr hv) he hs (.inl hf)
theorem pgi {x:Str}{i:Int}{pos:Pos}(hm:∃ tk,X.mg x=some (.int i tk))(hg:Gl X x:=by rfl)(hd:(x == ("__debug__":Str))=false:=by decide):PE X (.Name x pos) (tC (.int i)):=let ⟨t,e⟩:=hm;J55 hg e ⟨t,rfl⟩ hd
theorem pgs {x:Str}{z:Str}{pos:Pos}(hm:∃ tk,X.mg x=some (.str z tk))(hg:Gl X x:=by rfl)(hd:(x == ("__debug__":Str))=false:=by decide):PE X (.Name x pos) (tC (.str z)):=let ⟨t,e⟩:=hm;J55 hg e ⟨t,rfl⟩ hd
theorem pty {x:Str}{T:String}{pos:Pos}(hm:X.mg x=none)(hv:bootBuiltins x=some (.type T))(hg:Gl X x:=by rfl)(hn:x≠"__name__":=by decide)(hd:(x == ("__debug__":Str))=false:=by decide):PE X (.Name x pos) (tC (.ty T)):=Jba hg hm hv rfl hn hd
end
theorem Same.new {H H':Hp}(e:Same H H'){p:Addr}(h:H' p=none)(o:HO):Same H (upd H' p o):=fun b q z=>by
 rw [Jk (J03 (e b q z) h)];exact e b q z
theorem Same.upd_new {H:Hp}{p:Addr}(h:H p=none)(o:HO):Same H (upd H p o):=(Same.refl H).new h o
theorem Same.set {H H':Hp}(e:Same H H'){p:Addr}(h:H p=none)(o:HO):Same H (upd H' p o):=fun b q z=>by
 rw [Jk (J03 z h)];exact e b q z
theorem Same.seqT {K:PySem.W.Frag}{H H':Hp}{a:Addr}{xs:List V}(e:Same H H')(h:SqT K H a xs):SqT K H' a xs:=by
 rcases h with (h | ⟨o,h⟩) | h
 ·exact .inl (.inl (e _ _ h))
 ·exact .inl (.inr ⟨o,e _ _ h⟩)
 ·exact .inr h
theorem JL:bootBuiltins "len"=some (.builtin "len"):=by decide +kernel
theorem Jas:bootBuiltins "all"=some (.builtin "all"):=by decide +kernel
theorem JcL:bootBuiltins "abs"=some (.builtin "abs"):=by decide +kernel
theorem JcJ:bootBuiltins "sum"=some (.builtin "sum"):=by decide +kernel
theorem J08:bootBuiltins "isinstance"=some (.builtin "isinstance"):=by decide +kernel
theorem J5o:bootBuiltins "int"=some (.type "int"):=by decide +kernel
theorem Jar:bootBuiltins "str"=some (.type "str"):=by decide +kernel
theorem J7W:bootBuiltins "bool"=some (.type "bool"):=by decide +kernel
theorem J2M:bootBuiltins "list"=some (.type "list"):=by decide +kernel
theorem J1m:bootBuiltins "tuple"=some (.type "tuple"):=by decide +kernel
theorem J7V:bootBuiltins "dict"=some (.type "dict"):=by decide +kernel
theorem Jc {n:Nat}(h:n≤1000000):n≤sizeLine:=by rw [sizeLine_eq];omega
theorem J8M {z:Str}:Walk (Its z) (J4W z) (fun _=>True) where
 go:=fun i H _ hi=>by rw [J3A] at hi;exact hi
 yld:=fun i H x H' _ hi y=>by
  obtain ⟨e,c,hc,hx⟩:=y
  refine ⟨e,?_⟩
  rw [hx,J4W,List.getElem?_map]
  have:z.cps.toList[i]?=some c:=by simpa using hc
  rw [this];rfl
 stop:=fun H _=>J3A z
theorem J17 {α:Type}{xs:List α}{i:Nat}{x:α}(h:xs[i]?=some x):xs.take (i+1)=xs.take i++[x]:=by rw [List.take_add_one,h];rfl
theorem comp_of {α:Type}{J:It}{as:List α}{g:α→V}{ok:Hp→Prop}(w:Walk J (as.map g) ok){tt:TT}{te:TE}{fin:List V→Hp→Prop}{σ:St}{H:Hp}(hz:as.length≤sizeLine)(h0:∀ H',Same H H'→ok H')(p:α→Bool)(f:α→V)
 (ht:∀ a H1 Q,a∈as→Same H H1→(∀ H2,Same H1 H2→Q (p a) H2)→tt (some (g a)::σ) H1 Q)
 (he:∀ a H1 Q,a∈as→p a=true→Same H H1→(∀ H2,Same H1 H2→Q (f a) H2)→te (some (g a)::σ) H1 Q)
 (hd:∀ H',Same H H'→fin ((as.filter p).map f) H'):J4v J (J0s 0) tt te fin (none::σ) H:=by
 refine J02 w (by rw [List.length_map];exact hz) (fun i ys H'=>Same H H'∧ys=((as.take i).filter p).map f) ⟨Same.refl H,rfl⟩ (fun i ys H' _ q=>h0 H' q.1) (fun i ys H' q=>?_) (fun i x ys H' hx q=>?_) (fun ys H' q=>?_)
 ·rw [q.2,List.length_map]
  exact Nat.le_trans (List.length_filter_le _ _) (by rw [List.length_take];omega)
 ·obtain ⟨s1,e⟩:=q
  rw [List.getElem?_map] at hx
  cases ha:as[i]? with
  | none=>rw [ha] at hx;cases hx
  | some a =>
    rw [ha] at hx
    have hx':g a=x:=Option.some.inj hx
    subst hx'
    have hm:a∈as:=List.mem_of_getElem? ha
    refine ht a H' _ hm s1 fun H2 s2=>?_
    cases hp:p a with
    | false =>
      rw [if_neg Bool.false_ne_true]
      exact ⟨⟨_,rfl⟩,s1.trans s2,by rw [e,J17 ha,List.filter_append,List.map_append];simp [hp]⟩
    | true =>
      rw [if_pos rfl]
      exact he a H2 _ hm hp (s1.trans s2) fun H3 s3=>⟨⟨_,rfl⟩,(s1.trans s2).trans s3,by rw [e,J17 ha,List.filter_append,List.map_append];simp [hp]⟩
 ·obtain ⟨s1,e⟩:=q
  rw [e,List.length_map,List.take_length]
  exact hd H' s1
theorem J2k {α:Type}(as:List α):as.filter (fun _=>true)=as:=List.filter_eq_self.mpr fun _ _=>rfl
theorem JcD (g:Str)(c:Nat):(!(Builtin.Str.occurrences g ⟨#[c]⟩ 0 g.length 1).isEmpty)=decide (c∈g.cps.toList):=PySem.StrLaws.found_one g c
noncomputable def J26:List String:=["NoneType","bool","int","str","list","tuple","dict"]
structure Pl (K:PySem.W.Frag)(H:Hp)(x:V)(T:String):Prop where
 ty:TyOf K H x (.type T)
 mem:T∈J26
 sz:∀ z,x=.str z→z.length≤sizeLine
noncomputable def J69 (T S:String):Bool:=T == S||(T == "bool"&&S == "int")
theorem J8s {K:PySem.W.Frag}{T S:String}(hT:T∈J26)(hS:S∈J26):PySem.W.kitOne K (.type T) (.type S)=some (J69 T S):=by
 simp only [J26,List.mem_cons,List.not_mem_nil,or_false] at hT hS
 rcases hT with rfl | rfl | rfl | rfl | rfl | rfl | rfl<;>rcases hS with rfl | rfl | rfl | rfl | rfl | rfl | rfl<;>rfl
theorem Pl.of_str {K:PySem.W.Frag}{H:Hp}{z:Str}(h:z.length≤sizeLine):Pl K H (.str z) "str":=⟨.str z,by decide,fun _ e=>by cases e;exact h⟩
theorem Pl.of_int {K:PySem.W.Frag}{H:Hp}{i:Int}:Pl K H (.int i) "int":=⟨.int i,by decide,fun _ e=>by cases e⟩
theorem Pl.of_bl {K:PySem.W.Frag}{H:Hp}{b:Bool}:Pl K H (.bl b) "bool":=⟨.bl b,by decide,fun _ e=>by cases e⟩
theorem Pl.of_non {K:PySem.W.Frag}{H:Hp}:Pl K H .non "NoneType":=⟨.non,by decide,fun _ e=>by cases e⟩
theorem Pl.name {K:PySem.W.Frag}{H:Hp}{x:V}{T:String}(h:Pl K H x T) :
 (T="NoneType"∧x=.non)∨(∃ b,T="bool"∧x=.bl b)∨(∃ i,T="int"∧x=.int i)∨(∃ z,T="str"∧x=.str z∧z.length≤sizeLine)∨(∃ a,(T="list"∨T="tuple"∨T="dict")∧x=.ref a):=by
 obtain ⟨ty,hm,hz⟩:=h
 generalize hv:Value.type T=t at ty
 cases ty with
 | non=>cases hv;exact .inl ⟨rfl,rfl⟩
 | bl b=>cases hv;exact .inr (.inl ⟨b,rfl,rfl⟩)
 | int i=>cases hv;exact .inr (.inr (.inl ⟨i,rfl,rfl⟩))
 | str z=>cases hv;exact .inr (.inr (.inr (.inl ⟨z,rfl,rfl,hz z rfl⟩)))
 | flt x=>cases hv;simp [J26] at hm
 | lst e=>cases hv;exact .inr (.inr (.inr (.inr ⟨_,.inl rfl,rfl⟩)))
 | frz e=>cases hv;exact .inr (.inr (.inr (.inr ⟨_,.inl rfl,rfl⟩)))
 | tup e=>cases hv;exact .inr (.inr (.inr (.inr ⟨_,.inr (.inl rfl),rfl⟩)))
 | dK e=>cases hv;exact .inr (.inr (.inr (.inr ⟨_,.inr (.inr rfl),rfl⟩)))
 | dT e=>cases hv;exact .inr (.inr (.inr (.inr ⟨_,.inr (.inr rfl),rfl⟩)))
 | ins e c h1 h2 h3 h4=>cases hv
def J9k (K:PySem.W.Frag):List V→Hp→VK→Prop:=fun xs H Q=>∃ x S T,xs=[x,.ty S]∧Pl K H x T∧S∈J26∧Q (.bl (J69 T S)) H
theorem Jao {X:Cx}:J0e X (.builtin "isinstance") (J9k X.K):=by
 intro pins s σ H xs us Q I r h
 obtain ⟨x,S,T,rfl,p,hS,q⟩:=h
 exact Jam pins s σ H _ us Q I r ⟨x,S,.type T,_,rfl,p.ty,J8s p.mem hS,q⟩
section
variable {X:Cx}
def JcY (K:PySem.W.Frag):R2:=fun x y H Q=>∃ a b xs,x=.ref a∧y=.ref b∧SqL K H a xs∧SqL K H b []∧Q (.bl xs.isEmpty) H
theorem J8f (hu:X.A.units+64<cLine):OpR X (compareOp .Eq) (JcY X.K):=by
 intro pins s σ H x y v u Q I rx ry h
 obtain ⟨a,b,xs,rfl,rfl,h1,h2,q⟩:=h
 cases rx;cases ry
 obtain ⟨its,r1,p1,_⟩:=I.list h1
 obtain ⟨it2,r2,p2,_⟩:=I.list h2
 have e2:it2=[]:=by cases r2;rfl
 subst e2
 have hl:=r1.length
 cases xs with
 | nil =>
   have e1:its=[]:=by cases r1;rfl
   subst e1
   exact SeqAt.eq_listAt (e:=fun _=>true) p1.isList p2.isList rfl (by omega) (fun j h1 _=>absurd h1 (by simp)) (Js I q (by simp))
 | cons z zs =>
   refine SeqAt.eq_list_lengthsAt p1.isList p2.isList ?_ (by omega) (Js I q rfl)
   rw [List.size_toArray,List.size_toArray,← hl];simp
end
theorem J0I {K:PySem.W.Frag}{H:Hp}{p:Addr}{xs:List V}{i:Int}{Q:VK}(h:SqL K H p xs)(h0:0≤i)(h1:i<xs.length)(q:∀ v,xs[i.toNat]?=some v→Q v H):JaW K (.ref p) (.int i) H Q:=by
 have hj:i.toNat<xs.length:=by omega
 refine ⟨p,xs,i,xs[i.toNat],rfl,rfl,h,?_,q _ (List.getElem?_eq_getElem hj)⟩
 have e:=Jl (List.getElem?_eq_getElem hj)
 rwa [Int.toNat_of_nonneg h0] at e
theorem JcC {K:PySem.W.Frag}{H:Hp}{p:Addr}{xs:List V}{i:Int}{Q:VK}(h:SqT K H p xs)(h0:0≤i)(h1:i<xs.length)(q:∀ v,xs[i.toNat]?=some v→Q v H):JaV K (.ref p) (.int i) H Q:=by
 have hj:i.toNat<xs.length:=by omega
 refine ⟨p,xs,i,xs[i.toNat],rfl,rfl,h,?_,q _ (List.getElem?_eq_getElem hj)⟩
 have e:=Jl (List.getElem?_eq_getElem hj)
 rwa [Int.toNat_of_nonneg h0] at e
theorem J79 {H:Hp}{z:Str}{i:Int}{Q:VK}(hz:z.length≤sizeLine)(h0:0≤i)(h1:i<z.length)(q:∀ c,z.cps.toList[i.toNat]?=some c→Q (sgn c) H):JcX (.str z) (.int i) H Q:=by
 have hl:z.cps.toList.length=z.length:=by simp [Str.length]
 have hj:i.toNat<z.cps.toList.length:=by omega
 refine ⟨z,i,z.cps.toList[i.toNat],rfl,rfl,hz,?_,q _ (List.getElem?_eq_getElem hj)⟩
 have e:=Jl (List.getElem?_eq_getElem hj)
 rwa [Int.toNat_of_nonneg h0] at e
theorem JaO {H:Hp}{p:Addr}{xs:List V}{i:Int}{v:V}{Q:Hp→Prop}(h:H p=some (.lst xs))(h0:0≤i)(h1:i<xs.length)(q:Q (upd H p (.lst (xs.set i.toNat v)))):JbF (.ref p) (.int i) v H Q:=by
 refine ⟨p,xs,i,i.toNat,rfl,rfl,h,?_,q⟩
 unfold ixN
 rw [if_pos h0,if_pos h1]
theorem Jbq (parts:List Str)(acc:Array Nat):(parts.foldl (fun acc p=>acc++(#[]:Array Nat)++p.cps) acc).toList=acc.toList++(parts.map fun p=>p.cps.toList).flatten:=by
 induction parts generalizing acc with
 | nil=>simp
 | cons a r ih=>rw [List.foldl_cons,ih];simp
theorem J9Z (parts:List Str):(Txt.join (Str.ofString "") parts).cps.toList=(parts.map fun p=>p.cps.toList).flatten:=by
 show (Builtin.Str.glued (Str.ofString "") parts).cps.toList=_
 have e:(Str.ofString "").cps=#[]:=by decide
 unfold Builtin.Str.glued
 rw [e]
 cases parts with
 | nil=>rfl
 | cons a r =>
   show (r.foldl _ a.cps).toList=_
   rw [Jbq];simp
theorem J3S:∀ cs:List Nat,((cs.map fun c=>(⟨#[c]⟩:Str)).map fun p=>p.cps.toList).flatten=cs
 | []=>rfl
 | a::r=>by
   have ih:=J3S r
   simp only [List.map_cons,List.flatten_cons,ih]
   rfl
theorem J3v {z:Str}{cs:List Nat}(h:z.cps.toList=cs):z=⟨cs.toArray⟩:=by
 subst h
 cases z with
 | mk a=>rfl
theorem J77 (cs:List Nat):Txt.join (Str.ofString "") (cs.map fun c=>⟨#[c]⟩)=⟨cs.toArray⟩ :=
 J3v ((J9Z (cs.map fun c=>(⟨#[c]⟩:Str))).trans (J3S cs))
theorem J41 (cs:List Nat):cs.map sgn=(cs.map fun c=>(⟨#[c]⟩:Str)).map V.str:=by rw [List.map_map];rfl
theorem J8Z (cs:List Nat):((cs.map fun c=>(⟨#[c]⟩:Str)).map (·.length)).sum=cs.length:=by
 induction cs with
 | nil=>rfl
 | cons a r ih=>simp only [List.map_cons,List.sum_cons,ih,List.length_cons];show 1+_=_;omega
theorem Ja0 {K:PySem.W.Frag}{H:Hp}{p:Addr}{cs:List Nat}{Q:VK}(h:SqL K H p (cs.map sgn))(hl:cs.length≤1000000)(q:Q (.str ⟨cs.toArray⟩) H):J9i K (.str (Str.ofString "")) [.ref p] H Q:=by
 refine ⟨Str.ofString "",p,cs.map fun c=>⟨#[c]⟩,rfl,rfl,by rw [← J41];exact h,?_,?_⟩
 ·rw [J8Z,List.length_map]
  have e:(Str.ofString "").length=0:=by decide
  rw [e];omega
 ·rw [J77];exact q
section
variable {X:Cx}{K:PySem.W.Frag}(e:X.K=K)
include e
theorem J66:J0e X (.builtin "isinstance") (J9k K):=by subst e;exact Jao
theorem JbK (hc:X.calm=true):J0e X (.builtin "all") (J9o K fun bs=>bs.all id):=by subst e;exact Jap hc
def J7C (K:PySem.W.Frag):List V→Hp→VK→Prop:=fun xs H Q=>∃ p ys,xs=[.ref p]∧(SqL K H p ys∨SqT K H p ys)∧Q (.int ys.length) H
theorem J0z:J0e X (.builtin "len") (J7C K):=by subst e;exact J5n
def J9h (K:PySem.W.Frag):List V→Hp→VK→Prop:=fun xs H Q=>∃ x n,xs=[x]∧Jdp K x H n∧Q (.int n) H
def J3m (K:PySem.W.Frag):List V→Hp→VK→Prop:=fun xs H Q=>∃ p ys,xs=[.ref p]∧(SqL K H p ys∨SqT K H p ys)∧∀ l,H l=none→Q (.ref l) (upd H l (.lst ys))
theorem J3R:J0e X (.type "list") (J3m K):=by subst e;exact J5m
def J1A (K:PySem.W.Frag):List V→Hp→VK→Prop:=fun xs H Q=>∃ p ys,xs=[.ref p]∧((SqL K H p ys∧∀ l,H l=none→Q (.ref l) (upd H l (.tup ys)))∨(SqT K H p ys∧Q (.ref p) H))
theorem J1Q:J0e X (.type "tuple") (J1A K):=by subst e;exact J4d
theorem J0S:IxR X (JaW K):=by subst e;exact Jbo
theorem JB:IxR X (JaV K):=by subst e;exact JcB
theorem J36:SlR X (J9e K):=by subst e;exact JaK
theorem J7M (hu:X.A.units+64<cLine):OpR X (compareOp .Eq) (J89 K false):=by subst e;exact Jck hu
theorem Jd8 (hu:X.A.units+64<cLine):OpR X (compareOp .Eq) (JcY K):=by subst e;exact J8f hu
theorem JcA:MtR X "str.join" (J9i K):=by subst e;exact Jbi
theorem J1q {tg l:Expr}{tl:TE}(hl:PE X l tl):PI X tg l (J6d K tl):=by subst e;exact Jb2 hl
theorem J64 {tg l:Expr}{tl:TE}(hl:PE X l tl):PI X tg l (Ja2 K tl):=by subst e;exact Jca hl
theorem J65 {es:List Expr}{k:Nat}{t:TGs}{n:Nat}{pos:Pos}(hc:X.calm=true)(h:PGs X es t)(hn:(assignEach es X.env).length=n:=by rfl)(hst:(assignEach es X.env).findIdx? (·.1)=none:=by rfl):PG X (.Tuple es k pos) (JcE K n t):=by subst e;exact Jcd hc h hn hst
theorem Jdk {o a:Expr}{es:List Expr}{to:TE}{t:TA}{name:Str}{apos cpos:Pos}{T id:String}{r:V→List V→Hp→VK→Prop}(pa:PlainAttrs T)(slot:Slot T name id)(hty:typeOf (.builtin id)=pure (.type "method_descriptor"))(hm:MtR X id r)(ho:PE X o to)(ha:PA X (a::es) t)
 (hbase:attributeBase o name X.env (eval o X.env)=eval o X.env:=by rfl)
 (hfew:((backTo cpos (starEach (a::es) X.env)).all (fun x=>!x.1)&&(backToKw cpos (keywordEach [] X.env)).all (fun x=>x.1.isSome)
  && decide ((a::es).length+([]:List Keyword).length+(if ([]:List Keyword).isEmpty then 0 else 1)<30))=true:=by rfl)
 (hline:(apos.endLine == cpos.line)=true:=by rfl) (hs:starEach (a::es) X.env=(false,eval a X.env)::starEach es X.env:=by rfl) (hplain:(backTo cpos (starEach es X.env)).any (·.1)=false:=by rfl) :
 PE X (.Call (.Attribute o name apos) (a::es) [] cpos) (tBM K T r to t):=by subst e;exact Jd0 pa slot hty hm ho ha hbase hfew hline hs hplain
end
noncomputable def Ju:Expr→Bool
 | .Starred _ _=>false
 | _=>true
theorem JE {e:Expr}{es:List Expr}{env:Env}(h:Ju e=true):starEach (e::es) env=(false,eval e env)::starEach es env:=by
 cases e<;>first | rfl | cases h
theorem J4h {env:Env}:∀ {es:List Expr},es.all Ju=true→(starEach es env).any (·.1)=false
 | [],_=>rfl
 | e::es,h=>by
   rw [List.all_cons,Bool.and_eq_true] at h
   rw [JE h.1,List.any_cons,J4h h.2];rfl
theorem J11 {env:Env}{pos:Pos}{es:List Expr}(h:es.all Ju=true):(backTo pos (starEach es env)).any (·.1)=false:=by
 have:=J4h (env:=env) h
 unfold backTo
 rw [List.any_map]
 exact this
section
variable {X:Cx}{e:Expr}{es:List Expr}{te:TE}{t:TA}
theorem pal (hn:Ju e=true)(ha:PE X e te)(hr:PA X es t):PA X (e::es) (J3u te t):=Jbb ha hr (JE hn)
theorem Jm {x:Str}{st:Stmt}{ps:List Str}{f:Addr}{fd:FuncData}{k:Nat}{sp:Sp}{p pos:Pos}(D:DefOk X.K X.mg x st ps f fd)(G:FnOk X.prog X.w X.K X.mg X.base CX0 k f fd ps sp)(hr:Room k X.A)
 (hg:Gl X x) (hdb:(x == ("__debug__":Str))=false) (hn:(e::es).all Ju=true) (ha:PA X (e::es) t) :
 PE X (.Call (.Name x p) (e::es) [] pos) (J5w sp [] E0 t) :=
 have h:Ju e=true∧es.all Ju=true:=by rw [List.all_cons,Bool.and_eq_true] at hn;exact hn
 Jb9 G hr hg D.m D.F.kp D.b .nil JbH ha hdb (JE h.1) (J11 h.2)
theorem JJ {x:Str}{p pos:Pos}{id:String}{r:List V→Hp→VK→Prop}(hc:J0e X (.builtin id) r)(hm:X.mg x=none)(hv:bootBuiltins x=some (.builtin id))(hg:Gl X x)(hn:x≠"__name__")(hdb:(x == ("__debug__":Str))=false)
 (hs:(e::es).all Ju=true) (ha:PA X (e::es) t):PE X (.Call (.Name x p) (e::es) [] pos) (tCB r t) :=
 have h:Ju e=true∧es.all Ju=true:=by rw [List.all_cons,Bool.and_eq_true] at hs;exact hs
 J9D hc hg hm hv ha hn hdb (JE h.1) (J11 h.2)
theorem J0B {x:Str}{p pos:Pos}{T:String}{r:List V→Hp→VK→Prop}(hc:J0e X (.type T) r)(hm:X.mg x=none)(hv:bootBuiltins x=some (.type T))(hg:Gl X x)(hn:x≠"__name__")(hdb:(x == ("__debug__":Str))=false)
 (hs:(e::es).all Ju=true) (ha:PA X (e::es) t):PE X (.Call (.Name x p) (e::es) [] pos) (tCB r t) :=
 have h:Ju e=true∧es.all Ju=true:=by rw [List.all_cons,Bool.and_eq_true] at hs;exact hs
 J8d hc hg hm hv ha hn hdb (JE h.1) (J11 h.2)
theorem Jaw {env:Env}{pos:Pos}{es:List Expr}(h:es.all Ju=true):(backTo pos (starEach es env)).all (fun x=>!x.1)=true:=by
 have:=J11 (env:=env) (pos:=pos) h
 rw [List.any_eq_false] at this
 rw [List.all_eq_true]
 intro x hx
 have:=this x hx
 simpa using this
theorem J37 {K:PySem.W.Frag}{o a:Expr}{to:TE}{name:Str}{apos cpos:Pos}{T id:String}{r:V→List V→Hp→VK→Prop}(ek:X.K=K)(pa:PlainAttrs T)(slot:Slot T name id)(hty:typeOf (.builtin id)=pure (.type "method_descriptor"))(hm:MtR X id r)
 (hbase:attributeBase o name X.env (eval o X.env)=eval o X.env) (hs:(a::es).all Ju=true) (hsz:decide ((a::es).length+0+0<30)=true) (hline:(apos.endLine == cpos.line)=true) (ho:PE X o to) (ha:PA X (a::es) t) :
 PE X (.Call (.Attribute o name apos) (a::es) [] cpos) (tBM K T r to t) :=
 have h:Ju a=true∧es.all Ju=true:=by rw [List.all_cons,Bool.and_eq_true] at hs;exact hs
 Jdk ek pa slot hty hm ho ha hbase (by rw [Jaw hs];exact hsz) hline (JE h.1) (J11 h.2)
end
def ForW (J:It)(g:TG)(tb:TS)(D:Ends)(σ:St)(H1:Hp):Prop:=∃ W:Nat→Nat→St→Hp→Prop,(∃ m,W 0 m σ H1)∧∀ i m σ H,W i m σ H →
 (J.stop i H∧D.nx σ H)∨(J.go i H∧∃ N:St→Hp→Prop,(∀ σ' H',N σ' H'→∃ m',m'<m∧W (i+1) m' σ' H')∧∀ x H',J.yld i H x H'→g x σ H' fun σ2 H2=>tb { D with nx:=N,ct:=N,bk:=D.nx } σ2 H2)
theorem J0Y {wi:TI}{g:TG}{tb:TS}{D:Ends}{σ:St}{H:Hp}(h:wi σ H fun J H1=>ForW J g tb D σ H1):JbW wi g tb D σ H:=h
theorem ForW.of {g:TG}{tb:TS}{D:Ends}{σ:St}{H:Hp}{J:It}{xs:List V}{ok:Hp→Prop}(w:Walk J xs ok)(Pv:Nat→St→Hp→Prop)(h0:Pv 0 σ H)(hl:∀ i σ H,i≤xs.length→Pv i σ H→ok H)
 (hs:∀ i x σ H,xs[i]?=some x→Pv i σ H→g x σ H fun σ2 H2=>tb { D with nx:=Pv (i+1),ct:=Pv (i+1),bk:=D.nx } σ2 H2) (hd:∀ σ H,Pv xs.length σ H→D.nx σ H):ForW J g tb D σ H:=Ja7 w Pv h0 hl hs hd
noncomputable def J4c {α:Type}(xs:List α)(lo hi:Option Int):List α:=(xs.drop (HT.sIx xs.length 0 lo)).take (HT.sIx xs.length xs.length hi - HT.sIx xs.length 0 lo)
theorem J5O {α:Type}(xs:List α)(a:Nat):∀ k:Nat,((List.range k).map (a+·)).filterMap (fun i=>xs[i]?)=(xs.drop a).take k
 | 0=>by simp
 | k+1=>by
   rw [List.range_succ,List.map_append,List.filterMap_append,J5O xs a k,List.take_add_one,List.getElem?_drop]
   cases h:xs[a+k]?<;>simp [h]
theorem J7T (v:Option Int)(n d:Nat)(hd:d≤n):(match v with | none=>(d:Int) | some i=>max 0 (min (if i<0 then i+(n:Int) else i) (n:Int)))=((HT.sIx n d v:Nat):Int):=by
 cases v with
 | none=>rfl
 | some i =>
   unfold HT.sIx
   dsimp only
   by_cases h:i<0
   ·simp only [h,if_true]<;>omega
   ·simp only [h,if_false]<;>omega
theorem J7a (lo hi:Option Int)(n:Nat):Builtin.Str.strSliceIndices lo hi 1 n=(List.range (HT.sIx n n hi - HT.sIx n 0 lo)).map (HT.sIx n 0 lo+·):=by
 have e1:=J7T lo n 0 (Nat.zero_le _)
 have e2:=J7T hi n n (Nat.le_refl _)
 rw [← sliceRange_one,← e1,← e2]
 unfold Builtin.Str.strSliceIndices
 simp only [show (1:Int) > 0 by decide,if_true]
 cases lo<;>cases hi<;>rfl
theorem J86 (x:Str)(lo hi:Option Int):(Txt.slice x lo hi).cps.toList=J4c x.cps.toList lo hi:=by
 have hl:x.cps.toList.length=x.length:=by simp [Str.length]
 unfold Txt.slice J4c
 rw [J7a,hl]
 split
 ·rename_i h
  have h:(HT.sIx x.length x.length hi - HT.sIx x.length 0 lo)=x.length:=by simpa using h
  have h2:=HT.sIx_le x.length x.length (Nat.le_refl _) hi
  by_cases h0:x.length=0
  ·have:x.cps.toList=[]:=List.eq_nil_of_length_eq_zero (by omega)
   rw [this];simp
  ·have h3:HT.sIx x.length 0 lo=0:=by omega
   rw [h3,h3] at *
   rw [List.drop_zero,show HT.sIx x.length x.length hi - 0=x.cps.toList.length by omega,List.take_length]
 ·show ((List.map _ _).filterMap fun (i:Nat)=>x.cps[i]?)=_
  have e:(fun (i:Nat)=>x.cps[i]?)=fun (i:Nat)=>x.cps.toList[i]?:=by funext i;simp
  rw [e,J5O]
section
variable {X:Cx}
def JaT:V→Option Int→Option Int→Hp→VK→Prop:=fun x lo hi H Q=>∃ z,x=.str z∧z.length≤sizeLine∧Q (.str ⟨(J4c z.cps.toList lo hi).toArray⟩) H
theorem Jc2:SlR X JaT:=by
 intro pins s σ H x v vl vu lo hi sl Q I rx hs pl pu h
 obtain ⟨z,rfl,hz,q⟩:=h
 obtain ⟨t,rfl⟩:=rx
 have e:Txt.slice z lo hi=⟨(J4c z.cps.toList lo hi).toArray⟩:=J3v (J86 z lo hi)
 have fin:∀ t' k,EP X pins σ Q (.str (Txt.slice z lo hi) t') { s with toks:=k }:=fun t' k=>by
  rw [e];exact ⟨.str _,H,I.tok _,⟨_,rfl⟩,q⟩
 have hle:=Nat.le_trans (Txt.slice_le z lo hi) hz
 refine ⟨"str",_,F.slot_str_getitem.lookup,typeIs_str _ _ _,?_⟩
 obtain ⟨o,ho,hc,hd⟩:=hs
 cases pl with
 | none =>
   cases pu with
   | none=>exact wpAny_getItem_str_slice (l:=none) (u:=none) (st:=none) ⟨o,ho,hc,hd⟩ rfl (post_val_or_str ⟨hle,fin⟩)
   | int j uj=>exact wpAny_getItem_str_slice (l:=none) (u:=some (j,uj)) (st:=none) ⟨o,ho,hc,hd⟩ rfl (post_val_or_str ⟨hle,fin⟩)
 | int i ui =>
   cases pu with
   | none=>exact wpAny_getItem_str_slice (l:=some (i,ui)) (u:=none) (st:=none) ⟨o,ho,hc,hd⟩ rfl (post_val_or_str ⟨hle,fin⟩)
   | int j uj=>exact wpAny_getItem_str_slice (l:=some (i,ui)) (u:=some (j,uj)) (st:=none) ⟨o,ho,hc,hd⟩ rfl (post_val_or_str ⟨hle,fin⟩)
def J9m:V→List V→Hp→VK→Prop:=fun x vs H Q=>∃ z y,x=.str z∧vs=[.str y]∧Q (.int (Txt.find z y)) H
def J50:V→List V→Hp→VK→Prop:=fun x vs H Q=>∃ z y,x=.str z∧vs=[.str y]∧Q (.bl (Txt.startswith z y)) H
end
end L2
namespace L2
open PySem
theorem J0b {lo:Int}{n i:Nat}{x:V}(h:(J2T lo n)[i]?=some x):i<n∧x=.int (lo+i):=by
 have hi:i<n:=by have:=(List.getElem?_eq_some_iff.mp h).1;rwa [JC] at this
 rw [J3D hi] at h
 cases h
 exact ⟨hi,rfl⟩
end L2
namespace L2
open PySem PySem.Spec PyProof.Rows PySem.NumText
noncomputable def dgs (m:Nat):List Nat:=(Nat.toDigits 10 m).map Char.toNat
noncomputable def numS (n:Int):List Nat:=if n<0 then 45::dgs n.natAbs else dgs n.natAbs
theorem Jag {α:Type}(xs:List α)(k:Nat):J4c xs (some (k:Int)) none=xs.drop k:=by
 unfold J4c
 rw [HT.sIx_nat,HT.sIx_none]
 by_cases h:k≤xs.length
 ·rw [Nat.min_eq_left h,List.take_of_length_le (by rw [List.length_drop];omega)]
 ·rw [Nat.min_eq_right (by omega),List.drop_length,List.drop_of_length_le (by omega)];simp
theorem cut_to {α:Type}(xs:List α)(k:Nat):J4c xs none (some (k:Int))=xs.take k:=by
 unfold J4c
 rw [HT.sIx_nat,HT.sIx_none,List.drop_zero,Nat.sub_zero]
 by_cases h:k≤xs.length
 ·rw [Nat.min_eq_left h]
 ·rw [Nat.min_eq_right (by omega),List.take_length,List.take_of_length_le (by omega)]
theorem J3w {z w:Str}:z=w↔z.cps.toList=w.cps.toList:=⟨fun e=>by rw [e],fun e=>by
 cases z with
 | mk a=>cases w with
   | mk b=>exact congrArg Str.mk (Array.toList_inj.mp e)⟩
section
variable {X:Cx}
def J9l:List V→Hp→VK→Prop:=fun xs H Q=>∃ z n,xs=[.str z]∧intText? z=some n∧z.length≤640∧Q (.int n) H
def J9c:List V→Hp→VK→Prop:=fun xs H Q=>(∃ i,xs=[.int i]∧i.natAbs<10 ^ 100∧Q (.str ⟨(numS i).toArray⟩) H)∨∃ z,xs=[.str z]∧Q (.str z) H
end
end L2
namespace L2
open PySem PySem.Spec PyProof.Rows
section
variable {X:Cx}
def J7B:R2:=fun x y H Q=>∃ z n,x=.str z∧y=.int n∧MulOk z n∧Q (.str (Txt.mul z n)) H
theorem J3H:OpR X (binaryOp .Mult) J7B:=by
 intro pins s σ H x y v u Q I rx ry h
 obtain ⟨z,n,rfl,rfl,hm,q⟩:=h
 obtain ⟨t,rfl⟩:=rx
 obtain ⟨t',rfl⟩:=ry
 exact SB.mul hm fun t' k=>⟨.str _,H,I.tok _,⟨_,rfl⟩,q⟩
end
end L2
namespace L2
open PySem
end L2
namespace L2
open PySem PySem.Spec PyProof.Rows
def Trc (H:Hp)(h G:Heap)(e:Addr)(C:Value)(ed:Option Addr)(fl:Value):Prop :=
 G.get? e=none∧H e=none∧∃ oe vs,h.get? e=some oe∧oe.cls=C∧oe.dict=ed∧oe.data=.fields vs∧1<vs.size ∧
  ((vs[1]?=some .none∧fl=.none)∨∃ T oT ts,vs[1]?=some (.ref T)∧G.get? T=none∧T≠e∧H T=none∧h.get? T=some oT∧oT.data=.fields ts∧ts[3]?=some fl)
structure Kp (H:Hp)(G:Heap)(fs:List Addr)(h h':Heap):Prop where
 keep:∀ b o,h.get? b=some o→b∉fs→(G.get? b≠none∨H b≠none)→h'.get? b=some o
 slot:∀ b o,h.get? b=some o→b∈fs→∃ sl,h'.get? b=some { o with slots:=sl }
 there:∀ b o,h.get? b=some o→∃ o',h'.get? b=some o'
 size:h.objs.size≤h'.objs.size
theorem Kp.refl (H:Hp)(G:Heap)(fs:List Addr)(h:Heap):Kp H G fs h h:=⟨fun _ _ e _ _=>e,fun _ o e _=>⟨o.slots,e⟩,fun _ o e=>⟨o,e⟩,Nat.le_refl _⟩
section
variable {M:Model}{A:Around}{E:Value→Shared→Prop}{s:Shared}{Q:Unit→Shared→Prop}{base:Heap}{env:Env}{outer:List Env}{L e:Addr}{C:Value}{ed:Option Addr}{G:Heap}{H:Hp}
theorem J6h {oe:Obj}{vs:Array Value}{head:Value}{hadNext:Bool}(hfr:A.frames=some (env::outer))(hl:s.heap.FunFrames base (env::outer))(hf:env.frame=some L)
 (he:s.heap.get? e=some oe) (hd:oe.data=.fields vs) (hsz:1<vs.size)
 (h:∀ h' T oT ts,s.heap.objs.size≤T→h'.get? e=some (oe.mapFields (·.setIfInBounds 1 (.ref T)))→h'.get? T=some oT→oT.data=.fields ts→ts[3]?=some (rawInt L) →
  (∀ b o,b≠e→s.heap.get? b=some o→b∉frs (env::outer)→h'.get? b=some o)→(∀ b o,b≠e→s.heap.get? b=some o→∃ sl,h'.get? b=some { o with slots:=sl })→s.heap.objs.size≤h'.objs.size→Q () { s with heap:=h' }) :
 wpAny M A (do let a ← frameOf env;let pl ← entryPlaceOf L hadNext;let b ← EntryCells.newEntry head a .none (rawInt L) .none pl;setField (.ref e) 1 b) Q E s:=by
 have hene:e∉frs (env::outer):=fun hm=>by
  obtain ⟨_,o,ho,hnf⟩:=hl.mem hm
  rw [he] at ho
  cases ho
  exact hnf vs hd
 refine wpAny_bind (wpAny_frameOf_fun hfr hl hf fun h₁ hs₁=>?_)
 refine wpAny_bind (wpAny_entryPlaceOf fun pl hpl=>?_)
 unfold EntryCells.newEntry newFields
 refine wpAny_bind (wpAny_newObj_type ?_ (hpl.sizeOk5 _ _ _ _ _))
 have he₁:h₁.get? e=some oe:=(hs₁.2.1 e hene).trans he
 generalize hO:({ cls:=.type "traceback",dict:=none,data:=.fields ([head,.ref L,.none,rawInt L,.none]++(if pl.isEmpty then List.replicate 6 Value.none else pl)).toArray }:Obj)=O
 have he₂:=Heap.get?_push_of_some (h:=h₁) O he₁
 have hTe:h₁.objs.size≠e:=Nat.ne_of_gt (Heap.lt_size he₁)
 refine wpAny_setField he₂ hd hsz (h _ h₁.objs.size O _ (Nat.le_of_eq hs₁.1.symm) (Heap.get?_update_self _ he₂ (Obj.isFreed_of_fields (Obj.data_mapFields hd _))) ?_ (by rw [← hO]) ?_ ?_ ?_ ?_)
 ·rw [Heap.get?_update_other _ _ (Ne.symm hTe)]
  exact Heap.get?_push_size h₁ (by rw [← hO];rfl)
 ·first | (simp;done) | (rcases hpl with rfl | ⟨_,_,_,_,_,_,_,rfl⟩<;>simp)
 ·intro b o hb ho hn
  rw [Heap.get?_update_other _ _ (Ne.symm hb)]
  exact Heap.get?_push_of_some _ ((hs₁.2.1 b hn).trans ho)
 ·intro b o hb ho
  obtain ⟨sl,e1⟩:=hs₁.2.2 b o ho
  exact ⟨sl,by rw [Heap.get?_update_other _ _ (Ne.symm hb)];exact Heap.get?_push_of_some _ e1⟩
 ·rw [Heap.size_after_update,Heap.size_push,hs₁.1]
  exact Nat.le_succ _
theorem note_wp (hfr:A.frames=some (env::outer))(hl:s.heap.FunFrames base (env::outer))(hf:env.frame=some L)(hH:∀ b,s.heap.objs.size≤b→H b=none)(hG:∀ b,s.heap.objs.size≤b→G.get? b=none)(t:Trc H s.heap G e C ed .none)
 (h:∀ h',Trc H h' G e C ed (rawInt L)→h'.FunFrames base (env::outer)→Kp H G (frs (env::outer)) s.heap h'→Q () { s with heap:=h' }):wpAny M A (noteFrame (.ref e) env) Q E s:=by
 obtain ⟨hn,hHe,oe,vs,he,hc,hdi,hd,hsz,ht⟩:=t
 unfold noteFrame
 simp only [hf]
 have nfr:∀ b o ws,s.heap.get? b=some o→o.data=.fields ws→b∉frs (env::outer):=fun b o ws ho hw hm=>by
  obtain ⟨_,o',ho',hnf⟩:=hl.mem hm
  rw [ho] at ho'
  cases ho'
  exact hnf ws hw
 have fin:∀ (s1:Shared) (h':Heap) (T:Addr) (oT:Obj) (ts:Array Value),s.heap.objs.size≤T→h'.get? e=some (oe.mapFields (·.setIfInBounds 1 (.ref T)))→h'.get? T=some oT→oT.data=.fields ts→ts[3]?=some (rawInt L) →
  (∀ b o,s.heap.get? b=some o→b∉frs (env::outer)→(G.get? b≠none∨H b≠none)→h'.get? b=some o)→(∀ b o,s.heap.get? b=some o→(∀ ws,o.data≠.fields ws)→∃ sl,h'.get? b=some { o with slots:=sl }) →
  (∀ b o,s.heap.get? b=some o→∃ o',h'.get? b=some o')→s.heap.objs.size≤h'.objs.size→Q () { s with heap:=h' }:=by
  intro s1 h' T oT ts hT e1 e2 e3 e4 k1 k2 k3 k4
  have le:e<s.heap.objs.size:=Heap.lt_size he
  refine h h' ⟨hn,hHe,_,_,e1,by rw [Obj.cls_mapFields];exact hc,?_,Obj.data_mapFields hd _,by simpa using hsz,.inr ⟨T,oT,ts,by simp [hsz],hG T hT,Nat.ne_of_gt (Nat.lt_of_lt_of_le le hT),hH T hT,e2,e3,e4⟩⟩ (hl.of_keeps fun b o hb hnf=>?_) ⟨k1,fun b o hb hm=>?_,k3,k4⟩
  ·rw [← hdi]
   obtain ⟨c,d,dt,sl⟩:=oe
   cases dt<;>rfl
  ·obtain ⟨sl,q⟩:=k2 b o hb hnf
   exact ⟨_,q,rfl⟩
  ·obtain ⟨_,o',ho',hnf⟩:=hl.mem hm
   rw [hb] at ho'
   cases ho'
   exact k2 b o hb hnf
 have nee:∀ b o,s.heap.get? b=some o→(G.get? b≠none∨H b≠none)→b≠e:=fun b o hb hx z=>by
  subst z
  rcases hx with hx | hx
  ·exact hx hn
  ·exact hx hHe
 rcases ht with ⟨h1,_⟩ | ⟨T,oT,ts,h1,hT,hTe,hHT,gT,hdT,h3⟩
 ·refine wpAny_bind (wpAny_field he hd h1 ?_)
  rw [if_neg (by decide)]
  refine J6h hfr hl hf he hd hsz fun h' T' oT' ts' q1 q2 q3 q4 q5 q6 q7 q8=>fin s h' T' oT' ts' q1 q2 q3 q4 q5 (fun b o hb hm hx=>q6 b o (nee b o hb hx) hb hm) (fun b o hb hnf=>q7 b o (fun z=>?_) hb) (fun b o hb=>?_) q8
  ·subst z
   rw [he] at hb
   cases hb
   exact hnf vs hd
  ·by_cases z:b=e
   ·subst z
    exact ⟨_,q2⟩
   ·obtain ⟨sl,q⟩:=q7 b o z hb
    exact ⟨_,q⟩
 ·refine wpAny_bind (wpAny_field he hd h1 ?_)
  rw [if_pos (show (Value.ref T != Value.none)=true from by simp)]
  refine wpAny_bind (wpAny_field gT hdT h3 ?_)
  rw [if_neg (show ¬ ((Value.none == rawInt L)=true) from by simp [rawInt])]
  refine wpAny_bind (wpAny_setField gT hdT (Array.getElem?_eq_some_iff.mp h3).1 ?_)
  have other:∀ b,b≠T→(s.heap.update T (Obj.mapFields (·.setIfInBounds 3 Value.none))).get? b=s.heap.get? b:=fun b hb=>Heap.get?_update_other _ _ (Ne.symm hb)
  have self:=Heap.get?_update_self (Obj.mapFields (·.setIfInBounds 3 Value.none)) gT (Obj.isFreed_of_fields (Obj.data_mapFields hdT _))
  have neT:∀ b o,s.heap.get? b=some o→(G.get? b≠none∨H b≠none)→b≠T:=fun b o hb hx z=>by
   subst z
   rcases hx with hx | hx
   ·exact hx hT
   ·exact hx hHT
  have neF:∀ b o,s.heap.get? b=some o→(∀ ws,o.data≠.fields ws)→b≠T:=fun b o hb hnf z=>by
   subst z
   rw [gT] at hb
   cases hb
   exact hnf ts hdT
  have sz:(s.heap.update T (Obj.mapFields (·.setIfInBounds 3 Value.none))).objs.size=s.heap.objs.size:=Heap.size_after_update ..
  refine J6h hfr (hl.of_keeps fun b o hb hnf=>⟨o,(other b (neF b o hb hnf)).trans hb,rfl⟩) hf ((other e (Ne.symm hTe)).trans he) hd hsz
   fun h' T' oT' ts' q1 q2 q3 q4 q5 q6 q7 q8=>fin s h' T' oT' ts' (by rw [sz] at q1;exact q1) q2 q3 q4 q5 (fun b o hb hm hx=>q6 b o (nee b o hb hx) ((other b (neT b o hb hx)).trans hb) hm)
    (fun b o hb hnf=>q7 b o (fun z=>?_) ((other b (neF b o hb hnf)).trans hb)) (fun b o hb=>?_) (by rw [sz] at q8;exact q8)
  ·subst z
   rw [he] at hb
   cases hb
   exact hnf vs hd
  ·by_cases z:b=e
   ·subst z
    exact ⟨_,q2⟩
   ·by_cases y:b=T
    ·subst y
     obtain ⟨sl,q⟩:=q7 b _ z self
     exact ⟨_,q⟩
    ·obtain ⟨sl,q⟩:=q7 b o z ((other b y).trans hb)
     exact ⟨_,q⟩
theorem flight_wp {fl:Value}(hl:s.heap.FunFrames base outer)(t:Trc H s.heap G e C ed fl)
 (h:∀ h',Trc H h' G e C ed .none→h'.FunFrames base outer→Kp H G [] s.heap h'→(∀ b o,s.heap.get? b=some o→(∀ ws,o.data≠.fields ws)→h'.get? b=some o)→Q () { s with heap:=h' }):wpAny M A (setFlight (.ref e) none) Q E s:=by
 obtain ⟨hn,hHe,oe,vs,he,hc,hdi,hd,hsz,ht⟩:=t
 unfold setFlight
 rcases ht with ⟨h1,_⟩ | ⟨T,oT,ts,h1,hT,hTe,hHT,gT,hdT,h3⟩
 ·refine wpAny_bind (wpAny_field he hd h1 ?_)
  rw [if_neg (by decide)]
  exact wpAny_pure (h s.heap ⟨hn,hHe,oe,vs,he,hc,hdi,hd,hsz,.inl ⟨h1,rfl⟩⟩ hl (Kp.refl ..) fun _ _ e _=>e)
 ·have hs3:3<ts.size:=(Array.getElem?_eq_some_iff.mp h3).1
  refine wpAny_bind (wpAny_field he hd h1 ?_)
  rw [if_pos (show (Value.ref T != Value.none)=true from by simp)]
  have other:∀ b,b≠T→(s.heap.update T (Obj.mapFields (·.setIfInBounds 3 ((none:Option Addr).elim Value.none fun f=>rawInt f)))).get? b=s.heap.get? b:=fun b hb=>Heap.get?_update_other _ _ (Ne.symm hb)
  have self:=Heap.get?_update_self (Obj.mapFields (·.setIfInBounds 3 ((none:Option Addr).elim Value.none fun f=>rawInt f))) gT (Obj.isFreed_of_fields (Obj.data_mapFields hdT _))
  refine wpAny_setField gT hdT hs3 (h _ ⟨hn,hHe,oe,vs,(other e (Ne.symm hTe)).trans he,hc,hdi,hd,hsz,.inr ⟨T,_,_,h1,hT,hTe,hHT,self,Obj.data_mapFields hdT _,by simp [hs3]⟩⟩ (hl.of_keeps fun b o hb hnf=>⟨o,(other b fun z=>?_).trans hb,rfl⟩)
   ⟨fun b o hb _ hx=>(other b fun z=>?_).trans hb,fun _ _ _ hm=>(nomatch hm),fun b o hb=>?_,Nat.le_of_eq (Heap.size_after_update ..).symm⟩ fun b o hb hnf=>(other b fun z=>?_).trans hb)
  ·subst z
   rw [gT] at hb
   cases hb
   exact hnf ts hdT
  ·subst z
   rcases hx with hx | hx
   ·exact hx hT
   ·exact hx hHT
  ·by_cases z:b=T
   ·subst z
    exact ⟨_,self⟩
   ·exact ⟨o,(other b z).trans hb⟩
  ·subst z
   rw [gT] at hb
   cases hb
   exact hnf ts hdT
end
def CXE (P:Program)(w:World):CXT:=fun outer H s E e s'=>∃ a C ed H',e=.ref a∧s'.os=s.os∧AllBare s'.gens∧Un (frs outer) [] H H' s.heap s'.heap∧HOk P w H' s'.heap∧Trc H' s'.heap s.heap a C ed .none∧E C ed H'
theorem Trc.older {H:Hp}{h G G':Heap}{e:Addr}{C:Value}{ed:Option Addr}{fl:Value}(t:Trc H h G e C ed fl)(hm:∀ b,G.get? b=none→G'.get? b=none):Trc H h G' e C ed fl:=by
 obtain ⟨hn,hHe,oe,vs,he,hc,hdi,hd,hsz,ht⟩:=t
 refine ⟨hm _ hn,hHe,oe,vs,he,hc,hdi,hd,hsz,?_⟩
 rcases ht with ht | ⟨T,oT,ts,h1,hT,r⟩
 ·exact .inl ht
 ·exact .inr ⟨T,oT,ts,h1,hm _ hT,r⟩
theorem J6e {h:Heap}{b:Addr}(hb:h.objs.size≤b):h.get? b=none:=Heap.get?_none_of_le hb
theorem Inv.back {X:Cx}{pins:List (Addr×Obj)}{σ:St}{H:Hp}{s:Shared}(I:Inv X pins σ H s)(hex:X.ex=[])(b:Addr)(e:s.heap.get? b=none):X.s₀.heap.get? b=none:=by
 cases q:X.s₀.heap.get? b with
 | none=>rfl
 | some o =>
   obtain ⟨o',e'⟩:=I.base.there b o q (by rw [hex];simp)
   rw [e] at e';cases e'
structure Cov (X:Cx)(pins:List (Addr×Obj))(G:Heap):Prop where
 loc:G.get? X.env.locals≠none
 cell:∀ x c,X.env.cells.lookup x=some c→G.get? c≠none
 pin:∀ p∈X.pn++pins,G.get? p.1≠none
 old:∀ b,G.get? b=none→X.s₀.heap.get? b=none
theorem Inv.cov {X:Cx}{pins:List (Addr×Obj)}{σ:St}{H:Hp}{s:Shared}(I:Inv X pins σ H s)(hex:X.ex=[]):Cov X pins s.heap :=
 ⟨by obtain ⟨m,⟨o,_,_,ho,_⟩,_⟩:=I.loc;rw [ho];simp,fun x c e=>by obtain ⟨v,o,ho,_⟩:=I.cell x c e;rw [ho];simp,fun p hp=>by rw [(I.pin p hp).1];simp,I.back hex⟩
structure Told (X:Cx)(S:St→Prop)(E:XK):Prop where
 ex:X.ex=[]
 on:∀ pins σ H s a C ed G,S σ→Inv X pins σ H s→Trc H s.heap G a C ed .none→Cov X pins G→(∀ b,s.heap.get? b=none→G.get? b=none)→E C ed H→X.xe (.ref a) s
theorem Told.passes {X:Cx}{S:St→Prop}{E:XK}(T:Told X S E){pins:List (Addr×Obj)}{σ:St}{H:Hp}{s s':Shared}{e:Value}(hS:S σ)(I:Inv X pins σ H s)(h:CXE X.prog X.w X.stack H s E e s'):X.xe e s':=by
 obtain ⟨a,C,ed,H',rfl,os,bare,un,hok,t,q⟩:=h
 have J:Inv X pins σ H' s':=I.call' os un hok bare (fun b z=>absurd z (by simp))
 refine T.on pins σ H' s' a C ed s.heap hS J t (I.cov T.ex) (fun b e=>?_) q
 cases z:s.heap.get? b with
 | none=>rfl
 | some o =>
   obtain ⟨o',e'⟩:=un.there b o z (by simp)
   rw [e] at e';cases e'
theorem Kp.hok {P:Program}{w:World}{H:Hp}{G:Heap}{fs:List Addr}{h h':Heap}(k:Kp H G fs h h')(hf:∀ b∈fs,H b=none)(ok:HOk P w H h):HOk P w H h':=fun a o e =>
 (ok a o e).stay (fun b u hb q=>by
  have hn:H b≠none:=by
   rcases hb with rfl | hb
   ·rw [e];simp
   ·rw [hb];simp
  exact k.keep b u q (fun z=>hn (hf b z)) (.inr hn)) (fun _ q=>q) fun _ _ q=>q
theorem J8n {X:Cx}{pins:List (Addr×Obj)}{σ:St}{H:Hp}{s:Shared}{a:Addr}{C:Value}{ed:Option Addr}{E:XK}{E':Value→Shared→Prop}(hf:X.env.frame=some X.env.locals)(hst:X.stack=X.env::X.outer)(hex:X.ex=[])
 (I:Inv X pins σ H s) (t:Trc H s.heap X.s₀.heap a C ed .none) (q:E C ed H) :
 wpAny (model X.prog X.w) X.A (leaving X.env (.ref a)) (fun _ s'=>CXE X.prog X.w X.outer X.H₀ X.s₀ E (.ref a) s') E' s:=by
 have stk:s.heap.FunFrames X.base (X.env::X.outer):=hst ▸ I.stack
 have sfr:∀ b∈frs (X.env::X.outer),H b=none:=hst ▸ I.stkFree
 unfold leaving
 refine wpAny_bind (note_wp (hst ▸ I.ok.frames) stk hf (fun b hb=>I.hok.fresh hb) (fun b hb=>I.back hex b (J6e hb)) t fun h1 t1 f1 k1=>?_)
 refine flight_wp (s:={ s with heap:=h1 }) (outer:=X.env::X.outer) f1 t1 fun h2 t2 f2 k2 _=>?_
 have hlt:∀ b o,X.s₀.heap.get? b=some o→X.s₀.heap.get? b≠none:=fun b o e=>by rw [e];simp
 have hnl:∀ b o,X.s₀.heap.get? b=some o→b≠X.env.locals:=fun b o e=>Nat.ne_of_lt (Nat.lt_of_lt_of_le (Heap.lt_size e) I.ok.above)
 have mem:∀ b,b∈frs (X.env::X.outer)→b=X.env.locals∨b∈frs X.outer:=fun b hb=>by
  unfold frs at hb ⊢
  rw [List.filterMap_cons,hf] at hb
  exact List.mem_cons.mp hb
 have mem2:∀ b,b∈frs X.outer→b∈frs (X.env::X.outer):=fun b hb=>by
  unfold frs at hb ⊢
  rw [List.filterMap_cons,hf]
  exact List.mem_cons_of_mem _ hb
 refine ⟨a,C,ed,H,rfl,I.os,I.bare,⟨fun b o e hn hb _=>?_,fun b o e hn hb _=>?_,fun b o e hn _=>?_,fun b o e _=>?_,I.base.tups,I.base.frzs,I.base.tbls⟩,k2.hok (fun _ z=>absurd z (by simp)) (k1.hok sfr I.hok),t2,q⟩
 ·have e1:=I.base.keep b o e hn hb (by rw [hex];simp)
  have e2:=k1.keep b o e1 (fun z=>(mem b z).elim (hnl b o e) hb) (.inl (hlt b o e))
  exact k2.keep b o e2 (by simp) (.inl (hlt b o e))
 ·obtain ⟨sl,e1⟩:=I.base.slot b o e hn hb (by rw [hex];simp)
  obtain ⟨sl',e2⟩:=k1.slot b _ e1 (mem2 b hb)
  exact ⟨sl',k2.keep b _ e2 (by simp) (.inl (hlt b o e))⟩
 ·exact I.base.free b o e hn (by rw [hex];simp)
 ·obtain ⟨o1,e1⟩:=I.base.there b o e (by rw [hex];simp)
  obtain ⟨o2,e2⟩:=k1.there b o1 e1
  exact k2.there b o2 e2
theorem J1H {P:Program}{w:World}{K:PySem.W.Frag}{mg:Str→Option Value}{base:Heap}{N:List Str}{qual:Str}{scope:Scope}{f:Addr}{cd:Value}{A:Around}{outer:List Env}{s:Shared}{H:Hp}{E:XK} :
 Told (J30 (CXE P w) P w K mg base N qual scope f cd A outer s H E) (fun _=>True) E:=⟨rfl,fun _ _ _ _ _ _ _ _ _ I t c _ q=>J8n (X:=J30 (CXE P w) P w K mg base N qual scope f cd A outer s H E) rfl rfl rfl I (t.older c.old) q⟩
theorem Fun.okX {P:Program}{w:World}{K:PySem.W.Frag}{mg:Str→Option Value}{base:Heap}{x qual:Str}{st:Stmt}{f:Addr}{fd:FuncData}{N ps:List Str}{k:Nat}{sp:Sp}(F:Fun K x qual st f fd)(S:FnScope N ps (J9 st))(len:∀ vs H Q E,sp vs H Q E→vs.length=ps.length)
 (hbody:∀ (cdv:Value) (A:Around) (outer:List Env) (s:Shared) (H:Hp) (vs:List V) (Q:VK) (E:XK),Room k (A.deeper (envOfC qual (J9 st) s.heap.objs.size f cdv))→sp vs H Q E →
  ∃ t,PSs (J30 (CXE P w) P w K mg base N qual (J9 st) f cdv A outer s H E) (Jg st) t∧t { nx:=fun _ H'=>Q .non H',rt:=Q } (start N vs) H):FnOk P w K mg base (CXE P w) (k+1) f fd ps sp:=by
 obtain ⟨oc,od,kV,doc,pm,an,cdv,ct,osl,rfl,lk,hcd⟩:=F.ex
 exact JbM lk hcd S len fun A outer s H vs Q E hr hsp=>hbody cdv A outer s H vs Q E hr hsp
section
variable {X:Cx}{k:Nat}{f C:Addr}{fd:FuncData}{ps:List Str}{sp:Sp}{x m:Str}{p pos apos:Pos}{e o:Expr}{es:List Expr}{ta:TE}{t:TA}{S:St→Prop}{E:XK}
theorem J7z {pins:List (Addr×Obj)}{σ:St}{H:Hp}{s:Shared}{Q:VK}{us:List Value}{vs:List V}(T:Told X S E)(F:FnOk X.prog X.w X.K X.mg X.base (CXE X.prog X.w) k f fd ps sp)(hr:Room k X.A)(hb:Binds X.K fd ps [])(hS:S σ)
 (I:Inv X pins σ H s) (r:Vals vs us) (h:sp vs H Q E):wpAny (model X.prog X.w) X.A (call (.ref f) us) (EP X pins σ Q) X.xe s:=by
 have hl:(us++([]:List Value)).length=ps.length:=by rw [List.append_nil,← r.length];exact F.len _ _ _ _ h
 have bd:=hb s us I.kIn hl
 rw [List.append_nil] at bd
 refine wpAny_call (codeAny_mono (F.run X.A X.stack s H ⟨us,[]⟩ us vs Q E hr I.env0 bd r h) fun r s' hq=>?_)
 match r,hq with
 | .error e,hq=>exact T.passes hS I hq
 | .ok (.ret u),hq=>exact I.after hq
 | .ok .next,hq=>exact False.elim hq
 | .ok .brk,hq=>exact False.elim hq
 | .ok .cont,hq=>exact False.elim hq
def J4M (S:St→Prop)(sp:Sp)(E:XK)(t:TA):TE:=fun σ H Q=>t σ H fun vs H1=>S σ∧sp vs H1 Q E
theorem J2A {st:Stmt}(T:Told X S E)(D:DefOk X.K X.mg x st ps f fd)(G:FnOk X.prog X.w X.K X.mg X.base (CXE X.prog X.w) k f fd ps sp)(hr:Room k X.A)
 (hg:Gl X x) (hdb:(x == ("__debug__":Str))=false) (hn:(e::es).all Ju=true) (ha:PA X (e::es) t) :
 PE X (.Call (.Name x p) (e::es) [] pos) (J4M S sp E t):=by
 have hs:Ju e=true∧es.all Ju=true:=by rw [List.all_cons,Bool.and_eq_true] at hn;exact hn
 intro pins s σ H Q I h
 refine wpAny_Call_Name_kw (J27 I hg D.m ?_ hdb)
 refine PySem.W.callWith_K (h₀:=X.base) I.ok.mod.kin D.F.kp (thn (ha pos pins s σ H _ I h) fun us s1 ⟨vs,H1,I1,r,hS,q⟩=>⟨I1.kIn,?_⟩) (JE hs.1) (J11 hs.2)
 exact J7z T G hr D.b hS I1 r q
end
noncomputable abbrev vbm:List Value:=[.type "ValueError",.type "Exception",.type "BaseException",.type "object"]
theorem Jcm {K:PySem.W.Frag}{h:Heap}{N:Addr}{mg:Str→Option Value}{n:Str}{r:Option Value}(X:K.In h)(G:h.Ns N mg)(e:PySem.W.nsIn K N n=some r):mg n=r:=by
 obtain ⟨o,es,ep,ho,hd,_,hf⟩:=G
 unfold PySem.W.nsIn at e
 split at e
 ·rename_i q
  have z:=X _ _ q
  rw [ho] at z
  cases z
  cases hd
  rw [← hf]
  unfold nsFind findBy
  rw [← Array.find?_toList]
  split at e
  ·rename_i he
   rw [he]
   exact Option.some.inj e
  ·rename_i he
   rw [he]
   split at e
   ·cases e
   ·exact Option.some.inj e
 ·cases e
noncomputable def exB (K:PySem.W.Frag)(C:Addr)(ini:Option Value):Bool:=match K.lookup C with
 | some ⟨.type "type",_,.cls cd,sl⟩=>(match cd.mro,sl.toList with
   | .ref C'::bm,[_,_,_,_,some (.builtin n),_]=>C' == C&&(n == "ValueError.__new__"&&(PySem.W.tailIn K vbm bm&&(!cd.hasDel&&(PySem.W.nsOkIn K cd.ns&&PySem.W.nsIn K cd.ns "__init__" == some ini))))
   | _,_=>false)
 | _=>false
theorem J5i {K:PySem.W.Frag}{h:Heap}{C:Addr}{ini:Option Value}(X:K.In h)(q:exB K C ini=true) :
 ∃ nm qn N bs bm hd sn sub ab col dd k0 k1 k2 k3 k5,h.get? C=some (excClassObj nm qn C N bs bm hd sn sub ab col dd k0 k1 k2 k3 k5 "ValueError.__new__")∧(∃ mN,h.Ns N mN∧mN "__init__"=ini)∧OwnTail h vbm bm:=by
 unfold exB at q
 split at q
 ·rename_i dd cd sl ho
  split at q
  ·rename_i C' bm k0 k1 k2 k3 n k5 hm hs
   simp only [Bool.and_eq_true,beq_iff_eq,Bool.not_eq_true'] at q
   obtain ⟨rfl,rfl,ht,hdel,hok,hni⟩:=q
   obtain ⟨nm,bs,mro,ns,qn,hd,sn,sub,ab,col,del⟩:=cd
   obtain ⟨l⟩:=sl
   dsimp only at hm hdel hok hni hs
   subst hm hdel hs
   have hN:h.Ns ns (h.nsMap ns):=.of_isNs (PySem.W.isNs_of_in X hok)
   exact ⟨nm,qn,ns,bs,bm,hd,sn,sub,ab,col,dd,k0,k1,k2,k3,k5,X _ _ ho,⟨_,hN,Jcm X hN hni⟩,PySem.W.tail_of_in X ht⟩
  ·cases q
 ·cases q
theorem J6f {h:Heap}{bm:List Value}(T:OwnTail h vbm bm):bm.contains (.type "BaseException")=true:=T.hasType (by decide)
theorem ObjOk.got {P:Program}{w:World}{H:Hp}{h:Heap}{a:Addr}{o:HO}(x:ObjOk P w H h a o):∃ u,h.get? a=some u:=by
 cases o with
 | lst xs=>obtain ⟨_,_,_,_,e⟩:=x;exact ⟨_,e⟩
 | tup xs=>obtain ⟨_,_,_,_,e,_⟩:=x;exact ⟨_,e⟩
 | dK kvs=>obtain ⟨_,_,_,_,o,_,_,e,_⟩:=x;exact ⟨_,e⟩
 | dT kvs=>obtain ⟨_,_,_,_,o,_,_,e,_⟩:=x;exact ⟨_,e⟩
 | set S n=>obtain ⟨o,_,_,_,e,_⟩:=x;exact ⟨_,e⟩
 | ins C dx fs=>obtain ⟨_,_,_,e,_⟩:=x;exact ⟨_,e⟩
 | own y=>exact x
 | xd fs=>obtain ⟨_,⟨_,_,_,e,_⟩,_⟩:=x;exact ⟨_,e⟩
 | rng lo hi=>obtain ⟨_,_,_,e⟩:=x;exact ⟨_,e⟩
 | frz ob u=>obtain ⟨e,_⟩:=x;exact ⟨_,e⟩
 | tbl ps=>exact ⟨_,(show h.get? a=some _ from x)⟩
 | met f y=>exact ⟨_,(show h.get? a=some _ from x)⟩
 | ext φ=>obtain ⟨_,e,_⟩:=x;exact e
theorem HOk.unheld {P:Program}{w:World}{H:Hp}{h:Heap}{a:Addr}(x:HOk P w H h)(e:h.get? a=none):H a=none:=by
 cases q:H a with
 | none=>rfl
 | some o =>
   obtain ⟨u,e'⟩:=(x a o q).got
   rw [e] at e';cases e'
theorem J9Q {H:Hp}{h h' G:Heap}{e:Addr}{C:Value}{vs:List Value}(m:Heap.MadeExcOf h h' e C vs)(hG:∀ b,h.get? b=none→G.get? b=none)(hH:∀ b,h.get? b=none→H b=none):Trc H h' G e C none .none:=by
 obtain ⟨t,he,_,_⟩:=m.there
 exact ⟨hG e m.new,hH e m.new,_,_,he,rfl,rfl,rfl,Nat.lt_of_sub_eq_succ rfl,.inl ⟨rfl,rfl⟩⟩
section
variable {X:Cx}{e:Expr}{es:List Expr}{t:TA}{S:St→Prop}{E:XK}
def J4E (S:St→Prop)(E:XK)(C:Addr)(t:TA):TS:=fun _ σ H=>t σ H fun vs H1=>S σ∧vs.length≤sizeLine∧E (.ref C) none H1
theorem J5L {x:Str}{np cpos pos:Pos}{C:Addr}(T:Told X S E)(hcalm:X.calm=true)(q:exB X.K C none=true)(hg:Gl X x)(hm:X.mg x=some (.ref C))(hdb:(x == ("__debug__":Str))=false)(hn:(e::es).all Ju=true)(ha:PA X (e::es) t) :
 PS X (.Raise (some (.Call (.Name x np) (e::es) [] cpos)) none pos) (J4E S E C t):=by
 intro pins s σ H D I h
 have hs:Ju e=true∧es.all Ju=true:=by rw [List.all_cons,Bool.and_eq_true] at hn;exact hn
 obtain ⟨nm,qn,N,bs,bm,hd,sn,sub,ab,col,dd,k0,k1,k2,k3,k5,hC,⟨mN,hN,hni⟩,TL⟩:=J5i I.ok.mod.kin q
 have F:=PySem.F.excBase_ValueError
 refine wpAny_Raise_call_subU (nm:=nm) (q:=qn) (C:=C) (N:=N) (bs:=bs) (bm:=bm) (hdct:=hd) (sn:=sn) (sub:=sub) (ab:=ab) (col:=col) (dd:=dd) (k0:=k0) (k1:=k1) (k2:=k2) (k3:=k3) (k5:=k5) F (by decide) F (J6f TL) (I.ok.hd hcalm) (J11 hn) hni (J27 I hg hm ⟨rfl,?_⟩ hdb)
 have hst:=JE (es:=es) (env:=X.env) hs.1
 have ha2:=ha cpos pins s σ H _ I h
 rw [hst] at ha2 ⊢
 refine Calls.evalArgs_plain (thn ha2 fun us s1 z=>?_)
 obtain ⟨vs,H1,I1,r,hS,hl,qE⟩:=z
 refine ⟨rfl,by rw [← r.length];exact hl,I1.bk _ _ hC,hN.keeps I1.bk,TL.keeps I1.bk,fun h' a m=>?_⟩
 have J:Inv X pins σ H1 { s1 with heap:=h' }:=by
  have:=I1.kept (h':=h') (t':=s1.toks) m.keeps
  exact this
 refine T.on pins σ H1 _ a (.ref C) none s1.heap hS J (J9Q m (fun b hb=>hb) fun b hb=>I1.hok.unheld hb) (I1.cov T.ex) (fun b hb=>?_) qE
 cases z:s1.heap.get? b with
 | none=>rfl
 | some o =>
   have:=m.keeps b o z
   rw [show h'.get? b=none from hb] at this;cases this
end
section
variable {X:Cx}{pins:List (Addr×Obj)}{σ:St}{H:Hp}{s:Shared}{G:Heap}
theorem Inv.kp {h':Heap}(I:Inv X pins σ H s)(c:Cov X pins G)(k:Kp H G (frs X.stack) s.heap h'):Inv X pins σ H { s with heap:=h' }:=by
 have any:∀ b o,s.heap.get? b=some o→G.get? b≠none→∃ sl,h'.get? b=some { o with slots:=sl }:=fun b o e hg=>by
  by_cases hb:b∈frs X.stack
  ·exact k.slot b o e hb
  ·exact ⟨o.slots,k.keep b o e hb (.inl hg)⟩
 have hG:∀ b o,X.s₀.heap.get? b=some o→G.get? b≠none:=fun b o e z=>by
  have:=c.old b z
  rw [e] at this;cases this
 have nL:∀ b o,X.s₀.heap.get? b=some o→b≠X.env.locals:=fun b o e=>Nat.ne_of_lt (Nat.lt_of_lt_of_le (Heap.lt_size e) I.ok.above)
 have cellK:∀ x cc,X.env.cells.lookup x=some cc→∀ v,s.heap.IsCell cc v→h'.IsCell cc v:=fun x cc e v ⟨o,ho,hd⟩=>by
  obtain ⟨sl,q⟩:=any cc o ho (c.cell x cc e)
  exact ⟨_,q,hd⟩
 refine ⟨I.ok,I.os,I.bare,⟨fun b o e hn hb hx=>?_,fun b o e hn hb hx=>?_,I.base.free,fun b o e hx=>?_,I.base.tups,I.base.frzs,I.base.tbls⟩,?_,fun x cc e=>?_,I.free,I.freeC,fun p hp=>?_,k.hok I.stkFree I.hok,I.len⟩
 ·exact k.keep b o (I.base.keep b o e hn hb hx) (fun z=>(List.mem_cons.mp (I.stkSub b z)).elim (nL b o e) hb) (.inl (hG b o e))
 ·obtain ⟨sl,e1⟩:=I.base.slot b o e hn hb hx
  obtain ⟨sl',e2⟩:=any b _ e1 (hG b o e)
  exact ⟨sl',e2⟩
 ·obtain ⟨o1,e1⟩:=I.base.there b o e hx
  exact k.there b o1 e1
 ·obtain ⟨m,⟨o,es,ep,ho,r⟩,hl⟩:=I.loc
  obtain ⟨sl,q⟩:=any _ o ho c.loc
  refine ⟨m,⟨_,es,ep,q,r⟩,fun i x v e1 e2 e3=>?_⟩
  obtain ⟨u,ru,l⟩:=hl i x v e1 e2 e3
  refine ⟨u,ru,?_⟩
  rcases l with l | ⟨kk,cc,e,z⟩
  ·exact .inl l
  ·exact .inr ⟨kk,cc,e,cellK x cc e _ z⟩
 ·obtain ⟨v,z⟩:=I.cell x cc e
  exact ⟨v,cellK x cc e v z⟩
 ·obtain ⟨e,n,ne,nf,d⟩:=I.pin p hp
  exact ⟨k.keep p.1 p.2 e (fun z=>(List.mem_cons.mp (I.stkSub p.1 z)).elim ne nf) (.inl (c.pin p hp)),n,ne,nf,d⟩
theorem Inv.hold {a:Addr}{o:HO}(I:Inv X pins σ H s)(c:Cov X pins G)(ha:G.get? a=none)(hH:H a=none)(ok:ObjOk X.prog X.w (upd H a o) s.heap a o):Inv X pins σ (upd H a o) s:=by
 have ne:∀ b,G.get? b≠none→b≠a:=fun b h z=>by subst z;exact h ha
 have ne2:∀ b u,H b=some u→b≠a:=fun b u h z=>by subst z;rw [hH] at h;cases h
 have neo:∀ b o',X.s₀.heap.get? b=some o'→b≠a:=fun b o' e z=>by
  subst z
  have:=c.old b ha
  rw [e] at this;cases this
 refine ⟨I.ok,I.os,I.bare,⟨I.base.keep,I.base.slot,fun b o' e hn hx=>by rw [Jk (neo b o' e)];exact I.base.free b o' e hn hx,I.base.there,fun b xs e=>?_,fun b o' u e=>?_,fun b ps e=>?_⟩,I.loc,I.cell,by rw [Jk (ne _ c.loc)];exact I.free,fun x cc e=>by rw [Jk (ne _ (c.cell x cc e))];exact I.freeC x cc e,fun p hp=>?_,fun b u e=>?_,I.len⟩
 ·have:=I.base.tups b xs e
  rw [Jk (ne2 b _ this)];exact this
 ·have:=I.base.frzs b o' u e
  rw [Jk (ne2 b _ this)];exact this
 ·obtain ⟨m,this⟩:=I.base.tbls b ps e
  exact ⟨m,by rw [Jk (ne2 b _ this)];exact this⟩
 ·obtain ⟨e,n,r⟩:=I.pin p hp
  exact ⟨e,by rw [Jk (ne _ (c.pin p hp))];exact n,r⟩
 ·by_cases z:b=a
  ·subst z
   rw [Jb] at e
   cases e
   exact ok
  ·rw [Jk z] at e
   exact (I.hok b u e).stay (fun _ _ _ q=>q) (fun d q=>by rw [Jk (ne2 d _ q)];exact q) fun d xs q=>by rw [Jk (ne2 d _ q)];exact q
theorem name_gone {M:Model}{A:Around}{E:Value→Shared→Prop}{i:Nat}{n:Str}{pos:Pos}{Q:Unit→Shared→Prop}(I:Inv X pins σ H s)(hN:X.N.Nodup)(hi:X.N[i]?=some n)(hk:X.env.scope.names.lookup n=some .local)
 (h:∀ s',Inv X pins (σ.set i none) H s'→Q () s'):wpAny M A (do bindName X.env n .none;unbindBehindTheSuite X.env n pos) Q E s:=by
 refine wpAny_bind (wpAny_bindName (J2t (v:=.non) I hN hi (.inl hk) rfl (fun s1 I1=>?_) (.inr hk)))
 have hcls:(X.env.scope.kind == .class||(X.env.scope.kind == .module&&X.env.locals != X.env.globals))=false:=by rw [I.ok.kind];rfl
 have hiσ:i<σ.length:=by rw [I.len];exact (List.getElem?_eq_some_iff.mp hi).1
 obtain ⟨m,hn,hl⟩:=id I1.loc
 obtain ⟨u,ru,l⟩:=hl i n .non hi (List.getElem?_set_self hiσ) (.inl hk)
 have hv:m n=some u:=by
  rcases l with l | ⟨l,_⟩
  ·exact l.2
  ·have l2:X.env.scope.names.lookup n=some .cell∨X.env.scope.names.lookup n=some .free:=l
   rw [hk] at l2
   rcases l2 with l2 | l2<;>cases l2
 unfold unbindBehindTheSuite
 refine wpAny_onRaise (wpAny_unbindName_local hk hn hv hcls fun h' u' hn' hs=>h _ ?_)
 obtain ⟨oL,_,_,hoL,_⟩:=id hn
 refine ⟨I1.ok,I1.os,I1.bare,⟨fun b o e n hb hx=>?_,fun b o e n hb hx=>?_,I1.base.free,fun b o e hx=>?_,I1.base.tups,I1.base.frzs,I1.base.tbls⟩,⟨_,hn',fun j y v' e1 e2 e3=>?_⟩,fun y c e=>?_,I1.free,I1.freeC,fun p hp=>?_,fun b ob e=>?_,by simpa using I.len⟩
 ·exact (hs.2 b (Nat.ne_of_lt (Nat.lt_of_lt_of_le (Heap.lt_size e) I1.ok.above))).trans (I1.base.keep b o e n hb hx)
 ·obtain ⟨sl,e1⟩:=I1.base.slot b o e n hb hx
  exact ⟨sl,(hs.2 b (Nat.ne_of_lt (Nat.lt_of_lt_of_le (Heap.lt_size e) I1.ok.above))).trans e1⟩
 ·obtain ⟨o',e1⟩:=I1.base.there b o e hx
  exact ⟨o',(hs.2 b (Nat.ne_of_lt (Nat.lt_of_lt_of_le (Heap.lt_size e) I1.ok.above))).trans e1⟩
 ·by_cases hj:j=i
  ·subst hj
   rw [List.getElem?_set_self hiσ] at e2
   cases e2
  ·rw [List.getElem?_set_ne (Ne.symm hj)] at e2
   obtain ⟨w,rw',q⟩:=hl j y v' e1 (by rw [List.getElem?_set_ne (Ne.symm hj)];exact e2) e3
   refine ⟨w,rw',?_⟩
   rcases q with ⟨kk,e⟩ | ⟨kk,c,e,z⟩
   ·refine .inl ⟨kk,?_⟩
    have:y≠n:=fun e=>hj (J1k hN e1 (e ▸ hi))
    simp [this,e]
   ·exact .inr ⟨kk,c,e,z.sameBut hs (I1.cne y c e)⟩
 ·obtain ⟨w',z⟩:=I1.cell y c e
  exact ⟨w',z.sameBut hs (I1.cne y c e)⟩
 ·obtain ⟨e,n,ne,nf,d⟩:=I1.pin p hp
  exact ⟨(hs.2 p.1 ne).trans e,n,ne,nf,d⟩
 ·refine (I1.hok b ob e).stay (fun c w' hc q=>(hs.2 c ?_).trans q) (fun _ q=>q) fun _ _ q=>q
  rintro rfl
  rcases hc with rfl | hc
  ·rw [I1.free] at e;cases e
  ·rw [I1.free] at hc;cases hc
end
noncomputable def ExO (a:Addr)(C:Value)(ed:Option Addr):HO:=.ext fun h=>∃ oe vs,h.get? a=some oe∧oe.cls=C∧oe.dict=ed∧oe.data=.fields vs
theorem JcF {P:Program}{w:World}{H:Hp}{h:Heap}{a:Addr}{C:Value}{ed:Option Addr}(x:∃ oe vs,h.get? a=some oe∧oe.cls=C∧oe.dict=ed∧oe.data=.fields vs):ObjOk P w H h a (ExO a C ed) :=
 ⟨x,(let ⟨oe,_,e,_⟩:=x;⟨oe,e⟩),fun h1 h2 ⟨oe,vs,e,r⟩ k=>⟨oe,vs,k oe e,r⟩⟩
noncomputable def Cx.inTry (X:Cx)(pins:List (Addr×Obj))(W:Value→Shared→Prop):Cx:={ X with xe:=W,pn:=X.pn++pins }
noncomputable def Cx.inHand (X:Cx)(a:Addr):Cx:={ X with A:=X.A.mark (some (.ref a)),calm:=false,xe:=fun _ _=>False }
section
variable {X:Cx}{pins:List (Addr×Obj)}{σ:St}{H:Hp}{s:Shared}{G:Heap}{W:Value→Shared→Prop}
theorem Inv.inTry (I:Inv X pins σ H s):Inv (X.inTry pins W) [] σ H s :=
 have ok:=I.ok
 ⟨⟨ok.mod,ok.kind,ok.glob,ok.blt,ok.above,ok.inj,ok.has,ok.cab,ok.hd,ok.frames,ok.stk,ok.exf,ok.bs,ok.bsz,ok.noex,ok.exfs,ok.funs,ok.frf⟩,I.os,I.bare,I.base,I.loc,I.cell,I.free,I.freeC,
   fun p hp=>I.pin p (by rw [List.append_nil] at hp;exact hp),I.hok,I.len⟩
theorem Inv.offTry {pins':List (Addr×Obj)}(I:Inv (X.inTry pins W) pins' σ H s):Inv X pins σ H s :=
 have ok:=I.ok
 ⟨⟨ok.mod,ok.kind,ok.glob,ok.blt,ok.above,ok.inj,ok.has,ok.cab,ok.hd,ok.frames,ok.stk,ok.exf,ok.bs,ok.bsz,ok.noex,ok.exfs,ok.funs,ok.frf⟩,I.os,I.bare,I.base,I.loc,I.cell,I.free,I.freeC,
   fun p hp=>I.pin p (List.mem_append_left _ hp),I.hok,I.len⟩
theorem Cov.offTry {pins':List (Addr×Obj)}(c:Cov (X.inTry pins W) pins' G):Cov X pins G:=⟨c.loc,c.cell,fun p hp=>c.pin p (List.mem_append_left _ hp),c.old⟩
theorem Inv.inHand {a:Addr}(I:Inv X pins σ H s):Inv (X.inHand a) pins σ H s :=
 have ok:=I.ok
 ⟨⟨ok.mod,ok.kind,ok.glob,ok.blt,ok.above,ok.inj,ok.has,ok.cab,(fun z=>nomatch z),ok.frames,ok.stk,ok.exf,ok.bs,ok.bsz,ok.noex,ok.exfs,ok.funs,ok.frf⟩,I.os,I.bare,I.base,I.loc,I.cell,I.free,I.freeC,I.pin,I.hok,I.len⟩
theorem Inv.offHand {a:Addr}(I:Inv (X.inHand a) pins σ H s)(ox:X.Ok):Inv X pins σ H s:=⟨ox,I.os,I.bare,I.base,I.loc,I.cell,I.free,I.freeC,I.pin,I.hok,I.len⟩
end
def JcU (X:Cx)(pins:List (Addr×Obj))(σ:St)(E:XK):Value→Shared→Prop:=fun e s=>∃ a C ed H G,e=.ref a∧Inv X pins σ H s∧Trc H s.heap G a C ed .none∧Cov X pins G∧(∀ b,s.heap.get? b=none→G.get? b=none)∧E C ed H
theorem J2q {X:Cx}{pins:List (Addr×Obj)}{σ:St}{E:XK}(hex:X.ex=[]):Told (X.inTry pins (JcU X pins σ E)) (fun σ'=>σ'=σ) E :=
 ⟨hex,fun _ _ H _ a C ed G hS I t c hG q=>⟨a,C,ed,H,G,rfl,by subst hS;exact I.offTry,t,c.offTry,hG,q⟩⟩
def PH (X:Cx)(hs:List ExceptHandler)(th:Value→Option Addr→TS):Prop :=
 ∀ (pins:List (Addr×Obj)) (s:Shared) (σ:St) (H:Hp) (D:Ends) (a:Addr) (C:Value) (ed:Option Addr) (G:Heap),Inv X pins σ H s→Trc H s.heap G a C ed .none→Cov X pins G→th C ed D σ H →
   wpAny (model X.prog X.w) X.A (handleBy (.ref a) X.env hs) (SP X pins D) X.xe s
theorem Jcc {X:Cx}:PH X [] (fun _ _ _ _ _=>False):=fun _ _ _ _ _ _ _ _ _ _ _ _ h=>h.elim
noncomputable def J90 (K:PySem.W.Frag)(C B:Addr):Bool:=match K.lookup C with
 | some ⟨_,_,.cls cd,_⟩=>cd.mro.contains (.ref B)
 | _=>false
theorem Jc0 {K:PySem.W.Frag}{h:Heap}{C B:Addr}{ini:Option Value}{nm qn:Str}{N:Addr}{bs bm:List Value}{hd:Bool}{sn:List Str}{sub:List Value}{ab:Bool}{col:Option Bool}{dd:Option Addr}{k0 k1 k2 k3 k5:Option Value}{nw:String}(X:K.In h)(q:exB K C ini=true)
 (hC:h.get? C=some (excClassObj nm qn C N bs bm hd sn sub ab col dd k0 k1 k2 k3 k5 nw)):J90 K C B=(Value.ref C::bm).contains (.ref B):=by
 unfold exB at q
 split at q
 ·rename_i ho
  have e:=X _ _ ho
  rw [hC] at e
  cases e
  unfold J90
  rw [ho]
 ·cases q
theorem J8j {M:Model}{A:Around}{E:Value→Shared→Prop}{h:Heap}{g:Array GenState}{d:Drawn}{t:Nat}{os:OsState}{e C B:Addr}{oe:Obj}{Q:Bool→Shared→Prop}
 {nm qn:Str} {N:Addr} {bs bm:List Value} {hd:Bool} {sn:List Str} {sub:List Value} {ab:Bool} {col:Option Bool} {dd:Option Addr} {k0 k1 k2 k3 k5:Option Value} {nw:String}
 {nm' qn':Str} {N':Addr} {bs' bm':List Value} {hd':Bool} {sn':List Str} {sub':List Value} {ab':Bool} {col':Option Bool} {dd':Option Addr} {l0 l1 l2 l3 l5:Option Value} {nw':String}
 (hC:h.get? C=some (excClassObj nm qn C N bs bm hd sn sub ab col dd k0 k1 k2 k3 k5 nw)) (hB:h.get? B=some (excClassObj nm' qn' B N' bs' bm' hd' sn' sub' ab' col' dd' l0 l1 l2 l3 l5 nw'))
 (he:h.get? e=some oe) (hcls:oe.cls=.ref C) (hbase:bm'.contains (.type "BaseException")=true) (hq:Q ((Value.ref C::bm).contains (.ref B)) ⟨h,g,d,t,os⟩):wpAny M A (excMatches (.ref e) (.ref B)) Q E ⟨h,g,d,t,os⟩:=by
 have hcB:(Value.ref B::bm').contains (.type "BaseException")=true:=by rw [List.contains_cons,hbase,Bool.or_true]
 have f:=tc_notTuple
 unfold excMatches
 repeat (first | (with_reducible refine wpAny_loadPart_at he ?_;rw [hcls]) | with_reducible refine wpAny_loadPart_at hB ?_ | (with_reducible refine wpAny_isSubtype_exc hB ?_;rw [hcB]) | with_reducible refine wpAny_isSubtype_exc hC ?_ | wp_step)
 cases hb:(Value.ref C::bm).contains (.ref B)<;>(rw [hb] at hq;wp_walk;exact hq)
noncomputable def Jbc (i:Nat)(D:Ends):Ends:={ nx:=fun σ H=>D.nx (σ.set i none) H,rt:=D.rt,bk:=fun σ H=>D.bk (σ.set i none) H,ct:=fun σ H=>D.ct (σ.set i none) H }
def tAs (K:PySem.W.Frag)(B:Addr)(i:Nat)(ts:TS)(thr:Value→Option Addr→TS):Value→Option Addr→TS:=fun C ed D σ H=>∃ Cc ini b,C=.ref Cc∧exB K Cc ini=true∧J90 K Cc B=b ∧
 if b=true then (∀ a,H a=none→ts (Jbc i D) (σ.set i (some (.ref a))) (upd H a (ExO a C ed))) else thr C ed D σ H
section
variable {X:Cx}
theorem Kp.wide' {H:Hp}{G:Heap}{h h':Heap}{fs:List Addr}(k:Kp H G [] h h')(hd:∀ b∈fs,∀ o,h.get? b=some o→∃ sl,h'.get? b=some { o with slots:=sl }):Kp H G fs h h' :=
 ⟨fun b o e _ hx=>k.keep b o e (by simp) hx,fun b o e hm=>hd b hm o e,k.there,k.size⟩
theorem ph_as {x n:Str}{np hpos:Pos}{b₀:Stmt}{suite:List Stmt}{rest:List ExceptHandler}{ts:TS}{thr:Value→Option Addr→TS}{B:Addr}{i:Nat}{inB:Option Value}(hg:Gl X x)(hm:X.mg x=some (.ref B))(qB:exB X.K B inB=true)(hdb:(x == ("__debug__":Str))=false)
 (hN:X.N.Nodup) (hi:X.N[i]?=some n) (hk:X.env.scope.names.lookup n=some .local) (hsu:∀ a,PSs (X.inHand a) (b₀::suite) ts) (hr:PH X rest thr) :
 PH X (.ExceptHandler (some (.Name x np)) (some n) (b₀::suite) hpos::rest) (tAs X.K B i ts thr):=by
 intro pins s σ H D a C ed G I t c h
 obtain ⟨Cc,ini,b,rfl,q,hb,h⟩:=h
 have Ih:Inv (X.inHand a) pins σ H s:=I.inHand
 refine wpAny_handleBy_cons (codeAny_handlers_test (J27 (X:=X.inHand a) Ih hg hm ?_ hdb)) (by intro z;cases z)
 obtain ⟨_,qn,N,bs,bm,hd,sn,sub,ab,col,dd,k0,k1,k2,k3,k5,hC,_,TL⟩:=J5i I.kIn q
 obtain ⟨_,qn',N',bs',bm',hd',sn',sub',ab',col',dd',l0,l1,l2,l3,l5,hB,_,TB⟩:=J5i I.kIn qB
 obtain ⟨ha,hHa,oe,vs,he,hcl,hdi,hda,hsz,htb⟩:=id t
 obtain ⟨sh,sg,sd,stk,sos⟩:=s
 refine J8j hC hB he hcl (J6f TB) ?_
 rw [← Jc0 I.kIn q hC,hb]
 cases b with
 | false =>
   rw [if_neg Bool.false_ne_true] at h
   exact hr pins _ σ H D a _ ed G I t c h
 | true =>
   rw [if_pos rfl] at h
   refine codeAny_handlers_suite_as ?_
   refine flight_wp (outer:=X.stack) I.stack t fun h1 t1 f1 kp1 kn1=>?_
   have I1:Inv X pins σ H { heap:=h1,gens:=sg,drawn:=sd,toks:=stk,os:=sos }:=I.kp c (kp1.wide' fun b hm o e=>?_)
   ·have Ia:Inv X pins σ (upd H a (ExO a (.ref Cc) ed)) { heap:=h1,gens:=sg,drawn:=sd,toks:=stk,os:=sos }:=by
     obtain ⟨_,_,oe1,vs1,he1,hcl1,hdi1,hda1,_⟩:=id t1
     exact I1.hold c ha hHa (JcF ⟨oe1,vs1,he1,hcl1,hdi1,hda1⟩)
    refine J2t (X:=X.inHand a) (v:=.ref a) Ia.inHand hN hi (.inl hk) rfl (fun s2 I2=>?_) (.inr hk)
    refine wpAny_mono (hsu a pins s2 _ _ _ I2 (h a hHa)) (fun f s3 z=>?_) fun _ _ z=>z.elim
    show wpAny _ X.A (do bindName X.env n .none;unbindBehindTheSuite X.env n hpos) _ _ s3
    cases f with
    | next =>
      obtain ⟨σ',H',J,z⟩:=z
      exact name_gone (J.offHand I.ok) hN hi hk fun s4 J4=>⟨_,H',J4,z⟩
    | brk =>
      obtain ⟨σ',H',J,z⟩:=z
      exact name_gone (J.offHand I.ok) hN hi hk fun s4 J4=>⟨_,H',J4,z⟩
    | cont =>
      obtain ⟨σ',H',J,z⟩:=z
      exact name_gone (J.offHand I.ok) hN hi hk fun s4 J4=>⟨_,H',J4,z⟩
    | ret u =>
      obtain ⟨v,σ',H',J,rv,z⟩:=z
      exact name_gone (J.offHand I.ok) hN hi hk fun s4 J4=>⟨v,_,H',J4,rv,z⟩
   ·obtain ⟨_,o',ho',hnf⟩:=I.stack.mem hm
    have e':=ho'.symm.trans e
    cases e'
    exact ⟨o.slots,kn1 b o ho' hnf⟩
def J8P (tb:St→XK→TS)(th:Value→Option Addr→TS):TS:=fun D σ H=>tb σ (fun C ed H'=>th C ed D σ H') D σ H
theorem ps_try {body:List Stmt}{h₀:ExceptHandler}{hs:List ExceptHandler}{pos:Pos}{tb:St→XK→TS}{th:Value→Option Addr→TS}(hst:X.stack=X.env::X.outer)(hfr:X.env.frame=some X.env.locals)
 (hb:∀ (pins:List (Addr×Obj)) (σ:St) (E:XK),PSs (X.inTry pins (JcU X pins σ E)) body (tb σ E)) (hh:PH X (h₀::hs) th):PS X (.Try body (h₀::hs) [] [] pos) (J8P tb th):=by
 intro pins s σ H D I h
 refine wpAny_Try_except (wpAny_mono (hb pins σ _ [] s σ H D I.inTry h) (fun f s1 z=>?_) fun e s1 z=>?_)
 ·cases f with
  | next =>
    obtain ⟨σ',H',J,z⟩:=z
    exact wpAny_execs_nil ⟨σ',H',J.offTry,z⟩
  | brk =>
    obtain ⟨σ',H',J,z⟩:=z
    exact ⟨σ',H',J.offTry,z⟩
  | cont =>
    obtain ⟨σ',H',J,z⟩:=z
    exact ⟨σ',H',J.offTry,z⟩
  | ret u =>
    obtain ⟨v,σ',H',J,rv,z⟩:=z
    exact ⟨v,σ',H',J.offTry,rv,z⟩
 ·obtain ⟨a,C,ed,H',G,rfl,J,t,c,hG,q⟩:=z
  refine note_wp (hst ▸ J.ok.frames) (hst ▸ J.stack) hfr (fun b hb=>J.hok.fresh hb) ?_ t fun h1 t1 f1 k1=>?_
  ·exact fun b hb=>hG b (J6e hb)
  ·have J1:Inv X pins σ H' { s1 with heap:=h1 }:=J.kp c (hst ▸ k1)
   refine flight_wp (s:={ s1 with heap:=h1 }) (outer:=X.env::X.outer) f1 t1 fun h2 t2 f2 k2 kn2=>?_
   have J2:Inv X pins σ H' { s1 with heap:=h2 }:=J1.kp c (k2.wide' fun b hm o e=>?_)
   ·exact hh pins _ σ H' D a C ed G J2 t2 c q
   ·have fs1:h1.FunFrames X.base X.stack:=hst ▸ f1
    obtain ⟨_,o',ho',hnf⟩:=fs1.mem hm
    have e':=ho'.symm.trans e
    cases e'
    exact ⟨o.slots,kn2 b o ho' hnf⟩
end
section
variable {prog:Program}{w:World}{A:Around}{E:Value→Shared→Prop}{s:Shared}{K:PySem.W.Frag}{a C:Addr}{ox:Obj}{od:Option Obj}{name:Str}
structure XCls (K:PySem.W.Frag)(C:Addr):Prop where
 ga:PySem.W.findIn K (.ref C) "__getattribute__"=some (some (.builtin "BaseException.__getattribute__"))
 gh:PySem.W.findIn K (.ref C) "__getattr__"=some none
 base:PySem.W.mroIn K C (.type "BaseException")=some true
 obj:PySem.W.mroIn K C (.type "object")=some true
 hd:PySem.W.hasDictIn K C=true
 cl:PySem.W.findIn K (.ref C) "__class__"=some (some (.builtin "object.__class__"))
 cg:PySem.W.specialIn K (.builtin "object.__class__") "__get__"=some (some (.builtin "getset_descriptor.__get__"))
 ct:PySem.W.takesIn K (.builtin "object.__class__")=some true
theorem J8J {tk:Tok}{R:Result→Shared→Prop}(c:XCls K C)(X:K.In s.heap)(I:PySem.W.InstAt s.heap a ox C od)
 (h:wpAny (model prog w) A.in1 (Builtin.«object.__getattribute__» ⟨[.ref a,.str name tk],[]⟩) (fun fin s'=>match fin with | .done f=>R (.ok f) s' | .again c'=>c'.quiet=true∧codeAny (model prog w) A c' R s') (fun e s'=>R (.error e) s') s) :
 codeAny (model prog w) A (.call (.builtin "BaseException.__getattribute__") ⟨[.ref a,.str name tk],[]⟩) R s:=by
 have hi:PySem.W.Looks (model prog w) s.heap (isInstance (.ref a) (.type "BaseException")) true:=I.type.andThen (PySem.W.looks_mroIn X c.base)
 have hk:builtinKind "BaseException.__getattribute__"=some .slot:=by decide +kernel
 have hs:splitId "BaseException.__getattribute__"=some ("BaseException","__getattribute__"):=by decide +kernel
 refine codeAny_call_builtin PySem.F.attr_ValueError.ga.plain PySem.F.entry_bexc_ga (@PySem.W.check_slot (model prog w) _ _ s "BaseException.__getattribute__" "BaseException" "__getattribute__" (.ref a) [.str name tk] [] _ hk hs hi (PySem.F.args_bexc_ga _ _) ?_)
 exact h
theorem Jaz {tk:Tok}{fill expr:Bool}{v:Value}{Q:Value→Shared→Prop}(c:XCls K C)(X:K.In s.heap)(I:PySem.W.InstAt s.heap a ox C od)(hh:PySem.W.handedIn v=true)
 (h:∀ R:Result→Shared→Prop,R (.ok (.ret v)) s→codeAny (model prog w) A (.call (.builtin "BaseException.__getattribute__") ⟨[.ref a,.str name tk],[]⟩) R s) (q:Q v s) :
 wpAny (model prog w) A (getAttrBy (.ref a) (.str name tk) fill expr) Q E s:=by
 obtain ⟨sh,g,d,t,os⟩:=s
 have L0:=I.type (M:=model prog w)
 have L1:=PySem.W.looks_findIn (M:=model prog w) X c.ga
 have L2:=PySem.W.looks_findIn (M:=model prog w) X c.gh
 have f3:=PySem.F.attr_ValueError.ga.bind (.ref a)
 have hx2:(Value.builtin "BaseException.__getattribute__" == Value.builtin "object.__getattribute__")=false:=by decide +kernel
 unfold getAttrBy
 refine wpAny_holding (wpAny_bind (L0.at (wpAny_bind (L1.at ?_))))
 dsimp only
 rw [hx2,Bool.and_false,if_neg Bool.false_ne_true]
 unfold getAttrByItsOwn hookBefore
 refine wpAny_bind ?_
 rw [if_pos (show onTheHeap (Value.ref C)=true from rfl)]
 refine L2.at (wpAny_bind (wpAny_attempt (wpAny_holding ?_)))
 unfold callGetattribute boundAndCalled
 rw [if_neg (by cases expr<;>decide)]
 rw [f3]
 refine wpAny_bind (wpAny_pure (wpAny_call (h _ ?_)))
 show wpAny _ _ (handedOut v) _ _ _
 rw [PySem.W.handedOut_of hh]
 exact wpAny_pure q
theorem J6v {tk:Tok}{R:Result→Shared→Prop}(c:XCls K C)(X:K.In s.heap)(I:PySem.W.InstAt s.heap a ox C od)(q:R (.ok (.ret (.ref C))) s) :
 codeAny (model prog w) A (.call (.builtin "BaseException.__getattribute__") ⟨[.ref a,.str "__class__" tk],[]⟩) R s:=by
 have hf:PySem.W.findObj K C od "__class__"=some (.bind (.builtin "getset_descriptor.__get__") (.builtin "object.__class__")):=by
  obtain ⟨cd,hc,_⟩:=PySem.W.any_some c.hd
  unfold PySem.W.findObj
  rw [hc,Option.bind_some,c.cl,Option.bind_some]
  simp [c.cg,c.ct]
 refine J8J c X I ?_
 obtain ⟨sh,g,d,t,os⟩:=s
 have L0:=I.type (M:=model prog w)
 have L1:=PySem.W.looks_find (M:=model prog w) X I hf
 unfold Builtin.«object.__getattribute__»
 refine wpAny_bind (wpAny_pure (wpAny_bind (wpAny_pure (wpAny_bind (L0.at (wpAny_bind (L1.at ?_)))))))
 dsimp only
 refine wpAny_bind (wpAny_holding (wpAny_call (PySem.W.class_get (s:=⟨sh,g,d,t,os⟩) X I c.obj ?_)))
 exact wpAny_pure q
end
section
variable {K:PySem.W.Frag}{a C:Addr}
theorem J63 (c:XCls K C):PySem.W.KitX K (.ref a) (.ref C) (fun h=>∃ ox od,PySem.W.InstAt h a ox C od) where
 ty:=fun _ _ _ ⟨_,_,I⟩=>I.type
 it:=fun _ _ X _=>by
  obtain ⟨cd,hc,_⟩:=PySem.W.any_some c.hd
  unfold PySem.W.clsIn at hc
  split at hc
  ·rename_i ho
   intro A' Q' E' s' k q
   unfold isType loadHead
   exact wpAny_bind (wpAny_loadPart (k _ _ (X _ _ ho)) (wpAny_pure q))
  ·cases hc
 ne:=fun h tp dd its n sl X htp=>by
  obtain ⟨cd,hc,_⟩:=PySem.W.any_some c.hd
  refine Bool.eq_false_iff.mpr fun q=>?_
  have e:C=tp:=Value.ref.inj (beq_iff_eq.mp q)
  subst e
  unfold PySem.W.clsIn at hc
  split at hc
  ·rename_i ho
   have z:=(X _ _ ho).symm.trans htp
   cases z
  ·cases hc
 ca:=fun {prog w A E Q s} X p k=>by
  obtain ⟨ox,od,I⟩:=p
  unfold getAttr? getAttrBy?
  refine wpAny_bind (wpAny_mkText (wpAny_bind (wpAny_attempt ?_)))
  refine Jaz (s:={ s with toks:=s.toks+1 }) c X I rfl (fun R q=>J6v (s:={ s with toks:=s.toks+1 }) c X I q) ?_
  exact wpAny_pure k
end
def Jdc (H:Hp)(ed:Option Addr):Prop:=ed=none∨∃ dx fs,ed=some dx∧H dx=some (.xd fs)
section
variable {P:Program}{w:World}{H:Hp}{h:Heap}{a C:Addr}{ed:Option Addr}
theorem Ja8 (hok:HOk P w H h)(e:H a=some (ExO a (.ref C) ed))(hd:Jdc H ed):∃ ox od,PySem.W.InstAt h a ox C od:=by
 obtain ⟨⟨oe,vs,e1,e2,e3,e4⟩,_⟩:=(show ObjOk P w H h a (ExO a (.ref C) ed) from hok a _ e)
 have hn:PySem.W.notCls oe=true:=by
  obtain ⟨c,d,dt,sl⟩:=oe
  cases e4
  rfl
 rcases hd with rfl | ⟨dx,fs,rfl,hx⟩
 ·exact ⟨oe,none,e1,e2,hn,by rw [e3];trivial⟩
 ·obtain ⟨mA,hns,_⟩:=(show ObjOk P w H h dx (.xd fs) from hok dx _ hx)
  obtain ⟨od,ho,_⟩:=J4k hns
  exact ⟨oe,some od,e1,e2,hn,by rw [e3];exact ho⟩
end
section
variable {X:Cx}
def J9j (K:PySem.W.Frag):List V→Hp→VK→Prop:=fun xs H Q=>∃ a C ed b,H a=some (ExO a (.ref C) ed)∧Jdc H ed∧XCls K C∧((∃ B,xs=[.ref a,.ref B]∧PySem.W.kitOne K (.ref C) (.ref B)=some b)∨∃ S,xs=[.ref a,.ty S]∧PySem.W.kitOne K (.ref C) (.type S)=some b)∧Q (.bl b) H
theorem Jan:J0e X (.builtin "isinstance") (J9j X.K):=by
 intro pins s σ H xs us Q I r h
 obtain ⟨a,C,ed,b,e,hd,c,hx,q⟩:=h
 have J:=Ja8 I.hok e hd
 rcases hx with ⟨B,rfl,hk⟩ | ⟨S,rfl,hk⟩
 ·obtain ⟨u,z,rfl,ru,rz⟩:=J5t r
  cases (show u=Value.ref a from ru)
  cases (show z=Value.ref B from rz)
  exact PySem.W.kia_one (J63 c) I.kIn J hk (fun z=>nomatch z) fun tk=>⟨.bl b,H,I.tok _,rfl,q⟩
 ·obtain ⟨u,z,rfl,ru,rz⟩:=J5t r
  cases (show u=Value.ref a from ru)
  cases rz
  exact PySem.W.kia_one (J63 c) I.kIn J hk (fun z=>nomatch z) fun tk=>⟨.bl b,H,I.tok _,rfl,q⟩
theorem J9Y {K:PySem.W.Frag}(e:X.K=K):J0e X (.builtin "isinstance") (J9j K):=by subst e;exact Jan
def tXF (K:PySem.W.Frag)(te:TE)(f:Str):TE:=fun σ H Q=>te σ H fun x H1=>∃ a C dx fs v,x=.ref a∧H1 a=some (ExO a (.ref C) (some dx))∧H1 dx=some (.xd fs)∧XCls K C∧NoAttr K C f∧fs.lookup f=some v∧Q v H1
end
section
variable {prog:Program}{w:World}{A:Around}{E:Value→Shared→Prop}{h:Heap}{g:Array GenState}{d:Drawn}{t:Nat}{os:OsState}{K:PySem.W.Frag}
variable {nm q:Str}{C N a:Addr}{bs bm:List Value}{sn:List Str}{sub:List Value}{ab:Bool}{col:Option Bool}{dd:Option Addr}{k0 k1 k2 k3 k5:Option Value}{newId:String}{name:Str}{v:Value}{o:Obj}{vs:Array Value}
end
noncomputable def ExN (a:Addr)(C:Value)(ed:Option Addr):HO:=.ext fun h=>∃ oe vs,h.get? a=some oe∧oe.cls=C∧oe.dict=ed∧oe.data=.fields vs∧1<vs.size∧vs[1]?=some .none
noncomputable def Jdb (H:Hp)(a:Addr):Hp:=fun b=>if b=a then none else H b
section
variable {X:Cx}{pins:List (Addr×Obj)}{σ:St}{H:Hp}{s:Shared}{a:Addr}
def J96 (K:PySem.W.Frag)(ta tv:TE)(f:Str):TS:=fun D σ H=>tv σ H fun y H1=>ta σ H1 fun x H2=>∃ a C ini,x=.ref a∧H2 a=some (ExN a (.ref C) none)∧exB K C ini=true∧PySem.W.hasDictIn K C=true ∧
 PySem.W.findIn K (.ref C) "__setattr__"=some (some (.builtin "object.__setattr__"))∧NoAttr K C f∧∀ dx,H2 dx=none→dx≠a→D.nx σ (upd (upd H2 dx (.xd [(f,y)])) a (ExN a (.ref C) (some dx)))
end
section
variable {prog:Program}{w:World}{A:Around}{E:Value→Shared→Prop}{h:Heap}{g:Array GenState}{d:Drawn}{t:Nat}{os:OsState}
variable {nm qn:Str}{C N:Addr}{bs bm:List Value}{hd:Bool}{sn:List Str}{sub:List Value}{ab:Bool}{col:Option Bool}{dd:Option Addr}{k0 k1 k2 k3 k5:Option Value}
end
section
variable {X:Cx}{e:Expr}{es:List Expr}{t:TA}{S:St→Prop}{E:XK}{k:Nat}{f C:Addr}{fd:FuncData}{ps:List Str}{sp:Sp}
def J4D (S:St→Prop)(E:XK)(C:Addr)(sp:Sp)(t:TA):TS:=fun _ σ H=>t σ H fun vs H1=>S σ∧vs.length≤sizeLine∧∀ a,H1 a=none→sp (.ref a::vs) (upd H1 a (ExN a (.ref C) none)) (fun v H2=>v=.non∧∃ ed,H2 a=some (ExN a (.ref C) ed)∧E (.ref C) ed (Jdb H2 a)) E0
end
section
variable {X:Cx}{k:Nat}{f C:Addr}{fd:FuncData}{ps:List Str}{sp:Sp}{x m:Str}{p pos apos:Pos}{e o:Expr}{es:List Expr}{ta:TE}{t:TA}{S:St→Prop}{E:XK}
def J4H (S:St→Prop)(C:Addr)(m:Str)(sp:Sp)(E:XK)(ta:TE)(t:TA):TE:=fun σ H Q=>ta σ H fun x H1=>∃ a dx fs,x=.ref a∧H1 a=some (.ins C dx fs)∧fs.lookup m=none∧t σ H1 fun vs H2=>S σ∧sp (x::vs) H2 Q E
theorem J1C {pl:Sem Bool}(T:Told X S E)(he:PE X o ta)(c:Cls X.K C)(hm:Meth X.K C m f)(F:FnOk X.prog X.w X.K X.mg X.base (CXE X.prog X.w) k f fd ps sp)(hr:Room k X.A)(hb:Binds X.K fd ps [])(hn:(e::es).all Ju=true)(ha:PA X (e::es) t)
 (ht:eval (.Call (.Attribute o m apos) (e::es) [] pos) X.env=(do
  let ov ← eval o X.env
  standAt apos.atName
  let (f,first) ← holding [ov] (getMethod ov m pl)
  callWith pos f first (backTo pos (starEach (e::es) X.env)) (backToKw pos (keywordEach [] X.env)))) :
 PE X (.Call (.Attribute o m apos) (e::es) [] pos) (J4H S C m sp E ta t):=by
 have hs:Ju e=true∧es.all Ju=true:=by rw [List.all_cons,Bool.and_eq_true] at hn;exact hn
 intro pins s σ H Q I h
 refine PySem.W.methodCall_KW (pl:=pl) (thn (he pins s σ H _ I h) fun u s1 ⟨x,H1,I1,rx,a,dx,fs,ex,ea,l,q⟩=>?_) ht
 subst ex
 obtain rfl:u=Value.ref a:=rx
 refine J7c I1 ea c hm l ?_
 refine PySem.W.callWith_K (first:=[.ref a]) (h₀:=X.base) I.ok.mod.kin hm.kp (thn (ha pos pins s1 σ H1 _ I1 q) fun us s2 ⟨vs,H2,I2,r,hS,q2⟩=>⟨I2.kIn,?_⟩) (JE hs.1) (J11 hs.2)
 exact J7z (us:=.ref a::us) (vs:=.ref a::vs) T F hr hb hS I2 (.cons rfl r) q2
def J6y (S:St→Prop)(C:Addr)(sp:Sp)(E:XK)(t:TA):TE:=fun σ H Q=>t σ H fun vs H1=>S σ∧∀ x dx,H1 x=none→H1 dx=none→dx≠x→sp (.ref x::vs) (upd (upd H1 dx (.own x)) x (.ins C dx [])) (fun v H2=>v=.non∧Q (.ref x) H2) E
end
noncomputable def J6b (s:Stmt)(j:Nat):Stmt:=match s with
 | .ClassDef _ _ _ b _ _ _ _ _ _ _=>b.getD j (.Pass ⟨0,0,0,0⟩)
 | _=>.Pass ⟨0,0,0,0⟩
structure MthOk (K:PySem.W.Frag)(x qual:Str)(st:Stmt)(ps:List Str)(f:Addr)(fd:FuncData):Prop where
 F:Fun K x qual st f fd
 b:Binds K fd ps []
 fn:PySem.W.isFn K (.ref f)=true
structure ExcOk (K:PySem.W.Frag)(mg:Str→Option Value)(x:Str)(c:Addr)(ini:Option Value):Prop where
 m:mg x=some (.ref c)
 x:exB K c ini=true
 kp:PySem.W.keepIn K (.ref c)=true
 xc:XCls K c
 sa:PySem.W.findIn K (.ref c) "__setattr__"=some (some (.builtin "object.__setattr__"))
structure OwnOk (K:PySem.W.Frag)(mg:Str→Option Value)(x:Str)(c fi:Addr):Prop where
 m:mg x=some (.ref c)
 cls:Cls K c
 mkr:Mk K c fi
theorem JcG {K:PySem.W.Frag}{h:Heap}{mg:Str→Option Value}{x:Str}{c:Addr}{ini:Option Value}(X:K.In h)(G:h.Ns mainGlobals mg)(a:PySem.W.nsIn K mainGlobals x=some (some (.ref c)))(e:exB K c ini=true)(kp:PySem.W.keepIn K (.ref c)=true)
 (ga:PySem.W.findIn K (.ref c) "__getattribute__"=some (some (.builtin "BaseException.__getattribute__"))) (gh:PySem.W.findIn K (.ref c) "__getattr__"=some none) (ba:PySem.W.mroIn K c (.type "BaseException")=some true) (ob:PySem.W.mroIn K c (.type "object")=some true) (hd:PySem.W.hasDictIn K c=true)
 (cl:PySem.W.findIn K (.ref c) "__class__"=some (some (.builtin "object.__class__"))) (cg:PySem.W.specialIn K (.builtin "object.__class__") "__get__"=some (some (.builtin "getset_descriptor.__get__"))) (ct:PySem.W.takesIn K (.builtin "object.__class__")=some true)
 (sa:PySem.W.findIn K (.ref c) "__setattr__"=some (some (.builtin "object.__setattr__"))):ExcOk K mg x c ini:=⟨PySem.W.mg_of X G a,e,kp,⟨ga,gh,ba,ob,hd,cl,cg,ct⟩,sa⟩
theorem Jch {K:PySem.W.Frag}{h:Heap}{mg:Str→Option Value}{x:Str}{c fi:Addr}(X:K.In h)(G:h.Ns mainGlobals mg)(a:PySem.W.nsIn K mainGlobals x=some (some (.ref c)))(pg:PySem.W.plainGet K c Str.empty=true)(hd:PySem.W.hasDictIn K c=true)(po:PySem.W.plainOver K c=true)
 (sa:PySem.W.findIn K (.ref c) "__setattr__"=some (some (.builtin "object.__setattr__"))) (ma:PySem.W.makesIn K c=true) (i:PySem.W.findIn K (.ref c) "__init__"=some (some (.ref fi))) (fn:PySem.W.isFn K (.ref fi)=true) (kp:PySem.W.keepIn K (.ref c)=true):OwnOk K mg x c fi :=
 ⟨PySem.W.mg_of X G a,⟨pg,hd,po,sa⟩,⟨ma,i,fn,kp⟩⟩
section
variable {X:Cx}
theorem Jb5 {x:Str}{c:Addr}{pos:Pos}(hm:X.mg x=some (.ref c))(hg:Gl X x)(hd:(x == ("__debug__":Str))=false):PE X (.Name x pos) (tC (.ref c)):=J55 hg hm rfl hd
end
theorem J7n {X:Cx}(hex:X.ex=[]):Told X (fun _=>True) (fun _ _ _=>False):=⟨hex,fun _ _ _ _ _ _ _ _ _ _ _ _ _ q=>q.elim⟩
noncomputable def Ite (K:PySem.W.Frag)(a:Addr):It where
 go:=fun i H=>∃ xs x,SqL K H a xs∧xs[i]?=some x
 yld:=fun i H y H'=>∃ p x,H p=none∧y=.ref p∧(∀ ys,SqL K H a ys→ys[i]?=some x)∧H'=upd H p (.tup [.int i,x])
 stop:=fun i H=>∃ xs,SqL K H a xs∧xs.length≤i
theorem turn_enum {P:Program}{w:World}{K:PySem.W.Frag}{elts:List Expr}{x1:Nat}{tpos:Pos}(a e it:Addr)(hne:e≠it):Turn P w K (.Tuple elts x1 tpos) (Ite K a) [e,it] e (fun i h=>∃ old,IsEnum h e it i old∧h.IsListIter it a i) where
 mem:=by simp
 obj := fun i h st b hb=>by
  obtain ⟨old,h1,o,h2,c,d⟩:=st
  rcases List.mem_cons.mp hb with rfl | hb
  ·exact ⟨_,h1,fun v z=>nomatch z⟩
  ·cases List.mem_singleton.mp hb
   exact ⟨o,h2,fun v z=>by rw [d] at z;cases z⟩
 keep:=fun i h h' st k=>by
  obtain ⟨old,h1,h2⟩:=st
  exact ⟨old,k e (by simp) _ h1,h2.at fun o z=>k it (by simp) o z⟩
 item:=by
  intro X hP hw hK hc i pins s σ H E I hf st hg
  subst hP hw hK
  obtain ⟨xs,x,hq,hx⟩:=hg
  obtain ⟨its,rv,p,hz⟩:=I.list hq
  obtain ⟨u,hu,ru⟩:=rv.get hx
  obtain ⟨old,h1,h2⟩:=st
  obtain ⟨f0,f1,f2,f3,f4,f5⟩:=hf e (by simp)
  obtain ⟨g0,g1,g2,g3,g4,g5⟩:=hf it (by simp)
  have fr:H s.heap.objs.size=none:=I.hok.fresh (Nat.le_refl _)
  have pe:s.heap.objs.size≠e:=Nat.ne_of_gt (Heap.lt_size h1)
  refine wpAny_pyNext_enum_item h1 h2 p.isList (x:=u) (by simpa using hu) hne fun h' out st' tup sz k=>⟨.ref s.heap.objs.size,rfl,?_⟩
  refine wpAny_letOwnedTupleGo_enum (s:={ s with heap:=h',toks:=s.toks+1 }) out fun h'' he' sb=>?_
  have kk:∀ b o,b∉[e,it]→s.heap.get? b=some o→h''.get? b=some o:=fun b o hb z =>
   (sb.2 b (fun q=>hb (by simp [q]))).trans (k b o (fun q=>hb (by simp [q])) (fun q=>hb (by simp [q])) z)
  have kt:h''.get? s.heap.objs.size=some { cls:=.type "tuple",data:=.seq #[.int i s.toks,u] }:=(sb.2 _ pe).trans tup
  have nt:∀ b v,H b=some v→b∉[e,it]:=fun b v z hb=>by
   rcases List.mem_cons.mp hb with rfl | hb
   ·rw [f0] at z;cases z
   ·cases List.mem_singleton.mp hb
    rw [g0] at z;cases z
  have np:∀ b v,H b=some v→b≠s.heap.objs.size:=fun b v z q=>by subst q;rw [fr] at z;cases z
  have up:∀ b v,H b=some v→upd H s.heap.objs.size (.tup [.int i,x]) b=some v:=fun b v z=>by rw [Jk (np b v z)];exact z
  refine ⟨.ref s.heap.objs.size,upd H s.heap.objs.size (.tup [.int i,x]),?_,rfl,⟨_,x,fr,rfl,fun ys hy=>by rw [I.list_inj hy hq];exact hx,rfl⟩,⟨u,he',st'.at fun o z=>(sb.2 it (Ne.symm hne)).trans z⟩,fun b hb=>?_⟩
  ·show Inv X pins σ _ { s with heap:=h'',gens:=s.gens,drawn:=s.drawn,toks:=s.toks+1 }
   refine Inv.step (s:=s) (h':=h'') (t':=s.toks+1) (g':=s.gens) (d':=s.drawn) (ch:=[e,it]) I (fun b hb=>?_) (fun b o _ _ hb z _=>kk b o hb z) (fun b o _ _ hb z _=>⟨o.slots,kk b o hb z⟩) (fun b o _ z n=>by rw [Jk (Nat.ne_of_lt (Heap.lt_size z))];exact n) (fun b o hb z=>⟨o,kk b o hb z⟩)
    (fun b ys z=>up b _ z) (fun b o v z=>up b _ z) (fun b ps z=>⟨#[],by rw [Array.append_empty];exact up b _ z⟩) (fun m hm=>?_) (fun b v z=>?_) I.bare
   ·rcases List.mem_cons.mp hb with rfl | hb
    ·exact ⟨f3,f1,f4,f5⟩
    ·cases List.mem_singleton.mp hb
     exact ⟨g3,g1,g4,g5⟩
   ·obtain ⟨o,es,ep,ho,r⟩:=hm
    refine ⟨o,es,ep,kk _ o (fun hb=>?_) ho,r⟩
    rcases List.mem_cons.mp hb with q | hb
    ·exact f1 q.symm
    ·exact g1 (List.mem_singleton.mp hb).symm
   ·by_cases q:b=s.heap.objs.size
    ·subst q
     rw [Jb] at z
     cases z
     exact ⟨Jc (Nat.le_of_ble_eq_true rfl),[.int i s.toks,u],.cons ⟨_,rfl⟩ (.cons ru .nil),_,kt,rfl,_,rfl⟩
    ·rw [Jk q] at z
     refine (I.hok b v z).stay (fun c o hc y=>kk c o ?_ y) (fun c y=>up c _ y) fun c ys y=>up c _ y
     rcases hc with rfl | hc
     ·exact nt _ _ z
     ·exact nt _ _ hc
  ·rcases List.mem_cons.mp hb with rfl | hb
   ·rw [Jk (Ne.symm pe)];exact f0
   ·cases List.mem_singleton.mp hb
    obtain ⟨o,h2',_⟩:=h2
    rw [Jk (Nat.ne_of_lt (Heap.lt_size h2'))];exact g0
 done:=by
  intro X hP hw hK hc i pins s σ H E I hf st hg
  subst hP hw hK
  obtain ⟨xs,hq,hx⟩:=hg
  obtain ⟨its,rv,p,hz⟩:=I.list hq
  obtain ⟨old,h1,h2⟩:=st
  obtain ⟨g0,g1,g2,g3,g4,g5⟩:=hf it (by simp)
  have hl:=rv.length
  exact wpAny_pyNext_enum_end (I.ok.hd hc) h1 h2 p.isList (by simp;omega) fun h' eb=>⟨rfl,I.turned (t':=s.toks) (fun b o hb z=>eb b o hb z) g0 g1 g3 g4 g5⟩
 self:=fun _ _ _ _ _ st h=>by
  obtain ⟨old,h1,h2⟩:=st
  exact wpAny_pyIter_enum h1 h
section
variable {X:Cx}
def JbL (K:PySem.W.Frag)(ta:TA):TI:=fun σ H R=>ta σ H fun vs H1=>∃ a,vs=[.ref a]∧(∃ xs,SqL K H1 a xs)∧R (Ite K a) H1
theorem Jb3 {a:Expr}{ta:TA}{p pos tpos:Pos}{elts:List Expr}{x1:Nat}(hg:Gl X "enumerate")(hm:X.mg "enumerate"=none)(ha:PA X [a] ta)(hn:Ju a=true):PI X (.Tuple elts x1 tpos) (.Call (.Name "enumerate" p) [a] [] pos) (JbL X.K ta):=by
 intro pins s σ H R I h
 refine Call_ (J1P I hg hm boot_enumerate (PyProof.Rows.callWith_type1 (thn (ha pos pins s σ H _ I h) fun us s1 ⟨vs,H1,I1,r1,q1⟩=>?_) (JE hn) rfl))
 obtain ⟨l,e,⟨xs,hq⟩,q⟩:=q1
 subst e
 cases r1 with
 | cons r rr =>
   cases rr
   cases (show _=Value.ref l from r)
   obtain ⟨its,rv,pl,hz⟩:=I1.list hq
   refine call_enumerate_list pl.isList fun h' he st sz k=>?_
   refine wpAny_pyIter_enum (s:={ s1 with heap:=h' }) he ?_
   refine ⟨s1.heap.objs.size+1,[s1.heap.objs.size+1,s1.heap.objs.size],_,_,H1,rfl,I1.kept (t':=s1.toks) k,turn_enum l _ _ (Nat.succ_ne_self _),⟨_,he,st⟩,fun b hb=>?_,q⟩
   rcases List.mem_cons.mp hb with rfl | hb
   ·exact I1.fpOk (Nat.le_succ _) (I1.hok.fresh (Nat.le_succ _))
   ·cases List.mem_singleton.mp hb
    exact I1.fpOk (Nat.le_refl _) (I1.hok.fresh (Nat.le_refl _))
end
theorem ForW.enum {K:PySem.W.Frag}{a:Addr}{xs:List V}{g:TG}{tb:TS}{D:Ends}{σ:St}{H:Hp}(Pv:Nat→St→Hp→Prop)(h0:Pv 0 σ H)(hl:∀ i σ H,Pv i σ H→SqL K H a xs)
 (hs:∀ (i:Nat) x σ H p,xs[i]?=some x→Pv i σ H→H p=none→g (.ref p) σ (upd H p (.tup [.int i,x])) fun σ2 H2=>tb { D with nx:=Pv (i+1),ct:=Pv (i+1),bk:=D.nx } σ2 H2)
 (hd:∀ σ H,Pv xs.length σ H→D.nx σ H):ForW (Ite K a) g tb D σ H:=by
 refine ⟨fun i m σ H=>Pv i σ H∧i≤xs.length∧m=xs.length - i,⟨_,h0,Nat.zero_le _,rfl⟩,fun i m σ H ⟨h1,h2,h3⟩=>?_⟩
 have sq:=hl i σ H h1
 by_cases e:i=xs.length
 ·subst e
  exact .inl ⟨⟨xs,sq,Nat.le_refl _⟩,hd σ H h1⟩
 ·have lt:i<xs.length:=Nat.lt_of_le_of_ne h2 e
  refine .inr ⟨⟨xs,xs[i],sq,List.getElem?_eq_getElem lt⟩,Pv (i+1),fun σ' H' z=>⟨xs.length - (i+1),by omega,z,lt,rfl⟩,fun x H' hy=>?_⟩
  obtain ⟨p,x',hp,rfl,hx,rfl⟩:=hy
  exact hs i x' σ H p (hx xs sq) h1 hp
section
variable {prog:Program}{w:World}{A:Around}{E:Value→Shared→Prop}{s:Shared}{T:String}{r d:Addr}{n:Nat}{P:Nat→Value→Prop}{OK:Heap→Prop}
theorem J8b {R:Result→Shared→Prop}(K:PySem.W.KdlSrc prog w T r d n P OK)(hh:A.handled=none)(hok:OK s.heap)(hn:n≤sizeLine)
 (hR:∀ h' tk acc' c',(∀ b o,s.heap.get? b=some o→h'.get? b=some o)→h'.get? s.heap.objs.size=some { cls:=.type "list",dict:=none,data:=.seq acc' c',slots:=#[] }→ItemsOf P acc' n→R (.ok (.ret (.ref s.heap.objs.size))) { s with heap:=h',toks:=tk }) :
 codeAny (model prog w) A (.builtin "proto.collect" ⟨[.ref r],[]⟩) R s:=by
 refine codeAny_builtin PySem.F.entry_proto_collect ?_
 rw [Around.under_plainId PySem.F.plain_proto_collect _]
 show wpAny _ A.in1 (newList [] >>= fun l=>again (.builtin "list.__iadd__" ⟨[l,.ref r],[]⟩)) _ _ s
 refine wpAny_bind (wpAny_newObj_type ?_)
 refine wpAny_pure ⟨plainId_quiet PySem.F.plain_list_iadd _,codeAny_builtin PySem.F.entry_list_iadd ?_⟩
 rw [Around.under_plainId PySem.F.plain_list_iadd _]
 have hlt:=K.there _ hok
 have hS:(s.heap.push { cls:=.type "list",data:=.seq ([]:List Value).toArray }).get? s.heap.objs.size=some { cls:=.type "list",data:=.seq #[] 0 }:=Heap.get?_push_size _ rfl
 show wpAny _ A.in1 (Builtin.List.listExtendWith (.ref s.heap.objs.size) (.ref r) (.ref s.heap.objs.size)) _ _ _
 exact PySem.W.kdl_extend (s:={ s with heap:=s.heap.push { cls:=.type "list",data:=.seq ([]:List Value).toArray } }) (A:=A) K hh (K.keep _ _ hok fun b _ o e=>Heap.get?_push_of_some _ e) s.heap.objs.size (Nat.ne_of_gt hlt.1) (Nat.ne_of_gt hlt.2) (.ref s.heap.objs.size) 0 hS
  (fun h' tk acc' c' hk hS' hacc=>hR h' tk acc' c' (fun b o e=>hk b o (Nat.ne_of_lt (Heap.lt_size e)) (Heap.get?_push_of_some _ e)) hS' hacc) hn
theorem J6j {Q:List Value→Shared→Prop}(K:PySem.W.KdlSrc prog w T r d n P OK)(hh:A.handled=none)(hok:OK s.heap)(hn:n≤sizeLine)
 (hQ:∀ h' tk acc',(∀ b o,s.heap.get? b=some o→h'.get? b=some o)→s.heap.objs.size<h'.objs.size→ItemsOf P acc' n→Q acc'.toList { s with heap:=h',toks:=tk }):wpAny (model prog w) A (collect (.ref r)) Q E s:=by
 unfold collect
 refine wpAny_bind (wpAny_runValue (J8b K hh hok hn fun h' tk acc' c' hk hS' hacc=>?_))
 show wpAny _ A (load s.heap.objs.size >>= _) _ _ _
 refine wpAny_bind (wpAny_load hS' ?_)
 exact wpAny_pure (hQ h' tk acc' hk (Heap.lt_size hS') hacc)
end
section
variable {X:Cx}
def J6K:List V→Hp→VK→Prop:=fun xs H Q=>∃ d kvs,∃ ks:List Int,xs=[.ref d]∧H d=some (.dK kvs)∧kvs.map (·.1)=ks.map Sum.inl∧kvs.length<64 ∧
 ∀ p,∀ ms:List Int,H p=none→ms.Perm ks→ms.Pairwise (·≤·)→Q (.ref p) (upd H p (.lst (ms.map V.int)))
end
open AutoSeq1 (wpAny_loadPart')
section
variable {prog:Program}{w:World}{A:Around}{E:Value→Shared→Prop}{s:Shared}
end
end L2
namespace L2
open PySem PySem.Spec PyProof.Rows
section
variable {X:Cx}
def J9n:V→List V→Hp→VK→Prop:=fun x vs H Q=>∃ d kvs k v,x=.ref d∧vs=[kV k]∧H d=some (.dK kvs)∧J0t kvs k=some v∧Q v (upd H d (.dK (Jda kvs k)))
end
section
variable {X:Cx}
end
section
variable {X:Cx}{k:Nat}{f C:Addr}{fd:FuncData}{ps:List Str}{sp:Sp}{x m:Str}{p pos apos:Pos}{e o:Expr}{es:List Expr}{ta:TE}{t:TA}
end
section
variable {X:Cx}
def J2x (K:PySem.W.Frag):V→List V→Hp→VK→Prop:=fun x vs H Q=>∃ l,∃ ns:List Str,∃ z,∃ j:Nat,x=.ref l∧vs=[.str z]∧SqL K H l (ns.map V.str)∧ns[j]?=some z∧(∀ m,m<j→ns[m]?≠some z)∧Q (.int j) H
theorem J8h:MtR X "list.index" (J2x X.K):=by
 intro pins s σ H x vs v us Q I rx rv h
 obtain ⟨l,ns,z,j,rfl,rfl,hq,hj,hno,q⟩:=h
 cases rx
 obtain ⟨u,rfl,ru⟩:=J0Z rv
 obtain ⟨tz,rfl⟩:=ru
 obtain ⟨its,rvs,pl,hz⟩:=I.list hq
 obtain ⟨⟨c1,d1,t1,sl1⟩,e1,hc,n1,hd⟩:=pl.isList
 cases (show c1=.type "list" from hc)
 cases (show t1=.seq its.toArray n1 from hd)
 have hget:∀ (m:Nat) y,its[m]?=some y→∃ w t,ns[m]?=some w∧y=Value.str w t:=fun m y hy=>by
  have hm:m<(ns.map V.str).length:=by rw [rvs.length];exact (List.getElem?_eq_some_iff.mp hy).1
  obtain ⟨u',hu',ru'⟩:=rvs.get (i:=m) (x:=(ns.map V.str)[m]) (List.getElem?_eq_getElem hm)
  rw [hy] at hu'
  cases hu'
  rw [List.getElem_map] at ru'
  obtain ⟨t,rfl⟩:=ru'
  exact ⟨_,t,List.getElem?_eq_getElem (by simpa using hm),rfl⟩
 have hjl:j<its.length:=by rw [← rvs.length,List.length_map];exact (List.getElem?_eq_some_iff.mp hj).1
 have hlen:(ns.map V.str).length≤sizeLine:=hz
 have hsm:(j:Int)<2 ^ 63 - 1:=by
  have h2:its.length≤sizeLine:=by rw [← rvs.length];exact hlen
  rw [sizeLine_eq] at h2
  omega
 let e:Value→Bool:=fun v=>match v with
  | .str w _=>w == z
  | _=>false
 refine call_meets F.slot_list_index ⟨_,e1,rfl⟩ F.entry_list_index (F.args_list_index_2 _ _) (SeqAt.list_indexAt l its.toArray n1 d1 sl1 (.str z tz) e j (by simpa using hjl) hsm ?_ ?_) ⟨e1,fun y hy=>?_,?_⟩
 ·obtain ⟨w,t,h1,h2⟩:=hget j its[j] (List.getElem?_eq_getElem hjl)
  rw [hj] at h1
  cases h1
  show e its.toArray[j]=true
  rw [List.getElem_toArray,h2]
  show (z == z)=true
  simp
 ·intro m hm hmj
  have hm':m<its.length:=by simpa using hm
  obtain ⟨w,t,h1,h2⟩:=hget m its[m] (List.getElem?_eq_getElem hm')
  show e its.toArray[m]=false
  rw [List.getElem_toArray,h2]
  show (w == z)=false
  rw [beq_eq_false_iff_ne]
  intro z'
  exact hno m hmj (by rw [h1,z'])
 ·have hy':y∈its:=by simpa using hy
  obtain ⟨m,hm⟩:=List.mem_iff_getElem?.mp hy'
  obtain ⟨w,t,h1,rfl⟩:=hget m y hm
  exact SeqAt.EqAt.str_str _ _ _ _
 ·exact ⟨.int j,H,I.tok _,⟨_,rfl⟩,q⟩
theorem J67 {K:PySem.W.Frag}(e:X.K=K):MtR X "list.index" (J2x K):=by subst e;exact J8h
end
section
variable {M:Model}{A:Around}{E:Value→Shared→Prop}{s:Shared}{Q:Unit→Shared→Prop}{base:Heap}{env:Env}{outer:List Env}{L e:Addr}{C:Value}{ed:Option Addr}{G:Heap}{H:Hp}
end
section
variable {X:Cx}{k:Nat}{f C:Addr}{fd:FuncData}{ps:List Str}{sp:Sp}{x m:Str}{p pos apos:Pos}{e o:Expr}{es:List Expr}{ta:TE}{t:TA}{E:XK}
end
section
variable {X:Cx}{pins:List (Addr×Obj)}{σ:St}{H:Hp}{s:Shared}{W:Value→Shared→Prop}
end
section
variable {X:Cx}{pins:List (Addr×Obj)}{σ:St}{H2:Hp}{s2:Shared}{scope:Scope}{own rest:List Str}{cl:List (Str×Addr)}{fp:List Addr}{E:Value→Shared→Prop}
end
section
variable {X:Cx}{pins:List (Addr×Obj)}{σ:St}{H2:Hp}{s2:Shared}{scope:Scope}{N':List Str}{cl:List (Str×Addr)}{fp:List Addr}{C:Addr}{EX:XK}{use:Option (Value→Sem Unit)}{QQ:Value→Shared→Prop}{acc:Value}
end
section
variable {X:Cx}{elt tg iter:Expr}{ifs:List Expr}{scope:Scope}{pos:Pos}{wi:TI}{g:TG}{tt:TT}{te:TE}{EX:XK}
end
noncomputable def unl {α:Type}[BEq α](val:Nat→α):Nat→Nat
 | 0=>0
 | i+1=>if ((List.range i).map val).any (· == val i) then unl val i else unl val i+1
theorem J4z {α:Type}[BEq α](val:Nat→α):∀ i,unl val i≤i
 | 0=>Nat.le_refl _
 | i+1=>by
   have:=J4z val i
   unfold unl
   split<;>omega
theorem J9M {α:Type}[DecidableEq α][BEq α][LawfulBEq α](val:Nat→α)(i:Nat)(k:α):((List.range (i+1)).map val).any (· == k)=(((List.range i).map val).any (· == k)||decide (k=val i)):=by
 rw [List.range_succ,List.map_append,List.any_append]
 congr 1
 simp only [List.map_cons,List.map_nil,List.any_cons,List.any_nil,Bool.or_false]
 by_cases e:k=val i
 ·rw [e];simp
 ·rw [decide_eq_false e,beq_eq_false_iff_ne]
  exact fun z=>e z.symm
section
variable {prog:Program}{w:World}{A:Around}{R:Result→Shared→Prop}{I:Addr}{fp wr:List Addr}{G:Array GenState→Array GenState→Prop}{n:Nat}{P:Nat→Value→Prop}{St:Nat→Shared→Prop}
variable {α:Type}[DecidableEq α][BEq α][LawfulBEq α]{knd:PySem.KeyKind prog w α}
theorem J5D (W:WalksS prog w A.in1 I fp wr G n P St){b:Addr}(nb:b∉fp){val:Nat→α}(hv:∀ i v,P i v→knd.is (val i) v=true∧v.scannable=true)(room:n+1<scanBound) :
 ∀ (m i:Nat) (s:Shared),n - i=m→i≤n→St i s→s.heap.SetOf knd b (fun k=>((List.range i).map val).any (· == k)) (unl val i) →
   (∀ s',Moved (b::wr) G s s'→s'.heap.SetOf knd b (fun k=>((List.range n).map val).any (· == k)) (unl val n)→R (.ok (.ret .none)) s') →
   codeAny (model prog w) A (.builtin "set.update.loop" ⟨[.ref b,.ref I],[]⟩) R s:=by
 have nw:b∉wr:=fun z=>nb (W.sub _ z)
 have more:∀ c∈wr,c∈b::wr:=fun c hc=>List.mem_cons_of_mem _ hc
 have same:∀ {s s':Shared} {S:α→Bool} {k:Nat},s.heap.SetOf knd b S k→Moved wr G s s'→s'.heap.SetOf knd b S k:=fun {s s' S k} h hm=>by
  obtain ⟨o,es,ep,t,ho,r⟩:=h
  exact ⟨o,es,ep,t,hm.heap b _ nw ho,r⟩
 intro m
 induction m with
 | zero =>
   intro i s hm hi hst hS hR
   obtain rfl:i=n:=by omega
   refine codeAny_builtin PyProof.Rows.F.entry_set_update_loop ?_
   rw [Around.under_plainId PyProof.Rows.F.plain_set_update_loop _]
   show wpAny _ A.in1 (pyNext (.ref I) >>= _) _ _ s
   exact wpAny_bind (W.done s _ _ hst fun s' mv=>wpAny_pure (hR s' (mv.mono more) (same hS mv)))
 | succ m ih =>
   intro i s hm hi hst hS hR
   have lt:i<n:=by omega
   refine codeAny_builtin PyProof.Rows.F.entry_set_update_loop ?_
   rw [Around.under_plainId PyProof.Rows.F.plain_set_update_loop _]
   show wpAny _ A.in1 (pyNext (.ref I) >>= _) _ _ s
   refine wpAny_bind (W.item i s _ _ lt hst fun v s' hP hst' mv=>?_)
   obtain ⟨hk,hsc⟩:=hv i v hP
   show wpAny _ A.in1 (holding [v] (setAdd b v) >>= _) _ _ s'
   refine wpAny_bind (wpAny_holding ?_)
   unfold setAdd
   refine wpAny_holding (wpAny_bind (knd.pyHash (k:=val i) hk ?_))
   have:=J4z val i
   have hS':=same hS mv
   refine wpAny_setAddHashed_of (knd:=knd) (s:={ s' with toks:=s'.toks+1 }) hk hsc hS' (by omega) fun h' sb hS2=>?_
   have hS3:h'.SetOf knd b (fun k=>((List.range (i+1)).map val).any (· == k)) (unl val (i+1)):=SetOf_congr hS2 (fun k=>(J9M val i k).symm) rfl
   refine wpAny_pure ⟨plainId_quiet PyProof.Rows.F.plain_set_update_loop _,ih (i+1) _ (by omega) lt (W.frame _ s' _ _ hst' (Nat.le_succ _) fun c hc o e=>?_) hS3 fun s'' mv' hS4=>?_⟩
   ·rw [sb.2 c (fun z:c=b=>nb (by rw [← z];exact hc))];exact e
   ·refine hR s'' (Moved.trans W.gtrans ((mv.mono more).then_heap (Nat.le_succ _) fun c o hc e=>?_) mv') hS4
    rw [sb.2 c (fun z:c=b=>hc (by rw [z];exact List.mem_cons_self))];exact e
end
section
variable {prog:Program}{w:World}{A:Around}{E:Value→Shared→Prop}{s:Shared}
noncomputable abbrev J0l (led:Bool):Obj:={ cls:=.type "set",dict:=none,data:=.set #[] 0 (.fresh 0 0 led) }
set_option maxHeartbeats 3200000 in
theorem set_call {x:Value}{Q:Value→Shared→Prop}{Z:Heap→Prop}
 (fill:∀ (led:Bool) (E':Value→Shared→Prop) (Q':Unit→Shared→Prop),(∀ h' tk,Z h'→Q' () { s with heap:=h',toks:=tk })→wpAny (model prog w) A.in1.in1 (Builtin.Frozenset.updateFrom "set.__init__" s.heap.objs.size x) Q' E' { s with heap:=s.heap.push (J0l led) })
 (h:∀ (h':Heap) (tk:Nat),Z h'→Q (.ref s.heap.objs.size) { s with heap:=h',toks:=tk }):wpAny (model prog w) A (call (.type "set") [x]) Q E s:=by
 obtain ⟨c,tl,hmro⟩:=PySem.F.called_set.mro
 have g1:=PySem.F.called_set.made
 have g2:=PySem.F.called_set.sub
 have g3:=PySem.F.called_set.notType
 have g4:=PySem.F.called_set.canCreate
 have g5:=PySem.F.typeCall_set_1 x
 refine wpAny_call (codeAny_of_tree ?_)
 show wpAny _ _ (callAny (.type "set") _) _ _ _
 refine wpAny_pure ⟨Code.quiet_builtin _ (by decide +kernel),codeAny_builtin PySem.F.entry_type_call ?_⟩
 rw [Around.under_plain (weight_type_call_type "set" [x] []) rfl]
 repeat (any_goals (first | assumption | wp_step))
 refine codeAny_mono (code_set_new_1 x (E:=E) (Q₁:=fun v s1=>∃ led:Bool,v=.ref s.heap.objs.size∧s1={ s with heap:=s.heap.push (J0l led) }) fun led=>⟨led,rfl,rfl⟩) fun r s1 hr=>?_
 match r,hr with
 | .error e,hr=>exact hr
 | .ok .next,hr=>exact hr.elim
 | .ok .brk,hr=>exact hr.elim
 | .ok .cont,hr=>exact hr.elim
 | .ok (.ret v),hr =>
   obtain ⟨led,rfl,rfl⟩:=hr
   have at0:(s.heap.push (J0l led)).get? s.heap.objs.size=some (J0l led):=Heap.get?_push_size _ rfl
   have hT:Shared.TypeIs { s with heap:=s.heap.push (J0l led) } (.ref s.heap.objs.size) "set":=⟨_,at0,rfl⟩
   have i1:=PySem.F.called_set.init.lookup
   have i2:=PySem.F.called_set.init.bind (.ref s.heap.objs.size)
   repeat (any_goals (first | assumption | wp_step))
   refine codeAny_mono (codeAny_call_builtin (R:=wants (fun r s2=>r=.none∧∃ h' tk,s2={ s with heap:=h',toks:=tk }∧Z h') E) PySem.F.called_set.init.plain PySem.F.entry_set_init (check_set_init_1 hT ?_)) fun r2 s2 hr2=>?_
   ·have at1:({ s with heap:=s.heap.push (J0l led) }:Shared).heap.get? s.heap.objs.size=some (J0l led):=at0
    unfold Builtin.«set.__init__» noKeywords
    generalize hU:Builtin.Frozenset.updateFrom=U
    wp_walk
    subst hU
    exact fill led _ _ fun h' tk z=>wpAny_pure ⟨rfl,h',tk,rfl,z⟩
   ·match r2,hr2 with
    | .error e,hr2=>exact hr2
    | .ok .next,hr2=>exact hr2.elim
    | .ok .brk,hr2=>exact hr2.elim
    | .ok .cont,hr2=>exact hr2.elim
    | .ok (.ret v),hr2 =>
      obtain ⟨rfl,h',tk,rfl,z⟩:=hr2
      repeat (any_goals (first | assumption | wp_step))
      exact h _ _ z
variable {α:Type}[DecidableEq α][BEq α][LawfulBEq α]{knd:PySem.KeyKind prog w α}
def J6u (knd:PySem.KeyKind prog w α)(b:Addr)(val:Nat→α)(n:Nat)(h h':Heap):Prop :=
 h'.SetOf knd b (fun k=>((List.range n).map val).any (· == k)) (unl val n)∧∀ c o,c<b→h.get? c=some o→h'.get? c=some o
theorem J7x {l:Addr}{items:Array Value}{val:Nat→α}{Q:Value→Shared→Prop}(hh:A.handled=none)(hl:s.heap.IsList l items)(hv:∀ (i:Nat) v,items[i]?=some v→knd.is (val i) v=true∧v.scannable=true)(room:items.size+1<scanBound)
 (h:∀ (h':Heap) (tk:Nat),J6u knd s.heap.objs.size val items.size s.heap h'→Q (.ref s.heap.objs.size) { s with heap:=h',toks:=tk }):wpAny (model prog w) A (call (.type "set") [.ref l]) Q E s:=by
 refine set_call (Z:=J6u knd s.heap.objs.size val items.size s.heap) (fun led E' Q' q=>?_) h
 obtain ⟨ol,hol,hcl,nl,hdl⟩:=id hl
 obtain ⟨ocls,odict,odata,oslots⟩:=ol
 simp only at hcl hdl
 subst hcl;subst hdl
 have at1:(s.heap.push (J0l led)).get? l=some { cls:=.type "list",dict:=odict,data:=.seq items nl,slots:=oslots }:=Heap.get?_push_of_some _ hol
 have k1:=PySem.F.sub_list_set
 have k2:=PySem.F.sub_list_frozenset
 have k3:(Value.type "list" == Value.type "dict")=false:=by decide
 have hl1:(s.heap.push (J0l led)).IsList l items:=⟨_,at1,rfl,nl,rfl⟩
 unfold Builtin.Frozenset.updateFrom
 generalize hP:pyIter=PI
 wp_walk
 subst hP
 refine wpAny_pyIter_list hl1 ?_
 refine wpAny_bind (wpAny_runValue ?_)
 have ll:l<s.heap.objs.size:=Heap.lt_size hol
 have sz:(s.heap.push (J0l led)).objs.size=s.heap.objs.size+1:=Heap.size_push ..
 refine J5D (val:=val) ((Walks.list (by simp [hh]) _ l (by rw [sz];exact Nat.ne_of_lt (Nat.lt_succ_of_lt ll)) items).toS) (b:=s.heap.objs.size) (by rw [sz];simp;exact Nat.ne_of_gt ll) hv room (items.size - 0) 0 _ (by omega) (Nat.zero_le _) ⟨⟨_,Heap.get?_push_size _ rfl,rfl,rfl⟩,hl1.push _⟩ ?_ ?_
 ·have g:=Heap.get?_push_of_some (h:=s.heap.push (J0l led)) { cls:=.type "list_iterator",data:=.fields #[.ref l,.int 0 0] } (Heap.get?_push_size (o:=J0l led) s.heap rfl)
  exact SetOf_congr ((setObjOf_fresh (knd:=knd) led).setOf g (by unfold scanBound;omega)) (fun _=>rfl) rfl
 ·intro s' mv hS
  obtain ⟨h',g',d',tk',os'⟩:=s'
  obtain rfl:g'=s.gens:=mv.gens
  obtain rfl:d'=s.drawn:=mv.drawn
  obtain rfl:os'=s.os:=mv.os
  show wpAny _ _ _ _ _ _
  refine wpAny_pure ?_
  refine q h' tk' ⟨hS,fun c o hc e=>?_⟩
  refine mv.heap c o ?_ (Heap.get?_push_of_some _ (Heap.get?_push_of_some _ e))
  rw [sz]
  simp only [List.mem_cons,List.not_mem_nil,or_false,not_or]
  exact ⟨Nat.ne_of_lt hc,Nat.ne_of_lt (Nat.lt_succ_of_lt hc)⟩
theorem J40:isSubtype (.type "tuple") (.type "set")=pure false:=by rw [isSubtype_type];kernel_rfl
theorem J2b:isSubtype (.type "tuple") (.type "frozenset")=pure false:=by rw [isSubtype_type];kernel_rfl
theorem J7w {l:Addr}{items:Array Value}{val:Nat→α}{Q:Value→Shared→Prop}(hh:A.handled=none)(hl:s.heap.IsTuple l items)(hv:∀ (i:Nat) v,items[i]?=some v→knd.is (val i) v=true∧v.scannable=true)(room:items.size+1<scanBound)
 (h:∀ (h':Heap) (tk:Nat),J6u knd s.heap.objs.size val items.size s.heap h'→Q (.ref s.heap.objs.size) { s with heap:=h',toks:=tk }):wpAny (model prog w) A (call (.type "set") [.ref l]) Q E s:=by
 refine set_call (Z:=J6u knd s.heap.objs.size val items.size s.heap) (fun led E' Q' q=>?_) h
 obtain ⟨ol,hol,hcl,nl,hdl⟩:=id hl
 obtain ⟨ocls,odict,odata,oslots⟩:=ol
 simp only at hcl hdl
 subst hcl;subst hdl
 have at1:(s.heap.push (J0l led)).get? l=some { cls:=.type "tuple",dict:=odict,data:=.seq items nl,slots:=oslots }:=Heap.get?_push_of_some _ hol
 have k1:=J40
 have k2:=J2b
 have k3:(Value.type "tuple" == Value.type "dict")=false:=by decide
 have hl1:(s.heap.push (J0l led)).IsTuple l items:=⟨_,at1,rfl,nl,rfl⟩
 unfold Builtin.Frozenset.updateFrom
 generalize hP:pyIter=PI
 wp_walk
 subst hP
 refine wpAny_pyIter_tuple hl1 ?_
 refine wpAny_bind (wpAny_runValue ?_)
 have ll:l<s.heap.objs.size:=Heap.lt_size hol
 have sz:(s.heap.push (J0l led)).objs.size=s.heap.objs.size+1:=Heap.size_push ..
 refine J5D (val:=val) ((Walks.tuple (by simp [hh]) _ l (by rw [sz];exact Nat.ne_of_lt (Nat.lt_succ_of_lt ll)) items).toS) (b:=s.heap.objs.size) (by rw [sz];simp;exact Nat.ne_of_gt ll) hv room (items.size - 0) 0 _ (by omega) (Nat.zero_le _) ⟨⟨_,Heap.get?_push_size _ rfl,rfl,rfl⟩,hl1.at fun o e=>Heap.get?_push_of_some _ e⟩ ?_ ?_
 ·have g:=Heap.get?_push_of_some (h:=s.heap.push (J0l led)) { cls:=.type "tuple_iterator",data:=.fields #[.ref l,.int 0 0] } (Heap.get?_push_size (o:=J0l led) s.heap rfl)
  exact SetOf_congr ((setObjOf_fresh (knd:=knd) led).setOf g (by unfold scanBound;omega)) (fun _=>rfl) rfl
 ·intro s' mv hS
  obtain ⟨h',g',d',tk',os'⟩:=s'
  obtain rfl:g'=s.gens:=mv.gens
  obtain rfl:d'=s.drawn:=mv.drawn
  obtain rfl:os'=s.os:=mv.os
  show wpAny _ _ _ _ _ _
  refine wpAny_pure ?_
  refine q h' tk' ⟨hS,fun c o hc e=>?_⟩
  refine mv.heap c o ?_ (Heap.get?_push_of_some _ (Heap.get?_push_of_some _ e))
  rw [sz]
  simp only [List.mem_cons,List.not_mem_nil,or_false,not_or]
  exact ⟨Nat.ne_of_lt hc,Nat.ne_of_lt (Nat.lt_succ_of_lt hc)⟩
end
noncomputable def SzO (b:Addr)(n:Nat):HO:=.ext fun h=>∃ o es ep t,h.get? b=some o∧o.ExactSet∧o.data=.set es ep t∧t.fits es.size=true∧es.size=n
theorem JbZ {P:Program}{w:World}{H:Hp}{h:Heap}{a:Addr}{n:Nat}(x:∃ o es ep t,h.get? a=some o∧o.ExactSet∧o.data=.set es ep t∧t.fits es.size=true∧es.size=n):ObjOk P w H h a (SzO a n) :=
 ⟨x,(let ⟨o,_,_,_,e,_⟩:=x;⟨o,e⟩),fun _ _ ⟨o,es,ep,t,e,r⟩ k=>⟨o,es,ep,t,k o e,r⟩⟩
theorem JcK:bootBuiltins "set"=some (.type "set"):=by decide +kernel
section
variable {X:Cx}
def J9f (K:PySem.W.Frag):List V→Hp→VK→Prop:=fun xs H Q=>∃ a,∃ zs:List Str,xs=[.ref a]∧(SqL K H a (zs.map V.str)∨SqT K H a (zs.map V.str))∧zs.length≤1000∧∀ p,H p=none→Q (.ref p) (upd H p (SzO p (unl (fun i=>zs.getD i Str.empty) zs.length)))
def J9g (K:PySem.W.Frag):List V→Hp→VK→Prop:=fun xs H Q=>∃ a,∃ zs:List Int,xs=[.ref a]∧(SqL K H a (zs.map V.int)∨SqT K H a (zs.map V.int))∧zs.length≤1000∧∀ p,H p=none→Q (.ref p) (upd H p (SzO p (unl (fun i=>zs.getD i 0) zs.length)))
theorem J91 {zs:List Str}{its:List Value}(r:Vals (zs.map V.str) its)(P:Program)(w:World):∀ (i:Nat) v,its.toArray[i]?=some v→(strKind P w).is (zs.getD i Str.empty) v=true∧v.scannable=true:=fun i v hv=>by
 have hv':its[i]?=some v:=by simpa using hv
 have hm:i<zs.length:=by
  have:=r.length
  rw [List.length_map] at this
  rw [this]
  exact (List.getElem?_eq_some_iff.mp hv').1
 obtain ⟨u,hu,ru⟩:=r.get (i:=i) (x:=V.str zs[i]) (by rw [List.getElem?_map,List.getElem?_eq_getElem hm];rfl)
 rw [hv'] at hu
 cases hu
 obtain ⟨t,rfl⟩:=ru
 rw [List.getD_eq_getElem?_getD,List.getElem?_eq_getElem hm]
 exact ⟨strKind_is _ _ _ _,rfl⟩
theorem Ja1 {zs:List Int}{its:List Value}(r:Vals (zs.map V.int) its)(P:Program)(w:World):∀ (i:Nat) v,its.toArray[i]?=some v→(intKind P w).is (zs.getD i 0) v=true∧v.scannable=true:=fun i v hv=>by
 have hv':its[i]?=some v:=by simpa using hv
 have hm:i<zs.length:=by
  have:=r.length
  rw [List.length_map] at this
  rw [this]
  exact (List.getElem?_eq_some_iff.mp hv').1
 obtain ⟨u,hu,ru⟩:=r.get (i:=i) (x:=V.int zs[i]) (by rw [List.getElem?_map,List.getElem?_eq_getElem hm];rfl)
 rw [hv'] at hu
 cases hu
 obtain ⟨t,rfl⟩:=ru
 rw [List.getD_eq_getElem?_getD,List.getElem?_eq_getElem hm]
 exact ⟨intKind_is _ _ _ _,rfl⟩
theorem J2v {α:Type}[DecidableEq α][BEq α][LawfulBEq α]{knd:PySem.KeyKind X.prog X.w α}{val:Nat→α}{m:Nat}{pins:List (Addr×Obj)}{s:Shared}{σ:St}{H:Hp}{Q:VK}(I:Inv X pins σ H s)(q:∀ p,H p=none→Q (.ref p) (upd H p (SzO p (unl val m)))) :
 ∀ (h':Heap) (tk:Nat),J6u knd s.heap.objs.size val m s.heap h'→EP X pins σ Q (.ref s.heap.objs.size) { s with heap:=h',toks:=tk }:=fun h' tk ⟨⟨o,es,ep,t,ho,hex,hd,_,_,_,hf,hn⟩,kp⟩ =>
 ⟨.ref s.heap.objs.size,_,I.laid (t':=tk) (fun b u e=>kp b u (Heap.lt_size e) e) (Nat.le_refl _) (JbZ ⟨o,es,ep,t,ho,hex,hd,hf,hn⟩),rfl,q _ (I.hok.fresh (Nat.le_refl _))⟩
theorem J8E (hc:X.calm=true):J0e X (.type "set") (J9f X.K):=by
 intro pins s σ H xs us Q I r h
 obtain ⟨p,zs,rfl,hq,hz,q⟩:=h
 obtain ⟨u,rfl,rx⟩:=J0Z r
 cases rx
 rcases hq with hq | hq
 ·obtain ⟨its,r',pl,_⟩:=I.list hq
  have hl:=r'.length
  rw [List.length_map] at hl
  have hsz:its.toArray.size=zs.length:=by rw [List.size_toArray,← hl]
  refine J7x (knd:=strKind X.prog X.w) (I.ok.hd hc) pl.isList (J91 r' _ _) (by rw [hsz];unfold scanBound;omega) ?_
  rw [hsz]
  exact J2v I q
 ·obtain ⟨its,r',pl,_⟩:=I.tuple hq
  have hl:=r'.length
  rw [List.length_map] at hl
  have hsz:its.toArray.size=zs.length:=by rw [List.size_toArray,← hl]
  refine J7w (knd:=strKind X.prog X.w) (I.ok.hd hc) pl (J91 r' _ _) (by rw [hsz];unfold scanBound;omega) ?_
  rw [hsz]
  exact J2v I q
theorem J8F (hc:X.calm=true):J0e X (.type "set") (J9g X.K):=by
 intro pins s σ H xs us Q I r h
 obtain ⟨p,zs,rfl,hq,hz,q⟩:=h
 obtain ⟨u,rfl,rx⟩:=J0Z r
 cases rx
 rcases hq with hq | hq
 ·obtain ⟨its,r',pl,_⟩:=I.list hq
  have hl:=r'.length
  rw [List.length_map] at hl
  have hsz:its.toArray.size=zs.length:=by rw [List.size_toArray,← hl]
  refine J7x (knd:=intKind X.prog X.w) (I.ok.hd hc) pl.isList (Ja1 r' _ _) (by rw [hsz];unfold scanBound;omega) ?_
  rw [hsz]
  exact J2v I q
 ·obtain ⟨its,r',pl,_⟩:=I.tuple hq
  have hl:=r'.length
  rw [List.length_map] at hl
  have hsz:its.toArray.size=zs.length:=by rw [List.size_toArray,← hl]
  refine J7w (knd:=intKind X.prog X.w) (I.ok.hd hc) pl (Ja1 r' _ _) (by rw [hsz];unfold scanBound;omega) ?_
  rw [hsz]
  exact J2v I q
def JaU:List V→Hp→VK→Prop:=fun xs H Q=>∃ a n,xs=[.ref a]∧H a=some (SzO a n)∧n≤1000∧Q (.int n) H
theorem J6m:J0e X (.builtin "len") JaU:=by
 intro pins s σ H xs us Q I r h
 obtain ⟨a,n,rfl,ha,hn,q⟩:=h
 obtain ⟨u,rfl,rx⟩:=J0Z r
 cases rx
 obtain ⟨⟨o,es,ep,t,e,hex,hd,hf,hs⟩,_⟩:=(show ObjOk X.prog X.w H s.heap a (SzO a n) from I.hok a _ ha)
 refine call_len_set e hex hd hf (by rw [hs];omega) ?_
 rw [hs]
 exact ⟨.int n,H,I.tok _,⟨_,rfl⟩,q⟩
theorem Jcx {K:PySem.W.Frag}(e:X.K=K)(hc:X.calm=true):J0e X (.type "set") (J9f K):=by subst e;exact J8E hc
theorem Jcy {K:PySem.W.Frag}(e:X.K=K)(hc:X.calm=true):J0e X (.type "set") (J9g K):=by subst e;exact J8F hc
end
section
variable {X:Cx}
end
section
variable {X:Cx}
def J8Q:TS:=fun _ _ _=>False
end
theorem Jat:bootBuiltins "zip"=some (.type "zip"):=by decide +kernel
section
variable {X:Cx}
end
section
variable {X:Cx}
theorem Jb4 (K:PySem.W.Frag)(i j:Nat){x y:Str}{p1 p2 pos:Pos}{k:Nat}(hN:X.N.Nodup)(e:X.K=K:=by rfl)(hc:X.calm=true:=by rfl)(hi:X.N[i]?=some x:=by rfl)(hj:X.N[j]?=some y:=by rfl)(hv:X.env.scope.names.lookup x=some .local:=by rfl)(hw:X.env.scope.names.lookup y=some .local:=by rfl)
 (h1:(assignEach [.Name x p1,.Name y p2] X.env).map (·.2)=assign (.Name x p1) X.env::(assignEach [.Name y p2] X.env).map (·.2):=by rfl) (h2:(assignEach [.Name y p2] X.env).map (·.2)=assign (.Name y p2) X.env::(assignEach [] X.env).map (·.2):=by rfl)
 (hn:(assignEach [.Name x p1,.Name y p2] X.env).length=2:=by rfl) (hst:(assignEach [.Name x p1,.Name y p2] X.env).findIdx? (·.1)=none:=by rfl):PG X (.Tuple [.Name x p1,.Name y p2] k pos) (JcE K 2 (J22 (J0s i) (J22 (J0s j) J4b))) :=
 J65 e hc (J0Q (pgl i hN hi hv) (J0Q (pgl j hN hj hw) J2z h2) h1) hn hst
end
theorem J5e:typeLookup (.type "list") "keys"=pure none:=by rw [typeLookup_type,builtinLookup_eq_fast];kernel_rfl
theorem J1S:entryFor table "dict.update.loop"=some Builtin.«dict.update.loop»:=entryFor_of_tree (by kernel_rfl)
theorem J0V:plainId "dict.update.loop"=true:=by decide +kernel
section
variable {prog:Program}{w:World}{A:Around}{E:Value→Shared→Prop}{s:Shared}
theorem J3P {a:Addr}{xs:Array Value}{k:Nat}{sl:Array (Option Value)}{Q:Option Value→Shared→Prop}(hx:s.heap.get? a=some { cls:=.type "list",dict:=none,data:=.seq xs k,slots:=sl })(hA:A.handled=none)
 (h:∀ h' tk,(∀ b ob,s.heap.get? b=some ob→h'.get? b=some ob)→Q none { s with heap:=h',toks:=tk }):wpAny (model prog w) A (getAttr? (.ref a) "keys") Q E s:=by
 obtain ⟨hp,g,d,tk,os⟩:=s
 have hT:∀ tk',(⟨hp,g,d,tk',os⟩:Shared).TypeIs (.ref a) "list":=fun _=>⟨_,hx,rfl⟩
 have f1:=sub_AttributeError
 have f3:=F.slot_list_getattribute.lookup
 have f4:=F.slot_list_getattribute.bind (.ref a)
 have f5:=am_list_getattr_none
 unfold getAttr? getAttrBy? getAttrBy
 repeat (any_goals (first | assumption | exact hT _ | ((with_reducible show wpAny _ _ (call (Value.builtin "list.__getattribute__") _ _) _ _ _);refine call_meets F.slot_list_getattribute (hT _) am_entry_list_getattribute (F.args_list_getattribute_2 _ _) (meets_getattribute_miss_list a xs k sl "keys" _ J5e (by decide)) ⟨hx,hA,fun h' tk' e hx'=>?_⟩) | wp_step))
 obtain ⟨t',u',he⟩:=hx'.there
 show wpAny _ _ (getattributeRaised _ _ _ _ _ _ _) _ _ _
 unfold getattributeRaised
 repeat (any_goals (first | assumption | wp_step))
 have hTe:∀ tk',(⟨h',g,d,tk',os⟩:Shared).TypeIs (.ref e) "AttributeError":=fun _=>⟨_,he,rfl⟩
 repeat (any_goals (first | assumption | exact hTe _ | wp_step))
 exact h _ _ hx'.keeps
end
section
variable {prog:Program}{w:World}{A:Around}{R:Result→Shared→Prop}{I:Addr}{fp wr:List Addr}{G:Array GenState→Array GenState→Prop}{n:Nat}{P:Nat→Value→Prop}{St:Nat→Shared→Prop}
variable {α:Type}[DecidableEq α]{knd:PySem.KeyKind prog w α}
theorem J8w (W:WalksS prog w A.in1 I fp wr G n P St){b:Addr}(nb:b∉fp){kvs:List (α×Value)}(hn:kvs.length=n)(room:n≤sizeLine) :
 ∀ (m i:Nat) (j:Int) (s:Shared),n - i=m→i≤n→St i s→(∀ (l:Nat) v,P l v→∃ q o kx t k vx,v=.ref q∧q∉b::wr∧s.heap.get? q=some o∧o.cls=.type "tuple"∧o.data=.seq #[kx,vx] t∧kvs[l]?=some (k,vx)∧knd.is k kx=true)→s.heap.DictOf knd b (merged [] (kvs.take i)) →
   (∀ s',Moved (b::wr) G s s'→s'.heap.DictOf knd b (merged [] kvs)→R (.ok (.ret .none)) s') →
   codeAny (model prog w) A (.builtin "dict.update.loop" ⟨[.ref b,.ref I,rawInt j,.none],[]⟩) R s:=by
 have nw:b∉wr:=fun z=>nb (W.sub _ z)
 have more:∀ c∈wr,c∈b::wr:=fun c hc=>List.mem_cons_of_mem _ hc
 have same:∀ {s s':Shared} {ys:List (α×Value)},s.heap.DictOf knd b ys→Moved wr G s s'→s'.heap.DictOf knd b ys:=fun {s s' ys} h hm=>by
  obtain ⟨o,es,ep,ho,r⟩:=h
  exact ⟨o,es,ep,hm.heap b _ nw ho,r⟩
 intro m
 induction m with
 | zero =>
   intro i j s hm hi hst hT hS hR
   obtain rfl:i=n:=by omega
   rw [← hn,List.take_length] at hS
   refine codeAny_builtin J1S ?_
   rw [Around.under_plainId J0V _]
   show wpAny _ A.in1 (pyNext (.ref I) >>= _) _ _ s
   exact wpAny_bind (W.done s _ _ hst fun s' mv=>wpAny_bind (wpAny_pure (wpAny_pure (hR s' (mv.mono more) (same hS mv)))))
 | succ m ih =>
   intro i j s hm hi hst hT hS hR
   have lt:i<n:=by omega
   refine codeAny_builtin J1S ?_
   rw [Around.under_plainId J0V _]
   show wpAny _ A.in1 (pyNext (.ref I) >>= _) _ _ s
   refine wpAny_bind (W.item i s _ _ lt hst fun v s' hP hst' mv=>?_)
   obtain ⟨q,o,kx,t,k,vx,rfl,hq,ho,hc,hd,hkv,hk⟩:=hT i v hP
   have hq1:q∉wr:=fun z=>hq (List.mem_cons_of_mem _ z)
   have ho':=mv.heap q o hq1 ho
   have hS':=same hS mv
   have hll:(merged [] (kvs.take i)).length≤sizeLine:=by
    have e1:=merged_length_le [] (kvs.take i)
    have e2:(kvs.take i).length≤kvs.length:=by rw [List.length_take];omega
    simp only [List.length_nil,Nat.zero_add] at e1
    omega
   refine wpAny_bind (wpAny_holding (wpAny_bind ?_))
   refine wpAny_tryCatch ?_
   unfold Builtin.Dict.pairItems
   refine wpAny_bind (wpAny_typeOf (T:="tuple") ⟨_,ho',hc⟩ ?_)
   rw [if_pos (by decide)]
   refine wpAny_bind (wpAny_seqItems ho' hd (wpAny_pure ?_))
   show wpAny _ _ (holding [kx,vx] (dictSet b kx vx)) _ _ _
   refine wpAny_holding (wpAny_dictSet_pairs (hsz:=hll) hk hS' fun h' hS2 sb=>?_)
   rw [← merged_take_succ [] kvs i (k,vx) hkv] at hS2
   refine wpAny_pure ⟨plainId_quiet J0V _,ih (i+1) _ _ (by omega) lt (W.frame _ s' _ _ hst' (Nat.le_succ _) fun c hc o e=>?_) (fun l v hl=>?_) hS2 fun s'' mv' hS4=>?_⟩
   ·rw [sb.2 c (fun z:c=b=>nb (by rw [← z];exact hc))];exact e
   ·obtain ⟨q,o,kx,t,k,vx,e1,hq,ho,r⟩:=hT l v hl
    refine ⟨q,o,kx,t,k,vx,e1,hq,?_,r⟩
    show h'.get? q=some o
    rw [sb.2 q (fun z:q=b=>hq (by rw [z];exact List.mem_cons_self))]
    exact mv.heap q o (fun z=>hq (List.mem_cons_of_mem _ z)) ho
   ·refine hR s'' (Moved.trans W.gtrans ((mv.mono more).then_heap (Nat.le_succ _) fun c o hc e=>?_) mv') hS4
    rw [sb.2 c (fun z:c=b=>hc (by rw [z];exact List.mem_cons_self))];exact e
end
section
variable {prog:Program}{w:World}{A:Around}{E:Value→Shared→Prop}{s:Shared}{α:Type}[DecidableEq α]{knd:PySem.KeyKind prog w α}
theorem Jad {l:Addr}{items:Array Value}{n0:Nat}{sl:Array (Option Value)}{kvs:List (α×Value)}{Q:Value→Shared→Prop}(hh:A.handled=none)(hl:s.heap.get? l=some { cls:=.type "list",dict:=none,data:=.seq items n0,slots:=sl })(hn:kvs.length=items.size)(room:items.size≤sizeLine)
 (hT:∀ (i:Nat) v,items[i]?=some v→∃ q o kx t k vx,v=.ref q∧s.heap.get? q=some o∧o.cls=.type "tuple"∧o.data=.seq #[kx,vx] t∧kvs[i]?=some (k,vx)∧knd.is k kx=true)
 (h:∀ h' tk,h'.DictOf knd s.heap.objs.size (merged [] kvs)→(∀ c o,s.heap.get? c=some o→h'.get? c=some o)→Q (.ref s.heap.objs.size) { s with heap:=h',toks:=tk }):wpAny (model prog w) A (call (.type "dict") [.ref l]) Q E s:=by
 refine callType_codes (Q₁:=fun obj s₁=>obj=.ref s.heap.objs.size∧s₁={ s with heap:=s.heap.push { cls:=.type "dict",data:=.dict #[] } }) F.kt_called_dict (F.kt_typeCall_dict_1 _) F.entry_dict_init (kt_code_dict_new _ ⟨rfl,rfl⟩) ?_
 rintro obj s₁ ⟨rfl,rfl⟩
 have hnew:(s.heap.push { cls:=.type "dict",data:=.dict #[] }).DictOf knd s.heap.objs.size []:=Heap.DictOf.new s.heap
 refine ⟨hnew.typeIs,F.args_dict_init_2 _ _,?_⟩
 unfold Builtin.«dict.__init__»
 refine wpAny_bind ?_
 unfold Builtin.Dict.selfAndRest
 refine wpAny_bind (wpAny_notOrdered_dict hnew.typeIs ?_)
 show wpAny _ _ (pure (s.heap.objs.size,[Value.ref l])) _ _ _
 refine wpAny_pure ?_
 show wpAny _ _ (Builtin.Dict.updateFrom "dict.__init__" s.heap.objs.size (.ref l) [] .none) _ _ _
 unfold Builtin.Dict.updateFrom
 have at1:(s.heap.push { cls:=.type "dict",data:=.dict #[] }).get? l=some { cls:=.type "list",dict:=none,data:=.seq items n0,slots:=sl }:=Heap.get?_push_of_some _ hl
 refine wpAny_bind (wpAny_typeOf (T:="list") ⟨_,at1,rfl⟩ ?_)
 rw [if_pos (by decide)]
 refine wpAny_bind (J3P at1 (by simp [hh]) fun h1 tk keep1=>?_)
 rw [if_pos (show Option.isNone (none:Option Value)=true from rfl)]
 refine wpAny_bind (wpAny_rule ?_)
 have at2:=keep1 _ _ at1
 have hl2:h1.IsList l items:=⟨_,at2,rfl,n0,rfl⟩
 refine wpAny_bind (wpAny_pyIter_list (s:={ s with heap:=h1,toks:=tk }) hl2 (wpAny_pure ⟨plainId_quiet J0V _,?_⟩))
 have hd2:h1.DictOf knd s.heap.objs.size []:=by
  obtain ⟨o,es,ep,ho,r⟩:=hnew
  exact ⟨o,es,ep,keep1 _ _ ho,r⟩
 have hlt:s.heap.objs.size<h1.objs.size:=by
  obtain ⟨o,es,ep,ho,r⟩:=hd2
  exact Heap.lt_size ho
 have ll:l<s.heap.objs.size:=Heap.lt_size hl
 refine J8w (knd:=knd) (kvs:=kvs) ((Walks.list (by simp [hh]) h1.objs.size l (Nat.ne_of_lt (Nat.lt_trans ll hlt)) items).toS) (b:=s.heap.objs.size) (by simp only [List.mem_cons,List.not_mem_nil,or_false,not_or];exact ⟨Nat.ne_of_lt hlt,Nat.ne_of_gt ll⟩) hn room (items.size - 0) 0 0 _ (by omega) (Nat.zero_le _) ⟨⟨_,Heap.get?_push_size _ rfl,rfl,rfl⟩,hl2.push _⟩ (fun i v hv=>?_) ?_ ?_
 ·obtain ⟨q,o,kx,t,k,vx,rfl,ho,r⟩:=hT i v hv
  have lq:q<s.heap.objs.size:=Heap.lt_size ho
  refine ⟨q,o,kx,t,k,vx,rfl,?_,Heap.get?_push_of_some _ (keep1 _ _ (Heap.get?_push_of_some _ ho)),r⟩
  simp only [List.mem_cons,List.not_mem_nil,or_false,not_or]
  exact ⟨Nat.ne_of_lt lq,Nat.ne_of_lt (Nat.lt_trans lq hlt)⟩
 ·exact hd2.push _
 ·intro s' mv hS
  obtain ⟨h',g',d',tk',os'⟩:=s'
  obtain rfl:g'=s.gens:=mv.gens
  obtain rfl:d'=s.drawn:=mv.drawn
  obtain rfl:os'=s.os:=mv.os
  refine ⟨rfl,h h' tk' hS fun c o e=>?_⟩
  have lc:c<s.heap.objs.size:=Heap.lt_size e
  refine mv.heap c o ?_ (Heap.get?_push_of_some _ (keep1 _ _ (Heap.get?_push_of_some _ e)))
  simp only [List.mem_cons,List.not_mem_nil,or_false,not_or]
  exact ⟨Nat.ne_of_lt lc,Nat.ne_of_lt (Nat.lt_trans lc hlt)⟩
end
section
variable {X:Cx}
def J6L (K:PySem.W.Frag):List V→Hp→VK→Prop:=fun xs H Q=>∃ a,∃ (rs:List V) (kvs:List (Key×V)),xs=[.ref a]∧SqL K H a rs∧kvs.length=rs.length∧(∀ (i:Nat) r kv,rs[i]?=some r→kvs[i]?=some kv→∃ q,r=.ref q∧SqT K H q [kV kv.1,kv.2])∧∀ p,H p=none→Q (.ref p) (upd H p (.dK (J0d [] kvs)))
theorem pairs_of {pins:List (Addr×Obj)}{s:Shared}{σ:St}{H:Hp}(I:Inv X pins σ H s):∀ {rs:List V} {its:List Value} {kvs:List (Key×V)},Vals rs its→kvs.length=rs.length→(∀ (i:Nat) r kv,rs[i]?=some r→kvs[i]?=some kv→∃ q,r=.ref q∧SqT X.K H q [kV kv.1,kv.2]) →
 ∃ vs:List (Key×Value),KV kvs vs∧∀ (i:Nat) v,its[i]?=some v→∃ q o kx t k vx,v=.ref q∧s.heap.get? q=some o∧o.cls=.type "tuple"∧o.data=.seq #[kx,vx] t∧vs[i]?=some (k,vx)∧(J0q X.prog X.w).is k kx=true
 | [],_,[],r,_,_=>by cases r;exact ⟨[],.nil,fun i v h=>by simp at h⟩
 | [],_,_::_,_,h,_=>by simp at h
 | _::_,_,[],_,h,_=>by simp at h
 | a :: rs,_,kv::kvs,r,hl,hT=>by
   cases r with
   | @cons _ u _ us ra rr =>
     obtain ⟨vs,k1,k2⟩:=pairs_of I rr (by simpa using hl) (fun i x kv' h1 h2=>hT (i+1) x kv' (by simpa using h1) (by simpa using h2))
     obtain ⟨q,rfl,hq⟩:=hT 0 a kv rfl rfl
     cases (show u=Value.ref q from ra)
     obtain ⟨its2,r2,⟨o,ho,hc,t,hd⟩,_⟩:=I.tuple hq
     obtain ⟨kx,vx,rfl,rk,rv⟩:=J5t r2
     refine ⟨(kv.1,vx)::vs,.cons ⟨rfl,rv⟩ k1,fun i v hv=>?_⟩
     cases i with
     | zero =>
       obtain rfl:Value.ref q=v:=by simpa using hv
       exact ⟨q,o,kx,t,kv.1,vx,rfl,ho,hc,hd,rfl,J68 rk⟩
     | succ i =>
       obtain ⟨q',o',kx',t',k',vx',e1,e2,e3,e4,e5,e6⟩:=k2 i v (by simpa using hv)
       exact ⟨q',o',kx',t',k',vx',e1,e2,e3,e4,by simpa using e5,e6⟩
theorem J7i (hc:X.calm=true):J0e X (.type "dict") (J6L X.K):=by
 intro pins s σ H xs us Q I r h
 obtain ⟨p,rs,kvs,rfl,hq,hlen,hT,q⟩:=h
 obtain ⟨u,rfl,rx⟩:=J0Z r
 cases rx
 obtain ⟨its,r',⟨o,n,ho,h1,h2,h3⟩,hz⟩:=I.list hq
 obtain ⟨cls,dct,dat,sl⟩:=o
 simp only at h1 h2 h3
 obtain ⟨vs,k1,k2⟩:=pairs_of I r' hlen hT
 have hl:=r'.length
 have hv:=k1.length
 subst h1 h2 h3
 refine Jad (knd:=J0q X.prog X.w) (kvs:=vs) (I.ok.hd hc) ho (by rw [List.size_toArray];omega) (by rw [List.size_toArray];omega) (fun i v hv'=>k2 i v (by simpa using hv')) fun h' tk dd keep=>?_
 have hz2:(J0d [] kvs).length≤sizeLine:=by
  have h1:=J1w kvs []
  rw [List.length_nil] at h1
  omega
 exact ⟨.ref s.heap.objs.size,_,I.laid (a:=s.heap.objs.size) (o:=.dK (J0d [] kvs)) (t':=tk) (fun b u e=>keep b u e) (Nat.le_refl _) (J7g hz2 (beq_eq_false_iff_ne.mpr (Ne.symm (Nat.ne_of_lt I.big))) (k1.merge .nil) dd),rfl,q _ (I.hok.fresh (Nat.le_refl _))⟩
theorem J7N {K:PySem.W.Frag}(e:X.K=K)(hc:X.calm=true):J0e X (.type "dict") (J6L K):=by subst e;exact J7i hc
theorem J2C:∀ (acc more:List (Key×V)),((acc++more).map (·.1)).Nodup→J0d acc more=acc++more
 | acc,[],_=>by simp [J0d]
 | acc,kv::rest,hn=>by
   have hfresh:¬ (acc.any fun x=>decide (x.1=kv.1))=true:=by
    rw [List.any_eq_true];rintro ⟨x,hx,he⟩
    rw [List.map_append,List.map_cons,List.nodup_append] at hn
    exact hn.2.2 x.1 (List.mem_map.mpr ⟨x,hx,rfl⟩) kv.1 List.mem_cons_self (of_decide_eq_true he)
   have e:J0d acc (kv::rest)=J0d (acc++[kv]) rest:=by
    show J0d (J0W acc kv.1 kv.2) rest=_
    rw [J0W,if_neg hfresh]
   rw [e,J2C (acc++[kv]) rest (by simpa using hn)]
   simp
theorem J6Z {more:List (Key×V)}(hn:(more.map (·.1)).Nodup):J0d [] more=more:=by
 simpa using J2C [] more (by simpa using hn)
end
end L2
namespace HT
open PySem PySem.Spec PyProof.Rows L2
end HT
namespace L2
open PySem PySem.Spec PyProof.Rows HT
section
variable {prog:Program}{w:World}{A:Around}{E:Value→Shared→Prop}{s:Shared}
theorem J2c {t sl:Addr}{items:Array Value}{vl vu:Value}{lo hi:Option Int}{Q:Value→Shared→Prop}(ht:IsTup s.heap t items)(hs:s.heap.IsSliceOf sl vl vu .none)(pl:IsPart vl lo)(pu:IsPart vu hi)
 (hw:sIx items.size 0 lo=0∧sIx items.size items.size hi=items.size) (h:Q (.ref t) s):wpAny (model prog w) A (getItem (.ref t) (.ref sl)) Q E s:=by
 obtain ⟨os,hos,hcs,hds⟩:=id hs
 have hTs:s.TypeIs (.ref sl) "slice":=⟨os,hos,hcs⟩
 unfold getItem
 try with_reducible refine wpAny_holding ?_
 first | refine wpAny_bind (wpAny_pure ?_) | skip
 refine wpAny_bind (wpAny_sequenceKey ht.typeIs (by decide) ?_)
 refine wpAny_bind (wpAny_callSpecial?_slot (name:=Str.ofString "__getitem__") ht.typeIs PyProof.Rows.slot_tuple_getitem
  (wpAny_call_entry PyProof.Rows.slot_tuple_getitem ht.typeIs entry_tuple_getitem ?_ (args_tuple_getitem _ _)))
 show wpAny _ _ (Builtin.Tuple.tupleItemsOf (.ref t) >>= _) _ _ s
 refine wpAny_bind (tupleItemsOf_ ht ?_)
 refine wpAny_bind (wpAny_typeOf hTs ?_)
 rw [if_pos (by decide)]
 refine wpAny_bind (J1z hs pl pu ?_)
 show wpAny _ _ (if (((sIx items.size 0 lo:Nat):Int) == 0&&(1:Int) == 1&&(sIx items.size items.size hi - sIx items.size 0 lo) == items.size)=true then _ else _) _ _ s
 rw [if_pos (by rw [hw.1,hw.2];simp)]
 refine wpAny_bind ?_
 unfold Builtin.Tuple.tupleIsExact
 refine wpAny_bind (wpAny_typeOf ht.typeIs (wpAny_pure ?_))
 rw [if_pos (by decide)]
 exact wpAny_bind (wpAny_rule (wpAny_pure ⟨_,rfl,wpAny_pure h⟩))
end
section
variable {X:Cx}
def J9d (K:PySem.W.Frag):V→Option Int→Option Int→Hp→VK→Prop:=fun x lo hi H Q=>∃ a xs,x=.ref a∧SqT K H a xs ∧
 ((HT.sIx xs.length 0 lo=0∧HT.sIx xs.length xs.length hi=xs.length)→Q (.ref a) H)∧(¬ (HT.sIx xs.length 0 lo=0∧HT.sIx xs.length xs.length hi=xs.length)→∀ p,H p=none→Q (.ref p) (upd H p (.tup (J0M xs lo hi))))
theorem JaJ:SlR X (J9d X.K):=by
 intro pins s σ H x v vl vu lo hi sl Q I rx hs pl pu h
 obtain ⟨a,xs,rfl,hx,q1,q2⟩:=h
 by_cases hw:HT.sIx xs.length 0 lo=0∧HT.sIx xs.length xs.length hi=xs.length
 ·cases rx
  obtain ⟨its,r,ht,hz⟩:=I.tuple hx
  have hlen:its.toArray.size=xs.length:=by rw [List.size_toArray];exact r.length.symm
  exact ⟨"tuple",_,PyProof.Rows.slot_tuple_getitem.lookup,ht.typeIs,J2c ht hs pl pu (by rw [hlen];exact hw) ⟨.ref a,H,I,rfl,q1 hw⟩⟩
 ·exact Jc1 pins s σ H _ v vl vu lo hi sl Q I rx hs pl pu ⟨a,xs,rfl,hx,hw,q2 hw⟩
theorem J9X {K:PySem.W.Frag}(e:X.K=K):SlR X (J9d K):=by subst e;exact JaJ
end
end L2
namespace L2
open PySem PySem.Spec PyProof.Rows
theorem Jco (a v:Value):argsOk "max" ⟨[a],[(Str.ofString "default",v)]⟩:=by unfold argsOk;kernel_rfl
theorem J5b:(toString "max"++toString ".loop":String)="max.loop":=by decide
section
variable {prog:Program}{w:World}{A:Around}{R:Result→Shared→Prop}{I:Addr}{fp wr:List Addr}{n:Nat}{P:Nat→Value→Prop}{St:Nat→Heap→Prop}
theorem J6X (W:Walks prog w A.in1 I fp wr n P St){bt:Nat→Nat→Bool}(cmp:CmpOf prog w A.in1 .Gt P bt){B:Addr}(nf:B∉fp){d:Value} :
 ∀ (m i:Nat) (z:Shared) (cur:Value) (cc:Nat),n=i+1+m→St (i+1) z.heap→P (argBest bt i) cur→z.heap.get? B=some { cls:=.type "list",dict:=none,data:=.seq #[cur,cur] cc,slots:=#[] } →
   (∀ v h2 t2,P (argBest bt (n - 1)) v→(∀ b o,b∉wr→b≠B→z.heap.get? b=some o→h2.get? b=some o)→R (.ok (.ret v)) { z with heap:=h2,toks:=t2 }) →
   codeAny (model prog w) A (.builtin "max.loop" ⟨[.ref I,.none,.ref B],[(Str.ofString "default",d)]⟩) R z
 | 0,i,z,cur,cc,hm,st,pc,hB,fin=>by
   have nw:B∉wr:=fun q=>nf (W.sub _ q)
   refine codeAny_builtin F.entry_max_loop ?_;rw [Around.under_plainId F.plain_max_loop _]
   show wpAny _ A.in1 (seqItems? (.ref B) >>= _) _ _ z;refine wpAny_bind (wpAny_seqItems hB rfl ?_)
   show wpAny _ A.in1 (tryCatch (pyNext (.ref I)) _ >>= _) _ _ z
   refine wpAny_bind (wpAny_tryCatch (W.done z _ _ (by rw [hm];exact st) fun h2 t2 kp=>?_));show wpAny _ A.in1 (updateSeq B (fun _=>#[]) >>= _) _ _ _
   refine wpAny_bind (wpAny_updateSeq (kp B _ nw hB) rfl (wpAny_bind (wpAny_letGo (wpAny_pure (fin cur _ t2 ?_ fun b o hb hn e=>(Heap.get?_update_other _ _ (Ne.symm hn)).trans (kp b o hb e))))))
   rw [show n - 1=i by omega];exact pc
 | m + 1,i,z,cur,cc,hm,st,pc,hB,fin=>by
   have nw:B∉wr:=fun q=>nf (W.sub _ q)
   refine codeAny_builtin F.entry_max_loop ?_;rw [Around.under_plainId F.plain_max_loop _]
   show wpAny _ A.in1 (seqItems? (.ref B) >>= _) _ _ z;refine wpAny_bind (wpAny_seqItems hB rfl ?_)
   show wpAny _ A.in1 (tryCatch (pyNext (.ref I)) _ >>= _) _ _ z
   refine wpAny_bind (wpAny_tryCatch (W.item (i+1) z _ _ (by omega) st fun v h2 t2 pv st2 kp=>?_))
   have hB2:=kp B _ nw hB
   show wpAny _ A.in1 (tryCatch (holding [v,v] (richCompare .Gt v cur >>= _)) _ >>= _) _ _ _
   refine wpAny_bind (wpAny_tryCatch (wpAny_holding (wpAny_bind (cmp (i+1) (argBest bt i) v cur _ _ _ pv pc (wpAny_bind (wpAny_holding (wpAny_truthy_bool (wpAny_bind (wpAny_letGo (wpAny_pure ?_))))))))))
   by_cases c:bt (i+1) (argBest bt i)=true
   ·have e:argBest bt (i+1)=i+1:=by unfold argBest;rw [if_pos c]
    rw [if_pos c]
    refine wpAny_bind (wpAny_updateSeq hB2 rfl (wpAny_bind (wpAny_letGo ?_)));rw [J5b]
    refine wpAny_pure ⟨plainId_quiet F.plain_max_loop _,J6X W cmp nf m (i+1) _ v _ (by omega) (W.frame _ _ _ st2 fun b hb o q=>?_) (by rw [e];exact pv) (Heap.get?_update_self _ hB2 rfl) fun v' h3 t3 pv' kp'=>fin v' h3 t3 pv' fun b o hb hn q=>kp' b o hb hn ((Heap.get?_update_other _ _ (Ne.symm hn)).trans (kp b o hb q))⟩
    exact (Heap.get?_update_other _ _ fun q:B=b=>nf (by rw [q];exact hb)).trans q
   ·have e:argBest bt (i+1)=argBest bt i:=by rw [argBest,if_neg c]
    rw [if_neg c]
    refine wpAny_bind (wpAny_letGo ?_);rw [J5b]
    exact wpAny_pure ⟨plainId_quiet F.plain_max_loop _,J6X W cmp nf m (i+1) _ cur cc (by omega) st2 (by rw [e];exact pc) hB2 fun v' h3 t3 pv' kp'=>fin v' h3 t3 pv' fun b o hb hn q=>kp' b o hb hn (kp b o hb q)⟩
theorem Jbh (W:Walks prog w A.in1 I fp wr n P St){bt:Nat→Nat→Bool}(cmp:CmpOf prog w A.in1 .Gt P bt){B:Addr}(nf:B∉fp){d:Value}{z:Shared}{cc:Nat}(st:St 0 z.heap)(hB:z.heap.get? B=some { cls:=.type "list",dict:=none,data:=.seq #[] cc,slots:=#[] })
 (non:n=0→∀ h2 t2,(∀ b o,b∉wr→b≠B→z.heap.get? b=some o→h2.get? b=some o)→R (.ok (.ret d)) { z with heap:=h2,toks:=t2 })
 (fin:0<n→∀ v h2 t2,P (argBest bt (n - 1)) v→(∀ b o,b∉wr→b≠B→z.heap.get? b=some o→h2.get? b=some o)→R (.ok (.ret v)) { z with heap:=h2,toks:=t2 }) :
 codeAny (model prog w) A (.builtin "max.loop" ⟨[.ref I,.none,.ref B],[(Str.ofString "default",d)]⟩) R z:=by
 have nw:B∉wr:=fun q=>nf (W.sub _ q)
 refine codeAny_builtin F.entry_max_loop ?_;rw [Around.under_plainId F.plain_max_loop _]
 show wpAny _ A.in1 (seqItems? (.ref B) >>= _) _ _ z;refine wpAny_bind (wpAny_seqItems hB rfl ?_)
 show wpAny _ A.in1 (tryCatch (pyNext (.ref I)) _ >>= _) _ _ z
 by_cases h0:n=0
 ·refine wpAny_bind (wpAny_tryCatch (W.done z _ _ (by rw [h0];exact st) fun h2 t2 kp=>?_))
  exact wpAny_bind (wpAny_rule (wpAny_pure (non h0 h2 t2 fun b o hb _ q=>kp b o hb q)))
 ·have hp:0<n:=by omega
  refine wpAny_bind (wpAny_tryCatch (W.item 0 z _ _ hp st fun v h2 t2 pv st2 kp=>?_))
  have hB2:=kp B _ nw hB
  show wpAny _ A.in1 (updateSeq B (fun _=>#[v,v]) >>= _) _ _ _
  refine wpAny_bind (wpAny_updateSeq hB2 rfl ?_);rw [J5b]
  refine wpAny_pure ⟨plainId_quiet F.plain_max_loop _,J6X W cmp nf (n - 1) 0 _ v _ (by omega) (W.frame _ _ _ st2 fun b hb o q=>?_) pv (Heap.get?_update_self _ hB2 rfl) fun v' h3 t3 pv' kp'=>fin hp v' h3 t3 pv' fun b o hb hn q=>kp' b o hb hn ((Heap.get?_update_other _ _ (Ne.symm hn)).trans (kp b o hb q))⟩
  exact (Heap.get?_update_other _ _ fun q:B=b=>nf (by rw [q];exact hb)).trans q
end
section
variable {prog:Program}{w:World}{A:Around}{E:Value→Shared→Prop}{s:Shared}
theorem J5V {l:Addr}{items:Array Value}{d:Value}{bt:Nat→Nat→Bool}{Q:Value→Shared→Prop}(hh:A.handled=none)(hl:s.heap.IsList l items)(cmp:CmpOf prog w A.in1 .Gt (fun i v=>items[i]?=some v) bt)
 (non:items.size=0→∀ h2 t2,(∀ b o,s.heap.get? b=some o→h2.get? b=some o)→Q d { s with heap:=h2,toks:=t2 })
 (fin:0<items.size→∀ v h2 t2,items[argBest bt (items.size - 1)]?=some v→(∀ b o,s.heap.get? b=some o→h2.get? b=some o)→Q v { s with heap:=h2,toks:=t2 }) :
 wpAny (model prog w) A (call (.builtin "max") [.ref l] [(Str.ofString "default",d)]) Q E s:=by
 refine PyProof.Rows.kmk_tree F.kind_max F.plain_max F.entry_max (Jco _ _) ?_
 show wpAny _ A.in1 (Builtin.Builtins.bindParams "max" ["key","default"] 0 ⟨[],[(Str.ofString "default",d)]⟩ >>= _) _ _ s
 refine wpAny_bind (wpAny_of_eq (show Builtin.Builtins.bindParams "max" ["key","default"] 0 ⟨[],[(Str.ofString "default",d)]⟩=pure [none,some d] from rfl) (wpAny_bind (wpAny_pure (wpAny_bind (wpAny_pyIter_list hl (wpAny_bind (wpAny_newObj_type ?_)))))))
 rw [J5b]
 obtain ⟨ol,hol,hcl⟩:=id hl
 have ll:l<s.heap.objs.size:=Heap.lt_size hol
 have sz:(s.heap.push { cls:=.type "list_iterator",data:=.fields #[.ref l,.int 0 0] }).objs.size=s.heap.objs.size+1:=Heap.size_push ..
 refine wpAny_pure ⟨plainId_quiet F.plain_max_loop _,Jbh (Walks.list (by simp [hh]) s.heap.objs.size l (Nat.ne_of_lt ll) items) cmp (B:=(s.heap.push { cls:=.type "list_iterator",data:=.fields #[.ref l,.int 0 0] }).objs.size) ?_ ⟨?_,?_⟩ (Heap.get?_push_size _ rfl) (fun h0 h2 t2 kp=>non h0 h2 t2 fun b o q=>?_) (fun h0 v h2 t2 pv kp=>fin h0 v h2 t2 pv fun b o q=>?_)⟩
 ·rw [sz]
  simp only [List.mem_cons,List.not_mem_nil,or_false,not_or]
  exact ⟨Nat.succ_ne_self _,Nat.ne_of_gt (Nat.lt_succ_of_lt ll)⟩
 ·exact ⟨_,Heap.get?_push_of_some _ (Heap.get?_push_size _ rfl),rfl,rfl⟩
 ·exact (hl.push _).push _
 all_goals
  have lb:b<s.heap.objs.size:=Heap.lt_size q
  refine kp b o ?_ ?_ (Heap.get?_push_of_some _ (Heap.get?_push_of_some _ q))
  ·simp only [List.mem_cons,List.not_mem_nil,or_false]
   exact Nat.ne_of_lt lb
  ·rw [sz]
   exact Nat.ne_of_lt (Nat.lt_succ_of_lt lb)
end
theorem Jcp (a v:Value):argsOk "min" ⟨[a],[(Str.ofString "default",v)]⟩:=by unfold argsOk;kernel_rfl
theorem J5d:(toString "min"++toString ".loop":String)="min.loop":=by decide
section
variable {prog:Program}{w:World}{A:Around}{R:Result→Shared→Prop}{I:Addr}{fp wr:List Addr}{n:Nat}{P:Nat→Value→Prop}{St:Nat→Heap→Prop}
theorem J6Y (W:Walks prog w A.in1 I fp wr n P St){bt:Nat→Nat→Bool}(cmp:CmpOf prog w A.in1 .Lt P bt){B:Addr}(nf:B∉fp){d:Value} :
 ∀ (m i:Nat) (z:Shared) (cur:Value) (cc:Nat),n=i+1+m→St (i+1) z.heap→P (argBest bt i) cur→z.heap.get? B=some { cls:=.type "list",dict:=none,data:=.seq #[cur,cur] cc,slots:=#[] } →
   (∀ v h2 t2,P (argBest bt (n - 1)) v→(∀ b o,b∉wr→b≠B→z.heap.get? b=some o→h2.get? b=some o)→R (.ok (.ret v)) { z with heap:=h2,toks:=t2 }) →
   codeAny (model prog w) A (.builtin "min.loop" ⟨[.ref I,.none,.ref B],[(Str.ofString "default",d)]⟩) R z
 | 0,i,z,cur,cc,hm,st,pc,hB,fin=>by
   have nw:B∉wr:=fun q=>nf (W.sub _ q)
   refine codeAny_builtin F.entry_min_loop ?_;rw [Around.under_plainId F.plain_min_loop _]
   show wpAny _ A.in1 (seqItems? (.ref B) >>= _) _ _ z;refine wpAny_bind (wpAny_seqItems hB rfl ?_)
   show wpAny _ A.in1 (tryCatch (pyNext (.ref I)) _ >>= _) _ _ z
   refine wpAny_bind (wpAny_tryCatch (W.done z _ _ (by rw [hm];exact st) fun h2 t2 kp=>?_));show wpAny _ A.in1 (updateSeq B (fun _=>#[]) >>= _) _ _ _
   refine wpAny_bind (wpAny_updateSeq (kp B _ nw hB) rfl (wpAny_bind (wpAny_letGo (wpAny_pure (fin cur _ t2 ?_ fun b o hb hn e=>(Heap.get?_update_other _ _ (Ne.symm hn)).trans (kp b o hb e))))))
   rw [show n - 1=i by omega];exact pc
 | m + 1,i,z,cur,cc,hm,st,pc,hB,fin=>by
   have nw:B∉wr:=fun q=>nf (W.sub _ q)
   refine codeAny_builtin F.entry_min_loop ?_;rw [Around.under_plainId F.plain_min_loop _]
   show wpAny _ A.in1 (seqItems? (.ref B) >>= _) _ _ z;refine wpAny_bind (wpAny_seqItems hB rfl ?_)
   show wpAny _ A.in1 (tryCatch (pyNext (.ref I)) _ >>= _) _ _ z
   refine wpAny_bind (wpAny_tryCatch (W.item (i+1) z _ _ (by omega) st fun v h2 t2 pv st2 kp=>?_))
   have hB2:=kp B _ nw hB
   show wpAny _ A.in1 (tryCatch (holding [v,v] (richCompare .Lt v cur >>= _)) _ >>= _) _ _ _
   refine wpAny_bind (wpAny_tryCatch (wpAny_holding (wpAny_bind (cmp (i+1) (argBest bt i) v cur _ _ _ pv pc (wpAny_bind (wpAny_holding (wpAny_truthy_bool (wpAny_bind (wpAny_letGo (wpAny_pure ?_))))))))))
   by_cases c:bt (i+1) (argBest bt i)=true
   ·have e:argBest bt (i+1)=i+1:=by unfold argBest;rw [if_pos c]
    rw [if_pos c]
    refine wpAny_bind (wpAny_updateSeq hB2 rfl (wpAny_bind (wpAny_letGo ?_)));rw [J5d]
    refine wpAny_pure ⟨plainId_quiet F.plain_min_loop _,J6Y W cmp nf m (i+1) _ v _ (by omega) (W.frame _ _ _ st2 fun b hb o q=>?_) (by rw [e];exact pv) (Heap.get?_update_self _ hB2 rfl) fun v' h3 t3 pv' kp'=>fin v' h3 t3 pv' fun b o hb hn q=>kp' b o hb hn ((Heap.get?_update_other _ _ (Ne.symm hn)).trans (kp b o hb q))⟩
    exact (Heap.get?_update_other _ _ fun q:B=b=>nf (by rw [q];exact hb)).trans q
   ·have e:argBest bt (i+1)=argBest bt i:=by rw [argBest,if_neg c]
    rw [if_neg c]
    refine wpAny_bind (wpAny_letGo ?_);rw [J5d]
    exact wpAny_pure ⟨plainId_quiet F.plain_min_loop _,J6Y W cmp nf m (i+1) _ cur cc (by omega) st2 (by rw [e];exact pc) hB2 fun v' h3 t3 pv' kp'=>fin v' h3 t3 pv' fun b o hb hn q=>kp' b o hb hn (kp b o hb q)⟩
theorem Jbj (W:Walks prog w A.in1 I fp wr n P St){bt:Nat→Nat→Bool}(cmp:CmpOf prog w A.in1 .Lt P bt){B:Addr}(nf:B∉fp){d:Value}{z:Shared}{cc:Nat}(st:St 0 z.heap)(hB:z.heap.get? B=some { cls:=.type "list",dict:=none,data:=.seq #[] cc,slots:=#[] })
 (non:n=0→∀ h2 t2,(∀ b o,b∉wr→b≠B→z.heap.get? b=some o→h2.get? b=some o)→R (.ok (.ret d)) { z with heap:=h2,toks:=t2 })
 (fin:0<n→∀ v h2 t2,P (argBest bt (n - 1)) v→(∀ b o,b∉wr→b≠B→z.heap.get? b=some o→h2.get? b=some o)→R (.ok (.ret v)) { z with heap:=h2,toks:=t2 }) :
 codeAny (model prog w) A (.builtin "min.loop" ⟨[.ref I,.none,.ref B],[(Str.ofString "default",d)]⟩) R z:=by
 have nw:B∉wr:=fun q=>nf (W.sub _ q)
 refine codeAny_builtin F.entry_min_loop ?_;rw [Around.under_plainId F.plain_min_loop _]
 show wpAny _ A.in1 (seqItems? (.ref B) >>= _) _ _ z;refine wpAny_bind (wpAny_seqItems hB rfl ?_)
 show wpAny _ A.in1 (tryCatch (pyNext (.ref I)) _ >>= _) _ _ z
 by_cases h0:n=0
 ·refine wpAny_bind (wpAny_tryCatch (W.done z _ _ (by rw [h0];exact st) fun h2 t2 kp=>?_))
  exact wpAny_bind (wpAny_rule (wpAny_pure (non h0 h2 t2 fun b o hb _ q=>kp b o hb q)))
 ·have hp:0<n:=by omega
  refine wpAny_bind (wpAny_tryCatch (W.item 0 z _ _ hp st fun v h2 t2 pv st2 kp=>?_))
  have hB2:=kp B _ nw hB
  show wpAny _ A.in1 (updateSeq B (fun _=>#[v,v]) >>= _) _ _ _
  refine wpAny_bind (wpAny_updateSeq hB2 rfl ?_);rw [J5d]
  refine wpAny_pure ⟨plainId_quiet F.plain_min_loop _,J6Y W cmp nf (n - 1) 0 _ v _ (by omega) (W.frame _ _ _ st2 fun b hb o q=>?_) pv (Heap.get?_update_self _ hB2 rfl) fun v' h3 t3 pv' kp'=>fin hp v' h3 t3 pv' fun b o hb hn q=>kp' b o hb hn ((Heap.get?_update_other _ _ (Ne.symm hn)).trans (kp b o hb q))⟩
  exact (Heap.get?_update_other _ _ fun q:B=b=>nf (by rw [q];exact hb)).trans q
end
section
variable {prog:Program}{w:World}{A:Around}{E:Value→Shared→Prop}{s:Shared}
theorem J5W {l:Addr}{items:Array Value}{d:Value}{bt:Nat→Nat→Bool}{Q:Value→Shared→Prop}(hh:A.handled=none)(hl:s.heap.IsList l items)(cmp:CmpOf prog w A.in1 .Lt (fun i v=>items[i]?=some v) bt)
 (non:items.size=0→∀ h2 t2,(∀ b o,s.heap.get? b=some o→h2.get? b=some o)→Q d { s with heap:=h2,toks:=t2 })
 (fin:0<items.size→∀ v h2 t2,items[argBest bt (items.size - 1)]?=some v→(∀ b o,s.heap.get? b=some o→h2.get? b=some o)→Q v { s with heap:=h2,toks:=t2 }) :
 wpAny (model prog w) A (call (.builtin "min") [.ref l] [(Str.ofString "default",d)]) Q E s:=by
 refine PyProof.Rows.kmk_tree F.kind_min F.plain_min F.entry_min (Jcp _ _) ?_
 show wpAny _ A.in1 (Builtin.Builtins.bindParams "min" ["key","default"] 0 ⟨[],[(Str.ofString "default",d)]⟩ >>= _) _ _ s
 refine wpAny_bind (wpAny_of_eq (show Builtin.Builtins.bindParams "min" ["key","default"] 0 ⟨[],[(Str.ofString "default",d)]⟩=pure [none,some d] from rfl) (wpAny_bind (wpAny_pure (wpAny_bind (wpAny_pyIter_list hl (wpAny_bind (wpAny_newObj_type ?_)))))))
 rw [J5d]
 obtain ⟨ol,hol,hcl⟩:=id hl
 have ll:l<s.heap.objs.size:=Heap.lt_size hol
 have sz:(s.heap.push { cls:=.type "list_iterator",data:=.fields #[.ref l,.int 0 0] }).objs.size=s.heap.objs.size+1:=Heap.size_push ..
 refine wpAny_pure ⟨plainId_quiet F.plain_min_loop _,Jbj (Walks.list (by simp [hh]) s.heap.objs.size l (Nat.ne_of_lt ll) items) cmp (B:=(s.heap.push { cls:=.type "list_iterator",data:=.fields #[.ref l,.int 0 0] }).objs.size) ?_ ⟨?_,?_⟩ (Heap.get?_push_size _ rfl) (fun h0 h2 t2 kp=>non h0 h2 t2 fun b o q=>?_) (fun h0 v h2 t2 pv kp=>fin h0 v h2 t2 pv fun b o q=>?_)⟩
 ·rw [sz]
  simp only [List.mem_cons,List.not_mem_nil,or_false,not_or]
  exact ⟨Nat.succ_ne_self _,Nat.ne_of_gt (Nat.lt_succ_of_lt ll)⟩
 ·exact ⟨_,Heap.get?_push_of_some _ (Heap.get?_push_size _ rfl),rfl,rfl⟩
 ·exact (hl.push _).push _
 all_goals
  have lb:b<s.heap.objs.size:=Heap.lt_size q
  refine kp b o ?_ ?_ (Heap.get?_push_of_some _ (Heap.get?_push_of_some _ q))
  ·simp only [List.mem_cons,List.not_mem_nil,or_false]
   exact Nat.ne_of_lt lb
  ·rw [sz]
   exact Nat.ne_of_lt (Nat.lt_succ_of_lt lb)
end
theorem Jby {prog:Program}{w:World}{A:Around}{P:Nat→Value→Prop}(val:Nat→Str)(hv:∀ i v,P i v→∃ t,v=.str (val i) t):CmpOf prog w A .Gt P (fun i j=>decide ((val j).cps.toList<(val i).cps.toList)):=fun i j vi vj s Q E hi hj h=>by
 obtain ⟨t,rfl⟩:=hv i vi hi
 obtain ⟨u,rfl⟩:=hv j vj hj
 exact richCompare_gives (op:=.Gt) (typeIs_str s _ t) (typeIs_str s _ u) F.slot_str_gt F.entry_str_gt (F.args_str_gt_2 _ _) (gives_str_gt _ _ t u) (fun e=>nomatch e) h
theorem Jbx {prog:Program}{w:World}{A:Around}{P:Nat→Value→Prop}(val:Nat→Str)(hv:∀ i v,P i v→∃ t,v=.str (val i) t):CmpOf prog w A .Lt P (fun i j=>decide ((val i).cps.toList<(val j).cps.toList)):=fun i j vi vj s Q E hi hj h=>by
 obtain ⟨t,rfl⟩:=hv i vi hi
 obtain ⟨u,rfl⟩:=hv j vj hj
 exact richCompare_gives (op:=.Lt) (typeIs_str s _ t) (typeIs_str s _ u) F.slot_str_lt F.entry_str_lt (F.args_str_lt_2 _ _) (gives_str_lt _ _ t u) (fun e=>nomatch e) h
theorem Jd4 {a b c:List Nat}(h1:a<b)(h2:b<c):a<c:=List.lt_trans h1 h2
theorem best_top {bt:Nat→Nat→Bool}(ir:∀ a,bt a a=false)(tr:∀ a b c,bt a b=true→bt c a=true→bt c b=true):∀ k,argBest bt k≤k∧∀ i,i≤k→bt i (argBest bt k)=false
 | 0=>⟨Nat.le_refl _,fun i hi=>by
   have e:i=0:=by omega
   rw [e]
   exact ir 0⟩
 | k + 1=>by
   obtain ⟨h1,h2⟩:=best_top ir tr k
   by_cases c:bt (k+1) (argBest bt k)=true
   ·have e:argBest bt (k+1)=k+1:=by unfold argBest;rw [if_pos c]
    rw [e]
    refine ⟨Nat.le_refl _,fun i hi=>?_⟩
    rcases Nat.lt_succ_iff_lt_or_eq.mp (Nat.lt_succ_of_le hi) with hi | rfl
    ·by_cases z:bt i (k+1)=true
     ·exact absurd (tr _ _ _ c z) (by rw [h2 i (by omega)];exact Bool.false_ne_true)
     ·exact Bool.eq_false_iff.mpr z
    ·exact ir _
   ·have e:argBest bt (k+1)=argBest bt k:=by rw [argBest,if_neg c]
    rw [e]
    refine ⟨by omega,fun i hi=>?_⟩
    rcases Nat.lt_succ_iff_lt_or_eq.mp (Nat.lt_succ_of_le hi) with hi | rfl
    ·exact h2 i (by omega)
    ·exact Bool.eq_false_iff.mpr c
noncomputable def gtV:V→V→Bool
 | .int i,.int j=>decide (j<i)
 | .str a,.str b=>decide (b.cps.toList<a.cps.toList)
 | _,_=>false
noncomputable def ltV (x y:V):Bool:=gtV y x
theorem Jav:bootBuiltins "max"=some (.builtin "max"):=by decide +kernel
theorem Jau:bootBuiltins "min"=some (.builtin "min"):=by decide +kernel
section
variable {X:Cx}
def J5J (K:PySem.W.Frag)(better:V→V→Bool):List V→V→Hp→VK→Prop:=fun xs d H Q=>∃ l ys,xs=[.ref l]∧SqL K H l ys∧((∃ zs:List Int,ys=zs.map V.int)∨∃ zs:List Str,ys=zs.map V.str)∧(ys=[]→Q d H)∧∀ v,v∈ys→(∀ u∈ys,better u v=false)→Q v H
def J5x (K:PySem.W.Frag)(better:V→V→Bool)(ta:TA)(te:TE):TE:=fun σ H Q=>ta σ H fun vs H1=>te σ H1 fun d H2=>J5J K better vs d H2 Q
theorem J2I {zs:List Int}{its:List Value}{i:Nat}{v:Value}(r:Vals (zs.map V.int) its)(hv:its.toArray[i]?=some v):i<zs.length∧∃ t,v=.int (zs.getD i 0) t:=by
 have hv':its[i]?=some v:=by simpa using hv
 have hm:i<zs.length:=by
  have:=r.length
  rw [List.length_map] at this
  rw [this]
  exact (List.getElem?_eq_some_iff.mp hv').1
 obtain ⟨u,hu,t,e⟩:=r.get (i:=i) (x:=V.int zs[i]) (by rw [List.getElem?_map,List.getElem?_eq_getElem hm];rfl)
 rw [hv'] at hu
 cases hu
 exact ⟨hm,t,by rw [List.getD_eq_getElem?_getD,List.getElem?_eq_getElem hm];exact e⟩
theorem J3l {zs:List Str}{its:List Value}{i:Nat}{v:Value}(r:Vals (zs.map V.str) its)(hv:its.toArray[i]?=some v):i<zs.length∧∃ t,v=.str (zs.getD i Str.empty) t:=by
 have hv':its[i]?=some v:=by simpa using hv
 have hm:i<zs.length:=by
  have:=r.length
  rw [List.length_map] at this
  rw [this]
  exact (List.getElem?_eq_some_iff.mp hv').1
 obtain ⟨u,hu,t,e⟩:=r.get (i:=i) (x:=V.str zs[i]) (by rw [List.getElem?_map,List.getElem?_eq_getElem hm];rfl)
 rw [hv'] at hu
 cases hu
 exact ⟨hm,t,by rw [List.getD_eq_getElem?_getD,List.getElem?_eq_getElem hm];exact e⟩
theorem J2J {α:Type}{l:List α}{i:Nat}{d:α}(h:i<l.length):l.getD i d∈l:=by
 rw [List.getD_eq_getElem?_getD,List.getElem?_eq_getElem h]
 exact List.getElem_mem h
theorem J28 {α:Type}{l:List α}{i:Nat}{x d:α}(h:l[i]?=some x):l.getD i d=x:=by rw [List.getD_eq_getElem?_getD,h];rfl
theorem Jbl {pins:List (Addr×Obj)}{s:Shared}{σ:St}{H:Hp}{xs:List V}{d:V}{us:List Value}{u:Value}{Q:VK}{E:Value→Shared→Prop}(hc:X.calm=true)(I:Inv X pins σ H s)(r:Vals xs us)(rd:RelV d u)(h:J5J X.K gtV xs d H Q) :
 wpAny (model X.prog X.w) X.A (call (.builtin "max") us [(Str.ofString "default",u)]) (EP X pins σ Q) E s:=by
 obtain ⟨l,ys,rfl,hq,hk,h0,h1⟩:=h
 obtain ⟨lv,rfl,rl⟩:=J0Z r
 cases (show lv=Value.ref l from rl)
 obtain ⟨its,r',pl,hz⟩:=I.list hq
 have hl:=r'.length
 have non:its.toArray.size=0→∀ h2 t2,(∀ b o,s.heap.get? b=some o→h2.get? b=some o)→EP X pins σ Q u { s with heap:=h2,toks:=t2 }:=fun e h2 t2 kp=>by
  have e2:ys=[]:=List.eq_nil_of_length_eq_zero (by rw [List.size_toArray] at e;omega)
  exact ⟨d,H,I.kept kp,rd,h0 e2⟩
 rcases hk with ⟨zs,rfl⟩ | ⟨zs,rfl⟩
 ·rw [List.length_map] at hl
  refine J5V (I.ok.hd hc) pl.isList (CmpOf.ints_gt (fun i=>zs.getD i 0) fun i v hv=>(J2I r' hv).2) non fun e v h2 t2 hv kp=>?_
  obtain ⟨hj,t,rfl⟩:=J2I r' hv
  obtain ⟨_,b2⟩:=best_top (bt:=fun i j=>decide (zs.getD i 0 > zs.getD j 0)) (fun a=>decide_eq_false (by omega)) (fun a b c x y=>decide_eq_true (by have:=of_decide_eq_true x;have:=of_decide_eq_true y;omega)) (its.toArray.size - 1)
  rw [List.size_toArray] at *
  generalize argBest (fun i j=>decide (zs.getD i 0 > zs.getD j 0)) (its.length - 1)=j at *
  refine ⟨.int (zs.getD j 0),H,I.kept kp,⟨t,rfl⟩,h1 _ (List.mem_map.mpr ⟨_,J2J hj,rfl⟩) fun u hu=>?_⟩
  obtain ⟨z,hz2,rfl⟩:=List.mem_map.mp hu
  obtain ⟨i,hi⟩:=List.mem_iff_getElem?.mp hz2
  have hil:=(List.getElem?_eq_some_iff.mp hi).1
  have:=b2 i (by omega)
  simp only [J28 hi] at this
  exact this
 ·rw [List.length_map] at hl
  refine J5V (I.ok.hd hc) pl.isList (Jby (fun i=>zs.getD i Str.empty) fun i v hv=>(J3l r' hv).2) non fun e v h2 t2 hv kp=>?_
  obtain ⟨hj,t,rfl⟩:=J3l r' hv
  obtain ⟨_,b2⟩:=best_top (bt:=fun i j=>decide ((zs.getD j Str.empty).cps.toList<(zs.getD i Str.empty).cps.toList)) (fun a=>decide_eq_false (List.lt_irrefl _)) (fun a b c x y=>decide_eq_true (Jd4 (of_decide_eq_true x) (of_decide_eq_true y))) (its.toArray.size - 1)
  rw [List.size_toArray] at *
  generalize argBest (fun i j=>decide ((zs.getD j Str.empty).cps.toList<(zs.getD i Str.empty).cps.toList)) (its.length - 1)=j at *
  refine ⟨.str (zs.getD j Str.empty),H,I.kept kp,⟨t,rfl⟩,h1 _ (List.mem_map.mpr ⟨_,J2J hj,rfl⟩) fun u hu=>?_⟩
  obtain ⟨z,hz2,rfl⟩:=List.mem_map.mp hu
  obtain ⟨i,hi⟩:=List.mem_iff_getElem?.mp hz2
  have hil:=(List.getElem?_eq_some_iff.mp hi).1
  have:=b2 i (by omega)
  simp only [J28 hi] at this
  exact this
theorem Jb7 {a e:Expr}{ta:TA}{te:TE}{p pos kp:Pos}{K:PySem.W.Frag}(hK:X.K=K)(hc:X.calm=true)(hg:Gl X "max")(hm:X.mg "max"=none)(hn:Ju a=true)(ha:PA X [a] ta)(he:PE X e te):PE X (.Call (.Name "max" p) [a] [⟨some "default",e,kp⟩] pos) (J5x K gtV ta te):=by
 subst hK
 intro pins s σ H Q I h
 refine wpAny_Call_Name_kw (J1P I hg hm Jav ?_)
 refine PyProof.Rows.callWith_kw (thn (ha pos pins s σ H _ I h) fun us s1 ⟨vs,H1,I1,r1,q1⟩=>?_) (by rw [JE hn];rfl) (by rw [JE hn];rfl)
 refine thn ((J54 he J6Q) pos pins s1 σ H1 (fun zs H2=>match zs with | [d]=>J5J X.K gtV vs d H2 Q | _=>False) I1 q1) fun ws s2 ⟨zs,H2,I2,rz,q2⟩=>?_
 match zs,rz,q2 with
 | [d],rz,q2 =>
   obtain ⟨w',rfl,rw'⟩:=J0Z rz
   exact Jbl hc I2 r1 rw' q2
theorem Jbk {pins:List (Addr×Obj)}{s:Shared}{σ:St}{H:Hp}{xs:List V}{d:V}{us:List Value}{u:Value}{Q:VK}{E:Value→Shared→Prop}(hc:X.calm=true)(I:Inv X pins σ H s)(r:Vals xs us)(rd:RelV d u)(h:J5J X.K ltV xs d H Q) :
 wpAny (model X.prog X.w) X.A (call (.builtin "min") us [(Str.ofString "default",u)]) (EP X pins σ Q) E s:=by
 obtain ⟨l,ys,rfl,hq,hk,h0,h1⟩:=h
 obtain ⟨lv,rfl,rl⟩:=J0Z r
 cases (show lv=Value.ref l from rl)
 obtain ⟨its,r',pl,hz⟩:=I.list hq
 have hl:=r'.length
 have non:its.toArray.size=0→∀ h2 t2,(∀ b o,s.heap.get? b=some o→h2.get? b=some o)→EP X pins σ Q u { s with heap:=h2,toks:=t2 }:=fun e h2 t2 kp=>by
  have e2:ys=[]:=List.eq_nil_of_length_eq_zero (by rw [List.size_toArray] at e;omega)
  exact ⟨d,H,I.kept kp,rd,h0 e2⟩
 rcases hk with ⟨zs,rfl⟩ | ⟨zs,rfl⟩
 ·rw [List.length_map] at hl
  refine J5W (I.ok.hd hc) pl.isList (CmpOf.ints_lt (fun i=>zs.getD i 0) fun i v hv=>(J2I r' hv).2) non fun e v h2 t2 hv kp=>?_
  obtain ⟨hj,t,rfl⟩:=J2I r' hv
  obtain ⟨_,b2⟩:=best_top (bt:=fun i j=>decide (zs.getD i 0<zs.getD j 0)) (fun a=>decide_eq_false (by omega)) (fun a b c x y=>decide_eq_true (by have:=of_decide_eq_true x;have:=of_decide_eq_true y;omega)) (its.toArray.size - 1)
  rw [List.size_toArray] at *
  generalize argBest (fun i j=>decide (zs.getD i 0<zs.getD j 0)) (its.length - 1)=j at *
  refine ⟨.int (zs.getD j 0),H,I.kept kp,⟨t,rfl⟩,h1 _ (List.mem_map.mpr ⟨_,J2J hj,rfl⟩) fun u hu=>?_⟩
  obtain ⟨z,hz2,rfl⟩:=List.mem_map.mp hu
  obtain ⟨i,hi⟩:=List.mem_iff_getElem?.mp hz2
  have hil:=(List.getElem?_eq_some_iff.mp hi).1
  have:=b2 i (by omega)
  simp only [J28 hi] at this
  exact this
 ·rw [List.length_map] at hl
  refine J5W (I.ok.hd hc) pl.isList (Jbx (fun i=>zs.getD i Str.empty) fun i v hv=>(J3l r' hv).2) non fun e v h2 t2 hv kp=>?_
  obtain ⟨hj,t,rfl⟩:=J3l r' hv
  obtain ⟨_,b2⟩:=best_top (bt:=fun i j=>decide ((zs.getD i Str.empty).cps.toList<(zs.getD j Str.empty).cps.toList)) (fun a=>decide_eq_false (List.lt_irrefl _)) (fun a b c x y=>decide_eq_true (Jd4 (of_decide_eq_true y) (of_decide_eq_true x))) (its.toArray.size - 1)
  rw [List.size_toArray] at *
  generalize argBest (fun i j=>decide ((zs.getD i Str.empty).cps.toList<(zs.getD j Str.empty).cps.toList)) (its.length - 1)=j at *
  refine ⟨.str (zs.getD j Str.empty),H,I.kept kp,⟨t,rfl⟩,h1 _ (List.mem_map.mpr ⟨_,J2J hj,rfl⟩) fun u hu=>?_⟩
  obtain ⟨z,hz2,rfl⟩:=List.mem_map.mp hu
  obtain ⟨i,hi⟩:=List.mem_iff_getElem?.mp hz2
  have hil:=(List.getElem?_eq_some_iff.mp hi).1
  have:=b2 i (by omega)
  simp only [J28 hi] at this
  exact this
theorem Jb6 {a e:Expr}{ta:TA}{te:TE}{p pos kp:Pos}{K:PySem.W.Frag}(hK:X.K=K)(hc:X.calm=true)(hg:Gl X "min")(hm:X.mg "min"=none)(hn:Ju a=true)(ha:PA X [a] ta)(he:PE X e te):PE X (.Call (.Name "min" p) [a] [⟨some "default",e,kp⟩] pos) (J5x K ltV ta te):=by
 subst hK
 intro pins s σ H Q I h
 refine wpAny_Call_Name_kw (J1P I hg hm Jau ?_)
 refine PyProof.Rows.callWith_kw (thn (ha pos pins s σ H _ I h) fun us s1 ⟨vs,H1,I1,r1,q1⟩=>?_) (by rw [JE hn];rfl) (by rw [JE hn];rfl)
 refine thn ((J54 he J6Q) pos pins s1 σ H1 (fun zs H2=>match zs with | [d]=>J5J X.K ltV vs d H2 Q | _=>False) I1 q1) fun ws s2 ⟨zs,H2,I2,rz,q2⟩=>?_
 match zs,rz,q2 with
 | [d],rz,q2 =>
   obtain ⟨w',rfl,rw'⟩:=J0Z rz
   exact Jbk hc I2 r1 rw' q2
end
section
variable {X:Cx}
def JaE (K:PySem.W.Frag)(te ts:TE):TE:=fun σ H Q=>te σ H fun x H1=>ts σ H1 fun y H2=>y=.int (-1)∧∃ a xs,x=.ref a∧SqL K H2 a xs∧∀ p,H2 p=none→Q (.ref p) (upd H2 p (.lst xs.reverse))
theorem Jcf {e st:Expr}{te ts:TE}{p2 pos:Pos}{K:PySem.W.Frag}(hK:X.K=K)(he:PE X e te)(ht:PE X st ts):PE X (.Subscript e (.Slice none none (some st) p2) pos) (JaE K te ts):=by
 subst hK
 intro pins s σ H Q I h
 refine Subscript_ (thn (he pins s σ H _ I h) fun v s1 ⟨x,H1,I1,r1,q1⟩=>?_)
 refine wpAny_Slice ?_
 rw [evalPart_none]
 refine wpAny_pure (wpAny_pure ?_)
 rw [evalPart_some]
 refine thn (ht pins s1 σ H1 _ I1 q1) fun u s2 ⟨y,H2,I2,r2,hy,a,xs,hx,hq,q⟩=>?_
 subst hy hx
 obtain ⟨t,rfl⟩:=r2
 cases (show v=Value.ref a from r1)
 have I4:Inv X pins σ H2 { s2 with heap:=s2.heap.push { cls:=.type "slice",data:=.fields #[.none,.none,.int (-1) t] } }:=I2.kept (t':=s2.toks) fun b ob q=>Heap.get?_push_of_some _ q
 obtain ⟨its,r,pl,hz⟩:=I4.list hq
 have hlen:=r.length
 show wpAny (model X.prog X.w) X.A (subscriptTail e (.Slice none none (some st) p2) (.ref a) (.ref s2.heap.objs.size)) (EP X pins σ Q) X.xe { s2 with heap:=s2.heap.push { cls:=.type "slice",data:=.fields #[.none,.none,.int (-1) t] } }
 refine tail_any (ops:=[.ref a,.ref s2.heap.objs.size]) (T:="list") pl.isList.typeIs slot_list_getitem.lookup ?_ (by with_unfolding_all rfl)
 refine wpAny_getItem_list_slice pl.isList (Heap.IsSliceOf.new ..) .none .none (.int (-1) t) (by decide) ?_ (by rw [List.size_toArray]<;>omega)
 rw [PySem.W.krv_pick]
 refine ⟨.ref _,_,I4.laid (t':=s2.toks) (o:=.lst xs.reverse) (fun b ob q=>Heap.get?_push_of_some _ q) (Nat.le_refl _) ?_,rfl,q _ (I4.hok.fresh (Nat.le_refl _))⟩
 exact ⟨by rw [List.length_reverse];exact hz,_,0,r.reverse,Heap.get?_push_size _ rfl⟩
noncomputable def JcV:V→V→Bool
 | .int _,.int _=>true
 | .str _,.str _=>true
 | _,_=>false
def Jc5:R2:=fun x y H Q=>JcV x y=true∧Q (.bl (gtV x y)) H
def JcW (K:PySem.W.Frag):List V→Hp→VK→Prop:=fun xs H Q=>J9f K xs H Q∨J9g K xs H Q
theorem Jcz {K:PySem.W.Frag}(e:X.K=K)(hc:X.calm=true):J0e X (.type "set") (JcW K):=by
 intro pins s σ H xs us Q I r h
 rcases h with h | h
 ·exact Jcx e hc pins s σ H xs us Q I r h
 ·exact Jcy e hc pins s σ H xs us Q I r h
def JbE (K:PySem.W.Frag):List V→Hp→VK→Prop:=fun xs H Q=>∃ l,∃ zs:List Int,xs=[.ref l]∧SqL K H l (zs.map V.int)∧Q (.int (zs.foldl (·+·) 0)) H
theorem J33 (zs:List Int):∀ k,k≤zs.length→preSum (fun i=>zs.getD i 0) k=(zs.take k).foldl (·+·) 0
 | 0,_=>rfl
 | k+1,h=>by
   have hk:k<zs.length:=h
   show preSum (fun i=>zs.getD i 0) k+zs.getD k 0=_
   rw [J33 zs k (by omega),List.take_add_one,List.getElem?_eq_getElem hk,List.foldl_append,J28 (List.getElem?_eq_getElem hk)]
   rfl
theorem Jal (hc:X.calm=true):J0e X (.builtin "sum") (JbE X.K):=by
 intro pins s σ H xs us Q I r h
 obtain ⟨l,zs,rfl,hq,q⟩:=h
 obtain ⟨lv,rfl,rl⟩:=J0Z r
 cases (show lv=Value.ref l from rl)
 obtain ⟨its,r',pl,hz⟩:=I.list hq
 have hl:=r'.length
 rw [List.length_map] at hl
 obtain ⟨ol,hol,hcl⟩:=id pl.isList
 have ll:l<s.heap.objs.size:=Heap.lt_size hol
 refine call_sum_walkAnyS (wpAny_pyIter_list pl.isList ⟨s.heap.objs.size,_,_,_,_,_,_,fun i=>zs.getD i 0,rfl,(Walks.list (by simp [I.ok.hd hc]) s.heap.objs.size l (Nat.ne_of_lt ll) its.toArray).toS,⟨⟨_,Heap.get?_push_size _ rfl,rfl,rfl⟩,pl.isList.push _⟩,?_,fun i v hv=>(J2I r' hv).2,fun s' t' mv=>?_⟩)
 ·intro b hb
  rw [Heap.size_push]
  simp only [List.mem_cons,List.not_mem_nil,or_false] at hb
  rcases hb with rfl | rfl
  ·exact Nat.lt_succ_self _
  ·exact Nat.lt_succ_of_lt ll
 ·obtain ⟨h',g',d',tk',os'⟩:=s'
  obtain rfl:g'=s.gens:=mv.gens
  obtain rfl:d'=s.drawn:=mv.drawn
  obtain rfl:os'=s.os:=mv.os
  have e:preSum (fun i=>zs.getD i 0) its.toArray.size=zs.foldl (·+·) 0:=by
   rw [List.size_toArray,← hl,J33 zs zs.length (Nat.le_refl _),List.take_length]
  rw [e]
  refine ⟨.int _,H,I.kept (t':=tk') fun b o hb=>?_,⟨_,rfl⟩,q⟩
  refine mv.heap b o ?_ (Heap.get?_push_of_some _ hb)
  simp only [List.mem_cons,List.not_mem_nil,or_false]
  exact Nat.ne_of_lt (Heap.lt_size hb)
theorem Jcw {K:PySem.W.Frag}(e:X.K=K)(hc:X.calm=true):J0e X (.builtin "sum") (JbE K):=by subst e;exact Jal hc
end
section
variable {X:Cx}
def Jc4 (K:PySem.W.Frag)(neg:Bool):R2:=fun x y H Q=>∃ d es,Rep K H d x∧Rep K H (.list es) y∧SeqAt.shaped d=true∧SeqAt.shaped (.list es)=true∧Q (.bl (if neg then !es.any (fun e=>PyData.eqv e d) else es.any (fun e=>PyData.eqv e d))) H
theorem J3B {d:PyData}(h:SeqAt.shaped d=true):d.canLay0=true∧d.depth≤64:=by
 unfold SeqAt.shaped at h
 rw [Bool.and_eq_true] at h
 exact ⟨h.1,by have:=of_decide_eq_true h.2;omega⟩
theorem Jcj (hu:X.A.units+64<cLine):OpR X (compareOp .In) (Jc4 X.K false):=by
 intro pins s σ H x y v u Q I rx ry h
 obtain ⟨d,es,h1,h2,h3,h4,q⟩:=h
 obtain ⟨as,q1⟩:=Rep.reads I d x v h1 rx
 obtain ⟨bs,q2⟩:=Rep.reads I _ y u h2 ry
 have l1:=J3B h3
 have l2:=J3B h4
 have l3:PyData.canLayAll0 es=true:=by simpa [PyData.canLay0] using l2.1
 refine SeqAt.in_list_reads q2 q1 l3 l1.1 ?_ (Js I q rfl)
 have:=Nat.min_le_left (PyData.depthAll es) d.depth
 have l5:PyData.depthAll es+1≤64:=by simpa [PyData.depth] using l2.2
 omega
theorem Jd6 {K:PySem.W.Frag}(e:X.K=K)(hu:X.A.units+64<cLine):OpR X (compareOp .In) (Jc4 K false):=by subst e;exact Jcj hu
end
theorem J2m {J:It}{xs:List V}{ok:Hp→Prop}(w:Walk J xs ok){g:TG}{tt:TT}{te:TE}{fin:List V→Hp→Prop}{σ:St}{H:Hp}(hz:xs.length≤sizeLine)(Pv:Nat→List V→St→Hp→Prop)(h0:Pv 0 [] σ H)(hl:∀ i zs σ H,Pv i zs σ H→ok H∧zs.length≤i)
 (hs:∀ (i:Nat) x zs σ H,xs[i]?=some x→Pv i zs σ H→g x σ H fun σ2 H2=>tt σ2 H2 fun b H3=>if b=true then te σ2 H3 fun y H4=>Pv (i+1) (zs++[y]) σ2 H4 else Pv (i+1) zs σ2 H3)
 (hd:∀ zs σ H,Pv xs.length zs σ H→fin zs H):J4v J g tt te fin σ H:=by
 refine ⟨fun i m zs σ H=>m=xs.length - i∧i≤xs.length∧Pv i zs σ H,⟨_,rfl,Nat.zero_le _,h0⟩,?_⟩
 rintro i m zs σ H ⟨rfl,hi,p⟩
 obtain ⟨q,hy⟩:=hl i zs σ H p
 by_cases hlt:i<xs.length
 ·refine .inr ⟨w.go i H q hlt,by omega,Pv (i+1),fun zs' σ' H' z=>⟨xs.length - (i+1),by omega,rfl,hlt,z⟩,fun x H' y=>?_⟩
  obtain ⟨e,y'⟩:=w.yld i H x H' q hlt y
  subst e
  exact hs i x zs σ _ y' p
 ·have e:i=xs.length:=by omega
  subst e
  exact .inl ⟨w.stop H q,hd zs σ H p⟩
section
variable {α β:Type}{R S:α→β→Prop}{xs:List α}{ys:List β}
end
section
variable {X:Cx}
end
structure ExcM (mg:Str→Option Value)(n:Str)(a:Addr):Prop where
 m:mg n=some (.ref a)
end L2
namespace L2
open PySem PySem.Spec PyProof.Rows PySem.W
section
variable {n:Nat}
end
section
variable {prog:Program}{w:World}{A:Around}{E:Value→Shared→Prop}{s:Shared}
end
section
variable {X:Cx}
end
end L2
namespace L2
open PySem PySem.Spec PyProof.Rows PySem.W
end L2
namespace L2
open PySem PySem.Spec PyProof.Rows PySem.W
section
variable {prog:Program}{w:World}{A:Around}{E:Value→Shared→Prop}{s:Shared}
end
section
variable {X:Cx}{pins:List (Addr×Obj)}{σ:St}{H:Hp}{s:Shared}{E:Value→Shared→Prop}
end
end L2
namespace L2
open PySem PySem.Spec PyProof.Rows PySem.W
section
variable {prog:Program}{w:World}{A:Around}{E:Value→Shared→Prop}{s:Shared}
end
section
variable {X:Cx}{pins:List (Addr×Obj)}{σ:St}{H:Hp}{s:Shared}{E:Value→Shared→Prop}
theorem Inv.turnedL {h':Heap}{t':Nat}{ch:List Addr}(I:Inv X pins σ H s)(k:∀ b o,b∉ch→s.heap.get? b=some o→h'.get? b=some o)(f:∀ b∈ch,J24 X pins H b):Inv X pins σ H { s with heap:=h',toks:=t' }:=by
 have nit:∀ b u,H b=some u→b∉ch:=fun b u e z=>by rw [(f b z).1] at e;cases e
 refine I.step (g':=s.gens) (d':=s.drawn) (ch:=ch) (fun b hb=>?_) (fun b o _ _ hc e _=>k b o hc e) (fun b o _ _ hc e _=>⟨o.slots,k b o hc e⟩) (fun _ _ _ _ n=>n)
  (fun b o hc e=>⟨o,k b o hc e⟩) (fun _ _ e=>e) (fun _ _ _ e=>e) (fun b ps e=>⟨#[],by rw [e];simp⟩) (fun m hm=>?_) (fun b u e=>?_) I.bare
 ·obtain ⟨_,h1,_,h3,h4,h5⟩:=f b hb
  exact ⟨h3,h1,h4,h5⟩
 ·obtain ⟨o,es,ep,ho,r⟩:=hm
  exact ⟨o,es,ep,k _ o (fun z=>(f _ z).2.1 rfl) ho,r⟩
 ·refine (I.hok b u e).stay (fun c v hc q=>k c v ?_ q) (fun _ q=>q) fun _ _ q=>q
  rcases hc with z | z
  ·rw [z];exact nit b u e
  ·exact nit c _ z
end
end L2
namespace L2
open PySem PySem.Spec PyProof.Rows
open AutoSeq1 (wpAny_loadPart')
open MeetsSeq MeetsSeq2 MeetsSeq3 SeqRoads2
def JcS (A:Around)(s:Shared)(x y:Value)(r:Bool):Prop:=∀ (prog:Program) (w:World) (E:Value→Shared→Prop) (Q:Value→Shared→Prop),Q (.bool r) s→wpAny (model prog w) A (richCompare .Lt x y) Q E s
inductive LexAt (A:Around)(s:Shared):List Value→List Value→Bool→Prop
 | nn:LexAt A s [] [] false
 | nc {y ys}:LexAt A s [] (y::ys) true
 | cn {x xs}:LexAt A s (x::xs) [] false
 | ne {x y xs ys r}:SeqAt.EqAt A s x y false→JcS A s x y r→LexAt A s (x::xs) (y::ys) r
 | eq {x y xs ys r}:SeqAt.EqAt A s x y true→LexAt A s xs ys r→LexAt A s (x::xs) (y::ys) r
theorem tuple_ltAt (l b:Addr)(its its2:Array Value)(n n2:Nat)(dd dd2:Option Addr)(sl sl2:Array (Option Value))(r:Bool) :
 Meets (Builtin.«tuple.__lt__» ⟨[.ref l,.ref b],[]⟩)
  (fun A R s=>s.heap.get? l=some { cls:=.type "tuple",dict:=dd,data:=.seq its n,slots:=sl }∧s.heap.get? b=some { cls:=.type "tuple",dict:=dd2,data:=.seq its2 n2,slots:=sl2 } ∧
   LexAt A.in1 s its.toList its2.toList r∧R (.ok (.ret (.bool r))) s) :=
 .of_wp fun prog w A R s h=>by
  obtain ⟨hp,g,d,tk,os⟩:=s;obtain ⟨hl,hb,he,h⟩:=h
  have f2:=AutoSeq1.sub_tuple_tuple
  wp_walk using wpAny_loadPart' hl,wpAny_loadPart' hb,wpAny_forIn_list _ (fun rest b s'=>b.1=none∧s'=⟨hp,g,d,tk,os⟩∧∃ i xs ys,rest=xs.zip ys∧its.size=i+xs.length∧its2.size=i+ys.length∧LexAt A.in1 ⟨hp,g,d,tk,os⟩ xs ys r) _
  case turn =>
   rintro ⟨x,y⟩ rest b s' ⟨hb',rfl,i,xs,ys,hz,z1,z2,hx⟩
   cases hx with
   | nn=>cases hz
   | nc=>cases hz
   | cn=>cases hz
   | ne e1 e2 =>
     rw [List.zip_cons_cons] at hz
     injection hz with h1 h2
     injection h1 with h3 h4
     subst h3 h4
     refine wpAny_bind (e1 prog w _ _ ?_)
     have e3:=e2 prog w
     generalize richCompare CmpOp.Lt x y=rc at e3 ⊢
     wp_walk
     refine e3 _ _ ?_
     wp_walk
     exact ⟨_,rfl,h⟩
   | eq e1 e2 =>
     rw [List.zip_cons_cons] at hz
     injection hz with h1 h2
     injection h1 with h3 h4
     subst h3 h4
     refine wpAny_bind (e1 prog w _ _ ?_)
     wp_walk
     exact ⟨rfl,rfl,i+1,_,_,h2,by simp at z1;omega,by simp at z2;omega,e2⟩
  case fin =>
   rintro ⟨b1,b2⟩ s' ⟨hb',rfl,i,xs,ys,hz,z1,z2,hx⟩
   simp only at hb'
   subst hb'
   wp_walk
   have e:Builtin.Tuple.tupleCompareSizes .Lt its.size its2.size=.bool r:=by
    show Value.bool (decide (its.size<its2.size))=_
    cases hx with
    | nn=>rw [decide_eq_false (by simp at z1 z2;omega)]
    | nc=>rw [decide_eq_true (by simp at z1 z2;omega)]
    | cn=>rw [decide_eq_false (by simp at z1 z2;omega)]
    | ne=>cases hz
    | eq=>cases hz
   first
    | exact ⟨_,rfl,by rw [e];exact h⟩
    | (rw [e];exact ⟨_,rfl,h⟩)
  case h =>
   exact ⟨rfl,rfl,0,_,_,rfl,by simp,by simp,he⟩
noncomputable def ltS:V→V→Option Bool
 | .int i,.int j=>some (decide (i<j))
 | .str a,.str b=>some (decide (a.cps.toList<b.cps.toList))
 | _,_=>none
noncomputable def J61:List V→List V→Option Bool
 | [],[]=>some false
 | [],_::_=>some true
 | _::_,[]=>some false
 | x::xs,y::ys=>match ltS x y with
   | none=>none
   | some r=>if x=y then J61 xs ys else some r
theorem Jcr {A:Around}{s:Shared}{x y:V}{u v:Value}{r:Bool}(h:ltS x y=some r)(rx:RelV x u)(ry:RelV y v):SeqAt.EqAt A s u v (decide (x=y))∧JcS A s u v r:=by
 cases x<;>cases y<;>first
  | (cases (show none=some r from h);done)
  | skip
 ·rename_i i j
  obtain ⟨t,rfl⟩:=rx
  obtain ⟨t',rfl⟩:=ry
  cases h
  refine ⟨?_,fun prog w E Q q=>HT.rcLt_int _ _ _ _ _ _ _ _ _ _ q⟩
  rw [J5k]
  exact SeqAt.EqAt.int_int _ _ _ _
 ·rename_i i j
  obtain ⟨t,rfl⟩:=rx
  obtain ⟨t',rfl⟩:=ry
  cases h
  refine ⟨?_,fun prog w E Q q=>lt_str q⟩
  rw [J5j]
  exact SeqAt.EqAt.str_str _ _ _ _
theorem lexV_at {A:Around}{s:Shared}:∀ {xs ys:List V} {us vs:List Value} {r:Bool},Vals xs us→Vals ys vs→J61 xs ys=some r→LexAt A s us vs r
 | [],[],_,_,_,.nil,.nil,h=>by cases h;exact .nn
 | [],_::_,_,_,_,.nil,.cons _ _,h=>by cases h;exact .nc
 | _::_,[],_,_,_,.cons _ _,.nil,h=>by cases h;exact .cn
 | x :: xs,y::ys,_,_,r,.cons rx t,.cons ry t',h=>by
   unfold J61 at h
   split at h
   ·cases h
   ·rename_i r' e
    obtain ⟨h1,h2⟩:=Jcr (A:=A) (s:=s) e rx ry
    split at h
    ·rename_i exy
     rw [decide_eq_true exy] at h1
     exact .eq h1 (lexV_at t t' h)
    ·rename_i exy
     rw [decide_eq_false exy] at h1
     cases h
     exact .ne h1 h2
section
variable {X:Cx}
end
end L2
namespace L2
open PySem PyProof.Rows
section
variable {M:Model}{A:Around}{E:Value→Shared→Prop}{s:Shared}{τ α:Type}{c:Prop}[Decidable c]{a b:StateT τ Sem α}{Q:α→τ→Prop}{st:τ}
theorem Jy (h:c)(q:wpS M A E s a Q st):wpS M A E s (if c then a else b) Q st:=by rw [if_pos h];exact q
theorem JP (h:¬ c)(q:wpS M A E s b Q st):wpS M A E s (if c then a else b) Q st:=by rw [if_neg h];exact q
end
structure Held (T:Prop):Prop where
 out:T
theorem J7j {T R:Prop}(f:Held T→R)(t:T):R:=f ⟨t⟩
abbrev Up (rk:Value→Nat)(l:List Keyed):Prop:=l.Pairwise fun x y=>rk x.1≤rk y.1
structure MLo (rk:Value→Nat)(la lb o:List Keyed)(ia ib:Nat):Prop where
 perm:(o++(la.drop ia++lb.drop ib)).Perm (la++lb)
 up:Up rk o
 low:∀ x∈o,∀ y∈la.drop ia++lb.drop ib,rk x.1≤rk y.1
section
variable {rk:Value→Nat}{la lb o:List Keyed}{ia ib k:Nat}
theorem MLo.start:MLo rk la lb [] 0 0:=⟨by simp,.nil,fun x h=>nomatch h⟩
theorem MLo.chA (m:MLo rk la lb o ia ib)(ha:Up rk la)(h:∀ x∈(la.drop ia).take k,∀ y∈lb.drop ib,rk x.1≤rk y.1):MLo rk la lb (o++(la.drop ia).take k) (ia+k) ib:=by
 have e:la.drop ia=(la.drop ia).take k++la.drop (ia+k):=by rw [← List.drop_drop];exact (List.take_append_drop k _).symm
 have hd:Up rk ((la.drop ia).take k++la.drop (ia+k)):=by rw [← e];exact List.Pairwise.sublist (List.drop_sublist _ _) ha
 obtain ⟨h1,h2,h3⟩:=List.pairwise_append.mp hd
 have mem:∀ x,x∈(la.drop ia).take k→x∈la.drop ia:=fun x hx=>List.mem_of_mem_take hx
 refine ⟨?_,?_,?_⟩
 ·have p:=m.perm
  rw [e] at p
  simpa [List.append_assoc] using p
 ·refine List.pairwise_append.mpr ⟨m.up,h1,fun x hx y hy=>m.low x hx y (List.mem_append_left _ (mem y hy))⟩
 ·intro x hx y hy
  rcases List.mem_append.mp hx with hx | hx
  ·refine m.low x hx y ?_
   rcases List.mem_append.mp hy with hy | hy
   ·rw [e];exact List.mem_append_left _ (List.mem_append_right _ hy)
   ·exact List.mem_append_right _ hy
  ·rcases List.mem_append.mp hy with hy | hy
   ·exact h3 x hx y hy
   ·exact h x hx y hy
theorem MLo.chB (m:MLo rk la lb o ia ib)(hb:Up rk lb)(h:∀ x∈(lb.drop ib).take k,∀ y∈la.drop ia,rk x.1≤rk y.1):MLo rk la lb (o++(lb.drop ib).take k) ia (ib+k):=by
 have e:lb.drop ib=(lb.drop ib).take k++lb.drop (ib+k):=by rw [← List.drop_drop];exact (List.take_append_drop k _).symm
 have hd:Up rk ((lb.drop ib).take k++lb.drop (ib+k)):=by rw [← e];exact List.Pairwise.sublist (List.drop_sublist _ _) hb
 obtain ⟨h1,h2,h3⟩:=List.pairwise_append.mp hd
 have mem:∀ x,x∈(lb.drop ib).take k→x∈lb.drop ib:=fun x hx=>List.mem_of_mem_take hx
 refine ⟨?_,?_,?_⟩
 ·have p:=m.perm
  rw [e] at p
  refine List.Perm.trans ?_ p
  rw [List.append_assoc]
  refine List.Perm.append_left _ ?_
  rw [← List.append_assoc,← List.append_assoc]
  exact List.Perm.append_right _ List.perm_append_comm
 ·exact List.pairwise_append.mpr ⟨m.up,h1,fun x hx y hy=>m.low x hx y (List.mem_append_right _ (mem y hy))⟩
 ·intro x hx y hy
  rcases List.mem_append.mp hx with hx | hx
  ·refine m.low x hx y ?_
   rcases List.mem_append.mp hy with hy | hy
   ·exact List.mem_append_left _ hy
   ·rw [e];exact List.mem_append_right _ (List.mem_append_right _ hy)
  ·rcases List.mem_append.mp hy with hy | hy
   ·exact h x hx y hy
   ·exact h3 x hx y hy
def J0C (rk:Value→Nat)(la lb l:List Keyed):Prop:=l.Perm (la++lb)∧Up rk l
theorem MLo.doneB (m:MLo rk la lb o ia ib)(ha:Up rk la)(hb:Up rk lb)(h:lb.length≤ib∨la.length≤ia):J0C rk la lb (o++la.drop ia++lb.drop ib):=by
 rw [List.append_assoc]
 refine ⟨m.perm,List.pairwise_append.mpr ⟨m.up,?_,m.low⟩⟩
 rcases h with h | h
 ·rw [List.drop_eq_nil_of_le h,List.append_nil];exact List.Pairwise.sublist (List.drop_sublist _ _) ha
 ·rw [List.drop_eq_nil_of_le h,List.nil_append];exact List.Pairwise.sublist (List.drop_sublist _ _) hb
theorem MLo.doneA (m:MLo rk la lb o ia ib)(ha:Up rk la)(hb:Up rk lb)(h:∀ x∈lb,∀ y∈la.drop ia,rk x.1≤rk y.1):J0C rk la lb (o++lb.drop ib++la.drop ia):=by
 rw [List.append_assoc]
 refine ⟨List.Perm.trans (List.Perm.append_left _ List.perm_append_comm) m.perm,List.pairwise_append.mpr ⟨m.up,?_,fun x hx y hy=>m.low x hx y ?_⟩⟩
 ·exact List.pairwise_append.mpr ⟨List.Pairwise.sublist (List.drop_sublist _ _) hb,List.Pairwise.sublist (List.drop_sublist _ _) ha,fun x hx y hy=>h x (List.mem_of_mem_drop hx) y hy⟩
 ·rcases List.mem_append.mp hy with hy | hy
  ·exact List.mem_append_right _ hy
  ·exact List.mem_append_left _ hy
theorem J7p {l:List Keyed}{i:Nat}{p:Keyed}(h:l[i]?=some p):(l.drop i).take 1=[p]:=by
 obtain ⟨hi,rfl⟩:=List.getElem?_eq_some_iff.mp h
 rw [List.drop_eq_getElem_cons hi]
 rfl
theorem J1n {l:List Keyed}{i:Nat}{p:Keyed}(u:Up rk l)(h:l[i]?=some p):∀ y∈l.drop i,rk p.1≤rk y.1:=by
 obtain ⟨hi,rfl⟩:=List.getElem?_eq_some_iff.mp h
 have e:=List.drop_eq_getElem_cons hi
 have u':Up rk (l.drop i):=List.Pairwise.sublist (List.drop_sublist _ _) u
 intro y hy
 rw [e] at hy u'
 rcases List.mem_cons.mp hy with rfl | hy
 ·exact Nat.le_refl _
 ·exact (List.pairwise_cons.mp u').1 y hy
theorem J2W {l:List Keyed}{i k:Nat}{x:Keyed}(h:x∈(l.drop i).take k):∃ j,j<k∧l[i+j]?=some x:=by
 obtain ⟨j,hj⟩:=List.mem_iff_getElem?.mp h
 have hjk:j<k:=by
  have:=(List.getElem?_eq_some_iff.mp hj).1
  rw [List.length_take] at this
  omega
 rw [List.getElem?_take_of_lt hjk,List.getElem?_drop] at hj
 exact ⟨j,hjk,hj⟩
end
noncomputable def J7Q:Bool→Keyed→Array Keyed→Nat→Nat→Nat→StateT SortSt Sem (Option Nat):=sortPriv% PySem.Builtin.gallop
def Cmp (prog:Program)(w:World)(A:Around)(s:Shared)(kd:SortKind)(D:Value→Prop)(rk:Value→Nat):Prop :=
 ∀ (E:Value→Shared→Prop) (x y:Value) (Q:Bool→Shared→Prop),D x→D y→Q (decide (rk x<rk y)) s→wpAny (model prog w) A (keyLt' kd x y) Q E s
section
variable {prog:Program}{w:World}{A:Around}{E:Value→Shared→Prop}{s:Shared}{kd:SortKind}{D:Value→Prop}{rk:Value→Nat}
theorem J3t (C:Cmp prog w A s kd D rk){st:SortSt}{x y:Keyed}{Q:Option Bool→SortSt→Prop}(hk:kindOf st=kd)(hx:D x.1)(hy:D y.1)(h:Q (some (decide (rk x.1<rk y.1))) st):wpS (model prog w) A E s (lt' x y) Q st:=by
 rw [lt'_eq]
 refine wpS_bind (wpS_get ?_)
 rw [hk]
 exact wpS_bind (wpS_lift (wpAny_attempt (C _ _ _ _ hx hy ⟨rfl,wpS_pure h⟩)))
theorem Jz {arr:Array Keyed}{i:Nat}{p:Keyed}{st:SortSt}{Q:Keyed→SortSt→Prop}{M:Model}(hp:arr[i]?=some p)(h:Q p st):wpS M A E s (elem' arr i) Q st:=by
 rw [elem'_eq,hp]
 exact wpS_pure h
noncomputable def bey (rk:Value→Nat)(left:Bool)(key:Keyed)(arr:Array Keyed)(base i:Nat):Bool :=
 match arr[base+i]? with
 | some p=>if left then decide (rk p.1<rk key.1) else !decide (rk key.1<rk p.1)
 | none=>false
theorem tim_gallop (C:Cmp prog w A s kd D rk){st:SortSt}{left:Bool}{key:Keyed}{arr:Array Keyed}{base n hint:Nat}{Q:Option Nat→SortSt→Prop}(hk:kindOf st=kd)(hkey:D key.1)(hin:base+n≤arr.size)(hD:∀ p∈arr.toList,D p.1)(hh:hint<n)
 (mono:∀ i j,i≤j→j<n→bey rk left key arr base j=true→bey rk left key arr base i=true)
 (h:∀ k,k≤n→(∀ i,i<k→bey rk left key arr base i=true)→(∀ i,k≤i→i<n→bey rk left key arr base i=false)→Q (some k) st):wpS (model prog w) A E s (J7Q left key arr base n hint) Q st:=by
 have ask:∀ (i:Nat) (R:Option Bool→SortSt→Prop),i<n→R (some (bey rk left key arr base i)) st→wpS (model prog w) A E s (elem' arr (base+i) >>= fun x=>if left then lt' x key else lt' key x >>= fun r=>pure (r.map (!·))) R st:=by
  intro i R hi hR
  have hlt:base+i<arr.size:=by omega
  have e:arr[base+i]?=some arr[base+i]:=getElem?_pos arr (base+i) hlt
  have d:D arr[base+i].1:=hD _ (by simp)
  refine wpS_bind (Jz e ?_)
  unfold bey at hR
  rw [e] at hR
  cases left with
  | true=>exact J3t C hk d hkey hR
  | false=>exact wpS_bind (J3t C hk hkey d (wpS_pure hR))
 unfold J7Q
 refine wpS_bind (ask hint _ hh ?_)
 have anti:∀ i j,i≤j→j<n→bey rk left key arr base i=false→bey rk left key arr base j=false:=fun i j hij hj hf=>by
  cases e:bey rk left key arr base j with
  | false=>rfl
  | true=>rw [mono i j hij hj e] at hf;exact hf
 have fin:∀ (lo hi:Nat),lo≤hi→hi≤n→(∀ i,i<lo→bey rk left key arr base i=true)→(∀ i,hi≤i→i<n→bey rk left key arr base i=false)→∀ m,lo≤m→m<hi→(bey rk left key arr base m=true→∀ i,i<m+1→bey rk left key arr base i=true)∧(bey rk left key arr base m=false→∀ i,m≤i→i<n→bey rk left key arr base i=false):=fun lo hi _ h2 _ _ m _ h6 =>
  ⟨fun e i hi'=>mono i m (by omega) (by omega) e,fun e i h1 h2=>anti m i h1 h2 e⟩
 dsimp only
 cases hr:bey rk left key arr base hint with
 | true =>
   rw [if_pos rfl]
   refine wpS_bind (wpS_mono (wpS_forRange (I:=fun x c st'=>st'=st∧∃ la o,c=(none,la,o)∧la<o∧x<o∧hint+la<n∧bey rk left key arr base (hint+la)=true)
    (Q:=fun c st'=>st'=st∧∃ la o,c=(none,la,o)∧la<o∧hint+la<n∧bey rk left key arr base (hint+la)=true∧(n - hint≤o∨bey rk left key arr base (hint+o)=false)) ?step ?fin ⟨rfl,0,1,rfl,by omega,by omega,by omega,hr⟩) ?post)
   case fin =>
    rintro c st' ⟨rfl,la,o,rfl,h1,h2,h3,h4⟩
    exact ⟨rfl,la,o,rfl,h1,h3,h4,.inl (by omega)⟩
   case step =>
    rintro x c st' _ hx ⟨rfl,la,o,rfl,h1,h2,h3,h4⟩
    dsimp only
    by_cases ho:o≥n - hint
    ·rw [if_pos ho]
     exact wpS_pure ⟨rfl,la,o,rfl,h1,h3,h4,.inl ho⟩
    ·rw [if_neg ho]
     refine wpS_bind (ask (hint+o) _ (by omega) ?_)
     dsimp only
     cases hb:bey rk left key arr base (hint+o) with
     | true=>exact wpS_pure ⟨rfl,o,2 * o+1,rfl,by omega,by omega,by omega,hb⟩
     | false=>exact wpS_pure ⟨rfl,la,o,rfl,h1,h3,h4,.inr hb⟩
   case post =>
    rintro c st1 ⟨e1,la,o,rfl,h1,h3,h4,h5⟩
    rw [e1]
    clear e1 st1
    dsimp only
    have a1:hint+la+1≤hint+min o (n - hint):=by omega
    have a2:hint+min o (n - hint)≤n:=by omega
    have a3:∀ i,i<hint+la+1→bey rk left key arr base i=true:=fun i hi=>mono i (hint+la) (by omega) h3 h4
    have a4:∀ i,hint+min o (n - hint)≤i→i<n→bey rk left key arr base i=false:=fun i hi hn=>by
     rcases h5 with h5 | h5
     ·omega
     ·by_cases q:o≤n - hint
      ·exact anti (hint+o) i (by omega) hn h5
      ·omega
    generalize hint+la+1=lo at *
    generalize hint+min o (n - hint)=hi at *
    refine wpS_bind (wpS_mono (wpS_forRange (I:=fun x c st'=>st'=st∧∃ lo hi,c=(none,lo,hi)∧lo≤hi∧hi≤n∧hi - lo≤n - x∧(∀ i,i<lo→bey rk left key arr base i=true)∧(∀ i,hi≤i→i<n→bey rk left key arr base i=false))
     (Q:=fun c st'=>st'=st∧∃ lo hi,c=(none,lo,hi)∧hi≤n∧(∀ i,i<hi→bey rk left key arr base i=true)∧(∀ i,hi≤i→i<n→bey rk left key arr base i=false)) ?stepT ?finT ⟨rfl,lo,hi,rfl,a1,a2,by omega,a3,a4⟩) ?postT)
    case finT =>
     rintro c st' ⟨rfl,lo,hi,rfl,b1,b2,b3,b4,b5⟩
     exact ⟨rfl,lo,hi,rfl,b2,fun i hi'=>b4 i (by omega),b5⟩
    case stepT =>
     rintro x c st' _ hx ⟨rfl,lo,hi,rfl,b1,b2,b3,b4,b5⟩
     dsimp only
     by_cases hg:lo≥hi
     ·rw [if_pos hg]
      exact wpS_pure ⟨rfl,lo,hi,rfl,b2,fun i hi'=>b4 i (by omega),b5⟩
     ·rw [if_neg hg]
      refine wpS_bind (ask (lo+(hi - lo) / 2) _ (by omega) ?_)
      dsimp only
      obtain ⟨f1,f2⟩:=fin lo hi b1 b2 b4 b5 (lo+(hi - lo) / 2) (by omega) (by omega)
      cases hb:bey rk left key arr base (lo+(hi - lo) / 2) with
      | true=>exact wpS_pure ⟨rfl,lo+(hi - lo) / 2+1,hi,rfl,by omega,b2,by omega,f1 hb,b5⟩
      | false=>exact wpS_pure ⟨rfl,lo,lo+(hi - lo) / 2,rfl,by omega,by omega,by omega,b4,f2 hb⟩
    case postT =>
     rintro c st' ⟨rfl,lo,hi,rfl,b2,b4,b5⟩
     exact wpS_pure (h hi b2 b4 b5)
 | false =>
   rw [if_neg (by simp)]
   refine wpS_bind (wpS_mono (wpS_forRange (I:=fun x c st'=>st'=st∧∃ la o,c=(none,la,o)∧la<o∧x<o∧la≤hint∧bey rk left key arr base (hint - la)=false)
    (Q:=fun c st'=>st'=st∧∃ la o,c=(none,la,o)∧la<o∧la≤hint∧bey rk left key arr base (hint - la)=false∧(hint+1≤o∨bey rk left key arr base (hint - o)=true)) ?step2 ?fin2 ⟨rfl,0,1,rfl,by omega,by omega,by omega,hr⟩) ?post2)
   case fin2 =>
    rintro c st' ⟨rfl,la,o,rfl,h1,h2,h3,h4⟩
    exact ⟨rfl,la,o,rfl,h1,h3,h4,.inl (by omega)⟩
   case step2 =>
    rintro x c st' _ hx ⟨rfl,la,o,rfl,h1,h2,h3,h4⟩
    dsimp only
    by_cases ho:o≥hint+1
    ·rw [if_pos ho]
     exact wpS_pure ⟨rfl,la,o,rfl,h1,h3,h4,.inl ho⟩
    ·rw [if_neg ho]
     refine wpS_bind (ask (hint - o) _ (by omega) ?_)
     dsimp only
     cases hb:bey rk left key arr base (hint - o) with
     | true=>exact wpS_pure ⟨rfl,la,o,rfl,h1,h3,h4,.inr hb⟩
     | false=>exact wpS_pure ⟨rfl,o,2 * o+1,rfl,by omega,by omega,by omega,hb⟩
   case post2 =>
    rintro c st1 ⟨e1,la,o,rfl,h1,h3,h4,h5⟩
    rw [e1]
    clear e1 st1
    dsimp only
    have a1:hint+1 - min o (hint+1)≤hint - la:=by omega
    have a2:hint - la≤n:=by omega
    have a3:∀ i,i<hint+1 - min o (hint+1)→bey rk left key arr base i=true:=fun i hi=>by
     rcases h5 with h5 | h5
     ·omega
     ·exact mono i (hint - o) (by omega) (by omega) h5
    have a4:∀ i,hint - la≤i→i<n→bey rk left key arr base i=false:=fun i hi hn=>anti (hint - la) i hi hn h4
    generalize hint+1 - min o (hint+1)=lo at *
    generalize hint - la=hi at *
    refine wpS_bind (wpS_mono (wpS_forRange (I:=fun x c st'=>st'=st∧∃ lo hi,c=(none,lo,hi)∧lo≤hi∧hi≤n∧hi - lo≤n - x∧(∀ i,i<lo→bey rk left key arr base i=true)∧(∀ i,hi≤i→i<n→bey rk left key arr base i=false))
     (Q:=fun c st'=>st'=st∧∃ lo hi,c=(none,lo,hi)∧hi≤n∧(∀ i,i<hi→bey rk left key arr base i=true)∧(∀ i,hi≤i→i<n→bey rk left key arr base i=false)) ?stepU ?finU ⟨rfl,lo,hi,rfl,a1,a2,by omega,a3,a4⟩) ?postU)
    case finU =>
     rintro c st' ⟨rfl,lo,hi,rfl,b1,b2,b3,b4,b5⟩
     exact ⟨rfl,lo,hi,rfl,b2,fun i hi'=>b4 i (by omega),b5⟩
    case stepU =>
     rintro x c st' _ hx ⟨rfl,lo,hi,rfl,b1,b2,b3,b4,b5⟩
     dsimp only
     by_cases hg:lo≥hi
     ·rw [if_pos hg]
      exact wpS_pure ⟨rfl,lo,hi,rfl,b2,fun i hi'=>b4 i (by omega),b5⟩
     ·rw [if_neg hg]
      refine wpS_bind (ask (lo+(hi - lo) / 2) _ (by omega) ?_)
      dsimp only
      obtain ⟨f1,f2⟩:=fin lo hi b1 b2 b4 b5 (lo+(hi - lo) / 2) (by omega) (by omega)
      cases hb:bey rk left key arr base (lo+(hi - lo) / 2) with
      | true=>exact wpS_pure ⟨rfl,lo+(hi - lo) / 2+1,hi,rfl,by omega,b2,by omega,f1 hb,b5⟩
      | false=>exact wpS_pure ⟨rfl,lo,lo+(hi - lo) / 2,rfl,by omega,by omega,by omega,b4,f2 hb⟩
    case postU =>
     rintro c st' ⟨rfl,lo,hi,rfl,b2,b4,b5⟩
     exact wpS_pure (h hi b2 b4 b5)
end
end L2
namespace L2
open PySem PyProof.Rows
noncomputable def J5Z:Array Keyed→Array Keyed→StateT SortSt Sem (Array Keyed):=sortPriv% PySem.Builtin.mergeLo
def J23 (st st':SortSt):Prop:=kindOf st'=kindOf st∧arrOf st'=arrOf st∧pendingOf st'=pendingOf st∧failedOf st'=failedOf st
theorem JU {a:Array Keyed}{i:Nat}{p:Keyed}(h:a[i]?=some p):a.toList[i]?=some p:=by rw [Array.getElem?_toList];exact h
theorem J7o (a:Array Keyed)(i k:Nat):(a.extract i (i+k)).toList=(a.toList.drop i).take k:=by
 rw [Array.toList_extract,List.extract_eq_drop_take]
 congr 1
 omega
theorem J3j (a:Array Keyed)(i:Nat):(a.extract i a.size).toList=a.toList.drop i:=by
 rw [Array.toList_extract,List.extract_eq_drop_take]
 exact List.take_of_length_le (by simp)
section
variable {rk:Value→Nat}{a b:Array Keyed}{o:List Keyed}{ia ib k:Nat}{pa pb:Keyed}
theorem MLo.stB (m:MLo rk a.toList b.toList o ia ib)(ua:Up rk a.toList)(ub:Up rk b.toList)(hb:b[ib]?=some pb)(ha:a[ia]?=some pa)(h:rk pb.1≤rk pa.1):MLo rk a.toList b.toList (o++[pb]) ia (ib+1):=by
 have q:=m.chB (k:=1) ub (fun x hx y hy=>by
  rw [J7p (JU hb)] at hx
  cases List.mem_singleton.mp hx
  exact Nat.le_trans h (J1n ua (JU ha) y hy))
 rw [J7p (JU hb)] at q
 exact q
theorem MLo.stA (m:MLo rk a.toList b.toList o ia ib)(ua:Up rk a.toList)(ub:Up rk b.toList)(hb:b[ib]?=some pb)(ha:a[ia]?=some pa)(h:rk pa.1≤rk pb.1):MLo rk a.toList b.toList (o++[pa]) (ia+1) ib:=by
 have q:=m.chA (k:=1) ua (fun x hx y hy=>by
  rw [J7p (JU ha)] at hx
  cases List.mem_singleton.mp hx
  exact Nat.le_trans h (J1n ub (JU hb) y hy))
 rw [J7p (JU ha)] at q
 exact q
theorem MLo.gaA (m:MLo rk a.toList b.toList o ia ib)(ua:Up rk a.toList)(ub:Up rk b.toList)(hb:b[ib]?=some pb)(h:∀ i,i<k→bey rk false pb a ia i=true):MLo rk a.toList b.toList (o++(a.extract ia (ia+k)).toList) (ia+k) ib:=by
 rw [J7o]
 refine m.chA ua fun x hx y hy=>Nat.le_trans ?_ (J1n ub (JU hb) y hy)
 obtain ⟨j,hj,e⟩:=J2W hx
 rw [Array.getElem?_toList] at e
 have q:=h j hj
 unfold bey at q
 rw [e] at q
 simpa using q
theorem MLo.gaB (m:MLo rk a.toList b.toList o ia ib)(ua:Up rk a.toList)(ub:Up rk b.toList)(ha:a[ia]?=some pa)(h:∀ i,i<k→bey rk true pa b ib i=true):MLo rk a.toList b.toList (o++(b.extract ib (ib+k)).toList) ia (ib+k):=by
 rw [J7o]
 refine m.chB ub fun x hx y hy=>Nat.le_trans ?_ (J1n ua (JU ha) y hy)
 obtain ⟨j,hj,e⟩:=J2W hx
 rw [Array.getElem?_toList] at e
 have q:=h j hj
 unfold bey at q
 rw [e] at q
 exact Nat.le_of_lt (by simpa using q)
theorem J2N {left:Bool}{key:Keyed}{n:Nat}(u:Up rk a.toList)(hn:ia+n≤a.size):∀ i j,i≤j→j<n→bey rk left key a ia j=true→bey rk left key a ia i=true:=fun i j hij hj h=>by
 have hi':ia+i<a.size:=by omega
 have hj':ia+j<a.size:=by omega
 have ei:a[ia+i]?=some a[ia+i]:=getElem?_pos a (ia+i) hi'
 have ej:a[ia+j]?=some a[ia+j]:=getElem?_pos a (ia+j) hj'
 have le:rk a[ia+i].1≤rk a[ia+j].1:=by
  refine J1n u (JU ei) _ ?_
  refine List.mem_iff_getElem?.mpr ⟨j - i,?_⟩
  rw [List.getElem?_drop,show ia+i+(j - i)=ia+j by omega]
  exact JU ej
 unfold bey at h ⊢
 rw [ej] at h
 rw [ei]
 cases left with
 | true=>simp only [if_true,decide_eq_true_eq] at h ⊢;omega
 | false=>simp only [Bool.false_eq_true,if_false,Bool.not_eq_true',decide_eq_false_iff_not] at h ⊢;omega
end
section
variable {prog:Program}{w:World}{A:Around}{E:Value→Shared→Prop}{s:Shared}{kd:SortKind}{D:Value→Prop}{rk:Value→Nat}
inductive LoI1 (rk:Value→Nat)(a b:Array Keyed)(x:Nat)(c:Option (Array Keyed)×Array Keyed×Nat×Nat×Nat):Prop
 | mk (o:Array Keyed) (ia ib mg:Nat) (hc:c=(none,o,ia,ib,mg)) (h0:MLo rk a.toList b.toList o.toList ia ib) (h1:ia+1<a.size) (h2:ib<b.size) (h3:x≤ia+ib):LoI1 rk a b x c
inductive LoI2 (rk:Value→Nat)(a b:Array Keyed)(c:Option (Array Keyed)×Array Keyed×Nat×Nat×Nat):Prop
 | mk (l o:Array Keyed) (ia ib mg:Nat) (hc:c=(some l,o,ia,ib,mg)) (h0:J0C rk a.toList b.toList l.toList):LoI2 rk a b c
inductive LoI3 (rk:Value→Nat)(a b:Array Keyed)(x:Nat)(y:Nat)(c:Option (Array Keyed)×Array Keyed×Nat×Nat×Nat×Nat):Prop
 | mk (o:Array Keyed) (ia ib ac bc:Nat) (hc:c=(none,o,ia,ib,ac,bc)) (h0:MLo rk a.toList b.toList o.toList ia ib) (h1:ia+1<a.size) (h2:ib<b.size) (h3:x≤ia+ib) (h4:y≤ia+ib):LoI3 rk a b x y c
inductive LoI4 (rk:Value→Nat)(a b:Array Keyed)(c:Option (Array Keyed)×Array Keyed×Nat×Nat×Nat×Nat):Prop
 | mk (l o:Array Keyed) (ia ib ac bc:Nat) (hc:c=(some l,o,ia,ib,ac,bc)) (h0:J0C rk a.toList b.toList l.toList):LoI4 rk a b c
inductive LoI5 (rk:Value→Nat)(a b:Array Keyed)(x:Nat)(c:Option (Array Keyed)×Array Keyed×Nat×Nat×Nat×Nat):Prop
 | mk (o:Array Keyed) (ia ib ac bc:Nat) (hc:c=(none,o,ia,ib,ac,bc)) (h0:MLo rk a.toList b.toList o.toList ia ib) (h1:ia+1<a.size) (h2:ib<b.size) (h3:x+1≤ia+ib):LoI5 rk a b x c
inductive LoI6 (rk:Value→Nat)(a b:Array Keyed)(x:Nat)(y:Nat)(c:Option (Array Keyed)×Array Keyed×Nat×Nat×Nat×Nat×Nat):Prop
 | mk (o:Array Keyed) (ia ib mg ac bc:Nat) (hc:c=(none,o,ia,ib,mg,ac,bc)) (h0:MLo rk a.toList b.toList o.toList ia ib) (h1:ia+1<a.size) (h2:ib<b.size) (h3:x+1≤ia+ib) (h4:y≤ia+ib):LoI6 rk a b x y c
inductive LoI7 (rk:Value→Nat)(a b:Array Keyed)(c:Option (Array Keyed)×Array Keyed×Nat×Nat×Nat×Nat×Nat):Prop
 | mk (l o:Array Keyed) (ia ib mg ac bc:Nat) (hc:c=(some l,o,ia,ib,mg,ac,bc)) (h0:J0C rk a.toList b.toList l.toList):LoI7 rk a b c
inductive LoI8 (rk:Value→Nat)(a b:Array Keyed)(x:Nat)(c:Option (Array Keyed)×Array Keyed×Nat×Nat×Nat×Nat×Nat):Prop
 | mk (o:Array Keyed) (ia ib mg ac bc:Nat) (hc:c=(none,o,ia,ib,mg,ac,bc)) (h0:MLo rk a.toList b.toList o.toList ia ib) (h1:ia+1<a.size) (h2:ib<b.size) (h3:x+1≤ia+ib):LoI8 rk a b x c
theorem tim_mergeLo (C:Cmp prog w A s kd D rk){st:SortSt}{a b:Array Keyed}{Q:Array Keyed→SortSt→Prop}(hk:kindOf st=kd)(hDa:∀ p∈a.toList,D p.1)(hDb:∀ p∈b.toList,D p.1)(ua:Up rk a.toList)(ub:Up rk b.toList){b0 a0:Keyed}{n:Nat}{al:Keyed}
 (hb0:b[0]?=some b0) (ha0:a[0]?=some a0) (hlt:rk b0.1≤rk a0.1) (hn:a.size=n+1) (hal:a[n]?=some al) (hlast:∀ x∈b.toList,rk x.1≤rk al.1)
 (h:∀ l st',J23 st st'→J0C rk a.toList b.toList l.toList→Q l st'):wpS (model prog w) A E s (J5Z a b) Q st:=by
 have atA:∀ {i:Nat},i<a.size→∃ p,a[i]?=some p∧D p.1:=fun {i} hi=>⟨a[i],getElem?_pos a i hi,hDa _ (by simp)⟩
 have atB:∀ {i:Nat},i<b.size→∃ p,b[i]?=some p∧D p.1:=fun {i} hi=>⟨b[i],getElem?_pos b i hi,hDb _ (by simp)⟩
 have hbs:0<b.size:=by
  cases e:b.size with
  | zero=>rw [Array.getElem?_eq_none (by omega)] at hb0;cases hb0
  | succ m=>omega
 have m1:MLo rk a.toList b.toList [b0] 0 1:=by simpa using MLo.start.stB ua ub hb0 ha0 hlt
 have dn:∀ {o:Array Keyed} {ia ib:Nat},MLo rk a.toList b.toList o.toList ia ib→(ib=b.size∨ia=a.size)→J0C rk a.toList b.toList (o++a.extract ia a.size++b.extract ib b.size).toList:=fun {o ia ib} m hh=>by
  rw [Array.toList_append,Array.toList_append,J3j,J3j]
  exact m.doneB ua ub (by rcases hh with rfl | rfl;exact .inl (by simp);exact .inr (by simp))
 have lA:∀ {o:Array Keyed} {ia ib:Nat},MLo rk a.toList b.toList o.toList ia ib→ia+1=a.size→J0C rk a.toList b.toList (o++b.extract ib b.size++a.extract ia a.size).toList:=fun {o ia ib} m hh=>by
  rw [Array.toList_append,Array.toList_append,J3j,J3j]
  refine m.doneA ua ub fun x hx y hy=>Nat.le_trans (hlast x hx) ?_
  obtain rfl:ia=n:=by omega
  exact J1n ua (JU hal) y hy
 have nx:∀ {ia k:Nat} {pb:Keyed},ia+k<a.size→bey rk false pb a ia k=false→∃ pa,a[ia+k]?=some pa∧D pa.1∧rk pb.1≤rk pa.1:=fun {ia k pb} hlt e=>by
  obtain ⟨pa,hpa,dpa⟩:=atA hlt
  unfold bey at e
  rw [hpa] at e
  simp at e
  exact ⟨pa,hpa,dpa,by omega⟩
 have ny:∀ {ib k:Nat} {pa:Keyed},ib+k<b.size→bey rk true pa b ib k=false→∃ pc,b[ib+k]?=some pc∧rk pa.1≤rk pc.1:=fun {ib k pa} hlt e=>by
  obtain ⟨pc,hpc,_⟩:=atB hlt
  unfold bey at e
  rw [hpc] at e
  simp at e
  exact ⟨pc,hpc,by omega⟩
 unfold J5Z
 refine wpS_bind (wpS_lift (wpAny_rule ⟨rfl,?_⟩))
 refine wpS_bind (Jz hb0 ?_)
 have hm1:MLo rk a.toList b.toList (#[b0]:Array Keyed).toList 0 1:=m1
 by_cases h1:(1 == b.size)=true
 ·first | refine Jy h1 ?_ | rw [if_pos h1]
  exact wpS_pure (h _ _ ⟨rfl,rfl,rfl,rfl⟩ (dn hm1 (.inl (beq_iff_eq.mp h1))))
 first | refine JP h1 ?_ | rw [if_neg h1]
 by_cases h2:(0+1 == a.size)=true
 ·first | refine Jy h2 ?_ | rw [if_pos h2]
  exact wpS_pure (h _ _ ⟨rfl,rfl,rfl,rfl⟩ (lA hm1 (beq_iff_eq.mp h2)))
 first | refine JP h2 ?_ | rw [if_neg h2]
 have h1':1<b.size:=by have:¬ 1=b.size:=fun z=>h1 (beq_iff_eq.mpr z);omega
 have h2':0+1<a.size:=by have:¬ 0+1=a.size:=fun z=>h2 (beq_iff_eq.mpr z);omega
 refine wpS_bind (wpS_get ?_)
 refine wpS_bind (wpS_mono (wpS_forRange (I:=fun x c st'=>J23 st st'∧LoI1 rk a b x c)
  (Q:=fun c st'=>J23 st st'∧LoI2 rk a b c) ?step ?fin ⟨⟨rfl,rfl,rfl,rfl⟩,_,0,1,_,rfl,hm1,h2',h1',by omega⟩) ?post)
 case fin =>
  rintro c st' ⟨_,o,ia,ib,mg,rfl,m,b1,b2,b3⟩
  omega
 case post =>
  rintro c st' ⟨sm,l,o,ia,ib,mg,rfl,m⟩
  exact wpS_pure (h l st' sm m)
 case step =>
  rintro x c st1 _ hx ⟨sm,o,ia,ib,mg,rfl,m,b1,b2,b3⟩
  refine wpS_bind (wpS_mono (wpS_forRange (I:=fun y c st'=>st'=st1∧LoI3 rk a b x y c)
   (Q:=fun c st'=>st'=st1∧(LoI4 rk a b c∨LoI5 rk a b x c)) ?step1 ?fin1 ⟨rfl,o,ia,ib,0,0,rfl,m,b1,b2,b3,by omega⟩) ?post1)
  case fin1 =>
   rintro c st' ⟨_,o,ia,ib,ac,bc,rfl,m,b1,b2,b3,b4⟩
   omega
  case step1 =>
   rintro y c st2 _ hy ⟨e2,o,ia,ib,ac,bc,rfl,m,b1,b2,b3,b4⟩
   rw [e2]
   clear e2
   dsimp only
   obtain ⟨pb,hpb,dpb⟩:=atB b2
   obtain ⟨pa,hpa,dpa⟩:=atA (i:=ia) (by omega)
   refine wpS_bind (Jz hpb (wpS_bind (Jz hpa (wpS_bind (J3t C (sm.1.trans hk) dpb dpa ?_)))))
   by_cases hw:rk pb.1<rk pa.1
   ·first | refine Jy (decide_eq_true hw) ?_ | rw [if_pos (decide_eq_true hw)]
    refine wpS_bind (Jz hpb ?_)
    have m':MLo rk a.toList b.toList (o.push pb).toList ia (ib+1):=by rw [Array.toList_push];exact m.stB ua ub hpb hpa (Nat.le_of_lt hw)
    by_cases g1:(ib+1 == b.size)=true
    ·first | refine Jy g1 ?_ | rw [if_pos g1]
     exact wpS_pure ⟨rfl,.inl ⟨_,_,_,_,_,_,rfl,dn m' (.inl (beq_iff_eq.mp g1))⟩⟩
    ·first | refine JP g1 ?_ | rw [if_neg g1]
     have g1':ib+1<b.size:=by have:¬ ib+1=b.size:=fun z=>g1 (beq_iff_eq.mpr z);omega
     by_cases g2:bc+1≥mg
     ·first | refine Jy g2 ?_ | rw [if_pos g2]
      exact wpS_pure ⟨rfl,.inr ⟨_,_,_,_,_,rfl,m',b1,g1',by omega⟩⟩
     ·first | refine JP g2 ?_ | rw [if_neg g2]
      exact wpS_pure ⟨rfl,_,_,_,_,_,rfl,m',b1,g1',by omega,by omega⟩
   ·first | refine JP (by rw [decide_eq_false hw];exact Bool.false_ne_true) ?_ | rw [if_neg (by rw [decide_eq_false hw];exact Bool.false_ne_true)]
    refine wpS_bind (Jz hpa ?_)
    have m':MLo rk a.toList b.toList (o.push pa).toList (ia+1) ib:=by rw [Array.toList_push];exact m.stA ua ub hpb hpa (by omega)
    by_cases g1:(ia+1+1 == a.size)=true
    ·first | refine Jy g1 ?_ | rw [if_pos g1]
     exact wpS_pure ⟨rfl,.inl ⟨_,_,_,_,_,_,rfl,lA m' (beq_iff_eq.mp g1)⟩⟩
    ·first | refine JP g1 ?_ | rw [if_neg g1]
     have g1':ia+1+1<a.size:=by have:¬ ia+1+1=a.size:=fun z=>g1 (beq_iff_eq.mpr z);omega
     by_cases g2:ac+1≥mg
     ·first | refine Jy g2 ?_ | rw [if_pos g2]
      exact wpS_pure ⟨rfl,.inr ⟨_,_,_,_,_,rfl,m',g1',b2,by omega⟩⟩
     ·first | refine JP g2 ?_ | rw [if_neg g2]
      exact wpS_pure ⟨rfl,_,_,_,_,_,rfl,m',g1',b2,by omega,by omega⟩
  case post1 =>
   clear m b1 b2 b3
   rintro c st2 ⟨e2,⟨l,o,ia,ib,ac,bc,rfl,m⟩ | ⟨o,ia,ib,ac,bc,rfl,m,b1,b2,b3⟩⟩
   ·rw [e2]
    exact wpS_pure ⟨sm,l,_,_,_,_,rfl,m⟩
   rw [e2]
   clear e2
   refine wpS_bind (wpS_lift (wpAny_rule ⟨rfl,?_⟩))
   refine wpS_bind (wpS_mono (wpS_forRange (I:=fun y c st'=>J23 st st'∧LoI6 rk a b x y c)
    (Q:=fun c st'=>J23 st st'∧(LoI7 rk a b c∨LoI8 rk a b x c)) ?step3 ?fin3 ⟨sm,o,ia,ib,_,_,_,rfl,m,b1,b2,b3,by omega⟩) ?post3)
   case fin3 =>
    rintro c st' ⟨_,o,ia,ib,mg,ac,bc,rfl,m,b1,b2,b3,b4⟩
    omega
   case post3 =>
    clear m b1 b2 b3
    rintro c st2 ⟨sm,⟨l,o,ia,ib,mg,ac,bc,rfl,m⟩ | ⟨o,ia,ib,mg,ac,bc,rfl,m,b1,b2,b3⟩⟩
    ·exact wpS_pure ⟨sm,l,_,_,_,_,rfl,m⟩
    ·exact wpS_bind (wpS_modify (wpS_pure ⟨sm,_,_,_,_,rfl,m,b1,b2,b3⟩))
   case step3 =>
    clear m b1 b2 b3
    rintro y c st2 _ hy ⟨sm2,o,ia,ib,mg2,ac,bc,rfl,m,b1,b2,b3,b4⟩
    dsimp only
    obtain ⟨pb,hpb,dpb⟩:=atB b2
    apply J7j
    ·intro key
     by_cases hg:mg2 > 1
     ·rw [if_pos hg]
      generalize mg2 - 1=mg3
      revert mg3
      exact key.out
     ·rw [if_neg hg]
      exact key.out mg2
    ·intro mg3
     refine wpS_bind (wpS_modify (wpS_bind (Jz hpb ?_)))
     refine wpS_bind (tim_gallop C (sm2.1.trans hk) dpb (by omega) hDa (by omega) (J2N ua (by omega)) fun k k1 k2 k3=>?_)
     apply J7j
     ·intro key
      have mk:=m.gaA ua ub hpb k2
      rw [← Array.toList_append] at mk
      by_cases hk0:k > 0
      case' pos =>
       first | refine Jy hk0 ?_ | rw [if_pos hk0]
       by_cases g1:(ia+k+1 == a.size)=true
       case pos =>
        first | refine Jy g1 ?_ | rw [if_pos g1]
        exact wpS_pure ⟨sm2,.inl ⟨_,_,_,_,_,_,_,rfl,lA mk (beq_iff_eq.mp g1)⟩⟩
       first | refine JP g1 ?_ | rw [if_neg g1]
       by_cases g2:(ia+k == a.size)=true
       case pos =>
        first | refine Jy g2 ?_ | rw [if_pos g2]
        exact wpS_pure ⟨sm2,.inl ⟨_,_,_,_,_,_,_,rfl,dn mk (.inr (beq_iff_eq.mp g2))⟩⟩
       first | refine JP g2 ?_ | rw [if_neg g2]
       have c1:ia+k+1<a.size:=by
        have:¬ ia+k+1=a.size:=fun z=>g1 (beq_iff_eq.mpr z)
        have:¬ ia+k=a.size:=fun z=>g2 (beq_iff_eq.mpr z)
        omega
       have hp:∃ pa,a[ia+k]?=some pa∧D pa.1∧rk pb.1≤rk pa.1:=nx (by omega) (k3 k (Nat.le_refl _) (by omega))
       have b5:x+1≤ia+k+ib:=by omega
       have b6:y≤ia+k+ib:=by omega
       revert mk c1 hp b5 b6
       generalize o++a.extract ia (ia+k)=o2
       generalize ia+k=i2
       revert o2 i2
       exact key.out
      case' neg =>
       first | refine JP hk0 ?_ | rw [if_neg hk0]
       obtain rfl:k=0:=by omega
       have c1:ia+1<a.size:=b1
       have hp:∃ pa,a[ia]?=some pa∧D pa.1∧rk pb.1≤rk pa.1:=nx (by omega) (k3 0 (Nat.le_refl _) (by omega))
       have b5:x+1≤ia+ib:=b3
       have b6:y≤ia+ib:=b4
       exact key.out o ia m c1 hp b5 b6
     ·intro o2 i2 mk c1 hp b5 b6
      clear m b1 b3 b4 k1 k2 k3
      obtain ⟨pa,hpa,dpa,hle⟩:=hp
      refine wpS_bind (Jz hpb ?_)
      have m':MLo rk a.toList b.toList (o2.push pb).toList i2 (ib+1):=by rw [Array.toList_push];exact mk.stB ua ub hpb hpa hle
      by_cases g3:(ib+1 == b.size)=true
      case pos =>
       first | refine Jy g3 ?_ | rw [if_pos g3]
       exact wpS_pure ⟨sm2,.inl ⟨_,_,_,_,_,_,_,rfl,dn m' (.inl (beq_iff_eq.mp g3))⟩⟩
      first | refine JP g3 ?_ | rw [if_neg g3]
      have g3':ib+1<b.size:=by have:¬ ib+1=b.size:=fun z=>g3 (beq_iff_eq.mpr z);omega
      refine wpS_bind (Jz hpa ?_)
      refine wpS_bind (tim_gallop C (sm2.1.trans hk) dpa (by omega) hDb (by omega) (J2N ub (by omega)) fun j j1 j2 j3=>?_)
      apply J7j
      ·intro key
       have mj:=m'.gaB ua ub hpa j2
       rw [← Array.toList_append] at mj
       by_cases hj0:j > 0
       case' pos =>
        first | refine Jy hj0 ?_ | rw [if_pos hj0]
        by_cases g4:(ib+1+j == b.size)=true
        case pos =>
         first | refine Jy g4 ?_ | rw [if_pos g4]
         exact wpS_pure ⟨sm2,.inl ⟨_,_,_,_,_,_,_,rfl,dn mj (.inl (beq_iff_eq.mp g4))⟩⟩
        first | refine JP g4 ?_ | rw [if_neg g4]
        have c2:ib+1+j<b.size:=by
         have:¬ ib+1+j=b.size:=fun z=>g4 (beq_iff_eq.mpr z)
         omega
        have hq:∃ pc,b[ib+1+j]?=some pc∧rk pa.1≤rk pc.1:=ny c2 (j3 j (Nat.le_refl _) (by omega))
        have b7:ib<ib+1+j:=by omega
        revert mj c2 hq b7
        generalize (o2.push pb)++b.extract (ib+1) (ib+1+j)=o3
        generalize ib+1+j=i3
        revert o3 i3
        exact key.out
       case' neg =>
        first | refine JP hj0 ?_ | rw [if_neg hj0]
        obtain rfl:j=0:=by omega
        have c2:ib+1<b.size:=g3'
        have hq:∃ pc,b[ib+1]?=some pc∧rk pa.1≤rk pc.1:=ny c2 (j3 0 (Nat.le_refl _) (by omega))
        have b7:ib<ib+1:=by omega
        exact key.out _ _ m' c2 hq b7
      ·intro o3 i3 mj c2 hq b7
       clear j1 j2 j3
       obtain ⟨pc,hpc,hle2⟩:=hq
       refine wpS_bind (Jz hpa ?_)
       have m4:MLo rk a.toList b.toList (o3.push pa).toList (i2+1) i3:=by rw [Array.toList_push];exact mj.stA ua ub hpc hpa hle2
       by_cases g5:(i2+1+1 == a.size)=true
       case pos =>
        first | refine Jy g5 ?_ | rw [if_pos g5]
        exact wpS_pure ⟨sm2,.inl ⟨_,_,_,_,_,_,_,rfl,lA m4 (beq_iff_eq.mp g5)⟩⟩
       first | refine JP g5 ?_ | rw [if_neg g5]
       have g5':i2+1+1<a.size:=by have:¬ i2+1+1=a.size:=fun z=>g5 (beq_iff_eq.mpr z);omega
       split
       ·exact wpS_pure ⟨sm2,.inr ⟨_,_,_,_,_,_,rfl,m4,g5',c2,by omega⟩⟩
       ·exact wpS_pure ⟨sm2,_,_,_,_,_,_,rfl,m4,g5',c2,by omega,by omega⟩
end
end L2
namespace L2
open PySem PyProof.Rows
noncomputable def J60:Array Keyed→Array Keyed→StateT SortSt Sem (Array Keyed):=sortPriv% PySem.Builtin.mergeHi
structure MHi (rk:Value→Nat)(la lb o:List Keyed)(na nb:Nat):Prop where
 perm:(la.take na++lb.take nb++o).Perm (la++lb)
 up:Up rk o
 hig:∀ x∈la.take na++lb.take nb,∀ y∈o,rk x.1≤rk y.1
section
variable {rk:Value→Nat}{la lb o:List Keyed}{na nb k:Nat}
theorem MHi.start:MHi rk la lb [] la.length lb.length:=⟨by simp,.nil,fun x _ y h=>nomatch h⟩
theorem J3U (l:List Keyed)(n:Nat)(h:k≤n):l.take n=l.take k++(l.take n).drop k:=by
 have e:(l.take n).take k=l.take k:=by rw [List.take_take];congr 1;omega
 rw [← e]
 exact (List.take_append_drop k _).symm
theorem MHi.chA (m:MHi rk la lb o na nb)(hk:k≤na)(ha:Up rk la)(h:∀ x∈lb.take nb,∀ y∈(la.take na).drop k,rk x.1≤rk y.1):MHi rk la lb ((la.take na).drop k++o) k nb:=by
 have e:=J3U la na hk
 have hd:Up rk (la.take k++(la.take na).drop k):=by rw [← e];exact List.Pairwise.sublist (List.take_sublist _ _) ha
 obtain ⟨h1,h2,h3⟩:=List.pairwise_append.mp hd
 refine ⟨?_,?_,?_⟩
 ·have p:=m.perm
  rw [e] at p
  refine List.Perm.trans ?_ p
  rw [← List.append_assoc]
  refine List.Perm.append_right _ ?_
  rw [List.append_assoc,List.append_assoc]
  exact List.Perm.append_left _ List.perm_append_comm
 ·exact List.pairwise_append.mpr ⟨h2,m.up,fun x hx y hy=>m.hig x (List.mem_append_left _ (by rw [e];exact List.mem_append_right _ hx)) y hy⟩
 ·intro x hx y hy
  rcases List.mem_append.mp hy with hy | hy
  ·rcases List.mem_append.mp hx with hx | hx
   ·exact h3 x hx y hy
   ·exact h x hx y hy
  ·refine m.hig x ?_ y hy
   rcases List.mem_append.mp hx with hx | hx
   ·rw [e];exact List.mem_append_left _ (List.mem_append_left _ hx)
   ·exact List.mem_append_right _ hx
theorem MHi.chB (m:MHi rk la lb o na nb)(hk:k≤nb)(hb:Up rk lb)(h:∀ x∈la.take na,∀ y∈(lb.take nb).drop k,rk x.1≤rk y.1):MHi rk la lb ((lb.take nb).drop k++o) na k:=by
 have e:=J3U lb nb hk
 have hd:Up rk (lb.take k++(lb.take nb).drop k):=by rw [← e];exact List.Pairwise.sublist (List.take_sublist _ _) hb
 obtain ⟨h1,h2,h3⟩:=List.pairwise_append.mp hd
 refine ⟨?_,?_,?_⟩
 ·have p:=m.perm
  rw [e] at p
  simpa [List.append_assoc] using p
 ·exact List.pairwise_append.mpr ⟨h2,m.up,fun x hx y hy=>m.hig x (List.mem_append_right _ (by rw [e];exact List.mem_append_right _ hx)) y hy⟩
 ·intro x hx y hy
  rcases List.mem_append.mp hy with hy | hy
  ·rcases List.mem_append.mp hx with hx | hx
   ·exact h x hx y hy
   ·exact h3 x hx y hy
  ·refine m.hig x ?_ y hy
   rcases List.mem_append.mp hx with hx | hx
   ·exact List.mem_append_left _ hx
   ·rw [e];exact List.mem_append_right _ (List.mem_append_left _ hx)
theorem MHi.doneA (m:MHi rk la lb o na nb)(ha:Up rk la)(hb:Up rk lb)(h:na=0∨nb=0):J0C rk la lb (la.take na++lb.take nb++o):=by
 refine ⟨m.perm,List.pairwise_append.mpr ⟨?_,m.up,m.hig⟩⟩
 rcases h with rfl | rfl
 ·simpa using List.Pairwise.sublist (List.take_sublist _ _) hb
 ·simpa using List.Pairwise.sublist (List.take_sublist _ _) ha
theorem MHi.doneB (m:MHi rk la lb o na nb)(ha:Up rk la)(hb:Up rk lb)(h:∀ x∈lb.take nb,∀ y∈la,rk x.1≤rk y.1):J0C rk la lb (lb.take nb++la.take na++o):=by
 refine ⟨List.Perm.trans (List.Perm.append_right _ List.perm_append_comm) m.perm,List.pairwise_append.mpr ⟨?_,m.up,fun x hx y hy=>m.hig x ?_ y hy⟩⟩
 ·exact List.pairwise_append.mpr ⟨List.Pairwise.sublist (List.take_sublist _ _) hb,List.Pairwise.sublist (List.take_sublist _ _) ha,fun x hx y hy=>h x hx y (List.mem_of_mem_take hy)⟩
 ·rcases List.mem_append.mp hx with hx | hx
  ·exact List.mem_append_right _ hx
  ·exact List.mem_append_left _ hx
theorem J62 {l:List Keyed}{i:Nat}{p:Keyed}(h:l[i]?=some p):(l.take (i+1)).drop i=[p]:=by
 obtain ⟨hi,rfl⟩:=List.getElem?_eq_some_iff.mp h
 rw [List.take_succ_eq_append_getElem hi,List.drop_append_of_le_length (by simp;omega),List.drop_eq_nil_of_le (by rw [List.length_take];omega)]
 rfl
theorem J4f {l:List Keyed}{i:Nat}{p:Keyed}(u:Up rk l)(h:l[i]?=some p):∀ y∈l.take (i+1),rk y.1≤rk p.1:=by
 have e:=J3U (k:=i) l (i+1) (by omega)
 rw [J62 h] at e
 have u':Up rk (l.take i++[p]):=by rw [← e];exact List.Pairwise.sublist (List.take_sublist _ _) u
 intro y hy
 rw [e] at hy
 rcases List.mem_append.mp hy with hy | hy
 ·exact (List.pairwise_append.mp u').2.2 y hy p (by simp)
 ·cases List.mem_singleton.mp hy
  exact Nat.le_refl _
theorem J3O {l:List Keyed}{n:Nat}{x:Keyed}(h:x∈l.take n):∃ j,j<n∧l[j]?=some x:=by
 have:=J2W (l:=l) (i:=0) (k:=n) (by simpa using h)
 simpa using this
theorem J9N {l:List Keyed}{n k:Nat}{x:Keyed}(h:x∈(l.take n).drop k):∃ j,k≤j∧j<n∧l[j]?=some x:=by
 obtain ⟨j,hj⟩:=List.mem_iff_getElem?.mp h
 rw [List.getElem?_drop] at hj
 have hlt:k+j<n:=by
  have:=(List.getElem?_eq_some_iff.mp hj).1
  rw [List.length_take] at this
  omega
 rw [List.getElem?_take_of_lt hlt] at hj
 exact ⟨k+j,by omega,hlt,hj⟩
end
theorem J2r (a:Array Keyed)(n:Nat):(a.extract 0 n).toList=a.toList.take n:=by
 rw [Array.toList_extract,List.extract_eq_drop_take]
 simp
theorem J8N (a:Array Keyed)(k n:Nat):(a.extract k n).toList=(a.toList.take n).drop k:=by
 rw [Array.toList_extract,List.extract_eq_drop_take,List.drop_take]
section
variable {rk:Value→Nat}{a b:Array Keyed}{o:List Keyed}{na nb k:Nat}{pa pb:Keyed}
theorem MHi.stA (m:MHi rk a.toList b.toList o (na+1) nb)(ua:Up rk a.toList)(ha:a[na]?=some pa)(h:∀ x∈b.toList.take nb,rk x.1≤rk pa.1):MHi rk a.toList b.toList (pa::o) na nb:=by
 have q:=m.chA (k:=na) (by omega) ua (fun x hx y hy=>by
  rw [J62 (JU ha)] at hy
  cases List.mem_singleton.mp hy
  exact h x hx)
 rw [J62 (JU ha)] at q
 exact q
theorem MHi.stB (m:MHi rk a.toList b.toList o na (nb+1))(ub:Up rk b.toList)(hb:b[nb]?=some pb)(h:∀ x∈a.toList.take na,rk x.1≤rk pb.1):MHi rk a.toList b.toList (pb::o) na nb:=by
 have q:=m.chB (k:=nb) (by omega) ub (fun x hx y hy=>by
  rw [J62 (JU hb)] at hy
  cases List.mem_singleton.mp hy
  exact h x hx)
 rw [J62 (JU hb)] at q
 exact q
theorem J2O {left:Bool}{i:Nat}{p key:Keyed}(hp:a[i]?=some p)(h:bey rk left key a 0 i=false):rk key.1≤rk p.1:=by
 unfold bey at h
 rw [Nat.zero_add,hp] at h
 cases left with
 | true=>simpa using h
 | false=>exact Nat.le_of_lt (by simpa using h)
theorem J6o {left:Bool}{i:Nat}{p key:Keyed}(hp:a[i]?=some p)(h:bey rk left key a 0 i=true):rk p.1≤rk key.1:=by
 unfold bey at h
 rw [Nat.zero_add,hp] at h
 cases left with
 | true=>exact Nat.le_of_lt (by simpa using h)
 | false=>simpa using h
theorem MHi.gaA (m:MHi rk a.toList b.toList o na nb)(hkn:k≤na)(ua:Up rk a.toList)(h:∀ i,k≤i→i<na→bey rk false pb a 0 i=false)(hb:∀ x∈b.toList.take nb,rk x.1≤rk pb.1):MHi rk a.toList b.toList ((a.extract k na).toList++o) k nb:=by
 rw [J8N]
 refine m.chA hkn ua fun x hx y hy=>Nat.le_trans (hb x hx) ?_
 obtain ⟨j,h1,h2,e⟩:=J9N hy
 rw [Array.getElem?_toList] at e
 exact J2O e (h j h1 h2)
theorem MHi.gaB (m:MHi rk a.toList b.toList o na nb)(hkn:k≤nb)(ub:Up rk b.toList)(h:∀ i,k≤i→i<nb→bey rk true pa b 0 i=false)(ha:∀ x∈a.toList.take na,rk x.1≤rk pa.1):MHi rk a.toList b.toList ((b.extract k nb).toList++o) na k:=by
 rw [J8N]
 refine m.chB hkn ub fun x hx y hy=>Nat.le_trans (ha x hx) ?_
 obtain ⟨j,h1,h2,e⟩:=J9N hy
 rw [Array.getElem?_toList] at e
 exact J2O e (h j h1 h2)
theorem J6p {left:Bool}{key:Keyed}(h:∀ i,i<k→bey rk left key a 0 i=true):∀ x∈a.toList.take k,rk x.1≤rk key.1:=fun x hx=>by
 obtain ⟨j,h1,e⟩:=J3O hx
 rw [Array.getElem?_toList] at e
 exact J6o e (h j h1)
end
section
variable {prog:Program}{w:World}{A:Around}{E:Value→Shared→Prop}{s:Shared}{kd:SortKind}{D:Value→Prop}{rk:Value→Nat}
inductive HiI1 (rk:Value→Nat)(a b:Array Keyed)(x:Nat)(c:Option (Array Keyed)×Nat×Nat×Array Keyed×Nat):Prop
 | mk (na nb:Nat) (o:Array Keyed) (mg:Nat) (hc:c=(none,na,nb,o,mg)) (h0:MHi rk a.toList b.toList o.toList.reverse na nb) (h1:0<na) (h2:na<a.size) (h3:1<nb) (h4:nb≤b.size) (h5:x+na+nb≤a.size+b.size):HiI1 rk a b x c
inductive HiI2 (rk:Value→Nat)(a b:Array Keyed)(c:Option (Array Keyed)×Nat×Nat×Array Keyed×Nat):Prop
 | mk (l:Array Keyed) (na nb:Nat) (o:Array Keyed) (mg:Nat) (hc:c=(some l,na,nb,o,mg)) (h0:J0C rk a.toList b.toList l.toList):HiI2 rk a b c
inductive HiI3 (rk:Value→Nat)(a b:Array Keyed)(x:Nat)(y:Nat)(c:Option (Array Keyed)×Nat×Nat×Array Keyed×Nat×Nat):Prop
 | mk (na nb:Nat) (o:Array Keyed) (ac bc:Nat) (hc:c=(none,na,nb,o,ac,bc)) (h0:MHi rk a.toList b.toList o.toList.reverse na nb) (h1:0<na) (h2:na<a.size) (h3:1<nb) (h4:nb≤b.size) (h5:x+na+nb≤a.size+b.size) (h6:y+na+nb≤a.size+b.size):HiI3 rk a b x y c
inductive HiI4 (rk:Value→Nat)(a b:Array Keyed)(c:Option (Array Keyed)×Nat×Nat×Array Keyed×Nat×Nat):Prop
 | mk (l:Array Keyed) (na nb:Nat) (o:Array Keyed) (ac bc:Nat) (hc:c=(some l,na,nb,o,ac,bc)) (h0:J0C rk a.toList b.toList l.toList):HiI4 rk a b c
inductive HiI5 (rk:Value→Nat)(a b:Array Keyed)(x:Nat)(c:Option (Array Keyed)×Nat×Nat×Array Keyed×Nat×Nat):Prop
 | mk (na nb:Nat) (o:Array Keyed) (ac bc:Nat) (hc:c=(none,na,nb,o,ac,bc)) (h0:MHi rk a.toList b.toList o.toList.reverse na nb) (h1:0<na) (h2:na<a.size) (h3:1<nb) (h4:nb≤b.size) (h5:x+1+na+nb≤a.size+b.size):HiI5 rk a b x c
inductive HiI6 (rk:Value→Nat)(a b:Array Keyed)(x:Nat)(y:Nat)(c:Option (Array Keyed)×Nat×Nat×Array Keyed×Nat×Nat×Nat):Prop
 | mk (na nb:Nat) (o:Array Keyed) (mg ac bc:Nat) (hc:c=(none,na,nb,o,mg,ac,bc)) (h0:MHi rk a.toList b.toList o.toList.reverse na nb) (h1:0<na) (h2:na<a.size) (h3:1<nb) (h4:nb≤b.size) (h5:x+1+na+nb≤a.size+b.size) (h6:y+na+nb≤a.size+b.size):HiI6 rk a b x y c
inductive HiI7 (rk:Value→Nat)(a b:Array Keyed)(c:Option (Array Keyed)×Nat×Nat×Array Keyed×Nat×Nat×Nat):Prop
 | mk (l:Array Keyed) (na nb:Nat) (o:Array Keyed) (mg ac bc:Nat) (hc:c=(some l,na,nb,o,mg,ac,bc)) (h0:J0C rk a.toList b.toList l.toList):HiI7 rk a b c
inductive HiI8 (rk:Value→Nat)(a b:Array Keyed)(x:Nat)(c:Option (Array Keyed)×Nat×Nat×Array Keyed×Nat×Nat×Nat):Prop
 | mk (na nb:Nat) (o:Array Keyed) (mg ac bc:Nat) (hc:c=(none,na,nb,o,mg,ac,bc)) (h0:MHi rk a.toList b.toList o.toList.reverse na nb) (h1:0<na) (h2:na<a.size) (h3:1<nb) (h4:nb≤b.size) (h5:x+1+na+nb≤a.size+b.size):HiI8 rk a b x c
theorem tim_mergeHi (C:Cmp prog w A s kd D rk){st:SortSt}{a b:Array Keyed}{Q:Array Keyed→SortSt→Prop}(hk:kindOf st=kd)(hDa:∀ p∈a.toList,D p.1)(hDb:∀ p∈b.toList,D p.1)(ua:Up rk a.toList)(ub:Up rk b.toList){b0 a0:Keyed}{n:Nat}{al:Keyed}
 (hb0:b[0]?=some b0) (ha0:a[0]?=some a0) (hlt:rk b0.1≤rk a0.1) (hn:a.size=n+1) (hal:a[n]?=some al) (hlast:∀ x∈b.toList,rk x.1≤rk al.1)
 (h:∀ l st',J23 st st'→J0C rk a.toList b.toList l.toList→Q l st'):wpS (model prog w) A E s (J60 a b) Q st:=by
 have atA:∀ {i:Nat},i<a.size→∃ p,a[i]?=some p∧D p.1:=fun {i} hi=>⟨a[i],getElem?_pos a i hi,hDa _ (by simp)⟩
 have atB:∀ {i:Nat},i<b.size→∃ p,b[i]?=some p∧D p.1:=fun {i} hi=>⟨b[i],getElem?_pos b i hi,hDb _ (by simp)⟩
 have hbs:0<b.size:=by
  cases e:b.size with
  | zero=>rw [Array.getElem?_eq_none (by omega)] at hb0;cases hb0
  | succ m=>omega
 have m0:MHi rk a.toList b.toList [] (n+1) b.size:=by
  have:=MHi.start (rk:=rk) (la:=a.toList) (lb:=b.toList)
  simpa [hn] using this
 have m1:MHi rk a.toList b.toList (#[al]:Array Keyed).toList.reverse n b.size:=by
  simpa using m0.stA ua hal fun x hx=>hlast x (List.mem_of_mem_take hx)
 have dn:∀ {o:Array Keyed} {na nb:Nat},MHi rk a.toList b.toList o.toList.reverse na nb→(na=0∨nb=0)→J0C rk a.toList b.toList (a.extract 0 na++b.extract 0 nb++o.reverse).toList:=fun {o na nb} m hh=>by
  rw [Array.toList_append,Array.toList_append,J2r,J2r,Array.toList_reverse]
  exact m.doneA ua ub hh
 have fB:∀ {o:Array Keyed} {na nb:Nat},MHi rk a.toList b.toList o.toList.reverse na nb→nb=1→J0C rk a.toList b.toList (b.extract 0 nb++a.extract 0 na++o.reverse).toList:=fun {o na nb} m hh=>by
  rw [Array.toList_append,Array.toList_append,J2r,J2r,Array.toList_reverse]
  refine m.doneB ua ub fun x hx y hy=>?_
  subst hh
  refine Nat.le_trans (J4f ub (JU hb0) x hx) (Nat.le_trans hlt (J1n ua (JU ha0) y (by simpa using hy)))
 have eP:∀ (o:Array Keyed) (p:Keyed),(o.push p).toList.reverse=p::o.toList.reverse:=fun o p=>by simp
 have eC:∀ (o c:Array Keyed),(o++c.reverse).toList.reverse=c.toList++o.toList.reverse:=fun o c=>by simp
 unfold J60
 refine wpS_bind (wpS_lift (wpAny_rule ⟨rfl,?_⟩))
 have hal':a[a.size - 1]?=some al:=by rw [hn];exact hal
 refine wpS_bind (Jz hal' ?_)
 have en:a.size - 1=n:=by omega
 rw [en]
 by_cases h1:(n == 0)=true
 ·first | refine Jy h1 ?_ | rw [if_pos h1]
  exact wpS_pure (h _ _ ⟨rfl,rfl,rfl,rfl⟩ (dn m1 (.inl (beq_iff_eq.mp h1))))
 first | refine JP h1 ?_ | rw [if_neg h1]
 by_cases h2:(b.size == 1)=true
 ·first | refine Jy h2 ?_ | rw [if_pos h2]
  exact wpS_pure (h _ _ ⟨rfl,rfl,rfl,rfl⟩ (fB m1 (beq_iff_eq.mp h2)))
 first | refine JP h2 ?_ | rw [if_neg h2]
 have h1':0<n:=by have:¬ n=0:=fun z=>h1 (beq_iff_eq.mpr z);omega
 have h2':1<b.size:=by have:¬ b.size=1:=fun z=>h2 (beq_iff_eq.mpr z);omega
 refine wpS_bind (wpS_get ?_)
 refine wpS_bind (wpS_mono (wpS_forRange (I:=fun x c st'=>J23 st st'∧HiI1 rk a b x c)
  (Q:=fun c st'=>J23 st st'∧HiI2 rk a b c) ?step ?fin ⟨⟨rfl,rfl,rfl,rfl⟩,n,b.size,_,_,rfl,m1,h1',by omega,h2',by omega,by omega⟩) ?post)
 case fin =>
  rintro c st' ⟨_,na,nb,o,mg,rfl,m,b1,b2,b3,b4,b5⟩
  omega
 case post =>
  rintro c st' ⟨sm,l,na,nb,o,mg,rfl,m⟩
  exact wpS_pure (h l st' sm m)
 case step =>
  rintro x c st1 _ hx ⟨sm,na,nb,o,mg,rfl,m,b1,b2,b3,b4,b5⟩
  refine wpS_bind (wpS_mono (wpS_forRange (I:=fun y c st'=>st'=st1∧HiI3 rk a b x y c)
   (Q:=fun c st'=>st'=st1∧(HiI4 rk a b c∨HiI5 rk a b x c)) ?step1 ?fin1 ⟨rfl,na,nb,o,0,0,rfl,m,b1,b2,b3,b4,b5,by omega⟩) ?post1)
  case fin1 =>
   rintro c st' ⟨_,na,nb,o,ac,bc,rfl,m,b1,b2,b3,b4,b5,b6⟩
   omega
  case step1 =>
   rintro y c st2 _ hy ⟨e2,na1,nb1,o,ac,bc,rfl,m,b1,b2,b3,b4,b5,b6⟩
   rw [e2]
   clear e2
   obtain ⟨na,rfl⟩:∃ q,na1=q+1:=⟨na1 - 1,by omega⟩
   obtain ⟨nb,rfl⟩:∃ q,nb1=q+1:=⟨nb1 - 1,by omega⟩
   dsimp only
   simp only [Nat.add_sub_cancel]
   obtain ⟨pb,hpb,dpb⟩:=atB (i:=nb) (by omega)
   obtain ⟨pa,hpa,dpa⟩:=atA (i:=na) (by omega)
   refine wpS_bind (Jz hpb (wpS_bind (Jz hpa (wpS_bind (J3t C (sm.1.trans hk) dpb dpa ?_)))))
   by_cases hw:rk pb.1<rk pa.1
   ·first | refine Jy (decide_eq_true hw) ?_ | rw [if_pos (decide_eq_true hw)]
    refine wpS_bind (Jz hpa ?_)
    have m':MHi rk a.toList b.toList (o.push pa).toList.reverse na (nb+1):=by rw [eP];exact m.stA ua hpa fun z hz=>Nat.le_trans (J4f ub (JU hpb) z hz) (Nat.le_of_lt hw)
    by_cases g1:(na == 0)=true
    ·first | refine Jy g1 ?_ | rw [if_pos g1]
     exact wpS_pure ⟨rfl,.inl ⟨_,_,_,_,_,_,rfl,dn m' (.inl (beq_iff_eq.mp g1))⟩⟩
    ·first | refine JP g1 ?_ | rw [if_neg g1]
     have g1':0<na:=by have:¬ na=0:=fun z=>g1 (beq_iff_eq.mpr z);omega
     by_cases g2:ac+1≥mg
     ·first | refine Jy g2 ?_ | rw [if_pos g2]
      exact wpS_pure ⟨rfl,.inr ⟨_,_,_,_,_,rfl,m',g1',by omega,b3,b4,by omega⟩⟩
     ·first | refine JP g2 ?_ | rw [if_neg g2]
      exact wpS_pure ⟨rfl,_,_,_,_,_,rfl,m',g1',by omega,b3,b4,by omega,by omega⟩
   ·first | refine JP (by rw [decide_eq_false hw];exact Bool.false_ne_true) ?_ | rw [if_neg (by rw [decide_eq_false hw];exact Bool.false_ne_true)]
    refine wpS_bind (Jz hpb ?_)
    have m':MHi rk a.toList b.toList (o.push pb).toList.reverse (na+1) nb:=by rw [eP];exact m.stB ub hpb fun z hz=>Nat.le_trans (J4f ua (JU hpa) z hz) (by omega)
    by_cases g1:(nb == 1)=true
    ·first | refine Jy g1 ?_ | rw [if_pos g1]
     exact wpS_pure ⟨rfl,.inl ⟨_,_,_,_,_,_,rfl,fB m' (beq_iff_eq.mp g1)⟩⟩
    ·first | refine JP g1 ?_ | rw [if_neg g1]
     have g1':1<nb:=by have:¬ nb=1:=fun z=>g1 (beq_iff_eq.mpr z);omega
     by_cases g2:bc+1≥mg
     ·first | refine Jy g2 ?_ | rw [if_pos g2]
      exact wpS_pure ⟨rfl,.inr ⟨_,_,_,_,_,rfl,m',b1,b2,g1',by omega,by omega⟩⟩
     ·first | refine JP g2 ?_ | rw [if_neg g2]
      exact wpS_pure ⟨rfl,_,_,_,_,_,rfl,m',b1,b2,g1',by omega,by omega,by omega⟩
  case post1 =>
   clear m b1 b2 b3 b4 b5
   rintro c st2 ⟨e2,⟨l,na,nb,o,ac,bc,rfl,m⟩ | ⟨na,nb,o,ac,bc,rfl,m,b1,b2,b3,b4,b5⟩⟩
   ·rw [e2]
    exact wpS_pure ⟨sm,l,_,_,_,_,rfl,m⟩
   rw [e2]
   clear e2
   refine wpS_bind (wpS_lift (wpAny_rule ⟨rfl,?_⟩))
   refine wpS_bind (wpS_mono (wpS_forRange (I:=fun y c st'=>J23 st st'∧HiI6 rk a b x y c)
    (Q:=fun c st'=>J23 st st'∧(HiI7 rk a b c∨HiI8 rk a b x c)) ?step3 ?fin3 ⟨sm,na,nb,o,_,_,_,rfl,m,b1,b2,b3,b4,b5,by omega⟩) ?post3)
   case fin3 =>
    rintro c st' ⟨_,na,nb,o,mg,ac,bc,rfl,m,b1,b2,b3,b4,b5,b6⟩
    omega
   case post3 =>
    clear m b1 b2 b3 b4 b5
    rintro c st2 ⟨sm,⟨l,na,nb,o,mg,ac,bc,rfl,m⟩ | ⟨na,nb,o,mg,ac,bc,rfl,m,b1,b2,b3,b4,b5⟩⟩
    ·exact wpS_pure ⟨sm,l,_,_,_,_,rfl,m⟩
    ·exact wpS_bind (wpS_modify (wpS_pure ⟨sm,_,_,_,_,rfl,m,b1,b2,b3,b4,by omega⟩))
   case step3 =>
    clear m b1 b2 b3 b4 b5
    rintro y c st2 _ hy ⟨sm2,na,nb1,o,mg2,ac,bc,rfl,m,b1,b2,b3,b4,b5,b6⟩
    obtain ⟨nb,rfl⟩:∃ q,nb1=q+1:=⟨nb1 - 1,by omega⟩
    dsimp only
    simp only [Nat.add_sub_cancel]
    obtain ⟨pb,hpb,dpb⟩:=atB (i:=nb) (by omega)
    apply J7j
    ·intro key
     by_cases hg:mg2 > 1
     ·rw [if_pos hg]
      generalize mg2 - 1=mg3
      revert mg3
      exact key.out
     ·rw [if_neg hg]
      exact key.out mg2
    ·intro mg3
     refine wpS_bind (wpS_modify (wpS_bind (Jz hpb ?_)))
     refine wpS_bind (tim_gallop C (sm2.1.trans hk) dpb (by omega) hDa (by omega) (J2N ua (by omega)) fun k k1 k2 k3=>?_)
     have kt:=J6p k2
     apply J7j
     ·intro key
      have mk:=m.gaA k1 ua k3 (J4f ub (JU hpb))
      rw [← eC] at mk
      by_cases hk0:na - k > 0
      case' pos =>
       first | refine Jy hk0 ?_ | rw [if_pos hk0]
       by_cases g1:(k == 0)=true
       case pos =>
        first | refine Jy g1 ?_ | rw [if_pos g1]
        exact wpS_pure ⟨sm2,.inl ⟨_,_,_,_,_,_,_,rfl,dn mk (.inl (beq_iff_eq.mp g1))⟩⟩
       first | refine JP g1 ?_ | rw [if_neg g1]
       have c1:0<k:=by have:¬ k=0:=fun z=>g1 (beq_iff_eq.mpr z);omega
       have c2:k<a.size:=by omega
       have c3:x+1+k+nb+1≤a.size+b.size:=by omega
       have c4:y+k+nb+1≤a.size+b.size:=by omega
       revert mk c1 c2 c3 c4
       generalize na - k=ka
       generalize o++(a.extract k na).reverse=o2
       revert ka o2
       exact key.out
      case' neg =>
       first | refine JP hk0 ?_ | rw [if_neg hk0]
       obtain rfl:k=na:=by omega
       exact key.out _ _ m b1 b2 (by omega) (by omega)
     ·intro ka o2 mk c1 c2 c3 c4
      clear m b1 b2 b5 b6 k2 k3 k1
      refine wpS_bind (Jz hpb ?_)
      have m':MHi rk a.toList b.toList (o2.push pb).toList.reverse k nb:=by rw [eP];exact mk.stB ub hpb kt
      by_cases g3:(nb == 1)=true
      case pos =>
       first | refine Jy g3 ?_ | rw [if_pos g3]
       exact wpS_pure ⟨sm2,.inl ⟨_,_,_,_,_,_,_,rfl,fB m' (beq_iff_eq.mp g3)⟩⟩
      first | refine JP g3 ?_ | rw [if_neg g3]
      have g3':1<nb:=by have:¬ nb=1:=fun z=>g3 (beq_iff_eq.mpr z);omega
      obtain ⟨k,rfl⟩:∃ q,k=q+1:=⟨k - 1,by omega⟩
      simp only [Nat.add_sub_cancel]
      obtain ⟨pa,hpa,dpa⟩:=atA (i:=k) (by omega)
      refine wpS_bind (Jz hpa ?_)
      refine wpS_bind (tim_gallop C (sm2.1.trans hk) dpa (by omega) hDb (by omega) (J2N ub (by omega)) fun j j1 j2 j3=>?_)
      have jt:=J6p j2
      apply J7j
      ·intro key
       have mj:=m'.gaB j1 ub j3 (J4f ua (JU hpa))
       rw [← eC] at mj
       by_cases hj0:nb - j > 0
       case' pos =>
        first | refine Jy hj0 ?_ | rw [if_pos hj0]
        by_cases g4:(j == 1)=true
        case pos =>
         first | refine Jy g4 ?_ | rw [if_pos g4]
         exact wpS_pure ⟨sm2,.inl ⟨_,_,_,_,_,_,_,rfl,fB mj (beq_iff_eq.mp g4)⟩⟩
        first | refine JP g4 ?_ | rw [if_neg g4]
        by_cases g6:(j == 0)=true
        case pos =>
         first | refine Jy g6 ?_ | rw [if_pos g6]
         exact wpS_pure ⟨sm2,.inl ⟨_,_,_,_,_,_,_,rfl,dn mj (.inr (beq_iff_eq.mp g6))⟩⟩
        first | refine JP g6 ?_ | rw [if_neg g6]
        have d1:1<j:=by
         have:¬ j=1:=fun z=>g4 (beq_iff_eq.mpr z)
         have:¬ j=0:=fun z=>g6 (beq_iff_eq.mpr z)
         omega
        have d2:j≤nb:=j1
        revert mj d1 d2
        generalize nb - j=kb
        generalize (o2.push pb)++(b.extract j nb).reverse=o3
        revert kb o3
        exact key.out
       case' neg =>
        first | refine JP hj0 ?_ | rw [if_neg hj0]
        obtain rfl:j=nb:=by omega
        exact key.out _ _ m' g3' (Nat.le_refl _)
      ·intro kb o3 mj d1 d2
       clear j1 j2 j3
       refine wpS_bind (Jz hpa ?_)
       have m4:MHi rk a.toList b.toList (o3.push pa).toList.reverse k j:=by rw [eP];exact mj.stA ua hpa jt
       by_cases g5:(k == 0)=true
       case pos =>
        first | refine Jy g5 ?_ | rw [if_pos g5]
        exact wpS_pure ⟨sm2,.inl ⟨_,_,_,_,_,_,_,rfl,dn m4 (.inl (beq_iff_eq.mp g5))⟩⟩
       first | refine JP g5 ?_ | rw [if_neg g5]
       have g5':0<k:=by have:¬ k=0:=fun z=>g5 (beq_iff_eq.mpr z);omega
       split
       ·exact wpS_pure ⟨sm2,.inr ⟨_,_,_,_,_,_,rfl,m4,g5',by omega,d1,by omega,by omega⟩⟩
       ·exact wpS_pure ⟨sm2,_,_,_,_,_,_,rfl,m4,g5',by omega,d1,by omega,by omega,by omega⟩
end
end L2
namespace L2
open PySem PyProof.Rows
theorem J7L (sa:Nat):∀ (l:List Keyed) (k:Nat) (arr:Array Keyed),sa+k+l.length≤arr.size→((l.zipIdx k).foldl (fun a (x:Keyed×Nat)=>a.setIfInBounds (sa+x.2) x.1) arr).toList=arr.toList.take (sa+k)++(l++arr.toList.drop (sa+k+l.length))
 | [],k,arr,h=>by simp
 | p :: l,k,arr,h=>by
   rw [List.length_cons] at h
   rw [List.zipIdx_cons,List.foldl_cons,J7L sa l (k+1) _ (by rw [Array.size_setIfInBounds];omega),Array.toList_setIfInBounds]
   have hlt:sa+k<arr.toList.length:=by rw [Array.length_toList];omega
   have e1:(arr.toList.set (sa+k) p).take (sa+(k+1))=arr.toList.take (sa+k)++[p]:=by
    rw [← Nat.add_assoc,List.take_succ_eq_append_getElem (by rw [List.length_set];exact hlt),List.getElem_set_self,List.take_set_of_le (by omega)]
   have e2:(arr.toList.set (sa+k) p).drop (sa+(k+1)+l.length)=arr.toList.drop (sa+k+(p::l).length):=by
    rw [List.drop_set_of_lt (by omega),List.length_cons]
    congr 1
    omega
   rw [e1,e2]
   simp
theorem J3F {ps1 ps2:List (Nat×Nat×Nat)}{x y z:Nat×Nat×Nat}{p:Array (Nat×Nat×Nat)}(h:p.toList=ps1++x::y::ps2):((p.setIfInBounds ps1.length z).eraseIdxIfInBounds (ps1.length+1)).toList=ps1++z::ps2:=by
 rw [Array.toList_eraseIdxIfInBounds,Array.toList_setIfInBounds,h,List.set_append_right _ _ (Nat.le_refl _),Nat.sub_self,List.set_cons_zero,List.eraseIdx_append_of_length_le (by omega)]
 rw [show ps1.length+1 - ps1.length=1 by omega]
 rfl
theorem J4t {rk:Value→Nat}{a:Array Keyed}{base n:Nat}{left:Bool}{key:Keyed}{P l R:List Keyed}(e:a.toList=P++(l++R))(hP:P.length=base)(hn:n=l.length)(u:Up rk l):∀ i j,i≤j→j<n→bey rk left key a base j=true→bey rk left key a base i=true:=fun i j hij hj h=>by
 have at':∀ i,i<n→a[base+i]?=l[i]?:=fun i hi=>by
  rw [← Array.getElem?_toList,e,List.getElem?_append_right (by omega),hP,List.getElem?_append_left (by omega)]
  congr 1
  omega
 have hi':i<l.length:=by omega
 have hj':j<l.length:=by omega
 have ei:=(at' i (by omega)).trans (List.getElem?_eq_getElem hi')
 have ej:=(at' j (by omega)).trans (List.getElem?_eq_getElem hj')
 have le:rk l[i].1≤rk l[j].1:=by
  rcases Nat.lt_or_eq_of_le hij with q | rfl
  ·exact (List.pairwise_iff_getElem.mp u) i j hi' hj' q
  ·exact Nat.le_refl _
 unfold bey at h ⊢
 rw [ej] at h
 rw [ei]
 cases left with
 | true=>simp only [if_true,decide_eq_true_eq] at h ⊢;omega
 | false=>simp only [Bool.false_eq_true,if_false,Bool.not_eq_true',decide_eq_false_iff_not] at h ⊢;omega
section
variable {prog:Program}{w:World}{A:Around}{E:Value→Shared→Prop}{s:Shared}{kd:SortKind}{D:Value→Prop}{rk:Value→Nat}
theorem JaA {M:Model}{st st':SortSt}{Q:PUnit→SortSt→Prop}(h:Q ⟨⟩ st'):wpS M A E s (set st':StateT SortSt Sem PUnit) Q st:=by
 unfold wpS;rw [StateT.run_set];exact wpAny_pure ⟨rfl,h⟩
theorem tim_mergeAt (C:Cmp prog w A s kd D rk){st:SortSt}{i sa na pw sb nb pw2:Nat}{ps1 ps2:List (Nat×Nat×Nat)}{P la lb R:List Keyed}{Q:Bool→SortSt→Prop}(hk:kindOf st=kd)(hf:failedOf st=none)(hD:∀ p∈(arrOf st).toList,D p.1)
 (hp:(pendingOf st).toList=ps1++(sa,na,pw)::(sb,nb,pw2)::ps2) (hi:ps1.length=i) (ha:(arrOf st).toList=P++(la++(lb++R))) (hP:P.length=sa) (hla:la.length=na) (hsb:sb=sa+na) (hlb:lb.length=nb) (a0:0<na) (b0:0<nb) (ua:Up rk la) (ub:Up rk lb)
 (h:∀ st' l,kindOf st'=kd→failedOf st'=none→J0C rk la lb l→(arrOf st').toList=P++(l++R)→(pendingOf st').toList=ps1++(sa,na+nb,pw)::ps2→Q true st'):wpS (model prog w) A E s (mergeAt' i) Q st:=by
 subst hi hP hla hsb hlb
 have p1:(pendingOf st)[ps1.length]?=some (P.length,la.length,pw):=by rw [← Array.getElem?_toList,hp];simp
 have p2:(pendingOf st)[ps1.length+1]?=some (P.length+la.length,lb.length,pw2):=by rw [← Array.getElem?_toList,hp,List.getElem?_append_right (by omega)];simp
 have hsz:(arrOf st).size=P.length+(la.length+(lb.length+R.length)):=by rw [← Array.length_toList,ha];simp
 have atA:∀ j,j<la.length→(arrOf st)[P.length+j]?=la[j]?:=fun j hj=>by
  rw [← Array.getElem?_toList,ha,List.getElem?_append_right (by omega),List.getElem?_append_left (by omega)]
  congr 1;omega
 have atB:∀ j,j<lb.length→(arrOf st)[P.length+la.length+j]?=lb[j]?:=fun j hj=>by
  rw [← Array.getElem?_toList,ha,List.getElem?_append_right (by omega),List.getElem?_append_right (by omega),List.getElem?_append_left (by omega)]
  congr 1;omega
 have dA:∀ p∈la,D p.1:=fun p hp=>hD p (by rw [ha];simp [hp])
 have dB:∀ p∈lb,D p.1:=fun p hp=>hD p (by rw [ha];simp [hp])
 unfold mergeAt'
 refine wpS_bind (wpS_get ?_)
 have q1:=p1
 have q2:=p2
 unfold pendingOf at q1 q2
 rw [q1,q2]
 refine wpS_bind (JaA ?_)
 have hst:∀ (x:SortSt),kindOf x=kindOf st→kindOf x=kd:=fun x e=>e.trans hk
 obtain ⟨fb,hfb⟩:∃ p,lb[0]?=some p:=⟨lb[0],List.getElem?_eq_getElem b0⟩
 have efb:(arrOf st)[P.length+la.length]?=some fb:=by have:=atB 0 b0;rw [Nat.add_zero,hfb] at this;exact this
 have dfb:D fb.1:=dB _ (List.mem_of_getElem? hfb)
 refine wpS_bind (Jz efb ?_)
 refine wpS_bind (tim_gallop C hk dfb (by show _≤(arrOf st).size;omega) hD a0 (J4t ha rfl rfl ua) fun k k1 k2 k3=>?_)
 dsimp only
 have eb:∀ {left:Bool} {key:Keyed} {j:Nat} (hj:j<la.length),bey rk left key (arrOf st) P.length j=(if left then decide (rk la[j].1<rk key.1) else !decide (rk key.1<rk la[j].1)):=fun {left key j} hj=>by
  unfold bey
  rw [atA j hj,List.getElem?_eq_getElem hj]
 have ec:∀ {left:Bool} {key:Keyed} {j:Nat} (hj:j<lb.length),bey rk left key (arrOf st) (P.length+la.length) j=(if left then decide (rk lb[j].1<rk key.1) else !decide (rk key.1<rk lb[j].1)):=fun {left key j} hj=>by
  unfold bey
  rw [atB j hj,List.getElem?_eq_getElem hj]
 have lowA:∀ x∈la.take k,rk x.1≤rk fb.1:=fun x hx=>by
  obtain ⟨j,hj,e⟩:=J3O hx
  have hj':j<la.length:=by omega
  rw [List.getElem?_eq_getElem hj'] at e
  cases e
  have:=k2 j hj
  rw [eb hj'] at this
  simpa using this
 have fbB:∀ y∈lb,rk fb.1≤rk y.1:=fun y hy=>J1n ub hfb y (by simpa using hy)
 have lk:(la.take k).length=k:=by rw [List.length_take];omega
 by_cases g1:(la.length - k == 0)=true
 ·rw [if_pos g1]
  have ek:k=la.length:=by have:=beq_iff_eq.mp g1;omega
  refine wpS_pure (h _ (la++lb) hk hf ⟨List.Perm.refl _,List.pairwise_append.mpr ⟨ua,ub,fun x hx y hy=>Nat.le_trans (lowA x (by rw [ek,List.take_length];exact hx)) (fbB y hy)⟩⟩ (by rw [List.append_assoc];exact ha) (J3F hp))
 rw [if_neg g1]
 have hkl:k<la.length:=by have:¬ la.length - k=0:=fun z=>g1 (beq_iff_eq.mpr z);omega
 obtain ⟨n,hn⟩:∃ n,la.length=n+1:=⟨la.length - 1,by omega⟩
 obtain ⟨al,hal⟩:∃ p,la[n]?=some p:=⟨la[n],List.getElem?_eq_getElem (by omega)⟩
 have eal:(arrOf st)[P.length+k+(la.length - k) - 1]?=some al:=by
  have:=atA n (by omega)
  rw [hal] at this
  rw [show P.length+k+(la.length - k) - 1=P.length+n by omega]
  exact this
 have dal:D al.1:=dA _ (List.mem_of_getElem? hal)
 refine wpS_bind (Jz eal ?_)
 have ha2:(arrOf st).toList=(P++la)++(lb++R):=by rw [ha,List.append_assoc]
 refine wpS_bind (tim_gallop C hk dal (by show _≤(arrOf st).size;omega) hD (by omega) (J4t ha2 (by simp) rfl ub) fun j j1 j2 j3=>?_)
 dsimp only
 have alA:∀ x∈la,rk x.1≤rk al.1:=fun x hx=>J4f ua hal x (by rw [← hn,List.take_length];exact hx)
 have hiB:∀ y∈lb.drop j,rk al.1≤rk y.1:=fun y hy=>by
  obtain ⟨q,hq⟩:=List.mem_iff_getElem?.mp hy
  rw [List.getElem?_drop] at hq
  have hlt:j+q<lb.length:=(List.getElem?_eq_some_iff.mp hq).1
  rw [List.getElem?_eq_getElem hlt] at hq
  cases hq
  have:=j3 (j+q) (by omega) hlt
  rw [ec hlt] at this
  simpa using this
 have loB:∀ y∈lb.take j,rk y.1≤rk al.1:=fun y hy=>by
  obtain ⟨q,hq,e⟩:=J3O hy
  have hlt:q<lb.length:=by omega
  rw [List.getElem?_eq_getElem hlt] at e
  cases e
  have:=j2 q hq
  rw [ec hlt] at this
  exact Nat.le_of_lt (by simpa using this)
 by_cases g2:(j == 0)=true
 ·rw [if_pos g2]
  have ej:j=0:=beq_iff_eq.mp g2
  refine wpS_pure (h _ (la++lb) hk hf ⟨List.Perm.refl _,List.pairwise_append.mpr ⟨ua,ub,fun x hx y hy=>Nat.le_trans (alA x hx) (hiB y (by rw [ej];exact hy))⟩⟩ (by rw [List.append_assoc];exact ha) (J3F hp))
 rw [if_neg g2]
 have hj0:0<j:=by have:¬ j=0:=fun z=>g2 (beq_iff_eq.mpr z);omega
 have ex:((arrOf st).extract (P.length+k) (P.length+la.length)).toList=la.drop k:=by
  rw [Array.toList_extract,List.extract_eq_drop_take,ha,show P.length+la.length - (P.length+k)=la.length - k by omega,← List.drop_drop,List.drop_left,List.drop_append_of_le_length (by omega),List.take_left' (by rw [List.length_drop])]
 have ey:((arrOf st).extract (P.length+la.length) (P.length+la.length+j)).toList=lb.take j:=by
  rw [Array.toList_extract,List.extract_eq_drop_take,ha2,show P.length+la.length+j - (P.length+la.length)=j by omega,List.drop_left' (by simp),List.take_append_of_le_length (by omega)]
 generalize (arrOf st).extract (P.length+k) (P.length+la.length)=x at ex
 have ey':((arrOf st).extract (P.length+la.length) (P.length+la.length+j)).toList=lb.take j:=ey
 clear ey
 generalize (arrOf st).extract (P.length+la.length) (P.length+la.length+j)=y at ey'
 obtain ⟨fa,hfa⟩:∃ p,la[k]?=some p:=⟨la[k],List.getElem?_eq_getElem hkl⟩
 have x0:x[0]?=some fa:=by rw [← Array.getElem?_toList,ex,List.getElem?_drop,Nat.add_zero];exact hfa
 have y0:y[0]?=some fb:=by rw [← Array.getElem?_toList,ey',List.getElem?_take_of_lt hj0];exact hfb
 have hle:rk fb.1≤rk fa.1:=by
  have:=k3 k (Nat.le_refl _) hkl
  rw [show bey rk false fb (arrOf st) P.length k=_ from eb hkl] at this
  have e:la[k]=fa:=by have:=hfa;rw [List.getElem?_eq_getElem hkl] at this;exact Option.some.inj this
  rw [e] at this
  exact Nat.le_of_lt (by simpa using this)
 have xs:x.size=(n - k)+1:=by rw [← Array.length_toList,ex,List.length_drop];omega
 have xl:x[n - k]?=some al:=by rw [← Array.getElem?_toList,ex,List.getElem?_drop,show k+(n - k)=n by omega];exact hal
 have uax:Up rk x.toList:=by rw [ex];exact List.Pairwise.sublist (List.drop_sublist _ _) ua
 have uby:Up rk y.toList:=by rw [ey'];exact List.Pairwise.sublist (List.take_sublist _ _) ub
 have dax:∀ p∈x.toList,D p.1:=fun p hp=>dA p (by rw [ex] at hp;exact List.mem_of_mem_drop hp)
 have dby:∀ p∈y.toList,D p.1:=fun p hp=>dB p (by rw [ey'] at hp;exact List.mem_of_mem_take hp)
 have lst:∀ z∈y.toList,rk z.1≤rk al.1:=fun z hz=>loB z (by rw [ey'] at hz;exact hz)
 have key:∀ (l:Array Keyed) (st2:SortSt),J23 (SortSt.mk' (kindOf st) (arrOf st) (((pendingOf st).setIfInBounds ps1.length (P.length,la.length+lb.length,pw)).eraseIdxIfInBounds (ps1.length+1)) (gallopOf st) (failedOf st)) st2→J0C rk x.toList y.toList l.toList →
  ∀ st3:SortSt,kindOf st3=kindOf st2→pendingOf st3=pendingOf st2→failedOf st3=failedOf st2→arrOf st3=l.toList.zipIdx.foldl (fun a (x:Keyed×Nat)=>a.setIfInBounds (P.length+k+x.2) x.1) (arrOf st2)→Q true st3:=by
  rintro l st2 ⟨s1,s2,s3,s4⟩ ⟨mp,mu⟩ st3 t1 t2 t3 t4
  have ll:l.toList.length=(la.length - k)+j:=by rw [mp.length_eq,List.length_append,ex,ey',List.length_drop,List.length_take];omega
  have e2:arrOf st2=arrOf st:=s2
  have hlen:P.length+k+0+l.toList.length≤(arrOf st).size:=by omega
  have e3:(arrOf st3).toList=(P++la.take k)++(l.toList++(lb.drop j++R)):=by
   rw [t4,e2,J7L (P.length+k) l.toList 0 _ hlen,Nat.add_zero]
   congr 1
   ·rw [ha,List.take_append,List.take_of_length_le (by omega),show P.length+k - P.length=k by omega,List.take_append_of_le_length (by omega)]
   ·congr 1
    rw [ll,ha2,show P.length+k+(la.length - k+j)=(P++la).length+j by rw [List.length_append];omega,List.drop_append,List.drop_eq_nil_of_le (by omega),show (P++la).length+j - (P++la).length=j by omega,List.nil_append,List.drop_append_of_le_length (by omega)]
  refine h st3 (la.take k++(l.toList++lb.drop j)) (t1.trans (s1.trans hk)) (t3.trans (s4.trans hf)) ⟨?_,?_⟩ ?_ ?_
  ·rw [ex,ey'] at mp
   have p1:(la.take k++(l.toList++lb.drop j)).Perm (la.take k++((la.drop k++lb.take j)++lb.drop j)):=List.Perm.append_left _ (List.Perm.append_right _ mp)
   refine p1.trans (List.Perm.of_eq ?_)
   rw [List.append_assoc,List.take_append_drop,← List.append_assoc,List.take_append_drop]
  ·rw [ex,ey'] at mp
   have ud:Up rk (la.take k++la.drop k):=by rw [List.take_append_drop];exact ua
   have ue:Up rk (lb.take j++lb.drop j):=by rw [List.take_append_drop];exact ub
   obtain ⟨u1,u2,u3⟩:=List.pairwise_append.mp ud
   obtain ⟨v1,v2,v3⟩:=List.pairwise_append.mp ue
   refine List.pairwise_append.mpr ⟨u1,List.pairwise_append.mpr ⟨mu,v2,fun z hz y hy=>?_⟩,fun z hz y hy=>?_⟩
   ·rcases List.mem_append.mp (mp.mem_iff.mp hz) with q | q
    ·exact Nat.le_trans (alA z (List.mem_of_mem_drop q)) (hiB y hy)
    ·exact v3 z q y hy
   ·rcases List.mem_append.mp hy with q | q
    ·rcases List.mem_append.mp (mp.mem_iff.mp q) with q | q
     ·exact u3 z hz y q
     ·exact Nat.le_trans (lowA z hz) (fbB y (List.mem_of_mem_take q))
    ·exact Nat.le_trans (lowA z hz) (fbB y (List.mem_of_mem_drop q))
  ·rw [e3]
   simp [List.append_assoc]
  ·rw [t2,show pendingOf st2=_ from s3]
   exact J3F hp
 by_cases g3:la.length - k≤j
 ·rw [if_pos g3]
  refine wpS_bind (tim_mergeLo C hk dax dby uax uby y0 x0 hle xs xl lst fun l st2 sm mm=>?_)
  refine wpS_bind (wpS_modify (wpS_bind (wpS_get (wpS_pure ?_))))
  have e:failedOf st2=none:=sm.2.2.2.trans hf
  have e':(failedOf st2).isNone=true:=by rw [e];rfl
  show Q (failedOf st2).isNone _
  rw [e']
  exact key l st2 sm mm _ rfl rfl rfl rfl
 ·rw [if_neg g3]
  refine wpS_bind (tim_mergeHi C hk dax dby uax uby y0 x0 hle xs xl lst fun l st2 sm mm=>?_)
  refine wpS_bind (wpS_modify (wpS_bind (wpS_get (wpS_pure ?_))))
  have e:failedOf st2=none:=sm.2.2.2.trans hf
  have e':(failedOf st2).isNone=true:=by rw [e];rfl
  show Q (failedOf st2).isNone _
  rw [e']
  exact key l st2 sm mm _ rfl rfl rfl rfl
end
end L2
namespace L2
open PySem PyProof.Rows
noncomputable def ra (rk:Value→Nat)(arr:Array Keyed)(i:Nat):Nat :=
 match arr[i]? with
 | some p=>rk p.1
 | none=>0
def Inc (rk:Value→Nat)(arr:Array Keyed)(lo n:Nat):Prop:=∀ i j,i≤j→j<n→ra rk arr (lo+i)≤ra rk arr (lo+j)
def Dec (rk:Value→Nat)(arr:Array Keyed)(lo n:Nat):Prop:=∀ i j,i≤j→j<n→ra rk arr (lo+j)≤ra rk arr (lo+i)
theorem J2U {rk:Value→Nat}{xs:Array Keyed}{i j:Nat}(hj:j≤xs.size)(k:Nat):ra rk (mirror xs i j ((j - i) / 2)) k=if i≤k∧k<j then ra rk xs (i+j - 1 - k) else ra rk xs k:=by
 unfold ra
 rw [getElem?_mirror_all hj]
 by_cases q:i≤k∧k<j
 ·rw [if_pos q,if_pos q]
 ·rw [if_neg q,if_neg q]
theorem J4i {rk:Value→Nat}{xs:Array Keyed}{src d:Nat}(hs:src<xs.size)(hd:d≤src)(k:Nat):ra rk (bubble xs src d) k=if k=src - d then ra rk xs src else if src - d<k∧k≤src then ra rk xs (k - 1) else ra rk xs k:=by
 unfold ra
 rw [getElem?_bubble hs d hd]
 by_cases q:k=src - d
 ·rw [if_pos q,if_pos q]
 ·rw [if_neg q,if_neg q]
  by_cases q2:src - d<k∧k≤src
  ·rw [if_pos q2,if_pos q2]
  ·rw [if_neg q2,if_neg q2]
theorem J1K {rk:Value→Nat}{xs:Array Keyed}{i j:Nat}(hj:j≤xs.size)(h:∀ k,i≤k→k<j→ra rk xs k=ra rk xs (j - 1))(k:Nat):ra rk (mirror xs i j ((j - i) / 2)) k=ra rk xs k:=by
 rw [J2U hj]
 split
 ·rw [h _ (by omega) (by omega),h k (by omega) (by omega)]
 ·rfl
structure SB (st0 st:SortSt)(lo n:Nat):Prop where
 kind:kindOf st=kindOf st0
 failed:failedOf st=failedOf st0
 pend:pendingOf st=pendingOf st0
 perm:(arrOf st).Perm (arrOf st0)
 out:∀ i,(i<lo∨lo+n≤i)→(arrOf st)[i]?=(arrOf st0)[i]?
theorem SB.refl (st:SortSt)(lo n:Nat):SB st st lo n:=⟨rfl,rfl,rfl,Array.Perm.refl _,fun _ _=>rfl⟩
theorem SB.size {st0 st:SortSt}{lo n:Nat}(h:SB st0 st lo n):(arrOf st).size=(arrOf st0).size:=h.perm.size_eq
theorem SB.mirr {st0 st:SortSt}{lo n i j:Nat}(h:SB st0 st lo n)(hi:lo≤i)(hj:j≤lo+n)(hz:lo+n≤(arrOf st0).size):SB st0 (setArr st (mirror (arrOf st) i j ((j - i) / 2))) lo n :=
 ⟨h.kind,h.failed,h.pend,(mirror_perm _ _ _ _).trans h.perm,fun k hk=>by
  show (mirror (arrOf st) i j ((j - i) / 2))[k]?=_
  rw [getElem?_mirror_all (by rw [h.size];omega),if_neg (by omega)]
  exact h.out k hk⟩
theorem SB.bubb {st0 st:SortSt}{lo n src d:Nat}(h:SB st0 st lo n)(hs:src<lo+n)(hd:lo+d≤src)(hz:lo+n≤(arrOf st0).size):SB st0 (setArr st (bubble (arrOf st) src d)) lo n :=
 ⟨h.kind,h.failed,h.pend,(bubble_perm _ _ _).trans h.perm,fun k hk=>by
  show (PyProof.Rows.bubble (arrOf st) src d)[k]?=_
  rw [getElem?_bubble (by rw [h.size];omega) d (by omega),if_neg (by omega),if_neg (by omega)]
  exact h.out k hk⟩
section
variable {prog:Program}{w:World}{A:Around}{E:Value→Shared→Prop}{s:Shared}{kd:SortKind}{D:Value→Prop}{rk:Value→Nat}
theorem J1y (C:Cmp prog w A s kd D rk){st0 st:SortSt}{lo n i j:Nat}{Q:Option Bool→SortSt→Prop}(hB:SB st0 st lo n)(hk:kindOf st0=kd)(hD:∀ p∈(arrOf st0).toList,D p.1)(hi:i<(arrOf st0).size)(hj:j<(arrOf st0).size)
 (h:Q (some (decide (ra rk (arrOf st) i<ra rk (arrOf st) j))) st):wpS (model prog w) A E s (ltAt' i j) Q st:=by
 have at':∀ i,i<(arrOf st0).size→∃ p,(arrOf st)[i]?=some p∧D p.1∧ra rk (arrOf st) i=rk p.1:=fun i hi=>by
  have hi':i<(arrOf st).size:=by rw [hB.size];exact hi
  have e:(arrOf st)[i]?=some (arrOf st)[i]:=getElem?_pos (arrOf st) i hi'
  exact ⟨_,e,hD _ ((Array.perm_iff_toList_perm.mp hB.perm).mem_iff.mp (by simp)),by unfold ra;rw [e]⟩
 obtain ⟨p,ep,dp,rp⟩:=at' i hi
 obtain ⟨q,eq,dq,rq⟩:=at' j hj
 rw [rp,rq] at h
 rw [ltAt'_eq]
 exact wpS_bind (wpS_get (wpS_bind (Jz ep (wpS_bind (Jz eq (J3t C (hB.kind.trans hk) dp dq h))))))
theorem J6a {arr:Array Keyed}{lo x:Nat}(h:Inc rk arr lo x)(hx:1≤x)(hl:ra rk arr (lo+(x - 1))≤ra rk arr (lo+x)):Inc rk arr lo (x+1):=fun i j hij hj=>by
 by_cases hjx:j<x
 ·exact h i j hij hjx
 ·obtain rfl:j=x:=by omega
  by_cases hi:i=j
  ·subst hi;exact Nat.le_refl _
  ·exact Nat.le_trans (h i (j - 1) (by omega) (by omega)) hl
theorem J2K {arr:Array Keyed}{lo x:Nat}(h:Dec rk arr lo x)(hx:1≤x)(hl:ra rk arr (lo+x)≤ra rk arr (lo+(x - 1))):Dec rk arr lo (x+1):=fun i j hij hj=>by
 by_cases hjx:j<x
 ·exact h i j hij hjx
 ·obtain rfl:j=x:=by omega
  by_cases hi:i=j
  ·subst hi;exact Nat.le_refl _
  ·exact Nat.le_trans hl (h i (j - 1) (by omega) (by omega))
theorem tim_countRun (C:Cmp prog w A s kd D rk){st:SortSt}{lo nrem:Nat}{Q:Option Nat→SortSt→Prop}(hk:kindOf st=kd)(hD:∀ p∈(arrOf st).toList,D p.1)(hz:lo+nrem≤(arrOf st).size)(h1:1≤nrem)
 (h:∀ m st',SB st st' lo nrem→1≤m→m≤nrem→Inc rk (arrOf st') lo m→Q (some m) st'):wpS (model prog w) A E s (countRun' lo nrem) Q st:=by
 rw [countRun'_eq]
 refine wpS_bind (wpS_mono (wpS_forRange (I:=fun x c st'=>st'=st∧c=(none,x)∧Inc rk (arrOf st) lo x) (Q:=fun c st'=>st'=st∧∃ n,c=(none,n)∧1≤n∧n≤nrem∧Inc rk (arrOf st) lo n∧(n=nrem∨ra rk (arrOf st) (lo+n)<ra rk (arrOf st) (lo+n - 1))) ?step ?fin ⟨rfl,rfl,fun i j hij hj=>by obtain rfl:i=j:=(by omega);exact Nat.le_refl _⟩) ?post)
 case fin =>
  rintro c st' ⟨e,rfl,hs⟩
  rw [show max 1 nrem=nrem by omega] at hs ⊢
  exact ⟨e,nrem,rfl,h1,Nat.le_refl _,hs,.inl rfl⟩
 case step =>
  rintro x c st' hx1 hx2 ⟨e,rfl,hs⟩
  rw [e]
  dsimp only
  refine wpS_bind (J1y C (SB.refl st lo nrem) hk hD (by omega) (by omega) ?_)
  dsimp only
  by_cases hl:ra rk (arrOf st) (lo+x)<ra rk (arrOf st) (lo+x - 1)
  ·rw [if_pos (decide_eq_true hl)]
   exact wpS_pure ⟨rfl,x,rfl,hx1,by omega,hs,.inr hl⟩
  ·rw [if_neg (by rw [decide_eq_false hl];exact Bool.false_ne_true)]
   exact wpS_pure ⟨rfl,rfl,J6a hs hx1 (by rw [show lo+(x - 1)=lo+x - 1 by omega];omega)⟩
 case post =>
  rintro c st1 ⟨e,n,rfl,n1,n2,hs,hor⟩
  rw [e]
  clear e st1
  dsimp only
  by_cases hn:(n == nrem)=true
  ·rw [if_pos hn]
   exact wpS_pure (h n st (SB.refl _ _ _) n1 n2 hs)
  rw [if_neg hn]
  have hne:¬ n=nrem:=fun z=>hn (beq_iff_eq.mpr z)
  have hlt:=hor.resolve_left hne
  have goD:∀ st2:SortSt,SB st st2 lo nrem→(∀ i,ra rk (arrOf st2) i=ra rk (arrOf st) i)→(∀ i,i<n→ra rk (arrOf st) (lo+i)=ra rk (arrOf st) (lo+(n - 1)))→Dec rk (arrOf st2) lo (n+1):=fun st2 _ e1 e2=>J2K (fun i j hij hj=>by rw [e1,e1,e2 i (by omega),e2 j hj];exact Nat.le_refl _) n1 (by rw [e1,e1,show lo+(n - 1)=lo+n - 1 by omega];omega)
  apply J7j
  ·intro key
   by_cases hg:n > 1
   case' pos =>
    rw [if_pos hg]
    refine wpS_bind (J1y C (SB.refl st lo nrem) hk hD (by omega) (by omega) ?_)
    dsimp only
    by_cases hr:ra rk (arrOf st) lo<ra rk (arrOf st) (lo+n - 1)
    case pos =>
     rw [if_pos (decide_eq_true hr)]
     exact wpS_pure (h n st (SB.refl _ _ _) n1 n2 hs)
    rw [if_neg (by rw [decide_eq_false hr];exact Bool.false_ne_true)]
    refine wpS_bind (wpS_reverse ?_)
    have hall:∀ k,lo≤k→k<lo+n→ra rk (arrOf st) k=ra rk (arrOf st) (lo+n - 1):=fun k k1 k2=>by
     have a1:=hs 0 (k - lo) (by omega) (by omega)
     have a2:=hs (k - lo) (n - 1) (by omega) (by omega)
     rw [show lo+(k - lo)=k by omega] at a1 a2
     rw [Nat.add_zero] at a1
     rw [show lo+(n - 1)=lo+n - 1 by omega] at a2
     omega
    have hS:=(SB.refl st lo nrem).mirr (i:=lo) (j:=lo+n) (Nat.le_refl _) (by omega) hz
    have hDc:=goD _ hS (J1K (by omega) hall) (fun i hi=>by rw [hall (lo+i) (by omega) (by omega),show lo+(n - 1)=lo+n - 1 by omega])
    revert hS hDc
    generalize setArr st (mirror (arrOf st) lo (lo+n) ((lo+n - lo) / 2))=st2
    revert st2
    exact key.out
   case' neg =>
    rw [if_neg hg]
    exact key.out st (SB.refl st lo nrem) (goD st (SB.refl st lo nrem) (fun _=>rfl) (fun i hi=>by rw [show i=n - 1 by omega]))
  ·intro st2 hS hDc
   have hnn:n+1≤nrem:=by omega
   refine wpS_bind (wpS_lift (wpAny_rule ⟨rfl,?_⟩))
   refine wpS_bind (wpS_mono (wpS_forRange (I:=fun x c st'=>∃ neq,c=(none,x,neq)∧SB st st' lo nrem∧Dec rk (arrOf st') lo x∧neq+1≤x∧∀ i,x - (neq+1)≤i→i<x→ra rk (arrOf st') (lo+i)=ra rk (arrOf st') (lo+(x - 1)))
    (Q:=fun c st'=>∃ m neq,c=(none,m,neq)∧SB st st' lo nrem∧n+1≤m∧m≤nrem∧Dec rk (arrOf st') lo m∧neq+1≤m∧∀ i,m - (neq+1)≤i→i<m→ra rk (arrOf st') (lo+i)=ra rk (arrOf st') (lo+(m - 1))) ?stepD ?finD ⟨0,rfl,hS,hDc,by omega,fun i h1 h2=>by congr 1;omega⟩) ?postD)
   case finD =>
    rintro c st' ⟨neq,rfl,hB,hd,q1,q2⟩
    rw [show max (n+1) nrem=nrem by omega] at hd q1 q2 ⊢
    exact ⟨nrem,neq,rfl,hB,hnn,Nat.le_refl _,hd,q1,q2⟩
   case stepD =>
    rintro x c st' hx1 hx2 ⟨neq,rfl,hB,hd,q1,q2⟩
    dsimp only
    have hsz:lo+x≤(arrOf st').size:=by rw [hB.size];omega
    refine wpS_bind (J1y C hB hk hD (by omega) (by omega) ?_)
    dsimp only
    by_cases hl:ra rk (arrOf st') (lo+x)<ra rk (arrOf st') (lo+x - 1)
    ·rw [if_pos (decide_eq_true hl)]
     have hl':ra rk (arrOf st') (lo+x)≤ra rk (arrOf st') (lo+(x - 1)):=by rw [show lo+(x - 1)=lo+x - 1 by omega];omega
     by_cases hq:neq > 0
     ·rw [if_pos hq]
      refine wpS_bind (wpS_reverse ?_)
      have he:∀ k,lo+x - (neq+1)≤k→k<lo+x→ra rk (arrOf st') k=ra rk (arrOf st') (lo+x - 1):=fun k k1 k2=>by
       have:=q2 (k - lo) (by omega) (by omega)
       rw [show lo+(k - lo)=k by omega,show lo+(x - 1)=lo+x - 1 by omega] at this
       exact this
      have em:=J1K (rk:=rk) (i:=lo+x - (neq+1)) hsz he
      refine wpS_pure ⟨0,rfl,hB.mirr (by omega) (by omega) hz,J2K (fun i j hij hj=>?_) (by omega) ?_,by omega,fun i h1 h2=>by congr 1;omega⟩
      ·show ra rk (mirror _ _ _ _) _≤ra rk (mirror _ _ _ _) _
       rw [em,em];exact hd i j hij hj
      ·show ra rk (mirror _ _ _ _) _≤ra rk (mirror _ _ _ _) _
       rw [em,em];exact hl'
     ·rw [if_neg hq]
      exact wpS_pure ⟨0,rfl,hB,J2K hd (by omega) hl',by omega,fun i h1 h2=>by congr 1;omega⟩
    ·rw [if_neg (by rw [decide_eq_false hl];exact Bool.false_ne_true)]
     refine wpS_bind (J1y C hB hk hD (by omega) (by omega) ?_)
     dsimp only
     by_cases hm:ra rk (arrOf st') (lo+x - 1)<ra rk (arrOf st') (lo+x)
     ·rw [if_pos (decide_eq_true hm)]
      exact wpS_pure ⟨x,neq,rfl,hB,hx1,by omega,hd,q1,q2⟩
     ·rw [if_neg (by rw [decide_eq_false hm];exact Bool.false_ne_true)]
      have he:ra rk (arrOf st') (lo+x)=ra rk (arrOf st') (lo+(x - 1)):=by rw [show lo+(x - 1)=lo+x - 1 by omega];omega
      refine wpS_pure ⟨neq+1,rfl,hB,J2K hd (by omega) (by omega),by omega,fun i h1 h2=>?_⟩
      rw [show x+1 - 1=x by omega]
      by_cases hi:i=x
      ·rw [hi]
      ·rw [q2 i (by omega) (by omega),he]
   case postD =>
    rintro c st3 ⟨m,neq,rfl,hB,m1,m2,hd,q1,q2⟩
    dsimp only
    have hsz:lo+m≤(arrOf st3).size:=by rw [hB.size];omega
    by_cases hq:neq > 0
    case' pos =>
     rw [if_pos hq]
     refine wpS_bind (wpS_reverse ?_)
     have he:∀ k,lo+m - (neq+1)≤k→k<lo+m→ra rk (arrOf st3) k=ra rk (arrOf st3) (lo+m - 1):=fun k k1 k2=>by
      have:=q2 (k - lo) (by omega) (by omega)
      rw [show lo+(k - lo)=k by omega,show lo+(m - 1)=lo+m - 1 by omega] at this
      exact this
     have em:=J1K (rk:=rk) (i:=lo+m - (neq+1)) hsz he
     have hB4:=hB.mirr (i:=lo+m - (neq+1)) (j:=lo+m) (by omega) (by omega) hz
     have hd4:Dec rk (arrOf (setArr st3 (mirror (arrOf st3) (lo+m - (neq+1)) (lo+m) ((lo+m - (lo+m - (neq+1))) / 2)))) lo m:=fun i j hij hj=>by
      show ra rk (mirror _ _ _ _) _≤ra rk (mirror _ _ _ _) _
      rw [em,em];exact hd i j hij hj
     generalize setArr st3 (mirror (arrOf st3) (lo+m - (neq+1)) (lo+m) ((lo+m - (lo+m - (neq+1))) / 2))=st4 at *
    case' neg =>
     rw [if_neg hq]
     have hB4:=hB
     have hd4:=hd
     generalize hst4:st3=st4 at hB4 hd4 ⊢
    all_goals
     refine wpS_bind (wpS_reverse ?_)
     have hsz4:lo+m≤(arrOf st4).size:=by rw [hB4.size];omega
     have hB5:=hB4.mirr (i:=lo) (j:=lo+m) (Nat.le_refl _) (by omega) hz
     have hi5:Inc rk (arrOf (setArr st4 (mirror (arrOf st4) lo (lo+m) ((lo+m - lo) / 2)))) lo m:=fun i j hij hj=>by
      show ra rk (mirror _ _ _ _) _≤ra rk (mirror _ _ _ _) _
      rw [J2U hsz4,J2U hsz4,if_pos (by omega),if_pos (by omega)]
      have:=hd4 (m - 1 - j) (m - 1 - i) (by omega) (by omega)
      rw [show lo+(m - 1 - j)=lo+(lo+m) - 1 - (lo+j) by omega,show lo+(m - 1 - i)=lo+(lo+m) - 1 - (lo+i) by omega] at this
      exact this
     generalize setArr st4 (mirror (arrOf st4) lo (lo+m) ((lo+m - lo) / 2))=st5 at *
     refine wpS_bind (wpS_mono (wpS_forRange (I:=fun x c st'=>st'=st5∧c=(none,x)∧Inc rk (arrOf st5) lo x) (Q:=fun c st'=>st'=st5∧∃ n,c=(none,n)∧1≤n∧n≤nrem∧Inc rk (arrOf st5) lo n) ?stepE ?finE ⟨rfl,rfl,hi5⟩) ?postE)
     case finE =>
      rintro c st' ⟨e,rfl,hs⟩
      rw [show max m nrem=nrem by omega] at hs ⊢
      exact ⟨e,nrem,rfl,h1,Nat.le_refl _,hs⟩
     case stepE =>
      rintro x c st' hx1 hx2 ⟨e,rfl,hs⟩
      rw [e]
      dsimp only
      refine wpS_bind (J1y C hB5 hk hD (by omega) (by omega) ?_)
      dsimp only
      by_cases hl:ra rk (arrOf st5) (lo+x)<ra rk (arrOf st5) (lo+x - 1)
      ·rw [if_pos (decide_eq_true hl)]
       exact wpS_pure ⟨rfl,x,rfl,by omega,by omega,hs⟩
      ·rw [if_neg (by rw [decide_eq_false hl];exact Bool.false_ne_true)]
       exact wpS_pure ⟨rfl,rfl,J6a hs (by omega) (by rw [show lo+(x - 1)=lo+x - 1 by omega];omega)⟩
     case postE =>
      rintro c st6 ⟨e,z,rfl,z1,z2,hs⟩
      rw [e]
      exact wpS_pure (h z st5 hB5 z1 z2 hs)
end
end L2
namespace L2
open PySem PyProof.Rows
section
variable {prog:Program}{w:World}{A:Around}{E:Value→Shared→Prop}{s:Shared}{kd:SortKind}{D:Value→Prop}{rk:Value→Nat}
theorem tim_binarySort (C:Cmp prog w A s kd D rk){st0 st:SortSt}{lo nn n ok:Nat}{Q:Bool→SortSt→Prop}(hk:kindOf st0=kd)(hD:∀ p∈(arrOf st0).toList,D p.1)(hz:lo+nn≤(arrOf st0).size)(hn:n≤nn)(hok:ok≤n)(hB:SB st0 st lo nn)(hs:Inc rk (arrOf st) lo ok)
 (h:∀ st',SB st0 st' lo nn→Inc rk (arrOf st') lo n→Q true st'):wpS (model prog w) A E s (binarySort' lo n ok) Q st:=by
 rw [binarySort'_eq]
 refine wpS_bind (wpS_mono (wpS_forRange (I:=fun k c st'=>c=(none,())∧SB st0 st' lo nn∧Inc rk (arrOf st') lo (min k n)) (Q:=fun c st'=>c=(none,())∧SB st0 st' lo nn∧Inc rk (arrOf st') lo n) ?step ?fin ?init) ?post)
 case post =>
  rintro c st' ⟨rfl,hB',hs'⟩
  exact wpS_pure (h st' hB' hs')
 case init =>
  refine ⟨rfl,hB,fun i j hij hj=>?_⟩
  by_cases h1:ok=0
  ·obtain rfl:i=j:=by omega
   exact Nat.le_refl _
  ·exact hs i j hij (by omega)
 case fin =>
  rintro c st' ⟨hc,hB',hs'⟩
  refine ⟨hc,hB',?_⟩
  rwa [show min (max (max ok 1) n) n=n by omega] at hs'
 case step =>
  rintro k c st1 hak hkn ⟨rfl,hB',hs'⟩
  rw [show min k n=k by omega] at hs'
  refine wpS_bind (wpS_mono (wpS_forRange (I:=fun x c st''=>st''=st1∧∃ l r,c=(none,l,r)∧l≤r∧r≤k∧r - l≤k - x∧(∀ i,i<l→ra rk (arrOf st1) (lo+i)≤ra rk (arrOf st1) (lo+k))∧(∀ i,r≤i→i<k→ra rk (arrOf st1) (lo+k)<ra rk (arrOf st1) (lo+i)))
   (Q:=fun c st''=>st''=st1∧∃ l r,c=(none,l,r)∧l≤k∧(∀ i,i<l→ra rk (arrOf st1) (lo+i)≤ra rk (arrOf st1) (lo+k))∧(∀ i,l≤i→i<k→ra rk (arrOf st1) (lo+k)<ra rk (arrOf st1) (lo+i))) ?istep ?ifin ?iinit) ?ipost)
  case iinit=>exact ⟨rfl,0,k,rfl,by omega,by omega,by omega,fun i hi=>by omega,fun i h1 h2=>by omega⟩
  case ifin =>
   rintro c st2 ⟨e,l,r,rfl,hlr,hrk,hm,hlo,hhi⟩
   obtain rfl:l=r:=by omega
   exact ⟨e,l,l,rfl,hrk,hlo,hhi⟩
  case istep =>
   rintro x c st2 _ hxk ⟨e,l,r,rfl,hlr,hrk,hm,hlo,hhi⟩
   rw [e]
   dsimp only
   by_cases hge:l≥r
   ·rw [if_pos hge]
    obtain rfl:l=r:=by omega
    exact wpS_pure ⟨rfl,l,l,rfl,hrk,hlo,hhi⟩
   ·rw [if_neg hge]
    refine wpS_bind (J1y C hB' hk hD (by omega) (by omega) ?_)
    dsimp only
    by_cases hless:ra rk (arrOf st1) (lo+k)<ra rk (arrOf st1) (lo+(l+r) / 2)
    ·rw [if_pos (decide_eq_true hless)]
     exact wpS_pure ⟨rfl,l,(l+r) / 2,rfl,by omega,by omega,by omega,hlo,fun i h1 h2=>Nat.lt_of_lt_of_le hless (hs' _ _ h1 h2)⟩
    ·rw [if_neg (by rw [decide_eq_false hless];exact Bool.false_ne_true)]
     exact wpS_pure ⟨rfl,(l+r) / 2+1,r,rfl,by omega,by omega,by omega,fun i h1=>Nat.le_trans (hs' i ((l+r) / 2) (by omega) (by omega)) (by omega),hhi⟩
  case ipost =>
   rintro c st2 ⟨e,l,r,rfl,hlk,hlo,hhi⟩
   rw [e]
   show wpS _ _ _ _ (do moveDown' (lo+k) (lo+l);pure (ForInStep.yield (none,()))) _ _
   rw [moveDown'_eq]
   refine wpS_bind (wpS_modify (wpS_pure ⟨rfl,hB'.bubb (by omega) (by omega) hz,?_⟩))
   rw [show min (k+1) n=k+1 by omega]
   have hks:lo+k<(arrOf st1).size:=by rw [hB'.size];omega
   intro i j hij hj
   show ra rk (bubble (arrOf st1) (lo+k) (lo+k - (lo+l))) (lo+i)≤ra rk (bubble (arrOf st1) (lo+k) (lo+k - (lo+l))) (lo+j)
   rw [J4i hks (by omega),J4i hks (by omega),show lo+k - (lo+k - (lo+l))=lo+l by omega]
   have s1:∀ z,l<z→lo+z - 1=lo+(z - 1):=fun z hz=>by omega
   by_cases a1:lo+i=lo+l
   ·rw [if_pos a1]
    by_cases a2:lo+j=lo+l
    ·rw [if_pos a2];exact Nat.le_refl _
    ·rw [if_neg a2,if_pos (by omega),s1 j (by omega)]
     exact Nat.le_of_lt (hhi _ (by omega) (by omega))
   ·rw [if_neg a1]
    by_cases a3:lo+l<lo+i∧lo+i≤lo+k
    ·rw [if_pos a3,if_neg (by omega),if_pos (by omega),s1 i (by omega),s1 j (by omega)]
     exact hs' _ _ (by omega) (by omega)
    ·rw [if_neg a3]
     by_cases a2:lo+j=lo+l
     ·rw [if_pos a2];exact hlo _ (by omega)
     ·rw [if_neg a2]
      by_cases a4:lo+l<lo+j∧lo+j≤lo+k
      ·rw [if_pos a4,s1 j (by omega)]
       exact hs' _ _ (by omega) (by omega)
      ·rw [if_neg a4]
       exact hs' _ _ hij (by omega)
end
end L2
namespace L2
open PySem PyProof.Rows
def Runs (rk:Value→Nat):Nat→List (Nat×Nat×Nat)→List Keyed→Prop
 | _,[],L=>L=[]
 | b,x::ps,L=>x.1=b∧0<x.2.1∧∃ l L',L=l++L'∧l.length=x.2.1∧Up rk l∧Runs rk (b+x.2.1) ps L'
section
variable {rk:Value→Nat}
theorem Runs.app:∀ {ps1 ps2:List (Nat×Nat×Nat)} {b:Nat} {L:List Keyed},Runs rk b (ps1++ps2) L→∃ L1 L2,L=L1++L2∧Runs rk b ps1 L1∧Runs rk (b+L1.length) ps2 L2
 | [],ps2,b,L,h=>⟨[],L,rfl,rfl,h⟩
 | x::ps1,ps2,b,L,⟨h1,h2,l,L',e,hl,u,r⟩=>by
   obtain ⟨L1,L2,e2,r1,r2⟩:=Runs.app r
   refine ⟨l++L1,L2,by rw [e,e2,List.append_assoc],⟨h1,h2,l,L1,rfl,hl,u,r1⟩,?_⟩
   rw [List.length_append,← Nat.add_assoc,hl]
   exact r2
theorem Runs.put:∀ {ps1 ps2:List (Nat×Nat×Nat)} {b:Nat} {L1 L2:List Keyed},Runs rk b ps1 L1→Runs rk (b+L1.length) ps2 L2→Runs rk b (ps1++ps2) (L1++L2)
 | [],ps2,b,L1,L2,h,r=>by
   cases (show L1=[] from h)
   exact r
 | x::ps1,ps2,b,L1,L2,⟨h1,h2,l,L',e,hl,u,r1⟩,r=>by
   subst e
   refine ⟨h1,h2,l,L'++L2,by rw [List.append_assoc],hl,u,Runs.put r1 ?_⟩
   rw [List.length_append,← Nat.add_assoc,hl] at r
   exact r
theorem Runs.len:∀ {ps:List (Nat×Nat×Nat)} {b:Nat} {L:List Keyed},Runs rk b ps L→ps.length≤L.length
 | [],_,_,_=>Nat.zero_le _
 | x::ps,b,L,⟨h1,h2,l,L',e,hl,u,r⟩=>by
   have:=Runs.len r
   rw [e,List.length_append,List.length_cons]
   omega
theorem Runs.pow:∀ {ps qs:List (Nat×Nat×Nat)} {b:Nat} {L:List Keyed},Runs rk b ps L→ps.map (fun x=>(x.1,x.2.1))=qs.map (fun x=>(x.1,x.2.1))→Runs rk b qs L
 | [],[],_,_,h,_=>h
 | [],_::_,_,_,_,e=>by simp at e
 | _::_,[],_,_,_,e=>by simp at e
 | x::ps,y::qs,b,L,⟨h1,h2,l,L',e,hl,u,r⟩,q=>by
   simp only [List.map_cons,List.cons.injEq,Prod.mk.injEq] at q
   obtain ⟨⟨q1,q2⟩,q3⟩:=q
   refine ⟨q1.symm.trans h1,by omega,l,L',e,by omega,u,?_⟩
   rw [← q2]
   exact Runs.pow r q3
end
structure Core (kd:SortKind)(rk:Value→Nat)(a₀:Array Keyed)(lo:Nat)(R:List Keyed)(st:SortSt):Prop where
 kind:kindOf st=kd
 failed:failedOf st=none
 perm:(arrOf st).Perm a₀
 runs:∃ L,(arrOf st).toList=L++R∧L.length=lo∧Runs rk 0 (pendingOf st).toList L
section
variable {prog:Program}{w:World}{A:Around}{E:Value→Shared→Prop}{s:Shared}{kd:SortKind}{D:Value→Prop}{rk:Value→Nat}{a₀:Array Keyed}
theorem Core.dom {lo:Nat}{R:List Keyed}{st:SortSt}(h:Core kd rk a₀ lo R st)(hD:∀ p∈a₀.toList,D p.1):∀ p∈(arrOf st).toList,D p.1:=fun p hp=>hD p ((Array.perm_iff_toList_perm.mp h.perm).mem_iff.mp hp)
theorem J3V (C:Cmp prog w A s kd D rk)(hD:∀ p∈a₀.toList,D p.1){lo:Nat}{R:List Keyed}{st:SortSt}{i:Nat}{Q:Bool→SortSt→Prop}(hc:Core kd rk a₀ lo R st)(hi:i+1<(pendingOf st).size)
 (h:∀ st',Core kd rk a₀ lo R st'→(pendingOf st').size+1=(pendingOf st).size→Q true st'):wpS (model prog w) A E s (mergeAt' i) Q st:=by
 obtain ⟨L,eL,hL,hr⟩:=hc.runs
 have hlen:(pendingOf st).toList.length=(pendingOf st).size:=Array.length_toList
 generalize hps:(pendingOf st).toList=ps at hr hlen
 have e0:ps=ps.take i++ps.drop i:=(List.take_append_drop i ps).symm
 obtain ⟨x,y,ps2,e1⟩:∃ x y ps2,ps.drop i=x::y::ps2:=by
  have h1:i<ps.length:=by omega
  have h2:i+1<ps.length:=by omega
  exact ⟨_,_,_,by rw [List.drop_eq_getElem_cons h1,List.drop_eq_getElem_cons h2]⟩
 rw [e0,e1] at hr
 obtain ⟨L1,L2,e2,r1,r2⟩:=Runs.app hr
 obtain ⟨g1,g2,la,L3,e3,g3,g4,g5,g6,lb,L4,e4,g7,g8,g9⟩:=r2
 obtain ⟨xa,xn,xp⟩:=x
 obtain ⟨ya,yn,yp⟩:=y
 dsimp only at *
 rw [Nat.zero_add] at g1
 subst e3 e4
 refine tim_mergeAt C (P:=L1) (la:=la) (lb:=lb) (R:=L4++R) (ps1:=ps.take i) (ps2:=ps2) (sa:=xa) (na:=xn) (pw:=xp) (sb:=ya) (nb:=yn) (pw2:=yp) hc.kind hc.failed (hc.dom hD) (by rw [hps];rw [← e1];exact e0) (by rw [List.length_take];omega) (by rw [eL,e2];simp [List.append_assoc]) g1.symm g3 (by omega) g7 g2 g6 g4 g8 fun st' l k1 k2 mm k3 k4=>?_
 refine h st' ⟨k1,k2,?_,L1++(l++L4),by rw [k3];simp [List.append_assoc],?_,?_⟩ ?_
 ·refine Array.perm_iff_toList_perm.mpr ((?_:(arrOf st').toList.Perm (arrOf st).toList).trans (Array.perm_iff_toList_perm.mp hc.perm))
  rw [k3,eL,e2]
  have:=mm.1
  simp only [List.append_assoc]
  refine List.Perm.append_left _ ?_
  rw [← List.append_assoc la]
  exact List.Perm.append_right _ this
 ·have q:=mm.1.length_eq
  rw [List.length_append] at q
  rw [← hL,e2]
  simp only [List.length_append]
  omega
 ·rw [k4]
  refine Runs.put r1 ⟨by rw [Nat.zero_add];exact g1,(by show 0<xn+yn;omega),l,L4,rfl,by rw [mm.1.length_eq,List.length_append,g3,g7],mm.2,?_⟩
  rw [← Nat.add_assoc]
  exact g9
 ·have:(pendingOf st').toList.length+1=ps.length:=by
   rw [k4,e0,e1]
   simp
   omega
  rw [Array.length_toList] at this
  omega
theorem J3N {α β:Type}(f:α→α)(g:α→β)(hfg:∀ x,g (f x)=g x):∀ (l:List α) (i:Nat),(l.modify i f).map g=l.map g
 | [],i=>by simp
 | x::l,0=>by simp [hfg]
 | x::l,i+1=>by simp [J3N f g hfg l i]
theorem Core.rest {lo:Nat}{R:List Keyed}{st:SortSt}(h:Core kd rk a₀ lo R st):lo+R.length=a₀.size:=by
 obtain ⟨L,e,hL,_⟩:=h.runs
 rw [← h.perm.size_eq,← Array.length_toList,e,List.length_append,hL]
theorem Core.pow {lo:Nat}{R:List Keyed}{st:SortSt}(h:Core kd rk a₀ lo R st)(i pw:Nat):Core kd rk a₀ lo R (setPending st ((pendingOf st).modify i fun x=>(x.fst,x.2.fst,pw))):=by
 obtain ⟨L,e,hL,r⟩:=h.runs
 refine ⟨h.kind,h.failed,h.perm,L,e,hL,r.pow ?_⟩
 show _=List.map _ ((pendingOf st).modify i fun x=>(x.fst,x.2.fst,pw)).toList
 rw [Array.toList_modify]
 exact (J3N (fun x:Nat×Nat×Nat=>(x.1,x.2.1,pw)) (fun x=>(x.1,x.2.1)) (fun x=>rfl) _ _).symm
theorem Core.push {lo n:Nat}{l R:List Keyed}{st:SortSt}(h:Core kd rk a₀ lo (l++R) st)(hl:l.length=n)(h1:1≤n)(u:Up rk l):Core kd rk a₀ (lo+n) R (setPending st ((pendingOf st).push (lo,n,0))):=by
 obtain ⟨L,e,hL,r⟩:=h.runs
 refine ⟨h.kind,h.failed,h.perm,L++l,by rw [List.append_assoc];exact e,by rw [List.length_append,hL,hl],?_⟩
 show Runs rk 0 ((pendingOf st).push (lo,n,0)).toList (L++l)
 rw [Array.toList_push]
 exact r.put ⟨by rw [Nat.zero_add];exact hL.symm,h1,l,[],by simp,hl,u,rfl⟩
theorem Core.found {lo n:Nat}{R:List Keyed}{st st2:SortSt}(h:Core kd rk a₀ lo R st)(hB:SB st st2 lo (a₀.size - lo))(hi:Inc rk (arrOf st2) lo n)(hn:n≤a₀.size - lo):∃ l R',Core kd rk a₀ lo (l++R') st2∧l.length=n∧Up rk l:=by
 have hr:=h.rest
 obtain ⟨L,e,hL,r⟩:=h.runs
 have hsz:(arrOf st2).size=a₀.size:=hB.size.trans h.perm.size_eq
 have et:(arrOf st2).toList.take lo=L:=by
  refine List.ext_getElem? fun i=>?_
  by_cases q:i<lo
  ·rw [List.getElem?_take_of_lt q,Array.getElem?_toList,hB.out i (.inl q),← Array.getElem?_toList,e,List.getElem?_append_left (by omega)]
  ·rw [List.getElem?_eq_none (by rw [List.length_take];omega),List.getElem?_eq_none (by omega)]
 have e2:(arrOf st2).toList=L++((((arrOf st2).toList.drop lo).take n)++(((arrOf st2).toList.drop lo).drop n)):=by
  rw [List.take_append_drop,← et,List.take_append_drop]
 have hl:(((arrOf st2).toList.drop lo).take n).length=n:=by
  rw [List.length_take,List.length_drop,Array.length_toList]
  omega
 refine ⟨_,_,⟨hB.kind.trans h.kind,hB.failed.trans h.failed,hB.perm.trans h.perm,L,e2,hL,by rw [hB.pend];exact r⟩,hl,?_⟩
 refine List.pairwise_iff_getElem.mpr fun i j hi' hj' hij=>?_
 have at':∀ i (hi:i<(((arrOf st2).toList.drop lo).take n).length),rk ((((arrOf st2).toList.drop lo).take n)[i]).1=ra rk (arrOf st2) (lo+i):=fun i hi=>by
  have q:(((arrOf st2).toList.drop lo).take n)[i]?=(arrOf st2)[lo+i]?:=by rw [List.getElem?_take_of_lt (by omega),List.getElem?_drop,Array.getElem?_toList]
  rw [List.getElem?_eq_getElem hi] at q
  unfold ra
  rw [← q]
 rw [at' i hi',at' j hj']
 exact hi i j (by omega) (by omega)
theorem tim_sortRuns (C:Cmp prog w A s kd D rk)(hD:∀ p∈a₀.toList,D p.1){st:SortSt}{Q:Unit→SortSt→Prop}(hk:kindOf st=kd)(hf:failedOf st=none)(hp:(arrOf st).Perm a₀)(hq:pendingOf st=#[])
 (h:∀ st',(arrOf st').Perm a₀→failedOf st'=none→Up rk (arrOf st').toList→Q () st'):wpS (model prog w) A E s sortRuns' Q st:=by
 have hsz:(arrOf st).size=a₀.size:=hp.size_eq
 rw [sortRuns'_eq]
 refine wpS_bind (wpS_get ?_)
 dsimp only
 rw [hsz]
 generalize minRun' a₀.size a₀.size 0=mr
 refine wpS_bind (wpS_mono (wpS_forRange (I:=fun x c st'=>∃ lo R,c=(none,lo)∧x≤lo∧lo≤a₀.size∧Core kd rk a₀ lo R st') (Q:=fun c st'=>c=(none,a₀.size)∧Core kd rk a₀ a₀.size [] st') ?step ?fin ⟨0,(arrOf st).toList,rfl,Nat.le_refl _,Nat.zero_le _,hk,hf,hp,[],rfl,rfl,by rw [hq];exact rfl⟩) ?post)
 case fin =>
  rintro c st' ⟨lo,R,rfl,h1,h2,hc⟩
  obtain rfl:lo=a₀.size:=by omega
  have hR:R=[]:=List.eq_nil_of_length_eq_zero (by have:=hc.rest;omega)
  exact ⟨rfl,hR ▸ hc⟩
 case step =>
  rintro x c st1 _ hx ⟨lo,R,rfl,h1,h2,hc⟩
  dsimp only
  by_cases hlo:lo≥a₀.size
  ·rw [if_pos hlo]
   obtain rfl:lo=a₀.size:=by omega
   have hR:R=[]:=List.eq_nil_of_length_eq_zero (by have:=hc.rest;omega)
   exact wpS_pure ⟨rfl,hR ▸ hc⟩
  rw [if_neg hlo]
  have hz:lo+(a₀.size - lo)≤(arrOf st1).size:=by rw [hc.perm.size_eq];omega
  refine wpS_bind (tim_countRun C hc.kind (hc.dom hD) hz (by omega) fun m st2 hB m1 m2 hi=>?_)
  dsimp only
  by_cases hm:m<mr
  case' pos =>
   rw [if_pos hm]
   refine wpS_bind (wpS_lift (wpAny_rule ⟨rfl,?_⟩))
   refine wpS_bind (tim_binarySort C hc.kind (hc.dom hD) hz (n:=min (a₀.size - lo) mr) (by omega) (by omega) hB hi fun st3 hB3 hi3=>?_)
   rw [if_neg (by simp)]
   have n1:1≤min (a₀.size - lo) mr:=by omega
   have n2:min (a₀.size - lo) mr≤a₀.size - lo:=by omega
   generalize min (a₀.size - lo) mr=n at *
  case' neg =>
   rw [if_neg hm]
   have n1:=m1
   have n2:=m2
   have hi3:=hi
   have hB3:=hB
   generalize hn:m=n at *
   generalize hst3:st2=st3 at *
  all_goals
   obtain ⟨l,R',hc3,hl,hu⟩:=hc.found hB3 hi3 n2
   refine wpS_bind (wpS_get ?_)
   have hpush:∀ st4:SortSt,Core kd rk a₀ lo (l++R') st4→∃ lo' R,((none:Option Unit),lo+n)=(none,lo')∧x+1≤lo'∧lo'≤a₀.size∧Core kd rk a₀ lo' R (setPending st4 ((pendingOf st4).push (lo,n,0))):=fun st4 h4=>⟨lo+n,R',rfl,by omega,by omega,h4.push hl n1 hu⟩
   cases hb:(pendingOf st3).back? with
   | none=>exact wpS_bind (wpS_modify (wpS_pure (hpush st3 hc3)))
   | some q =>
     obtain ⟨s1,nn1,pp⟩:=q
     refine wpS_bind (wpS_mono (wpS_forRange (I:=fun _ c st'=>c=(none,())∧Core kd rk a₀ lo (l++R') st') (Q:=fun c st'=>c=(none,())∧Core kd rk a₀ lo (l++R') st') ?stepM (fun _ _ z=>z) ⟨rfl,hc3⟩) ?postM)
     case postM =>
      rintro c st4 ⟨rfl,h4⟩
      exact wpS_bind (wpS_modify (wpS_bind (wpS_modify (wpS_pure (hpush _ (h4.pow _ _))))))
     case stepM =>
      rintro y c st4 _ hy ⟨rfl,h4⟩
      refine wpS_bind (wpS_get ?_)
      by_cases hs:(pendingOf st4).size > 1
      ·rw [if_pos hs]
       have hlt:(pendingOf st4).size - 2<(pendingOf st4).size:=by omega
       rw [getElem?_pos (pendingOf st4) ((pendingOf st4).size - 2) hlt]
       dsimp only
       split
       ·exact wpS_pure ⟨rfl,h4⟩
       ·refine wpS_bind (J3V C hD h4 (by omega) fun st5 h5 _=>?_)
        rw [if_neg (by simp)]
        exact wpS_pure ⟨rfl,h5⟩
      ·rw [if_neg hs]
       exact wpS_pure ⟨rfl,h4⟩
 case post =>
  rintro c st1 ⟨rfl,hc⟩
  have hps:(pendingOf st1).size≤a₀.size:=by
   obtain ⟨L,e,hL,r⟩:=hc.runs
   have:=r.len
   rw [Array.length_toList] at this
   omega
  refine wpS_bind (wpS_mono (wpS_forRange (I:=fun x c st'=>c=(none,())∧Core kd rk a₀ a₀.size [] st'∧((pendingOf st').size≤1∨(pendingOf st').size+x≤a₀.size)) (Q:=fun c st'=>c=(none,())∧Core kd rk a₀ a₀.size [] st'∧(pendingOf st').size≤1) ?stepF ?finF ⟨rfl,hc,.inr (by omega)⟩) ?postF)
  case finF =>
   rintro c st2 ⟨rfl,h2,h3⟩
   exact ⟨rfl,h2,by rcases h3 with h3 | h3<;>omega⟩
  case stepF =>
   rintro y c st2 _ hy ⟨rfl,h2,h3⟩
   refine wpS_bind (wpS_get ?_)
   by_cases hs:(pendingOf st2).size≤1
   ·rw [if_pos hs]
    exact wpS_pure ⟨rfl,h2,hs⟩
   ·rw [if_neg hs]
    have hix:∀ (c:Prop) [Decidable c],(if c then (pendingOf st2).size - 2 - 1 else (pendingOf st2).size - 2)+1<(pendingOf st2).size:=fun c _=>by split<;>omega
    refine wpS_bind (J3V C hD h2 (hix _) fun st5 h5 h6=>?_)
    rw [if_neg (by simp)]
    exact wpS_pure ⟨rfl,h5,.inr (by omega)⟩
  case postF =>
   rintro c st2 ⟨rfl,h2,h3⟩
   refine wpS_pure (h st2 h2.perm h2.failed ?_)
   obtain ⟨L,e,hL,r⟩:=h2.runs
   rw [e,List.append_nil]
   have hlen:(pendingOf st2).toList.length≤1:=by rw [Array.length_toList];exact h3
   generalize (pendingOf st2).toList=ps at r hlen
   match ps,r,hlen with
   | [],r,_=>cases (show L=[] from r);exact .nil
   | [p],⟨_,_,l,L',e2,_,u,r2⟩,_ =>
     cases (show L'=[] from r2)
     rw [e2,List.append_nil]
     exact u
   | _::_::_,_,hlen=>simp at hlen
end
end L2
namespace L2
open PySem PyProof.Rows
theorem J2l {α:Type}{p q:α→Bool}:∀ {l:List α},(∀ z∈l,p z=true→q z=true)→l.countP p≤l.countP q
 | [],_=>Nat.le_refl _
 | x::l,h=>by
   have ih:=J2l (p:=p) (q:=q) (l:=l) fun z hz=>h z (List.mem_cons_of_mem _ hz)
   rw [List.countP_cons,List.countP_cons]
   have hx:=h x List.mem_cons_self
   cases e:p x with
   | true=>rw [hx e];simp;exact ih
   | false=>simp;split<;>omega
theorem J39 {α:Type}{p q:α→Bool}{a:α}:∀ {l:List α},(∀ z∈l,p z=true→q z=true)→a∈l→q a=true→p a=false→l.countP p<l.countP q
 | x :: l,h,ha,h1,h2=>by
   have sub:∀ z∈l,p z=true→q z=true:=fun z hz=>h z (List.mem_cons_of_mem _ hz)
   rw [List.countP_cons,List.countP_cons]
   rcases List.mem_cons.mp ha with rfl | ha
   ·have:=J2l sub
    rw [h1,h2];simp;omega
   ·have ih:=J39 sub ha h1 h2
    have hx:=h x List.mem_cons_self
    cases e:p x with
    | true=>rw [hx e];simp;exact ih
    | false=>simp;split<;>omega
noncomputable def J1i (O:KeyOrd)(l:List O.α)(x:O.α):Nat:=l.countP fun z=>O.blt z x
theorem J7A {O:KeyOrd}{l:List O.α}{a b:O.α}(ha:a∈l):decide (J1i O l a<J1i O l b)=O.blt a b:=by
 cases e:O.blt a b with
 | true=>exact decide_eq_true (J39 (fun z _ hz=>O.trans z a b hz e) ha e (O.irrefl a))
 | false =>
   refine decide_eq_false (Nat.not_lt.mpr (J2l fun z _ hz=>?_))
   rcases O.negTrans z a b hz with q | q
   ·exact q
   ·rw [e] at q;cases q
theorem JaS {O:KeyOrd}{l:List O.α}{a b:O.α}(hb:b∈l)(h:J1i O l a≤J1i O l b):O.blt b a=false:=by
 rw [← J7A (l:=l) hb]
 exact decide_eq_false (by omega)
section
variable {prog:Program}{w:World}{A:Around}{E:Value→Shared→Prop}{s:Shared}{kd:SortKind}{D:Value→Prop}{rk:Value→Nat}
end
end L2
namespace L2
open PySem PySem.Spec PyProof.Rows
open AutoSeq1 (wpAny_loadPart')
open MeetsSeq MeetsSeq2 MeetsSeq3 SeqRoads2
theorem lt_loop (l b:Addr)(us vs:Array Value)(n n2:Nat)(r:Bool) :
 ∀ (xs ys:List Value) (i:Nat),us.toList.drop i=xs→vs.toList.drop i=ys→i≤us.size→i≤vs.size→Meets (Builtin.«list.__eq__.loop» ⟨[.ref l,.ref b,rawInt i,rawInt 0],[]⟩)
   (fun A R s=>s.heap.get? l=some (seqObj "list" us n)∧s.heap.get? b=some (seqObj "list" vs n2)∧LexAt A.in1 s xs ys r∧R (.ok (.ret (.bool r))) s):=by
 intro xs
 induction xs with
 | nil =>
   intro ys i ex ey h1 h2 prog w A R s h
   obtain ⟨hp,g,d,tk,os⟩:=s;obtain ⟨q1,q2,he,h⟩:=h
   have z1:us.size≤i:=by simpa using ex
   wp_walk using wpAny_loadPart' q1,wpAny_loadPart' q2
   have hi1:us[((i:Nat):Int).toNat]?=none:=by simp;omega
   rw [hi1]
   wp_walk using wpAny_loadPart' q1,wpAny_loadPart' q2
   show R (.ok (.ret (.bool (decide (us.size<vs.size))))) _
   have e:decide (us.size<vs.size)=r:=by
    cases he with
    | nn =>
      have z2:vs.size≤i:=by simpa using ey
      exact decide_eq_false (by omega)
    | nc =>
      have z2:¬ vs.size≤i:=fun z=>by
       have:vs.toList.drop i=[]:=List.drop_eq_nil_of_le (by simpa using z)
       rw [this] at ey;cases ey
      exact decide_eq_true (by omega)
   rw [e];exact h
 | cons x xs ih =>
   intro ys i ex ey h1 h2 prog w A R s h
   obtain ⟨hp,g,d,tk,os⟩:=s;obtain ⟨q1,q2,he,h⟩:=h
   have z1:i<us.size:=by
    by_cases z:i<us.size
    ·exact z
    ·have:us.toList.drop i=[]:=List.drop_eq_nil_of_le (by simp;omega)
     rw [this] at ex;cases ex
   have e1:us[((i:Nat):Int).toNat]?=some x:=by
    have:(us.toList.drop i)[0]?=some x:=by rw [ex];rfl
    rw [List.getElem?_drop] at this
    simpa using this
   have d1:us.toList.drop (i+1)=xs:=by rw [← List.tail_drop,ex];rfl
   wp_walk using wpAny_loadPart' q1,wpAny_loadPart' q2
   cases ys with
   | nil =>
     have z2:vs.size≤i:=by simpa using ey
     have e2:vs[((i:Nat):Int).toNat]?=none:=by simp;omega
     rw [e1,e2]
     wp_walk using wpAny_loadPart' q1,wpAny_loadPart' q2
     show R (.ok (.ret (.bool (decide (us.size<vs.size))))) _
     cases he
     rw [decide_eq_false (by omega)]
     exact h
   | cons y ys =>
     have z2:i<vs.size:=by
      by_cases z:i<vs.size
      ·exact z
      ·have:vs.toList.drop i=[]:=List.drop_eq_nil_of_le (by simp;omega)
       rw [this] at ey;cases ey
     have e2:vs[((i:Nat):Int).toNat]?=some y:=by
      have:(vs.toList.drop i)[0]?=some y:=by rw [ey];rfl
      rw [List.getElem?_drop] at this
      simpa using this
     have d2:vs.toList.drop (i+1)=ys:=by rw [← List.tail_drop,ey];rfl
     rw [e1,e2]
     cases he with
     | eq a1 a2 =>
       refine wpAny_bind (a1 prog w _ _ ?_)
       wp_walk
       rw [show ((i:Int)+1)=((i+1:Nat):Int) by push_cast;rfl]
       refine ⟨plainId_quiet plain_eq_loop _,codeAny_builtin entry_eq_loop ?_⟩
       rw [Around.under_plainId plain_eq_loop _]
       exact ih ys (i+1) d1 d2 (by omega) (by omega) prog w A R _ ⟨q1,q2,a2,h⟩
     | ne a1 a2 =>
       refine wpAny_bind (a1 prog w _ _ ?_)
       wp_walk using wpAny_loadPart' q1,wpAny_loadPart' q2
       rw [e1,e2]
       show wpAny (model prog w) A.in1 (richCompare CmpOp.Lt x y >>= _) _ _ _
       refine wpAny_bind (a2 prog w _ _ ?_)
       wp_walk
       exact h
theorem J8m (l b:Addr)(us vs:Array Value)(n n2:Nat)(r:Bool) :
 Meets (Builtin.«list.__lt__» ⟨[.ref l,.ref b],[]⟩)
  (fun A R s=>s.heap.get? l=some (seqObj "list" us n)∧s.heap.get? b=some (seqObj "list" vs n2)∧LexAt A.in1 s us.toList vs.toList r∧R (.ok (.ret (.bool r))) s):=by
 intro prog w A R s h
 obtain ⟨hp,g,d,tk,os⟩:=s;obtain ⟨q1,q2,he,h⟩:=h
 have f3:=AutoSeq1.sub_list_list
 wp_walk using wpAny_loadPart' q1,wpAny_loadPart' q2
 refine ⟨plainId_quiet plain_eq_loop _,codeAny_builtin entry_eq_loop ?_⟩
 rw [Around.under_plainId plain_eq_loop _]
 exact lt_loop l b us vs n n2 r _ _ 0 rfl rfl (Nat.zero_le _) (Nat.zero_le _) prog w A R _ ⟨q1,q2,he,h⟩
theorem J2f {s:Shared}{a:Addr}{us:Array Value}{n:Nat}(h:s.heap.get? a=some (seqObj "list" us n)):s.TypeIs (.ref a) "list":=⟨_,h,rfl⟩
section
variable {prog:Program}{w:World}{A:Around}{E:Value→Shared→Prop}{s:Shared}
theorem J6T {a b:Addr}{us vs:Array Value}{n n2:Nat}{r:Bool}{Q:Bool→Shared→Prop}(hu:A.units<cLine)(h1:s.heap.get? a=some (seqObj "list" us n))(h2:s.heap.get? b=some (seqObj "list" vs n2))(hl:LexAt A.in1 s us.toList vs.toList r)(h:Q r s) :
 wpAny (model prog w) A (oneLt' true (.ref a) (.ref b)) Q E s:=by
 rw [oneLt'_eq]
 simp only [if_true]
 refine wpAny_bind (wpAny_cRoomFor hu ?_)
 refine wpAny_bind (wpAny_callSpecialIfBound?_slot (J2f h1) F.slot_list_lt ?_)
 refine call_meets F.slot_list_lt (J2f h1) F.entry_list_lt (F.args_list_lt_2 _ _) (J8m a b us vs n n2 r) ⟨h1,h2,?_,?_⟩
 ·exact hl
 ·exact wpAny_truthy_bool h
end
end L2
namespace L2
open PySem PySem.Spec PyProof.Rows
noncomputable def prV:Ji→List V
 | none=>[.int 1,.int 0]
 | some k=>[.int 0,kV k]
noncomputable def prD:Ji→PyData
 | none=>.tuple [.int 1,.int 0]
 | some (.inl i)=>.tuple [.int 0,.int i]
 | some (.inr x)=>.tuple [.int 0,.str x]
noncomputable def ltN:Ji→Ji→Bool
 | none,_=>false
 | some _,none=>true
 | some (.inl i),some (.inl j)=>decide (i<j)
 | some (.inl _),some (.inr _)=>true
 | some (.inr _),some (.inl _)=>false
 | some (.inr x),some (.inr y)=>decide (x.cps.toList<y.cps.toList)
noncomputable def J7J:Ji→Ji→Bool
 | some (.inl _),some (.inr _)=>false
 | some (.inr _),some (.inl _)=>false
 | _,_=>true
noncomputable def J1g:List Ji→List Ji→Bool
 | [],[]=>false
 | [],_::_=>true
 | _::_,[]=>false
 | a::as,b::bs=>if a=b then J1g as bs else ltN a b
noncomputable def J4l:List Ji→List Ji→Bool
 | a::as,b::bs=>J7J a b&&(if a=b then J4l as bs else true)
 | _,_=>true
theorem JaI {x y:Str}(h:x.cps.toList=y.cps.toList):x=y:=by
 cases x;cases y
 simp only [Str.mk.injEq]
 exact Array.toList_inj.mp h
theorem J74:∀ a,ltN a a=false
 | none=>rfl
 | some (.inl i)=>by simp [ltN]
 | some (.inr x)=>by simp only [ltN,decide_eq_false_iff_not];exact List.lt_irrefl _
theorem J8k:∀ a b c,ltN a b=true→ltN b c=true→ltN a c=true
 | none,_,_,h,_=>by cases h
 | some _,none,_,_,h=>by cases h
 | some _,some _,none,_,_=>rfl
 | some (.inl i),some (.inl j),some (.inl k),h1,h2=>by simp only [ltN,decide_eq_true_eq] at *;omega
 | some (.inl i),some (.inl j),some (.inr k),h1,h2=>rfl
 | some (.inl i),some (.inr j),some (.inl k),h1,h2=>by cases h2
 | some (.inl i),some (.inr j),some (.inr k),h1,h2=>rfl
 | some (.inr i),some (.inl j),some c,h1,h2=>by cases h1
 | some (.inr i),some (.inr j),some (.inl k),h1,h2=>by cases h2
 | some (.inr i),some (.inr j),some (.inr k),h1,h2=>by simp only [ltN,decide_eq_true_eq] at *;exact List.lt_trans h1 h2
theorem J8l:∀ a b,ltN a b=false→ltN b a=false→a=b
 | none,none,_,_=>rfl
 | none,some _,_,h=>by cases h
 | some _,none,h,_=>by cases h
 | some (.inl i),some (.inl j),h1,h2=>by simp only [ltN,decide_eq_false_iff_not] at *;rw [show i=j by omega]
 | some (.inl i),some (.inr j),h1,h2=>by cases h1
 | some (.inr i),some (.inl j),h1,h2=>by cases h2
 | some (.inr i),some (.inr j),h1,h2=>by
   simp only [ltN,decide_eq_false_iff_not] at *
   rw [JaI (List.le_antisymm (List.not_lt.mp h2) (List.not_lt.mp h1))]
theorem J34:∀ a,J1g a a=false
 | []=>rfl
 | a::as=>by rw [J1g,if_pos rfl];exact J34 as
theorem lexN_trans:∀ a b c,J1g a b=true→J1g b c=true→J1g a c=true
 | [],[],_,h,_=>by cases h
 | [],_::_,[],_,h=>by cases h
 | [],_::_,_::_,_,_=>rfl
 | _::_,[],_,h,_=>by cases h
 | _::_,_::_,[],_,h=>by cases h
 | a :: as,b::bs,c::cs,h1,h2=>by
   rw [J1g] at h1 h2 ⊢
   by_cases e1:a=b
   ·subst e1
    rw [if_pos rfl] at h1
    by_cases e2:a=c
    ·rw [if_pos e2] at h2 ⊢;exact lexN_trans as bs cs h1 h2
    ·rw [if_neg e2] at h2 ⊢;exact h2
   ·rw [if_neg e1] at h1
    by_cases e2:b=c
    ·subst e2;rw [if_neg e1];exact h1
    ·rw [if_neg e2] at h2
     have h3:=J8k a b c h1 h2
     rw [if_neg (fun e=>by rw [e,J74] at h3;cases h3)]
     exact h3
theorem J1O:∀ a b,J1g a b=false→J1g b a=false→a=b
 | [],[],_,_=>rfl
 | [],_::_,h,_=>by cases h
 | _::_,[],_,h=>by cases h
 | a :: as,b::bs,h1,h2=>by
   rw [J1g] at h1 h2
   by_cases e:a=b
   ·subst e
    rw [if_pos rfl] at h1 h2
    rw [J1O as bs h1 h2]
   ·rw [if_neg e] at h1
    rw [if_neg (Ne.symm e)] at h2
    exact absurd (J8l a b h1 h2) e
noncomputable def J1f:KeyOrd where
 α:=List Ji
 blt:=J1g
 irrefl:=J34
 trans:=lexN_trans
 negTrans:=fun a b c h=>by
  cases e1:J1g a b with
  | true=>first | exact .inl rfl | exact .inr rfl
  | false =>
    cases e2:J1g b c with
    | true=>first | exact .inr rfl | exact .inl rfl
    | false =>
      exfalso
      cases e3:J1g b a with
      | true=>have:=lexN_trans b a c e3 h;rw [e2] at this;cases this
      | false =>
        have:=J1O a b e1 e3
        subst this
        rw [h] at e2;cases e2
 total:=J1O
theorem Jc8 {a b:Ji}(hl:J7J a b=true)(hne:a≠b):J61 (prV a) (prV b)=some (ltN a b):=by
 match a,b,hl,hne with
 | none,none,_,h=>exact absurd rfl h
 | none,some k,_,_=>simp [prV,J61,ltS,ltN]
 | some k,none,_,_=>simp [prV,J61,ltS,ltN]
 | some (.inl i),some (.inl j),_,h =>
   have:i≠j:=fun e=>h (by rw [e])
   simp [prV,J61,ltS,ltN,kV,this]
 | some (.inr i),some (.inr j),_,h =>
   have:i≠j:=fun e=>h (by rw [e])
   simp [prV,J61,ltS,ltN,kV,this]
theorem Jc9 (a b:Ji):PyData.eqv (prD a) (prD b)=decide (a=b):=by
 match a,b with
 | none,none=>simp [prD,PyData.eqv,PyData.eqvAll]
 | none,some (.inl j)=>simp [prD,PyData.eqv,PyData.eqvAll]
 | none,some (.inr j)=>simp [prD,PyData.eqv,PyData.eqvAll]
 | some (.inl i),none=>simp [prD,PyData.eqv,PyData.eqvAll]
 | some (.inr i),none=>simp [prD,PyData.eqv,PyData.eqvAll]
 | some (.inl i),some (.inl j) =>
   by_cases e:i=j
   ·simp [prD,PyData.eqv,PyData.eqvAll,e]
   ·simp [prD,PyData.eqv,PyData.eqvAll,e]
 | some (.inl i),some (.inr j)=>simp [prD,PyData.eqv,PyData.eqvAll]
 | some (.inr i),some (.inl j)=>simp [prD,PyData.eqv,PyData.eqvAll]
 | some (.inr i),some (.inr j) =>
   by_cases e:i=j
   ·simp [prD,PyData.eqv,PyData.eqvAll,e]
   ·simp [prD,PyData.eqv,PyData.eqvAll,e]
def J32 (h:Heap)(u:Value)(k:Ji):Prop:=∃ p its,u=.ref p∧IsTup h p its.toArray∧Vals (prV k) its
theorem J5M {h:Heap}{u:Value}{k:Ji}(x:J32 h u k):∃ as,Reads h u (prD k) as:=by
 obtain ⟨p,its,rfl,⟨o,e,c,n,d⟩,r⟩:=x
 match k,r with
 | none,r =>
   have r:Vals [V.int 1,V.int 0] its:=r
   cases r with
   | cons h1 t=>cases t with
     | cons h2 t=>cases t;obtain ⟨_,rfl⟩:=h1;obtain ⟨_,rfl⟩:=h2;exact ⟨_,.tuple e c d (.cons (.int _ _) (.cons (.int _ _) .nil))⟩
 | some (.inl i),r =>
   have r:Vals [V.int 0,V.int i] its:=r
   cases r with
   | cons h1 t=>cases t with
     | cons h2 t=>cases t;obtain ⟨_,rfl⟩:=h1;obtain ⟨_,rfl⟩:=h2;exact ⟨_,.tuple e c d (.cons (.int _ _) (.cons (.int _ _) .nil))⟩
 | some (.inr i),r =>
   have r:Vals [V.int 0,V.str i] its:=r
   cases r with
   | cons h1 t=>cases t with
     | cons h2 t=>cases t;obtain ⟨_,rfl⟩:=h1;obtain ⟨_,rfl⟩:=h2;exact ⟨_,.tuple e c d (.cons (.int _ _) (.cons (.str _ _) .nil))⟩
def okN:Ji→Prop
 | some (.inr x)=>PyData.strOk x=true
 | _=>True
theorem J52 (k:Ji)(ok:okN k):(prD k).canLay0=true∧(prD k).depth≤1:=by
 match k,ok with
 | none,_=>simp [prD,PyData.canLay0,PyData.canLayAll0,PyData.depth,PyData.depthAll]
 | some (.inl i),_=>simp [prD,PyData.canLay0,PyData.canLayAll0,PyData.depth,PyData.depthAll]
 | some (.inr i),h=>simp [prD,PyData.canLay0,PyData.canLayAll0,PyData.depth,PyData.depthAll,(show PyData.strOk i=true from h)]
section
variable {A:Around}{s:Shared}
theorem Jb1 {u v:Value}{a b:Ji}(hu:A.units+2<cLine)(o1:okN a)(o2:okN b)(x:J32 s.heap u a)(y:J32 s.heap v b):SeqAt.EqAt A s u v (decide (a=b)):=by
 obtain ⟨as,r1⟩:=J5M x
 obtain ⟨bs,r2⟩:=J5M y
 rw [← Jc9]
 refine SeqAt.eqAt_reads _ _ A s u v _ _ r1 r2 (J52 a o1).1 (J52 b o2).1 ?_
 have:=Nat.min_le_left (prD a).depth (prD b).depth
 have:=(J52 a o1).2
 omega
theorem Jb0 {u v:Value}{a b:Ji}(hu:A.units<cLine)(x:J32 s.heap u a)(y:J32 s.heap v b)(hl:J7J a b=true)(hne:a≠b):JcS A s u v (ltN a b):=by
 obtain ⟨p,its,rfl,⟨⟨c1,d1,t1,sl1⟩,e,c,n,d⟩,r⟩:=x
 obtain ⟨q,its2,rfl,⟨⟨c2,d2,t2,sl2⟩,e2,c',n2,d'⟩,r2⟩:=y
 cases (show c1=.type "tuple" from c)
 cases (show c2=.type "tuple" from c')
 cases (show t1=.seq its.toArray n from d)
 cases (show t2=.seq its2.toArray n2 from d')
 intro prog w E Q h
 exact richCompare_meets_room (op:=.Lt) ⟨_,e,rfl⟩ ⟨_,e2,rfl⟩ F.slot_tuple_lt F.entry_tuple_lt (F.args_tuple_lt_2 _ _) (tuple_ltAt p q _ _ _ _ _ _ _ _ (ltN a b)) ⟨e,e2,lexV_at r r2 (Jc8 hl hne),by simp,h⟩ hu
theorem J7K (hu:A.units+2<cLine):∀ {us vs:List Value} {as bs:List Ji},Paired (J32 s.heap) us as→Paired (J32 s.heap) vs bs→(∀ a∈as,okN a)→(∀ b∈bs,okN b)→J4l as bs=true→LexAt A s us vs (J1g as bs)
 | _,_,_,_,.nil,.nil,_,_,_=>.nn
 | _,_,_,_,.nil,.cons _ _,_,_,_=>.nc
 | _,_,_,_,.cons _ _,.nil,_,_,_=>.cn
 | _,_,a::as,b::bs,.cons x t,.cons y t',o1,o2,h=>by
   rw [J4l,Bool.and_eq_true] at h
   rw [J1g]
   have e1:=Jb1 hu (o1 a List.mem_cons_self) (o2 b List.mem_cons_self) x y
   by_cases e:a=b
   ·rw [decide_eq_true e] at e1
    rw [if_pos e]
    refine .eq e1 (J7K hu t t' (fun z hz=>o1 z (List.mem_cons_of_mem _ hz)) (fun z hz=>o2 z (List.mem_cons_of_mem _ hz)) ?_)
    have h2:=h.2
    rw [if_pos e] at h2
    exact h2
   ·rw [decide_eq_false e] at e1
    rw [if_neg e]
    exact .ne e1 (Jb0 (by omega) x y h.1 e)
end
end L2
namespace L2
open PySem PySem.Spec PyProof.Rows PySem.W
theorem J4w {α β:Type}{M:Model}{A:Around}{E:Value→Shared→Prop}{s:Shared}{f:α→Sem β}{b:β}:∀ {l:List α} {Q:List β→Shared→Prop},(∀ x∈l,∀ Q':β→Shared→Prop,Q' b s→wpAny M A (f x) Q' E s)→Q (l.map fun _=>b) s→wpAny M A (l.mapM f) Q E s
 | [],Q,_,h=>by rw [List.mapM_nil];exact wpAny_pure h
 | x::l,Q,hf,h=>by
   rw [List.mapM_cons]
   refine wpAny_bind (hf x List.mem_cons_self _ ?_)
   exact wpAny_bind (J4w (fun y hy=>hf y (List.mem_cons_of_mem _ hy)) (wpAny_pure h))
def J2P (h:Heap)(v:Value)(ks:List Ji):Prop:=∃ k items n,v=.ref k∧h.get? k=some (seqObj "list" items n)∧Paired (J32 h) items.toList ks
theorem prV_inj {a b:Ji}{its:List Value}(h1:Vals (prV a) its)(h2:Vals (prV b) its):a=b:=by
 have sec:∀ {x y x' y':V} {its:List Value},Vals [x,y] its→Vals [x',y'] its→∃ u v,RelV x u∧RelV x' u∧RelV y v∧RelV y' v:=by
  intro x y x' y' its r1 r2
  cases r1 with
  | cons p1 t1=>cases t1 with
    | cons p2 t2=>cases t2;cases r2 with
      | cons q1 t3=>cases t3 with
        | cons q2 t4=>exact ⟨_,_,p1,q1,p2,q2⟩
 match a,b,h1,h2 with
 | none,none,_,_=>rfl
 | none,some k,h1,h2 =>
   obtain ⟨u,v,p1,p2,_,_⟩:=sec (show Vals [V.int 1,V.int 0] its from h1) (show Vals [V.int 0,kV k] its from h2)
   obtain ⟨t,rfl⟩:=p1;obtain ⟨t',e⟩:=p2;cases e
 | some k,none,h1,h2 =>
   obtain ⟨u,v,p1,p2,_,_⟩:=sec (show Vals [V.int 0,kV k] its from h1) (show Vals [V.int 1,V.int 0] its from h2)
   obtain ⟨t,rfl⟩:=p1;obtain ⟨t',e⟩:=p2;cases e
 | some j,some k,h1,h2 =>
   obtain ⟨u,v,_,_,p1,p2⟩:=sec (show Vals [V.int 0,kV j] its from h1) (show Vals [V.int 0,kV k] its from h2)
   cases j<;>cases k
   ·obtain ⟨t,rfl⟩:=p1;obtain ⟨t',e⟩:=p2;cases e;rfl
   ·obtain ⟨t,rfl⟩:=p1;obtain ⟨t',e⟩:=p2;cases e
   ·obtain ⟨t,rfl⟩:=p1;obtain ⟨t',e⟩:=p2;cases e
   ·obtain ⟨t,rfl⟩:=p1;obtain ⟨t',e⟩:=p2;cases e;rfl
theorem J9u {h:Heap}{u:Value}{a b:Ji}(x:J32 h u a)(y:J32 h u b):a=b:=by
 obtain ⟨p,its,rfl,⟨o,e,_,n,d⟩,r⟩:=x
 obtain ⟨q,its2,e0,⟨o2,e2,_,n2,d2⟩,r2⟩:=y
 cases e0
 rw [e] at e2;cases e2
 rw [d] at d2
 injection d2 with d3
 have:its=its2:=by simpa using d3
 subst this
 exact prV_inj r r2
theorem J7F {h:Heap}:∀ {us:List Value} {as bs:List Ji},Paired (J32 h) us as→Paired (J32 h) us bs→as=bs
 | _,_,_,.nil,.nil=>rfl
 | _,_,_,.cons x t,.cons y t'=>by rw [J9u x y,J7F t t']
theorem J8q {h:Heap}{v:Value}{as bs:List Ji}(x:J2P h v as)(y:J2P h v bs):as=bs:=by
 obtain ⟨k,its,n,rfl,e,r⟩:=x
 obtain ⟨k2,its2,n2,e0,e2,r2⟩:=y
 cases e0
 rw [e] at e2
 injection e2 with e3
 injection e3 with _ _ e4 _
 injection e4 with e5 _
 subst e5
 exact J7F r r2
open Classical in
noncomputable def J04 (h:Heap)(v:Value):List Ji:=if x:∃ ks,J2P h v ks then x.choose else []
theorem J2Z {h:Heap}{v:Value}{ks:List Ji}(x:J2P h v ks):J04 h v=ks:=by
 unfold J04
 rw [dif_pos ⟨ks,x⟩]
 exact J8q (Classical.choose_spec (⟨ks,x⟩:∃ ks,J2P h v ks)) x
section
variable {prog:Program}{w:World}{A:Around}{E:Value→Shared→Prop}{s:Shared}
def J2a (L:List (List Ji)):Prop:=(∀ a∈L,∀ k∈a,okN k)∧∀ a∈L,∀ b∈L,J4l a b=true
theorem Jdm {L:List (List Ji)}(hu:A.units+3<cLine)(hL:J2a L):Cmp prog w A s oneType' (fun v=>∃ ks,J2P s.heap v ks∧ks∈L) (fun v=>J1i J1f L (J04 s.heap v)):=by
 rintro E x y Q ⟨as,hx,ha⟩ ⟨bs,hy,hb⟩ h
 rw [keyLt'_oneType]
 have e0:decide (J1i J1f L (J04 s.heap x)<J1i J1f L (J04 s.heap y))=J1g as bs:=by
  simp only [J2Z hx,J2Z hy]
  exact J7A (O:=J1f) (l:=L) (a:=as) (b:=bs) ha
 have h0:Q (J1g as bs) s:=by rw [← e0];exact h
 obtain ⟨k,its,n,rfl,e,r⟩:=hx
 obtain ⟨k2,its2,n2,rfl,e2,r2⟩:=hy
 exact J6T (by omega) e e2 (J7K (show A.units+1+2<cLine by omega) r r2 (hL.1 as ha) (hL.1 bs hb) (hL.2 as ha bs hb)) h0
theorem kind_lists {keys:Array Value}{Q:SortKind→Shared→Prop}(hk:∀ v∈keys.toList,∃ ks,J2P s.heap v ks)(h2:2≤keys.size)(h:Q oneType' s):wpAny (model prog w) A (keyKind' keys) Q E s:=by
 have ty:∀ v∈keys.toList,s.TypeIs v "list":=fun v hv=>by
  obtain ⟨ks,k,its,n,rfl,e,_⟩:=hk v hv
  exact J2f e
 obtain ⟨l⟩:=keys
 match l,h2,ty with
 | x :: y::l,h2,ty =>
   rw [keyKind'_eq,List.mapM_toArray]
   refine wpAny_bind (wpAny_bind (J4w (b:=none) (fun v hv Q' q=>?_) (wpAny_pure ?_)))
   ·show wpAny _ _ (typeOf v >>= fun t=>if t != .type "tuple" then pure none else _) _ _ _
    refine wpAny_bind (wpAny_typeOf (ty v hv) ?_)
    rw [if_pos (by decide)]
    exact wpAny_pure q
   ·rw [if_neg (by simp),if_neg (by simp)]
    refine wpAny_bind ?_
    rw [oneTypeOnly'_eq,List.mapM_toArray]
    refine wpAny_bind (wpAny_bind (J4w (b:=Value.type "list") (fun v hv Q' q=>wpAny_typeOf (ty v hv) q) (wpAny_pure ?_)))
    have h0:((x::y::l).map fun _=>Value.type "list").toArray[0]?=some (Value.type "list"):=by simp
    rw [h0]
    have hall:(((x::y::l).map fun _=>Value.type "list").toArray.all fun z=>z == Value.type "list")=true:=by
     simp only [List.all_toArray,List.all_map,List.all_eq_true]
     intro _ _
     rfl
    simp only [hall,if_true]
    exact wpAny_pure (wpAny_pure h)
theorem Jdl {a kS:Addr}{vs:List Value}{keys:Array Value}{L:List (List Ji)}{e e1:Nat}{P:PySem.Fin→Shared→Prop}(hu:A.units+3<cLine)(hL:J2a L)(ha:s.heap.get? a=some (seqObj "list" #[] e1))(hk:s.heap.get? kS=some (seqObj "list" keys e))(hka:kS≠a)
 (hi:∀ v∈keys.toList,∃ ks,J2P s.heap v ks∧ks∈L) (hl:keys.size=vs.length) (h1000:vs.length≤1000)
 (h:∀ (h':Heap) tk e2 (ps:List (Value×Value)),(∀ b o,b≠a→b≠kS→s.heap.get? b=some o→h'.get? b=some o)→ps.Perm (keys.toList.zip vs)→Up (fun v=>J1i J1f L (J04 s.heap v)) ps→h'.get? a=some (seqObj "list" (ps.map (·.2)).toArray e2)→(∃ o,h'.get? kS=some o)→P (.done (.ret .none)) { s with heap:=h',toks:=tk }) :
 wpAny (model prog w) A (ksk_end a false vs.toArray e1 (.ref kS) keys) P E s:=by
 have tail:∀ st:SortSt,failedOf st=none→(arrOf st).toList.Perm (keys.toList.zip vs)→Up (fun v=>J1i J1f L (J04 s.heap v)) (arrOf st).toList→wpAny (model prog w) A (ksk_tail a false e1 (.ref kS) st) P E s:=fun st hf hp hup=>by
  have s1:=Heap.SameBut.update s.heap kS (Obj.mapSeq fun _=>(#[]:Array Value))
  have na1:(s.heap.update kS (Obj.mapSeq fun _=>(#[]:Array Value))).get? a=some (seqObj "list" #[] e1):=(s1.2 a hka.symm).trans ha
  have nk1:=get?_update_seq hk (fun _=>(#[]:Array Value))
  have hsz:((arrOf st).map (·.2)).size=vs.length:=by
   rw [Array.size_map,← Array.length_toList,hp.length_eq,List.length_zip,Array.length_toList,hl,Nat.min_self]
  unfold ksk_tail
  dsimp only
  refine wpAny_bind (listUpdate_at hk rfl ?_ (by rw [hl,sizeLine_eq];omega) (Nat.zero_le _))
  refine wpAny_bind (wpAny_letGo ?_)
  refine wpAny_bind (seqEpoch_at na1 rfl ?_)
  refine wpAny_bind (listUpdate_at na1 rfl ?_ (Nat.zero_le _) (by simp only [Bool.false_eq_true,if_false];rw [hsz,sizeLine_eq];omega))
  rw [hf]
  simp only [bne_self_eq_false,Bool.false_eq_true,if_false]
  have s2:=Heap.SameBut.update (s.heap.update kS (Obj.mapSeq fun _=>(#[]:Array Value))) a (Obj.mapSeq fun _=>(arrOf st).map (·.2))
  obtain ⟨e2,he2⟩:∃ e2,((s.heap.update kS (Obj.mapSeq fun _=>(#[]:Array Value))).update a (Obj.mapSeq fun _=>(arrOf st).map (·.2))).get? a=some (seqObj "list" ((arrOf st).map (·.2)) e2):=⟨_,get?_update_seq na1 _⟩
  have ea:(((arrOf st).toList.map (·.2)).toArray:Array Value)=(arrOf st).map (·.2):=by apply Array.ext';simp
  exact wpAny_pure (h _ _ e2 (arrOf st).toList (fun b o hb hb2 eb=>(s2.2 b hb).trans ((s1.2 b hb2).trans eb)) hp hup (by rw [ea];exact he2) ⟨_,(s2.2 kS hka).trans nk1⟩)
 have hz:(keys.zip vs.toArray).toList=keys.toList.zip vs:=by simp
 unfold ksk_end
 simp only [Bool.false_eq_true,if_false]
 by_cases h2:vs.toArray.size<2
 ·rw [if_pos h2,if_pos h2]
  refine wpAny_bind (wpAny_pure ?_)
  rw [StateT.run_pure]
  refine wpAny_bind (wpAny_pure ?_)
  dsimp only
  refine tail _ rfl (by show (keys.zip vs.toArray).toList.Perm _;rw [hz]) ?_
  show Up _ (keys.zip vs.toArray).toList
  have hl1:(keys.zip vs.toArray).toList.length≤1:=by rw [hz,List.length_zip];simp at h2;omega
  generalize (keys.zip vs.toArray).toList=l at hl1
  match l,hl1 with
  | [],_=>exact .nil
  | [x],_=>exact List.pairwise_singleton _ _
  | _::_::_,hl1=>simp at hl1
 ·rw [if_neg h2,if_neg h2]
  refine wpAny_bind (kind_lists (fun v hv=>let ⟨ks,x,_⟩:=hi v hv;⟨ks,x⟩) (by rw [hl];simp at h2;omega) ?_)
  refine wpAny_bind (wpAny_mono (tim_sortRuns (Jdm hu hL) (a₀:=keys.zip vs.toArray) (st:=SortSt.mk' oneType' (keys.zip vs.toArray) #[] 7 none) (Q:=fun _ st'=>failedOf st'=none∧(arrOf st').toList.Perm (keys.toList.zip vs)∧Up (fun v=>J1i J1f L (J04 s.heap v)) (arrOf st').toList) (fun p hp=>?_) rfl rfl (Array.Perm.refl _) rfl fun st' a1 a2 a3=>⟨a2,by rw [← hz];exact Array.perm_iff_toList_perm.mp a1,a3⟩) ?_ fun _ _ e=>e)
  ·rw [hz] at hp
   exact hi p.1 (List.of_mem_zip hp).1
  ·rintro ⟨⟨⟩,st'⟩ s' ⟨rfl,hf,hp,hup⟩
   exact tail st' hf hp hup
end
end L2
namespace L2
open PySem PySem.Spec PyProof.Rows PySem.W
def DictEs (h:Heap)(d:Addr)(es:Array DictEntry)(ep:Nat):Prop:=∃ o,h.get? d=some o∧o.ExactDict∧o.data=.dict es ep
section
variable {prog:Program}{w:World}{A:Around}{E:Value→Shared→Prop}{s:Shared}{d:Addr}{es:Array DictEntry}{ep:Nat}
theorem DictEs.typeIs (x:DictEs s.heap d es ep):s.TypeIs (.ref d) "dict":=let ⟨o,e,c,_⟩:=x;⟨o,e,c.1⟩
theorem Jbu {Q:Value→Shared→Prop}(hd:(d == sysModules)=false)(hm:DictEs s.heap d es ep)
 (q:Q (.ref s.heap.objs.size) { s with heap:=s.heap.push { cls:=.type "dict_keyiterator",data:=.fields #[.ref d,.int 0 0,.int es.size 0,.int ep 0] } }):wpAny (model prog w) A (pyIter (.ref d)) Q E s:=by
 obtain ⟨o,g1,g2,g3⟩:=id hm
 have ty:=hm.typeIs
 refine wpAny_pyIter_slot ty F.slot_dict_iter (wpAny_call_entry F.slot_dict_iter ty F.entry_dict_iter ?_ (F.args_dict_iter_1 _))
 unfold Builtin.«dict.__iter__»
 refine wpAny_bind ?_
 unfold Builtin.Dict.dictSlotNone
 refine wpAny_bind (wpAny_notOrdered_dict ty (wpAny_pure ?_))
 show wpAny _ _ (Builtin.Dict.showsAll d >>= _) _ _ s
 unfold Builtin.Dict.showsAll
 rw [if_neg (fun z=>by rw [hd] at z;cases z)]
 refine wpAny_bind (wpAny_pure (wpAny_bind (wpAny_dictEntries g1 g3 (wpAny_bind (wpAny_dictEpoch g1 g3 ?_)))))
 refine wpAny_bind (wpAny_newObj_type (wpAny_pure ⟨_,rfl,"dict_keyiterator",_,⟨_,Heap.get?_push_size _ rfl,rfl⟩,F.slot_dict_keyiterator_next.lookup,?_⟩))
 simpa [rawInt] using q
theorem Jbt {it:Addr}{i:Nat}{Q:Option Value→Shared→Prop}(t:s.heap.IsKeyIter it d i es.size ep)(hm:DictEs s.heap d es ep)(hi:i<es.size)(en:DictEntry)(hx:es[i]?=some en)
 (q:∀ h',h'.IsKeyIter it d (i+1) es.size ep→Heap.SameBut it s.heap h'→Q (some en.key) { s with heap:=h' }):wpAny (model prog w) A (pyNext (.ref it)) Q E s:=by
 obtain ⟨oi,g1,g2,g3⟩:=id t
 obtain ⟨o,f1,f2,f3⟩:=id hm
 have ty:=t.typeIs
 have sl:=F.slot_dict_keyiterator_next
 unfold pyNext
 refine wpAny_bind (wpAny_attempt (wpAny_callSpecial?_slot (name:=Str.ofString "__next__") ty sl (wpAny_call_entry sl ty F.entry_dict_keyiterator_next ?_ (F.args_dict_keyiterator_next_1 _))))
 refine wpAny_bind (wpAny_pure (wpAny_bind (wpAny_bind ?_)))
 first | refine wpAny_bind (wpAny_typeNameOfWhole_keyiter ty (wpAny_pure ?_)) | refine wpAny_bind (wpAny_typeNameOf_keyiter ty (wpAny_pure ?_))
 refine wpAny_bind (wpAny_fieldsOf g1 g3 ?_)
 have ow:Builtin.Dict_items.ownsTuple "dict_keyiterator"=false:=by decide
 simp only [ow,Bool.false_eq_true,if_false]
 show wpAny _ _ (if (Value.ref d == Value.none)=true then _ else _) _ _ s
 rw [if_neg (fun z:(Value.ref d == Value.none)=true=>by cases z)]
 refine wpAny_bind (wpAny_pure (wpAny_bind (wpAny_dictEntries f1 f3 ?_)))
 rw [if_neg (by simp)]
 refine wpAny_bind (wpAny_pure (wpAny_bind (wpAny_dictEpoch f1 f3 ?_)))
 rw [if_neg (by simp)]
 refine wpAny_pure ?_
 have e0:es[i]=en:=Option.some.inj ((Array.getElem?_eq_getElem hi).symm.trans hx)
 simp only [show ¬ ((i:Int)<0) from by omega,if_false,Int.toNat_natCast,hx]
 refine wpAny_bind ?_
 first | refine wpAny_bind (wpAny_typeNameOfWhole_keyiter ty (wpAny_pure ?_)) | refine wpAny_bind (wpAny_typeNameOf_keyiter ty (wpAny_pure ?_))
 refine wpAny_bind (wpAny_isOneOf_keyiter ty ?_)
 show wpAny _ _ (setField (.ref it) 1 (rawInt ((i:Int)+1)) >>= _) _ _ s
 refine wpAny_bind (wpAny_setField g1 g3 (by simp) ?_)
 have t2:(s.heap.update it (Obj.mapFields (·.setIfInBounds 1 (rawInt ((i:Int)+1))))).IsKeyIter it d (i+1) es.size ep :=
  ⟨_,Heap.get?_update_self _ g1 (Obj.isFreed_of_fields (Obj.data_mapFields g3 _)),(Obj.cls_mapFields ..).trans g2,by rw [Obj.data_mapFields g3];simp [rawInt]⟩
 refine wpAny_bind (wpAny_holding (wpAny_bind (wpAny_isOneOf_keyiter (s:={ s with heap:=s.heap.update it (Obj.mapFields (·.setIfInBounds 1 (rawInt ((i:Int)+1)))) }) t2.typeIs ?_)))
 show wpAny _ _ (pure en.key) _ _ _
 exact wpAny_pure (wpAny_pure ⟨_,rfl,wpAny_pure (q _ t2 (Heap.SameBut.update ..))⟩)
theorem JcH {it:Addr}{Q:Option Value→Shared→Prop}(hh:A.handled=none)(t:s.heap.IsKeyIter it d es.size es.size ep)(hm:DictEs s.heap d es ep)
 (q:∀ h',Heap.ExtBut it s.heap h'→Q none { s with heap:=h' }):wpAny (model prog w) A (pyNext (.ref it)) Q E s:=by
 obtain ⟨oi,g1,g2,g3⟩:=id t
 obtain ⟨o,f1,f2,f3⟩:=id hm
 have ty:=t.typeIs
 have sl:=F.slot_dict_keyiterator_next
 unfold pyNext
 refine wpAny_bind (wpAny_attempt (wpAny_callSpecial?_slot (name:=Str.ofString "__next__") ty sl (wpAny_call_entry sl ty F.entry_dict_keyiterator_next ?_ (F.args_dict_keyiterator_next_1 _))))
 refine wpAny_bind (wpAny_pure (wpAny_bind (wpAny_bind ?_)))
 first | refine wpAny_bind (wpAny_typeNameOfWhole_keyiter ty (wpAny_pure ?_)) | refine wpAny_bind (wpAny_typeNameOf_keyiter ty (wpAny_pure ?_))
 refine wpAny_bind (wpAny_fieldsOf g1 g3 ?_)
 have ow:Builtin.Dict_items.ownsTuple "dict_keyiterator"=false:=by decide
 simp only [ow,Bool.false_eq_true,if_false]
 show wpAny _ _ (if (Value.ref d == Value.none)=true then _ else _) _ _ s
 rw [if_neg (fun z:(Value.ref d == Value.none)=true=>by cases z)]
 refine wpAny_bind (wpAny_pure (wpAny_bind (wpAny_dictEntries f1 f3 ?_)))
 rw [if_neg (by simp)]
 refine wpAny_bind (wpAny_pure (wpAny_bind (wpAny_dictEpoch f1 f3 ?_)))
 rw [if_neg (by simp)]
 refine wpAny_pure ?_
 simp only [show ¬ ((es.size:Int)<0) from by omega,if_false,Int.toNat_natCast,Array.getElem?_eq_none (Nat.le_refl _)]
 refine wpAny_bind ?_
 first | refine wpAny_bind (wpAny_typeNameOfWhole_keyiter ty (wpAny_pure ?_)) | refine wpAny_bind (wpAny_typeNameOf_keyiter ty (wpAny_pure ?_))
 show wpAny _ _ (setField (.ref it) 0 .none >>= _) _ _ s
 refine wpAny_bind (wpAny_setField g1 g3 (by simp) ?_)
 show wpAny _ _ (newExc (.type "StopIteration") [] >>= _) _ _ _
 refine wpAny_bind ?_
 simp only [newExc,newTuple]
 refine wpAny_bind (wpAny_newObj_type ?_ (by size_fits))
 refine wpAny_bind (m:=firstArgMember _ _) (wpAny_of_eq (a:=Value.none) (by first | rfl | (simp only [firstArgMember];rfl)) (wpAny_newObj_type ?_ (by size_fits)))
 simp only [raiseNew]
 refine wpAny_bind (wpAny_handled ?_)
 rw [(hh:A.in1.handled=none)]
 refine wpAny_bind (wpAny_pure ?_);refine wpAny_throw ?_
 refine wpAny_bind (wpAny_isInstance (b:=true) (T:="StopIteration") ⟨_,Heap.get?_push_size _ rfl,rfl⟩ isSubtype_stop ?_)
 exact wpAny_pure (q _ (((Heap.SameBut.update ..).extBut.push _).push _))
theorem DictEs.ext {h h':Heap}{b:Addr}(x:DictEs h d es ep)(k:Heap.ExtBut b h h')(hb:d≠b):DictEs h' d es ep:=let ⟨o,e,r⟩:=x;⟨o,k d o hb e,r⟩
theorem DictEs.at {h h':Heap}(x:DictEs h d es ep)(k:∀ o,h.get? d=some o→h'.get? d=some o):DictEs h' d es ep:=let ⟨o,e,r⟩:=x;⟨o,k o e,r⟩
theorem DictEs.lt {h:Heap}(x:DictEs h d es ep):d<h.objs.size:=let ⟨_,e,_⟩:=x;Heap.lt_size e
theorem es_src (lo:(d == sysModules)=false):KdlSrc prog w "dict" d d es.size (fun i v=>∃ en,es[i]?=some en∧v=en.key) (fun h=>DictEs h d es ep) where
 type:=fun _ x=>x.typeIs
 there:=fun _ x=>⟨x.lt,x.lt⟩
 keep:=fun _ _ x k=>x.at fun o e=>k d (.inl rfl) o e
 notList:=by decide
 notTuple:=by decide
 hint:=fun _ _ _ _ x q=>kdl_hint_dict x.typeIs q
 iter:=fun A s hh x=>by
  have hne:d≠s.heap.objs.size:=Nat.ne_of_lt x.lt
  refine ⟨_,fun i h=>h.IsKeyIter s.heap.objs.size d i es.size ep∧DictEs h d es ep,fun _ _ q=>Jbu lo x q,?_,⟨⟨_,Heap.get?_push_size _ rfl,rfl,rfl⟩,x.at fun o e=>Heap.get?_push_of_some _ e⟩⟩
  exact {
   sub:=fun b hb=>List.mem_cons.mpr (.inl (List.mem_singleton.mp hb))
   frame:=fun i h h' st k=>⟨let ⟨o,e,r⟩:=st.1;⟨o,k _ (by simp) o e,r⟩,st.2.at fun o e=>k d (by simp) o e⟩
   item:=fun i s' Q E hi st q=>by
    refine Jbt st.1 st.2 hi es[i] (Array.getElem?_eq_getElem hi) fun h' t2 sb=>?_
    exact q _ h' s'.toks ⟨_,Array.getElem?_eq_getElem hi,rfl⟩ ⟨t2,st.2.ext sb.extBut hne⟩ fun b o hb e=>sb.extBut b o (fun z=>hb (by simp [z])) e
   done:=fun s' Q E st q=>JcH hh st.1 st.2 fun h' x'=>q h' s'.toks fun b o hb e=>x' b o (fun z=>hb (by simp [z])) e
   self:=fun i s' Q E st q=>wpAny_pyIter_keyiter st.1 q }
end
end L2
namespace L2
open PySem PySem.Spec PyProof.Rows PySem.W
def Prs (H:Hp)(us:List V)(ks:List Ji):Prop:=Paired (fun (u:V) (k:Ji)=>∃ p,u=.ref p∧H p=some (.tup (prV k))) us ks
theorem Prs.mono {H H':Hp}{us:List V}{ks:List Ji}(s:Same H H')(h:Prs H us ks):Prs H' us ks:=Paired.mapP h fun _ _ ⟨p,e,q⟩=>⟨p,e,s _ _ q⟩
def KeyV (H:Hp)(v:V)(ks:List Ji):Prop:=∃ l us,v=.ref l∧H l=some (.lst us)∧Prs H us ks
theorem KeyV.mono {H H':Hp}{v:V}{ks:List Ji}(s:Same H H')(h:KeyV H v ks):KeyV H' v ks:=let ⟨l,us,e,a,b⟩:=h;⟨l,us,e,s _ _ a,b.mono s⟩
theorem J9t {P:Program}{w:World}{H:Hp}{h:Heap}(ok:HOk P w H h):∀ {us:List V} {ks:List Ji} {its:List Value},Prs H us ks→Vals us its→Paired (J32 h) its ks
 | _,_,_,.nil,.nil=>.nil
 | _,_,_,.cons ⟨p,e,q⟩ t,.cons r t'=>by
   subst e
   refine .cons ?_ (J9t ok t t')
   obtain ⟨_,its,rv,tp⟩:=(show ObjOk P w H h p (.tup _) from ok p _ q)
   exact ⟨p,its,r,tp,rv⟩
theorem KeyV.is {P:Program}{w:World}{H:Hp}{h:Heap}{v:V}{u:Value}{ks:List Ji}(ok:HOk P w H h)(x:KeyV H v ks)(r:RelV v u):J2P h u ks:=by
 obtain ⟨l,us,rfl,e,q⟩:=x
 obtain ⟨_,its,n,rv,g⟩:=(show ObjOk P w H h l (.lst us) from ok l _ e)
 exact ⟨l,its.toArray,n,r,g,by simpa using J9t ok q rv⟩
section
variable {X:Cx}{pins:List (Addr×Obj)}{σ:St}{s:Shared}{E:Value→Shared→Prop}
def Jay (X:Cx)(pins:List (Addr×Obj))(σ:St)(H0:Hp)(A:Around)(f:Value)(vs:List Value)(kss:List (List Ji)):Prop :=
 ∀ (i:Nat) v ks,vs[i]?=some v→kss[i]?=some ks→∀ (pl:List (Addr×Obj)) (H:Hp) (s':Shared),Same H0 H→Inv X (pins++pl) σ H s' →
   wpAny (model X.prog X.w) A (call f [v]) (fun u s''=>∃ H' x,Same H H'∧Inv X (pins++pl) σ H' s''∧RelV x u∧KeyV H' x ks) (fun _ _=>False) s'
def KeysV (H:Hp)(us:List Value)(kss:List (List Ji)):Prop:=Paired (fun (u:Value) (ks:List Ji)=>∃ x,RelV x u∧KeyV H x ks) us kss
theorem KeysV.mono {H H':Hp}{us:List Value}{kss:List (List Ji)}(s:Same H H')(h:KeysV H us kss):KeysV H' us kss:=Paired.mapP h fun _ _ ⟨x,r,q⟩=>⟨x,r,q.mono s⟩
theorem restT {A:Around}{f:Value}{a kS:Addr}{vs:List Value}{kss:List (List Ji)}{H:Hp}{e1:Nat}{P:PySem.Fin→Shared→Prop}(hu:A.units+3<cLine)(hL:J2a kss)(I:Inv X pins σ H s)
 (ha:s.heap.get? a=some (seqObj "list" #[] e1)) (hk:s.heap.get? kS=some (seqObj "list" #[] 0)) (hka:kS≠a) (fa:J24 X pins H a) (fk:J24 X pins H kS) (hl:kss.length=vs.length) (h1000:vs.length≤1000) (KO:Jay X pins σ H A f vs kss)
 (h:∀ s' Hn,Same H Hn→Inv X pins σ Hn s'→Hn a=none→Hn kS=none→(∃ o,s'.heap.get? a=some o)→∀ (keys:Array Value),KeysV Hn keys.toList kss→∀ h' tk e2 (ps:List (Value×Value)),(∀ b o,b≠a→b≠kS→s'.heap.get? b=some o→h'.get? b=some o)→(∃ o,h'.get? kS=some o)→ps.Perm (keys.toList.zip vs) →
  Up (fun v=>J1i J1f kss (J04 s'.heap v)) ps→h'.get? a=some (seqObj "list" (ps.map (·.2)).toArray e2)→P (.done (.ret .none)) { s' with heap:=h',toks:=tk }) :
 wpAny (model X.prog X.w) A (ksk_rest a f false vs.toArray e1 (.ref kS)) P E s:=by
 unfold ksk_rest
 refine wpAny_bind (wpAny_rule ?_)
 rw [List.forIn_toArray]
 refine wpAny_bind (ksk_fold (fun i s'=>∃ kA e Hi,Same H Hi∧Inv X pins σ Hi s'∧Hi a=none∧Hi kS=none∧s'.heap.get? a=some (seqObj "list" #[] e1)∧s'.heap.get? kS=some (seqObj "list" kA e)∧KeysV Hi kA.toList (kss.take i)) vs 0 s
  ⟨#[],0,H,Same.refl _,I,fa.1,fk.1,ha,hk,by simpa [KeysV] using Paired.nil⟩ ?step ?done)
 case step =>
  rintro j x s' hx ⟨kA,e,Hi,sm,J,nA,nK,na,nk,hi⟩
  simp only [Nat.zero_add] at hi ⊢
  have hj:j<vs.length:=(List.getElem?_eq_some_iff.mp hx).1
  obtain ⟨ks,hkj⟩:∃ ks,kss[j]?=some ks:=⟨_,List.getElem?_eq_getElem (by omega)⟩
  have hz:kA.size≤vs.length:=by
   have h1:=Paired.length hi
   rw [Array.length_toList,List.length_take] at h1
   omega
  have J2:Inv X (pins++[(a,seqObj "list" #[] e1),(kS,seqObj "list" kA e)]) σ Hi s':=J.pins_of fun p hp=>by
   rcases List.mem_append.mp hp with hp | hp
   ·exact J.pin p (List.mem_append_right _ hp)
   ·rcases List.mem_cons.mp hp with rfl | hp
    ·exact ⟨na,nA,fa.2.1,fa.2.2.1,fun v=>by simp [seqObj]⟩
    ·rw [List.mem_singleton.mp hp]
     exact ⟨nk,nK,fk.2.1,fk.2.2.1,fun v=>by simp [seqObj]⟩
  refine wpAny_bind (wpAny_attempt (wpAny_mono (KO j x ks hx hkj _ Hi s' sm J2) (fun u s'' he=>?_) fun _ _ hF=>hF.elim))
  obtain ⟨H',y,sm2,J3,ry,ky⟩:=he
  dsimp only
  have p1:=J3.pin (a,seqObj "list" #[] e1) (List.mem_append_right _ (List.mem_append_right _ (.head _)))
  have p2:=J3.pin (kS,seqObj "list" kA e) (List.mem_append_right _ (List.mem_append_right _ (.tail _ (.head _))))
  have na3:=p1.1
  have nk3:=p2.1
  have J4:Inv X pins σ H' s'':=J3.unpinned
  have s1:=Heap.SameBut.update s''.heap kS (Obj.mapSeq (·.push u))
  obtain ⟨c2,hc2⟩:∃ c2,(s''.heap.update kS (Obj.mapSeq (·.push u))).get? kS=some (seqObj "list" (kA.push u) c2):=⟨_,get?_update_seq nk3 (·.push u)⟩
  have ek:kss.take (j+1)=kss.take j++[ks]:=by rw [List.take_add_one,hkj];simp
  have ea:(kA.push u).toList=kA.toList++[u]:=by simp
  refine wpAny_bind (listUpdate_at nk3 rfl ?_ (by rw [sizeLine_eq];omega) (Nat.le_trans (Nat.le_of_eq (Array.size_push ..)) (by rw [sizeLine_eq];omega)))
  have kp:∀ b o,b≠kS→s''.heap.get? b=some o→(s''.heap.update kS (Obj.mapSeq (·.push u))).get? b=some o:=fun b o hb eb=>(s1.2 b hb).trans eb
  exact wpAny_pure ⟨rfl,kA.push u,c2,H',sm.trans sm2,J4.turned (t':=s''.toks) kp p2.2.1 fk.2.1 fk.2.2.2.1 fk.2.2.2.2.1 fk.2.2.2.2.2,p1.2.1,p2.2.1,kp _ _ hka.symm na3,hc2,by rw [ea,ek];exact Paired.snoc (hi.mono sm2) ⟨y,ry,ky⟩⟩
 case done =>
  rintro s' ⟨kA,e,Hi,sm,J,nA,nK,na,nk,hi⟩
  have e3:kss.take (0+vs.length)=kss:=List.take_of_length_le (by omega)
  rw [e3] at hi
  have hsz:kA.size=vs.length:=by
   have h1:=Paired.length hi
   rw [Array.length_toList] at h1
   omega
  refine wpAny_bind (listItems_at nk rfl ?_)
  refine Jdl hu hL na nk hka (fun v hv=>?_) hsz h1000 fun h' tk e2 ps kp pp up ga gk=>h s' Hi sm J nA nK ⟨_,na⟩ kA hi h' tk e2 ps kp gk pp up ga
  obtain ⟨i,hiv⟩:=List.mem_iff_getElem?.mp hv
  have hil:=(List.getElem?_eq_some_iff.mp hiv).1
  have hlk:kA.toList.length=kss.length:=Paired.length hi
  obtain ⟨ks,hks⟩:∃ ks,kss[i]?=some ks:=⟨_,List.getElem?_eq_getElem (by omega)⟩
  have gp:∀ {us:List Value} {ls:List (List Ji)} (n:Nat) {u:Value} {k:List Ji},KeysV Hi us ls→us[n]?=some u→ls[n]?=some k→∃ x,RelV x u∧KeyV Hi x k:=by
   intro us ls n
   induction n generalizing us ls with
   | zero =>
     intro u k q h1 h2
     cases q with
     | nil=>cases h1
     | cons r t=>cases h1;cases h2;exact r
   | succ n ih =>
     intro u k q h1 h2
     cases q with
     | nil=>cases h1
     | cons r t=>exact ih t (by simpa using h1) (by simpa using h2)
  obtain ⟨x,rx,kx⟩:=gp i hi hiv hks
  exact ⟨ks,kx.is J.hok rx,List.mem_of_getElem? hks⟩
end
end L2
namespace L2
open PySem PySem.Spec PyProof.Rows PySem.W
def TupsV (H:Hp)(ts:List V)(kss:List (List Ji)):Prop:=Paired (fun (x:V) (ks:List Ji)=>∃ b,x=.ref b∧H b=some (.tup (ks.map nV))) ts kss
theorem TupsV.mono {H H':Hp}{ts:List V}{kss:List (List Ji)}(s:Same H H')(h:TupsV H ts kss):TupsV H' ts kss:=Paired.mapP h fun _ _ ⟨b,e,q⟩=>⟨b,e,s _ _ q⟩
noncomputable def J9a:Value→V
 | .ref b=>.ref b
 | _=>.non
section
variable {X:Cx}{pins:List (Addr×Obj)}{σ:St}{H:Hp}{s:Shared}{E:Value→Shared→Prop}
theorem sorted_dT {d q:Addr}{kvs:List (List Ji×V)}{Q:VK}(I:Inv X pins σ H s)(hex:X.ex=[])(hc:X.calm=true)(hu:X.A.units+8<cLine)(hd:H d=some (.dT kvs))(h1000:kvs.length≤1000)(hL:J2a (kvs.map (·.1)))
 (KO:∀ vs,vs.length=kvs.length→(∀ (i:Nat) v ks,vs[i]?=some v→(kvs.map (·.1))[i]?=some ks→∃ b,v=.ref b∧H b=some (.tup (ks.map nV)))→Jay X pins σ H X.A.in1.in1 (.ref q) vs (kvs.map (·.1)))
 (hQ:∀ Hn D ts kss,Same H Hn→Hn D=none→TupsV Hn ts kss→kss.Perm (kvs.map (·.1))→kss.Pairwise (fun a b=>J1g a b=true)→Q (.ref D) (upd Hn D (.lst ts))) :
 wpAny (model X.prog X.w) X.A (call (.builtin "sorted") [.ref d] [(Str.ofString "key",.ref q)]) (EP X pins σ Q) E s:=by
 obtain ⟨_,lo,xs,kt,o,es,ep,g1,g2,g3,g4,_,nd⟩:=Ja9 I.hok hd
 have hxl:xs.length=kvs.length:=kt.length.symm
 have hel:es.size=kvs.length:=by rw [← Array.length_toList,g4,List.length_map,hxl]
 have nd':(kvs.map (·.1)).Nodup:=by
  have e:kvs.map (·.1)=xs.map (·.1):=by
   have all:∀ {l:List (List Ji×V)} {m:List (List Ji×Addr×Value)},KT H l m→l.map (·.1)=m.map (·.1):=by
    intro l m z
    induction z with
    | nil=>rfl
    | cons z _ ih=>simp only [List.map_cons,ih,z.1]
   exact all kt
  rw [e];exact nd
 refine call_function_entry_kw kind_sorted plain_sorted entry_sorted (ksk_s1 _ _) ?_
 unfold Builtin.«sorted»
 refine wpAny_bind (m:=checkCount "sorted" 1 1 _) (wpAny_pure ?_)
 refine wpAny_bind (J6j (es_src (es:=es) (ep:=ep) lo) (I.ok.hd hc) ⟨o,g1,g2,g3⟩ (by rw [hel,sizeLine_eq];omega) fun h1 tk acc hk hsz hacc=>?_)
 have hvl:acc.toList.length=kvs.length:=by rw [Array.length_toList,hacc.1,hel]
 have hvs:∀ (i:Nat) v ks,acc.toList[i]?=some v→(kvs.map (·.1))[i]?=some ks→∃ b,v=.ref b∧H b=some (.tup (ks.map nV)):=by
  intro i v ks hv hks
  obtain ⟨en,he,rfl⟩:=hacc.2 i v (by rw [← Array.getElem?_toList];exact hv)
  rw [entry_at g4] at he
  obtain ⟨x,hx,rfl⟩:=Option.map_eq_some_iff.mp he
  have all:∀ {l:List (List Ji×V)} {m:List (List Ji×Addr×Value)} (i:Nat) {x:List Ji×Addr×Value} {ks:List Ji},KT H l m→m[i]?=some x→(l.map (·.1))[i]?=some ks→H x.2.1=some (.tup (ks.map nV)):=by
   intro l m i
   induction i generalizing l m with
   | zero =>
     intro x ks z h1 h2
     cases z with
     | nil=>cases h1
     | cons z _=>cases h1;cases h2;exact z.2.1
   | succ i ih =>
     intro x ks z h1 h2
     cases z with
     | nil=>cases h1
     | cons z t=>exact ih t (by simpa using h1) (by simpa using h2)
  exact ⟨x.2.1,rfl,all i kt hx hks⟩
 generalize acc.toList=vs at *
 refine wpAny_bind (wpAny_newList ?_ (hsz:=by rw [sizeLine_eq];omega))
 have hoL:(h1.push (seqObj "list" vs.toArray 0)).get? h1.objs.size=some (seqObj "list" vs.toArray 0):=Heap.get?_push_size _ rfl
 have hsL:(h1.push (seqObj "list" vs.toArray 0)).objs.size=h1.objs.size+1:=Heap.size_push ..
 have kL:∀ b o,s.heap.get? b=some o→(h1.push (seqObj "list" vs.toArray 0)).get? b=some o:=fun b o e=>Heap.get?_push_of_some _ (hk b o e)
 show wpAny _ _ _ _ _ { s with heap:=h1.push (seqObj "list" vs.toArray 0),toks:=tk }
 generalize h1.push (seqObj "list" vs.toArray 0)=h2 at *
 have haz:s.heap.objs.size≤h1.objs.size:=Nat.le_of_lt hsz
 refine wpAny_bind (wpAny_holding (wpAny_call_entry_kw slot_list_sort ⟨_,hoL,rfl⟩ entry_list_sort ?body (ksk_l1 _ _)))
 case body =>
  show wpAny (model X.prog X.w) X.A.in1.in1 (Builtin.«list.sort» ⟨[.ref h1.objs.size],[(Str.ofString "key",.ref q)]⟩) _ _ _
  rw [ksk_t1]
  unfold ksk_tree
  refine wpAny_bind (listItems_at hoL rfl ?_)
  refine wpAny_bind (listUpdate_at hoL rfl ?_ (by rw [List.size_toArray,sizeLine_eq];omega) (Nat.zero_le _))
  obtain ⟨e1,ho1⟩:∃ e1,(h2.update h1.objs.size (Obj.mapSeq fun _=>(#[]:Array Value))).get? h1.objs.size=some (seqObj "list" #[] e1):=⟨_,get?_update_seq hoL fun _=>#[]⟩
  have s3:(h2.update h1.objs.size (Obj.mapSeq fun _=>(#[]:Array Value))).objs.size=h1.objs.size+1:=by rw [Heap.size_update,hsL]
  have k3:∀ b o,s.heap.get? b=some o→(h2.update h1.objs.size (Obj.mapSeq fun _=>(#[]:Array Value))).get? b=some o:=fun b o e=>(Heap.get?_update_other _ _ (Nat.ne_of_gt (Nat.lt_of_lt_of_le (Heap.lt_size e) haz))).trans (kL b o e)
  refine wpAny_bind (seqEpoch_at ho1 rfl ?_)
  generalize h2.update h1.objs.size (Obj.mapSeq fun _=>(#[]:Array Value))=h3 at *
  refine wpAny_bind (wpAny_newTuple ?_ (by show vs.length≤_;rw [sizeLine_eq];omega))
  have ho4:(h3.push (seqObj "tuple" vs.toArray 0)).get? h1.objs.size=some (seqObj "list" #[] e1):=Heap.get?_push_of_some _ ho1
  have s4:(h3.push (seqObj "tuple" vs.toArray 0)).objs.size=h1.objs.size+2:=by rw [Heap.size_push,s3]
  have k4:∀ b o,s.heap.get? b=some o→(h3.push (seqObj "tuple" vs.toArray 0)).get? b=some o:=fun b o e=>Heap.get?_push_of_some _ (k3 b o e)
  show wpAny _ _ _ _ _ { s with heap:=h3.push (seqObj "tuple" vs.toArray 0),toks:=tk }
  generalize h3.push (seqObj "tuple" vs.toArray 0)=h4 at *
  refine wpAny_bind (wpAny_newList ?_ (Nat.zero_le _))
  have hoK:(h4.push (seqObj "list" #[] 0)).get? h4.objs.size=some (seqObj "list" #[] 0):=Heap.get?_push_size _ rfl
  have ho5:(h4.push (seqObj "list" #[] 0)).get? h1.objs.size=some (seqObj "list" #[] e1):=Heap.get?_push_of_some _ ho4
  have k5:∀ b o,s.heap.get? b=some o→(h4.push (seqObj "list" #[] 0)).get? b=some o:=fun b o e=>Heap.get?_push_of_some _ (k4 b o e)
  show wpAny _ _ _ _ _ { s with heap:=h4.push (seqObj "list" #[] 0),toks:=tk }
  generalize h4.push (seqObj "list" #[] 0)=h5 at *
  refine wpAny_holding ?_
  have hkz2:s.heap.objs.size≤h4.objs.size:=by rw [s4];omega
  have fa:J24 X pins H h1.objs.size:=I.fpOk haz (I.hok.fresh haz)
  have fk:J24 X pins H h4.objs.size:=I.fpOk hkz2 (I.hok.fresh hkz2)
  have I5:Inv X pins σ H { s with heap:=h5,toks:=tk }:=I.kept k5
  have hka:h4.objs.size≠h1.objs.size:=by rw [s4];exact Nat.ne_of_gt (Nat.lt_add_of_pos_right (by decide))
  refine restT (s:={ s with heap:=h5,toks:=tk }) (show X.A.units+1+1+3<cLine by omega) hL I5 ho5 hoK hka fa fk (by rw [List.length_map,hvl]) (by omega) (KO vs hvl hvs) fun s' Hn sm J nA nK _ keys kv h' tk' e2 ps kp _ pp up ga=>⟨_,rfl,?_⟩
  have J2:Inv X pins σ Hn { s' with heap:=h',toks:=tk' }:=J.turnedL (ch:=[h1.objs.size,h4.objs.size]) (fun b o hb e=>by
   simp only [List.mem_cons,List.not_mem_nil,or_false,not_or] at hb
   exact kp b o hb.1 hb.2 e) fun b hb=>by
   rcases List.mem_cons.mp hb with rfl | hb
   ·exact ⟨nA,fa.2⟩
   ·rw [List.mem_singleton.mp hb];exact ⟨nK,fk.2⟩
  have hln:s.heap.get? h1.objs.size=none:=Heap.get?_none_of_le haz
  have hlk:keys.toList.length=(kvs.map (·.1)).length:=Paired.length kv
  have at_:∀ (i:Nat) p,(keys.toList.zip vs)[i]?=some p→∃ ks b,(kvs.map (·.1))[i]?=some ks∧J04 s'.heap p.1=ks∧p.2=.ref b∧Hn b=some (.tup (ks.map nV)):=by
   intro i p hp
   rw [List.getElem?_zip_eq_some] at hp
   have hil:=(List.getElem?_eq_some_iff.mp hp.1).1
   obtain ⟨ks,hks⟩:∃ ks,(kvs.map (·.1))[i]?=some ks:=⟨_,List.getElem?_eq_getElem (by omega)⟩
   have gp:∀ {us:List Value} {ls:List (List Ji)} (n:Nat) {u:Value} {k:List Ji},KeysV Hn us ls→us[n]?=some u→ls[n]?=some k→∃ x,RelV x u∧KeyV Hn x k:=by
    intro us ls n
    induction n generalizing us ls with
    | zero =>
      intro u k q h1 h2
      cases q with
      | nil=>cases h1
      | cons r t=>cases h1;cases h2;exact r
    | succ n ih =>
      intro u k q h1 h2
      cases q with
      | nil=>cases h1
      | cons r t=>exact ih t (by simpa using h1) (by simpa using h2)
   obtain ⟨x,rx,kx⟩:=gp i kv hp.1 hks
   obtain ⟨b,eb,hb⟩:=hvs i p.2 ks hp.2 hks
   exact ⟨ks,b,hks,J2Z (kx.is J.hok rx),eb,sm _ _ hb⟩
  have mem_:∀ p∈ps,∃ b,p.2=.ref b∧Hn b=some (.tup ((J04 s'.heap p.1).map nV))∧J04 s'.heap p.1∈kvs.map (·.1):=fun p hp=>by
   obtain ⟨i,hi⟩:=List.mem_iff_getElem?.mp (pp.mem_iff.mp hp)
   obtain ⟨ks,b,h1,h2,h3,h4⟩:=at_ i p hi
   exact ⟨b,h3,by rw [h2];exact h4,by rw [h2];exact List.mem_of_getElem? h1⟩
  have hperm:(ps.map fun p=>J04 s'.heap p.1).Perm (kvs.map (·.1)):=by
   have e:(keys.toList.zip vs).map (fun p=>J04 s'.heap p.1)=kvs.map (·.1):=by
    have hzl:(keys.toList.zip vs).length=kvs.length:=by rw [List.length_zip,hlk,List.length_map,hvl,Nat.min_self]
    apply List.ext_getElem?
    intro i
    rw [List.getElem?_map]
    by_cases hi:i<(keys.toList.zip vs).length
    ·obtain ⟨ks,b,h1,h2,_,_⟩:=at_ i _ (List.getElem?_eq_getElem hi)
     rw [List.getElem?_eq_getElem hi,h1,Option.map_some,h2]
    ·rw [List.getElem?_eq_none (by omega),List.getElem?_eq_none (by rw [List.length_map];omega)];rfl
   rw [← e]
   exact pp.map _
  have hpw:(ps.map fun p=>J04 s'.heap p.1).Pairwise (fun a b=>J1g a b=true):=by
   have hnd:(ps.map fun p=>J04 s'.heap p.1).Nodup:=hperm.nodup_iff.mpr nd'
   rw [List.pairwise_map]
   have hnd2:ps.Pairwise fun x y=>J04 s'.heap x.1≠J04 s'.heap y.1:=by
    have:=hnd
    unfold List.Nodup at this
    rwa [List.pairwise_map] at this
   refine List.Pairwise.imp_of_mem (fun {x y} hx hy hxy=>?_) (hnd2.and up)
   have h1:=JaS (O:=J1f) (l:=kvs.map (·.1)) (a:=J04 s'.heap x.1) (b:=J04 s'.heap y.1) (mem_ y hy).choose_spec.2.2 hxy.2
   have h1:J1g (J04 s'.heap y.1) (J04 s'.heap x.1)=false:=h1
   cases h2:J1g (J04 s'.heap x.1) (J04 s'.heap y.1) with
   | true=>rfl
   | false=>exact absurd (J1O _ _ h2 h1) hxy.1
  have tups:∀ l:List (Value×Value),(∀ p∈l,p∈ps)→TupsV Hn (l.map fun p=>J9a p.2) (l.map fun p=>J04 s'.heap p.1)∧Vals (l.map fun p=>J9a p.2) (l.map (·.2)):=by
   intro l
   induction l with
   | nil=>intro _;exact ⟨.nil,.nil⟩
   | cons p l ih =>
     intro hp
     obtain ⟨i1,i2⟩:=ih fun z hz=>hp z (List.mem_cons_of_mem _ hz)
     obtain ⟨b,e,hb,_⟩:=mem_ p (hp p List.mem_cons_self)
     refine ⟨.cons ⟨b,by show J9a p.2=_;rw [e];rfl,hb⟩ i1,.cons ?_ i2⟩
     show RelV (J9a p.2) p.2
     rw [e];rfl
  obtain ⟨t1,t2⟩:=tups ps fun _ z=>z
  have hpl:ps.length≤1000:=by rw [pp.length_eq,List.length_zip,hvl];omega
  refine wpAny_pure ⟨_,rfl,.ref h1.objs.size,upd Hn h1.objs.size (.lst (ps.map fun p=>J9a p.2)),J2.hold (I.cov hex) hln nA ?_,rfl,hQ _ _ _ _ sm nA t1 hperm hpw⟩
  exact ⟨by rw [List.length_map,sizeLine_eq];omega,ps.map (·.2),e2,t2,ga⟩
end
end L2
namespace L2
open PySem PySem.Spec PyProof.Rows PySem.W
def J4I (tk tv:TE):TE:=fun σ H Q=>∀ p,H p=none→tk σ (upd H p (.dT [])) fun x H1=>tv σ H1 fun y H2=>H2 p=some (.dT [])∧∃ b,∃ ks:List Ji,x=.ref b∧H2 b=some (.tup (ks.map nV))∧Q (.ref p) (upd H2 p (.dT [(ks,y)]))
def JbO (p:Addr)(Q:VK):List (V×V)→Hp→Prop
 | [(x,y)],H2=>H2 p=some (.dT [])∧∃ b,∃ ks:List Ji,x=.ref b∧H2 b=some (.tup (ks.map nV))∧Q (.ref p) (upd H2 p (.dT [(ks,y)]))
 | _,_=>False
section
variable {X:Cx}{pos:Pos}
theorem J83 {pins:List (Addr×Obj)}{σ:St}{H2:Hp}{s2:Shared}{E:Value→Shared→Prop}{p b:Addr}{ks:List Ji}{y:V}{u2:Value}{Q:VK}(hu:X.A.units+1<cLine)(I2:Inv X pins σ H2 s2)(e:H2 p=some (.dT []))(eb:H2 b=some (.tup (ks.map nV)))(r2:RelV y u2)(q2:Q (.ref p) (upd H2 p (.dT [(ks,y)]))) :
 wpAny (model X.prog X.w) X.A (storeAll p [(.ref b,u2)]) (fun _ s3=>EP X pins σ Q (.ref p) s3) E s2:=by
 obtain ⟨z,hd,xs,rel,dd⟩:=Ja9 I2.hok e
 cases rel
 unfold storeAll
 rw [List.forIn_cons]
 refine wpAny_bind (wpAny_bind ?_)
 refine wpAny_dictSet_heap (hsz:=Nat.zero_le _) (show X.A.units<cLine by omega) (J3Q I2.hok eb) dd fun h' dd' hs=>?_
 refine wpAny_pure ?_
 dsimp only
 rw [List.forIn_nil]
 refine wpAny_pure ?_
 obtain ⟨q,es,ep,hq,h2,h3,h4,_,h5⟩:=dd'
 have kt:KT H2 (J0W [] ks y) (storedH [] ks b u2):=KT.put .nil ks eb r2
 refine ⟨.ref p,upd H2 p (.dT [(ks,y)]),?_,rfl,q2⟩
 have hsz:(J0W ([]:List (List Ji×V)) ks y).length≤sizeLine:=by rw [sizeLine_eq];show 1≤_;omega
 refine J2L (ob:=.dT (J0W [] ks y)) I2 (by rw [e];exact True.intro) hs ⟨q,hq⟩ ⟨hsz,hd,_,kt.keeps fun c ys ec=>?_,q,es,ep,hq,h2,h3,h4,h5⟩
 rw [Jk (J3M ec e (fun z=>nomatch z))]
 exact ec
theorem J9B {k v:Expr}{tk tv:TE}(hu:X.A.units+1<cLine)(hk:PE X k tk)(hv:PE X v tv):PE X (.Dict [some k] [v] pos) (J4I tk tv):=by
 intro pins s σ H Q I q
 have hn:=I.hok.fresh (Nat.le_refl s.heap.objs.size)
 have I1:=I.laid (a:=s.heap.objs.size) (o:=.dT []) (h':=s.heap.push { cls:=.type "dict",data:=.dict #[] }) (t':=s.toks) (fun _ _ q=>Heap.get?_push_of_some _ q) (Nat.le_refl _) (Jaa s.heap I.big)
 refine wpAny_Dict_any rfl rfl (by simp) (by simp) ?_
 have q1:J2g [(tk,tv)] σ (upd H s.heap.objs.size (.dT [])) (JbO s.heap.objs.size Q):=q _ hn
 have pp:=(J1B (pos:=pos) hk hv J53) pins _ σ _ (JbO s.heap.objs.size Q) I1 q1
 refine thn pp fun ws s2 ⟨ps,H2,I2,rel,h⟩=>?_
 cases rel with
 | nil=>exact False.elim h
 | @cons x1 u1 xr ur r t =>
   cases t with
   | cons r3 t3=>exact False.elim h
   | nil =>
     obtain ⟨x,y⟩:=x1
     obtain ⟨u,u2⟩:=u1
     obtain ⟨r1,r2⟩:=r
     obtain ⟨e,b,ks,ex,eb,q2⟩:=(show H2 s.heap.objs.size=some (.dT [])∧∃ b,∃ ks:List Ji,x=.ref b∧H2 b=some (.tup (ks.map nV))∧Q (.ref s.heap.objs.size) (upd H2 s.heap.objs.size (.dT [(ks,y)])) from h)
     have r1:RelV x u:=r1
     have r2:RelV y u2:=r2
     subst ex
     cases (show u=Value.ref b from r1)
     exact J83 hu I2 e eb r2 q2
theorem JaQ {pins:List (Addr×Obj)}{σ:St}{H:Hp}{s:Shared}{Q:VK}{us:List Value}{vs:List V}{k:Nat}{f:Addr}{fd:FuncData}{ps:List Str}{sp:Sp}(F:FnOk X.prog X.w X.K X.mg X.base CX0 k f fd ps sp)(hr:Room (k+2) X.A)(hb:Binds X.K fd ps [])
 (I:Inv X pins σ H s) (r:Vals vs us) (h:sp vs H Q E0):wpAny (model X.prog X.w) X.A.in1.in1 (call (.ref f) us) (EP X pins σ Q) (fun _ _=>False) s:=by
 have hl:(us++([]:List Value)).length=ps.length:=by rw [List.append_nil,← r.length];exact F.len _ _ _ _ h
 have bd:=hb s us I.kIn hl
 rw [List.append_nil] at bd
 refine wpAny_call (codeAny_mono (F.run X.A.in1.in1 X.stack s H ⟨us,[]⟩ us vs Q E0 hr.in1.in1 I.env0.in1.in1 bd r h) fun rr s' hq=>?_)
 match rr,hq with
 | .error e,hq=>exact hq.elim
 | .ok (.ret u),hq=>exact I.after hq
 | .ok .next,hq=>exact False.elim hq
 | .ok .brk,hq=>exact False.elim hq
 | .ok .cont,hq=>exact False.elim hq
def J4C (sp:Sp)(ta:TA):TE:=fun σ H Q=>ta σ H fun vs H1=>∃ d kvs,vs=[V.ref d]∧H1 d=some (.dT kvs)∧kvs.length≤1000∧J2a (kvs.map (·.1)) ∧
 (∀ ks∈kvs.map (·.1),∀ H2 b,Same H1 H2→H2 b=some (.tup (ks.map nV))→sp [.ref b] H2 (fun v H3=>Same H2 H3∧KeyV H3 v ks) E0) ∧
 ∀ Hn D ts kss,Same H1 Hn→Hn D=none→TupsV Hn ts kss→kss.Perm (kvs.map (·.1))→kss.Pairwise (fun a b=>J1g a b=true)→Q (.ref D) (upd Hn D (.lst ts))
theorem J9x {a:Expr}{ta:TA}{p pos kp np:Pos}{y:Str}{k:Nat}{f:Addr}{fd:FuncData}{ps:List Str}{sp:Sp}(F:FnOk X.prog X.w X.K X.mg X.base CX0 k f fd ps sp)(hr:Room (k+2) X.A)(hb:Binds X.K fd ps [])(hmy:X.mg y=some (.ref f))(hgy:Gl X y)(hdy:(y == ("__debug__":Str))=false)
 (hc:X.calm=true) (hex:X.ex=[]) (hg:Gl X "sorted") (hm:X.mg "sorted"=none) (hn:Ju a=true) (ha:PA X [a] ta) :
 PE X (.Call (.Name "sorted" p) [a] [⟨some "key",.Name y np,kp⟩] pos) (J4C sp ta):=by
 intro pins s σ H Q I h
 refine wpAny_Call_Name_kw (J1P I hg hm (show bootBuiltins "sorted"=some (.builtin "sorted") from rfl) ?_)
 refine PyProof.Rows.callWith_kw (thn (ha pos pins s σ H _ I h) fun us s1 ⟨vs,H1,I1,r1,q1⟩=>?_) (by rw [JE hn];rfl) (by rw [JE hn];rfl)
 obtain ⟨d,kvs,rfl,hd,h1000,hL,hk,hq⟩:=q1
 obtain ⟨u1,rfl,ru⟩:=J0Z r1
 cases (show u1=Value.ref d from ru)
 refine thn ((J54 (Jb5 hmy hgy hdy) J6Q) pos pins s1 σ H1 (fun zs H2=>zs=[V.ref f]∧H2=H1) I1 ⟨rfl,rfl⟩) fun ws s2 ⟨zs,H2,I2,rz,ez,eH⟩=>?_
 subst ez;subst eH
 obtain ⟨w',rfl,rw'⟩:=J0Z rz
 cases (show w'=Value.ref f from rw')
 refine sorted_dT I2 hex hc (by have:=hr.un;omega) hd h1000 hL (fun vs hvl hvs i v ks hv hks pl Hi s' sm J=>?_) hq
 obtain ⟨b,rfl,hb2⟩:=hvs i v ks hv hks
 exact thn (JaQ (vs:=[.ref b]) F hr hb J (.cons rfl .nil) (hk ks (List.mem_of_getElem? hks) Hi b sm (sm _ _ hb2))) fun u s3 ⟨x,H3,J3,rx,sm3,kx⟩=>⟨H3,x,sm3,J3,rx,kx⟩
end
end L2
namespace L2
open PySem PySem.Spec PyProof.Rows
section
variable {prog:Program}{w:World}{K:Type}[DecidableEq K](knd:PySem.KeyKind prog w K)
inductive ItemsT (h:Heap):List (List K)→List Value→Prop
 | nil:ItemsT h [] []
 | cons {ks:List K} {b:Addr} {kss:List (List K)} {vs:List Value}:IsTupleKey knd h ks b→ItemsT h kss vs→ItemsT h (ks::kss) (.ref b::vs)
def IsNest (h:Heap)(kss:List (List K))(a:Addr):Prop:=∃ ob its m,h.get? a=some ob∧ob.cls=.type "tuple"∧ob.data=.seq its m∧ItemsT knd h kss its.toList
variable {knd}
theorem ItemsT.inj {h:Heap}{x y:List (List K)}{vs:List Value}(hx:ItemsT knd h x vs)(hy:ItemsT knd h y vs):x=y:=by
 induction hx generalizing y with
 | nil=>cases hy;rfl
 | cons k1 _ ih =>
   cases hy with
   | cons k2 t2=>rw [k1.inj k2,ih t2]
theorem IsNest.ty {s:Shared}{kss:List (List K)}{a:Addr}(x:IsNest knd s.heap kss a):s.TypeIs (.ref a) "tuple":=by
 obtain ⟨ob,_,_,e,c,_⟩:=x
 exact ⟨ob,e,c⟩
theorem IsNest.inj {h:Heap}{a:Addr}{x y:List (List K)}(hx:IsNest knd h x a)(hy:IsNest knd h y a):x=y:=by
 obtain ⟨o1,i1,m1,e1,_,d1,t1⟩:=hx
 obtain ⟨o2,i2,m2,e2,_,d2,t2⟩:=hy
 rw [e1] at e2
 cases e2
 rw [d1] at d2
 cases d2
 exact t1.inj t2
theorem ItemsT.keeps {h h':Heap}{d:Addr}{o:Obj}{es ep}(ho:h.get? d=some o)(hd:o.data=.dict es ep)(hs:Heap.SameBut d h h'){kss:List (List K)}{vs:List Value}(x:ItemsT knd h kss vs):ItemsT knd h' kss vs:=by
 induction x with
 | nil=>exact .nil
 | cons k _ ih=>exact .cons (k.keeps ho hd hs) ih
theorem IsNest.keeps {h h':Heap}{kss:List (List K)}{a d:Addr}{o:Obj}{es ep}(x:IsNest knd h kss a)(ho:h.get? d=some o)(hd:o.data=.dict es ep)(hs:Heap.SameBut d h h'):IsNest knd h' kss a:=by
 obtain ⟨ob,its,m,e,c,dd,t⟩:=x
 have ne:a≠d:=fun z=>by
  subst z
  rw [e] at ho
  cases ho
  rw [dd] at hd
  cases hd
 exact ⟨ob,its,m,(hs.2 a ne).trans e,c,dd,t.keeps ho hd hs⟩
noncomputable def J3L (knd:PySem.KeyKind prog w K)(kss:List (List K)):Int:=reduceHash (Builtin.Tuple.tupleHashOf (kss.map (tupleKeyHash knd)))
noncomputable def J1l:List (List K)→Nat
 | []=>0
 | ks::kss=>J1l kss+(ks.length+1)
theorem J5U (kss:List (List K))(ks:List K):J1l (kss++[ks])=J1l kss+(ks.length+1):=by
 induction kss with
 | nil=>simp [J1l]
 | cons a t ih=>simp only [List.cons_append,J1l,ih];omega
variable {A:Around}{E:Value→Shared→Prop}{s:Shared}
theorem hash_nest {kss:List (List K)}{a:Addr}{Q:Int→Shared→Prop}(hu:A.units+1<cLine)(hk:IsNest knd s.heap kss a)(h:Q (J3L knd kss) { s with toks:=s.toks+(J1l kss+1) }):wpAny (model prog w) A (pyHash (.ref a)) Q E s:=by
 have hT:=hk.ty
 obtain ⟨ob,its,m,e,_,dd,t⟩:=hk
 refine PySem.W.pyHash_slot (T:="tuple") hT F.slot_tuple_hash F.entry_tuple_hash (F.args_tuple_hash_1 _) (beq_builtin_none _) (.inr (by omega)) ?_
 show wpAny _ _ (Builtin.Tuple.tupleItemsOf (.ref a) >>= _) _ _ s
 refine wpAny_bind (wpAny_tupleItemsOf e dd (wpAny_bind ?_))
 rw [← Array.forIn_toList]
 refine wpAny_forIn_list _ (fun rest (b:Array Int) s'=>∃ p q,kss=p++q∧ItemsT knd s.heap q rest∧b.toList=p.map (tupleKeyHash knd)∧s'={ s with toks:=s.toks+J1l p }) _ ?_ ?_ _ _ ⟨[],kss,rfl,t,rfl,rfl⟩
 ·rintro x rest b s' ⟨p,q,rfl,tq,hb,rfl⟩
  cases tq with
  | @cons ks c kss' vs k1 tq' =>
    refine wpAny_bind (wpAny_pyHash_tuple (A:=A.in1) (s:={ s with toks:=s.toks+J1l p }) hu k1 ?_)
    have fin:∃ p' q',p++ks::kss'=p'++q'∧ItemsT knd s.heap q' rest∧(b.push (tupleKeyHash knd ks)).toList=p'.map (tupleKeyHash knd)∧({ s with toks:=s.toks+J1l p+(ks.length+1) }:Shared)={ s with toks:=s.toks+J1l p' } :=
     ⟨p++[ks],kss',by simp,tq',by simp [hb],by rw [J5U,Nat.add_assoc]⟩
    first
     | exact wpAny_pure fin
     | exact wpAny_bind (wpAny_pure (wpAny_pure fin))
 ·rintro b s' ⟨p,q,rfl,tq,hb,rfl⟩
  cases tq
  rw [List.append_nil] at h
  show wpAny _ _ (retInt (Builtin.Tuple.tupleHashOf b.toList)) _ _ _
  rw [hb]
  exact wpAny_bind (wpAny_mkInt (wpAny_pure ⟨_,_,rfl,by simpa [J3L,Nat.add_assoc] using h⟩))
theorem nest_eq_tree {x y:List (List K)}{a b:Addr}{P:Fin→Shared→Prop}(hu:A.units<cLine)(hx:IsNest knd s.heap x a)(hy:IsNest knd s.heap y b)(h:P (.done (.ret (.bool (decide (x=y))))) s) :
 wpAny (model prog w) A (Builtin.«tuple.__eq__» ⟨[.ref a,.ref b],[]⟩) P E s:=by
 have tb:=hy.ty
 obtain ⟨oa,ia,na,ea,_,da,ta⟩:=hx
 obtain ⟨ob,ib,nb,eb,_,db,tq⟩:=hy
 show wpAny _ _ (isInstance (.ref b) (.type "tuple") >>= _) _ _ s
 refine wpAny_bind (wpAny_isInstance tb isSubtype_tuple_tuple ?_)
 simp only [Bool.not_true,Bool.false_eq_true,if_false]
 refine wpAny_bind (wpAny_tupleItemsOf ea da (wpAny_bind (wpAny_tupleItemsOf eb db (wpAny_bind ?_))))
 refine wpAny_forIn_list _ (fun rest r s'=>r.1=none∧s'=s∧∃ p q u v,rest=List.zip u v∧ItemsT knd s.heap p u∧ItemsT knd s.heap q v∧decide (p=q)=decide (x=y)∧(u.length == v.length)=(ia.size == ib.size)) _ ?_ ?_ _ _ ⟨rfl,rfl,x,y,ia.toList,ib.toList,rfl,ta,tq,rfl,by simp⟩
 ·rintro ⟨u1,v1⟩ rest r s' ⟨hr,rfl,p,q,u,v,hz,hp,hq,hde,hln⟩
  cases hp with
  | nil=>simp at hz
  | @cons k1 c1 p' u' g1 hp' =>
    cases hq with
    | nil=>simp at hz
    | @cons k2 c2 q' v' g2 hq' =>
      simp only [List.zip_cons_cons,List.cons.injEq,Prod.mk.injEq] at hz
      obtain ⟨⟨rfl,rfl⟩,rfl⟩:=hz
      refine wpAny_bind (wpAny_eqBool_tuple hu g1 g2 ?_)
      by_cases ek:k1=k2
      ·subst ek
       rw [decide_eq_true rfl]
       simp only [Bool.not_true,Bool.false_eq_true,if_false]
       refine wpAny_pure ⟨rfl,rfl,p',q',u',v',rfl,hp',hq',?_,by simpa using hln⟩
       rw [← hde]
       simp
      ·rw [decide_eq_false ek]
       simp only [Bool.not_false,if_true]
       have ef:decide (x=y)=false:=by rw [← hde];simp [ek]
       rw [ef] at h
       exact wpAny_bind (wpAny_pure (wpAny_pure (wpAny_pure h)))
 ·rintro ⟨r1,r2⟩ s' ⟨hr,rfl,p,q,u,v,hz,hp,hq,hde,hln⟩
  simp only at hr
  subst hr
  have ef:(ia.size == ib.size)=decide (x=y):=by
   rw [← hde,← hln]
   cases hp with
   | nil =>
     cases hq with
     | nil=>simp
     | cons _ _=>simp
   | cons _ _ =>
     cases hq with
     | nil=>simp
     | cons _ _=>simp at hz
  refine wpAny_pure ?_
  show P (.done (.ret (.bool (ia.size == ib.size)))) s'
  rw [ef]
  exact h
theorem Jbv {x y:List (List K)}{a b:Addr}{Q:Bool→Shared→Prop}(hu:A.units+1<cLine)(hx:IsNest knd s.heap x a)(hy:IsNest knd s.heap y b)(h:Q (decide (x=y)) s):wpAny (model prog w) A (eqBool (.ref a) (.ref b)) Q E s:=by
 unfold eqBool
 try with_reducible refine wpAny_holding ?_
 by_cases c:a=b
 ·subst c
  obtain rfl:=hx.inj hy
  show wpAny _ _ (if (Value.ref a == Value.ref a)=true then _ else _) Q E s
  rw [if_pos (by simp)]
  exact wpAny_bind (wpAny_rule (wpAny_pure (by simpa using h)))
 ·show wpAny _ _ (if (Value.ref a == Value.ref b)=true then _ else _) Q E s
  rw [if_neg (fun z=>c (by have e:=eq_of_beq z;cases e;rfl))]
  exact wpAny_bind (wpAny_richCompare_same_room (op:=.Eq) hx.ty hy.ty F.slot_tuple_eq (wpAny_call_entry F.slot_tuple_eq hx.ty F.entry_tuple_eq (nest_eq_tree (A:=A.in1) hu hx hy ⟨_,rfl,(fun z=>nomatch z),wpAny_truthy_bool h⟩) (F.args_tuple_eq_2 _ _)) (by omega))
theorem J6N {n:Nat}{ks:List K}{a:Addr}{Q:Bool→Shared→Prop}(hk:IsTupleKey knd s.heap ks a)(h:Q true s):wpAny (model prog w) A (eqIsQuiet (n+1) (.ref a)) Q E s:=by
 have hT:=hk.typeIs
 obtain ⟨ob,its,m,e,_,dd,t⟩:=hk
 unfold eqIsQuiet
 refine wpAny_bind (wpAny_specialOf hT F.slot_tuple_eq.lookup ?_)
 show wpAny _ _ (isInstance (.ref a) (.type "tuple") >>= _) _ _ s
 refine wpAny_bind (wpAny_isInstance hT isSubtype_tuple_tuple ?_)
 simp only [Bool.not_true,Bool.false_eq_true,if_false]
 refine wpAny_bind (wpAny_seqItems e dd (wpAny_bind ?_))
 show wpAny _ _ (forIn its _ _) _ _ s
 rw [← Array.forIn_toList]
 refine wpAny_forIn_list _ (fun rest r s'=>r.1=none∧s'=s∧∀ v∈rest,carriedByValue v=true) _ ?_ ?_ _ _ ⟨rfl,rfl,t.byValue⟩
 ·rintro v rest r s' ⟨hr,rfl,al⟩
  rw [eqIsQuiet_byValue _ (al v List.mem_cons_self)]
  refine wpAny_bind (wpAny_pure ?_)
  simp only [Bool.not_true,Bool.false_eq_true,if_false]
  exact wpAny_pure ⟨rfl,rfl,fun u hm=>al u (List.mem_cons_of_mem _ hm)⟩
 ·rintro ⟨r1,r2⟩ s' ⟨hr,rfl,_⟩
  simp only at hr
  subst hr
  exact wpAny_pure h
theorem J6M {kss:List (List K)}{a:Addr}{Q:Bool→Shared→Prop}(hk:IsNest knd s.heap kss a)(h:Q true s):wpAny (model prog w) A (eqIsQuiet 8 (.ref a)) Q E s:=by
 have hT:=hk.ty
 obtain ⟨ob,its,m,e,_,dd,t⟩:=hk
 unfold eqIsQuiet
 refine wpAny_bind (wpAny_specialOf hT F.slot_tuple_eq.lookup ?_)
 show wpAny _ _ (isInstance (.ref a) (.type "tuple") >>= _) _ _ s
 refine wpAny_bind (wpAny_isInstance hT isSubtype_tuple_tuple ?_)
 simp only [Bool.not_true,Bool.false_eq_true,if_false]
 refine wpAny_bind (wpAny_seqItems e dd (wpAny_bind ?_))
 show wpAny _ _ (forIn its _ _) _ _ s
 rw [← Array.forIn_toList]
 refine wpAny_forIn_list _ (fun rest r s'=>r.1=none∧s'=s∧∃ q,ItemsT knd s.heap q rest) _ ?_ ?_ _ _ ⟨rfl,rfl,kss,t⟩
 ·rintro v rest r s' ⟨hr,rfl,q,tq⟩
  cases tq with
  | cons k1 tq' =>
    refine wpAny_bind (J6N (n:=6) k1 ?_)
    simp only [Bool.not_true,Bool.false_eq_true,if_false]
    exact wpAny_pure ⟨rfl,rfl,_,tq'⟩
 ·rintro ⟨r1,r2⟩ s' ⟨hr,rfl,_⟩
  simp only at hr
  subst hr
  exact wpAny_pure h
end
noncomputable def J1D {prog:Program}{w:World}{K:Type}[DecidableEq K](knd:PySem.KeyKind prog w K):HeapKind prog w (List (List K)) where
 is:=IsNest knd
 hash:=J3L knd
 draws:=fun kss=>J1l kss+1
 room:=fun A=>A.units+1<cLine
 inj:=fun a b=>a.inj b
 keeps:=fun x a b c=>x.keeps a b c
 pyHash:=fun a b c=>hash_nest a b c
 eqBool:=fun a b c d=>Jbv a b c d
 quiet:=fun a b=>J6M a b
section
variable {prog:Program}{w:World}{K:Type}[DecidableEq K]{knd:HeapKind prog w K}{A:Around}{E:Value→Shared→Prop}{s:Shared}
theorem setdef_heap {d a:Addr}{xs:List (K×Addr×Value)}{k:K}{v:Value}{Q:Value→Shared→Prop}(hu:knd.room A)(hk:knd.is s.heap k a)(hm:s.heap.DictOfH knd d xs)(hl:xs.length≤sizeLine)
 (q1:∀ p,atKey xs k=some p→Q p.2 { s with toks:=s.toks+knd.draws k })
 (q2:atKey xs k=none→∀ h',h'.DictOfH knd d (storedH xs k a v)→Heap.SameBut d s.heap h'→Q v { s with heap:=h',toks:=s.toks+knd.draws k }) :
 wpAny (model prog w) A (dictSetDefault d (.ref a) v) Q E s:=by
 obtain ⟨ob,es,ep,e,hc,hd,he,al,nd⟩:=hm
 unfold dictSetDefault
 try with_reducible refine wpAny_holding ?_
 refine wpAny_bind (knd.pyHash hu hk (wpAny_bind (wpAny_dictFind_heap (s:={ s with toks:=s.toks+knd.draws k }) hu hk e hd he al nd ?_ ?_)))
 ·intro no
  have nk:k∉xs.map (·.1):=not_mem_keys_of_get no
  have ks:=atKey_none_of_get no
  have sb:∀ f,Heap.SameBut d s.heap (s.heap.update d f):=fun f=>Heap.SameBut.update ..
  refine wpAny_bind (wpAny_rule (wpAny_bind (wpAny_updateDictKeys (hz:=by have z:=size_of_entries he;omega) (s:={ s with toks:=s.toks+knd.draws k }) e hd (wpAny_pure (q2 ks _ ⟨_,_,ep+1,Heap.get?_update_self _ e (Obj.isFreed_of_dict (Obj.data_mapDictKeys hd _)),hc.mapDictKeys _,Obj.data_mapDictKeys hd _,?_,fun x hx=>?_,?_⟩ (Heap.SameBut.update ..))))))
  ·rw [storedH_new ks]
   simp [he,entryOfKey]
  ·rw [storedH_new ks] at hx
   rcases List.mem_append.mp hx with hx | hx
   ·exact knd.keeps (al x hx) e hd (Heap.SameBut.update ..)
   ·cases List.mem_singleton.mp hx
    exact knd.keeps hk e hd (Heap.SameBut.update ..)
  ·rw [storedH_new ks,List.map_append,List.nodup_append]
   refine ⟨nd,by simp,fun x hx y hy z=>?_⟩
   rw [List.map_cons,List.map_nil,List.mem_singleton] at hy
   subst hy z
   exact nk hx
 ·intro j p hj
  refine wpAny_bind (wpAny_dictEntries (s:={ s with toks:=s.toks+knd.draws k }) e hd ?_)
  rw [entry_at he j,hj]
  exact wpAny_bind (wpAny_rule (wpAny_pure (q1 p (atKey_of_get nd hj))))
theorem J2D (knd:HeapKind prog w K)(d a:Addr)(hd:(d == sysModules)=false)(v:Value) :
 MeetsIn prog w (Builtin.«dict.setdefault» ⟨[.ref d,.ref a,v],[]⟩) (fun A R s=>knd.room A.in1∧∃ k xs,knd.is s.heap k a∧s.heap.DictOfH knd d xs∧xs.length≤sizeLine ∧
  (∀ p,atKey xs k=some p→R (.ok (.ret p.2)) { s with toks:=s.toks+knd.draws k }) ∧
  (atKey xs k=none→∀ h',h'.DictOfH knd d (storedH xs k a v)→Heap.SameBut d s.heap h'→R (.ok (.ret v)) { s with heap:=h',toks:=s.toks+knd.draws k })) :=
 .of_wp fun A R s ⟨hu,k,xs,hk,hm,hl,q1,q2⟩=>by
  unfold Builtin.«dict.setdefault»
  refine wpAny_bind ?_
  unfold Builtin.Dict.keyAndDefault
  refine wpAny_bind (wpAny_notOrdered_dict hm.typeIs ?_)
  show wpAny _ _ (pure (d,Value.ref a,some v)) _ _ s
  refine wpAny_pure ?_
  show wpAny _ _ (if (d == sysModules)=true then _ else (dictSetDefault d (.ref a) v >>= _)) _ _ s
  rw [if_neg (by rw [hd];decide)]
  exact wpAny_bind (setdef_heap hu hk hm hl (fun p e=>wpAny_pure ⟨_,rfl,q1 p e⟩) fun e h' m' s'=>wpAny_pure ⟨_,rfl,q2 e h' m' s'⟩)
end
abbrev NPK:=List (List Ji)
noncomputable def dN (P:Program)(w:World)(a:Addr)(xs:List (NPK×Addr×Value)):HO:=.ext fun h=>∃ o es ep,h.get? a=some o∧o.ExactDict∧o.data=.dict es ep∧es.toList=xs.map (entryOfKey (J1D (J0p P w)))∧(xs.map (·.1)).Nodup
def NKeyAt (H:Hp)(b:Addr)(kss:NPK):Prop:=∃ bs:List Addr,H b=some (.tup (bs.map V.ref))∧Paired (fun (c:Addr) (ks:List Ji)=>H c=some (.tup (ks.map nV))) bs kss
theorem NKeyAt.mono {H H':Hp}{b:Addr}{kss:NPK}(t:∀ c ys,H c=some (.tup ys)→H' c=some (.tup ys))(h:NKeyAt H b kss):NKeyAt H' b kss:=by
 obtain ⟨bs,h1,h2⟩:=h
 exact ⟨bs,t _ _ h1,Paired.mapP h2 fun _ _ e=>t _ _ e⟩
def NRel (H:Hp)(kvs:List (NPK×V))(xs:List (NPK×Addr×Value)):Prop:=Paired (fun (p:NPK×V) (q:NPK×Addr×Value)=>p.1=q.1∧NKeyAt H q.2.1 p.1∧RelV p.2 q.2.2) kvs xs
theorem NRel.mono {H H':Hp}{kvs:List (NPK×V)}{xs:List (NPK×Addr×Value)}(t:∀ c ys,H c=some (.tup ys)→H' c=some (.tup ys))(h:NRel H kvs xs):NRel H' kvs xs:=Paired.mapP h fun _ _ e=>⟨e.1,e.2.1.mono t,e.2.2⟩
def ND (P:Program)(w:World)(H:Hp)(a:Addr)(kvs:List (NPK×V)):Prop:=(a == sysModules)=false∧∃ xs,H a=some (dN P w a xs)∧NRel H kvs xs
theorem ND.mono {P:Program}{w:World}{H H':Hp}{a:Addr}{kvs:List (NPK×V)}(t:∀ c ys,H c=some (.tup ys)→H' c=some (.tup ys))(e:H' a=H a)(h:ND P w H a kvs):ND P w H' a kvs:=by
 obtain ⟨h1,xs,h2,h3⟩:=h
 exact ⟨h1,xs,e.trans h2,h3.mono t⟩
section
variable {P:Program}{w:World}{H:Hp}{h:Heap}{a b:Addr}
theorem J9K (ok:HOk P w H h):∀ {bs:List Addr} {kss:NPK} {its:List Value},Paired (fun (c:Addr) (ks:List Ji)=>H c=some (.tup (ks.map nV))) bs kss→Vals (bs.map V.ref) its→ItemsT (J0p P w) h kss its
 | _,_,_,.nil,.nil=>.nil
 | _,_,_,.cons r t,.cons q v=>by
   cases (show _=Value.ref _ from q)
   exact .cons (J3Q ok r) (J9K ok t v)
theorem J59 {kss:NPK}(ok:HOk P w H h)(k:NKeyAt H b kss):IsNest (J0p P w) h kss b:=by
 obtain ⟨bs,e,r⟩:=k
 obtain ⟨_,its,v,o,h1,h2,n,h3⟩:=(show ObjOk P w H h b (.tup (bs.map V.ref)) from ok b _ e)
 exact ⟨o,its.toArray,n,h1,h2,h3,by simpa using J9K ok r v⟩
theorem Jbf {kvs:List (NPK×V)}{xs:List (NPK×Addr×Value)}(ok:HOk P w H h)(r:NRel H kvs xs):∀ x∈xs,IsNest (J0p P w) h x.1 x.2.1:=by
 unfold NRel at r
 induction r with
 | nil=>intro x hx;cases hx
 | cons q t ih =>
   intro x hx
   rcases List.mem_cons.mp hx with rfl | hx
   ·rw [← q.1]
    exact J59 ok q.2.1
   ·exact ih x hx
theorem J9L {xs:List (NPK×Addr×Value)}{kvs:List (NPK×V)}(ok:HOk P w H h)(e:H a=some (dN P w a xs))(r:NRel H kvs xs):h.DictOfH (J1D (J0p P w)) a xs:=by
 obtain ⟨⟨o,es,ep,h1,h2,h3,h4,h5⟩,_,_⟩:=(show ObjOk P w H h a (dN P w a xs) from ok a _ e)
 exact ⟨o,es,ep,h1,h2,h3,h4,Jbf ok r,h5⟩
theorem J58 {k:NPK}{kvs:List (NPK×V)}{xs:List (NPK×Addr×Value)}(r:NRel H kvs xs):(J0t kvs k=none∧atKey xs k=none)∨∃ v p,J0t kvs k=some v∧atKey xs k=some p∧RelV v p.2:=by
 unfold NRel at r
 unfold J0t atKey
 induction r with
 | nil=>exact .inl ⟨rfl,rfl⟩
 | @cons p q ps qs hq _ ih =>
   rw [List.find?_cons,List.find?_cons]
   by_cases c:p.1=k
   ·rw [decide_eq_true c,decide_eq_true (hq.1.symm.trans c)]
    exact .inr ⟨p.2,q.2,rfl,rfl,hq.2.2⟩
   ·rw [decide_eq_false c,decide_eq_false (fun z=>c (hq.1.trans z))]
    exact ih
theorem J9H {k:NPK}{kvs:List (NPK×V)}{xs:List (NPK×Addr×Value)}{v:V}{u:Value}(r:NRel H kvs xs)(hk:NKeyAt H b k)(rv:RelV v u)(n1:J0t kvs k=none)(n2:atKey xs k=none):NRel H (J0W kvs k v) (storedH xs k b u):=by
 rw [storedH_new n2]
 have e:J0W kvs k v=kvs++[(k,v)]:=by
  unfold J0W
  rw [if_neg]
  intro z
  rw [List.any_eq_true] at z
  obtain ⟨x,hx,hd⟩:=z
  unfold J0t at n1
  rw [Option.map_eq_none_iff,List.find?_eq_none] at n1
  exact n1 x hx hd
 rw [e]
 exact Paired.snoc r ⟨rfl,hk,rv⟩
theorem JbQ {H':Hp}{h':Heap}{xs:List (NPK×Addr×Value)}(d:h'.DictOfH (J1D (J0p P w)) a xs):ObjOk P w H' h' a (dN P w a xs):=by
 obtain ⟨o,es,ep,h1,h2,h3,h4,_,h5⟩:=d
 exact ⟨⟨o,es,ep,h1,h2,h3,h4,h5⟩,⟨o,h1⟩,fun g1 g2 ⟨o,es,ep,q1,q2⟩ k=>⟨o,es,ep,k _ q1,q2⟩⟩
end
section
variable {X:Cx}{pins:List (Addr×Obj)}{σ:St}{H:Hp}{s:Shared}{a b:Addr}{k:NPK}{kvs:List (NPK×V)}{d:V}{r:Value}{A:Around}{E:Value→Shared→Prop}
theorem JbJ (I:Inv X pins σ H s)(g:ND X.prog X.w H a kvs):s.TypeIs (.ref a) "dict"∧∀ b,Value.ref a=.ref b→∃ ob,s.heap.get? b=some ob∧ob.dict=none:=by
 obtain ⟨_,xs,e,rel⟩:=g
 have dd:=J9L I.hok e rel
 refine ⟨dd.typeIs,fun c q=>?_⟩
 cases q
 obtain ⟨ob,_,_,h1,h2,_⟩:=dd
 exact ⟨ob,h1,h2.2.1⟩
theorem Jcn {Q:Value→Shared→Prop}(hu:A.units+2<cLine)(I:Inv X pins σ H s)(g:ND X.prog X.w H a kvs)(hk:NKeyAt H b k)(rd:RelV d r)(h:∀ w' s',Inv X pins σ H s'→RelV ((J0t kvs k).getD d) w'→Q w' s') :
 wpAny (model X.prog X.w) A (call (.builtin "dict.get") [.ref a,.ref b,r]) Q E s:=by
 obtain ⟨hd,xs,e,rel⟩:=g
 have dd:=J9L I.hok e rel
 refine call_meetsIn PySem.F.slot_dict_get dd.typeIs PySem.F.entry_dict_get (PySem.F.args_dict_get_3 _ _ _) (meetsH_dict_get_default (J1D (J0p X.prog X.w)) a b hd r) ⟨hu,k,xs,J59 I.hok hk,dd,h _ _ (I.tok _) ?_⟩
 rcases J58 (k:=k) rel with ⟨e1,e2⟩ | ⟨v,p,e1,e2,rv⟩
 ·rw [e1,e2]
  exact rd
 ·rw [e1,e2]
  exact rv
theorem n_setdef {Q:Value→Shared→Prop}(hu:A.units+2<cLine)(I:Inv X pins σ H s)(g:ND X.prog X.w H a kvs)(hk:NKeyAt H b k)(rd:RelV d r)(hl:kvs.length≤sizeLine)
 (h1:∀ v w' s',J0t kvs k=some v→Inv X pins σ H s'→RelV v w'→Q w' s')
 (h2:J0t kvs k=none→∀ xs s',ND X.prog X.w (upd H a (dN X.prog X.w a xs)) a (J0W kvs k d)→Inv X pins σ (upd H a (dN X.prog X.w a xs)) s'→Q r s') :
 wpAny (model X.prog X.w) A (call (.builtin "dict.setdefault") [.ref a,.ref b,r]) Q E s:=by
 obtain ⟨hd,xs,e,rel⟩:=g
 have dd:=J9L I.hok e rel
 refine call_meetsIn PySem.F.slot_dict_setdefault dd.typeIs PySem.F.entry_dict_setdefault (PySem.F.args_dict_setdefault_3 _ _ _) (J2D (J1D (J0p X.prog X.w)) a b hd r) ⟨hu,k,xs,J59 I.hok hk,dd,by rw [← Paired.length rel];exact hl,fun p ep=>?_,fun en h' dd' hs=>?_⟩
 ·rcases J58 (k:=k) rel with ⟨_,e2⟩ | ⟨v,p',e1,e2,rv⟩
  ·rw [e2] at ep;cases ep
  ·rw [e2] at ep
   cases ep
   exact h1 v _ _ e1 (I.tok _) rv
 ·rcases J58 (k:=k) rel with ⟨e1,e2⟩ | ⟨v,p',e1,e2,rv⟩
  ·have tk:∀ c ys,H c=some (.tup ys)→upd H a (dN X.prog X.w a (storedH xs k b r)) c=some (.tup ys):=fun c ys z=>by
    rw [Jk (J3M z e (fun q=>nomatch q))]
    exact z
   refine h2 e1 (storedH xs k b r) _ ⟨hd,_,Jb,(J9H rel hk rd e1 e2).mono tk⟩ ?_
   exact J2L I (by rw [e];exact True.intro) hs (let ⟨q,_,_,hq,_⟩:=dd';⟨q,hq⟩) (JbQ dd')
  ·rw [e2] at en;cases en
end
def J4K (P:Program)(w:World):TE:=fun _ H Q=>∀ p xs,H p=none→ND P w (upd H p (dN P w p xs)) p []→Q (.ref p) (upd H p (dN P w p xs))
def J4G (P:Program)(w:World)(td ty tx:TE):TE:=fun σ H Q=>td σ H fun x H1=>∃ a kvs,x=.ref a∧ND P w H1 a kvs∧ty σ H1 fun y H2=>tx σ H2 fun z H3=>∃ b kvs k,y=.ref b∧ND P w H3 a kvs∧NKeyAt H3 b k∧Q ((J0t kvs k).getD z) H3
def J2s (P:Program)(w:World)(td ty tx:TE):TE:=fun σ H Q=>td σ H fun x H1=>∃ a kvs,x=.ref a∧ND P w H1 a kvs∧ty σ H1 fun y H2=>tx σ H2 fun z H3=>∃ b kvs k,y=.ref b∧ND P w H3 a kvs∧NKeyAt H3 b k∧kvs.length≤sizeLine ∧
 (∀ v,J0t kvs k=some v→Q v H3)∧(J0t kvs k=none→∀ xs,ND P w (upd H3 a (dN P w a xs)) a (J0W kvs k z)→Q z (upd H3 a (dN P w a xs)))
section
variable {X:Cx}{o e f:Expr}{pos apos cpos:Pos}{td ty tx:TE}
theorem J9A:PE X (.Dict [] [] pos) (J4K X.prog X.w):=fun pins s σ H Q I h=>by
 have hp:H s.heap.objs.size=none:=I.hok.fresh (Nat.le_refl _)
 have sy:(s.heap.objs.size == sysModules)=false:=beq_eq_false_iff_ne.mpr (Ne.symm (Nat.ne_of_lt I.big))
 have dd:(s.heap.push { cls:=.type "dict",data:=.dict #[] }).DictOfH (J1D (J0p X.prog X.w)) s.heap.objs.size []:=⟨_,#[],0,Heap.get?_push_size _ rfl,⟨rfl,rfl,rfl⟩,rfl,rfl,(fun _ z=>nomatch z),List.nodup_nil⟩
 exact wpAny_Dict_empty ⟨.ref s.heap.objs.size,_,I.laid (a:=s.heap.objs.size) (o:=dN X.prog X.w s.heap.objs.size []) (t':=s.toks) (fun _ _ q=>Heap.get?_push_of_some _ q) (Nat.le_refl _) (JbQ dd),rfl,h _ [] hp ⟨sy,[],Jb,.nil⟩⟩
theorem J9z (hu:X.A.units+64<cLine)(ho:PE X o td)(he:PE X e ty)(hf:PE X f tx)(m:M2 X o "get" apos e f cpos):PE X (.Call (.Attribute o "get" apos) [e,f] [] cpos) (J4G X.prog X.w td ty tx):=by
 intro pins s σ H Q I h
 refine wpAny_Call_method m.base m.few m.line PySem.F.plainAttrs_dict PySem.F.slot_dict_get PySem.F.type_dict_get (thn (ho pins s σ H _ I h) fun u s1 ⟨x,H1,I1,rx,a,kv,ex,d,q1⟩=>?_)
 subst ex
 obtain rfl:u=Value.ref a:=rx
 obtain ⟨t1,t2⟩:=JbJ I1 d
 refine ⟨t1,t2,?_⟩
 rw [m.trees]
 refine Calls.callWith_builtin rfl (Calls.evalArgs_plain (Calls.spliced_cons (thn (he pins s1 σ H1 _ I1 q1) fun iv s2 ⟨y,H2,I2,ry,q2⟩=>Calls.spliced_cons (thn (hf pins s2 σ H2 _ I2 q2) fun fv s3 ⟨z,H3,I3,rz,b,kvs,k,ey,g,hk,q3⟩=>Calls.spliced_nil ?_))))
 subst ey
 obtain rfl:iv=Value.ref b:=ry
 exact Jcn (by omega) I3 g hk rz fun w' s4 I4 rw'=>⟨_,H3,I4,rw',q3⟩
theorem J6R (hu:X.A.units+64<cLine)(ho:PE X o td)(he:PE X e ty)(hf:PE X f tx)(m:M2 X o "setdefault" apos e f cpos):PE X (.Call (.Attribute o "setdefault" apos) [e,f] [] cpos) (J2s X.prog X.w td ty tx):=by
 intro pins s σ H Q I h
 refine wpAny_Call_method m.base m.few m.line PySem.F.plainAttrs_dict PySem.F.slot_dict_setdefault PySem.F.type_dict_setdefault (thn (ho pins s σ H _ I h) fun u s1 ⟨x,H1,I1,rx,a,kv,ex,d,q1⟩=>?_)
 subst ex
 obtain rfl:u=Value.ref a:=rx
 obtain ⟨t1,t2⟩:=JbJ I1 d
 refine ⟨t1,t2,?_⟩
 rw [m.trees]
 refine Calls.callWith_builtin rfl (Calls.evalArgs_plain (Calls.spliced_cons (thn (he pins s1 σ H1 _ I1 q1) fun iv s2 ⟨y,H2,I2,ry,q2⟩=>Calls.spliced_cons (thn (hf pins s2 σ H2 _ I2 q2) fun fv s3 ⟨z,H3,I3,rz,b,kvs,k,ey,g,hk,hl,q3,q4⟩=>Calls.spliced_nil ?_))))
 subst ey
 obtain rfl:iv=Value.ref b:=ry
 exact n_setdef (by omega) I3 g hk rz hl (fun v w' s4 ev I4 rv=>⟨v,H3,I4,rv,q3 v ev⟩) fun en xs s4 g4 I4=>⟨z,_,I4,rz,q4 en xs g4⟩
end
section
variable {prog:Program}{w:World}{A:Around}{E:Value→Shared→Prop}{s:Shared}
theorem J3K {it t:Addr}{i:Nat}{its:Array Value}{x:Value}{Q:Value→Shared→Prop}(hi:s.heap.IsTupleIter it t i)(ht:s.heap.IsTuple t its)(hx:its[i]?=some x)(q:∀ h',h'.IsTupleIter it t (i+1)→Heap.SameBut it s.heap h'→Q x { s with heap:=h' }) :
 wpAny (model prog w) A (Builtin.SmallTypes.nextOf (.ref it)) Q E s:=by
 obtain ⟨o,ho,hc,hd⟩:=id hi
 obtain ⟨ot,hot,_,nt,hdt⟩:=ht
 unfold Builtin.SmallTypes.nextOf
 have ty:=hi.typeIs
 refine wpAny_bind (wpAny_callSpecial?_slot (name:=Str.ofString "__next__") ty F.slot_tuple_iterator_next (wpAny_call_entry F.slot_tuple_iterator_next ty F.entry_tuple_iterator_next ?_ (F.args_tuple_iterator_next_1 _)))
 show wpAny _ _ (field (.ref it) 0 >>= _) _ _ s;refine wpAny_bind (wpAny_field ho hd (x:=.ref t) rfl ?_)
 show wpAny _ _ (if (Value.ref t == Value.none)=true then _ else _) _ _ s;rw [if_neg (show (Value.ref t == Value.none)≠true from Bool.false_ne_true)]
 show wpAny _ _ (field (.ref it) 1 >>= _) _ _ s;refine wpAny_bind (wpAny_field ho hd (x:=.int i 0) rfl ?_)
 show wpAny _ _ (seqItems? (.ref t) >>= _) _ _ s;refine wpAny_bind (wpAny_seqItems hot hdt ?_)
 simp only [Int.toNat_natCast,hx]
 refine wpAny_bind (wpAny_setField ho hd (by simp) (wpAny_pure ⟨x,rfl,wpAny_pure (q _ ⟨_,Heap.get?_update_self _ ho (Obj.isFreed_of_fields (Obj.data_mapFields hd _)),(Obj.cls_mapFields ..).trans hc,?_⟩ (Heap.SameBut.update ..))⟩))
 rw [Obj.data_mapFields hd];simp [rawInt]
theorem J80 {z TI TO i1 i2 l1 l2:Addr}{k1 k2:Nat}{xs ys:Array Value}{x y a b:Value}{Q:Value→Shared→Prop}(D:ZipApart z TI TO i1 i2 l1 l2)(hz:IsZip s.heap z TI TO .none)(hTI:IsPair s.heap TI (.ref i1) (.ref i2))(hTO:IsPair s.heap TO a b)
 (h1:s.heap.IsTupleIter i1 l1 k1) (h2:s.heap.IsTupleIter i2 l2 k2) (hl1:s.heap.IsTuple l1 xs) (hl2:s.heap.IsTuple l2 ys) (hx:xs[k1]?=some x) (hy:ys[k2]?=some y)
 (q:∀ h',IsZip h' z TI TO (rawInt s.heap.objs.size)→IsPair h' TO x y→h'.IsTupleIter i1 l1 (k1+1)→h'.IsTupleIter i2 l2 (k2+1)→IsPair h' s.heap.objs.size x y→(∀ c o,c≠z→c≠TO→c≠i1→c≠i2→s.heap.get? c=some o→h'.get? c=some o)→Q (.ref s.heap.objs.size) { s with heap:=h' }) :
 wpAny (model prog w) A (Builtin.«zip.__next__» ⟨[.ref z],[]⟩) (fun fin s'=>∃ v,fin=.done (.ret v)∧Q v s') E s:=by
 show wpAny _ _ (field (.ref z) 2 >>= _) _ _ _;refine wpAny_bind (wpAny_field hz rfl (x:=.bool false) rfl ?_)
 show wpAny _ _ (field (.ref z) 3 >>= _) _ _ _;refine wpAny_bind (wpAny_field hz rfl (x:=.ref TI) rfl (wpAny_bind (wpAny_seqItems hTI rfl ?_)))
 show wpAny _ _ (Builtin.SmallTypes.ownedTupleIsFree (.ref z) >>= _) _ _ _;refine wpAny_bind ?_
 unfold Builtin.SmallTypes.ownedTupleIsFree
 refine wpAny_bind (wpAny_field hz rfl (x:=.none) rfl (wpAny_pure ?_));simp only [if_true]
 refine wpAny_bind (wpAny_rule (wpAny_bind (wpAny_field hz rfl (x:=.ref TO) rfl (wpAny_bind (wpAny_setField_rec hz (by simp) fun g1 z1 e1=>?_)))))
 replace z1:IsZip g1 z TI TO .ellipsis:=z1
 refine wpAny_bind ?_;simp only [List.zipIdx_cons,List.zipIdx_nil,List.forIn_cons,List.forIn_nil]
 refine wpAny_bind (wpAny_bind (wpAny_onRaise ?_));show wpAny _ _ (Builtin.SmallTypes.nextOf (.ref i1) >>= _) _ _ _
 refine wpAny_bind (J3K (h1.extBut e1.extBut D.i1z) (hl1.extBut e1.extBut D.l1z) hx fun g2 it1 e2=>wpAny_pure ?_)
 have o2:IsPair g2 TO a b:=e2.extBut _ _ D.TOi1 (e1.extBut _ _ D.TOz hTO)
 refine wpAny_bind (wpAny_seqItems o2 rfl (wpAny_bind (wpAny_updateSeq_pair o2 fun g3 o3 e3=>wpAny_bind (wpAny_letGo (wpAny_pure ?_)))))
 replace o3:IsPair g3 TO x b:=o3
 refine wpAny_bind (wpAny_bind (wpAny_onRaise ?_));show wpAny _ _ (Builtin.SmallTypes.nextOf (.ref i2) >>= _) _ _ _
 have it2:g3.IsTupleIter i2 l2 k2:=((h2.extBut e1.extBut D.i2z).extBut e2.extBut (Ne.symm D.i12)).extBut e3.extBut (Ne.symm D.TOi2)
 have tp2:g3.IsTuple l2 ys:=((hl2.extBut e1.extBut D.l2z).extBut e2.extBut D.l2i1).extBut e3.extBut D.l2TO
 refine wpAny_bind (J3K it2 tp2 hy fun g4 it3 e4=>wpAny_pure ?_)
 have o4:IsPair g4 TO x b:=e4.extBut _ _ D.TOi2 o3
 refine wpAny_bind (wpAny_seqItems o4 rfl (wpAny_bind (wpAny_updateSeq_pair o4 fun g5 o5 e5=>wpAny_bind (wpAny_letGo (wpAny_pure (wpAny_pure ?_))))))
 replace o5:IsPair g5 TO x y:=o5
 refine wpAny_bind (wpAny_seqItems o5 rfl (wpAny_bind (wpAny_newTuple ?_)))
 have sz:g5.objs.size=s.heap.objs.size:=by rw [e5.1,e4.1,e3.1,e2.1,e1.1]
 have z5:IsZip g5 z TI TO .ellipsis:=e5.extBut _ _ (Ne.symm D.TOz) (e4.extBut _ _ (Ne.symm D.i2z) (e3.extBut _ _ (Ne.symm D.TOz) (e2.extBut _ _ (Ne.symm D.i1z) z1)))
 have kp:∀ c o,c≠z→c≠TO→c≠i1→c≠i2→s.heap.get? c=some o→g5.get? c=some o:=fun c o c1 c2 c3 c4 e=>e5.extBut _ _ c2 (e4.extBut _ _ c4 (e3.extBut _ _ c2 (e2.extBut _ _ c3 (e1.extBut _ _ c1 e))))
 have j1:g5.IsTupleIter i1 l1 (k1+1):=((it1.extBut e3.extBut (Ne.symm D.TOi1)).extBut e4.extBut D.i12).extBut e5.extBut (Ne.symm D.TOi1)
 have j2:g5.IsTupleIter i2 l2 (k2+1):=it3.extBut e5.extBut (Ne.symm D.TOi2)
 show wpAny _ _ (Builtin.SmallTypes.ownedTupleHandOut (.ref z) (.ref g5.objs.size) >>= _) _ _ _;refine wpAny_bind ?_
 unfold Builtin.SmallTypes.ownedTupleHandOut
 have z6:IsZip (g5.push { cls:=.type "tuple",data:=.seq #[x,y] }) z TI TO .ellipsis:=Heap.get?_push_of_some _ z5
 refine wpAny_bind (wpAny_setField_rec z6 (by simp) fun g7 z7 e7=>?_)
 replace z7:IsZip g7 z TI TO (rawInt g5.objs.size):=z7
 refine wpAny_setField_rec z7 (by simp) fun g8 z8 e8=>?_
 replace z8:IsZip g8 z TI TO (rawInt g5.objs.size):=z8
 have up:∀ c o,c≠z→g5.get? c=some o→g8.get? c=some o:=fun c o c1 e=>e8.extBut _ _ c1 (e7.extBut _ _ c1 (Heap.get?_push_of_some _ e))
 have zl:g5.objs.size≠z:=Nat.ne_of_gt (Heap.lt_size z5)
 have p8:IsPair g8 g5.objs.size x y:=e8.extBut _ _ zl (e7.extBut _ _ zl (Heap.get?_push_size _ rfl))
 rw [sz] at z8 p8
 refine wpAny_pure ⟨_,rfl,?_⟩
 show Q (.ref g5.objs.size) _
 rw [sz]
 obtain ⟨b1,f1,r1⟩:=j1
 obtain ⟨b2,f2,r2⟩:=j2
 exact q g8 z8 (up _ _ D.TOz o5) ⟨b1,up _ _ D.i1z f1,r1⟩ ⟨b2,up _ _ D.i2z f2,r2⟩ p8 fun c o c1 c2 c3 c4 e=>up c o c1 (kp c o c1 c2 c3 c4 e)
theorem J5r {z TI TO i1 i2 l1 l2:Addr}{k1 k2:Nat}{xs ys:Array Value}{x y a b:Value}{Q:Option Value→Shared→Prop}(D:ZipApart z TI TO i1 i2 l1 l2)(hz:IsZip s.heap z TI TO .none)(hTI:IsPair s.heap TI (.ref i1) (.ref i2))(hTO:IsPair s.heap TO a b)
 (h1:s.heap.IsTupleIter i1 l1 k1) (h2:s.heap.IsTupleIter i2 l2 k2) (hl1:s.heap.IsTuple l1 xs) (hl2:s.heap.IsTuple l2 ys) (hx:xs[k1]?=some x) (hy:ys[k2]?=some y)
 (q:∀ h',IsZip h' z TI TO (rawInt s.heap.objs.size)→IsPair h' TO x y→h'.IsTupleIter i1 l1 (k1+1)→h'.IsTupleIter i2 l2 (k2+1)→IsPair h' s.heap.objs.size x y→(∀ c o,c≠z→c≠TO→c≠i1→c≠i2→s.heap.get? c=some o→h'.get? c=some o)→Q (some (.ref s.heap.objs.size)) { s with heap:=h' }) :
 wpAny (model prog w) A (pyNext (.ref z)) Q E s:=by
 have ty:s.TypeIs (.ref z) "zip":=⟨_,hz,rfl⟩
 unfold pyNext
 have st:=J80 (prog:=prog) (w:=w) (A:=A.in1) (E:=fun _ _=>False) (Q:=fun v s'=>wpAny (model prog w) A (pure (some v)) Q E s') D hz hTI hTO h1 h2 hl1 hl2 hx hy fun h' a1 a2 a3 a4 a5 a6=>wpAny_pure (q h' a1 a2 a3 a4 a5 a6)
 exact wpAny_bind (wpAny_attempt (wpAny_callSpecial?_slot (name:=Str.ofString "__next__") ty F.slot_zip_next (wpAny_call_entry F.slot_zip_next ty F.entry_zip_next (wpAny_mono st (fun _ _ z=>z) fun _ _ z=>z.elim) (F.args_zip_next_1 _))))
end
noncomputable abbrev zt1 (h:Heap)(a:Addr):Heap:=h.push { cls:=.type "tuple_iterator",data:=.fields #[.ref a,.int 0 0] }
noncomputable abbrev zt2 (h:Heap)(a b:Addr):Heap:=zt1 (zt1 h a) b
noncomputable abbrev zt3 (h:Heap)(a b:Addr):Heap:=(zt2 h a b).push { cls:=.type "tuple",data:=.seq #[.ref h.objs.size,.ref (zt1 h a).objs.size] }
noncomputable abbrev zt4 (h:Heap)(a b:Addr):Heap:=(zt3 h a b).push { cls:=.type "tuple",data:=.seq #[.none,.none] }
noncomputable abbrev zt5 (h:Heap)(a b:Addr):Heap:=(zt4 h a b).push { cls:=.type "zip",data:=.fields #[.none,.bool false,.bool false,.ref (zt2 h a b).objs.size,.ref (zt3 h a b).objs.size] }
theorem J70 (a b:Addr)(xs ys:Array Value):Meets (Builtin.«zip.__new__» ⟨[.type "zip",.ref a,.ref b],[]⟩) (fun _ R s=>s.heap.IsTuple a xs∧s.heap.IsTuple b ys∧R (.ok (.ret (.ref (zt4 s.heap a b).objs.size))) { s with heap:=zt5 s.heap a b }) :=
 .of_wp fun prog w A R s h=>by
  obtain ⟨hp,g,d,tk,os⟩:=s
  obtain ⟨ha,hb,h⟩:=h
  have hsub:=sub_zip
  have h1:Heap.IsTuple (Shared.heap ⟨hp,g,d,tk,os⟩) a xs:=ha
  have h2:Heap.IsTuple (Shared.heap ⟨zt1 hp a,g,d,tk,os⟩) b ys:=Heap.IsTuple.push hb _
  wp_walk using wpAny_pyIter_tuple h1,wpAny_pyIter_tuple h2
  exact ⟨_,rfl,h⟩
section
variable {prog:Program}{w:World}{A:Around}{E:Value→Shared→Prop}{s:Shared}
theorem J8D {a b:Addr}{xs ys:Array Value}{Q:Value→Shared→Prop}(ha:s.heap.IsTuple a xs)(hb:s.heap.IsTuple b ys)
 (h:∀ h',IsZip h' (s.heap.objs.size+4) (s.heap.objs.size+2) (s.heap.objs.size+3) .none→IsPair h' (s.heap.objs.size+2) (.ref s.heap.objs.size) (.ref (s.heap.objs.size+1))→IsPair h' (s.heap.objs.size+3) .none .none→h'.IsTupleIter s.heap.objs.size a 0→h'.IsTupleIter (s.heap.objs.size+1) b 0→(∀ c o,s.heap.get? c=some o→h'.get? c=some o)→Q (.ref (s.heap.objs.size+4)) { s with heap:=h' }) :
 wpAny (model prog w) A (call (.type "zip") [.ref a,.ref b]) Q E s:=by
 refine callType_new F.called_zip (by decide) (F.typeCall_zip_2 _ _) (F.newCall_zip_2 _ _) (fun obj=>F.args_object_init_3 obj _ _) F.entry_zip_new (J70 a b xs ys) ⟨ha,hb,?_⟩
 have n1:(zt1 s.heap a).objs.size=s.heap.objs.size+1:=Heap.size_push ..
 have n2:(zt2 s.heap a b).objs.size=s.heap.objs.size+2:=by rw [Heap.size_push,n1]
 have n3:(zt3 s.heap a b).objs.size=s.heap.objs.size+3:=by rw [Heap.size_push,n2]
 have n4:(zt4 s.heap a b).objs.size=s.heap.objs.size+4:=by rw [Heap.size_push,n3]
 have up:∀ {h:Heap} {o u:Obj} {c:Addr},h.get? c=some u→(h.push o).get? c=some u:=fun e=>Heap.get?_push_of_some _ e
 have q5:(zt5 s.heap a b).get? (zt4 s.heap a b).objs.size=some _:=Heap.get?_push_size _ rfl
 have q4:(zt5 s.heap a b).get? (zt3 s.heap a b).objs.size=some _:=up (Heap.get?_push_size _ rfl)
 have q3:(zt5 s.heap a b).get? (zt2 s.heap a b).objs.size=some _:=up (up (Heap.get?_push_size _ rfl))
 have q2:(zt5 s.heap a b).get? (zt1 s.heap a).objs.size=some _:=up (up (up (Heap.get?_push_size _ rfl)))
 have q1:(zt5 s.heap a b).get? s.heap.objs.size=some _:=up (up (up (up (Heap.get?_push_size _ rfl))))
 show _∧_
 rw [n2,n3,n4] at q5
 rw [n1,n2] at q3
 rw [n3] at q4
 rw [n1] at q2
 rw [n4]
 exact ⟨⟨_,q5,rfl⟩,h _ q5 q3 q4 ⟨_,q1,rfl,rfl⟩ ⟨_,q2,rfl,rfl⟩ fun c o e=>up (up (up (up (up e))))⟩
end
theorem IsTupleIter.at {h h':Heap}{it t:Addr}{i:Nat}(x:h.IsTupleIter it t i)(k:∀ o,h.get? it=some o→h'.get? it=some o):h'.IsTupleIter it t i:=let ⟨o,e,r⟩:=x;⟨o,k o e,r⟩
section
variable {X:Cx}
end
section
variable {prog:Program}{w:World}{A:Around}{E:Value→Shared→Prop}{s:Shared}
theorem J2B {it t:Addr}{i:Nat}{its:Array Value}{Q:Value→Shared→Prop}(hh:A.handled=none)(hi:s.heap.IsTupleIter it t i)(ht:s.heap.IsTuple t its)(hx:its[i]?=none)
 (q:∀ h' e,Heap.ExtBut it s.heap h'→(∃ o,h'.get? e=some o∧o.cls=.type "StopIteration")→E (.ref e) { s with heap:=h' }):wpAny (model prog w) A (Builtin.SmallTypes.nextOf (.ref it)) Q E s:=by
 obtain ⟨o,ho,hc,hd⟩:=id hi
 obtain ⟨ot,hot,_,nt,hdt⟩:=ht
 unfold Builtin.SmallTypes.nextOf
 have ty:=hi.typeIs
 refine wpAny_bind (wpAny_callSpecial?_slot (name:=Str.ofString "__next__") ty F.slot_tuple_iterator_next (wpAny_call_entry F.slot_tuple_iterator_next ty F.entry_tuple_iterator_next ?_ (F.args_tuple_iterator_next_1 _)))
 show wpAny _ _ (field (.ref it) 0 >>= _) _ _ s;refine wpAny_bind (wpAny_field ho hd (x:=.ref t) rfl ?_)
 show wpAny _ _ (if (Value.ref t == Value.none)=true then _ else _) _ _ s;rw [if_neg (show (Value.ref t == Value.none)≠true from Bool.false_ne_true)]
 show wpAny _ _ (field (.ref it) 1 >>= _) _ _ s;refine wpAny_bind (wpAny_field ho hd (x:=.int i 0) rfl ?_)
 show wpAny _ _ (seqItems? (.ref t) >>= _) _ _ s;refine wpAny_bind (wpAny_seqItems hot hdt ?_)
 simp only [Int.toNat_natCast,hx];refine wpAny_bind (wpAny_rule (wpAny_bind (wpAny_setField ho hd (by simp) ?_)))
 show wpAny _ _ (newExc (.type "StopIteration") [] >>= _) _ _ _;refine wpAny_bind ?_
 simp only [newExc,newTuple];refine wpAny_bind (wpAny_newObj_type ?_ (by size_fits))
 refine wpAny_bind (m:=firstArgMember _ _) (wpAny_of_eq (a:=Value.none) (by first | rfl | (simp only [firstArgMember];rfl)) (wpAny_newObj_type ?_ (by size_fits)))
 simp only [raiseNew];refine wpAny_bind (wpAny_handled ?_)
 first | rw [show A.in1.handled=none from hh];refine wpAny_bind (wpAny_pure (wpAny_throw ?_)) | rw [hh];refine wpAny_bind (wpAny_pure (wpAny_throw ?_))
 exact q _ _ (((Heap.SameBut.update ..).extBut.push _).push _) ⟨_,Heap.get?_push_size _ rfl,rfl⟩
theorem J7Z {z TI TO i1 i2 l1 l2:Addr}{k1 k2:Nat}{xs ys:Array Value}{a b:Value}{Q:Fin→Shared→Prop}(hh:A.handled=none)(D:ZipApart z TI TO i1 i2 l1 l2)(hz:IsZip s.heap z TI TO .none)(hTI:IsPair s.heap TI (.ref i1) (.ref i2))(hTO:IsPair s.heap TO a b)
 (h1:s.heap.IsTupleIter i1 l1 k1) (h2:s.heap.IsTupleIter i2 l2 k2) (hl1:s.heap.IsTuple l1 xs) (hl2:s.heap.IsTuple l2 ys) (hn:xs[k1]?=none∨ys[k2]?=none)
 (q:∀ h' e,(∀ c o,c≠z→c≠TO→c≠i1→c≠i2→s.heap.get? c=some o→h'.get? c=some o)→(∃ o,h'.get? e=some o∧o.cls=.type "StopIteration")→E (.ref e) { s with heap:=h' }):wpAny (model prog w) A (Builtin.«zip.__next__» ⟨[.ref z],[]⟩) Q E s:=by
 show wpAny _ _ (field (.ref z) 2 >>= _) _ _ _;refine wpAny_bind (wpAny_field hz rfl (x:=.bool false) rfl ?_)
 show wpAny _ _ (field (.ref z) 3 >>= _) _ _ _;refine wpAny_bind (wpAny_field hz rfl (x:=.ref TI) rfl (wpAny_bind (wpAny_seqItems hTI rfl ?_)))
 show wpAny _ _ (Builtin.SmallTypes.ownedTupleIsFree (.ref z) >>= _) _ _ _;refine wpAny_bind ?_
 unfold Builtin.SmallTypes.ownedTupleIsFree
 refine wpAny_bind (wpAny_field hz rfl (x:=.none) rfl (wpAny_pure ?_));simp only [if_true]
 refine wpAny_bind (wpAny_rule (wpAny_bind (wpAny_field hz rfl (x:=.ref TO) rfl (wpAny_bind (wpAny_setField_rec hz (by simp) fun g1 z1 e1=>?_)))))
 replace z1:IsZip g1 z TI TO .ellipsis:=z1
 refine wpAny_bind ?_;simp only [List.zipIdx_cons,List.zipIdx_nil,List.forIn_cons,List.forIn_nil]
 refine wpAny_bind (wpAny_bind (wpAny_onRaise ?_));show wpAny _ _ (Builtin.SmallTypes.nextOf (.ref i1) >>= _) _ _ _
 cases ex:xs[k1]? with
 | none =>
   refine wpAny_bind (J2B hh (h1.extBut e1.extBut D.i1z) (hl1.extBut e1.extBut D.l1z) ex fun g2 e e2 he=>?_)
   obtain ⟨oe,ho,hc⟩:=he
   have z2:IsZip g2 z TI TO .ellipsis:=e2 _ _ (Ne.symm D.i1z) z1
   have ne:e≠z:=fun x=>by subst x;rw [z2] at ho;cases ho;simp at hc
   exact wpAny_setField_rec z2 (by simp) fun g3 _ e3=>q g3 e (fun c o c1 _ c3 _ x=>e3.extBut _ _ c1 (e2 _ _ c3 (e1.extBut _ _ c1 x))) ⟨oe,e3.extBut _ _ ne ho,hc⟩
 | some x =>
   have ey:ys[k2]?=none:=by
    rcases hn with h | h
    ·rw [ex] at h;cases h
    ·exact h
   refine wpAny_bind (J3K (h1.extBut e1.extBut D.i1z) (hl1.extBut e1.extBut D.l1z) ex fun g2 it1 e2=>wpAny_pure ?_)
   have o2:IsPair g2 TO a b:=e2.extBut _ _ D.TOi1 (e1.extBut _ _ D.TOz hTO)
   refine wpAny_bind (wpAny_seqItems o2 rfl (wpAny_bind (wpAny_updateSeq_pair o2 fun g3 o3 e3=>wpAny_bind (wpAny_letGo (wpAny_pure ?_)))))
   refine wpAny_bind (wpAny_bind (wpAny_onRaise ?_));show wpAny _ _ (Builtin.SmallTypes.nextOf (.ref i2) >>= _) _ _ _
   have it2:g3.IsTupleIter i2 l2 k2:=((h2.extBut e1.extBut D.i2z).extBut e2.extBut (Ne.symm D.i12)).extBut e3.extBut (Ne.symm D.TOi2)
   have tp2:g3.IsTuple l2 ys:=((hl2.extBut e1.extBut D.l2z).extBut e2.extBut D.l2i1).extBut e3.extBut D.l2TO
   refine wpAny_bind (J2B hh it2 tp2 ey fun g4 e e4 he=>?_)
   obtain ⟨oe,ho,hc⟩:=he
   have z4:IsZip g4 z TI TO .ellipsis:=e4 _ _ (Ne.symm D.i2z) (e3.extBut _ _ (Ne.symm D.TOz) (e2.extBut _ _ (Ne.symm D.i1z) z1))
   have ne:e≠z:=fun x=>by subst x;rw [z4] at ho;cases ho;simp at hc
   exact wpAny_setField_rec z4 (by simp) fun g5 _ e5=>q g5 e (fun c o c1 c2 c3 c4 x=>e5.extBut _ _ c1 (e4 _ _ c4 (e3.extBut _ _ c2 (e2.extBut _ _ c3 (e1.extBut _ _ c1 x))))) ⟨oe,e5.extBut _ _ ne ho,hc⟩
theorem J8I {z TI TO i1 i2 l1 l2:Addr}{k1 k2:Nat}{xs ys:Array Value}{a b:Value}{Q:Option Value→Shared→Prop}(hh:A.handled=none)(D:ZipApart z TI TO i1 i2 l1 l2)(hz:IsZip s.heap z TI TO .none)(hTI:IsPair s.heap TI (.ref i1) (.ref i2))(hTO:IsPair s.heap TO a b)
 (h1:s.heap.IsTupleIter i1 l1 k1) (h2:s.heap.IsTupleIter i2 l2 k2) (hl1:s.heap.IsTuple l1 xs) (hl2:s.heap.IsTuple l2 ys) (hn:xs[k1]?=none∨ys[k2]?=none)
 (q:∀ h',(∀ c o,c≠z→c≠TO→c≠i1→c≠i2→s.heap.get? c=some o→h'.get? c=some o)→Q none { s with heap:=h' }):wpAny (model prog w) A (pyNext (.ref z)) Q E s:=by
 have ty:s.TypeIs (.ref z) "zip":=⟨_,hz,rfl⟩
 unfold pyNext
 refine wpAny_bind (wpAny_attempt (wpAny_callSpecial?_slot (name:=Str.ofString "__next__") ty F.slot_zip_next (wpAny_call_entry F.slot_zip_next ty F.entry_zip_next (J7Z hh D hz hTI hTO h1 h2 hl1 hl2 hn fun h' e kp ⟨o,ho,hc⟩=>?_) (F.args_zip_next_1 _))))
 exact wpAny_bind (wpAny_isInstance (T:="StopIteration") (b:=true) ⟨o,ho,hc⟩ isSubtype_stop (wpAny_pure (q _ kp)))
end
noncomputable def JbC (K:PySem.W.Frag)(a b:Addr):It where
 go:=fun i H=>∃ xs ys x y,SqT K H a xs∧SqT K H b ys∧xs[i]?=some x∧ys[i]?=some y
 yld:=fun i H v H'=>∃ p x y,H p=none∧v=.ref p∧(∀ zs,SqT K H a zs→zs[i]?=some x)∧(∀ zs,SqT K H b zs→zs[i]?=some y)∧H'=upd H p (.tup [x,y])
 stop:=fun i H=>∃ xs ys,SqT K H a xs∧SqT K H b ys∧(xs.length≤i∨ys.length≤i)
theorem turn_zipU {P:Program}{w:World}{K:PySem.W.Frag}{elts:List Expr}{x1:Nat}{tpos:Pos}(z TI TO i1 i2 a b:Addr)(D:ZipApart z TI TO i1 i2 a b) :
 Turn P w K (.Tuple elts x1 tpos) (JbC K a b) [z,TI,TO,i1,i2] z (fun i h=>IsZip h z TI TO .none∧IsPair h TI (.ref i1) (.ref i2)∧(∃ x y,IsPair h TO x y)∧h.IsTupleIter i1 a i∧h.IsTupleIter i2 b i) where
 mem:=by simp
 obj:=fun i h st c hc=>by
  obtain ⟨h1,h2,⟨x,y,h3⟩,⟨o4,e4,_,d4⟩,o5,e5,_,d5⟩:=st
  simp only [List.mem_cons,List.not_mem_nil,or_false] at hc
  rcases hc with rfl | rfl | rfl | rfl | rfl
  ·exact ⟨_,h1,fun v z=>nomatch z⟩
  ·exact ⟨_,h2,fun v z=>nomatch z⟩
  ·exact ⟨_,h3,fun v z=>nomatch z⟩
  ·exact ⟨_,e4,fun v z=>by rw [d4] at z;cases z⟩
  ·exact ⟨_,e5,fun v z=>by rw [d5] at z;cases z⟩
 keep:=fun i h h' st k=>by
  obtain ⟨h1,h2,⟨x,y,h3⟩,h4,h5⟩:=st
  exact ⟨k z (by simp) _ h1,k TI (by simp) _ h2,⟨x,y,k TO (by simp) _ h3⟩,IsTupleIter.at h4 fun o e=>k i1 (by simp) o e,IsTupleIter.at h5 fun o e=>k i2 (by simp) o e⟩
 item:=by
  intro X hP hw hK hc i pins s σ H E I hf st hg
  subst hP hw hK
  obtain ⟨xs,ys,x,y,hqa,hqb,hx,hy⟩:=hg
  obtain ⟨ia,ra,pa,_⟩:=I.tuple hqa
  obtain ⟨ib,rb,pb,_⟩:=I.tuple hqb
  obtain ⟨u,hu,ru⟩:=ra.get hx
  obtain ⟨v,hv,rv⟩:=rb.get hy
  obtain ⟨h1,h2,⟨ox,oy,h3⟩,h4,h5⟩:=st
  have fr:H s.heap.objs.size=none:=I.hok.fresh (Nat.le_refl _)
  have pz:s.heap.objs.size≠z:=Nat.ne_of_gt (Heap.lt_size h1)
  refine J5r D h1 h2 h3 h4 h5 (show s.heap.IsTuple a ia.toArray from pa) (show s.heap.IsTuple b ib.toArray from pb) (x:=u) (y:=v) (by simpa using hu) (by simpa using hv) fun h' out to' st1 st2 tup k=>⟨.ref s.heap.objs.size,rfl,?_⟩
  refine wpAny_letOwnedTupleGo_zip (s:={ s with heap:=h' }) out fun h'' hz' sb=>?_
  have kk:∀ c o,c∉[z,TI,TO,i1,i2]→s.heap.get? c=some o→h''.get? c=some o:=fun c o hb e =>
   (sb.2 c (fun q=>hb (by simp [q]))).trans (k c o (fun q=>hb (by simp [q])) (fun q=>hb (by simp [q])) (fun q=>hb (by simp [q])) (fun q=>hb (by simp [q])) e)
  have kt:h''.get? s.heap.objs.size=some { cls:=.type "tuple",data:=.seq #[u,v] }:=(sb.2 _ pz).trans tup
  have nt:∀ c w',H c=some w'→c∉[z,TI,TO,i1,i2]:=fun c w' e hb=>by
   rw [(hf c hb).1] at e;cases e
  have np:∀ c w',H c=some w'→c≠s.heap.objs.size:=fun c w' e q=>by subst q;rw [fr] at e;cases e
  have up:∀ c w',H c=some w'→upd H s.heap.objs.size (.tup [x,y]) c=some w':=fun c w' e=>by rw [Jk (np c w' e)];exact e
  have lts:∀ c∈[z,TI,TO,i1,i2],c<s.heap.objs.size:=fun c hc=>by
   obtain ⟨o4,e4,_,_⟩:=h4
   obtain ⟨o5,e5,_,_⟩:=h5
   simp only [List.mem_cons,List.not_mem_nil,or_false] at hc
   rcases hc with rfl | rfl | rfl | rfl | rfl
   ·exact Heap.lt_size h1
   ·exact Heap.lt_size h2
   ·exact Heap.lt_size h3
   ·exact Heap.lt_size e4
   ·exact Heap.lt_size e5
  refine ⟨.ref s.heap.objs.size,upd H s.heap.objs.size (.tup [x,y]),?_,rfl,⟨_,x,y,fr,rfl,fun zs hz=>by rw [I.tuple_inj hz hqa];exact hx,fun zs hz=>by rw [I.tuple_inj hz hqb];exact hy,rfl⟩,⟨hz',(sb.2 TI D.TIz).trans (k TI _ D.TIz D.TITO D.TIi1 D.TIi2 h2),⟨u,v,(sb.2 TO D.TOz).trans to'⟩,IsTupleIter.at st1 fun o e=>(sb.2 i1 D.i1z).trans e,IsTupleIter.at st2 fun o e=>(sb.2 i2 D.i2z).trans e⟩,fun c hc=>?_⟩
  ·show Inv X pins σ _ { s with heap:=h'',gens:=s.gens,drawn:=s.drawn,toks:=s.toks }
   refine Inv.step (s:=s) (h':=h'') (t':=s.toks) (g':=s.gens) (d':=s.drawn) (ch:=[z,TI,TO,i1,i2]) I (fun c hc=>?_) (fun c o _ _ hb e _=>kk c o hb e) (fun c o _ _ hb e _=>⟨o.slots,kk c o hb e⟩) (fun c o _ e n=>by rw [Jk (Nat.ne_of_lt (Heap.lt_size e))];exact n) (fun c o hb e=>⟨o,kk c o hb e⟩)
    (fun c zs e=>up c _ e) (fun c o w' e=>up c _ e) (fun c ps e=>⟨#[],by rw [Array.append_empty];exact up c _ e⟩) (fun m hm=>?_) (fun c w' e=>?_) I.bare
   ·obtain ⟨f0,f1,f2,f3,f4,f5⟩:=hf c hc
    exact ⟨f3,f1,f4,f5⟩
   ·obtain ⟨o,es,ep,ho,r⟩:=hm
    exact ⟨o,es,ep,kk _ o (fun hb=>(hf _ hb).2.1 rfl) ho,r⟩
   ·by_cases q:c=s.heap.objs.size
    ·subst q
     rw [Jb] at e
     cases e
     exact ⟨Jc (Nat.le_of_ble_eq_true rfl),[u,v],.cons ru (.cons rv .nil),_,kt,rfl,_,rfl⟩
    ·rw [Jk q] at e
     refine (I.hok c w' e).stay (fun d o hd y=>kk d o ?_ y) (fun d y=>up d _ y) fun d zs y=>up d _ y
     rcases hd with rfl | hd
     ·exact nt _ _ e
     ·exact nt _ _ hd
  ·rw [Jk (Nat.ne_of_lt (lts c hc))]
   exact (hf c hc).1
 done:=by
  intro X hP hw hK hc i pins s σ H E I hf st hg
  subst hP hw hK
  obtain ⟨xs,ys,hqa,hqb,hx⟩:=hg
  obtain ⟨ia,ra,pa,_⟩:=I.tuple hqa
  obtain ⟨ib,rb,pb,_⟩:=I.tuple hqb
  obtain ⟨h1,h2,⟨ox,oy,h3⟩,h4,h5⟩:=st
  have la:=ra.length
  have lb:=rb.length
  refine J8I (I.ok.hd hc) D h1 h2 h3 h4 h5 (show s.heap.IsTuple a ia.toArray from pa) (show s.heap.IsTuple b ib.toArray from pb) (by
   rcases hx with hx | hx
   ·left;simp;omega
   ·right;simp;omega) fun h' k=>⟨rfl,?_⟩
  have kk:∀ c o,c∉[z,TI,TO,i1,i2]→s.heap.get? c=some o→h'.get? c=some o:=fun c o hb e =>
   k c o (fun q=>hb (by simp [q])) (fun q=>hb (by simp [q])) (fun q=>hb (by simp [q])) (fun q=>hb (by simp [q])) e
  have nt:∀ c w',H c=some w'→c∉[z,TI,TO,i1,i2]:=fun c w' e hb=>by
   rw [(hf c hb).1] at e;cases e
  show Inv X pins σ _ { s with heap:=h',gens:=s.gens,drawn:=s.drawn,toks:=s.toks }
  refine Inv.step (s:=s) (h':=h') (t':=s.toks) (g':=s.gens) (d':=s.drawn) (ch:=[z,TI,TO,i1,i2]) I (fun c hc=>?_) (fun c o _ _ hb e _=>kk c o hb e) (fun c o _ _ hb e _=>⟨o.slots,kk c o hb e⟩) (fun _ _ _ _ n=>n) (fun c o hb e=>⟨o,kk c o hb e⟩)
   (fun _ _ e=>e) (fun _ _ _ e=>e) (fun c ps e=>⟨#[],by rw [Array.append_empty];exact e⟩) (fun m hm=>?_) (fun c w' e=>?_) I.bare
  ·obtain ⟨f0,f1,f2,f3,f4,f5⟩:=hf c hc
   exact ⟨f3,f1,f4,f5⟩
  ·obtain ⟨o,es,ep,ho,r⟩:=hm
   exact ⟨o,es,ep,kk _ o (fun hb=>(hf _ hb).2.1 rfl) ho,r⟩
  ·refine (I.hok c w' e).stay (fun d o hd y=>kk d o ?_ y) (fun d y=>y) fun d zs y=>y
   rcases hd with rfl | hd
   ·exact nt _ _ e
   ·exact nt _ _ hd
 self:=fun _ _ _ _ _ st h=>wpAny_pyIter_zip st.1 h
section
variable {X:Cx}
def J7P (K:PySem.W.Frag)(ta:TA):TI:=fun σ H R=>ta σ H fun vs H1=>∃ a b,vs=[.ref a,.ref b]∧(∃ xs,SqT K H1 a xs)∧(∃ ys,SqT K H1 b ys)∧R (JbC K a b) H1
theorem J9W {K:PySem.W.Frag}{a b:Expr}{ta:TA}{p pos tpos:Pos}{elts:List Expr}{x1:Nat}(e:X.K=K)(hg:Gl X "zip")(hm:X.mg "zip"=none)(ha:PA X [a,b] ta)(hn:Ju a=true)(hn2:Ju b=true):PI X (.Tuple elts x1 tpos) (.Call (.Name "zip" p) [a,b] [] pos) (J7P K ta):=by
 subst e
 intro pins s σ H R I h
 refine Call_ (J1P I hg hm Jat (PyProof.Rows.callWith_type1 (thn (ha pos pins s σ H _ I h) fun us s1 ⟨vs,H1,I1,r1,q1⟩=>?_) (JE hn) (by rw [JE hn2];rfl)))
 obtain ⟨l,m,e,⟨xs,hq⟩,⟨ys,hq2⟩,q⟩:=q1
 subst e
 obtain ⟨u,v,rfl,ru,rv⟩:=J5t r1
 cases (show u=Value.ref l from ru)
 cases (show v=Value.ref m from rv)
 obtain ⟨ia,ra,pa,_⟩:=I1.tuple hq
 obtain ⟨ib,rb,pb,_⟩:=I1.tuple hq2
 have la:l<s1.heap.objs.size:=by obtain ⟨o,e,_⟩:=pa;exact Heap.lt_size e
 have lb:m<s1.heap.objs.size:=by obtain ⟨o,e,_⟩:=pb;exact Heap.lt_size e
 refine J8D (show s1.heap.IsTuple l ia.toArray from pa) (show s1.heap.IsTuple m ib.toArray from pb) fun h' hz hTI hTO st1 st2 k=>?_
 refine wpAny_pyIter_zip (s:={ s1 with heap:=h' }) hz ?_
 refine ⟨s1.heap.objs.size+4,[s1.heap.objs.size+4,s1.heap.objs.size+2,s1.heap.objs.size+3,s1.heap.objs.size,s1.heap.objs.size+1],_,_,H1,rfl,I1.kept (t':=s1.toks) k,turn_zipU _ _ _ _ _ l m ?_,⟨hz,hTI,⟨_,_,hTO⟩,st1,st2⟩,fun c hc=>?_,q⟩
 ·have la':Nat.lt l s1.heap.objs.size:=la
  have lb':Nat.lt m s1.heap.objs.size:=lb
  generalize s1.heap.objs.size=N at *
  constructor<;>first | exact Nat.ne_of_lt (by simp only [Nat.lt_eq] at *;omega) | exact Nat.ne_of_gt (by simp only [Nat.lt_eq] at *;omega)
 ·have hle:s1.heap.objs.size≤c:=by
   simp only [List.mem_cons,List.not_mem_nil,or_false] at hc
   rcases hc with rfl | rfl | rfl | rfl | rfl
   ·exact Nat.le_add_right _ _
   ·exact Nat.le_add_right _ _
   ·exact Nat.le_add_right _ _
   ·exact Nat.le_refl _
   ·exact Nat.le_add_right _ _
  exact I1.fpOk hle (I1.hok.fresh hle)
end
theorem ForW.zipU {K:PySem.W.Frag}{a b:Addr}{xs ys:List V}{g:TG}{tb:TS}{D:Ends}{σ:St}{H:Hp}(Pv:Nat→St→Hp→Prop)(h0:Pv 0 σ H)(hl:∀ i σ H,Pv i σ H→SqT K H a xs∧SqT K H b ys)
 (hs:∀ (i:Nat) x y σ H p,xs[i]?=some x→ys[i]?=some y→Pv i σ H→H p=none→g (.ref p) σ (upd H p (.tup [x,y])) fun σ2 H2=>tb { D with nx:=Pv (i+1),ct:=Pv (i+1),bk:=D.nx } σ2 H2)
 (hd:∀ σ H,Pv (min xs.length ys.length) σ H→D.nx σ H):ForW (JbC K a b) g tb D σ H:=by
 refine ⟨fun i m σ H=>Pv i σ H∧i≤min xs.length ys.length∧m=min xs.length ys.length - i,⟨_,h0,Nat.zero_le _,rfl⟩,fun i m σ H ⟨h1,h2,h3⟩=>?_⟩
 obtain ⟨sa,sb⟩:=hl i σ H h1
 by_cases e:i=min xs.length ys.length
 ·subst e
  exact .inl ⟨⟨xs,ys,sa,sb,by omega⟩,hd σ H h1⟩
 ·have lt:i<min xs.length ys.length:=Nat.lt_of_le_of_ne h2 e
  have lx:i<xs.length:=by omega
  have ly:i<ys.length:=by omega
  refine .inr ⟨⟨xs,ys,xs[i],ys[i],sa,sb,List.getElem?_eq_getElem lx,List.getElem?_eq_getElem ly⟩,Pv (i+1),fun σ' H' z=>⟨min xs.length ys.length - (i+1),by omega,z,lt,rfl⟩,fun v H' hy=>?_⟩
  obtain ⟨p,x',y',hp,rfl,hx,hy,rfl⟩:=hy
  exact hs i x' y' σ H p (hx xs sa) (hy ys sb) h1 hp
theorem J8z {K:PySem.W.Frag}{a b:Addr}{xs ys:List V}{g:TG}{tt:TT}{te:TE}{fin:List V→Hp→Prop}{σ:St}{H:Hp}(hz:xs.length≤sizeLine)(Pv:Nat→List V→St→Hp→Prop)(h0:Pv 0 [] σ H)(hl:∀ i zs σ H,Pv i zs σ H→(SqT K H a xs∧SqT K H b ys)∧zs.length≤i)
 (hs:∀ (i:Nat) x y zs σ H p,xs[i]?=some x→ys[i]?=some y→Pv i zs σ H→H p=none→g (.ref p) σ (upd H p (.tup [x,y])) fun σ2 H2=>tt σ2 H2 fun b H3=>if b=true then te σ2 H3 fun y H4=>Pv (i+1) (zs++[y]) σ2 H4 else Pv (i+1) zs σ2 H3)
 (hd:∀ zs σ H,Pv (min xs.length ys.length) zs σ H→fin zs H):J4v (JbC K a b) g tt te fin σ H:=by
 refine ⟨fun i m zs σ H=>m=min xs.length ys.length - i∧i≤min xs.length ys.length∧Pv i zs σ H,⟨_,rfl,Nat.zero_le _,h0⟩,?_⟩
 rintro i m zs σ H ⟨rfl,hi,p⟩
 obtain ⟨⟨sa,sb⟩,hy⟩:=hl i zs σ H p
 by_cases e:i=min xs.length ys.length
 ·subst e
  exact .inl ⟨⟨xs,ys,sa,sb,by omega⟩,hd zs σ H p⟩
 ·have lt:i<min xs.length ys.length:=Nat.lt_of_le_of_ne hi e
  have lx:i<xs.length:=by omega
  have ly:i<ys.length:=by omega
  refine .inr ⟨⟨xs,ys,xs[i],ys[i],sa,sb,List.getElem?_eq_getElem lx,List.getElem?_eq_getElem ly⟩,by omega,Pv (i+1),fun zs' σ' H' z=>⟨min xs.length ys.length - (i+1),by omega,rfl,lt,z⟩,fun v H' hv=>?_⟩
  obtain ⟨q,x',y',hq,rfl,hx,hy,rfl⟩:=hv
  exact hs i x' y' zs σ H q (hx xs sa) (hy ys sb) p hq
theorem Jd7 {X:Cx}{K:PySem.W.Frag}{e:Expr}{f:Str}{pos:Pos}{ta:TE}(hK:X.K=K)(he:PE X e ta)(hb:attributeBase e f X.env (eval e X.env)=eval e X.env):PE X (.Attribute e f pos) (J8Y K ta f):=by
 subst hK
 exact J1u he hb
end L2
namespace NS
open PySem L2
seal L2.PE L2.PT L2.PA L2.PS L2.PSs L2.PG L2.PI L2.PTs L2.PW L2.PO L2.PGs L2.PPs L2.OpR L2.J0e L2.IxR L2.SlR L2.UnR L2.JcP
noncomputable def top (i:Nat):Stmt:=PySem.Challenge.pw_crosshall_k14_paths.main.body.getD i (.Pass ⟨0,0,0,0⟩)
noncomputable abbrev JW:Stmt:=top 10
noncomputable abbrev JI:Stmt:=top 11
noncomputable abbrev J0K:Stmt:=top 12
noncomputable abbrev J0j:Stmt:=top 13
noncomputable abbrev J0v:Stmt:=top 14
noncomputable abbrev J0f:Stmt:=top 15
noncomputable abbrev J0x:Stmt:=top 17
noncomputable abbrev J07:Stmt:=top 19
noncomputable abbrev J05:Stmt:=top 21
noncomputable abbrev JV:Stmt:=top 22
noncomputable abbrev J0m:Stmt:=top 23
noncomputable abbrev J0u:Stmt:=top 24
noncomputable abbrev JM:Stmt:=top 25
noncomputable abbrev J0w:Stmt:=top 26
noncomputable abbrev JH:Stmt:=top 28
noncomputable abbrev J0i:Stmt:=top 31
noncomputable abbrev J1e:Stmt:=top 32
noncomputable abbrev J0r:Stmt:=top 33
noncomputable abbrev J0A:Stmt:=top 34
noncomputable abbrev JN:Stmt:=top 35
noncomputable abbrev J0J:Stmt:=top 36
noncomputable abbrev J18:Stmt:=top 37
noncomputable abbrev J0O:Stmt:=top 38
noncomputable abbrev J0P:Stmt:=top 39
noncomputable abbrev J0h:Stmt:=top 40
noncomputable abbrev J0g:Stmt:=top 41
noncomputable abbrev JA:Stmt:=top 42
noncomputable abbrev s_law:Stmt:=top 43
noncomputable abbrev Jw:Stmt:=J6b (top 29) 0
noncomputable abbrev JY:Stmt:=J6b (top 29) 4
noncomputable abbrev JX:Stmt:=J6b (top 29) 6
noncomputable abbrev JF:Stmt:=J6b (top 29) 7
noncomputable abbrev JZ:Stmt:=J6b (top 29) 8
theorem J49:FnScope ["text","signs"] ["text","signs"] (J9 JW):=⟨rfl,rfl,rfl,by decide +kernel,rfl,by decide +kernel,by decide +kernel⟩
theorem J2S:FnScope ["thing","signs"] ["thing","signs"] (J9 JI):=⟨rfl,rfl,rfl,by decide +kernel,rfl,by decide +kernel,by decide +kernel⟩
theorem J6I:FnScope ["thing"] ["thing"] (J9 J0K):=⟨rfl,rfl,rfl,by decide +kernel,rfl,by decide +kernel,by decide +kernel⟩
theorem J4Z:FnScope ["thing"] ["thing"] (J9 J0j):=⟨rfl,rfl,rfl,by decide +kernel,rfl,by decide +kernel,by decide +kernel⟩
theorem J5I:FnScope ["kind","thing"] ["kind","thing"] (J9 J0v):=⟨rfl,rfl,rfl,by decide +kernel,rfl,by decide +kernel,by decide +kernel⟩
theorem J4X:FnScope ["value"] ["value"] (J9 J0f):=⟨rfl,rfl,rfl,by decide +kernel,rfl,by decide +kernel,by decide +kernel⟩
theorem J1W:FnScope ["fields","name","place","field"] ["fields","name"] (J9 J0x):=⟨rfl,rfl,rfl,by decide +kernel,rfl,by decide +kernel,by decide +kernel⟩
theorem J1J:FnScope ["fields","figure","rows","place","values"] ["fields","figure","rows"] (J9 J07):=⟨rfl,rfl,rfl,by decide +kernel,rfl,by decide +kernel,by decide +kernel⟩
theorem J1r:FnScope ["fields","names","path","name","value"] ["fields","names","path"] (J9 J05):=⟨rfl,rfl,rfl,by decide +kernel,rfl,by decide +kernel,by decide +kernel⟩
theorem J48:FnScope ["fields","names","path","row"] ["fields","names","path","row"] (J9 JV):=⟨rfl,rfl,rfl,by decide +kernel,rfl,by decide +kernel,by decide +kernel⟩
theorem J5E:FnScope ["path"] ["path"] (J9 J0m):=⟨rfl,rfl,rfl,by decide +kernel,rfl,by decide +kernel,by decide +kernel⟩
theorem J5F:FnScope ["view","side"] ["view","side"] (J9 J0u):=⟨rfl,rfl,rfl,by decide +kernel,rfl,by decide +kernel,by decide +kernel⟩
theorem J2d:FnScope ["fields","names","row","values"] ["fields","names","row"] (J9 JM):=⟨rfl,rfl,rfl,by decide +kernel,rfl,by decide +kernel,by decide +kernel⟩
theorem J1o:FnScope ["fields","names","rows","heads","row","path"] ["fields","names","rows"] (J9 J0w):=⟨rfl,rfl,rfl,by decide +kernel,rfl,by decide +kernel,by decide +kernel⟩
theorem JS:FnScope ["fields","view","pairs","boxes","number","row","others","one","other"] ["fields","view","pairs"] (J9 JH):=⟨rfl,rfl,rfl,by decide +kernel,rfl,by decide +kernel,by decide +kernel⟩
theorem J4Y:FnScope ["_law_script","_law_k"] ["_law_script","_law_k"] (J9 J0i):=⟨rfl,rfl,rfl,by decide +kernel,rfl,by decide +kernel,by decide +kernel⟩
theorem J5H:FnScope ["_law_seed","_law_k","_law_turn"] ["_law_seed","_law_k"] (J9 J1e):=⟨rfl,rfl,rfl,by decide +kernel,rfl,by decide +kernel,by decide +kernel⟩
theorem J0F:FnScope ["_law_seed","_law_signs","_law_many","_law_most","_law_word","_law_few","_law_at","_law_rest","_law_heads_here","_law_k","_law_sign"] ["_law_seed","_law_signs","_law_many","_law_most"] (J9 J0r):=⟨rfl,rfl,rfl,by decide +kernel,rfl,by decide +kernel,by decide +kernel⟩
theorem J0E:FnScope ["_law_script","_law_seed","_law_many","_law_names","_law_fields","_law_words","_law_base"] ["_law_script"] (J9 J0A):=⟨rfl,rfl,rfl,by decide +kernel,rfl,by decide +kernel,by decide +kernel⟩
theorem J3e:FnScope ["_law_seed","_law_kind","_law_world_here"] ["_law_seed","_law_kind","_law_world_here"] (J9 JN):=⟨rfl,rfl,rfl,by decide +kernel,rfl,by decide +kernel,by decide +kernel⟩
theorem J6H:FnScope ["_law_seed","_law_kind","_law_world_here"] ["_law_seed","_law_kind","_law_world_here"] (J9 J0J):=⟨rfl,rfl,rfl,by decide +kernel,rfl,by decide +kernel,by decide +kernel⟩
theorem J5G:FnScope ["_law_seed","_law_world_here","_law_fields"] ["_law_seed","_law_world_here"] (J9 J18):=⟨rfl,rfl,rfl,by decide +kernel,rfl,by decide +kernel,by decide +kernel⟩
theorem J09:FnScope ["_law_seed","_law_world_here","_law_names","_law_at","_law_few","_law_figures","_law_k","_law_turn","_law_name","_law_kind","_law_figure"] ["_law_seed","_law_world_here"] (J9 J0O):=⟨rfl,rfl,rfl,by decide +kernel,rfl,by decide +kernel,by decide +kernel⟩
theorem J10:FnScope ["_law_seed","_law_side","_law_names","_law_rows","_law_fields","_law_values","_law_turn","_law_at","_law_kind"] ["_law_seed","_law_side","_law_names","_law_rows","_law_fields"] (J9 J0P):=⟨rfl,rfl,rfl,by decide +kernel,rfl,by decide +kernel,by decide +kernel⟩
theorem J1I:FnScope ["_law_path_here","_law_side","_law_fields","_law_k","_law_kind"] ["_law_path_here","_law_side","_law_fields"] (J9 J0h):=⟨rfl,rfl,rfl,by decide +kernel,rfl,by decide +kernel,by decide +kernel⟩
theorem J12:FnScope ["_law_way","_law_table","_law_fields","_law_side","_law_path_here","_law_told","e"] ["_law_way","_law_table","_law_fields","_law_side","_law_path_here"] (J9 J0g):=⟨rfl,rfl,rfl,by decide +kernel,rfl,by decide +kernel,by decide +kernel⟩
theorem JG:FnScope ["_law_table","_law_world_here","_law_side","_law_path_here","_law_rows","_law_fields","_law_names","_law_due","_law_way","_law_under","_law_row_here","_law_told","_law_values"] ["_law_table","_law_world_here","_law_side","_law_path_here","_law_rows"] (J9 JA):=⟨rfl,rfl,rfl,by decide +kernel,rfl,by decide +kernel,by decide +kernel⟩
theorem J1c:FnScope ["_law_script","_law_world_here","_law_fields","_law_names","_law_view_here","_law_rows","_law_k","_law_table","_law_side","_law_j","_law_seed"] ["_law_script"] (J9 s_law):=⟨rfl,rfl,rfl,by decide +kernel,rfl,by decide +kernel,by decide +kernel⟩
theorem J1p:FnScope ["self","fields","view","rows","laid"] ["self","fields","view","rows"] (J9 Jw):=⟨rfl,rfl,rfl,by decide +kernel,rfl,by decide +kernel,by decide +kernel⟩
theorem J2e:FnScope ["self","side","path","many"] ["self","side","path"] (J9 JY):=⟨rfl,rfl,rfl,by decide +kernel,rfl,by decide +kernel,by decide +kernel⟩
theorem J3C:FnScope ["self","one","other"] ["self","one","other"] (J9 JX):=⟨rfl,rfl,rfl,by decide +kernel,rfl,by decide +kernel,by decide +kernel⟩
theorem J3f:FnScope ["self","one","other"] ["self","one","other"] (J9 JF):=⟨rfl,rfl,rfl,by decide +kernel,rfl,by decide +kernel,by decide +kernel⟩
theorem J2w:FnScope ["self","one","other","rows"] ["self","one","other"] (J9 JZ):=⟨rfl,rfl,rfl,by decide +kernel,rfl,by decide +kernel,by decide +kernel⟩
structure Txt (K:PySem.W.Frag)(mg:Str→Option Value)(f:Nat→Addr)(fd:Nat→FuncData):Prop where
 d_is_made_of:DefOk K mg "is_made_of" JW ["text","signs"] (f 10) (fd 10)
 d_is_short_text:DefOk K mg "is_short_text" JI ["thing","signs"] (f 11) (fd 11)
 d_is_word:DefOk K mg "is_word" J0K ["thing"] (f 12) (fd 12)
 d_is_number:DefOk K mg "is_number" J0j ["thing"] (f 13) (fd 13)
 d_is_value:DefOk K mg "is_value" J0v ["kind","thing"] (f 14) (fd 14)
 d_order_key:DefOk K mg "order_key" J0f ["value"] (f 15) (fd 15)
 d_field_at:DefOk K mg "field_at" J0x ["fields","name"] (f 17) (fd 17)
 d_figure_of:DefOk K mg "figure_of" J07 ["fields","figure","rows"] (f 19) (fd 19)
 d_asked_path:DefOk K mg "asked_path" J05 ["fields","names","path"] (f 21) (fd 21)
 d_lies_under:DefOk K mg "lies_under" JV ["fields","names","path","row"] (f 22) (fd 22)
 d_path_key:DefOk K mg "path_key" J0m ["path"] (f 23) (fd 23)
 d_names_of:DefOk K mg "names_of" J0u ["view","side"] (f 24) (fd 24)
 d_paths_over:DefOk K mg "paths_over" JM ["fields","names","row"] (f 25) (fd 25)
 d_heads_of:DefOk K mg "heads_of" J0w ["fields","names","rows"] (f 26) (fd 26)
 d_laid_in_boxes:DefOk K mg "laid_in_boxes" JH ["fields","view","pairs"] (f 28) (fd 28)
 d_l_cell_at:DefOk K mg "_law_cell_at" J0i ["_law_script","_law_k"] (f 31) (fd 31)
 d_l_mix:DefOk K mg "_law_mix" J1e ["_law_seed","_law_k"] (f 32) (fd 32)
 d_l_heads:DefOk K mg "_law_heads" J0r ["_law_seed","_law_signs","_law_many","_law_most"] (f 33) (fd 33)
 d_l_world:DefOk K mg "_law_world" J0A ["_law_script"] (f 34) (fd 34)
 d_l_sure_value:DefOk K mg "_law_sure_value" JN ["_law_seed","_law_kind","_law_world_here"] (f 35) (fd 35)
 d_l_value:DefOk K mg "_law_value" J0J ["_law_seed","_law_kind","_law_world_here"] (f 36) (fd 36)
 d_l_row:DefOk K mg "_law_row" J18 ["_law_seed","_law_world_here"] (f 37) (fd 37)
 d_l_view:DefOk K mg "_law_view" J0O ["_law_seed","_law_world_here"] (f 38) (fd 38)
 d_l_path:DefOk K mg "_law_path" J0P ["_law_seed","_law_side","_law_names","_law_rows","_law_fields"] (f 39) (fd 39)
 d_l_is_path:DefOk K mg "_law_is_path" J0h ["_law_path_here","_law_side","_law_fields"] (f 40) (fd 40)
 d_l_refused:DefOk K mg "_law_refused" J0g ["_law_way","_law_table","_law_fields","_law_side","_law_path_here"] (f 41) (fd 41)
 d_l_path_right:DefOk K mg "_law_path_right" JA ["_law_table","_law_world_here","_law_side","_law_path_here","_law_rows"] (f 42) (fd 42)
 d_law:DefOk K mg "law" s_law ["_law_script"] (f 43) (fd 43)
 d_Table___init__:MthOk K "__init__" "Table.__init__" Jw ["self","fields","view","rows"] (f 30000) (fd 30000)
 d_Table_kids:MthOk K "kids" "Table.kids" JY ["self","side","path"] (f 30004) (fd 30004)
 d_Table_lying:MthOk K "lying" "Table.lying" JX ["self","one","other"] (f 30006) (fd 30006)
 d_Table_opened:MthOk K "opened" "Table.opened" JF ["self","one","other"] (f 30007) (fd 30007)
 d_Table_box:MthOk K "box" "Table.box" JZ ["self","one","other"] (f 30008) (fd 30008)
 x_CrossError:ExcM mg "CrossError" (f 2)
 x_NoField:ExcM mg "NoField" (f 4)
 x_NoKind:ExcM mg "NoKind" (f 5)
 x_NoHead:ExcOk K mg "NoHead" (f 3) none
 o_Table:OwnOk K mg "Table" (f 29) (f 30000)
 m_Table_kids:Meth K (f 29) "kids" (f 30004)
 m_Table_lying:Meth K (f 29) "lying" (f 30006)
 m_Table_opened:Meth K (f 29) "opened" (f 30007)
 m_Table_box:Meth K (f 29) "box" (f 30008)
 na_Table_boxes:PySem.W.findIn K (.ref (f 29)) "boxes"=some none
 na_Table_kept_fields:PySem.W.findIn K (.ref (f 29)) "kept_fields"=some none
 na_Table_kept_heads:PySem.W.findIn K (.ref (f 29)) "kept_heads"=some none
 na_Table_kept_view:PySem.W.findIn K (.ref (f 29)) "kept_view"=some none
 ki_NoHead_CrossError:PySem.W.kitOne K (.ref (f 3)) (.ref (f 2))=some true
 su_NoHead_NoHead:J90 K (f 3) (f 3)=true
 ki_NoHead_NoHead:PySem.W.kitOne K (.ref (f 3)) (.ref (f 3))=some true
 ki_NoHead_NoField:PySem.W.kitOne K (.ref (f 3)) (.ref (f 4))=some false
 ki_NoHead_NoKind:PySem.W.kitOne K (.ref (f 3)) (.ref (f 5))=some false
 kv_NoHead:PySem.W.kitOne K (.ref (f 3)) (.type "ValueError")=some true
 n_abs:mg "abs"=none
 n_all:mg "all"=none
 n_bool:mg "bool"=none
 n_dict:mg "dict"=none
 n_enumerate:mg "enumerate"=none
 n_int:mg "int"=none
 n_isinstance:mg "isinstance"=none
 n_len:mg "len"=none
 n_list:mg "list"=none
 n_max:mg "max"=none
 n_min:mg "min"=none
 n_range:mg "range"=none
 n_set:mg "set"=none
 n_sorted:mg "sorted"=none
 n_str:mg "str"=none
 n_sum:mg "sum"=none
 n_tuple:mg "tuple"=none
 n_zip:mg "zip"=none
 g_LETTERS:∃ tk,mg "LETTERS"=some (.str "abcdefghijklmnopqrstuvwxyz" tk)
 g_FIGURES:∃ tk,mg "FIGURES"=some (.str "0123456789" tk)
 g_MOST_SIGNS:∃ tk,mg "MOST_SIGNS"=some (.int (12) tk)
theorem J9U {α:Type}{C:List α→Prop}(h:C [])(us:List α)(e:us.length=0):C us:=(List.length_eq_zero_iff.mp e) ▸ h
theorem J2i {α:Type}{n:Nat}{C:List α→Prop}(h:∀ (a:α) (us:List α),us.length=n→C (a::us))(us:List α)(e:us.length=n+1):C us:=by
 cases us with
 | nil=>cases e
 | cons a r=>exact h a r (Nat.succ.inj e)
theorem J4m {fd:FuncData}{ps:List Str}(h:∀ a:Value,bindArgs fd ⟨[a],[]⟩=pure (ps.zip [a]))(us:List Value)(e:us.length=1):bindArgs fd ⟨us,[]⟩=pure (ps.zip us):=by
 revert us
 exact J2i fun a=>J9U (h a)
theorem J2F {fd:FuncData}{ps:List Str}(h:∀ a b:Value,bindArgs fd ⟨[a,b],[]⟩=pure (ps.zip [a,b]))(us:List Value)(e:us.length=2):bindArgs fd ⟨us,[]⟩=pure (ps.zip us):=by
 revert us
 exact J2i fun a=>J2i fun b=>J9U (h a b)
theorem J1R {fd:FuncData}{ps:List Str}(h:∀ a b c:Value,bindArgs fd ⟨[a,b,c],[]⟩=pure (ps.zip [a,b,c]))(us:List Value)(e:us.length=3):bindArgs fd ⟨us,[]⟩=pure (ps.zip us):=by
 revert us
 exact J2i fun a=>J2i fun b=>J2i fun c=>J9U (h a b c)
theorem J9T {fd:FuncData}{ps:List Str}(h:∀ a b c d:Value,bindArgs fd ⟨[a,b,c,d],[]⟩=pure (ps.zip [a,b,c,d]))(us:List Value)(e:us.length=4):bindArgs fd ⟨us,[]⟩=pure (ps.zip us):=by
 revert us
 exact J2i fun a=>J2i fun b=>J2i fun c=>J2i fun d=>J9U (h a b c d)
theorem J9S {fd:FuncData}{ps:List Str}(h:∀ a b c d e:Value,bindArgs fd ⟨[a,b,c,d,e],[]⟩=pure (ps.zip [a,b,c,d,e]))(us:List Value)(e:us.length=5):bindArgs fd ⟨us,[]⟩=pure (ps.zip us):=by
 revert us
 exact J2i fun a=>J2i fun b=>J2i fun c=>J2i fun d=>J2i fun e=>J9U (h a b c d e)
theorem txt_mk {K:PySem.W.Frag}{h:Heap}{mg:Str→Option Value}(X:K.In h)(G:h.Ns mainGlobals mg)
 {f10:Addr} {od10 an10:Option Addr} {sl10:Array (Option Value)} {oc10 kV10 dc10 pm10 cd10 ct10:Value}
 {f11:Addr} {od11 an11:Option Addr} {sl11:Array (Option Value)} {oc11 kV11 dc11 pm11 cd11 ct11:Value}
 {f12:Addr} {od12 an12:Option Addr} {sl12:Array (Option Value)} {oc12 kV12 dc12 pm12 cd12 ct12:Value}
 {f13:Addr} {od13 an13:Option Addr} {sl13:Array (Option Value)} {oc13 kV13 dc13 pm13 cd13 ct13:Value}
 {f14:Addr} {od14 an14:Option Addr} {sl14:Array (Option Value)} {oc14 kV14 dc14 pm14 cd14 ct14:Value}
 {f15:Addr} {od15 an15:Option Addr} {sl15:Array (Option Value)} {oc15 kV15 dc15 pm15 cd15 ct15:Value}
 {f17:Addr} {od17 an17:Option Addr} {sl17:Array (Option Value)} {oc17 kV17 dc17 pm17 cd17 ct17:Value}
 {f19:Addr} {od19 an19:Option Addr} {sl19:Array (Option Value)} {oc19 kV19 dc19 pm19 cd19 ct19:Value}
 {f21:Addr} {od21 an21:Option Addr} {sl21:Array (Option Value)} {oc21 kV21 dc21 pm21 cd21 ct21:Value}
 {f22:Addr} {od22 an22:Option Addr} {sl22:Array (Option Value)} {oc22 kV22 dc22 pm22 cd22 ct22:Value}
 {f23:Addr} {od23 an23:Option Addr} {sl23:Array (Option Value)} {oc23 kV23 dc23 pm23 cd23 ct23:Value}
 {f24:Addr} {od24 an24:Option Addr} {sl24:Array (Option Value)} {oc24 kV24 dc24 pm24 cd24 ct24:Value}
 {f25:Addr} {od25 an25:Option Addr} {sl25:Array (Option Value)} {oc25 kV25 dc25 pm25 cd25 ct25:Value}
 {f26:Addr} {od26 an26:Option Addr} {sl26:Array (Option Value)} {oc26 kV26 dc26 pm26 cd26 ct26:Value}
 {f28:Addr} {od28 an28:Option Addr} {sl28:Array (Option Value)} {oc28 kV28 dc28 pm28 cd28 ct28:Value}
 {f31:Addr} {od31 an31:Option Addr} {sl31:Array (Option Value)} {oc31 kV31 dc31 pm31 cd31 ct31:Value}
 {f32:Addr} {od32 an32:Option Addr} {sl32:Array (Option Value)} {oc32 kV32 dc32 pm32 cd32 ct32:Value}
 {f33:Addr} {od33 an33:Option Addr} {sl33:Array (Option Value)} {oc33 kV33 dc33 pm33 cd33 ct33:Value}
 {f34:Addr} {od34 an34:Option Addr} {sl34:Array (Option Value)} {oc34 kV34 dc34 pm34 cd34 ct34:Value}
 {f35:Addr} {od35 an35:Option Addr} {sl35:Array (Option Value)} {oc35 kV35 dc35 pm35 cd35 ct35:Value}
 {f36:Addr} {od36 an36:Option Addr} {sl36:Array (Option Value)} {oc36 kV36 dc36 pm36 cd36 ct36:Value}
 {f37:Addr} {od37 an37:Option Addr} {sl37:Array (Option Value)} {oc37 kV37 dc37 pm37 cd37 ct37:Value}
 {f38:Addr} {od38 an38:Option Addr} {sl38:Array (Option Value)} {oc38 kV38 dc38 pm38 cd38 ct38:Value}
 {f39:Addr} {od39 an39:Option Addr} {sl39:Array (Option Value)} {oc39 kV39 dc39 pm39 cd39 ct39:Value}
 {f40:Addr} {od40 an40:Option Addr} {sl40:Array (Option Value)} {oc40 kV40 dc40 pm40 cd40 ct40:Value}
 {f41:Addr} {od41 an41:Option Addr} {sl41:Array (Option Value)} {oc41 kV41 dc41 pm41 cd41 ct41:Value}
 {f42:Addr} {od42 an42:Option Addr} {sl42:Array (Option Value)} {oc42 kV42 dc42 pm42 cd42 ct42:Value}
 {f43:Addr} {od43 an43:Option Addr} {sl43:Array (Option Value)} {oc43 kV43 dc43 pm43 cd43 ct43:Value}
 {f30000:Addr} {od30000 an30000:Option Addr} {sl30000:Array (Option Value)} {oc30000 kV30000 dc30000 pm30000 cd30000 ct30000:Value}
 {f30004:Addr} {od30004 an30004:Option Addr} {sl30004:Array (Option Value)} {oc30004 kV30004 dc30004 pm30004 cd30004 ct30004:Value}
 {f30006:Addr} {od30006 an30006:Option Addr} {sl30006:Array (Option Value)} {oc30006 kV30006 dc30006 pm30006 cd30006 ct30006:Value}
 {f30007:Addr} {od30007 an30007:Option Addr} {sl30007:Array (Option Value)} {oc30007 kV30007 dc30007 pm30007 cd30007 ct30007:Value}
 {f30008:Addr} {od30008 an30008:Option Addr} {sl30008:Array (Option Value)} {oc30008 kV30008 dc30008 pm30008 cd30008 ct30008:Value}
 {f2:Addr}
 {f3:Addr}
 {f4:Addr}
 {f5:Addr}
 {f29:Addr}
 (a2:PySem.W.nsIn K mainGlobals "CrossError"=some (some (.ref f2)))
 (a3:PySem.W.nsIn K mainGlobals "NoHead"=some (some (.ref f3)))
 (a4:PySem.W.nsIn K mainGlobals "NoField"=some (some (.ref f4)))
 (a5:PySem.W.nsIn K mainGlobals "NoKind"=some (some (.ref f5)))
 (a29:PySem.W.nsIn K mainGlobals "Table"=some (some (.ref f29)))
 (a10:PySem.W.nsIn K mainGlobals "is_made_of"=some (some (.ref f10)))
 (l10:K.lookup f10=some ⟨oc10,od10,.func (PySem.W.fnOf "is_made_of" "is_made_of" (Jh JW) (Jg JW) (J9 JW) .none kV10 dc10 pm10 an10 cd10 ct10),sl10⟩) (c10:PySem.W.codeIn K cd10 "is_made_of"=true) (k10:PySem.W.keepIn K (.ref f10)=true)
 (a11:PySem.W.nsIn K mainGlobals "is_short_text"=some (some (.ref f11)))
 (l11:K.lookup f11=some ⟨oc11,od11,.func (PySem.W.fnOf "is_short_text" "is_short_text" (Jh JI) (Jg JI) (J9 JI) .none kV11 dc11 pm11 an11 cd11 ct11),sl11⟩) (c11:PySem.W.codeIn K cd11 "is_short_text"=true) (k11:PySem.W.keepIn K (.ref f11)=true)
 (a12:PySem.W.nsIn K mainGlobals "is_word"=some (some (.ref f12)))
 (l12:K.lookup f12=some ⟨oc12,od12,.func (PySem.W.fnOf "is_word" "is_word" (Jh J0K) (Jg J0K) (J9 J0K) .none kV12 dc12 pm12 an12 cd12 ct12),sl12⟩) (c12:PySem.W.codeIn K cd12 "is_word"=true) (k12:PySem.W.keepIn K (.ref f12)=true)
 (a13:PySem.W.nsIn K mainGlobals "is_number"=some (some (.ref f13)))
 (l13:K.lookup f13=some ⟨oc13,od13,.func (PySem.W.fnOf "is_number" "is_number" (Jh J0j) (Jg J0j) (J9 J0j) .none kV13 dc13 pm13 an13 cd13 ct13),sl13⟩) (c13:PySem.W.codeIn K cd13 "is_number"=true) (k13:PySem.W.keepIn K (.ref f13)=true)
 (a14:PySem.W.nsIn K mainGlobals "is_value"=some (some (.ref f14)))
 (l14:K.lookup f14=some ⟨oc14,od14,.func (PySem.W.fnOf "is_value" "is_value" (Jh J0v) (Jg J0v) (J9 J0v) .none kV14 dc14 pm14 an14 cd14 ct14),sl14⟩) (c14:PySem.W.codeIn K cd14 "is_value"=true) (k14:PySem.W.keepIn K (.ref f14)=true)
 (a15:PySem.W.nsIn K mainGlobals "order_key"=some (some (.ref f15)))
 (l15:K.lookup f15=some ⟨oc15,od15,.func (PySem.W.fnOf "order_key" "order_key" (Jh J0f) (Jg J0f) (J9 J0f) .none kV15 dc15 pm15 an15 cd15 ct15),sl15⟩) (c15:PySem.W.codeIn K cd15 "order_key"=true) (k15:PySem.W.keepIn K (.ref f15)=true)
 (a17:PySem.W.nsIn K mainGlobals "field_at"=some (some (.ref f17)))
 (l17:K.lookup f17=some ⟨oc17,od17,.func (PySem.W.fnOf "field_at" "field_at" (Jh J0x) (Jg J0x) (J9 J0x) .none kV17 dc17 pm17 an17 cd17 ct17),sl17⟩) (c17:PySem.W.codeIn K cd17 "field_at"=true) (k17:PySem.W.keepIn K (.ref f17)=true)
 (a19:PySem.W.nsIn K mainGlobals "figure_of"=some (some (.ref f19)))
 (l19:K.lookup f19=some ⟨oc19,od19,.func (PySem.W.fnOf "figure_of" "figure_of" (Jh J07) (Jg J07) (J9 J07) .none kV19 dc19 pm19 an19 cd19 ct19),sl19⟩) (c19:PySem.W.codeIn K cd19 "figure_of"=true) (k19:PySem.W.keepIn K (.ref f19)=true)
 (a21:PySem.W.nsIn K mainGlobals "asked_path"=some (some (.ref f21)))
 (l21:K.lookup f21=some ⟨oc21,od21,.func (PySem.W.fnOf "asked_path" "asked_path" (Jh J05) (Jg J05) (J9 J05) .none kV21 dc21 pm21 an21 cd21 ct21),sl21⟩) (c21:PySem.W.codeIn K cd21 "asked_path"=true) (k21:PySem.W.keepIn K (.ref f21)=true)
 (a22:PySem.W.nsIn K mainGlobals "lies_under"=some (some (.ref f22)))
 (l22:K.lookup f22=some ⟨oc22,od22,.func (PySem.W.fnOf "lies_under" "lies_under" (Jh JV) (Jg JV) (J9 JV) .none kV22 dc22 pm22 an22 cd22 ct22),sl22⟩) (c22:PySem.W.codeIn K cd22 "lies_under"=true) (k22:PySem.W.keepIn K (.ref f22)=true)
 (a23:PySem.W.nsIn K mainGlobals "path_key"=some (some (.ref f23)))
 (l23:K.lookup f23=some ⟨oc23,od23,.func (PySem.W.fnOf "path_key" "path_key" (Jh J0m) (Jg J0m) (J9 J0m) .none kV23 dc23 pm23 an23 cd23 ct23),sl23⟩) (c23:PySem.W.codeIn K cd23 "path_key"=true) (k23:PySem.W.keepIn K (.ref f23)=true)
 (a24:PySem.W.nsIn K mainGlobals "names_of"=some (some (.ref f24)))
 (l24:K.lookup f24=some ⟨oc24,od24,.func (PySem.W.fnOf "names_of" "names_of" (Jh J0u) (Jg J0u) (J9 J0u) .none kV24 dc24 pm24 an24 cd24 ct24),sl24⟩) (c24:PySem.W.codeIn K cd24 "names_of"=true) (k24:PySem.W.keepIn K (.ref f24)=true)
 (a25:PySem.W.nsIn K mainGlobals "paths_over"=some (some (.ref f25)))
 (l25:K.lookup f25=some ⟨oc25,od25,.func (PySem.W.fnOf "paths_over" "paths_over" (Jh JM) (Jg JM) (J9 JM) .none kV25 dc25 pm25 an25 cd25 ct25),sl25⟩) (c25:PySem.W.codeIn K cd25 "paths_over"=true) (k25:PySem.W.keepIn K (.ref f25)=true)
 (a26:PySem.W.nsIn K mainGlobals "heads_of"=some (some (.ref f26)))
 (l26:K.lookup f26=some ⟨oc26,od26,.func (PySem.W.fnOf "heads_of" "heads_of" (Jh J0w) (Jg J0w) (J9 J0w) .none kV26 dc26 pm26 an26 cd26 ct26),sl26⟩) (c26:PySem.W.codeIn K cd26 "heads_of"=true) (k26:PySem.W.keepIn K (.ref f26)=true)
 (a28:PySem.W.nsIn K mainGlobals "laid_in_boxes"=some (some (.ref f28)))
 (l28:K.lookup f28=some ⟨oc28,od28,.func (PySem.W.fnOf "laid_in_boxes" "laid_in_boxes" (Jh JH) (Jg JH) (J9 JH) .none kV28 dc28 pm28 an28 cd28 ct28),sl28⟩) (c28:PySem.W.codeIn K cd28 "laid_in_boxes"=true) (k28:PySem.W.keepIn K (.ref f28)=true)
 (a31:PySem.W.nsIn K mainGlobals "_law_cell_at"=some (some (.ref f31)))
 (l31:K.lookup f31=some ⟨oc31,od31,.func (PySem.W.fnOf "_law_cell_at" "_law_cell_at" (Jh J0i) (Jg J0i) (J9 J0i) .none kV31 dc31 pm31 an31 cd31 ct31),sl31⟩) (c31:PySem.W.codeIn K cd31 "_law_cell_at"=true) (k31:PySem.W.keepIn K (.ref f31)=true)
 (a32:PySem.W.nsIn K mainGlobals "_law_mix"=some (some (.ref f32)))
 (l32:K.lookup f32=some ⟨oc32,od32,.func (PySem.W.fnOf "_law_mix" "_law_mix" (Jh J1e) (Jg J1e) (J9 J1e) .none kV32 dc32 pm32 an32 cd32 ct32),sl32⟩) (c32:PySem.W.codeIn K cd32 "_law_mix"=true) (k32:PySem.W.keepIn K (.ref f32)=true)
 (a33:PySem.W.nsIn K mainGlobals "_law_heads"=some (some (.ref f33)))
 (l33:K.lookup f33=some ⟨oc33,od33,.func (PySem.W.fnOf "_law_heads" "_law_heads" (Jh J0r) (Jg J0r) (J9 J0r) .none kV33 dc33 pm33 an33 cd33 ct33),sl33⟩) (c33:PySem.W.codeIn K cd33 "_law_heads"=true) (k33:PySem.W.keepIn K (.ref f33)=true)
 (a34:PySem.W.nsIn K mainGlobals "_law_world"=some (some (.ref f34)))
 (l34:K.lookup f34=some ⟨oc34,od34,.func (PySem.W.fnOf "_law_world" "_law_world" (Jh J0A) (Jg J0A) (J9 J0A) .none kV34 dc34 pm34 an34 cd34 ct34),sl34⟩) (c34:PySem.W.codeIn K cd34 "_law_world"=true) (k34:PySem.W.keepIn K (.ref f34)=true)
 (a35:PySem.W.nsIn K mainGlobals "_law_sure_value"=some (some (.ref f35)))
 (l35:K.lookup f35=some ⟨oc35,od35,.func (PySem.W.fnOf "_law_sure_value" "_law_sure_value" (Jh JN) (Jg JN) (J9 JN) .none kV35 dc35 pm35 an35 cd35 ct35),sl35⟩) (c35:PySem.W.codeIn K cd35 "_law_sure_value"=true) (k35:PySem.W.keepIn K (.ref f35)=true)
 (a36:PySem.W.nsIn K mainGlobals "_law_value"=some (some (.ref f36)))
 (l36:K.lookup f36=some ⟨oc36,od36,.func (PySem.W.fnOf "_law_value" "_law_value" (Jh J0J) (Jg J0J) (J9 J0J) .none kV36 dc36 pm36 an36 cd36 ct36),sl36⟩) (c36:PySem.W.codeIn K cd36 "_law_value"=true) (k36:PySem.W.keepIn K (.ref f36)=true)
 (a37:PySem.W.nsIn K mainGlobals "_law_row"=some (some (.ref f37)))
 (l37:K.lookup f37=some ⟨oc37,od37,.func (PySem.W.fnOf "_law_row" "_law_row" (Jh J18) (Jg J18) (J9 J18) .none kV37 dc37 pm37 an37 cd37 ct37),sl37⟩) (c37:PySem.W.codeIn K cd37 "_law_row"=true) (k37:PySem.W.keepIn K (.ref f37)=true)
 (a38:PySem.W.nsIn K mainGlobals "_law_view"=some (some (.ref f38)))
 (l38:K.lookup f38=some ⟨oc38,od38,.func (PySem.W.fnOf "_law_view" "_law_view" (Jh J0O) (Jg J0O) (J9 J0O) .none kV38 dc38 pm38 an38 cd38 ct38),sl38⟩) (c38:PySem.W.codeIn K cd38 "_law_view"=true) (k38:PySem.W.keepIn K (.ref f38)=true)
 (a39:PySem.W.nsIn K mainGlobals "_law_path"=some (some (.ref f39)))
 (l39:K.lookup f39=some ⟨oc39,od39,.func (PySem.W.fnOf "_law_path" "_law_path" (Jh J0P) (Jg J0P) (J9 J0P) .none kV39 dc39 pm39 an39 cd39 ct39),sl39⟩) (c39:PySem.W.codeIn K cd39 "_law_path"=true) (k39:PySem.W.keepIn K (.ref f39)=true)
 (a40:PySem.W.nsIn K mainGlobals "_law_is_path"=some (some (.ref f40)))
 (l40:K.lookup f40=some ⟨oc40,od40,.func (PySem.W.fnOf "_law_is_path" "_law_is_path" (Jh J0h) (Jg J0h) (J9 J0h) .none kV40 dc40 pm40 an40 cd40 ct40),sl40⟩) (c40:PySem.W.codeIn K cd40 "_law_is_path"=true) (k40:PySem.W.keepIn K (.ref f40)=true)
 (a41:PySem.W.nsIn K mainGlobals "_law_refused"=some (some (.ref f41)))
 (l41:K.lookup f41=some ⟨oc41,od41,.func (PySem.W.fnOf "_law_refused" "_law_refused" (Jh J0g) (Jg J0g) (J9 J0g) .none kV41 dc41 pm41 an41 cd41 ct41),sl41⟩) (c41:PySem.W.codeIn K cd41 "_law_refused"=true) (k41:PySem.W.keepIn K (.ref f41)=true)
 (a42:PySem.W.nsIn K mainGlobals "_law_path_right"=some (some (.ref f42)))
 (l42:K.lookup f42=some ⟨oc42,od42,.func (PySem.W.fnOf "_law_path_right" "_law_path_right" (Jh JA) (Jg JA) (J9 JA) .none kV42 dc42 pm42 an42 cd42 ct42),sl42⟩) (c42:PySem.W.codeIn K cd42 "_law_path_right"=true) (k42:PySem.W.keepIn K (.ref f42)=true)
 (a43:PySem.W.nsIn K mainGlobals "law"=some (some (.ref f43)))
 (l43:K.lookup f43=some ⟨oc43,od43,.func (PySem.W.fnOf "law" "law" (Jh s_law) (Jg s_law) (J9 s_law) .none kV43 dc43 pm43 an43 cd43 ct43),sl43⟩) (c43:PySem.W.codeIn K cd43 "law"=true) (k43:PySem.W.keepIn K (.ref f43)=true)
 (a30000:PySem.W.findIn K (.ref f29) "__init__"=some (some (.ref f30000)))
 (l30000:K.lookup f30000=some ⟨oc30000,od30000,.func (PySem.W.fnOf "__init__" "Table.__init__" (Jh Jw) (Jg Jw) (J9 Jw) .none kV30000 dc30000 pm30000 an30000 cd30000 ct30000),sl30000⟩) (c30000:PySem.W.codeIn K cd30000 "Table.__init__"=true) (k30000:PySem.W.keepIn K (.ref f30000)=true)
 (b30000:PySem.W.isFn K (.ref f30000)=true)
 (a30004:PySem.W.findIn K (.ref f29) "kids"=some (some (.ref f30004)))
 (l30004:K.lookup f30004=some ⟨oc30004,od30004,.func (PySem.W.fnOf "kids" "Table.kids" (Jh JY) (Jg JY) (J9 JY) .none kV30004 dc30004 pm30004 an30004 cd30004 ct30004),sl30004⟩) (c30004:PySem.W.codeIn K cd30004 "Table.kids"=true) (k30004:PySem.W.keepIn K (.ref f30004)=true)
 (b30004:PySem.W.isFn K (.ref f30004)=true)
 (a30006:PySem.W.findIn K (.ref f29) "lying"=some (some (.ref f30006)))
 (l30006:K.lookup f30006=some ⟨oc30006,od30006,.func (PySem.W.fnOf "lying" "Table.lying" (Jh JX) (Jg JX) (J9 JX) .none kV30006 dc30006 pm30006 an30006 cd30006 ct30006),sl30006⟩) (c30006:PySem.W.codeIn K cd30006 "Table.lying"=true) (k30006:PySem.W.keepIn K (.ref f30006)=true)
 (b30006:PySem.W.isFn K (.ref f30006)=true)
 (a30007:PySem.W.findIn K (.ref f29) "opened"=some (some (.ref f30007)))
 (l30007:K.lookup f30007=some ⟨oc30007,od30007,.func (PySem.W.fnOf "opened" "Table.opened" (Jh JF) (Jg JF) (J9 JF) .none kV30007 dc30007 pm30007 an30007 cd30007 ct30007),sl30007⟩) (c30007:PySem.W.codeIn K cd30007 "Table.opened"=true) (k30007:PySem.W.keepIn K (.ref f30007)=true)
 (b30007:PySem.W.isFn K (.ref f30007)=true)
 (a30008:PySem.W.findIn K (.ref f29) "box"=some (some (.ref f30008)))
 (l30008:K.lookup f30008=some ⟨oc30008,od30008,.func (PySem.W.fnOf "box" "Table.box" (Jh JZ) (Jg JZ) (J9 JZ) .none kV30008 dc30008 pm30008 an30008 cd30008 ct30008),sl30008⟩) (c30008:PySem.W.codeIn K cd30008 "Table.box"=true) (k30008:PySem.W.keepIn K (.ref f30008)=true)
 (b30008:PySem.W.isFn K (.ref f30008)=true)
 (x_NoHead_e:exB K f3 none=true)
 (x_NoHead_kp:PySem.W.keepIn K (.ref f3)=true)
 (x_NoHead_ga:PySem.W.findIn K (.ref f3) "__getattribute__"=some (some (.builtin "BaseException.__getattribute__")))
 (x_NoHead_gh:PySem.W.findIn K (.ref f3) "__getattr__"=some none)
 (x_NoHead_ba:PySem.W.mroIn K f3 (.type "BaseException")=some true)
 (x_NoHead_ob:PySem.W.mroIn K f3 (.type "object")=some true)
 (x_NoHead_hd:PySem.W.hasDictIn K f3=true)
 (x_NoHead_cl:PySem.W.findIn K (.ref f3) "__class__"=some (some (.builtin "object.__class__")))
 (x_NoHead_cg:PySem.W.specialIn K (.builtin "object.__class__") "__get__"=some (some (.builtin "getset_descriptor.__get__")))
 (x_NoHead_ct:PySem.W.takesIn K (.builtin "object.__class__")=some true)
 (x_NoHead_sa:PySem.W.findIn K (.ref f3) "__setattr__"=some (some (.builtin "object.__setattr__")))
 (o_Table_pg:PySem.W.plainGet K f29 Str.empty=true)
 (o_Table_hd:PySem.W.hasDictIn K f29=true)
 (o_Table_po:PySem.W.plainOver K f29=true)
 (o_Table_sa:PySem.W.findIn K (.ref f29) "__setattr__"=some (some (.builtin "object.__setattr__")))
 (o_Table_ma:PySem.W.makesIn K f29=true)
 (o_Table_kp:PySem.W.keepIn K (.ref f29)=true)
 (v_na_Table_boxes:PySem.W.findIn K (.ref f29) "boxes"=some none)
 (v_na_Table_kept_fields:PySem.W.findIn K (.ref f29) "kept_fields"=some none)
 (v_na_Table_kept_heads:PySem.W.findIn K (.ref f29) "kept_heads"=some none)
 (v_na_Table_kept_view:PySem.W.findIn K (.ref f29) "kept_view"=some none)
 (v_ki_NoHead_CrossError:PySem.W.kitOne K (.ref f3) (.ref f2)=some true)
 (v_su_NoHead_NoHead:J90 K f3 f3=true)
 (v_ki_NoHead_NoHead:PySem.W.kitOne K (.ref f3) (.ref f3)=some true)
 (v_ki_NoHead_NoField:PySem.W.kitOne K (.ref f3) (.ref f4)=some false)
 (v_ki_NoHead_NoKind:PySem.W.kitOne K (.ref f3) (.ref f5)=some false)
 (v_kv_NoHead:PySem.W.kitOne K (.ref f3) (.type "ValueError")=some true)
 (z_abs:PySem.W.nsIn K mainGlobals "abs"=some none)
 (z_all:PySem.W.nsIn K mainGlobals "all"=some none)
 (z_bool:PySem.W.nsIn K mainGlobals "bool"=some none)
 (z_dict:PySem.W.nsIn K mainGlobals "dict"=some none)
 (z_enumerate:PySem.W.nsIn K mainGlobals "enumerate"=some none)
 (z_int:PySem.W.nsIn K mainGlobals "int"=some none)
 (z_isinstance:PySem.W.nsIn K mainGlobals "isinstance"=some none)
 (z_len:PySem.W.nsIn K mainGlobals "len"=some none)
 (z_list:PySem.W.nsIn K mainGlobals "list"=some none)
 (z_max:PySem.W.nsIn K mainGlobals "max"=some none)
 (z_min:PySem.W.nsIn K mainGlobals "min"=some none)
 (z_range:PySem.W.nsIn K mainGlobals "range"=some none)
 (z_set:PySem.W.nsIn K mainGlobals "set"=some none)
 (z_sorted:PySem.W.nsIn K mainGlobals "sorted"=some none)
 (z_str:PySem.W.nsIn K mainGlobals "str"=some none)
 (z_sum:PySem.W.nsIn K mainGlobals "sum"=some none)
 (z_tuple:PySem.W.nsIn K mainGlobals "tuple"=some none)
 (z_zip:PySem.W.nsIn K mainGlobals "zip"=some none)
 {tk_LETTERS:Tok} (y_LETTERS:PySem.W.nsIn K mainGlobals "LETTERS"=some (some (.str "abcdefghijklmnopqrstuvwxyz" tk_LETTERS)))
 {tk_FIGURES:Tok} (y_FIGURES:PySem.W.nsIn K mainGlobals "FIGURES"=some (some (.str "0123456789" tk_FIGURES)))
 {tk_MOST_SIGNS:Tok} (y_MOST_SIGNS:PySem.W.nsIn K mainGlobals "MOST_SIGNS"=some (some (.int (12) tk_MOST_SIGNS)))
 : ∃ f fd,Txt K mg f fd∧f 43=f43∧∃ kV dc pm an cd ct,fd 43=PySem.W.fnOf "law" "law" (Jh s_law) (Jg s_law) (J9 s_law) .none kV dc pm an cd ct:=by
 refine ⟨fun i=>match i with | 10=>f10 | 11=>f11 | 12=>f12 | 13=>f13 | 14=>f14 | 15=>f15 | 17=>f17 | 19=>f19 | 21=>f21 | 22=>f22 | 23=>f23 | 24=>f24 | 25=>f25 | 26=>f26 | 28=>f28 | 31=>f31 | 32=>f32 | 33=>f33 | 34=>f34 | 35=>f35 | 36=>f36 | 37=>f37 | 38=>f38 | 39=>f39 | 40=>f40 | 41=>f41 | 42=>f42 | 43=>f43 | 30000=>f30000 | 30004=>f30004 | 30006=>f30006 | 30007=>f30007 | 30008=>f30008 | 2=>f2 | 3=>f3 | 4=>f4 | 5=>f5 | 29=>f29 | _=>0,fun i=>match i with | 10=>PySem.W.fnOf "is_made_of" "is_made_of" (Jh JW) (Jg JW) (J9 JW) .none kV10 dc10 pm10 an10 cd10 ct10 | 11=>PySem.W.fnOf "is_short_text" "is_short_text" (Jh JI) (Jg JI) (J9 JI) .none kV11 dc11 pm11 an11 cd11 ct11 | 12=>PySem.W.fnOf "is_word" "is_word" (Jh J0K) (Jg J0K) (J9 J0K) .none kV12 dc12 pm12 an12 cd12 ct12 | 13=>PySem.W.fnOf "is_number" "is_number" (Jh J0j) (Jg J0j) (J9 J0j) .none kV13 dc13 pm13 an13 cd13 ct13 | 14=>PySem.W.fnOf "is_value" "is_value" (Jh J0v) (Jg J0v) (J9 J0v) .none kV14 dc14 pm14 an14 cd14 ct14 | 15=>PySem.W.fnOf "order_key" "order_key" (Jh J0f) (Jg J0f) (J9 J0f) .none kV15 dc15 pm15 an15 cd15 ct15 | 17=>PySem.W.fnOf "field_at" "field_at" (Jh J0x) (Jg J0x) (J9 J0x) .none kV17 dc17 pm17 an17 cd17 ct17 | 19=>PySem.W.fnOf "figure_of" "figure_of" (Jh J07) (Jg J07) (J9 J07) .none kV19 dc19 pm19 an19 cd19 ct19 | 21=>PySem.W.fnOf "asked_path" "asked_path" (Jh J05) (Jg J05) (J9 J05) .none kV21 dc21 pm21 an21 cd21 ct21 | 22=>PySem.W.fnOf "lies_under" "lies_under" (Jh JV) (Jg JV) (J9 JV) .none kV22 dc22 pm22 an22 cd22 ct22 | 23=>PySem.W.fnOf "path_key" "path_key" (Jh J0m) (Jg J0m) (J9 J0m) .none kV23 dc23 pm23 an23 cd23 ct23 | 24=>PySem.W.fnOf "names_of" "names_of" (Jh J0u) (Jg J0u) (J9 J0u) .none kV24 dc24 pm24 an24 cd24 ct24 | 25=>PySem.W.fnOf "paths_over" "paths_over" (Jh JM) (Jg JM) (J9 JM) .none kV25 dc25 pm25 an25 cd25 ct25 | 26=>PySem.W.fnOf "heads_of" "heads_of" (Jh J0w) (Jg J0w) (J9 J0w) .none kV26 dc26 pm26 an26 cd26 ct26 | 28=>PySem.W.fnOf "laid_in_boxes" "laid_in_boxes" (Jh JH) (Jg JH) (J9 JH) .none kV28 dc28 pm28 an28 cd28 ct28 | 31=>PySem.W.fnOf "_law_cell_at" "_law_cell_at" (Jh J0i) (Jg J0i) (J9 J0i) .none kV31 dc31 pm31 an31 cd31 ct31 | 32=>PySem.W.fnOf "_law_mix" "_law_mix" (Jh J1e) (Jg J1e) (J9 J1e) .none kV32 dc32 pm32 an32 cd32 ct32 | 33=>PySem.W.fnOf "_law_heads" "_law_heads" (Jh J0r) (Jg J0r) (J9 J0r) .none kV33 dc33 pm33 an33 cd33 ct33 | 34=>PySem.W.fnOf "_law_world" "_law_world" (Jh J0A) (Jg J0A) (J9 J0A) .none kV34 dc34 pm34 an34 cd34 ct34 | 35=>PySem.W.fnOf "_law_sure_value" "_law_sure_value" (Jh JN) (Jg JN) (J9 JN) .none kV35 dc35 pm35 an35 cd35 ct35 | 36=>PySem.W.fnOf "_law_value" "_law_value" (Jh J0J) (Jg J0J) (J9 J0J) .none kV36 dc36 pm36 an36 cd36 ct36 | 37=>PySem.W.fnOf "_law_row" "_law_row" (Jh J18) (Jg J18) (J9 J18) .none kV37 dc37 pm37 an37 cd37 ct37 | 38=>PySem.W.fnOf "_law_view" "_law_view" (Jh J0O) (Jg J0O) (J9 J0O) .none kV38 dc38 pm38 an38 cd38 ct38 | 39=>PySem.W.fnOf "_law_path" "_law_path" (Jh J0P) (Jg J0P) (J9 J0P) .none kV39 dc39 pm39 an39 cd39 ct39 | 40=>PySem.W.fnOf "_law_is_path" "_law_is_path" (Jh J0h) (Jg J0h) (J9 J0h) .none kV40 dc40 pm40 an40 cd40 ct40 | 41=>PySem.W.fnOf "_law_refused" "_law_refused" (Jh J0g) (Jg J0g) (J9 J0g) .none kV41 dc41 pm41 an41 cd41 ct41 | 42=>PySem.W.fnOf "_law_path_right" "_law_path_right" (Jh JA) (Jg JA) (J9 JA) .none kV42 dc42 pm42 an42 cd42 ct42 | 43=>PySem.W.fnOf "law" "law" (Jh s_law) (Jg s_law) (J9 s_law) .none kV43 dc43 pm43 an43 cd43 ct43 | 30000=>PySem.W.fnOf "__init__" "Table.__init__" (Jh Jw) (Jg Jw) (J9 Jw) .none kV30000 dc30000 pm30000 an30000 cd30000 ct30000 | 30004=>PySem.W.fnOf "kids" "Table.kids" (Jh JY) (Jg JY) (J9 JY) .none kV30004 dc30004 pm30004 an30004 cd30004 ct30004 | 30006=>PySem.W.fnOf "lying" "Table.lying" (Jh JX) (Jg JX) (J9 JX) .none kV30006 dc30006 pm30006 an30006 cd30006 ct30006 | 30007=>PySem.W.fnOf "opened" "Table.opened" (Jh JF) (Jg JF) (J9 JF) .none kV30007 dc30007 pm30007 an30007 cd30007 ct30007 | 30008=>PySem.W.fnOf "box" "Table.box" (Jh JZ) (Jg JZ) (J9 JZ) .none kV30008 dc30008 pm30008 an30008 cd30008 ct30008 | _=>PySem.W.fnOf "law" "law" (Jh s_law) (Jg s_law) (J9 s_law) .none kV43 dc43 pm43 an43 cd43 ct43,⟨?_,?_,?_,?_,?_,?_,?_,?_,?_,?_,?_,?_,?_,?_,?_,?_,?_,?_,?_,?_,?_,?_,?_,?_,?_,?_,?_,?_,?_,?_,?_,?_,?_,?_,?_,?_,?_,?_,?_,?_,?_,?_,?_,?_,?_,?_,?_,?_,?_,?_,?_,?_,?_,?_,?_,?_,?_,?_,?_,?_,?_,?_,?_,?_,?_,?_,?_,?_,?_,?_,?_,?_,?_⟩,rfl,_,_,_,_,_,_,rfl⟩
 ·exact (by have F:=JD (st:=JW) l10 c10 k10;exact ⟨F,F.binds (ps:=["text","signs"]) fun _ _ _ _ _ _ us hl=>J2F (fun _ _=>rfl) us hl,PySem.W.mg_of X G a10⟩)
 ·exact (by have F:=JD (st:=JI) l11 c11 k11;exact ⟨F,F.binds (ps:=["thing","signs"]) fun _ _ _ _ _ _ us hl=>J2F (fun _ _=>rfl) us hl,PySem.W.mg_of X G a11⟩)
 ·exact (by have F:=JD (st:=J0K) l12 c12 k12;exact ⟨F,F.binds (ps:=["thing"]) fun _ _ _ _ _ _ us hl=>J4m (fun _=>rfl) us hl,PySem.W.mg_of X G a12⟩)
 ·exact (by have F:=JD (st:=J0j) l13 c13 k13;exact ⟨F,F.binds (ps:=["thing"]) fun _ _ _ _ _ _ us hl=>J4m (fun _=>rfl) us hl,PySem.W.mg_of X G a13⟩)
 ·exact (by have F:=JD (st:=J0v) l14 c14 k14;exact ⟨F,F.binds (ps:=["kind","thing"]) fun _ _ _ _ _ _ us hl=>J2F (fun _ _=>rfl) us hl,PySem.W.mg_of X G a14⟩)
 ·exact (by have F:=JD (st:=J0f) l15 c15 k15;exact ⟨F,F.binds (ps:=["value"]) fun _ _ _ _ _ _ us hl=>J4m (fun _=>rfl) us hl,PySem.W.mg_of X G a15⟩)
 ·exact (by have F:=JD (st:=J0x) l17 c17 k17;exact ⟨F,F.binds (ps:=["fields","name"]) fun _ _ _ _ _ _ us hl=>J2F (fun _ _=>rfl) us hl,PySem.W.mg_of X G a17⟩)
 ·exact (by have F:=JD (st:=J07) l19 c19 k19;exact ⟨F,F.binds (ps:=["fields","figure","rows"]) fun _ _ _ _ _ _ us hl=>J1R (fun _ _ _=>rfl) us hl,PySem.W.mg_of X G a19⟩)
 ·exact (by have F:=JD (st:=J05) l21 c21 k21;exact ⟨F,F.binds (ps:=["fields","names","path"]) fun _ _ _ _ _ _ us hl=>J1R (fun _ _ _=>rfl) us hl,PySem.W.mg_of X G a21⟩)
 ·exact (by have F:=JD (st:=JV) l22 c22 k22;exact ⟨F,F.binds (ps:=["fields","names","path","row"]) fun _ _ _ _ _ _ us hl=>J9T (fun _ _ _ _=>rfl) us hl,PySem.W.mg_of X G a22⟩)
 ·exact (by have F:=JD (st:=J0m) l23 c23 k23;exact ⟨F,F.binds (ps:=["path"]) fun _ _ _ _ _ _ us hl=>J4m (fun _=>rfl) us hl,PySem.W.mg_of X G a23⟩)
 ·exact (by have F:=JD (st:=J0u) l24 c24 k24;exact ⟨F,F.binds (ps:=["view","side"]) fun _ _ _ _ _ _ us hl=>J2F (fun _ _=>rfl) us hl,PySem.W.mg_of X G a24⟩)
 ·exact (by have F:=JD (st:=JM) l25 c25 k25;exact ⟨F,F.binds (ps:=["fields","names","row"]) fun _ _ _ _ _ _ us hl=>J1R (fun _ _ _=>rfl) us hl,PySem.W.mg_of X G a25⟩)
 ·exact (by have F:=JD (st:=J0w) l26 c26 k26;exact ⟨F,F.binds (ps:=["fields","names","rows"]) fun _ _ _ _ _ _ us hl=>J1R (fun _ _ _=>rfl) us hl,PySem.W.mg_of X G a26⟩)
 ·exact (by have F:=JD (st:=JH) l28 c28 k28;exact ⟨F,F.binds (ps:=["fields","view","pairs"]) fun _ _ _ _ _ _ us hl=>J1R (fun _ _ _=>rfl) us hl,PySem.W.mg_of X G a28⟩)
 ·exact (by have F:=JD (st:=J0i) l31 c31 k31;exact ⟨F,F.binds (ps:=["_law_script","_law_k"]) fun _ _ _ _ _ _ us hl=>J2F (fun _ _=>rfl) us hl,PySem.W.mg_of X G a31⟩)
 ·exact (by have F:=JD (st:=J1e) l32 c32 k32;exact ⟨F,F.binds (ps:=["_law_seed","_law_k"]) fun _ _ _ _ _ _ us hl=>J2F (fun _ _=>rfl) us hl,PySem.W.mg_of X G a32⟩)
 ·exact (by have F:=JD (st:=J0r) l33 c33 k33;exact ⟨F,F.binds (ps:=["_law_seed","_law_signs","_law_many","_law_most"]) fun _ _ _ _ _ _ us hl=>J9T (fun _ _ _ _=>rfl) us hl,PySem.W.mg_of X G a33⟩)
 ·exact (by have F:=JD (st:=J0A) l34 c34 k34;exact ⟨F,F.binds (ps:=["_law_script"]) fun _ _ _ _ _ _ us hl=>J4m (fun _=>rfl) us hl,PySem.W.mg_of X G a34⟩)
 ·exact (by have F:=JD (st:=JN) l35 c35 k35;exact ⟨F,F.binds (ps:=["_law_seed","_law_kind","_law_world_here"]) fun _ _ _ _ _ _ us hl=>J1R (fun _ _ _=>rfl) us hl,PySem.W.mg_of X G a35⟩)
 ·exact (by have F:=JD (st:=J0J) l36 c36 k36;exact ⟨F,F.binds (ps:=["_law_seed","_law_kind","_law_world_here"]) fun _ _ _ _ _ _ us hl=>J1R (fun _ _ _=>rfl) us hl,PySem.W.mg_of X G a36⟩)
 ·exact (by have F:=JD (st:=J18) l37 c37 k37;exact ⟨F,F.binds (ps:=["_law_seed","_law_world_here"]) fun _ _ _ _ _ _ us hl=>J2F (fun _ _=>rfl) us hl,PySem.W.mg_of X G a37⟩)
 ·exact (by have F:=JD (st:=J0O) l38 c38 k38;exact ⟨F,F.binds (ps:=["_law_seed","_law_world_here"]) fun _ _ _ _ _ _ us hl=>J2F (fun _ _=>rfl) us hl,PySem.W.mg_of X G a38⟩)
 ·exact (by have F:=JD (st:=J0P) l39 c39 k39;exact ⟨F,F.binds (ps:=["_law_seed","_law_side","_law_names","_law_rows","_law_fields"]) fun _ _ _ _ _ _ us hl=>J9S (fun _ _ _ _ _=>rfl) us hl,PySem.W.mg_of X G a39⟩)
 ·exact (by have F:=JD (st:=J0h) l40 c40 k40;exact ⟨F,F.binds (ps:=["_law_path_here","_law_side","_law_fields"]) fun _ _ _ _ _ _ us hl=>J1R (fun _ _ _=>rfl) us hl,PySem.W.mg_of X G a40⟩)
 ·exact (by have F:=JD (st:=J0g) l41 c41 k41;exact ⟨F,F.binds (ps:=["_law_way","_law_table","_law_fields","_law_side","_law_path_here"]) fun _ _ _ _ _ _ us hl=>J9S (fun _ _ _ _ _=>rfl) us hl,PySem.W.mg_of X G a41⟩)
 ·exact (by have F:=JD (st:=JA) l42 c42 k42;exact ⟨F,F.binds (ps:=["_law_table","_law_world_here","_law_side","_law_path_here","_law_rows"]) fun _ _ _ _ _ _ us hl=>J9S (fun _ _ _ _ _=>rfl) us hl,PySem.W.mg_of X G a42⟩)
 ·exact (by have F:=JD (st:=s_law) l43 c43 k43;exact ⟨F,F.binds (ps:=["_law_script"]) fun _ _ _ _ _ _ us hl=>J4m (fun _=>rfl) us hl,PySem.W.mg_of X G a43⟩)
 ·exact (by have F:=JD (st:=Jw) l30000 c30000 k30000;exact ⟨F,F.binds (ps:=["self","fields","view","rows"]) fun _ _ _ _ _ _ us hl=>J9T (fun _ _ _ _=>rfl) us hl,b30000⟩)
 ·exact (by have F:=JD (st:=JY) l30004 c30004 k30004;exact ⟨F,F.binds (ps:=["self","side","path"]) fun _ _ _ _ _ _ us hl=>J1R (fun _ _ _=>rfl) us hl,b30004⟩)
 ·exact (by have F:=JD (st:=JX) l30006 c30006 k30006;exact ⟨F,F.binds (ps:=["self","one","other"]) fun _ _ _ _ _ _ us hl=>J1R (fun _ _ _=>rfl) us hl,b30006⟩)
 ·exact (by have F:=JD (st:=JF) l30007 c30007 k30007;exact ⟨F,F.binds (ps:=["self","one","other"]) fun _ _ _ _ _ _ us hl=>J1R (fun _ _ _=>rfl) us hl,b30007⟩)
 ·exact (by have F:=JD (st:=JZ) l30008 c30008 k30008;exact ⟨F,F.binds (ps:=["self","one","other"]) fun _ _ _ _ _ _ us hl=>J1R (fun _ _ _=>rfl) us hl,b30008⟩)
 ·exact ⟨PySem.W.mg_of X G a2⟩
 ·exact ⟨PySem.W.mg_of X G a4⟩
 ·exact ⟨PySem.W.mg_of X G a5⟩
 ·exact (JcG X G a3 x_NoHead_e x_NoHead_kp x_NoHead_ga x_NoHead_gh x_NoHead_ba x_NoHead_ob x_NoHead_hd x_NoHead_cl x_NoHead_cg x_NoHead_ct x_NoHead_sa)
 ·exact (Jch X G a29 o_Table_pg o_Table_hd o_Table_po o_Table_sa o_Table_ma a30000 b30000 o_Table_kp)
 ·exact ⟨a30004,b30004,k30004⟩
 ·exact ⟨a30006,b30006,k30006⟩
 ·exact ⟨a30007,b30007,k30007⟩
 ·exact ⟨a30008,b30008,k30008⟩
 ·exact v_na_Table_boxes
 ·exact v_na_Table_kept_fields
 ·exact v_na_Table_kept_heads
 ·exact v_na_Table_kept_view
 ·exact v_ki_NoHead_CrossError
 ·exact v_su_NoHead_NoHead
 ·exact v_ki_NoHead_NoHead
 ·exact v_ki_NoHead_NoField
 ·exact v_ki_NoHead_NoKind
 ·exact v_kv_NoHead
 ·exact (PySem.W.mg_none_of X G z_abs)
 ·exact (PySem.W.mg_none_of X G z_all)
 ·exact (PySem.W.mg_none_of X G z_bool)
 ·exact (PySem.W.mg_none_of X G z_dict)
 ·exact (PySem.W.mg_none_of X G z_enumerate)
 ·exact (PySem.W.mg_none_of X G z_int)
 ·exact (PySem.W.mg_none_of X G z_isinstance)
 ·exact (PySem.W.mg_none_of X G z_len)
 ·exact (PySem.W.mg_none_of X G z_list)
 ·exact (PySem.W.mg_none_of X G z_max)
 ·exact (PySem.W.mg_none_of X G z_min)
 ·exact (PySem.W.mg_none_of X G z_range)
 ·exact (PySem.W.mg_none_of X G z_set)
 ·exact (PySem.W.mg_none_of X G z_sorted)
 ·exact (PySem.W.mg_none_of X G z_str)
 ·exact (PySem.W.mg_none_of X G z_sum)
 ·exact (PySem.W.mg_none_of X G z_tuple)
 ·exact (PySem.W.mg_none_of X G z_zip)
 ·exact ⟨_,PySem.W.mg_of X G y_LETTERS⟩
 ·exact ⟨_,PySem.W.mg_of X G y_FIGURES⟩
 ·exact ⟨_,PySem.W.mg_of X G y_MOST_SIGNS⟩
open Lean in
local macro_rules | `(tactic|walk_at $s:str)=>do
 let g:=fun (t:String)=>(t.splitOn ",").toArray.mapM fun x=>`(Parser.Tactic.simpLemma|$(mkIdent x.toName):ident)
 let b:="J4I,J4C,JaE,J5x,Jc5,J7P,Jc6,J4F,J4G,J2s,J4K,L2.start,J3Z,J5v,J6z,J82,J8R,J3a,J7s,J0s,J4B,tC,tOp,tUn,J5w,tCB,J3u,J8U,J7q,tB,J8T,JaG,tOr,J7v,JaF,J8S,tIf,J4L,J8X,JaD,tBM,JbY,rI,rI0,rU,rEq,rNe,J95,J4g,Jbp,J6d,Ja2,J6c,Ja3,JaB,J9k,J9o,J7C,J9h,J3m,J7t,J2g,tSl,J7r,J3k,JaT,J9e,J9m,J50,J9l,J9c,J7B,J4M,J4E,J4D,J8P,tAs,Jbc,tXF,J96,J4H,J6y,J9j,J8Y,JaP,J8V,J6K,J9n,J6A,JbX,J4J,J7u,J7y,J2x,J8Q,Jbs,List.map_cons,List.map_nil,List.cons_append,List.nil_append,List.length_cons,List.length_nil,List.getElem?_cons_zero,List.getElem?_cons_succ,Option.some.injEq,exists_eq_left',exists_eq_left,List.set_cons_zero,List.set_cons_succ,List.cons.injEq,and_true,true_and,V.int.injEq,V.str.injEq,V.bl.injEq,V.ref.injEq,V.ty.injEq,exists_and_left,exists_and_right,List.append_nil,reduceCtorEq,false_and,and_false,exists_false,or_false,false_or,decide_true,decide_false,Bool.not_true,Bool.not_false,if_true,if_false,Bool.false_eq_true,ite_true,ite_false,and_assoc,Nat.reduceAdd,Nat.reduceSub,List.replicate_succ,List.replicate_zero,Nat.zero_add,Nat.add_zero,Nat.sub_self"
 match s.getString.splitOn " " with
 | x=>do
  let d←g "J30,L2.Cx.inTry,L2.Cx.inHand"
  let m:=match x with
   | ["dl"]=>some ",J1A,Int.reduceEq,Int.reduceLT,Int.reduceLE,decide_eq_true_eq"
   | ["dt"]=>some ""
   | ["dc"]=>some ",J1A"
   | _=>none
  let some m:=m | Macro.throwUnsupported
  let e←g (b++m)
  let q←`(Parser.Tactic.simpLemma|↓reduceIte)
  let e:=if x==["dl"] then e.push q else e
  `(tactic|((try dsimp only [$d,*]);simp only [$e,*]))
section
variable {P:Program}{w:World}{K:PySem.W.Frag}{mg:Str→Option Value}{base:Heap}{f:Nat→Addr}{fd:Nat→FuncData}
noncomputable def J1N (z g:Str):Bool:=z.cps.toList.all fun c=>decide (c∈g.cps.toList)
def J44 (_:PySem.W.Frag):Sp:=fun vs H Q _=>∃ z g,vs=[.str z,.str g]∧z.length≤sizeLine∧∀ H',Same H H'→Q (.bl (J1N z g)) H'
theorem J4a (T:Txt K mg f fd):FnOk P w K mg base CX0 1 (f 10) (fd 10) ["text","signs"] (J44 K):=by
 refine T.d_is_made_of.F.ok J49 (fun vs H Q E h=>?_) (fun cdv A outer s H vs Q E hr h=>?_)
 ·obtain ⟨z,g,rfl,_⟩:=h
  rfl
 ·obtain ⟨z,g,rfl,hz,k⟩:=h
  refine ⟨_,(Jf (Jn (JJ (JbK rfl rfl) T.n_all Jas rfl (by decide) (by decide) rfl (pal rfl (J0y ["sign"] ["text","signs"] rfl (show CompSc _ (J9 JW) ["text","signs"] ["text","signs"] from Jx (by decide +kernel)) (Jcb (pvl 0)) (fun _ _ _ _ _=>(pgl 0 (show (["sign","text","signs"]:List Str).Nodup by decide +kernel))) (fun _ _ _ _ _=>J06) (fun _ _ _ _ _=>(J1a J8e (pvl 0) (pvc 2) rfl))) Ja)))),?_⟩
  walk_at "dc"
  refine comp_of (as:=z.cps.toList) (g:=sgn) J8M (by rw [Array.length_toList];exact hz) (fun _ _=>trivial) (fun _=>true) (fun c=>.bl (decide (c∈g.cps.toList))) (fun c H1 Q _ _ q=>q H1 (Same.refl _)) (fun c H1 Q _ _ _ q=>?_) (fun H' s1 D hD=>?_)
  ·walk_at "dc"
   unfold sgn
   walk_at "dc"
   rw [JcD]
   exact q H1 (Same.refl _)
  ·refine ⟨z.cps.toList.map fun c=>decide (c∈g.cps.toList),.of (by rw [Jb,J2k,List.map_map];rfl),?_⟩
   have e:(z.cps.toList.map fun c=>decide (c∈g.cps.toList)).all id=J1N z g:=by unfold J1N;rw [List.all_map];rfl
   rw [e]
   exact k _ (s1.new hD _)
noncomputable def J1V (x:V)(g:Str):Bool:=match x with
 | .str z=>decide (1≤z.length)&&(decide (z.length≤12)&&J1N z g)
 | _=>false
def J2R (K:PySem.W.Frag):Sp:=fun vs H Q _=>∃ x g T,vs=[x,.str g]∧Pl K H x T∧∀ H',Same H H'→Q (.bl (J1V x g)) H'
theorem ok_is_short_text (T:Txt K mg f fd):FnOk P w K mg base CX0 2 (f 11) (fd 11) ["thing","signs"] (J2R K):=by
 refine T.d_is_short_text.F.ok J2S (fun vs H Q E h=>?_) (fun cdv A outer s H vs Q E hr h=>?_)
 ·obtain ⟨x,g,T,rfl,_⟩:=h
  rfl
 ·obtain ⟨x,g,t,rfl,p,k⟩:=h
  refine ⟨_,(Jd (J00 (J1X (J1j (JJ (J66 rfl) T.n_isinstance J08 rfl (by decide) (by decide) rfl (pal rfl (pvl 0) (pal rfl (pty T.n_str Jar) Ja)))))
   (Jf (Jn J1b))
   Jt)
   (Jf (Jn (Jcg (J9C J9F J9F Je (JJ J1h T.n_len JL rfl (by decide) (by decide) rfl (pal rfl (pvl 0) Ja)) (pgi T.g_MOST_SIGNS)) (J9y (Jm T.d_is_made_of (J4a T) (hr.mono (by decide)) rfl (by decide) rfl (pal rfl (pvl 0) (pal rfl (pvl 1) Ja)))))))),?_⟩
  walk_at "dc"
  refine ⟨t,p,by decide,?_⟩
  rcases p.name with ⟨rfl,rfl⟩ | ⟨b,rfl,rfl⟩ | ⟨i,rfl,rfl⟩ | ⟨z,rfl,rfl,hz⟩ | ⟨a,rfl | rfl | rfl,rfl⟩
  case inr.inr.inr.inl =>
   rw [show J69 "str" "str"=true from rfl]
   walk_at "dc"
   refine ⟨hz,?_⟩
   by_cases h1:(1:Int)≤(z.length:Int)
   ·by_cases h2:(z.length:Int)≤12
    ·rw [if_pos (decide_eq_true h1),if_pos (decide_eq_true h2)]
     refine ⟨z,g,rfl,hz,fun H' s1=>?_⟩
     have e:J1V (.str z) g=J1N z g:=by
      show (decide (1≤z.length)&&(decide (z.length≤12)&&J1N z g))=_
      rw [decide_eq_true (by omega),decide_eq_true (by omega)];rfl
     rw [← e];exact k H' s1
    ·rw [if_pos (decide_eq_true h1),if_neg (by simpa using h2)]
     have e:J1V (.str z) g=false:=by
      show (decide (1≤z.length)&&(decide (z.length≤12)&&J1N z g))=_
      rw [decide_eq_false (show ¬ z.length≤12 by omega),Bool.false_and,Bool.and_false]
     rw [← e];exact k H (Same.refl H)
   ·rw [if_neg (by simpa using h1)]
    have e:J1V (.str z) g=false:=by
     show (decide (1≤z.length)&&(decide (z.length≤12)&&J1N z g))=_
     rw [decide_eq_false (show ¬ 1≤z.length by omega),Bool.false_and]
    rw [← e];exact k H (Same.refl H)
  all_goals
   rw [if_pos (by decide)]
   exact k H (Same.refl H)
noncomputable abbrev J0D:Str:="abcdefghijklmnopqrstuvwxyz"
noncomputable abbrev J29:Str:="0123456789"
def J6E (K:PySem.W.Frag):Sp:=fun vs H Q _=>∃ x T,vs=[x]∧Pl K H x T∧∀ H',Same H H'→Q (.bl (J1V x (J0D++J29))) H'
theorem J6V (T:Txt K mg f fd):FnOk P w K mg base CX0 3 (f 12) (fd 12) ["thing"] (J6E K):=by
 refine T.d_is_word.F.ok J6I (fun vs H Q E h=>?_) (fun cdv A outer s H vs Q E hr h=>?_)
 ·obtain ⟨x,T,rfl,_⟩:=h
  rfl
 ·obtain ⟨x,t,rfl,p,k⟩:=h
  refine ⟨_,(Jf (Jn (Jm T.d_is_short_text (ok_is_short_text T) (hr.mono (by decide)) rfl (by decide) rfl (pal rfl (pvl 0) (pal rfl (Jj J2h (pgs T.g_LETTERS) (pgs T.g_FIGURES)) Ja))))),?_⟩
  walk_at "dc"
  exact ⟨Jc (by decide),x,_,t,rfl,p,k⟩
noncomputable def J8i (a b:Int):Int:=((a % 2147483647 * 48271+b * 7919+11) % 2147483647 * ((a % 2147483647 * 48271+b * 7919+11) % 2147483647) % 2147483629 * 69621) % 2147483647
def J93 (K:PySem.W.Frag):Sp:=fun vs H Q _=>∃ a b,vs=[.int a,.int b]∧Q (.int (J8i a b)) H
theorem J0R (T:Txt K mg f fd):FnOk P w K mg base CX0 1 (f 32) (fd 32) ["_law_seed","_law_k"] (J93 K):=by
 refine T.d_l_mix.F.ok J5H (fun vs H Q E h=>?_) (fun cdv A outer s H vs Q E hr h=>?_)
 ·obtain ⟨x,T,rfl,_⟩:=h
  rfl
 ·obtain ⟨a,b,rfl,k⟩:=h
  refine ⟨_,(Jd (psl 2 J5H.nd (Jj JK (Jj J0o (Jj J0o (Jj J1L (Jj JK (pvl 0) Je) Je) (Jj J1L (pvl 1) Je)) Je) Je))
   (Jf (Jn (Jj JK (Jj J1L (Jj JK (Jj J1L (pvl 2) (pvl 2)) Je) Je) Je)))),?_⟩
  walk_at "dc"
  repeat (refine And.intro (by first | decide | omega | exact Or.inl ⟨by omega,by omega⟩ | exact Or.inr ⟨by omega,by omega⟩ | exact ⟨by omega,by omega⟩ | exact ⟨by decide,by decide,by decide⟩) ?_)
  exact k
def J4R (K:PySem.W.Frag):Sp:=fun vs H Q _=>∃ (a:Addr) (ns:List Int) (i:Int),vs=[.ref a,.int i]∧SqL K H a (ns.map V.int)∧0≤i∧∀ v,Q (.int v) H
theorem J14 (T:Txt K mg f fd):FnOk P w K mg base CX0 1 (f 31) (fd 31) ["_law_script","_law_k"] (J4R K):=by
 refine T.d_l_cell_at.F.ok J4Y (fun vs H Q E h=>?_) (fun cdv A outer s H vs Q E hr h=>?_)
 ·obtain ⟨x,T,_,rfl,_⟩:=h
  rfl
 ·obtain ⟨a,ns,i,rfl,hs,h0,k⟩:=h
  refine ⟨_,(Jd (J00 (Jq JbI (pvl 1) (JJ (J0z rfl) T.n_len JL rfl (by decide) (by decide) rfl (pal rfl (pvl 0) Ja)) (Jr _))
   (Jf (Jn (Jo (J0S rfl) (pvl 0) (pvl 1) (fun _ _=>rfl))))
   Jt)
   (Jf (Jn Je))),?_⟩
  walk_at "dc"
  refine ⟨_,.inl hs,?_⟩
  rw [List.length_map]
  by_cases h:i<(ns.length:Int)
  ·rw [if_pos (decide_eq_true h)]
   obtain ⟨j,rfl⟩:∃ j:Nat,i=(j:Int):=⟨i.toNat,by omega⟩
   have hj:j<ns.length:=by omega
   refine ⟨a,_,_,.int ns[j],rfl,rfl,hs,Jl (by rw [List.getElem?_map,List.getElem?_eq_getElem hj];rfl),k _⟩
  ·rw [if_neg (by simpa using h)]
   exact k _
noncomputable def Jbe (x:V):Bool:=match x with
 | .int i=>decide ((if i<0 then -i else i)<10 ^ 60)
 | _=>false
def J4S (K:PySem.W.Frag):Sp:=fun vs H Q _=>∃ x T,vs=[x]∧Pl K H x T∧Q (.bl (Jbe x)) H
theorem J57 (T:Txt K mg f fd):FnOk P w K mg base CX0 1 (f 13) (fd 13) ["thing"] (J4S K):=by
 refine T.d_is_number.F.ok J4Z (fun vs H Q E h=>?_) (fun cdv A outer s H vs Q E hr h=>?_)
 ·obtain ⟨x,T,rfl,_⟩:=h
  rfl
 ·obtain ⟨x,t,rfl,p,k⟩:=h
  refine ⟨_,(Jd (J00 (PW.pt (J9p (J1X (J1j (JJ (J66 rfl) T.n_isinstance J08 rfl (by decide) (by decide) rfl (pal rfl (pvl 0) (pal rfl (pty T.n_int J5o) Ja))))) (J6O (J1j (JJ (J66 rfl) T.n_isinstance J08 rfl (by decide) (by decide) rfl (pal rfl (pvl 0) (pal rfl (pty T.n_bool J7W) Ja)))))))
   (Jf (Jn J1b))
   Jt)
   (Jf (Jn (J1a JbI (JJ Jaq T.n_abs JcL rfl (by decide) (by decide) rfl (pal rfl (pvl 0) Ja)) (Jj J3I Je Je) (Jr _))))),?_⟩
  walk_at "dc"
  refine ⟨t,p,by decide,?_⟩
  rcases p.name with ⟨rfl,rfl⟩ | ⟨b,rfl,rfl⟩ | ⟨i,rfl,rfl⟩ | ⟨z,rfl,rfl,hz⟩ | ⟨a,rfl | rfl | rfl,rfl⟩
  case inr.inr.inl =>
   rw [show J69 "int" "int"=true from rfl]
   walk_at "dc"
   refine ⟨"int",p,by decide,?_⟩
   rw [show J69 "int" "bool"=false from rfl]
   walk_at "dc"
   exact ⟨⟨by decide,by decide,by decide⟩,k⟩
  case inr.inl =>
   rw [show J69 "bool" "int"=true from rfl]
   walk_at "dc"
   refine ⟨"bool",p,by decide,?_⟩
   rw [show J69 "bool" "bool"=true from rfl]
   walk_at "dc"
   exact k
  all_goals
   rw [if_pos (by decide)]
   exact k
noncomputable def J2p (kd:Str)(x:V):Bool:=if x=.non then true else if kd="number" then Jbe x else J1V x (J0D++J29)
def J5A (K:PySem.W.Frag):Sp:=fun vs H Q _=>∃ kd x T,vs=[.str kd,x]∧Pl K H x T∧∀ H',Same H H'→Q (.bl (J2p kd x)) H'
theorem ok_is_value (T:Txt K mg f fd):FnOk P w K mg base CX0 4 (f 14) (fd 14) ["kind","thing"] (J5A K):=by
 refine T.d_is_value.F.ok J5I (fun vs H Q E h=>?_) (fun cdv A outer s H vs Q E hr h=>?_)
 ·obtain ⟨kd,x,T,rfl,_⟩:=h
  rfl
 ·obtain ⟨kd,x,t,rfl,p,k⟩:=h
  refine ⟨_,(Jd (J00 (Jq J9G (pvl 1) J1t (Jr _))
   (Jf (Jn J1b))
   Jt)
   (Jd (J00 (Jq J0N (pvl 0) Jp (Jr _))
   (Jf (Jn (Jm T.d_is_number (J57 T) (hr.mono (by decide)) rfl (by decide) rfl (pal rfl (pvl 1) Ja))))
   Jt)
   (Jf (Jn (Jm T.d_is_word (J6V T) (hr.mono (by decide)) rfl (by decide) rfl (pal rfl (pvl 1) Ja)))))),?_⟩
  walk_at "dc"
  by_cases c:x=.non
  ·rw [if_pos (decide_eq_true c)]
   unfold J2p at k
   rw [if_pos c] at k
   exact k H (Same.refl H)
  ·rw [if_neg (by simpa using c)]
   unfold J2p at k
   rw [if_neg c] at k
   by_cases hk:kd=Str.ofString "number"
   ·rw [if_pos (decide_eq_true hk)]
    rw [if_pos hk] at k
    exact ⟨x,t,rfl,p,k H (Same.refl H)⟩
   ·rw [if_neg (by simpa using hk)]
    rw [if_neg hk] at k
    exact ⟨x,t,rfl,p,k⟩
def Wrd (z:Str):Prop:=1≤z.length∧z.length≤12∧∀ c∈z.cps.toList,c∈(J0D++J29).cps.toList
theorem J8L:∀ c∈(J0D++J29).cps.toList,c<1114112:=by decide +kernel
noncomputable abbrev JaM:Str:="abcdefghijklmnopqrstuvwxyz0123456789"
theorem J6F:JaM=J0D++J29:=by decide +kernel
def FldsK (H:Hp)(xs:List V)(ns kds:List Str):Prop:=ns.length=xs.length∧kds.length=xs.length∧ns.Nodup∧∀ (i:Nat) x n kd,xs[i]?=some x→ns[i]?=some n→kds[i]?=some kd→∃ p,x=.ref p∧H p=some (.tup [.str n,.str kd])
theorem FldsK.mono {H H':Hp}{xs:List V}{ns kds:List Str}(s:Same H H')(h:FldsK H xs ns kds):FldsK H' xs ns kds:=⟨h.1,h.2.1,h.2.2.1,fun i x n kd a b c=>by
 obtain ⟨p,e,g⟩:=h.2.2.2 i x n kd a b c
 exact ⟨p,e,s _ _ g⟩⟩
theorem FldsK.at {H:Hp}{xs:List V}{ns kds:List Str}(h:FldsK H xs ns kds){i:Nat}(hi:i<xs.length):∃ p n kd,xs[i]?=some (.ref p)∧ns[i]?=some n∧kds[i]?=some kd∧H p=some (.tup [.str n,.str kd]):=by
 have h1:i<ns.length:=by rw [h.1];exact hi
 have h2:i<kds.length:=by rw [h.2.1];exact hi
 obtain ⟨p,e,g⟩:=h.2.2.2 i _ _ _ (List.getElem?_eq_getElem hi) (List.getElem?_eq_getElem h1) (List.getElem?_eq_getElem h2)
 exact ⟨p,_,_,by rw [List.getElem?_eq_getElem hi,e],List.getElem?_eq_getElem h1,List.getElem?_eq_getElem h2,g⟩
def J5C (K:PySem.W.Frag):Sp:=fun vs H Q _=>∃ l xs ns kds n,∃ i:Nat,vs=[.ref l,.str n]∧H l=some (.lst xs)∧FldsK H xs ns kds∧ns[i]?=some n∧∀ H',Same H H'→Q (.int i) H'
theorem ok_field_at (T:Txt K mg f fd):FnOk P w K mg base CX0 1 (f 17) (fd 17) ["fields","name"] (J5C K):=by
 refine T.d_field_at.F.ok J1W (fun vs H Q E h=>?_) (fun cdv A outer s H vs Q E hr h=>?_)
 ·obtain ⟨l,xs,ns,kds,n,i,rfl,_⟩:=h
  rfl
 ·obtain ⟨l,xs,ns,kds,n,i,rfl,hl,hF,hi,k⟩:=h
  refine ⟨_,(Jd (J0X PassesOwn.never rfl (Jb3 rfl T.n_enumerate (pal rfl (pvl 0) Ja) rfl) (J65 rfl rfl (J0Q (pgl 2 J1W.nd) (J0Q (pgl 3 J1W.nd) J2z)))
   (Jf (J00 (Jq J0N (Jo (JB rfl) (pvl 3) Je (fun _ _=>rfl)) (pvl 1) (Jr _))
   (Jf (Jn (pvl 2)))
   Jt)))
   (Jf J9r)),?_⟩
  walk_at "dc"
  refine J0Y ?_
  unfold JbL
  walk_at "dc"
  refine ⟨⟨xs,.of hl⟩,ForW.enum (xs:=xs) (fun j σ H'=>(∃ v2 v3,σ=[some (V.ref l),some (V.str n),v2,v3])∧n∉ns.take j∧Same H H') ⟨⟨none,none,rfl⟩,by simp,Same.refl _⟩ (fun _ _ _ q=>q.2.2.seq (.of hl)) ?_ ?_⟩
  ·rintro j x σ H1 p hx ⟨⟨v2,v3,rfl⟩,hnot,s1⟩ hp
   have s2:=s1.new hp (HO.tup [V.int (j:Int),x])
   refine ⟨p,_,rfl,.of Jb,rfl,?_⟩
   generalize upd H1 p (HO.tup [V.int (j:Int),x])=H2 at *
   obtain ⟨q,nj,kd,hxq,hj,_,hq⟩:=hF.at (List.getElem?_eq_some_iff.mp hx).1
   obtain rfl:x=.ref q:=Option.some.inj (hx.symm.trans hxq)
   simp only [J22,J4b,J0s]
   walk_at "dc"
   refine JcC (.of (s2 _ _ hq)) (by decide) (by simp) fun v hv=>?_
   obtain rfl:V.str nj=v:=by simpa using hv
   refine ⟨rfl,?_⟩
   by_cases e:nj=n
   ·subst e
    rw [if_pos (by simp)]
    obtain rfl:=J1k hF.2.2.1 hi hj
    exact k _ s2
   ·rw [if_neg (by simpa using e)]
    refine ⟨⟨_,rfl⟩,?_,s2⟩
    rw [J17 hj]
    intro z
    rcases List.mem_append.mp z with z | z
    ·exact hnot z
    ·exact e (List.mem_singleton.mp z).symm
  ·rintro σ H1 ⟨⟨v2,v3,rfl⟩,hnot,s1⟩
   rw [← hF.1,List.take_length] at hnot
   exact absurd (List.mem_of_getElem? hi) hnot
noncomputable abbrev Jv:Str:="word"
noncomputable abbrev numS:Str:="number"
def JcR (b:Nat)(n:Str):Prop:=n.length≤b∧∀ c∈n.cps.toList,c<1114112
abbrev JbR (z:Str):Prop:=∀ c∈z.cps.toList,c<1114112
theorem J3x {z:Str}(h:JbR z):PyData.strOk z=true:=by
 simp only [PyData.strOk]
 rw [Array.all_eq_true_iff_forall_mem]
 intro c hc'
 exact decide_eq_true (h c (by simpa using hc'))
def J7m (kd:Str)(x:V):Prop:=(kd=Jv∧∃ z,x=.str z∧JcR 12 z)∨(kd=numS∧∃ i,x=.int i)
def RowOk (kds:List Str)(rs:List V):Prop:=rs.length=kds.length∧∀ (i:Nat) x kd,rs[i]?=some x→kds[i]?=some kd→x=.non∨J7m kd x
noncomputable abbrev JcN:Str:="abcdefghijklmnopqrstuvwxyz0123456789"
theorem Jcq:∀ d:Nat,d<26→J0D.cps.toList[d]?=some (97+d):=by decide +kernel
theorem Jbm:J0D.length=26:=by decide
noncomputable def ch (sg:Str)(i:Int):Nat:=sg.cps.toList.getD (i % (sg.length:Int)).toNat 0
theorem J5l {sg:Str}(h:1≤sg.length)(i:Int):sg.cps.toList[(i % (sg.length:Int)).toNat]?=some (ch sg i):=by
 have h1:=Int.emod_lt_of_pos i (show (0:Int)<sg.length by omega)
 have h0:=Int.emod_nonneg i (show (sg.length:Int)≠0 by omega)
 have hl:(i % (sg.length:Int)).toNat<sg.cps.toList.length:=by rw [show sg.cps.toList.length=sg.length by simp [Str.length]];omega
 unfold ch
 rw [List.getD_eq_getElem?_getD,List.getElem?_eq_getElem hl]
 rfl
theorem Jaj {sg:Str}(h:1≤sg.length)(i:Int):ch sg i∈sg.cps.toList:=List.mem_of_getElem? (J5l h i)
theorem Jak (i:Int):ch J0D i=97+(i % 26).toNat:=by
 have e:=J5l (sg:=J0D) (by decide) i
 rw [Jbm] at e
 have e2:=Jcq (i % 26).toNat (by have:=Int.emod_lt_of_pos i (show (0:Int)<26 by decide);have:=Int.emod_nonneg i (show (26:Int)≠0 by decide);omega)
 exact Option.some.inj (e.symm.trans e2)
theorem J1d {α:Type}{f:Nat→α}{m:Nat}(h:∀ i j,i<m→j<m→f i=f j→i=j):((List.range m).map f).Nodup:=by
 unfold List.Nodup
 rw [List.pairwise_map]
 refine List.Pairwise.imp_of_mem (fun {a b} ha hb hn e=>hn (h a b (List.mem_range.mp ha) (List.mem_range.mp hb) e)) List.nodup_range
theorem J4j (c:Nat){n:Int}(h0:0≤n)(h:n≤12):MulOk ⟨#[c]⟩ n:=by
 refine ⟨by rw [decide_eq_false (by omega),decide_eq_false (by omega)];rfl,fun h1 _=>?_,fun h1 _=>?_⟩
 ·show ¬ (1:Int) > (2 ^ 63 - 1) / n
  rcases (by omega:n=1∨n=2∨n=3∨n=4∨n=5∨n=6∨n=7∨n=8∨n=9∨n=10∨n=11∨n=12) with rfl | rfl | rfl | rfl | rfl | rfl | rfl | rfl | rfl | rfl | rfl | rfl<;>decide
 ·show Builtin.Str.tooLong (1 * n.toNat)=false
  rcases (by omega:n=1∨n=2∨n=3∨n=4∨n=5∨n=6∨n=7∨n=8∨n=9∨n=10∨n=11∨n=12) with rfl | rfl | rfl | rfl | rfl | rfl | rfl | rfl | rfl | rfl | rfl | rfl<;>decide +kernel
theorem J2E (z:Str):z.cps.toList.length=z.length:=by simp [Str.length]
theorem JbA (x y:Str):(x++y).length=x.length+y.length:=by
 rw [← J2E,← J2E,← J2E,PySem.W.KT.app_list,List.length_append]
theorem J5c (c:Nat)(n:Int):(Txt.mul ⟨#[c]⟩ n).length=n.toNat:=by rw [← J2E,PyProof.Rows.mul_one_list,List.length_replicate]
def JbS (sg:Str)(zs:List Str)(m:Nat):Prop:=zs.length=m∧(sg=J0D→zs.Nodup)∧∀ z∈zs,1≤z.length∧z.length≤12∧∀ c∈z.cps.toList,c∈sg.cps.toList
noncomputable def hdS (sg:Str)(sd:Int)(c:Nat)(at0 few:Int)(i:Nat):Str:=Txt.mul ⟨#[c]⟩ at0++⟨#[ch sg (sd / 1664+5 * (0+(i:Int)))]⟩++Txt.mul ⟨#[c]⟩ (1+few - at0 - 1)
theorem J3o (sg:Str)(sd:Int)(c:Nat)(at0 few:Int)(i:Nat):(hdS sg sd c at0 few i).cps.toList=List.replicate at0.toNat c++[ch sg (sd / 1664+5 * (0+(i:Int)))]++List.replicate (1+few - at0 - 1).toNat c:=by
 unfold hdS
 rw [PySem.W.KT.app_list,PySem.W.KT.app_list,PyProof.Rows.mul_one_list,PyProof.Rows.mul_one_list]
theorem J8u {sg:Str}{sd:Int}{c:Nat}{at0 few:Int}{m:Nat}(hsg:1≤sg.length)(hc:c∈sg.cps.toList)(h0:0≤at0)(h1:at0<1+few)(h2:few<12)(hm:m≤9):JbS sg ((List.range m).map (hdS sg sd c at0 few)) m:=by
 refine ⟨by rw [List.length_map,List.length_range],fun hlt=>J1d fun i j hi hj e=>?_,fun z hz=>?_⟩
 ·have e1:=J3w.mp e
  rw [J3o,J3o,List.append_assoc,List.append_assoc] at e1
  have e2:=List.append_cancel_left e1
  have e3:ch sg (sd / 1664+5 * (0+(i:Int)))=ch sg (sd / 1664+5 * (0+(j:Int))):=by
   injection e2
  subst hlt
  rw [Jak,Jak] at e3
  omega
 ·obtain ⟨i,_,rfl⟩:=List.mem_map.mp hz
  have hl:(hdS sg sd c at0 few i).length=(1+few).toNat:=by
   rw [← J2E,J3o,List.length_append,List.length_append,List.length_replicate,List.length_replicate,List.length_singleton]
   omega
  refine ⟨by omega,by omega,fun d hd=>?_⟩
  rw [J3o] at hd
  rcases List.mem_append.mp hd with hd | hd
  ·rcases List.mem_append.mp hd with hd | hd
   ·rw [List.eq_of_mem_replicate hd];exact hc
   ·rw [List.mem_singleton.mp hd];exact Jaj hsg _
  ·rw [List.eq_of_mem_replicate hd];exact hc
def J6D (K:PySem.W.Frag):Sp:=fun vs H Q _=>∃ sd:Int,∃ m:Nat,∃ sg:Str,vs=[.int sd,.str sg,.int m,.int 12]∧m≤9∧1≤sg.length∧sg.length≤1000∧∀ H' p zs,Same H H'→H' p=some (.lst (zs.map V.str))→JbS sg zs m→Q (.ref p) H'
theorem ok_l_heads (T:Txt K mg f fd):FnOk P w K mg base CX0 1 (f 33) (fd 33) ["_law_seed","_law_signs","_law_many","_law_most"] (J6D K):=by
 refine T.d_l_heads.F.ok J0F (fun vs H Q E h=>?_) (fun cdv A outer s H vs Q E hr h=>?_)
 ·obtain ⟨sd,m,sg,rfl,_⟩:=h
  rfl
 ·obtain ⟨sd,m,sg,rfl,h9,hg1,hg2,k⟩:=h
  have hgl:sg.length≤sizeLine:=Jc (by omega)
  have hg0:(0:Int)<sg.length:=by omega
  refine ⟨_,(Jd (J00 (PW.pt (J2V (Jq J0N (Jj JK (Jj J0k (pvc 0) Je) Je) Je (Jr _)) (J2y (Jq J9F (pvl 2) (pvl 3) (Jr _)))))
   (Jd (psc 4 J0F.nd (J37 rfl PySem.F.plainAttrs_str PySem.F.slot_str_join PySem.F.type_str_join (JcA rfl) rfl rfl rfl rfl Jp (pal rfl (J0y ["_law_k"] ["_law_seed","_law_signs","_law_many","_law_most","_law_word","_law_few","_law_at","_law_rest","_law_heads_here","#9","_law_sign"] rfl (show CompSc _ (J9 J0r) ["_law_seed","_law_signs","_law_many","_law_most","_law_word","_law_few","_law_at","_law_rest","_law_heads_here","_law_k","_law_sign"] ["_law_seed","_law_signs","_law_many","_law_most","_law_word","_law_few","_law_at","_law_rest","_law_heads_here","#9","_law_sign"] from Jx (by decide +kernel)) (J0a rfl T.n_range (pal rfl (pvl 3) Ja)) (fun _ _ _ _ _=>(pgl 0 (show (["_law_k","_law_seed","_law_signs","_law_many","_law_most","_law_word","_law_few","_law_at","_law_rest","_law_heads_here","#9","_law_sign"]:List Str).Nodup by decide +kernel))) (fun _ _ _ _ _=>J06) (fun _ _ _ _ _=>(Jo J78 (pvc 2) (Jj JK (Jj J0o (Jj J0k (pvc 1) Je) (Jj J1L (Jj J1L Je (pvl 0)) (pvl 0))) (JJ J1h T.n_len JL rfl (by decide) (by decide) rfl (pal rfl (pvc 2) Ja))) (fun _ _=>rfl)))) Ja)))
   (Jf (Jn (J0y ["_law_k"] ["_law_seed","_law_signs","_law_many","_law_most","_law_word","_law_few","_law_at","_law_rest","_law_heads_here","#9","_law_sign"] rfl (show CompSc _ (J9 J0r) ["_law_seed","_law_signs","_law_many","_law_most","_law_word","_law_few","_law_at","_law_rest","_law_heads_here","_law_k","_law_sign"] ["_law_seed","_law_signs","_law_many","_law_most","_law_word","_law_few","_law_at","_law_rest","_law_heads_here","#9","_law_sign"] from Jx (by decide +kernel)) (J0a rfl T.n_range (pal rfl (pvl 2) Ja)) (fun _ _ _ _ _=>(pgl 0 (show (["_law_k","_law_seed","_law_signs","_law_many","_law_most","_law_word","_law_few","_law_at","_law_rest","_law_heads_here","#9","_law_sign"]:List Str).Nodup by decide +kernel))) (fun _ _ _ _ _=>J06) (fun _ _ _ _ _=>(J0G Jc2 (pvc 5) J19 (J0U (Jj J0o (pvl 0) Je))))))))
   Jt)
   (Jd (psl 5 J0F.nd (Jj J0o Je (Jj JK (pvc 0) (pvl 3))))
   (Jd (psl 6 J0F.nd (Jj JK (Jj J0k (pvc 0) Je) (pvl 5)))
   (Jd (psl 7 J0F.nd (Jo J78 (pvc 1) (Jj JK (Jj J0k (pvc 0) Je) (JJ J1h T.n_len JL rfl (by decide) (by decide) rfl (pal rfl (pvc 1) Ja))) (fun _ _=>rfl)))
   (Jd (psl 8 J0F.nd (J0c Ja))
   (Jd (J0X PassesOwn.never rfl (J0a rfl T.n_range (pal rfl (pvl 2) Ja)) (pgl 9 J0F.nd)
   (Jd (psl 10 J0F.nd (Jo J78 (pvc 1) (Jj JK (Jj J0o (Jj J0k (pvc 0) Je) (Jj J1L Je (pvl 9))) (JJ J1h T.n_len JL rfl (by decide) (by decide) rfl (pal rfl (pvc 1) Ja))) (fun _ _=>rfl)))
   (Jf (J0T (J37 rfl PySem.F.plainAttrs_list PySem.F.slot_list_append PySem.F.type_list_append J1E rfl rfl rfl rfl (pvl 8) (pal rfl (Jj J2h (Jj J2h (Jj J3H (pvl 7) (pvl 6)) (pvl 10)) (Jj J3H (pvl 7) (Jj J3G (Jj J3G (pvl 5) (pvl 6)) Je))) Ja))))))
   (Jf (Jn (pvl 8))))))))),?_⟩
  walk_at "dc"
  refine ⟨⟨by decide,by decide⟩,by decide,?_⟩
  by_cases h4:sd / 43264 % 4=3
  ·rw [if_pos (decide_eq_true h4),if_pos (decide_eq_true (by omega))]
   refine ⟨rfl,by decide,by decide,comp_of (as:=List.range 12) (g:=fun i=>V.int (0+(i:Int))) JR (Jc (by decide)) (fun _ _=>trivial) (fun _=>true) (fun i=>sgn (ch sg (sd / 1664+5 * (0+(i:Int)) * (0+(i:Int))))) (fun _ H1 Q _ _ q=>q H1 (Same.refl _)) (fun i H1 Q hi _ _ q=>?_) (fun H1 s1 D hD=>?_)⟩
   ·have hi:=List.mem_range.mp hi
    walk_at "dc"
    refine ⟨⟨by decide,by decide⟩,.inl ⟨by decide,by decide⟩,.inr ⟨by omega,by omega⟩,hgl,hg0,?_⟩
    refine J79 hgl (Int.emod_nonneg _ (by omega)) (Int.emod_lt_of_pos _ hg0) fun c hc=>?_
    have e:=J5l hg1 (sd / 1664+5 * (0+(i:Int)) * (0+(i:Int)))
    obtain rfl:c=ch sg (sd / 1664+5 * (0+(i:Int)) * (0+(i:Int))):=Option.some.inj (hc.symm.trans e)
    exact q H1 (Same.refl _)
   ·rw [J2k]
    have ecs:(List.range 12).map (fun (i:Nat)=>sgn (ch sg (sd / 1664+5 * (0+(i:Int)) * (0+(i:Int)))))=((List.range 12).map fun (i:Nat)=>ch sg (sd / 1664+5 * (0+(i:Int)) * (0+(i:Int)))).map sgn:=by rw [List.map_map];rfl
    rw [ecs]
    have hlc:((List.range 12).map fun (i:Nat)=>ch sg (sd / 1664+5 * (0+(i:Int)) * (0+(i:Int)))).length=12:=by rw [List.length_map,List.length_range]
    have hmc:∀ c∈(List.range 12).map fun (i:Nat)=>ch sg (sd / 1664+5 * (0+(i:Int)) * (0+(i:Int))),c∈sg.cps.toList:=fun c hc=>by
     obtain ⟨i,_,rfl⟩:=List.mem_map.mp hc
     exact Jaj hg1 _
    generalize ((List.range 12).map fun (i:Nat)=>ch sg (sd / 1664+5 * (0+(i:Int)) * (0+(i:Int))))=cs at *
    have s2:=s1.new hD (HO.lst (cs.map sgn))
    refine Ja0 (.of Jb) (by omega) ⟨by omega,by omega,?_⟩
    generalize upd H1 D (HO.lst (cs.map sgn))=H2 at *
    rw [Int.toNat_natCast]
    refine comp_of (as:=List.range m) (g:=fun i=>V.int (0+(i:Int))) JR (by rw [List.length_range];exact Jc (by omega)) (fun _ _=>trivial) (fun _=>true) (fun i=>.str ⟨(cs.take (i+1)).toArray⟩) (fun _ H1 Q _ _ q=>q H1 (Same.refl _)) (fun i H3 Q hi _ _ q=>?_) (fun H3 s3 D3 hD3=>?_)
    ·walk_at "dc"
     refine ⟨Jc (by show cs.toArray.size≤_;rw [List.size_toArray];omega),?_⟩
     have e:J4c cs none (some (0+(i:Int)+1))=cs.take (i+1):=by
      rw [show (0+(i:Int)+1)=((i+1:Nat):Int) by omega,cut_to]
     have e2:J4c (⟨cs.toArray⟩:Str).cps.toList none (some (0+(i:Int)+1))=cs.take (i+1):=e
     first
      | (rw [e2];exact q H3 (Same.refl _))
      | (rw [e];exact q H3 (Same.refl _))
    ·rw [J2k]
     have lt:∀ i,i<m→(cs.take (i+1)).length=i+1:=fun i hi=>by rw [List.length_take,hlc];omega
     refine k _ D3 ((List.range m).map fun i=>⟨(cs.take (i+1)).toArray⟩) ((s2.trans s3).new hD3 _) (by rw [Jb,List.map_map];rfl) ⟨by rw [List.length_map,List.length_range],fun _=>J1d fun i j hi hj e=>?_,fun z hz=>?_⟩
     ·have e2:=congrArg List.length (J3w.mp e)
      have e3:(cs.take (i+1)).length=(cs.take (j+1)).length:=e2
      rw [lt i hi,lt j hj] at e3
      omega
     ·obtain ⟨i,hi,rfl⟩:=List.mem_map.mp hz
      have hi:=List.mem_range.mp hi
      have hl:(⟨(cs.take (i+1)).toArray⟩:Str).length=i+1:=by
       show (cs.take (i+1)).toArray.size=_
       rw [List.size_toArray,lt i hi]
      exact ⟨by omega,by omega,fun c hc=>hmc c (List.mem_of_mem_take hc)⟩
  ·rw [if_neg (by simpa using h4)]
   refine ⟨by decide,⟨by decide,by decide⟩,by omega,⟨by decide,by decide⟩,hgl,hg0,?_⟩
   refine J79 hgl (Int.emod_nonneg _ (by omega)) (Int.emod_lt_of_pos _ hg0) fun c hc=>⟨Jc (by decide),fun p hp=>?_⟩
   have hcl:c∈sg.cps.toList:=List.mem_of_getElem? hc
   have b1:0≤sd % 12:=Int.emod_nonneg _ (by decide)
   have b2:sd % 12<12:=Int.emod_lt_of_pos _ (by decide)
   have b3:0≤sd / 12 % (1+sd % 12):=Int.emod_nonneg _ (by omega)
   have b4:sd / 12 % (1+sd % 12)<1+sd % 12:=Int.emod_lt_of_pos _ (by omega)
   generalize sd / 12 % (1+sd % 12)=at0 at *
   generalize sd % 12=few at *
   have s1:=Same.upd_new hp (HO.lst [])
   have g1:upd H p (HO.lst []) p=some (.lst []):=Jb
   generalize upd H p (HO.lst [])=H1 at *
   refine J0Y ?_
   walk_at "dc"
   refine ⟨by omega,by omega,?_⟩
   rw [Int.toNat_natCast]
   refine ForW.of JR (fun j σ H'=>(∃ v9 v10,σ=[some (V.int sd),some (V.str sg),some (V.int (m:Int)),some (V.int 12),none,some (V.int (1+few)),some (V.int at0),some (V.str ⟨#[c]⟩),some (V.ref p),v9,v10])∧H' p=some (.lst (((List.range j).map (hdS sg sd c at0 few)).map V.str))∧Same H H') ⟨⟨none,none,rfl⟩,g1,s1⟩ (fun _ _ _ _ _=>trivial) ?_ ?_
   ·rintro j x σ H2 hx ⟨⟨v9,v10,rfl⟩,g2,s2⟩
    obtain ⟨hj,rfl⟩:=J0b hx
    walk_at "dc"
    refine ⟨⟨by decide,by decide⟩,.inl ⟨by decide,by decide⟩,hgl,hg0,?_⟩
    refine J79 hgl (Int.emod_nonneg _ (by omega)) (Int.emod_lt_of_pos _ hg0) fun d hd=>?_
    obtain rfl:d=ch sg (sd / 1664+5 * (0+(j:Int))):=Option.some.inj (hd.symm.trans (J5l hg1 _))
    unfold sgn
    walk_at "dc"
    refine ⟨.inl ⟨rfl,_,.of g2⟩,J4j c b3 (by omega),Jc ?_,J4j c (by omega) (by omega),Jc ?_,p,_,_,rfl,rfl,g2,?_,⟨_,rfl⟩,?_,s2.set hp _⟩
    ·rw [J5c]
     show at0.toNat+1≤_
     omega
    ·rw [JbA,J5c,J5c]
     show at0.toNat+1+_≤_
     omega
    ·rw [List.length_map,List.length_map,List.length_range,sizeLine_eq]
     omega
    ·rw [Jb,List.range_succ,List.map_append,List.map_append]
     rfl
   ·rintro σ H2 ⟨⟨v9,v10,rfl⟩,g2,s2⟩
    rw [JC] at g2
    walk_at "dc"
    exact k _ p _ s2 g2 (J8u hg1 hcl b3 b4 b2 h9)
def Nam (n:Str):Prop:=1≤n.length∧n.length≤12∧∀ c∈n.cps.toList,c∈J0D.cps.toList
theorem Nam.wrd {n:Str}(h:Nam n):Wrd n:=⟨h.1,h.2.1,fun c hc=>by rw [PySem.W.KT.app_list];exact List.mem_append_left _ (h.2.2 c hc)⟩
theorem J8K {n:Str}(h:1≤n.length∧n.length≤12∧∀ c∈n.cps.toList,c∈JcN.cps.toList):Wrd n:=⟨h.1,h.2.1,fun c hc=>by rw [← J6F];exact h.2.2 c hc⟩
def KdV (kd:Str)(x:V):Prop:=(kd=Jv∧∃ z,x=.str z∧Wrd z)∨(kd=numS∧∃ i,x=.int i∧i.natAbs<10 ^ 60)
theorem Jdu:∀ c∈JcN.cps.toList,c<1114112:=by decide +kernel
theorem Jdj:∀ c∈J0D.cps.toList,c<1114112:=by decide +kernel
def Wd (H:Hp)(d:Addr)(ns kds:List Str):Prop:=∃ (kvs:List (Key×V)) (l w:Addr) (b:Int) (xs:List V) (ws:List Str),H d=some (.dK kvs)∧J0t kvs (.inr "fields")=some (.ref l)∧J0t kvs (.inr "words")=some (.ref w)∧J0t kvs (.inr "base")=some (.int b) ∧
 H l=some (.lst xs)∧FldsK H xs ns kds∧(∀ kd∈kds,kd=Jv∨kd=numS)∧1≤xs.length∧xs.length≤8∧H w=some (.lst (ws.map V.str))∧1≤ws.length∧ws.length≤60∧(∀ n∈ns,Nam n)∧(∀ z∈ws,Wrd z)∧-(9 * 10 ^ 59)≤b∧b≤9 * 10 ^ 59
theorem Wd.mono {H H':Hp}{d:Addr}{ns kds:List Str}(s:Same H H')(h:Wd H d ns kds):Wd H' d ns kds:=by
 obtain ⟨kvs,l,w,b,xs,ws,h1,h2,h3,h4,h5,h6,h7,h8,h9,h10,h11⟩:=h
 exact ⟨kvs,l,w,b,xs,ws,s _ _ h1,h2,h3,h4,s _ _ h5,h6.mono s,h7,h8,h9,s _ _ h10,h11⟩
theorem J5s {H:Hp}{d:Addr}{kvs:List (Key×V)}{z:Str}{v:V}(h:H d=some (.dK kvs))(e:J0t kvs (.inr z)=some v):DGet H d (.str z) (some v):=by
 have:=DGet.k (k:=.inr z) h
 rwa [e] at this
def J6B (K:PySem.W.Frag):Sp:=fun vs H Q _=>∃ (a:Addr) (ns0:List Int),vs=[.ref a]∧SqL K H a (ns0.map V.int)∧∀ H' d ns kds,Same H H'→Wd H' d ns kds→Q (.ref d) H'
theorem ok_l_world (T:Txt K mg f fd):FnOk P w K mg base CX0 2 (f 34) (fd 34) ["_law_script"] (J6B K):=by
 refine T.d_l_world.F.ok J0E (fun vs H Q E h=>?_) (fun cdv A outer s H vs Q E hr h=>?_)
 ·obtain ⟨a,ns0,rfl,_⟩:=h
  rfl
 ·obtain ⟨a,ns0,rfl,hs,k⟩:=h
  refine ⟨_,(Jd (psc 1 J0E.nd (Jm T.d_l_mix (J0R T) (hr.mono (by decide)) rfl (by decide) rfl (pal rfl (Jm T.d_l_cell_at (J14 T) (hr.mono (by decide)) rfl (by decide) rfl (pal rfl (pvl 0) (pal rfl Je Ja))) (pal rfl Je Ja))))
   (Jd (psl 2 J0E.nd (Jj J0o Je (Jj JK (pvc 1) Je)))
   (Jd (psc 3 J0E.nd (Jm T.d_l_heads (ok_l_heads T) (hr.mono (by decide)) rfl (by decide) rfl (pal rfl (Jm T.d_l_mix (J0R T) (hr.mono (by decide)) rfl (by decide) rfl (pal rfl (pvc 1) (pal rfl Je Ja))) (pal rfl Jp (pal rfl (pvl 2) (pal rfl Je Ja))))))
   (Jd (J25 ["_law_k"] ["_law_script","_law_seed","_law_many","_law_names","_law_fields","_law_words","_law_base"] rfl (show CompSc _ (J9 J0A) ["_law_script","_law_seed","_law_many","_law_names","_law_fields","_law_words","_law_base"] ["_law_script","_law_seed","_law_many","_law_names","_law_fields","_law_words","_law_base"] from Jx (by decide +kernel)) J0E.nd (i:=4) rfl rfl (J0a rfl T.n_range (pal rfl (pvl 2) Ja)) (fun _ _ _ _ _=>(pgl 0 (show (["_law_k","_law_script","_law_seed","_law_many","_law_names","_law_fields","_law_words","_law_base"]:List Str).Nodup by decide +kernel))) (fun _ _ _ _ _=>J06) (fun _ _ _ _ _=>(J0n (pal rfl (Jo (J0S rfl) (pvc 4) (pvl 0) (fun _ _=>rfl)) (pal rfl (Jo (J0S rfl) (J0c (pal rfl Jp (pal rfl Jp Ja))) (Jj JK (Jm T.d_l_mix (J0R T) (hr.mono (by decide)) rfl (by decide) rfl (pal rfl (pvc 2) (pal rfl (Jj J0o (pvl 0) Je) Ja))) Je) (fun _ _=>rfl)) Ja)))))
   (Jd (psl 5 J0E.nd (Jm T.d_l_heads (ok_l_heads T) (hr.mono (by decide)) rfl (by decide) rfl (pal rfl (Jm T.d_l_mix (J0R T) (hr.mono (by decide)) rfl (by decide) rfl (pal rfl (pvc 1) (pal rfl Je Ja))) (pal rfl Jp (pal rfl Je (pal rfl Je Ja))))))
   (Jd (J00 (Jq J0N (Jj JK (Jj J0k (pvc 1) Je) Je) Je (Jr _))
   (Jf (psl 5 J0E.nd (Jj J6S (J0G (J36 rfl) (pvc 3) J19 (J0U Je)) (J0G (J36 rfl) (pvl 5) J19 (J0U Je)))))
   Jt)
   (Jd (psl 6 J0E.nd (Jo (J0S rfl) (J0c (pal rfl Je (pal rfl (Jj J1L Je (Jj J3I Je Je)) (pal rfl (Jj J3G Je (Jj J1L Je (Jj J3I Je Je))) (pal rfl Je Ja))))) (Jj JK (Jj J0k (pvc 1) Je) Je) (fun _ _=>rfl)))
   (Jf (Jn (J7H (J1B Jp (pvl 4) (J1B Jp (pvl 5) (J1B Jp (pvl 6) J53))) rfl rfl (List.cons_ne_nil _ _) (by show 3≤15;decide))))))))))),?_⟩
  walk_at "dc"
  refine ⟨a,ns0,_,rfl,hs,by decide,fun v0=>⟨_,_,rfl,?_⟩⟩
  generalize J8i v0 1=sd at *
  refine ⟨_,rfl,by decide,_,_,rfl,?_⟩
  obtain ⟨m,hm⟩:∃ m:Nat,1+sd % 8=(m:Int):=⟨(1+sd % 8).toNat,by omega⟩
  rw [hm]
  have hm1:1≤m∧m≤8:=by omega
  refine ⟨_,m,J0D,rfl,by omega,by decide,by decide,fun H1 pn zs s1 hpn hz=>?_⟩
  refine ⟨by omega,by omega,?_⟩
  rw [Int.toNat_natCast]
  refine J02 JR (by rw [JC];exact Jc (by omega)) (fun j ys H'=>Same H1 H'∧ys.length=j∧∃ kds:List Str,kds.length=j∧(∀ kd∈kds,kd=Jv∨kd=numS)∧∀ (i:Nat) x n kd,ys[i]?=some x→zs[i]?=some n→kds[i]?=some kd→∃ p,x=.ref p∧H' p=some (.tup [.str n,.str kd])) ⟨Same.refl _,rfl,[],rfl,(fun _ h=>nomatch h),fun _ _ _ _ h=>by simp at h⟩ (fun _ _ _ _ _=>trivial) (fun j ys H' q=>Nat.le_of_eq q.2.1) (fun j x ys H2 hx q=>?_) (fun ys H2 q D hD=>?_)
  ·obtain ⟨hj,rfl⟩:=J0b hx
   obtain ⟨t1,t2,kds,t3,t4,t5⟩:=q
   obtain ⟨n,hn⟩:∃ n,zs[j]?=some n:=⟨_,List.getElem?_eq_getElem (by rw [hz.1];exact hj)⟩
   walk_at "dc"
   rw [Int.zero_add]
   refine ⟨pn,_,_,_,rfl,rfl,.of (t1 _ _ hpn),Jl (by rw [List.getElem?_map,hn];rfl),Jc (by decide),fun p hp=>?_⟩
   have u:=Same.upd_new hp (HO.lst [V.str (Str.ofString "word"),V.str (Str.ofString "number")])
   have gp:upd H2 p (HO.lst [V.str (Str.ofString "word"),V.str (Str.ofString "number")]) p=some (.lst [V.str (Str.ofString "word"),V.str (Str.ofString "number")]):=Jb
   generalize upd H2 p (HO.lst [V.str (Str.ofString "word"),V.str (Str.ofString "number")])=H3 at *
   refine ⟨by decide,J0I (.of gp) (Int.emod_nonneg _ (by decide)) (Int.emod_lt_of_pos _ (by decide)) fun kv hkv=>⟨Jc (by decide),fun r hr=>?_⟩⟩
   obtain ⟨kd,rfl,hk2⟩:∃ kd:Str,kv=.str kd∧(kd=Jv∨kd=numS):=by
    have h2:J8i sd ((j:Int)+30) % 2=0∨J8i sd ((j:Int)+30) % 2=1:=by omega
    rcases h2 with h | h
    ·rw [h] at hkv
     obtain rfl:V.str (Str.ofString "word")=kv:=by simpa using hkv
     exact ⟨_,rfl,.inl rfl⟩
    ·rw [h] at hkv
     obtain rfl:V.str (Str.ofString "number")=kv:=by simpa using hkv
     exact ⟨_,rfl,.inr rfl⟩
   have u3:=Same.upd_new hr (HO.tup [V.str n,V.str kd])
   refine ⟨⟨_,rfl⟩,(t1.trans u).trans u3,by simp [t2],kds++[kd],by simp [t3],fun kd' hk'=>?_,fun i x n' kd' hx' hn' hk'=>?_⟩
   ·rcases List.mem_append.mp hk' with h | h
    ·exact t4 kd' h
    ·rw [List.mem_singleton.mp h]
     exact hk2
   ·by_cases hi:i<ys.length
    ·rw [List.getElem?_append_left hi] at hx'
     rw [List.getElem?_append_left (by omega)] at hk'
     obtain ⟨p',e1,e2⟩:=t5 i x n' kd' hx' hn' hk'
     exact ⟨p',e1,(u.trans u3) _ _ e2⟩
    ·have hil:=(List.getElem?_eq_some_iff.mp hx').1
     rw [List.length_append,List.length_singleton] at hil
     obtain rfl:i=ys.length:=by omega
     rw [List.getElem?_append_right (Nat.le_refl _),Nat.sub_self] at hx'
     obtain rfl:V.ref r=x:=by simpa using hx'
     rw [t2,hn] at hn'
     cases hn'
     rw [List.getElem?_append_right (by omega),t2,t3,Nat.sub_self] at hk'
     obtain rfl:kd=kd':=by simpa using hk'
     exact ⟨r,rfl,Jb⟩
  ·obtain ⟨t1,t2,kds,t3,hkk,t5⟩:=q
   rw [JC] at t2 t3
   have u3:=Same.upd_new hD (HO.lst ys)
   have gD:upd H2 D (HO.lst ys) D=some (.lst ys):=Jb
   have hF:FldsK (upd H2 D (HO.lst ys)) ys zs kds:=FldsK.mono u3 ⟨hz.1.trans t2.symm,t3.trans t2.symm,hz.2.1 rfl,t5⟩
   have s3:=(s1.trans t1).trans u3
   have hpn3:=(t1.trans u3) _ _ hpn
   generalize upd H2 D (HO.lst ys)=H3 at *
   refine ⟨_,_,rfl,_,4,JcN,rfl,by omega,by decide,by decide,fun H4 pw wz s4 hpw hwz=>⟨sd,rfl,⟨by decide,by decide⟩,by decide,?_⟩⟩
   have hnms:∀ n∈zs,Nam n:=fun n hn=>hz.2.2 n hn
   by_cases c:sd / 8 % 3=1
   ·rw [if_pos (decide_eq_true c)]
    refine ⟨pn,rfl,_,.of (s4 _ _ hpn3),fun pa hpa=>?_⟩
    have v1:=Same.upd_new hpa (HO.lst (J0M (zs.map V.str) none (some 3)))
    have gpa:upd H4 pa (HO.lst (J0M (zs.map V.str) none (some 3))) pa=some (.lst (J0M (zs.map V.str) none (some 3))):=Jb
    generalize upd H4 pa (HO.lst (J0M (zs.map V.str) none (some 3)))=H4a at *
    refine ⟨pw,rfl,_,.of (v1 _ _ hpw),fun pc hpc=>?_⟩
    have v2:=Same.upd_new hpc (HO.lst (J0M (wz.map V.str) none (some 1)))
    have gpc:upd H4a pc (HO.lst (J0M (wz.map V.str) none (some 1))) pc=some (.lst (J0M (wz.map V.str) none (some 1))):=Jb
    generalize upd H4a pc (HO.lst (J0M (wz.map V.str) none (some 1)))=H4b at *
    have ew:J0M (zs.map V.str) none (some 3)++J0M (wz.map V.str) none (some 1)=(zs.take 3++wz.take 1).map V.str:=by
     rw [show J0M (zs.map V.str) none (some 3)=(zs.map V.str).take 3 from cut_to _ 3,show J0M (wz.map V.str) none (some 1)=(wz.map V.str).take 1 from cut_to _ 1,List.map_append,List.map_take,List.map_take]
    have hwl:=hwz.1
    have hzl:=hz.1
    have elen:(zs.take 3++wz.take 1).length=min 3 m+1:=by
     rw [List.length_append,List.length_take,List.length_take,hwl,hzl]
     omega
    have esum:(J0M (zs.map V.str) none (some 3)).length+(J0M (wz.map V.str) none (some 1)).length=(zs.take 3++wz.take 1).length:=by
     rw [← List.length_append,ew,List.length_map]
    refine ⟨pa,pc,_,_,rfl,rfl,v2 _ _ gpa,gpc,by rw [esum,elen];exact Jc (by omega),fun pe hpe=>?_⟩
    rw [ew]
    have v3:=Same.upd_new hpe (HO.lst ((zs.take 3++wz.take 1).map V.str))
    have gpe:upd H4b pe (HO.lst ((zs.take 3++wz.take 1).map V.str)) pe=some (.lst ((zs.take 3++wz.take 1).map V.str)):=Jb
    generalize upd H4b pe (HO.lst ((zs.take 3++wz.take 1).map V.str))=H5 at *
    have hwl12:∀ z∈zs.take 3++wz.take 1,Wrd z:=fun z hzm=>by
     rcases List.mem_append.mp hzm with h | h
     ·exact Nam.wrd (hz.2.2 z (List.mem_of_mem_take h))
     ·exact J8K (hwz.2.2 z (List.mem_of_mem_take h))
    have sD5:=((s4.trans v1).trans v2).trans v3
    have s5:=s3.trans sD5
    refine ⟨⟨by decide,by decide,by decide⟩,.inl ⟨by decide +kernel,by decide +kernel⟩,⟨by decide,by decide,by decide⟩,.inl ⟨by decide +kernel,by decide +kernel⟩,Jc (by decide),fun pb hpb=>⟨sd,rfl,⟨by decide,by decide⟩,by decide,?_⟩⟩
    have u6:=Same.upd_new hpb (HO.lst [V.int 0,V.int (9 * 10 ^ Int.toNat 59),V.int (0 - 9 * 10 ^ Int.toNat 59),V.int 98])
    have g6:upd H5 pb (HO.lst [V.int 0,V.int (9 * 10 ^ Int.toNat 59),V.int (0 - 9 * 10 ^ Int.toNat 59),V.int 98]) pb=some (.lst [V.int 0,V.int (9 * 10 ^ Int.toNat 59),V.int (0 - 9 * 10 ^ Int.toNat 59),V.int 98]):=Jb
    generalize upd H5 pb (HO.lst [V.int 0,V.int (9 * 10 ^ Int.toNat 59),V.int (0 - 9 * 10 ^ Int.toNat 59),V.int 98])=H6 at *
    refine J0I (.of g6) (Int.emod_nonneg _ (by decide)) (Int.emod_lt_of_pos _ (by decide)) fun bv hbv pd hpd=>⟨Jb,[(.inr "fields",.ref D),(.inr "words",.ref pe),(.inr "base",bv)],rfl,(by show 3≤15;decide),?_⟩
    obtain ⟨b,rfl,hbb⟩:∃ b,bv=.int b∧-(9 * 10 ^ 59)≤b∧b≤9 * 10 ^ 59:=by
     rcases (by omega:sd / 24 % 4=0∨sd / 24 % 4=1∨sd / 24 % 4=2∨sd / 24 % 4=3) with h | h | h | h<;>rw [h] at hbv<;>exact ⟨_,(Option.some.inj hbv).symm,by decide +kernel,by decide +kernel⟩
    rw [J4y]
    have u7:=Same.upd_new hpd (HO.dK (J0d [] [(.inr "fields",.ref D),(.inr "words",.ref pe),(.inr "base",.int b)]))
    exact k _ pd zs kds ((s5.trans u6).trans u7) ⟨_,D,pe,b,ys,(zs.take 3++wz.take 1),Jb,rfl,rfl,rfl,(sD5.trans (u6.trans u7)) _ _ gD,FldsK.mono (sD5.trans (u6.trans u7)) hF,hkk,by omega,by omega,(u6.trans u7) _ _ gpe,by omega,by omega,hnms,hwl12,hbb⟩
   ·rw [if_neg (by simpa using c)]
    have hwl:=hwz.1
    have s5:=s3.trans s4
    have hwl12:∀ z∈wz,Wrd z:=fun z hzm=>J8K (hwz.2.2 z hzm)
    refine ⟨⟨by decide,by decide,by decide⟩,.inl ⟨by decide +kernel,by decide +kernel⟩,⟨by decide,by decide,by decide⟩,.inl ⟨by decide +kernel,by decide +kernel⟩,Jc (by decide),fun pb hpb=>⟨sd,rfl,⟨by decide,by decide⟩,by decide,?_⟩⟩
    have u6:=Same.upd_new hpb (HO.lst [V.int 0,V.int (9 * 10 ^ Int.toNat 59),V.int (0 - 9 * 10 ^ Int.toNat 59),V.int 98])
    have g6:upd H4 pb (HO.lst [V.int 0,V.int (9 * 10 ^ Int.toNat 59),V.int (0 - 9 * 10 ^ Int.toNat 59),V.int 98]) pb=some (.lst [V.int 0,V.int (9 * 10 ^ Int.toNat 59),V.int (0 - 9 * 10 ^ Int.toNat 59),V.int 98]):=Jb
    generalize upd H4 pb (HO.lst [V.int 0,V.int (9 * 10 ^ Int.toNat 59),V.int (0 - 9 * 10 ^ Int.toNat 59),V.int 98])=H6 at *
    refine J0I (.of g6) (Int.emod_nonneg _ (by decide)) (Int.emod_lt_of_pos _ (by decide)) fun bv hbv pd hpd=>⟨Jb,[(.inr "fields",.ref D),(.inr "words",.ref pw),(.inr "base",bv)],rfl,(by show 3≤15;decide),?_⟩
    obtain ⟨b,rfl,hbb⟩:∃ b,bv=.int b∧-(9 * 10 ^ 59)≤b∧b≤9 * 10 ^ 59:=by
     rcases (by omega:sd / 24 % 4=0∨sd / 24 % 4=1∨sd / 24 % 4=2∨sd / 24 % 4=3) with h | h | h | h<;>rw [h] at hbv<;>exact ⟨_,(Option.some.inj hbv).symm,by decide +kernel,by decide +kernel⟩
    rw [J4y]
    have u7:=Same.upd_new hpd (HO.dK (J0d [] [(.inr "fields",.ref D),(.inr "words",.ref pw),(.inr "base",.int b)]))
    exact k _ pd zs kds ((s5.trans u6).trans u7) ⟨_,D,pw,b,ys,wz,Jb,rfl,rfl,rfl,(s4.trans (u6.trans u7)) _ _ gD,FldsK.mono (s4.trans (u6.trans u7)) hF,hkk,by omega,by omega,(u6.trans u7) _ _ hpw,by omega,by omega,hnms,hwl12,hbb⟩
def J3b (K:PySem.W.Frag):Sp:=fun vs H Q _=>∃ (sd:Int) (kd:Str) (d:Addr) (ns kds:List Str),vs=[.int sd,.str kd,.ref d]∧Wd H d ns kds∧(kd=Jv∨kd=numS)∧∀ v,KdV kd v→Q v H
theorem J3g (T:Txt K mg f fd):FnOk P w K mg base CX0 1 (f 35) (fd 35) ["_law_seed","_law_kind","_law_world_here"] (J3b K):=by
 refine T.d_l_sure_value.F.ok J3e (fun vs H Q E h=>?_) (fun cdv A outer s H vs Q E hr h=>?_)
 ·obtain ⟨sd,kd,d,ns,kds,rfl,_⟩:=h
  rfl
 ·obtain ⟨sd,kd,d,ns,kds,rfl,⟨kvs,l,w',b,xs,ws,h1,h2,h3,h4,h5,h6,h7,h8,h9,h10,h11,h12,h13,h14,hb1,hb2⟩,hk,k⟩:=h
  refine ⟨_,(Jd (J00 (Jq J0N (pvl 1) Jp (Jr _))
   (Jf (Jn (Jo (J0S rfl) (J13 (J1F hr) (pvl 2) Jp (fun _ _=>rfl)) (Jj JK (pvl 0) (JJ (J0z rfl) T.n_len JL rfl (by decide) (by decide) rfl (pal rfl (J13 (J1F hr) (pvl 2) Jp (fun _ _=>rfl)) Ja))) (fun _ _=>rfl))))
   Jt)
   (Jf (Jn (Jj J3G (Jj J0o (J13 (J1F hr) (pvl 2) Jp (fun _ _=>rfl)) (Jj JK (pvl 0) Je)) Je)))),?_⟩
  walk_at "dc"
  by_cases hw:kd=Jv
  ·rw [if_pos (decide_eq_true hw)]
   refine ⟨_,J5s h1 h3,_,J5s h1 h3,w',rfl,_,.inl (.of h10),by rw [List.length_map];omega,J0I (.of h10) (Int.emod_nonneg _ (by rw [List.length_map];omega)) (Int.emod_lt_of_pos _ (by rw [List.length_map];omega)) fun v hv=>k v ?_⟩
   rw [List.getElem?_map] at hv
   obtain ⟨z,hz,rfl⟩:=Option.map_eq_some_iff.mp hv
   exact .inl ⟨hw,z,rfl,h14 z (List.mem_of_getElem? hz)⟩
  ·rw [if_neg (by simpa using hw)]
   refine ⟨_,J5s h1 h4,by decide,b,rfl,k _ (.inr ⟨hk.resolve_left hw,_,rfl,?_⟩)⟩
   have e0:=Int.emod_nonneg sd (show (6:Int)≠0 by decide)
   have e1:=Int.emod_lt_of_pos sd (show (0:Int)<6 by decide)
   generalize sd % 6=t at *
   omega
def RowS (kds:List Str)(rs:List V):Prop:=rs.length=kds.length∧∀ (i:Nat) x kd,rs[i]?=some x→kds[i]?=some kd→x=.non∨KdV kd x
theorem KdV.of {kd:Str}{x:V}(h:KdV kd x):J7m kd x:=by
 rcases h with ⟨e,z,e2,hz⟩ | ⟨e,i,e2,_⟩
 ·exact .inl ⟨e,z,e2,hz.2.1,fun c hc=>J8L c (hz.2.2 c hc)⟩
 ·exact .inr ⟨e,i,e2⟩
theorem RowS.ok {kds:List Str}{rs:List V}(h:RowS kds rs):RowOk kds rs:=⟨h.1,fun i x kd a b=>(h.2 i x kd a b).imp id KdV.of⟩
def J6C (K:PySem.W.Frag):Sp:=fun vs H Q _=>∃ (sd:Int) (kd:Str) (d:Addr) (ns kds:List Str),vs=[.int sd,.str kd,.ref d]∧Wd H d ns kds∧(kd=Jv∨kd=numS)∧∀ v,(v=.non∨KdV kd v)→Q v H
theorem J6U (T:Txt K mg f fd):FnOk P w K mg base CX0 2 (f 36) (fd 36) ["_law_seed","_law_kind","_law_world_here"] (J6C K):=by
 refine T.d_l_value.F.ok J6H (fun vs H Q E h=>?_) (fun cdv A outer s H vs Q E hr h=>?_)
 ·obtain ⟨sd,kd,d,ns,kds,rfl,_⟩:=h
  rfl
 ·obtain ⟨sd,kd,d,ns,kds,rfl,hW,hk,k⟩:=h
  refine ⟨_,(Jd (J00 (Jq J0N (Jj JK (pvl 0) Je) Je (Jr _))
   (Jf (Jn J1t))
   Jt)
   (Jf (Jn (Jm T.d_l_sure_value (J3g T) (hr.mono (by decide)) rfl (by decide) rfl (pal rfl (Jj J0k (pvl 0) Je) (pal rfl (pvl 1) (pal rfl (pvl 2) Ja))))))),?_⟩
  walk_at "dc"
  repeat (refine And.intro (by first | decide | omega | exact Or.inl ⟨by omega,by omega⟩ | exact Or.inr ⟨by omega,by omega⟩ | exact ⟨by omega,by omega⟩ | exact ⟨by decide,by decide,by decide⟩) ?_)
  by_cases h6:sd % 6=0
  ·rw [if_pos (decide_eq_true h6)]
   exact k _ (.inl rfl)
  ·rw [if_neg (by simpa using h6)]
   exact ⟨⟨by decide,by decide⟩,_,kd,d,ns,kds,rfl,hW,hk,fun v hv=>k v (.inr hv)⟩
def J92 (K:PySem.W.Frag):Sp:=fun vs H Q _=>∃ (sd:Int) (d:Addr) (ns kds:List Str),vs=[.int sd,.ref d]∧Wd H d ns kds∧∀ H' a rs,Same H H'→H' a=some (.tup rs)→RowS kds rs→Q (.ref a) H'
theorem ok_l_row (T:Txt K mg f fd):FnOk P w K mg base CX0 3 (f 37) (fd 37) ["_law_seed","_law_world_here"] (J92 K):=by
 refine T.d_l_row.F.ok J5G (fun vs H Q E h=>?_) (fun cdv A outer s H vs Q E hr h=>?_)
 ·obtain ⟨sd,d,ns,kds,rfl,_⟩:=h
  rfl
 ·obtain ⟨sd,d,ns,kds,rfl,hW,k⟩:=h
  obtain ⟨kvs,l,w',b,xs,ws,h1,h2,h3,h4,h5,h6,h7,h8,h9,h10,h11,h12,h13,h14⟩:=id hW
  refine ⟨_,(Jd (psc 2 J5G.nd (J13 (J1F hr) (pvc 1) Jp (fun _ _=>rfl)))
   (Jf (Jn (J0B (J1Q rfl) T.n_tuple J1m rfl (by decide) (by decide) rfl (pal rfl (J0y ["_law_k"] ["_law_seed","_law_world_here","_law_fields"] rfl (show CompSc _ (J9 J18) ["_law_seed","_law_world_here","_law_fields"] ["_law_seed","_law_world_here","_law_fields"] from Jx (by decide +kernel)) (J0a rfl T.n_range (pal rfl (JJ (J0z rfl) T.n_len JL rfl (by decide) (by decide) rfl (pal rfl (pvc 2) Ja)) Ja)) (fun _ _ _ _ _=>(pgl 0 (show (["_law_k","_law_seed","_law_world_here","_law_fields"]:List Str).Nodup by decide +kernel))) (fun _ _ _ _ _=>J06) (fun _ _ _ _ _=>(Jm T.d_l_value (J6U T) (hr.mono (by decide)) rfl (by decide) rfl (pal rfl (Jm T.d_l_mix (J0R T) (hr.mono (by decide)) rfl (by decide) rfl (pal rfl (pvc 1) (pal rfl (Jj J0o (pvl 0) Je) Ja))) (pal rfl (Jo (JB rfl) (Jo (J0S rfl) (pvc 3) (pvl 0) (fun _ _=>rfl)) Je (fun _ _=>rfl)) (pal rfl (pvc 2) Ja)))))) Ja))))),?_⟩
  walk_at "dc"
  refine ⟨_,J5s h1 h2,l,rfl,xs,.inl (.of h5),by omega,by omega,?_⟩
  rw [Int.toNat_natCast]
  refine J02 JR (by rw [JC];exact Jc (by omega)) (fun j ys H'=>H'=H∧ys.length=j∧∀ (i:Nat) x kd,ys[i]?=some x→kds[i]?=some kd→x=.non∨KdV kd x) ⟨rfl,rfl,fun _ _ _ h=>by simp at h⟩ (fun _ _ _ _ _=>trivial) (fun j ys H' q=>Nat.le_of_eq q.2.1) (fun j x ys H2 hx q=>?_) (fun ys H2 q D hD=>?_)
  ·obtain ⟨hj,rfl⟩:=J0b hx
   obtain ⟨rfl,t2,t3⟩:=q
   obtain ⟨p,n,kd,e1,e2,e3,e4⟩:=h6.at hj
   walk_at "dc"
   rw [Int.zero_add]
   refine ⟨l,xs,_,_,rfl,rfl,.of h5,Jl e1,p,_,_,_,rfl,rfl,.of e4,Jl (j:=1) rfl,_,rfl,⟨ns,kds,hW⟩,h7 kd (List.mem_of_getElem? e3),fun v hv=>⟨⟨_,rfl⟩,rfl,by simp [t2],fun i x kd' hx' hk'=>?_⟩⟩
   by_cases hi:i<ys.length
   ·rw [List.getElem?_append_left hi] at hx'
    exact t3 i x kd' hx' hk'
   ·have hil:=(List.getElem?_eq_some_iff.mp hx').1
    rw [List.length_append,List.length_singleton] at hil
    obtain rfl:i=ys.length:=by omega
    rw [List.getElem?_append_right (Nat.le_refl _),Nat.sub_self] at hx'
    obtain rfl:v=x:=by simpa using hx'
    rw [t2,e3] at hk'
    cases hk'
    exact hv
  ·obtain ⟨rfl,t2,t3⟩:=q
   rw [JC] at t2
   exact ⟨ys,.inl ⟨.of Jb,fun r hr=>k _ r ys ((Same.upd_new hD _).new hr _) Jb ⟨by rw [t2,h6.2.1],t3⟩⟩⟩
noncomputable def toN:V→Ji
 | .int i=>some (.inl i)
 | .str z=>some (.inr z)
 | _=>none
def TyN (t:Str)(k:Ji):Prop:=k=none∨(t=Jv∧∃ z,k=some (.inr z)∧JcR 12 z)∨(t=numS∧∃ i,k=some (.inl i))
theorem JbV {t:Str}{v:V}(h:v=.non∨J7m t v):nV (toN v)=v∧TyN t (toN v):=by
 rcases h with rfl | ⟨e,z,rfl,hz⟩ | ⟨e,i,rfl⟩
 ·exact ⟨rfl,.inl rfl⟩
 ·exact ⟨rfl,.inr (.inl ⟨e,z,rfl,hz⟩)⟩
 ·exact ⟨rfl,.inr (.inr ⟨e,i,rfl⟩)⟩
def TyL:List Str→List Ji→Prop
 | _,[]=>True
 | [],_::_=>False
 | t::ts,k::ks=>TyN t k∧TyL ts ks
theorem TyN.ok {t:Str}{k:Ji}(h:TyN t k):okN k:=by
 rcases h with rfl | ⟨_,z,rfl,hz⟩ | ⟨_,i,rfl⟩
 ·trivial
 ·exact J3x hz.2
 ·trivial
theorem TyN.like {t:Str}{a b:Ji}(h:TyN t a)(h':TyN t b):J7J a b=true:=by
 rcases h with rfl | ⟨e,z,rfl,hz⟩ | ⟨e,i,rfl⟩
 ·cases b<;>rfl
 ·rcases h' with rfl | ⟨_,z',rfl,_⟩ | ⟨e',j,rfl⟩
  ·rfl
  ·rfl
  ·rw [e] at e';exact absurd e' (by decide)
 ·rcases h' with rfl | ⟨e',z',rfl,_⟩ | ⟨_,j,rfl⟩
  ·rfl
  ·rw [e] at e';exact absurd e' (by decide)
  ·rfl
theorem TyL.ok:∀ {ts:List Str} {ks:List Ji},TyL ts ks→∀ k∈ks,okN k
 | _,[],_,k,hk=>nomatch hk
 | [],_::_,h,_,_=>False.elim h
 | t::ts,k::ks,h,x,hx=>by
   rcases List.mem_cons.mp hx with rfl | hx
   ·exact h.1.ok
   ·exact TyL.ok h.2 x hx
theorem TyL.like:∀ {ts:List Str} {as bs:List Ji},TyL ts as→TyL ts bs→J4l as bs=true
 | _,[],[],_,_=>rfl
 | _,[],_::_,_,_=>rfl
 | _,_::_,[],_,_=>rfl
 | [],_::_,_::_,h,_=>False.elim h
 | t::ts,a::as,b::bs,h,h'=>by
   rw [J4l,h.1.like h'.1,Bool.true_and]
   split
   ·exact TyL.like h.2 h'.2
   ·rfl
theorem TyL.take:∀ {ts:List Str} {ks:List Ji} (n:Nat),TyL ts ks→TyL ts (ks.take n)
 | _,[],n,_=>by rw [List.take_nil];cases ‹List Str›<;>trivial
 | [],_::_,_,h=>False.elim h
 | t::ts,k::ks,0,_=>trivial
 | t::ts,k::ks,n+1,h=>⟨h.1,TyL.take n h.2⟩
noncomputable def pj (is:List Nat)(rs:List V):List Ji:=is.map fun i=>toN (rs.getD i .non)
theorem J5N {kds:List Str}{rs:List V}(h:RowOk kds rs):∀ {is:List Nat},(∀ i∈is,i<kds.length)→TyL (is.map fun i=>kds.getD i Jv) (pj is rs)∧(pj is rs).map nV=is.map fun i=>rs.getD i .non
 | [],_=>⟨trivial,rfl⟩
 | i :: is,hi=>by
   obtain ⟨h1,h2⟩:=J5N h (is:=is) fun j hj=>hi j (List.mem_cons_of_mem _ hj)
   have hil:=hi i List.mem_cons_self
   have hir:i<rs.length:=by rw [h.1];exact hil
   have e1:rs.getD i .non=rs[i]:=by rw [List.getD_eq_getElem?_getD,List.getElem?_eq_getElem hir];rfl
   have e2:kds.getD i Jv=kds[i]:=by rw [List.getD_eq_getElem?_getD,List.getElem?_eq_getElem hil];rfl
   obtain ⟨q1,q2⟩:=JbV (h.2 i rs[i] kds[i] (List.getElem?_eq_getElem hir) (List.getElem?_eq_getElem hil))
   refine ⟨⟨?_,h1⟩,?_⟩
   ·dsimp only;rw [e1,e2];exact q2
   ·rw [List.map_cons,← h2]
    show nV (toN (rs.getD i .non))::(pj is rs).map nV=_
    rw [e1,q1]
noncomputable def J7b (a:List (List Ji))(k:List Ji):Bool:=a.any fun x=>decide (x=k)
theorem Ja5 {a:List (List Ji)}{k:List Ji}:J7b a k=true↔k∈a:=by
 unfold J7b
 rw [List.any_eq_true]
 exact ⟨fun ⟨x,hx,e⟩=>of_decide_eq_true e ▸ hx,fun h=>⟨k,h,decide_eq_true rfl⟩⟩
noncomputable def J5q (a:List (List Ji))(k:List Ji):List (List Ji):=if J7b a k=true then a else a++[k]
theorem J6s {a:List (List Ji)}{k x:List Ji}:x∈J5q a k↔x∈a∨x=k:=by
 unfold J5q
 by_cases h:J7b a k=true
 ·rw [if_pos h];exact ⟨.inl,fun z=>z.elim id fun e=>by rw [e];exact Ja5.mp h⟩
 ·rw [if_neg h,List.mem_append,List.mem_singleton]
theorem J8a (kvs:List (List Ji×V))(k:List Ji)(v:V):(J0W kvs k v).map (·.1)=J5q (kvs.map (·.1)) k:=by
 have e0:J7b (kvs.map (·.1)) k=kvs.any fun kv=>decide (kv.1=k):=by
  unfold J7b;rw [List.any_map];rfl
 unfold J5q
 rw [e0]
 cases e:J0t kvs k with
 | none =>
   have:(kvs.any fun kv=>decide (kv.1=k))=false:=by rw [J1U,e];rfl
   rw [this,if_neg (by simp),putK_new v e,List.map_append];rfl
 | some u =>
   have:(kvs.any fun kv=>decide (kv.1=k))=true:=by rw [J1U,e];rfl
   rw [this,if_pos rfl]
   unfold J0W
   rw [if_pos this,List.map_map]
   apply List.map_congr_left
   intro p _
   simp only [Function.comp]
   first | rfl | (split<;>simp_all)
noncomputable def J2o (is:List Nat)(a:List (List Ji))(rs:List V):List (List Ji):=(List.range (is.length+1)).foldl (fun a m=>J5q a ((pj is rs).take m)) a
noncomputable def J8G (is:List Nat)(rss:List (List V)):List (List Ji):=rss.foldl (J2o is) [[]]
def J4N (K:PySem.W.Frag):Sp:=fun vs H Q _=>∃ k:Ji,vs=[nV k]∧∀ p,H p=none→Q (.ref p) (upd H p (.tup (prV k)))
theorem J56 (T:Txt K mg f fd):FnOk P w K mg base CX0 1 (f 15) (fd 15) ["value"] (J4N K):=by
 refine T.d_order_key.F.ok J4X (fun vs H Q E h=>?_) (fun cdv A outer s H vs Q E hr h=>?_)
 ·obtain ⟨k,rfl,_⟩:=h
  rfl
 ·obtain ⟨kk,rfl,k⟩:=h
  refine ⟨_,(Jf (Jn (J5P (Jq J9G (pvl 0) J1t (Jr _)) (J0n (pal rfl Je (pal rfl Je Ja))) (J0n (pal rfl Je (pal rfl (pvl 0) Ja)))))),?_⟩
  walk_at "dl"
  match kk,k with
  | none,k =>
    simp only [nV]
    rw [if_pos trivial]
    exact ⟨Jc (by decide),k⟩
  | some (.inl i),k=>exact Jd9 (fun z=>absurd (show V.int i=V.non from z) (by simp)) fun _=>⟨Jc (by decide),k⟩
  | some (.inr i),k=>exact Jd9 (fun z=>absurd (show V.str i=V.non from z) (by simp)) fun _=>⟨Jc (by decide),k⟩
def J5y (K:PySem.W.Frag):Sp:=fun vs H Q _=>∃ (b:Addr) (ks:List Ji),vs=[.ref b]∧H b=some (.tup (ks.map nV))∧ks.length≤8∧∀ H' v,Same H H'→KeyV H' v ks→Q v H'
theorem J5R (T:Txt K mg f fd):FnOk P w K mg base CX0 2 (f 23) (fd 23) ["path"] (J5y K):=by
 refine T.d_path_key.F.ok J5E (fun vs H Q E h=>?_) (fun cdv A outer s H vs Q E hr h=>?_)
 ·obtain ⟨b,ks,rfl,_⟩:=h
  rfl
 ·obtain ⟨b,ks,rfl,hb,hl,k⟩:=h
  refine ⟨_,(Jf (Jn (J0y ["value"] ["path"] rfl (show CompSc _ (J9 J0m) ["path"] ["path"] from Jx (by decide +kernel)) (J64 rfl (pvl 0)) (fun _ _ _ _ _=>(pgl 0 (show (["value","path"]:List Str).Nodup by decide +kernel))) (fun _ _ _ _ _=>J06) (fun _ _ _ _ _=>(Jm T.d_order_key (J56 T) (hr.mono (by decide)) rfl (by decide) rfl (pal rfl (pvl 0) Ja)))))),?_⟩
  walk_at "dl"
  refine ⟨⟨_,.of hb⟩,?_⟩
  refine J02 (J1T (xs:=ks.map nV)) (Jc (by rw [List.length_map];omega)) (fun j ys H'=>Same H H'∧Prs H' ys (ks.take j)) ⟨Same.refl _,.nil⟩ (fun _ _ H' _ q=>q.1.seqT (.of hb)) (fun j ys H' q=>by
   have:=Paired.length q.2
   rw [this,List.length_take];omega) (fun j x ys H2 hx q=>?_) (fun ys H2 q D hD=>?_)
  ·rw [List.getElem?_map] at hx
   obtain ⟨kk,hkk,rfl⟩:=Option.map_eq_some_iff.mp hx
   walk_at "dl"
   refine ⟨kk,rfl,fun p hp=>⟨⟨_,rfl⟩,q.1.new hp _,?_⟩⟩
   rw [List.take_add_one,hkk]
   exact Paired.snoc (q.2.mono (Same.upd_new hp _)) ⟨p,rfl,Jb⟩
  ·rw [List.length_map,List.take_length] at q
   exact k _ _ (q.1.new hD _) ⟨D,ys,rfl,Jb,q.2.mono (Same.upd_new hD _)⟩
theorem none_of {H H':Hp}{p:Addr}(s:Same H H')(h:H' p=none):H p=none:=by
 cases e:H p with
 | none=>rfl
 | some u=>rw [s _ _ e] at h;cases h
theorem cut_to {xs:List V}{k:Nat}:J0M xs none (some (k:Int))=xs.take k:=by
 unfold J0M
 rw [HT.sIx_none,HT.sIx_nat,List.drop_zero,Nat.sub_zero]
 rw [List.take_eq_take_iff]
 omega
def J42 (K:PySem.W.Frag):Sp:=fun vs H Q _=>∃ (l ln r:Addr) (xs rs:List V) (ns kds:List Str) (is:List Nat),vs=[.ref l,.ref ln,.ref r]∧H l=some (.lst xs)∧FldsK H xs ns kds∧H ln=some (.tup (is.map fun i=>V.str (ns.getD i Jv)))∧(∀ i∈is,i<kds.length)∧is.length≤8∧H r=some (.tup rs)∧RowOk kds rs ∧
 ∀ H' p ts,H p=none→Same H H'→H' p=some (.lst ts)→TupsV H' ts ((List.range (is.length+1)).map fun m=>(pj is rs).take m)→Q (.ref p) H'
theorem J1v (T:Txt K mg f fd):FnOk P w K mg base CX0 2 (f 25) (fd 25) ["fields","names","row"] (J42 K):=by
 refine T.d_paths_over.F.ok J2d (fun vs H Q E h=>?_) (fun cdv A outer s H vs Q E hr h=>?_)
 ·obtain ⟨l,ln,r,xs,rs,ns,kds,is,rfl,_⟩:=h
  rfl
 ·obtain ⟨l,ln,r,xs,rs,ns,kds,is,rfl,hl,hF,hn,hi,hz,hr',hR,k⟩:=h
  refine ⟨_,(Jd (psc 3 J2d.nd (J0y ["name"] ["fields","names","row","values"] rfl (show CompSc _ (J9 JM) ["fields","names","row","values"] ["fields","names","row","values"] from Jx (by decide +kernel)) (J64 rfl (pvl 1)) (fun _ _ _ _ _=>(pgl 0 (show (["name","fields","names","row","values"]:List Str).Nodup by decide +kernel))) (fun _ _ _ _ _=>J06) (fun _ _ _ _ _=>(Jo (JB rfl) (pvc 3) (Jm T.d_field_at (ok_field_at T) (hr.mono (by decide)) rfl (by decide) rfl (pal rfl (pvc 1) (pal rfl (pvl 0) Ja))) (fun _ _=>rfl)))))
   (Jf (Jn (J0y ["many"] ["fields","names","row","values"] rfl (show CompSc _ (J9 JM) ["fields","names","row","values"] ["fields","names","row","values"] from Jx (by decide +kernel)) (J0a rfl T.n_range (pal rfl (Jj J0o (JJ (J0z rfl) T.n_len JL rfl (by decide) (by decide) rfl (pal rfl (pvc 3) Ja)) Je) Ja)) (fun _ _ _ _ _=>(pgl 0 (show (["many","fields","names","row","values"]:List Str).Nodup by decide +kernel))) (fun _ _ _ _ _=>J06) (fun _ _ _ _ _=>(J0B (J1Q rfl) T.n_tuple J1m rfl (by decide) (by decide) rfl (pal rfl (J0G (J36 rfl) (pvc 4) J19 (J0U (pvl 0))) Ja))))))),?_⟩
  generalize hB:J82 (J4g _ (J6c _) _ _ _)=B
  walk_at "dl"
  refine ⟨⟨_,.of hn⟩,?_⟩
  refine comp_of (as:=is) (g:=fun i=>V.str (ns.getD i Jv)) J1T (Jc (by omega)) (fun H' q=>q.seqT (.of hn)) (fun _=>true) (fun i=>rs.getD i .non) (fun n H1 Q' _ s1 q=>?_) (fun n H1 Q' hin _ s1 q=>?_) (fun H1 s1 D hD=>?_)
  ·exact q H1 (Same.refl _)
  ·have hil:=hi n hin
   have hin':n<ns.length:=by rw [hF.1,← hF.2.1];exact hil
   have hir:n<rs.length:=by rw [hR.1];exact hil
   walk_at "dl"
   refine ⟨xs,s1 _ _ hl,⟨ns,⟨kds,hF.mono s1⟩,n,by rw [List.getElem?_eq_getElem hin',List.getD_eq_getElem?_getD,List.getElem?_eq_getElem hin'];rfl,fun H2 s2=>?_⟩⟩
   exact ⟨r,rs,_,_,rfl,rfl,.of ((s1.trans s2) _ _ hr'),Jl (by rw [List.getElem?_eq_getElem hir,List.getD_eq_getElem?_getD,List.getElem?_eq_getElem hir];rfl),q H2 s2⟩
  obtain ⟨ty,enV⟩:=J5N hR hi
  rw [List.filter_eq_self.mpr (fun _ _=>rfl),← enV]
  have hpl:(pj is rs).length=is.length:=by simp [pj]
  have s2:=s1.new hD (HO.lst ((pj is rs).map nV))
  have gD:upd H1 D (HO.lst ((pj is rs).map nV)) D=some (.lst ((pj is rs).map nV)):=Jb
  generalize upd H1 D (HO.lst ((pj is rs).map nV))=H2 at *
  clear hD
  subst hB
  walk_at "dl"
  refine ⟨_,.inl (.of gD),?_⟩
  rw [List.length_map,hpl]
  refine ⟨by omega,by omega,?_⟩
  rw [show ((is.length:Int)+1).toNat=is.length+1 by omega]
  refine J02 JR (by rw [JC];exact Jc (by omega)) (fun j ys H'=>Same H2 H'∧TupsV H' ys ((List.range j).map fun m=>(pj is rs).take m)) ⟨Same.refl _,.nil⟩ (fun _ _ _ _ _=>trivial) (fun j ys H' q=>by
   have:=Paired.length q.2
   rw [this,List.length_map,List.length_range];omega) (fun j x ys H3 hx q=>?_) (fun ys H3 q D3 hD3=>?_)
  ·obtain ⟨hj,rfl⟩:=J0b hx
   walk_at "dl"
   refine ⟨_,.of (q.1 _ _ gD),fun p hp=>⟨_,.inl ⟨.of Jb,fun l2 hl2=>⟨⟨_,rfl⟩,(q.1.new hp _).new hl2 _,?_⟩⟩⟩⟩
   have w2:=(Same.upd_new hp (HO.lst (J0M ((pj is rs).map nV) none (some (0+(j:Int)))))).new hl2 (HO.tup (J0M ((pj is rs).map nV) none (some (0+(j:Int)))))
   have e0:J0M ((pj is rs).map nV) none (some (0+(j:Int)))=((pj is rs).take j).map nV:=by rw [Int.zero_add,cut_to,List.map_take]
   rw [List.range_succ,List.map_append]
   exact Paired.snoc (q.2.mono w2) ⟨l2,rfl,by rw [Jb,e0]⟩
  ·rw [JC] at q
   exact k _ _ _ (none_of (s2.trans q.1) hD3) ((s2.trans q.1).new hD3 _) Jb (q.2.mono (Same.upd_new hD3 _))
def Rows (H:Hp)(kds:List Str)(xs:List V)(rs:List (List V)):Prop:=Paired (fun (x:V) (r:List V)=>∃ p,x=.ref p∧H p=some (.tup r)∧RowOk kds r) xs rs
theorem Rows.mono {H H':Hp}{kds:List Str}{xs:List V}{rs:List (List V)}(s:Same H H')(h:Rows H kds xs rs):Rows H' kds xs rs:=Paired.mapP h fun _ _ ⟨p,e,a,b⟩=>⟨p,e,s _ _ a,b⟩
theorem Paired.ix {α β:Type}{F:α→β→Prop}:∀ {xs:List α} {ys:List β} (_:Paired F xs ys) {i:Nat} {x:α},xs[i]?=some x→∃ y,ys[i]?=some y∧F x y
 | _,_,.nil,i,x,h=>by simp at h
 | _,_,.cons r t,0,x,h=>by cases h;exact ⟨_,rfl,r⟩
 | _,_,.cons r t,i+1,x,h=>Paired.ix t (i:=i) (by simpa using h)
theorem J8H {kds:List Str}{is:List Nat}{rs:List V}(hR:RowOk kds rs)(hi:∀ i∈is,i<kds.length)(m:Nat):TyL (is.map fun i=>kds.getD i Jv) ((pj is rs).take m):=TyL.take m (J5N hR hi).1
theorem Jax {tys:List Str}{L:List (List Ji)}(h:∀ a∈L,TyL tys a):J2a L:=⟨fun a ha=>(h a ha).ok,fun a ha b hb=>(h a ha).like (h b hb)⟩
theorem J6t (a:List (List Ji))(k:List Ji):(J5q a k).length≤a.length+1:=by
 unfold J5q
 split
 ·omega
 ·rw [List.length_append];exact Nat.le_refl _
theorem TyL.len:∀ {ts:List Str} {ks:List Ji},TyL ts ks→ks.length≤ts.length
 | _,[],_=>Nat.zero_le _
 | [],_::_,h=>False.elim h
 | _::_,_::_,h=>Nat.succ_le_succ (TyL.len h.2)
theorem TupsV.put {H:Hp}{ts:List V}{kss:List (List Ji)}{p:Addr}{o u:HO}(h:TupsV H ts kss)(hp:H p=some u)(hu:∀ zs,HO.tup zs≠u):TupsV (upd H p o) ts kss:=Paired.mapP h fun _ _ ⟨b,e,q⟩=>⟨b,e,(Jk (J3M q hp (hu _))).trans q⟩
theorem J88 {β:Type}{f:Nat→β}{n i:Nat}{y:β}(h:((List.range n).map f)[i]?=some y):i<n∧y=f i:=by
 rw [List.getElem?_map] at h
 obtain ⟨a,ha,rfl⟩:=Option.map_eq_some_iff.mp h
 obtain ⟨h1,h2⟩:=List.getElem?_eq_some_iff.mp ha
 rw [List.getElem_range] at h2
 rw [List.length_range] at h1
 exact ⟨h1,by rw [h2]⟩
noncomputable def J3X (is:List Nat)(rs:List V)(m:Nat)(a:List (List Ji)):List (List Ji):=(List.range m).foldl (fun a m=>J5q a ((pj is rs).take m)) a
theorem J2n (is:List Nat)(rs:List V)(m:Nat)(a:List (List Ji)):J3X is rs (m+1) a=J5q (J3X is rs m a) ((pj is rs).take m):=by
 unfold J3X
 rw [List.range_succ,List.foldl_append]
 rfl
theorem J7e {α β:Type}{f:α→β→α}{a:α}{l:List β}{j:Nat}{x:β}(h:l[j]?=some x):(l.take (j+1)).foldl f a=f ((l.take j).foldl f a) x:=by
 rw [J17 h,List.foldl_append]
 rfl
def J5B (K:PySem.W.Frag):Sp:=fun vs H Q _=>∃ (l ln lr:Addr) (xs xr:List V) (rss:List (List V)) (ns kds:List Str) (is:List Nat),vs=[.ref l,.ref ln,.ref lr]∧H l=some (.lst xs)∧FldsK H xs ns kds∧H ln=some (.tup (is.map fun i=>V.str (ns.getD i Jv)))∧(∀ i∈is,i<kds.length)∧is.length≤8∧H lr=some (.lst xr)∧Rows H kds xr rss∧rss.length≤100 ∧
 ∀ H' p ts kss,Same H H'→H' p=some (.lst ts)→TupsV H' ts kss→kss.Perm (J8G is rss)→kss.Pairwise (fun a b=>J1g a b=true)→(∀ a∈kss,TyL (is.map fun i=>kds.getD i Jv) a)→Q (.ref p) H'
theorem ok_heads_of (T:Txt K mg f fd):FnOk P w K mg base CX0 5 (f 26) (fd 26) ["fields","names","rows"] (J5B K):=by
 refine T.d_heads_of.F.ok J1o (fun vs H Q E h=>?_) (fun cdv A outer s H vs Q E hr h=>?_)
 ·obtain ⟨l,ln,lr,xs,xr,rss,ns,kds,is,rfl,_⟩:=h
  rfl
 ·obtain ⟨l,ln,lr,xs,xr,rss,ns,kds,is,rfl,hl,hF,hn,hi,hz,hlr,hR,hrz,k⟩:=h
  refine ⟨_,(Jd (psl 3 J1o.nd (J9B (J1F hr) (J0n Ja) J1b))
   (Jd (J0X PassesOwn.never rfl (J1q rfl (pvl 2)) (pgl 4 J1o.nd)
   (Jf (J0X PassesOwn.never rfl (J1q rfl (Jm T.d_paths_over (J1v T) (hr.mono (by decide)) rfl (by decide) rfl (pal rfl (pvl 0) (pal rfl (pvl 1) (pal rfl (pvl 4) Ja))))) (pgl 5 J1o.nd)
   (Jf (JaZ (J1F hr) (pvl 3) (pvl 5) J1b rfl)))))
   (Jf (Jn (J9x (J5R T) (hr.mono (by decide)) T.d_path_key.b T.d_path_key.m rfl (by decide) rfl rfl rfl T.n_sorted rfl (pal rfl (pvl 3) Ja)))))),?_⟩
  walk_at "dl"
  intro p hp
  refine ⟨Nat.zero_le _,fun p1 hp1=>?_⟩
  have ne:p≠p1:=fun e=>by rw [← e,Jb] at hp1;cases hp1
  refine ⟨(Jk ne).trans Jb,[],Jb,?_⟩
  have s1:Same H (upd (upd (upd H p (HO.dT [])) p1 (HO.tup [])) p (HO.dT [([],V.bl true)])):=((Same.upd_new hp _).new hp1 _).set hp _
  have g1:upd (upd (upd H p (HO.dT [])) p1 (HO.tup [])) p (HO.dT [([],V.bl true)]) p=some (HO.dT [([],V.bl true)]):=Jb
  generalize upd (upd (upd H p (HO.dT [])) p1 (HO.tup [])) p (HO.dT [([],V.bl true)])=H1 at *
  refine J0Y ?_
  walk_at "dl"
  refine ⟨⟨_,.of (s1 _ _ hlr)⟩,?_⟩
  have hrl:=Paired.length hR
  refine ForW.of J01 (fun j σ H'=>(∃ v4 v5,σ=[some (V.ref l),some (V.ref ln),some (V.ref lr),some (V.ref p),v4,v5])∧Same H H'∧∃ kvs,H' p=some (.dT kvs)∧kvs.map (·.1)=(rss.take j).foldl (J2o is) [[]]∧kvs.length≤1+9 * j∧∀ a∈kvs.map (·.1),TyL (is.map fun i=>kds.getD i Jv) a) ⟨⟨none,none,rfl⟩,s1,_,g1,rfl,by simp,fun a ha=>by
   obtain rfl:a=[]:=by simpa using ha
   cases is<;>trivial⟩ (fun _ _ _ _ q=>q.2.1.seq (.of hlr)) ?_ ?_
  ·rintro j x σ H2 hx ⟨⟨v4,v5,rfl⟩,s2,kvs,g2,ek,hkl,hty⟩
   obtain ⟨rs,hrs,q,rfl,hq,hok⟩:=Paired.ix hR hx
   have hj:j<rss.length:=(List.getElem?_eq_some_iff.mp hrs).1
   simp only [J0s]
   refine J0Y ?_
   walk_at "dl"
   refine ⟨l,ln,q,xs,rs,ns,kds,is,rfl,s2 _ _ hl,hF.mono s2,s2 _ _ hn,hi,hz,s2 _ _ hq,hok,fun H3 pl ts _ s3 g3 hts=>?_⟩
   have htl:=Paired.length hts
   rw [List.length_map,List.length_range] at htl
   refine ⟨pl,rfl,⟨_,.of g3⟩,ForW.of J01 (fun i σ H'=>(∃ v5,σ=[some (V.ref l),some (V.ref ln),some (V.ref lr),some (V.ref p),some (V.ref q),v5])∧Same H H'∧H' pl=some (.lst ts)∧TupsV H' ts ((List.range (is.length+1)).map fun m=>(pj is rs).take m)∧∃ kvs,H' p=some (.dT kvs)∧kvs.map (·.1)=J3X is rs i ((rss.take j).foldl (J2o is) [[]])∧kvs.length≤1+9 * j+i∧∀ a∈kvs.map (·.1),TyL (is.map fun i=>kds.getD i Jv) a) ⟨⟨v5,rfl⟩,s2.trans s3,g3,hts,kvs,s3 _ _ g2,ek,hkl,hty⟩ (fun _ _ _ _ q=>.of q.2.2.1) ?_ ?_⟩
   ·rintro i y σ H4 hy ⟨⟨v5,rfl⟩,s4,gp,tp,kvs',g4,ek',hkl',hty'⟩
    obtain ⟨ks,hks,b,rfl,hb⟩:=Paired.ix tp hy
    obtain ⟨hi2,rfl⟩:=J88 hks
    walk_at "dl"
    have e1:=J8a kvs' ((pj is rs).take i) (V.bl true)
    refine ⟨_,DPut.t g4 hb (by rw [sizeLine_eq];omega),⟨_,rfl⟩,s4.set hp _,(Jk (J3M gp g4 (fun z=>nomatch z))).trans gp,TupsV.put tp g4 (fun _ z=>nomatch z),_,Jb,?_,?_,?_⟩
    ·rw [e1,ek',J2n]
    ·have e2:=congrArg List.length e1
     rw [List.length_map] at e2
     have:=J6t (kvs'.map (·.1)) ((pj is rs).take i)
     rw [List.length_map] at this
     omega
    ·rw [e1]
     intro a ha
     rcases J6s.mp ha with ha | rfl
     ·exact hty' a ha
     ·exact J8H hok hi i
   ·rintro σ H4 ⟨⟨v5,rfl⟩,s4,gp,tp,kvs',g4,ek',hkl',hty'⟩
    refine ⟨⟨_,_,rfl⟩,s4,kvs',g4,?_,by omega,hty'⟩
    rw [ek',J7e hrs,htl]
    rfl
  ·rintro σ H2 ⟨⟨v4,v5,rfl⟩,s2,kvs,g2,ek,hkl,hty⟩
   rw [hrl,List.take_length] at ek
   walk_at "dl"
   refine ⟨kvs,g2,by omega,Jax hty,fun ks hks H3 b s3 hb=>⟨b,ks,rfl,hb,?_,fun H4 v s4 kv=>⟨s4,kv⟩⟩,fun Hn D ts kss sn hD tt pm pw=>?_⟩
   ·have:=(hty ks hks).len
    rw [List.length_map] at this
    omega
   ·exact k _ _ _ _ ((s2.trans sn).new hD _) Jb (tt.mono (Same.upd_new hD _)) (by unfold J8G;rw [← ek];exact pm) pw fun a ha=>hty a (pm.mem_iff.mp ha)
noncomputable def J9J:V→Bool
 | .non=>false
 | _=>true
noncomputable def J1G (rs:List (List V))(j:Nat):List V:=(rs.map fun r=>r.getD j .non).filter J9J
theorem J8C (rs:List (List V))(r:List V)(j:Nat):J1G (rs++[r]) j=if J9J (r.getD j .non)=true then J1G rs j++[r.getD j .non] else J1G rs j:=by
 unfold J1G
 rw [List.map_append,List.filter_append]
 by_cases c:J9J (r.getD j .non)=true
 ·rw [if_pos c,List.map_cons,List.map_nil,List.filter_cons,if_pos c]
  rfl
 ·rw [if_neg c,List.map_cons,List.map_nil,List.filter_cons,if_neg c]
  simp
theorem J6k (rs:List (List V))(i j:Nat):(J1G (rs.take i) j).length≤i:=by
 unfold J1G
 refine Nat.le_trans (List.length_filter_le _ _) ?_
 rw [List.length_map,List.length_take]
 omega
def RowsI (H:Hp)(kds:List Str)(xs:List V)(rs:List (List V)):Prop:=xs.length=rs.length∧∀ (i:Nat) x r,xs[i]?=some x→rs[i]?=some r→∃ p,x=.ref p∧H p=some (.tup r)∧RowOk kds r
theorem RowsI.mono {H H':Hp}{kds:List Str}{xs:List V}{rs:List (List V)}(s:Same H H')(h:RowsI H kds xs rs):RowsI H' kds xs rs:=⟨h.1,fun i x r a b=>by
 obtain ⟨p,e,g,k⟩:=h.2 i x r a b
 exact ⟨p,e,s _ _ g,k⟩⟩
theorem RowsI.at {H:Hp}{kds:List Str}{xs:List V}{rs:List (List V)}(h:RowsI H kds xs rs){i:Nat}{x:V}(hx:xs[i]?=some x):∃ p r,x=.ref p∧rs[i]?=some r∧H p=some (.tup r)∧RowOk kds r:=by
 have hi:i<rs.length:=by rw [← h.1];exact (List.getElem?_eq_some_iff.mp hx).1
 obtain ⟨p,e,g,k⟩:=h.2 i x _ hx (List.getElem?_eq_getElem hi)
 exact ⟨p,_,e,List.getElem?_eq_getElem hi,g,k⟩
theorem RowsI.ok {H:Hp}{kds:List Str}{xs:List V}{rs:List (List V)}(h:RowsI H kds xs rs):∀ r∈rs,RowOk kds r:=fun r hr=>by
 obtain ⟨i,hi⟩:=List.mem_iff_getElem?.mp hr
 have hx:i<xs.length:=by rw [h.1];exact (List.getElem?_eq_some_iff.mp hi).1
 obtain ⟨p,_,_,k⟩:=h.2 i _ r (List.getElem?_eq_getElem hx) hi
 exact k
theorem RowOk.at {kds:List Str}{r:List V}{j:Nat}{kd:Str}(h:RowOk kds r)(hk:kds[j]?=some kd):r[j]?=some (r.getD j .non)∧(r.getD j .non=.non∨J7m kd (r.getD j .non)):=by
 have hj:j<r.length:=by rw [h.1];exact (List.getElem?_eq_some_iff.mp hk).1
 have e:r[j]?=some (r.getD j .non):=by rw [List.getD_eq_getElem?_getD,List.getElem?_eq_getElem hj];rfl
 exact ⟨e,h.2 j _ kd e hk⟩
theorem JcI {kds:List Str}{rs:List (List V)}{j:Nat}{kd:Str}(h:∀ r∈rs,RowOk kds r)(hk:kds[j]?=some kd):∀ v∈J1G rs j,J7m kd v:=fun v hv=>by
 unfold J1G at hv
 obtain ⟨h1,h2⟩:=List.mem_filter.mp hv
 obtain ⟨r,hr,rfl⟩:=List.mem_map.mp h1
 rcases ((h r hr).at hk).2 with e | e
 ·rw [e] at h2
  cases h2
 ·exact e
theorem J5g:∀ {vs:List V},(∀ v∈vs,J7m numS v)→∃ zs:List Int,vs=zs.map V.int
 | [],_=>⟨[],rfl⟩
 | v::vs,h=>by
   obtain ⟨zs,e⟩:=J5g fun u hu=>h u (List.mem_cons_of_mem _ hu)
   rcases h v List.mem_cons_self with ⟨z,_⟩ | ⟨_,i,rfl⟩
   ·exact absurd z (by decide)
   ·exact ⟨i::zs,by rw [e];rfl⟩
theorem strs_of:∀ {vs:List V},(∀ v∈vs,J7m Jv v)→∃ zs:List Str,vs=zs.map V.str
 | [],_=>⟨[],rfl⟩
 | v::vs,h=>by
   obtain ⟨zs,e⟩:=strs_of fun u hu=>h u (List.mem_cons_of_mem _ hu)
   rcases h v List.mem_cons_self with ⟨_,z,rfl,_⟩ | ⟨z,_⟩
   ·exact ⟨z::zs,by rw [e];rfl⟩
   ·exact absurd z (by decide)
noncomputable def dd (vs:List V):List V:=vs.foldl (fun acc x=>if x∈acc then acc else acc++[x]) []
theorem J7S (vs:List V)(x:V):dd (vs++[x])=if x∈dd vs then dd vs else dd vs++[x]:=by
 unfold dd
 rw [List.foldl_append]
 rfl
theorem JaR {P:List V→Prop}(h0:P [])(h1:∀ vs x,P vs→P (vs++[x]))(l:List V):P l:=by
 rw [← List.reverse_reverse l]
 induction l.reverse with
 | nil=>exact h0
 | cons x vs ih =>
   rw [List.reverse_cons]
   exact h1 _ _ ih
theorem J9O (x:V)(vs:List V):x∈dd vs↔x∈vs:=by
 refine JaR (P:=fun vs=>x∈dd vs↔x∈vs) Iff.rfl (fun vs y ih=>?_) vs
 rw [J7S]
 by_cases c:y∈dd vs
 ·rw [if_pos c,ih,List.mem_append,List.mem_singleton]
  constructor
  ·exact .inl
  ·rintro (h | rfl)
   ·exact h
   ·exact ih.mp c
 ·rw [if_neg c,List.mem_append,List.mem_append,ih]
def Jdq (hd:Str)(vs:List V)(v:V):Prop :=
 (hd="sum"∧∃ zs:List Int,vs=zs.map V.int∧v=.int (zs.foldl (·+·) 0))∨(hd="greatest"∧((vs=[]∧v=.non)∨(v∈vs∧∀ u∈vs,gtV u v=false)))∨(hd="least"∧((vs=[]∧v=.non)∨(v∈vs∧∀ u∈vs,ltV u v=false)))∨(hd="unlike"∧v=.int ((dd vs).length:Int))
def JcT (hd kd:Str):Prop:=(hd="sum"∧kd=numS)∨hd="greatest"∨hd="least"∨hd="unlike"
def JbT (H:Hp)(fv:V)(ns kds:List Str)(rs:List (List V))(Res:V→Prop):Prop:=∃ q,fv=.ref q∧((H q=some (.tup [.str "count"])∧Res=fun v=>v=.int (rs.length:Int)) ∨
 ∃ (hd n:Str) (j:Nat) (kd:Str),H q=some (.tup [.str hd,.str n])∧ns[j]?=some n∧kds[j]?=some kd∧JcT hd kd∧Res=Jdq hd (J1G rs j))
theorem unl_dd {α:Type}[DecidableEq α][BEq α][LawfulBEq α](f:α→V)(inj:∀ a b,f a=f b→a=b)(zs:List α)(d:α):∀ k,k≤zs.length→unl (fun i=>zs.getD i d) k=(dd ((zs.take k).map f)).length
 | 0,_=>rfl
 | k + 1,h=>by
   have hk:k<zs.length:=h
   have ih:=unl_dd f inj zs d k (by omega)
   have e:(List.range k).map (fun i=>zs.getD i d)=zs.take k:=by
    clear ih h
    induction k with
    | zero=>rfl
    | succ k ih2 =>
      have hk':k<zs.length:=by omega
      rw [List.range_succ,List.map_append,ih2 hk',List.take_add_one,List.getElem?_eq_getElem hk']
      simp [List.getD_eq_getElem?_getD,List.getElem?_eq_getElem hk']
   rw [List.take_add_one,List.getElem?_eq_getElem hk,List.map_append]
   show _=(dd (_++[f zs[k]])).length
   rw [J7S]
   unfold unl
   rw [e,J28 (List.getElem?_eq_getElem hk)]
   by_cases c:zs[k]∈zs.take k
   ·rw [if_pos (by rw [List.any_eq_true];exact ⟨_,c,by simp⟩),if_pos ((J9O _ _).mpr (List.mem_map.mpr ⟨_,c,rfl⟩)),ih]
   ·rw [if_neg (by rw [List.any_eq_true];rintro ⟨x,hx,z⟩;exact c (by rw [← eq_of_beq z];exact hx)),if_neg (fun z=>?_),ih,List.length_append]
    ·rfl
    ·obtain ⟨a,ha,ea⟩:=List.mem_map.mp ((J9O _ _).mp z)
     exact c (by rw [← inj _ _ ea];exact ha)
def J4T (K:PySem.W.Frag):Sp:=fun vs H Q _=>∃ (l lr:Addr) (fv:V) (xs xr:List V) (ns kds:List Str) (rs:List (List V)) (Res:V→Prop),vs=[.ref l,fv,.ref lr]∧H l=some (.lst xs)∧FldsK H xs ns kds∧(∀ kd∈kds,kd=Jv∨kd=numS)∧H lr=some (.lst xr)∧RowsI H kds xr rs∧rs.length≤800∧JbT H fv ns kds rs Res ∧
 ∀ H' v,Same H H'→Res v→Q v H'
theorem ok_figure_of (T:Txt K mg f fd):FnOk P w K mg base CX0 2 (f 19) (fd 19) ["fields","figure","rows"] (J4T K):=by
 refine T.d_figure_of.F.ok J1J (fun vs H Q E h=>?_) (fun cdv A outer s H vs Q E hr h=>?_)
 ·obtain ⟨l,lr,fv,xs,xr,ns,kds,rs,Res,rfl,_⟩:=h
  rfl
 ·obtain ⟨l,lr,fv,xs,xr,ns,kds,rs,Res,rfl,hl,hF,hkk,hlr,hR,h100,⟨q,rfl,hA⟩,k⟩:=h
  refine ⟨_,(Jd (J00 (Jq J0N (Jo (JB rfl) (pvl 1) Je (fun _ _=>rfl)) Jp (Jr _))
   (Jf (Jn (JJ (J0z rfl) T.n_len JL rfl (by decide) (by decide) rfl (pal rfl (pvl 2) Ja))))
   Jt)
   (Jd (psc 3 J1J.nd (Jm T.d_field_at (ok_field_at T) (hr.mono (by decide)) rfl (by decide) rfl (pal rfl (pvl 0) (pal rfl (Jo (JB rfl) (pvl 1) Je (fun _ _=>rfl)) Ja))))
   (Jd (J25 ["row"] ["fields","figure","rows","place","values"] rfl (show CompSc _ (J9 J07) ["fields","figure","rows","place","values"] ["fields","figure","rows","place","values"] from Jx (by decide +kernel)) J1J.nd (i:=4) rfl rfl (J1q rfl (pvl 2)) (fun _ _ _ _ _=>(pgl 0 (show (["row","fields","figure","rows","place","values"]:List Str).Nodup by decide +kernel))) (fun _ _ _ _ _=>(J7E (Jq J7I (Jo (JB rfl) (pvl 0) (pvc 4) (fun _ _=>rfl)) J1t (Jr _)))) (fun _ _ _ _ _=>(Jo (JB rfl) (pvl 0) (pvc 4) (fun _ _=>rfl))))
   (Jd (J00 (Jq J0N (Jo (JB rfl) (pvl 1) Je (fun _ _=>rfl)) Jp (Jr _))
   (Jf (Jn (JJ (Jcw rfl rfl) T.n_sum JcJ rfl (by decide) (by decide) rfl (pal rfl (pvl 4) Ja))))
   Jt)
   (Jd (J00 (Jq J0N (Jo (JB rfl) (pvl 1) Je (fun _ _=>rfl)) Jp (Jr _))
   (Jf (Jn (Jb7 rfl rfl rfl T.n_max rfl (pal rfl (pvl 4) Ja) J1t)))
   Jt)
   (Jd (J00 (Jq J0N (Jo (JB rfl) (pvl 1) Je (fun _ _=>rfl)) Jp (Jr _))
   (Jf (Jn (Jb6 rfl rfl rfl T.n_min rfl (pal rfl (pvl 4) Ja) J1t)))
   Jt)
   (Jf (Jn (JJ J6m T.n_len JL rfl (by decide) (by decide) rfl (pal rfl (J0B (Jcz rfl rfl) T.n_set JcK rfl (by decide) (by decide) rfl (pal rfl (pvl 4) Ja)) Ja)))))))))),?_⟩
  walk_at "dc"
  have hxl:=hR.1
  rcases hA with ⟨hq,rfl⟩ | ⟨hd,n,j,kd,hq,hn,hkd,hhd,rfl⟩
  ·refine ⟨q,_,_,_,rfl,rfl,.of hq,Jl (j:=0) rfl,rfl,?_⟩
   rw [if_pos (by decide)]
   exact ⟨_,.inl (.of hlr),k _ _ (Same.refl _) (by rw [hxl])⟩
  ·have ix0:∀ (G:Hp) (R:VK),Same H G→R (.str hd) G→JaV K (.ref q) (.int 0) G R:=fun G R s r=>⟨q,_,_,_,rfl,rfl,.of (s _ _ hq),Jl (j:=0) rfl,r⟩
   refine ix0 H _ (Same.refl _) ⟨rfl,?_⟩
   have hc:hd≠"count":=by rcases hhd with ⟨rfl,_⟩ | rfl | rfl | rfl<;>decide
   rw [if_neg (by simpa using hc)]
   refine ⟨q,_,_,_,rfl,rfl,.of hq,Jl (j:=1) rfl,l,xs,ns,kds,n,j,rfl,hl,hF,hn,fun H1 s1=>⟨⟨_,.of (s1 _ _ hlr)⟩,?_⟩⟩
   have hR1:=hR.mono s1
   refine J02 (J01 (xs:=xr)) (Jc (by omega)) (fun i ys H'=>Same H1 H'∧ys=J1G (rs.take i) j) ⟨Same.refl _,rfl⟩ (fun _ _ H' _ q=>q.1.seq (.of (s1 _ _ hlr))) (fun i ys H' q=>by rw [q.2];exact J6k rs i j) (fun i x ys H2 hx q=>?_) (fun ys H2 q D hD=>?_)
   ·obtain ⟨t1,rfl⟩:=q
    obtain ⟨p,r,rfl,hr,hp,hok⟩:=hR1.at hx
    obtain ⟨e1,e2⟩:=hok.at hkd
    have hp2:=t1 _ _ hp
    have es:J1G (rs.take (i+1)) j=if J9J (r.getD j .non)=true then J1G (rs.take i) j++[r.getD j .non] else J1G (rs.take i) j:=by rw [J17 hr,J8C]
    generalize r.getD j .non=v at *
    walk_at "dc"
    refine ⟨p,_,_,_,rfl,rfl,.of hp2,Jl e1,?_⟩
    rcases e2 with rfl | e2
    ·rw [if_neg (by decide)]
     refine ⟨⟨_,rfl⟩,t1,?_⟩
     rw [es,if_neg (by decide)]
    ·have hnv:J9J v=true∧v≠.non:=by
      rcases e2 with ⟨_,z,rfl,_⟩ | ⟨_,i,rfl⟩
      ·exact ⟨rfl,by simp⟩
      ·exact ⟨rfl,by simp⟩
     rw [if_pos (by simpa using hnv.2)]
     refine ⟨p,_,_,_,rfl,rfl,.of hp2,Jl e1,⟨_,rfl⟩,t1,?_⟩
     rw [es,if_pos hnv.1]
   ·obtain ⟨t1,rfl⟩:=q
    rw [hxl,List.take_length]
    have ck:=JcI hR.ok hkd
    have u2:=(s1.trans t1).new hD (HO.lst (J1G rs j))
    have gD:upd H2 D (HO.lst (J1G rs j)) D=some (.lst (J1G rs j)):=Jb
    generalize upd H2 D (HO.lst (J1G rs j))=H3 at *
    have kinds:(∃ zs:List Int,J1G rs j=zs.map V.int)∨∃ zs:List Str,J1G rs j=zs.map V.str:=by
     rcases hkk kd (List.mem_of_getElem? hkd) with rfl | rfl
     ·exact .inr (strs_of ck)
     ·exact .inl (J5g ck)
    have hcl:(J1G rs j).length≤800:=by
     have:=J6k rs rs.length j
     rw [List.take_length] at this
     omega
    refine ix0 H3 _ u2 ⟨rfl,?_⟩
    by_cases cs:hd="sum"
    ·rw [if_pos (by simpa using cs)]
     have hkn:kd=numS:=by rcases hhd with ⟨_,e⟩ | rfl | rfl | rfl;exact e;all_goals exact absurd cs (by decide)
     subst hkn
     obtain ⟨zs,ez⟩:=J5g ck
     exact ⟨D,zs,rfl,.of (by rw [gD,ez]),k _ _ u2 (.inl ⟨cs,zs,ez,rfl⟩)⟩
    rw [if_neg (by simpa using cs)]
    refine ix0 H3 _ u2 ⟨rfl,?_⟩
    by_cases cg:hd="greatest"
    ·rw [if_pos (by simpa using cg)]
     exact ⟨D,_,rfl,.of gD,kinds,fun e=>k _ _ u2 (.inr (.inl ⟨cg,.inl ⟨e,rfl⟩⟩)),fun v hv hb=>k _ _ u2 (.inr (.inl ⟨cg,.inr ⟨hv,hb⟩⟩))⟩
    rw [if_neg (by simpa using cg)]
    refine ix0 H3 _ u2 ⟨rfl,?_⟩
    by_cases ce:hd="least"
    ·rw [if_pos (by simpa using ce)]
     exact ⟨D,_,rfl,.of gD,kinds,fun e=>k _ _ u2 (.inr (.inr (.inl ⟨ce,.inl ⟨e,rfl⟩⟩))),fun v hv hb=>k _ _ u2 (.inr (.inr (.inl ⟨ce,.inr ⟨hv,hb⟩⟩)))⟩
    rw [if_neg (by simpa using ce)]
    have cu:hd="unlike":=by
     rcases hhd with ⟨e,_⟩ | e | e | e
     ·exact absurd e cs
     ·exact absurd e cg
     ·exact absurd e ce
     ·exact e
    rcases kinds with ⟨zs,ez⟩ | ⟨zs,ez⟩
    ·have hzl:zs.length≤800:=by rw [ez,List.length_map] at hcl;exact hcl
     refine .inr ⟨D,zs,rfl,.inl (.of (by rw [gD,ez])),by omega,fun pd hpd=>⟨pd,_,rfl,Jb,?_,?_⟩⟩
     ·exact Nat.le_trans (J4z _ _) (by omega)
     ·refine k _ _ (u2.new hpd _) (.inr (.inr (.inr ⟨cu,?_⟩)))
      rw [unl_dd V.int (fun a b e=>by injection e) zs 0 zs.length (Nat.le_refl _),List.take_length,ez]
    ·have hzl:zs.length≤800:=by rw [ez,List.length_map] at hcl;exact hcl
     refine .inl ⟨D,zs,rfl,.inl (.of (by rw [gD,ez])),by omega,fun pd hpd=>⟨pd,_,rfl,Jb,?_,?_⟩⟩
     ·exact Nat.le_trans (J4z _ _) (by omega)
     ·refine k _ _ (u2.new hpd _) (.inr (.inr (.inr ⟨cu,?_⟩)))
      rw [unl_dd V.str (fun a b e=>by injection e) zs Str.empty zs.length (Nat.le_refl _),List.take_length,ez]
def Fl (v:V):Prop:=v=.non∨(∃ i,v=.int i)∨∃ z,v=.str z∧JcR 12 z
theorem Fl.pl {K:PySem.W.Frag}{H:Hp}{v:V}(h:Fl v):∃ T,Pl K H v T:=by
 rcases h with rfl | ⟨i,rfl⟩ | ⟨z,rfl,hz⟩
 ·exact ⟨_,.of_non⟩
 ·exact ⟨_,.of_int⟩
 ·exact ⟨_,.of_str (Jc (by have:=hz.1;omega))⟩
theorem Fl.nk {v:V}(h:Fl v):nV (toN v)=v∧okN (toN v):=by
 rcases h with rfl | ⟨i,rfl⟩ | ⟨z,rfl,hz⟩
 ·exact ⟨rfl,trivial⟩
 ·exact ⟨rfl,trivial⟩
 ·exact ⟨rfl,J3x hz.2⟩
noncomputable def nmT (ns:List Str)(is:List Nat):HO:=.tup (is.map fun i=>V.str (ns.getD i Jv))
noncomputable def okP (kds:List Str)(is:List Nat)(ps:List V):Bool:=decide (ps.length≤is.length)&&(List.range ps.length).all fun j=>J2p (kds.getD (is.getD j 0) Jv) (ps.getD j .non)
structure Side (H:Hp)(l ln:Addr)(xs:List V)(ns kds:List Str)(is:List Nat):Prop where
 l:H l=some (.lst xs)
 F:FldsK H xs ns kds
 n:H ln=some (nmT ns is)
 i:∀ i∈is,i<kds.length
 few:is.length≤8
theorem Side.mono {H H':Hp}{l ln:Addr}{xs:List V}{ns kds:List Str}{is:List Nat}(s:Same H H')(h:Side H l ln xs ns kds is):Side H' l ln xs ns kds is:=⟨s _ _ h.l,h.F.mono s,s _ _ h.n,h.i,h.few⟩
theorem Side.at {H:Hp}{l ln:Addr}{xs:List V}{ns kds:List Str}{is:List Nat}(h:Side H l ln xs ns kds is){j:Nat}(hj:j<is.length):∃ i n kd p,is[j]?=some i∧is.getD j 0=i∧ns[i]?=some n∧ns.getD i Jv=n∧kds[i]?=some kd∧kds.getD i Jv=kd∧xs[i]?=some (.ref p)∧H p=some (.tup [.str n,.str kd]):=by
 have e:=List.getElem?_eq_getElem hj
 have hi:=h.i _ (List.getElem_mem hj)
 obtain ⟨p,n,kd,e1,e2,e3,e4⟩:=h.F.at (i:=is[j]) (by rw [← h.F.2.1];exact hi)
 exact ⟨is[j],n,kd,p,e,by rw [List.getD_eq_getElem?_getD,e];rfl,e2,by rw [List.getD_eq_getElem?_getD,e2];rfl,e3,by rw [List.getD_eq_getElem?_getD,e3];rfl,e1,e4⟩
def J45 (K:PySem.W.Frag)(f:Nat→Addr):Sp:=fun vs H Q E=>∃ (l ln lp:Addr) (xs ps:List V) (ns kds:List Str) (is:List Nat),vs=[.ref l,.ref ln,.ref lp]∧Side H l ln xs ns kds is∧H lp=some (.tup ps)∧(∀ v∈ps,Fl v)∧(okP kds is ps=true→∀ H',Same H H'→Q (.bl true) H')∧(okP kds is ps=false→∀ H',Same H H'→E (.ref (f 3)) none H')
theorem ok_asked_path (T:Txt K mg f fd):FnOk P w K mg base (CXE P w) 5 (f 21) (fd 21) ["fields","names","path"] (J45 K f):=by
 refine T.d_asked_path.F.okX J1r (fun vs H Q E h=>?_) (fun cdv A outer s H vs Q E hr h=>?_)
 ·obtain ⟨l,ln,lp,xs,ps,ns,kds,is,rfl,_⟩:=h
  rfl
 ·obtain ⟨l,ln,lp,xs,ps,ns,kds,is,rfl,hs,hp,hfl,k1,k0⟩:=h
  have hn:=hs.n
  unfold nmT at hn
  have few:=hs.few
  refine ⟨_,(Jd (J00 (Jq J3J (JJ (J0z rfl) T.n_len JL rfl (by decide) (by decide) rfl (pal rfl (pvl 2) Ja)) (JJ (J0z rfl) T.n_len JL rfl (by decide) (by decide) rfl (pal rfl (pvl 1) Ja)) (Jr _))
   (Jf (J5L J1H rfl T.x_NoHead.x rfl T.x_NoHead.m (by decide) rfl (pal rfl Jp Ja)))
   Jt)
   (Jd (J0X PassesOwn.leaving rfl (J9W rfl rfl T.n_zip (pal rfl (pvl 1) (pal rfl (pvl 2) Ja)) rfl rfl) (J65 rfl rfl (J0Q (pgl 3 J1r.nd) (J0Q (pgl 4 J1r.nd) J2z)))
   (Jf (J00 (J1X (J1j (Jm T.d_is_value (ok_is_value T) (hr.mono (by decide)) rfl (by decide) rfl (pal rfl (Jo (JB rfl) (Jo (J0S rfl) (pvl 0) (Jm T.d_field_at (ok_field_at T) (hr.mono (by decide)) rfl (by decide) rfl (pal rfl (pvl 0) (pal rfl (pvl 3) Ja))) (fun _ _=>rfl)) Je (fun _ _=>rfl)) (pal rfl (pvl 4) Ja)))))
   (Jf (J5L J1H rfl T.x_NoHead.x rfl T.x_NoHead.m (by decide) rfl (pal rfl Jp Ja)))
   Jt)))
   (Jf (Jn J1b)))),?_⟩
  walk_at "dc"
  refine ⟨_,.inr (.of hp),_,.inr (.of hn),?_⟩
  rw [List.length_map]
  by_cases hl:is.length<ps.length
  ·rw [if_pos (decide_eq_true (by omega))]
   exact ⟨Jc (by decide),k0 (by unfold okP;rw [decide_eq_false (by omega),Bool.false_and]) H (Same.refl _)⟩
  ·rw [if_neg (by simp;omega)]
   refine J0Y ?_
   walk_at "dc"
   refine ⟨⟨_,.of hn⟩,⟨_,.of hp⟩,ForW.zipU (xs:=is.map fun i=>V.str (ns.getD i Jv)) (ys:=ps) (fun j σ H'=>(∃ v3 v4,σ=[some (V.ref l),some (V.ref ln),some (V.ref lp),v3,v4])∧Same H H'∧∀ m,m<j→J2p (kds.getD (is.getD m 0) Jv) (ps.getD m .non)=true) ⟨⟨none,none,rfl⟩,Same.refl _,fun _ hm=>absurd hm (by omega)⟩ (fun _ _ _ q=>⟨q.2.1.seqT (.of hn),q.2.1.seqT (.of hp)⟩) ?_ ?_⟩
   ·rintro j x y σ H1 p hx hy ⟨⟨v3,v4,rfl⟩,s1,al⟩ hp0
    have hjp:=(List.getElem?_eq_some_iff.mp hy).1
    obtain ⟨i,n,kd,pf,a1,a2,a3,a4,a5,a6,a7,a8⟩:=hs.at (show j<is.length by omega)
    rw [List.getElem?_map,a1] at hx
    obtain rfl:V.str n=x:=by rw [← a4];exact Option.some.inj hx
    have ey:ps.getD j .non=y:=by rw [List.getD_eq_getElem?_getD,hy];rfl
    have s2:=s1.new hp0 (HO.tup [V.str n,y])
    refine ⟨p,_,rfl,.of Jb,rfl,?_⟩
    generalize upd H1 p (HO.tup [V.str n,y])=H2 at *
    simp only [J22,J4b,J0s]
    walk_at "dc"
    have hs2:=hs.mono s2
    refine ⟨l,xs,ns,kds,n,i,rfl,hs2.l,hs2.F,a3,fun H3 s3=>?_⟩
    have S3:=s2.trans s3
    have hs3:=hs.mono S3
    obtain ⟨T,hT⟩:=(hfl y (List.mem_of_getElem? hy)).pl (K:=K) (H:=H3)
    refine ⟨l,xs,_,_,rfl,rfl,.of hs3.l,Jl a7,pf,_,_,_,rfl,rfl,.of (S3 _ _ a8),Jl (j:=1) rfl,kd,y,T,rfl,hT,fun H4 s4=>⟨_,rfl,?_⟩⟩
    cases hv:J2p kd y with
    | true =>
      rw [if_neg (by decide)]
      refine ⟨⟨_,rfl⟩,S3.trans s4,fun m hm=>?_⟩
      rcases Nat.lt_succ_iff_lt_or_eq.mp hm with hm | rfl
      ·exact al m hm
      ·rw [a2,a6,ey,hv]
    | false =>
      rw [if_pos (by decide)]
      refine ⟨Jc (by decide),k0 ?_ H4 (S3.trans s4)⟩
      unfold okP
      rw [Bool.and_eq_false_iff]
      right
      rw [List.all_eq_false]
      exact ⟨j,List.mem_range.mpr hjp,by rw [a2,a6,ey,hv];decide⟩
   ·rintro σ H1 ⟨⟨v3,v4,rfl⟩,s1,al⟩
    walk_at "dc"
    refine k1 ?_ H1 s1
    unfold okP
    rw [decide_eq_true (by omega),Bool.true_and,List.all_eq_true]
    intro j hj
    have:=List.mem_range.mp hj
    exact al j (by rw [List.length_map];omega)
noncomputable def nkD:Ji→PyData
 | none=>.none
 | some (.inl i)=>.int i
 | some (.inr z)=>.str z
theorem J1Z {K:PySem.W.Frag}{H:Hp}:∀ k:Ji,Rep K H (nkD k) (nV k)
 | none=>by simp [Rep,nkD,nV]
 | some (.inl i)=>by simp [Rep,nkD,nV,kV]
 | some (.inr z)=>by simp [Rep,nkD,nV,kV]
theorem J0H:∀ {k:Ji},okN k→PyData.canLay0 (nkD k)=true∧PyData.depth (nkD k)=0
 | none,_=>by simp [nkD,PyData.canLay0,PyData.depth]
 | some (.inl i),_=>by simp [nkD,PyData.canLay0,PyData.depth]
 | some (.inr z),h=>by
   have h:PyData.strOk z=true:=h
   simp [nkD,PyData.canLay0,PyData.depth,h]
theorem J5T:∀ a b:Ji,PyData.eqv (nkD a) (nkD b)=decide (a=b)
 | none,none=>by simp [nkD,PyData.eqv]
 | none,some (.inl _)=>by simp [nkD,PyData.eqv]
 | none,some (.inr _)=>by simp [nkD,PyData.eqv]
 | some (.inl _),none=>by simp [nkD,PyData.eqv]
 | some (.inr _),none=>by simp [nkD,PyData.eqv]
 | some (.inl i),some (.inl j)=>by simp [nkD,PyData.eqv];rfl
 | some (.inl i),some (.inr j)=>by simp [nkD,PyData.eqv]
 | some (.inr i),some (.inl j)=>by simp [nkD,PyData.eqv]
 | some (.inr i),some (.inr j)=>by simp [nkD,PyData.eqv];rfl
theorem J5a {K:PySem.W.Frag}{H:Hp}:∀ ks:List Ji,(∀ k∈ks,okN k)→Reps K H (ks.map nkD) (ks.map nV)∧PyData.canLayAll0 (ks.map nkD)=true∧PyData.depthAll (ks.map nkD)=0
 | [],_=>by simp [Reps,PyData.canLayAll0,PyData.depthAll]
 | k :: ks,h=>by
   obtain ⟨r1,r2,r3⟩:=J5a (K:=K) (H:=H) ks fun x hx=>h x (List.mem_cons_of_mem _ hx)
   obtain ⟨q1,q2⟩:=J0H (h k List.mem_cons_self)
   refine ⟨?_,?_,?_⟩
   ·simp only [List.map_cons,Reps]
    exact ⟨_,_,rfl,J1Z k,r1⟩
   ·simp [PyData.canLayAll0,q1,r2]
   ·simp [PyData.depthAll,q2,r3]
theorem J6W:∀ as bs:List Ji,PyData.eqvAll (as.map nkD) (bs.map nkD)=decide (as=bs)
 | [],[]=>by simp [PyData.eqvAll]
 | [],_::_=>by simp [PyData.eqvAll]
 | _::_,[]=>by simp [PyData.eqvAll]
 | a::as,b::bs=>by
   simp only [List.map_cons,PyData.eqvAll,J5T,J6W as bs]
   by_cases h:a=b<;>simp [h]
noncomputable def ksD (ks:List Ji):PyData:=.tuple (ks.map nkD)
theorem Jde (kss:List (List Ji))(ks:List Ji):(kss.map ksD).any (fun e=>PyData.eqv e (ksD ks))=J7b kss ks:=by
 induction kss with
 | nil=>rfl
 | cons c bs ih =>
   have:PyData.eqv (ksD c) (ksD ks)=decide (c=ks):=by simp only [ksD,PyData.eqv];exact J6W c ks
   rw [List.map_cons,List.any_cons,ih,this]
   rfl
theorem J5f {K:PySem.W.Frag}{H:Hp}{b:Addr}{ks:List Ji}(hb:H b=some (.tup (ks.map nV)))(h:∀ k∈ks,okN k):Rep K H (ksD ks) (.ref b):=by
 simp only [ksD,Rep]
 exact ⟨b,_,rfl,.of hb,(J5a ks h).1⟩
theorem J2Y {ks:List Ji}(h:∀ k∈ks,okN k):PyData.canLay0 (ksD ks)=true∧PyData.depth (ksD ks)=1:=by
 obtain ⟨_,q2,q3⟩:=J5a (K:=[]) (H:=fun _=>none) ks h
 exact ⟨by simp [ksD,PyData.canLay0,q2],by simp [ksD,PyData.depth,q3]⟩
theorem J9V {K:PySem.W.Frag}{H:Hp}:∀ {xs:List V} {kss:List (List Ji)},TupsV H xs kss→(∀ a∈kss,∀ k∈a,okN k)→Reps K H (kss.map ksD) xs∧PyData.canLayAll0 (kss.map ksD)=true∧PyData.depthAll (kss.map ksD)≤1
 | _,_,.nil,_=>by simp [Reps,PyData.canLayAll0,PyData.depthAll]
 | _,_,.cons (a:=x) (b:=ks) ⟨b,e,hb⟩ t,h=>by
   obtain ⟨r1,r2,r3⟩:=J9V (K:=K) t fun a ha=>h a (List.mem_cons_of_mem _ ha)
   obtain ⟨q1,q2⟩:=J2Y (h _ List.mem_cons_self)
   refine ⟨?_,?_,?_⟩
   ·simp only [List.map_cons,Reps]
    exact ⟨_,_,rfl,e ▸ J5f hb (h _ List.mem_cons_self),r1⟩
   ·simp [PyData.canLayAll0,q1,r2]
   ·simp only [List.map_cons,PyData.depthAll,q2]
    omega
theorem Jdt {K:PySem.W.Frag}{H:Hp}{x y:Ji}{Q:VK}(hx:okN x)(hy:okN y)(q:Q (.bl (!decide (x=y))) H):J89 K true (nV x) (nV y) H Q:=by
 obtain ⟨a1,a2⟩:=J0H hx
 obtain ⟨b1,b2⟩:=J0H hy
 exact ⟨_,_,J1Z x,J1Z y,by simp only [SeqAt.shaped,a1,a2];decide,by simp only [SeqAt.shaped,b1,b2];decide,by rw [J5T];exact q⟩
theorem Jd2 {K:PySem.W.Frag}{H:Hp}{x y:Ji}{Q:VK}(hx:okN x)(hy:okN y)(q:Q (.bl (decide (x=y))) H):J89 K false (nV x) (nV y) H Q:=by
 have sh:∀ {k:Ji},okN k→SeqAt.shaped (nkD k)=true:=fun {k} hk=>by
  unfold SeqAt.shaped
  rw [(J0H hk).1,(J0H hk).2]
  rfl
 refine ⟨_,_,J1Z x,J1Z y,sh hx,sh hy,?_⟩
 rw [J5T]
 exact q
noncomputable def J20 (is:List Nat)(rs ps:List V):Bool:=decide (ps.length≤is.length)&&decide ((pj is rs).take ps.length=ps.map toN)
theorem RowS.fl {kds:List Str}{rs:List V}(h:RowS kds rs){i:Nat}(hi:i<kds.length):rs[i]?=some (rs.getD i .non)∧Fl (rs.getD i .non):=by
 have hl:i<rs.length:=by rw [h.1];exact hi
 have e:=List.getElem?_eq_getElem hl
 have e2:rs.getD i .non=rs[i]:=by rw [List.getD_eq_getElem?_getD,e];rfl
 rw [e2]
 refine ⟨e,?_⟩
 rcases h.2 i _ _ e (List.getElem?_eq_getElem hi) with h | h
 ·exact .inl h
 ·rcases h with ⟨_,z,e,hz⟩ | ⟨_,j,e,_⟩
  ·exact .inr (.inr ⟨z,e,hz.2.1,fun c hc=>J8L c (hz.2.2 c hc)⟩)
  ·exact .inr (.inl ⟨j,e⟩)
theorem J15 {α:Type}{l:List α}{m:Nat}{x d:α}(h:l[m]?=some x):l.getD m d=x:=by rw [List.getD_eq_getElem?_getD,h];rfl
theorem J9R {is:List Nat}{rs ps:List V}(h:ps.length≤is.length):((List.range ps.length).map fun m=>decide (toN (rs.getD (is.getD m 0) .non)=toN (ps.getD m .non))).all id=J20 is rs ps:=by
 unfold J20
 rw [decide_eq_true h,Bool.true_and,Bool.eq_iff_iff,List.all_eq_true,decide_eq_true_eq]
 constructor
 ·intro a
  apply List.ext_getElem?
  intro m
  by_cases hm:m<ps.length
  ·have hmi:m<is.length:=by omega
   have:=a (decide (toN (rs.getD (is.getD m 0) .non)=toN (ps.getD m .non))) (List.mem_map.mpr ⟨m,List.mem_range.mpr hm,rfl⟩)
   have e:=of_decide_eq_true (show decide (_=_)=true from this)
   unfold pj
   rw [List.getElem?_take,if_pos hm,List.getElem?_map,List.getElem?_map,List.getElem?_eq_getElem hmi,List.getElem?_eq_getElem hm,Option.map_some,Option.map_some]
   rw [J15 (List.getElem?_eq_getElem hmi),J15 (l:=ps) (List.getElem?_eq_getElem hm)] at e
   rw [e]
  ·rw [List.getElem?_eq_none (by rw [List.length_take];omega),List.getElem?_eq_none (by rw [List.length_map];omega)]
 ·intro e b hb
  obtain ⟨m,hm,rfl⟩:=List.mem_map.mp hb
  have hm:=List.mem_range.mp hm
  have hmi:m<is.length:=by omega
  have e2:=congrArg (fun l=>l[m]?) e
  simp only [pj,List.getElem?_take,if_pos hm,List.getElem?_map,List.getElem?_eq_getElem hmi,List.getElem?_eq_getElem hm,Option.map_some,Option.some.injEq] at e2
  show decide _=true
  rw [J15 (List.getElem?_eq_getElem hmi),J15 (l:=ps) (List.getElem?_eq_getElem hm)]
  exact decide_eq_true e2
def J43 (K:PySem.W.Frag):Sp:=fun vs H Q _=>∃ (l ln lp lr:Addr) (xs ps rs:List V) (ns kds:List Str) (is:List Nat),vs=[.ref l,.ref ln,.ref lp,.ref lr]∧Side H l ln xs ns kds is∧H lp=some (.tup ps)∧(∀ v∈ps,Fl v)∧H lr=some (.tup rs)∧RowS kds rs∧∀ H',Same H H'→Q (.bl (J20 is rs ps)) H'
theorem ok_lies_under (T:Txt K mg f fd):FnOk P w K mg base CX0 2 (f 22) (fd 22) ["fields","names","path","row"] (J43 K):=by
 refine T.d_lies_under.F.ok J48 (fun vs H Q E h=>?_) (fun cdv A outer s H vs Q E hr h=>?_)
 ·obtain ⟨l,ln,lp,lr,xs,ps,rs,ns,kds,is,rfl,_⟩:=h
  rfl
 ·obtain ⟨l,ln,lp,lr,xs,ps,rs,ns,kds,is,rfl,hs,hp,hfl,hrw,hR,k⟩:=h
  have hn:=hs.n
  unfold nmT at hn
  have few:=hs.few
  refine ⟨_,(Jd (J00 (Jq J3J (JJ (J0z rfl) T.n_len JL rfl (by decide) (by decide) rfl (pal rfl (pvl 2) Ja)) (JJ (J0z rfl) T.n_len JL rfl (by decide) (by decide) rfl (pal rfl (pvl 1) Ja)) (Jr _))
   (Jf (Jn J1b))
   Jt)
   (Jf (Jn (JJ (JbK rfl rfl) T.n_all Jas rfl (by decide) (by decide) rfl (pal rfl (J0y ["name","value"] ["fields","names","path","row"] rfl (show CompSc _ (J9 JV) ["fields","names","path","row"] ["fields","names","path","row"] from Jx (by decide +kernel)) (J9W rfl rfl T.n_zip (pal rfl (pvl 1) (pal rfl (pvl 2) Ja)) rfl rfl) (fun _ _ _ _ _=>(Jb4 K 0 1 (show (["name","value","fields","names","path","row"]:List Str).Nodup by decide +kernel))) (fun _ _ _ _ _=>J06) (fun _ _ _ _ _=>(J1a (J7M rfl hr.units) (Jo (JB rfl) (pvc 5) (Jm T.d_field_at (ok_field_at T) (hr.mono (by decide)) rfl (by decide) rfl (pal rfl (pvc 2) (pal rfl (pvl 0) Ja))) (fun _ _=>rfl)) (pvl 1) (Jr _)))) Ja))))),?_⟩
  walk_at "dc"
  refine ⟨_,.inr (.of hp),_,.inr (.of hn),?_⟩
  rw [List.length_map]
  by_cases hl:is.length<ps.length
  ·rw [if_pos (decide_eq_true (by omega))]
   have e:J20 is rs ps=false:=by unfold J20;rw [decide_eq_false (by omega),Bool.false_and]
   rw [← e]
   exact k H (Same.refl _)
  ·rw [if_neg (by simp;omega)]
   refine ⟨⟨_,.of hn⟩,⟨_,.of hp⟩,?_⟩
   refine J8z (xs:=is.map fun i=>V.str (ns.getD i Jv)) (ys:=ps) (by rw [List.length_map];exact Jc (by omega)) (fun j zs σ H'=>(∃ v0 v1,σ=[v0,v1,some (V.ref l),some (V.ref ln),some (V.ref lp),some (V.ref lr)])∧Same H H'∧zs=((List.range j).map fun m=>decide (toN (rs.getD (is.getD m 0) .non)=toN (ps.getD m .non))).map V.bl) ⟨⟨none,none,rfl⟩,Same.refl _,rfl⟩ (fun _ _ _ _ q=>⟨⟨q.2.1.seqT (.of hn),q.2.1.seqT (.of hp)⟩,by rw [q.2.2];simp⟩) ?_ ?_
   ·rintro j x y zs σ H1 p hx hy ⟨⟨v0,v1,rfl⟩,s1,rfl⟩ hp0
    obtain ⟨i,n,kd,pf,a1,a2,a3,a4,a5,a6,a7,a8⟩:=hs.at (show j<is.length by have:=(List.getElem?_eq_some_iff.mp hy).1;omega)
    rw [List.getElem?_map,a1] at hx
    obtain rfl:V.str n=x:=by rw [← a4];exact Option.some.inj hx
    have ey:ps.getD j .non=y:=by rw [List.getD_eq_getElem?_getD,hy];rfl
    have s2:=s1.new hp0 (HO.tup [V.str n,y])
    have g2:upd H1 p (HO.tup [V.str n,y]) p=some (.tup [V.str n,y]):=Jb
    refine ⟨p,_,rfl,.of g2,rfl,?_⟩
    generalize upd H1 p (HO.tup [V.str n,y])=H2 at *
    simp only [J22,J4b,J0s]
    walk_at "dc"
    have hs2:=hs.mono s2
    refine ⟨xs,hs2.l,ns,⟨kds,hs2.F⟩,i,a3,fun H3 s3=>?_⟩
    have S3:=s2.trans s3
    have hil:i<kds.length:=(List.getElem?_eq_some_iff.mp a5).1
    obtain ⟨b1,b2⟩:=hR.fl hil
    obtain ⟨c1,c2⟩:=b2.nk
    obtain ⟨d1,d2⟩:=(hfl y (List.mem_of_getElem? hy)).nk
    refine ⟨lr,_,_,_,rfl,rfl,.of (S3 _ _ hrw),Jl b1,?_⟩
    have fin:J89 K false (nV (toN (rs.getD i .non))) (nV (toN y)) H3 fun v H4=>(∃ v0 v1,[some (V.str n),some y,some (V.ref l),some (V.ref ln),some (V.ref lp),some (V.ref lr)]=[v0,v1,some (V.ref l),some (V.ref ln),some (V.ref lp),some (V.ref lr)])∧Same H H4∧((List.range j).map fun m=>decide (toN (rs.getD (is.getD m 0) .non)=toN (ps.getD m .non))).map V.bl++[v]=((List.range (j+1)).map fun m=>decide (toN (rs.getD (is.getD m 0) .non)=toN (ps.getD m .non))).map V.bl:=by
     refine Jd2 c2 d2 ⟨⟨_,_,rfl⟩,S3,?_⟩
     rw [List.range_succ,List.map_append,List.map_append,List.map_cons,List.map_nil,List.map_cons,List.map_nil,a2,ey]
    rw [c1,d1] at fin
    simpa using fin
   ·rintro zs σ H1 ⟨⟨v0,v1,rfl⟩,s1,rfl⟩ D hD
    rw [List.length_map,Nat.min_eq_right (by omega)]
    refine ⟨_,.of Jb,?_⟩
    rw [J9R (by omega)]
    exact k _ (s1.new hD _)
def J5z (K:PySem.W.Frag):Sp:=fun vs H Q _=>∃ (v:Addr) (a b c:V) (sd:Str),vs=[.ref v,.str sd]∧H v=some (.tup [a,b,c])∧Q (if sd="rows" then a else b) H
theorem J5S (T:Txt K mg f fd):FnOk P w K mg base CX0 1 (f 24) (fd 24) ["view","side"] (J5z K):=by
 refine T.d_names_of.F.ok J5F (fun vs H Q E h=>?_) (fun cdv A outer s H vs Q E hr h=>?_)
 ·obtain ⟨v,a,b,c,sd,rfl,_⟩:=h
  rfl
 ·obtain ⟨v,a,b,c,sd,rfl,hv,k⟩:=h
  refine ⟨_,(Jf (Jn (J5P (Jq J0N (pvl 1) Jp (Jr _)) (Jo (JB rfl) (pvl 0) Je (fun _ _=>rfl)) (Jo (JB rfl) (pvl 0) Je (fun _ _=>rfl))))),?_⟩
  walk_at "dc"
  by_cases e:sd=Str.ofString "rows"
  ·rw [if_pos (by simpa using e)]
   rw [if_pos e] at k
   exact ⟨v,_,_,_,rfl,rfl,.of hv,Jl (j:=0) rfl,k⟩
  ·rw [if_neg (by simpa using e)]
   rw [if_neg e] at k
   exact ⟨v,_,_,_,rfl,rfl,.of hv,Jl (j:=1) rfl,k⟩
def PrAt' (H:Hp)(kds:List Str)(x:V):Prop:=∃ (p r:Addr) (n:Int) (rs:List V),x=.ref p∧H p=some (.tup [.int n,.ref r])∧H r=some (.tup rs)∧RowS kds rs
theorem PrAt'.mono {H H':Hp}{kds:List Str}{x:V}(t:∀ c ys,H c=some (.tup ys)→H' c=some (.tup ys))(h:PrAt' H kds x):PrAt' H' kds x:=by
 obtain ⟨p,r,n,rs,e,h1,h2,h3⟩:=h
 exact ⟨p,r,n,rs,e,t _ _ h1,t _ _ h2,h3⟩
def BoxOk (H:Hp)(kds:List Str)(av:Addr→Prop)(m:Nat)(kvs:List (NPK×V)):Prop:=∀ kv∈kvs,∃ l xp,kv.2=.ref l∧H l=some (.lst xp)∧¬ av l∧xp.length≤m∧∀ x∈xp,PrAt' H kds x
theorem BoxOk.go {H H':Hp}{kds:List Str}{av:Addr→Prop}{m:Nat}{kvs:List (NPK×V)}(t:∀ c ys,H c=some (.tup ys)→H' c=some (.tup ys))(g:∀ c ys,H c=some (.lst ys)→H' c=some (.lst ys))(h:BoxOk H kds av m kvs):BoxOk H' kds av m kvs:=fun kv hk=>by
 obtain ⟨l,xp,e,h1,h2,h3,h4⟩:=h kv hk
 exact ⟨l,xp,e,g _ _ h1,h2,h3,fun x hx=>(h4 x hx).mono t⟩
theorem BoxOk.mono {H H':Hp}{kds:List Str}{av:Addr→Prop}{m:Nat}{kvs:List (NPK×V)}(s:Same H H')(h:BoxOk H kds av m kvs):BoxOk H' kds av m kvs:=h.go (fun _ _ z=>s _ _ z) fun _ _ z=>s _ _ z
theorem BoxOk.off {H:Hp}{kds:List Str}{av:Addr→Prop}{m:Nat}{kvs:List (NPK×V)}{p:Addr}(hp:H p=none)(h:BoxOk H kds av m kvs):BoxOk H kds (fun c=>av c∨c=p) m kvs:=fun kv hk=>by
 obtain ⟨l,xp,e,h1,h2,h3,h4⟩:=h kv hk
 refine ⟨l,xp,e,h1,fun z=>?_,h3,h4⟩
 rcases z with z | rfl
 ·exact h2 z
 ·rw [hp] at h1;cases h1
theorem BoxOk.less {H:Hp}{kds:List Str}{av av':Addr→Prop}{m m':Nat}{kvs:List (NPK×V)}(hm:m≤m')(ha:∀ x,av' x→av x)(h:BoxOk H kds av m kvs):BoxOk H kds av' m' kvs:=fun kv hk=>by
 obtain ⟨l,xp,e,h1,h2,h3,h4⟩:=h kv hk
 exact ⟨l,xp,e,h1,fun z=>h2 (ha l z),by omega,h4⟩
theorem BoxOk.more {H:Hp}{kds:List Str}{av:Addr→Prop}{m:Nat}{kvs:List (NPK×V)}{l:Addr}{xp:List V}{x:V}(h:BoxOk H kds av m kvs)(hl:H l=some (.lst xp))(hm:xp.length≤m)(ho:∀ x∈xp,PrAt' H kds x)(hx:PrAt' H kds x):BoxOk (upd H l (.lst (xp++[x]))) kds av (m+1) kvs:=fun kv hk=>by
 obtain ⟨l',xp',e,h1,h0,h2,h3⟩:=h kv hk
 have t:∀ c ys,H c=some (.tup ys)→upd H l (.lst (xp++[x])) c=some (.tup ys):=fun c ys z=>by
  rw [Jk (J3M z hl (fun q=>nomatch q))]
  exact z
 by_cases c:l'=l
 ·subst c
  refine ⟨l',xp++[x],e,Jb,h0,by rw [List.length_append,List.length_singleton];omega,fun y hy=>?_⟩
  rcases List.mem_append.mp hy with hy | hy
  ·exact (ho y hy).mono t
  ·rw [List.mem_singleton.mp hy];exact hx.mono t
 ·exact ⟨l',xp',e,by rw [Jk c];exact h1,h0,by omega,fun y hy=>(h3 y hy).mono t⟩
theorem ND.same {P:Program}{w:World}{H H':Hp}{a:Addr}{kvs:List (NPK×V)}(s:Same H H')(h:ND P w H a kvs):ND P w H' a kvs:=by
 obtain ⟨h1,xs,h2,h3⟩:=h
 exact ⟨h1,xs,s _ _ h2,h3.mono fun c ys z=>s _ _ z⟩
theorem Jaf {P:Program}{w:World}{H:Hp}{a c:Addr}{kvs:List (NPK×V)}{o:HO}(g:ND P w H a kvs)(h:H c=some o)(ho:∀ φ,o≠.ext φ):c≠a:=fun z=>by
 obtain ⟨_,xs,e,_⟩:=g
 rw [z,e] at h
 exact ho _ (Option.some.inj h).symm
theorem J7X {P:Program}{w:World}{H0 H:Hp}{kds:List Str}{av:Addr→Prop}{m:Nat}{kvs:List (NPK×V)}{b l p r:Addr}{xp rs:List V}{n:Int}(s:Same H0 H)(hav:∀ c,H0 c≠none→av c)(g:ND P w H b kvs)(h:BoxOk H kds av m kvs)(hl:H l=some (.lst xp))(hla:¬ av l)(hm:xp.length≤m)(ho:∀ x∈xp,PrAt' H kds x)(hp:H p=some (.tup [.int n,.ref r]))(hr:H r=some (.tup rs))(hR:RowS kds rs) :
 Same H0 (upd H l (.lst (xp++[.ref p])))∧(∀ c ys,H c=some (.tup ys)→upd H l (.lst (xp++[.ref p])) c=some (.tup ys))∧ND P w (upd H l (.lst (xp++[.ref p]))) b kvs∧BoxOk (upd H l (.lst (xp++[.ref p]))) kds av (m+1) kvs:=by
 have hl0:H0 l=none:=by
  cases q:H0 l with
  | none=>rfl
  | some u=>exact absurd (hav l (by rw [q];simp)) hla
 have t:∀ c ys,H c=some (.tup ys)→upd H l (.lst (xp++[.ref p])) c=some (.tup ys):=fun c ys z=>by
  rw [Jk (J3M z hl (fun q=>nomatch q))]
  exact z
 exact ⟨s.set hl0 _,t,ND.mono t (Jk (Ne.symm (Jaf g hl fun φ z=>nomatch z))) g,h.more hl hm ho ⟨p,r,n,rs,rfl,hp,hr,hR⟩⟩
theorem J5u {κ:Type}[DecidableEq κ]{kvs:List (κ×V)}{k:κ}{v:V}(h:J0t kvs k=some v):∃ kv∈kvs,kv.2=v:=by
 unfold J0t at h
 obtain ⟨kv,h1,h2⟩:=Option.map_eq_some_iff.mp h
 exact ⟨kv,List.mem_of_find?_eq_some h1,h2⟩
theorem putK_new {κ:Type}[DecidableEq κ]{kvs:List (κ×V)}{k:κ}{v:V}(h:J0t kvs k=none):J0W kvs k v=kvs++[(k,v)]:=by
 unfold J0W
 rw [if_neg]
 intro z
 rw [List.any_eq_true] at z
 obtain ⟨x,hx,hd⟩:=z
 unfold J0t at h
 rw [Option.map_eq_none_iff,List.find?_eq_none] at h
 exact h x hx hd
structure View (H:Hp)(v n0 n1 fg:Addr)(ns kds:List Str)(is0 is1:List Nat):Prop where
 v:H v=some (.tup [.ref n0,.ref n1,.ref fg])
 n0:H n0=some (nmT ns is0)
 n1:H n1=some (nmT ns is1)
 i0:∀ i∈is0,i<kds.length
 i1:∀ i∈is1,i<kds.length
 few0:is0.length≤3
 few1:is1.length≤3
theorem View.mono {H H':Hp}{v n0 n1 fg:Addr}{ns kds:List Str}{is0 is1:List Nat}(s:Same H H')(h:View H v n0 n1 fg ns kds is0 is1):View H' v n0 n1 fg ns kds is0 is1:=⟨s _ _ h.v,s _ _ h.n0,s _ _ h.n1,h.i0,h.i1,h.few0,h.few1⟩
def J2Q (P:Program)(w:World)(K:PySem.W.Frag):Sp:=fun vs H Q _=>∃ (l v lp n0 n1 fg:Addr) (xs xp:List V) (ns kds:List Str) (is0 is1:List Nat),vs=[.ref l,.ref v,.ref lp]∧H l=some (.lst xs)∧FldsK H xs ns kds∧View H v n0 n1 fg ns kds is0 is1∧H lp=some (.lst xp)∧xp.length≤40∧(∀ x∈xp,PrAt' H kds x) ∧
 ∀ H' b kvs,Same H H'→ND P w H' b kvs→BoxOk H' kds (fun c=>H c≠none) 800 kvs→Q (.ref b) H'
theorem ok_laid_in_boxes (T:Txt K mg f fd):FnOk P w K mg base CX0 3 (f 28) (fd 28) ["fields","view","pairs"] (J2Q P w K):=by
 refine T.d_laid_in_boxes.F.ok JS (fun vs H Q E h=>?_) (fun cdv A outer s H vs Q E hr h=>?_)
 ·obtain ⟨l,v,lp,n0,n1,fg,xs,xp,ns,kds,is0,is1,rfl,_⟩:=h
  rfl
 ·obtain ⟨l,v,lp,n0,n1,fg,xs,xp,ns,kds,is0,is1,rfl,hl,hF,hV,hlp,hxl,hx,k⟩:=h
  refine ⟨_,(Jd (psl 3 JS.nd J9A)
   (Jd (J0X PassesOwn.never rfl (J1q rfl (pvl 2)) (J65 rfl rfl (J0Q (pgl 4 JS.nd) (J0Q (pgl 5 JS.nd) J2z)))
   (Jd (psl 6 JS.nd (Jm T.d_paths_over (J1v T) (hr.mono (by decide)) rfl (by decide) rfl (pal rfl (pvl 0) (pal rfl (Jo (JB rfl) (pvl 1) Je (fun _ _=>rfl)) (pal rfl (pvl 5) Ja)))))
   (Jf (J0X PassesOwn.never rfl (J1q rfl (Jm T.d_paths_over (J1v T) (hr.mono (by decide)) rfl (by decide) rfl (pal rfl (pvl 0) (pal rfl (Jo (JB rfl) (pvl 1) Je (fun _ _=>rfl)) (pal rfl (pvl 5) Ja))))) (pgl 7 JS.nd)
   (Jf (J0X PassesOwn.never rfl (J1q rfl (pvl 6)) (pgl 8 JS.nd)
   (Jf (J0T (J37 rfl PySem.F.plainAttrs_list PySem.F.slot_list_append PySem.F.type_list_append J1E rfl rfl rfl rfl (J6R hr.units (pvl 3) (J0n (pal rfl (pvl 7) (pal rfl (pvl 8) Ja))) (J0c Ja) ⟨rfl,rfl,rfl,rfl⟩) (pal rfl (J0n (pal rfl (pvl 4) (pal rfl (pvl 5) Ja))) Ja))))))))))
   (Jf (Jn (pvl 3))))),?_⟩
  walk_at "dc"
  intro b zs hb hnd
  have s1:=Same.upd_new hb (dN P w b zs)
  generalize upd H b (dN P w b zs)=H1 at *
  refine J0Y ?_
  walk_at "dc"
  refine ⟨⟨_,.of (s1 _ _ hlp)⟩,ForW.of (J01 (xs:=xp)) (fun j σ H'=>(∃ v4 v5 v6 v7 v8,σ=[some (V.ref l),some (V.ref v),some (V.ref lp),some (V.ref b),v4,v5,v6,v7,v8])∧Same H H'∧∃ kvs m,ND P w H' b kvs∧BoxOk H' kds (fun c=>H c≠none) m kvs∧m≤16 * j∧kvs.length≤16 * j) ⟨⟨none,none,none,none,none,rfl⟩,s1,[],0,hnd,(fun _ z=>nomatch z),Nat.le_refl _,Nat.le_refl _⟩ (fun _ _ _ _ q=>q.2.1.seq (.of hlp)) ?_ ?_⟩
  ·rintro j x σ H2 hxj ⟨⟨v4,v5,v6,v7,v8,rfl⟩,s2,kvs,m,h1,h2,h3,h4⟩
   obtain ⟨p,r,n,rs,rfl,hp,hr',hR⟩:=(hx x (List.mem_of_getElem? hxj)).mono fun c ys z=>s2 _ _ z
   refine ⟨p,_,rfl,.of hp,rfl,?_⟩
   simp only [J22,J4b,J0s]
   walk_at "dc"
   have hV2:=hV.mono s2
   have nm1:=hV2.n1
   unfold nmT at nm1
   refine ⟨v,_,_,_,rfl,rfl,.of hV2.v,Jl (j:=1) rfl,l,n1,r,xs,rs,ns,kds,is1,rfl,s2 _ _ hl,hF.mono s2,nm1,hV.i1,by have:=hV.few1;omega,hr',hR.ok,fun H3 po1 ts1 f3 s3 g3 t3=>?_⟩
   have hV3:=hV2.mono s3
   have nm0:=hV3.n0
   unfold nmT at nm0
   have S3:=s2.trans s3
   have hlt1:=Paired.length t3
   rw [List.length_map,List.length_range] at hlt1
   have b3:=(h2.off f3).mono s3
   have d3:=ND.same s3 h1
   refine J0Y ?_
   walk_at "dc"
   refine ⟨v,_,_,_,rfl,rfl,.of hV3.v,Jl (j:=0) rfl,l,n0,r,xs,rs,ns,kds,is0,rfl,S3 _ _ hl,hF.mono S3,nm0,hV.i0,by have:=hV.few0;omega,s3 _ _ hr',hR.ok,fun H4 po0 ts0 f4 s4 g4 t4=>?_⟩
   have hlt0:=Paired.length t4
   rw [List.length_map,List.length_range] at hlt0
   have b4:=(b3.off f4).mono s4
   have d4:=ND.same s4 d3
   have f0:=hV.few0
   have f1:=hV.few1
   have S4:=S3.trans s4
   have t3':=t3.mono s4
   have g3':=s4 _ _ g3
   have hp4:=s4 _ _ (s3 _ _ hp)
   have hr4:=s4 _ _ (s3 _ _ hr')
   refine ⟨po0,rfl,⟨_,.of g4⟩,ForW.of (J01 (xs:=ts0)) (fun i σ H'=>(∃ v7 v8,σ=[some (V.ref l),some (V.ref v),some (V.ref lp),some (V.ref b),some (V.int n),some (V.ref r),some (V.ref po1),v7,v8])∧Same H H'∧(∀ c ys,H4 c=some (.tup ys)→H' c=some (.tup ys))∧H' po0=some (.lst ts0)∧H' po1=some (.lst ts1)∧∃ kvs m,ND P w H' b kvs∧BoxOk H' kds (fun c=>(H c≠none∨c=po1)∨c=po0) m kvs∧m≤16 * j+4 * i∧kvs.length≤16 * j+4 * i) ⟨⟨v7,v8,rfl⟩,S4,(fun _ _ z=>z),g4,g3',kvs,m,d4,b4,by omega,by omega⟩ (fun _ _ _ _ q=>.of q.2.2.2.1) ?_ ?_⟩
   ·rintro i one σ H5 hone ⟨⟨v7,v8,rfl⟩,s5,t5,p0,p1,kvs,m,h1,h2,h3,h4⟩
    obtain ⟨k0,_,b0,rfl,hb0⟩:=Paired.ix t4 hone
    simp only [J0s]
    refine J0Y ?_
    walk_at "dc"
    refine ⟨⟨_,.of p1⟩,ForW.of (J01 (xs:=ts1)) (fun e σ H'=>(∃ v8,σ=[some (V.ref l),some (V.ref v),some (V.ref lp),some (V.ref b),some (V.int n),some (V.ref r),some (V.ref po1),some (V.ref b0),v8])∧Same H H'∧(∀ c ys,H4 c=some (.tup ys)→H' c=some (.tup ys))∧H' po0=some (.lst ts0)∧H' po1=some (.lst ts1)∧∃ kvs m,ND P w H' b kvs∧BoxOk H' kds (fun c=>(H c≠none∨c=po1)∨c=po0) m kvs∧m≤16 * j+4 * i+e∧kvs.length≤16 * j+4 * i+e) ⟨⟨v8,rfl⟩,s5,t5,p0,p1,kvs,m,h1,h2,by omega,by omega⟩ (fun _ _ _ _ q=>.of q.2.2.2.2.1) ?_ ?_⟩
    ·rintro e other σ H6 hother ⟨⟨v8,rfl⟩,s6,t6,p0,p1,kvs,m,h1,h2,h3,h4⟩
     obtain ⟨k1,_,b1,rfl,hb1⟩:=Paired.ix t3' hother
     simp only [J0s]
     walk_at "dc"
     have hj:=(List.getElem?_eq_some_iff.mp hxj).1
     have hi:=(List.getElem?_eq_some_iff.mp hone).1
     have he:=(List.getElem?_eq_some_iff.mp hother).1
     have hb06:=t6 _ _ hb0
     have hb16:=t6 _ _ hb1
     have hp6:=t6 _ _ hp4
     have hr6:=t6 _ _ hr4
     refine ⟨⟨kvs,h1⟩,Jc (by decide),fun pk hpk=>⟨Jc (by decide),fun pl hpl=>?_⟩⟩
     have u1:=Same.upd_new hpk (HO.tup [V.ref b0,V.ref b1])
     have gk:upd H6 pk (HO.tup [V.ref b0,V.ref b1]) pk=some (.tup [V.ref b0,V.ref b1]):=Jb
     generalize upd H6 pk (HO.tup [V.ref b0,V.ref b1])=H7 at *
     have u2:=Same.upd_new hpl (HO.lst [])
     have gl:upd H7 pl (HO.lst []) pl=some (.lst []):=Jb
     have hpl0:=none_of (s6.trans u1) hpl
     have npl:pl≠po0∧pl≠po1:=⟨(fun z=>by rw [z,u1 _ _ p0] at hpl;cases hpl),(fun z=>by rw [z,u1 _ _ p1] at hpl;cases hpl)⟩
     have npb:pl≠b:=fun z=>by
      obtain ⟨_,zs,ez,_⟩:=id h1
      rw [z,u1 _ _ ez] at hpl
      cases hpl
     generalize upd H7 pl (HO.lst [])=H8 at *
     have u:=u1.trans u2
     have s8:=s6.trans u
     have d8:=ND.same u h1
     have b8:=h2.mono u
     have key:NKeyAt H8 pk [k0,k1]:=⟨[b0,b1],u2 _ _ gk,.cons (u _ _ hb06) (.cons (u _ _ hb16) .nil)⟩
     refine ⟨kvs,d8,[k0,k1],key,by rw [sizeLine_eq];omega,fun vv hvv=>?_,fun hno zs hzs=>?_⟩
     ·obtain ⟨kv,hkv,rfl⟩:=J5u hvv
      obtain ⟨l',xp',e',q1,q2,q3,q4⟩:=b8 kv hkv
      rw [e']
      refine ⟨.inl ⟨rfl,_,.of q1⟩,Jc (by decide),fun p2 hp2=>?_⟩
      have u3:=Same.upd_new hp2 (HO.tup [V.int n,V.ref r])
      have g2:upd H8 p2 (HO.tup [V.int n,V.ref r]) p2=some (.tup [V.int n,V.ref r]):=Jb
      generalize upd H8 p2 (HO.tup [V.int n,V.ref r])=H9 at *
      obtain ⟨w1,w2,w3,w4⟩:=J7X (s8.trans u3) (fun c hc=>.inl (.inl hc)) (ND.same u3 d8) (b8.mono u3) (u3 _ _ q1) q2 q3 (fun x hx=>(q4 x hx).mono fun c ys z=>u3 _ _ z) g2 (u3 _ _ (u _ _ hr6)) hR
      refine ⟨l',_,_,rfl,rfl,u3 _ _ q1,Jc (by omega),⟨_,rfl⟩,w1,fun c ys z=>w2 _ _ (u3 _ _ (u _ _ (t6 _ _ z))),?_,?_,kvs,w3,m+1,w4,by omega,by omega⟩
      ·rw [Jk (fun z=>q2 (.inr z.symm))]
       exact u3 _ _ (u _ _ p0)
      ·rw [Jk (fun z=>q2 (.inl (.inr z.symm)))]
       exact u3 _ _ (u _ _ p1)
     ·have t9:∀ c ys,H8 c=some (.tup ys)→upd H8 b (dN P w b zs) c=some (.tup ys):=fun c ys z=>by
       rw [Jk (Jaf d8 z fun φ q=>nomatch q)]
       exact z
      have l9:∀ c ys,H8 c=some (.lst ys)→upd H8 b (dN P w b zs) c=some (.lst ys):=fun c ys z=>by
       rw [Jk (Jaf d8 z fun φ q=>nomatch q)]
       exact z
      have s9:Same H (upd H8 b (dN P w b zs)):=s8.set hb _
      have b9:=b8.go t9 l9
      generalize upd H8 b (dN P w b zs)=H9 at *
      rw [putK_new hno] at hzs
      refine ⟨.inl ⟨rfl,_,.of (l9 _ _ gl)⟩,Jc (by decide),fun p2 hp2=>?_⟩
      have u3:=Same.upd_new hp2 (HO.tup [V.int n,V.ref r])
      have g2:upd H9 p2 (HO.tup [V.int n,V.ref r]) p2=some (.tup [V.int n,V.ref r]):=Jb
      generalize upd H9 p2 (HO.tup [V.int n,V.ref r])=H10 at *
      have bn:BoxOk H10 kds (fun c=>(H c≠none∨c=po1)∨c=po0) m (kvs++[([k0,k1],V.ref pl)]):=fun kv hkv=>by
       rcases List.mem_append.mp hkv with hkv | hkv
       ·exact b9.mono u3 kv hkv
       ·rw [List.mem_singleton.mp hkv]
        exact ⟨pl,[],rfl,u3 _ _ (l9 _ _ gl),fun z=>by
         rcases z with (z | z) | z
         ·exact z hpl0
         ·exact npl.2 z
         ·exact npl.1 z,Nat.zero_le _,fun _ z=>nomatch z⟩
      obtain ⟨w1,w2,w3,w4⟩:=J7X (s9.trans u3) (fun c hc=>.inl (.inl hc)) (ND.same u3 hzs) bn (u3 _ _ (l9 _ _ gl)) (fun z=>by
       rcases z with (z | z) | z
       ·exact z hpl0
       ·exact npl.2 z
       ·exact npl.1 z) (Nat.zero_le _) (fun _ z=>nomatch z) g2 (u3 _ _ (t9 _ _ (u _ _ hr6))) hR
      refine ⟨pl,_,_,rfl,rfl,u3 _ _ (l9 _ _ gl),Jc (by decide),⟨_,rfl⟩,w1,fun c ys z=>w2 _ _ (u3 _ _ (t9 _ _ (u _ _ (t6 _ _ z)))),?_,?_,_,w3,m+1,w4,by omega,by rw [List.length_append,List.length_singleton];omega⟩
      ·rw [Jk (Ne.symm npl.1)]
       exact u3 _ _ (l9 _ _ (u _ _ p0))
      ·rw [Jk (Ne.symm npl.2)]
       exact u3 _ _ (l9 _ _ (u _ _ p1))
    ·rintro σ H6 ⟨⟨v8,rfl⟩,s6,t6,p0,p1,kvs,m,h1,h2,h3,h4⟩
     exact ⟨⟨_,_,rfl⟩,s6,t6,p0,p1,kvs,h1,m,h2,by omega,by omega⟩
   ·rintro σ H5 ⟨⟨v7,v8,rfl⟩,s5,t5,p0,p1,kvs,m,h1,h2,h3,h4⟩
    exact ⟨⟨_,_,_,_,_,rfl⟩,s5,kvs,h1,m,h2.less (Nat.le_refl _) (fun _ z=>.inl (.inl z)),by omega,by omega⟩
  ·rintro σ H2 ⟨⟨v4,v5,v6,v7,v8,rfl⟩,s2,kvs,m,h1,h2,h3,h4⟩
   walk_at "dc"
   exact k _ b kvs s2 h1 fun kv hk=>by
    obtain ⟨l',xp',e,a1,a0,a2,a3⟩:=h2 kv hk
    exact ⟨l',xp',e,a1,a0,by omega,a3⟩
noncomputable def J8O (lf v pd bx:Addr):List (Str×V):=[("kept_fields",.ref lf),("kept_view",.ref v),("kept_heads",.ref pd),("boxes",.ref bx)]
noncomputable def tb2 (lf v:Addr):List (Str×V):=[("kept_fields",.ref lf),("kept_view",.ref v)]
noncomputable def tb3 (lf v pd:Addr):List (Str×V):=[("kept_fields",.ref lf),("kept_view",.ref v),("kept_heads",.ref pd)]
theorem JaY (lf v:Addr):J16 "kept_view" (.ref v) (J16 "kept_fields" (.ref lf) [])=tb2 lf v:=by
 show (if (("kept_fields":Str)="kept_view") then _ else _)=_
 rw [if_neg (by decide)]
 rfl
theorem JaX (lf v pd:Addr):J16 "kept_heads" (.ref pd) (tb2 lf v)=tb3 lf v pd:=by
 unfold tb2
 rw [J16,if_neg (by decide),J16,if_neg (by decide),J16]
 rfl
theorem Jc7 (lf v pd bx:Addr):J16 "boxes" (.ref bx) (tb3 lf v pd)=J8O lf v pd bx:=by
 unfold tb3
 rw [J16,if_neg (by decide),J16,if_neg (by decide),J16,if_neg (by decide),J16]
 rfl
def FigA (H:Hp)(fv:V)(ns kds:List Str):Prop:=∃ q,fv=.ref q∧(H q=some (.tup [.str "count"])∨∃ (hd n:Str) (j:Nat) (kd:Str),H q=some (.tup [.str hd,.str n])∧ns[j]?=some n∧kds[j]?=some kd∧JcT hd kd)
theorem FigA.mono {H H':Hp}{fv:V}{ns kds:List Str}(s:Same H H')(h:FigA H fv ns kds):FigA H' fv ns kds:=by
 obtain ⟨q,e,h | ⟨hd,n,j,kd,h1,h2⟩⟩:=h
 ·exact ⟨q,e,.inl (s _ _ h)⟩
 ·exact ⟨q,e,.inr ⟨hd,n,j,kd,s _ _ h1,h2⟩⟩
theorem FigA.ask {H:Hp}{fv:V}{ns kds:List Str}(h:FigA H fv ns kds)(rs:List (List V)):∃ Res,JbT H fv ns kds rs Res:=by
 obtain ⟨q,e,h | ⟨hd,n,j,kd,h1,h2,h3,h4⟩⟩:=h
 ·exact ⟨_,q,e,.inl ⟨h,rfl⟩⟩
 ·exact ⟨_,q,e,.inr ⟨hd,n,j,kd,h1,h2,h3,h4,rfl⟩⟩
structure Base (H:Hp)(l v n0 n1 fg:Addr)(xs fvs:List V)(ns kds:List Str)(is0 is1:List Nat):Prop where
 l:H l=some (.lst xs)
 F:FldsK H xs ns kds
 kk:∀ kd∈kds,kd=Jv∨kd=numS
 vw:View H v n0 n1 fg ns kds is0 is1
 fg:H fg=some (.tup fvs)
 fs:∀ fv∈fvs,FigA H fv ns kds
 fl:fvs.length≤60
theorem Base.mono {H H':Hp}{l v n0 n1 fg:Addr}{xs fvs:List V}{ns kds:List Str}{is0 is1:List Nat}(s:Same H H')(h:Base H l v n0 n1 fg xs fvs ns kds is0 is1):Base H' l v n0 n1 fg xs fvs ns kds is0 is1:=⟨s _ _ h.l,h.F.mono s,h.kk,h.vw.mono s,s _ _ h.fg,fun fv hf=>(h.fs fv hf).mono s,h.fl⟩
def HdsAt (H:Hp)(h:Addr)(kss:List (List Ji)):Prop:=∃ ts,H h=some (.lst ts)∧TupsV H ts kss
theorem HdsAt.mono {H H':Hp}{h:Addr}{kss:List (List Ji)}(s:Same H H')(x:HdsAt H h kss):HdsAt H' h kss:=by
 obtain ⟨ts,h1,h2⟩:=x
 exact ⟨ts,s _ _ h1,h2.mono s⟩
def TabAt (P:Program)(w:World)(f:Nat→Addr)(H:Hp)(t:Addr)(ns kds:List Str)(is0 is1:List Nat)(kss0 kss1:List (List Ji)):Prop:=∃ (dx lf v pd bx n0 n1 fg h0 h1:Addr) (xs fvs:List V) (hk:List (Key×V)) (kvs:List (NPK×V)),
 H t=some (.ins (f 29) dx (J8O lf v pd bx))∧Base H lf v n0 n1 fg xs fvs ns kds is0 is1∧H pd=some (.dK hk)∧J0t hk (.inr "rows")=some (.ref h0)∧J0t hk (.inr "columns")=some (.ref h1)∧HdsAt H h0 kss0∧HdsAt H h1 kss1∧ND P w H bx kvs∧BoxOk H kds (fun _=>False) 800 kvs
theorem TabAt.mono {P:Program}{w:World}{f:Nat→Addr}{H H':Hp}{t:Addr}{ns kds:List Str}{is0 is1:List Nat}{kss0 kss1:List (List Ji)}(s:Same H H')(h:TabAt P w f H t ns kds is0 is1 kss0 kss1):TabAt P w f H' t ns kds is0 is1 kss0 kss1:=by
 obtain ⟨dx,lf,v,pd,bx,n0,n1,fg,h0,h1,xs,fvs,hk,kvs,a1,a2,a3,a4,a5,a6,a7,a8,a9⟩:=h
 exact ⟨dx,lf,v,pd,bx,n0,n1,fg,h0,h1,xs,fvs,hk,kvs,s _ _ a1,a2.mono s,s _ _ a3,a4,a5,a6.mono s,a7.mono s,ND.same s a8,a9.mono s⟩
def PrsR (H:Hp)(kds:List Str)(xp:List V)(rss:List (List V)):Prop:=Paired (fun (x:V) (rs:List V)=>∃ (p r:Addr) (n:Int),x=.ref p∧H p=some (.tup [.int n,.ref r])∧H r=some (.tup rs)∧RowS kds rs) xp rss
theorem PrsR.mono {H H':Hp}{kds:List Str}{xp:List V}{rss:List (List V)}(s:Same H H')(h:PrsR H kds xp rss):PrsR H' kds xp rss:=Paired.mapP h fun _ _ ⟨p,r,n,e,a,b,c⟩=>⟨p,r,n,e,s _ _ a,s _ _ b,c⟩
theorem PrsR.all {H:Hp}{kds:List Str}{xp:List V}{rss:List (List V)}(h:PrsR H kds xp rss):∀ x∈xp,PrAt' H kds x:=fun x hx=>by
 obtain ⟨i,hi⟩:=List.mem_iff_getElem?.mp hx
 obtain ⟨rs,_,p,r,n,e,a,b,c⟩:=Paired.ix h hi
 exact ⟨p,r,n,rs,e,a,b,c⟩
def HdsOk (is:List Nat)(kds:List Str)(rss:List (List V))(kss:List (List Ji)):Prop:=kss.Perm (J8G is rss)∧∀ a∈kss,TyL (is.map fun i=>kds.getD i Jv) a
def J2u (P:Program)(w:World)(K:PySem.W.Frag)(f:Nat→Addr):Sp:=fun vs H Q _=>∃ (G:Hp) (o dx l v lp n0 n1 fg:Addr) (xs fvs xp:List V) (ns kds:List Str) (is0 is1:List Nat) (rss:List (List V)),vs=[.ref o,.ref l,.ref v,.ref lp]∧Same G H∧G o=none∧H o=some (.ins (f 29) dx [])∧Base G l v n0 n1 fg xs fvs ns kds is0 is1∧G lp=some (.lst xp)∧xp.length≤40∧PrsR G kds xp rss ∧
 ∀ H' kss0 kss1,Same G H'→TabAt P w f H' o ns kds is0 is1 kss0 kss1→HdsOk is0 kds rss kss0→HdsOk is1 kds rss kss1→Q .non H'
theorem ok_Table___init__ (T:Txt K mg f fd):FnOk P w K mg base CX0 6 (f 30000) (fd 30000) ["self","fields","view","rows"] (J2u P w K f):=by
 refine T.d_Table___init__.F.ok J1p (fun vs H Q E h=>?_) (fun cdv A outer s H vs Q E hr h=>?_)
 ·obtain ⟨G,o,dx,l,v,lp,n0,n1,fg,xs,fvs,xp,ns,kds,is0,is1,rss,rfl,_⟩:=h
  rfl
 ·obtain ⟨G,o,dx,l,v,lp,n0,n1,fg,xs,fvs,xp,ns,kds,is0,is1,rss,rfl,s0,hGo,ho,hB,hlp,hxl,hP,k⟩:=h
  refine ⟨_,(Jd (J51 (pvl 0) (J0B (J3R rfl) T.n_list J2M rfl (by decide) (by decide) rfl (pal rfl (pvl 1) Ja)) rfl)
   (Jd (J51 (pvl 0) (pvl 2) rfl)
   (Jd (J25 ["number","row"] ["self","fields","view","rows","laid"] rfl (show CompSc _ (J9 Jw) ["self","fields","view","rows","laid"] ["self","fields","view","rows","laid"] from Jx (by decide +kernel)) J1p.nd (i:=4) rfl rfl (J1q rfl (pvl 3)) (fun _ _ _ _ _=>(Jb4 K 0 1 (show (["number","row","self","fields","view","rows","laid"]:List Str).Nodup by decide +kernel))) (fun _ _ _ _ _=>J06) (fun _ _ _ _ _=>(pvl 1)))
   (Jd (J51 (pvl 0) (J7H (J1B Jp (Jm T.d_heads_of (ok_heads_of T) (hr.mono (by decide)) rfl (by decide) rfl (pal rfl (pvl 1) (pal rfl (Jo (JB rfl) (pvl 2) Je (fun _ _=>rfl)) (pal rfl (pvl 4) Ja)))) (J1B Jp (Jm T.d_heads_of (ok_heads_of T) (hr.mono (by decide)) rfl (by decide) rfl (pal rfl (pvl 1) (pal rfl (Jo (JB rfl) (pvl 2) Je (fun _ _=>rfl)) (pal rfl (pvl 4) Ja)))) J53)) rfl rfl (List.cons_ne_nil _ _) (by show 2≤15;decide)) rfl)
   (Jf (J51 (pvl 0) (Jm T.d_laid_in_boxes (ok_laid_in_boxes T) (hr.mono (by decide)) rfl (by decide) rfl (pal rfl (pvl 1) (pal rfl (pvl 2) (pal rfl (pvl 3) Ja)))) rfl)))))),?_⟩
  walk_at "dc"
  refine ⟨_,.inl (.of (s0 _ _ hB.l)),fun lf hlf=>?_⟩
  have s1:=s0.new hlf (HO.lst xs)
  have gf:upd H lf (HO.lst xs) lf=some (.lst xs):=Jb
  have ho1:=Same.upd_new hlf (HO.lst xs) _ _ ho
  have nfo:lf≠o:=fun z=>by rw [z,ho] at hlf;cases hlf
  generalize upd H lf (HO.lst xs)=H1 at *
  refine ⟨_,_,_,ho1,T.o_Table.cls,T.na_Table_kept_fields,by decide,_,_,_,Jb,T.o_Table.cls,T.na_Table_kept_view,by simp [J16],?_⟩
  rw [J4y,JaY]
  have s2:=s1.set hGo (.ins (f 29) dx (tb2 lf v))
  have ho2:upd H1 o (.ins (f 29) dx (tb2 lf v)) o=some (.ins (f 29) dx (tb2 lf v)):=Jb
  have gf2:upd H1 o (.ins (f 29) dx (tb2 lf v)) lf=some (.lst xs):=by rw [Jk nfo];exact gf
  generalize upd H1 o (.ins (f 29) dx (tb2 lf v))=H2 at *
  clear gf ho1 s1 hlf
  refine ⟨⟨_,.of (s2 _ _ hlp)⟩,J2m (J01 (xs:=xp)) (Jc (by omega)) (fun j zs σ H'=>(∃ v0 v1,σ=[v0,v1,some (V.ref o),some (V.ref l),some (V.ref v),some (V.ref lp),none])∧Same H2 H'∧Rows H' kds zs (rss.take j)) ⟨⟨none,none,rfl⟩,Same.refl _,.nil⟩ (fun j zs σ H' q=>⟨(s2.trans q.2.1).seq (.of hlp),by have:=Paired.length q.2.2;rw [this,List.length_take];omega⟩) ?_ ?_⟩
  ·rintro i x zs σ H3 hx ⟨⟨v0,v1,rfl⟩,t1,hR⟩
   obtain ⟨rs,hrs,p,r,n,rfl,h1,h2,h3⟩:=Paired.ix (hP.mono (s2.trans t1)) hx
   refine ⟨p,_,rfl,.of h1,rfl,?_⟩
   simp only [J22,J4b,J0s]
   walk_at "dc"
   exact ⟨⟨_,rfl⟩,t1,by rw [J17 hrs];exact Paired.snoc hR ⟨r,rfl,h2,h3.ok⟩⟩
  ·rintro zs σ H3 ⟨⟨v0,v1,rfl⟩,t1,hR⟩ D hD p hp
   have hpl:=Paired.length hP
   rw [hpl,List.take_length] at hR
   have u1:=t1.new hD (HO.lst zs)
   have gD:upd H3 D (HO.lst zs) D=some (.lst zs):=Jb
   have hR1:=hR.mono (Same.upd_new hD (HO.lst zs))
   generalize upd H3 D (HO.lst zs)=H4 at *
   have u2:=u1.new hp (HO.dK [])
   have w2:=Same.upd_new hp (HO.dK [])
   have gp:upd H4 p (HO.dK []) p=some (.dK []):=Jb
   have npo:p≠o:=fun z=>by rw [z,u1 _ _ ho2] at hp;cases hp
   generalize upd H4 p (HO.dK [])=H5 at *
   have s5:=s2.trans u2
   have hV5:=hB.vw.mono s5
   have nm0:=hV5.n0
   unfold nmT at nm0
   have f0:=hV5.few0
   have f1:=hV5.few1
   have hp0:G p=none:=none_of (s2.trans u1) hp
   refine ⟨v,_,_,_,rfl,rfl,.of hV5.v,Jl (j:=0) rfl,l,n0,D,xs,zs,rss,ns,kds,is0,rfl,s5 _ _ hB.l,hB.F.mono s5,nm0,hV5.i0,by omega,w2 _ _ gD,hR1.mono w2,by omega,fun H6 h0 ts0 kss0 s6 g0 t0 pm0 pw0 ty0=>?_⟩
   have S6:=s5.trans s6
   have hV6:=hV5.mono s6
   have nm1:=hV6.n1
   unfold nmT at nm1
   refine ⟨v,_,_,_,rfl,rfl,.of hV6.v,Jl (j:=1) rfl,l,n1,D,xs,zs,rss,ns,kds,is1,rfl,S6 _ _ hB.l,hB.F.mono S6,nm1,hV5.i1,by omega,s6 _ _ (w2 _ _ gD),(hR1.mono w2).mono s6,by omega,fun H7 h1 ts1 kss1 s7 g1 t1' pm1 pw1 ty1=>?_⟩
   have S7:=S6.trans s7
   refine ⟨s7 _ _ (s6 _ _ gp),[(.inr "rows",.ref h0),(.inr "columns",.ref h1)],rfl,(by show 2≤15;decide),?_⟩
   have s8:=S7.set hp0 (HO.dK (J0d [] [(.inr "rows",.ref h0),(.inr "columns",.ref h1)]))
   have gp8:upd H7 p (HO.dK (J0d [] [(.inr "rows",.ref h0),(.inr "columns",.ref h1)])) p=some (HO.dK (J0d [] [(.inr "rows",.ref h0),(.inr "columns",.ref h1)])):=Jb
   have kp8:∀ c u,H7 c=some u→u≠.dK []→upd H7 p (HO.dK (J0d [] [(.inr "rows",.ref h0),(.inr "columns",.ref h1)])) c=some u:=fun c u z nu=>by
    rw [Jk (fun e=>nu (by rw [e,s7 _ _ (s6 _ _ gp)] at z;exact (Option.some.inj z).symm))]
    exact z
   have ho8:=kp8 _ _ (s7 _ _ (s6 _ _ (u2 _ _ ho2))) (fun z=>nomatch z)
   have gf8:=kp8 _ _ (s7 _ _ (s6 _ _ (u2 _ _ gf2))) (fun z=>nomatch z)
   have g08:=kp8 _ _ (s7 _ _ g0) (fun z=>nomatch z)
   have g18:=kp8 _ _ g1 (fun z=>nomatch z)
   have t08:TupsV (upd H7 p (HO.dK (J0d [] [(.inr "rows",.ref h0),(.inr "columns",.ref h1)]))) ts0 kss0:=Paired.mapP (t0.mono s7) fun _ _ ⟨b,e,q⟩=>⟨b,e,kp8 _ _ q (fun z=>nomatch z)⟩
   have t18:TupsV (upd H7 p (HO.dK (J0d [] [(.inr "rows",.ref h0),(.inr "columns",.ref h1)]))) ts1 kss1:=Paired.mapP t1' fun _ _ ⟨b,e,q⟩=>⟨b,e,kp8 _ _ q (fun z=>nomatch z)⟩
   generalize upd H7 p (HO.dK (J0d [] [(.inr "rows",.ref h0),(.inr "columns",.ref h1)]))=H8 at *
   refine ⟨_,_,_,ho8,T.o_Table.cls,T.na_Table_kept_heads,(by show 2<1000;decide),?_⟩
   rw [JaX]
   have s9:=s8.set hGo (.ins (f 29) dx (tb3 lf v p))
   have ho9:upd H8 o (.ins (f 29) dx (tb3 lf v p)) o=some (.ins (f 29) dx (tb3 lf v p)):=Jb
   have kp9:∀ c u,H8 c=some u→(∀ a b d,u≠.ins a b d)→upd H8 o (.ins (f 29) dx (tb3 lf v p)) c=some u:=fun c u z nu=>by
    rw [Jk (fun e=>nu _ _ _ (by rw [e,ho8] at z;exact (Option.some.inj z).symm))]
    exact z
   have gp9:=kp9 _ _ gp8 (fun _ _ _ z=>nomatch z)
   have gf9:=kp9 _ _ gf8 (fun _ _ _ z=>nomatch z)
   have g09:=kp9 _ _ g08 (fun _ _ _ z=>nomatch z)
   have g19:=kp9 _ _ g18 (fun _ _ _ z=>nomatch z)
   have t09:TupsV (upd H8 o (.ins (f 29) dx (tb3 lf v p))) ts0 kss0:=Paired.mapP t08 fun _ _ ⟨b,e,q⟩=>⟨b,e,kp9 _ _ q (fun _ _ _ z=>nomatch z)⟩
   have t19:TupsV (upd H8 o (.ins (f 29) dx (tb3 lf v p))) ts1 kss1:=Paired.mapP t18 fun _ _ ⟨b,e,q⟩=>⟨b,e,kp9 _ _ q (fun _ _ _ z=>nomatch z)⟩
   generalize upd H8 o (.ins (f 29) dx (tb3 lf v p))=H9 at *
   have hB9:=hB.mono s9
   refine ⟨l,v,lp,n0,n1,fg,xs,xp,ns,kds,is0,is1,rfl,hB9.l,hB9.F,hB9.vw,s9 _ _ hlp,hxl,(hP.mono s9).all,fun H10 bx kvs s10 nd bo=>?_⟩
   refine ⟨_,_,_,s10 _ _ ho9,T.o_Table.cls,T.na_Table_boxes,(by show 3<1000;decide),?_⟩
   rw [Jc7]
   have S10:=s9.trans s10
   have s11:=S10.set hGo (.ins (f 29) dx (J8O lf v p bx))
   have kpB:∀ c u,H10 c=some u→(∀ a b d,u≠.ins a b d)→upd H10 o (.ins (f 29) dx (J8O lf v p bx)) c=some u:=fun c u z nu=>by
    rw [Jk (fun e=>nu _ _ _ (by rw [e,s10 _ _ ho9] at z;exact (Option.some.inj z).symm))]
    exact z
   have tkB:∀ c ys,H10 c=some (.tup ys)→upd H10 o (.ins (f 29) dx (J8O lf v p bx)) c=some (.tup ys):=fun c ys z=>kpB _ _ z (fun _ _ _ q=>nomatch q)
   have hB11:=hB.mono s11
   refine k _ kss0 kss1 s11 ⟨dx,lf,v,p,bx,n0,n1,fg,h0,h1,xs,fvs,_,kvs,Jb,⟨kpB _ _ (s10 _ _ gf9) (fun _ _ _ z=>nomatch z),hB11.F,hB.kk,hB11.vw,hB11.fg,hB11.fs,hB.fl⟩,kpB _ _ (s10 _ _ gp9) (fun _ _ _ z=>nomatch z),rfl,rfl,⟨ts0,kpB _ _ (s10 _ _ g09) (fun _ _ _ z=>nomatch z),Paired.mapP (t09.mono s10) fun _ _ ⟨b,e,q⟩=>⟨b,e,tkB _ _ q⟩⟩,⟨ts1,kpB _ _ (s10 _ _ g19) (fun _ _ _ z=>nomatch z),Paired.mapP (t19.mono s10) fun _ _ ⟨b,e,q⟩=>⟨b,e,tkB _ _ q⟩⟩,ND.mono tkB (Jk (fun e=>by
    obtain ⟨_,ys,ey,_⟩:=nd
    rw [e,s10 _ _ ho9] at ey
    unfold dN at ey
    cases ey)) nd,?_⟩ ⟨pm0,ty0⟩ ⟨pm1,ty1⟩
   exact (bo.go tkB fun c ys z=>kpB _ _ z (fun _ _ _ q=>nomatch q)).less (Nat.le_refl _) (fun _ z=>z.elim)
theorem J7f {K:PySem.W.Frag}{H:Hp}{a b:Addr}{as bs:List Ji}{neg:Bool}{Q:VK}(ha:H a=some (.tup (as.map nV)))(hb:H b=some (.tup (bs.map nV)))(oa:∀ k∈as,okN k)(ob:∀ k∈bs,okN k)(q:Q (.bl (if neg then !decide (as=bs) else decide (as=bs))) H):J89 K neg (.ref a) (.ref b) H Q:=by
 have sh:∀ {ks:List Ji},(∀ k∈ks,okN k)→SeqAt.shaped (ksD ks)=true:=fun {ks} h=>by
  unfold SeqAt.shaped
  rw [(J2Y h).1,(J2Y h).2]
  rfl
 refine ⟨_,_,J5f ha oa,J5f hb ob,sh oa,sh ob,?_⟩
 have e:PyData.eqv (ksD as) (ksD bs)=decide (as=bs):=by
  unfold ksD
  simp only [PyData.eqv]
  exact J6W as bs
 rw [e]
 exact q
theorem J3T {ps:List V}(h:∀ v∈ps,Fl v):(ps.map toN).map nV=ps∧∀ k∈ps.map toN,okN k:=by
 refine ⟨?_,fun k hk=>?_⟩
 ·rw [List.map_map]
  conv=>rhs;rw [← List.map_id ps]
  exact List.map_congr_left fun v hv=>(h v hv).nk.1
 ·obtain ⟨v,hv,rfl⟩:=List.mem_map.mp hk
  exact (h v hv).nk.2
noncomputable def J2j (ps:List V)(h:List Ji):Bool:=decide (h.length=ps.length+1)&&decide (h.take ps.length=ps.map toN)
def Sel (sd:Str)(is0 is1:List Nat)(kss0 kss1:List (List Ji))(is:List Nat)(kss:List (List Ji)):Prop:=(sd="rows"∧is=is0∧kss=kss0)∨(sd="columns"∧is=is1∧kss=kss1)
def J46 (P:Program)(w:World)(K:PySem.W.Frag)(f:Nat→Addr):Sp:=fun vs H Q E=>∃ (t lp:Addr) (sd:Str) (ps:List V) (ns kds:List Str) (is0 is1 is:List Nat) (kss0 kss1 kss:List (List Ji)),vs=[.ref t,.str sd,.ref lp]∧TabAt P w f H t ns kds is0 is1 kss0 kss1∧Sel sd is0 is1 kss0 kss1 is kss∧kss.length≤1000∧(∀ a∈kss,∀ k∈a,okN k)∧H lp=some (.tup ps)∧(∀ v∈ps,Fl v) ∧
 (okP kds is ps=true→∀ H' q ts,Same H H'→H' q=some (.lst ts)→TupsV H' ts (kss.filter (J2j ps))→Q (.ref q) H')∧(okP kds is ps=false→∀ H',Same H H'→E (.ref (f 3)) none H')
theorem ok_Table_kids (T:Txt K mg f fd):FnOk P w K mg base (CXE P w) 6 (f 30004) (fd 30004) ["self","side","path"] (J46 P w K f):=by
 refine T.d_Table_kids.F.okX J2e (fun vs H Q E h=>?_) (fun cdv A outer s H vs Q E hr h=>?_)
 ·obtain ⟨t,lp,sd,ps,ns,kds,is0,is1,is,kss0,kss1,kss,rfl,_⟩:=h
  rfl
 ·obtain ⟨t,lp,sd,ps,ns,kds,is0,is1,is,kss0,kss1,kss,rfl,hT,hsel,hkl,hko,hp,hfl,k1,k0⟩:=h
  obtain ⟨dx,lf,v,pd,bx,n0,n1,fg,h0,h1,xs,fvs,hk,kvs,a1,a2,a3,a4,a5,a6,a7,a8,a9⟩:=hT
  refine ⟨_,(Jd (J0T (J2A J1H T.d_asked_path (ok_asked_path T) (hr.mono (by decide)) rfl (by decide) rfl (pal rfl (J1u (pvl 0) rfl) (pal rfl (Jm T.d_names_of (J5S T) (hr.mono (by decide)) rfl (by decide) rfl (pal rfl (J1u (pvl 0) rfl) (pal rfl (pvl 1) Ja))) (pal rfl (pvc 2) Ja)))))
   (Jd (psc 3 J2e.nd (JJ (J0z rfl) T.n_len JL rfl (by decide) (by decide) rfl (pal rfl (pvc 2) Ja)))
   (Jf (Jn (J0y ["head"] ["self","side","path","many"] rfl (show CompSc _ (J9 JY) ["self","side","path","many"] ["self","side","path","many"] from Jx (by decide +kernel)) (J1q rfl (J13 (J1F hr) (J1u (pvl 0) rfl) (pvl 1) (fun _ _=>rfl))) (fun _ _ _ _ _=>(pgl 0 (show (["head","self","side","path","many"]:List Str).Nodup by decide +kernel))) (fun _ _ _ _ _=>(J7E (PW.pt (J2V (Jq J0N (JJ (J0z rfl) T.n_len JL rfl (by decide) (by decide) rfl (pal rfl (pvl 0) Ja)) (Jj J0o (pvc 4) Je) (Jr _)) (J2y (Jq (J7M rfl hr.units) (J0G (J9X rfl) (pvl 0) J19 (J0U (pvc 4))) (pvc 3) (Jr _))))))) (fun _ _ _ _ _=>(pvl 0))))))),?_⟩
  walk_at "dc"
  refine ⟨_,_,_,a1,T.o_Table.cls,T.na_Table_kept_fields,.ref lf,rfl,_,_,_,a1,T.o_Table.cls,T.na_Table_kept_view,.ref v,rfl,v,_,_,_,sd,rfl,a2.vw.v,?_⟩
  have hsd:∃ ln hh,(if sd="rows" then V.ref n0 else V.ref n1)=.ref ln∧Side H lf ln xs ns kds is∧J0t hk (.inr sd)=some (.ref hh)∧HdsAt H hh kss:=by
   have f0:=a2.vw.few0
   have f1:=a2.vw.few1
   rcases hsel with ⟨rfl,rfl,rfl⟩ | ⟨rfl,rfl,rfl⟩
   ·exact ⟨n0,h0,by rw [if_pos rfl],⟨a2.l,a2.F,a2.vw.n0,a2.vw.i0,by omega⟩,a4,a6⟩
   ·exact ⟨n1,h1,by rw [if_neg (by decide)],⟨a2.l,a2.F,a2.vw.n1,a2.vw.i1,by omega⟩,a5,a7⟩
  obtain ⟨ln,hh,e1,hS,hv,ts,g0,t0⟩:=hsd
  rw [e1]
  refine ⟨lf,ln,lp,xs,ps,ns,kds,is,rfl,hS,hp,hfl,fun hok H1 s1=>?_,fun hno H1 s1=>k0 hno H1 s1⟩
  refine ⟨_,.inr (.of (s1 _ _ hp)),_,_,_,s1 _ _ a1,T.o_Table.cls,T.na_Table_kept_heads,.ref pd,rfl,pd,rfl,.ref hh,J5s (s1 _ _ a3) hv,hh,rfl,⟨_,.of (s1 _ _ g0)⟩,?_⟩
  have htl:=Paired.length t0
  obtain ⟨fm,fo⟩:=J3T hfl
  refine J02 (J01 (xs:=ts)) (Jc (by omega)) (fun i ys H'=>Same H1 H'∧TupsV H' ys ((kss.take i).filter (J2j ps))) ⟨Same.refl _,.nil⟩ (fun _ _ H' _ q=>(s1.trans q.1).seq (.of g0)) (fun i ys H' q=>by
   have e:=Paired.length q.2
   have l1:=List.length_filter_le (J2j ps) (kss.take i)
   rw [List.length_take] at l1
   omega) (fun i x ys H3 hx q=>?_) (fun ys H3 q D hD=>?_)
  ·obtain ⟨t1,hys⟩:=q
   have S3:=s1.trans t1
   obtain ⟨ks,hks,b,rfl,hb⟩:=Paired.ix t0 hx
   have hb3:=S3 _ _ hb
   have okk:=hko ks (List.mem_of_getElem? hks)
   have ef:(kss.take (i+1)).filter (J2j ps)=(kss.take i).filter (J2j ps)++if J2j ps ks=true then [ks] else []:=by
    rw [J17 hks,List.filter_append]
    congr 1
    rw [List.filter_cons,List.filter_nil]
   rw [ef]
   walk_at "dc"
   refine ⟨_,.inr (.of hb3),?_⟩
   rw [List.length_map]
   by_cases hl:ks.length=ps.length+1
   ·rw [if_pos (decide_eq_true (by omega))]
    refine ⟨b,_,rfl,.of hb3,fun hw=>?_,fun _ p3 hp3=>?_⟩
    ·have:=hw.2
     rw [HT.sIx_nat,List.length_map] at this
     omega
    ·have ec:J0M (ks.map nV) none (some (ps.length:Int))=(ks.take ps.length).map nV:=by rw [cut_to,List.map_take]
     rw [ec]
     have u:=Same.upd_new hp3 (HO.tup ((ks.take ps.length).map nV))
     have g3:upd H3 p3 (HO.tup ((ks.take ps.length).map nV)) p3=some (.tup ((ks.take ps.length).map nV)):=Jb
     generalize upd H3 p3 (HO.tup ((ks.take ps.length).map nV))=H4 at *
     have hp4:=(S3.trans u) _ _ hp
     rw [← fm] at hp4
     refine J7f g3 hp4 (fun k hk=>okk k (List.mem_of_mem_take hk)) fo ⟨_,rfl,?_⟩
     by_cases he:ks.take ps.length=ps.map toN
     ·have kb:J2j ps ks=true:=by unfold J2j;rw [decide_eq_true hl,decide_eq_true he];rfl
      rw [if_neg Bool.false_ne_true,if_pos (decide_eq_true he),kb,if_pos rfl]
      exact ⟨⟨_,rfl⟩,t1.trans u,Paired.snoc (hys.mono u) ⟨b,rfl,u _ _ hb3⟩⟩
     ·have kb:J2j ps ks=false:=by unfold J2j;rw [decide_eq_false he,Bool.and_false]
      rw [if_neg Bool.false_ne_true,if_neg (by simpa using he),kb,if_neg (by decide),List.append_nil]
      exact ⟨⟨_,rfl⟩,t1.trans u,hys.mono u⟩
   ·have kb:J2j ps ks=false:=by unfold J2j;rw [decide_eq_false hl,Bool.false_and]
    rw [if_neg (by simp;omega),kb,if_neg (by decide),List.append_nil]
    exact ⟨⟨_,rfl⟩,t1,hys⟩
  ·obtain ⟨t1,hys⟩:=q
   rw [htl,List.take_length] at hys
   exact k1 hok _ D _ ((s1.trans t1).new hD _) Jb (hys.mono (Same.upd_new hD _))
def J3y (P:Program)(w:World)(K:PySem.W.Frag)(f:Nat→Addr):Sp:=fun vs H Q E=>∃ (t l0 l1:Addr) (ps0 ps1:List V) (ns kds:List Str) (is0 is1:List Nat) (kss0 kss1:List (List Ji)),vs=[.ref t,.ref l0,.ref l1]∧TabAt P w f H t ns kds is0 is1 kss0 kss1∧H l0=some (.tup ps0)∧H l1=some (.tup ps1)∧(∀ v∈ps0,Fl v)∧(∀ v∈ps1,Fl v) ∧
 ((okP kds is0 ps0&&okP kds is1 ps1)=true→∀ H' q xp,Same H H'→H' q=some (.lst xp)→xp.length≤800→(∀ x∈xp,PrAt' H' kds x)→Q (.ref q) H')∧((okP kds is0 ps0&&okP kds is1 ps1)=false→∀ H',Same H H'→E (.ref (f 3)) none H')
theorem J1Y (T:Txt K mg f fd):FnOk P w K mg base (CXE P w) 6 (f 30006) (fd 30006) ["self","one","other"] (J3y P w K f):=by
 refine T.d_Table_lying.F.okX J3C (fun vs H Q E h=>?_) (fun cdv A outer s H vs Q E hr h=>?_)
 ·obtain ⟨t,l0,l1,ps0,ps1,ns,kds,is0,is1,kss0,kss1,rfl,_⟩:=h
  rfl
 ·obtain ⟨t,l0,l1,ps0,ps1,ns,kds,is0,is1,kss0,kss1,rfl,hT,hl0,hl1,hf0,hf1,k1,k0⟩:=h
  obtain ⟨dx,lf,v,pd,bx,n0,n1,fg,h0,h1,xs,fvs,hk,kvs,a1,a2,a3,a4,a5,a6,a7,a8,a9⟩:=hT
  have f0:=a2.vw.few0
  have f1:=a2.vw.few1
  have S0:Side H lf n0 xs ns kds is0:=⟨a2.l,a2.F,a2.vw.n0,a2.vw.i0,by omega⟩
  have S1:Side H lf n1 xs ns kds is1:=⟨a2.l,a2.F,a2.vw.n1,a2.vw.i1,by omega⟩
  refine ⟨_,(Jd (J0T (J2A J1H T.d_asked_path (ok_asked_path T) (hr.mono (by decide)) rfl (by decide) rfl (pal rfl (J1u (pvl 0) rfl) (pal rfl (Jo (JB rfl) (J1u (pvl 0) rfl) Je (fun _ _=>rfl)) (pal rfl (pvl 1) Ja)))))
   (Jd (J0T (J2A J1H T.d_asked_path (ok_asked_path T) (hr.mono (by decide)) rfl (by decide) rfl (pal rfl (J1u (pvl 0) rfl) (pal rfl (Jo (JB rfl) (J1u (pvl 0) rfl) Je (fun _ _=>rfl)) (pal rfl (pvl 2) Ja)))))
   (Jf (Jn (J9z hr.units (J1u (pvl 0) rfl) (J0n (pal rfl (pvl 1) (pal rfl (pvl 2) Ja))) (J0c Ja) ⟨rfl,rfl,rfl,rfl⟩))))),?_⟩
  walk_at "dc"
  refine ⟨_,_,_,a1,T.o_Table.cls,T.na_Table_kept_fields,.ref lf,rfl,_,_,_,a1,T.o_Table.cls,T.na_Table_kept_view,.ref v,rfl,v,_,_,_,rfl,rfl,.of a2.vw.v,Jl (j:=0) rfl,?_⟩
  refine ⟨lf,n0,l0,xs,ps0,ns,kds,is0,rfl,S0,hl0,hf0,fun ok0 G1 s1=>?_,fun no0 G1 s1=>k0 (by rw [no0,Bool.false_and]) G1 s1⟩
  rw [ok0,Bool.true_and] at k1 k0
  refine ⟨_,_,_,s1 _ _ a1,T.o_Table.cls,T.na_Table_kept_fields,.ref lf,rfl,_,_,_,s1 _ _ a1,T.o_Table.cls,T.na_Table_kept_view,.ref v,rfl,v,_,_,_,rfl,rfl,.of (s1 _ _ a2.vw.v),Jl (j:=1) rfl,?_⟩
  refine ⟨lf,n1,l1,xs,ps1,ns,kds,is1,rfl,S1.mono s1,s1 _ _ hl1,hf1,fun ok1 G2 s2=>?_,fun no1 G2 s2=>k0 no1 G2 (s1.trans s2)⟩
  have S2:=s1.trans s2
  refine ⟨_,_,_,S2 _ _ a1,T.o_Table.cls,T.na_Table_boxes,.ref bx,rfl,?_⟩
  walk_at "dc"
  refine ⟨⟨kvs,ND.same S2 a8⟩,Jc (by decide),fun pk hpk=>⟨Jc (by decide),fun pl hpl=>?_⟩⟩
  have u1:=Same.upd_new hpk (HO.tup [V.ref l0,V.ref l1])
  have gk:upd G2 pk (HO.tup [V.ref l0,V.ref l1]) pk=some (.tup [V.ref l0,V.ref l1]):=Jb
  generalize upd G2 pk (HO.tup [V.ref l0,V.ref l1])=G3 at *
  have u2:=Same.upd_new hpl (HO.lst [])
  have gl:upd G3 pl (HO.lst []) pl=some (.lst []):=Jb
  generalize upd G3 pl (HO.lst [])=G4 at *
  have S4:=(S2.trans u1).trans u2
  have e0:=S4 _ _ hl0
  have e1:=S4 _ _ hl1
  rw [← (J3T hf0).1] at e0
  rw [← (J3T hf1).1] at e1
  refine ⟨kvs,ND.same S4 a8,[ps0.map toN,ps1.map toN],⟨[l0,l1],u2 _ _ gk,.cons e0 (.cons e1 .nil)⟩,?_⟩
  cases hv:J0t kvs [ps0.map toN,ps1.map toN] with
  | none=>exact k1 ok1 G4 pl [] S4 gl (Nat.zero_le _) (fun _ z=>nomatch z)
  | some vv =>
    obtain ⟨kv,hkv,rfl⟩:=J5u hv
    obtain ⟨l',xp',e',q1,_,q3,q4⟩:=a9.mono S4 kv hkv
    rw [e']
    exact k1 ok1 G4 l' xp' S4 q1 q3 q4
theorem J6J {H:Hp}{kds:List Str}{zs:List V}{rsl:List (List V)}{r:Addr}{rs:List V}(h:RowsI H kds zs rsl)(hr:H r=some (.tup rs))(hR:RowOk kds rs):RowsI H kds (zs++[.ref r]) (rsl++[rs]):=by
 refine ⟨by rw [List.length_append,List.length_append,h.1];rfl,fun i x y hx hy=>?_⟩
 by_cases hi:i<zs.length
 ·rw [List.getElem?_append_left hi] at hx
  rw [List.getElem?_append_left (by rw [← h.1];exact hi)] at hy
  exact h.2 i x y hx hy
 ·have hil:=(List.getElem?_eq_some_iff.mp hx).1
  rw [List.length_append,List.length_singleton] at hil
  obtain rfl:i=zs.length:=by omega
  rw [List.getElem?_append_right (Nat.le_refl _),Nat.sub_self] at hx
  rw [List.getElem?_append_right (by rw [h.1];exact Nat.le_refl _),h.1,Nat.sub_self] at hy
  obtain rfl:V.ref r=x:=by simpa using hx
  obtain rfl:rs=y:=by simpa using hy
  exact ⟨r,rfl,hr,hR⟩
def J3d (P:Program)(w:World)(K:PySem.W.Frag)(f:Nat→Addr):Sp:=fun vs H Q E=>∃ (t l0 l1:Addr) (ps0 ps1:List V) (ns kds:List Str) (is0 is1:List Nat) (kss0 kss1:List (List Ji)),vs=[.ref t,.ref l0,.ref l1]∧TabAt P w f H t ns kds is0 is1 kss0 kss1∧H l0=some (.tup ps0)∧H l1=some (.tup ps1)∧(∀ v∈ps0,Fl v)∧(∀ v∈ps1,Fl v) ∧
 ((okP kds is0 ps0&&okP kds is1 ps1)=true→∀ H' v,Same H H'→Q v H')∧((okP kds is0 ps0&&okP kds is1 ps1)=false→∀ H',Same H H'→E (.ref (f 3)) none H')
theorem J3h (T:Txt K mg f fd):FnOk P w K mg base (CXE P w) 7 (f 30007) (fd 30007) ["self","one","other"] (J3d P w K f):=by
 refine T.d_Table_opened.F.okX J3f (fun vs H Q E h=>?_) (fun cdv A outer s H vs Q E hr h=>?_)
 ·obtain ⟨t,l0,l1,ps0,ps1,ns,kds,is0,is1,kss0,kss1,rfl,_⟩:=h
  rfl
 ·obtain ⟨t,l0,l1,ps0,ps1,ns,kds,is0,is1,kss0,kss1,rfl,hT,hl0,hl1,hf0,hf1,k1,k0⟩:=h
  obtain ⟨dx,lf,v,pd,bx,n0,n1,fg,h0,h1,xs,fvs,hk,kvs,a1,_⟩:=id hT
  refine ⟨_,(Jf (Jn (J0y ["number","row"] ["self","one","other"] rfl (show CompSc _ (J9 JF) ["self","one","other"] ["self","one","other"] from Jx (by decide +kernel)) (J1q rfl (J1C J1H (pvl 0) T.o_Table.cls T.m_Table_lying (J1Y T) (hr.mono (by decide)) T.d_Table_lying.b rfl (pal rfl (pvl 1) (pal rfl (pvl 2) Ja)) rfl)) (fun _ _ _ _ _=>(Jb4 K 0 1 (show (["number","row","self","one","other"]:List Str).Nodup by decide +kernel))) (fun _ _ _ _ _=>J06) (fun _ _ _ _ _=>(pvl 0))))),?_⟩
  walk_at "dc"
  refine ⟨_,_,a1,rfl,t,l0,l1,ps0,ps1,ns,kds,is0,is1,kss0,kss1,rfl,hT,hl0,hl1,hf0,hf1,fun ok H1 q xp s1 gq hx8 hpr=>?_,k0⟩
  refine ⟨q,rfl,⟨_,.of gq⟩,J2m (J01 (xs:=xp)) (Jc (by omega)) (fun j zs σ H'=>(∃ v0 v1,σ=[v0,v1,some (V.ref t),some (V.ref l0),some (V.ref l1)])∧Same H1 H'∧zs.length≤j) ⟨⟨none,none,rfl⟩,Same.refl _,Nat.le_refl _⟩ (fun j zs σ H' q'=>⟨q'.2.1.seq (.of gq),q'.2.2⟩) ?_ ?_⟩
  ·rintro i x zs σ H3 hx ⟨⟨v0,v1,rfl⟩,t1,hz⟩
   obtain ⟨p,r,n,rs,rfl,h1,h2,h3⟩:=(hpr x (List.mem_of_getElem? hx)).mono fun c ys z=>t1 _ _ z
   refine ⟨p,_,rfl,.of h1,rfl,?_⟩
   simp only [J22,J4b,J0s]
   walk_at "dc"
   exact ⟨⟨_,rfl⟩,t1,by rw [List.length_append,List.length_singleton];omega⟩
  ·rintro zs σ H3 ⟨⟨v0,v1,rfl⟩,t1,hz⟩ D hD
   exact k1 ok _ _ ((s1.trans t1).new hD _)
def J4U (P:Program)(w:World)(K:PySem.W.Frag)(f:Nat→Addr):Sp:=fun vs H Q E=>∃ (t l0 l1:Addr) (ps0 ps1:List V) (ns kds:List Str) (is0 is1:List Nat) (kss0 kss1:List (List Ji)),vs=[.ref t,.ref l0,.ref l1]∧TabAt P w f H t ns kds is0 is1 kss0 kss1∧H l0=some (.tup ps0)∧H l1=some (.tup ps1)∧(∀ v∈ps0,Fl v)∧(∀ v∈ps1,Fl v) ∧
 ((okP kds is0 ps0&&okP kds is1 ps1)=true→∀ H' v,Same H H'→Q v H')∧((okP kds is0 ps0&&okP kds is1 ps1)=false→∀ H',Same H H'→E (.ref (f 3)) none H')
theorem ok_Table_box (T:Txt K mg f fd):FnOk P w K mg base (CXE P w) 7 (f 30008) (fd 30008) ["self","one","other"] (J4U P w K f):=by
 refine T.d_Table_box.F.okX J2w (fun vs H Q E h=>?_) (fun cdv A outer s H vs Q E hr h=>?_)
 ·obtain ⟨t,l0,l1,ps0,ps1,ns,kds,is0,is1,kss0,kss1,rfl,_⟩:=h
  rfl
 ·obtain ⟨t,l0,l1,ps0,ps1,ns,kds,is0,is1,kss0,kss1,rfl,hT,hl0,hl1,hf0,hf1,k1,k0⟩:=h
  obtain ⟨dx,lf,v,pd,bx,n0,n1,fg,h0,h1,xs,fvs,hk,kvs,a1,a2,_⟩:=id hT
  refine ⟨_,(Jd (psc 3 J2w.nd (J0y ["number","row"] ["self","one","other","rows"] rfl (show CompSc _ (J9 JZ) ["self","one","other","rows"] ["self","one","other","rows"] from Jx (by decide +kernel)) (J1q rfl (J1C J1H (pvc 0) T.o_Table.cls T.m_Table_lying (J1Y T) (hr.mono (by decide)) T.d_Table_lying.b rfl (pal rfl (pvl 1) (pal rfl (pvl 2) Ja)) rfl)) (fun _ _ _ _ _=>(Jb4 K 0 1 (show (["number","row","self","one","other","rows"]:List Str).Nodup by decide +kernel))) (fun _ _ _ _ _=>J06) (fun _ _ _ _ _=>(pvl 1))))
   (Jf (Jn (J0y ["figure"] ["self","one","other","rows"] rfl (show CompSc _ (J9 JZ) ["self","one","other","rows"] ["self","one","other","rows"] from Jx (by decide +kernel)) (J64 rfl (Jo (JB rfl) (J1u (pvc 0) rfl) Je (fun _ _=>rfl))) (fun _ _ _ _ _=>(pgl 0 (show (["figure","self","one","other","rows"]:List Str).Nodup by decide +kernel))) (fun _ _ _ _ _=>J06) (fun _ _ _ _ _=>(Jm T.d_figure_of (ok_figure_of T) (hr.mono (by decide)) rfl (by decide) rfl (pal rfl (Jd7 rfl (pvc 1) rfl) (pal rfl (pvl 0) (pal rfl (pvc 4) Ja))))))))),?_⟩
  walk_at "dc"
  refine ⟨_,_,a1,rfl,t,l0,l1,ps0,ps1,ns,kds,is0,is1,kss0,kss1,rfl,hT,hl0,hl1,hf0,hf1,fun ok H1 q xp s1 gq hx8 hpr=>?_,k0⟩
  refine ⟨q,rfl,⟨_,.of gq⟩,J2m (J01 (xs:=xp)) (Jc (by omega)) (fun j zs σ H'=>(∃ v0 v1,σ=[v0,v1,some (V.ref t),some (V.ref l0),some (V.ref l1),none])∧Same H1 H'∧∃ rsl,RowsI H' kds zs rsl∧zs.length≤j) ⟨⟨none,none,rfl⟩,Same.refl _,[],⟨rfl,fun _ _ _ z=>by simp at z⟩,Nat.le_refl _⟩ (fun j zs σ H' ⟨_,q2,rsl,_,q4⟩=>⟨q2.seq (.of gq),q4⟩) ?_ ?_⟩
  ·rintro i x zs σ H3 hx ⟨⟨v0,v1,rfl⟩,t1,rsl,hR,hz⟩
   obtain ⟨p,r,n,rs,rfl,h1,h2,h3⟩:=(hpr x (List.mem_of_getElem? hx)).mono fun c ys z=>t1 _ _ z
   refine ⟨p,_,rfl,.of h1,rfl,?_⟩
   simp only [J22,J4b,J0s]
   walk_at "dc"
   exact ⟨⟨_,rfl⟩,t1,⟨rsl++[rs],J6J hR h2 h3.ok⟩,by rw [List.length_append,List.length_singleton];omega⟩
  ·rintro zs σ H3 ⟨⟨v0,v1,rfl⟩,t1,rsl,hR,hz⟩ D hD
   have s3:=s1.trans t1
   have u:=Same.upd_new hD (HO.lst zs)
   have gD:upd H3 D (HO.lst zs) D=some (.lst zs):=Jb
   have hR4:=hR.mono u
   generalize upd H3 D (HO.lst zs)=H4 at *
   have s4:=s3.trans u
   have b4:=a2.mono s4
   have hrl:=hR4.1
   refine ⟨_,_,_,s4 _ _ a1,T.o_Table.cls,T.na_Table_kept_view,.ref v,rfl,v,_,_,_,rfl,rfl,.of b4.vw.v,Jl (j:=2) rfl,fg,rfl,⟨_,.of b4.fg⟩,?_⟩
   have hfl:=b4.fl
   refine J02 (J1T (xs:=fvs)) (Jc (by omega)) (fun i ys H'=>Same H4 H'∧ys.length≤i) ⟨Same.refl _,Nat.le_refl _⟩ (fun _ _ H' _ q=>q.1.seqT (.of b4.fg)) (fun i ys H' q=>q.2) (fun i x ys H5 hx q=>?_) (fun ys H5 q D5 hD5=>?_)
   ·obtain ⟨t5,hy⟩:=q
    have b5:=b4.mono t5
    obtain ⟨Res,hA⟩:=(b5.fs x (List.mem_of_getElem? hx)).ask rsl
    walk_at "dc"
    exact ⟨_,_,_,t5 _ _ (s4 _ _ a1),T.o_Table.cls,T.na_Table_kept_fields,.ref lf,rfl,lf,rfl,xs,b5.l,zs,ns,kds,b5.F,b5.kk,t5 _ _ gD,rsl,hR4.mono t5,by omega,Res,hA,fun H6 v6 s6 _=>⟨⟨_,rfl⟩,t5.trans s6,by rw [List.length_append,List.length_singleton];omega⟩⟩
   ·exact k1 ok _ _ ((s4.trans q.1).new hD5 _)
theorem J4x:∀ {kvs:List (Key×V)} {i:Nat} {k:Key} {v:V},(kvs.map (·.1)).Nodup→kvs[i]?=some (k,v)→J0t kvs k=some v
 | [],i,k,v,_,e=>by simp at e
 | kv::kvs,i,k,v,nd,e=>by
   rw [List.map_cons,List.nodup_cons] at nd
   unfold J0t
   rw [List.find?_cons]
   cases i with
   | zero =>
     obtain rfl:kv=(k,v):=by simpa using e
     rw [decide_eq_true rfl]
     rfl
   | succ i =>
     have e2:kvs[i]?=some (k,v):=by simpa using e
     have ne:kv.1≠k:=fun z=>nd.1 (by rw [z];exact List.mem_map.mpr ⟨(k,v),List.mem_of_getElem? e2,rfl⟩)
     rw [decide_eq_false ne]
     exact J4x nd.2 e2
noncomputable def kvF (ns kds:List Str):List (Key×V):=(List.range ns.length).map fun i=>(.inr (ns.getD i Jv),.str (kds.getD i Jv))
theorem J76 {ns kds:List Str}{i:Nat}{n kd:Str}(hn:ns[i]?=some n)(hk:kds[i]?=some kd):(kvF ns kds)[i]?=some (.inr n,.str kd):=by
 unfold kvF
 rw [List.getElem?_map,List.getElem?_eq_getElem (by rw [List.length_range];exact (List.getElem?_eq_some_iff.mp hn).1),List.getElem_range,Option.map_some,J15 hn,J15 hk]
theorem J75 {ns kds:List Str}(h:ns.Nodup):((kvF ns kds).map (·.1)).Nodup:=by
 unfold kvF
 rw [List.map_map]
 refine J1d fun i j hi hj e=>?_
 have e2:ns.getD i Jv=ns.getD j Jv:=by
  have:(Sum.inr (ns.getD i Jv):Key)=.inr (ns.getD j Jv):=e
  injection this
 have a:=List.getElem?_eq_getElem hi
 have b:=List.getElem?_eq_getElem hj
 rw [J15 a,J15 b] at e2
 exact J1k h a (by rw [b,e2])
theorem JbP {K:PySem.W.Frag}{H:Hp}{l:Addr}{xs:List V}{ns kds:List Str}{Q:VK}(hl:H l=some (.lst xs))(hF:FldsK H xs ns kds)(q:∀ p,H p=none→Q (.ref p) (upd H p (.dK (kvF ns kds)))):J6L K [.ref l] H Q:=by
 refine ⟨l,xs,kvF ns kds,rfl,.of hl,by unfold kvF;rw [List.length_map,List.length_range,hF.1],fun i r kv hr hkv=>?_,fun p hp=>?_⟩
 ·obtain ⟨p,n,kd,e1,e2,e3,e4⟩:=hF.at (List.getElem?_eq_some_iff.mp hr).1
  rw [J76 e2 e3] at hkv
  cases hkv
  exact ⟨p,Option.some.inj (hr.symm.trans e1),.of e4⟩
 ·rw [J6Z (J75 hF.2.2.1)]
  exact q p hp
def Drawn (v:V):Prop:=v=.non∨(∃ z,v=.str z∧(Wrd z∨z="A"))∨∃ i:Int,v=.int i∧(i.natAbs<10 ^ 60∨i=10 ^ 60)
theorem Drawn.fl {v:V}(h:Drawn v):Fl v:=by
 rcases h with h | ⟨z,e,h⟩ | ⟨i,e,_⟩
 ·exact .inl h
 ·refine .inr (.inr ⟨z,e,?_⟩)
  rcases h with h | rfl
  ·exact ⟨h.2.1,fun c hc=>J8L c (h.2.2 c hc)⟩
  ·exact ⟨by decide,by decide +kernel⟩
 ·exact .inr (.inl ⟨i,e⟩)
noncomputable def isS:V→Bool
 | .str _=>true
 | _=>false
noncomputable def J7k (v:V):Bool:=decide (v=.str "A")||decide (v=.int (10 ^ 60))
theorem drawn_ok {v:V}{kd:Str}(h:Drawn v)(hn:v≠.non)(hk:kd=Jv∨kd=numS):J2p kd v=(!(isS v != decide (kd=Jv))&&!J7k v):=by
 rcases h with h | ⟨z,rfl,h⟩ | ⟨i,rfl,h⟩
 ·exact absurd h hn
 ·have b2:decide (V.str z=.int (10 ^ 60))=false:=decide_eq_false (fun q=>nomatch q)
  unfold J2p J7k isS
  rw [if_neg hn,b2,Bool.or_false]
  rcases hk with rfl | rfl
  ·rw [if_neg (by decide)]
   rcases h with h | rfl
   ·have ne:(V.str z)≠.str "A":=fun q=>by
     injection q with q
     subst q
     exact absurd (h.2.2 65 (by decide)) (by decide +kernel)
    rw [decide_eq_false ne]
    have e:J1N z (J0D++J29)=true:=List.all_eq_true.mpr fun c hc=>decide_eq_true (h.2.2 c hc)
    unfold J1V
    simp [h.1,h.2.1,e]
   ·decide +kernel
  ·rw [if_pos rfl]
   unfold Jbe
   rw [decide_eq_false (show ¬ numS=Jv by decide)]
   rfl
 ·have b1:decide (V.int i=.str "A")=false:=decide_eq_false (fun q=>nomatch q)
  unfold J2p J7k isS
  rw [if_neg hn,b1,Bool.false_or]
  rcases hk with rfl | rfl
  ·rw [if_neg (by decide)]
   unfold J1V
   simp
  ·rw [if_pos rfl]
   unfold Jbe
   have e:decide (V.int i=.int (10 ^ 60))=decide (i=10 ^ 60):=by
    rw [decide_eq_decide]
    exact ⟨fun q=>by injection q,fun q=>by rw [q]⟩
   rw [e,decide_eq_false (show ¬ numS=Jv by decide)]
   rcases h with h | rfl
   ·rw [decide_eq_false (show ¬ i=10 ^ 60 by omega)]
    have:(if i<0 then -i else i)<10 ^ 60:=by split<;>omega
    show decide ((if i<0 then -i else i)<10 ^ 60)=_
    rw [decide_eq_true this]
    rfl
   ·decide +kernel
theorem inBad {K:PySem.W.Frag}{H:Hp}{v:V}{p:Addr}{Q:VK}(h:Drawn v)(hp:H p=some (.lst [.str "A",.int (10 ^ 60)]))(q:Q (.bl (J7k v)) H):Jc4 K false v (.ref p) H Q:=by
 obtain ⟨e1,o1⟩:=h.fl.nk
 have oA:okN (some (.inr "A")):=J3x (show JbR "A" by decide +kernel)
 have sh:SeqAt.shaped (nkD (toN v))=true:=by
  unfold SeqAt.shaped
  rw [(J0H o1).1,(J0H o1).2]
  rfl
 have r:=J1Z (K:=K) (H:=H) (toN v)
 rw [e1] at r
 refine ⟨nkD (toN v),[nkD (some (.inr "A")),nkD (some (.inl (10 ^ 60)))],r,?_,sh,?_,?_⟩
 ·simp only [Rep,Reps]
  exact ⟨p,_,rfl,.of hp,_,_,rfl,J1Z (some (.inr "A")),_,_,rfl,J1Z (some (.inl (10 ^ 60))),rfl⟩
 ·unfold SeqAt.shaped
  simp only [PyData.canLay0,PyData.canLayAll0,PyData.depth,PyData.depthAll,(J0H oA).1,(J0H oA).2,(J0H (show okN (some (.inl (10 ^ 60))) from trivial)).1,(J0H (show okN (some (.inl (10 ^ 60))) from trivial)).2]
  rfl
 ·have e:([nkD (some (.inr "A")),nkD (some (.inl (10 ^ 60)))].any fun e=>PyData.eqv e (nkD (toN v)))=J7k v:=by
   unfold J7k
   rw [List.any_cons,List.any_cons,List.any_nil,J5T,J5T,Bool.or_false]
   congr 1
   ·rw [decide_eq_decide]
    constructor
    ·intro z;rw [← e1,← z];rfl
    ·intro z;rw [z];rfl
   ·rw [decide_eq_decide]
    constructor
    ·intro z;rw [← e1,← z];rfl
    ·intro z;rw [z];rfl
  rw [if_neg Bool.false_ne_true,e]
  exact q
def J4Q (K:PySem.W.Frag):Sp:=fun vs H Q _=>∃ (lp ln l:Addr) (ps xs:List V) (ns kds:List Str) (is:List Nat),vs=[.ref lp,.ref ln,.ref l]∧Side H l ln xs ns kds is∧(∀ kd∈kds,kd=Jv∨kd=numS)∧H lp=some (.tup ps)∧ps.length≤20∧(∀ v∈ps,Drawn v)∧∀ H',Same H H'→Q (.bl (okP kds is ps)) H'
theorem ok_l_is_path (T:Txt K mg f fd):FnOk P w K mg base CX0 1 (f 40) (fd 40) ["_law_path_here","_law_side","_law_fields"] (J4Q K):=by
 refine T.d_l_is_path.F.ok J1I (fun vs H Q E h=>?_) (fun cdv A outer s H vs Q E hr h=>?_)
 ·obtain ⟨lp,ln,l,ps,xs,ns,kds,is,rfl,_⟩:=h
  rfl
 ·obtain ⟨lp,ln,l,ps,xs,ns,kds,is,rfl,hs,hkk,hp,hpl,hd,k⟩:=h
  have hn:=hs.n
  unfold nmT at hn
  refine ⟨_,(Jd (J00 (Jq J3J (JJ (J0z rfl) T.n_len JL rfl (by decide) (by decide) rfl (pal rfl (pvl 0) Ja)) (JJ (J0z rfl) T.n_len JL rfl (by decide) (by decide) rfl (pal rfl (pvl 1) Ja)) (Jr _))
   (Jf (Jn J1b))
   Jt)
   (Jd (J0X PassesOwn.never rfl (J0a rfl T.n_range (pal rfl (JJ (J0z rfl) T.n_len JL rfl (by decide) (by decide) rfl (pal rfl (pvl 0) Ja)) Ja)) (pgl 3 J1I.nd)
   (Jd (psl 4 J1I.nd (J13 (J1F hr) (J0B (J7N rfl rfl) T.n_dict J7V rfl (by decide) (by decide) rfl (pal rfl (pvl 2) Ja)) (Jo (JB rfl) (pvl 1) (pvl 3) (fun _ _=>rfl)) (fun _ _=>rfl)))
   (Jf (J00 (Jq J7I (Jo (JB rfl) (pvl 0) (pvl 3) (fun _ _=>rfl)) J1t (Jr _))
   (Jf (J00 (PW.pt (J9p (Jq J9E (JJ (J66 rfl) T.n_isinstance J08 rfl (by decide) (by decide) rfl (pal rfl (Jo (JB rfl) (pvl 0) (pvl 3) (fun _ _=>rfl)) (pal rfl (pty T.n_str Jar) Ja))) (J1a J0N (pvl 4) Jp (Jr _)) (Jr _)) (J6O (Jq (Jd6 rfl hr.units) (Jo (JB rfl) (pvl 0) (pvl 3) (fun _ _=>rfl)) (J0c (pal rfl Jp (pal rfl (Jj J3I Je Je) Ja))) rfl))))
   (Jf (Jn J1b))
   Jt))
   Jt))))
   (Jf (Jn J1b)))),?_⟩
  walk_at "dc"
  refine ⟨_,.inr (.of hp),_,.inr (.of hn),?_⟩
  rw [List.length_map]
  by_cases hl:is.length<ps.length
  ·rw [if_pos (decide_eq_true (by omega))]
   have e:okP kds is ps=false:=by unfold okP;rw [decide_eq_false (by omega),Bool.false_and]
   rw [← e]
   exact k H (Same.refl _)
  ·rw [if_neg (by simp;omega)]
   refine J0Y ?_
   walk_at "dc"
   refine ⟨_,.inr (.of hp),by omega,by omega,?_⟩
   rw [Int.toNat_natCast]
   refine ForW.of JR (fun j σ H'=>(∃ v3 v4,σ=[some (V.ref lp),some (V.ref ln),some (V.ref l),v3,v4])∧Same H H'∧∀ m,m<j→J2p (kds.getD (is.getD m 0) Jv) (ps.getD m .non)=true) ⟨⟨none,none,rfl⟩,Same.refl _,fun _ hm=>absurd hm (by omega)⟩ (fun _ _ _ _ _=>trivial) ?_ ?_
   ·rintro j x σ H1 hx ⟨⟨v3,v4,rfl⟩,s1,al⟩
    obtain ⟨hj,rfl⟩:=J0b hx
    rw [Int.zero_add]
    obtain ⟨i,n,kd,pf,a1,a2,a3,a4,a5,a6,a7,a8⟩:=hs.at (show j<is.length by omega)
    have hv:=List.getElem?_eq_getElem hj
    have ey:ps.getD j .non=ps[j]:=J15 hv
    have hdv:=hd _ (List.getElem_mem hj)
    generalize ps[j]=y at *
    walk_at "dc"
    refine JbP (s1 _ _ hs.l) (hs.F.mono s1) fun pd hpd=>?_
    have s2:=s1.new hpd (HO.dK (kvF ns kds))
    have gd:upd H1 pd (HO.dK (kvF ns kds)) pd=some (.dK (kvF ns kds)):=Jb
    generalize upd H1 pd (HO.dK (kvF ns kds))=H2 at *
    have fin:J2p kd y=true→∀ m,m<j+1→J2p (kds.getD (is.getD m 0) Jv) (ps.getD m .non)=true:=fun hv2 m hm=>by
     rcases Nat.lt_succ_iff_lt_or_eq.mp hm with hm | rfl
     ·exact al m hm
     ·rw [a2,a6,ey,hv2]
    have off:J2p kd y=false→okP kds is ps=false:=fun hv2=>by
     unfold okP
     rw [Bool.and_eq_false_iff]
     right
     rw [List.all_eq_false]
     exact ⟨j,List.mem_range.mpr hj,by rw [a2,a6,ey,hv2];decide⟩
    have hk2:=hkk kd (List.mem_of_getElem? a5)
    refine ⟨ln,_,_,V.str n,rfl,rfl,.of (s2 _ _ hn),Jl (by rw [List.getElem?_map,a1,Option.map_some,a4]),pd,rfl,_,J5s gd (J4x (J75 hs.F.2.2.1) (J76 a3 a5)),lp,_,_,_,rfl,rfl,.of (s2 _ _ hp),Jl hv,?_⟩
    dsimp only
    by_cases hy:y=.non
    ·rw [if_neg (by simpa using hy)]
     exact ⟨⟨_,rfl⟩,s2,fin (by rw [hy];unfold J2p;rw [if_pos rfl])⟩
    ·rw [if_pos (by simpa using hy)]
     obtain ⟨Ty,hTy,eTy⟩:∃ Ty,Pl K H2 y Ty∧J69 Ty "str"=isS y:=by
      rcases hdv with h | ⟨z,rfl,h⟩ | ⟨i,rfl,_⟩
      ·exact absurd h hy
      ·exact ⟨"str",.of_str (Jc (by rcases h with h | rfl;have:=h.2.1;omega;decide)),rfl⟩
      ·exact ⟨"int",.of_int,rfl⟩
     have eq:=drawn_ok hdv hy hk2
     have ek:decide (V.str kd=V.str (Str.ofString "word"))=decide (kd=Jv):=by
      rw [decide_eq_decide]
      exact ⟨fun q=>by injection q,fun q=>by rw [q]⟩
     refine ⟨lp,_,_,_,rfl,rfl,.of (s2 _ _ hp),Jl hv,Ty,hTy,by decide,rfl,?_⟩
     rw [eTy,ek]
     by_cases c1:isS y=decide (kd=Jv)
     ·rw [if_neg (by simpa using c1)]
      have c1':(isS y != decide (kd=Jv))=false:=by rw [c1];simp
      rw [c1',Bool.not_false,Bool.true_and] at eq
      refine ⟨lp,_,_,_,rfl,rfl,.of (s2 _ _ hp),Jl hv,⟨by decide,by decide,by decide⟩,Jc (by decide),fun q hq=>?_⟩
      have s3:=s2.new hq (HO.lst [V.str (Str.ofString "A"),V.int (10 ^ Int.toNat 60)])
      have gq:upd H2 q (HO.lst [V.str (Str.ofString "A"),V.int (10 ^ Int.toNat 60)]) q=some (.lst [V.str "A",V.int (10 ^ 60)]):=Jb
      generalize upd H2 q (HO.lst [V.str (Str.ofString "A"),V.int (10 ^ Int.toNat 60)])=H3 at *
      refine inBad hdv gq ⟨_,rfl,?_⟩
      cases hb:J7k y with
      | true =>
        rw [if_pos rfl]
        rw [hb] at eq
        rw [← off eq]
        exact k H3 s3
      | false =>
        rw [if_neg (by decide)]
        rw [hb] at eq
        exact ⟨⟨_,rfl⟩,s3,fin eq⟩
     ·rw [if_pos (by simpa using c1)]
      have c1':(isS y != decide (kd=Jv))=true:=by simpa using c1
      rw [c1',Bool.not_true,Bool.false_and] at eq
      rw [← off eq]
      exact k H2 s2
   ·rintro σ H1 ⟨⟨v3,v4,rfl⟩,s1,al⟩
    walk_at "dc"
    have e:okP kds is ps=true:=by
     unfold okP
     rw [decide_eq_true (by omega),Bool.true_and,List.all_eq_true]
     intro j hj
     exact al j (by rw [JC];exact List.mem_range.mp hj)
    rw [← e]
    exact k H1 s1
def RowAtS (H:Hp)(kds:List Str)(x:V):Prop:=∃ p rs,x=.ref p∧H p=some (.tup rs)∧RowS kds rs
theorem RowAtS.mono {H H':Hp}{kds:List Str}{x:V}(s:Same H H')(h:RowAtS H kds x):RowAtS H' kds x:=by
 obtain ⟨p,rs,e,h1,h2⟩:=h
 exact ⟨p,rs,e,s _ _ h1,h2⟩
theorem RowS.drawn {kds:List Str}{rs:List V}(h:RowS kds rs){i:Nat}(hi:i<kds.length):rs[i]?=some (rs.getD i .non)∧Drawn (rs.getD i .non):=by
 have hl:i<rs.length:=by rw [h.1];exact hi
 have e:=List.getElem?_eq_getElem hl
 rw [J15 e]
 refine ⟨e,?_⟩
 rcases h.2 i _ _ e (List.getElem?_eq_getElem hi) with h | h
 ·exact .inl h
 ·rcases h with ⟨_,z,e,hz⟩ | ⟨_,j,e,hj⟩
  ·exact .inr (.inl ⟨z,e,.inl hz⟩)
  ·exact .inr (.inr ⟨j,e,.inl hj⟩)
theorem J1x {K:PySem.W.Frag}{H:Hp}{p:Addr}{ys:List V}{Q:VK}(h:H p=some (.lst ys))(q:∀ l G,Same H G→G l=some (.tup ys)→Q (.ref l) G):J1A K [.ref p] H Q:=by
 unfold J1A
 exact ⟨p,ys,rfl,.inl ⟨.of h,fun l hl=>q l _ (Same.upd_new hl _) Jb⟩⟩
def J85 (K:PySem.W.Frag):Sp:=fun vs H Q _=>∃ (sd:Int) (ln lm lr l:Addr) (xs xr:List V) (ns kds:List Str) (is:List Nat),vs=[.int sd,.ref ln,.ref lm,.ref lr,.ref l]∧Side H l ln xs ns kds is∧(∀ kd∈kds,kd=Jv∨kd=numS)∧H lm=some (.lst (ns.map V.str))∧H lr=some (.lst xr)∧xr.length≤60∧(∀ x∈xr,RowAtS H kds x) ∧
 ∀ H' p ps,Same H H'→H' p=some (.tup ps)→ps.length≤20→(∀ v∈ps,Drawn v)→Q (.ref p) H'
theorem ok_l_path (T:Txt K mg f fd):FnOk P w K mg base CX0 1 (f 39) (fd 39) ["_law_seed","_law_side","_law_names","_law_rows","_law_fields"] (J85 K):=by
 refine T.d_l_path.F.ok J10 (fun vs H Q E h=>?_) (fun cdv A outer s H vs Q E hr h=>?_)
 ·obtain ⟨sd,ln,lm,lr,l,xs,xr,ns,kds,is,rfl,_⟩:=h
  rfl
 ·obtain ⟨sd,ln,lm,lr,l,xs,xr,ns,kds,is,rfl,hs,hkk,hlm,hlr,hxl,hx,k⟩:=h
  have hn:=hs.n
  unfold nmT at hn
  have few:=hs.few
  refine ⟨_,(Jd (psl 5 J10.nd (Jj Jci (J0c (pal rfl J1t Ja)) (JJ (J0z rfl) T.n_len JL rfl (by decide) (by decide) rfl (pal rfl (pvl 1) Ja))))
   (Jd (J00 (Jq J3J (JJ (J0z rfl) T.n_len JL rfl (by decide) (by decide) rfl (pal rfl (pvc 3) Ja)) Je (Jr _))
   (Jf (J25 ["_law_name"] ["_law_seed","_law_side","_law_names","_law_rows","_law_fields","_law_values","_law_turn","_law_at","_law_kind"] rfl (show CompSc _ (J9 J0P) ["_law_seed","_law_side","_law_names","_law_rows","_law_fields","_law_values","_law_turn","_law_at","_law_kind"] ["_law_seed","_law_side","_law_names","_law_rows","_law_fields","_law_values","_law_turn","_law_at","_law_kind"] from Jx (by decide +kernel)) J10.nd (i:=5) rfl rfl (J64 rfl (pvl 1)) (fun _ _ _ _ _=>(pgl 0 (show (["_law_name","_law_seed","_law_side","_law_names","_law_rows","_law_fields","_law_values","_law_turn","_law_at","_law_kind"]:List Str).Nodup by decide +kernel))) (fun _ _ _ _ _=>J06) (fun _ _ _ _ _=>(Jo (JB rfl) (Jo (J0S rfl) (pvc 4) (Jj JK (pvc 1) (JJ (J0z rfl) T.n_len JL rfl (by decide) (by decide) rfl (pal rfl (pvc 4) Ja))) (fun _ _=>rfl)) (J37 rfl PySem.F.plainAttrs_list PySem.F.slot_list_index PySem.F.type_list_index (J67 rfl) rfl rfl rfl rfl (pvc 3) (pal rfl (pvl 0) Ja)) (fun _ _=>rfl)))))
   Jt)
   (Jd (psl 5 J10.nd (J0G (J36 rfl) (pvl 5) J19 (J0U (Jj JK (Jj J0k (pvc 0) Je) (Jj J0o (JJ (J0z rfl) T.n_len JL rfl (by decide) (by decide) rfl (pal rfl (pvl 1) Ja)) Je)))))
   (Jd (psl 6 J10.nd (Jj JK (Jj J0k (pvc 0) Je) Je))
   (Jd (J00 (Jq J0N (pvl 6) Je (Jr _))
   (Jf (psl 5 J10.nd (Jj J6S (pvl 5) (J0c (pal rfl (Jo (J0S rfl) (J0c (pal rfl Jp (pal rfl Je (pal rfl J1t Ja)))) (Jj JK (Jj J0k (pvc 0) Je) Je) (fun _ _=>rfl)) Ja)))))
   Jt)
   (Jd (J00 (PW.pt (J2V (Jq J3J (pvl 6) Je (Jr _)) (J2y (Jq J3J (JJ (J0z rfl) T.n_len JL rfl (by decide) (by decide) rfl (pal rfl (pvl 5) Ja)) Je (Jr _)))))
   (Jd (psl 7 J10.nd (Jj JK (Jj J0k (pvc 0) Je) (JJ (J0z rfl) T.n_len JL rfl (by decide) (by decide) rfl (pal rfl (pvl 5) Ja))))
   (Jd (psl 8 J10.nd (J13 (J1F hr) (J0B (J7N rfl rfl) T.n_dict J7V rfl (by decide) (by decide) rfl (pal rfl (pvl 4) Ja)) (Jo (JB rfl) (pvl 1) (pvl 7) (fun _ _=>rfl)) (fun _ _=>rfl)))
   (Jf (J9s (Jo (J0S rfl) (J0c (pal rfl Jp (pal rfl J1t (pal rfl (Jo (J0S rfl) (J0c (pal rfl Jp (pal rfl Je Ja))) (J0B J31 T.n_int J5o rfl (by decide) (by decide) rfl (pal rfl (J1a J0N (pvl 8) Jp (Jr _)) Ja)) (fun _ _=>rfl)) (pal rfl (Jo (J0S rfl) (J0c (pal rfl Jp (pal rfl (Jj J3I Je Je) Ja))) (J0B J31 T.n_int J5o rfl (by decide) (by decide) rfl (pal rfl (J1a J0N (pvl 8) Jp (Jr _)) Ja)) (fun _ _=>rfl)) Ja))))) (Jj J3G (pvl 6) Je) (fun _ _=>rfl)) (Jce (pvl 5) (pvl 7) J94)))))
   Jt)
   (Jf (Jn (J0B (J1Q rfl) T.n_tuple J1m rfl (by decide) (by decide) rfl (pal rfl (pvl 5) Ja)))))))))),?_⟩
  generalize hB:J3Z (J3a (tSl _ _ _ _) _) _=B
  have fin:∀ (H':Hp) (p:Addr) (zs:List V),Same H H'→H' p=some (.lst zs)→zs.length≤20→(∀ v∈zs,Drawn v)→J1A K [.ref p] H' Q:=fun H' p zs s' g hz hd=>J1x g fun l' G sG gG=>k G l' zs (s'.trans sG) gG hz hd
  have dA:Drawn (.str "A"):=.inr (.inl ⟨_,rfl,.inr rfl⟩)
  have dN:Drawn (.int (10 ^ 60)):=.inr (.inr ⟨_,rfl,.inr rfl⟩)
  have dz:Drawn (.str "zz9"):=.inr (.inl ⟨_,rfl,.inl ⟨by decide,by decide,by decide +kernel⟩⟩)
  have da:Drawn (.str "a"):=.inr (.inl ⟨_,rfl,.inl ⟨by decide,by decide,by decide +kernel⟩⟩)
  have d5:Drawn (.int 5):=.inr (.inr ⟨_,rfl,.inl (by decide +kernel)⟩)
  have d7:Drawn (.int 7):=.inr (.inr ⟨_,rfl,.inl (by decide +kernel)⟩)
  have d0:Drawn .non:=.inl rfl
  have tl : ∀ (H1:Hp) (vl:Addr) (ys:List V),Same H H1→H1 vl=some (.lst ys)→ys.length≤is.length→(∀ v∈ys,Drawn v)→B { nx:=fun _ H'=>Q V.non H',rt:=Q } [some (V.int sd),some (V.ref ln),some (V.ref lm),some (V.ref lr),some (V.ref l),some (V.ref vl),none,none,none] H1:=by
   intro H1 vl ys s1 gv hyl hyd
   subst hB
   walk_at "dt"
   refine ⟨⟨by decide,by decide⟩,_,.inr (.of (s1 _ _ hn)),by omega,_,.of gv,fun p hp=>?_⟩
   obtain ⟨zs,ez,hzl,hzd⟩:∃ zs,J0M ys none (some (sd / 16 % (((is.map fun i=>V.str (ns.getD i Jv)).length:Int)+1)))=zs∧zs.length≤is.length∧∀ v∈zs,Drawn v:=by
    refine ⟨_,rfl,?_,fun v hv=>?_⟩
    ·unfold J0M
     rw [List.length_take,List.length_drop]
     omega
    ·unfold J0M at hv
     exact hyd v (List.mem_of_mem_drop (List.mem_of_mem_take hv))
   rw [ez]
   have s2:=s1.new hp (HO.lst zs)
   have g2:upd H1 p (HO.lst zs) p=some (.lst zs):=Jb
   have hp0:=none_of s1 hp
   generalize upd H1 p (HO.lst zs)=H2 at *
   refine ⟨⟨by decide,by decide⟩,by decide,?_⟩
   by_cases t1:sd / 64 % 6=1
   ·rw [if_pos (decide_eq_true t1)]
    refine ⟨Jc (by decide),fun q hq=>⟨⟨by decide,by decide⟩,by decide,?_⟩⟩
    have s3:=s2.new hq (HO.lst [V.str (Str.ofString "a"),V.int 5,V.non])
    have w3:=Same.upd_new hq (HO.lst [V.str (Str.ofString "a"),V.int 5,V.non])
    have g3:upd H2 q (HO.lst [V.str (Str.ofString "a"),V.int 5,V.non]) q=some (HO.lst [V.str (Str.ofString "a"),V.int 5,V.non]):=Jb
    generalize upd H2 q (HO.lst [V.str (Str.ofString "a"),V.int 5,V.non])=H3 at *
    refine J0I (.of g3) (Int.emod_nonneg _ (by decide)) (Int.emod_lt_of_pos _ (by decide)) fun x hx=>⟨Jc (by decide),fun q2 hq2=>?_⟩
    have hxd:Drawn x:=by
     rcases (by omega:sd / 384 % 3=0∨sd / 384 % 3=1∨sd / 384 % 3=2) with h | h | h<;>rw [h] at hx
     ·rw [← Option.some.inj hx];exact da
     ·rw [← Option.some.inj hx];exact d5
     ·rw [← Option.some.inj hx];exact d0
    have s4:=s3.new hq2 (HO.lst [x])
    have w4:=Same.upd_new hq2 (HO.lst [x])
    have g4:upd H3 q2 (HO.lst [x]) q2=some (.lst [x]):=Jb
    generalize upd H3 q2 (HO.lst [x])=H4 at *
    refine ⟨p,q2,_,_,rfl,rfl,w4 _ _ (w3 _ _ g2),g4,Jc (by simp;omega),fun q3 hq3=>?_⟩
    have s5:=s4.new hq3 (HO.lst (zs++[x]))
    have g5:upd H4 q3 (HO.lst (zs++[x])) q3=some (.lst (zs++[x])):=Jb
    generalize upd H4 q3 (HO.lst (zs++[x]))=H5 at *
    dsimp only
    rw [if_neg (by rw [t1];decide)]
    exact fin H5 q3 (zs++[x]) s5 g5 (by rw [List.length_append,List.length_singleton];omega) fun v hv=>by
     rcases List.mem_append.mp hv with hv | hv
     ·exact hzd v hv
     ·rw [List.mem_singleton.mp hv];exact hxd
   ·rw [if_neg (by simpa using t1)]
    by_cases t2:1<sd / 64 % 6
    ·rw [if_pos (decide_eq_true t2)]
     refine ⟨_,.inl (.of g2),?_⟩
     by_cases hz0:0<zs.length
     ·rw [if_pos (decide_eq_true (by omega))]
      refine ⟨⟨by decide,by decide⟩,_,.inl (.of g2),by omega,?_⟩
      have hs2:=hs.mono s2
      refine JbP hs2.l hs2.F fun pd hpd=>?_
      have s3:=s2.new hpd (HO.dK (kvF ns kds))
      have w3:=Same.upd_new hpd (HO.dK (kvF ns kds))
      have gd:upd H2 pd (HO.dK (kvF ns kds)) pd=some (.dK (kvF ns kds)):=Jb
      generalize upd H2 pd (HO.dK (kvF ns kds))=H3 at *
      have a0:0≤sd / 384 % (zs.length:Int):=Int.emod_nonneg _ (by omega)
      have a1:sd / 384 % (zs.length:Int)<zs.length:=Int.emod_lt_of_pos _ (by omega)
      obtain ⟨at',hat⟩:∃ at':Nat,sd / 384 % (zs.length:Int)=at':=⟨(sd / 384 % (zs.length:Int)).toNat,by omega⟩
      rw [hat] at a0 a1 ⊢
      obtain ⟨i,n,kd,pf,b1,b2,b3,b4,b5,b6,b7,b8⟩:=hs.at (show at'<is.length by omega)
      have hk2:=hkk kd (List.mem_of_getElem? b5)
      refine ⟨ln,_,_,V.str n,rfl,rfl,.of (s3 _ _ hn),Jl (by rw [List.getElem?_map,b1,Option.map_some,b4]),pd,rfl,_,J5s gd (J4x (J75 hs.F.2.2.1) (J76 b3 b5)),Jc (by decide),fun q1 hq1=>⟨rfl,?_⟩⟩
      have s4:=s3.new hq1 (HO.lst [V.str (Str.ofString "zz9"),V.int 7])
      have w4:=w3.new hq1 (HO.lst [V.str (Str.ofString "zz9"),V.int 7])
      have g4:upd H3 q1 (HO.lst [V.str (Str.ofString "zz9"),V.int 7]) q1=some (HO.lst [V.str (Str.ofString "zz9"),V.int 7]):=Jb
      generalize upd H3 q1 (HO.lst [V.str (Str.ofString "zz9"),V.int 7])=H4 at *
      refine J0I (.of g4) (by split<;>decide) (by split<;>decide) fun x hx=>⟨⟨by decide,by decide,by decide⟩,Jc (by decide),fun q2 hq2=>⟨rfl,?_⟩⟩
      have hxd:Drawn x:=by
       split at hx
       ·rw [← Option.some.inj hx];exact d7
       ·rw [← Option.some.inj hx];exact dz
      have s5:=s4.new hq2 (HO.lst [V.str (Str.ofString "A"),V.int (10 ^ Int.toNat 60)])
      have w5:=w4.new hq2 (HO.lst [V.str (Str.ofString "A"),V.int (10 ^ Int.toNat 60)])
      have g5:upd H4 q2 (HO.lst [V.str (Str.ofString "A"),V.int (10 ^ Int.toNat 60)]) q2=some (HO.lst [V.str (Str.ofString "A"),V.int (10 ^ Int.toNat 60)]):=Jb
      generalize upd H4 q2 (HO.lst [V.str (Str.ofString "A"),V.int (10 ^ Int.toNat 60)])=H5 at *
      refine J0I (.of g5) (by split<;>decide) (by split<;>decide) fun y hy=>?_
      have hyd':Drawn y:=by
       split at hy
       ·rw [← Option.some.inj hy];exact dN
       ·rw [← Option.some.inj hy];exact dA
      refine ⟨Jc (by decide),fun q4 hq4=>?_⟩
      have s6:=s5.new hq4 (HO.lst [V.str (Str.ofString "zz9"),V.non,x,y])
      have w6:=w5.new hq4 (HO.lst [V.str (Str.ofString "zz9"),V.non,x,y])
      have g6:upd H5 q4 (HO.lst [V.str (Str.ofString "zz9"),V.non,x,y]) q4=some (HO.lst [V.str (Str.ofString "zz9"),V.non,x,y]):=Jb
      generalize upd H5 q4 (HO.lst [V.str (Str.ofString "zz9"),V.non,x,y])=H6 at *
      have t6:sd / 64 % 6<6:=Int.emod_lt_of_pos _ (by decide)
      refine J0I (.of g6) (by omega) (by simp;omega) fun u hu=>?_
      have hud:Drawn u:=by
       rcases (by omega:sd / 64 % 6=2∨sd / 64 % 6=3∨sd / 64 % 6=4∨sd / 64 % 6=5) with h | h | h | h<;>rw [h] at hu
       ·rw [← Option.some.inj hu];exact dz
       ·rw [← Option.some.inj hu];exact d0
       ·rw [← Option.some.inj hu];exact hxd
       ·rw [← Option.some.inj hu];exact hyd'
      refine JaO (w6 _ _ g2) a0 a1 ?_
      have s7:=s6.set hp0 (HO.lst (zs.set (Int.toNat (at':Int)) u))
      refine fin _ _ (zs.set (Int.toNat (at':Int)) u) s7 Jb (by rw [List.length_set];omega) fun v hv=>?_
      rcases List.mem_or_eq_of_mem_set hv with hv | rfl
      ·exact hzd v hv
      ·exact hud
     ·rw [if_neg (fun q=>hz0 (by have:=of_decide_eq_true q;omega))]
      exact fin H2 _ zs s2 g2 (by omega) hzd
    ·rw [if_neg (by simpa using t2)]
     exact fin H2 _ zs s2 g2 (by omega) hzd
  walk_at "dc"
  refine ⟨Jc (by decide),fun p hp=>⟨_,.inr (.of ((Same.upd_new hp _) _ _ hn)),?_⟩⟩
  rw [List.length_map]
  have s1:=Same.upd_new hp (HO.lst [V.non])
  have g1:upd H p (HO.lst [V.non]) p=some (.lst [V.non]):=Jb
  generalize upd H p (HO.lst [V.non])=H1 at *
  refine ⟨p,_,_,rfl,rfl,g1,by omega,by omega,by rw [List.length_singleton];exact Jc (by omega),fun p2 hp2=>?_⟩
  have e1:(List.replicate (is.length:Int).toNat [V.non]).flatten=List.replicate is.length V.non:=by
   rw [Int.toNat_natCast]
   induction is.length with
   | zero=>rfl
   | succ n ih=>rw [List.replicate_succ,List.flatten_cons,ih,List.replicate_succ];rfl
  rw [e1]
  have s2:=s1.new hp2 (HO.lst (List.replicate is.length V.non))
  have g2:upd H1 p2 (HO.lst (List.replicate is.length V.non)) p2=some (.lst (List.replicate is.length V.non)):=Jb
  generalize upd H1 p2 (HO.lst (List.replicate is.length V.non))=H2 at *
  refine ⟨_,.inl (.of (s2 _ _ hlr)),?_⟩
  by_cases h0:0<xr.length
  ·rw [if_pos (decide_eq_true (by omega))]
   refine ⟨⟨_,.of (s2 _ _ hn)⟩,?_⟩
   refine J02 (J1T (xs:=is.map fun i=>V.str (ns.getD i Jv))) (by rw [List.length_map];exact Jc (by omega)) (fun i ys H'=>Same H2 H'∧ys.length=i∧∀ v∈ys,Drawn v) ⟨Same.refl _,rfl,fun _ z=>nomatch z⟩ (fun _ _ H' _ q=>(s2.trans q.1).seqT (.of hn)) (fun i ys H' q=>Nat.le_of_eq q.2.1) (fun i x ys H3 hx' q=>?_) (fun ys H3 q D hD=>?_)
   ·obtain ⟨t1,hyl,hyd⟩:=q
    have S3:=s2.trans t1
    have hil:=(List.getElem?_eq_some_iff.mp hx').1
    rw [List.length_map] at hil
    obtain ⟨j,n,kd,pf,b1,b2,b3,b4,b5,b6,b7,b8⟩:=hs.at hil
    rw [List.getElem?_map,b1] at hx'
    obtain rfl:V.str n=x:=by rw [← b4];exact Option.some.inj hx'
    walk_at "dc"
    refine ⟨_,.inl (.of (S3 _ _ hlr)),by omega,?_⟩
    refine J0I (.of (S3 _ _ hlr)) (Int.emod_nonneg _ (by omega)) (Int.emod_lt_of_pos _ (by omega)) fun rv hrv=>?_
    obtain ⟨pr,rs,rfl,hpr,hR⟩:=(hx rv (List.mem_of_getElem? hrv)).mono S3
    obtain ⟨c1,c2⟩:=hR.drawn ((List.getElem?_eq_some_iff.mp b5).1)
    refine ⟨.inl ⟨rfl,_,.of (S3 _ _ hlm)⟩,ns,.of (S3 _ _ hlm),j,b3,(fun m hm e=>absurd (J1k hs.F.2.2.1 e b3) (by omega)),pr,_,_,_,rfl,rfl,.of hpr,Jl c1,⟨_,rfl⟩,t1,by rw [List.length_append,List.length_singleton];omega,fun v hv=>?_⟩
    rcases List.mem_append.mp hv with hv | hv
    ·exact hyd v hv
    ·rw [List.mem_singleton.mp hv];exact c2
   ·obtain ⟨t1,hyl,hyd⟩:=q
    rw [List.length_map] at hyl
    exact tl _ D ys ((s2.trans t1).new hD _) Jb (Nat.le_of_eq hyl) hyd
  ·rw [if_neg (fun q=>h0 (by have:=of_decide_eq_true q;omega))]
   exact tl H2 p2 _ s2 g2 (by rw [List.length_replicate];exact Nat.le_refl _) fun v hv=>by rw [List.eq_of_mem_replicate hv];exact d0
noncomputable def nmL (ns:List Str)(js:List Nat):List V:=js.map fun i=>V.str (ns.getD i Jv)
theorem Wd.out {H:Hp}{d:Addr}{ns kds:List Str}(h:Wd H d ns kds):∃ l xs,H l=some (.lst xs)∧FldsK H xs ns kds∧(∀ kd∈kds,kd=Jv∨kd=numS)∧1≤xs.length∧xs.length≤8∧(∀ n∈ns,Nam n)∧∀ G,Same H G→DGet G d (.str "fields") (some (.ref l)):=by
 obtain ⟨kvs,l,w',b,xs,ws,h1,h2,h3,h4,h5,h6,h7,h8,h9,h10,h11,h12,h13,h14⟩:=h
 exact ⟨l,xs,h5,h6,h7,h8,h9,h13,fun G s=>J5s (s _ _ h1) h2⟩
theorem FigA.tup {H H':Hp}{fv:V}{ns kds:List Str}(t:∀ c ys,H c=some (.tup ys)→H' c=some (.tup ys))(h:FigA H fv ns kds):FigA H' fv ns kds:=by
 obtain ⟨q,e,h | ⟨hd,n,j,kd,h1,h2⟩⟩:=h
 ·exact ⟨q,e,.inl (t _ _ h)⟩
 ·exact ⟨q,e,.inr ⟨hd,n,j,kd,t _ _ h1,h2⟩⟩
theorem Jbw {xs:List V}{a m:Nat}:∃ i k,k≤m∧J0M xs (some (a:Int)) (some ((a:Int)+m))=(xs.drop i).take k:=by
 refine ⟨HT.sIx xs.length 0 (some (a:Int)),HT.sIx xs.length xs.length (some ((a:Int)+m)) - HT.sIx xs.length 0 (some (a:Int)),?_,rfl⟩
 rw [show (a:Int)+m=((a+m:Nat):Int) by omega,HT.sIx_nat,HT.sIx_nat]
 omega
theorem J4A {H:Hp}{p:Addr}{zs:List V}{o:HO}(h:H p=some (.lst zs)):∀ c ys,H c=some (.tup ys)→upd H p o c=some (.tup ys):=fun c ys hc=>by
 rw [Jk (fun e=>by rw [e,h] at hc;exact nomatch hc)]
 exact hc
def J84 (K:PySem.W.Frag):Sp:=fun vs H Q _=>∃ (sd:Int) (d:Addr) (ns kds:List Str),vs=[.int sd,.ref d]∧Wd H d ns kds∧∀ H' v n0 n1 fg fvs is0 is1,Same H H'→View H' v n0 n1 fg ns kds is0 is1→H' fg=some (.tup fvs)→(∀ fv∈fvs,FigA H' fv ns kds)→fvs.length≤60→Q (.ref v) H'
theorem ok_l_view (T:Txt K mg f fd):FnOk P w K mg base CX0 2 (f 38) (fd 38) ["_law_seed","_law_world_here"] (J84 K):=by
 refine T.d_l_view.F.ok J09 (fun vs H Q E h=>?_) (fun cdv A outer s H vs Q E hr h=>?_)
 ·obtain ⟨sd,d,ns,kds,rfl,_⟩:=h
  rfl
 ·obtain ⟨sd,d,ns,kds,rfl,hW,k⟩:=h
  obtain ⟨l,xs,hl,hF,hkk,h1,h8,hnm,hget⟩:=hW.out
  refine ⟨_,(Jd (J25 ["_law_field"] ["_law_seed","_law_world_here","_law_names","_law_at","_law_few","_law_figures","_law_k","_law_turn","_law_name","_law_kind","_law_figure"] rfl (show CompSc _ (J9 J0O) ["_law_seed","_law_world_here","_law_names","_law_at","_law_few","_law_figures","_law_k","_law_turn","_law_name","_law_kind","_law_figure"] ["_law_seed","_law_world_here","_law_names","_law_at","_law_few","_law_figures","_law_k","_law_turn","_law_name","_law_kind","_law_figure"] from Jx (by decide +kernel)) J09.nd (i:=2) rfl rfl (J1q rfl (J13 (J1F hr) (pvl 1) Jp (fun _ _=>rfl))) (fun _ _ _ _ _=>(pgl 0 (show (["_law_field","_law_seed","_law_world_here","_law_names","_law_at","_law_few","_law_figures","_law_k","_law_turn","_law_name","_law_kind","_law_figure"]:List Str).Nodup by decide +kernel))) (fun _ _ _ _ _=>J06) (fun _ _ _ _ _=>(Jo (JB rfl) (pvl 0) Je (fun _ _=>rfl))))
   (Jd (psl 3 J09.nd (Jj JK (pvl 0) (JJ (J0z rfl) T.n_len JL rfl (by decide) (by decide) rfl (pal rfl (pvl 2) Ja))))
   (Jd (psl 2 J09.nd (Jj J6S (J0G (J36 rfl) (pvl 2) (J0U (pvl 3)) J19) (J0G (J36 rfl) (pvl 2) J19 (J0U (pvl 3)))))
   (Jd (J00 (Jq J0N (Jj JK (Jj J0k (pvl 0) Je) Je) Je (Jr _))
   (Jf (psl 2 J09.nd (Jcf rfl (pvl 2) (JcZ JbU Je))))
   Jt)
   (Jd (psl 4 J09.nd (Jj JK (Jj J0k (pvl 0) Je) Je))
   (Jd (psl 5 J09.nd (J0c Ja))
   (Jd (J0X PassesOwn.never rfl (J0a rfl T.n_range (pal rfl (Jj J0o Je (Jj JK (Jj J0k (pvl 0) Je) Je)) Ja)) (pgl 6 J09.nd)
   (Jd (psl 7 J09.nd (Jm T.d_l_mix (J0R T) (hr.mono (by decide)) rfl (by decide) rfl (pal rfl (pvl 0) (pal rfl (Jj J0o (pvl 6) Je) Ja))))
   (Jd (J9s (Jo (J0S rfl) (J13 (J1F hr) (pvl 1) Jp (fun _ _=>rfl)) (Jj JK (pvl 7) (JJ (J0z rfl) T.n_len JL rfl (by decide) (by decide) rfl (pal rfl (pvl 2) Ja))) (fun _ _=>rfl)) (J65 rfl rfl (J0Q (pgl 8 J09.nd) (J0Q (pgl 9 J09.nd) J2z))))
   (Jd (psl 10 J09.nd (Jo (J0S rfl) (J0c (pal rfl (J0n (pal rfl Jp Ja)) (pal rfl (J0n (pal rfl Jp (pal rfl (pvl 8) Ja))) (pal rfl (J0n (pal rfl Jp (pal rfl (pvl 8) Ja))) (pal rfl (J0n (pal rfl Jp (pal rfl (pvl 8) Ja))) (pal rfl (J0n (pal rfl Jp (pal rfl (pvl 8) Ja))) Ja)))))) (Jj JK (Jj J0k (pvl 7) Je) Je) (fun _ _=>rfl)))
   (Jd (J00 (PW.pt (J2V (Jq J0N (Jo (JB rfl) (pvl 10) Je (fun _ _=>rfl)) Jp (Jr _)) (J2y (Jq J0N (pvl 9) Jp (Jr _)))))
   (Jf (psl 10 J09.nd (J0n (pal rfl Jp (pal rfl (pvl 8) Ja)))))
   Jt)
   (Jf (J0T (J37 rfl PySem.F.plainAttrs_list PySem.F.slot_list_append PySem.F.type_list_append J1E rfl rfl rfl rfl (pvl 5) (pal rfl (pvl 10) Ja)))))))))
   (Jf (Jn (J0n (pal rfl (J0B (J1Q rfl) T.n_tuple J1m rfl (by decide) (by decide) rfl (pal rfl (J0G (J36 rfl) (pvl 2) J19 (J0U (pvl 4))) Ja)) (pal rfl (J0B (J1Q rfl) T.n_tuple J1m rfl (by decide) (by decide) rfl (pal rfl (J0G (J36 rfl) (pvl 2) (J0U (pvl 4)) (J0U (Jj J0o (pvl 4) (Jj JK (Jj J0k (pvl 0) Je) Je)))) Ja)) (pal rfl (J0B (J1Q rfl) T.n_tuple J1m rfl (by decide) (by decide) rfl (pal rfl (pvl 5) Ja)) Ja))))))))))))),?_⟩
  generalize hB:J3Z (J3a _ (J0s 4)) _=B
  have hxn:ns.length=xs.length:=hF.1
  have hxk:kds.length=xs.length:=hF.2.1
  have tl : ∀ (H1:Hp) (lm:Addr) (js:List Nat) (at':Int),Same H H1→H1 lm=some (.lst (nmL ns js))→js.length=xs.length→(∀ j∈js,j<kds.length)→B { nx:=fun _ H'=>Q V.non H',rt:=Q } [some (V.int sd),some (V.ref d),some (V.ref lm),some (V.int at'),none,none,none,none,none,none,none] H1:=by
   intro H1 lm js at' s1 gm hjl hjs
   subst hB
   walk_at "dc"
   refine ⟨⟨by decide,by decide⟩,by decide,Jc (by decide),fun lg hlg=>?_⟩
   have s2:=s1.new hlg (HO.lst [])
   have w2:=Same.upd_new hlg (HO.lst [])
   have g2:upd H1 lg (HO.lst []) lg=some (.lst []):=Jb
   have hlg0:=none_of s1 hlg
   generalize upd H1 lg (HO.lst [])=H2 at *
   refine J0Y ?_
   walk_at "dc"
   have m4:=Int.emod_lt_of_pos (sd / 64) (show (0:Int)<4 by decide)
   have m0:=Int.emod_nonneg (sd / 64) (show (4:Int)≠0 by decide)
   refine ⟨⟨by decide,by decide⟩,by decide,by omega,by omega,?_⟩
   have f4:=Int.emod_lt_of_pos (sd / 16) (show (0:Int)<4 by decide)
   have f0:=Int.emod_nonneg (sd / 16) (show (4:Int)≠0 by decide)
   obtain ⟨few,hfew⟩:∃ few:Nat,sd / 16 % 4=few:=⟨(sd / 16 % 4).toNat,by omega⟩
   rw [hfew] at f4 f0 ⊢
   refine ForW.of JR (fun j σ H'=>∃ (v6 v7 v8 v9 v10:Option V) (fvs:List V),σ=[some (V.int sd),some (V.ref d),some (V.ref lm),some (V.int at'),some (V.int few),some (V.ref lg),v6,v7,v8,v9,v10]∧Same H1 H'∧H' lg=some (.lst fvs)∧fvs.length=j∧∀ fv∈fvs,FigA H' fv ns kds) ⟨none,none,none,none,none,[],rfl,w2,g2,rfl,fun _ z=>nomatch z⟩ (fun _ _ _ _ _=>trivial) ?_ ?_
   ·rintro j x σ H3 hx ⟨v6,v7,v8,v9,v10,fvs,rfl,s3,g3,l3,a3⟩
    obtain ⟨hj,rfl⟩:=J0b hx
    have S3:=s1.trans s3
    walk_at "dc"
    refine ⟨_,_,rfl,?_⟩
    generalize J8i sd _=tn
    walk_at "dc"
    refine ⟨_,hget H3 S3,_,.inl (.of (s3 _ _ gm)),?_⟩
    have ln:(nmL ns js).length=xs.length:=by unfold nmL;rw [List.length_map];exact hjl
    rw [ln]
    refine ⟨by omega,J0I (.of (S3 _ _ hl)) (Int.emod_nonneg _ (by omega)) (Int.emod_lt_of_pos _ (by omega)) fun fv hfv=>?_⟩
    generalize (tn % (xs.length:Int)).toNat=jj at *
    obtain ⟨pf,n,kd,e1,e2,e3,e4⟩:=hF.at (List.getElem?_eq_some_iff.mp hfv).1
    obtain rfl:fv=.ref pf:=Option.some.inj (hfv.symm.trans e1)
    refine ⟨pf,_,rfl,.of (S3 _ _ e4),rfl,?_⟩
    simp only [J22,J4b,J0s]
    generalize hC:J3Z (J6z _ _ _) _=C
    generalize hD:(Ends.mk _ _ _ _:Ends)=D
    have rest:∀ (H5:Hp) (q:Addr) (hd:Str),Same H3 H5→(H5 q=some (.tup [.str "count"])∧hd="count"∨H5 q=some (.tup [.str hd,.str n])∧(hd="sum"∨JcT hd kd))→C D [some (V.int sd),some (V.ref d),some (V.ref lm),some (V.int at'),some (V.int few),some (V.ref lg),some (V.int (0+(j:Int))),some (V.int tn),some (V.str n),some (V.str kd),some (V.ref q)] H5:=by
     intro H5 q hd w h
     subst hC
     subst hD
     have fin:∀ (H5:Hp) (fv:V),Same H3 H5→FigA H5 fv ns kds→tyV K "list" (V.ref lg) H5∧J7D (V.ref lg) [fv] H5 fun _ H6=>(∃ y,some fv=y)∧Same H1 H6∧∃ x,H6 lg=some (HO.lst x)∧x.length=j+1∧∀ fv∈x,FigA H6 fv ns kds:=fun H5 fv w hfv=>by
      refine ⟨.inl ⟨rfl,_,.of (w _ _ g3)⟩,lg,_,_,rfl,rfl,w _ _ g3,Nat.lt_of_lt_of_le (show fvs.length<20 by omega) (Jc (by decide)),⟨_,rfl⟩,(s3.trans w).set hlg _,_,Jb,by rw [List.length_append,List.length_singleton];omega,fun v hv=>?_⟩
      rcases List.mem_append.mp hv with hv | hv
      ·exact ((a3 v hv).mono w).tup (J4A (w _ _ g3))
      ·rw [List.mem_singleton.mp hv];exact hfv.tup (J4A (w _ _ g3))
     obtain ⟨r,hq,hok⟩:∃ r,H5 q=some (.tup (.str hd::r))∧(hd≠"sum"∨kd≠"word"→FigA H5 (.ref q) ns kds):=by
      rcases h with ⟨h,rfl⟩ | ⟨h,h2⟩
      ·exact ⟨_,h,fun _=>⟨_,rfl,.inl h⟩⟩
      ·refine ⟨_,h,fun e=>⟨_,rfl,.inr ⟨hd,n,jj,kd,h,e2,e3,?_⟩⟩⟩
       rcases h2 with h2 | h2
       ·exact .inl ⟨h2,(hkk kd (List.mem_of_getElem? e3)).resolve_left (e.resolve_left fun z=>z h2)⟩
       ·exact h2
     walk_at "dc"
     refine ⟨q,_,_,_,rfl,rfl,.of hq,Jl (j:=0) rfl,rfl,?_⟩
     by_cases hs:hd="sum"
     ·rw [if_pos (by simpa using hs)]
      by_cases hw:kd=Str.ofString "word"
      ·rw [if_pos (by simpa using hw)]
       exact ⟨Jc (by decide),fun p7 hp7=>fin _ _ (w.new hp7 _) ⟨_,rfl,.inr ⟨_,n,jj,kd,Jb,e2,e3,.inr (.inr (.inr rfl))⟩⟩⟩
      ·rw [if_neg (by simpa using hw)]
       exact fin _ _ w (hok (.inr hw))
     ·rw [if_neg (by simpa using hs)]
      exact fin _ _ w (hok (.inl hs))
    clear hC hD
    walk_at "dc"
    refine ⟨Jc (by decide),fun p1 hp1=>⟨Jc (by decide),fun p2 hp2=>⟨Jc (by decide),fun p3 hp3=>⟨Jc (by decide),fun p4 hp4=>⟨Jc (by decide),fun p5 hp5=>⟨Jc (by decide),fun p6 hp6=>⟨⟨by decide,by decide⟩,by decide,?_⟩⟩⟩⟩⟩⟩⟩
    have w1:=Same.upd_new hp1 (HO.tup [V.str (Str.ofString "count")])
    have u1:upd H3 p1 (HO.tup [V.str (Str.ofString "count")]) p1=some (HO.tup [V.str (Str.ofString "count")]):=Jb
    generalize upd H3 p1 (HO.tup [V.str (Str.ofString "count")])=G1 at *
    have w2:=w1.new hp2 (HO.tup [V.str (Str.ofString "sum"),V.str n])
    have y2:=Same.upd_new hp2 (HO.tup [V.str (Str.ofString "sum"),V.str n])
    have u2:upd G1 p2 (HO.tup [V.str (Str.ofString "sum"),V.str n]) p2=some (HO.tup [V.str (Str.ofString "sum"),V.str n]):=Jb
    generalize upd G1 p2 (HO.tup [V.str (Str.ofString "sum"),V.str n])=G2 at *
    have w3:=w2.new hp3 (HO.tup [V.str (Str.ofString "greatest"),V.str n])
    have y3:=Same.upd_new hp3 (HO.tup [V.str (Str.ofString "greatest"),V.str n])
    have u3:upd G2 p3 (HO.tup [V.str (Str.ofString "greatest"),V.str n]) p3=some (HO.tup [V.str (Str.ofString "greatest"),V.str n]):=Jb
    generalize upd G2 p3 (HO.tup [V.str (Str.ofString "greatest"),V.str n])=G3 at *
    have w4:=w3.new hp4 (HO.tup [V.str (Str.ofString "least"),V.str n])
    have y4:=Same.upd_new hp4 (HO.tup [V.str (Str.ofString "least"),V.str n])
    have u4:upd G3 p4 (HO.tup [V.str (Str.ofString "least"),V.str n]) p4=some (HO.tup [V.str (Str.ofString "least"),V.str n]):=Jb
    generalize upd G3 p4 (HO.tup [V.str (Str.ofString "least"),V.str n])=G4 at *
    have w5:=w4.new hp5 (HO.tup [V.str (Str.ofString "unlike"),V.str n])
    have y5:=Same.upd_new hp5 (HO.tup [V.str (Str.ofString "unlike"),V.str n])
    have u5:upd G4 p5 (HO.tup [V.str (Str.ofString "unlike"),V.str n]) p5=some (HO.tup [V.str (Str.ofString "unlike"),V.str n]):=Jb
    generalize upd G4 p5 (HO.tup [V.str (Str.ofString "unlike"),V.str n])=G5 at *
    have w6:=w5.new hp6 (HO.lst [V.ref p1,V.ref p2,V.ref p3,V.ref p4,V.ref p5])
    have y6:=Same.upd_new hp6 (HO.lst [V.ref p1,V.ref p2,V.ref p3,V.ref p4,V.ref p5])
    have u6:upd G5 p6 (HO.lst [V.ref p1,V.ref p2,V.ref p3,V.ref p4,V.ref p5]) p6=some (HO.lst [V.ref p1,V.ref p2,V.ref p3,V.ref p4,V.ref p5]):=Jb
    generalize upd G5 p6 (HO.lst [V.ref p1,V.ref p2,V.ref p3,V.ref p4,V.ref p5])=G6 at *
    have q5:=y6 _ _ u5
    have z4:=y5.trans y6
    have q4:=z4 _ _ u4
    have z3:=y4.trans z4
    have q3:=z3 _ _ u3
    have z2:=y3.trans z3
    have q2:=z2 _ _ u2
    have q1:=(y2.trans z2) _ _ u1
    have t5:=Int.emod_lt_of_pos (tn / 8) (show (0:Int)<5 by decide)
    have t0:=Int.emod_nonneg (tn / 8) (show (5:Int)≠0 by decide)
    refine J0I (.of u6) t0 (by simpa using t5) fun x hx=>?_
    rcases (by omega:tn / 8 % 5=0∨tn / 8 % 5=1∨tn / 8 % 5=2∨tn / 8 % 5=3∨tn / 8 % 5=4) with h | h | h | h | h<;>rw [h] at hx<;>obtain rfl:=Option.some.inj hx
    ·exact rest _ _ "count" w6 (.inl ⟨q1,rfl⟩)
    ·exact rest _ _ _ w6 (.inr ⟨q2,.inl rfl⟩)
    ·exact rest _ _ _ w6 (.inr ⟨q3,.inr (.inr (.inl rfl))⟩)
    ·exact rest _ _ _ w6 (.inr ⟨q4,.inr (.inr (.inr (.inl rfl)))⟩)
    ·exact rest _ _ _ w6 (.inr ⟨q5,.inr (.inr (.inr (.inr rfl)))⟩)
   ·rintro σ H3 ⟨v6,v7,v8,v9,v10,fvs,rfl,s3,g3,l3,a3⟩
    rw [JC] at l3
    walk_at "dt"
    have d4:=Int.emod_lt_of_pos (sd / 256) (show (0:Int)<4 by decide)
    have d0:=Int.emod_nonneg (sd / 256) (show (4:Int)≠0 by decide)
    obtain ⟨m,hm⟩:∃ m:Nat,sd / 256 % 4=m:=⟨(sd / 256 % 4).toNat,by omega⟩
    rw [hm] at d4 d0 ⊢
    obtain ⟨ci,ck,hck,em⟩:=Jbw (xs:=nmL ns js) (a:=few) (m:=m)
    have em2:((nmL ns js).drop ci).take ck=nmL ns ((js.drop ci).take ck):=by unfold nmL;rw [List.map_take,List.map_drop]
    refine ⟨_,.of (s3 _ _ gm),fun p1 hp1=>J1x Jb fun n0 G2 w2' u2=>⟨⟨by decide,by decide⟩,by decide,nmL ns js,?_⟩⟩
    have w2:=(Same.upd_new hp1 _).trans w2'
    have ec:J0M (nmL ns js) none (some (few:Int))=nmL ns (js.take few):=(cut_to (xs:=nmL ns js) (k:=few)).trans (by unfold nmL;rw [List.map_take])
    rw [ec] at u2
    refine ⟨.of (w2 _ _ (s3 _ _ gm)),fun p2 hp2=>J1x Jb fun n1 G4 w4' u4=>?_⟩
    have y4:=(Same.upd_new hp2 _).trans w4'
    have w4:=w2.trans y4
    rw [em,em2] at u4
    refine J1x (w4 _ _ g3) fun fg G5 y5 u5=>⟨Jc (by decide),fun vw hvw=>?_⟩
    have w5:=w4.trans y5
    have w6:=w5.new hvw (HO.tup [V.ref n0,V.ref n1,V.ref fg])
    have y6:=Same.upd_new hvw (HO.tup [V.ref n0,V.ref n1,V.ref fg])
    refine k _ vw n0 n1 fg fvs (js.take few) ((js.drop ci).take ck) ((s1.trans s3).trans w6) ⟨Jb,y6 _ _ (y5 _ _ (y4 _ _ u2)),y6 _ _ (y5 _ _ u4),fun i hi=>hjs i (List.mem_of_mem_take hi),fun i hi=>hjs i (List.mem_of_mem_drop (List.mem_of_mem_take hi)),?_,?_⟩ (y6 _ _ u5) (fun fv hf=>(a3 fv hf).mono w6) (by omega)
    ·rw [List.length_take];omega
    ·rw [List.length_take];omega
  walk_at "dc"
  refine ⟨_,hget H (Same.refl _),l,rfl,⟨_,.of hl⟩,?_⟩
  refine J02 (J01 (xs:=xs)) (Jc (by omega)) (fun i ys H'=>Same H H'∧ys=nmL ns (List.range i)) ⟨Same.refl _,rfl⟩ (fun _ _ H' _ q=>q.1.seq (.of hl)) (fun i ys H' q=>by rw [q.2];unfold nmL;rw [List.length_map,List.length_range];exact Nat.le_refl _) (fun i x ys H3 hx q=>?_) (fun ys H3 q D hD=>?_)
  ·obtain ⟨t1,rfl⟩:=q
   obtain ⟨p,n,kd,e1,e2,e3,e4⟩:=hF.at (List.getElem?_eq_some_iff.mp hx).1
   obtain rfl:x=.ref p:=Option.some.inj (hx.symm.trans e1)
   walk_at "dc"
   refine ⟨p,_,_,_,rfl,rfl,.of (t1 _ _ e4),Jl (j:=0) rfl,⟨_,rfl⟩,t1,?_⟩
   unfold nmL
   rw [List.range_succ,List.map_append,List.map_cons,List.map_nil,J15 e2]
  ·obtain ⟨t1,rfl⟩:=q
   have s1:=t1.new hD (HO.lst (nmL ns (List.range xs.length)))
   have g1:upd H3 D (HO.lst (nmL ns (List.range xs.length))) D=some (.lst (nmL ns (List.range xs.length))):=Jb
   generalize upd H3 D (HO.lst (nmL ns (List.range xs.length)))=H4 at *
   have ln:(nmL ns (List.range xs.length)).length=xs.length:=by unfold nmL;rw [List.length_map,List.length_range]
   refine ⟨_,.inl (.of g1),?_⟩
   rw [ln]
   refine ⟨by omega,_,.of g1,fun p hp=>?_⟩
   obtain ⟨a,ha⟩:∃ a:Nat,sd % (xs.length:Int)=a:=⟨(sd % (xs.length:Int)).toNat,by have:=Int.emod_nonneg sd (show (xs.length:Int)≠0 by omega);omega⟩
   have hal:a<xs.length:=by have:=Int.emod_lt_of_pos sd (show (0:Int)<xs.length by omega);omega
   rw [ha]
   have e1:J0M (nmL ns (List.range xs.length)) (some (a:Int)) none=nmL ns ((List.range xs.length).drop a):=(Jag (nmL ns (List.range xs.length)) a).trans (by unfold nmL;rw [List.map_drop])
   have e2:J0M (nmL ns (List.range xs.length)) none (some (a:Int))=nmL ns ((List.range xs.length).take a):=(cut_to (xs:=nmL ns (List.range xs.length)) (k:=a)).trans (by unfold nmL;rw [List.map_take])
   rw [e1]
   have s2:=s1.new hp (HO.lst (nmL ns ((List.range xs.length).drop a)))
   have w2:=Same.upd_new hp (HO.lst (nmL ns ((List.range xs.length).drop a)))
   have g2:upd H4 p (HO.lst (nmL ns ((List.range xs.length).drop a))) p=some (.lst (nmL ns ((List.range xs.length).drop a))):=Jb
   generalize upd H4 p (HO.lst (nmL ns ((List.range xs.length).drop a)))=H5 at *
   refine ⟨_,.of (w2 _ _ g1),fun p2 hp2=>?_⟩
   rw [e2]
   have s3:=s2.new hp2 (HO.lst (nmL ns ((List.range xs.length).take a)))
   have w3:=Same.upd_new hp2 (HO.lst (nmL ns ((List.range xs.length).take a)))
   have g3:upd H5 p2 (HO.lst (nmL ns ((List.range xs.length).take a))) p2=some (.lst (nmL ns ((List.range xs.length).take a))):=Jb
   generalize upd H5 p2 (HO.lst (nmL ns ((List.range xs.length).take a)))=H6 at *
   have el:((List.range xs.length).drop a++(List.range xs.length).take a).length=xs.length:=by
    rw [List.length_append,List.length_drop,List.length_take,List.length_range]
    omega
   have em:∀ j∈(List.range xs.length).drop a++(List.range xs.length).take a,j<kds.length:=fun j hj=>by
    rw [hxk]
    rcases List.mem_append.mp hj with h | h
    ·exact List.mem_range.mp (List.mem_of_mem_drop h)
    ·exact List.mem_range.mp (List.mem_of_mem_take h)
   have ea:nmL ns ((List.range xs.length).drop a)++nmL ns ((List.range xs.length).take a)=nmL ns ((List.range xs.length).drop a++(List.range xs.length).take a):=by unfold nmL;rw [List.map_append]
   have lsum:(nmL ns ((List.range xs.length).drop a)).length+(nmL ns ((List.range xs.length).take a)).length=xs.length:=by
    rw [← List.length_append,ea]
    unfold nmL
    rw [List.length_map]
    exact el
   refine ⟨p,p2,_,_,rfl,rfl,w3 _ _ g2,g3,by rw [lsum];exact Jc (by omega),fun p3 hp3=>?_⟩
   rw [ea]
   generalize (List.range xs.length).drop a++(List.range xs.length).take a=js at *
   have s4:=s3.new hp3 (HO.lst (nmL ns js))
   have g4:upd H6 p3 (HO.lst (nmL ns js)) p3=some (.lst (nmL ns js)):=Jb
   generalize upd H6 p3 (HO.lst (nmL ns js))=H7 at *
   refine ⟨⟨by decide,by decide⟩,by decide,?_⟩
   by_cases c:sd / 8 % 2=1
   ·rw [if_pos (decide_eq_true c)]
    refine ⟨p3,rfl,_,.of g4,fun p4 hp4=>?_⟩
    have er:(nmL ns js).reverse=nmL ns js.reverse:=by unfold nmL;rw [List.map_reverse]
    rw [er]
    exact tl _ p4 js.reverse a (s4.new hp4 _) Jb (by rw [List.length_reverse];exact el) fun j hj=>em j (List.mem_reverse.mp hj)
   ·rw [if_neg (by simpa using c)]
    exact tl _ p3 js a s4 g4 el em
structure SideT (H:Hp)(ls l ln:Addr)(xs:List V)(ns kds:List Str)(is0 is1 is:List Nat)(kss0 kss1 kss:List (List Ji))(sd:Str)(k:Int):Prop where
 S:Side H l ln xs ns kds is
 t:H ls=some (.tup [.str sd,.ref ln,.int k])
 e:Sel sd is0 is1 kss0 kss1 is kss
 k:k=if sd="rows" then 0 else 1
 n:kss.length≤1000
 o:∀ a∈kss,∀ k∈a,okN k
theorem SideT.mono {H H':Hp}{ls l ln:Addr}{xs:List V}{ns kds:List Str}{is0 is1 is:List Nat}{kss0 kss1 kss:List (List Ji)}{sd:Str}{k:Int}(s:Same H H')(h:SideT H ls l ln xs ns kds is0 is1 is kss0 kss1 kss sd k):SideT H' ls l ln xs ns kds is0 is1 is kss0 kss1 kss sd k:=⟨h.S.mono s,s _ _ h.t,h.e,h.k,h.n,h.o⟩
def J4P (P:Program)(w:World)(K:PySem.W.Frag)(f:Nat→Addr):Sp:=fun vs H Q _=>∃ (way:Int) (t l ls lp ln:Addr) (sd:Str) (k:Int) (ps xs:List V) (ns kds:List Str) (is0 is1 is:List Nat) (kss0 kss1 kss:List (List Ji)),vs=[.int way,.ref t,.ref l,.ref ls,.ref lp]∧TabAt P w f H t ns kds is0 is1 kss0 kss1∧SideT H ls l ln xs ns kds is0 is1 is kss0 kss1 kss sd k∧H lp=some (.tup ps)∧(∀ v∈ps,Fl v) ∧
 ∀ H',Same H H'→Q (.str (if okP kds is ps then "taken" else "refused")) H'
theorem ok_l_refused (T:Txt K mg f fd):FnOk P w K mg base CX0 8 (f 41) (fd 41) ["_law_way","_law_table","_law_fields","_law_side","_law_path_here"] (J4P P w K f):=by
 refine T.d_l_refused.F.ok J12 (fun vs H Q E h=>?_) (fun cdv A outer s H vs Q E hr h=>?_)
 ·obtain ⟨way,t,l,ls,lp,ln,sd,k,ps,xs,ns,kds,is0,is1,is,kss0,kss1,kss,rfl,_⟩:=h
  rfl
 ·obtain ⟨way,t,l,ls,lp,ln,sd,k,ps,xs,ns,kds,is0,is1,is,kss0,kss1,kss,rfl,hT,hs,hp,hfl,q⟩:=h
  refine ⟨_,(Jd (psl 5 J12.nd Jp)
   (Jd (ps_try rfl rfl (fun _ _ _=>(Jf (J00 (Jq J0N (pvl 0) Je (Jr _))
   (Jf (J0T (J2A (J2q rfl) T.d_asked_path (ok_asked_path T) (hr.mono (by decide)) rfl (by decide) rfl (pal rfl (pvl 2) (pal rfl (Jo (JB rfl) (pvl 3) Je (fun _ _=>rfl)) (pal rfl (pvl 4) Ja))))))
   (Jf (J00 (Jq J0N (pvl 0) Je (Jr _))
   (Jf (J0T (J1C (J2q rfl) (pvl 1) T.o_Table.cls T.m_Table_kids (ok_Table_kids (P:=P) (w:=w) T) (hr.mono (by decide)) T.d_Table_kids.b rfl (pal rfl (Jo (JB rfl) (pvl 3) Je (fun _ _=>rfl)) (pal rfl (pvl 4) Ja)) rfl)))
   (Jf (J00 (Jq J0N (pvl 0) Je (Jr _))
   (Jf (J0T (J1C (J2q rfl) (pvl 1) T.o_Table.cls T.m_Table_opened (J3h (P:=P) (w:=w) T) (hr.mono (by decide)) T.d_Table_opened.b rfl (pal rfl (Jo (J0S rfl) (J0c (pal rfl (pvl 4) (pal rfl (J0n Ja) Ja))) (Jo (JB rfl) (pvl 3) Je (fun _ _=>rfl)) (fun _ _=>rfl)) (pal rfl (Jo (J0S rfl) (J0c (pal rfl (J0n Ja) (pal rfl (pvl 4) Ja))) (Jo (JB rfl) (pvl 3) Je (fun _ _=>rfl)) (fun _ _=>rfl)) Ja)) rfl)))
   (Jf (J0T (J1C (J2q rfl) (pvl 1) T.o_Table.cls T.m_Table_box (ok_Table_box (P:=P) (w:=w) T) (hr.mono (by decide)) T.d_Table_box.b rfl (pal rfl (Jo (J0S rfl) (J0c (pal rfl (pvl 4) (pal rfl (J0n Ja) Ja))) (Jo (JB rfl) (pvl 3) Je (fun _ _=>rfl)) (fun _ _=>rfl)) (pal rfl (Jo (J0S rfl) (J0c (pal rfl (J0n Ja) (pal rfl (pvl 4) Ja))) (Jo (JB rfl) (pvl 3) Je (fun _ _=>rfl)) (fun _ _=>rfl)) Ja)) rfl))))))))))
   (ph_as rfl T.x_NoHead.m T.x_NoHead.x (by decide) J12.nd (i:=6) rfl rfl (fun _=>(Jd (psl 5 J12.nd Jp)
   (Jf (J00 (PW.pt (J2V (J1j (JJ (J9Y rfl) T.n_isinstance J08 rfl (by decide) (by decide) rfl (pal rfl (pvl 6) (pal rfl (Jb5 T.x_CrossError.m rfl (by decide)) Ja)))) (J2V (J1X (J1j (JJ (J9Y rfl) T.n_isinstance J08 rfl (by decide) (by decide) rfl (pal rfl (pvl 6) (pal rfl (Jb5 T.x_NoField.m rfl (by decide)) Ja))))) (J2y (J1X (J1j (JJ (J9Y rfl) T.n_isinstance J08 rfl (by decide) (by decide) rfl (pal rfl (pvl 6) (pal rfl (Jb5 T.x_NoKind.m rfl (by decide)) Ja)))))))))
   (Jf (psl 5 J12.nd Jp))
   Jt))))
   Jcc))
   (Jf (Jn (pvl 5))))),?_⟩
  dsimp only [J30,L2.Cx.inTry,L2.Cx.inHand]
  simp only [L2.start,J3Z,J3a,J0s,tC,J8P]
  change J6z _ _ _ _ [some (V.int way),some (V.ref t),some (V.ref l),some (V.ref ls),some (V.ref lp),some (V.str "taken"),none] H
  obtain ⟨dx,lf,v,pd,bx,n0,n1,fg,h0,h1,xs',fvs,hk,kvs,a1,_⟩:=id hT
  generalize hE:(fun (C:Value) (ed:Option Addr) (H':Hp)=>tAs _ _ _ _ _ C ed _ _ H')=E1
  have ex:okP kds is ps=false→∀ H9,Same H H9→E1 (.ref (f 3)) none H9:=by
   intro ok H9 s9
   subst hE
   walk_at "dc"
   refine ⟨f 3,rfl,⟨_,T.x_NoHead.x⟩,?_⟩
   rw [if_pos T.su_NoHead_NoHead]
   intro x hx
   have u7:=s9.new hx (ExO x (Value.ref (f 3)) none)
   have xo:upd H9 x (ExO x (Value.ref (f 3)) none) x=some (ExO x (.ref (f 3)) none):=Jb
   generalize upd H9 x (ExO x (Value.ref (f 3)) none)=H8 at *
   refine ⟨x,f 3,none,xo,.inl rfl,T.x_NoHead.xc,rfl,_,T.ki_NoHead_CrossError,?_⟩
   rw [if_pos rfl]
   refine ⟨x,f 3,none,xo,.inl rfl,T.x_NoHead.xc,rfl,_,T.ki_NoHead_NoField,?_⟩
   rw [if_pos (by decide)]
   refine ⟨x,f 3,none,xo,.inl rfl,T.x_NoHead.xc,rfl,_,T.ki_NoHead_NoKind,?_⟩
   rw [if_pos (by decide)]
   have:=q H8 u7
   rw [if_neg (by rw [ok];exact Bool.false_ne_true)] at this
   exact this
  clear hE
  generalize hA:J3u (tOp (JaW K) (J8X _) _) _=A
  have arg:∀ Q':List V→Hp→Prop,(∀ G a' b' ps0 ps1,Same H G→G a'=some (.tup ps0)→G b'=some (.tup ps1)→(∀ v∈ps0,Fl v)→(∀ v∈ps1,Fl v)→(okP kds is0 ps0&&okP kds is1 ps1)=okP kds is ps→Q' [.ref a',.ref b'] G)→A [some (V.int way),some (V.ref t),some (V.ref l),some (V.ref ls),some (V.ref lp),some (V.str "taken"),none] H Q':=by
   intro Q' fin
   subst hA
   have hsel:(k=0∧is=is0)∨(k=1∧is=is1):=by
    have e:=hs.k
    rcases hs.e with ⟨rfl,h,_⟩ | ⟨rfl,h,_⟩
    ·exact .inl ⟨e,h⟩
    ·exact .inr ⟨e,h⟩
   have hk0:0≤k:=by omega
   have hk2:k<2:=by omega
   have ok_nil:∀ (kds:List Str) (is:List Nat),okP kds is []=true:=fun kds is=>by unfold okP;rw [List.length_nil,decide_eq_true (Nat.zero_le _)];rfl
   walk_at "dc"
   refine ⟨Nat.zero_le _,fun p1 hp1=>⟨Jc (by decide),fun p2 hp2=>?_⟩⟩
   have w1:=Same.upd_new hp1 (HO.tup [])
   have u1:upd H p1 (HO.tup []) p1=some (HO.tup []):=Jb
   generalize upd H p1 (HO.tup [])=H1 at *
   have w2:=w1.new hp2 (HO.lst [V.ref lp,V.ref p1])
   have y2:=Same.upd_new hp2 (HO.lst [V.ref lp,V.ref p1])
   have u2:upd H1 p2 (HO.lst [V.ref lp,V.ref p1]) p2=some (HO.lst [V.ref lp,V.ref p1]):=Jb
   generalize upd H1 p2 (HO.lst [V.ref lp,V.ref p1])=H2 at *
   refine ⟨ls,_,_,_,rfl,rfl,.of (w2 _ _ hs.t),Jl (j:=2) rfl,?_⟩
   refine J0I (.of u2) hk0 (by simpa using hk2) fun a ha=>⟨Nat.zero_le _,fun p3 hp3=>⟨Jc (by decide),fun p4 hp4=>?_⟩⟩
   have w3:=w2.new hp3 (HO.tup [])
   have y3:=y2.new hp3 (HO.tup [])
   have u3:upd H2 p3 (HO.tup []) p3=some (HO.tup []):=Jb
   generalize upd H2 p3 (HO.tup [])=H3 at *
   have w4:=w3.new hp4 (HO.lst [V.ref p3,V.ref lp])
   have y4:=y3.new hp4 (HO.lst [V.ref p3,V.ref lp])
   have z4:=Same.upd_new hp4 (HO.lst [V.ref p3,V.ref lp])
   have u4:upd H3 p4 (HO.lst [V.ref p3,V.ref lp]) p4=some (HO.lst [V.ref p3,V.ref lp]):=Jb
   generalize upd H3 p4 (HO.lst [V.ref p3,V.ref lp])=H4 at *
   refine ⟨ls,_,_,_,rfl,rfl,.of (w4 _ _ hs.t),Jl (j:=2) rfl,?_⟩
   refine J0I (.of u4) hk0 (by simpa using hk2) fun b hb=>?_
   rcases hsel with ⟨rfl,rfl⟩ | ⟨rfl,rfl⟩
   ·rw [← Option.some.inj ha,← Option.some.inj hb]
    exact fin H4 _ _ ps [] w4 (w4 _ _ hp) (z4 _ _ u3) hfl (fun _ z=>nomatch z) (by rw [ok_nil,Bool.and_true])
   ·rw [← Option.some.inj ha,← Option.some.inj hb]
    exact fin H4 _ _ [] ps w4 (y4 _ _ u1) (w4 _ _ hp) (fun _ z=>nomatch z) hfl (by rw [ok_nil,Bool.true_and])
  clear hA
  have ta:okP kds is ps=true→∀ H',Same H H'→Q (.str "taken") H':=fun e H' s'=>by have:=q H' s';rw [if_pos e] at this;exact this
  walk_at "dc"
  by_cases c0:way=0
  ·rw [if_pos (decide_eq_true c0)]
   exact ⟨ls,_,_,_,rfl,rfl,.of hs.t,Jl (j:=1) rfl,ln,rfl,xs,ps,ns,kds,is,hs.S,hp,hfl,ta,ex⟩
  rw [if_neg (by simpa using c0)]
  by_cases c1:way=1
  ·rw [if_pos (decide_eq_true c1)]
   exact ⟨_,_,a1,rfl,ls,_,_,_,rfl,rfl,.of hs.t,Jl (j:=0) rfl,lp,sd,rfl,rfl,ps,ns,kds,is0,is1,is,kss0,kss1,hT,kss,hs.e,hs.n,hs.o,hp,hfl,fun ok H9 _ _ s9 _ _=>ta ok H9 s9,ex⟩
  rw [if_neg (by simpa using c1)]
  by_cases c2:way=2
  ·rw [if_pos (decide_eq_true c2)]
   exact ⟨_,_,a1,rfl,arg _ fun G a' b' ps0 ps1 w4 h0 h1 f0 f1 eok=>⟨a',b',rfl,ps0,ps1,ns,kds,is0,is1,⟨kss0,kss1,hT.mono w4⟩,h0,h1,f0,f1,by rw [eok];exact fun ok H9 _ s9=>ta ok H9 (w4.trans s9),by rw [eok];exact fun ok H9 s9=>ex ok H9 (w4.trans s9)⟩⟩
  ·rw [if_neg (by simpa using c2)]
   exact ⟨_,_,a1,rfl,arg _ fun G a' b' ps0 ps1 w4 h0 h1 f0 f1 eok=>⟨a',b',rfl,ps0,ps1,ns,kds,is0,is1,⟨kss0,kss1,hT.mono w4⟩,h0,h1,f0,f1,by rw [eok];exact fun ok H9 _ s9=>ta ok H9 (w4.trans s9),by rw [eok];exact fun ok H9 s9=>ex ok H9 (w4.trans s9)⟩⟩
theorem J4u (is:List Nat)(rs:List V)(a:List (List Ji)):∀ m,(J3X is rs m a).length≤a.length+m
 | 0=>Nat.le_refl _
 | m+1=>by
   rw [J2n]
   have h1:=J6t (J3X is rs m a) ((pj is rs).take m)
   have h2:=J4u is rs a m
   omega
theorem J6q (is:List Nat):∀ (rss:List (List V)) (a:List (List Ji)),(rss.foldl (J2o is) a).length≤a.length+(is.length+1) * rss.length
 | [],a=>Nat.le_refl _
 | rs::rss,a=>by
   have h1:=J6q is rss (J2o is a rs)
   have h2:(J2o is a rs).length≤a.length+(is.length+1):=J4u is rs a (is.length+1)
   rw [List.foldl_cons,List.length_cons,Nat.mul_succ]
   omega
theorem J6r {is:List Nat}{rs:List V}{x:List Ji}{a:List (List Ji)}:∀ m,x∈J3X is rs m a→x∈a∨∃ m,x=(pj is rs).take m
 | 0,h=>.inl h
 | m+1,h=>by
   rw [J2n] at h
   rcases J6s.mp h with h | h
   ·exact J6r m h
   ·exact .inr ⟨m,h⟩
theorem J7Y {is:List Nat}{x:List Ji}:∀ {rss:List (List V)} {a:List (List Ji)},x∈rss.foldl (J2o is) a→x∈a∨∃ rs∈rss,∃ m,x=(pj is rs).take m
 | [],_,h=>.inl h
 | rs::rss,a,h=>by
   rcases J7Y (rss:=rss) h with h | ⟨rs',h1,h2⟩
   ·rcases J6r (is.length+1) h with h | ⟨m,h⟩
    ·exact .inl h
    ·exact .inr ⟨rs,List.mem_cons_self,m,h⟩
   ·exact .inr ⟨rs',List.mem_cons_of_mem _ h1,h2⟩
theorem Jbg {is:List Nat}{rss:List (List V)}{kss:List (List Ji)}{ps:List V}(hp:kss.Perm (J8G is rss))(hl:ps.length≤is.length)(h:∀ rs∈rss,J20 is rs ps=false):kss.filter (J2j ps)=[]:=by
 rw [List.filter_eq_nil_iff]
 intro x hx hk
 unfold J2j at hk
 rw [Bool.and_eq_true,decide_eq_true_eq,decide_eq_true_eq] at hk
 rcases J7Y (hp.mem_iff.mp hx) with e | ⟨rs,hr,m,rfl⟩
 ·rw [List.mem_singleton.mp e,List.length_nil] at hk
  omega
 ·have h0:=h rs hr
  rw [List.length_take] at hk
  rw [List.take_take,Nat.min_eq_left (show ps.length≤m by omega)] at hk
  unfold J20 at h0
  rw [decide_eq_true hl,Bool.true_and,hk.2,decide_eq_true rfl] at h0
  exact nomatch h0
def RwsS (H:Hp)(kds:List Str)(xs:List V)(rss:List (List V)):Prop:=Paired (fun (x:V) (r:List V)=>∃ p,x=.ref p∧H p=some (.tup r)∧RowS kds r) xs rss
theorem RwsS.mono {H H':Hp}{kds:List Str}{xs:List V}{rs:List (List V)}(s:Same H H')(h:RwsS H kds xs rs):RwsS H' kds xs rs:=Paired.mapP h fun _ _ ⟨p,e,a,b⟩=>⟨p,e,s _ _ a,b⟩
theorem HdsOk.le {is:List Nat}{kds:List Str}{rss:List (List V)}{kss:List (List Ji)}(h:HdsOk is kds rss kss)(hi:is.length≤8)(hr:rss.length≤40):kss.length≤1000:=by
 have z1:(J8G is rss).length≤1+(is.length+1) * rss.length:=J6q is rss [[]]
 have z2:=Nat.mul_le_mul (show is.length+1≤9 by omega) hr
 rw [h.1.length_eq]
 omega
theorem RwsS.len {H:Hp}{kds:List Str}:∀ {xs:List V} {rs:List (List V)},RwsS H kds xs rs→xs.length=rs.length
 | _,_,.nil=>rfl
 | _,_,.cons _ h=>by rw [List.length_cons,List.length_cons,RwsS.len h]
theorem JaL {K:PySem.W.Frag}{H:Hp}{a:Addr}{xs:List V}{k:Nat}{Q:VK}(h:H a=some (.tup xs))(q:∀ p G,Same H G→G p=some (.tup (xs.take k))→Q (.ref p) G):J9d K (.ref a) none (some (k:Int)) H Q:=by
 refine ⟨a,xs,rfl,.of h,fun hw=>q a H (Same.refl _) ?_,fun _ p hp=>?_⟩
 ·have:=hw.2
  rw [HT.sIx_nat] at this
  rw [h,List.take_of_length_le (by omega)]
 ·rw [cut_to]
  exact q p _ (Same.upd_new hp _) Jb
def J3c (P:Program)(w:World)(K:PySem.W.Frag)(f:Nat→Addr):Sp:=fun vs H Q _=>∃ (t d ls lp lr l ln:Addr) (sd:Str) (k:Int) (ps xs xr:List V) (ns kds:List Str) (is0 is1 is:List Nat) (kss0 kss1 kss:List (List Ji)) (rss:List (List V)),vs=[.ref t,.ref d,.ref ls,.ref lp,.ref lr]∧(∀ G,Same H G→DGet G d (.str "fields") (some (.ref l)))∧TabAt P w f H t ns kds is0 is1 kss0 kss1∧SideT H ls l ln xs ns kds is0 is1 is kss0 kss1 kss sd k∧(∀ kd∈kds,kd=Jv∨kd=numS)∧xs.length≤8∧H lp=some (.tup ps)∧ps.length≤20∧(∀ v∈ps,Drawn v)∧H lr=some (.lst xr)∧xr.length≤40∧RwsS H kds xr rss∧kss.Perm (J8G is rss)∧∀ H',Same H H'→Q (.bl true) H'
theorem ok_l_path_right (T:Txt K mg f fd):FnOk P w K mg base CX0 9 (f 42) (fd 42) ["_law_table","_law_world_here","_law_side","_law_path_here","_law_rows"] (J3c P w K f):=by
 refine T.d_l_path_right.F.ok JG (fun vs H Q E h=>?_) (fun cdv A outer s H vs Q E hr h=>?_)
 ·obtain ⟨t,d,ls,lp,lr,l,ln,sd,k,ps,xs,xr,ns,kds,is0,is1,is,kss0,kss1,kss,rss,rfl,_⟩:=h
  rfl
 ·obtain ⟨t,d,ls,lp,lr,l,ln,sd,k,ps,xs,xr,ns,kds,is0,is1,is,kss0,kss1,kss,rss,rfl,hget,hT,hs,hkk,h8,hp,hp20,hd,hlr,hx40,hR,hB,q⟩:=h
  refine ⟨_,(Jd (psl 5 JG.nd (J13 (J1F hr) (pvl 1) Jp (fun _ _=>rfl)))
   (Jd (psc 6 JG.nd (J0y ["_law_field"] ["_law_table","_law_world_here","_law_side","_law_path_here","_law_rows","_law_fields","_law_names","_law_due","_law_way","_law_under","_law_row_here","_law_told","_law_values"] rfl (show CompSc _ (J9 JA) ["_law_table","_law_world_here","_law_side","_law_path_here","_law_rows","_law_fields","_law_names","_law_due","_law_way","_law_under","_law_row_here","_law_told","_law_values"] ["_law_table","_law_world_here","_law_side","_law_path_here","_law_rows","_law_fields","_law_names","_law_due","_law_way","_law_under","_law_row_here","_law_told","_law_values"] from Jx (by decide +kernel)) (J1q rfl (pvl 5)) (fun _ _ _ _ _=>(pgl 0 (show (["_law_field","_law_table","_law_world_here","_law_side","_law_path_here","_law_rows","_law_fields","_law_names","_law_due","_law_way","_law_under","_law_row_here","_law_told","_law_values"]:List Str).Nodup by decide +kernel))) (fun _ _ _ _ _=>J06) (fun _ _ _ _ _=>(Jo (JB rfl) (pvl 0) Je (fun _ _=>rfl)))))
   (Jd (psl 7 JG.nd (Jm T.d_l_is_path (ok_l_is_path T) (hr.mono (by decide)) rfl (by decide) rfl (pal rfl (pvl 3) (pal rfl (Jo (JB rfl) (pvl 2) Je (fun _ _=>rfl)) (pal rfl (pvl 5) Ja)))))
   (Jd (J0X PassesOwn.never rfl (J0a rfl T.n_range (pal rfl Je Ja)) (pgl 8 JG.nd)
   (Jf (J00 (Jq J9E (Jm T.d_l_refused (ok_l_refused T) (hr.mono (by decide)) rfl (by decide) rfl (pal rfl (pvl 8) (pal rfl (pvl 0) (pal rfl (J0B (J3R rfl) T.n_list J2M rfl (by decide) (by decide) rfl (pal rfl (pvl 5) Ja)) (pal rfl (pvl 2) (pal rfl (pvl 3) Ja)))))) (Jo (J0S rfl) (J0c (pal rfl Jp (pal rfl Jp Ja))) (J0B J31 T.n_int J5o rfl (by decide) (by decide) rfl (pal rfl (pvl 7) Ja)) (fun _ _=>rfl)) (Jr _))
   (Jf (Jn J1b))
   Jt)))
   (Jd (J00 (J1X (J1j (pvl 7)))
   (Jf (Jn J1b))
   Jt)
   (Jd (J00 (Jq J5Q (J2A (J7n rfl) T.d_asked_path (ok_asked_path T) (hr.mono (by decide)) rfl (by decide) rfl (pal rfl (J0B (J3R rfl) T.n_list J2M rfl (by decide) (by decide) rfl (pal rfl (pvl 5) Ja)) (pal rfl (Jo (JB rfl) (pvl 2) Je (fun _ _=>rfl)) (pal rfl (pvl 3) Ja)))) J1b (Jr _))
   (Jf (Jn J1b))
   Jt)
   (Jd (psl 9 JG.nd (J0c Ja))
   (Jd (J0X PassesOwn.never rfl (J1q rfl (pvl 4)) (pgc 10 JG.nd)
   (Jd (psl 11 JG.nd (Jm T.d_lies_under (ok_lies_under T) (hr.mono (by decide)) rfl (by decide) rfl (pal rfl (J0B (J3R rfl) T.n_list J2M rfl (by decide) (by decide) rfl (pal rfl (pvl 5) Ja)) (pal rfl (Jo (JB rfl) (pvl 2) Je (fun _ _=>rfl)) (pal rfl (pvl 3) (pal rfl (pvc 10) Ja))))))
   (Jd (psl 12 JG.nd (J0B (J1Q rfl) T.n_tuple J1m rfl (by decide) (by decide) rfl (pal rfl (J0y ["_law_name"] ["_law_table","_law_world_here","_law_side","_law_path_here","_law_rows","_law_fields","_law_names","_law_due","_law_way","_law_under","_law_row_here","_law_told","_law_values"] rfl (show CompSc _ (J9 JA) ["_law_table","_law_world_here","_law_side","_law_path_here","_law_rows","_law_fields","_law_names","_law_due","_law_way","_law_under","_law_row_here","_law_told","_law_values"] ["_law_table","_law_world_here","_law_side","_law_path_here","_law_rows","_law_fields","_law_names","_law_due","_law_way","_law_under","_law_row_here","_law_told","_law_values"] from Jx (by decide +kernel)) (J64 rfl (Jo (JB rfl) (pvl 2) Je (fun _ _=>rfl))) (fun _ _ _ _ _=>(pgl 0 (show (["_law_name","_law_table","_law_world_here","_law_side","_law_path_here","_law_rows","_law_fields","_law_names","_law_due","_law_way","_law_under","_law_row_here","_law_told","_law_values"]:List Str).Nodup by decide +kernel))) (fun _ _ _ _ _=>J06) (fun _ _ _ _ _=>(Jo (JB rfl) (pvc 11) (J37 rfl PySem.F.plainAttrs_list PySem.F.slot_list_index PySem.F.type_list_index (J67 rfl) rfl rfl rfl rfl (pvc 7) (pal rfl (pvl 0) Ja)) (fun _ _=>rfl)))) Ja)))
   (Jd (J00 (PW.pt (J9p (J1X (J1j (JJ (J66 rfl) T.n_isinstance J08 rfl (by decide) (by decide) rfl (pal rfl (pvl 11) (pal rfl (pty T.n_bool J7W) Ja))))) (J6O (Jq J9E (pvl 11) (J1a (J7M rfl hr.units) (J0G (J9X rfl) (pvl 12) J19 (J0U (JJ (J0z rfl) T.n_len JL rfl (by decide) (by decide) rfl (pal rfl (pvl 3) Ja)))) (pvl 3) (Jr _)) (Jr _)))))
   (Jf (Jn J1b))
   Jt)
   (Jf (J00 (J1j (pvl 11))
   (Jf (J0T (J37 rfl PySem.F.plainAttrs_list PySem.F.slot_list_append PySem.F.type_list_append J1E rfl rfl rfl rfl (pvl 9) (pal rfl (pvc 10) Ja))))
   Jt))))))
   (Jf (Jn (JbG (J1a J3J (JJ (J0z rfl) T.n_len JL rfl (by decide) (by decide) rfl (pal rfl (pvl 9) Ja)) Je (Jr _)) (JbG (J1a (J7M rfl hr.units) (pvl 3) (J0n Ja) (Jr _)) (J9y (J1a (Jd8 rfl hr.units) (J1C (J7n rfl) (pvl 0) T.o_Table.cls T.m_Table_kids (ok_Table_kids T) (hr.mono (by decide)) T.d_Table_kids.b rfl (pal rfl (Jo (JB rfl) (pvl 2) Je (fun _ _=>rfl)) (pal rfl (pvl 3) Ja)) rfl) (J0c Ja) (Jr _))))))))))))))),?_⟩
  walk_at "dc"
  refine ⟨_,hget H (Same.refl _),l,rfl,⟨_,.of hs.S.l⟩,?_⟩
  have hn:xs.length=ns.length:=hs.S.F.1.symm
  refine J02 (J01 (xs:=xs)) (Jc (by omega)) (fun i ys H'=>Same H H'∧ys=(ns.take i).map V.str) ⟨Same.refl _,by simp⟩ (fun _ _ H' _ q=>q.1.seq (.of hs.S.l)) (fun i ys H' q=>by rw [q.2,List.length_map,List.length_take];omega) (fun i x ys H3 hx q=>?_) (fun ys H3 q D hD=>?_)
  ·obtain ⟨t1,rfl⟩:=q
   obtain ⟨p,n,kd,e1,e2,e3,e4⟩:=hs.S.F.at (List.getElem?_eq_some_iff.mp hx).1
   obtain rfl:x=.ref p:=Option.some.inj (hx.symm.trans e1)
   walk_at "dc"
   refine ⟨p,_,_,_,rfl,rfl,.of (t1 _ _ e4),Jl (j:=0) rfl,⟨_,rfl⟩,t1,?_⟩
   rw [List.take_add_one,e2,List.map_append]
   rfl
  ·obtain ⟨t1,rfl⟩:=q
   rw [hn,List.take_length]
   have s1:=t1.new hD (HO.lst (ns.map V.str))
   have g1:upd H3 D (HO.lst (ns.map V.str)) D=some (.lst (ns.map V.str)):=Jb
   generalize upd H3 D (HO.lst (ns.map V.str))=H1 at *
   refine ⟨ls,_,_,_,rfl,rfl,.of (s1 _ _ hs.t),Jl (j:=1) rfl,lp,ln,l,ps,xs,ns,kds,is,rfl,hs.S.mono s1,hkk,s1 _ _ hp,hp20,hd,fun H2 s2=>?_⟩
   have S2:=s1.trans s2
   show JbW _ _ _ _ _ _
   generalize hZ:J3Z (J6z (J8T (tB (J4B 7))) (J82 (tC (V.bl true))) J5v) _ _=Z
   refine J0Y ?_
   walk_at "dc"
   have bk:∀ {l2:Addr} {G:Hp},Same H G→G l2=some (.lst xs)→SideT G ls l2 ln xs ns kds is0 is1 is kss0 kss1 kss sd k:=fun {l2 G} s e=>⟨⟨e,hs.S.F.mono s,s _ _ hs.S.n,hs.S.i,hs.S.few⟩,s _ _ hs.t,hs.e,hs.k,hs.n,hs.o⟩
   have hfl:∀ v∈ps,Fl v:=fun v hv=>(hd v hv).fl
   refine ⟨by decide,by decide,?_⟩
   refine ForW.of JR (fun j σ H'=>(∃ v8,σ=[some (V.ref t),some (V.ref d),some (V.ref ls),some (V.ref lp),some (V.ref lr),some (V.ref l),some (V.ref D),some (V.bl (okP kds is ps)),v8,none,none,none,none])∧Same H2 H') ⟨⟨none,rfl⟩,Same.refl _⟩ (fun _ _ _ _ _=>trivial) ?_ ?_
   ·rintro j x σ H3 hx ⟨⟨v8,rfl⟩,s3⟩
    obtain ⟨hj,rfl⟩:=J0b hx
    have S3:=S2.trans s3
    walk_at "dc"
    refine ⟨xs,.inl (.of (S3 _ _ hs.S.l)),fun l2 hl2=>?_⟩
    have w4:=s3.new hl2 (HO.lst xs)
    have S4:=S3.new hl2 (HO.lst xs)
    have g4:upd H3 l2 (HO.lst xs) l2=some (.lst xs):=Jb
    generalize upd H3 l2 (HO.lst xs)=H4 at *
    refine ⟨_,t,l2,ls,lp,ln,sd,k,ps,xs,ns,kds,is0,is1,is,kss0,kss1,kss,rfl,hT.mono S4,bk S4 g4,S4 _ _ hp,hfl,fun H5 s5=>⟨Jc (by decide),fun p5 hp5=>?_⟩⟩
    have w6:=(w4.trans s5).new hp5 (HO.lst [V.str (Str.ofString "refused"),V.str (Str.ofString "taken")])
    have g6:upd H5 p5 (HO.lst [V.str (Str.ofString "refused"),V.str (Str.ofString "taken")]) p5=some (HO.lst [V.str (Str.ofString "refused"),V.str (Str.ofString "taken")]):=Jb
    generalize upd H5 p5 (HO.lst [V.str (Str.ofString "refused"),V.str (Str.ofString "taken")])=H6 at *
    cases okP kds is ps with
    | true =>
      refine J0I (.of g6) (by decide) (by decide) fun y hy=>?_
      rw [← Option.some.inj hy]
      refine ⟨rfl,?_⟩
      rw [if_neg (by decide)]
      exact ⟨⟨_,rfl⟩,w6⟩
    | false =>
      refine J0I (.of g6) (by decide) (by decide) fun y hy=>?_
      rw [← Option.some.inj hy]
      refine ⟨rfl,?_⟩
      rw [if_neg (by decide)]
      exact ⟨⟨_,rfl⟩,w6⟩
   ·rintro σ H3 ⟨⟨v8,rfl⟩,s3⟩
    have S3:=S2.trans s3
    subst hZ
    walk_at "dc"
    by_cases nok:okP kds is ps=false
    ·rw [if_pos (by rw [nok];rfl)]
     exact q H3 S3
    have ok:okP kds is ps=true:=by simpa using nok
    rw [if_neg (by rw [ok];decide),ok]
    have hle:ps.length≤is.length:=by
     unfold okP at ok
     rw [Bool.and_eq_true] at ok
     exact of_decide_eq_true ok.1
    have few:=hs.S.few
    refine ⟨xs,.inl (.of (S3 _ _ hs.S.l)),fun l2 hl2=>?_⟩
    have S4:=S3.new hl2 (HO.lst xs)
    have w4:=Same.upd_new hl2 (HO.lst xs)
    have g4:upd H3 l2 (HO.lst xs) l2=some (.lst xs):=Jb
    generalize upd H3 l2 (HO.lst xs)=H4 at *
    refine ⟨ls,_,_,_,rfl,rfl,.of (S4 _ _ hs.t),Jl (j:=1) rfl,l2,ln,lp,xs,ps,ns,kds,is,rfl,(bk S4 g4).S,S4 _ _ hp,hfl,fun _ H5 s5=>?_,fun e=>absurd ok (by rw [e];exact Bool.false_ne_true)⟩
    have S5:=S4.trans s5
    show ite _ _ _
    rw [if_neg (by decide)]
    refine ⟨Nat.zero_le _,fun lu hlu=>?_⟩
    have w6:=Same.upd_new hlu (HO.lst [])
    have g6:upd H5 lu (HO.lst []) lu=some (.lst []):=Jb
    have gD5:=s5 _ _ (w4 _ _ (s3 _ _ (s2 _ _ g1)))
    generalize upd H5 lu (HO.lst [])=H6 at *
    refine J0Y ?_
    walk_at "dc"
    refine ⟨⟨_,.of (w6 _ _ (S5 _ _ hlr))⟩,ForW.of (J01 (xs:=xr)) (fun j σ H'=>∃ (v10 v11 v12:Option V) (us:List V),σ=[some (V.ref t),some (V.ref d),some (V.ref ls),some (V.ref lp),some (V.ref lr),some (V.ref l),some (V.ref D),some (V.bl true),v8,some (V.ref lu),v10,v11,v12]∧Same H5 H'∧H' lu=some (.lst us)∧us.length≤j∧(us=[]→∀ m rs,m<j→rss[m]?=some rs→J20 is rs ps=false)) ⟨none,none,none,[],rfl,w6,g6,Nat.le_refl _,fun _ m rs hm=>absurd hm (by omega)⟩ (fun _ _ H' _ h=>?_) ?_ ?_⟩
    ·obtain ⟨_,_,_,_,_,h,_⟩:=h
     exact (S5.trans h).seq (.of hlr)
    ·rintro j x σ H7 hx ⟨v10,v11,v12,us,rfl,s7,g7,l7,c7⟩
     have S7:=S5.trans s7
     walk_at "dt"
     obtain ⟨rs,hrs,pr,rfl,hpr,hRw⟩:=Paired.ix hR hx
     refine ⟨xs,.inl (.of (S7 _ _ hs.S.l)),fun l3 hl3=>?_⟩
     have y8:=Same.upd_new hl3 (HO.lst xs)
     have g8:upd H7 l3 (HO.lst xs) l3=some (.lst xs):=Jb
     generalize upd H7 l3 (HO.lst xs)=H8 at *
     have S8:=S7.trans y8
     refine ⟨ls,_,_,_,rfl,rfl,.of (S8 _ _ hs.t),Jl (j:=1) rfl,l3,ln,lp,pr,xs,ps,rs,ns,kds,is,rfl,(bk S8 g8).S,S8 _ _ hp,hfl,S8 _ _ hpr,hRw,fun H9 s9=>?_⟩
     have y9:=y8.trans s9
     have S9:=S8.trans s9
     have hn:=hs.S.n
     unfold nmT at hn
     refine ⟨ls,_,_,_,rfl,rfl,.of (S9 _ _ hs.t),Jl (j:=1) rfl,ln,rfl,⟨_,.of (S9 _ _ hn)⟩,?_⟩
     refine J02 (J1T (xs:=is.map fun i=>V.str (ns.getD i Jv))) (by rw [List.length_map];exact Jc (by omega)) (fun i ys H'=>Same H9 H'∧ys=(is.take i).map fun i=>rs.getD i .non) ⟨Same.refl _,rfl⟩ (fun _ _ H' _ z=>(S9.trans z.1).seqT (.of hn)) (fun i ys H' z=>by rw [z.2,List.length_map,List.length_take];omega) (fun i x ys G hx' z=>?_) (fun ys G z D2 hD2=>?_)
     ·obtain ⟨t1,rfl⟩:=z
      have T1:=S9.trans t1
      have hil:=(List.getElem?_eq_some_iff.mp hx').1
      rw [List.length_map] at hil
      obtain ⟨m,n,kd,pf,b1,b2,b3,b4,b5,b6,b7,b8⟩:=hs.S.at hil
      rw [List.getElem?_map,b1] at hx'
      obtain rfl:V.str n=x:=by rw [← b4];exact Option.some.inj hx'
      walk_at "dc"
      obtain ⟨c1,_⟩:=hRw.fl ((List.getElem?_eq_some_iff.mp b5).1)
      have gD:=t1 _ _ (y9 _ _ (s7 _ _ gD5))
      refine ⟨.inl ⟨rfl,_,.of gD⟩,ns,.of gD,m,b3,(fun m' hm e=>absurd (J1k hs.S.F.2.2.1 e b3) (by omega)),pr,_,_,_,rfl,rfl,.of (T1 _ _ hpr),Jl c1,⟨_,rfl⟩,t1,?_⟩
      rw [List.take_add_one,b1,List.map_append]
      rfl
     ·obtain ⟨t1,rfl⟩:=z
      rw [List.length_map,List.take_length,← (J5N hRw.ok hs.S.i).2]
      have okp:=(J5N hRw.ok hs.S.i).1.ok
      obtain ⟨fm,fo⟩:=J3T hfl
      have y10:=(y9.trans t1).new hD2 (HO.lst ((pj is rs).map nV))
      have g10:upd G D2 (HO.lst ((pj is rs).map nV)) D2=some (.lst ((pj is rs).map nV)):=Jb
      generalize upd G D2 (HO.lst ((pj is rs).map nV))=G1 at *
      refine J1x g10 fun pt G2 y11' g11=>?_
      have y11:=y10.trans y11'
      refine ⟨_,.of_bl,by decide,?_⟩
      rw [if_neg (by decide)]
      refine ⟨ps,.inr (.of ((S7.trans y11) _ _ hp)),JaL g11 fun p3 G3 y12 g12=>?_⟩
      rw [← List.map_take] at g12
      have y13:=y11.trans y12
      have hpG:G3 lp=some (.tup ((ps.map toN).map nV)):=by rw [fm];exact (S7.trans y13) _ _ hp
      have eL:J20 is rs ps=decide ((pj is rs).take ps.length=ps.map toN):=by unfold J20;rw [decide_eq_true hle,Bool.true_and]
      refine J7f g12 hpG (fun k hk=>okp k (List.mem_of_mem_take hk)) fo ⟨rfl,?_⟩
      rw [if_neg Bool.false_ne_true,← eL,if_neg (by simp)]
      refine ⟨_,rfl,?_⟩
      have gU:=y13 _ _ g7
      cases hb:J20 is rs ps with
      | true =>
        rw [if_pos rfl]
        refine ⟨.inl ⟨rfl,_,.of gU⟩,lu,_,_,rfl,rfl,gU,Nat.lt_of_lt_of_le (show us.length<200 by have:=(List.getElem?_eq_some_iff.mp hx).1;omega) (Jc (by decide)),(s7.trans y13).set hlu _,_,Jb,by rw [List.length_append,List.length_singleton];omega,fun e=>absurd e (by simp)⟩
      | false =>
        rw [if_neg Bool.false_ne_true]
        refine ⟨s7.trans y13,us,gU,by omega,fun e m rs' hm hr=>?_⟩
        rcases Nat.lt_succ_iff_lt_or_eq.mp hm with hm | rfl
        ·exact c7 e m rs' hm hr
        ·rw [← Option.some.inj (hrs.symm.trans hr)]
         exact hb
    ·rintro σ H7 ⟨v10,v11,v12,us,rfl,s7,g7,l7,c7⟩
     have S7:=S5.trans s7
     walk_at "dc"
     refine ⟨us,.inl (.of g7),?_⟩
     by_cases h0:0<us.length
     ·rw [if_pos (decide_eq_true (by omega))]
      exact q H7 S7
     have hus:us=[]:=List.eq_nil_of_length_eq_zero (by omega)
     rw [if_neg (by rw [hus];decide)]
     obtain ⟨fm,fo⟩:=J3T hfl
     refine ⟨Nat.zero_le _,fun p0 hp0=>?_⟩
     have S8:=S7.new hp0 (HO.tup [])
     have g8:upd H7 p0 (HO.tup []) p0=some (.tup (([]:List Ji).map nV)):=Jb
     generalize upd H7 p0 (HO.tup [])=H8 at *
     have hp8:H8 lp=some (.tup ((ps.map toN).map nV)):=by rw [fm];exact S8 _ _ hp
     refine J7f hp8 g8 fo (fun _ z=>nomatch z) ⟨_,rfl,?_⟩
     rw [if_neg Bool.false_ne_true]
     by_cases he:ps.map toN=[]
     ·rw [if_pos (decide_eq_true he)]
      exact q H8 S8
     rw [if_neg (by simpa using he)]
     obtain ⟨dx,lf,v,pd,bx,n0,n1,fg,h0,h1,xs',fvs,hk,kvs,a1,_⟩:=id (hT.mono S8)
     refine ⟨_,_,a1,rfl,ls,_,_,_,rfl,rfl,.of (S8 _ _ hs.t),Jl (j:=0) rfl,t,lp,sd,ps,ns,kds,is0,is1,is,kss0,kss1,kss,rfl,hT.mono S8,hs.e,hs.n,hs.o,S8 _ _ hp,hfl,fun _ H9 qd ts s9 g9 ht=>⟨Nat.zero_le _,fun p1 hp1=>?_⟩,fun e=>absurd ok (by rw [e];exact Bool.false_ne_true)⟩
     have nk:kss.filter (J2j ps)=[]:=Jbg hB hle fun rs hr=>by
      obtain ⟨m,hm⟩:=List.mem_iff_getElem?.mp hr
      exact c7 hus m rs (by rw [RwsS.len hR];exact (List.getElem?_eq_some_iff.mp hm).1) hm
     rw [nk] at ht
     obtain rfl:ts=[]:=by cases ht;rfl
     exact ⟨qd,p1,[],rfl,rfl,.of (Same.upd_new hp1 _ _ _ g9),.of Jb,q _ ((S8.trans s9).new hp1 _)⟩
theorem RwsS.tup {H H':Hp}{kds:List Str}{xs:List V}{rs:List (List V)}(t:∀ c ys,H c=some (.tup ys)→H' c=some (.tup ys))(h:RwsS H kds xs rs):RwsS H' kds xs rs:=Paired.mapP h fun _ _ ⟨p,e,a,b⟩=>⟨p,e,t _ _ a,b⟩
def J4O (K:PySem.W.Frag):Sp:=fun vs H Q _=>∃ (a:Addr) (ns:List Int),vs=[.ref a]∧SqL K H a (ns.map V.int)∧ns.length≤63∧∀ H',Q (.bl true) H'
theorem ok_law (T:Txt K mg f fd):FnOk P w K mg base CX0 10 (f 43) (fd 43) ["_law_script"] (J4O K):=by
 refine T.d_law.F.ok J1c (fun vs H Q E h=>?_) (fun cdv A outer s H vs Q E hr h=>?_)
 ·obtain ⟨a,ns,rfl,_⟩:=h
  rfl
 ·obtain ⟨a,ns,rfl,hs,hlen,k⟩:=h
  refine ⟨_,(Jd (psl 1 J1c.nd (Jm T.d_l_world (ok_l_world T) (hr.mono (by decide)) rfl (by decide) rfl (pal rfl (pvl 0) Ja)))
   (Jd (psl 2 J1c.nd (J13 (J1F hr) (pvl 1) Jp (fun _ _=>rfl)))
   (Jd (J25 ["_law_field"] ["_law_script","_law_world_here","_law_fields","_law_names","_law_view_here","_law_rows","_law_k","_law_table","_law_side","_law_j","_law_seed"] rfl (show CompSc _ (J9 s_law) ["_law_script","_law_world_here","_law_fields","_law_names","_law_view_here","_law_rows","_law_k","_law_table","_law_side","_law_j","_law_seed"] ["_law_script","_law_world_here","_law_fields","_law_names","_law_view_here","_law_rows","_law_k","_law_table","_law_side","_law_j","_law_seed"] from Jx (by decide +kernel)) J1c.nd (i:=3) rfl rfl (J1q rfl (pvl 2)) (fun _ _ _ _ _=>(pgl 0 (show (["_law_field","_law_script","_law_world_here","_law_fields","_law_names","_law_view_here","_law_rows","_law_k","_law_table","_law_side","_law_j","_law_seed"]:List Str).Nodup by decide +kernel))) (fun _ _ _ _ _=>J06) (fun _ _ _ _ _=>(Jo (JB rfl) (pvl 0) Je (fun _ _=>rfl))))
   (Jd (psl 4 J1c.nd (Jm T.d_l_view (ok_l_view T) (hr.mono (by decide)) rfl (by decide) rfl (pal rfl (Jm T.d_l_mix (J0R T) (hr.mono (by decide)) rfl (by decide) rfl (pal rfl (Jm T.d_l_cell_at (J14 T) (hr.mono (by decide)) rfl (by decide) rfl (pal rfl (pvl 0) (pal rfl Je Ja))) (pal rfl Je Ja))) (pal rfl (pvl 1) Ja))))
   (Jd (psc 5 J1c.nd (J0c Ja))
   (Jd (J0X PassesOwn.never rfl (J0a rfl T.n_range (pal rfl (Jj JK (Jm T.d_l_mix (J0R T) (hr.mono (by decide)) rfl (by decide) rfl (pal rfl (Jm T.d_l_cell_at (J14 T) (hr.mono (by decide)) rfl (by decide) rfl (pal rfl (pvl 0) (pal rfl Je Ja))) (pal rfl Je Ja))) Je) Ja)) (pgl 6 J1c.nd)
   (Jf (J0T (J37 rfl PySem.F.plainAttrs_list PySem.F.slot_list_append PySem.F.type_list_append J1E rfl rfl rfl rfl (pvc 5) (pal rfl (Jm T.d_l_row (ok_l_row T) (hr.mono (by decide)) rfl (by decide) rfl (pal rfl (Jm T.d_l_mix (J0R T) (hr.mono (by decide)) rfl (by decide) rfl (pal rfl (Jj J0o (Jm T.d_l_cell_at (J14 T) (hr.mono (by decide)) rfl (by decide) rfl (pal rfl (pvl 0) (pal rfl (Jj J0o Je (pvl 6)) Ja))) (pvl 6)) (pal rfl Je Ja))) (pal rfl (pvl 1) Ja))) Ja)))))
   (Jd (psl 7 J1c.nd (Jb8 T.o_Table.mkr (ok_Table___init__ T) (hr.mono (by decide)) rfl T.o_Table.m T.d_Table___init__.b .nil JbH (pal rfl (J0B (J3R rfl) T.n_list J2M rfl (by decide) (by decide) rfl (pal rfl (pvl 2) Ja)) (pal rfl (pvl 4) (pal rfl (J0y ["_law_k"] ["_law_script","_law_world_here","_law_fields","_law_names","_law_view_here","_law_rows","#6","_law_table","_law_side","_law_j","_law_seed"] rfl (show CompSc _ (J9 s_law) ["_law_script","_law_world_here","_law_fields","_law_names","_law_view_here","_law_rows","_law_k","_law_table","_law_side","_law_j","_law_seed"] ["_law_script","_law_world_here","_law_fields","_law_names","_law_view_here","_law_rows","#6","_law_table","_law_side","_law_j","_law_seed"] from Jx (by decide +kernel)) (J0a rfl T.n_range (pal rfl (JJ (J0z rfl) T.n_len JL rfl (by decide) (by decide) rfl (pal rfl (pvc 5) Ja)) Ja)) (fun _ _ _ _ _=>(pgl 0 (show (["_law_k","_law_script","_law_world_here","_law_fields","_law_names","_law_view_here","_law_rows","#6","_law_table","_law_side","_law_j","_law_seed"]:List Str).Nodup by decide +kernel))) (fun _ _ _ _ _=>J06) (fun _ _ _ _ _=>(J0n (pal rfl (pvl 0) (pal rfl (Jo (J0S rfl) (pvc 6) (pvl 0) (fun _ _=>rfl)) Ja))))) Ja))) (by decide) rfl rfl))
   (Jd (J0X PassesOwn.never rfl (J0a rfl T.n_range (pal rfl Je Ja)) (pgl 6 J1c.nd)
   (Jd (psl 8 J1c.nd (J0n (pal rfl (Jo (J0S rfl) (J0c (pal rfl Jp (pal rfl Jp Ja))) (pvl 6) (fun _ _=>rfl)) (pal rfl (Jo (JB rfl) (pvl 4) (pvl 6) (fun _ _=>rfl)) (pal rfl (pvl 6) Ja)))))
   (Jf (J0X PassesOwn.never rfl (J0a rfl T.n_range (pal rfl Je Ja)) (pgl 9 J1c.nd)
   (Jd (psl 10 J1c.nd (Jm T.d_l_mix (J0R T) (hr.mono (by decide)) rfl (by decide) rfl (pal rfl (Jj J0o (Jm T.d_l_cell_at (J14 T) (hr.mono (by decide)) rfl (by decide) rfl (pal rfl (pvl 0) (pal rfl (Jj J0o Je (pvl 9)) Ja))) (pvl 9)) (pal rfl (Jj J0o Je (pvl 6)) Ja))))
   (Jf (J00 (J1X (J1j (Jm T.d_l_path_right (ok_l_path_right T) (hr.mono (by decide)) rfl (by decide) rfl (pal rfl (pvl 7) (pal rfl (pvl 1) (pal rfl (pvl 8) (pal rfl (Jm T.d_l_path (ok_l_path T) (hr.mono (by decide)) rfl (by decide) rfl (pal rfl (pvl 10) (pal rfl (Jo (JB rfl) (pvl 4) (pvl 6) (fun _ _=>rfl)) (pal rfl (pvl 3) (pal rfl (pvc 5) (pal rfl (pvl 2) Ja)))))) (pal rfl (pvc 5) Ja))))))))
   (Jf (Jn J1b))
   Jt)))))))
   (Jf (Jn J1b)))))))))),?_⟩
  generalize hB1:J3Z (J3a (J8W _ _ _ _ _) _) _=B1
  walk_at "dc"
  refine ⟨a,ns,rfl,hs,fun H1 dW zs kds s1 hW=>?_⟩
  obtain ⟨l,xs,hl,hF,hkk,h1,h8,hnm,hget⟩:=hW.out
  have hn:xs.length=zs.length:=hF.1.symm
  refine ⟨dW,rfl,_,hget H1 (Same.refl _),?_⟩
  walk_at "dc"
  refine ⟨⟨_,.of hl⟩,?_⟩
  refine J02 (J01 (xs:=xs)) (Jc (by omega)) (fun i ys H'=>Same H1 H'∧ys=(zs.take i).map V.str) ⟨Same.refl _,by simp⟩ (fun _ _ H' _ q=>q.1.seq (.of hl)) (fun i ys H' q=>by rw [q.2,List.length_map,List.length_take];omega) (fun i x ys H3 hx q=>?_) (fun ys H3 q lm hlm=>?_)
  ·obtain ⟨t1,rfl⟩:=q
   obtain ⟨p,n,kd,e1,e2,e3,e4⟩:=hF.at (List.getElem?_eq_some_iff.mp hx).1
   obtain rfl:x=.ref p:=Option.some.inj (hx.symm.trans e1)
   walk_at "dc"
   refine ⟨p,_,_,_,rfl,rfl,.of (t1 _ _ e4),Jl (j:=0) rfl,⟨_,rfl⟩,t1,?_⟩
   rw [List.take_add_one,e2,List.map_append]
   rfl
  obtain ⟨t1,rfl⟩:=q
  rw [hn,List.take_length]
  have s2:=t1.new hlm (HO.lst (zs.map V.str))
  have g2:upd H3 lm (HO.lst (zs.map V.str)) lm=some (.lst (zs.map V.str)):=Jb
  generalize upd H3 lm (HO.lst (zs.map V.str))=H2 at *
  have hs2:=(s1.trans s2).seq hs
  refine ⟨a,ns,1,rfl,hs2,by decide,fun v0=>⟨_,_,rfl,_,dW,zs,kds,rfl,hW.mono s2,fun H4 vw n0 n1 fg fvs is0 is1 s4 hV gfg hfg hf60=>⟨Nat.zero_le _,fun lr hlr=>?_⟩⟩⟩
  have S4:=s2.trans s4
  have w5:=Same.upd_new hlr (HO.lst [])
  have g5:upd H4 lr (HO.lst []) lr=some (.lst []):=Jb
  generalize upd H4 lr (HO.lst [])=H5 at *
  refine J0Y ?_
  walk_at "dc"
  refine ⟨a,ns,2,rfl,w5.seq (s4.seq hs2),by decide,fun v1=>⟨_,_,rfl,?_⟩⟩
  generalize J8i v1 3=sd
  have m1:=Int.emod_lt_of_pos sd (show (0:Int)<13 by decide)
  have m0:=Int.emod_nonneg sd (show (13:Int)≠0 by decide)
  refine ⟨sd,rfl,by decide,by omega,by omega,?_⟩
  refine ForW.of JR (fun j σ H'=>∃ (v6:Option V) (xr:List V) (rss:List (List V)),σ=[some (V.ref a),some (V.ref dW),some (V.ref l),some (V.ref lm),some (V.ref vw),some (V.ref lr),v6,none,none,none,none]∧Same H4 H'∧H' lr=some (.lst xr)∧xr.length=j∧RwsS H' kds xr rss) ⟨none,[],[],rfl,w5,g5,rfl,.nil⟩ (fun _ _ _ _ _=>trivial) ?_ ?_
  ·rintro j x σ H6 hx ⟨v6,xr,rss,rfl,s6,g6,l6,r6⟩
   obtain ⟨hj,rfl⟩:=J0b hx
   walk_at "dc"
   refine ⟨.inl ⟨rfl,_,.of g6⟩,a,ns,_,rfl,s6.seq (s4.seq hs2),by omega,fun v2=>⟨_,rfl,_,_,rfl,_,dW,zs,kds,rfl,hW.mono (S4.trans s6),fun H7 pr rs s7 g7 hR=>?_⟩⟩
   refine ⟨lr,_,_,rfl,rfl,s7 _ _ g6,Nat.lt_of_lt_of_le (show xr.length<20 by omega) (Jc (by decide)),(s6.trans s7).set hlr _,_,Jb,by rw [List.length_append,List.length_singleton];omega,rss++[rs],?_⟩
   have tt:=J4A (s7 _ _ g6) (o:=HO.lst (xr++[V.ref pr]))
   exact Paired.snoc ((r6.mono s7).tup tt) ⟨pr,rfl,tt _ _ g7,hR⟩
  ·rintro σ H6 ⟨v6,xr,rss,rfl,s6,g6,l6,r6⟩
   rw [JC] at l6
   subst hB1
   walk_at "dc"
   unfold J8W
   walk_at "dc"
   have S6:=S4.trans s6
   refine ⟨xs,.inl (.of (S6 _ _ hl)),fun l2 hl2=>?_⟩
   have s7:=s6.new hl2 (HO.lst xs)
   have w7:=Same.upd_new hl2 (HO.lst xs)
   have g7:upd H6 l2 (HO.lst xs) l2=some (.lst xs):=Jb
   generalize upd H6 l2 (HO.lst xs)=H7 at *
   have glr:=w7 _ _ g6
   have r7:=r6.mono w7
   have hrl:xr.length=rss.length:=r7.len
   refine ⟨xr,.inl (.of glr),by omega,by omega,?_⟩
   refine J02 JR (by rw [JC];exact Jc (by omega)) (fun i ys H'=>Same H7 H'∧PrsR H' kds ys (rss.take i)) ⟨Same.refl _,.nil⟩ (fun _ _ _ _ _=>trivial) (fun i ys H' q=>by rw [Paired.length q.2,List.length_take];omega) (fun i x ys H8 hx q=>?_) (fun ys H8 q D hD=>?_)
   ·obtain ⟨t1,hys⟩:=q
    obtain ⟨hj,rfl⟩:=J0b hx
    obtain ⟨rv,hrv⟩:∃ rv,xr[i]?=some rv:=⟨_,List.getElem?_eq_getElem (show i<xr.length by omega)⟩
    obtain ⟨rs,hrs,pr,rfl,hpr,hRw⟩:=Paired.ix (r7.mono t1) hrv
    walk_at "dc"
    refine J0I (.of (t1 _ _ glr)) (by omega) (by omega) fun v hv=>?_
    rw [show (0+(i:Int)).toNat=i by omega,hrv] at hv
    obtain rfl:=Option.some.inj hv
    refine ⟨Jc (by decide),fun p hp=>⟨⟨_,rfl⟩,t1.new hp _,?_⟩⟩
    have u:=Same.upd_new hp (HO.tup [V.int (0+(i:Int)),V.ref pr])
    rw [List.take_add_one,hrs]
    exact Paired.snoc (PrsR.mono u hys) ⟨p,pr,_,rfl,Jb,u _ _ hpr,hRw⟩
   obtain ⟨t1,hys⟩:=q
   rw [JC,show ((xr.length:Int)).toNat=rss.length by omega,List.take_length] at hys
   have w8:=(w7.trans t1).new hD (HO.lst ys)
   have y8:=t1.new hD (HO.lst ys)
   have g8:upd H8 D (HO.lst ys) D=some (.lst ys):=Jb
   have hys:=PrsR.mono (Same.upd_new hD (HO.lst ys)) hys
   generalize upd H8 D (HO.lst ys)=G at *
   intro o dx ho hdx hne
   have hn1:upd G dx (.own o) o=none:=by rw [Jk (Ne.symm hne)];exact ho
   have hV4:=hV.mono (s6.trans w8)
   refine ⟨G,o,dx,l2,vw,D,n0,n1,fg,xs,fvs,ys,zs,kds,is0,is1,rss,rfl,(Same.upd_new hdx _).new hn1 _,ho,Jb,⟨y8 _ _ g7,hF.mono (S6.trans w8),hkk,hV4,(s6.trans w8) _ _ gfg,fun fv hf=>(hfg fv hf).mono (s6.trans w8),hf60⟩,g8,by rw [Paired.length hys];omega,hys,fun H9 kss0 kss1 s9 hT hk0 hk1=>⟨rfl,?_⟩⟩
   have S9:Same H6 H9:=w8.trans s9
   have hV9:=hV4.mono s9
   have r9:=r6.mono S9
   refine J0Y ?_
   walk_at "dc"
   refine ⟨by decide,by decide,?_⟩
   refine ForW.of JR (fun j σ H'=>(∃ v6 v8 v9 v10,σ=[some (V.ref a),some (V.ref dW),some (V.ref l),some (V.ref lm),some (V.ref vw),some (V.ref lr),v6,some (V.ref o),v8,v9,v10])∧Same H9 H') ⟨⟨v6,none,none,none,rfl⟩,Same.refl _⟩ (fun _ _ _ _ _=>trivial) ?_ ?_
   ·rintro j x σ G0 hx ⟨⟨v6,v8,v9,v10,rfl⟩,x0⟩
    obtain ⟨hj,rfl⟩:=J0b hx
    obtain ⟨sdn,ln,is,kss,eL,eV,hSel,hkk2,hln,hi,hfew,hO⟩:∃ (sdn:Str) (ln:Addr) (is:List Nat) (kss:List (List Ji)),[V.str (Str.ofString "rows"),V.str (Str.ofString "columns")][j]?=some (.str sdn)∧[V.ref n0,V.ref n1,V.ref fg][j]?=some (.ref ln)∧Sel sdn is0 is1 kss0 kss1 is kss∧(j:Int)=(if sdn="rows" then 0 else 1)∧H9 ln=some (nmT zs is)∧(∀ i∈is,i<kds.length)∧is.length≤3∧HdsOk is kds rss kss:=by
     rcases (by omega:j=0∨j=1) with rfl | rfl
     ·exact ⟨_,n0,is0,kss0,rfl,rfl,.inl ⟨rfl,rfl,rfl⟩,by decide,hV9.n0,hV9.i0,hV9.few0,hk0⟩
     ·exact ⟨_,n1,is1,kss1,rfl,rfl,.inr ⟨rfl,rfl,rfl⟩,by decide,hV9.n1,hV9.i1,hV9.few1,hk1⟩
    rw [show (0+(j:Int))=(j:Int) by omega]
    walk_at "dc"
    refine ⟨Jc (by decide),fun p1 hp1=>?_⟩
    have x1:=x0.new hp1 (HO.lst [V.str (Str.ofString "rows"),V.str (Str.ofString "columns")])
    have u1:upd G0 p1 (HO.lst [V.str (Str.ofString "rows"),V.str (Str.ofString "columns")]) p1=some (HO.lst [V.str (Str.ofString "rows"),V.str (Str.ofString "columns")]):=Jb
    generalize upd G0 p1 (HO.lst [V.str (Str.ofString "rows"),V.str (Str.ofString "columns")])=G1 at *
    refine J0I (.of u1) (by omega) (by simp;omega) fun v hv=>?_
    rw [Int.toNat_natCast,eL] at hv
    obtain rfl:=Option.some.inj hv
    refine ⟨vw,_,_,_,rfl,rfl,.of (x1 _ _ hV9.v),Jl eV,Jc (by decide),fun ls hls=>?_⟩
    have x2:=x1.new hls (HO.tup [V.str sdn,V.ref ln,V.int (j:Int)])
    have u2:upd G1 ls (HO.tup [V.str sdn,V.ref ln,V.int (j:Int)]) ls=some (HO.tup [V.str sdn,V.ref ln,V.int (j:Int)]):=Jb
    generalize upd G1 ls (HO.tup [V.str sdn,V.ref ln,V.int (j:Int)])=G2 at *
    have X2:=S9.trans x2
    have hSd:Side G2 l ln xs zs kds is:=⟨(S6.trans X2) _ _ hl,hF.mono (S6.trans X2),x2 _ _ hln,hi,by omega⟩
    refine J0Y ?_
    walk_at "dc"
    refine ⟨by decide,by decide,?_⟩
    refine ForW.of JR (fun m σ H'=>(∃ v9 v10,σ=[some (V.ref a),some (V.ref dW),some (V.ref l),some (V.ref lm),some (V.ref vw),some (V.ref lr),some (V.int j),some (V.ref o),some (V.ref ls),v9,v10])∧Same G2 H') ⟨⟨v9,v10,rfl⟩,Same.refl _⟩ (fun _ _ _ _ _=>trivial) ?_ ?_
    ·rintro m x σ G3 hx ⟨⟨v9,v10,rfl⟩,x3⟩
     obtain ⟨hm,rfl⟩:=J0b hx
     have X3:=X2.trans x3
     have Y3:Same H1 G3:=S6.trans X3
     walk_at "dc"
     refine ⟨a,ns,_,rfl,(X3.trans (Same.refl _)).seq (s6.seq (s4.seq hs2)),by omega,fun v2=>⟨_,rfl,_,_,rfl,vw,_,_,_,rfl,rfl,.of (x3 _ _ (x2 _ _ hV9.v)),Jl eV,?_⟩⟩
     refine ⟨_,ln,lm,lr,l,xs,xr,zs,kds,is,rfl,hSd.mono x3,hkk,(s4.trans (s6.trans X3)) _ _ g2,X3 _ _ g6,by omega,fun x hx=>?_,fun G4 lp ps x4 gp hp20 hd=>?_⟩
     ·obtain ⟨i,hi⟩:=List.mem_iff_getElem?.mp hx
      obtain ⟨rs,_,pr,e,h1,h2⟩:=Paired.ix (r6.mono X3) hi
      exact ⟨pr,rs,e,h1,h2⟩
     ·have z4:=x3.trans x4
      refine ⟨o,dW,ls,lp,lr,l,ln,sdn,j,ps,xs,xr,zs,kds,is0,is1,is,kss0,kss1,kss,rss,rfl,fun G sG=>hget G ((Y3.trans x4).trans sG),hT.mono (x2.trans z4),⟨hSd.mono z4,z4 _ _ u2,hSel,hkk2,hO.le (by omega) (by omega),fun a ha=>(hO.2 a ha).ok⟩,hkk,h8,gp,hp20,hd,(X3.trans x4) _ _ g6,by omega,r6.mono (X3.trans x4),hO.1,fun G5 x5=>?_⟩
      exact ⟨_,rfl,by rw [if_neg (by decide)];exact ⟨⟨_,rfl⟩,z4.trans x5⟩⟩
    ·rintro σ G3 ⟨⟨v9,v10,rfl⟩,x3⟩
     exact ⟨⟨_,_,_,_,rfl⟩,x2.trans x3⟩
   ·rintro σ G0 ⟨⟨v6,v8,v9,v10,rfl⟩,x0⟩
    walk_at "dc"
    exact k _
end
theorem walk {l:PySem.W.OpenLaw}{q:Program}{loose:List Str}{XP:(Str→Option Value)→Heap→Prop}{YP:World→Heap→Prop}{d:DefRec}{K:Params→PySem.W.Frag}(hn:l.most=some 63)(hdf:d.params.defaults=[])
 (hY:∀ (w:World) (h:Heap),YP w h→(K w.params).In h)
 (F:∀ (w:World) (mg:Str→Option Value) (fa:Addr) (h:Heap),(K w.params).In h→h.Ns mainGlobals mg→mg d.name=some (.ref fa) →
  ∃ fd:FuncData,(∀ (s:Shared) (u:Value),BindsTo s fd ⟨[u],[]⟩ [("_law_script",u)])∧∀ base:Heap,(K w.params).In base→base.Ns mainGlobals mg→FnOk l.prog w (K w.params) mg base CX0 10 fa fd ["_law_script"] (J4O (K w.params))) :
 PySem.W.WalkO q loose XP YP l.row.toRowW d [] (fun f vs=>PySem.call f vs) :=
 L2.walk_of (n:=63) (k:=10) (x:="_law_script") (CX:=fun _=>CX0) (sp:=fun w=>J4O (K w.params)) hn (by decide) hdf ⟨rfl,by decide,by decide⟩ hY F (fun _ _ a ns hl _ hS=>⟨a,ns,rfl,hS,hl,fun _=>rfl⟩) fun _ _ _ _ _ z=>z
theorem all_mk {l:PySem.W.OpenLaw}{w:World}{K:PySem.W.Frag}{h:Heap}{mg:Str→Option Value}{fa:Addr}(X:K.In h)(G:h.Ns mainGlobals mg)(hfa:mg "law"=some (.ref fa))(T:∃ f fd,Txt K mg f fd∧f 43=f 43∧∃ kV dc pm an cd ct,fd 43=PySem.W.fnOf "law" "law" (Jh s_law) (Jg s_law) (J9 s_law) .none kV dc pm an cd ct) :
 ∃ fd:FuncData,(∀ (s:Shared) (v:Value),BindsTo s fd ⟨[v],[]⟩ [("_law_script",v)])∧∀ base:Heap,K.In base→base.Ns mainGlobals mg→FnOk l.prog w K mg base CX0 10 fa fd ["_law_script"] (J4O K):=by
 obtain ⟨f,fd,T,_,kV,dc,pm,an,cd,ct,e⟩:=T
 have e2:=hfa.symm.trans T.d_law.m
 cases e2
 exact ⟨fd 43,fun s v=>by rw [e];exact .of_eq rfl,fun base _ _=>ok_law T⟩
end NS
namespace PySem.W.Fast
def tw7172071196322317408:=0
def tw18245356263290805376:=0
def tw9100607820909652128:=0
def tw943905171296486656:=0
def tw9402784617280085280:=0
def tw7209831765676375456:=0
def tw9478649735025486272:=0
def tw6170766469128747776:=0
def tw2451245289059516160:=0
def tw9523092509664242496:=0
def tw13899648841861847904:=0
def tw765833299195938497:=0
def tw17360541719519447937:=0
def tw15124268621376668770:=0
def tw14032146145392926434:=0
def tw3159493016166651778:=0
def tw17743790227793919970:=0
def tw12000457485616554019:=0
def tw3036501302654227587:=0
def tw11989850111408173571:=0
def tw2869223472642493155:=0
def tw4103226372413898499:=0
def tw10017256920176185187:=0
def tw12988662813963731843:=0
def tw16207783429262340067:=0
def tw575601390026302628:=0
def tw17468303525503996132:=0
def tw17677665759988322628:=0
def tw14171665822481018180:=0
def tw7224092174052825572:=0
def tw6670345261122094660:=0
def tw724769865527742116:=0
def tw9375016982946106212:=0
def tw16760145563429440420:=0
def tw2804854254594742212:=0
def tw8621316779687226373:=0
def tw1197403565529811077:=0
def tw874624669826856069:=0
def tw5758237339907310853:=0
def tw3510024433352489221:=0
def tw7673703975667350885:=0
def tw6423652608437039525:=0
def tw17685565971729371621:=0
def tw15337954527996542469:=0
def tw10371314189188282981:=0
def tw18114318772273535589:=0
def tw5568807764700695333:=0
def tw16741384785557206949:=0
def tw11319361050222644133:=0
def tw10633887161755512966:=0
def tw7938661022905215462:=0
def tw5796760026392494662:=0
def tw11686270211678752390:=0
def tw5412297382652742310:=0
def tw2052776827324700518:=0
def tw11833926376203104295:=0
def tw7939774572212440167:=0
def tw15864530588388073575:=0
def tw2148430976326059175:=0
def tw11053298719657343143:=0
def tw8140882021749002439:=0
def tw2469286720066477319:=0
def tw14076573374999508295:=0
def tw2970467998394876359:=0
def tw5326081458591854119:=0
def tw9506131441851404967:=0
def tw9210227828643664008:=0
def tw4127472526166706600:=0
def tw12839481181171291784:=0
def tw894201668231663272:=0
def tw1974328577414008680:=0
def tw12020802300338507817:=0
def tw1753074786307872137:=0
def tw1032285092410189321:=0
def tw14073622009451446857:=0
def tw15920668069225747305:=0
def tw9457499963844942858:=0
def tw12104986006789431626:=0
def tw4113093581310348906:=0
def tw18067368860243760778:=0
def tw68648154215704234:=0
def tw15996367530436824874:=0
def tw12128856720897018987:=0
def tw7834403531194609899:=0
def tw13706383164286273099:=0
def tw15461043078587238091:=0
def tw13409511437489036075:=0
def tw4525114593115571051:=0
def tw9376628406979586188:=0
def tw16351546592483404972:=0
def tw6057895671629234540:=0
def tw2201529686205051436:=0
def tw6633409601800913516:=0
def tw10181781998752180972:=0
def tw2810852962772823852:=0
def tw4988602605867574092:=0
def tw11492372638816440204:=0
def tw12462891650790543308:=0
def tw12355721725296222188:=0
def tw293851902740951085:=0
def tw14290673288768074797:=0
def tw8050937234730863821:=0
def tw17365523300879538477:=0
def tw1436755780909428045:=0
def tw3270594717487118797:=0
def tw9198259646565806573:=0
def tw1952540545003659853:=0
def tw6433330450053498541:=0
def tw8825583758109576045:=0
def tw3759308282095115117:=0
def tw6230879398402568206:=0
def tw8370519442112137262:=0
def tw2466466260868961486:=0
def tw16509453245098734830:=0
def tw8454555654351553870:=0
def tw3518474760992737710:=0
def tw12601550812637114926:=0
def tw11090093961900834446:=0
def tw6074998597634011950:=0
def tw14701795224305889134:=0
def tw8229399156267963246:=0
def tw3806194473774906286:=0
def tw15552333409539041230:=0
def tw11548456657429494287:=0
def tw11114697103028687407:=0
def tw12081690652959929007:=0
def tw1090468444871392111:=0
def tw1575504706365490127:=0
def tw7733619904825173967:=0
def tw615800223979430863:=0
def tw11610324242622449712:=0
def tw8522487392528934992:=0
def tw7020930940805442928:=0
def tw9993448004260540816:=0
def tw12876112488161260016:=0
def tw16670969113084296912:=0
def tw3756544285389797168:=0
def tw3951147017628429232:=0
def tw18421445237430866896:=0
def tw15879386260642114737:=0
def tw10462901611915440305:=0
def tw8461370393382525201:=0
def tw17919255161705894449:=0
def tw54576158786707089:=0
def tw1658165901585520369:=0
def tw11761590891140392817:=0
def tw4728113030854332273:=0
def tw16564451314302575634:=0
def tw8208737275136160850:=0
def tw8627042371428657682:=0
def tw16926408733375318610:=0
def tw7706073524915339890:=0
def tw10422594397136798514:=0
def tw12384585596468962130:=0
def tw11647282266768515026:=0
def tw14946587066579011635:=0
def tw3167127585562056787:=0
def tw3050882274071703731:=0
def tw9938600514923513331:=0
def tw6926996085421521459:=0
def tw12668741229478939251:=0
def tw11558459217417167539:=0
def tw12337029375464756947:=0
def tw15806361690063988467:=0
def tw7553329977956141939:=0
def tw9244208827494363091:=0
def tw9838790859450588147:=0
def tw5064083366637906164:=0
def tw11324703199669321012:=0
def tw1785280143895121236:=0
def tw15583716635937113492:=0
def tw11148159964761110996:=0
def tw18364262735855315444:=0
def tw1457201250298595860:=0
def tw2428506964101654196:=0
def tw17776533770687512436:=0
def tw13850097710016200725:=0
def tw18251508278121978901:=0
def tw7461153966536903893:=0
def tw15717016168159517973:=0
def tw7709872473671275029:=0
def tw14063465989509439093:=0
def tw4585152958461395637:=0
def tw14474210843104929846:=0
def tw11380964012138074262:=0
def tw10980683642529269014:=0
def tw2744626210916598390:=0
def tw89036516874675830:=0
def tw11909149044233202326:=0
def tw14549193142497468118:=0
def tw10067113625260710710:=0
def tw12430915394308948822:=0
def tw17462992627196824534:=0
def tw15553745935898926038:=0
def tw9704858391216924791:=0
def tw5614600145615199479:=0
def tw4460544701122765111:=0
def tw13696392660275895767:=0
def tw11803521081330249175:=0
def tw4624354075544615383:=0
def tw584100760450866903:=0
def tw13409905756746217303:=0
def tw16326873687877677144:=0
def tw4352535582753629496:=0
def tw13244235716619505016:=0
def tw11274061511907356024:=0
def tw8879325663102269880:=0
def tw12859144547078029912:=0
def tw3694289136173963000:=0
def tw6647281364502870808:=0
def tw5783565457230074744:=0
def tw11722609247907592152:=0
def tw9154684045786756056:=0
def tw5106438948724069465:=0
def tw15955549806958721145:=0
def tw13889632392837550297:=0
def tw12709215557482424601:=0
def tw13221499292593560985:=0
def tw17135925103945888185:=0
def tw4628459944723573369:=0
def tw7620729344224346777:=0
def tw13909352041551669145:=0
def tw8946541322520178585:=0
def tw13232687688039611289:=0
def tw13963850117979118521:=0
def tw15261973952111044537:=0
def tw5825811570137888986:=0
def tw862402327051836762:=0
def tw3005067819990459994:=0
def tw18405716089108918138:=0
def tw11571717763694622682:=0
def tw1778686558040046651:=0
def tw18353755549691717819:=0
def tw12964308472409690395:=0
def tw14795026514077405627:=0
def tw12958009735289096667:=0
def tw11982697128987318971:=0
def tw17265206553495224283:=0
def tw13313096278597474364:=0
def tw6033198399944379612:=0
def tw3210669238971612444:=0
def tw17334697003711214940:=0
def tw10281182199893649788:=0
def tw9387507325415752188:=0
def tw14101956428030289404:=0
def tw17538415113677039260:=0
def tw786603835567875836:=0
def tw1784542794930822012:=0
def tw3999666424447600540:=0
def tw17983200974727188476:=0
def tw15509894358376639773:=0
def tw16241383806071970173:=0
def tw14537132687486022077:=0
def tw10512542510978262621:=0
def tw7750229402220422973:=0
def tw4369754437954185053:=0
def tw13031178617353244541:=0
def tw1131116708759429117:=0
def tw2902023333224547358:=0
def tw9514198010470236510:=0
def tw16070841277158481278:=0
def tw13519270363651500894:=0
def tw10881420406833789886:=0
def tw13938258137026546654:=0
def tw9564430495009215967:=0
def tw5450728498346738335:=0
def tw12445955481510272703:=0
def tw5354347807276798751:=0
def tw11050467016390971263:=0
def tw12815959068295032187:=0
end PySem.W.Fast
open PySem PySem.W PyProof.Rows
set_option maxRecDepth 100000 in
set_option maxHeartbeats 0 in
theorem PySem.Challenge.cw_crosshall_k14_paths_holds : PySem.Challenge.rw_crosshall_k14_paths.Holds := by
 w_on;o_law;k_head;(case hw=>w_witness2)
 k_fill
 refine NS.walk (l:=PySem.Challenge.rw_crosshall_k14_paths) rfl rfl (fun w h Y=>by first | exact PySem.W.kIn_of Y | exact PySem.W.km_in_of Y) ?F
 case F =>
  intro w mg fa h KX G hmg
  refine NS.all_mk KX G hmg ?_
  suffices TT:∃ f fd,NS.Txt (L2.KOf KX) mg f fd∧f 43=f 43∧∃ kV dc pm an cd ct,fd 43=PySem.W.fnOf "law" "law" (L2.Jh NS.s_law) (L2.Jg NS.s_law) (L2.J9 NS.s_law) .none kV dc pm an cd ct from TT
  dsimp only [L2.KOf]
  obtain ⟨f,fd,T,_,z⟩:∃ f fd,NS.Txt _ mg f fd∧f 43=_∧∃ kV dc pm an cd ct,fd 43=PySem.W.fnOf "law" "law" (L2.Jh NS.s_law) (L2.Jg NS.s_law) (L2.J9 NS.s_law) .none kV dc pm an cd ct:=by
   refine' NS.txt_mk KX G ?a2 ?a3 ?a4 ?a5 ?a29 ?a10 ?l10 ?c10 ?k10 ?a11 ?l11 ?c11 ?k11 ?a12 ?l12 ?c12 ?k12 ?a13 ?l13 ?c13 ?k13 ?a14 ?l14 ?c14 ?k14 ?a15 ?l15 ?c15 ?k15 ?a17 ?l17 ?c17 ?k17 ?a19 ?l19 ?c19 ?k19 ?a21 ?l21 ?c21 ?k21 ?a22 ?l22 ?c22 ?k22 ?a23 ?l23 ?c23 ?k23 ?a24 ?l24 ?c24 ?k24 ?a25 ?l25 ?c25 ?k25 ?a26 ?l26 ?c26 ?k26 ?a28 ?l28 ?c28 ?k28 ?a31 ?l31 ?c31 ?k31 ?a32 ?l32 ?c32 ?k32 ?a33 ?l33 ?c33 ?k33 ?a34 ?l34 ?c34 ?k34 ?a35 ?l35 ?c35 ?k35 ?a36 ?l36 ?c36 ?k36 ?a37 ?l37 ?c37 ?k37 ?a38 ?l38 ?c38 ?k38 ?a39 ?l39 ?c39 ?k39 ?a40 ?l40 ?c40 ?k40 ?a41 ?l41 ?c41 ?k41 ?a42 ?l42 ?c42 ?k42 ?a43 ?l43 ?c43 ?k43 ?a30000 ?l30000 ?c30000 ?k30000 ?b30000 ?a30004 ?l30004 ?c30004 ?k30004 ?b30004 ?a30006 ?l30006 ?c30006 ?k30006 ?b30006 ?a30007 ?l30007 ?c30007 ?k30007 ?b30007 ?a30008 ?l30008 ?c30008 ?k30008 ?b30008 ?x_NoHead_e ?x_NoHead_kp ?x_NoHead_ga ?x_NoHead_gh ?x_NoHead_ba ?x_NoHead_ob ?x_NoHead_hd ?x_NoHead_cl ?x_NoHead_cg ?x_NoHead_ct ?x_NoHead_sa ?o_Table_pg ?o_Table_hd ?o_Table_po ?o_Table_sa ?o_Table_ma ?o_Table_kp ?v_na_Table_boxes ?v_na_Table_kept_fields ?v_na_Table_kept_heads ?v_na_Table_kept_view ?v_ki_NoHead_CrossError ?v_su_NoHead_NoHead ?v_ki_NoHead_NoHead ?v_ki_NoHead_NoField ?v_ki_NoHead_NoKind ?v_kv_NoHead ?z_abs ?z_all ?z_bool ?z_dict ?z_enumerate ?z_int ?z_isinstance ?z_len ?z_list ?z_max ?z_min ?z_range ?z_set ?z_sorted ?z_str ?z_sum ?z_tuple ?z_zip ?y_LETTERS ?y_FIGURES ?y_MOST_SIGNS
   (case a2=>k_is)
   (case a3=>k_is)
   (case a4=>k_is)
   (case a5=>k_is)
   (case a29=>k_is)
   (case a10=>k_is)
   (case l10=>k_is)
   (case c10=>k_is)
   (case k10=>k_is)
   (case a11=>k_is)
   (case l11=>k_is)
   (case c11=>k_is)
   (case k11=>k_is)
   (case a12=>k_is)
   (case l12=>k_is)
   (case c12=>k_is)
   (case k12=>k_is)
   (case a13=>k_is)
   (case l13=>k_is)
   (case c13=>k_is)
   (case k13=>k_is)
   (case a14=>k_is)
   (case l14=>k_is)
   (case c14=>k_is)
   (case k14=>k_is)
   (case a15=>k_is)
   (case l15=>k_is)
   (case c15=>k_is)
   (case k15=>k_is)
   (case a17=>k_is)
   (case l17=>k_is)
   (case c17=>k_is)
   (case k17=>k_is)
   (case a19=>k_is)
   (case l19=>k_is)
   (case c19=>k_is)
   (case k19=>k_is)
   (case a21=>k_is)
   (case l21=>k_is)
   (case c21=>k_is)
   (case k21=>k_is)
   (case a22=>k_is)
   (case l22=>k_is)
   (case c22=>k_is)
   (case k22=>k_is)
   (case a23=>k_is)
   (case l23=>k_is)
   (case c23=>k_is)
   (case k23=>k_is)
   (case a24=>k_is)
   (case l24=>k_is)
   (case c24=>k_is)
   (case k24=>k_is)
   (case a25=>k_is)
   (case l25=>k_is)
   (case c25=>k_is)
   (case k25=>k_is)
   (case a26=>k_is)
   (case l26=>k_is)
   (case c26=>k_is)
   (case k26=>k_is)
   (case a28=>k_is)
   (case l28=>k_is)
   (case c28=>k_is)
   (case k28=>k_is)
   (case a31=>k_is)
   (case l31=>k_is)
   (case c31=>k_is)
   (case k31=>k_is)
   (case a32=>k_is)
   (case l32=>k_is)
   (case c32=>k_is)
   (case k32=>k_is)
   (case a33=>k_is)
   (case l33=>k_is)
   (case c33=>k_is)
   (case k33=>k_is)
   (case a34=>k_is)
   (case l34=>k_is)
   (case c34=>k_is)
   (case k34=>k_is)
   (case a35=>k_is)
   (case l35=>k_is)
   (case c35=>k_is)
   (case k35=>k_is)
   (case a36=>k_is)
   (case l36=>k_is)
   (case c36=>k_is)
   (case k36=>k_is)
   (case a37=>k_is)
   (case l37=>k_is)
   (case c37=>k_is)
   (case k37=>k_is)
   (case a38=>k_is)
   (case l38=>k_is)
   (case c38=>k_is)
   (case k38=>k_is)
   (case a39=>k_is)
   (case l39=>k_is)
   (case c39=>k_is)
   (case k39=>k_is)
   (case a40=>k_is)
   (case l40=>k_is)
   (case c40=>k_is)
   (case k40=>k_is)
   (case a41=>k_is)
   (case l41=>k_is)
   (case c41=>k_is)
   (case k41=>k_is)
   (case a42=>k_is)
   (case l42=>k_is)
   (case c42=>k_is)
   (case k42=>k_is)
   (case a43=>k_is)
   (case l43=>k_is)
   (case c43=>k_is)
   (case k43=>k_is)
   (case a30000=>k_is)
   (case l30000=>k_is)
   (case c30000=>k_is)
   (case k30000=>k_is)
   (case b30000=>k_is)
   (case a30004=>k_is)
   (case l30004=>k_is)
   (case c30004=>k_is)
   (case k30004=>k_is)
   (case b30004=>k_is)
   (case a30006=>k_is)
   (case l30006=>k_is)
   (case c30006=>k_is)
   (case k30006=>k_is)
   (case b30006=>k_is)
   (case a30007=>k_is)
   (case l30007=>k_is)
   (case c30007=>k_is)
   (case k30007=>k_is)
   (case b30007=>k_is)
   (case a30008=>k_is)
   (case l30008=>k_is)
   (case c30008=>k_is)
   (case k30008=>k_is)
   (case b30008=>k_is)
   (case x_NoHead_e=>kernel_rfl)
   (case x_NoHead_kp=>k_is)
   (case x_NoHead_ga=>k_is)
   (case x_NoHead_gh=>k_is)
   (case x_NoHead_ba=>k_is)
   (case x_NoHead_ob=>k_is)
   (case x_NoHead_hd=>k_is)
   (case x_NoHead_cl=>k_is)
   (case x_NoHead_cg=>k_is)
   (case x_NoHead_ct=>k_is)
   (case x_NoHead_sa=>k_is)
   (case o_Table_pg=>k_is)
   (case o_Table_hd=>k_is)
   (case o_Table_po=>k_is)
   (case o_Table_sa=>k_is)
   (case o_Table_ma=>k_is)
   (case o_Table_kp=>k_is)
   (case v_na_Table_boxes=>k_is)
   (case v_na_Table_kept_fields=>k_is)
   (case v_na_Table_kept_heads=>k_is)
   (case v_na_Table_kept_view=>k_is)
   (case v_ki_NoHead_CrossError=>rfl)
   (case v_su_NoHead_NoHead=>rfl)
   (case v_ki_NoHead_NoHead=>rfl)
   (case v_ki_NoHead_NoField=>rfl)
   (case v_ki_NoHead_NoKind=>rfl)
   (case v_kv_NoHead=>rfl)
   (case z_abs=>k_is)
   (case z_all=>k_is)
   (case z_bool=>k_is)
   (case z_dict=>k_is)
   (case z_enumerate=>k_is)
   (case z_int=>k_is)
   (case z_isinstance=>k_is)
   (case z_len=>k_is)
   (case z_list=>k_is)
   (case z_max=>k_is)
   (case z_min=>k_is)
   (case z_range=>k_is)
   (case z_set=>k_is)
   (case z_sorted=>k_is)
   (case z_str=>k_is)
   (case z_sum=>k_is)
   (case z_tuple=>k_is)
   (case z_zip=>k_is)
   (case y_LETTERS=>k_is)
   (case y_FIGURES=>k_is)
   (case y_MOST_SIGNS=>k_is)
  exact ⟨f,fd,T,rfl,z⟩