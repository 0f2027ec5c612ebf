import PyProof.Rows.All
import Wide.All
import OpenK.AllK
import Wide.FinOn
import Lean
import PyProof.EqAt
import PyProof.EqKinds
import PyProof.TupleCall
import KE.LcSums
import PyProof.StrReplace2
import PyProof.FitsReplace
import PyProof.RulesAs
import PyProof.NsDelKeeps
import PyProof.Rows.Catch
import OpenK.KOwn
import KE.KTryMore
import PyProof.ExcArgs
import KE.KUnpack
import PyProof.P3In
import PyProof.Rows.SortRuns
import PyProof.Rows.SortShell
import PyProof.TupleOfSeq
import PyProof.SetKind
import PyProof.Rows.SetFrom
import PyProof.WalksMore
import PyProof.DictIter
import PyProof.SetRoads
import KE.KDictSum
import KE.KSortedM
import KE.KIntText
import PyProof.StrWalks
import PyProof.EnumMake
import PyProof.EnumStmt
import PyProof.SliceStr2
import PyProof.StrLawsTight
import PyProof.StrLawsChain
import PyProof.ZipIter
import KE.KPairComp
import PyProof.DictItems
import PyProof.DictWalks
import PyProof.SumAny
import KE.KFind
import PyProof.EnumIter
import PyProof.ListMulAny
import PyProof.FactsAll.tuple
import PyProof.P3Eq
import PyProof.TupleKey
import PyProof.FactsAll.NoneType
import PyProof.DictRoadsH
import PyProof.Rows.TupDisplay
import KE.KSortTup
import PyProof.InstStoreFacts
import PyProof.ExcInit
import PyProof.LayNew
import OpenK.KCls
import PySem.Challenge.RW_midwindow_k35_desk_refused
set_option hygiene false
local macro_rules
|`(.(0 $a0 $a1))=>`(@a6 _ _ _ _ _ $a0 $a1 (by rfl))
|`(.(1 $a0 $a1 $a2))=>`(@a6 _ _ _ _ _ $a0 $a1 $a2)
|`(.(2 $a0 $a1))=>`(@a9 _ _ _ _ _ $a0 $a1)
|`(.(3 $a0))=>`(@b9 _ _ _ $a0)
|`(.(4 $a0 $a1))=>`(@d9 _ _ _ _ _ _ _ _ _ _ $a0 (hr.mono (by decide)) $a1 (by rfl) (by decide) (by rfl) (by rfl))
|`(.(5 $a0 $a1 $a2))=>`(@i6 _ _ _ _ _ _ _ _ $a0 $a1 $a2)
|`(.(6 $a0))=>`(@c7 _ _ _ _ $a0)
|`(.(7 $a0))=>`(@d5 _ _ _ _ $a0)
|`(.(8 $i $a0 $a1 $a2))=>`(@f9 _ _ $i _ _ _ _ $a0 rfl (by trivial) $a1 (by rfl) $a2)
|`(.(9 $a0 $a1 $a2))=>`(@m8 _ _ _ _ _ _ _ $a0 $a1 $a2 (λ_ _=>rfl))
|`(.(10 $a0 $a1 $a2))=>`(@o4 _ _ _ _ _ _ _ _ $a0 $a1 $a2)
|`(.(11 $a0 $a1 $a2 $a3))=>`(@f7 _ _ _ _ _ _ _ _ _ $a0 (by rfl) $a1 $a2 $a3 (by decide) (by decide) (by rfl) (by rfl))
|`(.(12 $a0 $a1 $a2 $a3))=>`(@i9 _ _ _ _ _ _ _ _ $a0 $a1 $a2 $a3)
|`(.(13 $a0))=>`(@C0 _ _ _ $a0 (by intro _;rfl))
|`(.(14 $a0))=>`(@E9 _ _ _ _ _ $a0)
|`(.(15 $a0 $a1 $a2 $a3))=>`(@w6 _ _ _ _ _ _ _ _ _ $a0 (by rfl) $a1 $a2 $a3 (by decide) (by decide) (by rfl) (by rfl))
|`(.(16 $a0))=>`(@C9 _ _ _ _ $a0 (by rfl))
|`(.(17 $a0))=>`(@L8 _ _ _ _ $a0)
|`(.(18 $a0 $a1 $a2 $a3))=>`(@O2 _ _ _ _ _ _ _ _ $a0 rfl $a1 $a2 $a3 (by intro _;rfl))
|`(.(19 $a0 $a1))=>`(@P7 _ _ _ _ _ _ $a0 $a1 (by rfl) (by rfl) (by rfl))
|`(.(20 $a0 $a1 $a2 $a3 $a4 $a5))=>`(@a0w _ _ _ _ _ _ _ _ _ _ _ _ $a0 $a1 $a2 $a3 $a4 $a5 (by rfl) (by rfl) (by rfl) (by rfl) (by rfl))
|`(.(21 $a0 $a1))=>`(@a1Y _ _ _ _ _ _ $a0 $a1)
|`(.(22 $a0 $a1 $a2 $a3))=>`(@a3x _ _ _ _ _ _ _ _ $a0 $a1 $a2 $a3)
|`(.(23))=>`((by rfl))
|`(.(24))=>`((by decide))
|`(.(25))=>`((by omega))
|`(.(26))=>`((by simp))
|`(.(27))=>`((by trivial))
|`(.(28))=>`((by decide +kernel))
|`(.(29))=>`((λvs H Q E h=>?_))
|`(.(30))=>`((λf cdv A outer s H vs Q E hr h=>?_))
local macro_rules | `(tactic| trivial) => `(tactic| first | exact Or.inl rfl | exact Or.inr rfl)
set_option Elab.async false
set_option linter.all false
set_option maxRecDepth 100000
set_option maxHeartbeats 4000000
namespace L2
open PySem PySem.Spec PyProof.Rows
noncomputable abbrev Key:=Sum Int Str
noncomputable def b5Z:Key->Value->Bool
 | .inl k,v=>Value.isInt k v
 | .inr x,v=>Value.isStrOf x v
noncomputable def c6n (w:World):Key->Int
 | .inl k=>hashInt k
 | .inr x=>hashStr w x
theorem F8:∀ {k:Key} {v:Value},b5Z k v=true->(∃ i t,k=Sum.inl i/\v=Value.int i t) \/ (∃ x t,k=Sum.inr x/\v=Value.str x t)
 | .inl i,v,h=>by
  obtain ⟨t,e⟩:=Value.isInt_shape (k:=i) (v:=v) h;exact .inl ⟨i,t,rfl,e⟩
 | .inr x,v,h=>by
  obtain ⟨t,e⟩:=Value.isStrOf_shape (x:=x) (v:=v) h;exact .inr ⟨x,t,rfl,e⟩
theorem c6f (a b:Int):decide ((Sum.inl a:Key)=Sum.inl b)=(a == b):=by
 by_cases e:a=b
 ·subst e;simp
 ·have h:¬ (Sum.inl a:Key)=Sum.inl b:=λq=>e (Sum.inl.inj q);rw [decide_eq_false h];exact (beq_eq_false_iff_ne.mpr e).symm
theorem c3f (a b:Str):decide ((Sum.inr a:Key)=Sum.inr b)=decide (a=b):=by
 by_cases e:a=b
 ·subst e;simp
 ·have h:¬ (Sum.inr a:Key)=Sum.inr b:=λq=>e (Sum.inr.inj q);rw [decide_eq_false h,decide_eq_false e]
theorem c5f (a:Int)(b:Str):decide ((Sum.inl a:Key)=Sum.inr b)=false:=decide_eq_false (λq=>nomatch q)
theorem c4f (a:Str)(b:Int):decide ((Sum.inr a:Key)=Sum.inl b)=false:=decide_eq_false (λq=>nomatch q)
noncomputable def b8d (prog:Program)(w:World):PySem.KeyKind prog w Key where
 is:=b5Z
 hash:=c6n w
 inj:=λv a b ha hb=>by
  rcases F8 ha with ⟨i,t,rfl,rfl⟩ | ⟨x,t,rfl,rfl⟩
  ·rcases F8 hb with ⟨j,u,rfl,e⟩ | ⟨y,u,rfl,e⟩
   ·injection e with e1 _;rw [e1]
   ·exact nomatch e
  ·rcases F8 hb with ⟨j,u,rfl,e⟩ | ⟨y,u,rfl,e⟩
   ·exact nomatch e
   ·injection e with e1 _;rw [e1]
 byValue:=λk v h=>by
  rcases F8 h with ⟨i,t,rfl,rfl⟩ | ⟨x,t,rfl,rfl⟩ <;> rfl
 pyHash:=λhv h=>by
  rcases F8 hv with ⟨i,t,rfl,rfl⟩ | ⟨x,t,rfl,rfl⟩
  ·exact wpAny_pyHash_int h
  ·exact wpAny_pyHash_str h
 eqBool:=λhu hv h=>by
  rcases F8 hu with ⟨i,t,rfl,rfl⟩ | ⟨x,t,rfl,rfl⟩
  ·rcases F8 hv with ⟨j,u,rfl,rfl⟩ | ⟨y,u,rfl,rfl⟩
   ·rw [c6f] at h;exact wpAny_eqBool_int h
   ·rw [c5f] at h;exact SeqAt.EqAt.int_str i t y u _ _ _ _ h
  ·rcases F8 hv with ⟨j,u,rfl,rfl⟩ | ⟨y,u,rfl,rfl⟩
   ·rw [c4f] at h;exact SeqAt.EqAt.str_int x t j u _ _ _ _ h
   ·rw [c3f] at h;exact wpAny_eqBool_str h
 «strs»:=λk x t v h=>by
  rcases F8 h with ⟨i,u,rfl,e⟩ | ⟨y,u,rfl,e⟩
  ·exact nomatch e
  ·injection e with e1 _
   subst e1;cases v <;> rfl
inductive V where
 | non | bl (b:Bool) | int (i:Int) | str (x:Str) | byt (b:Str) | flt (b:UInt64) | ref (a:Addr) | ty (n:String)
 deriving DecidableEq
noncomputable def u7:V->Value->Prop
 | .non,u=>u=Value.none
 | .bl b,u=>u=Value.bool b
 | .int i,u=>∃ t,u=Value.int i t
 | .str x,u=>∃ t,u=Value.str x t
 | .byt b,u=>∃ t,u=Value.str b (t + 1)
 | .flt b,u=>∃ t,u=Value.float b t
 | .ref a,u=>u=Value.ref a
 | .ty n,u=>u=Value.type n
noncomputable abbrev o8:List V->List Value->Prop:=Paired u7
theorem o8.length {xs:List V}{us:List Value}(r:o8 xs us):xs.length=us.length:=Paired.length r
theorem o8.get:∀ {xs:List V} {us:List Value} {i:Nat} {x:V},o8 xs us->xs[i]? = some x->∃ u,us[i]? = some u/\u7 x u
 | _,_,_,_,.nil,e=>by simp at e
 | _,_,0,_,.cons r _,e=>by simp at e;subst e;exact ⟨_,rfl,r⟩
 | _,_,i + 1,x,.cons _ t,e=>by
  obtain ⟨u,h1,h2⟩:=o8.get (i:=i) (x:=x) t (by simpa using e);exact ⟨u,by simpa using h1,h2⟩
theorem o8.set {x:V}{u:Value}(r:u7 x u):∀ {xs:List V} {us:List Value} (i:Nat),o8 xs us->o8 (xs.set i x) (us.set i u)
 | _,_,_,.nil=>.nil
 | _,_,0,.cons _ t=>.cons r t
 | _,_,i + 1,.cons q t=>.cons q (o8.set r i t)
theorem o8.append:∀ {xs ys:List V} {us ws:List Value},o8 xs us->o8 ys ws->o8 (xs ++ ys) (us ++ ws)
 | _,_,_,_,.nil,s=>s
 | _,_,_,_,.cons r t,s=>.cons r (o8.append t s)
theorem o8.take:∀ {xs:List V} {us:List Value} (n:Nat),o8 xs us->o8 (xs.take n) (us.take n)
 | _,_,0,_=>.nil
 | _,_,_ + 1,.nil=>.nil
 | _,_,n + 1,.cons r t=>.cons r (o8.take n t)
theorem o8.drop:∀ {xs:List V} {us:List Value} (n:Nat),o8 xs us->o8 (xs.drop n) (us.drop n)
 | _,_,0,r=>r
 | _,_,_ + 1,.nil=>.nil
 | _,_,n + 1,.cons _ t=>o8.drop n t
noncomputable def a6N:Option V->Option Value->Prop
 | some v,some u=>u7 v u
 | none,none=>True
 | _,_=>False
noncomputable def KV {κ:Type}:List (κ × V)->List (κ × Value)->Prop:=Paired λ(p:κ × V) (q:κ × Value)=>p.1=q.1 /\ u7 p.2 q.2
noncomputable def kV:Key->V
 | .inl i=>.int i
 | .inr x=>.str x
inductive HO where
 | lst (xs:List V)
 | tup (xs:List V)
 | dK (kvs:List (Key × V)) | dT (kvs:List (List Key × V))
 | set (S:Int->Bool) (n:Nat)
 | ins (C dx:Addr) (fs:List (Str × V))
 | own (x:Addr)
 | xd (fs:List (Str × V))
 | met (f x:Addr)
 | rng (lo hi:Int)
 | frz (o:Obj) (u:HO)
 | tbl (ps:Array Value)
 | ext (φ:Heap->Prop)
noncomputable abbrev Hp:=Addr->Option HO
noncomputable def upd (H:Hp)(a:Addr)(o:HO):Hp:=λb=>if b=a then some o else H b
theorem b7 {H:Hp}{a:Addr}{o:HO}:upd H a o a=some o:=by unfold upd;rw [if_pos rfl]
theorem j4 {H:Hp}{a b:Addr}{o:HO}(h:b≠a):upd H a o b=H b:=by unfold upd;rw [if_neg h]
theorem b1P {H:Hp}{a:Addr}{o u:HO}:upd (upd H a o) a u=upd H a u:=by
 funext b;unfold upd;split <;> rfl
theorem U2 {H:Hp}{a b:Addr}{o u:HO}(h:H a=some o)(h':H b=some u)(d:o≠u):a≠b:=by
 intro e;subst e;rw [h] at h';exact d (Option.some.inj h')
theorem d6 {H:Hp}{a b:Addr}{o:HO}(h:H a=some o)(h':H b=none):a≠b:=by
 intro e;subst e;rw [h] at h';cases h'
section
variable (P:Program)(w:World)
noncomputable def E5 (H:Hp)(h:Heap)(a:Addr):HO->Prop
 | .lst xs=>xs.length <= sizeLine/\∃ (its:List Value) (n:Nat),o8 xs its/\h.get? a=some { cls:=.type "list",data:=.seq its.toArray n }
 | .tup xs=>xs.length <= sizeLine/\∃ its:List Value,o8 xs its/\IsTup h a its.toArray
 | .dK kvs=>kvs.length <= sizeLine/\(a == sysModules)=false/\∃ vs,KV kvs vs/\h.DictOf (b8d P w) a vs
 | .dT kvs=>kvs.length <= sizeLine/\(a == sysModules)=false/\∃ xs:List (List Key × Addr × Value),
   Paired (λ(p:List Key × V) (q:List Key × Addr × Value)=>p.1=q.1 /\ H q.2.1=some (.tup (p.1.map kV))/\u7 p.2 q.2.2) kvs xs /\
   ∃ o es ep,h.get? a=some o/\o.ExactDict /\ o.data = .dict es ep/\es.toList=xs.map (entryOfKey (tupleKind (b8d P w)))/\(xs.map (·.1)).Nodup
 | .set S n=>h.SetOf (intKind P w) a S n
 | .ins C dx fs=>H dx=some (.own a)/\fs.length <= 1000/\dx≠a/\h.get? a=some (PySem.W.instObj C dx) /\
   ∃ mA,h.Ns1 dx mA/\(∀ f,a6N (fs.lookup f) (mA f))/\PySem.Within mA (fs.map (·.1))
 | .own _=>∃ o,h.get? a=some o
 | .xd fs=>∃ mA,h.Ns1 a mA/\∀ f,a6N (fs.lookup f) (mA f)
 | .rng lo hi=>∃ t u v,h.get? a=some { cls:=.type "range",data:=.fields #[.int lo t,.int hi u,.int 1 v] }
 | .frz o u=>h.get? a=some o/\E5 H h a u
 | .tbl ps=>h.get? a=some { cls:=.none,data:=.fields ps }
 | .met f x=>h.get? a=some (PySem.W.methodObj (.ref f) (.ref x))
 | .ext φ=>φ h/\(∃ o,h.get? a=some o)/\∀ h1 h2:Heap,φ h1->(∀ o,h1.get? a=some o->h2.get? a=some o)->φ h2
noncomputable def HOk (H:Hp)(h:Heap):Prop:=∀ a o,H a=some o->E5 P w H h a o
end
section
variable {P:Program}{w:World}{H H':Hp}{h h':Heap}{a:Addr}{o:HO}
theorem E5.lt (x:E5 P w H h a o):a < h.objs.size:=by
 cases o with
 | lst xs=>obtain ⟨_,_,_,_,e⟩:=x;exact Heap.lt_size e
 | tup xs=>obtain ⟨_,_,_,p⟩:=x;exact p.lt
 | dK kvs=>obtain ⟨_,_,_,_,o,_,_,e,_⟩:=x;exact Heap.lt_size e
 | dT kvs=>obtain ⟨_,_,_,_,o,_,_,e,_⟩:=x;exact Heap.lt_size e
 | set S n=>obtain ⟨o,_,_,_,e,_⟩:=x;exact Heap.lt_size e
 | ins C dx fs=>obtain ⟨_,_,_,e,_⟩:=x;exact Heap.lt_size e
 | own y=>obtain ⟨_,e⟩:=x;exact Heap.lt_size e
 | xd fs=>obtain ⟨_,⟨_,_,_,e,_⟩,_⟩:=x;exact Heap.lt_size e
 | rng lo hi=>obtain ⟨_,_,_,e⟩:=x;exact Heap.lt_size e
 | frz ob u=>obtain ⟨e,_⟩:=x;exact Heap.lt_size e
 | tbl ps=>exact Heap.lt_size (show h.get? a=some _ from x)
 | met f y=>exact Heap.lt_size (show h.get? a=some _ from x)
 | ext φ=>obtain ⟨_,⟨_,e⟩,_⟩:=x;exact Heap.lt_size e
theorem Paired.mapP {α β:Type}{F G:α->β->Prop}:∀ {l₁:List α} {l₂:List β},Paired F l₁ l₂->(∀ a b,F a b->G a b)->Paired G l₁ l₂
 | _,_,.nil,_=>.nil
 | _,_,.cons r t,f=>.cons (f _ _ r) (Paired.mapP t f)
theorem E5.stay (x:E5 P w H h a o)(k:∀ b u,(b=a \/ H b=some (.own a))->h.get? b=some u->h'.get? b=some u)
  (ho:∀ b,H b=some (.own a)->H' b=some (.own a)) (ht:∀ b xs,H b=some (.tup xs)->H' b=some (.tup xs)):E5 P w H' h' a o:=by
 induction o with
 | lst xs=>obtain ⟨z,its,n,r,e⟩:=x;exact ⟨z,its,n,r,k _ _ (.inl rfl) e⟩
 | tup xs=>obtain ⟨z,its,r,ob,e,c⟩:=x;exact ⟨z,its,r,ob,k _ _ (.inl rfl) e,c⟩
 | dK kvs=>obtain ⟨z,y,vs,r,ob,es,ep,e,c⟩:=x;exact ⟨z,y,vs,r,ob,es,ep,k _ _ (.inl rfl) e,c⟩
 | dT kvs =>
  obtain ⟨z,y,xs,r,ob,es,ep,e,c⟩:=x;exact ⟨z,y,xs,Paired.mapP r λp q z=>⟨z.1,ht _ _ z.2.1,z.2.2⟩,ob,es,ep,k _ _ (.inl rfl) e,c⟩
 | set S n=>obtain ⟨ob,es,ep,t,e,c⟩:=x;exact ⟨ob,es,ep,t,k _ _ (.inl rfl) e,c⟩
 | ins C dx fs =>
  obtain ⟨d,z,ne,e,mA,⟨od,es,ep,e2,c⟩,r⟩:=x;exact ⟨ho _ d,z,ne,k _ _ (.inl rfl) e,mA,⟨od,es,ep,k _ _ (.inr d) e2,c⟩,r⟩
 | own y=>obtain ⟨ob,e⟩:=x;exact ⟨ob,k _ _ (.inl rfl) e⟩
 | xd fs=>obtain ⟨mA,⟨od,es,ep,e,c⟩,r⟩:=x;exact ⟨mA,⟨od,es,ep,k _ _ (.inl rfl) e,c⟩,r⟩
 | rng lo hi=>obtain ⟨t,u,v,e⟩:=x;exact ⟨t,u,v,k _ _ (.inl rfl) e⟩
 | frz ob u ih=>obtain ⟨e,q⟩:=x;exact ⟨k _ _ (.inl rfl) e,ih q⟩
 | tbl ps =>
  have e:h.get? a=some { cls:=.none,data:=.fields ps }:=x
  show h'.get? a=some { cls:=.none,data:=.fields ps }
  exact k a _ (.inl rfl) e
 | met f y =>
  have e:h.get? a=some (PySem.W.methodObj (.ref f) (.ref y)):=x
  show h'.get? a=some (PySem.W.methodObj (.ref f) (.ref y))
  exact k a _ (.inl rfl) e
 | ext φ=>obtain ⟨p,⟨o,e⟩,st⟩:=x;exact ⟨st _ _ p λo q=>k _ _ (.inl rfl) q,⟨o,k _ _ (.inl rfl) e⟩,st⟩
theorem HOk.lt (x:HOk P w H h)(e:H a=some o):a < h.objs.size:=(x a o e).lt
theorem HOk.fresh (x:HOk P w H h)(e:h.objs.size <= a):H a=none:=by
 cases q:H a with
 | none=>rfl
 | some u=>exact absurd (Nat.lt_of_lt_of_le (x.lt q) e) (Nat.lt_irrefl _)
theorem HOk.kept (x:HOk P w H h)(k:∀ b u,h.get? b=some u->h'.get? b=some u):HOk P w H h':=λa o e =>
 (x a o e).stay (λb u _ q=>k b u q) (λ_ q=>q) λ_ _ q=>q
theorem HOk.laid (x:HOk P w H h)(k:∀ b u,h.get? b=some u->h'.get? b=some u)(hp:h.objs.size <= a)(new:E5 P w (upd H a o) h' a o):HOk P w (upd H a o) h':=λb u e=>by
 have hn:=x.fresh hp
 by_cases hb:b=a
 ·subst hb;rw [b7] at e;cases e;exact new
 ·rw [j4 hb] at e;exact (x b u e).stay (λc v _ q=>k c v q) (λc q=>by rw [j4 (d6 q hn)];exact q) λc xs q=>by rw [j4 (d6 q hn)];exact q
end
noncomputable def Rd (H:Hp)(a:Addr)(u:HO):Prop:=H a=some u \/ ∃ o,H a=some (.frz o u)
theorem Rd.ok {P:Program}{w:World}{H:Hp}{h:Heap}{a:Addr}{u:HO}(r:Rd H a u)(x:HOk P w H h):E5 P w H h a u:=by
 rcases r with r | ⟨o,r⟩
 ·exact x a u r
 ·obtain ⟨_,q⟩:=x a _ r;exact q
noncomputable def Mut:Option HO->Prop
 | some (.lst _)=>True
 | some (.dK _)=>True
 | some (.dT _)=>True
 | some (.set _ _)=>True
 | some (.ins _ _ _)=>True
 | some (.ext _)=>True
 | _=>False
section
variable {P:Program}{w:World}{H:Hp}{h h':Heap}{x e:Addr}{o':HO}
theorem HOk.write (ok:HOk P w H h)(mu:Mut (H x))(he:e=x \/ H e=some (.own x))(k:∀ b u,b≠e->h.get? b=some u->h'.get? b=some u)(heo:∃ u,h'.get? e=some u)
  (new:E5 P w (upd H x o') h' x o'):HOk P w (upd H x o') h':=λb u q=>by
 have nown:∀ c y,H c=some (.own y)->c≠x:=λc y r z=>by subst z;rw [r] at mu;exact mu
 have ntup:∀ c xs,H c=some (.tup xs)->c≠x:=λc xs r z=>by subst z;rw [r] at mu;exact mu
 by_cases hb:b=x
 ·subst hb;rw [b7] at q;cases q;exact new
 ·rw [j4 hb] at q
  by_cases hbe:b=e
  ·have q':H b=some (.own x):=by
    rcases he with z | z
    ·exact absurd (hbe.trans z) hb
    ·rw [hbe];exact z
   rw [q] at q';cases q';obtain ⟨v,hv⟩:=heo;exact ⟨v,by rw [hbe];exact hv⟩
  ·refine (ok b u q).stay (λc v hc r=>k c v ?_ r) (λc r=>by rw [j4 (nown c b r)];exact r) λc xs r=>by rw [j4 (ntup c xs r)];exact r
   rcases hc with rfl | hc
   ·exact hbe
   ·rintro rfl
    rcases he with z | z
    ·exact nown c b hc z
    ·rw [hc] at z;cases z;exact hb rfl
end
structure Un (fs ex:List Addr)(H H':Hp)(h h':Heap):Prop where
 keep:∀ b o,h.get? b=some o->H b=none->b ∉ fs->b ∉ ex->h'.get? b=some o
 slot:∀ b o,h.get? b=some o->H b=none->b∈fs->b ∉ ex->∃ sl,h'.get? b=some { o with slots:=sl }
 free:∀ b o,h.get? b=some o->H b=none->b ∉ ex->H' b=none
 there:∀ b o,h.get? b=some o->b ∉ ex->∃ o',h'.get? b=some o'
 tups:∀ b xs,H b=some (.tup xs)->H' b=some (.tup xs)
 frzs:∀ b o u,H b=some (.frz o u)->H' b=some (.frz o u)
 tbls:∀ b ps,H b=some (.tbl ps)->∃ more,H' b=some (.tbl (ps ++ more))
section
variable {fs fs' ex ex':List Addr}{H H1 H2:Hp}{h h1 h2 h':Heap}{a x e:Addr}{o:HO}
theorem Un.any (u:Un fs ex H H1 h h1){b:Addr}{ob:Obj}(q:h.get? b=some ob)(n:H b=none)(hx:b ∉ ex):∃ sl,h1.get? b=some { ob with slots:=sl }:=by
 by_cases hb:b∈fs
 ·exact u.slot b ob q n hb hx
 ·exact ⟨ob.slots,u.keep b ob q n hb hx⟩
theorem Un.kept (k:∀ b u,h.get? b=some u->h'.get? b=some u):Un fs ex H H h h' :=
 ⟨λb ob q _ _ _=>k b ob q,λb ob q _ _ _=>⟨ob.slots,k b ob q⟩,λ_ _ _ n _=>n,λb ob q _=>⟨ob,k b ob q⟩,λ_ _ q=>q,λ_ _ _ q=>q,λ_ ps q=>⟨#[],by rw [q];simp⟩⟩
theorem Un.refl:Un fs ex H H h h:=Un.kept λ_ _ q=>q
theorem Un.laid (k:∀ b u,h.get? b=some u->h'.get? b=some u)(hp:h.objs.size <= a)(hn:H a=none):Un fs ex H (upd H a o) h h' where
 keep:=λb u q _ _ _=>k b u q
 slot:=λb u q _ _ _=>⟨u.slots,k b u q⟩
 free:=λb u q n _=>by rw [j4 (Nat.ne_of_lt (Nat.lt_of_lt_of_le (Heap.lt_size q) hp))];exact n
 there:=λb u q _=>⟨u,k b u q⟩
 tups:=λb xs q=>by rw [j4 (d6 q hn)];exact q
 frzs:=λb u xs q=>by rw [j4 (d6 q hn)];exact q
 tbls:=λb ps q=>⟨#[],by rw [j4 (d6 q hn),q];simp⟩
theorem Un.write (mu:Mut (H x))(he:e=x \/ H e=some (.own x))(k:∀ b u,b≠e->h.get? b=some u->h'.get? b=some u)(heo:∃ u,h'.get? e=some u):Un fs ex H (upd H x o) h h':=by
 have hx:∀ b,H b=none->b≠x:=λb n z=>by subst z;rw [n] at mu;exact mu
 have hb:∀ b,H b=none->b≠e:=λb n z=>by
  subst z
  rcases he with r | r
  ·exact hx b n r
  ·rw [n] at r;cases r
 have hm:∀ b u,H b=some u->¬ Mut (some u)->b≠x:=λb u q nm z=>by subst z;rw [q] at mu;exact nm mu
 refine ⟨λb u q n _ _=>k b u (hb b n) q,λb u q n _ _=>⟨u.slots,k b u (hb b n) q⟩,λb u q n _=>by rw [j4 (hx b n)];exact n,λb u q _=>?_,
  λb xs q=>by rw [j4 (hm b _ q λz=>z)];exact q,λb u xs q=>by rw [j4 (hm b _ q λz=>z)];exact q,λb ps q=>⟨#[],by rw [j4 (hm b _ q λz=>z),q];simp⟩⟩
 by_cases hbe:b=e
 ·subst hbe;exact heo
 ·exact ⟨u,k b u hbe q⟩
end
noncomputable def trk (h:Heap)(H:Hp):List Addr:=(List.range h.objs.size).filter λa=>(H a).isSome
noncomputable def b5e (h:Heap)(H:Hp):Heap:=PySem.W.hideAll h (trk h H)
theorem b0D (h:Heap)(H:Hp):(b5e h H).objs.size=h.objs.size:=PySem.W.hideAll_size _ _
theorem b7J {h:Heap}{H:Hp}{b:Addr}{o:Obj}(e:h.get? b=some o)(n:H b=none):(b5e h H).get? b=some o :=
 PySem.W.hideAll_get _ e λhm=>by
  have q:(H b).isSome=true:=(List.mem_filter.mp hm).2;rw [n] at q;simp at q
theorem b0V {h:Heap}{H:Hp}{b:Addr}{o:Obj}(e:(b5e h H).get? b=some o):h.get? b=some o/\H b=none:=by
 have e':h.get? b=some o:=PySem.W.of_hideAll (trk h H) e;refine ⟨e',?_⟩;cases q:H b with
 | none=>rfl
 | some x =>
  have hm:b∈trk h H:=List.mem_filter.mpr ⟨List.mem_range.mpr (Heap.lt_size e'),by simp [q]⟩;have z:(b5e h H).get? b=none:=PySem.W.hideAll_none (trk h H) hm;rw [z] at e;cases e
structure Mod (K:PySem.W.Frag)(mg:Str->Option Value)(base:Heap):Prop where
 kin:K.In base
 glob:base.Ns mainGlobals mg
 blt:∃ mb,base.Ns builtinsNs mb/\∀ x:Str,x ≠ "__name__"->mb x=bootBuiltins x
 nolimit:base.NoLimit
structure Cx where
 prog:Program
 w:World
 K:PySem.W.Frag
 mg:Str->Option Value
 base:Heap
 A:Around
 N:List Str
 sZ:Shared
 HZ:Hp
 env:Env
 outer:List Env
 stack:List Env
 ex:List Addr
 fn:Str->Bool
 calm:Bool
 pn:List (Addr × Obj)
 xe:Value->Shared->Prop
noncomputable def frs (l:List Env):List Addr:=l.filterMap (·.frame)
noncomputable abbrev Cx.fs (X:Cx):List Addr:=frs X.outer
noncomputable def Vis (sc:Scope)(x:Str):Prop:=sc.names.lookup x=some .local \/ sc.names.lookup x=some .cell \/ sc.names.lookup x=some .free
noncomputable def Loc (sc:Scope)(x:Str):Prop:=sc.names.lookup x=some .local \/ sc.names.lookup x=some .cell
noncomputable def c3o (env:Env)(h:Heap)(m:Str->Option Value)(x:Str)(u:Value):Prop :=
 (env.kindOf x=some .local /\ m x=some u) \/ ((env.kindOf x=some .cell \/ env.kindOf x=some .free)/\∃ c,env.cells.lookup x=some c/\h.IsCell c (some u))
structure Cx.Ok (X:Cx):Prop where
 mod:Mod X.K X.mg X.base
 kind:X.env.scope.kind = .function
 glob:X.env.globals=mainGlobals
 blt:X.env.builtins=builtinsNs
 above:X.sZ.heap.objs.size <= X.env.locals
 inj:∀ x y c,X.env.cells.lookup x=some c->X.env.cells.lookup y=some c->x=y
 has:∀ x,(X.env.kindOf x=some .cell \/ X.env.kindOf x=some .free)->∃ c,X.env.cells.lookup x=some c
 cab:∀ x c,X.fn x=true->X.env.cells.lookup x=some c->X.sZ.heap.objs.size <= c
 hd:X.calm=true->X.A.handled=none
 frames:X.A.frames=some X.stack
 stk:X.stack=X.outer \/ (X.stack=X.env :: X.outer /\ X.env.frame=some X.env.locals)
 exf:∀ b∈X.ex,b≠X.env.locals /\ ∀ x c,X.env.cells.lookup x=some c->c≠b
 bs:∀ b o,X.base.get? b=some o->X.sZ.heap.get? b=some o/\X.HZ b=none
 bsz:X.base.objs.size <= X.sZ.heap.objs.size
 noex:∀ b o,X.base.get? b=some o->b ∉ X.ex
 exfs:∀ b∈X.ex,b ∉ X.fs
 funs:X.sZ.heap.FunFrames X.base X.outer
 frf:∀ b∈X.fs,X.HZ b=none
structure Inv (X:Cx)(pins:List (Addr × Obj))(σ:List (Option V))(H:Hp)(s:Shared):Prop where
 ok:X.Ok
 os:s.os=X.sZ.os
 bare:AllBare s.gens
 base:Un X.fs X.ex X.HZ H X.sZ.heap s.heap
 loc:∃ m,s.heap.Ns X.env.locals m/\∀ (i:Nat) (x:Str) (v:V),X.N[i]? = some x->σ[i]? = some (some v)->Vis X.env.scope x->∃ u,u7 v u/\c3o X.env s.heap m x u
 cell:∀ x c,X.env.cells.lookup x=some c->∃ v,s.heap.IsCell c v
 free:H X.env.locals=none
 freeC:∀ x c,X.env.cells.lookup x=some c->H c=none
 pin:∀ p∈X.pn ++ pins,s.heap.get? p.1=some p.2 /\ H p.1=none/\p.1 ≠ X.env.locals /\ p.1 ∉ X.fs /\ ∀ v,p.2.data ≠ .cell v
 hok:HOk X.prog X.w H s.heap
 len:σ.length=X.N.length
section
variable {X:Cx}{pins:List (Addr × Obj)}{σ:List (Option V)}{H H':Hp}{s:Shared}{h':Heap}
theorem Cx.Ok.nofr (ok:X.Ok){b:Addr}{o:Obj}(e:X.base.get? b=some o):b ∉ X.fs:=λhb=>by
 have:=(ok.funs.mem hb).1;rw [e] at this;cases this
theorem Inv.bs (I:Inv X pins σ H s):∀ b o,X.base.get? b=some o->s.heap.get? b=some o/\H b=none:=λb o e =>
 ⟨I.base.keep b o (I.ok.bs b o e).1 (I.ok.bs b o e).2 (I.ok.nofr e) (I.ok.noex b o e),I.base.free b o (I.ok.bs b o e).1 (I.ok.bs b o e).2 (I.ok.noex b o e)⟩
theorem Inv.bk (I:Inv X pins σ H s):∀ b o,X.base.get? b=some o->s.heap.get? b=some o:=λb o e=>(I.bs b o e).1
theorem Inv.mod (I:Inv X pins σ H s):Mod X.K X.mg X.base:=I.ok.mod
theorem Inv.kIn (I:Inv X pins σ H s):X.K.In s.heap:=I.ok.mod.kin.keeps I.bk
theorem Inv.fr (I:Inv X pins σ H s):∃ m,Fr X.base X.env.locals s.heap m :=
 let ⟨m,hn,_⟩:=I.loc
 ⟨m,hn,I.bk,Nat.le_trans I.ok.bsz I.ok.above⟩
theorem Inv.lt (I:Inv X pins σ H s):X.env.locals < s.heap.objs.size:=let ⟨_,hn,_⟩:=I.loc;hn.lt
theorem Inv.sz (I:Inv X pins σ H s):X.sZ.heap.objs.size <= s.heap.objs.size:=Nat.le_trans I.ok.above (Nat.le_of_lt I.lt)
theorem Inv.nofs (I:Inv X pins σ H s){a:Addr}(h:s.heap.objs.size <= a):a ∉ X.fs:=λhb=>by
 obtain ⟨_,o,ho,_⟩:=I.ok.funs.mem hb;exact absurd (Nat.lt_of_lt_of_le (Heap.lt_size ho) (Nat.le_trans I.sz h)) (Nat.lt_irrefl _)
theorem Inv.cne (I:Inv X pins σ H s):∀ x c,X.env.cells.lookup x=some c->c≠X.env.locals:=λx c e z=>by
 obtain ⟨v,o,ho,hd⟩:=I.cell x c e;obtain ⟨m,⟨o',es,ep,ho',hd',_⟩,_⟩:=I.loc;rw [z,ho'] at ho;cases ho;rw [hd'] at hd;cases hd
theorem Inv.funs (I:Inv X pins σ H s):s.heap.FunFrames X.base X.outer:=by
 have all:∀ (l:List Env),(∀ b∈frs l,b∈X.fs)->X.sZ.heap.FunFrames X.base l->s.heap.FunFrames X.base l:=by
  intro l
  induction l with
  | nil=>intro _ _;trivial
  | cons env r ih =>
   intro hs hl;obtain ⟨hk,⟨L,o,hf,hn,ho,hd⟩,hr⟩:=hl;have hL:L∈X.fs:=hs L (by unfold frs;rw [List.filterMap_cons,hf];exact List.mem_cons_self);obtain ⟨sl,e⟩:=I.base.slot L o ho (I.ok.frf L hL) hL λz=>I.ok.exfs L z hL;exact ⟨hk,⟨L,_,hf,hn,e,hd⟩,ih (λb hb=>hs b (by unfold frs;rw [List.filterMap_cons,hf];exact List.mem_cons_of_mem _ hb)) hr⟩
 exact all X.outer (λ_ hb=>hb) I.ok.funs
theorem Inv.stack (I:Inv X pins σ H s):s.heap.FunFrames X.base X.stack:=by
 rcases I.ok.stk with e | ⟨e,hf⟩
 ·rw [e];exact I.funs
 ·rw [e];obtain ⟨m,hn,_⟩:=I.loc;refine .cons (by rw [I.ok.kind];decide) hf hn ?_ I.funs;exact Heap.get?_none_of_le (Nat.le_trans I.ok.bsz I.ok.above)
theorem Inv.stkSub (I:Inv X pins σ H s):∀ b∈frs X.stack,b∈X.env.locals :: X.fs:=λb hb=>by
 rcases I.ok.stk with e | ⟨e,hf⟩
 ·rw [e] at hb;exact List.mem_cons_of_mem _ hb
 ·rw [e] at hb;unfold frs at hb;rw [List.filterMap_cons,hf] at hb;exact hb
theorem Inv.stkFree (I:Inv X pins σ H s):∀ b∈frs X.stack,H b=none:=λb hb=>by
 rcases List.mem_cons.mp (I.stkSub b hb) with e | hb
 ·rw [e];exact I.free
 ·obtain ⟨_,o,ho,_⟩:=I.ok.funs.mem hb;exact I.base.free b o ho (I.ok.frf b hb) λz=>I.ok.exfs b z hb
theorem Inv.step {g':Array GenState}{t':Nat}{d':Drawn}{ch:List Addr}(I:Inv X pins σ H s)
  (hch:∀ b∈ch,(b∈X.ex \/ X.sZ.heap.objs.size <= b)/\b≠X.env.locals /\ (∀ x c,X.env.cells.lookup x=some c->c≠b)/\∀ p∈X.pn ++ pins,p.1 ≠ b)
  (keep:∀ b o,b≠X.env.locals -> b ∉ X.fs -> b ∉ ch->s.heap.get? b=some o->H b=none->h'.get? b=some o)
  (slot:∀ b o,b≠X.env.locals -> b∈X.fs -> b ∉ ch->s.heap.get? b=some o->H b=none->∃ sl,h'.get? b=some { o with slots:=sl }) (free:∀ b o,b ∉ ch->s.heap.get? b=some o->H b=none->H' b=none)
  (there:∀ b o,b ∉ ch->s.heap.get? b=some o->∃ o',h'.get? b=some o')
  (tups:∀ b xs,H b=some (.tup xs)->H' b=some (.tup xs)) (frzs:∀ b o u,H b=some (.frz o u)->H' b=some (.frz o u)) (tbls:∀ b ps,H b=some (.tbl ps)->∃ more,H' b=some (.tbl (ps ++ more)))
  (ns:∀ m,s.heap.Ns X.env.locals m->h'.Ns X.env.locals m) (hok:HOk X.prog X.w H' h') (hg:AllBare g') :
  Inv X pins σ H' { s with heap:=h',gens:=g',drawn:=d',toks:=t' }:=by
 have neL:∀ b o,X.sZ.heap.get? b=some o->b≠X.env.locals:=λb o e=>Nat.ne_of_lt (Nat.lt_of_lt_of_le (Heap.lt_size e) I.ok.above);have neC:∀ b o,X.sZ.heap.get? b=some o->b ∉ X.ex -> b ∉ ch:=λb o e hx hb=>by
  rcases (hch b hb).1 with z | z
  ·exact hx z
  ·exact absurd (Nat.lt_of_lt_of_le (Heap.lt_size e) z) (Nat.lt_irrefl _)
 have cellK:∀ x c,X.env.cells.lookup x=some c->∀ v,s.heap.IsCell c v->h'.IsCell c v:=λx c e v ⟨o,ho,hd⟩=>by
  have nch:c ∉ ch:=λz=>(hch c z).2.2.1 x c e rfl
  by_cases hc:c∈X.fs
  ·obtain ⟨sl,q⟩:=slot c o (I.cne x c e) hc nch ho (I.freeC x c e);exact ⟨_,q,hd⟩
  ·exact ⟨o,keep c o (I.cne x c e) hc nch ho (I.freeC x c e),hd⟩
 refine ⟨I.ok,I.os,hg,⟨λb o e n hb hx=>?_,λb o e n hb hx=>?_,λb o e n hx=>?_,λb o e hx=>?_,λb xs e=>tups b xs (I.base.tups b xs e),λb o xs e=>frzs b o xs (I.base.frzs b o xs e),λb ps e=>?_⟩,?_,λx c e=>?_,?_,λx c e=>?_,λp hp=>?_,hok,I.len⟩
 ·exact keep b o (neL b o e) hb (neC b o e hx) (I.base.keep b o e n hb hx) (I.base.free b o e n hx)
 ·obtain ⟨sl,e1⟩:=I.base.slot b o e n hb hx;obtain ⟨sl',e2⟩:=slot b _ (neL b o e) hb (neC b o e hx) e1 (I.base.free b o e n hx);exact ⟨sl',e2⟩
 ·obtain ⟨o',e1⟩:=I.base.there b o e hx;exact free b o' (neC b o e hx) e1 (I.base.free b o e n hx)
 ·obtain ⟨o',e1⟩:=I.base.there b o e hx;exact there b o' (neC b o e hx) e1
 ·obtain ⟨m1,e1⟩:=I.base.tbls b ps e;obtain ⟨m2,e2⟩:=tbls b _ e1;exact ⟨m1 ++ m2,by rw [e2,Array.append_assoc]⟩
 ·obtain ⟨m,hn,hl⟩:=I.loc;refine ⟨m,ns m hn,λi x v e1 e2 e3=>?_⟩;obtain ⟨u,r,l⟩:=hl i x v e1 e2 e3;refine ⟨u,r,?_⟩
  rcases l with l | ⟨k,c,e,z⟩
  ·exact .inl l
  ·exact .inr ⟨k,c,e,cellK x c e _ z⟩
 ·obtain ⟨v,z⟩:=I.cell x c e;exact ⟨v,cellK x c e v z⟩
 ·obtain ⟨m,⟨o,_,_,ho,_⟩,_⟩:=I.loc;exact free _ o (λz=>(hch _ z).2.1 rfl) ho I.free
 ·obtain ⟨v,o,ho,hd⟩:=I.cell x c e;exact free c o (λz=>(hch c z).2.2.1 x c e rfl) ho (I.freeC x c e)
 ·obtain ⟨e,n,ne,nf,d⟩:=I.pin p hp;have nch:p.1 ∉ ch:=λz=>(hch p.1 z).2.2.2 p hp rfl;exact ⟨keep p.1 p.2 ne nf nch e n,free p.1 p.2 nch e n,ne,nf,d⟩
theorem Inv.un {t':Nat}(I:Inv X pins σ H s)(u:Un X.fs [] H H' s.heap h')(hok:HOk X.prog X.w H' h'):Inv X pins σ H' { s with heap:=h',toks:=t' }:=by
 obtain ⟨m,⟨o,es,ep,ho,r⟩,_⟩:=id I.loc;obtain ⟨sl,hL⟩:=u.any ho I.free .(26);exact I.step (g':=s.gens) (d':=s.drawn) (ch:=[]) (λ_ z=>nomatch z) (λb o _ hb _ e n=>u.keep b o e n hb .(26)) (λb o _ hb _ e n=>u.slot b o e n hb .(26)) (λb o _ e n=>u.free b o e n .(26)) (λb o _ e=>u.there b o e .(26)) u.tups u.frzs u.tbls (λm' hm=>by
  obtain ⟨o',es',ep',ho',r'⟩:=hm;rw [ho] at ho';cases ho';exact ⟨_,es',ep',hL,r'⟩) hok I.bare
theorem Inv.call {g':Array GenState}{t':Nat}{d':Drawn}{ch:List Addr}(I:Inv X pins σ H s)(u:Un (frs X.stack) ch H H' s.heap h')(hok:HOk X.prog X.w H' h')(hg:AllBare g')
  (hch:∀ b∈ch,(b∈X.ex \/ X.sZ.heap.objs.size <= b)/\b≠X.env.locals /\ (∀ x c,X.env.cells.lookup x=some c->c≠b)/\∀ p∈X.pn ++ pins,p.1 ≠ b) :
  Inv X pins σ H' { s with heap:=h',gens:=g',drawn:=d',toks:=t' }:=by
 obtain ⟨m,⟨o,es,ep,ho,r⟩,_⟩:=id I.loc;obtain ⟨sl,hL⟩:=u.any ho I.free λz=>(hch _ z).2.1 rfl;exact I.step (ch:=ch) hch (λb o hL hb hc e n=>u.keep b o e n (λz=>(List.mem_cons.mp (I.stkSub b z)).elim hL hb) hc) (λb o _ _ hc e n=>u.any e n hc) (λb o hc e n=>u.free b o e n hc) (λb o hc e=>u.there b o e hc) u.tups u.frzs u.tbls (λm' hm=>by
  obtain ⟨o',es',ep',ho',r'⟩:=hm;rw [ho] at ho';cases ho';exact ⟨_,es',ep',hL,r'⟩) hok hg
theorem Inv.turned {t':Nat}{it:Addr}(I:Inv X pins σ H s)(k:∀ b o,b≠it->s.heap.get? b=some o->h'.get? b=some o)(hn:H it=none)(hL:it≠X.env.locals)
  (h1:it∈X.ex \/ X.sZ.heap.objs.size <= it) (h2:∀ x c,X.env.cells.lookup x=some c->c≠it) (h3:∀ p∈X.pn ++ pins,p.1 ≠ it):Inv X pins σ H { s with heap:=h',toks:=t' }:=by
 have nit:∀ b u,H b=some u->b≠it:=λb u e z=>by rw [z,hn] at e;cases e
 refine I.step (g':=s.gens) (d':=s.drawn) (ch:=[it]) (λb hb=>?_) (λb o _ _ hc e _=>k b o (λz=>hc (by simp [z])) e) (λb o _ _ hc e _=>⟨o.slots,k b o (λz=>hc (by simp [z])) e⟩) (λ_ _ _ _ n=>n)
  (λb o hc e=>⟨o,k b o (λz=>hc (by simp [z])) e⟩) (λ_ _ e=>e) (λ_ _ _ e=>e) (λb ps e=>⟨#[],by rw [e];simp⟩) (λm hm=>?_) (λb u e=>?_) I.bare
 ·have e:b=it:=by simpa using hb
  subst e;exact ⟨h1,hL,h2,h3⟩
 ·obtain ⟨o,es,ep,ho,r⟩:=hm;exact ⟨o,es,ep,k _ o (Ne.symm hL) ho,r⟩
 ·refine (I.hok b u e).stay (λc v hc q=>k c v ?_ q) (λ_ q=>q) λ_ _ q=>q
  rcases hc with z | z
  ·rw [z];exact nit b u e
  ·exact nit c _ z
theorem Inv.tok (I:Inv X pins σ H s)(t:Nat):Inv X pins σ H { s with toks:=t }:=I.un (h':=s.heap) (t':=t) Un.refl I.hok
theorem Inv.kept {t':Nat}(I:Inv X pins σ H s)(k:∀ b u,s.heap.get? b=some u->h'.get? b=some u):Inv X pins σ H { s with heap:=h',toks:=t' }:=I.un (Un.kept k) (I.hok.kept k)
theorem Inv.laid {a:Addr}{o:HO}{t':Nat}(I:Inv X pins σ H s)(k:∀ b u,s.heap.get? b=some u->h'.get? b=some u)(hp:s.heap.objs.size <= a)(new:E5 X.prog X.w (upd H a o) h' a o) :
  Inv X pins σ (upd H a o) { s with heap:=h',toks:=t' }:=I.un (Un.laid k hp (I.hok.fresh hp)) (I.hok.laid k hp new)
theorem Inv.write {x e:Addr}{o:HO}{t':Nat}(I:Inv X pins σ H s)(mu:Mut (H x))(he:e=x \/ H e=some (.own x))(k:∀ b u,b≠e->s.heap.get? b=some u->h'.get? b=some u)(heo:∃ u,h'.get? e=some u)
  (new:E5 X.prog X.w (upd H x o) h' x o):Inv X pins σ (upd H x o) { s with heap:=h',toks:=t' }:=I.un (Un.write mu he k heo) (I.hok.write mu he k heo new)
theorem Inv.weak {σ':List (Option V)}(I:Inv X pins σ H s)(hl:σ'.length=σ.length)(w:∀ (i:Nat) v,σ'[i]? = some (some v)->σ[i]? = some (some v)):Inv X pins σ' H s :=
 ⟨I.ok,I.os,I.bare,I.base,let ⟨m,hn,hl'⟩:=I.loc;⟨m,hn,λi x v e1 e2 e3=>hl' i x v e1 (w i v e2) e3⟩,I.cell,I.free,I.freeC,I.pin,I.hok,hl.trans I.len⟩
theorem Inv.pins_of {pins':List (Addr × Obj)}(I:Inv X pins σ H s)(h:∀ p∈pins',s.heap.get? p.1=some p.2 /\ H p.1=none/\p.1 ≠ X.env.locals /\ p.1 ∉ X.fs /\ ∀ v,p.2.data ≠ .cell v):Inv X pins' σ H s :=
 ⟨I.ok,I.os,I.bare,I.base,I.loc,I.cell,I.free,I.freeC,λp hp=>(List.mem_append.mp hp).elim (λz=>I.pin p (List.mem_append_left _ z)) (h p),I.hok,I.len⟩
theorem a1S {N:List Str}(hN:N.Nodup){i j:Nat}{x:Str}(a:N[i]? = some x)(b:N[j]? = some x):i=j:=by
 obtain ⟨h1,e1⟩:=List.getElem?_eq_some_iff.mp a;obtain ⟨h2,e2⟩:=List.getElem?_eq_some_iff.mp b;exact (List.getElem_inj hN).mp (e1.trans e2.symm)
theorem b0A {M:Model}{A:Around}{E:Value->Shared->Prop}{i:Nat}{x:Str}{v:V}{u:Value}{Q:Unit->Shared->Prop}(I:Inv X pins σ H s)(hN:X.N.Nodup)(hi:X.N[i]? = some x)(hx:Loc X.env.scope x)(r:u7 v u)
  (h:∀ s',Inv X pins (σ.set i (some v)) H s'->(∃ a,Heap.SameBut a s.heap s'.heap /\ (a=X.env.locals \/ X.env.cells.lookup x=some a))->Q () s') (hf:X.fn x=true \/ X.env.scope.names.lookup x=some .local:=by first | exact .inl rfl | exact .inr rfl | assumption):wpAny M A (storeName X.env x u) Q E s:=by
 obtain ⟨m,hn,hl⟩:=id I.loc;have hcls:(X.env.scope.kind == .class || (X.env.scope.kind == .module && X.env.locals != X.env.globals))=false:=by rw [I.ok.kind];rfl
 have hiσ:i < σ.length:=by rw [I.len];exact (List.getElem?_eq_some_iff.mp hi).1
 have cne:=I.cne;have tracked:∀ {a:Addr} {h':Heap},(∃ o,s.heap.get? a=some o/\H a=none)->Heap.SameBut a s.heap h'->HOk X.prog X.w H h':=λ{a h'} ha hs b ob e=>by
  obtain ⟨_,_,hfree⟩:=ha;refine (I.hok b ob e).stay (λc w' hc q=>(hs.2 c ?_).trans q) (λ_ q=>q) λ_ _ q=>q;rintro rfl
  rcases hc with rfl | hc
  ·rw [hfree] at e;cases e
  ·rw [hfree] at hc;cases hc
 rcases hx with hk | hk
 ·refine wpAny_storeName_local hk hn (λh' hn' hs=>?_) hcls;obtain ⟨oL,_,_,hoL,_⟩:=id hn;refine h _ ⟨I.ok,I.os,I.bare,⟨λb o e n hb hx=>?_,λb o e n hb hx=>?_,I.base.free,λb o e hx=>?_,I.base.tups,I.base.frzs,I.base.tbls⟩,⟨_,hn',λj y v' e1 e2 e3=>?_⟩,λy c e=>?_,I.free,I.freeC,λp hp=>?_,tracked ⟨oL,hoL,I.free⟩ hs,by simpa using I.len⟩ ⟨_,hs,.inl rfl⟩
  ·exact (hs.2 b (Nat.ne_of_lt (Nat.lt_of_lt_of_le (Heap.lt_size e) I.ok.above))).trans (I.base.keep b o e n hb hx)
  ·obtain ⟨sl,e1⟩:=I.base.slot b o e n hb hx;exact ⟨sl,(hs.2 b (Nat.ne_of_lt (Nat.lt_of_lt_of_le (Heap.lt_size e) I.ok.above))).trans e1⟩
  ·obtain ⟨o',e1⟩:=I.base.there b o e hx;exact ⟨o',(hs.2 b (Nat.ne_of_lt (Nat.lt_of_lt_of_le (Heap.lt_size e) I.ok.above))).trans e1⟩
  ·by_cases hj:j=i
   ·subst hj;rw [hi] at e1;cases e1;rw [List.getElem?_set_self hiσ] at e2;cases e2;exact ⟨u,r,.inl ⟨hk,by simp⟩⟩
   ·rw [List.getElem?_set_ne (Ne.symm hj)] at e2;obtain ⟨u',r',q⟩:=hl j y v' e1 e2 e3;refine ⟨u',r',?_⟩
    rcases q with ⟨k,e⟩ | ⟨k,c,e,z⟩
    ·refine .inl ⟨k,?_⟩;have:y≠x:=λe=>hj (a1S hN e1 (e ▸ hi))
     simp [this,e]
    ·exact .inr ⟨k,c,e,z.sameBut hs (cne y c e)⟩
  ·obtain ⟨w',z⟩:=I.cell y c e;exact ⟨w',z.sameBut hs (cne y c e)⟩
  ·obtain ⟨e,n,ne,nf,d⟩:=I.pin p hp;exact ⟨(hs.2 p.1 ne).trans e,n,ne,nf,d⟩
 ·have hfn:X.fn x=true:=by
   rcases hf with z | z
   ·exact z
   ·rw [z] at hk;cases hk
  obtain ⟨c,hc⟩:=I.ok.has x (.inl hk);obtain ⟨w',z⟩:=I.cell x c hc;refine wpAny_storeName_cell I.ok.kind hk hc z (λh' hc' hs=>?_);obtain ⟨oc,hoc,hocd⟩:=id z;refine h { s with heap:=h' } ⟨I.ok,I.os,I.bare,⟨λb o e n hb hx=>?_,λb o e n hb hx=>?_,I.base.free,λb o e hx=>?_,I.base.tups,I.base.frzs,I.base.tbls⟩,⟨m,hn.sameBut hs (Ne.symm (cne x c hc)),λj y v' e1 e2 e3=>?_⟩,λy c' e=>?_,I.free,I.freeC,λp hp=>?_,tracked ⟨oc,hoc,I.freeC x c hc⟩ hs,by simpa using I.len⟩ ⟨c,hs,.inr hc⟩
  ·exact (hs.2 b (Nat.ne_of_lt (Nat.lt_of_lt_of_le (Heap.lt_size e) (I.ok.cab x c hfn hc)))).trans (I.base.keep b o e n hb hx)
  ·obtain ⟨sl,e1⟩:=I.base.slot b o e n hb hx;exact ⟨sl,(hs.2 b (Nat.ne_of_lt (Nat.lt_of_lt_of_le (Heap.lt_size e) (I.ok.cab x c hfn hc)))).trans e1⟩
  ·obtain ⟨o',e1⟩:=I.base.there b o e hx;exact ⟨o',(hs.2 b (Nat.ne_of_lt (Nat.lt_of_lt_of_le (Heap.lt_size e) (I.ok.cab x c hfn hc)))).trans e1⟩
  ·by_cases hj:j=i
   ·subst hj;rw [hi] at e1;cases e1;rw [List.getElem?_set_self hiσ] at e2;cases e2;exact ⟨u,r,.inr ⟨.inl hk,c,hc,hc'⟩⟩
   ·rw [List.getElem?_set_ne (Ne.symm hj)] at e2;obtain ⟨u',r',q⟩:=hl j y v' e1 e2 e3;refine ⟨u',r',?_⟩
    rcases q with q | ⟨k,c',e,z'⟩
    ·exact .inl q
    ·refine .inr ⟨k,c',e,z'.sameBut hs ?_⟩;rintro rfl;exact hj (a1S hN e1 (I.ok.inj _ _ _ e hc ▸ hi))
  ·by_cases hcc:c'=c
   ·subst hcc;exact ⟨_,hc'⟩
   ·obtain ⟨w2,z2⟩:=I.cell y c' e;exact ⟨w2,z2.sameBut hs hcc⟩
  ·obtain ⟨e,n,ne,nf,d⟩:=I.pin p hp;refine ⟨(hs.2 p.1 ?_).trans e,n,ne,nf,d⟩;intro q;rw [q,hoc] at e;have q':oc=p.2:=Option.some.inj e;exact d w' (by rw [← q'];exact hocd)
theorem a1Q {M:Model}{A:Around}{E:Value->Shared->Prop}{i:Nat}{x:Str}{v:V}{u:Value}{Q:Unit->Shared->Prop}(I:Inv X pins σ H s)(hN:X.N.Nodup)(hi:X.N[i]? = some x)(hx:Loc X.env.scope x)(r:u7 v u)
  (h:∀ s',Inv X pins (σ.set i (some v)) H s'->Q () s') (hf:X.fn x=true \/ X.env.scope.names.lookup x=some .local:=by first | exact .inl rfl | exact .inr rfl | assumption):wpAny M A (storeName X.env x u) Q E s :=
 b0A I hN hi hx r (λs' I' _=>h s' I') hf
theorem Inv.call' {s':Shared}{ch:List Addr}(I:Inv X pins σ H s)(ho:s'.os=s.os)(u:Un (frs X.stack) ch H H' s.heap s'.heap)(hok:HOk X.prog X.w H' s'.heap)(hg:AllBare s'.gens)
  (hch:∀ b∈ch,(b∈X.ex \/ X.sZ.heap.objs.size <= b)/\b≠X.env.locals /\ (∀ x c,X.env.cells.lookup x=some c->c≠b)/\∀ p∈X.pn ++ pins,p.1 ≠ b):Inv X pins σ H' s':=by
 obtain ⟨h',g',d',t',o'⟩:=s';have e:o'=s.os:=ho;subst e;exact I.call (g':=g') (t':=t') (d':=d') u hok hg hch
end
noncomputable abbrev XK:=Value->Option Addr->Hp->Prop
noncomputable abbrev St:=List (Option V)
noncomputable abbrev VK:=V->Hp->Prop
noncomputable abbrev TE:=St->Hp->VK->Prop
noncomputable abbrev TT:=St->Hp->(Bool->Hp->Prop)->Prop
noncomputable abbrev TA:=St->Hp->(List V->Hp->Prop)->Prop
structure a0x where
 nx:St->Hp->Prop
 rt:VK
 bk:St->Hp->Prop:=λ_ _=>False
 ct:St->Hp->Prop:=λ_ _=>False
noncomputable abbrev TS:=a0x->St->Hp->Prop
noncomputable def EP (X:Cx)(pins:List (Addr × Obj))(σ:St)(Q:VK)(u:Value)(s':Shared):Prop:=∃ v H',Inv X pins σ H' s'/\u7 v u/\Q v H'
noncomputable def TP (X:Cx)(pins:List (Addr × Obj))(σ:St)(Q:Bool->Hp->Prop)(b:Bool)(s':Shared):Prop:=∃ H',Inv X pins σ H' s'/\Q b H'
noncomputable def AP (X:Cx)(pins:List (Addr × Obj))(σ:St)(Q:List V->Hp->Prop)(us:List Value)(s':Shared):Prop:=∃ vs H',Inv X pins σ H' s'/\o8 vs us/\Q vs H'
noncomputable def SP (X:Cx)(pins:List (Addr × Obj))(D:a0x)(f:Flow)(s':Shared):Prop :=
 match f with
 | .next=>∃ σ' H',Inv X pins σ' H' s'/\D.nx σ' H'
 | .brk=>∃ σ' H',Inv X pins σ' H' s'/\D.bk σ' H'
 | .cont=>∃ σ' H',Inv X pins σ' H' s'/\D.ct σ' H'
 | .ret u=>∃ v σ' H',Inv X pins σ' H' s'/\u7 v u/\D.rt v H'
noncomputable def PE (X:Cx)(e:Expr)(t:TE):Prop :=
 ∀ (pins:List (Addr × Obj)) (s:Shared) (σ:St) (H:Hp) (Q:VK),Inv X pins σ H s->t σ H Q->wpAny (model X.prog X.w) X.A (eval e X.env) (EP X pins σ Q) X.xe s
noncomputable def PT (X:Cx)(e:Expr)(t:TT):Prop :=
 ∀ (pins:List (Addr × Obj)) (s:Shared) (σ:St) (H:Hp) (Q:Bool->Hp->Prop),Inv X pins σ H s->t σ H Q->wpAny (model X.prog X.w) X.A (isTrue e X.env (eval e X.env)) (TP X pins σ Q) X.xe s
noncomputable def PW (X:Cx)(e:Expr)(t:TT):Prop :=
 ∀ (whole:Sem Value) (pins:List (Addr × Obj)) (s:Shared) (σ:St) (H:Hp) (Q:Bool->Hp->Prop),Inv X pins σ H s->t σ H Q->wpAny (model X.prog X.w) X.A (isTrue e X.env whole) (TP X pins σ Q) X.xe s
theorem PW.pt {X:Cx}{e:Expr}{t:TT}(h:PW X e t):PT X e t:=h _
noncomputable def PA (X:Cx)(es:List Expr)(t:TA):Prop :=
 ∀ (pos:Pos) (pins:List (Addr × Obj)) (s:Shared) (σ:St) (H:Hp) (Q:List V->Hp->Prop),Inv X pins σ H s->t σ H Q->wpAny (model X.prog X.w) X.A (spliced (backTo pos (starEach es X.env))) (AP X pins σ Q) X.xe s
noncomputable def PS (X:Cx)(st:Stmt)(t:TS):Prop :=
 ∀ (pins:List (Addr × Obj)) (s:Shared) (σ:St) (H:Hp) (D:a0x),Inv X pins σ H s->t D σ H->wpAny (model X.prog X.w) X.A (exec st X.env) (SP X pins D) X.xe s
noncomputable def PSs (X:Cx)(st:List Stmt)(t:TS):Prop :=
 ∀ (pins:List (Addr × Obj)) (s:Shared) (σ:St) (H:Hp) (D:a0x),Inv X pins σ H s->t D σ H->wpAny (model X.prog X.w) X.A (execs st X.env) (SP X pins D) X.xe s
theorem thn {α:Type}{t:Sem α}{Q Q':α->Shared->Prop}{M:Model}{A:Around}{E:Value->Shared->Prop}{s:Shared}(h:wpAny M A t Q E s)(hQ:∀ a s,Q a s->Q' a s):wpAny M A t Q' E s:=wpAny_mono h hQ λ_ _ x=>x
section
variable {X:Cx}
theorem bin {a b:Expr}{ta tb:TE}(ha:PE X a ta)(hb:PE X b tb){pins:List (Addr × Obj)}{s:Shared}{σ:St}{H:Hp}{R:V->V->Hp->Prop}(I:Inv X pins σ H s)(h:ta σ H λx H1=>tb σ H1 λy H2=>R x y H2)
  {α:Type} {Q:α->Shared->Prop} {f:Value->Value->Sem α}
  (hf:∀ v u s2 x y H2,Inv X pins σ H2 s2->u7 x v->u7 y u->R x y H2->wpAny (model X.prog X.w) X.A (f v u) Q X.xe s2) :
  wpAny (model X.prog X.w) X.A (eval a X.env) (λv s₁=>wpAny (model X.prog X.w) X.A (eval b X.env) (λu s₂=>wpAny (model X.prog X.w) X.A (f v u) Q X.xe s₂) X.xe s₁) X.xe s:=by
 refine thn (ha pins s σ H _ I h) λv s1 ⟨x,H1,I1,r1,q1⟩=>?_;refine thn (hb pins s1 σ H1 _ I1 q1) λu s2 ⟨y,H2,I2,r2,q2⟩=>?_;exact hf v u s2 x y H2 I2 r1 r2 q2
noncomputable def b4i (i:Nat):TE:=fun σ H Q=>∃ v,σ[i]? = some (some v)/\Q v H
noncomputable def tC (v:V):TE:=λ_ H Q=>Q v H
theorem c6d {i:Nat} {x:Str} {pos:Pos} (hN:X.N[i]? = some x) (hv:Vis X.env.scope x) (hd:(x == ("__debug__" : Str))=false:=by decide) (hcd:(x == ("__classdict__" : Str))=false:=by decide):PE X (.Name x pos) (b4i i):=by
 intro pins s σ H Q I h;obtain ⟨v,e,h⟩:=h;obtain ⟨m,hn,hl⟩:=I.loc;obtain ⟨u,r,l⟩:=hl i x v hN e hv;have fin:EP X pins σ Q u s:=⟨v,H,I,r,h⟩
 rcases l with ⟨hk,hm⟩ | ⟨hk,c,hc,hcell⟩
 ·exact wpAny_Name (wpAny_loadName_local I.ok.kind hk hn hm fin) hd
 ·rcases hk with hk | hk
  ·exact wpAny_Name (wpAny_loadName_cell I.ok.kind hk hc hcell fin) hd
  ·exact wpAny_Name (wpAny_loadName_free I.ok.kind hk hc hcell fin hcd) hd
theorem b6 {i j pos}:PE X (.Constant (.int i) j pos) (tC (.int i)):=λ_ _ _ H _ I h=>wpAny_Constant_int ⟨.int i,H,I.tok _,⟨_,rfl⟩,h⟩
theorem b6v {b j pos}:PE X (.Constant (.bool b) j pos) (tC (.bl b)):=λ_ _ _ H _ I h=>Constant_bool ⟨.bl b,H,I,rfl,h⟩
theorem Q0 {j pos}:PE X (.Constant .none j pos) (tC .non):=λ_ _ _ H _ I h=>Constant_none ⟨.non,H,I,rfl,h⟩
theorem b8 {x j pos}:PE X (.Constant (.str x) j pos) (tC (.str x)):=λ_ _ _ H _ I h=>Calls.Constant_str ⟨.str x,H,I.tok _,⟨_,rfl⟩,h⟩
noncomputable def Gl (X:Cx)(x:Str):Prop:=X.env.kindOf x=some .globalImplicit
theorem a5x {E:Value->Shared->Prop}{pins:List (Addr × Obj)}{s:Shared}{σ:St}{H:Hp}{x:Str}{u:Value}{pos:Pos}{Q:Value->Shared->Prop}(I:Inv X pins σ H s)(hg:Gl X x)(hm:X.mg x=some u)(h:Q u s)
  (hd:(x == ("__debug__" : Str))=false:=by decide):wpAny (model X.prog X.w) X.A (eval (.Name x pos) X.env) Q E s :=
 Calls.Name_function_global I.ok.kind hg (Calls.loadGlobal_global (by rw [I.ok.glob];exact I.mod.glob.keeps I.bk) hm h) hd
theorem a2J {E:Value->Shared->Prop}{pins:List (Addr × Obj)}{s:Shared}{σ:St}{H:Hp}{x:Str}{u:Value}{pos:Pos}{Q:Value->Shared->Prop}(I:Inv X pins σ H s)(hg:Gl X x)(hm:X.mg x=none)(hv:bootBuiltins x=some u)(h:Q u s)
  (hn:x ≠ "__name__":=by decide) (hd:(x == ("__debug__" : Str))=false:=by decide):wpAny (model X.prog X.w) X.A (eval (.Name x pos) X.env) Q E s:=by
 obtain ⟨mb,h1,h2⟩:=I.mod.blt;exact Calls.Name_function_global I.ok.kind hg (Calls.loadGlobal_builtin (by rw [I.ok.glob];exact I.mod.glob.keeps I.bk) hm (by rw [I.ok.blt];exact h1.keeps I.bk) ((h2 x hn).trans hv) h) hd
theorem Q1 {x:Str} {v:V} {u:Value} {pos:Pos} (hg:Gl X x) (hm:X.mg x=some u) (r:u7 v u) (hd:(x == ("__debug__" : Str))=false:=by decide):PE X (.Name x pos) (tC v) :=
 λ_ _ _ H _ I h=>a5x I hg hm ⟨v,H,I,r,h⟩ hd
theorem a3E {x:Str} {v:V} {u:Value} {pos:Pos} (hg:Gl X x) (hm:X.mg x=none) (hv:bootBuiltins x=some u) (r:u7 v u) (hn:x ≠ "__name__":=by decide) (hd:(x == ("__debug__" : Str))=false:=by decide):PE X (.Name x pos) (tC v) :=
 λ_ _ _ H _ I h=>a2J I hg hm hv ⟨v,H,I,r,h⟩ hn hd
variable {a b:Expr}{ta tb:TE}{pos:Pos}
noncomputable def PC (X:Cx)(op:CmpOp)(a b:Expr)(t:TE):Prop :=
 ∀ (pins:List (Addr × Obj)) (s:Shared) (σ:St) (H:Hp) (Q:VK),Inv X pins σ H s->t σ H Q ->
  wpAny (model X.prog X.w) X.A (eval a X.env) (λv s₁=>wpAny (model X.prog X.w) X.A (eval b X.env) (λu s₂=>wpAny (model X.prog X.w) X.A (compareOp op v u) (EP X pins σ Q) X.xe s₂) X.xe s₁) X.xe s
noncomputable def tB (t:TE):TT:=fun σ H Q=>t σ H λx H1=>∃ c,x = .bl c/\Q c H1
theorem c4n {op:CmpOp}{t:TE}(h:PC X op a b t)(h1:behindInMarks op b=false:=by first | exact nobehind _ .(24) .(24) | rfl):PT X (.Compare a [op] [b] pos) (tB t):=by
 intro pins s σ H Q I hw;refine wpAny_isTrue_Compare1 (thn (h pins s σ H _ I hw) λv s1 h1=>thn h1 λu s2 h2=>thn h2 λc s3 ⟨x,H1,I1,r1,q1⟩=>?_) h1;obtain ⟨d,rfl,q⟩:=q1;cases r1;exact wpAny_truthy_bool ⟨H1,I1,q⟩
theorem C0 {e:Expr}{t:TE}(h:PE X e t)(he:∀ whole,isTrue e X.env whole=(do let v ← whole;standAt e.pos;holding [v] (truthy v)):=by intro _;rfl):PT X e (tB t):=by
 intro pins s σ H Q I hw;refine isTrue_plain (thn (h pins s σ H _ I hw) λv s1 ⟨x,H1,I1,r1,q1⟩=>?_) (he _);obtain ⟨d,rfl,q⟩:=q1;cases r1;exact wpAny_truthy_bool ⟨H1,I1,q⟩
variable {tA tB':TT}{rest:List Expr}
noncomputable def c8m (t u:TT):TT:=fun σ H Q=>t σ H λc H1=>if c=true then u σ H1 Q else Q false H1
noncomputable def tOr (t u:TT):TT:=fun σ H Q=>t σ H λc H1=>if c=true then Q true H1 else u σ H1 Q
noncomputable def c6m (t:TT):TT:=fun σ H Q=>t σ H λc H1=>Q (!c) H1
theorem S0 (ha:PT X a tA):PW X (.BoolOp .And [a] pos) tA:=by
 intro wh pins s σ H Q I h;refine isTrue_and (thn (ha pins s σ H Q I h) λc s1 e=>?_);cases c with
 | true=>exact isTrue_and_nil e
 | false=>exact e
theorem a4B (ha:PT X a tA):PW X (.BoolOp .Or [a] pos) tA:=by
 intro wh pins s σ H Q I h;refine isTrue_or (thn (ha pins s σ H Q I h) λc s1 e=>?_);cases c with
 | false=>exact isTrue_or_nil e
 | true=>exact e
theorem Z9 (ha:PT X a tA)(hb:PW X (.BoolOp .And (b :: rest) pos) tB'):PW X (.BoolOp .And (a :: b :: rest) pos) (c8m tA tB'):=by
 intro wh pins s σ H Q I h;refine isTrue_and (thn (ha pins s σ H _ I h) λc s1 ⟨H1,I1,q1⟩=>?_);cases c with
 | true=>exact hb wh pins s1 σ H1 Q I1 q1
 | false=>exact ⟨H1,I1,q1⟩
theorem a0R (ha:PT X a tA)(hb:PW X (.BoolOp .Or (b :: rest) pos) tB'):PW X (.BoolOp .Or (a :: b :: rest) pos) (tOr tA tB'):=by
 intro wh pins s σ H Q I h;refine isTrue_or (thn (ha pins s σ H _ I h) λc s1 ⟨H1,I1,q1⟩=>?_);cases c with
 | true=>exact ⟨H1,I1,q1⟩
 | false=>exact hb wh pins s1 σ H1 Q I1 q1
theorem L8 (ha:PT X a tA):PT X (.UnaryOp .Not a pos) (c6m tA):=by
 intro pins s σ H Q I h;exact isTrue_not (ha pins s σ H (λc H1=>Q (!c) H1) I h)
noncomputable def c1j (ta tb:TE):TE:=fun σ H Q=>ta σ H λx H1=>∃ c,x = .bl c/\if c=true then tb σ H1 Q else Q (.bl false) H1
noncomputable def c5m (ta tb:TE):TE:=fun σ H Q=>ta σ H λx H1=>∃ c,x = .bl c/\if c=true then Q (.bl true) H1 else tb σ H1 Q
theorem b8H {op}{t:TE}(h:PE X a t):PE X (.BoolOp op [a] pos) t:=λpins s σ H Q I hw=>BoolOp_one (h pins s σ H Q I hw)
theorem c8d (ha:PE X a ta)(hb:PE X (.BoolOp .And (b :: rest) pos) tb):PE X (.BoolOp .And (a :: b :: rest) pos) (c1j ta tb):=by
 intro pins s σ H Q I h;refine BoolOp_and (thn (ha pins s σ H _ I h) λv s1 ⟨x,H1,I1,r1,q1⟩=>?_);obtain ⟨c,rfl,q1⟩:=q1;cases r1;refine wpAny_truthy_bool ?_;cases c with
 | true=>exact hb pins s1 σ H1 Q I1 q1
 | false=>exact ⟨.bl false,H1,I1,rfl,q1⟩
theorem c4k (ha:PE X a ta)(hb:PE X (.BoolOp .Or (b :: rest) pos) tb):PE X (.BoolOp .Or (a :: b :: rest) pos) (c5m ta tb):=by
 intro pins s σ H Q I h;refine BoolOp_or (thn (ha pins s σ H _ I h) λv s1 ⟨x,H1,I1,r1,q1⟩=>?_);obtain ⟨c,rfl,q1⟩:=q1;cases r1;refine wpAny_truthy_bool ?_;cases c with
 | false=>exact hb pins s1 σ H1 Q I1 q1
 | true=>exact ⟨.bl true,H1,I1,rfl,q1⟩
noncomputable def tIf (t:TT)(ta tb:TE):TE:=fun σ H Q=>t σ H λc H1=>if c=true then ta σ H1 Q else tb σ H1 Q
theorem a4R {c:Expr}(hc:PT X c tA)(ha:PE X a ta)(hb:PE X b tb):PE X (.IfExp c a b pos) (tIf tA ta tb):=by
 intro pins s σ H Q I h;refine wpAny_IfExp (thn (hc pins s σ H _ I h) λd s1 ⟨H1,I1,q1⟩=>?_);cases d with
 | true=>exact ha pins s1 σ H1 Q I1 q1
 | false=>exact hb pins s1 σ H1 Q I1 q1
end
noncomputable def c8l:Value->Option V
 | .none=>some .non
 | .bool b=>some (.bl b)
 | .int i _=>some (.int i)
 | .str x _=>some (.str x)
 | .float b _=>some (.flt b)
 | .ref a=>some (.ref a)
 | .type n=>some (.ty n)
 | _=>none
theorem b2j {x:V}{u:Value}(h:c8l u=some x):u7 x u:=by
 cases u <;> cases h <;> first | exact rfl | exact ⟨_,rfl⟩
noncomputable def V8:List V->List Value->Prop:=Paired λx u=>c8l u=some x
theorem V8.vals:∀ {xs:List V} {us:List Value},V8 xs us->o8 xs us
 | _,_,.nil=>.nil
 | _,_,.cons r t=>.cons (b2j r) (V8.vals t)
theorem V8.inj:∀ {xs ys:List V} {us:List Value},V8 xs us->V8 ys us->xs=ys
 | _,_,_,.nil,.nil=>rfl
 | _,_,_,.cons r t,.cons r' t'=>by rw [Option.some.inj (r.symm.trans r'),V8.inj t t']
theorem V8.ints:∀ {ns:List Int} {us:List Value},o8 (ns.map V.int) us->V8 (ns.map V.int) us
 | [],_,.nil=>.nil
 | n :: ns,_,.cons ⟨_,e⟩ t=>.cons (by rw [e];rfl) (V8.ints (ns:=ns) t)
noncomputable def SqL (K:PySem.W.Frag)(H:Hp)(a:Addr)(xs:List V):Prop :=
 Rd H a (.lst xs) \/
  ∃ (o:Obj) (its:Array Value) (n:Nat),K.lookup a=some o/\o.cls = .type "list"/\o.dict=none/\o.data = .seq its n/\its.size <= sizeLine/\V8 xs its.toList
noncomputable def SqT (K:PySem.W.Frag)(H:Hp)(a:Addr)(xs:List V):Prop :=
 Rd H a (.tup xs) \/
  ∃ (o:Obj) (its:Array Value) (n:Nat),K.lookup a=some o/\o.cls = .type "tuple"/\o.data = .seq its n/\its.size <= sizeLine/\V8 xs its.toList
section
variable {X:Cx}{pins:List (Addr × Obj)}{σ:St}{H:Hp}{s:Shared}{a:Addr}{xs ys:List V}
theorem SqL.of {K:PySem.W.Frag}(h:H a=some (.lst xs)):SqL K H a xs:=.inl (.inl h)
theorem SqT.of {K:PySem.W.Frag}(h:H a=some (.tup xs)):SqT K H a xs:=.inl (.inl h)
theorem Inv.list (I:Inv X pins σ H s)(h:SqL X.K H a xs):∃ its:List Value,o8 xs its/\PlainL s.heap a its.toArray /\ xs.length <= sizeLine:=by
 rcases h with h | ⟨o,its,n,hk,hc,hd,hs,hz,r⟩
 ·obtain ⟨z,its,n,r,e⟩:=h.ok I.hok;exact ⟨its,r,⟨_,n,e,rfl,rfl,rfl⟩,z⟩
 ·refine ⟨its.toList,r.vals,⟨o,n,I.kIn a o hk,hc,hd,by simpa using hs⟩,?_⟩;have e:=r.vals.length;simp only [Array.length_toList] at e
  omega
theorem Inv.tuple (I:Inv X pins σ H s)(h:SqT X.K H a xs):∃ its:List Value,o8 xs its/\IsTup s.heap a its.toArray /\ xs.length <= sizeLine:=by
 rcases h with h | ⟨o,its,n,hk,hc,hs,hz,r⟩
 ·obtain ⟨z,its,r,p⟩:=h.ok I.hok;exact ⟨its,r,p,z⟩
 ·refine ⟨its.toList,r.vals,⟨o,I.kIn a o hk,hc,n,by simpa using hs⟩,?_⟩;have e:=r.vals.length;simp only [Array.length_toList] at e
  omega
theorem Rd.one {H:Hp}{a:Addr}{o u:HO}(ho:∀ x y,o≠.frz x y)(hu:∀ x y,u≠.frz x y)(h:Rd H a o)(h':Rd H a u):o=u:=by
 rcases h with h | ⟨ob,h⟩ <;> rcases h' with h' | ⟨ob',h'⟩ <;> rw [h] at h' <;> cases h'
 ·rfl
 ·exact absurd rfl (ho _ _)
 ·exact absurd rfl (hu _ _)
 ·rfl
theorem Rd.some {H:Hp}{a:Addr}{o:HO}(h:Rd H a o)(n:H a=none):False:=by
 rcases h with h | ⟨ob,h⟩ <;> rw [n] at h <;> cases h
theorem Inv.knone (I:Inv X pins σ H s){o:Obj}(hk:X.K.lookup a=some o):H a=none:=(I.bs a o (I.ok.mod.kin a o hk)).2
theorem Inv.list_inj (I:Inv X pins σ H s)(h:SqL X.K H a xs)(h':SqL X.K H a ys):xs=ys:=by
 rcases h with h | ⟨o,its,n,hk,_,_,d,_,r⟩ <;> rcases h' with h' | ⟨o',its',n',hk',_,_,d',_,r'⟩
 ·exact HO.lst.inj (Rd.one (λ_ _ z=>by cases z) (λ_ _ z=>by cases z) h h')
 ·exact (h.some (I.knone hk')).elim
 ·exact (h'.some (I.knone hk)).elim
 ·rw [hk] at hk';cases hk';rw [d] at d'
  injection d' with d1 _
  subst d1;exact r.inj r'
theorem Inv.tuple_inj (I:Inv X pins σ H s)(h:SqT X.K H a xs)(h':SqT X.K H a ys):xs=ys:=by
 rcases h with h | ⟨o,its,n,hk,_,d,_,r⟩ <;> rcases h' with h' | ⟨o',its',n',hk',_,d',_,r'⟩
 ·exact HO.tup.inj (Rd.one (λ_ _ z=>by cases z) (λ_ _ z=>by cases z) h h')
 ·exact (h.some (I.knone hk')).elim
 ·exact (h'.some (I.knone hk)).elim
 ·rw [hk] at hk';cases hk';rw [d] at d'
  injection d' with d1 _
  subst d1;exact r.inj r'
end
noncomputable abbrev Cx.wish (X:Cx)(E:Value->Shared->Prop):Cx:={ X with xe:=E }
noncomputable abbrev Cx.nox (X:Cx):Cx:=X.wish λ_ _=>False
theorem Cx.Ok.wish {X:Cx}(ok:X.Ok)(E:Value->Shared->Prop):(X.wish E).Ok :=
 ⟨ok.mod,ok.kind,ok.glob,ok.blt,ok.above,ok.inj,ok.has,ok.cab,ok.hd,ok.frames,ok.stk,ok.exf,ok.bs,ok.bsz,ok.noex,ok.exfs,ok.funs,ok.frf⟩
theorem Cx.Ok.unwish {X:Cx}{E:Value->Shared->Prop}(ok:(X.wish E).Ok):X.Ok :=
 ⟨ok.mod,ok.kind,ok.glob,ok.blt,ok.above,ok.inj,ok.has,ok.cab,ok.hd,ok.frames,ok.stk,ok.exf,ok.bs,ok.bsz,ok.noex,ok.exfs,ok.funs,ok.frf⟩
section
variable {X:Cx}{pins:List (Addr × Obj)}{σ:St}{H:Hp}{s:Shared}{E:Value->Shared->Prop}
theorem Inv.wish (I:Inv X pins σ H s)(E:Value->Shared->Prop):Inv (X.wish E) pins σ H s:=⟨I.ok.wish E,I.os,I.bare,I.base,I.loc,I.cell,I.free,I.freeC,I.pin,I.hok,I.len⟩
theorem Inv.unwish (I:Inv (X.wish E) pins σ H s):Inv X pins σ H s:=⟨I.ok.unwish,I.os,I.bare,I.base,I.loc,I.cell,I.free,I.freeC,I.pin,I.hok,I.len⟩
theorem SP.unwish {D:a0x}{f:Flow}{s':Shared}(h:SP (X.wish E) pins D f s'):SP X pins D f s':=by
 cases f with
 | next=>obtain ⟨σ',H',I,q⟩:=h;exact ⟨σ',H',I.unwish,q⟩
 | brk=>obtain ⟨σ',H',I,q⟩:=h;exact ⟨σ',H',I.unwish,q⟩
 | cont=>obtain ⟨σ',H',I,q⟩:=h;exact ⟨σ',H',I.unwish,q⟩
 | ret u=>obtain ⟨v,σ',H',I,r,q⟩:=h;exact ⟨v,σ',H',I.unwish,r,q⟩
theorem PT.nox {e:Expr}{t:TT}(h:PT X.nox e t):PT X e t:=λpins s σ H Q I hw =>
 wpAny_mono (h pins s σ H Q (I.wish _) hw) (λ_ _ ⟨H',I',q⟩=>⟨H',I'.unwish,q⟩) λ_ _ z=>False.elim z
theorem PSs.nox {st:List Stmt}{t:TS}(h:PSs X.nox st t):PSs X st t:=λpins s σ H D I hw =>
 wpAny_mono (h pins s σ H D (I.wish _) hw) (λ_ _ q=>q.unwish) λ_ _ z=>False.elim z
end
section
variable {X:Cx}{st:Stmt}{rest:List Stmt}{t u:TS}{e:Expr}{te:TE}{pos:Pos}
noncomputable def W9:TS:=λD σ H=>D.nx σ H
noncomputable def a4t (t u:TS):TS:=λD σ H=>t { D with nx:=u D } σ H
theorem i7:PSs X [] W9:=λ_ _ σ H _ I h=>wpAny_execs_nil ⟨σ,H,I,h⟩
theorem a9 (h1:PS X st t)(h2:PSs X rest u):PSs X (st :: rest) (a4t t u):=by
 intro pins s σ H D I h;refine wpAny_execs_cons (thn (h1 pins s σ H { D with nx:=u D } I h) λf s1 q=>?_);cases f with
 | next =>
  obtain ⟨σ',H',I',q⟩:=q;exact h2 pins s1 σ' H' D I' q
 | ret v=>exact q
 | brk=>exact q
 | cont=>exact q
theorem b9 (h1:PS X st t):PSs X [st] t:=by
 intro pins s σ H D I h;refine wpAny_execs_cons (thn (h1 pins s σ H D I h) λf s1 q=>?_);cases f with
 | next=>exact wpAny_execs_nil q
 | ret v=>exact q
 | brk=>exact q
 | cont=>exact q
theorem Inv.quiet {pins:List (Addr × Obj)}{σ:St}{H:Hp}{s:Shared}(I:Inv X pins σ H s):interactive X.env=false:=by simp [interactive,I.ok.kind]
noncomputable def c0j (te:TE):TS:=λD σ H=>te σ H λ_ H1=>D.nx σ H1
theorem C9 (he:PE X e te)(hs:swapsWith e none pos.line X.env=pure false:=by rfl):PS X (.Expr e pos) (c0j te):=by
 intro pins s σ H D I h;exact wpAny_Expr_any (thn (he pins s σ H _ I h) λv s1 ⟨x,H1,I1,r1,q1⟩=>⟨σ,H1,I1,q1⟩) I.quiet hs
noncomputable def b3P (te:TE):TS:=λD σ H=>te σ H D.rt
theorem d5 (he:PE X e te):PS X (.Return (some e) pos) (b3P te):=by
 intro pins s σ H D I h;exact wpAny_Return_some (thn (he pins s σ H _ I h) λv s1 ⟨x,H1,I1,r1,q1⟩=>⟨x,σ,H1,I1,r1,q1⟩)
noncomputable def c8i (c:TT)(t u:TS):TS:=λD σ H=>c σ H λb H1=>if b=true then t D σ H1 else u D σ H1
theorem o4 {c:Expr}{a b:List Stmt}{tc:TT}(hc:PT X c tc)(ha:PSs X a t)(hb:PSs X b u):PS X (.If c a b pos) (c8i tc t u):=by
 intro pins s σ H D I h;refine wpAny_If (thn (hc pins s σ H _ I h) λd s1 ⟨H1,I1,q1⟩=>?_);cases d with
 | true=>exact ha pins s1 σ H1 D I1 q1
 | false=>exact hb pins s1 σ H1 D I1 q1
noncomputable def c8a:TS:=λ_ _ _=>False
theorem b4H:PS X st c8a:=λ_ _ _ _ _ _ h=>h.elim
end
noncomputable abbrev TG:=V->St->Hp->(St->Hp->Prop)->Prop
noncomputable abbrev TGs:=List V->St->Hp->(St->Hp->Prop)->Prop
noncomputable def PG (X:Cx)(target:Expr)(t:TG):Prop :=
 ∀ (pins:List (Addr × Obj)) (s:Shared) (σ:St) (H:Hp) (v:V) (u:Value) (Q:St->Hp->Prop),Inv X pins σ H s->u7 v u->t v σ H Q ->
  wpAny (model X.prog X.w) X.A (assign target X.env u) (λ_ s'=>∃ σ' H',Inv X pins σ' H' s'/\Q σ' H') X.xe s
noncomputable def PGs (X:Cx)(ts:List Expr)(t:TGs):Prop :=
 ∀ (pins:List (Addr × Obj)) (s:Shared) (σ:St) (H:Hp) (vs:List V) (us:List Value) (Q:St->Hp->Prop),Inv X pins σ H s->o8 vs us->t vs σ H Q ->
  wpAny (model X.prog X.w) X.A (assignInOrder ((assignEach ts X.env).map (·.2)) us) (λ_ s'=>∃ σ' H',Inv X pins σ' H' s'/\Q σ' H') X.xe s
noncomputable abbrev c1h:=V->V->V->Hp->(Hp->Prop)->Prop
noncomputable def c0m (X:Cx)(t:c1h):Prop :=
 ∀ (pins:List (Addr × Obj)) (s:Shared) (σ:St) (H:Hp) (o i v:V) (ov iv u:Value) (Q:Hp->Prop),Inv X pins σ H s->u7 o ov->u7 i iv->u7 v u->t o i v H Q ->
  wpAny (model X.prog X.w) X.A (setItem ov iv u) (λ_ s'=>∃ H',Inv X pins σ H' s'/\Q H') X.xe s
section
variable {X:Cx}{pos:Pos}
noncomputable def q0 (i:Nat):TG:=λv σ H Q=>Q (σ.set i (some v)) H
theorem m9 {i:Nat}{x:Str}(hN:X.N.Nodup)(hi:X.N[i]? = some x)(hx:Loc X.env.scope x)(hf:X.fn x=true \/ X.env.scope.names.lookup x=some .local:=by first | exact .inl rfl | exact .inr rfl | assumption):PG X (.Name x pos) (q0 i):=by
 intro pins s σ H v u Q I r h;exact wpAny_assign_Name (a1Q I hN hi hx r (λs' I'=>⟨_,H,I',h⟩) hf)
noncomputable def c0o:TGs:=λvs σ H Q=>vs=[]/\Q σ H
noncomputable def c4l (t:TG)(u:TGs):TGs:=λvs σ H Q=>∃ v r,vs=v :: r/\t v σ H fun σ' H'=>u r σ' H' Q
theorem P9:PGs X [] c0o:=by
 intro pins s σ H vs us Q I r h;obtain ⟨e,h⟩:=h;subst e;cases r;exact assignInOrder_nil ⟨σ,H,I,h⟩
theorem o6 {e:Expr}{es:List Expr}{t:TG}{u:TGs}(h1:PG X e t)(h2:PGs X es u)
  (hs:(assignEach (e :: es) X.env).map (·.2)=assign e X.env :: (assignEach es X.env).map (·.2):=by rfl):PGs X (e :: es) (c4l t u):=by
 intro pins s σ H vs us Q I r h;obtain ⟨v,vr,e1,h⟩:=h;subst e1;cases r with
 | cons r rr =>
  rw [hs];refine assignInOrder_cons (thn (h1 pins s σ H _ _ _ I r h) λ_ s1 ⟨σ1,H1,I1,q1⟩=>?_);exact h2 pins s1 σ1 H1 _ _ Q I1 rr q1
noncomputable def c3l (K:PySem.W.Frag)(n:Nat)(t:TGs):TG:=λv σ H Q=>∃ a xs,v = .ref a/\SqT K H a xs/\xs.length=n/\t xs σ H Q
theorem c5d {es:List Expr}{k:Nat}{t:TGs}{n:Nat}(hc:X.calm=true)(h:PGs X es t)
  (hn:(assignEach es X.env).length=n:=by rfl) (hst:(assignEach es X.env).findIdx? (·.1)=none:=by rfl):PG X (.Tuple es k pos) (c3l X.K n t):=by
 intro pins s σ H v u Q I r hw;obtain ⟨a,xs,e1,hq,hl,hw⟩:=hw;subst e1;cases r;obtain ⟨its,rv,ht,hz⟩:=I.tuple hq;refine assign_Tuple_tuple (I.ok.hd hc) ht (by simp [hn,← hl,rv.length]) hst λh' hx=>?_;have I1:Inv X pins σ H { s with heap:=h' }:=I.kept (t':=s.toks) λb o e=>hx b o (Nat.ne_of_lt (Heap.lt_size e)) e;exact h pins _ σ H xs _ Q I1 (by simpa using rv) hw
noncomputable def c9n (to ti:TE)(t:c1h):TG:=λv σ H Q=>to σ H λo H1=>ti σ H1 λi H2=>t o i v H2 λH3=>Q σ H3
theorem b1d {o i:Expr}{to ti:TE}{t:c1h}(ho:PE X o to)(hi:PE X i ti)(hs:c0m X t)
  (ha:∀ v,assign (.Subscript o i pos) X.env v=(do
   let ov ← holding [v] (eval o X.env)
   let iv ← holding [v,ov] (eval i X.env)
   standAt pos
   holding [v,ov,iv] (setItem ov iv v)
   release [v,ov,iv] []):=by intro _;rfl):PG X (.Subscript o i pos) (c9n to ti t):=by
 intro pins s σ H v u Q I r h;rw [ha];refine wpAny_bind (wpAny_holding (thn (ho pins s σ H _ I h) λov s1 ⟨x,H1,I1,r1,q1⟩=>?_));refine wpAny_bind (wpAny_holding (thn (hi pins s1 σ H1 _ I1 q1) λiv s2 ⟨y,H2,I2,r2,q2⟩=>?_));refine wpAny_bind (wpAny_standAt (wpAny_bind (wpAny_holding (thn (hs pins s2 σ H2 x y v ov iv u _ I2 r1 r2 r q2) λ_ s3 ⟨H3,I3,q3⟩=>?_))));exact wpAny_release ⟨σ,H3,I3,q3⟩
noncomputable def b8o (te:TE)(g:TG):TS:=λD σ H=>te σ H λx H1=>g x σ H1 D.nx
theorem P7 {tg e:Expr}{te:TE}{g:TG}(he:PE X e te)(hg:PG X tg g)(hs:swapsWithSole [tg] e pos.line X.env=pure false:=by rfl)(hw:swappedStores [tg] e X.env=pure none:=by rfl)
  (h1:(assignEach [tg] X.env).map (·.2)=[assign tg X.env]:=by rfl):PS X (.Assign [tg] e pos) (b8o te g):=by
 intro pins s σ H D I h;refine wpAny_Assign_stores (thn (he pins s σ H _ I h) λv s1 ⟨x,H1,I1,r1,q1⟩=>?_) hs hw;rw [h1];exact thn (hg pins s1 σ H1 x v _ I1 r1 q1) λ_ s2 q=>q
theorem f9 {i:Nat}{x:Str}{e:Expr}{te:TE}{pos':Pos}(hN:X.N.Nodup)(hi:X.N[i]? = some x)(hx:Loc X.env.scope x)(he:PE X e te)(hs:swapsWith e (some (.Name x pos')) pos.line X.env=pure false:=by rfl)(hf:X.fn x=true \/ X.env.scope.names.lookup x=some .local:=by first | exact .inl rfl | exact .inr rfl | assumption) :
  PS X (.Assign [.Name x pos'] e pos) (b8o te (q0 i)):=by
 intro pins s σ H D I h;refine wpAny_Assign_Name (thn (he pins s σ H _ I h) λv s1 ⟨y,H1,I1,r1,q1⟩=>?_) hs;exact a1Q I1 hN hi hx r1 (λs2 I2=>⟨_,H1,I2,q1⟩) hf
end
structure It where
 go:Nat->Hp->Prop
 yld:Nat->Hp->V->Hp->Prop
 stop:Nat->Hp->Prop
noncomputable def a9W (X:Cx)(pins:List (Addr × Obj))(H:Hp)(b:Addr):Prop :=
 H b=none/\b≠X.env.locals /\ b ∉ X.fs /\ (b∈X.ex \/ X.sZ.heap.objs.size <= b)/\(∀ x c,X.env.cells.lookup x=some c->c≠b)/\∀ p∈X.pn ++ pins,p.1 ≠ b
theorem Inv.fpOk {X:Cx}{pins:List (Addr × Obj)}{σ:St}{H H':Hp}{s:Shared}{b:Addr}(I:Inv X pins σ H s)(hb:s.heap.objs.size <= b)(hn:H' b=none):a9W X pins H' b:=by
 refine ⟨hn,Nat.ne_of_gt (Nat.lt_of_lt_of_le I.lt hb),I.nofs hb,.inr (Nat.le_trans I.sz hb),λx c e z=>?_,λp hp z=>?_⟩
 ·obtain ⟨v,q⟩:=I.cell x c e;exact absurd (Nat.lt_of_lt_of_le q.lt (by rw [z];exact hb)) (Nat.lt_irrefl _)
 ·exact absurd (Nat.lt_of_lt_of_le (Heap.lt_size (I.pin p hp).1) (by rw [z];exact hb)) (Nat.lt_irrefl _)
structure b9D (P:Program)(w:World)(K:PySem.W.Frag)(tg:Expr)(J:It)(fp:List Addr)(it:Addr)(tn:Nat->Heap->Prop):Prop where
 mem:it∈fp
 obj:∀ i h,tn i h->∀ b∈fp,∃ o,h.get? b=some o/\∀ v,o.data ≠ .cell v
 keep:∀ i h h',tn i h->(∀ b∈fp,∀ o,h.get? b=some o->h'.get? b=some o)->tn i h'
 item:∀ (X:Cx),X.prog=P->X.w=w->X.K=K->X.calm=true->∀ (i:Nat) (pins:List (Addr × Obj)) (s:Shared) (σ:St) (H:Hp) (E:Value->Shared->Prop),Inv X pins σ H s->(∀ b∈fp,a9W X pins H b)->tn i s.heap -> J.go i H ->
  wpAny (model P w) X.A (pyNext (.ref it)) (λr s1=>∃ u,r=some u /\
   wpAny (model P w) X.A (letOwnedTupleGo tg (.ref it) u) (λ_ s2=>∃ x H',Inv X pins σ H' s2/\u7 x u/\J.yld i H x H'/\tn (i + 1) s2.heap /\ ∀ b∈fp,H' b=none) E s1) E s
 done:∀ (X:Cx),X.prog=P->X.w=w->X.K=K->X.calm=true->∀ (i:Nat) (pins:List (Addr × Obj)) (s:Shared) (σ:St) (H:Hp) (E:Value->Shared->Prop),Inv X pins σ H s->(∀ b∈fp,a9W X pins H b)->tn i s.heap -> J.stop i H ->
  wpAny (model P w) X.A (pyNext (.ref it)) (λr s1=>r=none/\Inv X pins σ H s1) E s
 self:∀ (A:Around) (i:Nat) (s:Shared) (Q:Value->Shared->Prop) (E:Value->Shared->Prop),tn i s.heap -> Q (.ref it) s->wpAny (model P w) A (pyIter (.ref it)) Q E s
noncomputable abbrev TI:=St->Hp->(It->Hp->Prop)->Prop
noncomputable def PIE (X:Cx)(pins:List (Addr × Obj))(σ:St)(tg:Expr)(R:It->Hp->Prop)(itv:Value)(s2:Shared):Prop :=
 ∃ (it:Addr) (fp:List Addr) (tn:Nat->Heap->Prop) (J:It) (H':Hp),itv = .ref it/\Inv X pins σ H' s2/\b9D X.prog X.w X.K tg J fp it tn/\tn 0 s2.heap /\ (∀ b∈fp,a9W X pins H' b)/\R J H'
noncomputable def PI (X:Cx)(tg iter:Expr)(wi:TI):Prop :=
 ∀ (pins:List (Addr × Obj)) (s:Shared) (σ:St) (H:Hp) (R:It->Hp->Prop),Inv X pins σ H s->wi σ H R ->
  wpAny (model X.prog X.w) X.A (eval iter X.env) (λv s1=>wpAny (model X.prog X.w) X.A (pyIter v) (PIE X pins σ tg R) X.xe s1) X.xe s
theorem b3x {M:Model}{A:Around}{E:Value->Shared->Prop}{s:Shared}{tg:Expr}{it:Addr}{u:Value}{o:Obj}{n:String}{vs:Array Value}{Q:Unit->Shared->Prop}(ho:s.heap.get? it=some o)(hc:o.cls = .type n)(hd:o.data = .fields vs)
    (hn:["enumerate","zip","dict_itemiterator","dict_reverseitemiterator","odict_iterator","itertools.zip_longest","itertools.pairwise"].contains n=false) (hQ:Q () s):wpAny M A (letOwnedTupleGo tg (.ref it) u) Q E s:=by
  unfold letOwnedTupleGo;cases tg <;> first
    | exact wpAny_pure hQ
    | (cases u <;> first
        | exact wpAny_pure hQ
        | (refine wpAny_bind (wpAny_load ho ?_)
           rw [hc,hd]
           show wpAny M A (if (["enumerate","zip","dict_itemiterator","dict_reverseitemiterator","odict_iterator","itertools.zip_longest","itertools.pairwise"].contains n && vs[0]? == some (rawInt _))=true then _ else _) Q E s
           rw [if_neg (by intro h;rw [hn,Bool.false_and] at h;cases h)];exact wpAny_pure hQ))
noncomputable def Itl (K:PySem.W.Frag)(a:Addr):It :=
 ⟨λi H=>∃ xs x,SqL K H a xs/\xs[i]? = some x,λi H x H'=>H'=H/\∀ xs,SqL K H a xs->xs[i]? = some x,λi H=>∃ xs,SqL K H a xs/\xs.length <= i⟩
noncomputable def Itt (K:PySem.W.Frag)(a:Addr):It :=
 ⟨λi H=>∃ xs x,SqT K H a xs/\xs[i]? = some x,λi H x H'=>H'=H/\∀ xs,SqT K H a xs->xs[i]? = some x,λi H=>∃ xs,SqT K H a xs/\xs.length <= i⟩
noncomputable def Itr (lo:Int)(n:Nat):It:=⟨λi _=>i < n,λi H x H'=>H'=H/\x = .int (lo + i),λi _=>n<=i⟩
theorem b7z {P:Program}{w:World}{K:PySem.W.Frag}{tg:Expr}(a it:Addr):b9D P w K tg (Itl K a) [it] it (λi h=>h.IsListIter it a i) where
 mem:=by simp
 obj:=λi h st b hb=>by
  have e:b=it:=by simpa using hb
  subst e;obtain ⟨o,e,c,d⟩:=st;exact ⟨o,e,λv z=>by rw [d] at z;cases z⟩
 keep:=λi h h' st k=>st.at λo e=>k it .(26) o e
 item:=by
  intro X hP hw hK hc i pins s σ H E I hf st hg;subst hP hw hK;obtain ⟨xs,x,hq,hx⟩:=hg;obtain ⟨its,rv,p,hz⟩:=I.list hq;obtain ⟨u,hu,ru⟩:=rv.get hx;obtain ⟨f0,f1,f2,f3,f4,f5⟩:=hf it .(26);refine wpAny_pyNext_list_item st p.isList (x:=u) (by simpa using hu) λh' st' sb=>?_;have I1:Inv X pins σ H { s with heap:=h' }:=I.turned (t':=s.toks) (λb o hb e=>(sb.2 b hb).trans e) f0 f1 f3 f4 f5;obtain ⟨o,e,c,d⟩:=id st';exact ⟨u,rfl,b3x (s:={ s with heap:=h' }) e c d .(24) ⟨x,H,I1,ru,⟨rfl,λys hy=>by rw [I.list_inj hy hq];exact hx⟩,st',λb hb=>(hf b hb).1⟩⟩
 done:=by
  intro X hP hw hK hc i pins s σ H E I hf st hg;subst hP hw hK;obtain ⟨xs,hq,hx⟩:=hg;obtain ⟨its,rv,p,hz⟩:=I.list hq;obtain ⟨f0,f1,f2,f3,f4,f5⟩:=hf it .(26);have hl:=rv.length;exact wpAny_pyNext_list_end (I.ok.hd hc) st p.isList (by simp;omega) λh' eb=>⟨rfl,I.turned (t':=s.toks) (λb o hb e=>eb b o hb e) f0 f1 f3 f4 f5⟩
 self:=λ_ _ _ _ _ st h=>wpAny_pyIter_listiter st h
theorem b5o {P:Program}{w:World}{K:PySem.W.Frag}{tg:Expr}(a it:Addr):b9D P w K tg (Itt K a) [it] it (λi h=>h.IsTupleIter it a i) where
 mem:=by simp
 obj:=λi h st b hb=>by
  have e:b=it:=by simpa using hb
  subst e;obtain ⟨o,e,c,d⟩:=st;exact ⟨o,e,λv z=>by rw [d] at z;cases z⟩
 keep:=λi h h' st k=>st.at λo e=>k it .(26) o e
 item:=by
  intro X hP hw hK hc i pins s σ H E I hf st hg;subst hP hw hK;obtain ⟨xs,x,hq,hx⟩:=hg;obtain ⟨its,rv,p,hz⟩:=I.tuple hq;obtain ⟨u,hu,ru⟩:=rv.get hx;obtain ⟨f0,f1,f2,f3,f4,f5⟩:=hf it .(26);refine wpAny_pyNext_tuple_item st (show s.heap.IsTuple a its.toArray from p) (x:=u) (by simpa using hu) λh' st' sb=>?_;have I1:Inv X pins σ H { s with heap:=h' }:=I.turned (t':=s.toks) (λb o hb e=>(sb.2 b hb).trans e) f0 f1 f3 f4 f5;obtain ⟨o,e,c,d⟩:=id st';exact ⟨u,rfl,b3x (s:={ s with heap:=h' }) e c d .(24) ⟨x,H,I1,ru,⟨rfl,λys hy=>by rw [I.tuple_inj hy hq];exact hx⟩,st',λb hb=>(hf b hb).1⟩⟩
 done:=by
  intro X hP hw hK hc i pins s σ H E I hf st hg;subst hP hw hK;obtain ⟨xs,hq,hx⟩:=hg;obtain ⟨its,rv,p,hz⟩:=I.tuple hq;obtain ⟨f0,f1,f2,f3,f4,f5⟩:=hf it .(26);have hl:=rv.length;exact wpAny_pyNext_tuple_end (I.ok.hd hc) st (show s.heap.IsTuple a its.toArray from p) (by simp;omega) λh' eb=>⟨rfl,I.turned (t':=s.toks) (λb o hb e=>eb b o hb e) f0 f1 f3 f4 f5⟩
 self:=λ_ _ _ _ _ st h=>wpAny_pyIter_tupleiter st h
theorem b6o {P:Program}{w:World}{K:PySem.W.Frag}{tg:Expr}(it:Addr)(lo:Int)(n:Nat):b9D P w K tg (Itr lo n) [it] it (λi h=>IsRangeIter h it (lo + (i:Nat) * 1) ((n:Int) - (i:Nat)) 1) where
 mem:=by simp
 obj:=λi h st b hb=>by
  have e:b=it:=by simpa using hb
  subst e;exact ⟨_,st,λv z=>by
   have z':Data.fields _=Data.cell v:=z;cases z'⟩
 keep:=λi h h' st k=>k it .(26) _ st
 item:=by
  intro X hP hw hK hc i pins s σ H E I hf st hg;subst hP hw hK;obtain ⟨f0,f1,f2,f3,f4,f5⟩:=hf it .(26);have W:=Walks.range (prog:=X.prog) (w:=X.w) (I.ok.hd hc) it lo 1 n;refine W.item i s _ _ hg st λv h' tk hv st' kk=>?_;obtain ⟨t,rfl⟩:=hv;have I1:Inv X pins σ H { s with heap:=h',toks:=tk }:=I.turned (λb o hb e=>kk b o (by simpa using hb) e) f0 f1 f3 f4 f5;refine ⟨_,rfl,b3x (s:={ s with heap:=h',toks:=tk }) (n := "range_iterator") st' rfl rfl .(24) ⟨.int (lo + i),H,I1,⟨t,?_⟩,⟨rfl,rfl⟩,st',λb hb=>(hf b hb).1⟩⟩;rw [Int.mul_one]
 done:=by
  intro X hP hw hK hc i pins s σ H E I hf st hg;subst hP hw hK;obtain ⟨f0,f1,f2,f3,f4,f5⟩:=hf it .(26);exact wpAny_pyNext_range_end (I.ok.hd hc) st (by have:n<=i:=hg;omega) λh' eb=>⟨rfl,I.turned (t':=s.toks) (λb o hb e=>eb b o hb e) f0 f1 f3 f4 f5⟩
 self:=λ_ _ _ _ _ st h=>wpAny_pyIter_rangeiter st h
section
variable {X:Cx}{tg:Expr}
noncomputable def b9k (K:PySem.W.Frag)(tl:TE):TI:=fun σ H R=>tl σ H λx H1=>∃ a,x = .ref a/\(∃ xs,SqL K H1 a xs)/\R (Itl K a) H1
noncomputable def b6J (K:PySem.W.Frag)(tl:TE):TI:=fun σ H R=>tl σ H λx H1=>∃ a,x = .ref a/\(∃ xs,SqT K H1 a xs)/\R (Itt K a) H1
theorem b3U {l:Expr}{tl:TE}(hl:PE X l tl):PI X tg l (b9k X.K tl):=by
 intro pins s σ H R I h;refine thn (hl pins s σ H _ I h) λv s1 ⟨x,H1,I1,r1,q1⟩=>?_;obtain ⟨a,e,⟨xs,hq⟩,q⟩:=q1;subst e;cases r1;obtain ⟨its,rv,p,hz⟩:=I1.list hq;refine wpAny_pyIter_list p.isList ?_;refine ⟨s1.heap.objs.size,[s1.heap.objs.size],_,_,H1,rfl,I1.kept (t':=s1.toks) λb o e=>Heap.get?_push_of_some _ e,b7z a _,⟨_,Heap.get?_push_size _ rfl,rfl,rfl⟩,λb hb=>?_,q⟩;have e:b=s1.heap.objs.size:=by simpa using hb
 subst e;exact I1.fpOk (Nat.le_refl _) (I1.hok.fresh (Nat.le_refl _))
theorem c2d {l:Expr}{tl:TE}(hl:PE X l tl):PI X tg l (b6J X.K tl):=by
 intro pins s σ H R I h;refine thn (hl pins s σ H _ I h) λv s1 ⟨x,H1,I1,r1,q1⟩=>?_;obtain ⟨a,e,⟨xs,hq⟩,q⟩:=q1;subst e;cases r1;obtain ⟨its,rv,p,hz⟩:=I1.tuple hq;refine wpAny_pyIter_tuple (show s1.heap.IsTuple a its.toArray from p) ?_;refine ⟨s1.heap.objs.size,[s1.heap.objs.size],_,_,H1,rfl,I1.kept (t':=s1.toks) λb o e=>Heap.get?_push_of_some _ e,b5o a _,⟨_,Heap.get?_push_size _ rfl,rfl,rfl⟩,λb hb=>?_,q⟩;have e:b=s1.heap.objs.size:=by simpa using hb
 subst e;exact I1.fpOk (Nat.le_refl _) (I1.hok.fresh (Nat.le_refl _))
theorem b4j {pins:List (Addr × Obj)}{σ:St}{H:Hp}{s:Shared}{R:It->Hp->Prop}{E:Value->Shared->Prop}{lo hi:Int}{t u v:Tok}{tk:Nat}(I:Inv X pins σ H s)(h1:-(2 ^ 62)<=lo)(h2:lo < 2 ^ 62)(h3:-(2 ^ 62)<=hi)(h4:hi < 2 ^ 62)
  (q:R (Itr lo (hi - lo).toNat) H):wpAny (model X.prog X.w) X.A (pyIter (.ref s.heap.objs.size)) (PIE X pins σ tg R) E { s with heap:=s.heap.push { cls:=.type "range",data:=.fields #[.int lo t,.int hi u,.int 1 v] },toks:=tk }:=by
 refine wpAny_pyIter_range (IsRange.new ..) (small_one h1 h2 h3 h4) ?_;have I1:Inv X pins σ H { s with heap:=s.heap.push { cls:=.type "range",data:=.fields #[.int lo t,.int hi u,.int 1 v] },toks:=tk }:=I.kept λb o e=>Heap.get?_push_of_some _ e;refine ⟨(s.heap.push { cls:=.type "range",data:=.fields #[.int lo t,.int hi u,.int 1 v] }).objs.size,[(s.heap.push { cls:=.type "range",data:=.fields #[.int lo t,.int hi u,.int 1 v] }).objs.size],_,_,H,rfl,
  I1.kept (t':=tk) λb o e=>Heap.get?_push_of_some _ e,b6o _ lo (hi - lo).toNat,?_,λb hb=>?_,q⟩
 ·have e1:lo + ((0:Nat):Int) * 1=lo:=by simp
  have e2:(((hi - lo).toNat:Nat):Int) - ((0:Nat):Int)=Builtin.Range.rangeSize lo hi 1:=by rw [rangeSize_one];split <;> omega
  show IsRangeIter _ _ (lo + ((0:Nat):Int) * 1) ((((hi - lo).toNat:Nat):Int) - ((0:Nat):Int)) 1
  rw [e1,e2];exact Heap.get?_push_size _ rfl
 ·have e:b=(s.heap.push { cls:=.type "range",data:=.fields #[.int lo t,.int hi u,.int 1 v] }).objs.size:=by simpa using hb
  subst e;exact I1.fpOk (Nat.le_refl _) (I1.hok.fresh (Nat.le_refl _))
noncomputable def c1l (ta:TA):TI:=fun σ H R=>ta σ H λvs H1=>∃ j:Int,vs=[.int j]/\-(2 ^ 62)<=j/\j < 2 ^ 62/\R (Itr 0 j.toNat) H1
noncomputable def c0l (ta:TA):TI:=fun σ H R=>ta σ H λvs H1=>∃ i j:Int,vs=[.int i,.int j]/\(-(2 ^ 62)<=i/\i < 2 ^ 62/\-(2 ^ 62)<=j/\j < 2 ^ 62)/\R (Itr i (j - i).toNat) H1
theorem O7 {a:Expr} {ta:TA} {p pos:Pos} (hg:Gl X "range") (hm:X.mg "range" = none) (ha:PA X [a] ta) (hs:starEach [a] X.env=[(false,eval a X.env)]:=by rfl):PI X tg (.Call (.Name "range" p) [a] [] pos) (c1l ta):=by
 intro pins s σ H R I h;refine Call_ (a2J I hg hm boot_range (PyProof.Rows.callWith_type1 (thn (ha pos pins s σ H _ I h) λus s1 ⟨vs,H1,I1,r1,q1⟩=>?_) hs rfl));obtain ⟨j,e,q1,q2,q⟩:=q1;subst e;cases r1 with
 | cons r rr =>
  cases rr;obtain ⟨t,rfl⟩:=r;exact call_range_1 (b4j I1 .(25) .(25) q1 q2 (by simpa using q))
theorem a0Y {a b:Expr} {ta:TA} {p pos:Pos} (hg:Gl X "range") (hm:X.mg "range" = none) (ha:PA X [a,b] ta) (hs:starEach [a,b] X.env=[(false,eval a X.env),(false,eval b X.env)]:=by rfl) (hs2:starEach [b] X.env=[(false,eval b X.env)]:=by rfl) :
  PI X tg (.Call (.Name "range" p) [a,b] [] pos) (c0l ta):=by
 intro pins s σ H R I h;refine Call_ (a2J I hg hm boot_range (PyProof.Rows.callWith_type1 (thn (ha pos pins s σ H _ I h) λus s1 ⟨vs,H1,I1,r1,q1⟩=>?_) (by rw [hs,hs2]) (by rw [hs2];rfl)));obtain ⟨i,j,e,⟨q1,q2,q3,q4⟩,q⟩:=q1;subst e;cases r1 with
 | cons r rr =>
  cases rr with
  | cons r' rr =>
   cases rr;obtain ⟨t,rfl⟩:=r;obtain ⟨t',rfl⟩:=r';exact call_range_2 (b4j I1 q1 q2 q3 q4 q)
noncomputable def c7m (wi:TI)(g:TG)(tb:TS):TS:=λD σ H=>wi σ H λJ H1=>∃ W:Nat->Nat->St->Hp->Prop,(∃ m,W 0 m σ H1)/\∀ i m σ H,W i m σ H ->
 (J.stop i H/\D.nx σ H) \/ (J.go i H/\∃ N:St->Hp->Prop,(∀ σ' H',N σ' H'->∃ m',m' < m/\W (i + 1) m' σ' H')/\∀ x H',J.yld i H x H'->g x σ H' fun σ2 H2=>tb { D with nx:=N,ct:=N,bk:=D.nx } σ2 H2)
noncomputable def a2R (fp:List Addr)(h:Heap):List (Addr × Obj):=fp.filterMap λb=>(h.get? b).map λo=>(b,o)
theorem a3r {fp:List Addr}{h:Heap}{b:Addr}{o:Obj}(hb:b∈fp)(e:h.get? b=some o):(b,o)∈a2R fp h:=List.mem_filterMap.mpr ⟨b,hb,by rw [e];rfl⟩
theorem b3C {fp:List Addr}{h:Heap}{p:Addr × Obj}(hp:p∈a2R fp h):p.1 ∈ fp/\h.get? p.1=some p.2:=by
 obtain ⟨b,hb,e⟩:=List.mem_filterMap.mp hp;cases q:h.get? b with
 | none=>rw [q] at e;cases e
 | some o =>
  rw [q] at e;have e':(b,o)=p:=Option.some.inj e;subst e';exact ⟨hb,q⟩
theorem Inv.pinned {pins:List (Addr × Obj)}{σ:St}{H:Hp}{s:Shared}{fp:List Addr}(I:Inv X pins σ H s)(hf:∀ b∈fp,a9W X pins H b)(ho:∀ b∈fp,∃ o,s.heap.get? b=some o/\∀ v,o.data ≠ .cell v):Inv X (pins ++ a2R fp s.heap) σ H s :=
 I.pins_of λp hp=>(List.mem_append.mp hp).elim (λz=>I.pin p (List.mem_append_right _ z)) λz=>by
  obtain ⟨hb,e⟩:=b3C z;obtain ⟨f0,f1,f2,_⟩:=hf p.1 hb;obtain ⟨o,e',d⟩:=ho p.1 hb;rw [e] at e';cases e';exact ⟨e,f0,f1,f2,d⟩
theorem Inv.unpinned {pins pl:List (Addr × Obj)}{σ:St}{H:Hp}{s:Shared}(I:Inv X (pins ++ pl) σ H s):Inv X pins σ H s:=I.pins_of λp hp=>I.pin p (List.mem_append_right _ (List.mem_append_left _ hp))
theorem O2 {iter:Expr}{body:List Stmt}{wi:TI}{g:TG}{tb:TS}{pos:Pos}(hp:PassesOwn (model X.prog X.w) X.A X.env X.xe)(hc:X.calm=true)(hi:PI X tg iter wi)(hg:PG X tg g)(hb:PSs X body tb)
  (hs:∀ x,foldedSetIterable iter X.env x=pure x:=by intro _;rfl):PS X (.For tg iter body [] pos) (c7m wi g tb):=by
 intro pins s σ H D I h;refine wpAny_For (thn (hi pins s σ H _ I h) λv s1 h1=>thn h1 λitv s2 h2=>?_) hs;obtain ⟨it,fp,tn,J,H2,e,I2,T,st2,f2,W,⟨m0,w0⟩,turn⟩:=h2;subst e;have stat:∀ {H':Hp},(∀ b∈fp,H' b=none)->∀ b∈fp,a9W X pins H' b:=λhn b hb=>⟨hn b hb,(f2 b hb).2⟩;refine codeAny_forLoop_any (λn s'=>∃ i σ' H',Inv X pins σ' H' s'/\tn i s'.heap /\ (∀ b∈fp,H' b=none)/\W i n σ' H') ?_ m0 ⟨0,σ,H2,I2,st2,λb hb=>(f2 b hb).1,w0⟩;rintro n s3 ⟨i,σ3,H3,I3,st3,fr3,w3⟩
 rcases turn i n σ3 H3 w3 with ⟨stop,qn⟩ | ⟨go,N,hN,step⟩
 ·refine wpAny_passesOwn hp (thn (T.done X rfl rfl rfl hc i pins s3 σ3 H3 X.xe I3 (stat fr3) st3 stop) λr s4 ⟨hr,I4⟩=>?_);subst hr;exact wpAny_execs_nil ⟨σ3,H3,I4,qn⟩
 ·refine wpAny_passesOwn hp (thn (T.item X rfl rfl rfl hc i pins s3 σ3 H3 X.xe I3 (stat fr3) st3 go) λr s4 ⟨u,hr,h4⟩=>?_);subst hr;refine wpAny_passesOwn hp (thn h4 λ_ s5 ⟨x,H5,I5,r5,y5,st5,fr5⟩=>?_);have I5':=I5.pinned (stat fr5) (T.obj _ _ st5);refine wpAny_passesOwn hp (thn (hg _ s5 σ3 H5 x u _ I5' r5 (step x H5 y5)) λ_ s6 ⟨σ6,H6,I6,q6⟩=>?_);refine wpAny_passesOwn hp (thn (hb _ s6 σ6 H6 _ I6 q6) λf s7 q7=>?_);have again:∀ {σ7:St} {H7:Hp},Inv X (pins ++ a2R fp s5.heap) σ7 H7 s7->N σ7 H7->∃ m,m < n/\∃ i σ' H',Inv X pins σ' H' s7/\tn i s7.heap /\ (∀ b∈fp,H' b=none)/\W i m σ' H':=λ{σ7 H7} I7 n7=>by
   obtain ⟨m',hm,w7⟩:=hN σ7 H7 n7;refine ⟨m',hm,i + 1,σ7,H7,I7.unpinned,T.keep _ _ _ st5 λb hb o e=>(I7.pin (b,o) (List.mem_append_right _ (List.mem_append_right _ (a3r hb e)))).1,λb hb=>?_,w7⟩;obtain ⟨o,e,d⟩:=T.obj _ _ st5 b hb;exact (I7.pin (b,o) (List.mem_append_right _ (List.mem_append_right _ (a3r hb e)))).2.1
  cases f with
  | next=>obtain ⟨σ7,H7,I7,n7⟩:=q7;exact again I7 n7
  | cont=>obtain ⟨σ7,H7,I7,n7⟩:=q7;exact again I7 n7
  | brk=>obtain ⟨σ7,H7,I7,q7⟩:=q7;exact ⟨σ7,H7,I7.unpinned,q7⟩
  | ret v=>obtain ⟨x7,σ7,H7,I7,r7,q7⟩:=q7;exact ⟨x7,σ7,H7,I7.unpinned,r7,q7⟩
end
theorem a1F {K:PySem.W.Frag}{a:Addr}{xs:List V}{g:TG}{tb:TS}{D:a0x}{σ:St}{H:Hp}(Pv:Nat->St->Hp->Prop)(h0:Pv 0 σ H)(hl:∀ i σ H,i<=xs.length -> Pv i σ H->SqL K H a xs)
  (hs:∀ i x σ H,xs[i]? = some x->Pv i σ H->g x σ H fun σ2 H2=>tb { D with nx:=Pv (i + 1),ct:=Pv (i + 1),bk:=D.nx } σ2 H2) (hd:∀ σ H,Pv xs.length σ H->D.nx σ H) :
  ∃ W:Nat->Nat->St->Hp->Prop,(∃ m,W 0 m σ H)/\∀ i m σ H,W i m σ H ->
   ((Itl K a).stop i H/\D.nx σ H) \/ ((Itl K a).go i H/\∃ N:St->Hp->Prop,(∀ σ' H',N σ' H'->∃ m',m' < m/\W (i + 1) m' σ' H')/\∀ x H',(Itl K a).yld i H x H'->g x σ H' fun σ2 H2=>tb { D with nx:=N,ct:=N,bk:=D.nx } σ2 H2):=by
 refine ⟨λi m σ H=>m=xs.length - i/\i<=xs.length /\ Pv i σ H,⟨xs.length,by simp,Nat.zero_le _,h0⟩,?_⟩;rintro i m σ H ⟨rfl,hi,p⟩;have q:=hl i σ H hi p
 by_cases hlt:i < xs.length
 ·refine .inr ⟨⟨xs,xs[i],q,by simp [hlt]⟩,Pv (i + 1),fun σ' H' p'=>⟨xs.length - (i + 1),by omega,rfl,hlt,p'⟩,λx H' y=>?_⟩;obtain ⟨e,y⟩:=y;subst e;exact hs i x σ _ (y xs q) p
 ·have e:i=xs.length:=by omega
  subst e;exact .inl ⟨⟨xs,q,Nat.le_refl _⟩,hd σ H p⟩
theorem b8W {K:PySem.W.Frag}{a:Addr}{xs:List V}{g:TG}{tb:TS}{D:a0x}{σ:St}{H:Hp}(Pv:Nat->St->Hp->Prop)(h0:Pv 0 σ H)(hl:∀ i σ H,i<=xs.length -> Pv i σ H->SqT K H a xs)
  (hs:∀ i x σ H,xs[i]? = some x->Pv i σ H->g x σ H fun σ2 H2=>tb { D with nx:=Pv (i + 1),ct:=Pv (i + 1),bk:=D.nx } σ2 H2) (hd:∀ σ H,Pv xs.length σ H->D.nx σ H) :
  ∃ W:Nat->Nat->St->Hp->Prop,(∃ m,W 0 m σ H)/\∀ i m σ H,W i m σ H ->
   ((Itt K a).stop i H/\D.nx σ H) \/ ((Itt K a).go i H/\∃ N:St->Hp->Prop,(∀ σ' H',N σ' H'->∃ m',m' < m/\W (i + 1) m' σ' H')/\∀ x H',(Itt K a).yld i H x H'->g x σ H' fun σ2 H2=>tb { D with nx:=N,ct:=N,bk:=D.nx } σ2 H2):=by
 refine ⟨λi m σ H=>m=xs.length - i/\i<=xs.length /\ Pv i σ H,⟨xs.length,by simp,Nat.zero_le _,h0⟩,?_⟩;rintro i m σ H ⟨rfl,hi,p⟩;have q:=hl i σ H hi p
 by_cases hlt:i < xs.length
 ·refine .inr ⟨⟨xs,xs[i],q,by simp [hlt]⟩,Pv (i + 1),fun σ' H' p'=>⟨xs.length - (i + 1),by omega,rfl,hlt,p'⟩,λx H' y=>?_⟩;obtain ⟨e,y⟩:=y;subst e;exact hs i x σ _ (y xs q) p
 ·have e:i=xs.length:=by omega
  subst e;exact .inl ⟨⟨xs,q,Nat.le_refl _⟩,hd σ H p⟩
theorem M8 {lo:Int}{n:Nat}{g:TG}{tb:TS}{D:a0x}{σ:St}{H:Hp}(Pv:Nat->St->Hp->Prop)(h0:Pv 0 σ H)
  (hs:∀ i σ H,i < n->Pv i σ H->g (.int (lo + i)) σ H fun σ2 H2=>tb { D with nx:=Pv (i + 1),ct:=Pv (i + 1),bk:=D.nx } σ2 H2) (hd:∀ σ H,Pv n σ H->D.nx σ H) :
  ∃ W:Nat->Nat->St->Hp->Prop,(∃ m,W 0 m σ H)/\∀ i m σ H,W i m σ H ->
   ((Itr lo n).stop i H/\D.nx σ H) \/ ((Itr lo n).go i H/\∃ N:St->Hp->Prop,(∀ σ' H',N σ' H'->∃ m',m' < m/\W (i + 1) m' σ' H')/\∀ x H',(Itr lo n).yld i H x H'->g x σ H' fun σ2 H2=>tb { D with nx:=N,ct:=N,bk:=D.nx } σ2 H2):=by
 refine ⟨λi m σ H=>m=n - i/\i<=n/\Pv i σ H,⟨n,by simp,Nat.zero_le _,h0⟩,?_⟩;rintro i m σ H ⟨rfl,hi,p⟩
 by_cases hlt:i < n
 ·refine .inr ⟨hlt,Pv (i + 1),fun σ' H' p'=>⟨n - (i + 1),by omega,rfl,hlt,p'⟩,λx H' y=>?_⟩;obtain ⟨e,y⟩:=y;subst e y;exact hs i σ _ hlt p
 ·have e:i=n:=by omega
  subst e;exact .inl ⟨Nat.le_refl _,hd σ H p⟩
noncomputable abbrev R2:=V->V->Hp->VK->Prop
noncomputable def OpR (X:Cx)(f:Value->Value->Sem Value)(r:R2):Prop :=
 ∀ (pins:List (Addr × Obj)) (s:Shared) (σ:St) (H:Hp) (x y:V) (v u:Value) (Q:VK),Inv X pins σ H s->u7 x v->u7 y u->r x y H Q ->
  wpAny (model X.prog X.w) X.A (f v u) (EP X pins σ Q) X.xe s
noncomputable def UnR (X:Cx)(f:Value->Sem Value)(r:V->Hp->VK->Prop):Prop :=
 ∀ (pins:List (Addr × Obj)) (s:Shared) (σ:St) (H:Hp) (x:V) (v:Value) (Q:VK),Inv X pins σ H s->u7 x v->r x H Q ->
  wpAny (model X.prog X.w) X.A (f v) (EP X pins σ Q) X.xe s
noncomputable def B6 (X:Cx)(f:Value)(r:List V->Hp->VK->Prop):Prop :=
 ∀ (pins:List (Addr × Obj)) (s:Shared) (σ:St) (H:Hp) (xs:List V) (us:List Value) (Q:VK),Inv X pins σ H s->o8 xs us->r xs H Q ->
  wpAny (model X.prog X.w) X.A (call f us) (EP X pins σ Q) X.xe s
noncomputable def c2o (X:Cx)(r:V->Hp->(Bool->Hp->Prop)->Prop):Prop :=
 ∀ (pins:List (Addr × Obj)) (s:Shared) (σ:St) (H:Hp) (x:V) (v:Value) (Q:Bool->Hp->Prop),Inv X pins σ H s->u7 x v->r x H Q ->
  wpAny (model X.prog X.w) X.A (truthy v) (TP X pins σ Q) X.xe s
noncomputable def tOp (r:R2)(ta tb:TE):TE:=fun σ H Q=>ta σ H λx H1=>tb σ H1 λy H2=>r x y H2 Q
noncomputable def tUn (r:V->Hp->VK->Prop)(ta:TE):TE:=fun σ H Q=>ta σ H λx H1=>r x H1 Q
noncomputable def rI (C:Int->Int->Prop)(g:Int->Int->V):R2:=λx y H Q=>∃ i j,x = .int i/\y = .int j/\C i j/\Q (g i j) H
noncomputable def rI0 (g:Int->Int->V):R2:=λx y H Q=>∃ i j,x = .int i/\y = .int j/\Q (g i j) H
noncomputable def rU (g:Int->V):V->Hp->VK->Prop:=λx H Q=>∃ i,x = .int i/\Q (g i) H
section
variable {X:Cx}{a b c:Expr}{ta tb tc:TE}{pos:Pos}
theorem c9g (ha:PE X a ta)(hb:PE X b tb){pins:List (Addr × Obj)}{s:Shared}{σ:St}{H:Hp}{R:V->V->Hp->Prop}(I:Inv X pins σ H s)
  (h:ta σ H λx H1=>tb σ H1 λy H2=>R x y H2) {Q:Value->Shared->Prop} {f:Value->Value->Sem Value}
  (hf:∀ v u s2 x y H2,Inv X pins σ H2 s2->u7 x v->u7 y u->R x y H2->wpAny (model X.prog X.w) X.A (f v u) Q X.xe s2) :
  wpAny (model X.prog X.w) X.A (eval a X.env) (λv s₁=>wpAny (model X.prog X.w) X.A (eval b X.env) (λu s₂=>wpAny (model X.prog X.w) X.A (f v u) Q X.xe s₂) X.xe s₁) X.xe s:=by
 refine thn (ha pins s σ H _ I h) λv s1 ⟨x,H1,I1,r1,q1⟩=>?_;refine thn (hb pins s1 σ H1 _ I1 q1) λu s2 ⟨y,H2,I2,r2,q2⟩=>?_;exact hf v u s2 x y H2 I2 r1 r2 q2
theorem i6 {op:Operator}{r:R2}(ho:OpR X (binaryOp op) r)(ha:PE X a ta)(hb:PE X b tb):PE X (.BinOp a op b pos) (tOp r ta tb):=by
 intro pins s σ H Q I h;exact wpAny_BinOp (c9g ha hb I h λv u s2 x y H2 I2 rx ry q=>ho pins s2 σ H2 x y v u Q I2 rx ry q)
theorem a1Y {op:UnaryOp}{r:V->Hp->VK->Prop}(ho:UnR X (unaryOp op) r)(ha:PE X a ta):PE X (.UnaryOp op a pos) (tUn r ta):=by
 intro pins s σ H Q I h;exact UnaryOp_ (thn (ha pins s σ H _ I h) λv s1 ⟨x,H1,I1,r1,q1⟩=>ho pins s1 σ H1 x v Q I1 r1 q1)
theorem opI {f:Value->Value->Sem Value}{C:Int->Int->Prop}{g:Int->Int->Int}
  (rule:∀ (i j:Int) (t u:Tok) (s:Shared) (Q:Value->Shared->Prop) (E:Value->Shared->Prop),C i j->Q (.int (g i j) s.toks) { s with toks:=s.toks + 1 }->wpAny (model X.prog X.w) X.A (f (.int i t) (.int j u)) Q E s) :
  OpR X f (rI C λi j=>.int (g i j)):=by
 intro pins s σ H x y v u Q I rx ry h;obtain ⟨i,j,rfl,rfl,hc,q⟩:=h;obtain ⟨t,rfl⟩:=rx;obtain ⟨t',rfl⟩:=ry;exact rule i j t t' s _ _ hc ⟨.int (g i j),H,I.tok _,⟨_,rfl⟩,q⟩
theorem c8k {f:Value->Value->Sem Value}{g:Int->Int->Int}
  (rule:∀ (i j:Int) (t u:Tok) (s:Shared) (Q:Value->Shared->Prop) (E:Value->Shared->Prop),Q (.int (g i j) s.toks) { s with toks:=s.toks + 1 }->wpAny (model X.prog X.w) X.A (f (.int i t) (.int j u)) Q E s) :
  OpR X f (rI0 λi j=>.int (g i j)):=by
 intro pins s σ H x y v u Q I rx ry h;obtain ⟨i,j,rfl,rfl,q⟩:=h;obtain ⟨t,rfl⟩:=rx;obtain ⟨t',rfl⟩:=ry;exact rule i j t t' s _ _ ⟨.int (g i j),H,I.tok _,⟨_,rfl⟩,q⟩
theorem b9U {f:Value->Value->Sem Value}{g:Int->Int->Bool}
  (rule:∀ (i j:Int) (t u:Tok) (s:Shared) (Q:Value->Shared->Prop) (E:Value->Shared->Prop),Q (.bool (g i j)) s->wpAny (model X.prog X.w) X.A (f (.int i t) (.int j u)) Q E s) :
  OpR X f (rI0 λi j=>.bl (g i j)):=by
 intro pins s σ H x y v u Q I rx ry h;obtain ⟨i,j,rfl,rfl,q⟩:=h;obtain ⟨t,rfl⟩:=rx;obtain ⟨t',rfl⟩:=ry;exact rule i j t t' s _ _ ⟨.bl (g i j),H,I,rfl,q⟩
noncomputable def c5o (i j:Int):Prop:=0<=j/\j<=1000000/\i.natAbs < 2 ^ 64
noncomputable def c8h (i j:Int):Prop:=(-(2 ^ 64) < i/\i < 2 ^ 64) \/ (-(2 ^ 64) < j/\j < 2 ^ 64)
theorem c8h.ok {i j:Int}(h:c8h i j):IntMulOk i j:=by
 rcases h with ⟨h1,h2⟩ | ⟨h1,h2⟩
 ·exact .of_left (intBits_le_64 h1 h2)
 ·exact .of_right (intBits_le_64 h1 h2)
theorem B8:OpR X (binaryOp .Add) (rI0 λi j=>.int (i + j)):=c8k λ_ _ _ _ _ _ _ q=>add_int q
theorem O3:OpR X (binaryOp .Sub) (rI0 λi j=>.int (i - j)):=c8k λ_ _ _ _ _ _ _ q=>sub_int q
theorem R7:OpR X (binaryOp .Mult) (rI c8h λi j=>.int (i * j)):=opI λ_ _ _ _ _ _ _ hc q=>mul_int q hc.ok
theorem V3:OpR X (binaryOp .Mod) (rI (λ_ j=>0 < j) λi j=>.int (i % j)):=opI λi j _ _ _ _ _ hc q=>by
 have h1:(0:Int) < j:=hc;exact mod_int' .(25) (by rw [Int.fmod_eq_emod_of_nonneg i .(25)];exact q)
theorem b5d:OpR X (binaryOp .Pow) (rI c5o λi j=>.int (i ^ j.toNat)):=opI λ_ _ _ _ _ _ _ hc q=>pow_int_small hc.1 hc.2.1 hc.2.2 q
theorem unI {f:Value->Sem Value}{g:Int->Int}
  (rule:∀ (i:Int) (t:Tok) (s:Shared) (Q:Value->Shared->Prop) (E:Value->Shared->Prop),Q (.int (g i) s.toks) { s with toks:=s.toks + 1 }->wpAny (model X.prog X.w) X.A (f (.int i t)) Q E s) :
  UnR X f (rU λi=>.int (g i)):=by
 intro pins s σ H x v Q I rx h;obtain ⟨i,rfl,q⟩:=h;obtain ⟨t,rfl⟩:=rx;exact rule i t s _ _ ⟨.int (g i),H,I.tok _,⟨_,rfl⟩,q⟩
theorem a9H:UnR X (unaryOp .USub) (rU λi=>.int (-i)):=unI λ_ _ _ _ _ q=>neg_int q
end
noncomputable def c3j:V->V->Bool
 | .non,.non=>true | .non,.int _=>true | .int _,.non=>true | .non,.bl _=>true | .bl _,.non=>true | .non,.str _=>true | .str _,.non=>true
 | .int _,.int _=>true | .bl _,.bl _=>true | .str _,.str _=>true
 | .int _,.str _=>true | .str _,.int _=>true | .bl _,.str _=>true | .str _,.bl _=>true
 | _,_=>false
noncomputable def rEq:R2:=λx y H Q=>c3j x y=true/\Q (.bl (decide (x=y))) H
noncomputable def rNe:R2:=λx y H Q=>c3j x y=true/\Q (.bl (!decide (x=y))) H
theorem b9x {i j:Int}:decide (V.int i=V.int j)=(i == j):=by
 rw [Bool.eq_iff_iff]
 simp
theorem b9K {i j:Bool}:decide (V.bl i=V.bl j)=(i == j):=by
 rw [Bool.eq_iff_iff]
 simp
theorem b8x {i j:Str}:decide (V.str i=V.str j)=(i == j):=by
 rw [Bool.eq_iff_iff]
 simp
section
variable {X:Cx}{a b c:Expr}{ta tb tc:TE}{pos:Pos}
theorem A2 {pins:List (Addr × Obj)}{σ:St}{H:Hp}{s:Shared}{Q:VK}{k k':Bool}(I:Inv X pins σ H s)(q:Q (.bl k) H)(e:k=k'):EP X pins σ Q (.bool k') s:=by
 subst e;exact ⟨.bl k,H,I,rfl,q⟩
theorem c7k:OpR X (compareOp .Eq) rEq:=by
 intro pins s σ H x y v u Q I rx ry h;obtain ⟨hs,q⟩:=h;cases x with
 | non =>
  cases rx;cases y with
  | non=>cases ry;exact PySem.EqNone.eq_none_none (A2 I q .(26))
  | bl j=>cases ry;exact PySem.EqNone.eq_none_bool (A2 I q .(26))
  | int j=>obtain ⟨t',rfl⟩:=ry;exact PySem.EqNone.eq_none_int (A2 I q .(26))
  | str j=>obtain ⟨t',rfl⟩:=ry;exact PySem.EqNone.eq_none_str (A2 I q .(26))
  | _=>exact absurd (show false=true from hs) Bool.false_ne_true
 | bl i =>
  cases rx;cases y with
  | non=>cases ry;exact PySem.EqNone.eq_bool_none (A2 I q .(26))
  | bl j=>cases ry;exact eq_bool (A2 I q b9K)
  | str j=>obtain ⟨t',rfl⟩:=ry;exact PySem.EqMixed.eq_bool_str (A2 I q .(26))
  | _=>exact absurd (show false=true from hs) Bool.false_ne_true
 | int i =>
  obtain ⟨t,rfl⟩:=rx;cases y with
  | non=>cases ry;exact PySem.EqNone.eq_int_none (A2 I q .(26))
  | int j=>obtain ⟨t',rfl⟩:=ry;exact eq_int (A2 I q b9x)
  | str j=>obtain ⟨t',rfl⟩:=ry;exact PySem.EqMixed.eq_int_str (A2 I q .(26))
  | _=>exact absurd (show false=true from hs) Bool.false_ne_true
 | str i =>
  obtain ⟨t,rfl⟩:=rx;cases y with
  | non=>cases ry;exact PySem.EqNone.eq_str_none (A2 I q .(26))
  | bl j=>cases ry;exact PySem.EqMixed.eq_str_bool (A2 I q .(26))
  | int j=>obtain ⟨t',rfl⟩:=ry;exact PySem.EqMixed.eq_str_int (A2 I q .(26))
  | str j=>obtain ⟨t',rfl⟩:=ry;exact eq_str (A2 I q b8x)
  | _=>exact absurd (show false=true from hs) Bool.false_ne_true
 | _=>cases y <;> exact absurd (show false=true from hs) Bool.false_ne_true
theorem c5k:OpR X (compareOp .NotEq) rNe:=by
 intro pins s σ H x y v u Q I rx ry h;obtain ⟨hs,q⟩:=h;cases x with
 | non =>
  cases rx;cases y with
  | non=>cases ry;exact PySem.EqNone.ne_none_none (A2 I q .(26))
  | bl j=>cases ry;exact PySem.EqNone.ne_none_bool (A2 I q .(26))
  | int j=>obtain ⟨t',rfl⟩:=ry;exact PySem.EqNone.ne_none_int (A2 I q .(26))
  | str j=>obtain ⟨t',rfl⟩:=ry;exact PySem.EqNone.ne_none_str (A2 I q .(26))
  | _=>exact absurd (show false=true from hs) Bool.false_ne_true
 | bl i =>
  cases rx;cases y with
  | non=>cases ry;exact PySem.EqNone.ne_bool_none (A2 I q .(26))
  | bl j=>cases ry;exact ne_bool (A2 I q (congrArg not b9K))
  | str j=>obtain ⟨t',rfl⟩:=ry;exact PySem.EqMixed.ne_bool_str (A2 I q .(26))
  | _=>exact absurd (show false=true from hs) Bool.false_ne_true
 | int i =>
  obtain ⟨t,rfl⟩:=rx;cases y with
  | non=>cases ry;exact PySem.EqNone.ne_int_none (A2 I q .(26))
  | int j=>obtain ⟨t',rfl⟩:=ry;exact ne_int (A2 I q (congrArg not b9x))
  | str j=>obtain ⟨t',rfl⟩:=ry;exact PySem.EqMixed.ne_int_str (A2 I q .(26))
  | _=>exact absurd (show false=true from hs) Bool.false_ne_true
 | str i =>
  obtain ⟨t,rfl⟩:=rx;cases y with
  | non=>cases ry;exact PySem.EqNone.ne_str_none (A2 I q .(26))
  | bl j=>cases ry;exact PySem.EqMixed.ne_str_bool (A2 I q .(26))
  | int j=>obtain ⟨t',rfl⟩:=ry;exact PySem.EqMixed.ne_str_int (A2 I q .(26))
  | str j=>obtain ⟨t',rfl⟩:=ry;exact ne_str (A2 I q (congrArg not b8x))
  | _=>exact absurd (show false=true from hs) Bool.false_ne_true
 | _=>cases y <;> exact absurd (show false=true from hs) Bool.false_ne_true
theorem a6R:OpR X (compareOp .Lt) (rI0 λi j=>.bl (decide (i < j))):=b9U λ_ _ _ _ _ _ _ q=>lt_int q
theorem a2z:OpR X (compareOp .LtE) (rI0 λi j=>.bl (decide (i<=j))):=b9U λ_ _ _ _ _ _ _ q=>le_int q
theorem a3Y:OpR X (compareOp .Gt) (rI0 λi j=>.bl (decide (j < i))):=b9U λ_ _ _ _ _ _ _ q=>gt_int q
theorem c6k:OpR X (compareOp .GtE) (rI0 λi j=>.bl (decide (j<=i))):=b9U λ_ _ _ _ _ _ _ q=>ge_int q
theorem b1C:OpR X (compareOp .In) (λx y H Q=>∃ i j,x = .str i/\y = .str j/\Q (.bl (!(Builtin.Str.occurrences j i 0 j.length 1).isEmpty)) H):=by
 intro pins s σ H x y v u Q I rx ry h;obtain ⟨i,j,rfl,rfl,q⟩:=h;obtain ⟨t,rfl⟩:=rx;obtain ⟨t',rfl⟩:=ry;exact in_str (A2 I q rfl)
theorem b2I:OpR X (compareOp .Is) (λx y H Q=>y = .non /\ Q (.bl (decide (x = .non))) H):=by
 intro pins s σ H x y v u Q I rx ry h;obtain ⟨rfl,q⟩:=h;cases ry;refine is_none_gen (A2 I q ?_);cases x <;> first
  | (cases rx;rfl)
  | (obtain ⟨t,rfl⟩:=rx;rfl)
theorem b8v:OpR X (compareOp .IsNot) (λx y H Q=>y = .non /\ Q (.bl (!decide (x = .non))) H):=by
 intro pins s σ H x y v u Q I rx ry h;obtain ⟨rfl,q⟩:=h;cases ry;refine isnot_none_gen (A2 I q ?_);cases x <;> first
  | (cases rx;rfl)
  | (obtain ⟨t,rfl⟩:=rx;rfl)
theorem OpR.or {f:Value->Value->Sem Value}{r r':R2}(h:OpR X f r)(h':OpR X f r'):OpR X f (λx y H Q=>r x y H Q \/ r' x y H Q):=by
 intro pins s σ H x y v u Q I rx ry q
 rcases q with q | q
 ·exact h pins s σ H x y v u Q I rx ry q
 ·exact h' pins s σ H x y v u Q I rx ry q
theorem j8 (b:Expr){op:CmpOp}(h:op≠.In:=by decide)(h2:op≠.NotIn:=by decide):behindInMarks op b=false:=by
 have e1:(op == CmpOp.In)=false:=by cases op <;> first | rfl | exact absurd rfl h
 have e2:(op == CmpOp.NotIn)=false:=by cases op <;> first | rfl | exact absurd rfl h2
 cases b <;> simp [behindInMarks,e1,e2]
theorem a3x {op:CmpOp}{r:R2}(ho:OpR X (compareOp op) r)(ha:PE X a ta)(hb:PE X b tb)(hm:behindInMarks op b=false):PE X (.Compare a [op] [b] pos) (tOp r ta tb):=by
 intro pins s σ H Q I h;exact wpAny_Compare1 (c9g ha hb I h λv u s2 x y H2 I2 rx ry q=>ho pins s2 σ H2 x y v u Q I2 rx ry q) hm
noncomputable def b9Y (t:TE):TT:=fun σ H Q=>t σ H λx H'=>∃ k,x = .bl k/\Q k H'
theorem i9 {op:CmpOp}{r:R2}(ho:OpR X (compareOp op) r)(ha:PE X a ta)(hb:PE X b tb)(hm:behindInMarks op b=false):PT X (.Compare a [op] [b] pos) (b9Y (tOp r ta tb)):=by
 intro pins s σ H Q I h;refine wpAny_isTrue_Compare1 (thn (ha pins s σ H _ I h) λv s1 ⟨x,H1,I1,r1,q1⟩=>thn (hb pins s1 σ H1 _ I1 q1) λu s2 ⟨y,H2,I2,r2,q2⟩ =>
  thn (ho pins s2 σ H2 x y v u _ I2 r1 r2 q2) λc s3 ⟨z,H3,I3,r3,k,e,q3⟩=>?_) hm
 subst e;cases r3;exact wpAny_truthy_bool ⟨H3,I3,q3⟩
noncomputable def b6E (r r':R2)(ta tb tc:TE):TE:=fun σ H Q=>ta σ H λx H1=>tb σ H1 λy H2=>r x y H2 λz H3=>∃ k,z = .bl k /\
 (if k=true then tc σ H3 λw' H4=>r' y w' H4 Q else Q (.bl false) H3)
theorem a5R {op op':CmpOp}{r r':R2}(ho:OpR X (compareOp op) r)(ho':OpR X (compareOp op') r')(ha:PE X a ta)(hb:PE X b tb)(hc:PE X c tc)
  (hm:lastMarks [op,op'] [b,c]=false:=by with_unfolding_all rfl):PE X (.Compare a [op,op'] [b,c] pos) (b6E r r' ta tb tc):=by
 intro pins s σ H Q I h;refine Compare_chain (thn (ha pins s σ H _ I h) λv s1 ⟨x,H1,I1,r1,q1⟩=>chain_link (thn (hb pins s1 σ H1 _ I1 q1) λu s2 ⟨y,H2,I2,r2,q2⟩ =>
  thn (ho pins s2 σ H2 x y v u _ I2 r1 r2 q2) λd s3 ⟨z,H3,I3,r3,k,e,q3⟩=>?_)) hm
 subst e;cases r3;refine wpAny_truthy_bool ?_;cases k with
 | false=>exact ite_ff ⟨.bl false,H3,I3,rfl,q3⟩
 | true=>exact ite_tt (chain_last (thn (hc pins s3 σ H3 _ I3 q3) λw' s4 ⟨z',H4,I4,r4,q4⟩=>ho' pins s4 σ H4 y z' u w' Q I4 r2 r4 q4))
theorem a9D {op op':CmpOp}{r r':R2}(ho:OpR X (compareOp op) r)(ho':OpR X (compareOp op') r')(ha:PE X a ta)(hb:PE X b tb)(hc:PE X c tc)
  (hm:lastMarks [op,op'] [b,c]=false:=by with_unfolding_all rfl):PT X (.Compare a [op,op'] [b,c] pos) (b9Y (b6E r r' ta tb tc)):=by
 intro pins s σ H Q I h;refine isTrue_chain (thn (ha pins s σ H _ I h) λv s1 ⟨x,H1,I1,r1,q1⟩=>test_link (thn (hb pins s1 σ H1 _ I1 q1) λu s2 ⟨y,H2,I2,r2,q2⟩ =>
  thn (ho pins s2 σ H2 x y v u _ I2 r1 r2 q2) λd s3 ⟨z,H3,I3,r3,k,e,q3⟩=>?_)) hm
 subst e;cases r3;refine wpAny_truthy_bool ?_;cases k with
 | false =>
  obtain ⟨k',e',q'⟩:=q3;cases e';exact ite_ff ⟨H3,I3,q'⟩
 | true =>
  refine ite_tt (test_last (thn (hc pins s3 σ H3 _ I3 q3) λw' s4 ⟨z',H4,I4,r4,q4⟩=>thn (ho' pins s4 σ H4 y z' u w' _ I4 r2 r4 q4) λd' s5 ⟨z2,H5,I5,r5,k2,e2,q5⟩=>?_));subst e2;cases r5;exact wpAny_truthy_bool ⟨H5,I5,q5⟩
noncomputable def c0h (K:PySem.W.Frag)(x:V)(H:Hp)(k:Bool):Prop :=
 match x with
 | .non=>k=false
 | .bl b=>k=b
 | .int i=>k=(i != 0)
 | .str y=>y.length <= sizeLine/\k=((y.length:Int) != 0)
 | .ref p=>(∃ xs,SqL K H p xs/\k = !xs.isEmpty) \/ (∃ xs,SqT K H p xs/\k = !xs.isEmpty) \/ ∃ kvs,H p=some (.dK kvs)/\k = !kvs.isEmpty
 | _=>False
theorem b0s {κ:Type}{kvs:List (κ × V)}{vs:List (κ × Value)}(r:KV kvs vs):(!vs.isEmpty) = !kvs.isEmpty:=by
 cases r <;> rfl
theorem a2T {xs:List V}{its:List Value}(r:o8 xs its):(!its.toArray.isEmpty) = !xs.isEmpty:=by
 cases r <;> simp
theorem a1J:(sizeLine:Nat) < 2 ^ 63:=by rw [sizeLine_eq];decide
theorem c5a:c2o X (λx H Q=>∃ k,c0h X.K x H k/\Q k H):=by
 intro pins s σ H x v Q I rx h;obtain ⟨k,e,q⟩:=h;have hl:=a1J;have hs:sizeLine=16777216:=sizeLine_eq;cases x with
 | non =>
  cases rx;have e':k=false:=e;subst e';exact truthy_none ⟨H,I,q⟩
 | bl b =>
  cases rx;have e':k=b:=e;subst e';exact wpAny_truthy_bool ⟨H,I,q⟩
 | int i =>
  obtain ⟨t,rfl⟩:=rx;have e':k=(i != 0):=e;subst e';exact PySem.P.truthy_int ⟨H,I,q⟩
 | str y =>
  obtain ⟨t,rfl⟩:=rx;obtain ⟨hy,e'⟩:y.length <= sizeLine/\k=((y.length:Int) != 0):=e;subst e';exact PySem.P.truthy_str .(25) ⟨H,I.tok _,q⟩
 | ref p =>
  cases rx;have e':(∃ xs,SqL X.K H p xs/\k = !xs.isEmpty) \/ (∃ xs,SqT X.K H p xs/\k = !xs.isEmpty) \/ ∃ kvs,H p=some (.dK kvs)/\k = !kvs.isEmpty:=e
  rcases e' with ⟨xs,hx,e'⟩ | ⟨xs,hx,e'⟩ | ⟨kvs,hx,e'⟩
  ·subst e';obtain ⟨its,r,pl,hz⟩:=I.list hx;have hlen:=r.length;exact wpAny_truthy_list pl.isList (by simp only [List.size_toArray];omega) ⟨H,I.tok _,by rw [a2T r];exact q⟩
  ·subst e';obtain ⟨its,r,pl,hz⟩:=I.tuple hx;have hlen:=r.length;exact truthy_tuple pl (by simp only [List.size_toArray];omega) ⟨H,I.tok _,by rw [a2T r];exact q⟩
  ·subst e';obtain ⟨hz,hS,vs,r,m⟩:kvs.length <= sizeLine/\(p == sysModules)=false/\∃ vs,KV kvs vs/\s.heap.DictOf (b8d X.prog X.w) p vs:=I.hok p _ hx;have hlen:kvs.length=vs.length:=Paired.length r;exact wpAny_truthy_dict hS m .(25) ⟨H,I.tok _,by rw [b0s r];exact q⟩
 | _=>exact (show False from e).elim
theorem b3H (ha:PE X a ta)(he:∀ whole,isTrue a X.env whole=(do let v ← whole;standAt a.pos;holding [v] (truthy v))) :
  PT X a (fun σ H Q=>ta σ H λx H'=>∃ k,c0h X.K x H' k/\Q k H'):=by
 intro pins s σ H Q I h;exact isTrue_plain (thn (ha pins s σ H _ I h) λv s1 ⟨x,H1,I1,r1,q1⟩=>c5a pins s1 σ H1 x v Q I1 r1 q1) (he _)
theorem u6:OpR X (binaryOp .Add) (λx y H Q=>∃ i j,x = .str i/\y = .str j/\i.length + j.length <= sizeLine/\Q (.str (i ++ j)) H):=by
 intro pins s σ H x y v u Q I rx ry h;obtain ⟨i,j,rfl,rfl,hz,q⟩:=h;obtain ⟨t,rfl⟩:=rx;obtain ⟨t',rfl⟩:=ry;exact add_str (λt' tk=>⟨.str (i ++ j),H,I.tok _,⟨_,rfl⟩,q⟩) hz
theorem a9t {x:V}{us:List Value}(r:o8 [x] us):∃ u,us=[u]/\u7 x u:=by
 cases r with
 | cons r1 r2=>cases r2;exact ⟨_,rfl,r1⟩
theorem b2u {x y:V}{us:List Value}(r:o8 [x,y] us):∃ u w',us=[u,w']/\u7 x u/\u7 y w':=by
 cases r with
 | cons r1 r2 =>
  cases r2 with
  | cons r3 r4=>cases r4;exact ⟨_,_,rfl,r1,r3⟩
theorem a2K (hc:X.calm=true):B6 X (.builtin "max") (λxs H Q=>∃ i j,xs=[.int i,.int j]/\Q (.int (if j > i then j else i)) H):=by
 intro pins s σ H xs us Q I r h;obtain ⟨i,j,rfl,q⟩:=h;obtain ⟨u,w',rfl,⟨t,rfl⟩,⟨t',rfl⟩⟩:=b2u r;refine max_two_ints (I.ok.hd hc) λh' tk k=>⟨_,H,I.kept k,?_,q⟩
 by_cases hj:j > i
 ·rw [if_pos hj,if_pos hj];exact ⟨_,rfl⟩
 ·rw [if_neg hj,if_neg hj];exact ⟨_,rfl⟩
theorem a3p (hc:X.calm=true):B6 X (.builtin "min") (λxs H Q=>∃ i j,xs=[.int i,.int j]/\Q (.int (if j < i then j else i)) H):=by
 intro pins s σ H xs us Q I r h;obtain ⟨i,j,rfl,q⟩:=h;obtain ⟨u,w',rfl,⟨t,rfl⟩,⟨t',rfl⟩⟩:=b2u r;refine min_two_ints (I.ok.hd hc) λh' tk k=>⟨_,H,I.kept k,?_,q⟩
 by_cases hj:j < i
 ·rw [if_pos hj,if_pos hj];exact ⟨_,rfl⟩
 ·rw [if_neg hj,if_neg hj];exact ⟨_,rfl⟩
theorem b6D:B6 X (.type "int") (λxs H Q=>(∃ i,xs=[.int i]/\Q (.int i) H) \/ ∃ k,xs=[.bl k]/\Q (.int (if k then 1 else 0)) H):=by
 intro pins s σ H xs us Q I r h
 rcases h with ⟨i,rfl,q⟩ | ⟨k,rfl,q⟩
 ·obtain ⟨u,rfl,t,rfl⟩:=a9t r;exact call_int_int ⟨.int i,H,I,⟨_,rfl⟩,q⟩
 ·obtain ⟨u,rfl,r1⟩:=a9t r;cases r1;exact call_int_bool ⟨.int (if k then 1 else 0),H,I.tok _,⟨_,rfl⟩,q⟩
theorem b9f:B6 X (.type "str") (λxs H Q=>∃ i,xs=[.int i]/\i.natAbs.log2 < 1920/\Q (.str (toString i)) H):=by
 intro pins s σ H xs us Q I r h;obtain ⟨i,rfl,hz,q⟩:=h;obtain ⟨u,rfl,t,rfl⟩:=a9t r;exact PySem.P.str_of_int hz ⟨.str _,H,I.tok _,⟨_,rfl⟩,q⟩
noncomputable def c4h (K:PySem.W.Frag)(x:V)(H:Hp)(n:Nat):Prop :=
 match x with
 | .str y=>y.length <= sizeLine/\n=y.length
 | .ref p=>(∃ xs,SqL K H p xs/\n=xs.length) \/ ∃ xs,SqT K H p xs/\n=xs.length
 | _=>False
theorem b4L:B6 X (.builtin "len") (λxs H Q=>∃ x n,xs=[x]/\c4h X.K x H n/\Q (.int n) H):=by
 intro pins s σ H xs us Q I r h;obtain ⟨x,n,rfl,e,q⟩:=h;obtain ⟨u,rfl,rx⟩:=a9t r;have hl:=a1J;have hs:sizeLine=16777216:=sizeLine_eq;cases x with
 | str y =>
  obtain ⟨t,rfl⟩:=rx;obtain ⟨hy,e'⟩:y.length <= sizeLine/\n=y.length:=e;subst e';exact len_str .(25) ⟨.int _,H,I.tok _,⟨_,rfl⟩,q⟩
 | ref p =>
  cases rx;have e':(∃ xs,SqL X.K H p xs/\n=xs.length) \/ ∃ xs,SqT X.K H p xs/\n=xs.length:=e
  rcases e' with ⟨xs,hx,e'⟩ | ⟨xs,hx,e'⟩
  ·subst e';obtain ⟨its,r',pl,hz⟩:=I.list hx;have hlen:=r'.length;exact Calls.call_len_list pl.isList (by simp only [List.size_toArray];omega) ⟨.int xs.length,H,I.tok _,⟨_,by simp only [List.size_toArray];rw [hlen]⟩,q⟩
  ·subst e';obtain ⟨its,r',pl,hz⟩:=I.tuple hx;have hlen:=r'.length;exact len_tuple pl (by simp only [List.size_toArray];omega) ⟨.int xs.length,H,I.tok _,⟨_,by simp only [List.size_toArray];rw [hlen]⟩,q⟩
 | _=>exact (show False from e).elim
end
structure b8t (h:Heap)(x dx C:Addr)(mA:Str->Option Value):Prop where
 obj:h.get? x=some (PySem.W.instObj C dx)
 ns:h.Ns1 dx mA
 ne:dx≠x
theorem a7Y {h:Heap}{dx:Addr}{mA:Str->Option Value}(n:h.Ns1 dx mA):∃ od,h.get? dx=some od/\∀ name,PySem.W.lookIn name od=some (mA name):=by
 obtain ⟨o,es,ep,ho,hd,hk,_,hm⟩:=n;refine ⟨o,ho,λname=>?_⟩;have e:=hm name;unfold nsFind findBy at e;rw [← Array.find?_toList] at e;unfold PySem.W.lookIn;rw [hd];dsimp only
 split
 ·rename_i y q
  rw [q] at e;exact congrArg some e
 ·rename_i q
  rw [q] at e;have a:es.toList.any (·.refKey)=false:=by
   rw [List.any_eq_false];intro y hy;obtain ⟨z,t,hkey⟩:=hk y (Array.mem_toList_iff.mp hy)
   simp [DictEntry.refKey,hkey]
  have a':¬ es.toList.any (·.refKey)=true:=by rw [a];exact Bool.false_ne_true
  rw [if_neg a'];exact congrArg some e
theorem b8t.look {h:Heap}{x dx C:Addr}{mA:Str->Option Value}(I:b8t h x dx C mA):∃ od,PySem.W.InstAt h x (PySem.W.instObj C dx) C (some od)/\∀ name,PySem.W.lookIn name od=some (mA name) :=
 let ⟨od,ho,hl⟩:=a7Y I.ns
 ⟨od,⟨I.obj,rfl,rfl,ho⟩,hl⟩
section
variable {prog:Program}{w:World}{A:Around}{E:Value->Shared->Prop}{s:Shared}{K:PySem.W.Frag}{x dx C f:Addr}{mA:Str->Option Value}{name:Str}{v:Value}
theorem b7W {expr:Bool}{Q:Value->Shared->Prop}(X:K.In s.heap)(I:b8t s.heap x dx C mA)(hg:PySem.W.plainGet K C name=true)(hh:PySem.W.hasDictIn K C=true)
  (ha:PySem.W.findIn K (.ref C) name=some none) (hv:mA name=some v) (hv':PySem.W.handedIn v=true) (h:Q v { s with toks:=s.toks + 1 }) :
  wpAny (model prog w) A (getAttr (.ref x) name expr) Q E s:=by
 obtain ⟨od,J,hl⟩:=I.look;exact PySem.W.get_value X J (PySem.W.plainGet_of hg).1 (PySem.W.findObj_own hh ha rfl (by rw [hl,hv])) hv' h
theorem b8J {pl:Sem Bool}{Q:Value × List Value->Shared->Prop}(X:K.In s.heap)(I:b8t s.heap x dx C mA)(hg:PySem.W.plainGet K C name=true)
  (hf:PySem.W.findIn K (.ref C) name=some (some (.ref f))) (ht:PySem.W.isFn K (.ref f)=true) (hv:mA name=none) (h:Q (.ref f,[.ref x]) s) :
  wpAny (model prog w) A (getMethod (.ref x) name pl) Q E s:=by
 obtain ⟨od,J,hl⟩:=I.look;exact PySem.W.method_fn X J (PySem.W.plainGet_of hg).1 (PySem.W.plainGet_of hg).2 hf (beq_iff_eq.mp ht) (by show (PySem.W.lookIn name od).map (·.isSome)=some false;rw [hl,hv];rfl) h
theorem b2S {ns:List Str}{Q:Unit->Shared->Prop}(X:K.In s.heap)(I:b8t s.heap x dx C mA)
  (hs:PySem.W.findIn K (.ref C) "__setattr__" = some (some (.builtin "object.__setattr__"))) (hp:PySem.W.plainOver K C=true) (ht:PySem.W.takerIn K C name=some none) (hh:PySem.W.hasDictIn K C=true)
  (hw:PySem.Within mA ns) (hsz:ns.length <= sizeLine)
  (h:∀ h',b8t h' x dx C (λy=>if y=name then some v else mA y)->Heap.SameBut dx s.heap h'->Q () { s with heap:=h',toks:=s.toks + 2 }) :
  wpAny (model prog w) A (setAttr (.ref x) name v) Q E s:=by
 obtain ⟨od,J,hl⟩:=I.look;refine PySem.W.set_plain X J hs (PySem.W.osa_open (s:={ s with toks:=s.toks + 1 }) (r:=none) X J hp ht λb=>?_);obtain ⟨cd,hc,hd'⟩:=PySem.W.any_some hh;have hx:s.heap.get? x=some ⟨.ref C,some dx,.plain,#[]⟩:=I.obj;refine wpAny_bind (wpAny_pure (wpAny_bind (wpAny_bind (wpAny_loadPart hx (wpAny_bind (PySem.W.Looks.here (s:={ s with toks:=s.toks + 1 }) (PySem.W.looks_clsIn X hc) ?_))))));rw [hd'];refine wpAny_pure (a:=some dx) (wpAny_bind (wpAny_pure (wpAny_bind ?_)));refine wpAny_nsSet1 (s:={ s with toks:=s.toks + 1 }) I.ns λh' hn2 hs2=>?_;obtain ⟨oD,esD,epD,hoD,hdD,hcD⟩:=hn2.count (PySem.Within.cons name v hw);refine wpAny_bind (wpAny_lookBehind hoD (by rw [hdD];exact pastItsLine_dict (Nat.le_trans hcD (by rw [List.length_cons];omega))) ?_);exact wpAny_pure (h _ ⟨(hs2.2 _ (Ne.symm I.ne)).trans I.obj,hn2,I.ne⟩ hs2)
theorem b6I {R:Result->Shared->Prop}{vs:List Value}{kw:List (Str × Value)}(X:K.In s.heap)(hm:PySem.W.makesIn K C=true)
  (hi:PySem.W.findIn K (.ref C) "__init__" = some (some (.ref f))) (hf:PySem.W.typeIn K (.ref f)=some (.type "function"))
  (h:codeAny (model prog w) (A.under (.builtin "type.__call__" ⟨.ref C :: vs,kw⟩)) (.call (.ref f) ⟨.ref (s.heap.objs.size + 1) :: vs,kw⟩) (PySem.W.InitBack (s.heap.objs.size + 1) R)
   { s with heap:=(s.heap.push PySem.W.emptyDict).push (PySem.W.instObj C s.heap.objs.size) }) :
  codeAny (model prog w) A (.call (.ref C) ⟨vs,kw⟩) R s:=by
 obtain ⟨hh,g,d,t,os⟩:=s;exact PySem.W.make_core (PySem.W.makes_of X hm) (PySem.W.looks_findIn X hi) (λself=>PySem.W.bind_fn X self hf) (.inl rfl) h
end
noncomputable def T7 (f:Str)(v:V):List (Str × V)->List (Str × V)
 | []=>[(f,v)]
 | (g,x) :: r=>if g=f then (g,v) :: r else (g,x) :: T7 f v r
theorem a2L (f g:Str)(v:V):∀ fs:List (Str × V),(T7 f v fs).lookup g=if g=f then some v else fs.lookup g
 | []=>by
  show List.lookup g [(f,v)]=_
  by_cases h:g=f
  ·have hb:(g == f)=true:=beq_iff_eq.mpr h;simp only [List.lookup,hb,if_pos h]
  ·have hb:(g == f)=false:=beq_eq_false_iff_ne.mpr h;simp only [List.lookup,hb,if_neg h]
 | (k,x) :: r=>by
  have ih:=a2L f g v r;rw [show T7 f v ((k,x) :: r)=(if k=f then (k,v) :: r else (k,x) :: T7 f v r) from rfl]
  by_cases hk:k=f
  ·rw [if_pos hk]
   by_cases h:g=k
   ·have hb:(g == k)=true:=beq_iff_eq.mpr h;simp only [List.lookup,hb,if_pos (h.trans hk)]
   ·have hb:(g == k)=false:=beq_eq_false_iff_ne.mpr h;simp only [List.lookup,hb,if_neg (λe:g=f=>h (e.trans hk.symm))]
  ·rw [if_neg hk]
   by_cases h:g=k
   ·have hb:(g == k)=true:=beq_iff_eq.mpr h;simp only [List.lookup,hb,if_neg (λe:g=f=>hk (h.symm.trans e))]
   ·have hb:(g == k)=false:=beq_eq_false_iff_ne.mpr h;simp only [List.lookup,hb];exact ih
theorem a3J (f:Str)(v:V):∀ fs:List (Str × V),f∈(T7 f v fs).map (·.1)/\∀ g,g∈fs.map (·.1)->g∈(T7 f v fs).map (·.1)
 | []=>⟨by simp [T7],λg h=>by simp at h⟩
 | (k,x) :: r=>by
  obtain ⟨i1,i2⟩:=a3J f v r;rw [show T7 f v ((k,x) :: r)=(if k=f then (k,v) :: r else (k,x) :: T7 f v r) from rfl]
  by_cases hk:k=f
  ·rw [if_pos hk];subst hk;exact ⟨by simp,λg h=>by simpa using h⟩
  ·rw [if_neg hk];refine ⟨?_,λg h=>?_⟩
   ·rw [List.map_cons];exact List.mem_cons_of_mem _ i1
   ·rw [List.map_cons] at h ⊢
    rcases List.mem_cons.mp h with e | e
    ·exact List.mem_cons.mpr (.inl e)
    ·exact List.mem_cons_of_mem _ (i2 g e)
theorem a3L (f:Str)(v:V):∀ fs:List (Str × V),(T7 f v fs).length <= fs.length + 1
 | []=>by simp [T7]
 | (k,x) :: r=>by
  have ih:=a3L f v r;rw [show T7 f v ((k,x) :: r)=(if k=f then (k,v) :: r else (k,x) :: T7 f v r) from rfl]
  by_cases hk:k=f
  ·rw [if_pos hk,List.length_cons,List.length_cons];omega
  ·rw [if_neg hk,List.length_cons,List.length_cons];omega
theorem a6N.some_of {v:V}{o:Option Value}(r:a6N (some v) o):∃ u,o=some u/\u7 v u:=by
 cases o with
 | none=>exact (show False from r).elim
 | some u=>exact ⟨u,rfl,r⟩
theorem a6N.none_of {o:Option Value}(r:a6N none o):o=none:=by
 cases o with
 | none=>rfl
 | some u=>exact (show False from r).elim
theorem a6Z {v:V}{u:Value}(r:u7 v u):PySem.W.handedIn u=true:=by
 cases v with
 | non=>cases (show u=Value.none from r);rfl
 | bl b=>cases (show u=Value.bool b from r);rfl
 | int i=>obtain ⟨t,e⟩:=(show ∃ t,u=Value.int i t from r);cases e;rfl
 | str x=>obtain ⟨t,e⟩:=(show ∃ t,u=Value.str x t from r);cases e;rfl
 | byt b=>obtain ⟨t,e⟩:=(show ∃ t,u=Value.str b (t + 1) from r);cases e;rfl
 | flt b=>obtain ⟨t,e⟩:=(show ∃ t,u=Value.float b t from r);cases e;rfl
 | ref a=>cases (show u=Value.ref a from r);rfl
 | ty n=>cases (show u=Value.type n from r);rfl
section
variable {P:Program}{w:World}{H H':Hp}{h h':Heap}{a C dx:Addr}{fs fs':List (Str × V)}
theorem a6O (hok:HOk P w H h)(e:H a=some (.ins C dx fs)):∃ mA,b8t h a dx C mA/\(∀ f,a6N (fs.lookup f) (mA f))/\PySem.Within mA (fs.map (·.1))/\fs.length <= 1000/\H dx=some (.own a):=by
 obtain ⟨d,z,ne,ob,mA,n,r,q⟩:=(show E5 P w H h a (.ins C dx fs) from hok a _ e);exact ⟨mA,⟨ob,n,ne⟩,r,q,z,d⟩
end
structure Cls (K:PySem.W.Frag)(C:Addr):Prop where
 pg:PySem.W.plainGet K C Str.empty=true
 hd:PySem.W.hasDictIn K C=true
 po:PySem.W.plainOver K C=true
 sa:PySem.W.findIn K (.ref C) "__setattr__" = some (some (.builtin "object.__setattr__"))
theorem Cls.get {K:PySem.W.Frag}{C:Addr}(c:Cls K C)(f:Str):PySem.W.plainGet K C f=true:=c.pg
noncomputable def J9 (K:PySem.W.Frag)(C:Addr)(f:Str):Prop:=PySem.W.findIn K (.ref C) f=some none
theorem J9.taker {K:PySem.W.Frag}{C:Addr}{f:Str}(n:J9 K C f):PySem.W.takerIn K C f=some none:=by
 unfold PySem.W.takerIn;rw [show PySem.W.findIn K (.ref C) f=some none from n]
 rfl
structure b6n (K:PySem.W.Frag)(C:Addr)(m:Str)(f:Addr):Prop where
 at_:PySem.W.findIn K (.ref C) m=some (some (.ref f))
 fn:PySem.W.isFn K (.ref f)=true
 kp:PySem.W.keepIn K (.ref f)=true
section
variable {X:Cx}{pins:List (Addr × Obj)}{σ:St}{H:Hp}{s:Shared}{a C dx:Addr}{fs:List (Str × V)}{f:Str}{v:V}{A:Around}{E:Value->Shared->Prop}
theorem b2s {b:Bool}{Q:Value->Shared->Prop}(I:Inv X pins σ H s)(e:H a=some (.ins C dx fs))(c:Cls X.K C)(n:J9 X.K C f)(l:fs.lookup f=some v)
  (h:∀ u s',Inv X pins σ H s'->u7 v u->Q u s'):wpAny (model X.prog X.w) A (getAttr (.ref a) f b) Q E s:=by
 obtain ⟨mA,O,r,_,_,_⟩:=a6O I.hok e;obtain ⟨u,hu,ru⟩:=a6N.some_of (v:=v) (o:=mA f) (by rw [← l];exact r f);exact b7W I.kIn O (c.get f) c.hd n hu (a6Z ru) (h u _ (I.tok _) ru)
theorem a7r {m:Str}{g:Addr}{pl:Sem Bool}{Q:Value × List Value->Shared->Prop}(I:Inv X pins σ H s)(e:H a=some (.ins C dx fs))(c:Cls X.K C)(k:b6n X.K C m g)(l:fs.lookup m=none)
  (h:Q (.ref g,[.ref a]) s):wpAny (model X.prog X.w) A (getMethod (.ref a) m pl) Q E s:=by
 obtain ⟨mA,O,r,_,_,_⟩:=a6O I.hok e;have hn:mA m=none:=a6N.none_of (by rw [← l];exact r m);exact b8J I.kIn O (c.get m) k.at_ k.fn hn h
theorem b7p {y:V}{u:Value}{Q:Unit->Shared->Prop}(I:Inv X pins σ H s)(e:H a=some (.ins C dx fs))(c:Cls X.K C)(n:J9 X.K C f)(hl:fs.length < 1000)(ry:u7 y u)
  (h:∀ s',Inv X pins σ (upd H a (.ins C dx (T7 f y fs))) s'->Q () s'):wpAny (model X.prog X.w) A (setAttr (.ref a) f u) Q E s:=by
 obtain ⟨mA,O,r,wi,_,ho⟩:=a6O I.hok e;have hz:(fs.map (·.1)).length <= sizeLine:=by rw [List.length_map,sizeLine_eq];omega
 refine b2S I.kIn O c.sa c.po n.taker c.hd wi hz λh' O' sb=>h _ ?_;have hd:∃ o,h'.get? dx=some o:=let ⟨o,_,_,e',_⟩:=O'.ns;⟨o,e'⟩;refine I.write (x:=a) (e:=dx) (by rw [e];exact True.intro) (.inr ho) (λb q hb z=>(sb.2 b hb).trans z) hd ?_;refine ⟨by rw [j4 O.ne];exact ho,?_,O.ne,O'.obj,_,O'.ns,λg=>?_,λg hg=>?_⟩
 ·have:=a3L f y fs;omega
 ·show a6N ((T7 f y fs).lookup g) (if g=f then some u else mA g)
  rw [a2L]
  by_cases q:g=f
  ·rw [if_pos q,if_pos q];exact ry
  ·rw [if_neg q,if_neg q];exact r g
 ·by_cases q:g=f
  ·rw [q];exact (a3J f y fs).1
  ·refine (a3J f y fs).2 g (wi g λz=>hg ?_)
   show (if g=f then some u else mA g)=none
   rw [if_neg q];exact z
theorem Inv.made (I:Inv X pins σ H s):Inv X pins σ (upd (upd H s.heap.objs.size (.own (s.heap.objs.size + 1))) (s.heap.objs.size + 1) (.ins C s.heap.objs.size []))
  { s with heap:=(s.heap.push PySem.W.emptyDict).push (PySem.W.instObj C s.heap.objs.size) }:=by
 have e1:(s.heap.push PySem.W.emptyDict).get? s.heap.objs.size=some PySem.W.emptyDict:=Heap.get?_push_size s.heap rfl;have e2:((s.heap.push PySem.W.emptyDict).push (PySem.W.instObj C s.heap.objs.size)).get? (s.heap.objs.size + 1)=some (PySem.W.instObj C s.heap.objs.size):=by
  have:=Heap.get?_push_size (s.heap.push PySem.W.emptyDict) (o:=PySem.W.instObj C s.heap.objs.size) rfl
  rwa [Heap.size_push] at this
 have e3:(s.heap.push PySem.W.emptyDict).Ns s.heap.objs.size (λ_=>none):=⟨PySem.W.emptyDict,#[],_,e1,rfl,(λe he=>absurd he .(26)),λ_=>rfl⟩;have I1:=I.laid (a:=s.heap.objs.size) (o:=.own (s.heap.objs.size + 1)) (h':=s.heap.push PySem.W.emptyDict) (t':=s.toks) (λb u q=>Heap.get?_push_of_some _ q) (Nat.le_refl _) ⟨_,e1⟩;refine I1.laid (a:=s.heap.objs.size + 1) (o:=.ins C s.heap.objs.size []) (t':=s.toks) (λb u q=>Heap.get?_push_of_some _ q) (Nat.le_of_eq (Heap.size_push _ _)) ?_;have ne:s.heap.objs.size ≠ s.heap.objs.size + 1:=Nat.ne_of_lt (Nat.lt_succ_self _);refine ⟨by rw [j4 ne,b7],Nat.zero_le _,ne,e2,λ_=>none,(Heap.Ns1.of_empty e3).at λo q=>Heap.get?_push_of_some _ q,λ_=>True.intro,λy hy=>absurd rfl hy⟩
theorem b2y {prog:Program}{w:World}{env:Env}{e:Expr}{f:Str}{pos:Pos}{s:Shared}{Q:Value->Shared->Prop}(hb:attributeBase e f env (eval e env)=eval e env)
  (h:wpAny (model prog w) A (eval e env) (λo s₁=>wpAny (model prog w) A (getAttr o f true) Q E s₁) E s):wpAny (model prog w) A (eval (.Attribute e f pos) env) Q E s :=
 Attribute_any_ h (by rw [arm_eval_Attribute,hb])
end
noncomputable def c9i (K:PySem.W.Frag)(ta:TE)(f:Str):TE:=fun σ H Q=>ta σ H λx H1=>∃ a C dx fs v,x = .ref a/\H1 a=some (.ins C dx fs)/\Cls K C/\J9 K C f/\fs.lookup f=some v/\Q v H1
noncomputable def c0n (K:PySem.W.Frag)(ta tv:TE)(f:Str):TS:=λD σ H=>tv σ H λy H1=>ta σ H1 λx H2=>∃ a C dx fs,x = .ref a/\H2 a=some (.ins C dx fs)/\Cls K C/\J9 K C f/\fs.length < 1000 /\
 D.nx σ (upd H2 a (.ins C dx (T7 f y fs)))
section
variable {X:Cx}{o e value:Expr}{f:Str}{pos pos' tpos:Pos}{ta tv:TE}
theorem c7d (he:PE X e ta)(hb:attributeBase e f X.env (eval e X.env)=eval e X.env):PE X (.Attribute e f pos) (c9i X.K ta f):=by
 intro pins s σ H Q I h;refine b2y hb (thn (he pins s σ H _ I h) λu s1 ⟨x,H1,I1,rx,a,C,dx,fs,v,ex,ea,c,n,l,q⟩=>?_);subst ex;obtain rfl:u=Value.ref a:=rx;exact b2s I1 ea c n l λu' s2 I2 ru=>⟨v,H1,I2,ru,q⟩
theorem a8m (ha:PE X o ta)(hv:PE X value tv)(hs:swapsWith value (some (.Attribute o f pos')) pos.line X.env=pure false):PS X (.Assign [.Attribute o f pos'] value pos) (c0n X.K ta tv f):=by
 intro pins s σ H D I h;refine plainObj_wpAny_Assign_Attribute (thn (hv pins s σ H _ I h) λu s1 ⟨y,H1,I1,ry,q⟩=>thn (ha pins s1 σ H1 _ I1 q) λov s2 ⟨x,H2,I2,rx,a,C,dx,fs,ex,ea,c,n,l,q2⟩=>?_) hs;subst ex;obtain rfl:ov=Value.ref a:=rx;exact b7p I2 ea c n l ry λs3 I3=>⟨σ,_,I3,q2⟩
theorem b4Z {pl:Sem Bool}{m:Str}{apos:Pos}{args:List Expr}{pins:List (Addr × Obj)}{s:Shared}{σ:St}{H:Hp}{Q:Value->Shared->Prop}{te:TE}(he:PE X e te)(I:Inv X pins σ H s)
  (h:te σ H λx H1=>∃ a C dx fs g,x = .ref a/\H1 a=some (.ins C dx fs)/\Cls X.K C/\b6n X.K C m g/\fs.lookup m=none /\
   ∀ s1,Inv X pins σ H1 s1->wpAny (model X.prog X.w) X.A (callWith pos (.ref g) [.ref a] (backTo pos (starEach args X.env)) (backToKw pos (keywordEach [] X.env))) Q X.xe s1)
  (ht:eval (.Call (.Attribute e m apos) args [] pos) X.env=(do
   let ov ← eval e X.env
   standAt apos.atName
   let (f,first) ← holding [ov] (getMethod ov m pl)
   callWith pos f first (backTo pos (starEach args X.env)) (backToKw pos (keywordEach [] X.env)))) :
  wpAny (model X.prog X.w) X.A (eval (.Call (.Attribute e m apos) args [] pos) X.env) Q X.xe s:=by
 refine PySem.W.methodCall_KW (pl:=pl) (thn (he pins s σ H _ I h) λu s1 ⟨x,H1,I1,rx,a,C,dx,fs,g,ex,ea,c,k,l,q⟩=>?_) ht;subst ex;obtain rfl:u=Value.ref a:=rx;exact a7r I1 ea c k l (q s1 I1)
end
section
variable {X:Cx}{pins:List (Addr × Obj)}{σ:St}{H:Hp}{s:Shared}{A:Around}{E:Value->Shared->Prop}{Q:Value->Shared->Prop}{c:Value}{b:Bool}
inductive a3K (K:PySem.W.Frag)(H:Hp):V->Value->Prop where
 | non:a3K K H .non (.type "NoneType")
 | bl (x:Bool):a3K K H (.bl x) (.type "bool")
 | int (i:Int):a3K K H (.int i) (.type "int")
 | str (x:Str):a3K K H (.str x) (.type "str")
 | flt (x:UInt64):a3K K H (.flt x) (.type "float")
 | lst {a:Addr} {xs:List V} (e:H a=some (.lst xs)):a3K K H (.ref a) (.type "list")
 | frz {a:Addr} {o:Obj} {xs:List V} (e:H a=some (.frz o (.lst xs))):a3K K H (.ref a) (.type "list")
 | tup {a:Addr} {xs:List V} (e:H a=some (.tup xs)):a3K K H (.ref a) (.type "tuple")
 | dK {a:Addr} {kvs:List (Key × V)} (e:H a=some (.dK kvs)):a3K K H (.ref a) (.type "dict")
 | dT {a:Addr} {kvs:List (List Key × V)} (e:H a=some (.dT kvs)):a3K K H (.ref a) (.type "dict")
 | ins {a C dx:Addr} {fs:List (Str × V)} (e:H a=some (.ins C dx fs)) (cl:Cls K C) (ha:PySem.W.findIn K (.ref C) "__class__" = some (some (.builtin "object.__class__")))
   (hn:PySem.W.specialIn K (.builtin "object.__class__") "__get__" = some (some (.builtin "getset_descriptor.__get__"))) (htk:PySem.W.takesIn K (.builtin "object.__class__")=some true)
   (hm:PySem.W.mroIn K C (.type "object")=some true):a3K K H (.ref a) (.ref C)
theorem b6C {x:V}{u t:Value}(I:Inv X pins σ H s)(rx:u7 x u)(ty:a3K X.K H x t)(e:PySem.W.kitOne X.K t c=some b)(h:∀ tk,Q (.bool b) { s with toks:=tk }) :
  wpAny (model X.prog X.w) A (call (.builtin "isinstance") [u,c]) Q E s:=by
 cases ty with
 | non=>cases (show u=Value.none from rx);exact PySem.W.kia_one PySem.W.kitx_none I.kIn True.intro e (λz=>nomatch z) h
 | bl y=>cases (show u=Value.bool y from rx);exact PySem.W.kia_one PySem.W.kitx_bool I.kIn True.intro e (λz=>nomatch z) h
 | int i=>obtain ⟨t,q⟩:=(show ∃ t,u=Value.int i t from rx);cases q;exact PySem.W.kia_one PySem.W.kitx_int I.kIn True.intro e (λz=>nomatch z) h
 | str y=>obtain ⟨t,q⟩:=(show ∃ t,u=Value.str y t from rx);cases q;exact PySem.W.kia_one PySem.W.kitx_str I.kIn True.intro e (λz=>nomatch z) h
 | flt y=>obtain ⟨t,q⟩:=(show ∃ t,u=Value.float y t from rx);cases q;exact PySem.W.kia_one PySem.W.kitx_float I.kIn True.intro e (λz=>nomatch z) h
 | @lst a xs ea =>
  cases (show u=Value.ref a from rx);obtain ⟨_,_,n,_,h1⟩:=(show E5 X.prog X.w H s.heap a (.lst xs) from I.hok a _ ea);exact PySem.W.kia_one PySem.W.kitx_list I.kIn ⟨_,h1,rfl⟩ e (λz=>nomatch z) h
 | @frz a ob xs ea =>
  cases (show u=Value.ref a from rx);obtain ⟨_,_,_,n,_,h1⟩:=(show E5 X.prog X.w H s.heap a (.frz ob (.lst xs)) from I.hok a _ ea);exact PySem.W.kia_one PySem.W.kitx_list I.kIn ⟨_,h1,rfl⟩ e (λz=>nomatch z) h
 | @tup a xs ea =>
  cases (show u=Value.ref a from rx);obtain ⟨_,_,_,p⟩:=(show E5 X.prog X.w H s.heap a (.tup xs) from I.hok a _ ea);obtain ⟨o,h1,h2,_⟩:=p;exact PySem.W.kia_one PySem.W.kitx_tuple I.kIn ⟨o,h1,h2⟩ e (λz=>nomatch z) h
 | @dK a kvs ea =>
  cases (show u=Value.ref a from rx);obtain ⟨_,_,vs,_,p⟩:=(show E5 X.prog X.w H s.heap a (.dK kvs) from I.hok a _ ea);obtain ⟨o,es,ep,h1,h2,_⟩:=p;exact PySem.W.kia_one PySem.W.kitx_dict I.kIn ⟨o,h1,h2.1⟩ e (λz=>nomatch z) h
 | @dT a kvs ea =>
  cases (show u=Value.ref a from rx);obtain ⟨_,_,xs,_,o,es,ep,h1,h2,_⟩:=(show E5 X.prog X.w H s.heap a (.dT kvs) from I.hok a _ ea);exact PySem.W.kia_one PySem.W.kitx_dict I.kIn ⟨o,h1,h2.1⟩ e (λz=>nomatch z) h
 | @ins a C dx fs ea cl ha hn htk hm =>
  cases (show u=Value.ref a from rx);obtain ⟨mA,O,_⟩:=a6O I.hok ea;obtain ⟨od,J,_⟩:=O.look;exact PySem.W.kia_one (PySem.W.kitx_own (cl.get _) cl.hd ha hn htk hm) I.kIn J e (λz=>nomatch z) h
end
structure G4 (k:Nat)(A:Around):Prop where
 hd:A.handled=none
 dp:A.depth + 3 * k + 5 < recursionLimit
 un:A.units + 16 * k + 200 < cLine
theorem G4.mono {j k:Nat}{A:Around}(r:G4 k A)(h:j<=k):G4 j A:=⟨r.hd,by have:=r.dp;omega,by have:=r.un;omega⟩
theorem G4.deeper {k:Nat}{A:Around}(r:G4 (k + 1) A)(env:Env):G4 k (A.deeper env) :=
 ⟨r.hd,by have:=r.dp;show A.depth + 1 + 3 * k + 5 < _;omega,by have:=r.un;show A.units + 3 + 16 * k + 200 < _;omega⟩
theorem b6r {A:Around} {C:Addr} {us:List Value} {kw:List (Str × Value)}:(A.under (.builtin "type.__call__" ⟨.ref C :: us,kw⟩)).depth=A.depth + 1:=by
 first | rfl | simp [Around.under,Code.weight,Code.isCreation,Code.isGuard,Code.isCaller,Code.frames,Code.isFrame,guardIds]
theorem b5r {A:Around} {C:Addr} {us:List Value} {kw:List (Str × Value)}:(A.under (.builtin "type.__call__" ⟨.ref C :: us,kw⟩)).units=A.units + 1:=by
 first | rfl | simp [Around.under,Code.cUnits,Code.frames,Code.isFrame]
theorem G4.make {k:Nat} {A:Around} (r:G4 (k + 1) A) (C:Addr) (us:List Value) (kw:List (Str × Value)):G4 k (A.under (.builtin "type.__call__" ⟨.ref C :: us,kw⟩)) :=
 ⟨r.hd,by have:=r.dp;rw [b6r];omega,by have:=r.un;rw [b5r];omega⟩
theorem G4.depth {k:Nat}{A:Around}(r:G4 k A):A.depth < recursionLimit:=by have:=r.dp;omega
theorem G4.units {k:Nat}{A:Around}(r:G4 k A):A.units + 64 < cLine:=by have:=r.un;omega
noncomputable def a1I:TA:=λ_ H Q=>Q [] H
noncomputable def a9y (ta:TE)(tr:TA):TA:=fun σ H Q=>ta σ H λx H1=>tr σ H1 λxs H2=>Q (x :: xs) H2
section
variable {X:Cx}{e:Expr}{es:List Expr}{te:TE}{t:TA}{pos:Pos}
theorem a7:PA X [] a1I:=λ_ _ _ _ H Q I h=>Calls.spliced_nil ⟨[],H,I,.nil,h⟩
theorem a6 (ha:PE X e te)(hr:PA X es t)(hs:starEach (e :: es) X.env=(false,eval e X.env) :: starEach es X.env:=by rfl):PA X (e :: es) (a9y te t):=by
 intro pos pins s σ H Q I h;rw [hs]
 show wpAny _ _ (spliced ((false,eval e X.env) :: backTo pos (starEach es X.env))) _ _ s
 refine Calls.spliced_cons (thn (ha pins s σ H _ I h) λu s1 ⟨x,H1,I1,r1,q1⟩=>?_);exact thn (hr pos pins s1 σ H1 _ I1 q1) λus s2 ⟨xs,H2,I2,r2,q2⟩=>⟨x :: xs,H2,I2,.cons r1 r2,q2⟩
noncomputable def c4m (t:TA):TE:=fun σ H Q=>t σ H λxs H1=>xs.length <= sizeLine/\∀ p,H1 p=none->Q (.ref p) (upd H1 p (.tup xs))
noncomputable def a7C (t:TA):TE:=fun σ H Q=>t σ H λxs H1=>xs.length <= sizeLine/\∀ p,H1 p=none->Q (.ref p) (upd H1 p (.lst xs))
theorem E9 {x1}(h:PA X es t):PE X (.Tuple es x1 pos) (c4m t):=by
 intro pins s σ H Q I hq;refine wpAny_Tuple_spliced (thn (h pos pins s σ H _ I hq) λus s1 ⟨xs,H1,I1,r,z,q⟩=>⟨by rw [← r.length];exact z,?_⟩);have hf:H1 s1.heap.objs.size=none:=I1.hok.fresh (Nat.le_refl _);refine ⟨.ref s1.heap.objs.size,upd H1 s1.heap.objs.size (.tup xs),I1.laid (t':=s1.toks) (λb u e=>Heap.get?_push_of_some _ e) (Nat.le_refl _) ?_,rfl,q _ hf⟩;exact ⟨z,us,r,⟨_,Heap.get?_push_size _ rfl,rfl,_,rfl⟩⟩
theorem c7 (h:PA X es t):PE X (.List es pos) (a7C t):=by
 intro pins s σ H Q I hq;refine wpAny_List_spliced (thn (h pos pins s σ H _ I hq) λus s1 ⟨xs,H1,I1,r,z,q⟩=>⟨by rw [← r.length];exact z,?_⟩);have hf:H1 s1.heap.objs.size=none:=I1.hok.fresh (Nat.le_refl _);refine ⟨.ref s1.heap.objs.size,upd H1 s1.heap.objs.size (.lst xs),I1.laid (t':=s1.toks) (λb u e=>Heap.get?_push_of_some _ e) (Nat.le_refl _) ?_,rfl,q _ hf⟩;exact ⟨z,us,0,r,Heap.get?_push_size _ rfl⟩
end
noncomputable abbrev Sp:=List V->Hp->VK->XK->Prop
noncomputable abbrev CXT:=List Env->Hp->Shared->XK->Value->Shared->Prop
structure b0u (P:Program)(w:World)(K:PySem.W.Frag)(mg:Str->Option Value)(base:Heap)(A:Around)(outer:List Env)(s:Shared)(H:Hp):Prop where
 frames:A.frames=some outer
 mod:Mod K mg base
 bs:∀ b o,base.get? b=some o->s.heap.get? b=some o/\H b=none
 bsz:base.objs.size <= s.heap.objs.size
 funs:s.heap.FunFrames base outer
 frf:∀ b∈frs outer,H b=none
 hok:HOk P w H s.heap
 bare:AllBare s.gens
noncomputable def CE (outer:List Env)(P:Program)(w:World)(H:Hp)(s:Shared)(Q:VK)(u:Value)(s':Shared):Prop :=
 ∃ v H',s'.os=s.os /\ AllBare s'.gens /\ Un (frs outer) [] H H' s.heap s'.heap /\ HOk P w H' s'.heap /\ u7 v u/\Q v H'
noncomputable def CR (CX:CXT)(outer:List Env)(P:Program)(w:World)(H:Hp)(s:Shared)(Q:VK)(E:XK)(r:Result)(s':Shared):Prop :=
 match r with
 | .ok (.ret u)=>CE outer P w H s Q u s'
 | .ok _=>False
 | .error e=>CX outer H s E e s'
structure a7n (P:Program)(w:World)(K:PySem.W.Frag)(mg:Str->Option Value)(base:Heap)(CX:CXT)(k:Nat)(f:Addr)(fd:FuncData)(ps:List Str)(sp:Sp):Prop where
 len:∀ vs H Q E,sp vs H Q E->vs.length=ps.length
 run:∀ (A:Around) (outer:List Env) (s:Shared) (H:Hp) (args:Args) (us:List Value) (vs:List V) (Q:VK) (E:XK),G4 k A->b0u P w K mg base A outer s H->BindsTo s fd args (ps.zip us)->o8 vs us->sp vs H Q E ->
  codeAny (model P w) A (.call (.ref f) args) (CR CX outer P w H s Q E) s
theorem b0u.make {P:Program}{w:World}{K:PySem.W.Frag}{mg:Str->Option Value}{base:Heap}{A:Around}{outer:List Env}{s:Shared}{H:Hp}(e:b0u P w K mg base A outer s H)(C:Addr)(us:List Value)(kw:List (Str × Value)) :
  b0u P w K mg base (A.under (.builtin "type.__call__" ⟨.ref C :: us,kw⟩)) outer s H:=⟨by first | exact e.frames | (simpa [Around.under,Code.envs,Code.isFrame,pushEnvs] using e.frames),e.mod,e.bs,e.bsz,e.funs,e.frf,e.hok,e.bare⟩
section
variable {X:Cx}{pins:List (Addr × Obj)}{σ:St}{H:Hp}{s s':Shared}
theorem Inv.env0 (I:Inv X pins σ H s):b0u X.prog X.w X.K X.mg X.base X.A X.stack s H :=
 ⟨I.ok.frames,I.ok.mod,I.bs,Nat.le_trans I.ok.bsz I.sz,I.stack,I.stkFree,I.hok,I.bare⟩
theorem Inv.after {Q:VK}{u:Value}(I:Inv X pins σ H s)(h:CE X.stack X.prog X.w H s Q u s'):EP X pins σ Q u s':=by
 obtain ⟨v,H',os,bare,un,hok,r,q⟩:=h;obtain ⟨hh,g,d,t,os'⟩:=s';obtain rfl:os'=s.os:=os;exact ⟨v,H',I.call (h':=hh) (g':=g) (d':=d) (t':=t) (ch:=[]) un hok bare (λb z=>absurd z .(26)),r,q⟩
end
noncomputable def b7E (sp:Sp)(dvs:List V)(E:XK)(t:TA):TE:=fun σ H Q=>t σ H λvs H1=>sp (vs ++ dvs) H1 Q E
noncomputable def a5P (C:Addr)(m:Str)(sp:Sp)(dvs:List V)(E:XK)(ta:TE)(t:TA):TE:=fun σ H Q=>ta σ H λx H1=>∃ a dx fs,x = .ref a/\H1 a=some (.ins C dx fs)/\fs.lookup m=none /\
 t σ H1 λvs H2=>sp (x :: (vs ++ dvs)) H2 Q E
noncomputable def b0Z (C:Addr)(sp:Sp)(dvs:List V)(E:XK)(t:TA):TE:=fun σ H Q=>t σ H λvs H1=>∀ x dx,H1 x=none->H1 dx=none->dx≠x ->
 sp (.ref x :: (vs ++ dvs)) (upd (upd H1 dx (.own x)) x (.ins C dx [])) (λv H2=>v = .non /\ Q (.ref x) H2) E
noncomputable def O9 (K:PySem.W.Frag)(fd:FuncData)(ps:List Str)(ds:List Value):Prop :=
 ∀ (s:Shared) (us:List Value),K.In s.heap -> (us ++ ds).length=ps.length -> BindsTo s fd ⟨us,[]⟩ (ps.zip (us ++ ds))
theorem O9.all {K:PySem.W.Frag}{fd:FuncData}{ps:List Str}(h:∀ us:List Value,us.length=ps.length -> bindArgs fd ⟨us,[]⟩=pure (ps.zip us)):O9 K fd ps []:=λs us _ hl=>by
 rw [List.append_nil] at hl ⊢;exact .of_eq (h us hl)
noncomputable def a6n (CX:CXT)(X:Cx)(E:XK):Prop:=∀ (pins:List (Addr × Obj)) (σ:St) (H:Hp) (s:Shared) (e:Value) (s':Shared),Inv X pins σ H s->CX X.stack H s E e s'->X.xe e s'
section
variable {X:Cx}{CX:CXT}{k:Nat}{f C:Addr}{fd:FuncData}{ps:List Str}{sp:Sp}{dvs:List V}{ds:List Value}{E:XK}{x m:Str}{p pos apos:Pos}{e o:Expr}{es:List Expr}{ta:TE}{t:TA}
theorem b0q {pins:List (Addr × Obj)}{σ:St}{H:Hp}{s:Shared}{Q:VK}{us:List Value}{vs:List V}(F:a7n X.prog X.w X.K X.mg X.base CX k f fd ps sp)(hr:G4 k X.A)(hb:O9 X.K fd ps ds)(hd:o8 dvs ds)(hx:a6n CX X E)
  (I:Inv X pins σ H s) (r:o8 vs us) (h:sp (vs ++ dvs) H Q E):wpAny (model X.prog X.w) X.A (call (.ref f) us) (EP X pins σ Q) X.xe s:=by
 have r2:o8 (vs ++ dvs) (us ++ ds):=r.append hd;have hl:(us ++ ds).length=ps.length:=by rw [← r2.length];exact F.len _ _ _ _ h
 refine wpAny_call (codeAny_mono (F.run X.A X.stack s H ⟨us,[]⟩ (us ++ ds) (vs ++ dvs) Q E hr I.env0 (hb s us I.kIn hl) r2 h) λr s' hq=>?_);cases r with
 | error e=>exact hx pins σ H s e s' I hq
 | ok fl =>
  cases fl with
  | ret u=>exact I.after hq
  | next=>exact False.elim hq
  | brk=>exact False.elim hq
  | cont=>exact False.elim hq
theorem b5v (F:a7n X.prog X.w X.K X.mg X.base CX k f fd ps sp)(hr:G4 k X.A)(hg:Gl X x)(hm:X.mg x=some (.ref f))(hk:PySem.W.keepIn X.K (.ref f)=true)(hb:O9 X.K fd ps ds)(hd:o8 dvs ds)(hx:a6n CX X E)
  (ha:PA X (e :: es) t) (hdb:(x == ("__debug__" : Str))=false:=by decide) (he:starEach (e :: es) X.env=(false,eval e X.env) :: starEach es X.env:=by rfl) (hpl:(backTo pos (starEach es X.env)).any (·.1)=false:=by rfl) :
  PE X (.Call (.Name x p) (e :: es) [] pos) (b7E sp dvs E t):=by
 intro pins s σ H Q I h;refine wpAny_Call_Name_kw (a5x I hg hm ?_ hdb);refine PySem.W.callWith_K (h₀:=X.base) I.ok.mod.kin hk (thn (ha pos pins s σ H _ I h) λus s1 ⟨vs,H1,I1,r,q⟩=>⟨I1.kIn,?_⟩) he hpl;exact b0q F hr hb hd hx I1 r q
theorem b2d {pl:Sem Bool}(he:PE X o ta)(c:Cls X.K C)(hm:b6n X.K C m f)(F:a7n X.prog X.w X.K X.mg X.base CX k f fd ps sp)(hr:G4 k X.A)(hb:O9 X.K fd ps ds)(hd:o8 dvs ds)(hx:a6n CX X E)(ha:PA X (e :: es) t)
  (hst:starEach (e :: es) X.env=(false,eval e X.env) :: starEach es X.env:=by rfl) (hpl:(backTo pos (starEach es X.env)).any (·.1)=false:=by rfl)
  (ht:eval (.Call (.Attribute o m apos) (e :: es) [] pos) X.env=(do
   let ov ← eval o X.env
   standAt apos.atName
   let (f,first) ← holding [ov] (getMethod ov m pl)
   callWith pos f first (backTo pos (starEach (e :: es) X.env)) (backToKw pos (keywordEach [] X.env))):=by rfl) :
  PE X (.Call (.Attribute o m apos) (e :: es) [] pos) (a5P C m sp dvs E ta t):=by
 intro pins s σ H Q I h;refine PySem.W.methodCall_KW (pl:=pl) (thn (he pins s σ H _ I h) λu s1 ⟨x,H1,I1,rx,a,dx,fs,ex,ea,l,q⟩=>?_) ht;subst ex;obtain rfl:u=Value.ref a:=rx;refine a7r I1 ea c hm l ?_;refine PySem.W.callWith_K (first:=[.ref a]) (h₀:=X.base) I.ok.mod.kin hm.kp (thn (ha pos pins s1 σ H1 _ I1 q) λus s2 ⟨vs,H2,I2,r,q2⟩=>⟨I2.kIn,?_⟩) hst hpl;exact b0q (us:=.ref a :: us) (vs:=.ref a :: vs) F hr hb hd hx I2 (.cons rfl r) q2
theorem b0I {pl:Sem Bool}(he:PE X o ta)(c:Cls X.K C)(hm:b6n X.K C m f)(F:a7n X.prog X.w X.K X.mg X.base CX k f fd ps sp)(hr:G4 k X.A)(hb:O9 X.K fd ps ds)(hd:o8 dvs ds)(hx:a6n CX X E)
  (ht:eval (.Call (.Attribute o m apos) [] [] pos) X.env=(do
   let ov ← eval o X.env
   standAt apos.atName
   let (f,first) ← holding [ov] (getMethod ov m pl)
   callWith pos f first (backTo pos (starEach [] X.env)) (backToKw pos (keywordEach [] X.env))):=by rfl) :
  PE X (.Call (.Attribute o m apos) [] [] pos) (a5P C m sp dvs E ta a1I):=by
 intro pins s σ H Q I h;refine PySem.W.methodCall_KW (pl:=pl) (thn (he pins s σ H _ I h) λu s1 ⟨x,H1,I1,rx,a,dx,fs,ex,ea,l,q⟩=>?_) ht;subst ex;obtain rfl:u=Value.ref a:=rx;refine a7r I1 ea c hm l ?_;exact PySem.W.callWith_K0 (first:=[.ref a]) I1.kIn hm.kp (b0q (us:=[.ref a]) (vs:=[.ref a]) F hr hb hd hx I1 (.cons rfl .nil) q)
structure Mk (K:PySem.W.Frag)(C f:Addr):Prop where
 makes:PySem.W.makesIn K C=true
 init:PySem.W.findIn K (.ref C) "__init__" = some (some (.ref f))
 fn:PySem.W.isFn K (.ref f)=true
 kp:PySem.W.keepIn K (.ref C)=true
theorem b5G {pins:List (Addr × Obj)}{σ:St}{H:Hp}{s:Shared}{Q:VK}{us:List Value}{vs:List V}(M:Mk X.K C f)(F:a7n X.prog X.w X.K X.mg X.base CX k f fd ps sp)(hr:G4 (k + 1) X.A)(hb:O9 X.K fd ps ds)(hd:o8 dvs ds)
  (hx:a6n CX X E) (I:Inv X pins σ H s) (r:o8 vs us)
  (h:∀ x dx,H x=none->H dx=none->dx≠x->sp (.ref x :: (vs ++ dvs)) (upd (upd H dx (.own x)) x (.ins C dx [])) (λv H2=>v = .non /\ Q (.ref x) H2) E) :
  wpAny (model X.prog X.w) X.A (call (.ref C) us) (EP X pins σ Q) X.xe s:=by
 have hq:=h (s.heap.objs.size + 1) s.heap.objs.size (I.hok.fresh (Nat.le_succ _)) (I.hok.fresh (Nat.le_refl _)) (Nat.ne_of_lt (Nat.lt_succ_self _));have I2:=Inv.made (C:=C) I;have r2:o8 (V.ref (s.heap.objs.size + 1) :: (vs ++ dvs)) (Value.ref (s.heap.objs.size + 1) :: (us ++ ds)):=.cons rfl (r.append hd);have hl:(Value.ref (s.heap.objs.size + 1) :: us ++ ds).length=ps.length:=by
  have e:=r2.length;rw [F.len _ _ _ _ hq] at e;exact e.symm
 refine wpAny_call (b6I (f:=f) I.kIn M.makes M.init (beq_iff_eq.mp M.fn) (codeAny_mono (F.run _ X.stack _ _ ⟨Value.ref (s.heap.objs.size + 1) :: us,[]⟩ (Value.ref (s.heap.objs.size + 1) :: (us ++ ds)) _ _ E (hr.make C us [])
  (I2.env0.make C us []) (hb _ (Value.ref (s.heap.objs.size + 1) :: us) I2.kIn hl) r2 hq) λr s' hq'=>?_))
 cases r with
 | error e=>exact hx pins σ _ _ e s' I2 hq'
 | ok fl =>
  cases fl with
  | ret u =>
   obtain ⟨v,H',I3,rv,ev,q3⟩:=I2.after hq';subst ev;exact ⟨rv,⟨V.ref (s.heap.objs.size + 1),H',I3,rfl,q3⟩⟩
  | next=>exact False.elim hq'
  | brk=>exact False.elim hq'
  | cont=>exact False.elim hq'
theorem b1I (M:Mk X.K C f)(F:a7n X.prog X.w X.K X.mg X.base CX k f fd ps sp)(hr:G4 (k + 1) X.A)(hg:Gl X x)(hm:X.mg x=some (.ref C))(hb:O9 X.K fd ps ds)(hd:o8 dvs ds)(hx:a6n CX X E)
  (hdb:(x == ("__debug__" : Str))=false:=by decide):PE X (.Call (.Name x p) [] [] pos) (b0Z C sp dvs E a1I):=by
 intro pins s σ H Q I h;refine wpAny_Call_Name_kw (a5x I hg hm ?_ hdb);exact PySem.W.callWith_K0 I.kIn M.kp (b5G (us:=[]) M F hr hb hd hx I .nil h)
end
structure g0 (N P:List Str)(sc:Scope):Prop where
 kind:sc.kind = .function
 co:sc.isCoroutine=false
 gen:sc.isGenerator=false
 nd:N.Nodup
 pre:N.take P.length=P
 par:∀ x∈P,sc.names.lookup x=some .local \/ sc.names.lookup x=some .cell
 nofree:∀ y∈sc.names,y.2 ≠ .free
theorem b7a {kindOf:Str->Option NameKind}{x:Str}:∀ {binds:List (Str × Value)} {m:Str->Option Value},(∀ v,(x,v) ∉ binds)->bindL kindOf binds m x=m x
 | [],_,_=>rfl
 | (n,v) :: r,m,h=>by
  unfold bindL;rw [b7a λw hw=>h w (List.mem_cons_of_mem _ hw)]
  split
  ·have:x≠n:=by rintro rfl;exact h v List.mem_cons_self
   simp [this]
  ·rfl
theorem b9a {kindOf:Str->Option NameKind}{x:Str}:∀ {binds:List (Str × Value)} {m:Str->Option Value},(∀ v,(x,v) ∉ binds)->bindC kindOf binds m x=m x
 | [],_,_=>rfl
 | (n,v) :: r,m,h=>by
  unfold bindC;rw [b9a λw hw=>h w (List.mem_cons_of_mem _ hw)]
  split
  ·rfl
  ·have:x≠n:=by rintro rfl;exact h v List.mem_cons_self
   simp [this]
theorem b8a {kindOf:Str->Option NameKind}{x:Str}{v:Value}:∀ {P:List Str} {vs:List Value} {i:Nat} {m:Str->Option Value},P.Nodup -> P[i]? = some x->vs[i]? = some v->kindOf x=some .local ->
  bindL kindOf (P.zip vs) m x=some v
 | [],_,_,_,_,h,_,_=>by simp at h
 | _ :: _,[],_,_,_,_,h,_=>by simp at h
 | p :: P,w :: vs,0,m,nd,h1,h2,hk=>by
  simp at h1 h2;subst h1;subst h2
  show bindL kindOf ((p,w) :: P.zip vs) m p=_
  unfold bindL;rw [b7a λv hv=>(List.nodup_cons.mp nd).1 (List.of_mem_zip hv).1,if_pos hk]
  simp
 | p :: P,w :: vs,i + 1,m,nd,h1,h2,hk=>by
  show bindL kindOf ((p,w) :: P.zip vs) m x=_
  unfold bindL;exact b8a (i:=i) (List.nodup_cons.mp nd).2 (by simpa using h1) (by simpa using h2) hk
theorem b0b {kindOf:Str->Option NameKind}{x:Str}{v:Value}:∀ {P:List Str} {vs:List Value} {i:Nat} {m:Str->Option Value},P.Nodup -> P[i]? = some x->vs[i]? = some v->kindOf x≠some .local ->
  bindC kindOf (P.zip vs) m x=some v
 | [],_,_,_,_,h,_,_=>by simp at h
 | _ :: _,[],_,_,_,_,h,_=>by simp at h
 | p :: P,w :: vs,0,m,nd,h1,h2,hk=>by
  simp at h1 h2;subst h1;subst h2
  show bindC kindOf ((p,w) :: P.zip vs) m p=_
  unfold bindC;rw [b9a λv hv=>(List.nodup_cons.mp nd).1 (List.of_mem_zip hv).1,if_neg hk]
  simp
 | p :: P,w :: vs,i + 1,m,nd,h1,h2,hk=>by
  show bindC kindOf ((p,w) :: P.zip vs) m x=_
  unfold bindC;exact b0b (i:=i) (List.nodup_cons.mp nd).2 (by simpa using h1) (by simpa using h2) hk
noncomputable def Y5 (N:List Str)(vs:List V):St:=vs.map some ++ List.replicate (N.length - vs.length) none
noncomputable def a2s (CX:CXT)(P:Program)(w:World)(K:PySem.W.Frag)(mg:Str->Option Value)(base:Heap)(N:List Str)(qual:Str)(scope:Scope)(f:Addr)(cd:Value)(A:Around)(outer:List Env)(s:Shared)(H:Hp)(E:XK):Cx where
 prog:=P
 w:=w
 K:=K
 mg:=mg
 base:=base
 A:=A.deeper (envOfC qual scope s.heap.objs.size f cd)
 N:=N
 sZ:=s
 HZ:=H
 env:=envOfC qual scope s.heap.objs.size f cd
 outer:=outer
 stack:=envOfC qual scope s.heap.objs.size f cd :: outer
 ex:=[]
 calm:=true
 fn:=λ_=>true
 pn:=[]
 xe:=λe s'=>wpAny (model P w) (A.deeper (envOfC qual scope s.heap.objs.size f cd)) (leaving (envOfC qual scope s.heap.objs.size f cd) e) (λ_ s''=>CX outer H s E e s'') (λe' s''=>CX outer H s E e' s'') s'
theorem b7m {sc:Scope}{n:Nat}{x:Str}(h:sc.names.lookup x=some .cell):∃ c,(cellsFrom n sc.names []).lookup x=some c:=by
 have q:=PySem.W.cellsFrom_some sc.names n [] (.inl h);exact Option.isSome_iff_exists.mp q
theorem b7C {CX:CXT}{P:Program}{w:World}{K:PySem.W.Frag}{mg:Str->Option Value}{base:Heap}{N ps:List Str}{qual:Str}{scope:Scope}{f:Addr}{cd:Value}{A:Around}{outer:List Env}{s s1:Shared}{H:Hp}{E:XK}{us:List Value}{vs:List V}
  (S:g0 N ps scope) (hd:A.handled=none) (e0:b0u P w K mg base A outer s H) (hl:vs.length=ps.length) (r:o8 vs us)
  (x:InCallC s s.heap.objs.size (bindL (envOfC qual scope s.heap.objs.size f cd).kindOf (ps.zip us) λ_=>none) (cellsFrom (s.heap.objs.size + 1) scope.names []) (bindC (envOfC qual scope s.heap.objs.size f cd).kindOf (ps.zip us) λ_=>none) s1) :
  Inv (a2s CX P w K mg base N qual scope f cd A outer s H E) [] (Y5 N vs) H s1:=by
 have hpl:ps.length <= N.length:=by have:=congrArg List.length S.pre;rw [List.length_take] at this;omega
 obtain ⟨h1,tk,rfl,hk⟩:=x.done;have noA:∀ b:Addr,b ∉ (a2s CX P w K mg base N qual scope f cd A outer s H E).ex:=λb z=>absurd (show b∈([]:List Addr) from z) .(26);refine ⟨⟨e0.mod,S.kind,rfl,rfl,Nat.le_refl _,λy z c h1 h2=>?_,λy hy=>?_,λy c _ h=>?_,λ_=>hd,Around.frames_deeper e0.frames,.inr ⟨rfl,rfl⟩,λb z=>absurd z (noA b),e0.bs,e0.bsz,λb _ _=>noA b,λb z=>absurd z (noA b),e0.funs,e0.frf⟩,
  rfl,e0.bare,Un.kept hk,⟨_,x.toInCall.ns,λi y v h1 h2 h3=>?_⟩,λy c h=>⟨_,x.cell y c h⟩,e0.hok.fresh (Nat.le_refl _),λy c h=>?_,λp hp=>absurd (show p∈([]:List (Addr × Obj)) from hp) .(26),e0.hok.kept hk,?_⟩
 ·exact name_of_addr x.apart (PySem.mem_of_lookup h1) (PySem.mem_of_lookup h2)
 ·have hy:scope.names.lookup y=some .cell \/ scope.names.lookup y=some .free:=hy
  rcases hy with hy | hy
  ·exact b7m hy
  ·exact absurd rfl (S.nofree _ (PySem.mem_of_lookup hy))
 ·exact Nat.le_of_lt (x.above y c (PySem.mem_of_lookup h))
 ·have hi:i < vs.length:=by
   unfold Y5 at h2
   by_cases hi:i < vs.length
   ·exact hi
   ·rw [List.getElem?_append_right (by simpa using hi)] at h2;rw [List.getElem?_replicate] at h2
    split at h2 <;> cases h2
  have ha:vs[i]? = some v:=by
   unfold Y5 at h2;rw [List.getElem?_append_left (by simpa using hi),List.getElem?_map] at h2;cases e:vs[i]? with
   | none=>rw [e] at h2;cases h2
   | some a=>rw [e] at h2;cases h2;rfl
  obtain ⟨u,hu,rv⟩:=r.get ha;have hp:ps[i]? = some y:=by
   rw [← S.pre,List.getElem?_take_of_lt .(25)];exact h1
  have ndP:ps.Nodup:=by rw [← S.pre];exact S.nd.sublist (List.take_sublist _ _)
  refine ⟨u,rv,?_⟩
  rcases S.par y (List.mem_of_getElem? hp) with k | k
  ·exact .inl ⟨k,b8a ndP hp hu k⟩
  ·obtain ⟨c,e⟩:=b7m (n:=s.heap.objs.size + 1) k;refine .inr ⟨.inl k,c,e,?_⟩;have q:=x.cell y c e;rw [b0b ndP hp hu (by show scope.names.lookup y≠_;rw [k];decide)] at q;exact q
 ·exact e0.hok.fresh (Nat.le_of_lt (x.above y c (PySem.mem_of_lookup h)))
 ·unfold Y5
  show _=N.length
  rw [List.length_append,List.length_map,List.length_replicate]
  omega
theorem b2K {CX:CXT}{P:Program}{w:World}{K:PySem.W.Frag}{mg:Str->Option Value}{base:Heap}{k:Nat}{f:Addr}{name qual:Str}{params:Arguments}{body:List Stmt}{scope:Scope}{dV kV doc pm cdv ct oc:Value}{an od:Option Addr}
  {osl:Array (Option Value)} {N ps:List Str} {sp:Sp} (lk:K.lookup f=some ⟨oc,od,.func (PySem.W.fnOf name qual params body scope dV kV doc pm an cdv ct),osl⟩) (hcd:PySem.W.codeIn K cdv qual=true) (S:g0 N ps scope)
  (len:∀ vs H Q E,sp vs H Q E->vs.length=ps.length)
  (hbody:∀ (A:Around) (outer:List Env) (s:Shared) (H:Hp) (vs:List V) (Q:VK) (E:XK),G4 k (A.deeper (envOfC qual scope s.heap.objs.size f cdv))->sp vs H Q E ->
   ∃ t,PSs (a2s CX P w K mg base N qual scope f cdv A outer s H E) body t/\t { nx:=λ_ H'=>Q .non H',rt:=Q } (Y5 N vs) H) :
  a7n P w K mg base CX (k + 1) f (PySem.W.fnOf name qual params body scope dV kV doc pm an cdv ct) ps sp:=by
 refine ⟨len,λA outer s H args us vs Q E hr e0 hb r hsp=>?_⟩;have hl:=len _ _ _ _ hsp;have KX:K.In s.heap:=e0.mod.kin.keeps λb o e=>(e0.bs b o e).1;have lim:s.heap.NoLimit:=e0.mod.nolimit.keeps λb o e=>(e0.bs b o e).1;have hkind:∀ y∈ps.zip us,scope.names.lookup y.1=some .local \/ (scope.names.lookup y.1=some .cell /\ ((cellsFrom (s.heap.objs.size + 1) scope.names []).lookup y.1).isSome=true):=λ⟨n,v⟩ hy=>by
  rcases S.par n (List.of_mem_zip hy).1 with q | q
  ·exact .inl q
  ·exact .inr ⟨q,PySem.W.cellsFrom_some _ _ _ (.inl q)⟩
 refine codeAny_call_function hr.depth (KX _ _ lk) rfl S.co S.gen rfl (PySem.W.codeRec_of KX hcd) (hb _ _ _ _ ?_);refine wpAny_newFunctionEnv_cells S.kind hkind λenv he s1 x=>?_;subst he;refine ⟨lim.keeps x.toInCall.keep,codeAny_func ?_⟩;obtain ⟨t,ht,hq⟩:=hbody A outer s H vs Q E (hr.deeper _) hsp;have I:Inv (a2s CX P w K mg base N qual scope f cdv A outer s H E) [] (Y5 N vs) H s1:=b7C S hr.hd e0 hl r x;refine wpAny_mono (ht [] s1 (Y5 N vs) H _ I hq) (λfl s' hs=>?_) λe s' hs=>hs;have fin:∀ {σ':St} {H':Hp} {v:V} {u:Value},Inv (a2s CX P w K mg base N qual scope f cdv A outer s H E) [] σ' H' s'->u7 v u->Q v H'->CE outer P w H s Q u s' :=
  λ{σ' H' v u} J rv q=>⟨v,H',J.os,J.bare,J.base,J.hok,rv,q⟩
 cases fl with
 | ret u =>
  obtain ⟨v,σ',H',J,rv,q⟩:=hs;exact fin J rv q
 | next =>
  obtain ⟨σ',H',J,q⟩:=hs;exact fin (v:=V.non) (u:=Value.none) J rfl q
 | brk =>
  obtain ⟨_,_,_,q⟩:=hs;exact False.elim q
 | cont =>
  obtain ⟨_,_,_,q⟩:=hs;exact False.elim q
section
variable {X:Cx}{x:Str}{p pos:Pos}{e:Expr}{es:List Expr}{t:TA}{id T:String}{r:List V->Hp->VK->Prop}
noncomputable def tCB (r:List V->Hp->VK->Prop)(t:TA):TE:=fun σ H Q=>t σ H λvs H1=>r vs H1 Q
theorem f7 (hc:B6 X (.builtin id) r) (hg:Gl X x) (hm:X.mg x=none) (hv:bootBuiltins x=some (.builtin id)) (ha:PA X (e :: es) t) (hn:x ≠ "__name__":=by decide) (hdb:(x == ("__debug__" : Str))=false:=by decide)
  (he:starEach (e :: es) X.env=(false,eval e X.env) :: starEach es X.env:=by rfl) (hpl:(backTo pos (starEach es X.env)).any (·.1)=false:=by rfl):PE X (.Call (.Name x p) (e :: es) [] pos) (tCB r t):=by
 intro pins s σ H Q I h;refine wpAny_Call_Name_kw (a2J I hg hm hv ?_ hn hdb);exact PyProof.Rows.callWith_builtin1 (thn (ha pos pins s σ H _ I h) λus s1 ⟨vs,H1,I1,r1,q1⟩=>hc pins s1 σ H1 vs us Q I1 r1 q1) he hpl
theorem w6 (hc:B6 X (.type T) r) (hg:Gl X x) (hm:X.mg x=none) (hv:bootBuiltins x=some (.type T)) (ha:PA X (e :: es) t) (hn:x ≠ "__name__":=by decide) (hdb:(x == ("__debug__" : Str))=false:=by decide)
  (he:starEach (e :: es) X.env=(false,eval e X.env) :: starEach es X.env:=by rfl) (hpl:(backTo pos (starEach es X.env)).any (·.1)=false:=by rfl):PE X (.Call (.Name x p) (e :: es) [] pos) (tCB r t):=by
 intro pins s σ H Q I h;refine wpAny_Call_Name_kw (a2J I hg hm hv ?_ hn hdb);exact PyProof.Rows.callWith_type1 (thn (ha pos pins s σ H _ I h) λus s1 ⟨vs,H1,I1,r1,q1⟩=>hc pins s1 σ H1 vs us Q I1 r1 q1) he hpl
end
end L2
namespace HT
open PySem PyProof.Rows
section
variable {prog:Program}{w:World}{A:Around}{E:Value->Shared->Prop}{s:Shared}
theorem b7X {t b:Addr}{vs ws:List Value}{Q:Value->Shared->Prop}(ht:IsTup s.heap t vs.toArray)(hb:IsTup s.heap b ws.toArray)(hv:vs≠[])
  (h1:ws=[]->Q (.ref t) s) (h2:ws≠[]->Q (.ref s.heap.objs.size) { s with heap:=s.heap.push { cls:=.type "tuple",data:=.seq (vs ++ ws).toArray } })
  (hsz:vs.length + ws.length <= sizeLine):wpAny (model prog w) A (binaryOp .Add (.ref t) (.ref b)) Q E s:=by
 obtain ⟨⟨cls,dd,data,sl⟩,ho,hc,n,hd⟩:=id ht;obtain ⟨⟨cls2,dd2,data2,sl2⟩,ho2,hc2,n2,hd2⟩:=id hb;simp only at hc hd hc2 hd2;subst hc hd hc2 hd2;have e:vs.toArray ++ ws.toArray=(vs ++ ws).toArray:=by simp
 by_cases hw:ws=[]
 ·exact concat_meets ⟨_,ho,rfl⟩ ⟨_,ho2,rfl⟩ noFill_tuple_add seq_tuple_add PySem.F.slot_tuple_add PySem.F.entry_tuple_add (PySem.F.args_tuple_add_2 _ _)
   (tuple_addW1 t b vs.toArray ws.toArray n n2 dd dd2 sl sl2 (by simpa using hv) (by simp [hw])) ⟨ho,ho2,h1 hw⟩
 ·refine concat_meets ⟨_,ho,rfl⟩ ⟨_,ho2,rfl⟩ noFill_tuple_add seq_tuple_add PySem.F.slot_tuple_add PySem.F.entry_tuple_add (PySem.F.args_tuple_add_2 _ _)
   (tuple_addW2 t b vs.toArray ws.toArray n n2 dd dd2 sl sl2 (by simpa using hv) (by simpa using hw) (by rw [List.size_toArray,List.size_toArray];exact hsz)) ⟨ho,ho2,?_⟩
  rw [e];exact h2 hw
noncomputable def sIx (n d:Nat):Option Int->Nat
 | none=>d
 | some v=>if v < 0 then (v + (n:Int)).toNat else min v.toNat n
theorem b9u (n d k:Nat):sIx n d (some (k:Int))=min k n:=by
 show (if (k:Int) < 0 then ((k:Int) + (n:Int)).toNat else min (k:Int).toNat n)=min k n
 rw [if_neg .(25),Int.toNat_natCast]
theorem c6c (n d:Nat)(hd:d<=n)(o:Option Int):sIx n d o<=n:=by
 cases o with
 | none=>exact hd
 | some v =>
  show (if v < 0 then (v + (n:Int)).toNat else min v.toNat n)<=n
  by_cases hv:v < 0
  ·rw [if_pos hv];omega
  ·rw [if_neg hv];exact Nat.min_le_right _ _
theorem b1y (v:Int)(n d:Nat):(if v < 0 then max (v + (n:Int)) 0 else min v (n:Int))=((sIx n d (some v):Nat):Int):=by
 show (if v < 0 then max (v + (n:Int)) 0 else min v (n:Int))=(((if v < 0 then (v + (n:Int)).toNat else min v.toNat n):Nat):Int)
 by_cases hv:v < 0
 ·simp only [if_pos hv];omega
 ·simp only [if_neg hv];omega
theorem b7t (lo hi:Option Int)(n:Nat):Builtin.Slice.sliceAdjust lo hi 1 (n:Int)=(((sIx n 0 lo:Nat):Int),((sIx n n hi:Nat):Int)):=by
 have h1:¬ ((1:Int) < 0):=by omega
 unfold Builtin.Slice.sliceAdjust;simp only [h1,if_false];refine Prod.ext ?_ ?_
 ·cases lo with
  | none=>rfl
  | some v=>exact b1y v n 0
 ·cases hi with
  | none=>rfl
  | some v=>exact b1y v n n
theorem b5q (i j:Nat):Builtin.Slice.slicePlaces (i:Int) (j:Int) 1=j - i:=by
 unfold Builtin.Slice.slicePlaces;have h1:(1:Int) > 0:=by omega
 simp only [h1,if_true,Int.ediv_one]
 split <;> omega
theorem a4Q {v:Value}{o:Option Int}{Q:Option Int->Shared->Prop}(p:IsPart v o)(h:Q o s):wpAny (model prog w) A (Builtin.Slice.slicePartIndex v) Q E s:=by
 cases p with
 | none=>exact slicePart_none h
 | int i t=>exact slicePart_int h
theorem a9n {sl:Addr}{vl vu:Value}{lo hi:Option Int}{n:Nat}{Q:Int × Int × Nat->Shared->Prop}(hs:s.heap.IsSliceOf sl vl vu .none)(pl:IsPart vl lo)(pu:IsPart vu hi)
  (h:Q (((sIx n 0 lo:Nat):Int),1,sIx n n hi - sIx n 0 lo) s):wpAny (model prog w) A (Builtin.Slice.sliceApplied (.ref sl) (pure (n:Int))) Q E s:=by
 obtain ⟨os,hos,hcs,hds⟩:=id hs;unfold Builtin.Slice.sliceApplied Builtin.Slice.sliceFields;refine wpAny_bind (wpAny_bind (wpAny_field hos hds (x:=vl) rfl (wpAny_bind (wpAny_field hos hds (x:=vu) rfl (wpAny_bind (wpAny_field hos hds (x:=.none) rfl (wpAny_pure ?_)))))));refine wpAny_bind (slicePart_none ?_)
 show wpAny _ _ (if ((1:Int) == 0)=true then _ else _) _ _ s
 rw [if_neg .(24)];refine wpAny_bind (a4Q pl (wpAny_bind (a4Q pu (wpAny_bind (wpAny_pure ?_)))))
 show wpAny _ _ (match Builtin.Slice.sliceAdjust lo hi 1 (n:Int) with | (lo,hi)=>pure (lo,(1:Int),Builtin.Slice.slicePlaces lo hi 1)) _ _ s
 rw [b7t lo hi n]
 show wpAny _ _ (pure (((sIx n 0 lo:Nat):Int),(1:Int),Builtin.Slice.slicePlaces ((sIx n 0 lo:Nat):Int) ((sIx n n hi:Nat):Int) 1)) _ _ s
 rw [b5q];exact wpAny_pure h
theorem b6H (xs:Array Value)(i k:Nat):((List.range k).filterMap λ(m:Nat)=>xs[((i:Int) + (m:Int) * 1).toNat]?).toArray=((xs.toList.drop i).take k).toArray:=by
 have e:(λ(m:Nat)=>xs[((i:Int) + (m:Int) * 1).toNat]?)=λm=>xs[i + m]?:=by
  funext m
  have:((i:Int) + (m:Int) * 1).toNat=i + m:=by omega
  rw [this]
 rw [e];have:=pick_run xs i k;rw [List.filterMap_map] at this;have e2:((λx=>xs[x]?) ∘ λx=>i + x)=λm=>xs[i + m]?:=rfl;rw [e2] at this;rw [this]
theorem a0F {t sl:Addr}{items:Array Value}{vl vu:Value}{lo hi:Option Int}{Q:Value->Shared->Prop}(ht:IsTup s.heap t items)(hs:s.heap.IsSliceOf sl vl vu .none)(pl:IsPart vl lo)(pu:IsPart vu hi)
  (hw:¬ (sIx items.size 0 lo=0/\sIx items.size items.size hi=items.size))
  (h:Q (.ref s.heap.objs.size) { s with heap:=s.heap.push { cls:=.type "tuple",data:=.seq ((items.toList.drop (sIx items.size 0 lo)).take (sIx items.size items.size hi - sIx items.size 0 lo)).toArray } })
  (hsz:items.size <= sizeLine):wpAny (model prog w) A (getItem (.ref t) (.ref sl)) Q E s:=by
 have htake:sizeOk (.seq ((items.toList.drop (sIx items.size 0 lo)).take (sIx items.size items.size hi - sIx items.size 0 lo)).toArray):=by
  show ((items.toList.drop (sIx items.size 0 lo)).take (sIx items.size items.size hi - sIx items.size 0 lo)).toArray.size <= sizeLine
  rw [List.size_toArray,List.length_take,List.length_drop,Array.length_toList]
  omega
 have hj:sIx items.size items.size hi<=items.size:=c6c _ _ (Nat.le_refl _) hi;obtain ⟨os,hos,hcs,hds⟩:=id hs;have hTs:s.TypeIs (.ref sl) "slice":=⟨os,hos,hcs⟩;unfold getItem
 try with_reducible refine wpAny_holding ?_
 first | refine wpAny_bind (wpAny_pure ?_) | skip
 refine wpAny_bind (wpAny_sequenceKey ht.typeIs .(24) ?_);refine wpAny_bind (wpAny_callSpecial?_slot (name:=Str.ofString "__getitem__") ht.typeIs PyProof.Rows.slot_tuple_getitem
  (wpAny_call_entry PyProof.Rows.slot_tuple_getitem ht.typeIs entry_tuple_getitem ?_ (args_tuple_getitem _ _)))
 show wpAny _ _ (Builtin.Tuple.tupleItemsOf (.ref t) >>= _) _ _ s
 refine wpAny_bind (tupleItemsOf_ ht ?_);refine wpAny_bind (wpAny_typeOf hTs ?_);rw [if_pos .(24)];refine wpAny_bind (a9n hs pl pu ?_);have hno:¬ ((((sIx items.size 0 lo:Nat):Int) == 0 && (1:Int) == 1 && (sIx items.size items.size hi - sIx items.size 0 lo) == items.size)=true):=by
  intro q;rw [Bool.and_eq_true,Bool.and_eq_true] at q;have q1:((sIx items.size 0 lo:Nat):Int)=0:=eq_of_beq q.1.1;have q2:sIx items.size items.size hi - sIx items.size 0 lo=items.size:=eq_of_beq q.2;exact hw ⟨by omega,by omega⟩
 show wpAny _ _ (if (((sIx items.size 0 lo:Nat):Int) == 0 && (1:Int) == 1 && (sIx items.size items.size hi - sIx items.size 0 lo) == items.size)=true then _ else _) _ _ s
 rw [if_neg hno,b6H]
 first
  | exact wpAny_bind (m:=Builtin.Tuple.tupleExact _) (wpAny_newObj_type (wpAny_pure ⟨_,rfl,wpAny_pure h⟩) htake)
  | exact wpAny_bind (m:=Builtin.Tuple.tupleExact _) (wpAny_newObj_type (wpAny_bind (wpAny_pure (wpAny_pure ⟨_,rfl,wpAny_pure h⟩))) htake)
  | exact wpAny_bind (wpAny_bind (m:=Builtin.Tuple.tupleExact _) (wpAny_newObj_type (wpAny_pure (wpAny_pure ⟨_,rfl,wpAny_pure h⟩)) htake))
  | exact wpAny_bind (wpAny_bind (m:=Builtin.Tuple.tupleExact _) (wpAny_newObj_type (wpAny_pure ⟨_,rfl,wpAny_pure h⟩) htake))
end
end HT
namespace L2
open PySem PySem.Spec PyProof.Rows
noncomputable abbrev TO:=St->Hp->(Option Int->Hp->Prop)->Prop
noncomputable def PO (X:Cx)(e:Option Expr)(t:TO):Prop :=
 ∀ (pins:List (Addr × Obj)) (s:Shared) (σ:St) (H:Hp) (Q:Option Int->Hp->Prop),Inv X pins σ H s->t σ H Q ->
  wpAny (model X.prog X.w) X.A (evalPart e X.env) (λu s'=>∃ o H',Inv X pins σ H' s'/\IsPart u o/\Q o H') X.xe s
noncomputable def b5P:TO:=λ_ H Q=>Q none H
noncomputable def c7i (t:TE):TO:=fun σ H Q=>t σ H λx H1=>∃ i,x = .int i/\Q (some i) H1
section
variable {X:Cx}{e:Expr}{te:TE}{lo hi:Option Expr}{tl th:TO}{pos p2:Pos}
theorem L4:PO X none b5P:=by
 intro pins s σ H Q I h;rw [evalPart_none];exact wpAny_pure ⟨none,H,I,.none,h⟩
theorem K0 (h:PE X e te):PO X (some e) (c7i te):=by
 intro pins s σ H Q I hw;rw [evalPart_some];refine thn (h pins s σ H _ I hw) λu s1 ⟨x,H1,I1,r1,q1⟩=>?_;obtain ⟨i,rfl,q⟩:=q1;obtain ⟨t,rfl⟩:=r1;exact ⟨some i,H1,I1,.int i t,q⟩
noncomputable def SlR (X:Cx)(r:V->Option Int->Option Int->Hp->VK->Prop):Prop :=
 ∀ (pins:List (Addr × Obj)) (s:Shared) (σ:St) (H:Hp) (x:V) (v vl vu:Value) (lo hi:Option Int) (sl:Addr) (Q:VK),Inv X pins σ H s->u7 x v->s.heap.IsSliceOf sl vl vu .none -> IsPart vl lo->IsPart vu hi->r x lo hi H Q ->
  ∃ T id,typeLookup (.type T) "__getitem__" = pure (some (.builtin id))/\s.TypeIs v T/\wpAny (model X.prog X.w) X.A (getItem v (.ref sl)) (EP X pins σ Q) X.xe s
theorem SlR.or {r r':V->Option Int->Option Int->Hp->VK->Prop}(h:SlR X r)(h':SlR X r'):SlR X (λx lo hi H Q=>r x lo hi H Q \/ r' x lo hi H Q):=by
 intro pins s σ H x v vl vu lo hi sl Q I rx hs pl pu q
 rcases q with q | q
 ·exact h pins s σ H x v vl vu lo hi sl Q I rx hs pl pu q
 ·exact h' pins s σ H x v vl vu lo hi sl Q I rx hs pl pu q
noncomputable def tSl (r:V->Option Int->Option Int->Hp->VK->Prop)(te:TE)(tl th:TO):TE:=fun σ H Q=>te σ H λx H1=>tl σ H1 λl H2=>th σ H2 λu H3=>r x l u H3 Q
theorem F6 {r:V->Option Int->Option Int->Hp->VK->Prop}(hr:SlR X r)(he:PE X e te)(hl:PO X lo tl)(hu:PO X hi th):PE X (.Subscript e (.Slice lo hi none p2) pos) (tSl r te tl th):=by
 intro pins s σ H Q I h;refine Subscript_ (thn (he pins s σ H _ I h) λv s1 ⟨x,H1,I1,r1,q1⟩=>?_);refine wpAny_Slice (thn (hl pins s1 σ H1 _ I1 q1) λvl s2 ⟨l,H2,I2,pl,q2⟩=>thn (hu pins s2 σ H2 _ I2 q2) λvu s3 ⟨u,H3,I3,pu,q3⟩=>?_);rw [evalPart_none];refine wpAny_pure ?_;have I4:Inv X pins σ H3 { s3 with heap:=s3.heap.push { cls:=.type "slice",data:=.fields #[vl,vu,.none] } }:=I3.kept (t':=s3.toks) λb ob q=>Heap.get?_push_of_some _ q;obtain ⟨T,id,hT,ht,hg⟩:=hr pins { s3 with heap:=s3.heap.push { cls:=.type "slice",data:=.fields #[vl,vu,.none] } } σ H3 x v vl vu l u s3.heap.objs.size Q I4 r1 (Heap.IsSliceOf.new ..) pl pu q3
 show wpAny (model X.prog X.w) X.A (subscriptTail e (.Slice lo hi none p2) v (.ref s3.heap.objs.size)) (EP X pins σ Q) X.xe { s3 with heap:=s3.heap.push { cls:=.type "slice",data:=.fields #[vl,vu,.none] } }
 exact tail_any (ops:=[.ref s3.heap.objs.size,v]) ht hT hg (by with_unfolding_all rfl)
noncomputable def a1p (xs:List V)(lo hi:Option Int):List V:=(xs.drop (HT.sIx xs.length 0 lo)).take (HT.sIx xs.length xs.length hi - HT.sIx xs.length 0 lo)
theorem a4M (xs:List V)(lo hi:Option Int):(a1p xs lo hi).length <= xs.length:=by
 unfold a1p;rw [List.length_take,List.length_drop]
 omega
noncomputable def c1n (K:PySem.W.Frag):V->Option Int->Option Int->Hp->VK->Prop:=λx lo hi H Q=>∃ a xs,x = .ref a/\SqT K H a xs /\
 ¬ (HT.sIx xs.length 0 lo=0/\HT.sIx xs.length xs.length hi=xs.length)/\∀ p,H p=none->Q (.ref p) (upd H p (.tup (a1p xs lo hi)))
theorem c0c:SlR X (c1n X.K):=by
 intro pins s σ H x v vl vu lo hi sl Q I rx hs pl pu h;obtain ⟨a,xs,rfl,hx,hw,q⟩:=h;cases rx;obtain ⟨its,r,ht,hz⟩:=I.tuple hx;have hlen:its.toArray.size=xs.length:=by rw [List.size_toArray];exact r.length.symm
 refine ⟨"tuple",_,PyProof.Rows.slot_tuple_getitem.lookup,ht.typeIs,?_⟩;refine HT.a0F ht hs pl pu (by rw [hlen];exact hw) ?_ (by rw [hlen];exact hz);rw [hlen];refine ⟨.ref s.heap.objs.size,_,I.laid (t':=s.toks) (o:=.tup (a1p xs lo hi)) (λb ob q=>Heap.get?_push_of_some _ q) (Nat.le_refl _) ?_,rfl,q _ (I.hok.fresh (Nat.le_refl _))⟩;exact ⟨Nat.le_trans (a4M xs lo hi) hz,_,(r.drop (HT.sIx xs.length 0 lo)).take (HT.sIx xs.length xs.length hi - HT.sIx xs.length 0 lo),IsTup.new _ _⟩
noncomputable def c1k (K:PySem.W.Frag):R2:=λx y H Q=>∃ a b xs ys,x = .ref a/\y = .ref b/\SqT K H a xs/\SqT K H b ys/\xs≠[]/\xs.length + ys.length <= sizeLine /\
 (ys=[]->Q (.ref a) H)/\(ys≠[]->∀ p,H p=none->Q (.ref p) (upd H p (.tup (xs ++ ys))))
theorem o8.nil_iff {xs:List V}{us:List Value}(r:o8 xs us):us=[]↔xs=[]:=by
 cases r with
 | nil=>simp
 | cons _ _=>simp
theorem b8U:OpR X (binaryOp .Add) (c1k X.K):=by
 intro pins s σ H x y v u Q I rx ry h;obtain ⟨a,b,xs,ys,rfl,rfl,ha,hb,hx,hz,q1,q2⟩:=h;cases rx;cases ry;obtain ⟨its,r1,p1,_⟩:=I.tuple ha;obtain ⟨its2,r2,p2,_⟩:=I.tuple hb;refine HT.b7X p1 p2 (λz=>hx (r1.nil_iff.mp z)) (λz=>⟨.ref a,H,I,rfl,q1 (r2.nil_iff.mp z)⟩) (λz=>?_) (by rw [← r1.length,← r2.length];exact hz);refine ⟨.ref s.heap.objs.size,_,I.laid (t':=s.toks) (o:=.tup (xs ++ ys)) (λb ob q=>Heap.get?_push_of_some _ q) (Nat.le_refl _) ?_,rfl,q2 (λw=>z (r2.nil_iff.mpr w)) _ (I.hok.fresh (Nat.le_refl _))⟩;exact ⟨by rw [List.length_append];exact hz,_,r1.append r2,IsTup.new _ _⟩
end
noncomputable def ixN (n:Nat)(i:Int):Option Nat:=if 0<=i then (if i < n then some i.toNat else none) else if -(n:Int)<=i then some (i + n).toNat else none
noncomputable def atI {α:Type}(xs:List α)(i:Int):Option α:=(ixN xs.length i).bind λj=>xs[j]?
theorem b7w {n:Nat}{i:Int}{j:Nat}(h:ixN n i=some j):seqIndex? i n=some j/\j < n/\-(n:Int)<=i/\i < n:=by
 unfold ixN at h
 by_cases h0:0<=i
 ·rw [if_pos h0] at h
  by_cases h1:i < n
  ·rw [if_pos h1] at h;have e:i.toNat=j:=Option.some.inj h;exact ⟨by rw [seqIndex_of h0 h1,e],by omega,by omega,h1⟩
  ·rw [if_neg h1] at h;cases h
 ·rw [if_neg h0] at h
  by_cases h1:-(n:Int)<=i
  ·rw [if_pos h1] at h;have e:(i + n).toNat=j:=Option.some.inj h;exact ⟨by rw [seqIndex_neg .(25) h1,e],by omega,h1,by omega⟩
  ·rw [if_neg h1] at h;cases h
theorem b7g {α:Type}{xs:List α}{i:Int}{v:α}(h:atI xs i=some v):∃ j,seqIndex? i xs.length=some j/\xs[j]? = some v/\j < xs.length /\ -(xs.length:Int)<=i/\i < xs.length:=by
 unfold atI at h;cases e:ixN xs.length i with
 | none=>rw [e] at h;cases h
 | some j =>
  rw [e] at h;obtain ⟨h1,h2,h3,h4⟩:=b7w e;exact ⟨j,h1,h,h2,h3,h4⟩
theorem B0 {α:Type}{xs:List α}{j:Nat}{v:α}(h:xs[j]? = some v):atI xs (j:Int)=some v:=by
 have hj:j < xs.length:=(List.getElem?_eq_some_iff.mp h).1;have e:ixN xs.length (j:Int)=some j:=by
  unfold ixN;rw [if_pos .(25),if_pos .(25)];simp
 unfold atI;rw [e];exact h
noncomputable def b5Y (b:Expr):Prop:=∀ o i,subscripted b false o i=operate [o,i] (getItem o i)
noncomputable def IxR (X:Cx)(r:R2):Prop :=
 ∀ (value slice:Expr) (pins:List (Addr × Obj)) (s:Shared) (σ:St) (H:Hp) (x y:V) (v u:Value) (Q:VK),Inv X pins σ H s->u7 x v->u7 y u->r x y H Q ->
  subscripted slice false v u=operate [v,u] (getItem v u)->wpAny (model X.prog X.w) X.A (subscriptTail value slice v u) (EP X pins σ Q) X.xe s
noncomputable def MtR (X:Cx)(id:String)(r:V->List V->Hp->VK->Prop):Prop :=
 ∀ (pins:List (Addr × Obj)) (s:Shared) (σ:St) (H:Hp) (x:V) (xs:List V) (v:Value) (us:List Value) (Q:VK),Inv X pins σ H s->u7 x v->o8 xs us->r x xs H Q ->
  wpAny (model X.prog X.w) X.A (call (.builtin id) (v :: us)) (EP X pins σ Q) X.xe s
section
variable {X:Cx}{a b:Expr}{ta tb:TE}{pos:Pos}
theorem IxR.or {r r':R2}(h:IxR X r)(h':IxR X r'):IxR X (λx y H Q=>r x y H Q \/ r' x y H Q):=by
 intro value slice pins s σ H x y v u Q I rx ry q hs
 rcases q with q | q
 ·exact h value slice pins s σ H x y v u Q I rx ry q hs
 ·exact h' value slice pins s σ H x y v u Q I rx ry q hs
theorem MtR.or {id:String}{r r':V->List V->Hp->VK->Prop}(h:MtR X id r)(h':MtR X id r'):MtR X id (λx xs H Q=>r x xs H Q \/ r' x xs H Q):=by
 intro pins s σ H x xs v us Q I rx rs q
 rcases q with q | q
 ·exact h pins s σ H x xs v us Q I rx rs q
 ·exact h' pins s σ H x xs v us Q I rx rs q
theorem m8 {r:R2}(hr:IxR X r)(ha:PE X a ta)(hb:PE X b tb)(hs:b5Y b):PE X (.Subscript a b pos) (tOp r ta tb):=by
 intro pins s σ H Q I h;exact Subscript_ (c9g ha hb I h λv u s2 x y H2 I2 rx ry q=>hr a b pins s2 σ H2 x y v u Q I2 rx ry q (hs _ _))
noncomputable def c0k (K:PySem.W.Frag):R2:=λx y H Q=>∃ p xs i v,x = .ref p/\y = .int i/\SqL K H p xs/\atI xs i=some v/\Q v H
noncomputable def c8j (K:PySem.W.Frag):R2:=λx y H Q=>∃ p xs i v,x = .ref p/\y = .int i/\SqT K H p xs/\atI xs i=some v/\Q v H
noncomputable def c9j:R2:=λx y H Q=>∃ z i c,x = .str z/\y = .int i/\z.length <= sizeLine/\atI z.cps.toList i=some c/\Q (.str ⟨#[c]⟩) H
theorem b1W:IxR X (c0k X.K):=by
 intro value slice pins s σ H x y v u Q I rx ry h hs;obtain ⟨p,xs,i,z,rfl,rfl,hq,he,q⟩:=h;cases rx;obtain ⟨t,rfl⟩:=ry;obtain ⟨its,r,pl,hz⟩:=I.list hq;obtain ⟨j,h1,h2,h3,h4,h5⟩:=b7g he;obtain ⟨w,ew,rw'⟩:=r.get h2;have hl:=r.length;have hn:=a1J;have fin:EP X pins σ Q w s:=⟨z,H,I,rw',q⟩
 by_cases h0:0<=i
 ·have hj:i.toNat=j:=by
   rw [seqIndex_of h0 h5] at h1;exact Option.some.inj h1
  exact item_listR pl.isList h0 .(25) (by rw [hj];simpa using ew) fin hs
 ·have hj:(i + (its.toArray.size:Int)).toNat=j:=by
   rw [seqIndex_neg .(25) h4] at h1;rw [List.size_toArray,← hl];exact Option.some.inj h1
  exact subscriptTail_builtinR (x:=w) pl.isList.typeIs slot_list_getitem.lookup
   (wpAny_getItem_list_neg (Q:=λr s'=>r=w/\EP X pins σ Q r s') pl.isList .(25) (by rw [List.size_toArray] <;> omega) .(25) (by rw [hj];simpa using ew) ⟨rfl,fin⟩) hs
theorem c8f:IxR X (c8j X.K):=by
 intro value slice pins s σ H x y v u Q I rx ry h hs;obtain ⟨p,xs,i,z,rfl,rfl,hq,he,q⟩:=h;cases rx;obtain ⟨t,rfl⟩:=ry;obtain ⟨its,r,pl,hz⟩:=I.tuple hq;obtain ⟨j,h1,h2,h3,h4,h5⟩:=b7g he;obtain ⟨w,ew,rw'⟩:=r.get h2;have hl:=r.length;have hn:=a1J;have fin:EP X pins σ Q w s:=⟨z,H,I,rw',q⟩;exact subscriptTail_builtinR (x:=w) pl.typeIs slot_tuple_getitem.lookup
  (getItem_tuple (j:=j) (Q:=λr s'=>r=w/\EP X pins σ Q r s') pl .(25) .(25) (by rw [List.size_toArray,← hl];exact h1) (by simpa using ew) ⟨rfl,fin⟩) hs
theorem c9f:IxR X c9j:=by
 intro value slice pins s σ H x y v u Q I rx ry h hs;obtain ⟨z,i,c,rfl,rfl,hz,he,q⟩:=h;obtain ⟨t,rfl⟩:=rx;obtain ⟨t',rfl⟩:=ry;obtain ⟨j,h1,h2,h3,h4,h5⟩:=b7g he;have hl:z.cps.toList.length=z.length:=by simp [Str.length]
 rw [hl] at h1 h4 h5;have hn:=a1J;exact tail_any (typeIs_str s z t) slot_str_getitem.lookup (getItem_str (c:=c) (by
  have e1:decide (i < -(2 ^ 63:Int))=false:=decide_eq_false .(25);have e2:decide (i ≥ 2 ^ 63)=false:=decide_eq_false .(25);rw [e1,e2,Bool.or_false]) (by rw [h1];simpa using h2) ⟨.str ⟨#[c]⟩,H,I.tok _,⟨_,rfl⟩,q⟩) hs
noncomputable def rIx (K:PySem.W.Frag):R2:=λx y H Q=>c0k K x y H Q \/ c8j K x y H Q \/ c9j x y H Q
theorem c0g:IxR X (rIx X.K):=b1W.or (c8f.or c9f)
theorem b3r (its:List Value) (n j:Nat) (u:Value):Obj.mapSeq (·.setIfInBounds j u) { cls:=.type "list",data:=.seq its.toArray n }={ cls:=.type "list",data:=.seq (its.set j u).toArray n }:=by
 simp [Obj.mapSeq]
theorem Inv.lst {pins:List (Addr × Obj)}{σ:St}{H:Hp}{s:Shared}{p:Addr}{xs:List V}(I:Inv X pins σ H s)(h:H p=some (.lst xs)) :
  ∃ (its:List Value) (n:Nat),o8 xs its/\s.heap.get? p=some { cls:=.type "list",data:=.seq its.toArray n }/\xs.length <= sizeLine:=by
 obtain ⟨z,its,n,r,e⟩:=I.hok p _ h;exact ⟨its,n,r,e,z⟩
theorem Inv.lstUpd {pins:List (Addr × Obj)}{σ:St}{H:Hp}{s:Shared}{p:Addr}{xs ys:List V}{its its':List Value}{n n':Nat}{f:Obj->Obj}(I:Inv X pins σ H s)(h:H p=some (.lst xs))
  (ho:s.heap.get? p=some { cls:=.type "list",data:=.seq its.toArray n }) (hf:f { cls:=.type "list",data:=.seq its.toArray n }={ cls:=.type "list",data:=.seq its'.toArray n' }) (r:o8 ys its') (hz:ys.length <= sizeLine) (t:Nat) :
  Inv X pins σ (upd H p (.lst ys)) { s with heap:=s.heap.update p f,toks:=t }:=by
 have e:(s.heap.update p f).get? p=some { cls:=.type "list",data:=.seq its'.toArray n' }:=by
  rw [Heap.get?_update_self f ho (by rw [hf] <;> rfl),hf]
 refine I.write (x:=p) (e:=p) (by rw [h];trivial) (.inl rfl) (λb u hb q=>(Heap.get?_update_other _ _ (Ne.symm hb)).trans q) ⟨_,e⟩ ?_;exact ⟨hz,its',n',r,e⟩
noncomputable def c6j:V->V->V->Hp->(Hp->Prop)->Prop:=λo i v H Q=>∃ p xs k j,o = .ref p/\i = .int k/\H p=some (.lst xs)/\ixN xs.length k=some j/\Q (upd H p (.lst (xs.set j v)))
theorem a9C:c0m X c6j:=by
 intro pins s σ H o i v ov iv u Q I ro ri rv h;obtain ⟨p,xs,k,j,rfl,rfl,hp,hj,q⟩:=h;cases ro;obtain ⟨t,rfl⟩:=ri;obtain ⟨its,n,r,ho,hz⟩:=I.lst hp;obtain ⟨h1,h2,h3,h4⟩:=b7w hj;have hl:=r.length;have hn:=a1J;have I':Inv X pins σ (upd H p (.lst (xs.set j v))) { s with heap:=s.heap.update p (Obj.mapSeq (·.setIfInBounds j u)) } :=
  I.lstUpd hp ho (b3r its n j u) (r.set rv j) (by rw [List.length_set];exact hz) s.toks
 by_cases h0:0<=k
 ·have hk:k.toNat=j:=by
   rw [seqIndex_of h0 h4] at h1;exact Option.some.inj h1
  exact PySem.W.ki_setAt ho h0 .(25) (by rw [List.size_toArray,← hl];exact h4) (by rw [hk];exact ⟨_,I',q⟩)
 ·have hk:(k + (its.toArray.size:Int)).toNat=j:=by
   rw [seqIndex_neg .(25) h3] at h1;rw [List.size_toArray,← hl];exact Option.some.inj h1
  exact PySem.W.ki_setBack ho .(25) (by rw [List.size_toArray,← hl];exact h3) .(25) (by rw [hk];exact ⟨_,I',q⟩)
theorem b9b (lo hi:Option Int)(n:Nat):(sliceBounds lo hi none n).1=((HT.sIx n 0 lo:Nat):Int)/\(sliceBounds lo hi none n).2.1=((HT.sIx n n hi:Nat):Int)/\(sliceBounds lo hi none n).2.2=1:=by
 refine ⟨?_,?_,rfl⟩
 ·cases lo with
  | none=>simp [sliceBounds,HT.sIx]
  | some i =>
   simp only [sliceBounds,HT.sIx,Option.getD_none,show (1:Int) > 0 by decide,if_true]
   by_cases h:i < 0
   ·simp only [h,if_true] <;> omega
   ·simp only [h,if_false] <;> omega
 ·cases hi with
  | none=>simp [sliceBounds,HT.sIx]
  | some i =>
   simp only [sliceBounds,HT.sIx,Option.getD_none,show (1:Int) > 0 by decide,if_true]
   by_cases h:i < 0
   ·simp only [h,if_true] <;> omega
   ·simp only [h,if_false] <;> omega
theorem a1V (its:List Value)(lo hi:Option Int):slicePick its.toArray lo hi none=((its.drop (HT.sIx its.length 0 lo)).take (HT.sIx its.length its.length hi - HT.sIx its.length 0 lo)).toArray:=by
 obtain ⟨h1,h2,h3⟩:=b9b lo hi its.toArray.size;unfold slicePick;rw [h1,h2,h3];simp only [sliceRange_one,pick_run,List.size_toArray] <;> rfl
noncomputable def c5j (K:PySem.W.Frag):V->Option Int->Option Int->Hp->VK->Prop:=λx lo hi H Q=>∃ a xs,x = .ref a/\SqL K H a xs/\∀ p,H p=none->Q (.ref p) (upd H p (.lst (a1p xs lo hi)))
theorem b0S:SlR X (c5j X.K):=by
 intro pins s σ H x v vl vu lo hi sl Q I rx hs pl pu h;obtain ⟨a,xs,rfl,hx,q⟩:=h;cases rx;obtain ⟨its,r,ht,hz⟩:=I.list hx;have hlen:=r.length;refine ⟨"list",_,slot_list_getitem.lookup,ht.isList.typeIs,?_⟩;refine wpAny_getItem_list_slice ht.isList hs pl pu .none .(26) ?_ (by rw [List.size_toArray] <;> omega);rw [a1V,← hlen];refine ⟨.ref s.heap.objs.size,_,I.laid (t':=s.toks) (o:=.lst (a1p xs lo hi)) (λb ob q=>Heap.get?_push_of_some _ q) (Nat.le_refl _) ?_,rfl,q _ (I.hok.fresh (Nat.le_refl _))⟩;exact ⟨Nat.le_trans (a4M xs lo hi) hz,_,0,(r.drop (HT.sIx xs.length 0 lo)).take (HT.sIx xs.length xs.length hi - HT.sIx xs.length 0 lo),Heap.get?_push_size _ rfl⟩
noncomputable def a6L:V->Bool
 | .non=>true
 | .bl _=>true
 | .int _=>true
 | .str _=>true
 | _=>false
noncomputable def eqV:V->V->Bool
 | .non,.non=>true
 | .bl a,.bl b=>a == b
 | .bl a,.int b=>(if a then 1 else 0) == b
 | .int a,.bl b=>a == (if b then 1 else 0)
 | .int a,.int b=>a == b
 | .str a,.str b=>a == b
 | _,_=>false
theorem c6g {A:Around}{s:Shared}{y x:V}{u v:Value}(ry:u7 y u)(rx:u7 x v)(fy:a6L y=true)(fx:a6L x=true):SeqAt.EqAt A s u v (eqV y x):=by
 cases y with
 | non =>
  cases ry;cases x with
  | non=>cases rx;exact SeqAt.EqAt.same _
  | bl b=>cases rx;exact SeqAt.EqAt.none_bool b
  | int b=>obtain ⟨t,rfl⟩:=rx;exact SeqAt.EqAt.none_int b t
  | str b=>obtain ⟨t,rfl⟩:=rx;exact SeqAt.EqAt.none_str b t
  | _=>exact absurd (show false=true from fx) Bool.false_ne_true
 | bl a =>
  cases ry;cases x with
  | non=>cases rx;exact SeqAt.EqAt.bool_none a
  | bl b=>cases rx;exact SeqAt.EqAt.bool_bool a b
  | int b=>obtain ⟨t,rfl⟩:=rx;exact SeqAt.EqAt.bool_int a b t
  | str b=>obtain ⟨t,rfl⟩:=rx;exact SeqAt.EqAt.bool_str a b t
  | _=>exact absurd (show false=true from fx) Bool.false_ne_true
 | int a =>
  obtain ⟨t',rfl⟩:=ry;cases x with
  | non=>cases rx;exact SeqAt.EqAt.int_none a t'
  | bl b=>cases rx;exact SeqAt.EqAt.int_bool a t' b
  | int b=>obtain ⟨t,rfl⟩:=rx;exact SeqAt.EqAt.int_int a t' b t
  | str b=>obtain ⟨t,rfl⟩:=rx;exact SeqAt.EqAt.int_str a t' b t
  | _=>exact absurd (show false=true from fx) Bool.false_ne_true
 | str a =>
  obtain ⟨t',rfl⟩:=ry;cases x with
  | non=>cases rx;exact SeqAt.EqAt.str_none a t'
  | bl b=>cases rx;exact SeqAt.EqAt.str_bool a t' b
  | int b=>obtain ⟨t,rfl⟩:=rx;exact SeqAt.EqAt.str_int a t' b t
  | str b=>obtain ⟨t,rfl⟩:=rx;exact SeqAt.EqAt.str_str a t' b t
  | _=>exact absurd (show false=true from fx) Bool.false_ne_true
 | _=>exact absurd (show false=true from fy) Bool.false_ne_true
noncomputable def eqU (x:V)(u:Value):Bool:=match u with
 | .none=>eqV .non x
 | .bool b=>eqV (.bl b) x
 | .int i _=>eqV (.int i) x
 | .str z _=>eqV (.str z) x
 | _=>false
theorem b6K {x y:V}{u:Value}(r:u7 y u)(f:a6L y=true):eqU x u=eqV y x:=by
 cases y with
 | non=>cases r;rfl
 | bl b=>cases r;rfl
 | int i=>obtain ⟨t,rfl⟩:=r;rfl
 | str z=>obtain ⟨t,rfl⟩:=r;rfl
 | _=>exact absurd (show false=true from f) Bool.false_ne_true
theorem b8g {x:V}:∀ {xs:List V} {us:List Value},o8 xs us->xs.all a6L=true->us.any (eqU x)=xs.any λy=>eqV y x
 | _,_,.nil,_=>rfl
 | y :: xs,u :: us,.cons r t,f=>by
  rw [List.all_cons,Bool.and_eq_true] at f;rw [List.any_cons,List.any_cons,b6K r f.1,b8g t f.2]
theorem a5S {A:Around}{s:Shared}{x:V}{v:Value}(rx:u7 x v)(fx:a6L x=true):∀ {xs:List V} {us:List Value},o8 xs us->xs.all a6L=true->∀ u∈us,SeqAt.EqAt A s u v (eqU x u)
 | _,_,.nil,_=>λu hu=>by cases hu
 | y :: xs,u :: us,.cons r t,f=>λu' hu=>by
  rw [List.all_cons,Bool.and_eq_true] at f
  rcases List.mem_cons.mp hu with rfl | hu
  ·rw [b6K r f.1];exact c6g r rx f.1 fx
  ·exact a5S rx fx t f.2 u' hu
noncomputable def inV (x:V)(xs:List V):Bool:=xs.any λy=>eqV y x
noncomputable def rIn (K:PySem.W.Frag)(neg:Bool):R2:=λx y H Q=>∃ p xs,y = .ref p/\(SqL K H p xs \/ SqT K H p xs)/\a6L x=true/\xs.all a6L=true/\Q (.bl (if neg then !inV x xs else inV x xs)) H
theorem b2C:OpR X (compareOp .In) (rIn X.K false):=by
 intro pins s σ H x y v u Q I rx ry h;obtain ⟨p,xs,rfl,hq,fx,fs,q⟩:=h;cases ry
 rcases hq with hq | hq
 ·obtain ⟨its,r,pl,hz⟩:=I.list hq;refine SeqAt.in_listAt (eqU x) pl.isList (λw hw=>a5S rx fx r fs w (by simpa using hw)) ⟨.bl _,H,I,rfl,?_⟩;rw [show its.toArray.any (eqU x)=its.any (eqU x) by simp,b8g r fs];exact q
 ·obtain ⟨its,r,pl,hz⟩:=I.tuple hq;refine SeqAt.in_tupleAt (eqU x) pl (λw hw=>a5S rx fx r fs w (by simpa using hw)) ⟨.bl _,H,I,rfl,?_⟩;rw [show its.toArray.any (eqU x)=its.any (eqU x) by simp,b8g r fs];exact q
theorem B6.or {f:Value}{r r':List V->Hp->VK->Prop}(h:B6 X f r)(h':B6 X f r'):B6 X f (λxs H Q=>r xs H Q \/ r' xs H Q):=by
 intro pins s σ H xs us Q I rs q
 rcases q with q | q
 ·exact h pins s σ H xs us Q I rs q
 ·exact h' pins s σ H xs us Q I rs q
theorem b1g:B6 X (.type "list") (λxs H Q=>∃ p ys,xs=[.ref p]/\(SqL X.K H p ys \/ SqT X.K H p ys)/\∀ l,H l=none->Q (.ref l) (upd H l (.lst ys))):=by
 intro pins s σ H xs us Q I r h;obtain ⟨p,ys,rfl,hq,q⟩:=h;obtain ⟨u,rfl,rx⟩:=a9t r;cases rx;have fin:∀ (its:List Value),o8 ys its->ys.length <= sizeLine->∀ (h':Heap) (c':Nat),(∀ b o',s.heap.get? b=some o'->h'.get? b=some o') ->
   h'.get? s.heap.objs.size=some { cls:=.type "list",dict:=none,data:=.seq its.toArray c',slots:=#[] }->EP X pins σ Q (.ref s.heap.objs.size) { s with heap:=h' }:=λits r' hz h' c' kp e =>
  ⟨.ref s.heap.objs.size,_,I.laid (t':=s.toks) kp (Nat.le_refl _) (show E5 X.prog X.w _ h' _ (.lst ys) from ⟨hz,its,c',r',e⟩),rfl,q _ (I.hok.fresh (Nat.le_refl _))⟩
 rcases hq with hq | hq
 ·obtain ⟨its,r',pl,hz⟩:=I.list hq;have hlen:=r'.length;obtain ⟨o,ho,hc,n,hd⟩:=pl.isList;exact call_list_seq p (.inl rfl) ho hc hd (λh' c' kp e=>fin its r' hz h' c' kp e) (by simp only [List.size_toArray] <;> omega)
 ·obtain ⟨its,r',pl,hz⟩:=I.tuple hq;have hlen:=r'.length;obtain ⟨o,ho,hc,n,hd⟩:=pl;exact call_list_seq p (.inr rfl) ho hc hd (λh' c' kp e=>fin its r' hz h' c' kp e) (by simp only [List.size_toArray] <;> omega)
theorem a6W:B6 X (.type "tuple") (λxs H Q=>∃ p ys,xs=[.ref p]/\((SqL X.K H p ys/\∀ l,H l=none->Q (.ref l) (upd H l (.tup ys))) \/ (SqT X.K H p ys/\Q (.ref p) H))):=by
 intro pins s σ H xs us Q I r h;obtain ⟨p,ys,rfl,h⟩:=h;obtain ⟨u,rfl,rx⟩:=a9t r;cases rx
 rcases h with ⟨hq,q⟩ | ⟨hq,q⟩
 ·obtain ⟨its,r',pl,hz⟩:=I.list hq;have hlen:=r'.length;refine call_tuple_list pl.isList (λh' kp=>?_) (by simp only [List.size_toArray] <;> omega);have I1:Inv X pins σ H { s with heap:=h' }:=I.kept (t':=s.toks) kp;have I2:Inv X pins σ (upd H h'.objs.size (.tup ys)) { s with heap:=h'.push { cls:=.type "tuple",data:=.seq its.toArray } } :=
   I1.laid (t':=s.toks) (λb o e=>Heap.get?_push_of_some _ e) (Nat.le_refl _) (show E5 X.prog X.w _ _ _ (.tup ys) from ⟨hz,its,r',IsTup.new _ _⟩)
  exact ⟨.ref h'.objs.size,_,I2,rfl,q _ (I1.hok.fresh (Nat.le_refl _))⟩
 ·obtain ⟨its,r',pl,hz⟩:=I.tuple hq;exact call_tuple_same pl ⟨.ref p,H,I,rfl,q⟩
noncomputable def tyV (K:PySem.W.Frag)(T:String)(x:V)(H:Hp):Prop:=match x with
 | .str _=>T = "str"
 | .int _=>T = "int"
 | .ref p=>(T = "list"/\∃ xs,SqL K H p xs) \/ (T = "tuple"/\∃ o,K.lookup p=some o/\o.cls = .type "tuple"/\o.dict=none) \/
   (T = "dict"/\((∃ kvs,H p=some (.dK kvs)) \/ ∃ kvs,H p=some (.dT kvs))) \/ (T = "set"/\∃ S n,H p=some (.set S n))
 | _=>False
theorem c3a {pins:List (Addr × Obj)}{σ:St}{H:Hp}{s:Shared}{T:String}{x:V}{v:Value}(I:Inv X pins σ H s)(r:u7 x v)(ty:tyV X.K T x H) :
  s.TypeIs v T/\∀ a,v = .ref a->∃ ob,s.heap.get? a=some ob/\ob.dict=none:=by
 cases x with
 | str z =>
  obtain ⟨t,rfl⟩:=r;cases (show T = "str" from ty);exact ⟨typeIs_str s z t,λ_ e=>nomatch e⟩
 | int i =>
  obtain ⟨t,rfl⟩:=r;cases (show T = "int" from ty);exact ⟨typeIs_int s i t,λ_ e=>nomatch e⟩
 | ref p =>
  cases r
  rcases ty with ⟨rfl,xs,hq⟩ | ⟨rfl,o,hk,hc,hd⟩ | ⟨rfl,hk⟩ | ⟨rfl,S,n,hk⟩
  ·obtain ⟨its,_,pl,_⟩:=I.list hq;refine ⟨pl.isList.typeIs,λa e=>?_⟩;cases e;obtain ⟨o,n,e,c,hd,_⟩:=pl;exact ⟨o,e,hd⟩
  ·refine ⟨⟨o,I.kIn p o hk,hc⟩,λa e=>?_⟩;cases e;exact ⟨o,I.kIn _ o hk,hd⟩
  ·have z:∃ o,s.heap.get? p=some o/\o.ExactDict:=by
    rcases hk with ⟨kvs,hk⟩ | ⟨kvs,hk⟩
    ·obtain ⟨_,_,_,_,o,_,_,e,ex,_⟩:=I.hok p _ hk;exact ⟨o,e,ex⟩
    ·obtain ⟨_,_,_,_,o,_,_,e,ex,_⟩:=I.hok p _ hk;exact ⟨o,e,ex⟩
   obtain ⟨o,e,ex⟩:=z;refine ⟨⟨o,e,ex.1⟩,λa e2=>?_⟩;cases e2;exact ⟨o,e,ex.2.1⟩
  ·obtain ⟨o,_,_,_,e,ex,_⟩:=I.hok p _ hk;refine ⟨⟨o,e,ex.1⟩,λa e2=>?_⟩;cases e2;exact ⟨o,e,ex.2.1⟩
 | _=>exact False.elim ty
noncomputable def tBM (K:PySem.W.Frag)(T:String)(r:V->List V->Hp->VK->Prop)(to:TE)(t:TA):TE:=fun σ H Q=>to σ H λx H1=>tyV K T x H1/\t σ H1 λxs H2=>r x xs H2 Q
variable {o e:Expr}{es:List Expr}{to:TE}{t:TA}{name:Str}{apos cpos:Pos}{T id:String}{r:V->List V->Hp->VK->Prop}
theorem a0w (pa:PlainAttrs T) (slot:Slot T name id) (hty:typeOf (.builtin id)=pure (.type "method_descriptor")) (hm:MtR X id r) (ho:PE X o to) (ha:PA X (e :: es) t)
  (hbase:attributeBase o name X.env (eval o X.env)=eval o X.env:=by rfl)
  (hfew:((backTo cpos (starEach (e :: es) X.env)).all (λx=>!x.1) && (backToKw cpos (keywordEach [] X.env)).all (λx=>x.1.isSome)
   && decide ((e :: es).length + ([]:List Keyword).length + (if ([]:List Keyword).isEmpty then 0 else 1) < 30))=true:=by rfl)
  (hline:(apos.endLine == cpos.line)=true:=by rfl) (hs:starEach (e :: es) X.env=(false,eval e X.env) :: starEach es X.env:=by rfl) (hplain:(backTo cpos (starEach es X.env)).any (·.1)=false:=by rfl) :
  PE X (.Call (.Attribute o name apos) (e :: es) [] cpos) (tBM X.K T r to t):=by
 intro pins s σ H Q I h;refine wpAny_Call_method_late hbase hfew hline rfl (thn (ho pins s σ H _ I h) λv s1 ⟨x,H1,I1,r1,ty,q1⟩=>?_);obtain ⟨h1,h2⟩:=c3a I1 r1 ty;refine ⟨T,id,pa,slot,hty,h1,h2,?_⟩;have hA:=ha cpos pins s1 σ H1 _ I1 q1;rw [hs] at hA ⊢;refine Calls.callWith_builtin (by show (false || (backTo cpos (starEach es X.env)).any (·.1))=false;rw [hplain] <;> rfl) (Calls.evalArgs_plain ?_);exact thn hA λus s2 ⟨vs,H2,I2,r2,q2⟩=>hm pins s2 σ H2 x vs v us Q I2 r1 r2 q2
end
noncomputable def MtM (X:Cx)(id:String)(r:V->List V->Hp->VK->Prop):Prop :=
 ∀ (pins:List (Addr × Obj)) (s:Shared) (σ:St) (H:Hp) (x:V) (xs:List V) (v:Value) (us:List Value) (Q:VK),Inv X pins σ H s->u7 x v->o8 xs us->r x xs H Q ->
  wpAny (model X.prog X.w) X.A (call (.builtin id) (v :: us)) (EP X pins σ Q) X.xe s
theorem o8.one:∀ {x:V} {us:List Value},o8 [x] us->∃ u,us=[u]/\u7 x u
 | _,_,.cons r .nil=>⟨_,rfl,r⟩
theorem o8.two:∀ {x y:V} {us:List Value},o8 [x,y] us->∃ u v,us=[u,v]/\u7 x u/\u7 y v
 | _,_,_,.cons r (.cons q .nil)=>⟨_,_,rfl,r,q⟩
theorem o8.rep {xs:List V}{us:List Value}(h:o8 xs us):∀ k:Nat,o8 (List.replicate k xs).flatten (List.replicate k us).flatten
 | 0=>.nil
 | k + 1=>by
  rw [List.replicate_succ,List.replicate_succ,List.flatten_cons,List.flatten_cons];exact o8.append h (o8.rep h k)
theorem a7Z (its:List Value):∀ (k:Nat) (acc:List Value),
  List.foldl (λx1 x2=>x1 ++ x2) acc.toArray (List.replicate k its.toArray)=(acc ++ (List.replicate k its).flatten).toArray
 | 0,acc=>by simp
 | k + 1,acc=>by
  have e:acc.toArray ++ its.toArray=(acc ++ its).toArray:=by simp
  have e2:(acc ++ its) ++ (List.replicate k its).flatten=acc ++ (List.replicate (k + 1) its).flatten:=by
   rw [List.replicate_succ,List.flatten_cons,List.append_assoc]
  rw [← e2,← a7Z its k (acc ++ its),← e,List.replicate_succ,List.foldl_cons]
section
variable {X:Cx}{pins:List (Addr × Obj)}{σ:St}{H:Hp}{s:Shared}{l b:Addr}{xs ys zs:List V}
theorem Inv.lset {its its':List Value}{n:Nat}{f:Array Value->Array Value}{t':Nat}(I:Inv X pins σ H s)(hH:H l=some (.lst xs))
  (e:s.heap.get? l=some { cls:=.type "list",data:=.seq its.toArray n }) (hf:f its.toArray=its'.toArray) (hv:o8 ys its') (hz:ys.length <= sizeLine) :
  Inv X pins σ (upd H l (.lst ys)) { s with heap:=s.heap.update l (Obj.mapSeq f),toks:=t' }:=by
 have q:=PySem.IsL.update e f;rw [hf] at q;refine I.write (x:=l) (e:=l) (by rw [hH];exact trivial) (.inl rfl) (λb' u hb hu=>(Heap.get?_update_other s.heap (Obj.mapSeq f) (Ne.symm hb)).trans hu) ⟨_,q⟩ ?_;exact ⟨hz,its',_,hv,q⟩
theorem Inv.lnew {its:List Value}{t':Nat}(I:Inv X pins σ H s)(hv:o8 ys its)(hz:ys.length <= sizeLine) :
  Inv X pins σ (upd H s.heap.objs.size (.lst ys)) { s with heap:=s.heap.push { cls:=.type "list",data:=.seq its.toArray },toks:=t' } :=
 I.laid (λ_ _ q=>Heap.get?_push_of_some _ q) (Nat.le_refl _) ⟨hz,its,0,hv,Heap.get?_push_size _ rfl⟩
theorem Inv.fresh (I:Inv X pins σ H s):H s.heap.objs.size=none:=I.hok.fresh (Nat.le_refl _)
theorem Inv.lstM (I:Inv X pins σ H s) (hH:H l=some (.lst xs)):xs.length <= sizeLine/\∃ (its:List Value) (n:Nat),o8 xs its/\xs.length=its.length /\ s.heap.get? l=some { cls:=.type "list",data:=.seq its.toArray n }:=by
 obtain ⟨z,its,n,r,e⟩:=I.hok l _ hH;exact ⟨z,its,n,r,r.length,e⟩
theorem a0S {n:Nat}(h:n<=sizeLine):Builtin.List.listTooLong n=false:=by
 unfold Builtin.List.listTooLong;exact decide_eq_false .(25)
end
section
variable {X:Cx}
noncomputable def b7T:V->List V->Hp->VK->Prop:=λx vs H Q=>∃ l xs y,x = .ref l/\vs=[y]/\H l=some (.lst xs)/\xs.length < sizeLine/\Q .non (upd H l (.lst (xs ++ [y])))
theorem M5:MtM X "list.append" b7T:=by
 intro pins s σ H x vs v us Q I rx rv h;obtain ⟨l,xs,y,rfl,rfl,hH,hz,q⟩:=h;cases rx;obtain ⟨u,rfl,ru⟩:=rv.one;obtain ⟨z,its,n,r,hl,e⟩:=I.lstM hH;refine call_meets F.slot_list_append ⟨_,e,rfl⟩ F.entry_list_append (F.args_list_append_2 _ _) (PySem.list_append l its.toArray n u (by rw [List.size_toArray];omega)) ⟨e,?_⟩;refine ⟨.non,_,I.lset (its':=its ++ [u]) hH e .(26) (r.append (.cons ru .nil)) ?_,rfl,q⟩;rw [List.length_append,List.length_singleton]
 omega
noncomputable def b4T:V->List V->Hp->VK->Prop:=λx vs H Q=>∃ l b xs zs,x = .ref l/\vs=[.ref b]/\H l=some (.lst xs)/\H b=some (.lst zs)/\xs.length + zs.length <= sizeLine/\Q .non (upd H l (.lst (xs ++ zs)))
theorem b4C:MtM X "list.extend" b4T:=by
 intro pins s σ H x vs v us Q I rx rv h;obtain ⟨l,b,xs,zs,rfl,rfl,hH,hB,hz,q⟩:=h;cases rx;obtain ⟨u,rfl,ru⟩:=rv.one;cases ru;obtain ⟨z,its,n,r,hl,e⟩:=I.lstM hH;obtain ⟨z2,its2,n2,r2,hl2,e2⟩:=I.lstM hB;have hsz:its.toArray.size + its2.toArray.size <= sizeLine:=by rw [List.size_toArray,List.size_toArray];omega
 have hlong:¬ (!its.toArray.isEmpty && Builtin.List.listTooLong (its.toArray.size + its2.toArray.size))=true:=by
  rw [a0S hsz,Bool.and_false];exact Bool.false_ne_true
 refine call_meets F.slot_list_extend ⟨_,e,rfl⟩ F.entry_list_extend (F.args_list_extend_2 _ _)
  (AutoSeq1.list_extend_list_list_0 l its.toArray n b its2.toArray n2 hlong (by rw [List.size_toArray];omega) .(25)) ⟨e,e2,?_⟩
 refine ⟨.non,_,I.lset (its':=its ++ its2) hH e .(26) (r.append r2) ?_,rfl,q⟩;rw [List.length_append]
 omega
noncomputable def b6T:R2:=λx y H Q=>∃ l b xs zs,x = .ref l/\y = .ref b/\H l=some (.lst xs)/\H b=some (.lst zs)/\xs.length + zs.length <= sizeLine/\∀ p,H p=none->Q (.ref p) (upd H p (.lst (xs ++ zs)))
theorem O4:OpR X (binaryOp .Add) b6T:=by
 intro pins s σ H x y v u Q I rx ry h;obtain ⟨l,b,xs,zs,rfl,rfl,hH,hB,hz,q⟩:=h;cases rx;cases ry;obtain ⟨z,its,n,r,hl,e⟩:=I.lstM hH;obtain ⟨z2,its2,n2,r2,hl2,e2⟩:=I.lstM hB;refine PySem.P.add_list e e2 ?_ (by rw [List.size_toArray,List.size_toArray];omega);have ea:its.toArray ++ its2.toArray=(its ++ its2).toArray:=by simp
 rw [ea];exact ⟨.ref _,_,I.lnew (t':=s.toks) (r.append r2) (by rw [List.length_append];omega),rfl,q _ I.fresh⟩
noncomputable def c7j:R2:=λx y H Q=>∃ l k xs,x = .ref l/\y = .int k/\H l=some (.lst xs)/\-(2 ^ 63)<=k/\k < 2 ^ 63/\xs.length * k.toNat <= sizeLine /\
 ∀ p,H p=none->Q (.ref p) (upd H p (.lst (List.replicate k.toNat xs).flatten))
theorem b9V {α:Type}(xs:List α)(k:Nat):(List.replicate k xs).flatten.length=k * xs.length:=by
 induction k with
 | zero=>simp
 | succ k ih=>rw [List.replicate_succ,List.flatten_cons,List.length_append,ih,Nat.succ_mul,Nat.add_comm]
theorem b4d:OpR X (binaryOp .Mult) c7j:=by
 intro pins s σ H x y v u Q I rx ry h;obtain ⟨l,k,xs,rfl,rfl,hH,h1,h2,hz,q⟩:=h;cases rx;obtain ⟨t,rfl⟩:=ry;obtain ⟨z,its,n,r,hl,e⟩:=I.lstM hH;have hlen:its.toArray.size * k.toNat <= sizeLine:=by rw [List.size_toArray,← hl];exact hz
 have hcap:¬ its.toArray.size * k.toNat > (2 ^ 63 - 1) / 8:=by
  have:(sizeLine:Nat)<=(2 ^ 63 - 1) / 8:=by decide
  omega
 have hfit:¬ (!Builtin.List.listFitsIndex k)=true:=by
  rw [fitsIndex_both h1 h2];exact Bool.false_ne_true
 have hlong:¬ Builtin.List.listTooLong (its.toArray.size * k.toNat)=true:=by
  rw [a0S hlen];exact Bool.false_ne_true
 have hnew:List.foldl (λx1 x2=>x1 ++ x2) #[] (List.replicate (if its.toArray.isEmpty=true then 0 else k.toNat) its.toArray)=(List.replicate k.toNat its).flatten.toArray:=by
  have f0:∀ m:Nat,List.foldl (λx1 x2=>x1 ++ x2) #[] (List.replicate m its.toArray)=(List.replicate m its).flatten.toArray:=λm=>by
   have:=a7Z its m [];rw [List.nil_append] at this;exact this
  rw [f0];cases its with
  | nil=>simp
  | cons a r'=>rw [if_neg .(26)]
 refine wpAny_binaryOp_repeat_ref (T := "list") (U := "int") .(24) ⟨_,e,rfl⟩ (λs'=>typeIs_int s' k t) noFill_list_mul F.fills_int_mul F.slot_int_rmul repeat_list F.slot_int_index.lookup
  (call_meets F.slot_int_rmul (typeIs_int s k t) F.entry_int_rmul (F.args_int_rmul_2 _ _) (int___rmul___int_list k t l its.toArray n)
   ⟨e,rfl,⟨_,e,rfl⟩,call_meets F.slot_list_mul ⟨_,e,rfl⟩ F.entry_list_mul (F.args_list_mul_2 _ _) (AutoListH.list___mul___list_int_3 l its.toArray n k t hfit hcap hlong) ⟨e,?_⟩⟩)
 rw [hnew];exact ⟨.ref _,_,I.lnew (t':=s.toks) (r.rep k.toNat) (by rw [b9V,Nat.mul_comm];exact hz),rfl,q _ I.fresh⟩
end
end L2
namespace Att
open PySem PySem.W PySem.Calls PyProof.Rows
theorem a0N {P:Params}{h:Heap}:∀ (ns:List Int) (vs:List Value),WellAll P h vs (ns.map WData.int)->IntsAre vs ns:=by
 intro ns
 induction ns with
 | nil =>
  intro vs w;rw [List.map_nil] at w;cases w;exact .nil
 | cons n ns ih =>
  intro vs w;rw [List.map_cons] at w;cases w with
  | cons a b =>
   cases a;exact .cons _ _ (ih _ b)
theorem b5B {l:OpenLaw}{n:Nat}(hn:l.most=some n){P:Params}{h:Heap}{args:List WData}{vals:List Value}
  (hpre:l.row.toRowW.claim.pre args=true) (hwl:WellAll P h vals args) :
  ∃ a vs ns,vals=[Value.ref a]/\args=[WData.list (ns.map WData.int)]/\h.get? a=some { cls:=.type "list",data:=.seq vs.toArray }/\IntsAre vs ns/\ns.length <= n:=by
 have hsh:WShape.hasAll [] args [.list .int]=true:=(pre_splitW hpre).1;have hc:l.pre.holds [] { args:=args }=true:=(pre_splitW hpre).2;obtain ⟨d,r,rfl,h1,h2⟩:=hasAllW_cons hsh;obtain rfl:=hasAllW_nil h2;obtain ⟨xs,rfl,h3⟩:=hasW_list h1;obtain ⟨ns,rfl⟩:=items_int h3;have hlen:ns.length <= n:=by
  unfold OpenLaw.pre at hc;have h4:(WTm.not (.lt (.lit (.int (n:Int))) (.len (.arg 0)))).holds [] { args:=[.list (ns.map .int)] }=true:=by
   have h4:=(holds_andW hc).1;rw [hn] at h4;exact h4
  have h5:=condW_of h4 (w_not (w_lt w_lit (w_len_list (w_arg rfl))));rw [List.length_map] at h5;refine Nat.le_of_not_lt λq=>?_;have q':(n:Int) < ((ns.length:Nat):Int):=by omega
  first
   | (rw [decide_eq_true q'] at h5;exact absurd h5 .(24))
   | (simp at h5;omega)
 cases hwl with
 | cons w1 w2 =>
  cases w2;cases w1 with
  | list ho hall=>exact ⟨_,_,ns,rfl,rfl,ho,a0N ns _ hall,hlen⟩
theorem b0C (l:OpenLaw)(args:List WData):l.row.toRowW.claim.post args (.bool true) args=true :=
 postW_of (r:=l.row.toRowW) (X:=(true == true))
  (show WShape.has [] (.bool true) .bool=true by first | rfl | decide | simp [WShape.has,WShape.arms,WShape.armsAll])
  (show (WTm.eq .res (.lit (.bool true))).value [] { args:=args,res:=some (.bool true),after:=args }=some (.bool (true == true)) from w_eq_bool (w_res rfl) w_lit) rfl
theorem b3n {l:OpenLaw}{n:Nat}{q:Program}{loose:List Str}{XP:(Str->Option Value)->Heap->Prop}{YP:World->Heap->Prop}{d:DefRec}
  (hn:l.most=some n) (hdf:d.params.defaults=[])
  (call:∀ (w:World) (sZ s₁:Shared) (mg mb:Str->Option Value) (fa:Addr) (o:Obj) (pm cd doc:Value) (a:Addr) (vs:List Value) (ns:List Int),
   Ground q loose [] XP w sZ mg mb s₁.heap -> YP w s₁.heap ->
   s₁.heap.get? fa=some o->o.data = .func (docDef d.name d.params d.body d.scope pm cd doc)->s₁.heap.CodeRec cd d.name -> mg d.name=some (.ref fa) ->
   s₁.heap.get? a=some { cls:=.type "list",data:=.seq vs.toArray }->IntsAre vs ns->ns.length <= n->s₁.gens = #[] ->
   codeAny (model l.prog w) callerA (.call (.ref fa) ⟨[.ref a],[]⟩) (λr s'=>r = .ok (.ret (.bool true))/\OldK s₁.heap s'.heap /\ s'.os=s₁.os /\ AllBare s'.gens) s₁) :
  WalkO q loose XP YP l.row.toRowW d [] (λf vs=>PySem.call f vs):=by
 intro w sZ s₁ mg mb G Y fa o pm cd doc dV kV ho hd hcd hD hmg hg args vals as hpre hlay hrd hwl hlo;obtain rfl:dV = .none:=Dflts.none hD hdf;obtain rfl:kV = .none:=Dflts.noKw hD;obtain ⟨a,vs,ns,rfl,rfl,hobj,hints,hlen⟩:=b5B hn hpre hwl;refine enter_call (codeAny_mono (call w sZ s₁ mg mb fa o pm cd doc a vs ns G Y ho (fd_plain hd) hcd hmg hobj hints hlen hg) λr s' hq=>?_);obtain ⟨rfl,h2,h3,h4⟩:=hq;exact ⟨.inl ⟨.bool true,.bool true,[],rfl,λ_=>rfl,.bool true,b0C l _,λ_=>⟨List.Pairwise.nil,λ_ hm=>(nomatch hm)⟩⟩,h2,h3,h4⟩
end Att
namespace L2
open PySem PySem.Spec PyProof.Rows
theorem a1X:∀ {vs:List Value} {ns:List Int},IntsAre vs ns->o8 (ns.map V.int) vs
 | _,_,.nil=>.nil
 | _,_,.cons n t h=>.cons ⟨t,rfl⟩ (a1X h)
noncomputable def c3h (H:Hp):Prop:=∀ b,H b=none \/ ∃ o xs,H b=some (.frz o (.lst xs))
theorem b1J {P:Program}{w:World}{K:PySem.W.Frag}{mg mb:Str->Option Value}{CX:CXT}{k:Nat}{fa a:Addr}{fd:FuncData}{x:Str}{sp:Sp}{s₁:Shared}{vs:List Value}{ns:List Int}
  (KX:K.In s₁.heap) (hns:s₁.heap.Ns mainGlobals mg) (hb:s₁.heap.Ns builtinsNs mb) (hbb:∀ x:Str,x ≠ "__name__"->mb x=bootBuiltins x) (hlim:s₁.heap.NoLimit) (hg:s₁.gens = #[])
  (ha:s₁.heap.get? a=some { cls:=.type "list",data:=.seq vs.toArray }) (hi:IntsAre vs ns) (hl:ns.length <= sizeLine) (hr:G4 k callerA)
  (F:∀ base:Heap,K.In base->base.Ns mainGlobals mg->a7n P w K mg base CX k fa fd [x] sp) (hbind:∀ (s:Shared) (u:Value),BindsTo s fd ⟨[u],[]⟩ [(x,u)])
  (hsp:∀ H:Hp,c3h H->SqL K H a (ns.map V.int)->sp [.ref a] H (λv _=>v = .bl true) λ_ _ _=>False)
  (hCX:∀ H e s',CX [] H s₁ (λ_ _ _=>False) e s'->False) :
  codeAny (model P w) callerA (.call (.ref fa) ⟨[.ref a],[]⟩) (λr s'=>r = .ok (.ret (.bool true))/\OldK s₁.heap s'.heap /\ s'.os=s₁.os /\ AllBare s'.gens) s₁:=by
 have rv:=a1X hi;have lenV:=hi.length;have core:∀ H:Hp,c3h H->SqL K H a (ns.map V.int)->HOk P w H s₁.heap -> (∀ b,H b≠none->b=a)->(H a≠none->K.lookup a=none) ->
   codeAny (model P w) callerA (.call (.ref fa) ⟨[.ref a],[]⟩) (λr s'=>r = .ok (.ret (.bool true))/\OldK s₁.heap s'.heap /\ s'.os=s₁.os /\ AllBare s'.gens) s₁:=by
  intro H hO hS hok hA hK;have base_of:∀ {b:Addr} {o:Obj},s₁.heap.get? b=some o->H b=none->(b5e s₁.heap H).get? b=some o:=λe n=>b7J e n;have noA:∀ {b:Addr} {o:Obj} {es:Array DictEntry} {ep:Nat},s₁.heap.get? b=some o->o.data = .dict es ep->H b=none:=λ{b o es ep} e d=>by
   cases q:H b with
   | none=>rfl
   | some u =>
    have e':b=a:=hA b (by rw [q];simp);subst e';rw [ha] at e;cases e;have d':Data.seq vs.toArray _=Data.dict es ep:=d;cases d'
  have nsK:∀ {b:Addr} {m:Str->Option Value},s₁.heap.Ns b m->(b5e s₁.heap H).Ns b m:=λ{b m} ⟨o,es,ep,e,d,r⟩=>⟨o,es,ep,base_of e (noA e d),d,r⟩;have hKb:K.In (b5e s₁.heap H):=λb o e=>base_of (KX b o e) (by
   cases q:H b with
   | none=>rfl
   | some u =>
    have e':b=a:=hA b (by rw [q];simp);subst e';rw [hK (by rw [q];simp)] at e;cases e)
  have hM:Mod K mg (b5e s₁.heap H):=⟨hKb,nsK hns,⟨mb,nsK hb,hbb⟩,let ⟨mc,h1,h2⟩:=hlim;⟨mc,nsK h1,h2⟩⟩;have e0:b0u P w K mg (b5e s₁.heap H) callerA [] s₁ H:=⟨rfl,hM,λb o e=>b0V e,Nat.le_of_eq (b0D _ _),trivial,λb hb=>absurd (show b∈([]:List Addr) from hb) .(26),hok,.of_eq hg⟩;refine codeAny_mono ((F _ hKb (nsK hns)).run callerA [] s₁ H ⟨[.ref a],[]⟩ [.ref a] [.ref a] _ _ hr e0 (hbind s₁ (.ref a)) (.cons rfl .nil) (hsp H hO hS)) λr s' h=>?_;cases r with
  | error e=>exact (hCX H e s' h).elim
  | ok fl =>
   cases fl with
   | next=>exact False.elim h
   | brk=>exact False.elim h
   | cont=>exact False.elim h
   | ret u =>
    obtain ⟨v,H',os,bare,un,hok',r',q⟩:=h;have q':v = .bl true:=q;subst q';obtain rfl:u=Value.bool true:=r';refine ⟨rfl,OldK.of_keep λb o e=>?_,os,bare⟩;cases q:H b with
    | none=>exact un.keep b o e q (by intro z;exact absurd (show b∈([]:List Addr) from z) .(26)) .(26)
    | some u =>
     rcases hO b with z | ⟨ob,xs,z⟩
     ·rw [q] at z;cases z
     ·have z2:=un.frzs b ob _ z;obtain ⟨e1,_⟩:=hok b _ z;obtain ⟨e2,_⟩:=hok' b _ z2;rw [e] at e1;cases e1;exact e2
 cases hk:K.lookup a with
 | some o =>
  have e:=KX a o hk;rw [ha] at e;cases e;refine core (λ_=>none) (λ_=>.inl rfl) (.inr ⟨_,vs.toArray,_,hk,rfl,rfl,rfl,by rw [List.size_toArray,lenV];exact hl,by simpa using V8.ints rv⟩) (λb u z=>by have z':(none:Option HO)=some u:=z;cases z') (λb z=>absurd rfl z) λz=>absurd rfl z
 | none =>
  refine core (λb=>if b=a then some (.frz { cls:=.type "list",data:=.seq vs.toArray } (.lst (ns.map V.int))) else none) (λb=>?_) (.inl (.inr ⟨{ cls:=.type "list",data:=.seq vs.toArray },if_pos rfl⟩)) (λb u z=>?_) (λb z=>?_) λ_=>hk
  ·by_cases hb:b=a
   ·exact .inr ⟨_,_,if_pos hb⟩
   ·exact .inl (if_neg hb)
  ·by_cases hb:b=a
   ·have z':=(if_pos hb).symm.trans z;cases z';subst hb;exact ⟨ha,by rw [List.length_map];exact hl,vs,_,rv,ha⟩
   ·have z':=(if_neg hb).symm.trans z;cases z'
  ·by_cases hb:b=a
   ·exact hb
   ·exact absurd (if_neg hb) z
noncomputable abbrev KOf {K:PySem.W.Frag}{h:Heap}(_:K.In h):PySem.W.Frag:=K
theorem b6O {l:PySem.W.OpenLaw}{n k:Nat}{q:Program}{loose:List Str}{XP:(Str->Option Value)->Heap->Prop}{YP:World->Heap->Prop}{d:DefRec}{K:Params->PySem.W.Frag}{CX:World->CXT}{sp:World->Sp}{x:Str}
  (hn:l.most=some n) (hn2:n<=sizeLine) (hdf:d.params.defaults=[]) (hr:G4 k callerA)
  (hY:∀ (w:World) (h:Heap),YP w h->(K w.params).In h)
  (F:∀ (w:World) (mg:Str->Option Value) (fa:Addr) (h:Heap),(K w.params).In h->h.Ns mainGlobals mg->mg d.name=some (.ref fa) ->
   ∃ fd:FuncData,(∀ (s:Shared) (u:Value),BindsTo s fd ⟨[u],[]⟩ [(x,u)]) /\
    ∀ base:Heap,(K w.params).In base->base.Ns mainGlobals mg->a7n l.prog w (K w.params) mg base (CX w) k fa fd [x] (sp w))
  (hsp:∀ (w:World) (H:Hp) (a:Addr) (ns:List Int),ns.length <= n->c3h H->SqL (K w.params) H a (ns.map V.int)->sp w [.ref a] H (λv _=>v = .bl true) λ_ _ _=>False)
  (hCX:∀ (w:World) (H:Hp) (s:Shared) (e:Value) (s':Shared),CX w [] H s (λ_ _ _=>False) e s'->False) :
  PySem.W.WalkO q loose XP YP l.row.toRowW d [] (λf vs=>PySem.call f vs):=by
 refine Att.b3n hn hdf λw sZ s₁ mg mb fa o pm cd doc a vs ns G Y ho hd hcd hmg hobj hints hlen hg=>?_;have KX:=hY w _ Y;obtain ⟨fd,hb,hF⟩:=F w mg fa _ KX G.T.g hmg;exact b1J KX G.T.g G.T.b G.T.builtins G.T.nolimit hg hobj hints (Nat.le_trans hlen hn2) hr hF hb (λH hO hS=>hsp w H a ns hlen hO hS) λH e s'=>hCX w H s₁ e s'
noncomputable def W2 (s:Stmt)(j:Nat):Stmt:=match s with
 | .ClassDef _ _ _ body _ _ _ _ _ _ _=>body.getD j (.Pass ⟨0,0,0,0⟩)
 | _=>.Pass ⟨0,0,0,0⟩
noncomputable def N0 (s:Stmt):Arguments:=match s with
 | .FunctionDef _ a _ _ _ _ _ _ _ _=>a
 | _=>{ posonlyargs:=[],args:=[],vararg:=none,kwonlyargs:=[],kw_defaults:=[],kwarg:=none,defaults:=[] }
noncomputable def B9 (s:Stmt):List Stmt:=match s with
 | .FunctionDef _ _ b _ _ _ _ _ _ _=>b
 | _=>[]
noncomputable def c6 (s:Stmt):Scope:=match s with
 | .FunctionDef _ _ _ _ _ _ sc _ _ _=>sc
 | _=>{ kind:=.function,names:=[],isGenerator:=false,isCoroutine:=false }
noncomputable abbrev CX0:CXT:=λ_ _ _ _ _ _=>False
noncomputable abbrev E0:XK:=λ_ _ _=>False
theorem a2Y {X:Cx}:a6n CX0 X E0:=λ_ _ _ _ _ _ _ h=>h.elim
structure Fun (K:PySem.W.Frag)(x qual:Str)(st:Stmt)(f:Addr)(fd:FuncData):Prop where
 ex:∃ (oc:Value) (od:Option Addr) (kV doc pm:Value) (an:Option Addr) (cdv ct:Value) (osl:Array (Option Value)),
  fd=PySem.W.fnOf x qual (N0 st) (B9 st) (c6 st) .none kV doc pm an cdv ct/\K.lookup f=some ⟨oc,od,.func fd,osl⟩/\PySem.W.codeIn K cdv qual=true
 kp:PySem.W.keepIn K (.ref f)=true
section
variable {P:Program}{w:World}{K:PySem.W.Frag}{mg:Str->Option Value}{base:Heap}
theorem Fun.ok {x qual:Str}{st:Stmt}{f:Addr}{fd:FuncData}{N ps:List Str}{k:Nat}{sp:Sp}(F:Fun K x qual st f fd)(S:g0 N ps (c6 st))(len:∀ vs H Q E,sp vs H Q E->vs.length=ps.length)
  (hbody:∀ (cdv:Value) (A:Around) (outer:List Env) (s:Shared) (H:Hp) (vs:List V) (Q:VK) (E:XK),G4 k (A.deeper (envOfC qual (c6 st) s.heap.objs.size f cdv))->sp vs H Q E ->
   ∃ t,PSs (a2s CX0 P w K mg base N qual (c6 st) f cdv A outer s H E).nox (B9 st) t/\t { nx:=λ_ H'=>Q .non H',rt:=Q } (Y5 N vs) H):a7n P w K mg base CX0 (k + 1) f fd ps sp:=by
 obtain ⟨oc,od,kV,doc,pm,an,cdv,ct,osl,rfl,lk,hcd⟩:=F.ex;refine b2K lk hcd S len λA outer s H vs Q E hr hsp=>?_;obtain ⟨t,h,q⟩:=hbody cdv A outer s H vs Q E hr hsp;exact ⟨t,h.nox,q⟩
theorem Fun.binds {x qual:Str}{st:Stmt}{f:Addr}{fd:FuncData}{ps:List Str}(F:Fun K x qual st f fd)
  (h:∀ (kV doc pm:Value) (an:Option Addr) (cdv ct:Value) (us:List Value),us.length=ps.length -> bindArgs (PySem.W.fnOf x qual (N0 st) (B9 st) (c6 st) .none kV doc pm an cdv ct) ⟨us,[]⟩=pure (ps.zip us)):O9 K fd ps []:=by
 obtain ⟨oc,od,kV,doc,pm,an,cdv,ct,osl,rfl,lk,hcd⟩:=F.ex;exact .all (h kV doc pm an cdv ct)
theorem b6e {x qual:Str}{st:Stmt}{f:Addr}{oc:Value}{od an:Option Addr}{osl:Array (Option Value)}{kV doc pm cdv ct:Value}(l:K.lookup f=some ⟨oc,od,.func (PySem.W.fnOf x qual (N0 st) (B9 st) (c6 st) .none kV doc pm an cdv ct),osl⟩)
  (c:PySem.W.codeIn K cdv qual=true) (k:PySem.W.keepIn K (.ref f)=true):Fun K x qual st f (PySem.W.fnOf x qual (N0 st) (B9 st) (c6 st) .none kV doc pm an cdv ct):=⟨⟨oc,od,kV,doc,pm,an,cdv,ct,osl,rfl,l,c⟩,k⟩
end
section
variable {X:Cx}
theorem pv (i:Nat) {x:Str} {pos:Pos} (hN:X.N[i]? = some x:=by rfl) (hv:Vis X.env.scope x:=by first | exact Or.inl rfl | exact Or.inr (Or.inl rfl) | exact Or.inr (Or.inr rfl)) (hd:(x == ("__debug__" : Str))=false:=by decide)
  (hcd:(x == ("__classdict__" : Str))=false:=by decide):PE X (.Name x pos) (b4i i):=c6d hN hv hd hcd
end
theorem y7 {A B:Prop}(h:B):if false=true then A else B:=by
 rw [if_neg Bool.false_ne_true];exact h
theorem C6 {A B:Prop}(h:A):if true=true then A else B:=by
 rw [if_pos rfl];exact h
theorem A7 {c A B:Prop}[Decidable c](h1:c->A)(h2:¬ c->B):if c then A else B:=by
 by_cases h:c
 ·rw [if_pos h];exact h1 h
 ·rw [if_neg h];exact h2 h
noncomputable def n6 (H H':Hp):Prop:=∀ b o,H b=some o->H' b=some o
theorem n6.refl (H:Hp):n6 H H:=λ_ _ h=>h
theorem n6.trans {H H1 H2:Hp}(a:n6 H H1)(b:n6 H1 H2):n6 H H2:=λc o h=>b c o (a c o h)
theorem n6.free {H H':Hp}(e:n6 H H'){l:Addr}(h:H' l=Option.none):H l=Option.none:=by
 cases q:H l with
 | none=>rfl
 | some o =>
  rw [e l o q] at h;cases h
theorem n6.seq {K:PySem.W.Frag}{H H':Hp}{a:Addr}{xs:List V}(e:n6 H H')(h:SqL K H a xs):SqL K H' a xs:=by
 rcases h with (h | ⟨o,h⟩) | h
 ·exact .inl (.inl (e _ _ h))
 ·exact .inl (.inr ⟨o,e _ _ h⟩)
 ·exact .inr h
noncomputable def V4 (cells:List (Str × Addr)):List (Str × NameKind)->List (Str × Addr)->List (Str × Addr)
 | [],acc=>acc
 | (n,k) :: r,acc=>if k == .free then (match cells.lookup n with | some a=>V4 cells r ((n,a) :: acc) | none=>V4 cells r acc) else V4 cells r acc
theorem a1U {env:Env}(f:Str × NameKind->List (Str × Addr)->Sem (ForInStep (List (Str × Addr))))
  (hf:∀ n k cs,f (n,k) cs=if k == .free then (do let a ← cellOf env n;pure (.yield ((n,a) :: cs))) else pure (.yield cs)) :
  ∀ (names:List (Str × NameKind)) (acc:List (Str × Addr)),(∀ y∈names,y.2 = .free -> ∃ c,env.cells.lookup y.1=some c)->forIn names acc f=pure (V4 env.cells names acc)
 | [],acc,_=>by rw [List.forIn_nil];rfl
 | (n,k) :: r,acc,h=>by
  have hr:∀ y∈r,y.2 = .free -> ∃ c,env.cells.lookup y.1=some c:=λy hy=>h y (List.mem_cons_of_mem _ hy);rw [List.forIn_cons,hf];unfold V4
  by_cases hk:k = .free
  ·subst hk;obtain ⟨c,hc⟩:=h (n,.free) List.mem_cons_self rfl;have hc':env.cells.lookup n=some c:=hc;have e1:cellOf env n=pure c:=by unfold cellOf;rw [hc']
   have ef:(NameKind.free == NameKind.free)=true:=rfl;rw [if_pos ef,if_pos ef,e1,hc'];exact a1U f hf r ((n,c) :: acc) hr
  ·have hb:(k == NameKind.free)=false:=by simpa using hk
   rw [hb,if_neg Bool.false_ne_true,if_neg Bool.false_ne_true];exact a1U f hf r acc hr
theorem a5W {scope:Scope}{env:Env}(h:∀ y∈scope.names,y.2 = .free -> ∃ c,env.cells.lookup y.1=some c):closureFor scope env=pure (V4 env.cells scope.names []):=by
 have e:=a1U (env:=env) (λx cs=>match x with | (n,k)=>if k == .free then (do let a ← cellOf env n;pure (.yield ((n,a) :: cs))) else pure (.yield cs)) (λ_ _ _=>rfl) scope.names [] h
 show (forIn scope.names [] _ >>= λcs=>pure cs)=_
 refine Eq.trans (congrArg (· >>= λcs=>pure cs) (Eq.trans ?_ e)) rfl;refine congrArg _ (funext λx=>funext λcs=>?_);obtain ⟨n,k⟩:=x;cases hk:k == NameKind.free <;> simp [hk]
theorem Z0 {cells:List (Str × Addr)}:∀ {names:List (Str × NameKind)} {acc:List (Str × Addr)},(∀ n c,acc.lookup n=some c->cells.lookup n=some c)->∀ n c,(V4 cells names acc).lookup n=some c->cells.lookup n=some c
 | [],_,h,n,c,e=>h n c e
 | (m,k) :: r,acc,h,n,c,e=>by
  unfold V4 at e
  split at e
  ·split at e
   ·rename_i a ha
    refine Z0 (names:=r) (acc:=(m,a) :: acc) (λx d q=>?_) n c e;rw [List.lookup_cons] at q;cases hb:x == m with
    | true=>rw [hb] at q;cases q;rw [beq_iff_eq.mp hb];exact ha
    | false=>rw [hb] at q;exact h x d q
   ·exact Z0 (names:=r) h n c e
  ·exact Z0 (names:=r) h n c e
theorem a7G {cells:List (Str × Addr)}{n:Str}:∀ {names:List (Str × NameKind)} {acc:List (Str × Addr)},(∃ c,acc.lookup n=some c)->∃ c,(V4 cells names acc).lookup n=some c
 | [],_,h=>h
 | (m,k) :: r,acc,h=>by
  unfold V4
  split
  ·split
   ·rename_i a ha
    refine a7G (names:=r) ?_;rw [List.lookup_cons];cases hb:n == m with
    | true=>exact ⟨a,rfl⟩
    | false=>exact h
   ·exact a7G (names:=r) h
  ·exact a7G (names:=r) h
theorem a9w {cells:List (Str × Addr)}{n:Str}{c:Addr}(hc:cells.lookup n=some c):∀ {names:List (Str × NameKind)} {acc:List (Str × Addr)},(n,NameKind.free)∈names->∃ d,(V4 cells names acc).lookup n=some d
 | (m,k) :: r,acc,h=>by
  unfold V4
  rcases List.mem_cons.mp h with e | h
  ·cases e;rw [if_pos (show (NameKind.free == NameKind.free)=true from rfl),hc];exact a7G (names:=r) ⟨c,by rw [List.lookup_cons,beq_self_eq_true]⟩
  ·split
   ·split
    ·exact a9w hc h
    ·exact a9w hc h
   ·exact a9w hc h
theorem a2n {y:Str}:∀ {names:List (Str × NameKind)} {n:Nat} {acc:List (Str × Addr)},(∀ p∈names,p.2 = .cell -> p.1 ≠ y)->(cellsFrom n names acc).lookup y=acc.lookup y
 | [],_,_,_=>rfl
 | (m,k) :: r,n,acc,h=>by
  have hr:∀ p∈r,p.2 = .cell -> p.1 ≠ y:=λp hp=>h p (List.mem_cons_of_mem _ hp);unfold cellsFrom
  by_cases hk:k = .cell
  ·subst hk;rw [if_pos (show (NameKind.cell == NameKind.cell)=true from rfl),a2n hr,List.lookup_cons];have:(y == m)=false:=by simpa using Ne.symm (h (m,.cell) List.mem_cons_self rfl)
   rw [this]
  ·rw [if_neg (by simpa using hk)];exact a2n hr
theorem a3n:∀ {names:List (Str × NameKind)} {h:Heap} {acc:List (Str × Addr)} {y:Str} {c:Addr},(cellsFrom h.objs.size names acc).lookup y=some c ->
  (h.objs.size <= c/\(pushCells h names).IsCell c none) \/ acc.lookup y=some c
 | [],_,_,_,_,e=>.inr e
 | (m,k) :: r,h,acc,y,c,e=>by
  unfold cellsFrom at e;unfold pushCells
  by_cases hk:(k == NameKind.cell)=true
  ·rw [if_pos hk] at e ⊢;have e':(cellsFrom (h.push { cls:=.type "cell",data:=.cell none }).objs.size r ((m,h.objs.size) :: acc)).lookup y=some c:=by rw [Heap.size_push];exact e
   rcases a3n e' with ⟨q1,q2⟩ | q
   ·rw [Heap.size_push] at q1;exact .inl ⟨Nat.le_of_succ_le q1,q2⟩
   ·rw [List.lookup_cons] at q;cases hb:y == m with
    | true =>
     rw [hb] at q;cases q;exact .inl ⟨Nat.le_refl _,Heap.IsCell.keeps ⟨_,Heap.get?_push_size _ rfl,rfl⟩ (pushCells_keeps _ _)⟩
    | false=>rw [hb] at q;exact .inr q
  ·rw [if_neg hk] at e ⊢;exact a3n e
theorem a4n:∀ {names:List (Str × NameKind)} {n:Nat} {acc:List (Str × Addr)},(∀ x y c,acc.lookup x=some c->acc.lookup y=some c->x=y)->(∀ x c,acc.lookup x=some c->c < n) ->
  ∀ x y c,(cellsFrom n names acc).lookup x=some c->(cellsFrom n names acc).lookup y=some c->x=y
 | [],_,_,h,_=>h
 | (m,k) :: r,n,acc,h,lt=>by
  unfold cellsFrom
  by_cases hk:(k == NameKind.cell)=true
  ·rw [if_pos hk];have one:∀ x c,((m,n) :: acc).lookup x=some c->(x=m/\c=n) \/ acc.lookup x=some c:=λx c e=>by
    rw [List.lookup_cons] at e;cases hb:x == m with
    | true=>rw [hb] at e;cases e;exact .inl ⟨beq_iff_eq.mp hb,rfl⟩
    | false=>rw [hb] at e;exact .inr e
   refine a4n (λx y c ex ey=>?_) λx c e=>?_
   ·rcases one x c ex with ⟨a1,a2⟩ | a <;> rcases one y c ey with ⟨b1,b2⟩ | b
    ·rw [a1,b1]
    ·exact absurd (lt y c b) (by rw [a2];exact Nat.lt_irrefl _)
    ·exact absurd (lt x c a) (by rw [b2];exact Nat.lt_irrefl _)
    ·exact h x y c a b
   ·rcases one x c e with ⟨_,a2⟩ | a
    ·rw [a2];exact Nat.lt_succ_self _
    ·exact Nat.lt_succ_of_lt (lt x c a)
  ·rw [if_neg hk];exact a4n h lt
theorem T5 {y:Str}:∀ {names:List (Str × NameKind)} {n:Nat} {acc:List (Str × Addr)},(∃ c,acc.lookup y=some c)->∃ c,(cellsFrom n names acc).lookup y=some c
 | [],_,_,h=>h
 | (m,k) :: r,n,acc,h=>by
  unfold cellsFrom
  split
  ·refine T5 ?_;rw [List.lookup_cons];cases y == m with
   | true=>exact ⟨_,rfl⟩
   | false=>exact h
  ·exact T5 h
theorem a5n {y:Str}:∀ {names:List (Str × NameKind)} {n:Nat} {acc:List (Str × Addr)},(y,NameKind.cell)∈names->∃ c,(cellsFrom n names acc).lookup y=some c
 | (m,k) :: r,n,acc,h=>by
  unfold cellsFrom
  rcases List.mem_cons.mp h with e | h
  ·cases e;rw [if_pos (show (NameKind.cell == NameKind.cell)=true from rfl)];exact T5 ⟨n,by rw [List.lookup_cons,beq_self_eq_true]⟩
  ·split
   ·exact a5n h
   ·exact a5n h
theorem a3s {y:Str}{lo:Nat}:∀ {names:List (Str × NameKind)} {n:Nat} {acc:List (Str × Addr)} {c:Addr},lo<=n->((y,NameKind.cell)∈names \/ ∀ d,acc.lookup y=some d->lo<=d)->(cellsFrom n names acc).lookup y=some c->lo<=c
 | [],n,acc,c,hn,h,e=>h.elim (λz=>nomatch z) λz=>z c e
 | (m,k) :: r,n,acc,c,hn,h,e=>by
  unfold cellsFrom at e
  by_cases hk:(k == NameKind.cell)=true
  ·rw [if_pos hk] at e;have k':k = .cell:=beq_iff_eq.mp hk;subst k';refine a3s (names:=r) (Nat.le_succ_of_le hn) ?_ e
   by_cases hm:(y,NameKind.cell)∈r
   ·exact .inl hm
   ·refine .inr λd q=>?_;rw [List.lookup_cons] at q;cases hb:y == m with
    | true=>rw [hb] at q;cases q;exact hn
    | false =>
     rw [hb] at q
     rcases h with z | z
     ·rcases List.mem_cons.mp z with z | z
      ·cases z;simp at hb
      ·exact absurd z hm
     ·exact z d q
  ·rw [if_neg hk] at e;refine a3s (names:=r) hn ?_ e
   rcases h with z | z
   ·rcases List.mem_cons.mp z with z | z
    ·cases z;exact absurd rfl hk
    ·exact .inl z
   ·exact .inr z
section
variable {M:Model}{A:Around}{E:Value->Shared->Prop}{s:Shared}
theorem b0r {scope:Scope}{globals:Addr}{cl:List (Str × Addr)}{qual:Str}{env:Env}{Q:Env->Shared->Prop}
  (h:Q { scope:=scope,locals:=s.heap.objs.size,globals:=globals,cells:=cellsFrom (s.heap.objs.size + 1) scope.names cl,qual:=qual,func:=none,code:=env.code,frame:=env.frame,builtins:=env.builtins }
   { s with heap:=pushCells (s.heap.push { cls:=.type "dict",data:=.dict #[] }) scope.names }) :
  wpAny M A (newFunctionEnv scope globals cl [] qual none .none (some env)) Q E s:=by
 simp only [newFunctionEnv,Option.isSome_some,if_true];refine wpAny_bind (wpAny_alloc ?_);refine wpAny_bind (wpAny_layCells _ (λname kind cells=>by cases hkc:kind == NameKind.cell <;> simp [hkc]) _ _ _ _ ?_);rw [show ({ s with heap:=s.heap.push { cls:=.type "dict",data:=.dict #[] } }:Shared).heap.objs.size=s.heap.objs.size + 1 from Heap.size_push ..];refine wpAny_bind ?_;rw [List.forIn_nil];exact wpAny_pure (wpAny_pure h)
end
theorem Q3 {env:Env}:∀ (names:List (Str × NameKind)) (x:Str),
  (names.map λ(n,k)=>if (k == NameKind.free && env.scope.kind == .function && env.kindOf n == some .cell) then (n,NameKind.cell) else (n,k)).lookup x =
   (names.lookup x).map λk=>if (k == NameKind.free && env.scope.kind == .function && env.kindOf x == some .cell) then NameKind.cell else k
 | [],_=>rfl
 | (n,k) :: r,x=>by
  rw [List.map_cons]
  show List.lookup x ((if (k == NameKind.free && env.scope.kind == .function && env.kindOf n == some .cell)=true then (n,NameKind.cell) else (n,k)) :: _)=_
  cases hx:x == n with
  | true =>
   have e:=beq_iff_eq.mp hx;subst e
   by_cases hc:(k == NameKind.free && env.scope.kind == .function && env.kindOf x == some .cell)=true
   ·rw [if_pos hc,List.lookup_cons,List.lookup_cons,beq_self_eq_true]
    show _=some (if (k == NameKind.free && env.scope.kind == .function && env.kindOf x == some .cell)=true then NameKind.cell else k)
    rw [if_pos hc]
   ·rw [if_neg hc,List.lookup_cons,List.lookup_cons,beq_self_eq_true]
    show _=some (if (k == NameKind.free && env.scope.kind == .function && env.kindOf x == some .cell)=true then NameKind.cell else k)
    rw [if_neg hc]
  | false =>
   have ih:=Q3 (env:=env) r x
   by_cases hc:(k == NameKind.free && env.scope.kind == .function && env.kindOf n == some .cell)=true
   ·rw [if_pos hc,List.lookup_cons,List.lookup_cons,hx];exact ih
   ·rw [if_neg hc,List.lookup_cons,List.lookup_cons,hx];exact ih
noncomputable def sel (idx:List Nat)(σ:St):St:=idx.map λj=>(σ[j]?).join
noncomputable def Cx.comp (X:Cx)(scope:Scope)(cells:List (Str × Addr))(C:Addr)(N':List Str)(s2:Shared)(H2:Hp)(fp:List Addr):Cx where
 prog:=X.prog
 w:=X.w
 K:=X.K
 mg:=X.mg
 base:=X.base
 A:=X.A
 N:=N'
 sZ:=s2
 HZ:=H2
 env:=compEnvC scope cells C X.env
 outer:=X.stack
 stack:=X.stack
 ex:=fp
 fn:=λy=>scope.names.lookup y == some .cell
 calm:=X.calm
 pn:=[]
 xe:=λ_ _=>False
structure b4h (X:Cx)(scope:Scope)(M:List Str)(idx:List Nat):Prop where
 kind:scope.kind = .function
 loc:∀ y∈scope.names,y.2 = .local -> scope.names.lookup y.1=some .local
 cel:∀ y∈scope.names,y.2 = .cell -> scope.names.lookup y.1=some .cell
 fre:∀ y∈scope.names,y.2 = .free -> X.env.kindOf y.1=some .cell \/ X.env.kindOf y.1=some .free
 len:idx.length=M.length
 cap:∀ (j:Nat) (y:Str),M[j]? = some y->scope.names.lookup y=some .free /\ ∃ k,idx[j]? = some k/\X.N[k]? = some y
theorem b5S {idx:List Nat}{σ:St}{j:Nat}{v:V}(h:(sel idx σ)[j]? = some (some v)):∃ k,idx[j]? = some k/\σ[k]? = some (some v):=by
 unfold sel at h;rw [List.getElem?_map] at h;cases e:idx[j]? with
 | none=>rw [e] at h;cases h
 | some k =>
  rw [e] at h;refine ⟨k,rfl,?_⟩;have h':(σ[k]?).join=some v:=Option.some.inj h;cases q:σ[k]? with
  | none=>rw [q] at h';cases h'
  | some o =>
   rw [q] at h';have h'':o=some v:=h';rw [h'']
section
variable {X:Cx}{pins:List (Addr × Obj)}{σ:St}{H:Hp}{s:Shared}
theorem b1t {scope:Scope}{M:List Str}{idx:List Nat}{fp:List Addr}{x:Str}(ok:b4h X scope M idx)(hc:X.calm=true)(I:Inv X pins σ H s)(hf:∀ b∈fp,a9W X pins H b)
  (ho:∀ b∈fp,∃ o,s.heap.get? b=some o) :
  Inv (X.comp scope (cellsFrom (s.heap.objs.size + 2) scope.names (V4 X.env.cells scope.names [])) (s.heap.objs.size + 1) (x :: M) s H fp) [] (none :: sel idx σ) H
   { s with heap:=pushCells ((s.heap.push { cls:=.type "list",dict:=none,data:=.seq ([]:List Value).toArray }).push { cls:=.type "dict",data:=.dict #[] }) scope.names }:=by
 have sz2:((s.heap.push { cls:=.type "list",dict:=none,data:=.seq ([]:List Value).toArray }).push { cls:=.type "dict",data:=.dict #[] }).objs.size=s.heap.objs.size + 2:=by rw [Heap.size_push,Heap.size_push]
 have keep:∀ b o,s.heap.get? b=some o->(pushCells ((s.heap.push { cls:=.type "list",dict:=none,data:=.seq ([]:List Value).toArray }).push { cls:=.type "dict",data:=.dict #[] }) scope.names).get? b=some o :=
  λb o e=>pushCells_keeps _ _ _ _ (Heap.get?_push_of_some _ (Heap.get?_push_of_some _ e))
 have clLook:∀ n c,(V4 X.env.cells scope.names []).lookup n=some c->X.env.cells.lookup n=some c:=Z0 λn c e=>by simp at e
 have clLt:∀ n c,(V4 X.env.cells scope.names []).lookup n=some c->c < s.heap.objs.size:=λn c e=>by
  obtain ⟨v,z⟩:=I.cell n c (clLook n c e);exact z.lt
 have look:∀ n c,(cellsFrom (s.heap.objs.size + 2) scope.names (V4 X.env.cells scope.names [])).lookup n=some c ->
   (s.heap.objs.size + 2<=c/\(pushCells ((s.heap.push { cls:=.type "list",dict:=none,data:=.seq ([]:List Value).toArray }).push { cls:=.type "dict",data:=.dict #[] }) scope.names).IsCell c none) \/ X.env.cells.lookup n=some c:=λn c e=>by
  have e':(cellsFrom ((s.heap.push { cls:=.type "list",dict:=none,data:=.seq ([]:List Value).toArray }).push { cls:=.type "dict",data:=.dict #[] }).objs.size scope.names (V4 X.env.cells scope.names [])).lookup n=some c:=by rw [sz2];exact e
  rcases a3n e' with ⟨q1,q2⟩ | q
  ·rw [sz2] at q1;exact .inl ⟨q1,q2⟩
  ·exact .inr (clLook n c q)
 have fresh:∀ a,s.heap.objs.size <= a->H a=none:=λa h=>I.hok.fresh h;have fpLt:∀ b∈fp,b < s.heap.objs.size:=λb hb=>let ⟨_,e⟩:=ho b hb;Heap.lt_size e;have fpStk:∀ b∈fp,b ∉ frs X.stack:=λb hb z=>by
  obtain ⟨_,f1,f2,_⟩:=hf b hb;exact (List.mem_cons.mp (I.stkSub b z)).elim f1 f2
 have hasFree:∀ y∈scope.names,y.2 = .free -> ∃ c,X.env.cells.lookup y.1=some c:=λy hy e=>I.ok.has y.1 (ok.fre y hy e);have kindR:∀ y,(compEnvC scope (cellsFrom (s.heap.objs.size + 2) scope.names (V4 X.env.cells scope.names [])) (s.heap.objs.size + 1) X.env).kindOf y =
   (scope.names.lookup y).map λk=>if (k == NameKind.free && X.env.scope.kind == .function && X.env.kindOf y == some .cell) then NameKind.cell else k:=λy=>Q3 scope.names y
 refine ⟨⟨I.ok.mod,ok.kind,I.ok.glob,I.ok.blt,Nat.le_succ _,?_,λy hy=>?_,λy c hfn e=>?_,I.ok.hd,I.ok.frames,.inl rfl,λb hb=>⟨?_,λy c e=>?_⟩,I.bs,Nat.le_trans I.ok.bsz I.sz,λb o e hb=>?_,λb hb=>fpStk b hb,I.stack,I.stkFree⟩,
  rfl,I.bare,Un.kept keep,⟨λ_=>none,?_,λi y v h1 h2 h3=>?_⟩,λy c e=>?_,fresh _ (Nat.le_succ _),λy c e=>?_,λp hp=>absurd (show p∈([]:List (Addr × Obj)) from hp) .(26),I.hok.kept keep,?_⟩
 ·exact a4n (λa b c h1 h2=>I.ok.inj a b c (clLook a c h1) (clLook b c h2)) λa c h1=>Nat.lt_of_lt_of_le (clLt a c h1) (Nat.le_add_right _ _)
 ·-- has
  rw [show (X.comp scope (cellsFrom (s.heap.objs.size + 2) scope.names (V4 X.env.cells scope.names [])) (s.heap.objs.size + 1) (x :: M) s H fp).env.kindOf y=_ from kindR y] at hy
  show ∃ c,(cellsFrom (s.heap.objs.size + 2) scope.names (V4 X.env.cells scope.names [])).lookup y=some c
  cases hk:scope.names.lookup y with
  | none=>rw [hk] at hy;rcases hy with z | z <;> cases z
  | some k =>
   have mem:=PySem.mem_of_lookup hk
   by_cases k1:k = .cell
   ·subst k1;exact a5n mem
   by_cases k2:k = .free
   ·subst k2;obtain ⟨c,ec⟩:=hasFree _ mem rfl;exact T5 (a9w ec mem)
   ·rw [hk] at hy;have hb:(k == NameKind.free)=false:=by simpa using k2
    rw [Option.map_some,hb,Bool.false_and,Bool.false_and,if_neg Bool.false_ne_true] at hy
    rcases hy with z | z
    ·exact absurd (Option.some.inj z) k1
    ·exact absurd (Option.some.inj z) k2
 ·-- cab
  have hl:scope.names.lookup y=some .cell:=by simpa [Cx.comp] using hfn
  exact a3s (lo:=s.heap.objs.size) .(25) (.inl (PySem.mem_of_lookup hl)) e
 ·-- exf
  exact Nat.ne_of_lt (Nat.lt_succ_of_lt (fpLt b hb))
 ·rcases look y c e with ⟨q,_⟩ | q
  ·exact λz=>absurd (fpLt b hb) (by rw [← z];exact Nat.not_lt.mpr (Nat.le_trans (Nat.le_add_right _ 2) q))
  ·exact (hf b hb).2.2.2.2.1 y c q
 ·-- noex
  rcases (hf b hb).2.2.2.1 with z | z
  ·exact I.ok.noex b o e z
  ·exact absurd (Nat.lt_of_lt_of_le (Heap.lt_size e) (Nat.le_trans I.ok.bsz z)) (Nat.lt_irrefl _)
 ·-- the new map
  have e0:(s.heap.push { cls:=.type "list",dict:=none,data:=.seq ([]:List Value).toArray }).objs.size=s.heap.objs.size + 1:=Heap.size_push ..;have q:=(Heap.Ns.new (s.heap.push { cls:=.type "list",dict:=none,data:=.seq ([]:List Value).toArray }) (.type "dict")).keeps (pushCells_keeps scope.names _);rw [e0] at q;exact q
 ·-- names
  cases i with
  | zero=>cases h2
  | succ j =>
   have h2':(sel idx σ)[j]? = some (some v):=h2;have h1':M[j]? = some y:=h1;obtain ⟨k,ek,ev⟩:=b5S h2';obtain ⟨hl,k',ek',eN⟩:=ok.cap j y h1';rw [ek] at ek';cases ek';have mem:=PySem.mem_of_lookup hl;have hk:=ok.fre _ mem rfl;obtain ⟨m,hn,hloc⟩:=I.loc;have vis:Vis X.env.scope y:=hk.elim (λz=>.inr (.inl z)) λz=>.inr (.inr z);obtain ⟨u,r,l⟩:=hloc k y v eN ev vis;refine ⟨u,r,?_⟩
   rcases l with ⟨z,_⟩ | ⟨_,c,ec,hcell⟩
   ·rw [z] at hk;rcases hk with z | z <;> cases z
   ·refine .inr ⟨?_,c,?_,hcell.keeps keep⟩
    ·rw [show (X.comp scope (cellsFrom (s.heap.objs.size + 2) scope.names (V4 X.env.cells scope.names [])) (s.heap.objs.size + 1) (x :: M) s H fp).env.kindOf y=_ from kindR y,hl,Option.map_some]
     by_cases hcc:(NameKind.free == NameKind.free && X.env.scope.kind == .function && X.env.kindOf y == some .cell)=true
     ·rw [if_pos hcc];exact .inl rfl
     ·rw [if_neg hcc];exact .inr rfl
    ·show (cellsFrom (s.heap.objs.size + 2) scope.names (V4 X.env.cells scope.names [])).lookup y=some c
     rw [a2n]
     ·obtain ⟨d,ed⟩:=a9w (acc:=[]) ec mem;rw [ed,← clLook y d ed,ec]
     ·intro p hp hpc hpy;have:=ok.cel p hp hpc;rw [hpy,hl] at this;cases this
 ·rcases look y c e with ⟨_,q⟩ | q
  ·exact ⟨_,q⟩
  ·obtain ⟨v,z⟩:=I.cell y c q;exact ⟨v,z.keeps keep⟩
 ·rcases look y c e with ⟨q,_⟩ | q
  ·exact fresh _ .(25)
  ·exact I.freeC y c q
 ·show (none :: sel idx σ).length=(x :: M).length
  unfold sel;rw [List.length_cons,List.length_cons,List.length_map,ok.len]
theorem b7f {prog:Program}{w:World}{A:Around}{R:Result->Shared->Prop}{s:Shared}{elt target iter:Expr}{ifs:List Expr}{scope:Scope}{pos:Pos}{it acc:Value}{env:Env}(I:Nat->Shared->Prop)
  (turn:∀ n s,I n s->wpAny (model prog w) A (pyNext it) (λr s₁=>match r with
   | none=>R (.ok .next) s₁
   | some v=>wpAny (model prog w) A (letOwnedTupleGo target it v) (λ_ s₁'=>wpAny (model prog w) A (assign target env v) (λ_ s₂ =>
     wpAny (model prog w) A (forIn ifs true λc r=>if r=true then do let ok ← isTrue c env (eval c env);pure (ForInStep.yield ok) else pure (ForInStep.yield r)) (λok s₃ =>
      if ok=true then wpAny (model prog w) A (eval elt env) (λx s₄ =>
       wpAny (model prog w) A (call (.builtin "list.append") [acc,x]) (λ_ s₅=>∃ m,m < n/\I m s₅) (λ_ _=>False) s₄) (λ_ _=>False) s₃
      else ∃ m,m < n/\I m s₃) (λ_ _=>False) s₂) (λ_ _=>False) s₁') (λ_ _=>False) s₁) (λ_ _=>False) s)
  (n:Nat) (h:I n s) :
  codeAny (model prog w) A (.compLoop (.ListComp elt [⟨target,iter,ifs,0⟩] scope pos) 0 it acc env) R s:=by
 refine codeAny_loop rfl I (λn s hI=>?_) n h
 show wpAny _ A ((compTurn (.ListComp elt [⟨target,iter,ifs,0⟩] scope pos) 0 it acc env).onRaise (λx=>do noteFrame x env;theTreesLotGoes x)) _ _ s
 refine wpAny_noted ?_;rw [compTurn_list];refine wpAny_bind (wpAny_standAt (wpAny_bind (wpAny_mono (turn n s hI) (λr s₁ h₁=>?_) λ_ _ h'=>h'.elim)));cases r with
 | none=>exact wpAny_pure h₁
 | some v =>
  refine wpAny_bind (wpAny_mono h₁ (λ_ s₁' h₁'=>?_) λ_ _ h'=>h'.elim);refine wpAny_bind (wpAny_mono h₁' (λ_ s₂ h₂=>wpAny_bind (wpAny_mono h₂ (λok s₃ h₃=>?_) λ_ _ h'=>h'.elim)) λ_ _ h'=>h'.elim);cases ok with
  | false=>exact wpAny_pure ⟨rfl,h₃⟩
  | true =>
   exact wpAny_bind (wpAny_bind (wpAny_mono h₃ (λx s₄ h₄=>wpAny_bind (wpAny_mono h₄ (λ_ s₅ h₅=>wpAny_pure (wpAny_pure ⟨rfl,h₅⟩)) λ_ _ h'=>h'.elim)) λ_ _ h'=>h'.elim))
noncomputable def PTs (X:Cx)(cs:List Expr)(t:TT):Prop :=
 ∀ (pins:List (Addr × Obj)) (s:Shared) (σ:St) (H:Hp) (Q:Bool->Hp->Prop),Inv X pins σ H s->t σ H Q ->
  wpAny (model X.prog X.w) X.A (forIn cs true λc r=>if r=true then do let ok ← isTrue c X.env (eval c X.env);pure (ForInStep.yield ok) else pure (ForInStep.yield r)) (TP X pins σ Q) X.xe s
noncomputable def b7o:TT:=λ_ H Q=>Q true H
theorem F5:PTs X [] b7o:=λ_ _ _ H _ I h=>wpAny_tests_nil ⟨H,I,h⟩
theorem b3v {c:Expr}{t:TT}(h:PT X c t):PTs X [c] t:=λpins s σ H Q I hq=>wpAny_tests_one (h pins s σ H Q I hq)
noncomputable def a6M (J:It)(H1:Hp)(one:V->Hp->(Option V->Hp->Prop)->Prop)(Q:List V->Hp->Prop):Prop :=
 ∃ (n:Nat) (W:Nat->List V->Hp->Prop),W 0 [] H1/\n<=sizeLine/\∀ i ys H',W i ys H'->(J.stop i H'/\Q ys H') \/
  (J.go i H'/\i < n/\∃ N:Option V->Hp->Prop,(∀ o H3,N o H3->W (i + 1) (ys ++ o.toList) H3)/\∀ x H2,J.yld i H' x H2->one x H2 N)
noncomputable def b3I (tc:TT)(te:TE)(σ:St)(x:V)(H:Hp)(k:Option V->Hp->Prop):Prop :=
 tc (some x :: σ) H λb H1=>if b=true then te (some x :: σ) H1 λv H2=>k (some v) H2 else k none H1
noncomputable def b5u (wi:TI)(idx:List Nat)(tc:TT)(te:TE):TE:=fun σ H Q=>wi σ H λJ H1=>a6M J H1 (b3I tc te (sel idx σ)) λys H'=>∀ p,H' p=none->Q (.ref p) (upd H' p (.lst ys))
theorem b2t {elt iter:Expr}{ifs:List Expr}{scope:Scope}{pos:Pos}{x:Str}{px:Pos}{M:List Str}{idx:List Nat}{tc:TT}{te:TE}{itv:Value}{Q:List V->Hp->Prop}
  {RR:Value->Addr->Result->Shared->Prop}
  (hc:X.calm=true) (ok:b4h X scope M idx) (hN:(x :: M).Nodup) (hx:scope.names.lookup x=some .local \/ scope.names.lookup x=some .cell)
  (ht:∀ cells C s2 H2 fp,PTs (X.comp scope cells C (x :: M) s2 H2 fp) ifs tc) (he:∀ cells C s2 H2 fp,PE (X.comp scope cells C (x :: M) s2 H2 fp) elt te)
  (h:PIE X pins σ (.Name x px) (λJ H1=>a6M J H1 (b3I tc te (sel idx σ)) Q) itv s)
  (hR:∀ (D C:Addr) (ys:List V) (H':Hp) (s':Shared),s.heap.objs.size <= D->s.heap.objs.size <= C->D≠C->H' D=none->H' C=none->Q ys H'->(∃ m,s'.heap.Ns C m) ->
   (∀ h' tk,Heap.SameBut C s'.heap h'->Inv X pins σ (upd H' D (.lst ys)) { s' with heap:=h',toks:=tk })->RR (.ref D) C (.ok .next) s') :
  wpAny (model X.prog X.w) X.A (newList []) (λacc s₃=>wpAny (model X.prog X.w) X.A (newFunctionEnv scope X.env.globals (V4 X.env.cells scope.names []) [] X.env.qual none .none (some X.env)) (λcenv s₄ =>
   codeAny (model X.prog X.w) X.A (.compStart (.ListComp elt [⟨.Name x px,iter,ifs,0⟩] scope pos) 0 itv acc { cenv with scope:=relabel scope X.env }) (RR acc cenv.locals) s₄) X.xe s₃) X.xe s:=by
 obtain ⟨it,fp,tn,J,H2,e,I2,T,st2,f2,n,W,w0,hn,turn⟩:=h;subst e;have ho:∀ b∈fp,∃ o,s.heap.get? b=some o:=λb hb=>let ⟨o,e,_⟩:=T.obj 0 _ st2 b hb;⟨o,e⟩;have I3:=b1t (x:=x) ok hc I2 f2 ho;have sz1:(s.heap.push { cls:=.type "list",dict:=none,data:=.seq ([]:List Value).toArray }).objs.size=s.heap.objs.size + 1:=Heap.size_push ..;have keep0:∀ b o,s.heap.get? b=some o->(pushCells ((s.heap.push { cls:=.type "list",dict:=none,data:=.seq ([]:List Value).toArray }).push { cls:=.type "dict",data:=.dict #[] }) scope.names).get? b=some o :=
  λb o e=>pushCells_keeps _ _ _ _ (Heap.get?_push_of_some _ (Heap.get?_push_of_some _ e))
 have acc0:(pushCells ((s.heap.push { cls:=.type "list",dict:=none,data:=.seq ([]:List Value).toArray }).push { cls:=.type "dict",data:=.dict #[] }) scope.names).PlainList s.heap.objs.size ([]:List Value).toArray :=
  ⟨_,pushCells_keeps _ _ _ _ (Heap.get?_push_of_some _ (Heap.get?_push_size _ rfl))⟩
 have fpLt:∀ b∈fp,b < s.heap.objs.size:=λb hb=>let ⟨_,e⟩:=ho b hb;Heap.lt_size e;refine wpAny_newList ?_;refine b0r ?_;dsimp only;rw [sz1];generalize hcells:cellsFrom (s.heap.objs.size + 1 + 1) scope.names (V4 X.env.cells scope.names [])=cells;have hcells':cellsFrom (s.heap.objs.size + 2) scope.names (V4 X.env.cells scope.names [])=cells:=hcells;rw [hcells'] at I3;generalize hh:pushCells ((s.heap.push { cls:=.type "list",dict:=none,data:=.seq ([]:List Value).toArray }).push { cls:=.type "dict",data:=.dict #[] }) scope.names=h1 at I3 keep0 acc0 ⊢;have ht:=ht cells (s.heap.objs.size + 1) s H2 fp;have he:=he cells (s.heap.objs.size + 1) s H2 fp;have st3:tn 0 h1:=T.keep 0 _ _ st2 λb hb o e=>keep0 b o e;have hg:PG (X.comp scope cells (s.heap.objs.size + 1) (x :: M) s H2 fp) (.Name x px) (q0 0):=by
  refine m9 hN rfl ?_ ?_
  ·show (relabel scope X.env).names.lookup x=some .local \/ (relabel scope X.env).names.lookup x=some .cell
   rw [show (relabel scope X.env).names.lookup x=_ from Q3 scope.names x]
   rcases hx with z | z
   ·rw [z];exact .inl rfl
   ·rw [z];exact .inr rfl
  ·rcases hx with z | z
   ·refine .inr ?_
    show (relabel scope X.env).names.lookup x=some .local
    rw [show (relabel scope X.env).names.lookup x=_ from Q3 scope.names x,z]
    rfl
   ·refine .inl ?_
    show (scope.names.lookup x == some .cell)=true
    rw [z];rfl
 have stat:∀ {pins':List (Addr × Obj)} {H':Hp},(∀ p∈pins',p.1=s.heap.objs.size)->(∀ b∈fp,H' b=none)->∀ b∈fp,a9W (X.comp scope cells (s.heap.objs.size + 1) (x :: M) s H2 fp) pins' H' b:=λ{pins' H'} hp hn b hb =>
  ⟨hn b hb,(I3.ok.exf b hb).1,I3.ok.exfs b hb,.inl hb,(I3.ok.exf b hb).2,λp hp'=>by
   have e:=hp p (show p∈pins' from by simpa [Cx.comp] using hp');rw [e];exact Nat.ne_of_gt (fpLt b hb)⟩
 have loop:∀ (s₄:Shared),s₄={ s with heap:=h1 }->codeAny (model X.prog X.w) X.A (.compLoop (.ListComp elt [⟨.Name x px,iter,ifs,0⟩] scope pos) 0 (.ref it) (.ref s.heap.objs.size) (compEnvC scope cells (s.heap.objs.size + 1) X.env))
   (RR (.ref s.heap.objs.size) (s.heap.objs.size + 1)) s₄:=by
  rintro s₄ rfl;refine b7f (λk s'=>∃ (i:Nat) (ys:List V) (its:List Value) (H':Hp),Inv (X.comp scope cells (s.heap.objs.size + 1) (x :: M) s H2 fp) [] (none :: sel idx σ) H' s'/\tn i s'.heap /\ (∀ b∈fp,H' b=none)/\H' s.heap.objs.size=none /\
   s'.heap.PlainList s.heap.objs.size its.toArray /\ o8 ys its/\ys.length <= i/\i<=n/\W i ys H'/\k=n - i) ?_ n ⟨0,[],[],H2,I3,st3,λb hb=>(f2 b hb).1,I2.hok.fresh (Nat.le_refl _),acc0,.nil,Nat.le_refl _,Nat.zero_le _,w0,rfl⟩
  rintro k s' ⟨i,ys,its,H',I',st',fr',hD',hpl',hv',hlen,hlin,w',rfl⟩;obtain ⟨nn,hobj⟩:=id hpl';have pinD:∀ {H5:Hp} {s5:Shared} {σ5:St} {P5:List (Addr × Obj)},Inv (X.comp scope cells (s.heap.objs.size + 1) (x :: M) s H2 fp) P5 σ5 H5 s5->s5.heap.get? s.heap.objs.size=some { cls:=.type "list",data:=.seq its.toArray nn }->H5 s.heap.objs.size=none ->
    ∀ p∈[(s.heap.objs.size,({ cls:=.type "list",data:=.seq its.toArray nn }:Obj))],s5.heap.get? p.1=some p.2 /\ H5 p.1=none/\p.1 ≠ (X.comp scope cells (s.heap.objs.size + 1) (x :: M) s H2 fp).env.locals /\ p.1 ∉ (X.comp scope cells (s.heap.objs.size + 1) (x :: M) s H2 fp).fs /\ ∀ v,p.2.data ≠ .cell v :=
   λ{H5 s5 σ5 P5} I5 e5 n5 p hp=>by
    have ep:p=(s.heap.objs.size,({ cls:=.type "list",data:=.seq its.toArray nn }:Obj)):=by simpa using hp
    subst ep;refine ⟨e5,n5,Nat.ne_of_lt (Nat.lt_succ_self _),λz=>?_,λv z=>by cases z⟩;obtain ⟨_,o,ho,_⟩:=I5.ok.funs.mem z;exact absurd (Heap.lt_size ho) (Nat.lt_irrefl _)
  have ID:=I'.pins_of (pinD I' hobj hD');have ndp:∀ p∈[(s.heap.objs.size,({ cls:=.type "list",data:=.seq its.toArray nn }:Obj))],p.1=s.heap.objs.size:=λp hp=>by
   have ep:p=(s.heap.objs.size,({ cls:=.type "list",data:=.seq its.toArray nn }:Obj)):=by simpa using hp
   rw [ep]
  rcases turn i ys H' w' with ⟨stop,qn⟩ | ⟨go,hin,N,hNW,step⟩
  ·refine thn (T.done (X.comp scope cells (s.heap.objs.size + 1) (x :: M) s H2 fp) rfl rfl rfl hc i _ s' _ H' (λ_ _=>False) ID (stat ndp fr') st' stop) λr s4 ⟨hr,I4⟩=>?_;subst hr;have pin4:=I4.pin (s.heap.objs.size,({ cls:=.type "list",data:=.seq its.toArray nn }:Obj)) (by simp [Cx.comp]);obtain ⟨m4,hm4,_⟩:=id I4.loc;refine hR s.heap.objs.size (s.heap.objs.size + 1) ys H' s4 (Nat.le_refl _) (Nat.le_succ _) (Nat.ne_of_lt (Nat.lt_succ_self _)) pin4.2.1 I4.free qn ⟨m4,hm4⟩ λh' tk hs'=>?_;have neC:∀ b,b < s.heap.objs.size -> b≠s.heap.objs.size + 1:=λb hb=>Nat.ne_of_lt (Nat.lt_succ_of_lt hb);have neD:∀ b,b < s.heap.objs.size -> b≠s.heap.objs.size:=λb hb=>Nat.ne_of_lt hb;have u4:=I4.base;refine I2.call' (s':={ s4 with heap:=h',toks:=tk }) (ch:=fp) I4.os ?_ ?_ I4.bare λb hb=>?_
   ·refine ⟨λb o e1 e2 e3 e4=>?_,λb o e1 e2 e3 e4=>?_,λb o e1 e2 e3=>?_,λb o e1 e2=>?_,λb xs e1=>?_,λb o u e1=>?_,λb ps e1=>?_⟩
    ·exact (hs'.2 b (neC b (Heap.lt_size e1))).trans (u4.keep b o e1 e2 e3 e4)
    ·obtain ⟨sl,q⟩:=u4.slot b o e1 e2 e3 e4;exact ⟨sl,(hs'.2 b (neC b (Heap.lt_size e1))).trans q⟩
    ·rw [j4 (neD b (Heap.lt_size e1))];exact u4.free b o e1 e2 e3
    ·obtain ⟨o',q⟩:=u4.there b o e1 e2;exact ⟨o',(hs'.2 b (neC b (Heap.lt_size e1))).trans q⟩
    ·have q:=u4.tups b xs e1;rw [j4 (d6 q pin4.2.1)];exact q
    ·have q:=u4.frzs b o u e1;rw [j4 (d6 q pin4.2.1)];exact q
    ·obtain ⟨more,q⟩:=u4.tbls b ps e1;exact ⟨more,by rw [j4 (d6 q pin4.2.1)];exact q⟩
   ·intro b o e1
    by_cases hb:b=s.heap.objs.size
    ·subst hb;rw [b7] at e1;cases e1;exact ⟨Nat.le_trans hlen (Nat.le_trans hlin hn),its,nn,hv',(hs'.2 _ (Nat.ne_of_lt (Nat.lt_succ_self _))).trans pin4.1⟩
    ·rw [j4 hb] at e1;refine (I4.hok b o e1).stay (λc u hcu q=>(hs'.2 c ?_).trans q) (λc q=>by rw [j4 (d6 q pin4.2.1)];exact q) λc xs q=>by rw [j4 (d6 q pin4.2.1)];exact q
     rintro rfl
     rcases hcu with z | z
     ·rw [← z] at e1;have z2:=I4.free;rw [show (X.comp scope cells (s.heap.objs.size + 1) (x :: M) s H2 fp).env.locals=s.heap.objs.size + 1 from rfl,e1] at z2;cases z2
     ·have z2:=I4.free;rw [show (X.comp scope cells (s.heap.objs.size + 1) (x :: M) s H2 fp).env.locals=s.heap.objs.size + 1 from rfl,z] at z2;cases z2
   ·obtain ⟨_,g1,g2,g3,g4,g5⟩:=f2 b hb;exact ⟨g3,g1,g4,g5⟩
  ·refine thn (T.item (X.comp scope cells (s.heap.objs.size + 1) (x :: M) s H2 fp) rfl rfl rfl hc i _ s' _ H' (λ_ _=>False) ID (stat ndp fr') st' go) λr s4 ⟨u,hr,h4⟩=>?_;subst hr;refine thn h4 λ_ s5 ⟨y,H5,I5,r5,y5,st5,fr5⟩=>?_;have I5':=I5.pinned (stat ndp fr5) (T.obj _ _ st5);refine thn (hg _ s5 _ H5 y u (fun σ' H6=>σ'=some y :: sel idx σ/\H6=H5) I5' r5 ⟨rfl,rfl⟩) λ_ s6 ⟨σ6,H6,I6,e6,e6'⟩=>?_;subst e6 e6';have fin:∀ {H8:Hp} {s8:Shared} {σ8:St},Inv (X.comp scope cells (s.heap.objs.size + 1) (x :: M) s H2 fp) ([(s.heap.objs.size,({ cls:=.type "list",data:=.seq its.toArray nn }:Obj))] ++ a2R fp s5.heap) σ8 H8 s8 ->
     s8.heap.PlainList s.heap.objs.size its.toArray /\ H8 s.heap.objs.size=none/\tn (i + 1) s8.heap /\ ∀ b∈fp,H8 b=none:=λ{H8 s8 σ8} I8=>by
    have p8:=I8.pin (s.heap.objs.size,({ cls:=.type "list",data:=.seq its.toArray nn }:Obj)) (by simp [Cx.comp]);refine ⟨⟨nn,p8.1⟩,p8.2.1,T.keep _ _ _ st5 λb hb o e=>(I8.pin (b,o) (List.mem_append_right _ (List.mem_append_right _ (a3r hb e)))).1,λb hb=>?_⟩;obtain ⟨o,e,_⟩:=T.obj _ _ st5 b hb;exact (I8.pin (b,o) (List.mem_append_right _ (List.mem_append_right _ (a3r hb e)))).2.1
   have back:∀ {H8:Hp} {s8:Shared} {P8:List (Addr × Obj)},Inv (X.comp scope cells (s.heap.objs.size + 1) (x :: M) s H2 fp) P8 (some y :: sel idx σ) H8 s8->Inv (X.comp scope cells (s.heap.objs.size + 1) (x :: M) s H2 fp) [] (none :: sel idx σ) H8 s8:=λI8 =>
    (I8.pins_of λp hp=>absurd hp .(26)).weak rfl λj v e=>by
     cases j with
     | zero=>cases e
     | succ j=>exact e
   refine thn (ht _ s6 _ _ _ I6 (step y _ y5)) λb s7 ⟨H7,I7,q7⟩=>?_;cases b with
   | false =>
    have q7':W (i + 1) (ys ++ []) H7:=hNW none H7 q7;rw [List.append_nil] at q7';obtain ⟨g1,g2,g3,g4⟩:=fin I7;refine show (if false=true then _ else _) from ?_
    rw [if_neg Bool.false_ne_true];exact ⟨n - (i + 1),by omega,i + 1,ys,its,H7,back I7,g3,g4,g2,g1,hv',Nat.le_succ_of_le hlen,hin,q7',rfl⟩
   | true =>
    refine show (if true=true then _ else _) from ?_
    rw [if_pos rfl];have q7':te (some y :: sel idx σ) H7 λv H3=>N (some v) H3:=q7;refine thn (he _ s7 _ _ _ I7 q7') λu8 s8 ⟨v8,H8,I8,r8,w8⟩=>?_;have w8:W (i + 1) (ys ++ [v8]) H8:=hNW (some v8) H8 w8;obtain ⟨g1,g2,g3,g4⟩:=fin I8;refine wpAny_list_append_plain g1 (λh' hpl hs'=>?_) (by
     rw [List.size_toArray,← hv'.length];exact Nat.le_trans hlen (Nat.le_trans hlin hn))
    have I9:=back I8;have hpl2:h'.PlainList s.heap.objs.size (its ++ [u8]).toArray:=by
     have e:(its ++ [u8]).toArray=its.toArray.push u8:=by simp
     rw [e];exact hpl
    refine ⟨n - (i + 1),by omega,i + 1,ys ++ [v8],its ++ [u8],H8,I9.turned (it:=s.heap.objs.size) (t':=s8.toks) (λb o hb e=>(hs'.2 b hb).trans e) g2 (Nat.ne_of_lt (Nat.lt_succ_self _)) (.inr (Nat.le_refl _)) (λz c ec hcz=>?_) (λp hp=>absurd hp (by simp [Cx.comp])),
     T.keep _ _ _ g3 (λb hb o e=>(hs'.2 b (Nat.ne_of_lt (fpLt b hb))).trans e),g4,g2,hpl2,hv'.append (.cons r8 .nil),by rw [List.length_append];exact Nat.succ_le_succ hlen,hin,w8,rfl⟩
    obtain ⟨v,o,ho,hd⟩:=I9.cell z c ec;obtain ⟨n9,g9⟩:=g1;rw [hcz,g9] at ho;cases ho;cases hd
 exact codeAny_compStart_list (loop _ rfl) (T.self _ 0 _ _ _ st3 (loop _ rfl))
theorem w5 {elt iter:Expr}{ifs:List Expr}{scope:Scope}{pos:Pos}{x:Str}{px:Pos}{M:List Str}{idx:List Nat}{wi:TI}{tc:TT}{te:TE}
  (hc:X.calm=true) (hi:PI X (.Name x px) iter wi) (ok:b4h X scope M idx) (hN:(x :: M).Nodup) (hx:scope.names.lookup x=some .local \/ scope.names.lookup x=some .cell)
  (ht:∀ cells C s2 H2 fp,PTs (X.comp scope cells C (x :: M) s2 H2 fp) ifs tc) (he:∀ cells C s2 H2 fp,PE (X.comp scope cells C (x :: M) s2 H2 fp) elt te)
  (hs:∀ x,foldedSetIterable iter X.env x=pure x:=by intro _;rfl):PE X (.ListComp elt [⟨.Name x px,iter,ifs,0⟩] scope pos) (b5u wi idx tc te):=by
 intro pins s σ H Q I h;rw [eval_ListComp];refine wpAny_comprehension_free (use:=none) rfl hs (a5W λy hy e=>I.ok.has y.1 (ok.fre y hy e)) ok.kind ok.loc (thn (hi pins s σ H _ I h) λv s1 h1=>thn h1 λitv s2 h2=>?_);refine b2t (RR:=λacc C=>compPost (model X.prog X.w) X.A X.xe none (EP X pins σ Q) acc C) hc ok hN hx ht he h2 λD C ys H' s' hD hC hDC nD nC q hm hI=>?_;obtain ⟨m,hm⟩:=hm;exact ⟨m,hm,λh' hs'=>⟨.ref D,upd H' D (.lst ys),hI h' s'.toks hs',rfl,q D nD⟩⟩
end
theorem R9 {K:PySem.W.Frag}{a:Addr}{xs:List V}{H:Hp}{one:V->Hp->(Option V->Hp->Prop)->Prop}{Q:List V->Hp->Prop}(Pv:Nat->List V->Hp->Prop)(h0:Pv 0 [] H)(hn:xs.length <= sizeLine)
  (hl:∀ i ys H,i<=xs.length -> Pv i ys H->SqL K H a xs) (hs:∀ i x ys H,xs[i]? = some x->Pv i ys H->one x H λo H2=>Pv (i + 1) (ys ++ o.toList) H2) (hd:∀ ys H,Pv xs.length ys H->Q ys H):a6M (Itl K a) H one Q:=by
 refine ⟨xs.length,λi ys H=>i<=xs.length /\ Pv i ys H,⟨Nat.zero_le _,h0⟩,hn,?_⟩;rintro i ys H ⟨hi,p⟩;have q:=hl i ys H hi p
 by_cases hlt:i < xs.length
 ·refine .inr ⟨⟨xs,xs[i],q,by simp [hlt]⟩,hlt,λo H3=>Pv (i + 1) (ys ++ o.toList) H3,λo H3 z=>⟨hlt,z⟩,λx H2 y=>?_⟩;obtain ⟨e,y⟩:=y;subst e;exact hs i x ys _ (y xs q) p
 ·have e:i=xs.length:=by omega
  subst e;exact .inl ⟨⟨xs,q,Nat.le_refl _⟩,hd ys H p⟩
theorem O8 {K:PySem.W.Frag}{a:Addr}{xs:List V}{H:Hp}{one:V->Hp->(Option V->Hp->Prop)->Prop}{Q:List V->Hp->Prop}(Pv:Nat->List V->Hp->Prop)(h0:Pv 0 [] H)(hn:xs.length <= sizeLine)
  (hl:∀ i ys H,i<=xs.length -> Pv i ys H->SqT K H a xs) (hs:∀ i x ys H,xs[i]? = some x->Pv i ys H->one x H λo H2=>Pv (i + 1) (ys ++ o.toList) H2) (hd:∀ ys H,Pv xs.length ys H->Q ys H):a6M (Itt K a) H one Q:=by
 refine ⟨xs.length,λi ys H=>i<=xs.length /\ Pv i ys H,⟨Nat.zero_le _,h0⟩,hn,?_⟩;rintro i ys H ⟨hi,p⟩;have q:=hl i ys H hi p
 by_cases hlt:i < xs.length
 ·refine .inr ⟨⟨xs,xs[i],q,by simp [hlt]⟩,hlt,λo H3=>Pv (i + 1) (ys ++ o.toList) H3,λo H3 z=>⟨hlt,z⟩,λx H2 y=>?_⟩;obtain ⟨e,y⟩:=y;subst e;exact hs i x ys _ (y xs q) p
 ·have e:i=xs.length:=by omega
  subst e;exact .inl ⟨⟨xs,q,Nat.le_refl _⟩,hd ys H p⟩
theorem b5m {lo:Int}{n:Nat}{H:Hp}{one:V->Hp->(Option V->Hp->Prop)->Prop}{Q:List V->Hp->Prop}(Pv:Nat->List V->Hp->Prop)(h0:Pv 0 [] H)(hn:n<=sizeLine)
  (hs:∀ i ys H,i < n->Pv i ys H->one (.int (lo + i)) H λo H2=>Pv (i + 1) (ys ++ o.toList) H2) (hd:∀ ys H,Pv n ys H->Q ys H):a6M (Itr lo n) H one Q:=by
 refine ⟨n,λi ys H=>i<=n/\Pv i ys H,⟨Nat.zero_le _,h0⟩,hn,?_⟩;rintro i ys H ⟨hi,p⟩
 by_cases hlt:i < n
 ·refine .inr ⟨hlt,hlt,λo H3=>Pv (i + 1) (ys ++ o.toList) H3,λo H3 z=>⟨hlt,z⟩,λx H2 y=>?_⟩;obtain ⟨e,y⟩:=y;subst e y;exact hs i ys _ hlt p
 ·have e:i=n:=by omega
  subst e;exact .inl ⟨Nat.le_refl _,hd ys H p⟩
mutual
inductive IsD (H:Hp):V->PyData->Prop
 | non:IsD H .non .none
 | bl (b:Bool):IsD H (.bl b) (.bool b)
 | int (i:Int):IsD H (.int i) (.int i)
 | str (x:Str):IsD H (.str x) (.str x)
 | tup {a:Addr} {xs:List V} {ds:List PyData}:H a=some (.tup xs)->IsDs H xs ds->IsD H (.ref a) (.tuple ds)
inductive IsDs (H:Hp):List V->List PyData->Prop
 | nil:IsDs H [] []
 | cons {x:V} {xs:List V} {d:PyData} {ds:List PyData}:IsD H x d->IsDs H xs ds->IsDs H (x :: xs) (d :: ds)
end
noncomputable def N7 (H H':Hp):Prop:=∀ a xs,H a=some (.tup xs)->H' a=some (.tup xs)
mutual
theorem IsD.keep {H H':Hp}(k:N7 H H'):∀ {v:V} {d:PyData},IsD H v d->IsD H' v d
 | _,_,.non=>.non
 | _,_,.bl b=>.bl b
 | _,_,.int i=>.int i
 | _,_,.str x=>.str x
 | _,_,.tup h r=>.tup (k _ _ h) (IsDs.keep k r)
theorem IsDs.keep {H H':Hp}(k:N7 H H'):∀ {xs:List V} {ds:List PyData},IsDs H xs ds->IsDs H' xs ds
 | _,_,.nil=>.nil
 | _,_,.cons h r=>.cons (IsD.keep k h) (IsDs.keep k r)
end
theorem IsDs.length {H:Hp}:∀ {xs:List V} {ds:List PyData},IsDs H xs ds->xs.length=ds.length
 | _,_,.nil=>rfl
 | _,_,.cons _ r=>by rw [List.length_cons,List.length_cons,IsDs.length r]
theorem IsDs.get {H:Hp}:∀ {xs:List V} {ds:List PyData} {i:Nat} {d:PyData},IsDs H xs ds->ds[i]? = some d->∃ x,xs[i]? = some x/\IsD H x d
 | _,_,i,d,.nil,e=>by simp at e
 | _,_,0,d,.cons h _,e=>by simp at e;subst e;exact ⟨_,rfl,h⟩
 | _,_,i + 1,d,.cons _ r,e=>by
  obtain ⟨x,e1,h⟩:=IsDs.get (i:=i) (d:=d) r (by simpa using e);exact ⟨x,by simpa using e1,h⟩
theorem IsDs.append {H:Hp}:∀ {xs ys:List V} {ds es:List PyData},IsDs H xs ds->IsDs H ys es->IsDs H (xs ++ ys) (ds ++ es)
 | _,_,_,_,.nil,s=>s
 | _,_,_,_,.cons h r,s=>.cons h (IsDs.append r s)
theorem IsD.tuple_inv {H:Hp}{v:V}{ds:List PyData}(h:IsD H v (.tuple ds)):∃ a xs,v = .ref a/\H a=some (.tup xs)/\IsDs H xs ds:=by
 cases h with
 | tup e r=>exact ⟨_,_,rfl,e,r⟩
section
variable {X:Cx}{pins:List (Addr × Obj)}{σ:St}{H:Hp}{s:Shared}
mutual
theorem IsD.reads {P:Program}{w:World}{h:Heap}{H:Hp}(I:HOk P w H h):∀ {v:V} {d:PyData} {u:Value},IsD H v d->u7 v u->∃ as,Reads h u d as
 | _,_,u,.non,r=>by cases (show u=Value.none from r);exact ⟨_,.none⟩
 | _,_,u,.bl b,r=>by cases (show u=Value.bool b from r);exact ⟨_,.bool b⟩
 | _,_,u,.int i,r=>by obtain ⟨t,rfl⟩:=(show ∃ t,u=Value.int i t from r);exact ⟨_,.int i t⟩
 | _,_,u,.str x,r=>by obtain ⟨t,rfl⟩:=(show ∃ t,u=Value.str x t from r);exact ⟨_,.str x t⟩
 | _,_,u,.tup (a:=a) (xs:=xs) e rs,r=>by
  cases (show u=Value.ref a from r);obtain ⟨_,its,rv,o,h1,h2,n,h3⟩:=(show E5 P w H h a (.tup xs) from I a _ e);obtain ⟨as,hr⟩:=IsDs.reads I rs rv;exact ⟨as,.tuple h1 h2 h3 (by simpa using hr)⟩
theorem IsDs.reads {P:Program}{w:World}{h:Heap}{H:Hp}(I:HOk P w H h):∀ {xs:List V} {ds:List PyData} {us:List Value},IsDs H xs ds->o8 xs us->∃ as,ReadsAll h us ds as
 | _,_,_,.nil,.nil=>⟨_,.nil⟩
 | _,_,_,.cons h r,.cons v vs=>by
  obtain ⟨as,h1⟩:=IsD.reads I h v;obtain ⟨bs,h2⟩:=IsDs.reads I r vs;exact ⟨_,.cons h1 h2⟩
end
noncomputable def b7N (u:Nat)(dx dy:PyData):Prop:=dx.canLay0=true/\dy.canLay0=true/\dx.depth <= 20
noncomputable def b0H (u:Nat):R2:=λx y H Q=>∃ dx dy,IsD H x dx/\IsD H y dy/\b7N u dx dy/\Q (.bl (PyData.eqv dx dy)) H
noncomputable def b3q (u:Nat):R2:=λx y H Q=>∃ dx dy,IsD H x dx/\IsD H y dy/\b7N u dx dy/\Q (.bl (!PyData.eqv dx dy)) H
theorem b5b {A:Around}{a b:Nat}(hu:A.units + 64 < cLine)(h:a<=20):A.units + min a b < cLine:=by
 have:min a b<=a:=Nat.min_le_left _ _
 omega
theorem c3e (hu:X.A.units + 64 < cLine):OpR X (compareOp .Eq) (b0H 0):=by
 intro pins s σ H x y v u Q I rx ry h;obtain ⟨dx,dy,hx,hy,⟨c1,c2,c3⟩,q⟩:=h;obtain ⟨as,r1⟩:=hx.reads I.hok rx;obtain ⟨bs,r2⟩:=hy.reads I.hok ry;exact PySem.SeqAt.compareEq_reads r1 r2 c1 c2 (b5b hu c3) ⟨.bl _,H,I,rfl,q⟩
theorem c1e (hu:X.A.units + 64 < cLine):OpR X (compareOp .NotEq) (b3q 0):=by
 intro pins s σ H x y v u Q I rx ry h;obtain ⟨dx,dy,hx,hy,⟨c1,c2,c3⟩,q⟩:=h;obtain ⟨as,r1⟩:=hx.reads I.hok rx;obtain ⟨bs,r2⟩:=hy.reads I.hok ry;exact PySem.SeqAt.compareNe_reads r1 r2 c1 c2 (b5b hu c3) ⟨.bl _,H,I,rfl,q⟩
theorem b2n:∀ {bs:List Bool} {us:List Value},o8 (bs.map V.bl) us->LSm.BoolsAre us bs
 | [],_,.nil=>.nil
 | b :: bs,_,.cons r t=>by
  cases (show _=Value.bool b from r);exact .cons b (b2n t)
theorem b5L (hc:X.calm=true):B6 X (.builtin "all") (λxs H Q=>∃ (p:Addr) (bs:List Bool),xs=[.ref p]/\SqL X.K H p (bs.map V.bl)/\Q (.bl (bs.all id)) H):=by
 intro pins s σ H xs us Q I r h;obtain ⟨p,bs,rfl,hS,q⟩:=h;obtain ⟨u,rfl,e⟩:=a9t r;obtain rfl:u=Value.ref p:=e;obtain ⟨its,hv,⟨o,n,h1,h2,h3,h4⟩,_⟩:=I.list hS;have hb:=b2n hv;have hl:s.heap.IsList p its.toArray:=⟨o,h1,h2,n,h4⟩;have hlt:p < s.heap.objs.size:=Heap.lt_size h1;refine call_all_walk (wpAny_pyIter_list hl ?_);refine ⟨s.heap.objs.size,[s.heap.objs.size,p],[s.heap.objs.size],its.toArray.size,_,_,λi=>(bs[i]?).getD true,rfl,Walks.list (A:=X.A.in1) (I.ok.hd hc) _ p (Nat.ne_of_lt hlt) its.toArray,
  ⟨⟨_,Heap.get?_push_size _ rfl,rfl,rfl⟩,hl.push _⟩,λi v s' Q' E' hP hQ=>?_,λh' tk hk=>?_⟩
 ·obtain ⟨b,e,rfl⟩:=hb.get i v (by simpa using hP);simp only [e,Option.getD_some] at hQ;exact wpAny_truthy_bool hQ
 ·have e:((List.range its.toArray.size).all λi=>(bs[i]?).getD true)=bs.all id:=by
   rw [List.size_toArray,hb.length];exact LSm.range_all bs
  rw [e];exact ⟨.bl _,H,I.kept (LSm.kept_iter hk),rfl,q⟩
noncomputable def b2J (K:PySem.W.Frag)(H:Hp)(x:V)(T:String):Prop:=match x with
 | .non=>T = "NoneType"
 | .bl _=>T = "bool"
 | .int _=>T = "int"
 | .str _=>T = "str"
 | .ref a=>(T = "tuple"/\∃ xs,H a=some (.tup xs)) \/ (T = "list"/\∃ xs,H a=some (.lst xs))
 | _=>False
theorem b0W {K:PySem.W.Frag}{H:Hp}{x:V}{T:String}(h:b2J K H x T):a3K K H x (.type T):=by
 cases x with
 | non=>cases (show T=_ from h);exact .non
 | bl b=>cases (show T=_ from h);exact .bl b
 | int i=>cases (show T=_ from h);exact .int i
 | str i=>cases (show T=_ from h);exact .str i
 | ref a =>
  rcases h with ⟨rfl,xs,e⟩ | ⟨rfl,xs,e⟩
  ·exact .tup e
  ·exact .lst e
 | byt b=>exact h.elim
 | flt b=>exact h.elim
 | ty n=>exact h.elim
theorem b1n:B6 X (.builtin "isinstance") (λxs H Q=>∃ (x:V) (T C:String) (b:Bool),xs=[x,.ty C]/\b2J X.K H x T/\PySem.W.kitOne X.K (.type T) (.type C)=some b/\Q (.bl b) H):=by
 intro pins s σ H xs us Q I r h;obtain ⟨x,T,C,b,rfl,ty,e,q⟩:=h;obtain ⟨u,c,rfl,rx,rc⟩:=b2u r;cases (show c=Value.type C from rc);exact b6C I rx (b0W ty) e λtk=>⟨.bl b,H,I.tok tk,rfl,q⟩
theorem a4E:OpR X (binaryOp .FloorDiv) (rI (λ_ j=>0 < j/\j < 2 ^ 62) λi j=>.int (i / j)):=opI λi j _ _ _ _ _ hc q=>by
 rw [← Int.fdiv_eq_ediv_of_nonneg i (Int.le_of_lt hc.1)] at q;refine floordiv_int .(25) q (.inl (PyProof.noPylong_of_log2 ?_));have h1:j.natAbs < 2 ^ 62:=by omega
 have h2:j.natAbs ≠ 0:=by omega
 have:=(Nat.log2_lt h2).mpr h1
 omega
end
noncomputable def Raw (K:PySem.W.Frag)(mg:Str->Option Value)(x:Str)(ps:List Str)(st:Stmt):Prop :=
 ∃ (f:Addr) (fd:FuncData),Fun K x x st f fd/\mg x=some (.ref f)/\O9 K fd ps []
noncomputable def Df (P:Program)(w:World)(K:PySem.W.Frag)(mg:Str->Option Value)(base:Heap)(k:Nat)(x:Str)(ps:List Str)(sp:Sp):Prop :=
 ∃ (f:Addr) (fd:FuncData),a7n P w K mg base CX0 k f fd ps sp/\mg x=some (.ref f)/\PySem.W.keepIn K (.ref f)=true/\O9 K fd ps []/\∃ st,Fun K x x st f fd
section
variable {P:Program}{w:World}{K:PySem.W.Frag}{mg:Str->Option Value}{base:Heap}
theorem Raw.ok {x:Str}{ps N:List Str}{st:Stmt}{k:Nat}{sp:Sp}(R:Raw K mg x ps st)(S:g0 N ps (c6 st))(len:∀ vs H Q E,sp vs H Q E->vs.length=ps.length)
  (hbody:∀ (f:Addr) (cdv:Value) (A:Around) (outer:List Env) (s:Shared) (H:Hp) (vs:List V) (Q:VK) (E:XK),G4 k (A.deeper (envOfC x (c6 st) s.heap.objs.size f cdv))->sp vs H Q E ->
   ∃ t,PSs (a2s CX0 P w K mg base N x (c6 st) f cdv A outer s H E).nox (B9 st) t/\t { nx:=λ_ H'=>Q .non H',rt:=Q } (Y5 N vs) H):Df P w K mg base (k + 1) x ps sp:=by
 obtain ⟨f,fd,F,m,b⟩:=R;exact ⟨f,fd,F.ok S len (λcdv A outer s H vs Q E hr h=>hbody f cdv A outer s H vs Q E hr h),m,F.kp,b,st,F⟩
end
theorem d9 {X:Cx}{k:Nat}{x:Str}{ps:List Str}{sp:Sp}{p pos:Pos}{e:Expr}{es:List Expr}{t:TA}(D:Df X.prog X.w X.K X.mg X.base k x ps sp)(hr:G4 k X.A)(ha:PA X (e :: es) t)(hg:Gl X x:=by rfl)
  (hdb:(x == ("__debug__" : Str))=false:=by decide) (he:starEach (e :: es) X.env=(false,eval e X.env) :: starEach es X.env:=by rfl) (hpl:(backTo pos (starEach es X.env)).any (·.1)=false:=by rfl) :
  PE X (.Call (.Name x p) (e :: es) [] pos) (b7E sp [] E0 t):=by
 obtain ⟨f,fd,F,m,kp,b,_⟩:=D;exact b5v F hr hg m kp b .nil a2Y ha hdb he hpl
noncomputable def d3 (d:Addr)(H H':Hp):Prop:=∀ b o,H b=some o->b≠d->H' b=some o
theorem d3.refl (d:Addr)(H:Hp):d3 d H H:=λ_ _ h _=>h
theorem d3.trans {d:Addr}{H H1 H2:Hp}(a:d3 d H H1)(b:d3 d H1 H2):d3 d H H2:=λc o h n=>b c o (a c o h n) n
theorem d3.upd {d p:Addr}{H H1:Hp}{o:HO}(a:d3 d H H1)(hp:H1 p=none):d3 d H (upd H1 p o):=λc u h n=>by
 rw [j4 (d6 (a c u h n) hp)];exact a c u h n
structure c7h (H:Hp)(d c:Addr)(ns:List Int)(k:Nat)(r:Int)(m:Nat)(t:Int):Prop where
 deck:H d=some (.lst [.ref c,.int k,.int r,.int m,.int t])
 cut:H c=some (.lst (ns.map V.int))
 kle:k<=ns.length
 few:ns.length <= 63
 rnn:0<=r
noncomputable def b3h (H:Hp)(d:Addr)(n:Nat):Prop:=∃ c ns k r m t,c7h H d c ns k r m t/\m<=n
theorem b3h.more {H:Hp}{d:Addr}{n m:Nat}(D:b3h H d n)(h:n<=m):b3h H d m:=let ⟨c,ns,k,r,j,t,D,hj⟩:=D;⟨c,ns,k,r,j,t,D,Nat.le_trans hj h⟩
theorem b3h.keep {H H':Hp}{d:Addr}{n:Nat}(D:b3h H d n)(h:n6 H H'):b3h H' d n :=
 let ⟨c,ns,k,r,m,t,D,hm⟩:=D;⟨c,ns,k,r,m,t,⟨h _ _ D.deck,h _ _ D.cut,D.kle,D.few,D.rnn⟩,hm⟩
theorem b3h.upd {H:Hp}{d p:Addr}{n:Nat}{o:HO}(D:b3h H d n)(hp:H p=none):b3h (upd H p o) d n:=D.keep λb u e=>by rw [j4 (d6 e hp)];exact e
theorem d3.tups {d:Addr}{H H':Hp}{xs:List V}(k:d3 d H H')(hd:H d=some (.lst xs)):N7 H H':=λa ys e=>k a _ e (U2 e hd λz=>by cases z)
theorem c4 {H:Hp}{p:Addr}{o:HO}(hp:H p=none):n6 H (upd H p o):=λb u e=>by rw [j4 (d6 e hp)];exact e
theorem n6.tups {H H':Hp}(s:n6 H H'):N7 H H':=λa xs e=>s a _ e
theorem n6.but {H H':Hp}(s:n6 H H')(d:Addr):d3 d H H':=λa o e _=>s a o e
section
variable {X:Cx}{tg l:Expr}
theorem o7 (hu:X.A.units + 64 < cLine):OpR X (compareOp .Eq) (λx y H Q=>rEq x y H Q \/ b0H 0 x y H Q):=c7k.or (c3e hu)
theorem b6d (hu:X.A.units + 64 < cLine):OpR X (compareOp .NotEq) (λx y H Q=>rNe x y H Q \/ b3q 0 x y H Q):=c5k.or (c1e hu)
theorem c3k {w1 w2:TI}(h1:PI X tg l w1)(h2:PI X tg l w2):PI X tg l (fun σ H R=>w1 σ H R \/ w2 σ H R):=λpins s σ H R I h=>h.elim (h1 pins s σ H R I) (h2 pins s σ H R I)
theorem c4d {tl:TE}(hl:PE X l tl):PI X tg l (fun σ H R=>b9k X.K tl σ H R \/ b6J X.K tl σ H R):=c3k (b3U hl) (c2d hl)
end
theorem G1:bootBuiltins "tuple" = some (.type "tuple"):=by decide +kernel
theorem b3g:bootBuiltins "int" = some (.type "int"):=by decide +kernel
theorem b9X:bootBuiltins "bool" = some (.type "bool"):=by decide +kernel
theorem b7L:bootBuiltins "str" = some (.type "str"):=by decide +kernel
theorem b8X:bootBuiltins "list" = some (.type "list"):=by decide +kernel
theorem b8L:bootBuiltins "range" = some (.type "range"):=by decide +kernel
theorem x9:bootBuiltins "len" = some (.builtin "len"):=by decide +kernel
theorem b5g:bootBuiltins "all" = some (.builtin "all"):=by decide +kernel
theorem b5t:bootBuiltins "max" = some (.builtin "max"):=by decide +kernel
theorem a4U:bootBuiltins "min" = some (.builtin "min"):=by decide +kernel
theorem v0:bootBuiltins "isinstance" = some (.builtin "isinstance"):=by decide +kernel
noncomputable def b7Z (outer:List (Str × NameKind))(scope:Scope)(M:List Str)(idx:List Nat)(N:List Str):Bool :=
 scope.kind == .function && (scope.names.all λy=>(y.2 != .local || scope.names.lookup y.1 == some .local) && (y.2 != .cell || scope.names.lookup y.1 == some .cell) && (y.2 != .free || (outer.lookup y.1 == some .cell || outer.lookup y.1 == some .free)))
  && idx.length == M.length && (M.zip idx).all λp=>scope.names.lookup p.1 == some .free && N[p.2]? == some p.1
theorem J2 {X:Cx}{scope:Scope}{M:List Str}{idx:List Nat}(h:b7Z X.env.scope.names scope M idx X.N=true):b4h X scope M idx:=by
 unfold b7Z at h;simp only [Bool.and_eq_true] at h;obtain ⟨⟨⟨h1,h2⟩,h3⟩,h4⟩:=h;have h2':=List.all_eq_true.mp h2;refine ⟨by simpa using h1,λy hy e=>?_,λy hy e=>?_,λy hy e=>?_,by simpa using h3,λj y ej=>?_⟩
 ·have:=h2' y hy
  simp [e] at this
  exact this
 ·have:=h2' y hy
  simp [e] at this
  exact this
 ·have:=h2' y hy
  simp [e] at this
  exact this
 ·have hl:idx.length=M.length:=by simpa using h3
  have hj:j < M.length:=(List.getElem?_eq_some_iff.mp ej).1;have hk:idx[j]? = some (idx[j]'(by omega)):=by simp [hl,hj]
  have hz:(M.zip idx)[j]? = some (y,idx[j]'(by omega)):=by
   rw [List.getElem?_zip_eq_some];exact ⟨ej,hk⟩
  have:=List.all_eq_true.mp h4 _ (List.mem_of_getElem? hz);simp only [Bool.and_eq_true,beq_iff_eq] at this;exact ⟨this.1,_,hk,this.2⟩
noncomputable def b0N (K:PySem.W.Frag):Sp:=λvs H Q _=>∃ (a:Addr) (ns:List Int),vs=[.ref a]/\SqL K H a (ns.map V.int)/\ns.length <= 63/\∀ H',Q (.bl true) H'
theorem b7O {l:PySem.W.OpenLaw}{k:Nat}{q:Program}{loose:List Str}{XP:(Str->Option Value)->Heap->Prop}{YP:World->Heap->Prop}{d:DefRec}{K:Params->PySem.W.Frag}{st:Stmt}
  (hn:l.most=some 63) (hdf:d.params.defaults=[]) (hdn:d.name = "law") (hr:G4 k callerA)
  (hY:∀ (w:World) (h:Heap),YP w h->(K w.params).In h)
  (hbind:∀ (kV doc pm:Value) (an:Option Addr) (cdv ct v:Value),bindArgs (PySem.W.fnOf "law" "law" (N0 st) (B9 st) (c6 st) .none kV doc pm an cdv ct) ⟨[v],[]⟩=pure [(("script" : Str),v)])
  (F:∀ (w:World) (mg:Str->Option Value) (h:Heap),(K w.params).In h->h.Ns mainGlobals mg->Raw (K w.params) mg "law" ["script"] st/\∀ base:Heap,Df l.prog w (K w.params) mg base k "law" ["script"] (b0N (K w.params))) :
  PySem.W.WalkO q loose XP YP l.row.toRowW d [] (λf vs=>PySem.call f vs):=by
 refine L2.b6O (n:=63) (k:=k) (x := "script") (CX:=λ_=>CX0) (sp:=λw=>b0N (K w.params)) hn .(24) hdf hr hY (λw mg fa h KX G hmg=>?_) (λw H a ns hl _ hS=>⟨a,ns,rfl,hS,hl,λ_=>rfl⟩) λ_ _ _ _ _ z=>z;obtain ⟨⟨f,fd,R,m,b⟩,D⟩:=F w mg h KX G;rw [hdn] at hmg;have e:=hmg.symm.trans m;cases e;obtain ⟨oc,od,kV,doc,pm,an,cdv,ct,osl,e1,e2,_⟩:=R.ex;refine ⟨fd,λs v=>.of_eq (by rw [e1];exact hbind kV doc pm an cdv ct v),λbase _ _=>?_⟩;obtain ⟨f',fd',G',m',_,_,st',R'⟩:=D base;have e:=hmg.symm.trans m';cases e;obtain ⟨oc',od',kV',doc',pm',an',cdv',ct',osl',e1',e2',_⟩:=R'.ex;rw [e2] at e2';cases e2';exact G'
end L2
namespace L2
theorem W8 {t u:TS}{D:a0x}{σ:St}{H:Hp}(R:St->Hp->Prop)(hu:∀ σ H,R σ H->u D σ H)(ht:(∀ σ H,R σ H->u D σ H)->t { D with nx:=u D } σ H):a4t t u D σ H:=ht hu
end L2
namespace L2
open PySem PySem.Spec PyProof.Rows
section
variable {X:Cx}{K:PySem.W.Frag}{tg l a b:Expr}{ta tb tl:TE}{pos:Pos}
theorem m6 (h:X.K=K):B6 X (.builtin "len") (λxs H Q=>∃ x n,xs=[x]/\c4h K x H n/\Q (.int n) H):=by subst h;exact b4L
theorem A5 (h:X.K=K):B6 X (.type "tuple") (λxs H Q=>∃ p ys,xs=[.ref p]/\((SqL K H p ys/\∀ l,H l=none->Q (.ref l) (upd H l (.tup ys))) \/ (SqT K H p ys/\Q (.ref p) H))):=by subst h;exact a6W
theorem b4t (h:X.K=K):B6 X (.type "list") (λxs H Q=>∃ p ys,xs=[.ref p]/\(SqL K H p ys \/ SqT K H p ys)/\∀ l,H l=none->Q (.ref l) (upd H l (.lst ys))):=by subst h;exact b1g
theorem a9x (h:X.K=K) (hc:X.calm=true):B6 X (.builtin "all") (λxs H Q=>∃ (p:Addr) (bs:List Bool),xs=[.ref p]/\SqL K H p (bs.map V.bl)/\Q (.bl (bs.all id)) H):=by subst h;exact b5L hc
theorem A0 (h:X.K=K):B6 X (.builtin "isinstance") (λxs H Q=>∃ (x:V) (T C:String) (b:Bool),xs=[x,.ty C]/\b2J K H x T/\PySem.W.kitOne K (.type T) (.type C)=some b/\Q (.bl b) H):=by subst h;exact b1n
theorem d8 (h:X.K=K):IxR X (rIx K):=by subst h;exact c0g
theorem A9 (h:X.K=K)(hl:PE X l tl):PI X tg l (fun σ H R=>b9k K tl σ H R \/ b6J K tl σ H R):=by subst h;exact c4d hl
theorem b8B (h:X.K=K)(ha:PE X a ta)(he:∀ whole,isTrue a X.env whole=(do let v ← whole;standAt a.pos;holding [v] (truthy v))) :
  PT X a (fun σ H Q=>ta σ H λx H'=>∃ k,c0h K x H' k/\Q k H'):=by subst h;exact b3H ha he
theorem b4v {es:List Expr}{k:Nat}{t:TGs}{n:Nat}(h:X.K=K)(hc:X.calm=true)(hg:PGs X es t)
  (hn:(assignEach es X.env).length=n:=by rfl) (hst:(assignEach es X.env).findIdx? (·.1)=none:=by rfl):PG X (.Tuple es k pos) (c3l K n t):=by subst h;exact c5d hc hg hn hst
end
end L2
namespace L2
theorem a5E {te:TE}{σ:St}{x:V}{H:Hp}{k:Option V->Hp->Prop}(h:te (some x :: σ) H λv H2=>k (some v) H2):b3I b7o te σ x H k:=by
 show if true=true then (te (some x :: σ) H λv H2=>k (some v) H2) else k none H
 rw [if_pos rfl];exact h
end L2
namespace L2
open PySem PySem.Spec PyProof.Rows
end L2
namespace L2
end L2
namespace L2
open PySem PySem.Spec PyProof.Rows
noncomputable def j9:Option Int->V
 | none=>.non
 | some i=>.int i
noncomputable def M3:Option Int->PyData
 | none=>.none
 | some i=>.int i
noncomputable def a4y (r:List (Option Int)):PyData:=.tuple (r.map M3)
noncomputable def B2 (F:List (List (Option Int))):PyData:=.tuple (F.map a4y)
theorem b1s {H:Hp}:∀ c:Option Int,IsD H (j9 c) (M3 c)
 | none=>.non
 | some i=>.int i
theorem T0 {H:Hp}:∀ r:List (Option Int),IsDs H (r.map j9) (r.map M3)
 | []=>.nil
 | c :: r=>.cons (b1s c) (T0 r)
theorem IsD.cell_inv {H:Hp}{v:V}:∀ {c:Option Int},IsD H v (M3 c)->v=j9 c
 | none,h=>by cases h;rfl
 | some i,h=>by cases h;rfl
theorem IsDs.cells_inv {H:Hp}:∀ {xs:List V} {r:List (Option Int)},IsDs H xs (r.map M3)->xs=r.map j9
 | _,[],h=>by cases h;rfl
 | _,c :: r,h=>by
  cases h with
  | cons h1 h2=>rw [IsD.cell_inv h1,IsDs.cells_inv h2];rfl
theorem a2Z {H:Hp}{v:V}{r:List (Option Int)}(h:IsD H v (a4y r)):∃ a,v = .ref a/\H a=some (.tup (r.map j9)):=by
 obtain ⟨a,xs,e,h1,h2⟩:=h.tuple_inv;rw [IsDs.cells_inv h2] at h1;exact ⟨a,e,h1⟩
theorem E1 {H:Hp}{v:V}{F:List (List (Option Int))}(h:IsD H v (B2 F)):∃ a xs,v = .ref a/\H a=some (.tup xs)/\IsDs H xs (F.map a4y):=h.tuple_inv
theorem G2 {H:Hp}{xs:List V}{F:List (List (Option Int))}{i:Nat}(h:IsDs H xs (F.map a4y))(hi:i < F.length):∃ a,xs[i]? = some (.ref a)/\H a=some (.tup (F[i].map j9)):=by
 obtain ⟨x,e1,e2⟩:=h.get (i:=i) (d:=a4y F[i]) (by simp [hi]);obtain ⟨a,e3,e4⟩:=a2Z e2;exact ⟨a,by rw [e1,e3],e4⟩
theorem a4s {α:Type}{xs:List α}{i:Int}(h0:0<=i)(h1:i < xs.length):∃ v,atI xs i=some v/\v∈xs:=by
 obtain ⟨j,rfl⟩:=Int.eq_ofNat_of_zero_le h0;have hj:j < xs.length:=by omega
 exact ⟨xs[j],B0 (by simp [hj]),List.getElem_mem hj⟩
theorem Z5 (c:Option Int):(M3 c).canLay0=true:=by cases c <;> rfl
theorem a9G:∀ r:List (Option Int),PyData.canLayAll0 (r.map M3)=true
 | []=>rfl
 | c :: r=>by rw [List.map_cons,PyData.canLayAll0,Z5,a9G r];rfl
theorem a1s (c:Option Int):(M3 c).depth=0:=by cases c <;> rfl
theorem a3M:∀ r:List (Option Int),PyData.depthAll (r.map M3)=0
 | []=>rfl
 | c :: r=>by rw [List.map_cons,PyData.depthAll,a1s,a3M r];rfl
theorem b5K (a b:Option Int):PyData.eqv (M3 a) (M3 b)=decide (a=b):=by
 cases a with
 | none=>cases b <;> rfl
 | some i =>
  cases b with
  | none=>rfl
  | some j =>
   show (i == j)=decide (some i=some j)
   by_cases h:i=j
   ·subst h;simp
   ·have:¬ (some i=some j):=λe=>h (Option.some.inj e);rw [decide_eq_false this];simpa using h
theorem b0a:∀ a b:List (Option Int),PyData.eqvAll (a.map M3) (b.map M3)=decide (a=b)
 | [],[]=>rfl
 | [],_ :: _=>rfl
 | _ :: _,[]=>rfl
 | x :: a,y :: b=>by
  rw [List.map_cons,List.map_cons,PyData.eqvAll,b5K,b0a a b]
  by_cases h1:x=y
  ·by_cases h2:a=b
   ·simp [h1,h2]
   ·simp [h1,h2]
  ·simp [h1]
inductive C3 where
 | there | near | turned | round | told (c:Option Int)
noncomputable def X8:C3->PyData
 | .there=>.str "there"
 | .near=>.str "near"
 | .turned=>.str "turned"
 | .round=>.str "round"
 | .told c=>.tuple [.str "told",M3 c]
noncomputable def led:C3->Int->Int->Int
 | .near,p,n=>min (max p 0) (n - 1)
 | .turned,p,n=>min (p % (2 * n)) (2 * n - 1 - p % (2 * n))
 | _,p,n=>p % n
theorem a0n (r:C3)(p:Int){n:Int}(h:1<=n):0<=led r p n/\led r p n < n:=by
 have a:=Int.emod_nonneg p (show n≠0 by omega);have b:=Int.emod_lt_of_pos p (show 0 < n by omega);have c:=Int.emod_nonneg p (show 2 * n≠0 by omega);have d:=Int.emod_lt_of_pos p (show 0 < 2 * n by omega);cases r <;> simp only [led] <;> omega
theorem b8I (r:C3){p n:Int}(h0:0<=p)(h1:p < n):led r p n=p:=by
 have a:=Int.emod_eq_of_lt h0 h1;have b:=Int.emod_eq_of_lt h0 (show p < 2 * n by omega);cases r <;> simp only [led] <;> omega
noncomputable def J8 (F:List (List (Option Int)))(i j:Int):Option Int:=((F[i.toNat]?).bind λr=>r[j.toNat]?).join
noncomputable def inF (F:List (List (Option Int)))(i j:Int):Bool:=decide (0<=i) && decide (i < F.length) && (decide (0<=j) && decide (j < (F.headD []).length))
noncomputable def A1 (F:List (List (Option Int)))(r:C3)(i j:Int):List (Option Int) :=
 if inF F i j then [J8 F i j] else match r with
  | .there=>[]
  | .told c=>[c]
  | r=>[J8 F (led r i F.length) (led r j (F.headD []).length)]
structure U6 (F:List (List (Option Int))):Prop where
 h1:1<=F.length
 hs:F.length <= 1000
 w1:1<=(F.headD []).length
 ws:(F.headD []).length <= 1000
 row:∀ r∈F,r.length=(F.headD []).length
theorem field_cell {H:Hp}{v:V}{F:List (List (Option Int))}(R:U6 F)(h:IsD H v (B2 F)){i j:Int}(i0:0<=i)(i1:i < F.length)(j0:0<=j)(j1:j < (F.headD []).length) :
  ∃ (a:Addr) (xs:List V) (b:Addr) (r:List (Option Int)),v = .ref a/\H a=some (.tup xs)/\atI xs i=some (.ref b)/\H b=some (.tup (r.map j9))/\atI (r.map j9) j=some (j9 (J8 F i j))/\(r.map j9).length=(F.headD []).length:=by
 obtain ⟨a,xs,e,h1,h2⟩:=E1 h;obtain ⟨i',rfl⟩:=Int.eq_ofNat_of_zero_le i0;obtain ⟨j',rfl⟩:=Int.eq_ofNat_of_zero_le j0;have hi:i' < F.length:=by omega
 obtain ⟨b,e2,h3⟩:=G2 h2 hi;have hw:=R.row F[i'] (List.getElem_mem hi);have hj:j' < F[i'].length:=by omega
 refine ⟨a,xs,b,F[i'],e,h1,B0 e2,h3,?_,by rw [List.length_map];exact hw⟩;have e3:J8 F (i':Int) (j':Int)=F[i'][j']:=by
  unfold J8
  simp [hi,hj]
 rw [e3];exact B0 (by simp [hj])
theorem G0 {H:Hp}{v:V}{F:List (List (Option Int))}(R:U6 F)(h:IsD H v (B2 F)) :
  ∃ (a:Addr) (xs:List V) (b:Addr) (ys:List V),v = .ref a/\H a=some (.tup xs)/\xs.length=F.length /\ atI xs 0=some (.ref b)/\H b=some (.tup ys)/\ys.length=(F.headD []).length:=by
 obtain ⟨a,xs,e,h1,h2⟩:=E1 h;have hi:0 < F.length:=R.h1;obtain ⟨b,e2,h3⟩:=G2 h2 hi;refine ⟨a,xs,b,_,e,h1,by rw [h2.length,List.length_map],B0 e2,h3,?_⟩;rw [List.length_map];exact R.row _ (List.getElem_mem hi)
theorem C5 {H:Hp}{v:V}{x:Str}(h:IsD H v (.str x)):v = .str x:=by cases h;rfl
theorem a5p (F:List (List (Option Int)))(r:C3)(i j:Int):(A1 F r i j).length <= 1:=by
 unfold A1
 split
 ·exact Nat.le_refl _
 ·split <;> simp
section
open PySem.AutoSeq1 PySem.MeetsSeq PySem.MeetsSeq2 PySem.MeetsSeq3
set_option maxHeartbeats 4000000 in
theorem a9B (l:Addr)(items:Array Value)(n:Nat)(b:Addr)(items2:Array Value)(n2:Nat)(dd:Option Addr)(sl:Array (Option Value))(hs0:¬(!items.isEmpty && Builtin.List.listTooLong (items.size + items2.size))=true)(hs1:items.size <= sizeLine)(hs2:items.size + items2.size <= sizeLine + 1) :
  Meets (Builtin.«list.extend» ⟨[.ref l,.ref b],[]⟩) (λ_ R s=>s.heap.get? l=some { cls:=.type "list",dict:=none,data:=.seq items n,slots:=#[] }/\s.heap.get? b=some { cls:=.type "tuple",dict:=dd,data:=.seq items2 n2,slots:=sl }/\R (.ok (.ret Value.none)) { s with heap:=s.heap.update l (Obj.mapSeq λx=>x ++ items2),toks:=s.toks }) :=
 .of_wp λprog w A R s h=>by
  obtain ⟨hp,g,d,tk,os⟩:=s;obtain ⟨hl,hb,h⟩:=h;have f1:=idx_int;have f2:=PySem.AutoSeq1.sub_tuple_tuple;have f3:=PySem.AutoSeq1.sub_list_list;have f4:=PySem.AutoSeq1.sub_tuple_list;have f5:=PySem.AutoSeq1.sub_list_tuple;have hz':(items ++ items2).size <= sizeLine + 1:=by rw [Array.size_append];exact hs2
  wp_walk using (wpAny_updateSeq hl rfl (hz:=hs1) (_hz':=hz')),wpAny_loadPart' hl,wpAny_loadPart' hb;exact ⟨_,rfl,h⟩
end
section
variable {X:Cx}
noncomputable def b9G:V->List V->Hp->VK->Prop:=λx vs H Q=>∃ l b xs zs,x = .ref l/\vs=[.ref b]/\H l=some (.lst xs)/\H b=some (.tup zs)/\xs.length + zs.length <= sizeLine/\Q .non (upd H l (.lst (xs ++ zs)))
theorem b2r:MtM X "list.extend" b9G:=by
 intro pins s σ H x vs v us Q I rx rv h;obtain ⟨l,b,xs,zs,rfl,rfl,hH,hB,hz,q⟩:=h;cases rx;obtain ⟨u,rfl,ru⟩:=rv.one;cases ru;obtain ⟨z,its,n,r,hl,e⟩:=I.lstM hH;obtain ⟨z2,its2,r2,⟨oc,od,odt,osl⟩,e2,c2,n2,d2⟩:=(show E5 X.prog X.w H s.heap b (.tup zs) from I.hok b _ hB);simp only at c2 d2;subst c2 d2;have hl2:=r2.length;have hsz:its.toArray.size + its2.toArray.size <= sizeLine:=by rw [List.size_toArray,List.size_toArray];omega
 have hlong:¬ (!its.toArray.isEmpty && Builtin.List.listTooLong (its.toArray.size + its2.toArray.size))=true:=by
  rw [a0S hsz,Bool.and_false];exact Bool.false_ne_true
 refine call_meets F.slot_list_extend ⟨_,e,rfl⟩ F.entry_list_extend (F.args_list_extend_2 _ _)
  (a9B l its.toArray n b its2.toArray n2 od osl hlong (by rw [List.size_toArray];omega) .(25)) ⟨e,e2,?_⟩
 refine ⟨.non,_,I.lset (its':=its ++ its2) hH e .(26) (r.append r2) ?_,rfl,q⟩;rw [List.length_append]
 omega
noncomputable def P2 (lo:Int)(n:Nat):List V:=(List.range n).map λi=>V.int (lo + (i:Nat))
theorem b0g:B6 X (.type "range") (λxs H Q=>∃ i j:Int,xs=[.int i,.int j]/\∀ p,H p=none->Q (.ref p) (upd H p (.rng i j))):=by
 intro pins s σ H xs us Q I r h;obtain ⟨i,j,rfl,q⟩:=h;obtain ⟨u,w',rfl,⟨t,rfl⟩,⟨t',rfl⟩⟩:=b2u r;refine call_range_2 ?_;exact ⟨.ref s.heap.objs.size,_,I.laid (o:=.rng i j) (λb u e=>Heap.get?_push_of_some _ e) (Nat.le_refl _) ⟨t,t',s.toks,Heap.get?_push_size _ rfl⟩,rfl,q _ (I.hok.fresh (Nat.le_refl _))⟩
theorem b8O {lo:Int}:∀ {n:Nat} {acc:List Value},acc.length=n->(∀ (j:Nat) v,acc[j]? = some v->∃ t,v=Value.int (lo + j * 1) t)->o8 (P2 lo n) acc:=by
 intro n
 induction n with
 | zero=>intro acc hl _;have e:=List.length_eq_zero_iff.mp hl;subst e;exact .nil
 | succ n ih =>
  intro acc hl h;obtain ⟨init,x,rfl⟩:∃ init x,acc=init ++ [x]:=by
   have hne:acc≠[]:=by intro e;rw [e] at hl;cases hl
   exact ⟨acc.dropLast,acc.getLast hne,(List.dropLast_concat_getLast hne).symm⟩
  have hli:init.length=n:=by rw [List.length_append] at hl;simpa using hl
  have e1:P2 lo (n + 1)=P2 lo n ++ [.int (lo + (n:Nat))]:=by
   unfold P2;rw [List.range_succ,List.map_append]
   rfl
  rw [e1];refine (ih hli λj v e=>h j v ?_).append (.cons ?_ .nil)
  ·rw [List.getElem?_append_left (List.getElem?_eq_some_iff.mp e).1];exact e
  ·obtain ⟨t,e⟩:=h n x (by rw [← hli];simp);exact ⟨t,by rw [e,Int.mul_one]⟩
theorem Q9 (lo:Int)(n:Nat):(P2 lo n).length=n:=by unfold P2;rw [List.length_map,List.length_range]
theorem a7W (hc:X.calm=true):B6 X (.type "list") (λxs H Q=>∃ (p:Addr) (i j:Int),xs=[.ref p]/\H p=some (.rng i j)/\(-(2 ^ 62)<=i/\i < 2 ^ 62/\-(2 ^ 62)<=j/\j < 2 ^ 62)/\(j - i).toNat <= 2 ^ 20 /\
  ∀ l,H l=none->Q (.ref l) (upd H l (.lst (P2 i (j - i).toNat)))):=by
 intro pins s σ H xs us Q I r h;obtain ⟨p,i,j,rfl,hp,⟨b1,b2,b3,b4⟩,hn,q⟩:=h;obtain ⟨u,rfl,e⟩:=a9t r;obtain rfl:u=Value.ref p:=e;obtain ⟨t,u,v,hr⟩:=(show E5 X.prog X.w H s.heap p (.rng i j) from I.hok p _ hp);refine call_list_range (n:=(j - i).toNat) (I.ok.hd hc) hr (small_one b1 b2 b3 b4) (by rw [rangeSize_one];split <;> omega) (Nat.le_trans hn .(24)) λh' tk acc' c' hk hS hacc=>?_;have hv:o8 (P2 i (j - i).toNat) acc'.toList:=b8O (by simpa using hacc.1) λk v e=>hacc.2 k v (by simpa using e);refine ⟨.ref s.heap.objs.size,_,I.laid (o:=.lst (P2 i (j - i).toNat)) hk (Nat.le_refl _) ⟨by rw [Q9];exact Nat.le_trans hn .(24),acc'.toList,c',hv,by simpa using hS⟩,rfl,q _ (I.hok.fresh (Nat.le_refl _))⟩
end
noncomputable def a2P (u d l r:Nat):PyData:=.tuple [.int u,.int d,.int l,.int r]
theorem a5o {H:Hp}{v:V}{u d l r:Nat}(h:IsD H v (a2P u d l r)):∃ a,v = .ref a/\H a=some (.tup [.int u,.int d,.int l,.int r]):=by
 obtain ⟨a,xs,e,h1,h2⟩:=h.tuple_inv;cases h2 with
 | cons a1 h2=>cases a1;cases h2 with
  | cons a2 h2=>cases a2;cases h2 with
   | cons a3 h2=>cases a3;cases h2 with
    | cons a4 h2=>cases a4;cases h2;exact ⟨a,e,h1⟩
theorem b7k {H:Hp}{a:Addr}{u d l r:Nat}(h:H a=some (.tup [.int u,.int d,.int l,.int r])):IsD H (.ref a) (a2P u d l r):=.tup h (.cons (.int _) (.cons (.int _) (.cons (.int _) (.cons (.int _) .nil))))
noncomputable def E3 (F:List (List (Option Int)))(ru:C3)(l r:Nat)(row j:Int):List (Option Int):=(List.range (l + r + 1)).flatMap λb=>A1 F ru row (j - l + (b:Nat))
noncomputable def wc (F:List (List (Option Int)))(ru:C3)(u d l r:Nat)(i j:Int):List (Option Int):=(List.range (u + d + 1)).flatMap λa=>E3 F ru l r (i - u + (a:Nat)) j
theorem M9 {α:Type}(f:Nat->List α)(n:Nat):(List.range (n + 1)).flatMap f=(List.range n).flatMap f ++ f n:=by
 rw [List.range_succ,List.flatMap_append]
 simp
theorem M1 {α:Type}(f:Nat->List α){m:Nat}(h:∀ k,(f k).length <= m):∀ n,((List.range n).flatMap f).length <= n * m
 | 0=>by simp
 | n + 1=>by
  rw [M9,List.length_append,Nat.succ_mul];exact Nat.add_le_add (M1 f h n) (h n)
theorem a9q (F:List (List (Option Int)))(ru:C3)(l r:Nat)(row j:Int):(E3 F ru l r row j).length <= l + r + 1:=by
 have:=M1 (λb=>A1 F ru row (j - l + (b:Nat))) (m:=1) (λk=>a5p _ _ _ _) (l + r + 1);rw [Nat.mul_one] at this;exact this
theorem b4b (F:List (List (Option Int)))(ru:C3)(u d l r:Nat)(i j:Int):(wc F ru u d l r i j).length <= (u + d + 1) * (l + r + 1) :=
 M1 _ (λk=>a9q _ _ _ _ _ _) _
end L2
namespace L2
end L2
namespace HT
open PySem PyProof.Rows
section
variable {prog:Program}{w:World}{A:Around}{E:Value->Shared->Prop}{s:Shared}
set_option maxHeartbeats 4000000 in
theorem a6y {t sl:Addr}{items:Array Value}{vl vu:Value}{lo hi:Option Int}{Q:Value->Shared->Prop}(ht:IsTup s.heap t items)(hs:s.heap.IsSliceOf sl vl vu .none)(pl:IsPart vl lo)(pu:IsPart vu hi)
  (hw:sIx items.size 0 lo=0/\sIx items.size items.size hi=items.size) (h:Q (.ref t) s):wpAny (model prog w) A (getItem (.ref t) (.ref sl)) Q E s:=by
 obtain ⟨os,hos,hcs,hds⟩:=id hs;have hTs:s.TypeIs (.ref sl) "slice":=⟨os,hos,hcs⟩;unfold getItem
 try with_reducible refine wpAny_holding ?_
 first | refine wpAny_bind (wpAny_pure ?_) | skip
 refine wpAny_bind (wpAny_sequenceKey ht.typeIs .(24) ?_);refine wpAny_bind (wpAny_callSpecial?_slot (name:=Str.ofString "__getitem__") ht.typeIs PyProof.Rows.slot_tuple_getitem
  (wpAny_call_entry PyProof.Rows.slot_tuple_getitem ht.typeIs entry_tuple_getitem ?_ (args_tuple_getitem _ _)))
 show wpAny _ _ (Builtin.Tuple.tupleItemsOf (.ref t) >>= _) _ _ s
 refine wpAny_bind (tupleItemsOf_ ht ?_);refine wpAny_bind (wpAny_typeOf hTs ?_);rw [if_pos .(24)];refine wpAny_bind (a9n hs pl pu ?_);rw [hw.1,hw.2]
 show wpAny _ _ (if ((((0:Nat):Int) == 0 && (1:Int) == 1 && (items.size - 0) == items.size)=true) then _ else _) _ _ s
 rw [if_pos .(26)];refine wpAny_bind ?_;unfold Builtin.Tuple.tupleIsExact;refine wpAny_bind (wpAny_typeOf ht.typeIs (wpAny_pure ?_));rw [if_pos .(24)]
 first
  | exact wpAny_bind (wpAny_rule (wpAny_bind (wpAny_pure (wpAny_pure ⟨_,rfl,wpAny_pure h⟩))))
  | exact wpAny_bind (wpAny_rule (wpAny_pure ⟨_,rfl,wpAny_pure h⟩))
  | exact wpAny_rule (wpAny_bind (wpAny_pure (wpAny_pure ⟨_,rfl,wpAny_pure h⟩)))
end
end HT
namespace L2
open PySem PySem.Spec PyProof.Rows
section
variable {X:Cx}
noncomputable def b1Z:V->Option Int->Option Int->Hp->VK->Prop:=λx lo hi H Q=>∃ a xs,x = .ref a/\H a=some (.tup xs)/\∀ p H',n6 H H'->H' p=some (.tup (a1p xs lo hi))->Q (.ref p) H'
theorem b7R:SlR X b1Z:=by
 intro pins s σ H x v vl vu lo hi sl Q I rx hs pl pu h;obtain ⟨a,xs,rfl,hx,q⟩:=h
 by_cases hw:HT.sIx xs.length 0 lo=0/\HT.sIx xs.length xs.length hi=xs.length
 ·cases rx;obtain ⟨its,r,ht,hz⟩:=I.tuple (SqT.of hx);have hlen:its.toArray.size=xs.length:=by rw [List.size_toArray];exact r.length.symm
  refine ⟨"tuple",_,PyProof.Rows.slot_tuple_getitem.lookup,ht.typeIs,?_⟩;refine HT.a6y ht hs pl pu (by rw [hlen];exact hw) ⟨.ref a,H,I,rfl,q a H (n6.refl H) ?_⟩;rw [hx];unfold a1p;rw [hw.1,hw.2,List.drop_zero,Nat.sub_zero,List.take_of_length_le (Nat.le_refl _)]
 ·exact c0c pins s σ H _ v vl vu lo hi sl Q I rx hs pl pu ⟨a,xs,rfl,SqT.of hx,hw,λp hp=>q p _ (c4 hp) b7⟩
noncomputable def c0d:R2:=λx y H Q=>∃ a b xs ys,x = .ref a/\y = .ref b/\H a=some (.tup xs)/\H b=some (.tup ys)/\xs.length + ys.length <= sizeLine/\∀ p H',n6 H H'->H' p=some (.tup (xs ++ ys))->Q (.ref p) H'
theorem U0:OpR X (binaryOp .Add) c0d:=by
 intro pins s σ H x y v u Q I rx ry h;obtain ⟨a,b,xs,ys,rfl,rfl,ha,hb,hz,q⟩:=h
 by_cases hx:xs=[]
 ·subst hx;cases rx;cases ry;obtain ⟨its,r1,⟨⟨cls,dd,data,sl⟩,ho,hc,n,hd⟩,_⟩:=I.tuple (SqT.of ha);obtain ⟨its2,r2,⟨⟨cls2,dd2,data2,sl2⟩,ho2,hc2,n2,hd2⟩,_⟩:=I.tuple (SqT.of hb);simp only at hc hd hc2 hd2;subst hc hd hc2 hd2;have e:its=[]:=r1.nil_iff.mpr rfl;exact concat_meets ⟨_,ho,rfl⟩ ⟨_,ho2,rfl⟩ noFill_tuple_add seq_tuple_add PySem.F.slot_tuple_add PySem.F.entry_tuple_add (PySem.F.args_tuple_add_2 _ _)
   (tuple_addW0 a b its.toArray its2.toArray n n2 dd dd2 sl sl2 (by simp [e])) ⟨ho,ho2,⟨.ref b,H,I,rfl,q b H (n6.refl H) (by rw [hb];rfl)⟩⟩
 ·refine b8U pins s σ H _ _ v u Q I rx ry ⟨a,b,xs,ys,rfl,rfl,SqT.of ha,SqT.of hb,hx,hz,λe=>q a H (n6.refl H) (by rw [ha,e,List.append_nil]),λ_ p hp=>q p _ (c4 hp) b7⟩
noncomputable def c9c:R2:=λx y H Q=>∃ p q xs ys dx dy,x = .ref p/\y = .ref q/\H p=some (.lst xs)/\H q=some (.lst ys)/\IsDs H xs dx/\IsDs H ys dy/\b7N 0 (.list dx) (.list dy)/\Q (.bl (!PyData.eqvAll dx dy)) H
noncomputable def b5T:R2:=λx y H Q=>∃ p q xs ys dx dy,x = .ref p/\y = .ref q/\H p=some (.lst xs)/\H q=some (.lst ys)/\IsDs H xs dx/\IsDs H ys dy/\b7N 0 (.list dx) (.list dy)/\Q (.bl (PyData.eqvAll dx dy)) H
theorem a5r {P:Program}{w:World}{H:Hp}{h:Heap}(I:HOk P w H h){p:Addr}{xs:List V}{dx:List PyData}(hp:H p=some (.lst xs))(hd:IsDs H xs dx):∃ as,Reads h (.ref p) (.list dx) as:=by
 obtain ⟨_,its,n,r,e⟩:=(show E5 P w H h p (.lst xs) from I p _ hp);obtain ⟨as,hr⟩:=hd.reads I r;exact ⟨_,.list e rfl rfl (by simpa using hr)⟩
theorem c0e (hu:X.A.units + 64 < cLine):OpR X (compareOp .NotEq) c9c:=by
 intro pins s σ H x y v u Q I rx ry h;obtain ⟨p,q,xs,ys,dx,dy,rfl,rfl,hp,hq,hx,hy,⟨c1,c2,c3⟩,qq⟩:=h;cases rx;cases ry;obtain ⟨as,r1⟩:=a5r I.hok hp hx;obtain ⟨bs,r2⟩:=a5r I.hok hq hy;exact PySem.SeqAt.compareNe_reads r1 r2 c1 c2 (b5b hu c3) ⟨.bl _,H,I,rfl,qq⟩
theorem c2e (hu:X.A.units + 64 < cLine):OpR X (compareOp .Eq) b5T:=by
 intro pins s σ H x y v u Q I rx ry h;obtain ⟨p,q,xs,ys,dx,dy,rfl,rfl,hp,hq,hx,hy,⟨c1,c2,c3⟩,qq⟩:=h;cases rx;cases ry;obtain ⟨as,r1⟩:=a5r I.hok hp hx;obtain ⟨bs,r2⟩:=a5r I.hok hq hy;exact PySem.SeqAt.compareEq_reads r1 r2 c1 c2 (b5b hu c3) ⟨.bl _,H,I,rfl,qq⟩
theorem b8q (hu:X.A.units + 64 < cLine):OpR X (compareOp .NotEq) (λx y H Q=>(rNe x y H Q \/ b3q 0 x y H Q) \/ c9c x y H Q):=(b6d hu).or (c0e hu)
theorem b9q (hu:X.A.units + 64 < cLine):OpR X (compareOp .Eq) (λx y H Q=>(rEq x y H Q \/ b0H 0 x y H Q) \/ b5T x y H Q):=(o7 hu).or (c2e hu)
theorem a8M {K:PySem.W.Frag}(h:X.K=K):SlR X (λx lo hi H Q=>c5j K x lo hi H Q \/ b1Z x lo hi H Q):=by subst h;exact b0S.or b7R
end
theorem IsDs.take {H:Hp}:∀ {xs:List V} {ds:List PyData} (n:Nat),IsDs H xs ds->IsDs H (xs.take n) (ds.take n)
 | _,_,0,_=>by rw [List.take_zero,List.take_zero];exact .nil
 | _,_,_ + 1,.nil=>.nil
 | _,_,n + 1,.cons h r=>.cons h (IsDs.take n r)
end L2
namespace L2
open PySem PySem.Spec PyProof.Rows PySem.Builtin PySem.Builtin.Str
section
variable {X:Cx}
theorem a8y:∀ (xs:List Str) (t:Nat),o8 (xs.map V.str) (strsFrom t xs)
 | [],_=>.nil
 | x :: xs,t=>.cons ⟨t,rfl⟩ (a8y xs (t + 1))
noncomputable def c8c:V->List V->Hp->VK->Prop:=λx vs H Q=>∃ a b:Str,x = .str a/\vs=[.str b]/\(b.length == 0)=false/\a.length <= 1000000/\∀ l,H l=none->Q (.ref l) (upd H l (.lst ((Txt.split a b).map V.str)))
theorem a6E:MtM X "str.split" c8c:=by
 intro pins s σ H x vs v us Q I rx rv h;obtain ⟨a,b,rfl,rfl,hb,ha,q⟩:=h;obtain ⟨t,rfl⟩:=rx;obtain ⟨u,rfl,⟨t',rfl⟩⟩:=rv.one;have fin:∀ (its:List Value) (tk:Nat),o8 ((Txt.split a b).map V.str) its->EP X pins σ Q (.ref s.heap.objs.size) { s with heap:=s.heap.push { cls:=.type "list",data:=.seq its.toArray },toks:=tk }:=λits tk hv =>
  ⟨.ref s.heap.objs.size,_,I.laid (o:=.lst ((Txt.split a b).map V.str)) (λc o e=>Heap.get?_push_of_some _ e) (Nat.le_refl _) ⟨by
   rw [List.length_map];exact Nat.le_trans (split_le a b) (Nat.le_trans (show a.length + 2<=1000002 by omega) .(24)),its,_,hv,Heap.get?_push_size _ rfl⟩,rfl,q _ (I.hok.fresh (Nat.le_refl _))⟩
 have hsz:a.length <= sizeLine:=Nat.le_trans ha .(24)
 by_cases h1:(decide (a.length < b.length) || decide (strKind a < strKind b))=true
 ·have e:Txt.split a b=[a]:=by unfold Txt.split;rw [if_pos h1]
  refine call_meets F.slot_str_split (typeIs_str s a t) F.entry_str_split (F.args_str_split_2 _ _) (meets_str_split_cannot_occur a b t t' h1) ?_;exact fin [.str a t] s.toks (by rw [e];exact .cons ⟨t,rfl⟩ .nil)
 ·have h1':(decide (a.length < b.length) || decide (strKind a < strKind b))=false:=by simpa using h1
  by_cases h2:(occurrences a b 0 a.length (a.length + 1)).isEmpty=true
  ·have e:Txt.split a b=[a]:=by unfold Txt.split;rw [if_neg h1,if_pos h2]
   refine call_meets F.slot_str_split (typeIs_str s a t) F.entry_str_split (F.args_str_split_2 _ _) (meets_str_split_not_found a b t t' h1' hb h2) ?_;exact fin [.str a t] s.toks (by rw [e];exact .cons ⟨t,rfl⟩ .nil)
  ·have e:Txt.split a b=partsBetween a (occurrences a b 0 a.length (a.length + 1)) b.length:=by unfold Txt.split;rw [if_neg h1,if_neg h2]
   have hn:(partsBetween a (occurrences a b 0 a.length (a.length + 1)) b.length).length <= sizeLine:=by
    rw [← e];exact Nat.le_trans (split_le a b) (Nat.le_trans (show a.length + 2<=1000002 by omega) .(24))
   refine call_meets F.slot_str_split (typeIs_str s a t) F.entry_str_split (F.args_str_split_2 _ _) (meets_str_split_sep a b t t' h1' hb (by simpa using h2) hsz hn) ?_;exact fin _ _ (by rw [e];exact a8y _ _)
noncomputable def b2T:V->List V->Hp->VK->Prop:=λx vs H Q=>∃ a b:Str,x = .str a/\vs=[.str b]/\Q (.bl (decide (0 + b.length <= a.length) && subAt a b 0)) H
theorem a3z:MtM X "str.startswith" b2T:=by
 intro pins s σ H x vs v us Q I rx rv h;obtain ⟨a,b,rfl,rfl,q⟩:=h;obtain ⟨t,rfl⟩:=rx;obtain ⟨u,rfl,⟨t',rfl⟩⟩:=rv.one;exact call_gives F.slot_str_startswith (typeIs_str s a t) F.entry_str_startswith (F.args_str_startswith_2 _ _) (gives_str_startswith a b t t') ⟨.bl _,H,I,rfl,q⟩
noncomputable def b2v (K:PySem.W.Frag):V->List V->Hp->VK->Prop:=λx vs H Q=>∃ (a:Str) (p:Addr) (ys:List Str),x = .str a/\vs=[.ref p]/\SqL K H p (ys.map V.str)/\(ys.map (·.length)).sum + ys.length * a.length <= 1000000/\Q (.str (Txt.join a ys)) H
theorem b6u:∀ {ys:List Str} {us:List Value},o8 (ys.map V.str) us->StrsAre us ys
 | [],_,.nil=>.nil
 | y :: ys,_,.cons r t=>by
  obtain ⟨k,rfl⟩:=r;exact .cons _ _ (b6u t)
theorem b4V:MtM X "str.join" (b2v X.K):=by
 intro pins s σ H x vs v us Q I rx rv h;obtain ⟨a,p,ys,rfl,rfl,hS,hz,q⟩:=h;obtain ⟨t,rfl⟩:=rx;obtain ⟨u,rfl,e⟩:=rv.one;cases (show u=Value.ref p from e);obtain ⟨its,hv,⟨o,n,h1,h2,h3,h4⟩,_⟩:=I.list hS;exact join_list ⟨o,h1,h2,n,h4⟩ (b6u hv) (Nat.le_trans hz .(24)) λt' k=>⟨.str _,H,I.tok _,⟨_,rfl⟩,q⟩
end
end L2
namespace L2
open PySem PySem.Spec PyProof.Rows
end L2
namespace HT
open PySem PyProof.Rows
end HT
namespace L2
open PySem PySem.Spec PyProof.Rows
end L2
namespace L2
open PySem
noncomputable def dg (n:Nat):List Nat:=if h:n < 10 then [48 + n] else dg (n / 10) ++ [48 + n % 10]
termination_by n
decreasing_by omega
theorem a6w {n:Nat}(h:n < 10):dg n=[48 + n]:=by rw [dg,dif_pos h]
theorem a9r {n:Nat}(h:¬ n < 10):dg n=dg (n / 10) ++ [48 + n % 10]:=by rw [dg,dif_neg h]
theorem b1f {p:Nat->Prop}(h1:∀ n,n < 10->p n)(h2:∀ n,¬ n < 10->p (n / 10)->p n)(n:Nat):p n:=by
 induction n using Nat.strongRecOn with
 | ind n ih =>
  by_cases h:n < 10
  ·exact h1 n h
  ·exact h2 n h (ih (n / 10) .(25))
theorem a0s (n:Nat):∀ c∈dg n,48<=c/\c<=57:=by
 induction n using b1f with
 | h1 n h =>
  rw [a6w h];intro c hc;have:c=48 + n:=by simpa using hc
  omega
 | h2 n h ih =>
  rw [a9r h];intro c hc
  rcases List.mem_append.mp hc with z | z
  ·exact ih c z
  ·have:c=48 + n % 10:=by simpa using z
   omega
theorem b9l (n:Nat):dg n≠[]:=by
 by_cases h:n < 10
 ·rw [a6w h];simp
 ·rw [a9r h];simp
theorem b8s (n:Nat):(dg n).foldl (λacc c=>acc * 10 + (c - 48)) 0=n:=by
 induction n using b1f with
 | h1 n h=>rw [a6w h];simp
 | h2 n h ih =>
  rw [a9r h,List.foldl_append,ih]
  simp
  omega
theorem b2X (n:Nat):(dg n).head? = some 48->n=0:=by
 induction n using b1f with
 | h1 n h =>
  rw [a6w h];intro z;have:48 + n=48:=by simpa using z
  omega
 | h2 n h ih =>
  rw [a9r h];intro z;have e:(dg (n / 10)).head? = some 48:=by
   cases q:dg (n / 10) with
   | nil=>exact absurd q (b9l _)
   | cons a r=>rw [q] at z;simpa using z
  have:=ih e
  omega
theorem b8K:∀ (k n:Nat),n < 10 ^ (k + 1)->(dg n).length <= k + 1
 | 0,n,h=>by rw [a6w (by simpa using h)];simp
 | k + 1,n,h=>by
  by_cases z:n < 10
  ·rw [a6w z];simp
  ·rw [a9r z,List.length_append];have:=b8K k (n / 10) (by rw [Nat.pow_succ] at h;omega)
   simp
   omega
noncomputable def q9:Option Int->List Nat
 | none=>[46]
 | some i=>(if i < 0 then [45] else []) ++ dg i.natAbs
noncomputable def c5 (c:Option Int):Str:=⟨(q9 c).toArray⟩
theorem a1P (c:Option Int):32 ∉ q9 c/\10 ∉ q9 c:=by
 cases c with
 | none=>simp [q9]
 | some i =>
  have a:=a0s i.natAbs;unfold q9
  constructor
  ·intro h
   rcases List.mem_append.mp h with z | z
   ·split at z <;> simp at z
   ·have:=a _ z;omega
  ·intro h
   rcases List.mem_append.mp h with z | z
   ·split at z <;> simp at z
   ·have:=a _ z;omega
theorem a7H (c:Option Int)(h:∀ i,c=some i->-10000000000 < i/\i < 10000000000):(q9 c).length <= 11:=by
 cases c with
 | none=>simp [q9]
 | some i =>
  have:=h i rfl;have:=b8K 9 i.natAbs (by show i.natAbs < 10000000000;omega);unfold q9;rw [List.length_append]
  split <;> simp <;> omega
noncomputable def D5 (c:Nat):List (List Nat)->List Nat
 | []=>[]
 | [x]=>x
 | x :: y :: r=>x ++ c :: D5 c (y :: r)
theorem a4X {c:Nat}:∀ {x y r s:List Nat},c ∉ x->c ∉ y->x ++ c :: r=y ++ c :: s->x=y/\r=s
 | [],[],r,s,_,_,h=>by simpa using h
 | [],b :: y,r,s,_,hy,h=>by
  have:c=b:=by simpa using (List.cons.inj h).1
  exact absurd (by simp [this]) hy
 | a :: x,[],r,s,hx,_,h=>by
  have:a=c:=by simpa using (List.cons.inj h).1
  exact absurd (by simp [this]) hx
 | a :: x,b :: y,r,s,hx,hy,h=>by
  have e:=List.cons.inj h;have:=a4X (x:=x) (y:=y) (λz=>hx (List.mem_cons_of_mem _ z)) (λz=>hy (List.mem_cons_of_mem _ z)) e.2;exact ⟨by rw [e.1,this.1],this.2⟩
theorem a6Y {c:Nat}{x y:List Nat}(r:List (List Nat)):c∈D5 c (x :: y :: r):=by
 show c∈x ++ c :: D5 c (y :: r)
 simp
theorem a0Z {c:Nat}:∀ {p q:List (List Nat)},p≠[]->q≠[]->(∀ x∈p,c ∉ x)->(∀ x∈q,c ∉ x)->D5 c p=D5 c q->p=q
 | [],_,h,_,_,_,_=>absurd rfl h
 | _,[],_,h,_,_,_=>absurd rfl h
 | [x],[y],_,_,_,_,h=>by rw [show x=y from h]
 | [x],y :: z :: r,_,_,hx,_,h=>absurd (show c∈x from by rw [show x=_ from h];exact a6Y r) (hx x .(26))
 | x :: z :: r,[y],_,_,_,hy,h=>absurd (show c∈y from by rw [← show _=y from h];exact a6Y r) (hy y .(26))
 | x :: x2 :: r,y :: y2 :: s,_,_,hx,hy,h=>by
  have e:=a4X (hx x .(26)) (hy y .(26)) h;have:=a0Z (p:=x2 :: r) (q:=y2 :: s) .(26) .(26) (λz hz=>hx z (List.mem_cons_of_mem _ hz)) (λz hz=>hy z (List.mem_cons_of_mem _ hz)) e.2;rw [e.1,this]
theorem B1 (c:Nat):∀ p:List Str,(Str.join ⟨#[c]⟩ p).cps.toList=D5 c (p.map (·.cps.toList))
 | []=>rfl
 | [x]=>rfl
 | x :: y :: r=>by
  show ((x ++ ⟨#[c]⟩ ++ Str.join ⟨#[c]⟩ (y :: r):Str)).cps.toList=x.cps.toList ++ c :: D5 c ((y :: r).map (·.cps.toList))
  rw [← B1 c (y :: r)]
  show (x.cps ++ #[c] ++ (Str.join ⟨#[c]⟩ (y :: r)).cps).toList=_
  simp
theorem a9z (c:Nat){p:List Str}(h:p≠[])(hp:∀ x∈p,c ∉ x.cps.toList):Txt.split (Str.join ⟨#[c]⟩ p) ⟨#[c]⟩=p:=by
 have e:=StrLaws.join_split (Str.join ⟨#[c]⟩ p) ⟨#[c]⟩;have f:=StrLaws.split_free (Str.join ⟨#[c]⟩ p) c;have n:Txt.split (Str.join ⟨#[c]⟩ p) ⟨#[c]⟩≠[]:=by
  unfold Txt.split
  split
  ·simp
  ·split
   ·simp
   ·unfold PySem.Builtin.Str.partsBetween
    simp
 generalize Txt.split (Str.join ⟨#[c]⟩ p) ⟨#[c]⟩=q at e f n;have e2:=congrArg (λx:Str=>x.cps.toList) e;simp only [B1] at e2;have:=a0Z (c:=c) (by simpa using n) (by simpa using h) (by simpa using f) (by simpa using hp) e2;refine (List.map_inj_right (λa b h=>?_)).mp this;cases a;cases b;exact congrArg Str.mk (Array.toList_inj.mp h)
theorem a4K (m:Nat):(Nat.toDigits 10 m).map Char.toNat=dg m:=by
 have back:∀ d:Nat,d < 10->(Nat.digitChar d).toNat=48 + d:=by decide
 induction m using b1f with
 | h1 m h =>
  rw [Nat.toDigits_of_lt_base h,a6w h]
  show [(Nat.digitChar m).toNat]=_
  rw [back m h]
 | h2 m h ih =>
  have hm:m % 10 < 10:=Nat.mod_lt m .(24);have t:Nat.toDigits 10 (m / 10) ++ Nat.toDigits 10 (m % 10)=Nat.toDigits 10 (10 * (m / 10) + m % 10):=Nat.toDigits_append_toDigits .(24) .(25) hm;rw [Nat.div_add_mod] at t;rw [← t,List.map_append,Nat.toDigits_of_lt_base hm,ih,a9r h]
  show _ ++ [(Nat.digitChar (m % 10)).toNat]=_
  rw [back _ hm]
theorem C4 (i:Int):Str.ofString (toString i)=c5 (some i):=by
 rw [Str.ofString_eq_toList];unfold c5 q9
 congr 1
 cases i with
 | ofNat m =>
  show ((Nat.repr m).toList.map Char.toNat).toArray=_
  rw [Nat.toList_repr,a4K];dsimp only;rw [if_neg (by show ¬ ((m:Int) < 0);omega)]
  rfl
 | negSucc m =>
  show (("-" ++ Nat.repr (m + 1)).toList.map Char.toNat).toArray=_
  rw [String.toList_append,List.map_append,Nat.toList_repr,a4K];dsimp only;rw [if_pos (Int.negSucc_lt_zero m)]
  rfl
end L2
namespace L2
open PySem PySem.Spec PyProof.Rows
section
variable {X:Cx}{pins:List (Addr × Obj)}{σ:St}{H:Hp}{s:Shared}{h':Heap}
theorem Inv.turnedL {t':Nat}{fp:List Addr}(I:Inv X pins σ H s)(k:∀ b o,b ∉ fp->s.heap.get? b=some o->h'.get? b=some o)(hf:∀ b∈fp,a9W X pins H b):Inv X pins σ H { s with heap:=h',toks:=t' }:=by
 have nit:∀ b u,H b=some u->b ∉ fp:=λb u e z=>by rw [(hf b z).1] at e;cases e
 refine I.step (g':=s.gens) (d':=s.drawn) (ch:=fp) (λb hb=>?_) (λb o _ _ hc e _=>k b o hc e) (λb o _ _ hc e _=>⟨o.slots,k b o hc e⟩) (λ_ _ _ _ n=>n)
  (λb o hc e=>⟨o,k b o hc e⟩) (λ_ _ e=>e) (λ_ _ _ e=>e) (λb ps e=>⟨#[],by rw [e];simp⟩) (λm hm=>?_) (λb u e=>?_) I.bare
 ·obtain ⟨f0,f1,f2,f3,f4,f5⟩:=hf b hb;exact ⟨f3,f1,f4,f5⟩
 ·obtain ⟨o,es,ep,ho,r⟩:=hm;exact ⟨o,es,ep,k _ o (λz=>(hf _ z).2.1 rfl) ho,r⟩
 ·refine (I.hok b u e).stay (λc v hc q=>k c v ?_ q) (λ_ q=>q) λ_ _ q=>q
  rcases hc with z | z
  ·rw [z];exact nit b u e
  ·exact nit c _ z
end
noncomputable def Ite (K:PySem.W.Frag)(a:Addr):It :=
 ⟨λi H=>∃ xs x,SqL K H a xs/\xs[i]? = some x,λi H v H'=>∃ t y,H t=none/\v = .ref t/\H'=upd H t (.tup [.int i,y])/\∀ xs,SqL K H a xs->xs[i]? = some y,λi H=>∃ xs,SqL K H a xs/\xs.length <= i⟩
theorem b8z {P:Program}{w:World}{K:PySem.W.Frag}{elts:List Expr}{k:Nat}{pos:Pos}(a e it:Addr)(hei:e≠it) :
  b9D P w K (.Tuple elts k pos) (Ite K a) [e,it] e (λi h=>(∃ old,IsEnum h e it i old)/\h.IsListIter it a i) where
 mem:=by simp
 obj:=λi h st b hb=>by
  obtain ⟨⟨old,he⟩,o,e',c,d⟩:=st
  rcases List.mem_cons.mp hb with rfl | hb
  ·exact ⟨_,he,λv z=>by cases z⟩
  ·have:b=it:=by simpa using hb
   subst this;exact ⟨o,e',λv z=>by rw [d] at z;cases z⟩
 keep:=λi h h' st kk=>by
  obtain ⟨⟨old,he⟩,hit⟩:=st;exact ⟨⟨old,kk e .(26) _ he⟩,hit.at λo x=>kk it .(26) o x⟩
 item:=by
  intro X hP hw hK hc i pins s σ H E I hf st hg;subst hP hw hK;obtain ⟨xs,x,hq,hx⟩:=hg;obtain ⟨its,rv,p,hz⟩:=I.list hq;obtain ⟨u,hu,ru⟩:=rv.get hx;obtain ⟨⟨old,he⟩,hit⟩:=st;have helt:e < s.heap.objs.size:=Heap.lt_size he;have hilt:it < s.heap.objs.size:=by obtain ⟨_,z,_⟩:=hit;exact Heap.lt_size z
  refine wpAny_pyNext_enum_item he hit p.isList (x:=u) (by simpa using hu) hei λh' ho hit' hT hsz hk=>?_;refine ⟨_,rfl,wpAny_letOwnedTupleGo_enum ho λh2 he2 sb=>?_⟩;have T2:h2.get? s.heap.objs.size=some { cls:=.type "tuple",data:=.seq #[.int i s.toks,u] }:=(sb.2 _ (Nat.ne_of_gt helt)).trans hT;have new:E5 X.prog X.w (upd H s.heap.objs.size (.tup [.int i,x])) (s.heap.push { cls:=.type "tuple",data:=.seq #[.int i s.toks,u] }) s.heap.objs.size (.tup [.int i,x]) :=
   ⟨(by show 2<=sizeLine;decide),[.int i s.toks,u],.cons ⟨_,rfl⟩ (.cons ru .nil),_,Heap.get?_push_size _ rfl,rfl,_,rfl⟩
  have I1:Inv X pins σ (upd H s.heap.objs.size (.tup [.int i,x])) { s with heap:=s.heap.push { cls:=.type "tuple",data:=.seq #[.int i s.toks,u] },toks:=s.toks + 1 } :=
   I.laid (λb o z=>Heap.get?_push_of_some _ z) (Nat.le_refl _) new
  have hf1:∀ b∈[e,it],a9W X pins (upd H s.heap.objs.size (.tup [.int i,x])) b:=λb hb=>by
   obtain ⟨f0,f⟩:=hf b hb;refine ⟨?_,f⟩;have:b≠s.heap.objs.size:=by
    rcases List.mem_cons.mp hb with rfl | hb
    ·exact Nat.ne_of_lt helt
    ·have:b=it:=by simpa using hb
     subst this;exact Nat.ne_of_lt hilt
   rw [j4 this];exact f0
  have I2:Inv X pins σ (upd H s.heap.objs.size (.tup [.int i,x])) { s with heap:=h2,toks:=s.toks + 1 }:=by
   have I3:=I1.turnedL (t':=s.toks + 1) (h':=h2) (fp:=[e,it]) (λb o hb z=>?_) hf1
   ·exact I3
   have b1:b≠e:=λz=>hb (by simp [z]);have b2:b≠it:=λz=>hb (by simp [z])
   rcases Heap.get?_push_cases z with ⟨rfl,rfl⟩ | z
   ·exact T2
   ·exact (sb.2 b b1).trans (hk b o b1 b2 z)
  refine ⟨.ref s.heap.objs.size,_,I2,rfl,⟨s.heap.objs.size,x,I.hok.fresh (Nat.le_refl _),rfl,rfl,λys hy=>by rw [I.list_inj hy hq];exact hx⟩,⟨⟨_,by simpa using he2⟩,hit'.at λo z=>(sb.2 it hei.symm).trans z⟩,λb hb=>(hf1 b hb).1⟩
 done:=by
  intro X hP hw hK hc i pins s σ H E I hf st hg;subst hP hw hK;obtain ⟨xs,hq,hx⟩:=hg;obtain ⟨its,rv,p,hz⟩:=I.list hq;obtain ⟨⟨old,he⟩,hit⟩:=st;have hl:=rv.length;exact wpAny_pyNext_enum_end (I.ok.hd hc) he hit p.isList (by simp;omega) λh' eb=>⟨rfl,I.turnedL (t':=s.toks) (fp:=[e,it]) (λb o hb z=>eb b o (λy=>hb (by simp [y])) z) hf⟩
 self:=λ_ _ _ _ _ st h=>by
  obtain ⟨⟨old,he⟩,_⟩:=st;exact wpAny_pyIter_enum he h
theorem b4g:bootBuiltins "enumerate" = some (.type "enumerate"):=by decide +kernel
noncomputable def c2l (K:PySem.W.Frag)(ta:TA):TI:=fun σ H R=>ta σ H λvs H1=>∃ a,vs=[.ref a]/\(∃ xs,SqL K H1 a xs)/\R (Ite K a) H1
section
variable {X:Cx}
theorem b4U {K:PySem.W.Frag} {elts:List Expr} {k:Nat} {pt:Pos} {a:Expr} {ta:TA} {p pos:Pos} (hK:X.K=K) (hg:Gl X "enumerate") (hm:X.mg "enumerate" = none) (ha:PA X [a] ta) (hs:starEach [a] X.env=[(false,eval a X.env)]:=by rfl) :
  PI X (.Tuple elts k pt) (.Call (.Name "enumerate" p) [a] [] pos) (c2l K ta):=by
 subst hK;intro pins s σ H R I h;refine Call_ (a2J I hg hm b4g (PyProof.Rows.callWith_type1 (thn (ha pos pins s σ H _ I h) λus s1 ⟨vs,H1,I1,r1,q1⟩=>?_) hs rfl));obtain ⟨l,rfl,⟨xs,hq⟩,q⟩:=q1;obtain ⟨u,rfl,e⟩:=a9t r1;obtain rfl:u=Value.ref l:=e;obtain ⟨its,rv,pl,hz⟩:=I1.list hq;refine call_enumerate_list pl.isList λh' he hit hsz hk=>?_;refine wpAny_pyIter_enum he ?_;refine ⟨s1.heap.objs.size + 1,[s1.heap.objs.size + 1,s1.heap.objs.size],_,_,H1,rfl,I1.kept (t':=s1.toks) hk,b8z l _ _ (Nat.ne_of_gt (Nat.lt_succ_self _)),⟨⟨_,he⟩,hit⟩,λb hb=>?_,q⟩
 rcases List.mem_cons.mp hb with rfl | hb
 ·exact I1.fpOk (Nat.le_succ _) (I1.hok.fresh (Nat.le_succ _))
 ·have:b=s1.heap.objs.size:=by simpa using hb
  subst this;exact I1.fpOk (Nat.le_refl _) (I1.hok.fresh (Nat.le_refl _))
end
theorem b1K {K:PySem.W.Frag}{a:Addr}{xs:List V}{g:TG}{tb:TS}{D:a0x}{σ:St}{H:Hp}(Pv:Nat->St->Hp->Prop)(h0:Pv 0 σ H)(hl:∀ i σ H,i<=xs.length -> Pv i σ H->SqL K H a xs)
  (hs:∀ i x σ H t,xs[i]? = some x->Pv i σ H->H t=none->g (.ref t) σ (upd H t (.tup [.int i,x])) fun σ2 H2=>tb { D with nx:=Pv (i + 1),ct:=Pv (i + 1),bk:=D.nx } σ2 H2) (hd:∀ σ H,Pv xs.length σ H->D.nx σ H) :
  ∃ W:Nat->Nat->St->Hp->Prop,(∃ m,W 0 m σ H)/\∀ i m σ H,W i m σ H ->
   ((Ite K a).stop i H/\D.nx σ H) \/ ((Ite K a).go i H/\∃ N:St->Hp->Prop,(∀ σ' H',N σ' H'->∃ m',m' < m/\W (i + 1) m' σ' H')/\∀ x H',(Ite K a).yld i H x H'->g x σ H' fun σ2 H2=>tb { D with nx:=N,ct:=N,bk:=D.nx } σ2 H2):=by
 refine ⟨λi m σ H=>m=xs.length - i/\i<=xs.length /\ Pv i σ H,⟨xs.length,by simp,Nat.zero_le _,h0⟩,?_⟩;rintro i m σ H ⟨rfl,hi,p⟩;have q:=hl i σ H hi p
 by_cases hlt:i < xs.length
 ·refine .inr ⟨⟨xs,xs[i],q,by simp [hlt]⟩,Pv (i + 1),fun σ' H' p'=>⟨xs.length - (i + 1),by omega,rfl,hlt,p'⟩,λx H' y=>?_⟩;obtain ⟨t,z,ht,rfl,rfl,y⟩:=y;exact hs i z σ H t (y xs q) p ht
 ·have e:i=xs.length:=by omega
  subst e;exact .inl ⟨⟨xs,q,Nat.le_refl _⟩,hd σ H p⟩
noncomputable def Itx (x:Str):It:=⟨λi _=>i < x.cps.size,λi H v H'=>H'=H/\∃ c,x.cps[i]? = some c/\v = .str ⟨#[c]⟩,λi _=>x.cps.size <= i⟩
theorem b5E {P:Program} {w:World} {K:PySem.W.Frag} {tg:Expr} (it:Addr) (x:Str) (t:Tok):b9D P w K tg (Itx x) [it] it (λi h=>h.IsStrIter it "str_ascii_iterator" x t i) where
 mem:=by simp
 obj:=λi h st b hb=>by
  have e:b=it:=by simpa using hb
  subst e;obtain ⟨o,e,c,d⟩:=st;exact ⟨o,e,λv z=>by rw [d] at z;cases z⟩
 keep:=λi h h' st k=>let ⟨o,e,r⟩:=st;⟨o,k it .(26) o e,r⟩
 item:=by
  intro X hP hw hK hc i pins s σ H E I hf st hg;subst hP hw hK;obtain ⟨f0,f1,f2,f3,f4,f5⟩:=hf it .(26);have hi:i < x.cps.size:=hg;refine wpAny_pyNext_ascii_item st (c:=x.cps[i]) (by simp [hi]) λh' st' sb=>?_;have I1:Inv X pins σ H { s with heap:=h',toks:=s.toks + 1 }:=I.turned (t':=s.toks + 1) (λb o hb e=>(sb.2 b hb).trans e) f0 f1 f3 f4 f5;obtain ⟨o,e,c,d⟩:=id st';exact ⟨_,rfl,b3x (s:={ s with heap:=h',toks:=s.toks + 1 }) e c d .(24) ⟨.str ⟨#[x.cps[i]]⟩,H,I1,⟨_,rfl⟩,⟨rfl,_,by simp [hi],rfl⟩,st',λb hb=>(hf b hb).1⟩⟩
 done:=by
  intro X hP hw hK hc i pins s σ H E I hf st hg;subst hP hw hK;obtain ⟨f0,f1,f2,f3,f4,f5⟩:=hf it .(26);have hi:x.cps.size <= i:=hg;exact wpAny_pyNext_ascii_end (I.ok.hd hc) st (by simp [hi]) λh' eb=>⟨rfl,I.turned (t':=s.toks) (λb o hb e=>eb b o hb e) f0 f1 f3 f4 f5⟩
 self:=λ_ _ _ _ _ st h=>wpAny_pyIter_striter_ascii st h
noncomputable def c7n (tl:TE):TI:=fun σ H R=>tl σ H λv H1=>∃ x,v = .str x/\x.cps.all (· < 128)=true/\R (Itx x) H1
section
variable {X:Cx}{tg:Expr}
theorem c3d {l:Expr}{tl:TE}(hl:PE X l tl):PI X tg l (c7n tl):=by
 intro pins s σ H R I h;refine thn (hl pins s σ H _ I h) λv s1 ⟨x,H1,I1,r1,q1⟩=>?_;obtain ⟨y,rfl,ha,q⟩:=q1;obtain ⟨t,rfl⟩:=r1;refine wpAny_pyIter_ascii ha ?_;refine ⟨s1.heap.objs.size,[s1.heap.objs.size],_,_,H1,rfl,I1.kept (t':=s1.toks) λb o e=>Heap.get?_push_of_some _ e,b5E _ y t,⟨_,Heap.get?_push_size _ rfl,rfl,rfl⟩,λb hb=>?_,q⟩;have e:b=s1.heap.objs.size:=by simpa using hb
 subst e;exact I1.fpOk (Nat.le_refl _) (I1.hok.fresh (Nat.le_refl _))
end
theorem b5D {x:Str}{H:Hp}{one:V->Hp->(Option V->Hp->Prop)->Prop}{Q:List V->Hp->Prop}(Pv:Nat->List V->Hp->Prop)(h0:Pv 0 [] H)(hn:x.cps.size <= sizeLine)
  (hs:∀ i c ys H,x.cps[i]? = some c->Pv i ys H->one (.str ⟨#[c]⟩) H λo H2=>Pv (i + 1) (ys ++ o.toList) H2) (hd:∀ ys H,Pv x.cps.size ys H->Q ys H):a6M (Itx x) H one Q:=by
 refine ⟨x.cps.size,λi ys H=>i<=x.cps.size /\ Pv i ys H,⟨Nat.zero_le _,h0⟩,hn,?_⟩;rintro i ys H ⟨hi,p⟩
 by_cases hlt:i < x.cps.size
 ·refine .inr ⟨hlt,hlt,λo H3=>Pv (i + 1) (ys ++ o.toList) H3,λo H3 z=>⟨hlt,z⟩,λv H2 y=>?_⟩;obtain ⟨e,c,hc,rfl⟩:=y;subst e;exact hs i c ys _ hc p
 ·have e:i=x.cps.size:=by omega
  subst e;exact .inl ⟨Nat.le_refl _,hd ys H p⟩
section
variable {X:Cx}{K:PySem.W.Frag}
theorem a6z:B6 X (.type "int") (λxs H Q=>∃ (x:Str) (n:Int),xs=[.str x]/\PySem.intText? x=some n/\x.length <= 640/\Q (.int n) H):=by
 intro pins s σ H xs us Q I r h;obtain ⟨x,n,rfl,hn,hl,q⟩:=h;obtain ⟨u,rfl,⟨t,rfl⟩⟩:=a9t r;exact PySem.W.KIN.call_text hn hl ⟨.int n,H,I.tok _,⟨_,rfl⟩,q⟩
theorem c9b (n:Nat)(h:1<=n):Builtin.Str.strSliceIndices (some 1) none 1 n=(List.range (n - 1)).map (λk=>1 + k):=by
 rw [← PySem.StrLaws.strSliceIndices_plain (a:=1) (b:=n) h (Nat.le_refl _)];have h2:¬ ((n:Int) < 0):=by omega
 have e1:max (0:Int) (min (n:Int) (n:Int))=n:=by omega
 simp only [Builtin.Str.strSliceIndices,sliceRange,h2,if_false,e1,show ((1:Int) > 0)=True from by simp,if_true]
 rfl
noncomputable def c3n:V->Option Int->Option Int->Hp->VK->Prop:=λx lo hi H Q=>∃ z:Str,x = .str z/\lo=some 1/\hi=none/\1<=z.length /\ z.length <= sizeLine/\Q (.str ⟨(z.cps.toList.drop 1).toArray⟩) H
theorem b9R:SlR X c3n:=by
 intro pins s σ H x v vl vu lo hi sl Q I rx hs pl pu h;obtain ⟨z,rfl,rfl,rfl,h1,h2,q⟩:=h;obtain ⟨t,rfl⟩:=rx;obtain ⟨tl,rfl⟩:∃ tl,vl = .int 1 tl:=by cases pl;exact ⟨_,rfl⟩
 obtain rfl:vu = .none:=by cases pu;rfl
 refine ⟨"str",_,PySem.F.slot_str_getitem.lookup,typeIs_str s z t,?_⟩;obtain ⟨o,ho,hc,hd⟩:=hs;refine wpAny_getItem_str_slice (l:=some (1,tl)) (u:=none) (st:=none) ⟨o,ho,hc,hd⟩ rfl ?_;have e:slicePicked z (some (1,tl)) none none=(List.range (z.length - 1)).map (λk=>1 + k):=c9b _ h1;have e3:((List.range (z.length - 1)).map (λk=>1 + k)).filterMap (z.cps[·]?)=z.cps.toList.drop 1:=by
  have:=PySem.StrLaws.picks z.cps.toList (z.length - 1) 1 (by simp [Str.length] at h1 ⊢;omega);rw [List.take_of_length_le (by simp [Str.length])] at this
  simpa using this
 unfold sliceMade;rw [e,if_neg (by rw [List.length_map,List.length_range,Bool.and_eq_true];intro z2;have:=z2.2;simp at this;omega),e3];refine ⟨?_,⟨.str _,H,I.tok _,⟨_,rfl⟩,q⟩⟩
 show (List.drop 1 z.cps.toList).toArray.size <= sizeLine
 rw [List.size_toArray,List.length_drop];have:z.cps.toList.length=z.length:=by simp [Str.length]
 omega
theorem F7 (h:X.K=K):MtM X "str.join" (b2v K):=by subst h;exact b4V
theorem b8k {i:Int}(h:-10000000000 < i/\i < 10000000000):PySem.intText? (c5 (some i))=some i:=by
 have l:=a7H (some i) (λj e=>by cases e;exact h);have hl:(c5 (some i)).length <= 4300:=by
  show (q9 (some i)).toArray.size <= 4300
  rw [List.size_toArray];omega
 by_cases hi:i < 0
 ·have e:(c5 (some i)).cps.toList=45 :: dg i.natAbs:=by
   show (q9 (some i)).toArray.toList=_
   unfold q9;dsimp only;rw [if_pos hi]
   simp
  rw [PySem.intText_neg e (a0s _) (b9l _) hl];have:PySem.NumText.digitsVal (dg i.natAbs)=i.natAbs:=b8s _;rw [this]
  congr 1
  omega
 ·have e:(c5 (some i)).cps.toList=dg i.natAbs:=by
   show (q9 (some i)).toArray.toList=_
   unfold q9;dsimp only;rw [if_neg hi]
   simp
  rw [PySem.intText_digits (by rw [e];exact a0s _) (by rw [e];exact b9l _) hl,e];have:PySem.NumText.digitsVal (dg i.natAbs)=i.natAbs:=b8s _;rw [this]
  congr 1
  omega
theorem G8 {o e:Expr} {es:List Expr} {to:TE} {t:TA} {name:Str} {apos cpos:Pos} {T id:String} {r:V->List V->Hp->VK->Prop} (hK:X.K=K) (pa:PlainAttrs T) (slot:Slot T name id) (hty:typeOf (.builtin id)=pure (.type "method_descriptor")) (hm:MtR X id r) (ho:PE X o to) (ha:PA X (e :: es) t)
  (hbase:attributeBase o name X.env (eval o X.env)=eval o X.env:=by rfl)
  (hfew:((backTo cpos (starEach (e :: es) X.env)).all (λx=>!x.1) && (backToKw cpos (keywordEach [] X.env)).all (λx=>x.1.isSome)
   && decide ((e :: es).length + ([]:List Keyword).length + (if ([]:List Keyword).isEmpty then 0 else 1) < 30))=true:=by rfl)
  (hline:(apos.endLine == cpos.line)=true:=by rfl) (hs:starEach (e :: es) X.env=(false,eval e X.env) :: starEach es X.env:=by rfl) (hplain:(backTo cpos (starEach es X.env)).any (·.1)=false:=by rfl) :
  PE X (.Call (.Attribute o name apos) (e :: es) [] cpos) (tBM K T r to t):=by
 subst hK;exact a0w pa slot hty hm ho ha hbase hfew hline hs hplain
theorem E4 {x:Str} {v:V} {pos:Pos} (hg:Gl X x) (h:∃ u,X.mg x=some u/\u7 v u) (hd:(x == ("__debug__" : Str))=false:=by decide):PE X (.Name x pos) (tC v):=by
 obtain ⟨u,hm,r⟩:=h;exact Q1 hg hm r hd
theorem word_none:c5 none=("." : Str):=by decide +kernel
theorem b2E (i:Int):¬ c5 (some i)=("." : Str):=by
 intro h;have e:=congrArg (λx:Str=>x.cps.toList) h;have e2:(c5 (some i)).cps.toList=q9 (some i):=by show (q9 (some i)).toArray.toList=_;simp
 have e3:(("." : Str)).cps.toList=[46]:=by decide +kernel
 simp only [e2,e3] at e;unfold q9 at e;dsimp only at e;have a:=a0s i.natAbs;have n:=b9l i.natAbs;cases hd:dg i.natAbs with
 | nil=>exact n hd
 | cons c r =>
  rw [hd] at e a;have:=a c .(26)
  by_cases hi:i < 0
  ·rw [if_pos hi] at e;simp at e
  ·rw [if_neg hi] at e;have:c=46:=by simpa using (List.cons.inj e).1
   omega
noncomputable def tFv (ta:TE):TE:=fun σ H Q=>ta σ H λx H1=>∃ i:Int,x = .int i/\i.natAbs.log2 < 1920/\Q (.str (Str.ofString (toString i))) H1
theorem Y9 {a:Expr}{ta:TE}{pos:Pos}(ha:PE X a ta):PE X (.FormattedValue a (-1) none pos) (tFv ta):=by
 intro pins s σ H Q I h;refine wpAny_FormattedValue_plain (thn (ha pins s σ H _ I h) λv s1 ⟨x,H1,I1,r1,q1⟩=>?_);obtain ⟨i,rfl,hi,q⟩:=q1;obtain ⟨t,rfl⟩:=r1;exact wpAny_formatField_int hi ⟨.str _,H1,I1.tok _,⟨_,rfl⟩,q⟩
noncomputable abbrev TJ:=Str->St->Hp->VK->Prop
noncomputable def PJ (X:Cx)(es:List Expr)(t:TJ):Prop:=∀ (acc:Str) (pins:List (Addr × Obj)) (s:Shared) (σ:St) (H:Hp) (Q:VK),Inv X pins σ H s->t acc σ H Q ->
 Joins (model X.prog X.w) X.A X.xe (evalEach es X.env) acc (λout s1=>out.length <= sizeLine/\EP X pins σ Q (.str out s1.toks) { s1 with toks:=s1.toks + 1 }) s
theorem a1R:PJ X [] (λacc _ H Q=>acc.length <= sizeLine/\Q (.str acc) H):=by
 intro acc pins s σ H Q I h;exact ⟨h.1,.str acc,H,I.tok _,⟨_,rfl⟩,h.2⟩
theorem A8 {e:Expr}{es:List Expr}{te:TE}{t:TJ}(he:PE X e te)(hr:PJ X es t):PJ X (e :: es) (λacc σ H Q=>te σ H λx H1=>∃ y:Str,x = .str y/\(acc ++ y).length <= sizeLine/\t (acc ++ y) σ H1 Q):=by
 intro acc pins s σ H Q I h
 show wpAny _ _ (eval e X.env) _ _ s
 refine thn (he pins s σ H _ I h) λv s1 ⟨x,H1,I1,r1,q1⟩=>?_;obtain ⟨y,rfl,hz,q⟩:=q1;obtain ⟨t',rfl⟩:=r1;exact ⟨y,t',rfl,hz,hr _ pins s1 σ H1 Q I1 q⟩
theorem a2E {e1 e2:Expr}{es:List Expr}{t:TJ}{pos:Pos}(h:PJ X (e1 :: e2 :: es) t):PE X (.JoinedStr (e1 :: e2 :: es) pos) (fun σ H Q=>t Str.empty σ H Q):=by
 intro pins s σ H Q I hq;exact wpAny_JoinedStr (h Str.empty pins s σ H Q I hq)
end
end L2
namespace L2
noncomputable def ups (lo:Int)(n:Nat):List Int:=(List.range n).map λi=>lo + (i:Nat)
noncomputable def b3Z (xs ys:List Int):List Int:=xs.filter λx=>!decide (x∈ys)
noncomputable abbrev b8N:=List Int × List Int
noncomputable def b9L (a o:b8N):b8N:=if a.1=o.1 then (a.1,b3Z a.2 o.2) else (b3Z a.1 o.1,a.2)
noncomputable def c8o (lo hi:Int):Int:=max 0 (hi - lo + 1)
noncomputable def b0d (w k:Nat):Int × Int:=(((k / w:Nat):Int),((if (k / w) % 2=1 then w - 1 - k % w else k % w:Nat):Int))
noncomputable def b6t (u d l r w k:Nat):b8N:=(ups ((b0d w k).1 - u) (u + d + 1),ups ((b0d w k).2 - l) (l + r + 1))
noncomputable def b2Z (u d l r w:Nat):Nat->b8N
 | 0=>([],[])
 | k + 1=>b6t u d l r w k
end L2
namespace L2
open PySem PySem.Spec PyProof.Rows
noncomputable def C7 (H:Hp)(d:Addr):Prop:=∃ a b n c:Int,H d=some (.lst [.int a,.int b,.int n,.int c])
theorem C7.keep {H H':Hp}{d:Addr}(D:C7 H d)(h:n6 H H'):C7 H' d:=let ⟨a,b,n,c,e⟩:=D;⟨a,b,n,c,h _ _ e⟩
theorem C7.upd {H:Hp}{d p:Addr}{o:HO}(D:C7 H d)(hp:H p=none):C7 (upd H p o) d:=D.keep (c4 hp)
theorem C7.lst {H:Hp}{d:Addr}(D:C7 H d):∃ xs,H d=some (.lst xs):=let ⟨_,_,_,_,e⟩:=D;⟨_,e⟩
theorem C7.ne {H:Hp}{d p:Addr}(D:C7 H d)(hp:H p=none):p≠d:=by
 obtain ⟨xs,e⟩:=D.lst;exact (d6 e hp).symm
section
variable {X:Cx}{K:PySem.W.Frag}
theorem a7R (h:X.K=K):OpR X (compareOp .In) (rIn K false):=by subst h;exact b2C
end
noncomputable def b5N (x:Addr)(H:Hp)(v:V)(A:b8N):Prop:=∃ t a b,v = .ref t/\H t=some (.tup [.ref a,.ref b])/\H a=some (.lst (A.1.map V.int))/\H b=some (.lst (A.2.map V.int))/\a≠x/\b≠x
noncomputable def a9m (p:Int × Int):PyData:=.tuple [.int p.1,.int p.2]
theorem Z1 {H:Hp}{v:V}{p:Int × Int}(h:IsD H v (a9m p)):∃ a,v = .ref a/\H a=some (.tup [.int p.1,.int p.2]):=by
 obtain ⟨a,xs,e,h1,h2⟩:=h.tuple_inv;cases h2 with
 | cons a1 h2=>cases a1;cases h2 with
  | cons a2 h2=>cases a2;cases h2;exact ⟨a,e,h1⟩
theorem a5O {H:Hp}{a:Addr}{i j:Int}(h:H a=some (.tup [.int i,.int j])):IsD H (.ref a) (a9m (i,j)):=.tup h (.cons (.int _) (.cons (.int _) .nil))
noncomputable def c6h (x:Addr)(u d l r w:Nat)(H:Hp)(v:V)(k:Nat):Prop:=∃ t pv a b,v = .ref t/\H t=some (.tup [pv,a,b])/\IsD H pv (a9m (b0d w k))/\b5N x H a (b9L (b6t u d l r w k) (b2Z u d l r w k))/\b5N x H b (b9L (b2Z u d l r w k) (b6t u d l r w k))
noncomputable def b0z (x:Addr)(u d l r w:Nat)(H:Hp)(vs:List V)(n:Nat):Prop:=vs.length=n/\∀ k,k < n->∃ v,vs[k]? = some v/\c6h x u d l r w H v k
theorem b0z.nil {x:Addr}{u d l r w:Nat}{H:Hp}:b0z x u d l r w H [] 0:=⟨rfl,λk hk=>by omega⟩
end L2
namespace MwSet
open PySem
noncomputable def Rs (xs:Array Nat):Prop:=xs.toList.Pairwise (· < ·)
structure c9l (byText:Bool)(t:SetTable):Prop where
 led:t.led = !byText
 rs:t.plain=true->Rs t.place
end MwSet
namespace MwSet
open PySem PyProof.Rows
noncomputable def byT (w:World):Bool:=w.params.followText "set-order"
noncomputable abbrev c4c (es:Array (Int × Value)) (ep:Nat) (t:SetTable):Obj:={ cls:=.type "set",dict:=none,data:=.set es ep t,slots:=#[] }
noncomputable def c5n (es:Array (Int × Value)):List Int:=es.toList.map λe=>numOf e.2
noncomputable def c1m (es:Array (Int × Value)):Prop:=∀ e∈es.toList,∃ k u,e=(hashInt k,Value.int k u)
noncomputable def c2h (w:World)(h:Heap)(a:Addr)(ks:List Int):Prop :=
 ∃ es ep t,h.get? a=some (c4c es ep t)/\c1m es/\(c5n es).Perm ks/\ks.Nodup /\ es.size < scanBound/\t.fits es.size=true/\c9l (byT w) t
theorem c2h.at {w:World}{h h':Heap}{a:Addr}{ks:List Int}(S:c2h w h a ks)(k:∀ o,h.get? a=some o->h'.get? a=some o):c2h w h' a ks:=let ⟨es,ep,t,e,r⟩:=S;⟨es,ep,t,k _ e,r⟩
end MwSet
namespace MwSet
open PySem PySem.Spec PyProof.Rows
end MwSet
namespace MwSortR
open PySem PyProof.Rows
class u9 where
 ρ:Value->Int
 κ:SortKind
 V:Value->Prop
class a5H [u9] (prog:Program) (w:World) (A:Around) (s:Shared):Prop where
 lt:∀ (x y:Value) (Q:Bool->Shared->Prop) (E:Value->Shared->Prop),u9.V x->u9.V y->Q (decide (u9.ρ x < u9.ρ y)) s->wpAny (model prog w) A (keyLt' u9.κ x y) Q E s
variable [u9]
noncomputable def K (xs:Array Keyed)(i:Nat):Int:=match xs[i]? with
 | some p=>u9.ρ p.1
 | none=>0
noncomputable def SortedTo (xs:Array Keyed)(k:Nat):Prop:=∀ i j,i<=j->j < k->K xs i<=K xs j
noncomputable def G9 (xs:Array Keyed):Prop:=∀ p,p∈xs.toList -> u9.V p.1
noncomputable def IsK (v:Value)(a:Int):Prop:=u9.V v/\u9.ρ v=a
theorem a1y {xs ys:Array Keyed}{i j:Nat}(h:xs[i]? = ys[j]?):K xs i=K ys j:=congrArg (λz:Option Keyed=>match z with | some p=>u9.ρ p.1 | none=>0) h
theorem c0a {xs ys:Array Keyed}{k m n:Nat}{c:Prop}[Decidable c](e:xs[k]? = if c then ys[m]? else ys[n]?):K xs k=if c then K ys m else K ys n:=by
 by_cases z:c
 ·rw [if_pos z] at e ⊢;exact a1y e
 ·rw [if_neg z] at e ⊢;exact a1y e
theorem b4N {xs:Array Keyed}{src d:Nat}(hs:src < xs.size)(hd:d<=src)(k:Nat):K (bubble xs src d) k=if k=src - d then K xs src else if src - d < k/\k<=src then K xs (k - 1) else K xs k:=by
 have e:=getElem?_bubble hs d hd k
 by_cases z:k=src - d
 ·rw [if_pos z] at e ⊢;exact a1y e
 ·rw [if_neg z] at e ⊢;exact c0a e
theorem a4H {xs:Array Keyed}{i j:Nat}(hj:j<=xs.size)(k:Nat):K (mirror xs i j ((j - i) / 2)) k=if i<=k/\k < j then K xs (i + j - 1 - k) else K xs k:=c0a (getElem?_mirror_all (i:=i) hj k)
theorem a7U {xs:Array Keyed}{i j:Nat}(hj:j<=xs.size)(heq:∀ k,i<=k->k < j->K xs k=K xs (j - 1))(k:Nat):K (mirror xs i j ((j - i) / 2)) k=K xs k:=by
 rw [a4H hj]
 by_cases z:i<=k/\k < j
 ·rw [if_pos z,heq k z.1 z.2];exact heq _ .(25) .(25)
 ·rw [if_neg z]
noncomputable def Z2:Bool->Keyed->Array Keyed->Nat->Nat->Nat->StateT SortSt Sem (Option Nat):=sortPriv% PySem.Builtin.gallop
theorem b3s (lf:Bool)(ky:Keyed)(ar:Array Keyed)(bs n hint:Nat):Z2 lf ky ar bs n hint=(do
 let ask (i:Nat):StateT SortSt Sem (Option Bool):=do
  let y ← elem' ar (bs + i)
  if lf then lt' y ky else return (← lt' ky y).map (!·)
 let mut l:=0
 let mut o:=1
 let mut lw:=0
 let mut up:=0
 let some fw ← ask hint | return none
 if fw then
  let far:=n - hint
  for _ in [0:n] do
   if o ≥ far then break
   let some go ← ask (hint + o) | return none
   if !go then break
   l:=o
   o:=2 * o + 1
  lw:=hint + l + 1
  up:=hint + min o far
 else
  let far:=hint + 1
  for _ in [0:n] do
   if o ≥ far then break
   let some go ← ask (hint - o) | return none
   if go then break
   l:=o
   o:=2 * o + 1
  lw:=hint + 1 - min o far
  up:=hint - l
 for _ in [0:n] do
  if lw ≥ up then break
  let mid:=lw + (up - lw) / 2
  let some go ← ask mid | return none
  if go then lw:=mid + 1 else up:=mid
 return some up):=rfl
section
variable {prog:Program}{w:World}{A:Around}{E:Value->Shared->Prop}{s:Shared}[a5H prog w A s]
theorem a6C {st:SortSt}{x y:Keyed}{a b:Int}{Q:Option Bool->SortSt->Prop}(hk:kindOf st=u9.κ)(hx:IsK x.1 a)(hy:IsK y.1 b)(h:Q (some (decide (a < b))) st) :
  wpS (model prog w) A E s (lt' x y) Q st:=by
 rw [lt'_eq];refine wpS_bind (wpS_get ?_);rw [hk];refine wpS_bind (wpS_lift (wpAny_attempt (a5H.lt _ _ _ _ hx.1 hy.1 ⟨rfl,?_⟩)));rw [hx.2,hy.2];exact wpS_pure h
theorem u3 {st:SortSt}{arr:Array Keyed}{i:Nat}{p:Keyed}{Q:Keyed->SortSt->Prop}(h:arr[i]? = some p)(q:Q p st):wpS (model prog w) A E s (elem' arr i) Q st:=by
 rw [elem'_eq,h];exact wpS_pure q
noncomputable def b6y (B:Nat->Bool)(n k:Nat):Prop:=k<=n/\(∀ i,i < k->B i=true)/\∀ i,k<=i->i < n->B i=false
noncomputable def Fwd (left:Bool)(kk:Int)(arr:Array Keyed)(b:Nat)(i:Nat):Bool:=if left=true then decide (K arr (b + i) < kk) else !decide (kk < K arr (b + i))
theorem b6g {arr:Array Keyed}(hI:G9 arr){i:Nat}(h:i < arr.size):∃ (p:Keyed) (t:Tok),arr[i]? = some p/\IsK p.1 (K arr i):=by
 have e:arr[i]? = some arr[i]:=getElem?_pos arr i h;refine ⟨arr[i],0,e,hI arr[i] .(26),?_⟩;unfold K;rw [e]
theorem b9J {left:Bool}{kk:Int}{arr:Array Keyed}{b n:Nat}(hs:∀ i j,i<=j->j < n->K arr (b + i)<=K arr (b + j)){i j:Nat}(hij:i<=j)(hj:j < n)(h:Fwd left kk arr b j=true):Fwd left kk arr b i=true:=by
 have:=hs i j hij hj;unfold Fwd at h ⊢;cases left
 ·simp at h ⊢
  omega
 ·simp at h ⊢
  omega
theorem a0O {st:SortSt}{left:Bool}{key:Keyed}{arr:Array Keyed}{b i:Nat}{kk:Int}{Q:Option Bool->SortSt->Prop}(hk:kindOf st=u9.κ)(hkey:IsK key.1 kk)(hI:G9 arr)(hi:b + i < arr.size)
  (h:Q (some (Fwd left kk arr b i)) st) :
  wpS (model prog w) A E s (do let x ← (sortPriv% PySem.Builtin.elem) arr (b + i);if left=true then (sortPriv% PySem.Builtin.lt) x key else do let r ← (sortPriv% PySem.Builtin.lt) key x;pure (Option.map (λx=>!x) r)) Q st:=by
 obtain ⟨p,t,e,hp⟩:=b6g hI hi;refine wpS_bind (u3 (arr:=arr) e ?_);unfold Fwd at h;cases left with
 | true =>
  rw [if_pos rfl];exact a6C hk hp hkey (by simpa using h)
 | false =>
  rw [if_neg Bool.false_ne_true];exact wpS_bind (a6C hk hkey hp (wpS_pure (by simpa using h)))
theorem Q8 {st:SortSt}{left:Bool}{key:Keyed}{arr:Array Keyed}{b n hint:Nat}{kk:Int}{Q:Option Nat->SortSt->Prop}(hk:kindOf st=u9.κ)(hkey:IsK key.1 kk)
  (hI:G9 arr) (hb:b + n<=arr.size) (hh:hint < n) (hs:∀ i j,i<=j->j < n->K arr (b + i)<=K arr (b + j))
  (h:∀ k,b6y (Fwd left kk arr b) n k->Q (some k) st):wpS (model prog w) A E s (Z2 left key arr b n hint) Q st:=by
 have mono:∀ {i j:Nat},i<=j->j < n->Fwd left kk arr b j=true->Fwd left kk arr b i=true:=λa b c=>b9J hs a b c;have anti:∀ {i j:Nat},i<=j->j < n->Fwd left kk arr b i=false->Fwd left kk arr b j=false:=λ{i j} a b c=>by
  cases e:Fwd left kk arr _ j with
  | false=>rfl
  | true=>rw [mono a b e] at c;cases c
 have half:∀ (lo hi:Nat),lo<=hi->hi<=n->(∀ i,i < lo->Fwd left kk arr b i=true)->(∀ i,hi<=i->i < n->Fwd left kk arr b i=false) ->
   ∀ (f:Nat->(Option (Option Nat) × Nat × Nat)->StateT SortSt Sem (ForInStep (Option (Option Nat) × Nat × Nat))),
   (∀ x c,f x c=(if c.snd.fst ≥ c.snd.snd then pure (ForInStep.done (none,c.snd.fst,c.snd.snd)) else do
    let r ← (do let x ← (sortPriv% PySem.Builtin.elem) arr (b + (c.snd.fst + (c.snd.snd - c.snd.fst) / 2));if left=true then (sortPriv% PySem.Builtin.lt) x key else do let r ← (sortPriv% PySem.Builtin.lt) key x;pure (Option.map (λx=>!x) r))
    match r with
    | some more=>if more=true then pure (ForInStep.yield (none,c.snd.fst + (c.snd.snd - c.snd.fst) / 2 + 1,c.snd.snd)) else pure (ForInStep.yield (none,c.snd.fst,c.snd.fst + (c.snd.snd - c.snd.fst) / 2))
    | x=>pure (ForInStep.done (some none,c.snd.fst,c.snd.snd)))) ->
   wpS (model prog w) A E s (forIn [:n] (none,lo,hi) f) (λc st'=>st'=st/\c.fst=none/\b6y (Fwd left kk arr b) n c.snd.snd) st:=by
  intro lo hi h1 h2 h3 h4 f hf;refine wpS_forRange (a:=0) (I:=λ(x:Nat) (c:Option (Option Nat) × Nat × Nat) (st':SortSt)=>st'=st/\c.fst=none/\c.snd.fst <= c.snd.snd /\ c.snd.snd <= n/\(∀ i,i < c.snd.fst -> Fwd left kk arr b i=true)/\(∀ i,c.snd.snd <= i->i < n->Fwd left kk arr b i=false)/\c.snd.snd - c.snd.fst <= n - x) ?_ ?_ ⟨rfl,rfl,h1,h2,h3,h4,by show hi - lo<=n - 0;omega⟩
  ·rintro x ⟨c0,l,r⟩ st' _ hx ⟨rfl,rfl,i1,i2,i3,i4,i5⟩;dsimp only at i1 i2 i3 i4 i5;rw [hf];dsimp only
   by_cases hlr:l ≥ r
   ·rw [if_pos hlr];have:l=r:=by omega
    subst this;exact wpS_pure ⟨rfl,rfl,i2,i3,i4⟩
   ·rw [if_neg hlr];refine wpS_bind (a0O hk hkey hI .(25) ?_);cases e:Fwd left kk arr b (l + (r - l) / 2) with
    | true =>
     dsimp only;rw [if_pos rfl];exact wpS_pure ⟨rfl,rfl,by dsimp only;omega,i2,λi hi=>mono (show i<=l + (r - l) / 2 by dsimp only at hi;omega) .(25) e,i4,by dsimp only;omega⟩
    | false =>
     dsimp only;rw [if_neg Bool.false_ne_true];exact wpS_pure ⟨rfl,rfl,by dsimp only;omega,by dsimp only;omega,i3,λi hi hn=>anti hi hn e,by dsimp only;omega⟩
  ·rintro ⟨c0,l,r⟩ st' ⟨rfl,rfl,i1,i2,i3,i4,i5⟩;dsimp only at i1 i2 i3 i4 i5 ⊢;have:l=r:=by omega
   subst this;exact ⟨rfl,rfl,i2,i3,i4⟩
 rw [b3s];dsimp only;refine wpS_bind (a0O hk hkey hI .(25) ?_);cases e0:Fwd left kk arr b hint with
 | true =>
  dsimp only;rw [if_pos rfl];refine wpS_bind (wpS_mono (wpS_forRange (a:=0) (I:=λ(x:Nat) (c:Option (Option Nat) × Nat × Nat) (st':SortSt)=>st'=st/\c.fst=none/\c.snd.fst < c.snd.snd /\ hint + c.snd.fst < n/\Fwd left kk arr b (hint + c.snd.fst)=true/\x + 1<=c.snd.snd)
   (Q:=λ(c:Option (Option Nat) × Nat × Nat) (st':SortSt)=>st'=st/\c.fst=none/\c.snd.fst < c.snd.snd /\ hint + c.snd.fst < n/\Fwd left kk arr b (hint + c.snd.fst)=true/\(n - hint<=c.snd.snd \/ (hint + c.snd.snd < n/\Fwd left kk arr b (hint + c.snd.snd)=false))) ?_ ?_ ⟨rfl,rfl,by decide,hh,(show Fwd left kk arr b (hint + 0)=true from e0),by decide⟩) ?_)
  ·rintro x ⟨c0,l,r⟩ st' _ hx ⟨rfl,rfl,i1,i2,i3,i4⟩;dsimp only at i1 i2 i3 i4 ⊢
   by_cases hlr:r ≥ n - hint
   ·rw [if_pos hlr];exact wpS_pure ⟨rfl,rfl,i1,i2,i3,.inl hlr⟩
   ·rw [if_neg hlr];refine wpS_bind (a0O hk hkey hI .(25) ?_);cases e:Fwd left kk arr b (hint + r) with
    | true =>
     dsimp only;rw [if_neg .(26)];exact wpS_pure ⟨rfl,rfl,by dsimp only;omega,by dsimp only;omega,e,by dsimp only;omega⟩
    | false =>
     dsimp only;rw [if_pos (show (!false)=true from rfl)];exact wpS_pure ⟨rfl,rfl,i1,i2,i3,.inr ⟨by dsimp only;omega,e⟩⟩
  ·rintro ⟨c0,l,r⟩ st' ⟨rfl,rfl,i1,i2,i3,i4⟩;dsimp only at i1 i2 i3 i4 ⊢;exact ⟨rfl,rfl,i1,i2,i3,.inl .(25)⟩
  ·rintro ⟨c0,l,r⟩ st' ⟨rfl,rfl,i1,i2,i3,i4⟩;dsimp only at i1 i2 i3 i4 ⊢;refine wpS_bind (wpS_mono (half (hint + l + 1) (hint + min r (n - hint)) .(25) .(25) (λi hi=>mono (show i<=hint + l by omega) i2 i3) (λi hi hn=>?_) _ (λx c=>rfl)) ?_)
   ·rcases i4 with z | ⟨z1,z2⟩
    ·omega
    ·exact anti (show hint + r<=i by omega) hn z2
   ·rintro ⟨c0,l2,r2⟩ st' ⟨rfl,rfl,t⟩;exact wpS_pure (h _ t)
 | false =>
  dsimp only;rw [if_neg Bool.false_ne_true];refine wpS_bind (wpS_mono (wpS_forRange (a:=0) (I:=λ(x:Nat) (c:Option (Option Nat) × Nat × Nat) (st':SortSt)=>st'=st/\c.fst=none/\c.snd.fst < c.snd.snd /\ c.snd.fst <= hint/\Fwd left kk arr b (hint - c.snd.fst)=false/\x + 1<=c.snd.snd)
   (Q:=λ(c:Option (Option Nat) × Nat × Nat) (st':SortSt)=>st'=st/\c.fst=none/\c.snd.fst < c.snd.snd /\ c.snd.fst <= hint/\Fwd left kk arr b (hint - c.snd.fst)=false/\(hint + 1<=c.snd.snd \/ (c.snd.snd <= hint/\Fwd left kk arr b (hint - c.snd.snd)=true))) ?_ ?_ ⟨rfl,rfl,by decide,Nat.zero_le _,(show Fwd left kk arr b (hint - 0)=false from e0),by decide⟩) ?_)
  ·rintro x ⟨c0,l,r⟩ st' _ hx ⟨rfl,rfl,i1,i2,i3,i4⟩;dsimp only at i1 i2 i3 i4 ⊢
   by_cases hlr:r ≥ hint + 1
   ·rw [if_pos hlr];exact wpS_pure ⟨rfl,rfl,i1,i2,i3,.inl hlr⟩
   ·rw [if_neg hlr];refine wpS_bind (a0O hk hkey hI .(25) ?_);cases e:Fwd left kk arr b (hint - r) with
    | true =>
     dsimp only;rw [if_pos rfl];exact wpS_pure ⟨rfl,rfl,i1,i2,i3,.inr ⟨by dsimp only;omega,e⟩⟩
    | false =>
     dsimp only;rw [if_neg Bool.false_ne_true];exact wpS_pure ⟨rfl,rfl,by dsimp only;omega,by dsimp only;omega,e,by dsimp only;omega⟩
  ·rintro ⟨c0,l,r⟩ st' ⟨rfl,rfl,i1,i2,i3,i4⟩;dsimp only at i1 i2 i3 i4 ⊢;exact ⟨rfl,rfl,i1,i2,i3,.inl .(25)⟩
  ·rintro ⟨c0,l,r⟩ st' ⟨rfl,rfl,i1,i2,i3,i4⟩;dsimp only at i1 i2 i3 i4 ⊢;refine wpS_bind (wpS_mono (half (hint + 1 - min r (hint + 1)) (hint - l) .(25) .(25) (λi hi=>?_) (λi hi hn=>anti hi hn i3) _ (λx c=>rfl)) ?_)
   ·rcases i4 with z | ⟨z1,z2⟩
    ·omega
    ·exact mono (show i<=hint - r by omega) .(25) z2
   ·rintro ⟨c0,l2,r2⟩ st' ⟨rfl,rfl,t⟩;exact wpS_pure (h _ t)
end
variable [u9]
noncomputable def kf (p:Keyed):Int:=u9.ρ p.1
noncomputable def E7 (l:List Keyed):Prop:=l.Pairwise (λx y=>kf x<=kf y)
noncomputable def a3t (l r:List Keyed):Prop:=∀ x∈l,∀ y∈r,kf x<=kf y
theorem E7.append {l r:List Keyed}(h1:E7 l)(h2:E7 r)(h:a3t l r):E7 (l ++ r):=List.pairwise_append.mpr ⟨h1,h2,h⟩
theorem E7.sub {l r:List Keyed}(h:E7 r)(s:l.Sublist r):E7 l:=h.sublist s
structure MI (a b out:List Keyed)(ia ib:Nat):Prop where
 perm:out.Perm (a.take ia ++ b.take ib)
 rise:E7 out
 ahA:a3t out (a.drop ia)
 ahB:a3t out (b.drop ib)
theorem MI.moreB {a b out:List Keyed}{ia ib k:Nat}(h:MI a b out ia ib)(hb:E7 b)(hk:ib + k<=b.length)(hx:a3t ((b.drop ib).take k) (a.drop ia)):MI a b (out ++ (b.drop ib).take k) ia (ib + k):=by
 have e:b.drop ib=(b.drop ib).take k ++ b.drop (ib + k):=by rw [← List.drop_drop,List.take_append_drop]
 have r:E7 ((b.drop ib).take k ++ b.drop (ib + k)):=by rw [← e];exact hb.sub (List.drop_sublist _ _)
 have c:=List.pairwise_append.mp r;refine ⟨?_,h.rise.append c.1 λx hx y hy=>h.ahB x hx y (List.mem_of_mem_take hy),λx hx' y hy=>?_,λx hx' y hy=>?_⟩
 ·rw [List.take_add];have:=h.perm.append_right ((b.drop ib).take k)
  rwa [List.append_assoc] at this
 ·rcases List.mem_append.mp hx' with z | z
  ·exact h.ahA x z y hy
  ·exact hx x z y hy
 ·rcases List.mem_append.mp hx' with z | z
  ·exact h.ahB x z y (by rw [e];exact List.mem_append_right _ hy)
  ·exact c.2.2 x z y hy
theorem MI.swap {a b out:List Keyed}{ia ib:Nat}(h:MI a b out ia ib):MI b a out ib ia:=⟨h.perm.trans List.perm_append_comm,h.rise,h.ahB,h.ahA⟩
theorem MI.moreA {a b out:List Keyed}{ia ib k:Nat}(h:MI a b out ia ib)(ha:E7 a)(hk:ia + k<=a.length)(hx:a3t ((a.drop ia).take k) (b.drop ib)):MI a b (out ++ (a.drop ia).take k) (ia + k) ib:=(h.swap.moreB ha hk hx).swap
theorem MI.fin {a b out:List Keyed}(h:MI a b out a.length b.length):out.Perm (a ++ b)/\E7 out:=by
 refine ⟨?_,h.rise⟩;have:=h.perm
 rwa [List.take_length,List.take_length] at this
theorem MI.restA {a b out:List Keyed}{ia:Nat}(h:MI a b out ia b.length)(ha:E7 a)(hi:ia<=a.length):(out ++ a.drop ia).Perm (a ++ b)/\E7 (out ++ a.drop ia):=by
 have m:=h.moreA (k:=a.length - ia) ha .(25) (by rw [List.drop_length];exact λx _ y hy=>absurd hy .(26));have e:(a.drop ia).take (a.length - ia)=a.drop ia:=List.take_of_length_le (by rw [List.length_drop];exact Nat.le_refl _);rw [e,show ia + (a.length - ia)=a.length by omega] at m;exact m.fin
theorem MI.lastA {a b out:List Keyed}{ia ib:Nat}(h:MI a b out ia ib)(ha:E7 a)(hb:E7 b)(hi:ia<=a.length)(hj:ib<=b.length)(hx:a3t (b.drop ib) (a.drop ia)) :
  (out ++ b.drop ib ++ a.drop ia).Perm (a ++ b)/\E7 (out ++ b.drop ib ++ a.drop ia):=by
 have e:(b.drop ib).take (b.length - ib)=b.drop ib:=List.take_of_length_le (by rw [List.length_drop];exact Nat.le_refl _);have m:=h.moreB (k:=b.length - ib) hb .(25) (by rw [e];exact hx);rw [e,show ib + (b.length - ib)=b.length by omega] at m;exact m.restA ha hi
theorem MI.restB {a b out:List Keyed}{ib:Nat}(h:MI a b out a.length ib)(hb:E7 b)(hi:ib<=b.length):(out ++ b.drop ib).Perm (a ++ b)/\E7 (out ++ b.drop ib):=by
 have:=h.swap.restA hb hi;exact ⟨this.1.trans List.perm_append_comm,this.2⟩
theorem MI.nil {a b:List Keyed}:MI a b [] 0 0:=⟨by simp,List.Pairwise.nil,λx hx=>absurd hx .(26),λx hx=>absurd hx .(26)⟩
theorem MI.len {a b out:List Keyed}{ia ib:Nat}(h:MI a b out ia ib)(h1:ia<=a.length)(h2:ib<=b.length):out.length=ia + ib:=by
 have:=h.perm.length_eq;rw [List.length_append,List.length_take,List.length_take] at this
 omega
theorem a4O {l:List Keyed}{x:Keyed}{i k:Nat}(h:x∈(l.drop i).take k):∃ n,∃ _:n < l.length,i<=n/\n < i + k/\l[n]=x:=by
 obtain ⟨m,hm,e⟩:=List.mem_iff_getElem.mp h;rw [List.length_take,List.length_drop] at hm;refine ⟨i + m,by omega,by omega,by omega,?_⟩;rw [List.getElem_take,List.getElem_drop] at e;exact e
theorem a4S {l:List Keyed}{x:Keyed}{i:Nat}(h:x∈l.drop i):∃ n,∃ _:n < l.length,i<=n/\l[n]=x:=by
 obtain ⟨m,hm,e⟩:=List.mem_iff_getElem.mp h;rw [List.length_drop] at hm;refine ⟨i + m,by omega,by omega,?_⟩;rw [List.getElem_drop] at e;exact e
theorem a0J {l:List Keyed}{x:Keyed}{i:Nat}(h:x∈l.take i):∃ n,∃ _:n < l.length,n < i/\l[n]=x:=by
 obtain ⟨m,hm,e⟩:=List.mem_iff_getElem.mp h;rw [List.length_take] at hm;refine ⟨m,by omega,by omega,?_⟩;rw [List.getElem_take] at e;exact e
theorem Y2 {a:Array Keyed}{n:Nat}(h:n < a.toList.length):kf a.toList[n]=K a n:=by
 unfold kf K;rw [getElem?_pos a n (by simpa using h)]
 simp
theorem X9 {a:Array Keyed}(h:E7 a.toList){i j:Nat}(hij:i<=j)(hj:j < a.size):K a i<=K a j:=by
 rcases Nat.lt_or_ge i j with z | z
 ·have:=(List.pairwise_iff_getElem.mp h) i j (by simp;omega) (by simpa using hj) z
  rwa [Y2,Y2] at this
 ·have:i=j:=by omega
  rw [this];exact Int.le_refl _
theorem b7S {a:Array Keyed}(h:∀ i j,i<=j->j < a.size -> K a i<=K a j):E7 a.toList:=by
 refine List.pairwise_iff_getElem.mpr λi j hi hj hij=>?_;rw [Y2,Y2];exact h i j .(25) (by simpa using hj)
structure MH (a b out:List Keyed)(na nb:Nat):Prop where
 perm:out.Perm (a.drop na ++ b.drop nb)
 rise:E7 out.reverse
 ahA:a3t (a.take na) out
 ahB:a3t (b.take nb) out
theorem MH.swap {a b out:List Keyed}{na nb:Nat}(h:MH a b out na nb):MH b a out nb na:=⟨h.perm.trans List.perm_append_comm,h.rise,h.ahB,h.ahA⟩
theorem MH.nil {a b:List Keyed}:MH a b [] a.length b.length:=⟨by simp,List.Pairwise.nil,λx _ y hy=>absurd hy .(26),λx _ y hy=>absurd hy .(26)⟩
theorem a2I {l:List Keyed}{i j:Nat}(h:i<=j):l.drop i=(l.drop i).take (j - i) ++ l.drop j:=by
 have e:l.drop j=(l.drop i).drop (j - i):=by rw [List.drop_drop];congr 1;omega
 rw [e,List.take_append_drop]
theorem b1l {l:List Keyed}{i j:Nat}(h:i<=j):l.take j=l.take i ++ (l.drop i).take (j - i):=by
 have:j=i + (j - i):=by omega
 rw [this,List.take_add]
 congr 3
theorem MH.moreA {a b out:List Keyed}{na nb p:Nat}(h:MH a b out na nb)(ha:E7 a)(hp:p<=na)(hx:a3t (b.take nb) ((a.drop p).take (na - p))):MH a b (out ++ ((a.drop p).take (na - p)).reverse) p nb:=by
 have e1:=a2I (l:=a) hp;have e2:=b1l (l:=a) hp;have r1:E7 (a.take p ++ (a.drop p).take (na - p)):=by rw [← e2];exact ha.sub (List.take_sublist _ _)
 have c:=List.pairwise_append.mp r1;have hA:a3t ((a.drop p).take (na - p)) out:=λx hx' y hy=>h.ahA x (by rw [e2];exact List.mem_append_right _ hx') y hy;refine ⟨?_,?_,λx hx' y hy=>?_,λx hx' y hy=>?_⟩
 ·have e3:a.drop p ++ b.drop nb=(a.drop p).take (na - p) ++ (a.drop na ++ b.drop nb):=by rw [← List.append_assoc,← e1]
  rw [e3];refine (h.perm.append_right _).trans ?_;refine ((List.reverse_perm _).append_left _).trans ?_;exact List.perm_append_comm
 ·rw [List.reverse_append,List.reverse_reverse];refine E7.append c.2.1 h.rise λx hx' y hy=>hA x hx' y (List.mem_reverse.mp hy)
 ·rcases List.mem_append.mp hy with z | z
  ·exact h.ahA x (by rw [e2];exact List.mem_append_left _ hx') y z
  ·exact c.2.2 x hx' y (List.mem_reverse.mp z)
 ·rcases List.mem_append.mp hy with z | z
  ·exact h.ahB x hx' y z
  ·exact hx x hx' y (List.mem_reverse.mp z)
theorem MH.moreB {a b out:List Keyed}{na nb p:Nat}(h:MH a b out na nb)(hb:E7 b)(hp:p<=nb)(hx:a3t (a.take na) ((b.drop p).take (nb - p))):MH a b (out ++ ((b.drop p).take (nb - p)).reverse) na p:=(h.swap.moreA hb hp hx).swap
theorem MH.fin {a b out:List Keyed}(h:MH a b out 0 0):out.reverse.Perm (a ++ b)/\E7 out.reverse:=⟨(List.reverse_perm _).trans (by simpa using h.perm),h.rise⟩
theorem MH.restB {a b out:List Keyed}{nb:Nat}(h:MH a b out 0 nb)(hb:E7 b)(hi:nb<=b.length):(b.take nb ++ out.reverse).Perm (a ++ b)/\E7 (b.take nb ++ out.reverse):=by
 have m:=h.moreB (p:=0) hb .(25) (λx hx=>absurd hx .(26));have:=m.fin
 simpa using this
theorem MH.restA {a b out:List Keyed}{na:Nat}(h:MH a b out na 0)(ha:E7 a)(hi:na<=a.length):(a.take na ++ out.reverse).Perm (a ++ b)/\E7 (a.take na ++ out.reverse):=by
 have m:=h.moreA (p:=0) ha .(25) (λx hx=>absurd hx .(26));have:=m.fin
 simpa using this
theorem MH.firstB {a b out:List Keyed}{na nb:Nat}(h:MH a b out na nb)(ha:E7 a)(hb:E7 b)(hi:na<=a.length)(hj:nb<=b.length)(hx:a3t (b.take nb) (a.take na)) :
  (b.take nb ++ a.take na ++ out.reverse).Perm (a ++ b)/\E7 (b.take nb ++ a.take na ++ out.reverse):=by
 have m:=h.moreA (p:=0) ha .(25) (by simpa using hx);have:=m.restB hb hj
 simpa using this
variable [u9]
noncomputable def a2S:Array Keyed->Array Keyed->StateT SortSt Sem (Array Keyed):=sortPriv% PySem.Builtin.mergeLo
noncomputable def a7X:Nat->StateT SortSt Sem Unit:=sortPriv% PySem.Builtin.setMinGallop
theorem b3G (g:Nat):a7X g=modify λz=>SortSt.mk' (kindOf z) (arrOf z) (pendingOf z) g (failedOf z):=rfl
noncomputable abbrev LoR:=Option (Array Keyed) × Array Keyed × Nat × Nat × Nat × Nat
noncomputable abbrev LoG:=Option (Array Keyed) × Array Keyed × Nat × Nat × Nat × Nat × Nat
noncomputable abbrev LoO:=Option (Array Keyed) × Array Keyed × Nat × Nat × Nat
noncomputable def a8s (a b out:Array Keyed)(ia ib:Nat):Array Keyed:=out ++ a.extract ia a.size ++ b.extract ib b.size
noncomputable def a8Z (a b out:Array Keyed)(ia ib:Nat):Array Keyed:=out ++ b.extract ib b.size ++ a.extract ia a.size
noncomputable def loR (a b:Array Keyed)(mg:Nat)(out:Array Keyed)(ia ib ac bc:Nat):StateT SortSt Sem (ForInStep LoR):=do
 let p ← elem' b ib
 let q ← elem' a ia
 let r ← lt' p q
 match r with
 | some t =>
  if t=true then do
   let z ← elem' b ib
   if (ib + 1 == b.size)=true then pure (.done (some (a8s a b (out.push z) ia (ib + 1)),out.push z,ia,ib + 1,0,bc + 1))
   else if bc + 1 ≥ mg then pure (.done (none,out.push z,ia,ib + 1,0,bc + 1))
   else pure (.yield (none,out.push z,ia,ib + 1,0,bc + 1))
  else do
   let z ← elem' a ia
   if (ia + 1 + 1 == a.size)=true then pure (.done (some (a8Z a b (out.push z) (ia + 1) ib),out.push z,ia + 1,ib,ac + 1,0))
   else if ac + 1 ≥ mg then pure (.done (none,out.push z,ia + 1,ib,ac + 1,0))
   else pure (.yield (none,out.push z,ia + 1,ib,ac + 1,0))
 | _=>pure (.done (some (a8s a b out ia ib),out,ia,ib,ac,bc))
noncomputable def b6V (a b:Array Keyed)(out:Array Keyed)(ia ib mg ac bc:Nat):StateT SortSt Sem (ForInStep LoG):=do
 let z ← elem' a ia
 if (ia + 1 + 1 == a.size)=true then pure (.done (some (a8Z a b (out.push z) (ia + 1) ib),out.push z,ia + 1,ib,mg,ac,bc))
 else if (decide (ac < 7) && decide (bc < 7))=true then pure (.done (none,out.push z,ia + 1,ib,mg,ac,bc))
 else pure (.yield (none,out.push z,ia + 1,ib,mg,ac,bc))
noncomputable def b7V (a b:Array Keyed)(out:Array Keyed)(ia ib mg ac bc:Nat):StateT SortSt Sem (ForInStep LoG):=do
 let z ← elem' b ib
 if (ib + 1 == b.size)=true then pure (.done (some (a8s a b (out.push z) ia (ib + 1)),out.push z,ia,ib + 1,mg,ac,bc))
 else do
  let y ← elem' a ia
  let r ← Z2 true y b (ib + 1) (b.size - (ib + 1)) 0
  match r with
  | some k =>
   if k > 0 then
    if (ib + 1 + k == b.size)=true then pure (.done (some (a8s a b (out.push z ++ b.extract (ib + 1) (ib + 1 + k)) ia (ib + 1 + k)),out.push z ++ b.extract (ib + 1) (ib + 1 + k),ia,ib + 1 + k,mg,ac,k))
    else b6V a b (out.push z ++ b.extract (ib + 1) (ib + 1 + k)) ia (ib + 1 + k) mg ac k
   else b6V a b (out.push z) ia (ib + 1) mg ac k
  | _=>pure (.done (some (a8s a b (out.push z) ia (ib + 1)),out.push z,ia,ib + 1,mg,ac,bc))
noncomputable def b8V (a b:Array Keyed)(out:Array Keyed)(ia ib mg ac bc:Nat):StateT SortSt Sem (ForInStep LoG):=do
 a7X mg
 let y ← elem' b ib
 let r ← Z2 false y a ia (a.size - ia) 0
 match r with
 | some k =>
  if k > 0 then
   if (ia + k + 1 == a.size)=true then pure (.done (some (a8Z a b (out ++ a.extract ia (ia + k)) (ia + k) ib),out ++ a.extract ia (ia + k),ia + k,ib,mg,k,bc))
   else if (ia + k == a.size)=true then pure (.done (some (a8s a b (out ++ a.extract ia (ia + k)) (ia + k) ib),out ++ a.extract ia (ia + k),ia + k,ib,mg,k,bc))
   else b7V a b (out ++ a.extract ia (ia + k)) (ia + k) ib mg k bc
  else b7V a b out ia ib mg k bc
 | _=>pure (.done (some (a8s a b out ia ib),out,ia,ib,mg,ac,bc))
noncomputable def loG (a b:Array Keyed)(out:Array Keyed)(ia ib mg ac bc:Nat):StateT SortSt Sem (ForInStep LoG) :=
 if mg > 1 then b8V a b out ia ib (mg - 1) ac bc else b8V a b out ia ib mg ac bc
noncomputable def loO (a b:Array Keyed)(out:Array Keyed)(ia ib mg:Nat):StateT SortSt Sem (ForInStep LoO):=do
 let c ← forIn [:a.size + b.size] ((none,out,ia,ib,0,0):LoR) λ_ c=>loR a b mg c.2.1 c.2.2.1 c.2.2.2.1 c.2.2.2.2.1 c.2.2.2.2.2
 match c.1 with
 | some r=>pure (.done (some r,c.2.1,c.2.2.1,c.2.2.2.1,mg))
 | none=>do
  liftM (rule "list.sort.gallop")
  let d ← forIn [:a.size + b.size] ((none,c.2.1,c.2.2.1,c.2.2.2.1,mg + 1,c.2.2.2.2.1,c.2.2.2.2.2):LoG) λ_ d=>loG a b d.2.1 d.2.2.1 d.2.2.2.1 d.2.2.2.2.1 d.2.2.2.2.2.1 d.2.2.2.2.2.2
  match d.1 with
  | some r=>pure (.done (some r,d.2.1,d.2.2.1,d.2.2.2.1,d.2.2.2.2.1))
  | none=>do
   a7X (d.2.2.2.2.1 + 1)
   pure (.yield (none,d.2.1,d.2.2.1,d.2.2.2.1,d.2.2.2.2.1 + 1))
theorem bindC {α β:Type}{x y:StateT SortSt Sem α}{f g:α->StateT SortSt Sem β}(h1:x=y)(h2:∀ c,f c=g c):(x >>= f)=(y >>= g):=by rw [h1,funext h2]
theorem c5l {β:Type}{r:Std.Legacy.Range}{i:β}{f g:Nat->β->StateT SortSt Sem (ForInStep β)}(h:∀ x c,f x c=g x c):forIn r i f=forIn r i g:=by rw [funext λx=>funext λc=>h x c]
theorem b0k (a b:Array Keyed):a2S a b=(do
  liftM (rule "list.sort.merge-lo")
  let z ← elem' b 0
  if (1 == b.size)=true then pure (a8s a b #[z] 0 1)
  else if (0 + 1 == a.size)=true then pure (a8Z a b #[z] 0 1)
  else do
   let g ← get
   let c ← forIn [:a.size + b.size] ((none,#[z],0,1,gallopOf g):LoO) λ_ c=>loO a b c.2.1 c.2.2.1 c.2.2.2.1 c.2.2.2.2
   match c.1 with
   | some r=>pure r
   | none=>liftM (unsupported "internal:list.sort.merge-bound" : Sem (Array Keyed))):=by
 refine bindC rfl λu=>bindC rfl λz=>ite_congr rfl (λ_=>rfl) λ_=>ite_congr rfl (λ_=>rfl) λ_=>bindC rfl λg=>bindC (c5l λx c=>bindC rfl λd=>?_) λc=>?_
 ·obtain ⟨d1,d2⟩:=d;cases d1 with
  | some r=>rfl
  | none =>
   refine bindC rfl λv=>bindC rfl λd=>?_;obtain ⟨d1,d2⟩:=d;cases d1 with
   | some r=>rfl
   | none=>rfl
 ·obtain ⟨c1,c2⟩:=c;cases c1 with
  | some r=>rfl
  | none=>rfl
structure Two (a b:Array Keyed):Prop where
 ia:G9 a
 ib:G9 b
 ra:E7 a.toList
 rb:E7 b.toList
 na:1<=a.size
 nb:1<=b.size
 h0:K b 0 < K a 0
 hl:K b (b.size - 1) < K a (a.size - 1)
noncomputable def N3 (st st':SortSt):Prop:=kindOf st'=kindOf st/\arrOf st'=arrOf st/\pendingOf st'=pendingOf st/\failedOf st'=failedOf st
theorem N3.rfl {st:SortSt}:N3 st st:=⟨_root_.rfl,_root_.rfl,_root_.rfl,_root_.rfl⟩
theorem N3.kind {st st':SortSt}(h:N3 st st')(k:kindOf st=u9.κ):kindOf st'=u9.κ:=h.1.trans k
noncomputable def F1 (a b r:Array Keyed):Prop:=r.toList.Perm (a.toList ++ b.toList)/\E7 r.toList
noncomputable abbrev MA (a b out:Array Keyed)(ia ib:Nat):Prop:=MI a.toList b.toList out.toList ia ib
theorem Two.last {a b:Array Keyed}(T:Two a b){j:Nat}(hj:j < b.size):K b j < K a (a.size - 1):=Int.lt_of_le_of_lt (X9 T.rb (show j<=b.size - 1 by omega) .(25)) T.hl
theorem Two.first {a b:Array Keyed}(T:Two a b){i:Nat}(hi:i < a.size):K b 0 < K a i:=Int.lt_of_lt_of_le T.h0 (X9 T.ra (Nat.zero_le i) hi)
theorem MA.addA {a b out:Array Keyed}{ia ib k:Nat}(h:MA a b out ia ib)(ra:E7 a.toList)(hk:ia + k<=a.size)(hx:∀ i j,ia<=i->i < ia + k->ib<=j->j < b.size -> K a i<=K b j):MA a b (out ++ a.extract ia (ia + k)) (ia + k) ib:=by
 have:=MI.moreA (k:=k) h ra (by simpa using hk) (λx hx' y hy=>by
  obtain ⟨n,hn,n1,n2,rfl⟩:=a4O hx';obtain ⟨m,hm,m1,rfl⟩:=a4S hy;rw [Y2,Y2];exact hx n m n1 n2 m1 (by simpa using hm))
 show MI _ _ _ _ _
 rw [Array.toList_append,Array.toList_extract,List.extract_eq_take_drop,Nat.add_sub_cancel_left];exact this
theorem MA.swap {a b out:Array Keyed}{ia ib:Nat}(h:MA a b out ia ib):MA b a out ib ia:=MI.swap h
theorem MA.addB {a b out:Array Keyed}{ia ib k:Nat}(h:MA a b out ia ib)(rb:E7 b.toList)(hk:ib + k<=b.size)(hx:∀ i j,ib<=i->i < ib + k->ia<=j->j < a.size -> K b i<=K a j):MA a b (out ++ b.extract ib (ib + k)) ia (ib + k):=(h.swap.addA rb hk hx).swap
theorem b6j {a out:Array Keyed}{i:Nat}{z:Keyed}(h:a[i]? = some z):out.push z=out ++ a.extract i (i + 1):=by
 obtain ⟨hi,rfl⟩:=Array.getElem?_eq_some_iff.mp h;apply Array.ext'
 simp [List.extract_eq_take_drop,List.take_one,List.head?_drop,hi]
theorem MA.pushA {a b out:Array Keyed}{ia ib:Nat}{z:Keyed}(h:MA a b out ia ib)(ra:E7 a.toList)(hz:a[ia]? = some z)(hx:∀ j,ib<=j->j < b.size -> K a ia<=K b j):MA a b (out.push z) (ia + 1) ib:=by
 rw [b6j hz];obtain ⟨hi,_⟩:=Array.getElem?_eq_some_iff.mp hz;exact h.addA ra .(25) λi j h1 h2 h3 h4=>by
  have:i=ia:=by omega
  rw [this];exact hx j h3 h4
theorem MA.pushB {a b out:Array Keyed}{ia ib:Nat}{z:Keyed}(h:MA a b out ia ib)(rb:E7 b.toList)(hz:b[ib]? = some z)(hx:∀ j,ia<=j->j < a.size -> K b ib<=K a j):MA a b (out.push z) ia (ib + 1):=(h.swap.pushA rb hz hx).swap
theorem MA.size {a b out:Array Keyed}{ia ib:Nat}(h:MA a b out ia ib)(h1:ia<=a.size)(h2:ib<=b.size):out.size=ia + ib:=by
 have:=MI.len h (by simpa using h1) (by simpa using h2)
 simpa using this
theorem a7o (a:Array Keyed)(i:Nat):(a.extract i a.size).toList=a.toList.drop i:=by
 rw [Array.toList_extract,List.extract_eq_take_drop];exact List.take_of_length_le .(26)
theorem MA.doneB {a b out:Array Keyed}{ia ib:Nat}(T:Two a b)(h:MA a b out ia ib)(e:ib=b.size)(hi:ia<=a.size):F1 a b (a8s a b out ia ib):=by
 subst e;unfold F1 a8s;have e2:(b.extract b.size b.size).toList=[]:=by rw [a7o];simp
 rw [Array.toList_append,Array.toList_append,a7o,e2,List.append_nil];exact MI.restA (by simpa using h) T.ra (by simpa using hi)
theorem MA.doneA {a b out:Array Keyed}{ia ib:Nat}(T:Two a b)(h:MA a b out ia ib)(e:ia=a.size)(hi:ib<=b.size):F1 a b (a8s a b out ia ib):=by
 subst e;unfold F1 a8s;have e2:(a.extract a.size a.size).toList=[]:=by rw [a7o];simp
 rw [Array.toList_append,Array.toList_append,a7o b,e2,List.append_nil];exact MI.restB (by simpa using h) T.rb (by simpa using hi)
theorem MA.last {a b out:Array Keyed}{ia ib:Nat}(T:Two a b)(h:MA a b out ia ib)(e:ia + 1=a.size)(hi:ib<=b.size):F1 a b (a8Z a b out ia ib):=by
 unfold F1 a8Z;rw [Array.toList_append,Array.toList_append,a7o,a7o];refine MI.lastA h T.ra T.rb (by simp;omega) (by simpa using hi) λx hx y hy=>?_;obtain ⟨n,hn,n1,rfl⟩:=a4S hx;obtain ⟨m,hm,m1,rfl⟩:=a4S hy;rw [Y2,Y2];have hm':m < a.size:=by simpa using hm
 have:m=a.size - 1:=by omega
 rw [this];exact Int.le_of_lt (T.last (by simpa using hn))
section
variable {prog:Program}{w:World}{A:Around}{E:Value->Shared->Prop}{s:Shared}[a5H prog w A s]
theorem G6 {arr:Array Keyed}(hI:G9 arr){i:Nat}(h:i < arr.size):∃ p,arr[i]? = some p/\∃ t:Tok,IsK p.1 (K arr i):=by
 obtain ⟨p,t,e,k⟩:=b6g hI h;exact ⟨p,e,t,k⟩
theorem a4C {st₀ st:SortSt}{g:Nat}{Q:Unit->SortSt->Prop}(hS:N3 st₀ st)(h:∀ st',N3 st₀ st'->Q () st'):wpS (model prog w) A E s (a7X g) Q st:=by
 rw [b3G];exact wpS_modify (h _ ⟨hS.1,hS.2.1,hS.2.2.1,hS.2.2.2⟩)
theorem a0u {kk:Int}{arr:Array Keyed}{b n k:Nat}(h:b6y (Fwd false kk arr b) n k):k<=n/\(∀ i,i < k->K arr (b + i)<=kk)/\∀ i,k<=i->i < n->kk < K arr (b + i):=by
 refine ⟨h.1,λi hi=>?_,λi hi hn=>?_⟩
 ·have:=h.2.1 i hi
  simp [Fwd] at this
  exact this
 ·have:=h.2.2 i hi hn
  simp [Fwd] at this
  exact this
theorem a8z {kk:Int}{arr:Array Keyed}{b n k:Nat}(h:b6y (Fwd true kk arr b) n k):k<=n/\(∀ i,i < k->K arr (b + i) < kk)/\∀ i,k<=i->i < n->kk<=K arr (b + i):=by
 refine ⟨h.1,λi hi=>?_,λi hi hn=>?_⟩
 ·have:=h.2.1 i hi
  simp [Fwd] at this
  exact this
 ·have:=h.2.2 i hi hn
  simp [Fwd] at this
  exact this
noncomputable def OkR (a b:Array Keyed)(n:Nat)(st₀:SortSt)(c:LoR)(st:SortSt):Prop:=N3 st₀ st/\((∃ r,c.1=some r/\F1 a b r) \/ (c.1=none/\MA a b c.2.1 c.2.2.1 c.2.2.2.1 /\ c.2.2.1 + 1 < a.size /\ c.2.2.2.1 < b.size /\ n<=c.2.2.1 + c.2.2.2.1))
noncomputable def OkG (a b:Array Keyed)(n:Nat)(st₀:SortSt)(c:LoG)(st:SortSt):Prop:=N3 st₀ st/\((∃ r,c.1=some r/\F1 a b r) \/ (c.1=none/\MA a b c.2.1 c.2.2.1 c.2.2.2.1 /\ c.2.2.1 + 1 < a.size /\ c.2.2.2.1 < b.size /\ n<=c.2.2.1 + c.2.2.2.1))
theorem c9e {st₀ st:SortSt}{a b out:Array Keyed}{mg ia ib ac bc n:Nat}(T:Two a b)(hk:kindOf st₀=u9.κ)(hS:N3 st₀ st)(hM:MA a b out ia ib)(hA:ia + 1 < a.size)(hB:ib < b.size)(hn:n<=ia + ib) :
  wpS (model prog w) A E s (loR a b mg out ia ib ac bc) (λr st'=>match r with | .done c=>OkR a b (n + 1) st₀ c st' | .yield c=>c.1=none/\OkR a b (n + 1) st₀ c st') st:=by
 obtain ⟨p,ep,t,hp⟩:=G6 T.ib hB;obtain ⟨q,eq,u,hq⟩:=G6 T.ia (show ia < a.size by omega);unfold loR;refine wpS_bind (u3 ep (wpS_bind (u3 eq (wpS_bind (a6C (hS.kind hk) hp hq ?_)))));dsimp only
 by_cases hlt:K b ib < K a ia
 ·rw [if_pos (by simpa using hlt)];refine wpS_bind (u3 ep ?_);have M:MA a b (out.push p) ia (ib + 1):=hM.pushB T.rb ep λj h1 h2=>Int.le_of_lt (Int.lt_of_lt_of_le hlt (X9 T.ra h1 h2))
  by_cases e:ib + 1=b.size
  ·rw [if_pos (by simpa using e)];exact wpS_pure ⟨hS,.inl ⟨_,rfl,M.doneB T e .(25)⟩⟩
  ·rw [if_neg (by simpa using e)];have R:OkR a b (n + 1) st₀ (none,out.push p,ia,ib + 1,0,bc + 1) st:=⟨hS,.inr ⟨rfl,M,hA,by dsimp only;omega,by dsimp only;omega⟩⟩
   by_cases g:bc + 1 ≥ mg
   ·rw [if_pos g];exact wpS_pure R
   ·rw [if_neg g];exact wpS_pure ⟨rfl,R⟩
 ·rw [if_neg (by simpa using hlt)];refine wpS_bind (u3 eq ?_);have M:MA a b (out.push q) (ia + 1) ib:=hM.pushA T.ra eq λj h1 h2=>Int.le_trans (Int.not_lt.mp hlt) (X9 T.rb h1 h2)
  by_cases e:ia + 1 + 1=a.size
  ·rw [if_pos (by simpa using e)];exact wpS_pure ⟨hS,.inl ⟨_,rfl,M.last T e .(25)⟩⟩
  ·rw [if_neg (by simpa using e)];have R:OkR a b (n + 1) st₀ (none,out.push q,ia + 1,ib,ac + 1,0) st:=⟨hS,.inr ⟨rfl,M,by dsimp only;omega,hB,by dsimp only;omega⟩⟩
   by_cases g:ac + 1 ≥ mg
   ·rw [if_pos g];exact wpS_pure R
   ·rw [if_neg g];exact wpS_pure ⟨rfl,R⟩
noncomputable abbrev PG (a b:Array Keyed)(n:Nat)(st₀:SortSt)(r:ForInStep LoG)(st':SortSt):Prop:=match r with | .done c=>OkG a b n st₀ c st' | .yield c=>c.1=none/\OkG a b n st₀ c st'
theorem b2w {st₀ st:SortSt}{a b out:Array Keyed}{mg ia ib ac bc n:Nat}(T:Two a b)(hS:N3 st₀ st)(hM:MA a b out ia ib)(hA:ia + 1 < a.size)(hB:ib < b.size)(hn:n<=ia + ib)(hx:∀ j,ib<=j->j < b.size -> K a ia<=K b j) :
  wpS (model prog w) A E s (b6V a b out ia ib mg ac bc) (PG a b n st₀) st:=by
 obtain ⟨q,eq,u,hq⟩:=G6 T.ia (show ia < a.size by omega);unfold b6V;refine wpS_bind (u3 eq ?_);have M:MA a b (out.push q) (ia + 1) ib:=hM.pushA T.ra eq hx
 by_cases e:ia + 1 + 1=a.size
 ·rw [if_pos (by simpa using e)];exact wpS_pure ⟨hS,.inl ⟨_,rfl,M.last T e .(25)⟩⟩
 ·rw [if_neg (by simpa using e)];have R:OkG a b n st₀ (none,out.push q,ia + 1,ib,mg,ac,bc) st:=⟨hS,.inr ⟨rfl,M,by dsimp only;omega,hB,by dsimp only;omega⟩⟩
  by_cases g:(decide (ac < 7) && decide (bc < 7))=true
  ·rw [if_pos g];exact wpS_pure R
  ·rw [if_neg g];exact wpS_pure ⟨rfl,R⟩
theorem b3w {st₀ st:SortSt}{a b out:Array Keyed}{mg ia ib ac bc n:Nat}(T:Two a b)(hk:kindOf st₀=u9.κ)(hS:N3 st₀ st)(hM:MA a b out ia ib)(hA:ia + 1 < a.size)(hB:ib < b.size)(hn:n<=ia + ib)(hx:∀ j,ia<=j->j < a.size -> K b ib<=K a j) :
  wpS (model prog w) A E s (b7V a b out ia ib mg ac bc) (PG a b n st₀) st:=by
 obtain ⟨p,ep,t,hp⟩:=G6 T.ib hB;obtain ⟨q,eq,u,hq⟩:=G6 T.ia (show ia < a.size by omega);unfold b7V;refine wpS_bind (u3 ep ?_);have M:MA a b (out.push p) ia (ib + 1):=hM.pushB T.rb ep hx
 by_cases e:ib + 1=b.size
 ·rw [if_pos (by simpa using e)];exact wpS_pure ⟨hS,.inl ⟨_,rfl,M.doneB T e .(25)⟩⟩
 ·rw [if_neg (by simpa using e)];refine wpS_bind (u3 eq (wpS_bind (Q8 (hS.kind hk) hq T.ib .(25) .(25) (λi j h1 h2=>X9 T.rb .(25) .(25)) λk hT=>?_)));obtain ⟨k1,k2,k3⟩:=a8z hT;dsimp only
  by_cases hk0:k > 0
  ·rw [if_pos hk0];have M2:=M.addB (k:=k) T.rb .(25) λi j h1 h2 h3 h4=>Int.le_of_lt (Int.lt_of_lt_of_le (by
    have:=k2 (i - (ib + 1)) .(25)
    rwa [show ib + 1 + (i - (ib + 1))=i by omega] at this) (X9 T.ra h3 h4))
   by_cases e2:ib + 1 + k=b.size
   ·rw [if_pos (by simpa using e2)];exact wpS_pure ⟨hS,.inl ⟨_,rfl,M2.doneB T e2 .(25)⟩⟩
   ·rw [if_neg (by simpa using e2)];exact b2w T hS M2 hA .(25) .(25) λj h1 h2=>by
     have:=k3 (j - (ib + 1)) .(25) .(25)
     rwa [show ib + 1 + (j - (ib + 1))=j by omega] at this
  ·rw [if_neg hk0];exact b2w T hS M hA .(25) .(25) λj h1 h2=>by
    have:=k3 (j - (ib + 1)) .(25) .(25)
    rwa [show ib + 1 + (j - (ib + 1))=j by omega] at this
theorem b4w {st₀ st:SortSt}{a b out:Array Keyed}{mg ia ib ac bc n:Nat}(T:Two a b)(hk:kindOf st₀=u9.κ)(hS:N3 st₀ st)(hM:MA a b out ia ib)(hA:ia + 1 < a.size)(hB:ib < b.size)(hn:n<=ia + ib) :
  wpS (model prog w) A E s (b8V a b out ia ib mg ac bc) (PG a b n st₀) st:=by
 obtain ⟨p,ep,t,hp⟩:=G6 T.ib hB;unfold b8V;refine wpS_bind (a4C hS λst' hS'=>wpS_bind (u3 ep (wpS_bind (Q8 (hS'.kind hk) hp T.ia .(25) .(25) (λi j h1 h2=>X9 T.ra .(25) .(25)) λk hT=>?_))));obtain ⟨k1,k2,k3⟩:=a0u hT;dsimp only
 by_cases hk0:k > 0
 ·rw [if_pos hk0];have M2:=hM.addA (k:=k) T.ra .(25) λi j h1 h2 h3 h4=>Int.le_trans (by
   have:=k2 (i - ia) .(25)
   rwa [show ia + (i - ia)=i by omega] at this) (X9 T.rb h3 h4)
  by_cases e:ia + k + 1=a.size
  ·rw [if_pos (by simpa using e)];exact wpS_pure ⟨hS',.inl ⟨_,rfl,M2.last T e .(25)⟩⟩
  ·rw [if_neg (by simpa using e)]
   by_cases e2:ia + k=a.size
   ·rw [if_pos (by simpa using e2)];exact wpS_pure ⟨hS',.inl ⟨_,rfl,M2.doneA T e2 .(25)⟩⟩
   ·rw [if_neg (by simpa using e2)];exact b3w T hk hS' M2 .(25) hB .(25) λj h1 h2=>by
     have:=k3 (j - ia) .(25) .(25);rw [show ia + (j - ia)=j by omega] at this;exact Int.le_of_lt this
 ·rw [if_neg hk0];exact b3w T hk hS' hM hA hB hn λj h1 h2=>by
   have:=k3 (j - ia) .(25) .(25);rw [show ia + (j - ia)=j by omega] at this;exact Int.le_of_lt this
theorem c1f {st₀ st:SortSt}{a b out:Array Keyed}{mg ia ib ac bc n:Nat}(T:Two a b)(hk:kindOf st₀=u9.κ)(hS:N3 st₀ st)(hM:MA a b out ia ib)(hA:ia + 1 < a.size)(hB:ib < b.size)(hn:n<=ia + ib) :
  wpS (model prog w) A E s (loG a b out ia ib mg ac bc) (PG a b n st₀) st:=by
 unfold loG
 by_cases h:mg > 1
 ·rw [if_pos h];exact b4w T hk hS hM hA hB hn
 ·rw [if_neg h];exact b4w T hk hS hM hA hB hn
noncomputable def OkO (a b:Array Keyed)(n:Nat)(st₀:SortSt)(c:LoO)(st:SortSt):Prop:=N3 st₀ st/\((∃ r,c.1=some r/\F1 a b r) \/ (c.1=none/\MA a b c.2.1 c.2.2.1 c.2.2.2.1 /\ c.2.2.1 + 1 < a.size /\ c.2.2.2.1 < b.size /\ n<=c.2.2.1 + c.2.2.2.1))
theorem c0f {st₀ st:SortSt}{a b out:Array Keyed}{mg ia ib n:Nat}(T:Two a b)(hk:kindOf st₀=u9.κ)(hS:N3 st₀ st)(hM:MA a b out ia ib)(hA:ia + 1 < a.size)(hB:ib < b.size)(hn:n<=ia + ib) :
  wpS (model prog w) A E s (loO a b out ia ib mg) (λr st'=>match r with | .done c=>OkO a b (n + 1) st₀ c st'/\c.1 ≠ none | .yield c=>c.1=none/\OkO a b (n + 1) st₀ c st') st:=by
 unfold loO;refine wpS_bind (wpS_mono (wpS_forRange (I:=λx c st'=>c.1=none/\OkR a b (n + x) st₀ c st') (Q:=λc st'=>OkR a b (n + 1) st₀ c st') ?_ ?_ ⟨rfl,hS,.inr ⟨rfl,hM,hA,hB,by dsimp only;omega⟩⟩) ?_)
 ·rintro x ⟨c0,o,i,j,ac,bc⟩ st' _ hx ⟨e,hS',z⟩
  rcases z with ⟨r,e',_⟩ | ⟨_,m,h1,h2,h3⟩
  ·rw [e'] at e;cases e
  ·refine wpS_mono (c9e T hk hS' m h1 h2 h3) λr st2 hr=>?_;have le:∀ c,OkR a b (n + x + 1) st₀ c st2->OkR a b (n + 1) st₀ c st2:=λc hc=>⟨hc.1,hc.2.imp id λ⟨q1,q2,q3,q4,q5⟩=>⟨q1,q2,q3,q4,by omega⟩⟩;cases r with
   | done c=>exact le c hr
   | yield c=>exact hr
 ·rintro c st' ⟨e,hc⟩;exact ⟨hc.1,hc.2.imp id λ⟨q1,q2,q3,q4,q5⟩=>⟨q1,q2,q3,q4,by omega⟩⟩
 ·rintro ⟨c0,o,i,j,ac,bc⟩ st' ⟨hS',z⟩
  rcases z with ⟨r,e,hr⟩ | ⟨e,m,h1,h2,h3⟩
  ·dsimp only at e;subst e;exact wpS_pure ⟨⟨hS',.inl ⟨r,rfl,hr⟩⟩,by simp⟩
  ·dsimp only at e;subst e;dsimp only;refine wpS_bind (wpS_lift (wpAny_rule ⟨rfl,?_⟩));refine wpS_bind (wpS_mono (wpS_forRange (I:=λx c st'=>c.1=none/\OkG a b (n + 1) st₀ c st') (Q:=λc st'=>OkG a b (n + 1) st₀ c st') ?_ ?_ ⟨rfl,hS',.inr ⟨rfl,m,h1,h2,h3⟩⟩) ?_)
   ·rintro x ⟨c0,o,i,j,mg,ac,bc⟩ st' _ hx ⟨e,hS',z⟩
    rcases z with ⟨r,e',_⟩ | ⟨_,m,h1,h2,h3⟩
    ·rw [e'] at e;cases e
    ·refine wpS_mono (c1f T hk hS' m h1 h2 h3) λr st2 hr=>?_;cases r with
     | done c=>exact hr
     | yield c=>exact hr
   ·exact λc st' hc=>hc.2
   ·rintro ⟨c0,o,i,j,mg,ac,bc⟩ st' ⟨hS',z⟩
    rcases z with ⟨r,e,hr⟩ | ⟨e,m,h1,h2,h3⟩
    ·dsimp only at e;subst e;exact wpS_pure ⟨⟨hS',.inl ⟨r,rfl,hr⟩⟩,by simp⟩
    ·dsimp only at e;subst e;dsimp only;exact wpS_bind (a4C hS' λst2 hS2=>wpS_pure ⟨rfl,hS2,.inr ⟨rfl,m,h1,h2,h3⟩⟩)
theorem b6h {st:SortSt}{a b:Array Keyed}{Q:Array Keyed->SortSt->Prop}(T:Two a b)(hk:kindOf st=u9.κ)(h:∀ r st',N3 st st'->F1 a b r->Q r st'):wpS (model prog w) A E s (a2S a b) Q st:=by
 rw [b0k];obtain ⟨p,ep,t,hp⟩:=G6 T.ib (show 0 < b.size by have:=T.nb;omega);have hna:=T.na;have hnb:=T.nb;refine wpS_bind (wpS_lift (wpAny_rule ⟨rfl,wpS_bind (u3 ep ?_)⟩));have M:MA a b #[p] 0 1:=(show MA a b #[] 0 0 from MI.nil).pushB T.rb ep λj _ hj=>Int.le_of_lt (T.first hj)
 by_cases e1:1=b.size
 ·rw [if_pos (by simpa using e1)];exact wpS_pure (h _ _ N3.rfl (M.doneB T e1 .(25)))
 ·rw [if_neg (by simpa using e1)]
  by_cases e2:0 + 1=a.size
  ·rw [if_pos (by simpa using e2)];exact wpS_pure (h _ _ N3.rfl (M.last T e2 .(25)))
  ·rw [if_neg (by simpa using e2)];refine wpS_bind (wpS_get ?_);refine wpS_bind (wpS_mono (wpS_forRange (I:=λx c st'=>c.1=none/\OkO a b (x + 1) st c st') (Q:=λc st'=>OkO a b 0 st c st'/\c.1 ≠ none) ?_ ?_ ⟨rfl,N3.rfl,.inr ⟨rfl,M,by dsimp only;omega,by dsimp only;omega,by dsimp only;omega⟩⟩) ?_)
   ·rintro x ⟨c0,o,i,j,mg⟩ st' _ hx ⟨e,hS',z⟩
    rcases z with ⟨r,e',_⟩ | ⟨_,m,h1,h2,h3⟩
    ·rw [e'] at e;cases e
    ·refine wpS_mono (c0f T hk hS' m h1 h2 h3) λr st2 hr=>?_;cases r with
     | done c=>exact ⟨⟨hr.1.1,hr.1.2.imp id λ⟨q1,q2,q3,q4,q5⟩=>⟨q1,q2,q3,q4,by omega⟩⟩,hr.2⟩
     | yield c=>exact hr
   ·rintro ⟨c0,o,i,j,mg⟩ st' ⟨e,hS',z⟩
    rcases z with ⟨r,e',_⟩ | ⟨_,m,h1,h2,h3⟩
    ·rw [e'] at e;cases e
    ·dsimp only at h1 h2 h3
     exfalso;omega
   ·rintro ⟨c0,o,i,j,mg⟩ st' ⟨⟨hS',z⟩,hne⟩
    rcases z with ⟨r,e,hr⟩ | ⟨e,_⟩
    ·dsimp only at e;subst e;exact wpS_pure (h _ _ hS' hr)
    ·exact absurd e hne
end
variable [u9]
noncomputable def a3S:Array Keyed->Array Keyed->StateT SortSt Sem (Array Keyed):=sortPriv% PySem.Builtin.mergeHi
noncomputable abbrev HiR:=Option (Array Keyed) × Nat × Nat × Array Keyed × Nat × Nat
noncomputable abbrev HiG:=Option (Array Keyed) × Nat × Nat × Array Keyed × Nat × Nat × Nat
noncomputable abbrev HiO:=Option (Array Keyed) × Nat × Nat × Array Keyed × Nat
noncomputable def a7s (a b out:Array Keyed)(na nb:Nat):Array Keyed:=a.extract 0 na ++ b.extract 0 nb ++ out.reverse
noncomputable def a4J (a b out:Array Keyed)(na nb:Nat):Array Keyed:=b.extract 0 nb ++ a.extract 0 na ++ out.reverse
noncomputable def hiR (a b:Array Keyed)(mg:Nat)(out:Array Keyed)(na nb ac bc:Nat):StateT SortSt Sem (ForInStep HiR):=do
 let p ← elem' b (nb - 1)
 let q ← elem' a (na - 1)
 let r ← lt' p q
 match r with
 | some t =>
  if t=true then do
   let z ← elem' a (na - 1)
   if (na - 1 == 0)=true then pure (.done (some (a7s a b (out.push z) (na - 1) nb),na - 1,nb,out.push z,ac + 1,0))
   else if ac + 1 ≥ mg then pure (.done (none,na - 1,nb,out.push z,ac + 1,0))
   else pure (.yield (none,na - 1,nb,out.push z,ac + 1,0))
  else do
   let z ← elem' b (nb - 1)
   if (nb - 1 == 1)=true then pure (.done (some (a4J a b (out.push z) na (nb - 1)),na,nb - 1,out.push z,0,bc + 1))
   else if bc + 1 ≥ mg then pure (.done (none,na,nb - 1,out.push z,0,bc + 1))
   else pure (.yield (none,na,nb - 1,out.push z,0,bc + 1))
 | _=>pure (.done (some (a7s a b out na nb),na,nb,out,ac,bc))
noncomputable def b4W (a b:Array Keyed)(out:Array Keyed)(na nb mg ac bc:Nat):StateT SortSt Sem (ForInStep HiG):=do
 let z ← elem' a (na - 1)
 if (na - 1 == 0)=true then pure (.done (some (a7s a b (out.push z) (na - 1) nb),na - 1,nb,out.push z,mg,ac,bc))
 else if (decide (ac < 7) && decide (bc < 7))=true then pure (.done (none,na - 1,nb,out.push z,mg,ac,bc))
 else pure (.yield (none,na - 1,nb,out.push z,mg,ac,bc))
noncomputable def b5W (a b:Array Keyed)(out:Array Keyed)(na nb mg ac bc:Nat):StateT SortSt Sem (ForInStep HiG):=do
 let z ← elem' b (nb - 1)
 if (nb - 1 == 1)=true then pure (.done (some (a4J a b (out.push z) na (nb - 1)),na,nb - 1,out.push z,mg,ac,bc))
 else do
  let y ← elem' a (na - 1)
  let r ← Z2 true y b 0 (nb - 1) (nb - 1 - 1)
  match r with
  | some p =>
   if nb - 1 - p > 0 then
    if (p == 1)=true then pure (.done (some (a4J a b (out.push z ++ (b.extract p (nb - 1)).reverse) na p),na,p,out.push z ++ (b.extract p (nb - 1)).reverse,mg,ac,nb - 1 - p))
    else if (p == 0)=true then pure (.done (some (a7s a b (out.push z ++ (b.extract p (nb - 1)).reverse) na p),na,p,out.push z ++ (b.extract p (nb - 1)).reverse,mg,ac,nb - 1 - p))
    else b4W a b (out.push z ++ (b.extract p (nb - 1)).reverse) na p mg ac (nb - 1 - p)
   else b4W a b (out.push z) na (nb - 1) mg ac (nb - 1 - p)
  | _=>pure (.done (some (a7s a b (out.push z) na (nb - 1)),na,nb - 1,out.push z,mg,ac,bc))
noncomputable def b6W (a b:Array Keyed)(out:Array Keyed)(na nb mg ac bc:Nat):StateT SortSt Sem (ForInStep HiG):=do
 a7X mg
 let y ← elem' b (nb - 1)
 let r ← Z2 false y a 0 na (na - 1)
 match r with
 | some p =>
  if na - p > 0 then
   if (p == 0)=true then pure (.done (some (a7s a b (out ++ (a.extract p na).reverse) p nb),p,nb,out ++ (a.extract p na).reverse,mg,na - p,bc))
   else b5W a b (out ++ (a.extract p na).reverse) p nb mg (na - p) bc
  else b5W a b out na nb mg (na - p) bc
 | _=>pure (.done (some (a7s a b out na nb),na,nb,out,mg,ac,bc))
noncomputable def hiG (a b:Array Keyed)(out:Array Keyed)(na nb mg ac bc:Nat):StateT SortSt Sem (ForInStep HiG) :=
 if mg > 1 then b6W a b out na nb (mg - 1) ac bc else b6W a b out na nb mg ac bc
noncomputable def hiO (a b:Array Keyed)(na nb:Nat)(out:Array Keyed)(mg:Nat):StateT SortSt Sem (ForInStep HiO):=do
 let c ← forIn [:a.size + b.size] ((none,na,nb,out,0,0):HiR) λ_ c=>hiR a b mg c.2.2.2.1 c.2.1 c.2.2.1 c.2.2.2.2.1 c.2.2.2.2.2
 match c.1 with
 | some r=>pure (.done (some r,c.2.1,c.2.2.1,c.2.2.2.1,mg))
 | none=>do
  liftM (rule "list.sort.gallop")
  let d ← forIn [:a.size + b.size] ((none,c.2.1,c.2.2.1,c.2.2.2.1,mg + 1,c.2.2.2.2.1,c.2.2.2.2.2):HiG) λ_ d=>hiG a b d.2.2.2.1 d.2.1 d.2.2.1 d.2.2.2.2.1 d.2.2.2.2.2.1 d.2.2.2.2.2.2
  match d.1 with
  | some r=>pure (.done (some r,d.2.1,d.2.2.1,d.2.2.2.1,d.2.2.2.2.1))
  | none=>do
   a7X (d.2.2.2.2.1 + 1)
   pure (.yield (none,d.2.1,d.2.2.1,d.2.2.2.1,d.2.2.2.2.1 + 1))
theorem b1k (a b:Array Keyed):a3S a b=(do
  liftM (rule "list.sort.merge-hi")
  let z ← elem' a (a.size - 1)
  if (a.size - 1 == 0)=true then pure (a7s a b #[z] (a.size - 1) b.size)
  else if (b.size == 1)=true then pure (a4J a b #[z] (a.size - 1) b.size)
  else do
   let g ← get
   let c ← forIn [:a.size + b.size] ((none,a.size - 1,b.size,#[z],gallopOf g):HiO) λ_ c=>hiO a b c.2.1 c.2.2.1 c.2.2.2.1 c.2.2.2.2
   match c.1 with
   | some r=>pure r
   | none=>liftM (unsupported "internal:list.sort.merge-bound" : Sem (Array Keyed))):=by
 refine bindC rfl λu=>bindC rfl λz=>ite_congr rfl (λ_=>rfl) λ_=>ite_congr rfl (λ_=>rfl) λ_=>bindC rfl λg=>bindC (c5l λx c=>bindC rfl λd=>?_) λc=>?_
 ·obtain ⟨d1,d2⟩:=d;cases d1 with
  | some r=>rfl
  | none =>
   refine bindC rfl λv=>bindC rfl λd=>?_;obtain ⟨d1,d2⟩:=d;cases d1 with
   | some r=>rfl
   | none=>rfl
 ·obtain ⟨c1,c2⟩:=c;cases c1 with
  | some r=>rfl
  | none=>rfl
noncomputable abbrev MB (a b out:Array Keyed)(na nb:Nat):Prop:=MH a.toList b.toList out.toList na nb
theorem MB.swap {a b out:Array Keyed}{na nb:Nat}(h:MB a b out na nb):MB b a out nb na:=MH.swap h
theorem MB.addA {a b out:Array Keyed}{na nb p:Nat}(h:MB a b out na nb)(ra:E7 a.toList)(hp:p<=na)(hx:∀ i j,p<=i->i < na->j < nb->i < a.size -> j < b.size -> K b j<=K a i):MB a b (out ++ (a.extract p na).reverse) p nb:=by
 have:=MH.moreA (p:=p) h ra hp (λx hx' y hy=>by
  obtain ⟨n,hn,n1,n2,rfl⟩:=a4O hy;obtain ⟨m,hm,m1,rfl⟩:=a0J hx';rw [Y2,Y2];exact hx n m n1 .(25) m1 (by simpa using hn) (by simpa using hm))
 show MH _ _ _ _ _
 rw [Array.toList_append,Array.toList_reverse,Array.toList_extract,List.extract_eq_take_drop];exact this
theorem MB.addB {a b out:Array Keyed}{na nb p:Nat}(h:MB a b out na nb)(rb:E7 b.toList)(hp:p<=nb)(hx:∀ i j,p<=i->i < nb->j < na->i < b.size -> j < a.size -> K a j<=K b i):MB a b (out ++ (b.extract p nb).reverse) na p:=(h.swap.addA rb hp hx).swap
theorem b2H {a out:Array Keyed}{n:Nat}{z:Keyed}(h1:1<=n)(h:a[n - 1]? = some z):out.push z=out ++ (a.extract (n - 1) n).reverse:=by
 have e:=b6j (out:=#[]) h;rw [show n - 1 + 1=n by omega] at e;have e2:a.extract (n - 1) n = #[z]:=by
  rw [Array.empty_append] at e;exact e.symm
 rw [e2]
 rfl
theorem MB.pushA {a b out:Array Keyed}{na nb:Nat}{z:Keyed}(h:MB a b out na nb)(ra:E7 a.toList)(h1:1<=na)(hz:a[na - 1]? = some z)(hx:∀ j,j < nb->j < b.size -> K b j<=K a (na - 1)):MB a b (out.push z) (na - 1) nb:=by
 rw [b2H h1 hz];exact h.addA ra .(25) λi j g1 g2 g3 g4 g5=>by
  have:i=na - 1:=by omega
  rw [this];exact hx j g3 g5
theorem MB.pushB {a b out:Array Keyed}{na nb:Nat}{z:Keyed}(h:MB a b out na nb)(rb:E7 b.toList)(h1:1<=nb)(hz:b[nb - 1]? = some z)(hx:∀ j,j < na->j < a.size -> K a j<=K b (nb - 1)):MB a b (out.push z) na (nb - 1):=(h.swap.pushA rb h1 hz hx).swap
theorem W6 (a:Array Keyed)(i:Nat):(a.extract 0 i).toList=a.toList.take i:=by
 rw [Array.toList_extract,List.extract_eq_take_drop]
 simp
theorem MB.doneA {a b out:Array Keyed}{na nb:Nat}(T:Two a b)(h:MB a b out na nb)(e:na=0)(hi:nb<=b.size):F1 a b (a7s a b out na nb):=by
 subst e;unfold F1 a7s;rw [Array.toList_append,Array.toList_append,W6,W6,Array.toList_reverse,List.take_zero,List.nil_append];exact MH.restB h T.rb (by simpa using hi)
theorem MB.doneB {a b out:Array Keyed}{na nb:Nat}(T:Two a b)(h:MB a b out na nb)(e:nb=0)(hi:na<=a.size):F1 a b (a7s a b out na nb):=by
 subst e;unfold F1 a7s;rw [Array.toList_append,Array.toList_append,W6,W6,Array.toList_reverse,List.take_zero,List.append_nil];exact MH.restA h T.ra (by simpa using hi)
theorem MB.first {a b out:Array Keyed}{na nb:Nat}(T:Two a b)(h:MB a b out na nb)(e:nb=1)(hi:na<=a.size):F1 a b (a4J a b out na nb):=by
 unfold F1 a4J;rw [Array.toList_append,Array.toList_append,W6,W6,Array.toList_reverse];have hnb:=T.nb;refine MH.firstB h T.ra T.rb (by simpa using hi) (by simp;omega) λx hx y hy=>?_;obtain ⟨n,hn,n1,rfl⟩:=a0J hx;obtain ⟨m,hm,m1,rfl⟩:=a0J hy;rw [Y2,Y2];have:n=0:=by omega
 rw [this];exact Int.le_of_lt (T.first (by simpa using hm))
section
variable {prog:Program}{w:World}{A:Around}{E:Value->Shared->Prop}{s:Shared}[a5H prog w A s]
noncomputable def a8N (a b:Array Keyed)(n:Nat)(out:Array Keyed)(na nb:Nat):Prop:=MB a b out na nb/\1<=na/\na<=a.size /\ 2<=nb/\nb<=b.size /\ na + nb + n<=a.size + b.size
theorem a8N.le {a b:Array Keyed}{n m:Nat}{out:Array Keyed}{na nb:Nat}(h:a8N a b n out na nb)(hm:m<=n):a8N a b m out na nb:=⟨h.1,h.2.1,h.2.2.1,h.2.2.2.1,h.2.2.2.2.1,by have:=h.2.2.2.2.2;omega⟩
noncomputable def HkR (a b:Array Keyed)(n:Nat)(st₀:SortSt)(c:HiR)(st:SortSt):Prop:=N3 st₀ st/\((∃ r,c.1=some r/\F1 a b r) \/ (c.1=none/\a8N a b n c.2.2.2.1 c.2.1 c.2.2.1))
noncomputable def HkG (a b:Array Keyed)(n:Nat)(st₀:SortSt)(c:HiG)(st:SortSt):Prop:=N3 st₀ st/\((∃ r,c.1=some r/\F1 a b r) \/ (c.1=none/\a8N a b n c.2.2.2.1 c.2.1 c.2.2.1))
noncomputable def HkO (a b:Array Keyed)(n:Nat)(st₀:SortSt)(c:HiO)(st:SortSt):Prop:=N3 st₀ st/\((∃ r,c.1=some r/\F1 a b r) \/ (c.1=none/\a8N a b n c.2.2.2.1 c.2.1 c.2.2.1))
theorem c1g {st₀ st:SortSt}{a b out:Array Keyed}{mg na nb ac bc n:Nat}(T:Two a b)(hk:kindOf st₀=u9.κ)(hS:N3 st₀ st)(hL:a8N a b n out na nb) :
  wpS (model prog w) A E s (hiR a b mg out na nb ac bc) (λr st'=>match r with | .done c=>HkR a b (n + 1) st₀ c st' | .yield c=>c.1=none/\HkR a b (n + 1) st₀ c st') st:=by
 obtain ⟨hM,a1,a2,b1,b2,hn⟩:=hL;obtain ⟨p,ep,t,hp⟩:=G6 T.ib (show nb - 1 < b.size by omega);obtain ⟨q,eq,u,hq⟩:=G6 T.ia (show na - 1 < a.size by omega);unfold hiR;refine wpS_bind (u3 ep (wpS_bind (u3 eq (wpS_bind (a6C (hS.kind hk) hp hq ?_)))));dsimp only
 by_cases hlt:K b (nb - 1) < K a (na - 1)
 ·rw [if_pos (by simpa using hlt)];refine wpS_bind (u3 eq ?_);have M:MB a b (out.push q) (na - 1) nb:=hM.pushA T.ra a1 eq λj h1 h2=>Int.le_of_lt (Int.lt_of_le_of_lt (X9 T.rb (show j<=nb - 1 by omega) .(25)) hlt)
  by_cases e:na - 1=0
  ·rw [if_pos (by simpa using e)];exact wpS_pure ⟨hS,.inl ⟨_,rfl,M.doneA T e .(25)⟩⟩
  ·rw [if_neg (by simpa using e)];have R:HkR a b (n + 1) st₀ (none,na - 1,nb,out.push q,ac + 1,0) st:=⟨hS,.inr ⟨rfl,M,by dsimp only;omega,by dsimp only;omega,b1,b2,by dsimp only;omega⟩⟩
   by_cases g:ac + 1 ≥ mg
   ·rw [if_pos g];exact wpS_pure R
   ·rw [if_neg g];exact wpS_pure ⟨rfl,R⟩
 ·rw [if_neg (by simpa using hlt)];refine wpS_bind (u3 ep ?_);have M:MB a b (out.push p) na (nb - 1):=hM.pushB T.rb .(25) ep λj h1 h2=>Int.le_trans (X9 T.ra (show j<=na - 1 by omega) .(25)) (Int.not_lt.mp hlt)
  by_cases e:nb - 1=1
  ·rw [if_pos (by simpa using e)];exact wpS_pure ⟨hS,.inl ⟨_,rfl,M.first T e .(25)⟩⟩
  ·rw [if_neg (by simpa using e)];have R:HkR a b (n + 1) st₀ (none,na,nb - 1,out.push p,0,bc + 1) st:=⟨hS,.inr ⟨rfl,M,a1,a2,by dsimp only;omega,by dsimp only;omega,by dsimp only;omega⟩⟩
   by_cases g:bc + 1 ≥ mg
   ·rw [if_pos g];exact wpS_pure R
   ·rw [if_neg g];exact wpS_pure ⟨rfl,R⟩
noncomputable abbrev PH (a b:Array Keyed)(n:Nat)(st₀:SortSt)(r:ForInStep HiG)(st':SortSt):Prop:=match r with | .done c=>HkG a b n st₀ c st' | .yield c=>c.1=none/\HkG a b n st₀ c st'
theorem b0x {st₀ st:SortSt}{a b out:Array Keyed}{mg na nb ac bc n:Nat}(T:Two a b)(hS:N3 st₀ st)(hL:a8N a b n out na nb)(hx:∀ j,j < nb->j < b.size -> K b j<=K a (na - 1)) :
  wpS (model prog w) A E s (b4W a b out na nb mg ac bc) (PH a b n st₀) st:=by
 obtain ⟨hM,a1,a2,b1,b2,hn⟩:=hL;obtain ⟨q,eq,u,hq⟩:=G6 T.ia (show na - 1 < a.size by omega);unfold b4W;refine wpS_bind (u3 eq ?_);have M:MB a b (out.push q) (na - 1) nb:=hM.pushA T.ra a1 eq hx
 by_cases e:na - 1=0
 ·rw [if_pos (by simpa using e)];exact wpS_pure ⟨hS,.inl ⟨_,rfl,M.doneA T e .(25)⟩⟩
 ·rw [if_neg (by simpa using e)];have R:HkG a b n st₀ (none,na - 1,nb,out.push q,mg,ac,bc) st:=⟨hS,.inr ⟨rfl,M,by dsimp only;omega,by dsimp only;omega,b1,b2,by dsimp only;omega⟩⟩
  by_cases g:(decide (ac < 7) && decide (bc < 7))=true
  ·rw [if_pos g];exact wpS_pure R
  ·rw [if_neg g];exact wpS_pure ⟨rfl,R⟩
theorem b1x {st₀ st:SortSt}{a b out:Array Keyed}{mg na nb ac bc n:Nat}(T:Two a b)(hk:kindOf st₀=u9.κ)(hS:N3 st₀ st)(hL:a8N a b n out na nb)(hx:∀ j,j < na->j < a.size -> K a j<=K b (nb - 1)) :
  wpS (model prog w) A E s (b5W a b out na nb mg ac bc) (PH a b n st₀) st:=by
 obtain ⟨hM,a1,a2,b1,b2,hn⟩:=hL;obtain ⟨p,ep,t,hp⟩:=G6 T.ib (show nb - 1 < b.size by omega);obtain ⟨q,eq,u,hq⟩:=G6 T.ia (show na - 1 < a.size by omega);unfold b5W;refine wpS_bind (u3 ep ?_);have M:MB a b (out.push p) na (nb - 1):=hM.pushB T.rb .(25) ep hx
 by_cases e:nb - 1=1
 ·rw [if_pos (by simpa using e)];exact wpS_pure ⟨hS,.inl ⟨_,rfl,M.first T e .(25)⟩⟩
 ·rw [if_neg (by simpa using e)];refine wpS_bind (u3 eq (wpS_bind (Q8 (hS.kind hk) hq T.ib .(25) .(25) (λi j h1 h2=>X9 T.rb .(25) .(25)) λk hT=>?_)));obtain ⟨k1,k2,k3⟩:=a8z hT;simp only [Nat.zero_add] at k2 k3;dsimp only
  by_cases hk0:nb - 1 - k > 0
  ·rw [if_pos hk0];have M2:=M.addB (p:=k) T.rb .(25) λi j h1 h2 h3 h4 h5=>Int.le_trans (X9 T.ra (show j<=na - 1 by omega) .(25)) (k3 i h1 h2)
   by_cases e1:k=1
   ·rw [if_pos (by simpa using e1)];exact wpS_pure ⟨hS,.inl ⟨_,rfl,M2.first T e1 .(25)⟩⟩
   ·rw [if_neg (by simpa using e1)]
    by_cases e2:k=0
    ·rw [if_pos (by simpa using e2)];exact wpS_pure ⟨hS,.inl ⟨_,rfl,M2.doneB T e2 .(25)⟩⟩
    ·rw [if_neg (by simpa using e2)];exact b0x T hS ⟨M2,a1,a2,by omega,by omega,by omega⟩ λj h1 h2=>Int.le_of_lt (k2 j h1)
  ·rw [if_neg hk0];exact b0x T hS ⟨M,a1,a2,by omega,by omega,by omega⟩ λj h1 h2=>Int.le_of_lt (k2 j .(25))
theorem b2x {st₀ st:SortSt}{a b out:Array Keyed}{mg na nb ac bc n:Nat}(T:Two a b)(hk:kindOf st₀=u9.κ)(hS:N3 st₀ st)(hL:a8N a b n out na nb) :
  wpS (model prog w) A E s (b6W a b out na nb mg ac bc) (PH a b n st₀) st:=by
 obtain ⟨hM,a1,a2,b1,b2,hn⟩:=id hL;obtain ⟨p,ep,t,hp⟩:=G6 T.ib (show nb - 1 < b.size by omega);unfold b6W;refine wpS_bind (a4C hS λst' hS'=>wpS_bind (u3 ep (wpS_bind (Q8 (hS'.kind hk) hp T.ia .(25) .(25) (λi j h1 h2=>X9 T.ra .(25) .(25)) λk hT=>?_))));obtain ⟨k1,k2,k3⟩:=a0u hT;simp only [Nat.zero_add] at k2 k3;dsimp only
 by_cases hk0:na - k > 0
 ·rw [if_pos hk0];have M2:=hM.addA (p:=k) T.ra .(25) λi j h1 h2 h3 h4 h5=>Int.le_of_lt (Int.lt_of_le_of_lt (X9 T.rb (show j<=nb - 1 by omega) .(25)) (k3 i h1 h2))
  by_cases e:k=0
  ·rw [if_pos (by simpa using e)];exact wpS_pure ⟨hS',.inl ⟨_,rfl,M2.doneA T e .(25)⟩⟩
  ·rw [if_neg (by simpa using e)];exact b1x T hk hS' ⟨M2,by omega,by omega,b1,b2,by omega⟩ λj h1 h2=>k2 j h1
 ·rw [if_neg hk0];exact b1x T hk hS' hL λj h1 h2=>k2 j .(25)
theorem c3g {st₀ st:SortSt}{a b out:Array Keyed}{mg na nb ac bc n:Nat}(T:Two a b)(hk:kindOf st₀=u9.κ)(hS:N3 st₀ st)(hL:a8N a b n out na nb) :
  wpS (model prog w) A E s (hiG a b out na nb mg ac bc) (PH a b n st₀) st:=by
 unfold hiG
 by_cases h:mg > 1
 ·rw [if_pos h];exact b2x T hk hS hL
 ·rw [if_neg h];exact b2x T hk hS hL
theorem c2g {st₀ st:SortSt}{a b out:Array Keyed}{mg na nb n:Nat}(T:Two a b)(hk:kindOf st₀=u9.κ)(hS:N3 st₀ st)(hL:a8N a b n out na nb) :
  wpS (model prog w) A E s (hiO a b na nb out mg) (λr st'=>match r with | .done c=>HkO a b (n + 1) st₀ c st'/\c.1 ≠ none | .yield c=>c.1=none/\HkO a b (n + 1) st₀ c st') st:=by
 have hna:=T.na;unfold hiO;refine wpS_bind (wpS_mono (wpS_forRange (I:=λx c st'=>c.1=none/\HkR a b (n + x) st₀ c st') (Q:=λc st'=>HkR a b (n + 1) st₀ c st') ?_ ?_ ⟨rfl,hS,.inr ⟨rfl,hL⟩⟩) ?_)
 ·rintro x ⟨c0,i,j,o,ac,bc⟩ st' _ hx ⟨e,hS',z⟩
  rcases z with ⟨r,e',_⟩ | ⟨_,l⟩
  ·rw [e'] at e;cases e
  ·refine wpS_mono (c1g T hk hS' l) λr st2 hr=>?_;cases r with
   | done c=>exact ⟨hr.1,hr.2.imp id λ⟨q1,q2⟩=>⟨q1,q2.le .(25)⟩⟩
   | yield c=>exact hr
 ·rintro c st' ⟨e,hc⟩;exact ⟨hc.1,hc.2.imp id λ⟨q1,q2⟩=>⟨q1,q2.le .(25)⟩⟩
 ·rintro ⟨c0,i,j,o,ac,bc⟩ st' ⟨hS',z⟩
  rcases z with ⟨r,e,hr⟩ | ⟨e,l⟩
  ·dsimp only at e;subst e;exact wpS_pure ⟨⟨hS',.inl ⟨r,rfl,hr⟩⟩,by simp⟩
  ·dsimp only at e;subst e;dsimp only;refine wpS_bind (wpS_lift (wpAny_rule ⟨rfl,?_⟩));refine wpS_bind (wpS_mono (wpS_forRange (I:=λx c st'=>c.1=none/\HkG a b (n + 1) st₀ c st') (Q:=λc st'=>HkG a b (n + 1) st₀ c st') ?_ ?_ ⟨rfl,hS',.inr ⟨rfl,l⟩⟩) ?_)
   ·rintro x ⟨c0,i,j,o,mg,ac,bc⟩ st' _ hx ⟨e,hS',z⟩
    rcases z with ⟨r,e',_⟩ | ⟨_,l⟩
    ·rw [e'] at e;cases e
    ·refine wpS_mono (c3g T hk hS' l) λr st2 hr=>?_;cases r with
     | done c=>exact hr
     | yield c=>exact hr
   ·exact λc st' hc=>hc.2
   ·rintro ⟨c0,i,j,o,mg,ac,bc⟩ st' ⟨hS',z⟩
    rcases z with ⟨r,e,hr⟩ | ⟨e,l⟩
    ·dsimp only at e;subst e;exact wpS_pure ⟨⟨hS',.inl ⟨r,rfl,hr⟩⟩,by simp⟩
    ·dsimp only at e;subst e;dsimp only;exact wpS_bind (a4C hS' λst2 hS2=>wpS_pure ⟨rfl,hS2,.inr ⟨rfl,l⟩⟩)
theorem b7h {st:SortSt}{a b:Array Keyed}{Q:Array Keyed->SortSt->Prop}(T:Two a b)(hk:kindOf st=u9.κ)(h:∀ r st',N3 st st'->F1 a b r->Q r st'):wpS (model prog w) A E s (a3S a b) Q st:=by
 rw [b1k];have hna:=T.na;have hnb:=T.nb;obtain ⟨p,ep,t,hp⟩:=G6 T.ia (show a.size - 1 < a.size by omega);refine wpS_bind (wpS_lift (wpAny_rule ⟨rfl,wpS_bind (u3 ep ?_)⟩));have M0:MB a b #[] a.size b.size:=by
  have:=MH.nil (a:=a.toList) (b:=b.toList)
  simpa using this
 have M:MB a b #[p] (a.size - 1) b.size:=M0.pushA T.ra hna ep λj _ hj=>Int.le_of_lt (T.last hj)
 by_cases e1:a.size - 1=0
 ·rw [if_pos (by simpa using e1)];exact wpS_pure (h _ _ N3.rfl (M.doneA T e1 .(25)))
 ·rw [if_neg (by simpa using e1)]
  by_cases e2:b.size=1
  ·rw [if_pos (by simpa using e2)];exact wpS_pure (h _ _ N3.rfl (M.first T e2 .(25)))
  ·rw [if_neg (by simpa using e2)];refine wpS_bind (wpS_get ?_);refine wpS_bind (wpS_mono (wpS_forRange (I:=λx c st'=>c.1=none/\HkO a b (x + 1) st c st') (Q:=λc st'=>HkO a b 0 st c st'/\c.1 ≠ none) ?_ ?_ ⟨rfl,N3.rfl,.inr ⟨rfl,M,by dsimp only;omega,by dsimp only;omega,by dsimp only;omega,by dsimp only;omega,by dsimp only;omega⟩⟩) ?_)
   ·rintro x ⟨c0,i,j,o,mg⟩ st' _ hx ⟨e,hS',z⟩
    rcases z with ⟨r,e',_⟩ | ⟨_,l⟩
    ·rw [e'] at e;cases e
    ·refine wpS_mono (c2g T hk hS' l) λr st2 hr=>?_;cases r with
     | done c=>exact ⟨⟨hr.1.1,hr.1.2.imp id λ⟨q1,q2⟩=>⟨q1,q2.le .(25)⟩⟩,hr.2⟩
     | yield c=>exact hr
   ·rintro ⟨c0,i,j,o,mg⟩ st' ⟨e,hS',z⟩
    rcases z with ⟨r,e',_⟩ | ⟨_,l⟩
    ·rw [e'] at e;cases e
    ·obtain ⟨_,l1,l2,l3,l4,l5⟩:=l;dsimp only at l1 l2 l3 l4 l5
     exfalso;omega
   ·rintro ⟨c0,i,j,o,mg⟩ st' ⟨⟨hS',z⟩,hne⟩
    rcases z with ⟨r,e,hr⟩ | ⟨e,_⟩
    ·dsimp only at e;subst e;exact wpS_pure (h _ _ hS' hr)
    ·exact absurd e hne
end
variable [u9]
noncomputable def lay (at_:Nat)(l:List (Keyed × Nat))(xs:Array Keyed):Array Keyed:=l.foldl (λz (p,j)=>z.setIfInBounds (at_ + j) p) xs
theorem b0J (at_:Nat)(p:Keyed)(j:Nat)(l:List (Keyed × Nat))(xs:Array Keyed):lay at_ ((p,j) :: l) xs=lay at_ l (xs.setIfInBounds (at_ + j) p):=rfl
theorem b3e {at_:Nat}:∀ (l:List Keyed) (n:Nat) (xs:Array Keyed),at_ + n + l.length <= xs.size -> ∀ k,(lay at_ (l.zipIdx n) xs)[k]? = if at_ + n<=k/\k < at_ + n + l.length then l[k - (at_ + n)]? else xs[k]?
 | [],n,xs,h,k=>by
  rw [if_neg (by simp only [List.length_nil];omega)];rfl
 | p :: l,n,xs,h,k=>by
  rw [List.zipIdx_cons,b0J,b3e l (n + 1) _ (by rw [Array.size_setIfInBounds];simp only [List.length_cons] at h;omega) k];simp only [List.length_cons] at h ⊢
  by_cases h1:at_ + (n + 1)<=k/\k < at_ + (n + 1) + l.length
  ·rw [if_pos h1,if_pos .(25),show k - (at_ + n)=(k - (at_ + (n + 1))) + 1 by omega,List.getElem?_cons_succ]
  ·rw [if_neg h1]
   by_cases h2:at_ + n=k
   ·subst h2;rw [if_pos .(25),Nat.sub_self];rw [Array.getElem?_setIfInBounds_self_of_lt .(25)]
    rfl
   ·rw [if_neg .(25),Array.getElem?_setIfInBounds_ne h2]
theorem b9I {at_:Nat}{m xs:Array Keyed}(h:at_ + m.size <= xs.size):(lay at_ m.toList.zipIdx xs).toList=xs.toList.take at_ ++ m.toList ++ xs.toList.drop (at_ + m.size):=by
 apply List.ext_getElem?;intro k;rw [Array.getElem?_toList,b3e m.toList 0 xs (by simpa using h) k];simp only [Nat.add_zero,Array.length_toList];rw [List.append_assoc,List.getElem?_append,List.getElem?_append];have e1:(xs.toList.take at_).length=at_:=by simp;omega
 rw [e1]
 by_cases h1:k < at_
 ·rw [if_neg .(25),if_pos h1,List.getElem?_take_of_lt h1,Array.getElem?_toList]
 ·rw [if_neg h1];simp only [Array.length_toList]
  by_cases h2:k < at_ + m.size
  ·rw [if_pos ⟨by omega,h2⟩,if_pos .(25)]
  ·rw [if_neg .(25),if_neg .(25),List.getElem?_drop,Array.getElem?_toList]
   congr 1
   omega
noncomputable def Up (xs:Array Keyed)(i j:Nat):Prop:=∀ p q,i<=p->p<=q->q < j->K xs p<=K xs q
theorem b2b {xs:Array Keyed}{i j k:Nat}(hj:j<=xs.size)(hk:i + k < j):K (xs.extract i j) k=K xs (i + k):=by
 apply a1y;rw [Array.getElem?_extract];rw [if_pos .(25)]
theorem b5l {xs:Array Keyed}{i j:Nat}(hj:j<=xs.size)(h:Up xs i j):E7 (xs.extract i j).toList:=b7S λp q hpq hq=>by
 have hs:(xs.extract i j).size=j - i:=by rw [Array.size_extract];omega
 rw [hs] at hq;rw [b2b hj .(25),b2b hj .(25)];exact h _ _ .(25) .(25) .(25)
theorem b4x {xs:Array Keyed}{i j:Nat}(h:G9 xs):G9 (xs.extract i j):=λp hp=>h p (by
 rw [Array.toList_extract,List.extract_eq_take_drop] at hp;exact List.mem_of_mem_drop (List.mem_of_mem_take hp))
theorem c7f {xs m:Array Keyed}{sa sb e c d:Nat}(h1:sa<=c)(h2:c<=sb)(h3:sb<=d)(h4:d<=e)(h5:e<=xs.size)(ua:Up xs sa sb)(ub:Up xs sb e)
  (hlo:∀ i,sa<=i->i < c->K xs i<=K xs sb) (hhi:∀ i,d<=i->i < e->K xs (sb - 1)<=K xs i) (hc:c < sb) (hd:sb < d) (hM:F1 (xs.extract c sb) (xs.extract sb d) m) :
  (lay c m.toList.zipIdx xs).toList.Perm xs.toList /\ (∀ k,k < c \/ d<=k->K (lay c m.toList.zipIdx xs) k=K xs k)/\Up (lay c m.toList.zipIdx xs) sa e:=by
 have hm:m.size=d - c:=by
  have:=hM.1.length_eq
  simp at this
  omega
 have hfit:c + m.size <= xs.size:=by omega
 have hg:∀ k,(lay c m.toList.zipIdx xs)[k]? = if c<=k/\k < d then m[k - c]? else xs[k]?:=λk=>by
  rw [b3e m.toList 0 xs (by simpa using hfit) k];simp only [Nat.add_zero,Array.length_toList,hm,Array.getElem?_toList];rw [show c + (d - c)=d by omega]
 have kout:∀ k,k < c \/ d<=k->K (lay c m.toList.zipIdx xs) k=K xs k:=λk hk=>a1y (by rw [hg,if_neg .(25)]);have kin:∀ k,c<=k->k < d->K (lay c m.toList.zipIdx xs) k=K m (k - c):=λk a b=>a1y (by rw [hg,if_pos ⟨a,b⟩]);have mid:∀ k,k < m.size -> ∃ n,c<=n/\n < d/\K m k=K xs n:=λk hk=>by
  have hmem:m.toList[k]'(by simpa using hk)∈(xs.extract c sb).toList ++ (xs.extract sb d).toList:=hM.1.mem_iff.mp (List.getElem_mem _);have ek:=Y2 (a:=m) (n:=k) (by simpa using hk)
  rcases List.mem_append.mp hmem with z | z
  ·rw [Array.toList_extract,List.extract_eq_take_drop] at z;obtain ⟨n,hn,n1,n2,e⟩:=a4O z;refine ⟨n,n1,by omega,?_⟩;rw [← ek,← e,Y2]
  ·rw [Array.toList_extract,List.extract_eq_take_drop] at z;obtain ⟨n,hn,n1,n2,e⟩:=a4O z;refine ⟨n,by omega,by omega,?_⟩;rw [← ek,← e,Y2]
 refine ⟨?_,kout,?_⟩
 ·rw [b9I hfit,hm,show c + (d - c)=d by omega];have e1:xs.toList=xs.toList.take c ++ ((xs.extract c sb).toList ++ (xs.extract sb d).toList) ++ xs.toList.drop d:=by
   rw [Array.toList_extract,Array.toList_extract,List.extract_eq_take_drop,List.extract_eq_take_drop];have q1:=a2I (l:=xs.toList) h3;have q2:=a2I (l:=xs.toList) h2;have q3:=List.take_append_drop c xs.toList;rw [List.append_assoc,List.append_assoc,← q1,← q2,q3]
  have p:=(hM.1.append_left (xs.toList.take c)).append_right (xs.toList.drop d)
  rwa [← e1] at p
 ·intro p q hp hpq hq
  rcases Nat.lt_or_ge p c with p1 | p1
  ·rw [kout p (.inl p1)]
   rcases Nat.lt_or_ge q c with q1 | q1
   ·rw [kout q (.inl q1)];exact ua p q hp hpq .(25)
   ·have low:∀ n,c<=n->n < e->K xs p<=K xs n:=λn n1 n2=>by
     rcases Nat.lt_or_ge n sb with z | z
     ·exact ua p n hp .(25) z
     ·exact Int.le_trans (hlo p hp p1) (ub sb n .(25) z n2)
    rcases Nat.lt_or_ge q d with q2 | q2
    ·rw [kin q q1 q2];obtain ⟨n,n1,n2,e⟩:=mid (q - c) .(25);rw [e];exact low n n1 .(25)
    ·rw [kout q (.inr q2)];exact low q q1 hq
  ·rcases Nat.lt_or_ge p d with p2 | p2
   ·rw [kin p p1 p2]
    rcases Nat.lt_or_ge q d with q2 | q2
    ·rw [kin q .(25) q2];exact X9 hM.2 .(25) .(25)
    ·rw [kout q (.inr q2)];obtain ⟨n,n1,n2,e⟩:=mid (p - c) .(25);rw [e]
     rcases Nat.lt_or_ge n sb with z | z
     ·exact Int.le_trans (ua n (sb - 1) .(25) .(25) .(25)) (hhi q q2 hq)
     ·exact ub n q z .(25) hq
   ·rw [kout p (.inr p2),kout q (.inr .(25))];exact ub p q .(25) hpq hq
theorem b2k (i:Nat):mergeAt' i=(do
 let g ← get
 let (some (p,m,pw),some (q,n,_)):=((pendingOf g)[i]?,(pendingOf g)[i + 1]?) | unsupported "internal:list.sort.pending"
 set (setPending g (((pendingOf g).setIfInBounds i (p,m + n,pw)).eraseIdxIfInBounds (i + 1)))
 let some k ← Z2 false (← elem' (arrOf g) q) (arrOf g) p m 0 | return false
 let (p,m):=(p + k,m - k)
 if m == 0 then return true
 let some n ← Z2 true (← elem' (arrOf g) (p + m - 1)) (arrOf g) q n (n - 1) | return false
 if n == 0 then return true
 let x:=(arrOf g).extract p q
 let y:=(arrOf g).extract q (q + n)
 let r ← if m<=n then a2S x y else a3S x y
 modify λz=>setArr z (lay p r.toList.zipIdx (arrOf z))
 return (failedOf (← get)).isNone):=rfl
section
variable {prog:Program}{w:World}{A:Around}{E:Value->Shared->Prop}{s:Shared}[a5H prog w A s]
theorem b2O {st st':SortSt}{Q:PUnit->SortSt->Prop}(h:Q ⟨⟩ st'):wpS (model prog w) A E s (set st':StateT SortSt Sem PUnit) Q st:=by
 unfold wpS;rw [StateT.run_set];exact wpAny_pure ⟨rfl,h⟩
structure c5h (st st':SortSt)(p e:Nat):Prop where
 kind:kindOf st'=kindOf st
 failed:failedOf st'=failedOf st
 perm:(arrOf st').toList.Perm (arrOf st).toList
 out:∀ k,k < p \/ e<=k->K (arrOf st') k=K (arrOf st) k
 up:Up (arrOf st') p e
theorem b8h {st:SortSt}{i p m pw n pw2:Nat}{Q:Bool->SortSt->Prop}(hk:kindOf st=u9.κ)(hf:failedOf st=none)(hI:G9 (arrOf st))
  (hp:(pendingOf st)[i]? = some (p,m,pw)) (hq:(pendingOf st)[i + 1]? = some (p + m,n,pw2)) (m1:1<=m) (n1:1<=n) (he:p + m + n<=(arrOf st).size) (ua:Up (arrOf st) p (p + m)) (ub:Up (arrOf st) (p + m) (p + m + n))
  (h:∀ st',c5h st st' p (p + m + n)->pendingOf st'=((pendingOf st).setIfInBounds i (p,m + n,pw)).eraseIdxIfInBounds (i + 1)->Q true st'):wpS (model prog w) A E s (mergeAt' i) Q st:=by
 rw [b2k];refine wpS_bind (wpS_get ?_);rw [hp,hq];dsimp only;refine wpS_bind (b2O ?_);obtain ⟨b0,eb,tb,hb⟩:=G6 hI (show p + m < (arrOf st).size by omega);refine wpS_bind (u3 eb (wpS_bind (Q8 hk hb hI .(25) .(25) (λi j h1 h2=>ua _ _ .(25) .(25) .(25)) λk hT=>?_)));obtain ⟨k1,k2,k3⟩:=a0u hT;have hlo:∀ i,p<=i->i < p + k->K (arrOf st) i<=K (arrOf st) (p + m):=λi h1 h2=>by
  have:=k2 (i - p) .(25)
  rwa [show p + (i - p)=i by omega] at this
 dsimp only
 by_cases e0:m - k=0
 ·rw [if_pos (by simpa using e0)];refine wpS_pure (h _ ⟨rfl,rfl,List.Perm.refl _,λ_ _=>rfl,λx y hx hxy hy=>?_⟩ rfl)
  show K (arrOf st) x<=K (arrOf st) y
  rcases Nat.lt_or_ge y (p + m) with z | z
  ·exact ua x y hx hxy z
  ·rcases Nat.lt_or_ge x (p + m) with z2 | z2
   ·exact Int.le_trans (hlo x hx .(25)) (ub _ y .(25) z hy)
   ·exact ub x y z2 hxy hy
 ·rw [if_neg (by simpa using e0)];have hlast:p + k + (m - k) - 1=p + m - 1:=by omega
  obtain ⟨a1,ea,ta,ha⟩:=G6 hI (show p + k + (m - k) - 1 < (arrOf st).size by omega);refine wpS_bind (u3 ea (wpS_bind (Q8 hk ha hI .(25) .(25) (λi j h1 h2=>ub _ _ .(25) .(25) .(25)) λk' hT'=>?_)));obtain ⟨j1,j2,j3⟩:=a8z hT';rw [hlast] at j2 j3;have hhi:∀ i,p + m + k'<=i->i < p + m + n->K (arrOf st) (p + m - 1)<=K (arrOf st) i:=λi h1 h2=>by
   have:=j3 (i - (p + m)) .(25) .(25)
   rwa [show p + m + (i - (p + m))=i by omega] at this
  dsimp only
  by_cases e1:k'=0
  ·rw [if_pos (by simpa using e1)];refine wpS_pure (h _ ⟨rfl,rfl,List.Perm.refl _,λ_ _=>rfl,λx y hx hxy hy=>?_⟩ rfl)
   show K (arrOf st) x<=K (arrOf st) y
   rcases Nat.lt_or_ge y (p + m) with z | z
   ·exact ua x y hx hxy z
   ·rcases Nat.lt_or_ge x (p + m) with z2 | z2
    ·exact Int.le_trans (ua x (p + m - 1) hx .(25) .(25)) (hhi y .(25) hy)
    ·exact ub x y z2 hxy hy
  ·rw [if_neg (by simpa using e1)];have sx:((arrOf st).extract (p + k) (p + m)).size=m - k:=by rw [Array.size_extract];omega
   have sy:((arrOf st).extract (p + m) (p + m + k')).size=k':=by rw [Array.size_extract];omega
   have T:Two ((arrOf st).extract (p + k) (p + m)) ((arrOf st).extract (p + m) (p + m + k')):={
    ia:=b4x hI
    ib:=b4x hI
    ra:=b5l .(25) λx y h1 h2 h3=>ua x y .(25) h2 h3
    rb:=b5l .(25) λx y h1 h2 h3=>ub x y .(25) h2 .(25)
    na:=by rw [sx];omega
    nb:=by rw [sy];omega
    h0:=by
     rw [b2b .(25) .(25),b2b .(25) .(25)];have:=k3 k .(25) .(25)
     simpa using this
    hl:=by
     rw [sx,sy,b2b .(25) .(25),b2b .(25) .(25)];have:=j2 (k' - 1) .(25)
     rwa [show p + k + (m - k - 1)=p + m - 1 by omega] }
   have fin:∀ (r:Array Keyed) (st':SortSt),N3 (setPending st (((pendingOf st).setIfInBounds i (p,m + n,pw)).eraseIdxIfInBounds (i + 1))) st'->F1 ((arrOf st).extract (p + k) (p + m)) ((arrOf st).extract (p + m) (p + m + k')) r ->
     wpS (model prog w) A E s (do modify λz=>setArr z (lay (p + k) r.toList.zipIdx (arrOf z));return (failedOf (← get)).isNone) Q st':=λr st' hS hM=>by
    refine wpS_bind (wpS_modify (wpS_bind (wpS_get (wpS_pure ?_))));have hj:=c7f (sa:=p) (e:=p + m + n) .(25) .(25) .(25) .(25) he ua ub hlo hhi .(25) .(25) hM;have ef:failedOf st'=none:=hS.2.2.2.trans hf;have ex:arrOf st'=arrOf st:=hS.2.1;have:(failedOf (setArr st' (lay (p + k) r.toList.zipIdx (arrOf st')))).isNone=true:=by show (failedOf st').isNone=true;rw [ef];rfl
    rw [this];refine h _ ⟨hS.1,hS.2.2.2,?_,?_,?_⟩ hS.2.2.1
    ·show (lay (p + k) r.toList.zipIdx (arrOf st')).toList.Perm _
     rw [ex];exact hj.1
    ·intro x hx
     show K (lay (p + k) r.toList.zipIdx (arrOf st')) x=_
     rw [ex];exact hj.2.1 x .(25)
    ·show Up (lay (p + k) r.toList.zipIdx (arrOf st')) _ _
     rw [ex];exact hj.2.2
   by_cases hc:m - k<=k'
   ·rw [if_pos hc];exact wpS_bind (b6h T hk λr st' hS hM=>fin r st' hS hM)
   ·rw [if_neg hc];exact wpS_bind (b7h T hk λr st' hS hM=>fin r st' hS hM)
end
variable [u9]
noncomputable def b3Y (lo a nr:Nat):StateT SortSt Sem (Option (Option Nat) × Nat):=forIn [a:nr] ((none,a):Option (Option Nat) × Nat) λ_ c=>do
 let r ← ltAt' (lo + c.2) (lo + c.2 - 1)
 match r with
 | some t=>if t=true then pure (.done (none,c.2)) else pure (.yield (none,c.2 + 1))
 | _=>pure (.done (some none,c.2))
noncomputable def b4u (lo n nr:Nat):StateT SortSt Sem (Option Nat):=do
 reverseSlice' lo (lo + n)
 let c ← b3Y lo n nr
 match c.1 with
 | some r=>pure r
 | none=>pure (some c.2)
noncomputable def c7g (lo n nr:Nat):StateT SortSt Sem (Option (Option Nat) × Nat × Nat):=forIn [n:nr] ((none,n,0):Option (Option Nat) × Nat × Nat) λ_ c=>do
 let r ← ltAt' (lo + c.2.1) (lo + c.2.1 - 1)
 match r with
 | some t =>
  if t=true then
   if c.2.2 > 0 then do
    reverseSlice' (lo + c.2.1 - (c.2.2 + 1)) (lo + c.2.1)
    pure (.yield (none,c.2.1 + 1,0))
   else pure (.yield (none,c.2.1 + 1,0))
  else do
   let r ← ltAt' (lo + c.2.1 - 1) (lo + c.2.1)
   match r with
   | some g=>if g=true then pure (.done (none,c.2.1,c.2.2)) else pure (.yield (none,c.2.1 + 1,c.2.2 + 1))
   | _=>pure (.done (some none,c.2.1,c.2.2))
 | _=>pure (.done (some none,c.2.1,c.2.2))
noncomputable def b7v (lo n nr:Nat):StateT SortSt Sem (Option Nat):=do
 liftM (rule "list.sort.descending-run")
 let c ← c7g lo (n + 1) nr
 match c.1 with
 | some r=>pure r
 | none =>
  if c.2.2 > 0 then do
   reverseSlice' (lo + c.2.1 - (c.2.2 + 1)) (lo + c.2.1)
   b4u lo c.2.1 nr
  else b4u lo c.2.1 nr
theorem b4D (lo nr:Nat):countRun' lo nr=(do
  let c ← b3Y lo 1 nr
  match c.1 with
  | some r=>pure r
  | none =>
   if (c.2 == nr)=true then pure (some c.2)
   else if c.2 > 1 then do
    let r ← ltAt' lo (lo + c.2 - 1)
    match r with
    | some g=>if g=true then pure (some c.2) else do
      reverseSlice' lo (lo + c.2)
      b7v lo c.2 nr
    | _=>pure none
   else b7v lo c.2 nr):=by
 refine bindC rfl λc=>?_;obtain ⟨c1,n⟩:=c;cases c1 with
 | some r=>rfl
 | none =>
  refine ite_congr rfl (λ_=>rfl) λ_=>ite_congr rfl (λ_=>bindC rfl λr=>?_) λ_=>bindC rfl λ_=>bindC rfl λc=>?_
  ·cases r with
   | none=>rfl
   | some g =>
    refine ite_congr rfl (λ_=>rfl) λ_=>bindC rfl λ_=>bindC rfl λ_=>bindC rfl λc=>?_;obtain ⟨c1,n2,q⟩:=c;cases c1 with
    | some r=>rfl
    | none =>
     refine ite_congr rfl (λ_=>bindC rfl λ_=>bindC rfl λ_=>bindC rfl λc=>?_) λ_=>bindC rfl λ_=>bindC rfl λc=>?_
     all_goals (obtain ⟨c1,n3⟩:=c;cases c1 <;> rfl)
  ·obtain ⟨c1,n2,q⟩:=c;cases c1 with
   | some r=>rfl
   | none =>
    refine ite_congr rfl (λ_=>bindC rfl λ_=>bindC rfl λ_=>bindC rfl λc=>?_) λ_=>bindC rfl λ_=>bindC rfl λc=>?_
    all_goals (obtain ⟨c1,n3⟩:=c;cases c1 <;> rfl)
structure J5 (lo:Nat)(st st':SortSt):Prop where
 kind:kindOf st'=kindOf st
 failed:failedOf st'=failedOf st
 pend:pendingOf st'=pendingOf st
 perm:(arrOf st').Perm (arrOf st)
 out:∀ k,k < lo->K (arrOf st') k=K (arrOf st) k
theorem J5.rfl {lo:Nat}{st:SortSt}:J5 lo st st:=⟨_root_.rfl,_root_.rfl,_root_.rfl,Array.Perm.refl _,λ_ _=>_root_.rfl⟩
theorem J5.trans {lo:Nat}{a b c:SortSt}(h:J5 lo a b)(g:J5 lo b c):J5 lo a c:=⟨g.kind.trans h.kind,g.failed.trans h.failed,g.pend.trans h.pend,g.perm.trans h.perm,λk hk=>(g.out k hk).trans (h.out k hk)⟩
theorem J5.size {lo:Nat}{st st':SortSt}(h:J5 lo st st'):(arrOf st').size=(arrOf st).size:=h.perm.size_eq
theorem a6o {xs ys:Array Keyed}(hI:G9 xs)(h:ys.Perm xs):G9 ys:=λp hp=>hI p ((Array.perm_iff_toList_perm.mp h).mem_iff.mp hp)
theorem W1 {lo i j:Nat}{st:SortSt}(hi:lo<=i)(hj:j<=(arrOf st).size):J5 lo st (setArr st (mirror (arrOf st) i j ((j - i) / 2))) :=
 ⟨rfl,rfl,rfl,mirror_perm _ _ _ _,λk hk=>by show K (mirror (arrOf st) i j ((j - i) / 2)) k=_;rw [a4H hj,if_neg .(25)]⟩
noncomputable def Dn (xs:Array Keyed)(i j:Nat):Prop:=∀ p q,i<=p->p<=q->q < j->K xs q<=K xs p
theorem Up.more {xs:Array Keyed}{i j:Nat}(h:Up xs i j)(hj:i < j)(hx:K xs (j - 1)<=K xs j):Up xs i (j + 1):=λp q h1 h2 h3=>by
 rcases Nat.lt_or_ge q j with z | z
 ·exact h p q h1 h2 z
 ·have:q=j:=by omega
  subst this
  rcases Nat.lt_or_ge p q with z2 | z2
  ·exact Int.le_trans (h p (q - 1) h1 .(25) .(25)) hx
  ·have:p=q:=by omega
   rw [this];exact Int.le_refl _
theorem Dn.more {xs:Array Keyed}{i j:Nat}(h:Dn xs i j)(hj:i < j)(hx:K xs j<=K xs (j - 1)):Dn xs i (j + 1):=λp q h1 h2 h3=>by
 rcases Nat.lt_or_ge q j with z | z
 ·exact h p q h1 h2 z
 ·have:q=j:=by omega
  subst this
  rcases Nat.lt_or_ge p q with z2 | z2
  ·exact Int.le_trans hx (h p (q - 1) h1 .(25) .(25))
  ·have:p=q:=by omega
   rw [this];exact Int.le_refl _
theorem Up.one (xs:Array Keyed)(i:Nat):Up xs i (i + 1):=λp q h1 h2 h3=>by
 have:p=q:=by omega
 rw [this];exact Int.le_refl _
section
variable {prog:Program}{w:World}{A:Around}{E:Value->Shared->Prop}{s:Shared}[a5H prog w A s]
theorem a5C {st:SortSt}{i j:Nat}{Q:Option Bool->SortSt->Prop}(hk:kindOf st=u9.κ)(hI:G9 (arrOf st))(hi:i < (arrOf st).size)(hj:j < (arrOf st).size)(h:Q (some (decide (K (arrOf st) i < K (arrOf st) j))) st) :
  wpS (model prog w) A E s (ltAt' i j) Q st:=by
 obtain ⟨p,t1,e1,h1⟩:=b6g hI hi;obtain ⟨q,t2,e2,h2⟩:=b6g hI hj;rw [ltAt'_eq];refine wpS_bind (wpS_get ?_)
 show wpS _ _ _ _ (elem' (arrOf st) i >>= λx=>elem' (arrOf st) j >>= λy=>lt' x y) Q st
 exact wpS_bind (u3 e1 (wpS_bind (u3 e2 (a6C hk h1 h2 h))))
theorem b4y {st:SortSt}{lo a nr:Nat}{Q:Option (Option Nat) × Nat->SortSt->Prop}(hk:kindOf st=u9.κ)(hI:G9 (arrOf st))(h1:1<=a)(h2:a<=nr)(h3:lo + nr<=(arrOf st).size)(hu:Up (arrOf st) lo (lo + a))
  (h:∀ n,a<=n->n<=nr->Up (arrOf st) lo (lo + n)->(n=nr \/ K (arrOf st) (lo + n) < K (arrOf st) (lo + n - 1))->Q (none,n) st):wpS (model prog w) A E s (b3Y lo a nr) Q st:=by
 unfold b3Y;refine wpS_forRange (I:=λx c z=>z=st/\c=(none,x)/\Up (arrOf st) lo (lo + x)) ?_ ?_ ⟨rfl,rfl,hu⟩
 ·rintro x c z hx1 hx2 ⟨rfl,rfl,u⟩;dsimp only;refine wpS_bind (a5C hk hI .(25) .(25) ?_)
  by_cases hl:K (arrOf z) (lo + x) < K (arrOf z) (lo + x - 1)
  ·rw [decide_eq_true hl];exact wpS_pure (h x hx1 .(25) u (.inr hl))
  ·rw [decide_eq_false hl];exact wpS_pure ⟨rfl,rfl,u.more .(25) (Int.not_lt.mp hl)⟩
 ·rintro c z ⟨rfl,rfl,u⟩;rw [show max a nr=nr by omega] at u ⊢;exact h nr h2 (Nat.le_refl _) u (.inl rfl)
theorem b3i {st₀ st:SortSt}{lo n nr:Nat}{Q:Option Nat->SortSt->Prop}(hk:kindOf st₀=u9.κ)(hI:G9 (arrOf st₀))(hm:J5 lo st₀ st)(h1:1<=n)(h2:n<=nr)(h3:lo + nr<=(arrOf st₀).size)(hd:Dn (arrOf st) lo (lo + n))
  (h:∀ m st',J5 lo st₀ st'->1<=m->m<=nr->Up (arrOf st') lo (lo + m)->Q (some m) st'):wpS (model prog w) A E s (b4u lo n nr) Q st:=by
 have hsz:=hm.size;unfold b4u;refine wpS_bind (wpS_reverse ?_);have hm2:=hm.trans (W1 (lo:=lo) (i:=lo) (j:=lo + n) (Nat.le_refl _) .(25));have hsz2:=hm2.size;refine wpS_bind (b4y (hm2.kind.trans hk) (a6o hI hm2.perm) h1 h2 .(25) (λp q g1 g2 g3=>?_) λm m1 m2 m3 m4=>wpS_pure (h m _ hm2 .(25) m2 m3))
 show K (mirror (arrOf st) lo (lo + n) _) p<=K (mirror (arrOf st) lo (lo + n) _) q
 rw [a4H .(25),a4H .(25),if_pos .(25),if_pos .(25)];exact hd _ _ .(25) .(25) .(25)
theorem M6 {xs:Array Keyed}{i j k:Nat}(hj:j<=xs.size)(h:∀ p,i<=p->p < j->K xs p=K xs (j - 1)):K (mirror xs i j ((j - i) / 2)) k=K xs k:=a7U hj h k
theorem b0X {st₀ st:SortSt}{lo n nr:Nat}{Q:Option (Option Nat) × Nat × Nat->SortSt->Prop}(hk:kindOf st₀=u9.κ)(hI:G9 (arrOf st₀))(hm:J5 lo st₀ st)(h1:1<=n)(h2:n<=nr)(h3:lo + nr<=(arrOf st₀).size)(hd:Dn (arrOf st) lo (lo + n))
  (h:∀ m e st',J5 lo st₀ st'->n<=m->m<=nr->Dn (arrOf st') lo (lo + m)->e + 1<=m->(∀ i,lo + m - (e + 1)<=i->i < lo + m->K (arrOf st') i=K (arrOf st') (lo + m - 1))->Q (none,m,e) st'):wpS (model prog w) A E s (c7g lo n nr) Q st:=by
 unfold c7g;refine wpS_forRange (I:=λx c z=>∃ e,c=(none,x,e)/\J5 lo st₀ z/\Dn (arrOf z) lo (lo + x)/\e + 1<=x/\(∀ i,lo + x - (e + 1)<=i->i < lo + x->K (arrOf z) i=K (arrOf z) (lo + x - 1))) ?_ ?_ ⟨0,rfl,hm,hd,by omega,λi g1 g2=>by congr 1;omega⟩
 ·rintro x c z hx1 hx2 ⟨e,rfl,hm,hd,he,ha⟩;have hsz:=hm.size;have hk':=hm.kind.trans hk;have hI':=a6o hI hm.perm;dsimp only;refine wpS_bind (a5C hk' hI' .(25) .(25) ?_)
  by_cases hl:K (arrOf z) (lo + x) < K (arrOf z) (lo + x - 1)
  ·rw [decide_eq_true hl];dsimp only;rw [if_pos rfl]
   by_cases h0:e > 0
   ·rw [if_pos h0];refine wpS_bind (wpS_reverse (wpS_pure ⟨0,rfl,hm.trans (W1 .(25) .(25)),?_,by omega,λi g1 g2=>by congr 1;omega⟩));intro p q g1 g2 g3
    show K (mirror (arrOf z) _ _ _) q<=K (mirror (arrOf z) _ _ _) p
    rw [M6 .(25) ha,M6 .(25) ha];exact (hd.more .(25) (Int.le_of_lt hl)) p q g1 g2 .(25)
   ·rw [if_neg h0];exact wpS_pure ⟨0,rfl,hm,hd.more .(25) (Int.le_of_lt hl),by omega,λi g1 g2=>by congr 1;omega⟩
  ·rw [decide_eq_false hl];dsimp only;rw [if_neg Bool.false_ne_true];refine wpS_bind (a5C hk' hI' .(25) .(25) ?_)
   by_cases hg:K (arrOf z) (lo + x - 1) < K (arrOf z) (lo + x)
   ·rw [decide_eq_true hg];exact wpS_pure (h x e z hm hx1 .(25) hd he ha)
   ·rw [decide_eq_false hg];have eq:K (arrOf z) (lo + x)=K (arrOf z) (lo + x - 1):=by omega
    refine wpS_pure ⟨e + 1,rfl,hm,hd.more .(25) .(25),by omega,λi g1 g2=>?_⟩;rw [show lo + (x + 1) - 1=lo + x by omega]
    rcases Nat.lt_or_ge i (lo + x) with z1 | z1
    ·rw [eq];exact ha i .(25) z1
    ·have:i=lo + x:=by omega
     rw [this]
 ·rintro c z ⟨e,rfl,hm,hd,he,ha⟩;rw [show max n nr=nr by omega] at hd he ha ⊢;exact h nr e z hm h2 (Nat.le_refl _) hd he ha
theorem b9j {st₀ st:SortSt}{lo n nr:Nat}{Q:Option Nat->SortSt->Prop}(hk:kindOf st₀=u9.κ)(hI:G9 (arrOf st₀))(hm:J5 lo st₀ st)(h2:n + 1<=nr)(h3:lo + nr<=(arrOf st₀).size)(hd:Dn (arrOf st) lo (lo + (n + 1)))
  (h:∀ m st',J5 lo st₀ st'->1<=m->m<=nr->Up (arrOf st') lo (lo + m)->Q (some m) st'):wpS (model prog w) A E s (b7v lo n nr) Q st:=by
 unfold b7v;refine wpS_bind (wpS_lift (wpAny_rule ⟨rfl,?_⟩));refine wpS_bind (b0X hk hI hm .(25) h2 h3 hd λm e z hm hx1 hx2 hd he ha=>?_);have hsz:=hm.size;dsimp only
 by_cases h0:e > 0
 ·rw [if_pos h0];refine wpS_bind (wpS_reverse (b3i hk hI (hm.trans (W1 .(25) .(25))) .(25) hx2 h3 ?_ h));intro p q g1 g2 g3
  show K (mirror (arrOf z) _ _ _) q<=K (mirror (arrOf z) _ _ _) p
  rw [M6 .(25) ha,M6 .(25) ha];exact hd p q g1 g2 g3
 ·rw [if_neg h0];exact b3i hk hI hm .(25) hx2 h3 hd h
theorem b1o {st:SortSt}{lo nr:Nat}{Q:Option Nat->SortSt->Prop}(hk:kindOf st=u9.κ)(hI:G9 (arrOf st))(h1:1<=nr)(h3:lo + nr<=(arrOf st).size)
  (h:∀ m st',J5 lo st st'->1<=m->m<=nr->Up (arrOf st') lo (lo + m)->Q (some m) st'):wpS (model prog w) A E s (countRun' lo nr) Q st:=by
 rw [b4D];refine wpS_bind (b4y hk hI (Nat.le_refl 1) h1 h3 (Up.one _ _) λn n1 n2 hu ho=>?_);dsimp only
 by_cases e:n=nr
 ·rw [if_pos (by simpa using e)];exact wpS_pure (h n st J5.rfl n1 n2 hu)
 ·rw [if_neg (by simpa using e)];have hl:=ho.resolve_left e
  by_cases g:n > 1
  ·rw [if_pos g];refine wpS_bind (a5C hk hI .(25) .(25) ?_)
   by_cases hr:K (arrOf st) lo < K (arrOf st) (lo + n - 1)
   ·rw [decide_eq_true hr];exact wpS_pure (h n st J5.rfl n1 n2 hu)
   ·rw [decide_eq_false hr];dsimp only;rw [if_neg Bool.false_ne_true];have ha:∀ p,lo<=p->p < lo + n->K (arrOf st) p=K (arrOf st) (lo + n - 1):=λp p1 p2=>by
     have a1:=hu lo p .(25) p1 p2;have a2:=hu p (lo + n - 1) p1 .(25) .(25)
     omega
    refine wpS_bind (wpS_reverse (b9j hk hI (W1 (Nat.le_refl _) .(25)) .(25) h3 ?_ h));intro p q g1 g2 g3
    show K (mirror (arrOf st) _ _ _) q<=K (mirror (arrOf st) _ _ _) p
    rw [M6 .(25) ha,M6 .(25) ha];have d0:Dn (arrOf st) lo (lo + n):=λp q g1 g2 g3=>by rw [ha p g1 .(25),ha q .(25) g3];exact Int.le_refl _
    exact (d0.more .(25) (Int.le_of_lt hl)) p q g1 g2 .(25)
  ·rw [if_neg g];have:n=1:=by omega
   subst this;refine b9j hk hI J5.rfl .(25) h3 ?_ h;have d0:Dn (arrOf st) lo (lo + 1):=λp q g1 g2 g3=>by
    have:p=q:=by omega
    rw [this];exact Int.le_refl _
   exact d0.more .(25) (Int.le_of_lt hl)
theorem b0E {st:SortSt}{lo n ok:Nat}{Q:Bool->SortSt->Prop}(hk:kindOf st=u9.κ)(hI:G9 (arrOf st))(h1:1<=ok)(h2:ok<=n)(h3:lo + n<=(arrOf st).size)(hu:Up (arrOf st) lo (lo + ok))
  (h:∀ st',J5 lo st st'->Up (arrOf st') lo (lo + n)->Q true st'):wpS (model prog w) A E s (binarySort' lo n ok) Q st:=by
 rw [binarySort'_eq];refine wpS_bind (wpS_mono (wpS_forRange (I:=λx c z=>c=(none,())/\J5 lo st z/\Up (arrOf z) lo (lo + x)) (Q:=λc z=>c=(none,())/\J5 lo st z/\Up (arrOf z) lo (lo + n)) ?_ ?_ ⟨rfl,J5.rfl,by rw [show max ok 1=ok by omega];exact hu⟩) ?_)
 ·rintro x c z hx1 hx2 ⟨rfl,hm,u⟩;have hsz:=hm.size;have hk':=hm.kind.trans hk;have hI':=a6o hI hm.perm;refine wpS_bind (wpS_mono (wpS_forRange (I:=λy c z'=>z'=z/\∃ l r,c=(none,l,r)/\l<=r/\r<=x/\r - l<=x - y/\(∀ i,lo<=i->i < lo + l->K (arrOf z) i<=K (arrOf z) (lo + x))/\(∀ i,lo + r<=i->i < lo + x->K (arrOf z) (lo + x) < K (arrOf z) i))
   (Q:=λc z'=>z'=z/\∃ l r,c=(none,l,r)/\l<=x/\(∀ i,lo<=i->i < lo + l->K (arrOf z) i<=K (arrOf z) (lo + x))/\(∀ i,lo + l<=i->i < lo + x->K (arrOf z) (lo + x) < K (arrOf z) i)) ?_ ?_ ⟨rfl,0,x,rfl,by omega,by omega,by omega,λi _ _=>by omega,λi _ _=>by omega⟩) ?_)
  ·rintro y c z' _ hy ⟨rfl,l,r,rfl,i1,i2,i3,i4,i5⟩;dsimp only
   by_cases hlr:l ≥ r
   ·rw [if_pos hlr];have:l=r:=by omega
    subst this;exact wpS_pure ⟨rfl,l,l,rfl,i2,i4,i5⟩
   ·rw [if_neg hlr];refine wpS_bind (a5C hk' hI' .(25) .(25) ?_)
    by_cases hl:K (arrOf z') (lo + x) < K (arrOf z') (lo + (l + r) / 2)
    ·rw [decide_eq_true hl];exact wpS_pure ⟨rfl,l,(l + r) / 2,rfl,by omega,by omega,by omega,i4,λi g1 g2=>Int.lt_of_lt_of_le hl (u _ i .(25) g1 g2)⟩
    ·rw [decide_eq_false hl];exact wpS_pure ⟨rfl,(l + r) / 2 + 1,r,rfl,by omega,by omega,by omega,λi g1 g2=>Int.le_trans (u i (lo + (l + r) / 2) g1 .(25) .(25)) (Int.not_lt.mp hl),i5⟩
  ·rintro c z' ⟨rfl,l,r,rfl,i1,i2,i3,i4,i5⟩;have:l=r:=by omega
   subst this;exact ⟨rfl,l,l,rfl,i2,i4,i5⟩
  ·rintro c z' ⟨rfl,l,r,rfl,i2,i4,i5⟩
   show wpS _ _ _ _ (do moveDown' (lo + x) (lo + l);pure (ForInStep.yield (none,()))) _ _
   rw [moveDown'_eq];have hx:lo + x < (arrOf z').size:=by omega
   have kb:∀ k,K (bubble (arrOf z') (lo + x) (lo + x - (lo + l))) k=if k=lo + l then K (arrOf z') (lo + x) else if lo + l < k/\k<=lo + x then K (arrOf z') (k - 1) else K (arrOf z') k:=λk=>by
    rw [b4N hx .(25),show lo + x - (lo + x - (lo + l))=lo + l by omega]
   refine wpS_bind (wpS_modify (wpS_pure ⟨rfl,hm.trans ⟨rfl,rfl,rfl,bubble_perm _ _ _,λk hk=>?_⟩,λp q g1 g2 g3=>?_⟩))
   ·show K (bubble _ _ _) k=_
    rw [kb,if_neg .(25),if_neg .(25)]
   ·show K (bubble _ _ _) p<=K (bubble _ _ _) q
    rw [kb,kb]
    repeat' split
    all_goals first
     | (exfalso;omega)
     | exact Int.le_refl _
     | exact i4 _ .(25) .(25)
     | exact Int.le_of_lt (i5 _ .(25) .(25))
     | exact u _ _ .(25) .(25) .(25)
 ·rintro c z ⟨rfl,hm,u⟩;rw [show max (max ok 1) n=n by omega] at u;exact ⟨rfl,hm,u⟩
 ·rintro c z ⟨rfl,hm,u⟩;exact wpS_pure (h z hm u)
end
variable [u9]
noncomputable def Q5 (xs:Array Keyed):Nat->List (Nat × Nat × Nat)->Nat->Prop
 | s,[],e=>s=e
 | s,c :: l,e=>c.1=s/\1<=c.2.1 /\ Up xs s (s + c.2.1)/\Q5 xs (s + c.2.1) l e
theorem Q5.le {xs:Array Keyed}:∀ {l:List (Nat × Nat × Nat)} {s e:Nat},Q5 xs s l e->s + l.length <= e
 | [],s,e,h=>by have:s=e:=h;simp [this]
 | c :: l,s,e,h=>by
  have:=Q5.le h.2.2.2;have h1:=h.2.1;rw [List.length_cons]
  omega
theorem Up.congr {xs ys:Array Keyed}{i j:Nat}(h:∀ k,i<=k->k < j->K ys k=K xs k)(u:Up xs i j):Up ys i j:=λp q h1 h2 h3=>by
 rw [h p h1 .(25),h q .(25) h3];exact u p q h1 h2 h3
theorem Q5.congr {xs ys:Array Keyed}:∀ {l:List (Nat × Nat × Nat)} {s e:Nat},(∀ k,s<=k->k < e->K ys k=K xs k)->Q5 xs s l e->Q5 ys s l e
 | [],s,e,_,r=>r
 | c :: l,s,e,h,r=>by
  have:=Q5.le r.2.2.2;exact ⟨r.1,r.2.1,r.2.2.1.congr λk h1 h2=>h k h1 .(25),Q5.congr (λk h1 h2=>h k .(25) h2) r.2.2.2⟩
theorem Q5.push {xs:Array Keyed}{n q:Nat}:∀ {l:List (Nat × Nat × Nat)} {s e:Nat},Q5 xs s l e->1<=n->Up xs e (e + n)->Q5 xs s (l ++ [(e,n,q)]) (e + n)
 | [],s,e,r,h,u=>by
  have:s=e:=r;subst this;exact ⟨rfl,h,u,rfl⟩
 | c :: l,s,e,r,h,u=>⟨r.1,r.2.1,r.2.2.1,Q5.push r.2.2.2 h u⟩
theorem Q5.mod {xs:Array Keyed}(f:Nat × Nat × Nat->Nat × Nat × Nat)(hf:∀ c,(f c).1=c.1 /\ (f c).2.1=c.2.1):∀ {l:List (Nat × Nat × Nat)} {i s e:Nat},Q5 xs s l e->Q5 xs s (l.modify i f) e
 | [],i,s,e,r=>by cases i <;> exact r
 | c :: l,0,s,e,r=>by
  show (f c).1=s/\1<=(f c).2.1 /\ Up xs s (s + (f c).2.1)/\Q5 xs (s + (f c).2.1) l e
  rw [(hf c).1,(hf c).2];exact r
 | c :: l,i + 1,s,e,r=>⟨r.1,r.2.1,r.2.2.1,Q5.mod f hf r.2.2.2⟩
theorem Q5.two {xs:Array Keyed}:∀ {l:List (Nat × Nat × Nat)} {i s e:Nat},Q5 xs s l e->i + 1 < l.length ->
  ∃ p m pw n pw2,l[i]? = some (p,m,pw)/\l[i + 1]? = some (p + m,n,pw2)/\1<=m/\1<=n/\s<=p/\p + m + n<=e/\Up xs p (p + m)/\Up xs (p + m) (p + m + n) /\
   ∀ ys,(∀ k,k < p \/ p + m + n<=k->K ys k=K xs k)->Up ys p (p + m + n)->Q5 ys s ((l.set i (p,m + n,pw)).eraseIdx (i + 1)) e
 | [],i,s,e,r,h=>by simp at h
 | [c],0,s,e,r,h=>by simp at h
 | (p,m,pw) :: (q,n,pw2) :: l,0,s,e,r,h=>by
  obtain ⟨h1,h2,h3,h4,h5,h6,h7⟩:=r;dsimp only at h1 h2 h3 h4 h5 h6 h7;subst h1;have:=Q5.le h7;refine ⟨p,m,pw,n,pw2,rfl,by rw [← h4];rfl,h2,h5,Nat.le_refl _,by omega,h3,h6,λys hy hu=>?_⟩
  show p=p/\1<=m + n/\Up ys p (p + (m + n))/\Q5 ys (p + (m + n)) l e
  rw [← Nat.add_assoc];exact ⟨rfl,by omega,hu,h7.congr λk a b=>hy k (.inr a)⟩
 | c :: l,i + 1,s,e,r,h=>by
  obtain ⟨p,m,pw,n,pw2,g1,g2,g3,g4,g5,g6,g7,g8,g9⟩:=Q5.two (i:=i) r.2.2.2 (by simpa using h);refine ⟨p,m,pw,n,pw2,by simpa using g1,by simpa using g2,g3,g4,by omega,g6,g7,g8,λys hy hu=>?_⟩;exact ⟨r.1,r.2.1,r.2.2.1.congr λk a b=>hy k (.inl .(25)),g9 ys hy hu⟩
section
variable {prog:Program}{w:World}{A:Around}{E:Value->Shared->Prop}{s:Shared}[a5H prog w A s]
structure a2H (a₀:Array Keyed)(lo:Nat)(st:SortSt):Prop where
 kind:kindOf st=u9.κ
 failed:failedOf st=none
 perm:(arrOf st).Perm a₀
 runs:Q5 (arrOf st) 0 (pendingOf st).toList lo
theorem a2H.merge {a₀:Array Keyed}{lo i:Nat}{st:SortSt}{Q:Bool->SortSt->Prop}(hI:G9 a₀)(h:a2H a₀ lo st)(hlo:lo<=a₀.size)(hi:i + 1 < (pendingOf st).size)
  (hq:∀ st',a2H a₀ lo st'->(pendingOf st').size + 1=(pendingOf st).size -> (∀ k,lo<=k->K (arrOf st') k=K (arrOf st) k)->Q true st'):wpS (model prog w) A E s (mergeAt' i) Q st:=by
 obtain ⟨p,m,pw,n,pw2,g1,g2,g3,g4,g5,g6,g7,g8,g9⟩:=h.runs.two (i:=i) (by simpa using hi);have hsz:=h.perm.size_eq;refine b8h h.kind h.failed (a6o hI h.perm) (by simpa using g1) (by simpa using g2) g3 g4 .(25) g7 g8 λst' hJ hp=>hq st' ⟨hJ.kind.trans h.kind,hJ.failed.trans h.failed,?_,?_⟩ ?_ λk hk=>hJ.out k (.inr .(25))
 ·exact (Array.perm_iff_toList_perm.mpr hJ.perm).trans h.perm
 ·rw [hp];have e:(((pendingOf st).setIfInBounds i (p,m + n,pw)).eraseIdxIfInBounds (i + 1)).toList=((pendingOf st).toList.set i (p,m + n,pw)).eraseIdx (i + 1):=by simp
  rw [e];exact g9 _ hJ.out hJ.up
 ·have e:(((pendingOf st).setIfInBounds i (p,m + n,pw)).eraseIdxIfInBounds (i + 1)).toList=((pendingOf st).toList.set i (p,m + n,pw)).eraseIdx (i + 1):=by simp
  rw [hp,← Array.length_toList,e,List.length_eraseIdx,List.length_set,if_pos (by simpa using hi),Array.length_toList]
  omega
theorem wpS_sortAll {st:SortSt}{a₀:Array Keyed}{Q:Unit->SortSt->Prop}(hI:G9 a₀)(hp:(arrOf st).Perm a₀)(hk:kindOf st=u9.κ)(hf:failedOf st=none)(hpe:pendingOf st = #[])
  (h:∀ st',(arrOf st').Perm a₀->failedOf st'=none->SortedTo (arrOf st') a₀.size -> Q () st'):wpS (model prog w) A E s sortRuns' Q st:=by
 rw [sortRuns'_eq];refine wpS_bind (wpS_get ?_);dsimp only;have hsz:=hp.size_eq;rw [hsz];generalize minRun' a₀.size a₀.size 0=mr;refine wpS_bind (wpS_mono (wpS_forRange (I:=λx c z=>∃ lo,c=(none,lo)/\x<=lo/\lo<=a₀.size /\ a2H a₀ lo z) (Q:=λc z=>c.1=none/\a2H a₀ a₀.size z) ?_ ?_ ⟨0,rfl,Nat.le_refl _,Nat.zero_le _,hk,hf,hp,by rw [hpe];rfl⟩) ?_)
 ·rintro x c z _ hx ⟨lo,rfl,i1,i2,i3⟩;dsimp only
  by_cases hlo:lo ≥ a₀.size
  ·rw [if_pos hlo];have:lo=a₀.size:=by omega
   subst this;exact wpS_pure ⟨rfl,i3⟩
  ·rw [if_neg hlo];have hz:=i3.perm.size_eq;refine wpS_bind (b1o i3.kind (a6o hI i3.perm) .(25) .(25) λm z1 hm m1 m2 mu=>?_);dsimp only;have keep:∀ z2:SortSt,J5 lo z z2->a2H a₀ lo z2:=λz2 hm=>⟨hm.kind.trans i3.kind,hm.failed.trans i3.failed,hm.perm.trans i3.perm,by rw [hm.pend];exact i3.runs.congr λk _ hk=>hm.out k hk⟩;have fin:∀ (n:Nat) (z2:SortSt),1<=n->lo + n<=a₀.size -> a2H a₀ lo z2->Up (arrOf z2) lo (lo + n)->wpS (model prog w) A E s (do
      modify λy=>setPending y ((pendingOf y).push (lo,n,0))
      (pure (ForInStep.yield ((none,lo + n):Option Unit × Nat)):StateT SortSt Sem (ForInStep (Option Unit × Nat)))) (λr st'=>match r with | .done c'=>c'.1=none/\a2H a₀ a₀.size st' | .yield c'=>∃ lo,c'=(none,lo)/\x + 1<=lo/\lo<=a₀.size /\ a2H a₀ lo st') z2:=λn z2 n1 n2 hi hu=>by
    refine wpS_bind (wpS_modify (wpS_pure ⟨lo + n,rfl,by omega,n2,hi.kind,hi.failed,hi.perm,?_⟩))
    show Q5 (arrOf z2) 0 ((pendingOf z2).push (lo,n,0)).toList (lo + n)
    rw [Array.toList_push];exact hi.runs.push n1 hu
   have back:∀ (n:Nat) (z2:SortSt),1<=n->lo + n<=a₀.size -> a2H a₀ lo z2->Up (arrOf z2) lo (lo + n)->∀ (pw:Nat) (f:Nat->Option Unit × Unit->StateT SortSt Sem (ForInStep (Option Unit × Unit))),
     (∀ y c,f y c=do
      let g ← get
      match (if (pendingOf g).size > 1 then (pendingOf g)[(pendingOf g).size - 2]? else none) with
      | some (_,_,older)=>if older<=pw then pure (.done (none,())) else do
        let r ← mergeAt' ((pendingOf g).size - 2)
        if (!r)=true then pure (.done (some (),())) else pure (.yield (none,()))
      | _=>pure (.done (none,()))) ->
     wpS (model prog w) A E s (forIn [:a₀.size] (none,()) f) (λc z3=>c=(none,())/\a2H a₀ lo z3/\Up (arrOf z3) lo (lo + n)) z2:=λn z2 n1 n2 hi hu pw f hf=>by
    refine wpS_forRange (I:=λ_ c z3=>c=(none,())/\a2H a₀ lo z3/\Up (arrOf z3) lo (lo + n)) ?_ (λc z3 hc=>hc) ⟨rfl,hi,hu⟩;rintro y c z3 _ hy ⟨rfl,hi,hu⟩;rw [hf];refine wpS_bind (wpS_get ?_)
    by_cases h1:(pendingOf z3).size > 1
    ·rw [if_pos h1];have e:(pendingOf z3)[(pendingOf z3).size - 2]? = some (pendingOf z3)[(pendingOf z3).size - 2]:=getElem?_pos _ _ .(25);rw [e];dsimp only
     by_cases ho:(pendingOf z3)[(pendingOf z3).size - 2].2.2 <= pw
     ·rw [if_pos ho];exact wpS_pure ⟨rfl,hi,hu⟩
     ·rw [if_neg ho];refine wpS_bind (hi.merge hI i2 .(25) λz4 hi4 _ hk4=>?_);exact wpS_pure ⟨rfl,hi4,hu.congr λk a b=>hk4 k a⟩
    ·rw [if_neg h1];exact wpS_pure ⟨rfl,hi,hu⟩
   by_cases hn:m < mr
   ·rw [if_pos hn];refine wpS_bind (wpS_lift (wpAny_rule ⟨rfl,?_⟩));have hz1:=hm.size;refine wpS_bind (b0E (hm.kind.trans i3.kind) (a6o hI (hm.perm.trans i3.perm)) m1 .(25) .(25) mu λz2 hm2 mu2=>?_);simp only [Bool.not_true,Bool.false_eq_true,if_false];refine wpS_bind (wpS_get ?_);have hi2:=keep z2 (hm.trans hm2);cases eb:(pendingOf z2).back? with
    | none=>exact fin _ z2 .(25) .(25) hi2 mu2
    | some t =>
     obtain ⟨s1,n1,t1⟩:=t;dsimp only;refine wpS_bind (wpS_mono (back _ z2 .(25) .(25) hi2 mu2 _ _ (λy c=>rfl)) ?_);rintro c z3 ⟨rfl,hi3,mu3⟩;dsimp only;refine wpS_bind (wpS_modify ?_);refine fin _ _ .(25) .(25) ⟨hi3.kind,hi3.failed,hi3.perm,?_⟩ mu3
     show Q5 (arrOf z3) 0 ((pendingOf z3).modify _ _).toList lo
     rw [Array.toList_modify];refine hi3.runs.mod _ ?_;exact λc=>⟨rfl,rfl⟩
   ·rw [if_neg hn];refine wpS_bind (wpS_get ?_);have hi2:=keep z1 hm;cases eb:(pendingOf z1).back? with
    | none=>exact fin _ z1 .(25) .(25) hi2 mu
    | some t =>
     obtain ⟨s1,n1,t1⟩:=t;dsimp only;refine wpS_bind (wpS_mono (back _ z1 .(25) .(25) hi2 mu _ _ (λy c=>rfl)) ?_);rintro c z3 ⟨rfl,hi3,mu3⟩;dsimp only;refine wpS_bind (wpS_modify ?_);refine fin _ _ .(25) .(25) ⟨hi3.kind,hi3.failed,hi3.perm,?_⟩ mu3
     show Q5 (arrOf z3) 0 ((pendingOf z3).modify _ _).toList lo
     rw [Array.toList_modify];refine hi3.runs.mod _ ?_;exact λc=>⟨rfl,rfl⟩
 ·rintro c z ⟨lo,rfl,i1,i2,i3⟩;have:lo=a₀.size:=by omega
  subst this;exact ⟨rfl,i3⟩
 ·rintro ⟨c1,c2⟩ z ⟨e,hi⟩;dsimp only at e;subst e;dsimp only;have hle:=hi.runs.le;simp only [Array.length_toList,Nat.zero_add] at hle;refine wpS_bind (wpS_mono (wpS_forRange (I:=λx c z=>c=(none,())/\a2H a₀ a₀.size z/\(pendingOf z).size + x<=a₀.size) (Q:=λc z=>c=(none,())/\a2H a₀ a₀.size z/\(pendingOf z).size <= 1) ?_ ?_ ⟨rfl,hi,hle⟩) ?_)
  ·rintro x c z _ hx ⟨rfl,hi,hs⟩;refine wpS_bind (wpS_get ?_)
   by_cases h1:(pendingOf z).size <= 1
   ·rw [if_pos h1];exact wpS_pure ⟨rfl,hi,h1⟩
   ·rw [if_neg h1];refine wpS_bind (hi.merge hI (Nat.le_refl _) ?_ λz4 hi4 hs4 _=>wpS_pure ⟨rfl,hi4,by omega⟩)
    repeat' split
    all_goals omega
  ·rintro c z ⟨rfl,hi,hs⟩;exact ⟨rfl,hi,by omega⟩
  ·rintro c z ⟨rfl,hi,hs⟩;refine wpS_pure (h z hi.perm hi.failed ?_);have hr:=hi.runs
   match e:(pendingOf z).toList,hr with
   | [],hr =>
    have:0=a₀.size:=hr;intro i j _ hj
    omega
   | [c],hr =>
    obtain ⟨h1,h2,h3,h4⟩:=hr;have h4':0 + c.2.1=a₀.size:=h4;rw [h4'] at h3;exact λi j hij hj=>h3 i j (Nat.zero_le _) hij hj
   | c :: d :: l,hr =>
    have:(pendingOf z).toList.length=(c :: d :: l).length:=by rw [e]
    simp at this
    omega
end
end MwSortR
namespace MwSort
open PySem PyProof.Rows
section
variable {prog:Program}{w:World}{A:Around}{E:Value->Shared->Prop}{s:Shared}
noncomputable def a3T:MwSortR.u9:=⟨numOf,oneType',λv=>∃ n t,v = .int n t⟩
theorem b2W:@MwSortR.a5H a3T prog w A s:=by
 letI:=a3T
 refine ⟨λx y Q E hx hy q=>?_⟩;obtain ⟨n,t,rfl⟩:=hx;obtain ⟨m,u,rfl⟩:=hy
 show wpAny _ _ (keyLt' oneType' (.int n t) (.int m u)) Q E s
 rw [keyLt'_oneType];exact oneLt_int q
theorem wpS_sortAll {st:SortSt}{a₀:Array Keyed}{Q:Unit->SortSt->Prop}(hI:IntKeys a₀)(hp:(arrOf st).Perm a₀)(hk:kindOf st=oneType')(hf:failedOf st=none)(hpe:pendingOf st = #[])
  (h:∀ st',(arrOf st').Perm a₀->failedOf st'=none->SortedTo (arrOf st') a₀.size -> Q () st'):wpS (model prog w) A E s sortRuns' Q st:=by
 letI:=a3T
 haveI:MwSortR.a5H prog w A s:=b2W
 exact MwSortR.wpS_sortAll (λp hp=>hI p hp) hp hk hf hpe h
theorem a7M {h:Heap}{a:Addr}{vs:List Value}{out:Array Value}{b:Addr}{o:Obj}(hb:b≠a)(e:h.get? b=some o):(sortedHeap h a vs out).get? b=some o:=by
 unfold sortedHeap;rw [Heap.get?_update_other _ _ hb.symm];refine Heap.get?_push_of_some _ (Heap.get?_push_of_some _ ?_);rw [Heap.get?_update_other _ _ hb.symm];exact e
theorem a0V {h:Heap} {a:Addr} {vs xs:List Value} {n:Nat} {out:Array Value} (e:h.get? a=some (seqObj "list" xs.toArray n)):∃ c,(sortedHeap h a vs out).get? a=some (seqObj "list" out c):=by
 have hlt:a < h.objs.size:=Heap.lt_size e;have e1:=get?_update_seq e λ_=>#[];have e2:=Heap.get?_push_of_some (seqObj "list" #[] 0) (Heap.get?_push_of_some (seqObj "tuple" vs.toArray 0) e1);exact ⟨_,get?_update_seq e2 λ_=>out⟩
theorem a0W {a:Addr} {vs:List Value} {ns:List Int} {n:Nat} {P:Fin->Shared->Prop} (ho:s.heap.get? a=some (seqObj "list" vs.toArray n)) (hI:IntsAre vs ns) (hz:vs.length <= sizeLine)
  (h:∀ (out:Array Value) (ms:List Int),IntsAre out.toList ms->ms.Perm ns->ms.Pairwise (·<=·)->P (.done (.ret .none)) { s with heap:=sortedHeap s.heap a vs out }):wpAny (model prog w) A (Builtin.«list.sort» ⟨[.ref a],[]⟩) P E s:=by
 rw [list_sort_plain];have ha:a < s.heap.objs.size:=Heap.lt_size ho;have hzA:vs.toArray.size <= sizeLine:=by rw [List.size_toArray];exact hz
 refine wpAny_bind (listItems_at ho rfl (wpAny_bind (listUpdate_at ho rfl ?_ (hsz:=hzA) (hsz2:=Nat.zero_le _))));obtain ⟨c1,g1⟩:∃ c,(s.heap.update a (Obj.mapSeq λ_=>#[])).get? a=some (seqObj "list" #[] c):=⟨_,get?_update_seq ho λ_=>#[]⟩;refine wpAny_bind (seqEpoch_at g1 rfl (wpAny_bind (wpAny_newTuple (wpAny_bind (wpAny_newList (wpAny_holding ?_))))));have g2:=Heap.get?_push_of_some (seqObj "list" #[] 0) (Heap.get?_push_of_some (seqObj "tuple" vs.toArray 0) g1)
 show wpAny (model prog w) A _ P E { s with heap:=((s.heap.update a (Obj.mapSeq λ_=>#[])).push (seqObj "tuple" vs.toArray 0)).push (seqObj "list" #[] 0) }
 dsimp only;have hl:vs.toArray.size=vs.length:=by simp
 have fin:∀ z:SortSt,(arrOf z).Perm (pairsOf vs)->SortedTo (arrOf z) (pairsOf vs).size -> P (.done (.ret .none)) { s with heap:=sortedHeap s.heap a vs ((arrOf z).map (·.2)) }:=λz p q=>by
  obtain ⟨ms,i1,i2,i3⟩:=sorted_out hI p q;exact h _ ms i1 i2 i3
 by_cases few:vs.toArray.size < 2
 ·rw [if_pos few,if_pos few];refine wpAny_bind (wpAny_pure ?_);rw [StateT.run_pure];refine wpAny_bind (wpAny_pure ?_);dsimp only;refine wpAny_bind (seqEpoch_at g2 rfl (wpAny_bind (listUpdate_at g2 rfl ?_ (hsz:=Nat.zero_le _) (hsz2:=?_))))
  ·simp only [bne_self_eq_false,Bool.false_eq_true,if_false];refine wpAny_pure (fin (SortSt.mk' general' (vs.toArray.zip vs.toArray) #[] 7 none) (Array.Perm.refl _) λi j hij hj=>?_);rw [pairsOf_size] at hj;have:i=j:=by omega
   rw [this];exact Int.le_refl _
  ·rw [Array.size_map]
   show (pairsOf vs).size <= _
   rw [pairsOf_size];omega
 ·rw [if_neg few,if_neg few];obtain ⟨x,y,r,rfl⟩:∃ x y r,vs=x :: y :: r:=by
   rcases vs with _ | ⟨x,_ | ⟨y,r⟩⟩
   ·exact absurd .(26) few
   ·exact absurd .(26) few
   ·exact ⟨x,y,r,rfl⟩
  rw [keyKind_ints hI];refine wpAny_bind (wpAny_pure ?_);refine wpAny_bind (wpAny_mono (wpS_sortAll (a₀:=pairsOf (x :: y :: r)) (st:=SortSt.mk' oneType' ((x :: y :: r).toArray.zip (x :: y :: r).toArray) #[] 7 none) (Q:=λ_ z=>(arrOf z).Perm (pairsOf (x :: y :: r))/\failedOf z=none/\SortedTo (arrOf z) (pairsOf (x :: y :: r)).size)
   hI.intKeys (Array.Perm.refl _) rfl rfl rfl λz b1 b2 b3=>⟨b1,b2,b3⟩) ?_ λ_ _ e=>e)
  rintro ⟨⟨⟩,z⟩ s' ⟨rfl,p,f,q⟩;dsimp only;refine wpAny_bind (seqEpoch_at g2 rfl (wpAny_bind (listUpdate_at g2 rfl ?_ (hsz:=Nat.zero_le _) (hsz2:=?_))))
  ·rw [f];simp only [bne_self_eq_false,Bool.false_eq_true,if_false];exact wpAny_pure (fin z p q)
  ·have:=(Array.size_map (f:=(·.2)) (xs:=arrOf z)).trans (p.size_eq.trans (pairsOf_size _));rw [this];omega
theorem b6p {v:Value}{ns:List Int}{Q:Value->Shared->Prop}
  (hc:∀ R:List Value->Shared->Prop,(∀ (vs:List Value) (h₁:Heap) (t:Nat) (dr:Drawn) (ks:List Int),IntsAre vs ks->ks.Perm ns->vs.length <= sizeLine->(∀ b o,s.heap.get? b=some o->h₁.get? b=some o)->R vs { s with heap:=h₁,toks:=t,drawn:=dr })->wpAny (model prog w) A.in1 (collect v) R E s)
  (h:∀ (h₁ h':Heap) (t:Nat) (dr:Drawn) (D:Addr) (c:Nat) (out:List Value) (ms:List Int),(∀ b o,s.heap.get? b=some o->h₁.get? b=some o)->(∀ b o,h₁.get? b=some o->h'.get? b=some o)->h₁.objs.size <= D->h'.get? D=some (seqObj "list" out.toArray c)->IntsAre out ms->ms.Perm ns->ms.Pairwise (·<=·)->Q (.ref D) { s with heap:=h',toks:=t,drawn:=dr }) :
  wpAny (model prog w) A (call (.builtin "sorted") [v]) Q E s:=by
 refine Calls.call_function_entry kind_sorted plain_sorted entry_sorted (args_sorted1 _) ?_;unfold Builtin.«sorted»;refine wpAny_bind (m:=checkCount "sorted" 1 1 _) (wpAny_pure (wpAny_bind (hc _ λvs h₁ t dr ks hI hP hz hk=>wpAny_bind (wpAny_newList ?_))));have g:(h₁.push (seqObj "list" vs.toArray 0)).get? h₁.objs.size=some (seqObj "list" vs.toArray 0):=Heap.get?_push_size _ rfl
 show wpAny _ _ _ _ _ { s with heap:=h₁.push (seqObj "list" vs.toArray 0),toks:=t,drawn:=dr }
 refine wpAny_bind (wpAny_holding (wpAny_call_entry slot_list_sort ⟨_,g,rfl⟩ entry_list_sort (a0W g hI hz λout ms i1 i2 i3=>⟨_,rfl,?_⟩) (args_list_sort _)));obtain ⟨c,gc⟩:=a0V (vs:=vs) (out:=out) g;exact wpAny_pure ⟨_,rfl,h h₁ _ t dr _ c out.toList ms hk (λb o e=>a7M (Nat.ne_of_lt (Heap.lt_size e)) (Heap.get?_push_of_some _ e)) (Nat.le_refl _) (by simpa using gc) i1 (i2.trans hP) i3⟩
theorem a3Q {p:Addr} {T:String} {o:Obj} {vs:List Value} {n:Nat} {ns:List Int} {Q:Value->Shared->Prop} (hT:T = "list" \/ T = "tuple") (ho:s.heap.get? p=some o) (hc:o.cls = .type T) (hd:o.data = .seq vs.toArray n) (hI:IntsAre vs ns) (hz:vs.length <= sizeLine)
  (h:∀ (h₁ h':Heap) (t:Nat) (dr:Drawn) (D:Addr) (c:Nat) (out:List Value) (ms:List Int),(∀ b o,s.heap.get? b=some o->h₁.get? b=some o)->(∀ b o,h₁.get? b=some o->h'.get? b=some o)->h₁.objs.size <= D->h'.get? D=some (seqObj "list" out.toArray c)->IntsAre out ms->ms.Perm ns->ms.Pairwise (·<=·)->Q (.ref D) { s with heap:=h',toks:=t,drawn:=dr }) :
  wpAny (model prog w) A (call (.builtin "sorted") [.ref p]) Q E s :=
 b6p (ns:=ns) (λR k=>wpAny_collect_seq p hT ho hc hd (λg e=>k _ g s.toks s.drawn ns (by simpa using hI) (List.Perm.refl _) (by simpa using hz) e) (by simpa using hz)) h
end
end MwSort
namespace MwSet
open PySem PySem.Spec PyProof.Rows
end MwSet
namespace L2
open PySem PySem.Spec PyProof.Rows
noncomputable def B4 (ns:List Int):List Int:=ns.mergeSort λa b=>decide (a<=b)
theorem X2 (ns:List Int):(B4 ns).Perm ns:=List.mergeSort_perm _ _
theorem a7p (ns:List Int):(B4 ns).Pairwise (·<=·):=by
 have:=List.pairwise_mergeSort (le:=λa b:Int=>decide (a<=b)) (λa b c h1 h2=>by simp at h1 h2 ⊢;omega) (λa b=>by simp;omega) ns;exact this.imp λ{a b} h=>by simpa using h
theorem R1 (ns:List Int):(B4 ns).length=ns.length:=(X2 ns).length_eq
theorem b9S {a b:List Int}(hp:a.Perm b)(ha:a.Pairwise (·<=·))(hb:b.Pairwise (·<=·)):a=b:=PySem.W.ksm_same hp ha hb
theorem b0G {ms ns:List Int}(hp:ms.Perm ns)(hs:ms.Pairwise (·<=·)):ms=B4 ns:=b9S (hp.trans (X2 ns).symm) hs (a7p ns)
theorem a5Y {ns:List Int}{x:Int}:x∈B4 ns↔x∈ns:=(X2 ns).mem_iff
theorem a5U:∀ {ns:List Int} {us:List Value},o8 (ns.map V.int) us->IntsAre us ns
 | [],_,.nil=>.nil
 | n :: ns,_,.cons r t=>by
  obtain ⟨tk,rfl⟩:=r;exact .cons n tk (a5U t)
theorem a5Z:∀ {us:List Value} {ns:List Int},IntsAre us ns->o8 (ns.map V.int) us
 | _,_,.nil=>.nil
 | _,_,.cons n t h=>.cons ⟨t,rfl⟩ (a5Z h)
section
variable {X:Cx}{pins:List (Addr × Obj)}{σ:St}{H:Hp}{s:Shared}
theorem Inv.drew {d:Drawn}(I:Inv X pins σ H s):Inv X pins σ H { s with drawn:=d }:=⟨I.ok,I.os,I.bare,I.base,I.loc,I.cell,I.free,I.freeC,I.pin,I.hok,I.len⟩
theorem Inv.sorted {ns:List Int}{Q:VK}(I:Inv X pins σ H s)(hz:ns.length <= sizeLine)(q:∀ l,H l=none->Q (.ref l) (upd H l (.lst ((B4 ns).map V.int)))) :
  ∀ (h₁ h':Heap) (t:Nat) (dr:Drawn) (D:Addr) (c:Nat) (out:List Value) (ms:List Int),(∀ b o,s.heap.get? b=some o->h₁.get? b=some o)->(∀ b o,h₁.get? b=some o->h'.get? b=some o)->h₁.objs.size <= D->h'.get? D=some (seqObj "list" out.toArray c)->IntsAre out ms->ms.Perm ns->ms.Pairwise (·<=·) ->
   EP X pins σ Q (.ref D) { s with heap:=h',toks:=t,drawn:=dr }:=by
 intro h₁ h' t dr D c out ms k1 k2 hD hg hI hp hs;have e:=b0G hp hs;subst e;have I1:Inv X pins σ H { s with heap:=h₁,toks:=t,drawn:=dr }:=(I.kept (t':=t) k1).drew;refine ⟨.ref D,_,I1.laid (t':=t) (o:=.lst ((B4 ns).map V.int)) k2 hD ⟨?_,out,c,a5Z hI,hg⟩,rfl,q D (I1.hok.fresh hD)⟩;rw [List.length_map,R1];exact hz
end
theorem b4a:bootBuiltins "sorted" = some (.builtin "sorted"):=by decide +kernel
section
variable {X:Cx}
noncomputable def b3T:List V->Hp->VK->Prop:=λxs H Q=>∃ (p:Addr) (ns:List Int),xs=[.ref p]/\(H p=some (.tup (ns.map V.int)) \/ H p=some (.lst (ns.map V.int)))/\∀ l,H l=none->Q (.ref l) (upd H l (.lst ((B4 ns).map V.int)))
theorem a5M:B6 X (.builtin "sorted") b3T:=by
 intro pins s σ H xs us Q I r h;obtain ⟨p,ns,rfl,hp,q⟩:=h;obtain ⟨u,rfl,e⟩:=a9t r;obtain rfl:u=Value.ref p:=e
 rcases hp with hp | hp
 ·obtain ⟨z,its,rv,o,ho,hc,n,hd⟩:=(show E5 X.prog X.w H s.heap p (.tup (ns.map V.int)) from I.hok p _ hp);have hl:=rv.length;rw [List.length_map] at z hl;exact MwSort.a3Q (.inr rfl) ho hc hd (a5U rv) .(25) (I.sorted z q)
 ·obtain ⟨z,its,n,rv,hg⟩:=(show E5 X.prog X.w H s.heap p (.lst (ns.map V.int)) from I.hok p _ hp);have hl:=rv.length;rw [List.length_map] at z hl;exact MwSort.a3Q (.inl rfl) hg rfl rfl (a5U rv) .(25) (I.sorted z q)
end
section
variable {κ:Type}[DecidableEq κ]
noncomputable def b9O (kvs:List (κ × V))(k:κ):Option V:=(kvs.find? λkv=>decide (kv.1=k)).map (·.2)
noncomputable def b8T (kvs:List (κ × V))(k:κ)(v:V):List (κ × V) :=
 if (kvs.any λkv=>decide (kv.1=k))=true then kvs.map (λkv=>if kv.1=k then (kv.1,v) else kv) else kvs ++ [(k,v)]
theorem KV.length {kvs:List (κ × V)}{vs:List (κ × Value)}(r:KV kvs vs):kvs.length=vs.length:=Paired.length r
end
noncomputable def b8Y (H:Hp)(a:Addr)(y:V)(r:Option V):Prop :=
 (∃ kvs k,Rd H a (.dK kvs)/\y=kV k/\r=b9O kvs k) \/ ∃ kvs k b,Rd H a (.dT kvs)/\y = .ref b/\H b=some (.tup (k.map kV))/\r=b9O kvs k
noncomputable def b7Y (H:Hp)(a:Addr)(y v:V)(H':Hp):Prop :=
 (∃ kvs k,H a=some (.dK kvs)/\y=kV k/\kvs.length < sizeLine/\H'=upd H a (.dK (b8T kvs k v))) \/
 ∃ kvs k b,H a=some (.dT kvs)/\y = .ref b/\H b=some (.tup (k.map kV))/\kvs.length < sizeLine/\H'=upd H a (.dT (b8T kvs k v))
theorem b8Y.k {H:Hp}{a:Addr}{kvs:List (Key × V)}{k:Key}(e:H a=some (.dK kvs)):b8Y H a (kV k) (b9O kvs k):=.inl ⟨kvs,k,.inl e,rfl,rfl⟩
theorem b8Y.t {H:Hp}{a b:Addr}{kvs:List (List Key × V)}{k:List Key}(e:H a=some (.dT kvs))(eb:H b=some (.tup (k.map kV))):b8Y H a (.ref b) (b9O kvs k):=.inr ⟨kvs,k,b,.inl e,rfl,eb,rfl⟩
theorem b7Y.k {H:Hp}{a:Addr}{kvs:List (Key × V)}{k:Key}{v:V}(e:H a=some (.dK kvs))(hl:kvs.length < sizeLine):b7Y H a (kV k) v (upd H a (.dK (b8T kvs k v))):=.inl ⟨kvs,k,e,rfl,hl,rfl⟩
theorem b7Y.t {H:Hp}{a b:Addr}{kvs:List (List Key × V)}{k:List Key}{v:V}(e:H a=some (.dT kvs))(eb:H b=some (.tup (k.map kV)))(hl:kvs.length < sizeLine) :
  b7Y H a (.ref b) v (upd H a (.dT (b8T kvs k v))):=.inr ⟨kvs,k,b,e,rfl,eb,hl,rfl⟩
end L2
namespace Att
open PySem PySem.W PySem.Calls PyProof.Rows
end Att
namespace L2
open PySem PySem.Spec PyProof.Rows
end L2
namespace L2
open PySem PySem.Spec PyProof.Rows MwSet
noncomputable def G5 (n:Nat)(a b:Int):Int:=a * ((n:Int) - 1) / b
noncomputable def a4p (a b:Int):Prop:=0<=a/\a<=b/\1<=b/\b<=1000000
theorem a2r {n:Nat}{a b:Int}(h:a4p a b)(hn:1<=n):0<=G5 n a b/\G5 n a b < n:=by
 obtain ⟨h1,h2,h3,_⟩:=h;unfold G5;have m0:0<=a * ((n:Int) - 1):=Int.mul_nonneg h1 .(25);refine ⟨Int.ediv_nonneg m0 .(25),Int.ediv_lt_of_lt_mul .(25) ?_⟩;have:a * ((n:Int) - 1)<=b * ((n:Int) - 1):=Int.mul_le_mul_of_nonneg_right h2 .(25);have e:(n:Int) * b=b * ((n:Int) - 1) + b:=by rw [Int.mul_sub,Int.mul_one,Int.mul_comm];omega
 omega
noncomputable def M7 (ns:List Int)(a b:Int):Option Int:=(B4 ns)[(G5 ns.length a b).toNat]?
theorem a0L (a b:Int):M7 [] a b=none:=by unfold M7;rw [show B4 []=[] from List.length_eq_zero_iff.mp (by rw [R1];rfl)];rfl
theorem a4r {ns:List Int}{a b:Int}(h:a4p a b)(hn:ns≠[]):∃ h':(G5 ns.length a b).toNat < (B4 ns).length,M7 ns a b=some (B4 ns)[(G5 ns.length a b).toNat]:=by
 have hl:1<=ns.length:=by
  cases ns with
  | nil=>exact absurd rfl hn
  | cons x l=>simp
 have:=a2r h hl;have h':(G5 ns.length a b).toNat < (B4 ns).length:=by rw [R1];omega
 exact ⟨h',List.getElem?_eq_getElem h'⟩
theorem a1L {ns:List Int}{a b x:Int}(h:M7 ns a b=some x):x∈ns:=a5Y.mp (List.mem_of_getElem? h)
theorem a8Q {S:List Int}(hS:S.Pairwise (·<=·)){i:Nat}(hi:i < S.length)(v:Int):S[i]<=v↔i < S.countP λx=>decide (x<=v):=by
 have mono:∀ p q,(hp:p < S.length)->(hq:q < S.length)->p<=q->S[p]<=S[q]:=λp q hp hq hpq=>by
  rcases Nat.lt_or_ge p q with z | z
  ·exact List.pairwise_iff_getElem.mp hS p q hp hq z
  ·have:p=q:=by omega
   subst this;exact Int.le_refl _
 have e:S=S.take i ++ S[i] :: S.drop (i + 1):=by rw [← List.drop_eq_getElem_cons hi,List.take_append_drop]
 constructor
 ·intro h;have c1:(S.take (i + 1)).countP (λx=>decide (x<=v))=(S.take (i + 1)).length:=by
   rw [List.countP_eq_length];intro x hx;obtain ⟨m,hm,rfl⟩:=List.mem_iff_getElem.mp hx;rw [List.length_take] at hm;rw [List.getElem_take];exact decide_eq_true (Int.le_trans (mono m i .(25) hi .(25)) h)
  have c2:(S.take (i + 1)).countP (λx=>decide (x<=v))<=S.countP λx=>decide (x<=v):=List.Sublist.countP_le (List.take_sublist _ _);rw [c1,List.length_take] at c2
  omega
 ·intro h
  rcases Int.lt_or_le v S[i] with z | z
  ·exfalso
   have c1:(S.drop i).countP (λx=>decide (x<=v))=0:=by
    rw [List.countP_eq_zero];intro x hx;obtain ⟨m,hm,rfl⟩:=List.mem_iff_getElem.mp hx;rw [List.length_drop] at hm;rw [List.getElem_drop];have:=mono i (i + m) hi .(25) .(25)
    simp;omega
   have c2:S.countP (λx=>decide (x<=v))=(S.take i).countP (λx=>decide (x<=v)) + (S.drop i).countP (λx=>decide (x<=v)):=by rw [← List.countP_append,List.take_append_drop]
   have c3:(S.take i).countP (λx=>decide (x<=v))<=(S.take i).length:=List.countP_le_length;rw [List.length_take] at c3
   omega
  ·exact z
noncomputable def b1h (H:Hp)(p:Addr)(xs:List V):Prop:=H p=some (.tup xs) \/ H p=some (.lst xs)
theorem b1h.same {H H':Hp}{p:Addr}{xs:List V}(h:b1h H p xs)(s:n6 H H'):b1h H' p xs:=h.imp (s _ _) (s _ _)
theorem b1h.len {K:PySem.W.Frag}{H:Hp}{p:Addr}{xs:List V}(h:b1h H p xs):c4h K (.ref p) H xs.length:=h.elim (λe=>.inr ⟨_,SqT.of e,rfl⟩) λe=>.inl ⟨_,SqL.of e,rfl⟩
end L2
namespace L2
open PySem PySem.Spec PyProof.Rows
theorem b3a {K:PySem.W.Frag}{a:Addr}{xs:List V}{tl:TE}{σ:St}{H H1:Hp}{one:V->Hp->(Option V->Hp->Prop)->Prop}{Q:List V->Hp->Prop}(htl:∀ k:VK,k (.ref a) H1->tl σ H k)(hp:b1h H1 a xs)(Pv:Nat->List V->Hp->Prop)(h0:Pv 0 [] H1)(hn:xs.length <= sizeLine)
  (hl:∀ i ys H',i<=xs.length -> Pv i ys H'->H' a=H1 a) (hs:∀ i x ys H',xs[i]? = some x->Pv i ys H'->one x H' λo H2=>Pv (i + 1) (ys ++ o.toList) H2) (hd:∀ ys H',Pv xs.length ys H'->Q ys H') :
  b9k K tl σ H (λJ H2=>a6M J H2 one Q) \/ b6J K tl σ H (λJ H2=>a6M J H2 one Q):=by
 rcases hp with e | e
 ·exact Or.inr (htl _ ⟨a,rfl,⟨_,SqT.of e⟩,O8 (xs:=xs) Pv h0 hn (λi ys H' hi p=>SqT.of (by rw [hl i ys H' hi p];exact e)) hs hd⟩)
 ·exact Or.inl (htl _ ⟨a,rfl,⟨_,SqL.of e⟩,R9 (xs:=xs) Pv h0 hn (λi ys H' hi p=>SqL.of (by rw [hl i ys H' hi p];exact e)) hs hd⟩)
theorem b8f {r:List (Option Int)}{i:Nat}{x:V}(h:(r.map j9)[i]? = some x):∃ c,r[i]? = some c/\x=j9 c:=by
 rw [List.getElem?_map] at h;cases e:r[i]? with
 | none=>rw [e] at h;cases h
 | some c=>rw [e] at h;exact ⟨c,rfl,(Option.some.inj h).symm⟩
noncomputable def a8R (F:List (List (Option Int)))(ru:C3)(u d l r:Nat)(i j:Int):List Int:=(wc F ru u d l r i j).filterMap id
noncomputable def L5 (F:List (List (Option Int)))(ru:C3)(u d l r:Nat)(a b:Int)(i j:Int):Option Int:=M7 (a8R F ru u d l r i j) a b
noncomputable def E8 (F:List (List (Option Int))):Nat:=(F.headD []).length
noncomputable def fil (F:List (List (Option Int)))(ru:C3)(u d l r:Nat)(a b:Int):List (List (Option Int)):=(List.range F.length).map λi:Nat=>(List.range (E8 F)).map λj:Nat=>L5 F ru u d l r a b (i:Int) (j:Int)
theorem T1 (F:List (List (Option Int)))(ru:C3)(u d l r:Nat)(a b:Int):(fil F ru u d l r a b).length=F.length:=by unfold fil;simp
theorem a9O {F:List (List (Option Int))}{ru:C3}{u d l r:Nat}{a b:Int}{i:Nat}(hi:i < F.length):(fil F ru u d l r a b)[i]? = some ((List.range (E8 F)).map λj:Nat=>L5 F ru u d l r a b (i:Int) (j:Int)):=by
 unfold fil;rw [List.getElem?_map,List.getElem?_range hi];rfl
theorem b3K {F:List (List (Option Int))}{ru:C3}{u d l r:Nat}{a b:Int}:∀ x∈fil F ru u d l r a b,x.length=E8 F:=λx hx=>by
 obtain ⟨i,_,rfl⟩:=List.mem_map.mp hx
 simp
theorem a2F {F:List (List (Option Int))}(R:U6 F){ru:C3}{u d l r:Nat}{a b:Int}:E8 (fil F ru u d l r a b)=E8 F:=by
 have e:=a9O (ru:=ru) (u:=u) (d:=d) (l:=l) (r:=r) (a:=a) (b:=b) (i:=0) R.h1;unfold E8;have:(fil F ru u d l r a b).headD []=(List.range (E8 F)).map λj:Nat=>L5 F ru u d l r a b ((0:Nat):Int) (j:Int):=by
  cases h:fil F ru u d l r a b with
  | nil=>rw [h] at e;cases e
  | cons x l=>rw [h] at e;exact Option.some.inj e
 rw [this]
 simp [E8]
theorem U6.fil {F:List (List (Option Int))}(R:U6 F)(ru:C3)(u d l r:Nat)(a b:Int):U6 (fil F ru u d l r a b):=by
 have ew:=a2F R (ru:=ru) (u:=u) (d:=d) (l:=l) (r:=r) (a:=a) (b:=b);unfold E8 at ew;refine ⟨by rw [T1];exact R.h1,by rw [T1];exact R.hs,by rw [ew];exact R.w1,by rw [ew];exact R.ws,λx hx=>?_⟩;rw [ew];exact b3K x hx
end L2
namespace MwZip
open PySem PySem.Spec PyProof.Rows
end MwZip
namespace L2
open PySem PySem.Spec PyProof.Rows
noncomputable def LeC:Option Int->Option Int->Prop
 | none,none=>True
 | some x,some y=>x<=y
 | _,_=>False
theorem LeC.refl:∀ c,LeC c c
 | none=>trivial
 | some x=>Int.le_refl x
inductive LeN:List Int->List Int->Prop
 | nil:LeN [] []
 | cons {x y:Int} {xs ys:List Int}:x<=y->LeN xs ys->LeN (x :: xs) (y :: ys)
inductive LeO:List (Option Int)->List (Option Int)->Prop
 | nil:LeO [] []
 | cons {x y:Option Int} {xs ys:List (Option Int)}:LeC x y->LeO xs ys->LeO (x :: xs) (y :: ys)
theorem LeN.len:∀ {xs ys:List Int},LeN xs ys->xs.length=ys.length
 | _,_,.nil=>rfl
 | _,_,.cons _ t=>by simp [t.len]
theorem LeN.count {xs ys:List Int}(h:LeN xs ys)(v:Int):ys.countP (λx=>decide (x<=v))<=xs.countP λx=>decide (x<=v):=by
 induction h with
 | nil=>exact Nat.le_refl _
 | @cons x y xs ys e t ih =>
  rw [List.countP_cons,List.countP_cons]
  by_cases z:y<=v
  ·have z2:x<=v:=by omega
   rw [decide_eq_true z,decide_eq_true z2];simp only [if_true];omega
  ·rw [decide_eq_false z];simp only [Bool.false_eq_true,if_false]
   omega
theorem LeO.append {a b:List (Option Int)}(h:LeO a b):∀ {c d:List (Option Int)},LeO c d->LeO (a ++ c) (b ++ d):=by
 induction h with
 | nil=>exact λh=>h
 | cons e t ih=>exact λh=>.cons e (ih h)
theorem LeO.flat (f g:Nat->List (Option Int)):∀ l:List Nat,(∀ k∈l,LeO (f k) (g k))->LeO (l.flatMap f) (l.flatMap g)
 | [],_=>.nil
 | k :: l,h=>by
  rw [List.flatMap_cons,List.flatMap_cons];exact (h k List.mem_cons_self).append (LeO.flat f g l λx hx=>h x (List.mem_cons_of_mem _ hx))
theorem LeO.nums {a b:List (Option Int)}(h:LeO a b):LeN (a.filterMap id) (b.filterMap id):=by
 induction h with
 | nil=>exact .nil
 | @cons x y xs ys e t ih =>
  cases x with
  | none =>
   cases y with
   | none=>exact ih
   | some y=>exact e.elim
  | some x =>
   cases y with
   | none=>exact e.elim
   | some y=>exact .cons e ih
theorem b8S {xs ys:List Int}(h:LeN xs ys){i:Nat}(hi:i < (B4 xs).length)(hj:i < (B4 ys).length):(B4 xs)[i]<=(B4 ys)[i]:=by
 have a:=(a8Q (a7p ys) hj ((B4 ys)[i])).mp (Int.le_refl _);refine (a8Q (a7p xs) hi ((B4 ys)[i])).mpr (Nat.lt_of_lt_of_le a ?_);rw [(X2 ys).countP_eq,(X2 xs).countP_eq];exact h.count _
theorem b4r {xs ys:List Int}(h:LeN xs ys)(a b:Int):LeC (M7 xs a b) (M7 ys a b):=by
 unfold M7;rw [h.len];generalize (G5 ys.length a b).toNat=k;have l1:=R1 xs;have l2:=R1 ys;have l3:=h.len
 by_cases z:k < ys.length
 ·rw [List.getElem?_eq_getElem (show k < (B4 xs).length by omega),List.getElem?_eq_getElem (show k < (B4 ys).length by omega)];exact b8S h _ _
 ·rw [List.getElem?_eq_none .(25),List.getElem?_eq_none .(25)];exact trivial
structure LeF (F G:List (List (Option Int))):Prop where
 len:F.length=G.length
 wide:(F.headD []).length=(G.headD []).length
 cell:∀ i j:Int,0<=i->i < F.length -> 0<=j->j < (F.headD []).length -> LeC (J8 F i j) (J8 G i j)
theorem LeF.stands {F G:List (List (Option Int))}(R:U6 F)(h:LeF F G)(ru:C3)(i j:Int):LeO (A1 F ru i j) (A1 G ru i j):=by
 have hin:inF F i j=inF G i j:=by unfold inF;rw [h.len,h.wide]
 have h1:=R.h1;have w1:=R.w1;unfold L2.A1;rw [← hin];cases e:inF F i j with
 | true =>
  rw [if_pos rfl,if_pos rfl];unfold inF at e;simp only [Bool.and_eq_true,decide_eq_true_eq] at e;exact .cons (h.cell i j e.1.1 e.1.2 e.2.1 e.2.2) .nil
 | false =>
  rw [if_neg Bool.false_ne_true,if_neg Bool.false_ne_true];have go:∀ ru:C3,LeO [J8 F (led ru i F.length) (led ru j (F.headD []).length)] [J8 G (led ru i G.length) (led ru j (G.headD []).length)]:=λru=>by
   rw [← h.len,← h.wide];have li:=a0n ru i (n:=F.length) .(25);have lj:=a0n ru j (n:=(F.headD []).length) .(25);exact .cons (h.cell _ _ li.1 li.2 lj.1 lj.2) .nil
  cases ru with
  | there=>exact .nil
  | told c=>exact .cons (LeC.refl c) .nil
  | near=>exact go .near
  | turned=>exact go .turned
  | round=>exact go .round
theorem LeF.nums {F G:List (List (Option Int))}(R:U6 F)(h:LeF F G)(ru:C3)(u d l r:Nat)(i j:Int):LeN (a8R F ru u d l r i j) (a8R G ru u d l r i j):=by
 unfold a8R;refine LeO.nums ?_;unfold wc E3;exact LeO.flat _ _ _ λa _=>LeO.flat _ _ _ λb _=>h.stands R ru _ _
theorem b2l {F:List (List (Option Int))}{ru:C3}{u d l r:Nat}{a b:Int}{i j:Int}(i0:0<=i)(i1:i < F.length)(j0:0<=j)(j1:j < (F.headD []).length):J8 (fil F ru u d l r a b) i j=L5 F ru u d l r a b i j:=by
 unfold J8;rw [a9O .(25)]
 show (((List.range (E8 F)).map λj:Nat=>L5 F ru u d l r a b ((i.toNat:Nat):Int) (j:Int))[j.toNat]?).join=_
 rw [List.getElem?_map,List.getElem?_range (show j.toNat < E8 F by unfold E8;omega)]
 show L5 F ru u d l r a b ((i.toNat:Nat):Int) ((j.toNat:Nat):Int)=_
 rw [Int.toNat_of_nonneg i0,Int.toNat_of_nonneg j0]
theorem LeF.fil {F G:List (List (Option Int))}(R:U6 F)(R':U6 G)(h:LeF F G)(ru:C3)(u d l r:Nat)(a b:Int):LeF (fil F ru u d l r a b) (fil G ru u d l r a b):=by
 have e1:=a2F R (ru:=ru) (u:=u) (d:=d) (l:=l) (r:=r) (a:=a) (b:=b);have e2:=a2F R' (ru:=ru) (u:=u) (d:=d) (l:=l) (r:=r) (a:=a) (b:=b);unfold E8 at e1 e2;refine ⟨by rw [T1,T1];exact h.len,by rw [e1,e2];exact h.wide,λi j i0 i1 j0 j1=>?_⟩;rw [T1] at i1;rw [e1] at j1;rw [b2l i0 i1 j0 j1,b2l i0 (by rw [← h.len];exact i1) j0 (by rw [← h.wide];exact j1)];exact b4r (h.nums R ru u d l r i j) a b
noncomputable def a1o (F:List (List (Option Int)))(i j:Nat)(c:Option Int):List (List (Option Int)):=F.take i ++ [((F[i]?.getD []).take j ++ [c] ++ (F[i]?.getD []).drop (j + 1))] ++ F.drop (i + 1)
theorem b1H {α:Type}(l:List α)(j:Nat)(c:α)(hj:j < l.length)(k:Nat):(l.take j ++ [c] ++ l.drop (j + 1))[k]? = if k=j then some c else l[k]?:=by
 rcases Nat.lt_trichotomy k j with z | z | z
 ·rw [if_neg .(25),List.append_assoc,List.getElem?_append_left (by rw [List.length_take];omega),List.getElem?_take,if_pos z]
 ·subst z;rw [if_pos rfl,List.append_assoc,List.getElem?_append_right (by rw [List.length_take];omega),List.length_take,Nat.min_eq_left .(25),Nat.sub_self]
  rfl
 ·rw [if_neg .(25),List.getElem?_append_right (by rw [List.length_append,List.length_take];show min j l.length + 1<=k;omega),List.getElem?_drop,List.length_append,List.length_take]
  show l[j + 1 + (k - (min j l.length + 1))]? = _
  congr 1;omega
theorem b5j {α:Type}(l:List α)(j:Nat)(c:α)(hj:j < l.length):(l.take j ++ [c] ++ l.drop (j + 1)).length=l.length:=by
 rw [List.length_append,List.length_append,List.length_take,List.length_drop]
 show min j l.length + 1 + _=_
 omega
theorem b0l (F:List (List (Option Int)))(h:1<=F.length):F[0]? = some (F.headD []):=by
 cases F with
 | nil=>simp at h
 | cons x l=>rfl
theorem b7B {F:List (List (Option Int))}(R:U6 F){i j:Nat}(hi:i < F.length)(hj:j < (F.headD []).length)(c:Option Int):U6 (a1o F i j c)/\(a1o F i j c).length=F.length /\ ((a1o F i j c).headD []).length=(F.headD []).length:=by
 have er:F[i]?.getD []=F[i]:=by rw [List.getElem?_eq_getElem hi];rfl
 have lr:F[i].length=(F.headD []).length:=R.row _ (List.getElem_mem _);have L:(a1o F i j c).length=F.length:=b5j F i _ hi;have rows:∀ x∈a1o F i j c,x.length=(F.headD []).length:=λx hx=>by
  obtain ⟨k,hk⟩:=List.mem_iff_getElem?.mp hx;have:=b1H F i ((F[i]?.getD []).take j ++ [c] ++ (F[i]?.getD []).drop (j + 1)) hi k;unfold a1o at hk;rw [this] at hk
  by_cases z:k=i
  ·rw [if_pos z] at hk;rw [← Option.some.inj hk,er,b5j _ _ _ .(25)];exact lr
  ·rw [if_neg z] at hk;exact R.row _ (List.mem_of_getElem? hk)
 have h1:=R.h1;have W:((a1o F i j c).headD []).length=(F.headD []).length:=rows _ (List.mem_of_getElem? (b0l _ .(25)));exact ⟨⟨by rw [L];exact R.h1,by rw [L];exact R.hs,by rw [W];exact R.w1,by rw [W];exact R.ws,λx hx=>by rw [W];exact rows x hx⟩,L,W⟩
section
variable {X:Cx}{pos:Pos}{K:PySem.W.Frag}
noncomputable def c1o (K:PySem.W.Frag)(n:Nat)(t:TGs):TG:=λv σ H Q=>∃ a xs,v = .ref a/\SqL K H a xs/\xs.length=n/\t xs σ H Q
theorem W0 {es:List Expr}{k:Nat}{t:TGs}{n:Nat}(hK:X.K=K)(hc:X.calm=true)(h:PGs X es t)
  (hn:(assignEach es X.env).length=n:=by rfl) (hst:(assignEach es X.env).findIdx? (·.1)=none:=by rfl):PG X (.Tuple es k pos) (c1o K n t):=by
 subst hK;intro pins s σ H v u Q I r hw;obtain ⟨a,xs,e1,hq,hl,hw⟩:=hw;subst e1;cases r;obtain ⟨its,rv,p,hz⟩:=I.list hq;rw [assign_Tuple];refine wpAny_bind (wpAny_standAt ?_);unfold unpack;rw [show (assignEach es X.env).length=(its.toArray).size by simp [hn,← hl,rv.length],hst];refine wpAny_bind (wpAny_holding (PySem.W.kun_itemsOf (I.ok.hd hc) p.isList λh' hx=>?_));have I1:Inv X pins σ H { s with heap:=h' }:=I.kept (t':=s.toks) λb o e=>hx b o (Nat.ne_of_lt (Heap.lt_size e)) e;exact h pins _ σ H xs _ Q I1 (by simpa using rv) hw
end
noncomputable def a7N (K:PySem.W.Frag)(C:Addr)(m qual:Str)(ps:List Str)(st:Stmt):Prop:=∃ f fd,b6n K C m f/\Fun K m qual st f fd/\O9 K fd ps []
noncomputable def b4Y (K:PySem.W.Frag) (C:Addr) (qual:Str) (ps:List Str) (st:Stmt):Prop:=∃ f fd,Mk K C f/\Fun K "__init__" qual st f fd/\O9 K fd ps []
noncomputable def DfM (P:Program)(w:World)(K:PySem.W.Frag)(mg:Str->Option Value)(base:Heap)(k:Nat)(C:Addr)(m:Str)(ps:List Str)(sp:Sp):Prop :=
 ∃ (f:Addr) (fd:FuncData),a7n P w K mg base CX0 k f fd ps sp/\b6n K C m f/\O9 K fd ps []/\∃ qual st,Fun K m qual st f fd
noncomputable def DfI (P:Program)(w:World)(K:PySem.W.Frag)(mg:Str->Option Value)(base:Heap)(k:Nat)(C:Addr)(ps:List Str)(sp:Sp):Prop :=
 ∃ (f:Addr) (fd:FuncData),a7n P w K mg base CX0 k f fd ps sp/\Mk K C f/\O9 K fd ps []/\∃ qual st,Fun K "__init__" qual st f fd
section
variable {P:Program}{w:World}{K:PySem.W.Frag}{mg:Str->Option Value}{base:Heap}
theorem a7N.ok {C:Addr}{m qual:Str}{ps N:List Str}{st:Stmt}{k:Nat}{sp:Sp}(R:a7N K C m qual ps st)(S:g0 N ps (c6 st))(len:∀ vs H Q E,sp vs H Q E->vs.length=ps.length)
  (hbody:∀ (f:Addr) (cdv:Value) (A:Around) (outer:List Env) (s:Shared) (H:Hp) (vs:List V) (Q:VK) (E:XK),G4 k (A.deeper (envOfC qual (c6 st) s.heap.objs.size f cdv))->sp vs H Q E ->
   ∃ t,PSs (a2s CX0 P w K mg base N qual (c6 st) f cdv A outer s H E).nox (B9 st) t/\t { nx:=λ_ H'=>Q .non H',rt:=Q } (Y5 N vs) H):DfM P w K mg base (k + 1) C m ps sp:=by
 obtain ⟨f,fd,M,F,b⟩:=R;exact ⟨f,fd,F.ok S len (λcdv A outer s H vs Q E hr h=>hbody f cdv A outer s H vs Q E hr h),M,b,_,_,F⟩
theorem b4Y.ok {C:Addr}{qual:Str}{ps N:List Str}{st:Stmt}{k:Nat}{sp:Sp}(R:b4Y K C qual ps st)(S:g0 N ps (c6 st))(len:∀ vs H Q E,sp vs H Q E->vs.length=ps.length)
  (hbody:∀ (f:Addr) (cdv:Value) (A:Around) (outer:List Env) (s:Shared) (H:Hp) (vs:List V) (Q:VK) (E:XK),G4 k (A.deeper (envOfC qual (c6 st) s.heap.objs.size f cdv))->sp vs H Q E ->
   ∃ t,PSs (a2s CX0 P w K mg base N qual (c6 st) f cdv A outer s H E).nox (B9 st) t/\t { nx:=λ_ H'=>Q .non H',rt:=Q } (Y5 N vs) H):DfI P w K mg base (k + 1) C ps sp:=by
 obtain ⟨f,fd,M,F,b⟩:=R;exact ⟨f,fd,F.ok S len (λcdv A outer s H vs Q E hr h=>hbody f cdv A outer s H vs Q E hr h),M,b,_,_,F⟩
end
section
variable {X:Cx}{k:Nat}{C:Addr}{m:Str}{ps:List Str}{sp:Sp}{o e:Expr}{es:List Expr}{ta:TE}{t:TA}{apos pos:Pos}
theorem c6o {pl:Sem Bool}(D:DfM X.prog X.w X.K X.mg X.base k C m ps sp)(c:Cls X.K C)(hr:G4 k X.A)(he:PE X o ta)(ha:PA X (e :: es) t)
  (hst:starEach (e :: es) X.env=(false,eval e X.env) :: starEach es X.env:=by rfl) (hpl:(backTo pos (starEach es X.env)).any (·.1)=false:=by rfl)
  (ht:eval (.Call (.Attribute o m apos) (e :: es) [] pos) X.env=(do
   let ov ← eval o X.env
   standAt apos.atName
   let (f,first) ← holding [ov] (getMethod ov m pl)
   callWith pos f first (backTo pos (starEach (e :: es) X.env)) (backToKw pos (keywordEach [] X.env))):=by rfl) :
  PE X (.Call (.Attribute o m apos) (e :: es) [] pos) (a5P C m sp [] E0 ta t):=by
 obtain ⟨f,fd,F,M,b,_⟩:=D;exact b2d (pl:=pl) he c M F hr b .nil a2Y ha hst hpl ht
theorem b9H {pl:Sem Bool}(D:DfM X.prog X.w X.K X.mg X.base k C m ps sp)(c:Cls X.K C)(hr:G4 k X.A)(he:PE X o ta)
  (ht:eval (.Call (.Attribute o m apos) [] [] pos) X.env=(do
   let ov ← eval o X.env
   standAt apos.atName
   let (f,first) ← holding [ov] (getMethod ov m pl)
   callWith pos f first (backTo pos (starEach [] X.env)) (backToKw pos (keywordEach [] X.env))):=by rfl) :
  PE X (.Call (.Attribute o m apos) [] [] pos) (a5P C m sp [] E0 ta a1I):=by
 obtain ⟨f,fd,F,M,b,_⟩:=D;exact b0I (pl:=pl) he c M F hr b .nil a2Y ht
theorem Q2 {K:PySem.W.Frag}{f:Str}(h:X.K=K)(he:PE X o ta)(hb:attributeBase o f X.env (eval o X.env)=eval o X.env):PE X (.Attribute o f pos) (c9i K ta f):=by subst h;exact c7d he hb
end
noncomputable def b0h (K:PySem.W.Frag) (p:Addr) (xs:List V):Prop:=∃ (o:Obj) (its:Array Value) (n:Nat),K.lookup p=some o/\o.cls = .type "tuple"/\o.data = .seq its n/\its.size <= sizeLine/\V8 xs its.toList
theorem b0h.sq {K:PySem.W.Frag}{H:Hp}{p:Addr}{xs:List V}(h:b0h K p xs):SqT K H p xs:=.inr h
noncomputable def tGK (K:PySem.W.Frag)(xs:List V):TE:=λ_ H Q=>∀ p,b0h K p xs->Q (.ref p) H
theorem b8j {X:Cx} {K:PySem.W.Frag} {x:Str} {xs:List V} {pos:Pos} (hK:X.K=K) (hg:Gl X x) (h:∃ p,X.mg x=some (.ref p)/\b0h K p xs) (hd:(x == ("__debug__" : Str))=false:=by decide):PE X (.Name x pos) (tGK K xs):=by
 obtain ⟨p,hm,hk⟩:=h;intro pins s σ H Q I q;exact Q1 (v:=.ref p) hg hm rfl hd pins s σ H Q I (q p hk)
noncomputable def Shr (K:PySem.W.Frag)(H:Hp)(sv:V)(a b:Int):Prop:=∃ p,sv = .ref p/\(H p=some (.tup [.int a,.int b]) \/ b0h K p [.int a,.int b])
theorem Shr.keep {K:PySem.W.Frag}{H H':Hp}{sv:V}{a b:Int}(h:Shr K H sv a b)(k:N7 H H'):Shr K H' sv a b:=by
 obtain ⟨p,e,h⟩:=h;exact ⟨p,e,h.imp (k _ _) id⟩
theorem Shr.of {K:PySem.W.Frag}{H:Hp}{sv:V}{a b:Int}(h:IsD H sv (a9m (a,b))):Shr K H sv a b:=by
 obtain ⟨p,e,h⟩:=Z1 h;exact ⟨p,e,.inl h⟩
theorem b2G {K:PySem.W.Frag}{H:Hp}{p:Addr}{xs:List V}(h:H p=some (.tup xs) \/ b0h K p xs):SqT K H p xs:=h.elim SqT.of b0h.sq
theorem b1S:a4p 0 1:=⟨by decide,by decide,by decide,by decide⟩
theorem c7o {ns:List Int}{M:Int}(h:M7 ns 0 1=some M):M∈ns/\∀ x∈ns,M<=x:=by
 refine ⟨a1L h,λx hx=>?_⟩;have hn:ns≠[]:=λe=>by rw [e] at hx;cases hx
 obtain ⟨hlt,em⟩:=a4r b1S hn;rw [h] at em;have hM:=Option.some.inj em;have hx':=a5Y.mpr hx;obtain ⟨k,hk,ek⟩:=List.getElem_of_mem hx';have hp:(G5 ns.length 0 1).toNat=0:=by unfold G5;rw [Int.zero_mul];rfl
 rw [hM,← ek]
 by_cases z:k=(G5 ns.length 0 1).toNat
 ·subst z;exact Int.le_refl _
 ·exact List.pairwise_iff_getElem.mp (a7p ns) _ k hlt hk .(25)
end L2
namespace L2
open PySem
variable {rest es:List Expr}{env:Env}{p:Pos}{a b c:Expr}
theorem X1 {x}:starEach (Expr.Tuple es x p :: rest) env=(false,eval (.Tuple es x p) env) :: starEach rest env:=by rfl
theorem j5:starEach (Expr.List es p :: rest) env=(false,eval (.List es p) env) :: starEach rest env:=by rfl
theorem k9:starEach (Expr.Subscript a b p :: rest) env=(false,eval (.Subscript a b p) env) :: starEach rest env:=by rfl
theorem c8 {ks}:starEach (Expr.Call a es ks p :: rest) env=(false,eval (.Call a es ks p) env) :: starEach rest env:=by rfl
theorem m5 {o}:starEach (Expr.BinOp a o b p :: rest) env=(false,eval (.BinOp a o b p) env) :: starEach rest env:=by rfl
theorem a3O {o}:starEach (Expr.UnaryOp o a p :: rest) env=(false,eval (.UnaryOp o a p) env) :: starEach rest env:=by rfl
theorem A4 {g s}:starEach (Expr.ListComp a g s p :: rest) env=(false,eval (.ListComp a g s p) env) :: starEach rest env:=by rfl
theorem b8E {o}:starEach (Expr.Compare a o es p :: rest) env=(false,eval (.Compare a o es p) env) :: starEach rest env:=by rfl
end L2
namespace L2
open PySem PySem.Spec PyProof.Rows
section
variable {X:Cx}{K:PySem.W.Frag}
theorem c8b (n k:Nat)(h:k<=n):Builtin.Str.strSliceIndices (some (k:Int)) none 1 n=(List.range (n - k)).map (λj=>k + j):=by
 rw [← PySem.StrLaws.strSliceIndices_plain (a:=k) (b:=n) h (Nat.le_refl _)];have h2:¬ ((n:Int) < 0):=by omega
 have e1:max (0:Int) (min (n:Int) (n:Int))=n:=by omega
 simp only [Builtin.Str.strSliceIndices,sliceRange,h2,if_false,e1,show ((1:Int) > 0)=True from by simp,if_true]
noncomputable def c2n:V->Option Int->Option Int->Hp->VK->Prop:=λx lo hi H Q=>∃ (z:Str) (k:Nat),x = .str z/\lo=some (k:Int)/\hi=none/\1<=k/\k<=z.length /\ z.length <= sizeLine/\Q (.str ⟨(z.cps.toList.drop k).toArray⟩) H
theorem b8R:SlR X c2n:=by
 intro pins s σ H x v vl vu lo hi sl Q I rx hs pl pu h;obtain ⟨z,k,rfl,rfl,rfl,h0,h1,h2,q⟩:=h;obtain ⟨t,rfl⟩:=rx;obtain ⟨tl,rfl⟩:∃ tl,vl = .int (k:Int) tl:=by cases pl;exact ⟨_,rfl⟩
 obtain rfl:vu = .none:=by cases pu;rfl
 refine ⟨"str",_,PySem.F.slot_str_getitem.lookup,typeIs_str s z t,?_⟩;obtain ⟨o,ho,hc,hd⟩:=hs;refine wpAny_getItem_str_slice (l:=some ((k:Int),tl)) (u:=none) (st:=none) ⟨o,ho,hc,hd⟩ rfl ?_;have e:slicePicked z (some ((k:Int),tl)) none none=(List.range (z.length - k)).map (λj=>k + j):=c8b _ _ h1;have e3:((List.range (z.length - k)).map (λj=>k + j)).filterMap (z.cps[·]?)=z.cps.toList.drop k:=by
  have:=PySem.StrLaws.picks z.cps.toList (z.length - k) k (by simp [Str.length] at h1 ⊢;omega);rw [List.take_of_length_le (by simp [Str.length])] at this
  simpa using this
 unfold sliceMade;rw [e,if_neg (by rw [List.length_map,List.length_range,Bool.and_eq_true];intro z2;have:=z2.2;simp at this;omega),e3];refine ⟨?_,⟨.str _,H,I.tok _,⟨_,rfl⟩,q⟩⟩
 show (List.drop k z.cps.toList).toArray.size <= sizeLine
 rw [List.size_toArray,List.length_drop];have:z.cps.toList.length=z.length:=by simp [Str.length]
 omega
theorem a9v {e:Expr}{te:TE}{pos:Pos}(h:PE X e te):PE X (.JoinedStr [e] pos) te:=λpins s σ H Q I q=>wpAny_JoinedStr_one (h pins s σ H Q I q)
theorem b6U {k:Nat}{C:Addr}{ps:List Str}{sp:Sp}{x:Str}{p pos:Pos}(D:DfI X.prog X.w X.K X.mg X.base k C ps sp)(hr:G4 (k + 1) X.A)(hm:X.mg x=some (.ref C))(hg:Gl X x:=by rfl)
  (hdb:(x == ("__debug__" : Str))=false:=by decide):PE X (.Call (.Name x p) [] [] pos) (b0Z C sp [] E0 a1I):=by
 obtain ⟨f,fd,F,M,b,_⟩:=D;exact b1I M F hr hg hm b .nil a2Y hdb
end
end L2
namespace L2
open PySem
noncomputable def F9 (w:List Nat):List Nat:=if w.head? = some 45 then w.tail else w
noncomputable def a7J (c:Nat):Bool:=decide (48<=c) && decide (c<=57)
noncomputable def a2y (f:List Nat):Nat:=f.foldl (λacc c=>acc * 10 + (c - 48)) 0
noncomputable def numB (w:List Nat):Bool:=(F9 w).all a7J && decide (F9 w≠[]) && (decide ((F9 w).head?≠some 48) || decide (w=[48]))
noncomputable def numOf (w:List Nat):Int:=if w.head? = some 45 then -(a2y (F9 w):Int) else (a2y (F9 w):Int)
noncomputable def J1 (w:List Nat):Bool:=decide (w=[46]) || numB w
noncomputable def B5 (w:List Nat):Option Int:=if w=[46] then none else some (numOf w)
theorem b6z (f:List Nat)(c:Nat):a2y (f ++ [c])=a2y f * 10 + (c - 48):=by unfold a2y;rw [List.foldl_append];rfl
theorem b0P (f:List Nat):∀ a:Nat,a<=f.foldl (λacc c=>acc * 10 + (c - 48)) a:=by
 induction f with
 | nil=>intro a;exact Nat.le_refl _
 | cons c f ih =>
  intro a;exact Nat.le_trans (show a<=a * 10 + (c - 48) by omega) (ih _)
theorem b1i {f:List Nat}(h:f.all a7J=true)(n:f≠[])(z:f.head?≠some 48):1<=a2y f:=by
 cases f with
 | nil=>exact absurd rfl n
 | cons c f =>
  rw [List.all_cons,Bool.and_eq_true] at h;have hc:=h.1;unfold a7J at hc;simp only [Bool.and_eq_true,decide_eq_true_eq] at hc;have:c≠48:=λe=>z (by rw [e];rfl);unfold a2y;rw [List.foldl_cons];exact Nat.le_trans (show 1<=0 * 10 + (c - 48) by omega) (b0P f _)
theorem b7x:∀ (n:Nat) (f:List Nat),f.length=n->f.all a7J=true->f≠[]->f.head?≠some 48->dg (a2y f)=f:=by
 intro n
 induction n with
 | zero=>intro f h _ ne;exact absurd (List.length_eq_zero_iff.mp h) ne
 | succ n ih =>
  intro f hl h ne z;obtain ⟨g,c,rfl⟩:∃ g c,f=g ++ [c]:=⟨f.dropLast,f.getLast ne,(List.dropLast_concat_getLast ne).symm⟩;rw [List.all_append,Bool.and_eq_true] at h;have hc:=h.2;simp only [List.all_cons,List.all_nil,Bool.and_true] at hc;unfold a7J at hc;simp only [Bool.and_eq_true,decide_eq_true_eq] at hc;rw [b6z]
  by_cases hg:g=[]
  ·subst hg
   show dg (0 * 10 + (c - 48))=[c]
   rw [a6w .(25)]
   congr 1
   omega
  ·have zg:g.head?≠some 48:=λe=>z (by
    cases g with
    | nil=>exact absurd rfl hg
    | cons a g=>exact e)
   have lg:g.length=n:=by rw [List.length_append] at hl;simpa using hl
   have p:=b1i h.1 hg zg;rw [a9r .(25),show (a2y g * 10 + (c - 48)) / 10=a2y g by omega,show (a2y g * 10 + (c - 48)) % 10=c - 48 by omega,ih g lg h.1 hg zg,show 48 + (c - 48)=c by omega]
theorem a4Y {w:List Nat}(h:numB w=true):w=q9 (some (numOf w)):=by
 unfold numB at h;simp only [Bool.and_eq_true,Bool.or_eq_true,decide_eq_true_eq] at h;obtain ⟨⟨h1,h2⟩,h3⟩:=h;unfold numOf
 by_cases m:w.head? = some 45
 ·rw [if_pos m];have ew:w=45 :: F9 w:=by
   unfold F9;rw [if_pos m];cases w with
   | nil=>cases m
   | cons a w=>rw [show a=45 from Option.some.inj m];rfl
  have z:(F9 w).head?≠some 48:=by
   rcases h3 with z | z
   ·exact z
   ·rw [z] at m;cases m
  have p:=b1i h1 h2 z;have d:=b7x _ (F9 w) rfl h1 h2 z;unfold q9;dsimp only;rw [if_pos .(25),show (-(a2y (F9 w):Int)).natAbs=a2y (F9 w) by omega,d];exact ew
 ·rw [if_neg m];have ew:F9 w=w:=by unfold F9;rw [if_neg m]
  rw [ew] at h1 h2 h3 ⊢;unfold q9;dsimp only;rw [if_neg .(25),show ((a2y w:Int)).natAbs=a2y w by omega]
  rcases h3 with z | z
  ·exact (b7x _ w rfl h1 h2 z).symm
  ·rw [z]
   decide +kernel
theorem a3U {w:List Nat}(h:J1 w=true):w=q9 (B5 w):=by
 unfold B5
 by_cases e:w=[46]
 ·rw [if_pos e,e];rfl
 ·rw [if_neg e];unfold J1 at h;rw [decide_eq_false e,Bool.false_or] at h;exact a4Y h
noncomputable def Asc (x:Str):Prop:=∀ c∈x.cps.toList,c < 128
noncomputable def o9 (x:Str):List Str:=Txt.split x ⟨#[32]⟩
noncomputable def i8 (x:Str):List Nat:=x.cps.toList
noncomputable def y4 (x:Str):List (List Nat):=(o9 x).map i8
theorem a9Y {c:Nat}:∀ {p:List (List Nat)} {x:List Nat},x∈p->∀ d∈x,d∈D5 c p
 | [],_,h,_,_=>absurd h .(26)
 | [y],x,h,d,hd=>by rw [List.mem_singleton.mp h] at hd;exact hd
 | y :: z :: r,x,h,d,hd=>by
  show d∈y ++ c :: D5 c (z :: r)
  rcases List.mem_cons.mp h with e | e
  ·rw [e] at hd;exact List.mem_append_left _ hd
  ·exact List.mem_append_right _ (List.mem_cons_of_mem _ (a9Y e d hd))
theorem b6k {c:Nat}:∀ {p:List (List Nat)} {x:List Nat},x∈p->x.length <= (D5 c p).length
 | [],_,h=>absurd h .(26)
 | [y],x,h=>by rw [List.mem_singleton.mp h];exact Nat.le_refl _
 | y :: z :: r,x,h=>by
  show x.length <= (y ++ c :: D5 c (z :: r)).length
  rw [List.length_append,List.length_cons]
  rcases List.mem_cons.mp h with e | e
  ·rw [e];omega
  ·have:=b6k (c:=c) e;omega
theorem b1A (x:Str)(c:Nat):D5 c ((Txt.split x ⟨#[c]⟩).map i8)=i8 x:=by
 have e:=congrArg i8 (StrLaws.join_split x ⟨#[c]⟩);unfold i8 at e ⊢;rw [B1] at e;exact e
theorem a6p {x y:Str}{c:Nat}(h:y∈Txt.split x ⟨#[c]⟩):(∀ d∈i8 y,d∈i8 x)/\y.length <= x.length:=by
 have m:i8 y∈(Txt.split x ⟨#[c]⟩).map i8:=List.mem_map.mpr ⟨y,h,rfl⟩;have e:=b1A x c;refine ⟨λd hd=>by rw [← e];exact a9Y m d hd,?_⟩;have l:=b6k (c:=c) m;rw [e] at l;have q:∀ z:Str,(i8 z).length=z.length:=λz=>by unfold i8;simp [Str.length]
 rw [q,q] at l;exact l
theorem a8C (x:Str)(c:Nat):Txt.split x ⟨#[c]⟩≠[]:=by
 unfold Txt.split
 split
 ·simp
 ·split
  ·simp
  ·unfold PySem.Builtin.Str.partsBetween
   simp
theorem Asc.part {x y:Str}{c:Nat}(a:Asc x)(h:y∈Txt.split x ⟨#[c]⟩):Asc y:=λd hd=>a d ((a6p h).1 d hd)
noncomputable def rdL:List (List (List Nat))->List (List (Option Int))->Sum (List (List (Option Int))) Nat
 | [],rows=>.inl rows
 | ws :: r,rows=>if (ws.all J1 && (decide (rows=[]) || decide (ws.length=(rows.headD []).length)))=true then rdL r (rows ++ [ws.map B5]) else .inr rows.length
theorem a9Q:∀ (ls:List (List (List Nat))) (rows F:List (List (Option Int))),rdL ls rows = .inl F->(∀ r∈rows,r.length=(rows.headD []).length)->rows.length + ls.length=F.length /\ (∀ r∈F,r.length=(F.headD []).length)/\(rows≠[]->F.headD []=rows.headD [])
 | [],rows,F,h,hr=>by
  cases h;exact ⟨rfl,hr,λ_=>rfl⟩
 | ws :: r,rows,F,h,hr=>by
  unfold rdL at h
  by_cases c:(ws.all J1 && (decide (rows=[]) || decide (ws.length=(rows.headD []).length)))=true
  ·rw [if_pos c] at h;have c2:rows=[] \/ ws.length=(rows.headD []).length:=by
    rw [Bool.and_eq_true,Bool.or_eq_true,decide_eq_true_eq,decide_eq_true_eq] at c;exact c.2
   have hd:(rows ++ [ws.map B5]).headD []=if rows=[] then ws.map B5 else rows.headD []:=by
    cases rows with
    | nil=>rfl
    | cons a t=>rfl
   obtain ⟨e1,e2,e3⟩:=a9Q r _ F h λz hz=>by
    rw [hd]
    rcases List.mem_append.mp hz with y | y
    ·have n:rows≠[]:=List.ne_nil_of_mem y;rw [if_neg n];exact hr z y
    ·rw [List.mem_singleton.mp y,List.length_map]
     rcases c2 with q | q
     ·rw [if_pos q,List.length_map]
     ·by_cases n:rows=[]
      ·rw [if_pos n,List.length_map]
      ·rw [if_neg n,q]
   rw [List.length_append] at e1;refine ⟨by rw [List.length_cons];simp at e1;omega,e2,λn=>?_⟩;rw [e3 .(26),hd,if_neg n]
  ·rw [if_neg c] at h;cases h
noncomputable def L9 (ws:List Str)(n:Nat):Option (List Int):=if (decide (ws.length=n) && ws.all λw=>numB (i8 w))=true then some (ws.map λw=>numOf (i8 w)) else none
noncomputable def wi (lo hi:Int)(ns:List Int):Bool:=ns.all λn=>decide (lo<=n) && decide (n<=hi)
noncomputable def V7 (w:Str):Option (Option Int):=if (J1 (i8 w) && wi (-1000000000) 1000000000 ([B5 (i8 w)].filterMap id))=true then some (B5 (i8 w)) else none
inductive Cmd where
 | no
 | bad (k:Nat)
 | fld (F:List (List (Option Int)))
 | win (ks:List Int)
 | edge (ru:C3)
 | share (a b:Int)
 | cell (i j:Int) (c:Option Int)
 | take
 | spot (i j:Int)
 | lines
 | filter
 | odd
noncomputable def ruP:List Str->Option C3
 | [x]=>if x = "there" then some .there else if x = "near" then some .near else if x = "turned" then some .turned else if x = "round" then some .round else none
 | [x,y]=>if x = "told" then (V7 y).map .told else none
 | _=>none
noncomputable def shP (ws:List Str):Option (Int × Int) :=
 match L9 ws 2 with
 | some [a,b]=>if (decide (1<=b) && decide (b<=1000) && (decide (0<=a) && decide (a<=b)))=true then some (a,b) else none
 | _=>none
noncomputable def a8U (ws:List Str):Cmd :=
 match L9 ws 4 with
 | some ks=>if wi 0 6 ks=true then .win ks else .no
 | none=>.no
noncomputable def a8G (ws:List Str):Cmd :=
 match L9 ws.dropLast 2 with
 | some [i,j]=>match V7 (ws.getLastD "") with
  | some c=>.cell i j c
  | none=>.no
 | _=>.no
noncomputable def P0 (w:Str)(ws:List Str):Cmd :=
 if w = "window" then a8U ws
 else if w = "edge" then (match ruP ws with | some r=>.edge r | none=>.no)
 else if w = "share" then (match shP ws with | some p=>.share p.1 p.2 | none=>.no)
 else if w = "cell" then a8G ws
 else (match L9 ws 0 with | some _=>.take | none=>.no)
noncomputable def a1u (w:Str)(ws:List Str):Cmd :=
 if w = "at" then (match L9 ws 2 with | some [i,j]=>.spot i j | _=>.no)
 else if w = "still" then (match L9 ws 1 with | some ks=>if wi 0 40 ks=true then .odd else .no | none=>.no)
 else match L9 ws 0 with
  | none=>.no
  | some _=>if w = "show" then .lines else if w = "filter" then .filter else if w = "moves" then .odd else .no
noncomputable def a1W (x:Str):Cmd :=
 match rdL ((Txt.split x ⟨#[59]⟩).map y4) [] with
 | .inr k=>.bad k
 | .inl F=>if (decide (F.length <= 12) && decide ((F.headD []).length <= 12) && F.all λr=>wi (-1000000000) 1000000000 (r.filterMap id))=true then .fld F else .bad 0
noncomputable def stF (x:Str):Bool:=decide (0 + ("field " : Str).length <= x.length) && Builtin.Str.subAt x ("field " : Str) 0
noncomputable def a5T (x:Str):Str:=⟨(x.cps.toList.drop 6).toArray⟩
noncomputable def b4J (w:Str):Bool:=inV (.str w) [V.str "window",V.str "edge",V.str "share",V.str "cell",V.str "take"]
noncomputable def D4 (x:Str):Cmd :=
 if stF x=true then a1W (a5T x) else
 match o9 x with
 | []=>.odd
 | w :: ws=>if b4J w=true then P0 w ws else a1u w ws
noncomputable def b1b (w:List Nat):Prop:=numB w=true->-10000000000 < numOf w/\numOf w < 10000000000
structure N4 (x:Str):Prop where
 asc:Asc x
 len:x.length <= 90000
 wd:stF x=false->∀ w∈y4 x,b1b w
 fd:stF x=true->∀ l∈Txt.split (a5T x) ⟨#[59]⟩,∀ w∈y4 l,b1b w
noncomputable def b1u (w:List Nat):Bool:=!numB w || (decide (-10000000000 < numOf w) && decide (numOf w < 10000000000))
theorem a3P {w:List Nat}(h:b1u w=true):b1b w:=λn=>by
 unfold b1u at h;rw [n] at h
 simpa using h
noncomputable def a9S (x:Str):Bool:=(x.cps.toList.all λc=>decide (c < 128)) && decide (x.length <= 90000) && (if stF x=true then (Txt.split (a5T x) ⟨#[59]⟩).all λl=>(y4 l).all b1u else (y4 x).all b1u)
theorem a3o {x:Str}(h:a9S x=true):N4 x:=by
 unfold a9S at h;rw [Bool.and_eq_true,Bool.and_eq_true,decide_eq_true_eq] at h;obtain ⟨⟨h1,h2⟩,h3⟩:=h;refine ⟨λc hc=>of_decide_eq_true (List.all_eq_true.mp h1 c hc),h2,λst w hw=>?_,λst l hl w hw=>?_⟩
 ·rw [if_neg (by rw [st];decide)] at h3;exact a3P (List.all_eq_true.mp h3 w hw)
 ·rw [if_pos st] at h3;exact a3P (List.all_eq_true.mp (List.all_eq_true.mp h3 l hl) w hw)
theorem b3b {lo hi:Int}{ns:List Int}:wi lo hi ns=true↔∀ n∈ns,lo<=n/\n<=hi:=by
 unfold wi;rw [List.all_eq_true];exact forall_congr' λn=>forall_congr' λ_=>by rw [Bool.and_eq_true,decide_eq_true_eq,decide_eq_true_eq]
noncomputable def noB:Cmd->Bool
 | .no=>true
 | _=>false
noncomputable def c7l (k:Nat):Cmd->Bool
 | .bad j=>decide (j=k)
 | _=>false
theorem b4I {c:Cmd}(h:noB c=true):c = .no:=by
 cases c with
 | no=>rfl
 | _=>cases h
theorem b1Y {c:Cmd}{k:Nat}(h:c7l k c=true):c = .bad k:=by
 cases c with
 | bad j=>rw [of_decide_eq_true h]
 | _=>cases h
theorem b1v:∀ (ls:List (List (List Nat))) (rows F:List (List (Option Int))),rdL ls rows = .inl F->F=rows ++ ls.map λws=>ws.map B5
 | [],rows,F,h=>by cases h;rw [List.map_nil,List.append_nil]
 | ws :: r,rows,F,h=>by
  unfold rdL at h
  split at h
  ·rw [b1v r _ F h,List.append_assoc];rfl
  ·cases h
theorem b9W {x:Str}{F:List (List (Option Int))}(h:a1W x = .fld F):U6 F/\F.length <= 12/\(F.headD []).length <= 12/\∀ r∈F,∀ c∈r,∀ i,c=some i->-1000000000<=i/\i<=1000000000:=by
 unfold a1W at h
 split at h
 ·cases h
 ·rename_i F' hF
  split at h
  ·rename_i z
   cases h;rw [Bool.and_eq_true,Bool.and_eq_true,decide_eq_true_eq,decide_eq_true_eq] at z;obtain ⟨⟨z1,z2⟩,z3⟩:=z;obtain ⟨_,r2,_⟩:=a9Q _ [] F hF (λr hr=>by cases hr);have e:=b1v _ _ _ hF;rw [List.nil_append,List.map_map] at e;obtain ⟨l,ls,el⟩:∃ l ls,Txt.split x ⟨#[59]⟩=l :: ls:=by
    cases h:Txt.split x ⟨#[59]⟩ with
    | nil=>exact absurd h (a8C x 59)
    | cons l ls=>exact ⟨l,ls,rfl⟩
   rw [el,List.map_cons] at e;have w1:1<=(F.headD []).length:=by
    rw [e]
    show 1<=((y4 l).map B5).length
    unfold y4 o9;rw [List.length_map,List.length_map];exact List.length_pos_iff.mpr (a8C l 32)
   refine ⟨⟨by rw [e,List.length_cons];omega,by omega,w1,by omega,r2⟩,z1,z2,λr hr c hc i ei=>?_⟩;exact b3b.mp (List.all_eq_true.mp z3 r hr) i (List.mem_filterMap.mpr ⟨c,hc,ei⟩)
  ·cases h
theorem a6H {i:Int}(h:i < 0):q9 (some i)=45 :: dg i.natAbs:=by
 unfold q9;dsimp only;rw [if_pos h]
 rfl
theorem a0P {i:Int}(h:¬ i < 0):q9 (some i)=dg i.natAbs:=by
 unfold q9;dsimp only;rw [if_neg h]
 rfl
theorem b6Z (n:Nat):¬ (dg n).head? = some 45:=λe=>by
 have:=a0s n 45 (List.mem_of_mem_head? e)
 omega
theorem b4l (i:Int):F9 (q9 (some i))=dg i.natAbs:=by
 unfold F9
 by_cases h:i < 0
 ·rw [a6H h];rfl
 ·rw [a0P h,if_neg (b6Z _)]
theorem b7d (i:Int):numB (q9 (some i))=true:=by
 unfold numB;rw [b4l];have a:(dg i.natAbs).all a7J=true:=List.all_eq_true.mpr λc hc=>by
  have:=a0s i.natAbs c hc;unfold a7J;rw [decide_eq_true this.1,decide_eq_true this.2]
  rfl
 rw [a,decide_eq_true (b9l i.natAbs),Bool.true_and,Bool.true_and]
 by_cases z:i=0
 ·subst z;decide +kernel
 ·rw [decide_eq_true (show (dg i.natAbs).head?≠some 48 from λe=>z (by have:=b2X _ e;omega))]
  rfl
theorem a9R (i:Int):numOf (q9 (some i))=i:=by
 unfold numOf;rw [b4l];have v:a2y (dg i.natAbs)=i.natAbs:=b8s _;rw [v]
 by_cases h:i < 0
 ·rw [a6H h,if_pos (show (45 :: dg i.natAbs).head? = some 45 from rfl)]
  omega
 ·rw [a0P h,if_neg (b6Z _)]
  omega
theorem b2z (i:Int):q9 (some i)≠[46]:=λe=>by
 have:=b7d i;rw [e] at this;exact absurd this .(24)
theorem b9m (c:Option Int):J1 (q9 c)=true:=by
 cases c with
 | none=>rfl
 | some i=>unfold J1;rw [b7d,Bool.or_true]
theorem b0n (c:Option Int):B5 (q9 c)=c:=by
 cases c with
 | none=>rfl
 | some i=>unfold B5;rw [if_neg (b2z i),a9R]
theorem a2p (c:Option Int):i8 (c5 c)=q9 c:=by show (q9 c).toArray.toList=_;simp
theorem U1 (ks:List Int){n:Nat}(h:ks.length=n):L9 (ks.map λk=>c5 (some k)) n=some ks:=by
 unfold L9;rw [if_pos]
 ·rw [List.map_map];have:ks.map ((λw=>numOf (i8 w)) ∘ λk=>c5 (some k))=ks.map id:=List.map_congr_left λk _=>by
   show numOf (i8 (c5 (some k)))=k
   rw [a2p,a9R]
  rw [this,List.map_id]
 ·rw [decide_eq_true (by rw [List.length_map];exact h),Bool.true_and,List.all_map];exact List.all_eq_true.mpr λk _=>by
   show numB (i8 (c5 (some k)))=true
   rw [a2p,b7d]
theorem a2C {c:Option Int}(h:wi (-1000000000) 1000000000 ([c].filterMap id)=true):V7 (c5 c)=some c:=by
 unfold V7;rw [a2p,b0n,b9m,h]
 rfl
theorem a1O {c:Option Int}:wi (-1000000000) 1000000000 ([c].filterMap id)=true↔∀ i,c=some i->-1000000000<=i/\i<=1000000000:=by
 cases c with
 | none=>exact ⟨λ_ i e=>(by cases e),λ_=>rfl⟩
 | some i =>
  show (decide _ && decide _ && true)=true↔_
  rw [Bool.and_true,Bool.and_eq_true,decide_eq_true_eq,decide_eq_true_eq];exact ⟨λh j e=>(by cases e;exact h),λh=>h i rfl⟩
theorem b8m {w:Str}{c:Option Int}(h:V7 w=some c):∀ i,c=some i->-1000000000<=i/\i<=1000000000:=by
 unfold V7 at h
 split at h
 ·rename_i z
  cases h;rw [Bool.and_eq_true] at z;exact a1O.mp z.2
 ·cases h
theorem W5 {ws:List Str}{n:Nat}{ks:List Int}(h:L9 ws n=some ks):ws.length=n/\ks.length=n/\(ws.all λw=>numB (i8 w))=true/\ks=ws.map λw=>numOf (i8 w):=by
 unfold L9 at h
 split at h
 ·rename_i z
  cases h;rw [Bool.and_eq_true,decide_eq_true_eq] at z;exact ⟨z.1,by rw [List.length_map];exact z.1,z.2,rfl⟩
 ·cases h
end L2
namespace L2
open PySem PySem.Spec PyProof.Rows
structure c2m (P:Program)(w:World)(outer:List Env)(H H':Hp)(hA B:Heap):Prop where
 hok:HOk P w H' B
 keep:∀ b o,hA.get? b=some o->H b=none->b ∉ frs outer->B.get? b=some o
 free:∀ b o,hA.get? b=some o->H b=none->H' b=none
 there:∀ b o,hA.get? b=some o->b ∉ frs outer->∃ u,B.get? b=some u
 tups:∀ b xs,H b=some (.tup xs)->H' b=some (.tup xs)
 frzs:∀ b o u,H b=some (.frz o u)->H' b=some (.frz o u)
 tbls:∀ b ps,H b=some (.tbl ps)->∃ more,H' b=some (.tbl (ps ++ more))
noncomputable def Fly (P:Program)(w:World)(outer:List Env)(H H':Hp)(hA h:Heap)(x:Addr)(C:Value):Prop :=
 ∃ B arg,c2m P w outer H H' hA B/\Heap.FlyingW B outer x C arg h/\∀ b o,hA.get? b=some o->b∈frs outer->∃ sl,h.get? b=some { o with slots:=sl }
section
variable {P:Program}{w:World}{outer:List Env}{H H':Hp}{hA h:Heap}{x:Addr}{C:Value}
theorem Fly.un (F:Fly P w outer H H' hA h x C):Un (frs outer) [] H H' hA h/\HOk P w H' h:=by
 obtain ⟨B,arg,b,f,fr⟩:=F;exact ⟨⟨λc o e n hc _=>f.1 _ _ (b.keep c o e n hc),λc o e n hc _=>fr c o e hc,λc o e n _=>b.free c o e n,λc o e _=>by
  by_cases hc:c∈frs outer
  ·obtain ⟨sl,e2⟩:=fr c o e hc;exact ⟨_,e2⟩
  ·obtain ⟨u,e2⟩:=b.there c o e hc;exact ⟨u,f.1 _ _ e2⟩,b.tups,b.frzs,b.tbls⟩,b.hok.kept f.1⟩
end
noncomputable abbrev bmV:List Value:=[.type "ValueError",.type "Exception",.type "BaseException",.type "object"]
noncomputable abbrev a5t:String := "ValueError.__new__"
theorem c4g {K:PySem.W.Frag}{h:Heap}{C:Addr}(kin:K.In h)(q:PySem.W.excIn K C bmV a5t=true) :
  ∃ bm N nm qn bs hdc sn sub ab col dd k0 k1 k2 k3 k5 mN,h.get? C=some (excClassObj nm qn C N bs bm hdc sn sub ab col dd k0 k1 k2 k3 k5 a5t)/\h.Ns N mN/\mN "__init__" = none/\OwnTail h bmV bm:=by
 unfold PySem.W.excIn at q
 split at q
 ·rename_i dd data sl look
  split at q
  ·rename_i C1 bm k0 k1 k2 k3 n k5 hmro hslots
   simp only [beq_iff_eq,Bool.and_eq_true,Bool.not_eq_true'] at q;obtain ⟨⟨⟨⟨⟨e1,e2⟩,e3⟩,e4⟩,e5⟩,e6⟩:=q;subst e1 e2;obtain ⟨nm,bs,mro,ns,qn,hdc,sn,sub,ab,col,del⟩:=data;dsimp only at hmro e3 e5 e6;subst hmro e3;obtain ⟨ls⟩:=sl;have e7:ls=[k0,k1,k2,k3,some (.builtin a5t),k5]:=hslots;subst e7;exact ⟨bm,ns,nm,qn,bs,hdc,sn,sub,ab,col,dd,k0,k1,k2,k3,k5,_,kin _ _ look,.of_isNs (PySem.W.isNs_of_in kin e5),PySem.W.nsMap_none_of_in kin e5 e6,PySem.W.tail_of_in kin e4⟩
  ·cases q
 ·cases q
noncomputable def c7a (C:Addr)(E:XK)(t:TA):TS:=λ_ σ H=>t σ H λvs H1=>vs.length <= sizeLine/\E (.ref C) none H1
section
variable {X:Cx}{x:Str}{C:Addr}{E:XK}{e:Expr}{es:List Expr}{t:TA}{np cpos pos:Pos}
noncomputable def b9M (X:Cx)(E:XK):Prop:=∀ (pins:List (Addr × Obj)) (σ:St) (H1:Hp) (s1:Shared) (h2:Heap) (y:Addr) (cls:Value) (args:List Value),Inv X pins σ H1 s1->Heap.MadeExcOf s1.heap h2 y cls args->E cls none H1->X.xe (.ref y) { s1 with heap:=h2 }
theorem N6 (hc:X.calm=true) (hx:b9M X E) (hm:X.mg x=some (.ref C)) (q:PySem.W.excIn X.K C bmV a5t=true) (ha:PA X (e :: es) t) (hg:Gl X x:=by rfl) (hdb:(x == ("__debug__" : Str))=false:=by decide)
  (he:starEach (e :: es) X.env=(false,eval e X.env) :: starEach es X.env:=by rfl) (hpl:(backTo cpos (starEach (e :: es) X.env)).any (·.1)=false:=by rfl) :
  PS X (.Raise (some (.Call (.Name x np) (e :: es) [] cpos)) none pos) (c7a C E t):=by
 intro pins s σ H D I h;obtain ⟨bm,N,nm,qn,bs,hdc,sn,sub,ab,col,dd,k0,k1,k2,k3,k5,mN,hC,hN,hni,tl⟩:=c4g I.ok.mod.kin q;refine wpAny_Raise_call_subT (C:=C) (nm:=nm) (q:=qn) (N:=N) (bs:=bs) (bm:=bm) (hdct:=hdc) (sn:=sn) (sub:=sub) (ab:=ab) (col:=col) (dd:=dd) (k0:=k0) (k1:=k1) (k2:=k2) (k3:=k3) (k5:=k5) PySem.F.excBase_ValueError (mN:=mN) (tl.hasType .(28)) (I.ok.hd hc) hpl hni ?_;refine a5x I hg hm ⟨rfl,?_⟩ hdb;have hA:=ha cpos pins s σ H _ I h;rw [he] at hA ⊢;refine Calls.evalArgs_plain (thn hA λus s2 ⟨vs,H2,I2,r,q2,q3⟩=>⟨rfl,?_,I2.bk _ _ hC,hN.keeps I2.bk,tl.keeps I2.bk,λh' y hm=>hx pins σ H2 s2 h' y _ _ I2 hm q3⟩)
 ·rw [o8.length r] at q2;exact q2
end
noncomputable def b8n (x:Addr)(C:Value)(h:Heap):Prop:=∃ o,h.get? x=some o/\o.cls=C
noncomputable def O5 (K:PySem.W.Frag)(D:Addr):Bool :=
 PySem.W.findIn K (.ref D) "__getattribute__" == some (some (.builtin "BaseException.__getattribute__")) && PySem.W.findIn K (.ref D) "__getattr__" == some none && PySem.W.mroIn K D (.type "BaseException") == some true && (PySem.W.clsIn K D).isSome && PySem.W.findIn K (.ref D) "__class__" == some (some (.builtin "object.__class__")) &&
  PySem.W.specialIn K (.builtin "object.__class__") "__get__" == some (some (.builtin "getset_descriptor.__get__")) && PySem.W.takesIn K (.builtin "object.__class__") == some true && PySem.W.mroIn K D (.type "object") == some true
section
open PySem.W PySem.Calls PySem.Builtin PySem.Builtin.ObjectAttr PySem.Builtin.Getset_descriptor
variable {K:PySem.W.Frag}{x D:Addr}
theorem b8e {M:Model}{h:Heap}{C:Value}(p:b8n x C h):Looks M h (typeOf (.ref x)) C:=by
 obtain ⟨o,h1,h2⟩:=p;exact h2 ▸ (Looks.ld h1).andThen .now
theorem b4k (q:O5 K D=true):KitX K (.ref x) (.ref D) (b8n x (.ref D)):=by
 unfold O5 at q;simp only [Bool.and_eq_true,beq_iff_eq] at q;obtain ⟨⟨⟨⟨⟨⟨⟨hga,hgn⟩,hmb⟩,hc⟩,ha⟩,hn⟩,htk⟩,hm⟩:=q;have there:∀ h:Heap,K.In h->∃ c d cd sl,h.get? D=some ⟨c,d,.cls cd,sl⟩:=λh X=>by
  unfold clsIn at hc
  split at hc
  ·rename_i c' d' cd' sl' ho
   exact ⟨c',d',cd',sl',X _ _ ho⟩
  ·cases hc
 refine ⟨λ_ _ _ p=>b8e p,λM h X _=>?_,λh tp dd its n sl X htp=>?_,λ{prog w A E Q s} X p k=>?_⟩
 ·obtain ⟨c,d,cd,sl,ho⟩:=there h X;intro A' Q' E' s' k q;unfold isType loadHead;exact wpAny_bind (wpAny_loadPart (k _ _ ho) (wpAny_pure q))
 ·obtain ⟨c,d,cd,sl',ho⟩:=there h X;refine Bool.eq_false_iff.mpr λq=>?_;have e:D=tp:=Value.ref.inj (beq_iff_eq.mp q);subst e;have z:=ho.symm.trans htp;cases z
 ·obtain ⟨hh,g,dr,t,os⟩:=s;have L0:=b8e (M:=model prog w) p;have L1:=looks_findIn (M:=model prog w) X hga;have L3:=looks_mroIn (M:=model prog w) X hm;have LB:=looks_mroIn (M:=model prog w) X hmb;have LF:Looks (model prog w) hh (find (.ref x) (.ref D) "__class__") (.bind (.builtin "getset_descriptor.__get__") (.builtin "object.__class__")):=by
   refine (looks_findIn X ha).andThen ((looks_specialIn X hn).andThen ?_);exact (show Looks _ hh (dataDescriptor? (some (.builtin "object.__class__")) (some (.builtin "getset_descriptor.__get__"))) _ from (looks_takesIn X htk).andThen .now).andThen (Looks.tag .now)
  unfold getAttr? getAttrBy? getAttrBy;refine wpAny_bind (wpAny_mkText (wpAny_bind (wpAny_attempt (wpAny_holding (wpAny_bind (L0.at (wpAny_bind (L1.at ?_))))))))
  show wpAny _ _ (getAttrByItsOwn (.ref x) (.str "__class__" t) (.ref D) (.builtin "BaseException.__getattribute__") false false) _ _ _
  unfold getAttrByItsOwn callGetattribute boundAndCalled;refine wpAny_bind ((looks_hook X (show (if onTheHeap (.ref D) then findIn K (.ref D) "__getattr__" else some none)=some none from hgn)).at ?_);refine wpAny_bind (wpAny_attempt (wpAny_holding ?_))
  show wpAny _ _ (bindSpecial (.builtin "BaseException.__getattribute__") (.ref x) >>= _) _ _ _
  refine wpAny_bind (wpAny_of_eq (F.excAttr_ValueError.ga.bind _) ?_)
  show wpAny _ _ (call (.builtin "BaseException.__getattribute__") [.ref x,.str "__class__" t]) _ _ _
  refine wpAny_call (codeAny_call_builtin F.excAttr_ValueError.ga.plain F.entry_bexc_ga (check_slot (i := "BaseException.__getattribute__") (owner := "BaseException") (n := "__getattribute__") .(28) .(28) (L0.andThen LB) (F.args_bexc_ga _ _) ?_));unfold Builtin.«object.__getattribute__»;refine wpAny_bind (wpAny_pure (wpAny_bind (wpAny_pure (wpAny_bind (L0.at (wpAny_bind (LF.at ?_)))))));refine wpAny_bind (wpAny_holding (wpAny_call ?_));refine codeAny_call_builtin KF.slot_gs.plain KF.entry_gs (KF.slot_gs.check _ _ _ _ _ _ _ _ KF.type_class (KF.args_gs _ _ _) ?_);unfold Builtin.«getset_descriptor.__get__» descrGet;rw [dga_obj];refine wpAny_bind (wpAny_pure ?_);unfold descrGetter descrCheckInstance descrNameAndClass isInstance;simp only [KF.owner_class]
  repeat lk
  refine ⟨Code.quiet_builtin _ .(28),codeAny_builtin KF.entry_class ?_⟩;unfold Builtin.«object.__class__» shownTypeOf
  repeat lk
  exact k
end
section
variable {P:Program}{w:World}{H:Hp}{h:Heap}{a:Addr}{o:HO}
theorem E5.there (x:E5 P w H h a o):∃ u,h.get? a=some u:=by
 cases o with
 | lst xs=>obtain ⟨_,_,_,_,e⟩:=x;exact ⟨_,e⟩
 | tup xs=>obtain ⟨_,_,_,p⟩:=x;obtain ⟨u,e,_⟩:=p;exact ⟨u,e⟩
 | dK kvs=>obtain ⟨_,_,_,_,o,_,_,e,_⟩:=x;exact ⟨_,e⟩
 | dT kvs=>obtain ⟨_,_,_,_,o,_,_,e,_⟩:=x;exact ⟨_,e⟩
 | set S n=>obtain ⟨o,_,_,_,e,_⟩:=x;exact ⟨_,e⟩
 | ins C dx fs=>obtain ⟨_,_,_,e,_⟩:=x;exact ⟨_,e⟩
 | own y=>exact x
 | xd fs=>obtain ⟨_,⟨_,_,_,e,_⟩,_⟩:=x;exact ⟨_,e⟩
 | rng lo hi=>obtain ⟨_,_,_,e⟩:=x;exact ⟨_,e⟩
 | frz ob u=>obtain ⟨e,_⟩:=x;exact ⟨_,e⟩
 | tbl ps=>exact ⟨_,show h.get? a=some _ from x⟩
 | met f y=>exact ⟨_,show h.get? a=some _ from x⟩
 | ext φ=>exact x.2.1
end
noncomputable def Cx.markX (X:Cx)(v:Value):Cx:={ X with A:=X.A.mark (some v),calm:=false,xe:=λ_ _=>False }
noncomputable def b9y (CX:CXT)(X:Cx)(W:St->XK):Prop:=∀ (pins:List (Addr × Obj)) (σ:St) (H:Hp) (s:Shared) (e:Value) (s':Shared),Inv X pins σ H s->CX X.stack H s (W σ) e s'->X.xe e s'
section
variable {X:Cx}{pins:List (Addr × Obj)}{σ:St}{H:Hp}{s:Shared}{W:St->XK}
theorem Cx.Ok.mark {v:Value}(o:X.Ok):(X.markX v).Ok:=⟨o.mod,o.kind,o.glob,o.blt,o.above,o.inj,o.has,o.cab,(λz=>by cases z),o.frames,o.stk,o.exf,o.bs,o.bsz,o.noex,o.exfs,o.funs,o.frf⟩
theorem Inv.markIn {v:Value}(I:Inv X pins σ H s):Inv (X.markX v) pins σ H s:=⟨I.ok.mark,I.os,I.bare,I.base,I.loc,I.cell,I.free,I.freeC,I.pin,I.hok,I.len⟩
theorem Inv.markOut {v:Value}(I:Inv (X.markX v) pins σ H s)(o:X.Ok):Inv X pins σ H s:=⟨o,I.os,I.bare,I.base,I.loc,I.cell,I.free,I.freeC,I.pin,I.hok,I.len⟩
theorem b3L {H0 H':Hp}{s0 s1:Shared}{B h:Heap}{x:Addr}{C arg:Value}(I0:Inv X pins σ H0 s0)(hex:X.ex=[])(os:s1.os=s0.os)(bare:AllBare s1.gens)(b:c2m X.prog X.w X.stack H0 H' s0.heap B)
  (fl0:Heap.FlyingW B X.stack x C arg s1.heap) (fr:∀ b o,s0.heap.get? b=some o->b∈frs X.stack -> ∃ sl,s1.heap.get? b=some { o with slots:=sl }) (fl:Heap.FlyingW B X.stack x C arg h) (up:s1.heap.UpToSlots h) :
  Inv X pins σ (upd H' x (.ext (b8n x C))) { s1 with heap:=h }/\H' x=none:=by
 have F:Fly X.prog X.w X.stack H0 H' s0.heap h x C:=⟨B,arg,b,fl,λc o e hc=>by
  obtain ⟨sl,e1⟩:=fr c o e hc;have hd:∀ vs,o.data ≠ .fields vs:=λvs z=>by
   obtain ⟨_,o',ho',hnd⟩:=fl0.2.2.1.mem (b:=c) hc;rw [e1] at ho';cases ho';exact hnd vs z
  obtain ⟨sl2,e2⟩:=up c _ e1 hd;exact ⟨sl2,e2⟩⟩
 obtain ⟨un,hok⟩:=F.un;have I1:Inv X pins σ H' { s1 with heap:=h }:=I0.call' os un hok bare (λb z=>by cases z);have hn:H' x=none:=by
  cases e:H' x with
  | none=>rfl
  | some o =>
   obtain ⟨u,hu⟩:=(b.hok x o e).there;rw [fl.2.1] at hu;cases hu
 have new0:∀ o,s0.heap.get? x≠some o:=λo e=>by
  by_cases hc:x∈frs X.stack
  ·obtain ⟨_,o',ho',hnd⟩:=fl.2.2.1.mem (b:=x) hc;obtain ⟨oe,vs,_,_,_,he,_,hd,_⟩:=fl.2.2.2;rw [he] at ho';cases ho';exact hnd vs hd
  ·obtain ⟨u,hu⟩:=b.there x o e hc;rw [fl.2.1] at hu;cases hu
 have noE:∀ b:Addr,b ∉ X.ex:=λb z=>by rw [hex] at z;cases z
 refine ⟨⟨I1.ok,I1.os,I1.bare,⟨I1.base.keep,I1.base.slot,λc o e n hx=>?_,I1.base.there,λc xs q=>?_,λc o u q=>?_,λc ps q=>?_⟩,I1.loc,I1.cell,?_,λy c e=>?_,λp hp=>?_,λc o q=>?_,I1.len⟩,hn⟩
 ·have q:=I1.base.free c o e n hx;rw [j4 ?_]
  ·exact q
  ·rintro rfl;obtain ⟨o',e'⟩:=I0.base.there _ o e hx;exact new0 o' e'
 ·have q:=I1.base.tups c xs q;rw [j4 (d6 q hn)];exact q
 ·have q:=I1.base.frzs c o u q;rw [j4 (d6 q hn)];exact q
 ·obtain ⟨more,q⟩:=I1.base.tbls c ps q;exact ⟨more,by rw [j4 (d6 q hn)];exact q⟩
 ·obtain ⟨m,⟨o,es,ep,ho,_⟩,_⟩:=I0.loc;rw [j4 (λz=>new0 o (by rw [← z];exact ho))];exact I1.free
 ·obtain ⟨v,o,ho,_⟩:=I0.cell y c e;rw [j4 (λz=>new0 o (by rw [← z];exact ho))];exact I1.freeC y c e
 ·obtain ⟨e,n,ne,nf,d⟩:=I1.pin p hp;obtain ⟨e0,_⟩:=I0.pin p hp;exact ⟨e,by rw [j4 (λz=>new0 p.2 (by rw [← z];exact e0))];exact n,ne,nf,d⟩
 ·by_cases hc:c=x
  ·subst hc;rw [b7] at q;cases q;have ex:b8n c C h:=fl.there;obtain ⟨o,ho,hcl⟩:=ex;exact ⟨⟨o,ho,hcl⟩,⟨o,ho⟩,λh1 h2 ⟨o1,e1,c1⟩ k=>⟨o1,k o1 e1,c1⟩⟩
  ·rw [j4 hc] at q;exact (I1.hok c o q).stay (λ_ _ _ z=>z) (λd z=>by rw [j4 (d6 z hn)];exact z) λd xs z=>by rw [j4 (d6 z hn)];exact z
theorem a8O {M:Model}{A:Around}{E:Value->Shared->Prop}{i:Nat}{n:Str}{pos:Pos}{Q:Unit->Shared->Prop}(I:Inv X pins σ H s)(hN:X.N.Nodup)(hi:X.N[i]? = some n)(hk:X.env.kindOf n=some .local)
  (h:∀ s',Inv X pins (σ.set i none) H s'->Q () s'):wpAny M A (do bindName X.env n .none;unbindBehindTheSuite X.env n pos) Q E s:=by
 obtain ⟨m,hn,hl⟩:=id I.loc;have hcls:(X.env.scope.kind == .class || (X.env.scope.kind == .module && X.env.locals != X.env.globals))=false:=by rw [I.ok.kind];rfl
 have hiσ:i < σ.length:=by rw [I.len];exact (List.getElem?_eq_some_iff.mp hi).1
 have cne:=I.cne;obtain ⟨oL,_,_,hoL,_⟩:=id hn;refine wpAny_nameGoes_keeps hk hn hcls λh' v hn' hs=>h _ ⟨I.ok,I.os,I.bare,⟨λb o e n hb hx=>?_,λb o e n hb hx=>?_,I.base.free,λb o e hx=>?_,I.base.tups,I.base.frzs,I.base.tbls⟩,⟨_,hn',λj y v' e1 e2 e3=>?_⟩,λy c e=>?_,I.free,I.freeC,λp hp=>?_,λb ob e=>?_,by simpa using I.len⟩
 ·exact (hs.2 b (Nat.ne_of_lt (Nat.lt_of_lt_of_le (Heap.lt_size e) I.ok.above))).trans (I.base.keep b o e n hb hx)
 ·obtain ⟨sl,e1⟩:=I.base.slot b o e n hb hx;exact ⟨sl,(hs.2 b (Nat.ne_of_lt (Nat.lt_of_lt_of_le (Heap.lt_size e) I.ok.above))).trans e1⟩
 ·obtain ⟨o',e1⟩:=I.base.there b o e hx;exact ⟨o',(hs.2 b (Nat.ne_of_lt (Nat.lt_of_lt_of_le (Heap.lt_size e) I.ok.above))).trans e1⟩
 ·by_cases hj:j=i
  ·subst hj;rw [List.getElem?_set_self hiσ] at e2;cases e2
  ·rw [List.getElem?_set_ne (Ne.symm hj)] at e2;obtain ⟨u',r',q⟩:=hl j y v' e1 e2 e3;refine ⟨u',r',?_⟩
   rcases q with ⟨k,e⟩ | ⟨k,c,e,z⟩
   ·refine .inl ⟨k,?_⟩;have:y≠n:=λe=>hj (a1S hN e1 (e ▸ hi))
    simp [this,e]
   ·exact .inr ⟨k,c,e,z.sameBut hs (cne y c e)⟩
 ·obtain ⟨w',z⟩:=I.cell y c e;exact ⟨w',z.sameBut hs (cne y c e)⟩
 ·obtain ⟨e,n,ne,nf,d⟩:=I.pin p hp;exact ⟨(hs.2 p.1 ne).trans e,n,ne,nf,d⟩
 ·refine (I.hok b ob e).stay (λc w' hc q=>(hs.2 c ?_).trans q) (λ_ q=>q) λ_ _ q=>q;have hfree:=I.free;rintro rfl
  rcases hc with rfl | hc
  ·rw [hfree] at e;cases e
  ·rw [hfree] at hc;cases hc
end
noncomputable def c9a (C:Addr)(m:Str)(sp:Sp)(dvs:List V)(W:St->XK)(ta:TE)(t:TA):TE:=fun σ=>a5P C m sp dvs (W σ) ta t σ
section
variable {X:Cx}{CX:CXT}{k:Nat}{f C:Addr}{fd:FuncData}{ps:List Str}{sp:Sp}{dvs:List V}{ds:List Value}{E:XK}{W:St->XK}{x m:Str}{p pos apos:Pos}{e o:Expr}{es:List Expr}{ta:TE}{t:TA}
theorem b6S {pins:List (Addr × Obj)}{σ:St}{H:Hp}{s:Shared}{Q:VK}{us:List Value}{vs:List V}(F:a7n X.prog X.w X.K X.mg X.base CX k f fd ps sp)(hr:G4 k X.A)(hb:O9 X.K fd ps ds)(hd:o8 dvs ds)(hx:∀ e s',CX X.stack H s E e s'->X.xe e s')
  (I:Inv X pins σ H s) (r:o8 vs us) (h:sp (vs ++ dvs) H Q E):wpAny (model X.prog X.w) X.A (call (.ref f) us) (EP X pins σ Q) X.xe s:=by
 have r2:o8 (vs ++ dvs) (us ++ ds):=r.append hd;have hl:(us ++ ds).length=ps.length:=by rw [← r2.length];exact F.len _ _ _ _ h
 refine wpAny_call (codeAny_mono (F.run X.A X.stack s H ⟨us,[]⟩ (us ++ ds) (vs ++ dvs) Q E hr I.env0 (hb s us I.kIn hl) r2 h) λr s' hq=>?_);cases r with
 | error e=>exact hx e s' hq
 | ok fl =>
  cases fl with
  | ret u=>exact I.after hq
  | next=>exact False.elim hq
  | brk=>exact False.elim hq
  | cont=>exact False.elim hq
end
noncomputable def cV:V->Value
 | .ref a=>.ref a
 | .ty n=>.type n
 | _=>.none
noncomputable def b9w:V->Bool
 | .ref _=>true
 | .ty _=>true
 | _=>false
theorem b8Z {c:V}{u:Value}(r:u7 c u)(h:b9w c=true):u=cV c:=by
 cases c <;> first | exact r | cases h
theorem b6L:∀ {cs:List V} {us:List Value},o8 cs us->cs.all b9w=true->us=cs.map cV
 | _,_,.nil,_=>rfl
 | _,_,.cons r t,h=>by
  rw [List.all_cons,Bool.and_eq_true] at h;rw [List.map_cons,b8Z r h.1,b6L t h.2]
theorem a8W:bootBuiltins "ValueError" = some (.type "ValueError"):=by decide +kernel
noncomputable def b5s (K:PySem.W.Frag) (aN aF aM aP aW:Addr):Bool:=[O5 K aN,PySem.W.exmOne K (.ref aN) (.ref aW) == some true,PySem.W.kitOne K (.ref aN) (.type "ValueError") == some true,O5 K aF,PySem.W.exmOne K (.ref aF) (.ref aW) == some true,PySem.W.kitOne K (.ref aF) (.type "ValueError") == some true,O5 K aM,PySem.W.exmOne K (.ref aM) (.ref aW) == some true,PySem.W.kitOne K (.ref aM) (.type "ValueError") == some true,O5 K aP,PySem.W.exmOne K (.ref aP) (.ref aW) == some true,PySem.W.kitOne K (.ref aP) (.type "ValueError") == some true,PySem.W.kitOne K (.ref aN) (.ref aN) == some true,PySem.W.kitOne K (.ref aN) (.ref aF) == some false,PySem.W.kitOne K (.ref aN) (.ref aM) == some false,PySem.W.kitOne K (.ref aN) (.ref aP) == some false,PySem.W.kitOne K (.ref aF) (.ref aN) == some false,PySem.W.kitOne K (.ref aF) (.ref aF) == some true,PySem.W.kitOne K (.ref aF) (.ref aM) == some false,PySem.W.kitOne K (.ref aF) (.ref aP) == some false,PySem.W.kitOne K (.ref aM) (.ref aN) == some false,PySem.W.kitOne K (.ref aM) (.ref aF) == some false,PySem.W.kitOne K (.ref aM) (.ref aM) == some true,PySem.W.kitOne K (.ref aM) (.ref aP) == some false,PySem.W.kitOne K (.ref aP) (.ref aN) == some false,PySem.W.kitOne K (.ref aP) (.ref aF) == some false,PySem.W.kitOne K (.ref aP) (.ref aM) == some false,PySem.W.kitOne K (.ref aP) (.ref aP) == some true,PySem.W.excIn K aN bmV a5t,PySem.W.excIn K aP bmV a5t].all id
structure b2h (K:PySem.W.Frag)(mg:Str->Option Value)(aN aF aM aP aW:Addr):Prop where
 ask:mg "NoAsk" = some (.ref aN)
 field:mg "NoField" = some (.ref aF)
 number:mg "NoNumber" = some (.ref aM)
 place:mg "NoPlace" = some (.ref aP)
 win:mg "WindowError" = some (.ref aW)
 kitN:O5 K aN=true
 exmN:PySem.W.exmOne K (.ref aN) (.ref aW)=some true
 veN:PySem.W.kitOne K (.ref aN) (.type "ValueError")=some true
 kitF:O5 K aF=true
 exmF:PySem.W.exmOne K (.ref aF) (.ref aW)=some true
 veF:PySem.W.kitOne K (.ref aF) (.type "ValueError")=some true
 kitM:O5 K aM=true
 exmM:PySem.W.exmOne K (.ref aM) (.ref aW)=some true
 veM:PySem.W.kitOne K (.ref aM) (.type "ValueError")=some true
 kitP:O5 K aP=true
 exmP:PySem.W.exmOne K (.ref aP) (.ref aW)=some true
 veP:PySem.W.kitOne K (.ref aP) (.type "ValueError")=some true
 kNN:PySem.W.kitOne K (.ref aN) (.ref aN)=some true
 kNF:PySem.W.kitOne K (.ref aN) (.ref aF)=some false
 kNM:PySem.W.kitOne K (.ref aN) (.ref aM)=some false
 kNP:PySem.W.kitOne K (.ref aN) (.ref aP)=some false
 kFN:PySem.W.kitOne K (.ref aF) (.ref aN)=some false
 kFF:PySem.W.kitOne K (.ref aF) (.ref aF)=some true
 kFM:PySem.W.kitOne K (.ref aF) (.ref aM)=some false
 kFP:PySem.W.kitOne K (.ref aF) (.ref aP)=some false
 kMN:PySem.W.kitOne K (.ref aM) (.ref aN)=some false
 kMF:PySem.W.kitOne K (.ref aM) (.ref aF)=some false
 kMM:PySem.W.kitOne K (.ref aM) (.ref aM)=some true
 kMP:PySem.W.kitOne K (.ref aM) (.ref aP)=some false
 kPN:PySem.W.kitOne K (.ref aP) (.ref aN)=some false
 kPF:PySem.W.kitOne K (.ref aP) (.ref aF)=some false
 kPM:PySem.W.kitOne K (.ref aP) (.ref aM)=some false
 kPP:PySem.W.kitOne K (.ref aP) (.ref aP)=some true
 inN:PySem.W.excIn K aN bmV a5t=true
 inP:PySem.W.excIn K aP bmV a5t=true
theorem b2h.of {K:PySem.W.Frag} {mg:Str->Option Value} {aN aF aM aP aW:Addr} (h1:mg "NoAsk" = some (.ref aN)) (h2:mg "NoField" = some (.ref aF)) (h3:mg "NoNumber" = some (.ref aM)) (h4:mg "NoPlace" = some (.ref aP)) (h5:mg "WindowError" = some (.ref aW))
  (h:b5s K aN aF aM aP aW=true):b2h K mg aN aF aM aP aW:=by
 unfold b5s at h;simp only [List.all_cons,List.all_nil,id,Bool.and_eq_true,beq_iff_eq] at h;obtain ⟨z0,z1,z2,z3,z4,z5,z6,z7,z8,z9,z10,z11,z12,z13,z14,z15,z16,z17,z18,z19,z20,z21,z22,z23,z24,z25,z26,z27,z28,z29,_⟩:=h;exact ⟨h1,h2,h3,h4,h5,z0,z1,z2,z3,z4,z5,z6,z7,z8,z9,z10,z11,z12,z13,z14,z15,z16,z17,z18,z19,z20,z21,z22,z23,z24,z25,z26,z27,z28,z29⟩
theorem a6x {K:PySem.W.Frag}{t c:Value}{r:List Value}{b:Bool}(h:PySem.W.kitOne K t c=some false)(hr:PySem.W.kitAny K t r=some b):PySem.W.kitAny K t (c :: r)=some b:=by
 unfold PySem.W.kitAny;rw [h];exact hr
section
open PySem.W PySem.Calls PySem.Builtin PySem.Builtin.ObjectAttr PySem.Builtin.Getset_descriptor
variable {prog:Program}{w:World}{A:Around}{E:Value->Shared->Prop}{s:Shared}{K:PySem.W.Frag}{x D dx:Addr}{f:Str}{mA:Str->Option Value}{v:Value}
theorem c8n {b:Bool}{ox od:Obj}{Q:Value->Shared->Prop}(X:K.In s.heap)(q:O5 K D=true)(hh:hasDictIn K D=true)(I:InstAt s.heap x ox D (some od))(ha:findIn K (.ref D) f=some none)
  (hl:lookIn f od=some (some v)) (hv:handedIn v=true) (k:Q v { s with toks:=s.toks + 1 }):wpAny (model prog w) A (getAttr (.ref x) f b) Q E s:=by
 unfold O5 at q;simp only [Bool.and_eq_true,beq_iff_eq] at q;obtain ⟨⟨⟨⟨⟨⟨⟨hga,hgn⟩,hmb⟩,hc⟩,_⟩,_⟩,_⟩,hm⟩:=q;obtain ⟨hp,g,dr,t,os⟩:=s;have L0:Looks (model prog w) hp (typeOf (.ref x)) (.ref D):=I.type;have L1:=looks_findIn (M:=model prog w) X hga;have LB:=looks_mroIn (M:=model prog w) X hmb;have LF:Looks (model prog w) hp (find (.ref x) (.ref D) f) (.value v):=looks_find X I (findObj_own hh ha rfl hl);unfold getAttr getAttrBy;refine wpAny_bind (wpAny_mkText (wpAny_holding (wpAny_bind (L0.at (wpAny_bind (L1.at ?_))))))
 show wpAny _ _ (getAttrByItsOwn (.ref x) (.str f t) (.ref D) (.builtin "BaseException.__getattribute__") true b) _ _ _
 unfold getAttrByItsOwn callGetattribute boundAndCalled;refine wpAny_bind ((looks_hook X (show (if onTheHeap (.ref D) then findIn K (.ref D) "__getattr__" else some none)=some none from hgn)).at ?_);rw [if_neg (by cases b <;> decide)];refine wpAny_bind (wpAny_attempt (wpAny_holding ?_))
 show wpAny _ _ (bindSpecial (.builtin "BaseException.__getattribute__") (.ref x) >>= _) _ _ _
 refine wpAny_bind (wpAny_of_eq (F.excAttr_ValueError.ga.bind _) ?_)
 show wpAny _ _ (call (.builtin "BaseException.__getattribute__") [.ref x,.str f t]) _ _ _
 refine wpAny_call (codeAny_call_builtin F.excAttr_ValueError.ga.plain F.entry_bexc_ga (check_slot (i := "BaseException.__getattribute__") (owner := "BaseException") (n := "__getattribute__") .(28) .(28) (L0.andThen LB) (F.args_bexc_ga _ _) ?_));unfold Builtin.«object.__getattribute__»;refine wpAny_bind (wpAny_pure (wpAny_bind (wpAny_pure (wpAny_bind (L0.at (wpAny_bind (LF.at ?_)))))));refine wpAny_pure ?_
 show wpAny _ _ (handedOut v) _ _ _
 rw [handedOut_of hv];exact wpAny_pure k
noncomputable def a9K:List Value->Bool
 | .ref _ :: r=>a9K r
 | l=>l == [.type "ValueError",.type "Exception",.type "BaseException",.type "object"]
theorem a9X (self:Value):∀ {l:List Value},a9K l=true->PySem.refuseLoop self "__setattr__" l=pure ()
 | .ref c :: r,e=>by rw [PySem.refuseLoop_ref];exact a9X self (show a9K r=true from e)
 | [],e=>by cases e
 | .type n :: r,e=>by
  have e:(.type n :: r)=[Value.type "ValueError",.type "Exception",.type "BaseException",.type "object"]:=beq_iff_eq.mp e;rw [e];exact F.store_ValueError.passes self
 | .none :: _,e=>by cases e
 | .ellipsis :: _,e=>by cases e
 | .notImplemented :: _,e=>by cases e
 | .bool _ :: _,e=>by cases e
 | .int _ _ :: _,e=>by cases e
 | .float _ _ :: _,e=>by cases e
 | .str _ _ :: _,e=>by cases e
 | .builtin _ :: _,e=>by cases e
theorem b4E:∀ {l:List Value},a9K l=true->l.contains (.type "object")=true
 | .ref c :: r,e=>by rw [List.contains_cons,b4E (l:=r) (show a9K r=true from e),Bool.or_true]
 | [],e=>by cases e
 | .type n :: r,e=>by
  have e:(.type n :: r)=[Value.type "ValueError",.type "Exception",.type "BaseException",.type "object"]:=beq_iff_eq.mp e;rw [e]
  decide +kernel
 | .none :: _,e=>by cases e
 | .ellipsis :: _,e=>by cases e
 | .notImplemented :: _,e=>by cases e
 | .bool _ :: _,e=>by cases e
 | .int _ _ :: _,e=>by cases e
 | .float _ _ :: _,e=>by cases e
 | .str _ _ :: _,e=>by cases e
 | .builtin _ :: _,e=>by cases e
theorem c9m {ox:Obj} {cd:ClassData} {Q:Unit->Shared->Prop} (X:K.In s.heap) (I:InstAt s.heap x ox D none) (hs:findIn K (.ref D) "__setattr__" = some (some (.builtin "object.__setattr__"))) (hc:clsIn K D=some cd)
  (hm:a9K cd.mro=true) (hd:cd.hasDict=true) (ha:findIn K (.ref D) f=some none)
  (h:∀ h' tk,h'.Ns1 s.heap.objs.size (λy=>if y=f then some v else none)->h'.get? x=some { ox with dict:=some s.heap.objs.size }->(∀ b o,s.heap.get? b=some o->b≠x->h'.get? b=some o)->Q () { s with heap:=h',toks:=tk }) :
  wpAny (model prog w) A (setAttr (.ref x) f v) Q E s:=by
 obtain ⟨hp,g,dr,t,os⟩:=s;have SF:=PySem.F.store_object;have ne:cd.mro.isEmpty=false:=by cases e:cd.mro with | nil=>rw [e] at hm;cases hm | cons _ _=>rfl
 have sub:Looks (model prog w) hp (isInstance (.ref x) (.type "object")) true:=I.type.andThen (looks_mroIn X (by unfold mroIn;rw [hc,Option.bind_some,if_neg (by rw [ne];decide),b4E hm]));have LM:Looks (model prog w) hp (mroOf (.ref D)) cd.mro:=(looks_clsIn X hc).andThen .now;refine set_plain X I hs ?_;refine codeAny_call_builtin SF.slot.plain SF.entry (@check_slot (model prog w) _ _ ⟨hp,g,dr,t + 1,os⟩ "object.__setattr__" "object" "__setattr__" (.ref x) [.str f t,v] [] _ SF.kind SF.split sub (SF.args (.ref x) (.str f t) v) ?_);rw [osa_eq,PySem.refuse_eq];refine wpAny_bind (wpAny_bind (I.type.at (wpAny_bind (LM.at ?_))));rw [a9X _ hm];refine wpAny_pure (wpAny_bind (I.type.at (wpAny_bind ((looks_findIn X ha).at (wpAny_bind (wpAny_pure ?_))))))
 show wpAny _ _ (storeInOwnDict (.ref x) (.ref D) (.str f t) f v false) _ _ _
 unfold storeInOwnDict ownDictForStores instanceDict;obtain ⟨hx,hcl,hno,hdx⟩:=I;obtain ⟨oc,odi,oda,osl⟩:=ox;dsimp only at hcl;subst hcl;have hdn:odi=none:=by cases odi with | none=>rfl | some _=>cases hdx
 subst hdn;refine wpAny_bind (wpAny_pure ?_);have nm:¬ (Value.ref D == Value.type "module")=true:=by simp
 rw [if_neg nm];refine wpAny_bind (wpAny_bind (wpAny_loadPart (show Heap.get? hp x=some _ from hx) ?_));dsimp only;refine wpAny_bind ((looks_clsIn X hc).at ?_);rw [hd,if_neg .(24),if_neg (by simp [typeHasDict])];have nc:∀ c,oda≠Data.cls c:=λc e=>by subst e;cases hno
 have xs:x≠hp.objs.size:=Nat.ne_of_lt (Heap.lt_size hx);have hx1:(hp.push { cls:=.type "dict",data:=.dict #[] }).get? x=some ⟨.ref D,none,oda,osl⟩:=Heap.get?_push_of_some _ hx;have go:wpAny (model prog w) A.in1 (do
   let d ← alloc { cls:=Value.type "dict",data:=Data.dict #[] }
   update x λo=>{ cls:=o.cls,dict:=some d,data:=o.data,slots:=o.slots }
   dictMade (.ref D) x d) (λr s'=>wpAny (model prog w) A.in1 (match r with | some d=>storeInDict d (Value.str f t) f v | none=>noDictFor (Value.ref x) (Value.ref D) f false) (λfin s'=>match fin with | .done fl=>(match Except.ok fl with | .ok (.ret _)=>Q () s' | .ok _=>False | .error e=>E e s') | .again c'=>c'.quiet=true/\codeAny (model prog w) A c' (λr s'=>match r with | .ok (.ret _)=>Q () s' | .ok _=>False | .error e=>E e s') s') (λe s'=>E e s') s') (λe s'=>E e s') ⟨hp,g,dr,t + 1,os⟩:=by
  refine wpAny_bind (wpAny_alloc' ?_);refine wpAny_bind (wpAny_update' hx1 ?_);refine wpAny_pure ?_;have gx:((hp.push { cls:=.type "dict",data:=.dict #[] }).update x λo=>{ cls:=o.cls,dict:=some hp.objs.size,data:=o.data,slots:=o.slots }).get? x=some ⟨.ref D,some hp.objs.size,oda,osl⟩:=by
   refine Heap.get?_update_self _ hx1 ?_;have fr:=(Heap.get?_some_iff.mp hx).2;cases oda <;> first | rfl | exact fr
  have gd:((hp.push { cls:=.type "dict",data:=.dict #[] }).update x λo=>{ cls:=o.cls,dict:=some hp.objs.size,data:=o.data,slots:=o.slots }).get? hp.objs.size=some { cls:=.type "dict",data:=.dict #[] }:=by
   rw [Heap.get?_update_ne _ _ _ _ xs.symm];exact Heap.get?_push_at rfl rfl
  have gb:∀ b o,hp.get? b=some o->b≠x->((hp.push { cls:=.type "dict",data:=.dict #[] }).update x λo=>{ cls:=o.cls,dict:=some hp.objs.size,data:=o.data,slots:=o.slots }).get? b=some o:=λb o e n=>by
   rw [Heap.get?_update_ne _ _ _ _ n];exact Heap.get?_push_of_some _ e
  generalize ((hp.push { cls:=.type "dict",data:=.dict #[] }).update x λo=>{ cls:=o.cls,dict:=some hp.objs.size,data:=o.data,slots:=o.slots })=h2 at gx gd gb;have nd:h2.Ns hp.objs.size (λ_=>none):=⟨_,#[],_,gd,rfl,λe he=>absurd he .(26),λ_=>rfl⟩
  show wpAny _ _ (storeInDict hp.objs.size (.str f t) f v) _ _ _
  unfold storeInDict newKeyGuard;refine wpAny_bind (wpAny_pure (wpAny_bind ?_));refine wpAny_nsSet1 (Heap.Ns1.of_empty nd) λh3 n3 s3=>?_;obtain ⟨oD,eD,pD,q1,q2,q3⟩:=n3.count (PySem.Within.cons f v PySem.Within.nil);have small:oD.data.pastItsLine=none:=by
   rw [q2];refine pastItsLine_dict (Nat.le_trans q3 ?_);rw [List.length_cons,List.length_nil,sizeLine_eq]
   omega
  refine wpAny_bind (wpAny_lookBehind q1 small ?_);refine wpAny_pure (h h3 _ n3 ?_ λb o e n=>?_)
  ·rw [s3.2 x xs];exact gx
  ·rw [s3.2 b (Nat.ne_of_lt (Heap.lt_size e))];exact gb b o e n
 cases oda with
 | cls c=>exact absurd rfl (nc c)
 | _=>exact go
end
section
open PySem.W
variable {prog:Program}{w:World}{A:Around}{E:Value->Shared->Prop}{h:Heap}{g:Array GenState}{d:Drawn}{t:Nat}{os:OsState}
variable {nm qn:Str}{C N fI:Addr}{bs bm:List Value}{hdc:Bool}{sn:List Str}{sub:List Value}{ab:Bool}{col:Option Bool}{dd:Option Addr}{k0 k1 k2 k3 k5:Option Value}
noncomputable abbrev b6a (C:Addr)(tp:Addr):Obj:={ cls:=.ref C,data:=.fields #[.ref tp,.none,.none,.none,.bool false,.none] }
theorem c3m {R:Result->Shared->Prop}{rest:List Value}{kw:List (Str × Value)}(T:OwnTail h bmV bm)(hC:h.get? C=some (excClassObj nm qn C N bs bm hdc sn sub ab col dd k0 k1 k2 k3 k5 a5t))(hz:rest.length <= sizeLine)
  (hR:R (.ok (.ret (.ref (h.objs.size + 1)))) ⟨(h.push { cls:=.type "tuple",data:=.seq rest.toArray }).push (b6a C h.objs.size),g,d,t,os⟩) :
  codeAny (model prog w) A (.builtin a5t ⟨.ref C :: rest,kw⟩) R ⟨h,g,d,t,os⟩:=by
 have F:=PySem.F.excBase_ValueError;have c1:(Value.ref C :: bm).contains (.type "ValueError")=true:=by rw [List.contains_cons,T.hasType F.hasB,Bool.or_true]
 have c2:(Value.ref C :: bm).contains (.type "AttributeError")=false:=by rw [List.contains_cons,T.hasType F.noAttr];rfl
 have c3:(Value.ref C :: bm).contains (.type "NameError")=false:=by rw [List.contains_cons,T.hasType F.noName];rfl
 have en:=F.ends;refine codeAny_builtinAt F.entry ?_;unfold Builtin.«BaseException.__new__»;refine PySem.wpAt_bind ?_
 show PySem.wpAt _ _ _ (stack >>= _) _ _ _
 refine PySem.wpAt_bind (PySem.wpAt_stack λ_ _=>PySem.wpAt_of_wpAny ?_)
 wp_walk
 refine PySem.wpAt_of_wpAny ?_;rw [F.owner]
 repeat (first
  | with_reducible refine wpAny_madeHere_exc F.canon hC ?_
  | with_reducible refine wpAny_loadPart_at hC ?_
  | (with_reducible refine wpAny_isSubtype_exc hC ?_;first | rw [c1] | rw [c2] | rw [c3])
  | wp_step)
 show R _ _
 rw [Heap.size_push];exact hR
theorem c2a {M:Model}{rest:List Value}{kw:List (Str × Value)}{Q:Unit->Shared->Prop}(T:OwnTail h bmV bm)(hC:h.get? C=some (excClassObj nm qn C N bs bm hdc sn sub ab col dd k0 k1 k2 k3 k5 a5t))(hq:Q () ⟨h,g,d,t,os⟩) :
  wpAny M A (checkBuiltinCall a5t ⟨.ref C :: rest,kw⟩) Q E ⟨h,g,d,t,os⟩:=by
 have F:=PySem.F.excBase_ValueError;have c1:(Value.ref C :: bm).contains (.type "ValueError")=true:=by rw [List.contains_cons,T.hasType F.hasB,Bool.or_true]
 have st:=F.noStar;simp only [checkBuiltinCall,F.newKind,F.newSplit,F.newRow]
 repeat (first
  | refine wpAny_loadPart_at hC ?_
  | (refine wpAny_isSubtype_exc hC ?_;rw [c1])
  | refine wpAny_staticBase_exc hC ?_
  | refine wpAny_madeBy_exc hC ?_
  | simp only [bne_self_eq_false,Bool.false_eq_true,if_false]
  | wp_step)
 exact hq
theorem c0i {mN:Str->Option Value}{rest:List Value}{kw:List (Str × Value)}{oI:Obj}{Q:PySem.Fin -> Shared->Prop}(T:OwnTail h bmV bm)(hC:h.get? C=some (excClassObj nm qn C N bs bm hdc sn sub ab col dd k0 k1 k2 k3 k5 a5t))(hn:h.Ns N mN)
  (hi:mN "__init__" = some (.ref fI)) (hf:h.get? fI=some oI) (hfc:oI.cls = .type "function") (hz:rest.length <= sizeLine)
  (hq:∀ h' e,Heap.MadeExcOf h h' e (.ref C) rest->h.objs.size <= e->wpAny (model prog w) A (call (.ref fI) (.ref e :: rest) kw) (λr s'=>r = .none /\ Q (.done (.ret (.ref e))) s') E ⟨h',g,d,t,os⟩) :
  wpAny (model prog w) A (Builtin.«type.__call__» ⟨.ref C :: rest,kw⟩) Q E ⟨h,g,d,t,os⟩:=by
 have F:=PySem.F.excBase_ValueError
 repeat (first
  | with_reducible refine wpAny_loadPart_at hC ?_
  | with_reducible refine wpAny_madeBy_exc hC ?_
  | wp_step)
 refine codeAny_call_builtin_code (Code.quiet_builtin _ F.quiet) (c2a T hC ?_);refine c3m T hC hz ?_
 show wpAny _ _ _ _ _ _
 have up:∀ b o,h.get? b=some o->((h.push { cls:=.type "tuple",data:=.seq rest.toArray }).push (b6a C h.objs.size)).get? b=some o:=λb o e=>Heap.get?_push_of_some _ (Heap.get?_push_of_some _ e);have ge:((h.push { cls:=.type "tuple",data:=.seq rest.toArray }).push (b6a C h.objs.size)).get? (h.objs.size + 1)=some (b6a C h.objs.size):=by heap_get
 have gt:((h.push { cls:=.type "tuple",data:=.seq rest.toArray }).push (b6a C h.objs.size)).get? h.objs.size=some { cls:=.type "tuple",data:=.seq rest.toArray }:=Heap.get?_push_of_some _ (Heap.get?_push_at rfl rfl);have hq1:=hq _ (h.objs.size + 1) ⟨up,Heap.get?_none_of_le (Nat.le_succ _),h.objs.size,ge,Heap.get?_none_of_le (Nat.le_refl _),gt⟩ (Nat.le_succ _);generalize (h.push { cls:=.type "tuple",data:=.seq rest.toArray }).push (b6a C h.objs.size)=h2 at up ge gt hq1 ⊢;have C2:=up _ _ hC;have n2:=hn.keeps up;have T2:=T.keeps up;have f2:=up _ _ hf;have cC:(Value.ref C :: bm).contains (.ref C)=true:=by simp
 unfold isInstance
 repeat (first
  | with_reducible refine wpAny_loadPart_at ge ?_
  | (with_reducible refine wpAny_isSubtype_exc C2 ?_;rw [cC])
  | wp_step)
 show wpAny _ _ (typeLookup (.ref C) _) _ _ _
 refine wpAny_typeLookup_tail C2 n2 T2 F.mroIs F.init.lookup ?_;rw [hi];refine wpAny_holding (wpAny_bind ?_);unfold bindSpecial;refine wpAny_bind (wpAny_typeOf (T := "function") ⟨oI,f2,hfc⟩ ?_);rw [if_pos .(24)];refine wpAny_pure (wpAny_bind (wpAny_mono hq1 (λr s' hr=>?_) λ_ _ z=>z));obtain ⟨rfl,hQ⟩:=hr
 wp_walk
 exact hQ
theorem c1i {mN:Str->Option Value}{rest:List Value}{kw:List (Str × Value)}{oI:Obj}{Q:Value->Shared->Prop}(T:OwnTail h bmV bm)(hC:h.get? C=some (excClassObj nm qn C N bs bm hdc sn sub ab col dd k0 k1 k2 k3 k5 a5t))(hn:h.Ns N mN)
  (hi:mN "__init__" = some (.ref fI)) (hf:h.get? fI=some oI) (hfc:oI.cls = .type "function") (hz:rest.length <= sizeLine)
  (hq:∀ h' e,Heap.MadeExcOf h h' e (.ref C) rest->h.objs.size <= e->wpAny (model prog w) (A.under (.builtin "type.__call__" ⟨.ref C :: rest,kw⟩)) (call (.ref fI) (.ref e :: rest) kw) (λr s'=>r = .none /\ Q (.ref e) s') E ⟨h',g,d,t,os⟩) :
  wpAny (model prog w) A (call (.ref C) rest kw) Q E ⟨h,g,d,t,os⟩:=by
 have f1:=tc_lookup;have f2:=tc_bind (.ref C);have hT:(⟨h,g,d,t,os⟩:Shared).TypeIs (.ref C) "type":=⟨_,hC,rfl⟩;have L:Looks (model prog w) h (isInstance (.ref C) (.type "type")) true:=(show Looks (model prog w) h (typeOf (.ref C)) (.type "type") from (Looks.ld hC).andThen .now).andThen (Looks.of_pure tc_sub);refine wpAny_call (codeAny_of_tree ?_)
 show wpAny _ _ (callAny (.ref C) _) _ _ _
 repeat (any_goals (first | assumption | with_reducible refine wpAny_loadPart_at hC ?_ | wp_step))
 refine ⟨rfl,?_⟩;refine codeAny_call_builtin_at (Code.quiet_builtin _ .(28)) entry_typeCall (check_slot tc_kind tc_split L (tc_args _ _ _) ?_);exact c0i T hC hn hi hf hfc hz λh' e hm he=>hq h' e hm he
end
noncomputable def ExA (x:Addr)(C:Value)(od:Option Addr)(h:Heap):Prop:=∃ o vs,h.get? x=some o/\o.cls=C/\o.data = .fields vs/\o.dict=od
noncomputable def ExN (x:Addr)(C:Value)(od:Option Addr)(h:Heap):Prop:=∃ o vs tp,h.get? x=some o/\o.cls=C/\o.data = .fields vs/\vs[0]? = some (.ref tp)/\vs[1]? = some .none /\ o.dict=od
theorem b6s {P:Program}{w:World}{H:Hp}{x:Addr}{C:Value}{od:Option Addr}{h:Heap}(e:ExN x C od h):E5 P w H h x (.ext (ExN x C od)):=by
 obtain ⟨o,vs,tp,a,r⟩:=e;exact ⟨⟨o,vs,tp,a,r⟩,⟨o,a⟩,λh1 h2 ⟨o,vs,tp,a,r⟩ k=>⟨o,vs,tp,k o a,r⟩⟩
theorem c5g {P:Program}{w:World}{H:Hp}{x:Addr}{C:Value}{od:Option Addr}{h:Heap}(e:ExA x C od h):E5 P w H h x (.ext (ExA x C od)):=by
 obtain ⟨o,vs,a,r⟩:=e;exact ⟨⟨o,vs,a,r⟩,⟨o,a⟩,λh1 h2 ⟨o,vs,a,r⟩ k=>⟨o,vs,k o a,r⟩⟩
noncomputable def Y3 (K:PySem.W.Frag) (D:Addr):Bool:=O5 K D && PySem.W.findIn K (.ref D) "__setattr__" == some (some (.builtin "object.__setattr__")) && (PySem.W.clsIn K D).any λcd=>a9K cd.mro && cd.hasDict
section
variable {X:Cx}{pins:List (Addr × Obj)}{σ:St}{H:Hp}{s:Shared}{x D dx:Addr}{f:Str}{fs:List (Str × V)}{v:V}{φ:Heap->Prop}{A:Around}{E:Value->Shared->Prop}
theorem a9Z {K:PySem.W.Frag} (q:Y3 K D=true):O5 K D=true/\PySem.W.findIn K (.ref D) "__setattr__" = some (some (.builtin "object.__setattr__"))/\∃ cd,PySem.W.clsIn K D=some cd/\a9K cd.mro=true/\cd.hasDict=true:=by
 unfold Y3 at q;simp only [Bool.and_eq_true,beq_iff_eq] at q;obtain ⟨⟨a,b⟩,c⟩:=q;obtain ⟨cd,e,c⟩:=PySem.W.any_some c;rw [Bool.and_eq_true] at c;exact ⟨a,b,cd,e,c.1,c.2⟩
theorem b1O {b:Bool}{Q:Value->Shared->Prop}(I:Inv X pins σ H s)(e:H x=some (.ext φ))(hφ:∀ h,φ h->ExA x (.ref D) (some dx) h)(ed:H dx=some (.xd fs))(q:Y3 X.K D=true)(n:J9 X.K D f)(l:fs.lookup f=some v)
  (h:∀ u s',Inv X pins σ H s'->u7 v u->Q u s'):wpAny (model X.prog X.w) A (getAttr (.ref x) f b) Q E s:=by
 obtain ⟨q1,q2,cd,q3,q4,q5⟩:=a9Z q;obtain ⟨hp,_,_⟩:=I.hok x _ e;obtain ⟨o,vs,ho,hc,hd,hdi⟩:=hφ _ hp;obtain ⟨mA,hn,hr⟩:=I.hok dx _ ed;obtain ⟨od,hod,hlk⟩:=a7Y hn;obtain ⟨u,hu,ru⟩:=a6N.some_of (v:=v) (o:=mA f) (by rw [← l];exact hr f);obtain ⟨oc,odi,oda,osl⟩:=o;dsimp only at hc hd hdi;subst hc hd hdi;exact c8n I.kIn q1 (by unfold PySem.W.hasDictIn;rw [q3];exact q5) ⟨ho,rfl,rfl,hod⟩ n (by rw [hlk,hu]) (a6Z ru) (h u _ (I.tok _) ru)
theorem b0O {y:V}{u:Value}{Q:Unit->Shared->Prop}(I:Inv X pins σ H s)(e:H x=some (.ext (ExN x (.ref D) none)))(q:Y3 X.K D=true)(n:J9 X.K D f)(ry:u7 y u)
  (h:∀ dx s',H dx=none->dx≠x->Inv X pins σ (upd (upd H dx (.xd [(f,y)])) x (.ext (ExN x (.ref D) (some dx)))) s'->Q () s'):wpAny (model X.prog X.w) A (setAttr (.ref x) f u) Q E s:=by
 obtain ⟨q1,q2,cd,q3,q4,q5⟩:=a9Z q;obtain ⟨⟨o,vs,tp,ho,hc,hd,h0,h1,hdi⟩,_,_⟩:=I.hok x _ e;obtain ⟨oc,odi,oda,osl⟩:=o;dsimp only at hc hd hdi;subst hc hd hdi;refine c9m I.kIn ⟨ho,rfl,rfl,trivial⟩ q2 q3 q4 q5 n λh' tk hn hx hk=>?_;have ne:s.heap.objs.size ≠ x:=Nat.ne_of_gt (Heap.lt_size ho);have hf:=I.fresh;refine h s.heap.objs.size _ hf ne ?_;obtain ⟨oD,es,ep,eo,r⟩:=id hn;have fr:=(Heap.get?_some_iff.mp eo).2;have I1:=I.laid (a:=s.heap.objs.size) (o:=.xd [(f,y)]) (h':=s.heap.push oD) (t':=s.toks) (λb u z=>Heap.get?_push_of_some _ z) (Nat.le_refl _) ⟨_,⟨oD,es,ep,Heap.get?_push_size _ fr,r⟩,λg=>by
  show a6N (List.lookup g [(f,y)]) (if g=f then some u else none)
  by_cases z:g=f
  ·subst z;rw [if_pos rfl,List.lookup_cons,show (g == g)=true from beq_iff_eq.mpr rfl];exact ry
  ·rw [if_neg z,List.lookup_cons,show (g == f)=false from beq_eq_false_iff_ne.mpr z]
   trivial⟩
 refine I1.write (x:=x) (e:=x) (o:=.ext (ExN x (.ref D) (some s.heap.objs.size))) (by rw [j4 ne.symm,e];trivial) (.inl rfl) (λb u hb z=>?_) ⟨_,hx⟩ (b6s ⟨_,_,tp,hx,rfl,rfl,h0,h1,rfl⟩)
 rcases Heap.get?_push_cases z with ⟨rfl,rfl⟩ | z
 ·exact eo
 ·exact hk b u z hb
end
noncomputable def c6i (K:PySem.W.Frag)(ta:TE)(f:Str):TE:=fun σ H Q=>ta σ H λx H1=>∃ a D dx fs v φ,x = .ref a/\H1 a=some (.ext φ)/\(∀ h,φ h->ExA a (.ref D) (some dx) h)/\H1 dx=some (.xd fs)/\Y3 K D=true/\J9 K D f/\fs.lookup f=some v/\Q v H1
noncomputable def c4j (K:PySem.W.Frag)(ta tv:TE)(f:Str):TS:=λD σ H=>tv σ H λy H1=>ta σ H1 λx H2=>∃ a C,x = .ref a/\H2 a=some (.ext (ExN a (.ref C) none))/\Y3 K C=true/\J9 K C f /\
 ∀ dx,H2 dx=none->dx≠a->D.nx σ (upd (upd H2 dx (.xd [(f,y)])) a (.ext (ExN a (.ref C) (some dx))))
section
variable {X:Cx}{K:PySem.W.Frag}{o e value:Expr}{f:Str}{pos pos':Pos}{ta tv:TE}
theorem b5U (hK:X.K=K)(he:PE X e ta)(hb:attributeBase e f X.env (eval e X.env)=eval e X.env):PE X (.Attribute e f pos) (c6i K ta f):=by
 subst hK;intro pins s σ H Q I h;refine b2y hb (thn (he pins s σ H _ I h) λu s1 ⟨x,H1,I1,rx,a,D,dx,fs,v,φ,ex,ea,hφ,ed,q,n,l,k⟩=>?_);subst ex;obtain rfl:u=Value.ref a:=rx;exact b1O I1 ea hφ ed q n l λu' s2 I2 ru=>⟨v,H1,I2,ru,k⟩
theorem b9T (hK:X.K=K)(ha:PE X o ta)(hv:PE X value tv)(hs:swapsWith value (some (.Attribute o f pos')) pos.line X.env=pure false):PS X (.Assign [.Attribute o f pos'] value pos) (c4j K ta tv f):=by
 subst hK;intro pins s σ H D I h;refine plainObj_wpAny_Assign_Attribute (thn (hv pins s σ H _ I h) λu s1 ⟨y,H1,I1,ry,q⟩=>thn (ha pins s1 σ H1 _ I1 q) λov s2 ⟨x,H2,I2,rx,a,C,ex,ea,c,n,q2⟩=>?_) hs;subst ex;obtain rfl:ov=Value.ref a:=rx;exact b0O I2 ea c n ry λdx s3 hd ne I3=>⟨σ,_,I3,q2 dx hd ne⟩
end
noncomputable def T3 (K:PySem.W.Frag)(C fI:Addr):Bool:=match K.lookup C with
 | some ⟨.type "type",_,.cls c,sl⟩=>(match c.mro,sl.toList with
  | .ref D :: tl,[_,_,_,_,some (.builtin m),_]=>D == C && m == a5t && !c.hasDel && PySem.W.tailIn K bmV tl && PySem.W.nsOkIn K c.ns && PySem.W.nsIn K c.ns "__init__" == some (some (.ref fI))
  | _,_=>false)
 | _=>false
theorem b2V {K:PySem.W.Frag}{h:Heap}{N:Addr}{m:Str->Option Value}{n:Str}{v:Value}(kin:K.In h)(G:h.Ns N m)(e:PySem.W.nsIn K N n=some (some v)):m n=some v:=by
 obtain ⟨ob,ents,k,look,dat,_,all⟩:=G;unfold PySem.W.nsIn at e
 split at e
 ·rename_i c d ents' k' sl found
  have same:=kin _ _ found;rw [look] at same;cases same;cases dat
  split at e
  ·rename_i one is
   cases e;rw [← all,nsFind,findBy,← Array.find?_toList,is]
   rfl
  ·split at e <;> cases e
 ·cases e
theorem b7e {K:PySem.W.Frag}{h:Heap}{C fI:Addr}(kin:K.In h)(q:T3 K C fI=true) :
  ∃ bm N nm qn bs hdc sn sub ab col dd k0 k1 k2 k3 k5 mN,h.get? C=some (excClassObj nm qn C N bs bm hdc sn sub ab col dd k0 k1 k2 k3 k5 a5t)/\h.Ns N mN/\mN "__init__" = some (.ref fI)/\OwnTail h bmV bm:=by
 unfold T3 at q
 split at q
 ·rename_i dd data sl look
  split at q
  ·rename_i C1 bm k0 k1 k2 k3 n k5 hmro hslots
   simp only [beq_iff_eq,Bool.and_eq_true,Bool.not_eq_true'] at q;obtain ⟨⟨⟨⟨⟨e1,e2⟩,e3⟩,e4⟩,e5⟩,e6⟩:=q;subst e1 e2;obtain ⟨nm,bs,mro,ns,qn,hdc,sn,sub,ab,col,del⟩:=data;dsimp only at hmro e3 e5 e6;subst hmro e3;obtain ⟨ls⟩:=sl;have e7:ls=[k0,k1,k2,k3,some (.builtin a5t),k5]:=hslots;subst e7;refine ⟨bm,ns,nm,qn,bs,hdc,sn,sub,ab,col,dd,k0,k1,k2,k3,k5,_,kin _ _ look,.of_isNs (PySem.W.isNs_of_in kin e5),b2V kin (.of_isNs (PySem.W.isNs_of_in kin e5)) e6,PySem.W.tail_of_in kin e4⟩
  ·cases q
 ·cases q
section
variable {prog:Program}{w:World}{A:Around}{E:Value->Shared->Prop}{s:Shared}{K:PySem.W.Frag}{x C fI:Addr}
theorem c9k {u:Value}{o:Obj}{vs:Array Value}{tp:Addr}{Q:Value->Shared->Prop}(kin:K.In s.heap)(q:T3 K C fI=true)(ho:s.heap.get? x=some o)(hc:o.cls = .ref C)(hd:o.data = .fields vs)(h0:vs[0]? = some (.ref tp))
  (h:Q .none { s with heap:=(s.heap.push { cls:=.type "tuple",data:=.seq #[u] }).update x (Obj.mapFields (·.setIfInBounds 0 (.ref s.heap.objs.size))) }) :
  wpAny (model prog w) A (call (.builtin "ValueError.__init__") [.ref x,u]) Q E s:=by
 obtain ⟨bm,N,nm,qn,bs,hdc,sn,sub,ab,col,dd,k0,k1,k2,k3,k5,mN,hC,hN,hi,tl⟩:=b7e kin q;obtain ⟨hp,g,dr,t,os⟩:=s;have F:=PySem.F.excBase_ValueError;refine wpAny_call (codeAny_call_builtin F.init.plain F.initEntry (wpAny_check_init_subT F tl hC ho hc ?_));unfold Builtin.«BaseException.__init__»;dsimp only;rw [if_neg .(26)];unfold newTuple Builtin.BaseException.bexcPut;have z:0 < vs.size:=(Array.getElem?_eq_some_iff.mp h0).1;have o1:=Heap.get?_push_of_some (h:=hp) { cls:=.type "tuple",data:=.seq #[u] } ho;refine wpAny_bind (wpAny_newObj_type ?_ (by show 1<=sizeLine;decide));refine wpAny_bind (wpAny_bind (wpAny_field o1 hd h0 (wpAny_bind ?_)));refine wpAny_setField o1 hd z ?_;exact wpAny_letGo (wpAny_pure h)
end
theorem a5w (o:Obj)(f:Array Value->Array Value):(o.mapFields f).dict=o.dict:=by
 obtain ⟨c,d,da,sl⟩:=o;cases da <;> rfl
noncomputable def a0X (K:PySem.W.Frag) (W:Addr):Bool:=PySem.W.specialIn K (.ref W) "__getattribute__" == some (some (.builtin "type.__getattribute__")) && PySem.W.readsIn K W (.type "type") &&
 (match PySem.W.findCls K (.ref W) (.type "type") "__init__" with | some (.val v)=>v == .builtin "ValueError.__init__" | _=>false)
noncomputable def c6a (K:PySem.W.Frag)(t:TA):TE:=fun σ H Q=>t σ H λvs H1=>∃ a C fI od v,vs=[.ref a,v]/\H1 a=some (.ext (ExN a (.ref C) od))/\T3 K C fI=true/\Q .non H1
section
variable {X:Cx}{K:PySem.W.Frag}{W:Addr}{x:Str}{e:Expr}{es:List Expr}{t:TA}{np apos pos:Pos}
theorem b7H {pl:Sem Bool} (hK:X.K=K) (hm:X.mg x=some (.ref W)) (q:a0X K W=true) (ha:PA X (e :: es) t) (hg:Gl X x:=by rfl) (hdb:(x == ("__debug__" : Str))=false:=by decide)
  (hst:starEach (e :: es) X.env=(false,eval e X.env) :: starEach es X.env:=by rfl) (hpl:(backTo pos (starEach es X.env)).any (·.1)=false:=by rfl)
  (ht:eval (.Call (.Attribute (.Name x np) "__init__" apos) (e :: es) [] pos) X.env=(do
   let ov ← eval (.Name x np) X.env
   standAt apos.atName
   let (f,first) ← holding [ov] (getMethod ov "__init__" pl)
   callWith pos f first (backTo pos (starEach (e :: es) X.env)) (backToKw pos (keywordEach [] X.env))):=by rfl) :
  PE X (.Call (.Attribute (.Name x np) "__init__" apos) (e :: es) [] pos) (c6a K t):=by
 subst hK;intro pins s σ H Q I h;unfold a0X at q;simp only [Bool.and_eq_true,beq_iff_eq] at q;obtain ⟨⟨q1,q2⟩,q3⟩:=q;have q4:PySem.W.findCls X.K (.ref W) (.type "type") "__init__" = some (.val (.builtin "ValueError.__init__")):=by
  split at q3
  ·rename_i v hv
   rw [hv,beq_iff_eq.mp q3]
  ·cases q3
 refine PySem.W.methodCall_KW (pl:=pl) (a5x I hg hm ?_ hdb) ht;refine PySem.W.method_cls I.kIn q1 (PySem.W.cls_value I.kIn q2 q4 rfl ?_);have I1:Inv X pins σ H { s with toks:=s.toks + 1 }:=I.tok _;have hA:=ha pos pins _ σ H _ I1 h;rw [hst] at hA ⊢;refine Calls.callWith_builtin (by show (false || (backTo pos (starEach es X.env)).any (·.1))=false;rw [hpl] <;> rfl) (Calls.evalArgs_plain ?_);refine thn hA λus s2 ⟨vs,H2,I2,r2,a,C,fI,od,v,ev,ea,qe,q2⟩=>?_;subst ev;obtain ⟨u1,u2,rfl,r1,_⟩:=r2.two;obtain rfl:u1=Value.ref a:=r1;obtain ⟨⟨o,ws,tp,ho,hc,hd,h0,h1,hdi⟩,_,_⟩:=I2.hok a _ ea;refine c9k I2.kIn qe ho hc hd h0 ⟨.non,H2,?_,rfl,q2⟩;have ux:upd H2 a (.ext (ExN a (.ref C) od))=H2:=by
  funext b
  by_cases z:b=a
  ·rw [z,b7,ea]
  ·rw [j4 z]
 have o1:=Heap.get?_push_of_some (h:=s2.heap) { cls:=.type "tuple",data:=.seq #[u2] } ho;have hd2:=Obj.data_mapFields hd (·.setIfInBounds 0 (Value.ref s2.heap.objs.size));have o2:=Heap.get?_update_self (Obj.mapFields (·.setIfInBounds 0 (Value.ref s2.heap.objs.size))) o1 (Obj.isFreed_of_fields hd2);have z0:0 < ws.size:=(Array.getElem?_eq_some_iff.mp h0).1;have key:=I2.write (x:=a) (e:=a) (t':=s2.toks) (o:=.ext (ExN a (.ref C) od)) (by rw [ea];trivial) (.inl rfl) (λb u hb z=>(Heap.get?_update_other _ _ (Ne.symm hb)).trans (Heap.get?_push_of_some _ z)) ⟨_,o2⟩
  (b6s ⟨_,_,s2.heap.objs.size,o2,by rw [Obj.cls_mapFields];exact hc,hd2,by simp [z0],by rw [Array.getElem?_setIfInBounds_ne .(24)];exact h1,?_⟩)
 ·rw [ux] at key;exact key
 ·rw [a5w];exact hdi
end
noncomputable def DfE (P:Program)(w:World)(K:PySem.W.Frag)(mg:Str->Option Value)(base:Heap)(k:Nat)(C:Addr)(ps:List Str)(sp:Sp):Prop :=
 ∃ (f:Addr) (fd:FuncData),a7n P w K mg base CX0 k f fd ps sp/\(T3 K C f=true/\PySem.W.isFn K (.ref f)=true/\PySem.W.keepIn K (.ref C)=true)/\O9 K fd ps []/\∃ qual st,Fun K "__init__" qual st f fd
noncomputable def b3N (K:PySem.W.Frag) (C:Addr) (qual:Str) (ps:List Str) (st:Stmt):Prop:=∃ f fd,(T3 K C f=true/\PySem.W.isFn K (.ref f)=true/\PySem.W.keepIn K (.ref C)=true)/\Fun K "__init__" qual st f fd/\O9 K fd ps []
theorem b3N.ok {P:Program}{w:World}{K:PySem.W.Frag}{mg:Str->Option Value}{base:Heap}{C:Addr}{qual:Str}{ps N:List Str}{st:Stmt}{k:Nat}{sp:Sp}(R:b3N K C qual ps st)(S:g0 N ps (c6 st))(len:∀ vs H Q E,sp vs H Q E->vs.length=ps.length)
  (hbody:∀ (f:Addr) (cdv:Value) (A:Around) (outer:List Env) (s:Shared) (H:Hp) (vs:List V) (Q:VK) (E:XK),G4 k (A.deeper (envOfC qual (c6 st) s.heap.objs.size f cdv))->sp vs H Q E ->
   ∃ t,PSs (a2s CX0 P w K mg base N qual (c6 st) f cdv A outer s H E).nox (B9 st) t/\t { nx:=λ_ H'=>Q .non H',rt:=Q } (Y5 N vs) H):DfE P w K mg base (k + 1) C ps sp:=by
 obtain ⟨f,fd,M,F,b⟩:=R;exact ⟨f,fd,F.ok S len (λcdv A outer s H vs Q E hr h=>hbody f cdv A outer s H vs Q E hr h),M,b,_,_,F⟩
section
variable {X:Cx}{k:Nat}{C f:Addr}{fd:FuncData}{ps:List Str}{sp:Sp}
theorem b4G {pins:List (Addr × Obj)}{σ:St}{H:Hp}{s:Shared}{Q:VK}{us zs:List Value}{kw:List (Str × Value)}{vs:List V}(F:a7n X.prog X.w X.K X.mg X.base CX0 k f fd ps sp)(q:T3 X.K C f=true)(fn:PySem.W.isFn X.K (.ref f)=true)
  (hr:G4 (k + 1) X.A) (hex:X.ex=[]) (I:Inv X pins σ H s) (hz:us.length <= sizeLine) (r:o8 vs zs)
  (bt:∀ (e:Addr) (s3:Shared),X.K.In s3.heap -> (Value.ref e :: zs).length=ps.length -> BindsTo s3 fd ⟨.ref e :: us,kw⟩ (ps.zip (Value.ref e :: zs)))
  (h:∀ x,H x=none->X.sZ.heap.get? x=none->sp (.ref x :: vs) (upd H x (.ext (ExN x (.ref C) none))) (λv H2=>v = .non /\ Q (.ref x) H2) E0):wpAny (model X.prog X.w) X.A (call (.ref C) us kw) (EP X pins σ Q) X.xe s:=by
 obtain ⟨bm,N,nm,qn,bs,hdc,sn,sub,ab,col,dd,k0,k1,k2,k3,k5,mN,hC,hN,hi,tl⟩:=b7e I.kIn q;have ft:PySem.W.typeIn X.K (.ref f)=some (.type "function"):=beq_iff_eq.mp fn;obtain ⟨oI,hoI,hcI⟩:=Option.map_eq_some_iff.mp ft;have kin:=I.kIn;obtain ⟨hp,g,dr,t,os⟩:=s;refine c1i tl hC hN hi (kin _ _ hoI) hcI hz λh' e hm hle=>?_;obtain ⟨tp,he,_,_⟩:=hm.there;have hn:H e=none:=I.hok.fresh hle;have I2:Inv X pins σ (upd H e (.ext (ExN e (.ref C) none))) ⟨h',g,dr,t,os⟩:=I.laid (a:=e) (o:=.ext (ExN e (.ref C) none)) (h':=h') (t':=t) hm.keeps hle (b6s ⟨_,_,tp,he,rfl,rfl,rfl,rfl,rfl⟩);have en:X.sZ.heap.get? e=none:=by
  cases z:X.sZ.heap.get? e with
  | none=>rfl
  | some o =>
   obtain ⟨u,eu⟩:=I.base.there e o z (by rw [hex];exact λw=>by cases w);exact absurd (Heap.lt_size eu) (Nat.not_lt.mpr hle)
 have hq:=h e hn en;have r2:o8 (V.ref e :: vs) (Value.ref e :: zs):=.cons rfl r;have hl:(Value.ref e :: zs).length=ps.length:=by rw [← r2.length];exact F.len _ _ _ _ hq
 refine wpAny_call (codeAny_mono (F.run _ X.stack _ _ ⟨.ref e :: us,kw⟩ (.ref e :: zs) _ _ E0 (hr.make C us kw) (I2.env0.make C us kw) (bt e _ I2.kIn hl) r2 hq) λr s' hq'=>?_);cases r with
 | error e'=>exact a2Y pins σ _ _ e' s' I2 hq'
 | ok fl =>
  cases fl with
  | ret u =>
   obtain ⟨v,H',I3,rv,ev,q3⟩:=I2.after hq';subst ev;exact ⟨rv,⟨V.ref e,H',I3,rfl,q3⟩⟩
  | next=>exact False.elim hq'
  | brk=>exact False.elim hq'
  | cont=>exact False.elim hq'
variable {x qual:Str}{ks:List Str}{st:Stmt}{e:Expr}{es:List Expr}{t tk:TA}{p pos:Pos}{kws:List Keyword}{g:List Value->List Value}{gV:List V->List V}
end
noncomputable def KD {α:Type}:Sem α->Prop
 | .pure _=>True
 | .raise _=>True
 | .unsupported _=>True
 | .finish _=>True
 | .rule _ k=>KD (k ())
 | .at _ k=>KD (k ())
 | .point _ k=>KD (k ())
 | .load _ _ k=>∀ o,KD (k o)
 | .update _ _ f k=>(∀ o:Obj,(f o).dict=o.dict)/\KD (k ())
 | .loadIfAlive _ k=>∀ o,KD (k o)
 | .alloc _ k=>∀ a,KD (k a)
 | .fresh k=>∀ t,KD (k t)
 | .ask k=>∀ c,KD (k c)
 | .handled _ k=>∀ v,KD (k v)
 | .stack k=>∀ l,KD (k l)
 | .thread k=>∀ n,KD (k n)
 | _=>False
noncomputable def DKh (x:Addr)(h h':Heap):Prop:=∀ o,h.objs[x]? = some o->∃ o',h'.objs[x]? = some o'/\o'.dict=o.dict
theorem DKh.refl (x:Addr)(h:Heap):DKh x h h:=λo e=>⟨o,e,rfl⟩
theorem DKh.trans {x:Addr}{h h1 h2:Heap}(a:DKh x h h1)(b:DKh x h1 h2):DKh x h h2:=λo e=>by
 obtain ⟨o1,e1,d1⟩:=a o e;obtain ⟨o2,e2,d2⟩:=b o1 e1;exact ⟨o2,e2,d2.trans d1⟩
theorem b7s (x:Addr)(h:Heap)(a:Addr){f:Obj->Obj}(hf:∀ o:Obj,(f o).dict=o.dict):DKh x h (h.update a f):=λo e=>by
 cases h with
 | mk objs l =>
  show ∃ o',(objs.modify a f)[x]? = some o'/\_
  rw [Array.getElem?_modify]
  by_cases z:a=x
  ·rw [if_pos z];exact ⟨f o,by rw [show objs[x]? = some o from e];rfl,hf o⟩
  ·rw [if_neg z];exact ⟨o,e,rfl⟩
theorem b7K (x:Addr)(h:Heap)(u:Obj):DKh x h (h.push u):=λo e=>by
 cases h with
 | mk objs l =>
  refine ⟨o,?_,rfl⟩
  show (objs.push u)[x]? = some o
  have lt:x < objs.size:=(Array.getElem?_eq_some_iff.mp e).1;rw [Array.getElem?_push_lt lt];exact (Array.getElem?_eq_getElem lt).symm.trans e
theorem c2i {α:Type}{M:Model}{Γ:PySem.Ctx}{x:Addr}:∀ (t:Sem α),KD t->∀ {Q:α->Pos->Shared->Prop} {E:Value->Pos->Shared->Prop} {p:Pos} {s:Shared},Sem.wp M Γ t Q E p s ->
  Sem.wp M Γ t (λa p' s'=>Q a p' s'/\DKh x s.heap s'.heap) (λe p' s'=>E e p' s'/\DKh x s.heap s'.heap) p s:=by
 intro t;have step:∀ {t:Sem α} {Q:α->Pos->Shared->Prop} {E:Value->Pos->Shared->Prop} {p:Pos} {s s1:Shared},DKh x s.heap s1.heap -> Sem.wp M Γ t (λa p' s'=>Q a p' s'/\DKh x s1.heap s'.heap) (λe p' s'=>E e p' s'/\DKh x s1.heap s'.heap) p s1 ->
   Sem.wp M Γ t (λa p' s'=>Q a p' s'/\DKh x s.heap s'.heap) (λe p' s'=>E e p' s'/\DKh x s.heap s'.heap) p s1:=λd h =>
  Sem.wp_mono M Γ _ (λa p' s' z=>⟨z.1,d.trans z.2⟩) (λe p' s' z=>⟨z.1,d.trans z.2⟩) _ _ h
 induction t with
 | pure a=>intro _ Q E p s h;exact ⟨h,DKh.refl _ _⟩
 | raise e=>intro _ Q E p s h;exact ⟨h,DKh.refl _ _⟩
 | unsupported w=>intro _ Q E p s h;exact h
 | finish e=>intro _ Q E p s h;exact h
 | rule tag k ih=>intro kd Q E p s h;exact ih () kd h
 | «at» p' k ih=>intro kd Q E p s h;exact ih () kd h
 | point l k ih=>intro kd Q E p s h;exact ih () kd h
 | load a part k ih =>
  intro kd Q E p s h;obtain ⟨o,ho,hw⟩:=h;exact ⟨o,ho,ih o (kd o) hw⟩
 | update a part f k ih =>
  intro kd Q E p s h;obtain ⟨ho,hw⟩:=h;exact ⟨ho,step (b7s x s.heap a kd.1) (ih () kd.2 hw)⟩
 | loadIfAlive a k ih=>intro kd Q E p s h;exact ih _ (kd _) h
 | alloc o k ih=>intro kd Q E p s h;exact step (s1:={ s with heap:=s.heap.push o }) (b7K x s.heap o) (ih s.heap.objs.size (kd _) h)
 | fresh k ih=>intro kd Q E p s h;exact ih _ (kd _) h
 | ask k ih=>intro kd Q E p s h;exact ih _ (kd _) h
 | handled own k ih=>intro kd Q E p s h;exact ih _ (kd _) h
 | stack k ih=>intro kd Q E p s h;exact ih _ (kd _) h
 | thread k ih=>intro kd Q E p s h;exact ih _ (kd _) h
 | _=>intro kd;exact False.elim kd
theorem KD.bind {α β:Type}{m:Sem α}{f:α->Sem β}(hm:KD m)(hf:∀ a,KD (f a)):KD (m >>= f):=by
 show KD (Sem.bind m f)
 induction m with
 | pure a=>exact hf a
 | raise e=>exact trivial
 | unsupported w=>exact trivial
 | finish e=>exact trivial
 | rule tag k ih=>exact ih () hm
 | «at» p' k ih=>exact ih () hm
 | point l k ih=>exact ih () hm
 | load a part k ih=>exact λo=>ih o (hm o)
 | update a part g k ih=>exact ⟨hm.1,ih () hm.2⟩
 | loadIfAlive a k ih=>exact λo=>ih o (hm o)
 | alloc o k ih=>exact λa=>ih a (hm a)
 | fresh k ih=>exact λa=>ih a (hm a)
 | ask k ih=>exact λa=>ih a (hm a)
 | handled own k ih=>exact λa=>ih a (hm a)
 | stack k ih=>exact λa=>ih a (hm a)
 | thread k ih=>exact λa=>ih a (hm a)
 | _=>exact False.elim hm
theorem a8E (v:Value)(i:Nat):KD (field v i):=by
 unfold field fieldsOf;refine KD.bind ?_ λa=>?_
 ·cases v with
  | ref a =>
   refine KD.bind (m:=load a) (λ_=>trivial) λo=>?_
   split <;> trivial
  | _=>trivial
 ·split <;> trivial
theorem a2w (v:Value)(i:Nat)(x:Value):KD (setField v i x):=by
 unfold setField;cases v with
 | ref a =>
  unfold updateField;refine KD.bind (m:=load a) (λ_=>trivial) λo=>?_
  split
  ·split
   ·exact ⟨λo=>a5w o _,trivial⟩
   ·trivial
  ·trivial
 | _=>trivial
theorem a6r (e:Value)(fr:Option Addr):KD (setFlight e fr):=by
 unfold setFlight;refine KD.bind (a8E _ _) λtb=>?_
 split
 ·exact a2w _ _ _
 ·trivial
theorem b5k:∀ l:List Env,KD (readyFrames l)
 | []=>trivial
 | env :: outer=>by
  unfold readyFrames;cases env.frame with
  | none=>trivial
  | some f =>
   refine KD.bind (m:=load f) (λ_=>trivial) λo=>?_
   split
   ·trivial
   ·refine KD.bind ?_ λim=>KD.bind ?_ λbk=>KD.bind (m:=update f _) ⟨λ_=>rfl,trivial⟩ λ_=>b5k outer
    ·unfold behindIsImport
     split
     ·trivial
     ·split
      ·trivial
      ·exact KD.bind (a8E _ _) λ_=>trivial
    ·unfold keptBack
     split
     ·split
      ·trivial
      ·exact KD.bind (KD.bind (m:=stack) (λ_=>trivial) λ_=>trivial) λ_=>trivial
     ·trivial
theorem a7E (env:Env)(v:Value):KD (noteFrame v env):=by
 unfold noteFrame;cases env.frame with
 | none=>trivial
 | some f =>
  have rest:∀ hd:Value,KD (do setField v 1 (← EntryCells.newEntry hd (← PySem.frameOf env) .none (rawInt f) .none (← entryPlaceOf f (hd != .none)))):=λhd=>by
   refine KD.bind ?_ λfr=>KD.bind ?_ λpl=>KD.bind ?_ λen=>a2w _ _ _
   ·unfold PySem.frameOf;refine KD.bind ?_ λl=>KD.bind ?_ λr=>?_
    ·exact KD.bind (m:=stack) (λ_=>trivial) λ_=>trivial
    ·unfold frameObject
     split
     ·trivial
     ·exact KD.bind (b5k _) λ_=>trivial
    ·split <;> trivial
   ·unfold entryPlaceOf;refine KD.bind (m:=stack) (λ_=>trivial) λl=>?_
    split <;> trivial
   ·unfold EntryCells.newEntry newFields newObj newObjAsIs;dsimp only
    split <;> split <;> first
     | exact KD.bind (m:=unsupported _) trivial λ_=>KD.bind (m:=alloc _) (λ_=>trivial) λ_=>trivial
     | exact KD.bind (m:=alloc _) (λ_=>trivial) λ_=>trivial
  refine KD.bind (a8E _ _) λhd=>?_
  split
  ·refine KD.bind (a8E _ _) λx=>?_
   split
   ·trivial
   ·exact KD.bind (a2w _ _ _) λ_=>rest hd
  ·exact rest hd
theorem a6B (env:Env)(v:Value):KD (leaving env v):=by
 unfold leaving;exact KD.bind (a7E _ _) λ_=>a6r _ _
theorem a8n {α:Type}{M:Model}{A:Around}{t:Sem α}{Q:α->Shared->Prop}{E:Value->Shared->Prop}{s:Shared}(x:Addr)(kd:KD t)(h:wpAny M A t Q E s):wpAny M A t (λa s'=>Q a s'/\DKh x s.heap s'.heap) (λe s'=>E e s'/\DKh x s.heap s'.heap) s :=
 fun Γ p hΓ=>c2i t kd (h Γ p hΓ)
noncomputable def a3C (x:Addr)(od:Option Addr)(h:Heap):Prop:=∃ o,h.get? x=some o/\o.dict=od
theorem a3C.dk {x:Addr}{od:Option Addr}{h h':Heap}(d:a3C x od h)(k:DKh x h h'){o':Obj}(e:h'.get? x=some o'):a3C x od h':=by
 obtain ⟨o,ho,hd⟩:=d;obtain ⟨o1,e1,d1⟩:=k o (Heap.get?_some_iff.mp ho).1;rw [(Heap.get?_some_iff.mp e).1] at e1;cases e1;exact ⟨o',e,d1.trans hd⟩
noncomputable def a8H (H:Hp)(x:Addr):Hp:=λb=>if b=x then none else H b
theorem b5z {H:Hp}{x:Addr}:a8H H x x=none:=by unfold a8H;rw [if_pos rfl]
theorem V9 {H:Hp}{x b:Addr}(n:b≠x):a8H H x b=H b:=by unfold a8H;rw [if_neg n]
theorem b4z {H:Hp}{x b:Addr}{o:HO}(e:a8H H x b=some o):b≠x/\H b=some o:=by
 by_cases z:b=x
 ·rw [z,b5z] at e;cases e
 ·exact ⟨z,by rw [V9 z] at e;exact e⟩
noncomputable def CXD (P:Program)(w:World):CXT:=λouter H s E e s'=>∃ (x:Addr) (C:Value) (od:Option Addr) (H':Hp),e = .ref x/\s'.os=s.os /\ AllBare s'.gens /\ Fly P w outer H H' s.heap s'.heap x C/\a3C x od s'.heap /\ E C od H'
section
variable {P:Program}{w:World}{K:PySem.W.Frag}{mg:Str->Option Value}{base:Heap}{N:List Str}{qual:Str}{scope:Scope}{f:Addr}{cd:Value}{A:Around}{outer:List Env}{s:Shared}{H:Hp}{E:XK}
theorem b2q {pins:List (Addr × Obj)}{σ:St}{H1:Hp}{s1:Shared}{x:Addr}{C:Value}{od:Option Addr}(I:Inv (a2s (CXD P w) P w K mg base N qual scope f cd A outer s H E) pins σ H1 s1)
  (hx:H1 x=some (.ext (ExN x C od))) (newx:s.heap.get? x=none) (hE:E C od (a8H H1 x)):(a2s (CXD P w) P w K mg base N qual scope f cd A outer s H E).xe (.ref x) s1:=by
 let st:=envOfC qual scope s.heap.objs.size f cd :: outer
 have hst:frs st=s.heap.objs.size :: frs outer:=rfl;have hfr:(A.deeper (envOfC qual scope s.heap.objs.size f cd)).frames=some st:=I.ok.frames;have hfun:s1.heap.FunFrames base st:=I.stack;have free:∀ b∈frs st,H1 b=none:=I.stkFree;have ub:Un (frs outer) [] H H1 s.heap s1.heap:=I.base;have noE:∀ b:Addr,b ∉ ([]:List Addr):=λb z=>by cases z
 have hin:∀ env∈st,∀ b,env.frame=some b->b∈x :: frs st:=λenv he b hb=>List.mem_cons_of_mem _ (List.mem_filterMap.mpr ⟨env,he,hb⟩);obtain ⟨⟨ox,vs,tp,e1,e2,e3,e4,e5,e6⟩,_,_⟩:=I.hok x _ hx
 show wpAny (model P w) (A.deeper (envOfC qual scope s.heap.objs.size f cd)) (leaving (envOfC qual scope s.heap.objs.size f cd) (.ref x)) (λ_ s''=>CXD P w outer H s E (.ref x) s'') (λe' s''=>CXD P w outer H s E e' s'') s1
 generalize hB:PySem.W.hideAll s1.heap (x :: frs st)=B;have outB:B.get? x=none:=by
  rw [← hB];exact PySem.W.hideAll_none _ List.mem_cons_self
 have hkb:B.StaysIn s1.heap:=λb o q=>by rw [← hB] at q;exact PySem.W.of_hideAll _ q
 have inB:∀ b o,s1.heap.get? b=some o->b≠x->b ∉ frs st->B.get? b=some o:=λb o q m n=>by
  rw [← hB];exact PySem.W.hideAll_get _ q λz=>(List.mem_cons.mp z).elim m n
 have hl:s1.heap.FunFrames B st:=by rw [← hB];exact PySem.W.funFrames_hide hfun hin
 have nL:∀ b o,s.heap.get? b=some o->b ∉ frs outer->b ∉ frs st:=λb o e n z=>by
  rw [hst] at z
  rcases List.mem_cons.mp z with q | q
  ·exact absurd (Heap.lt_size e) (by rw [q];exact Nat.lt_irrefl _)
  ·exact n q
 have nx:∀ b o,s.heap.get? b=some o->b≠x:=λb o e z=>by rw [z,newx] at e;cases e
 have go:=wpAny_leaving_firstW (M:=model P w) (A:=A.deeper (envOfC qual scope s.heap.objs.size f cd)) (E:=λ_ _=>False) (s:=s1) (Q:=λ_ s'=>∃ h',s'={ s1 with heap:=h' }/\Heap.LeftW B st x ox.cls (.ref tp) s1.heap h') hfr hl rfl e1 hkb outB e3 e5 e4 λh' L=>⟨h',rfl,L⟩;refine wpAny_mono (a8n x (a6B _ _) go) (λ_ s' z=>?_) λ_ _ z=>z.1.elim;obtain ⟨⟨h',rfl,k1,⟨_,_,k2⟩,k3,k4⟩,dk⟩:=z;have thx:∃ ob,h'.get? x=some ob:=by
  obtain ⟨oe,_,_,_,_,he,_⟩:=k3;exact ⟨oe,he⟩
 obtain ⟨ob,hob⟩:=thx;subst e2;refine ⟨x,_,od,a8H H1 x,rfl,I.os,I.bare,⟨B,_,⟨λa o ea=>?_,λb o q n hb=>inB b o (ub.keep b o q n hb (noE b)) (nx b o q) (nL b o q hb),λb o q n=>?_,λb o q hb=>?_,λb xs q=>?_,λb o u q=>?_,λb ps q=>?_⟩,⟨k1,outB,k2,k3⟩,λb o q hb=>?_⟩,a3C.dk ⟨ox,e1,e6⟩ dk hob,hE⟩
 ·obtain ⟨na,ea'⟩:=b4z ea;refine (I.hok a o ea').stay (λb u hb q=>inB b u q (λz=>?_) λz=>?_) (λb q=>?_) λb xs q=>?_
  ·rcases hb with rfl | hb
   ·exact na z
   ·rw [z,hx] at hb;cases hb
  ·rcases hb with rfl | hb
   ·rw [free _ z] at ea';cases ea'
   ·rw [free _ z] at hb;cases hb
  ·rw [V9 (λz=>by rw [z,hx] at q;cases q)];exact q
  ·rw [V9 (λz=>by rw [z,hx] at q;cases q)];exact q
 ·rw [V9 (nx b o q)];exact ub.free b o q n (noE b)
 ·obtain ⟨u,eu⟩:=ub.there b o q (noE b);exact ⟨u,inB b u eu (nx b o q) (nL b o q hb)⟩
 ·have q1:=ub.tups b xs q;rw [V9 (λz=>by rw [z,hx] at q1;cases q1)];exact q1
 ·have q1:=ub.frzs b o u q;rw [V9 (λz=>by rw [z,hx] at q1;cases q1)];exact q1
 ·obtain ⟨more,q1⟩:=ub.tbls b ps q;exact ⟨more,by rw [V9 (λz=>by rw [z,hx] at q1;cases q1)];exact q1⟩
 ·have hz:H b=none:=I.ok.frf b hb;obtain ⟨sl,f1⟩:=ub.slot b o q hz hb (noE b);have hd:∀ vs,o.data ≠ .fields vs:=λvs z=>by
   obtain ⟨_,o',ho',hnd⟩:=hfun.mem (b:=b) (List.mem_cons_of_mem _ hb);rw [f1] at ho';cases ho';exact hnd vs z
  obtain ⟨sl2,f3⟩:=k4 b _ f1 hd;exact ⟨sl2,f3⟩
theorem b1q {pins:List (Addr × Obj)}{σ:St}{H1:Hp}{s1:Shared}{h2:Heap}{e:Addr}{cls:Value}{args:List Value}(I:Inv (a2s (CXD P w) P w K mg base N qual scope f cd A outer s H E) pins σ H1 s1)
  (hm:Heap.MadeExcOf s1.heap h2 e cls args) (hE:E cls none H1):(a2s (CXD P w) P w K mg base N qual scope f cd A outer s H E).xe (.ref e) { s1 with heap:=h2 }:=by
 have hst:frs (envOfC qual scope s.heap.objs.size f cd :: outer)=s.heap.objs.size :: frs outer:=rfl;have hfr:(A.deeper (envOfC qual scope s.heap.objs.size f cd)).frames=some (envOfC qual scope s.heap.objs.size f cd :: outer):=I.ok.frames;have hfun:s1.heap.FunFrames base (envOfC qual scope s.heap.objs.size f cd :: outer):=I.stack;have hin:∀ env∈(envOfC qual scope s.heap.objs.size f cd :: outer),∀ b,env.frame=some b->b∈frs (envOfC qual scope s.heap.objs.size f cd :: outer):=λenv he b hb=>List.mem_filterMap.mpr ⟨env,he,hb⟩;have free:∀ b∈frs (envOfC qual scope s.heap.objs.size f cd :: outer),H1 b=none:=I.stkFree
 show wpAny (model P w) (A.deeper (envOfC qual scope s.heap.objs.size f cd)) (leaving (envOfC qual scope s.heap.objs.size f cd) (.ref e)) (λ_ s''=>CXD P w outer H s E (.ref e) s'') (λe' s''=>CXD P w outer H s E e' s'') { s1 with heap:=h2 }
 generalize hB:PySem.W.hideAll s1.heap (frs (envOfC qual scope s.heap.objs.size f cd :: outer))=B;have hkb:B.StaysIn s1.heap:=λb o q=>by rw [← hB] at q;exact PySem.W.of_hideAll _ q
 have inB:∀ b o,s1.heap.get? b=some o->b ∉ frs (envOfC qual scope s.heap.objs.size f cd :: outer)->B.get? b=some o:=λb o q n=>by rw [← hB];exact PySem.W.hideAll_get _ q n
 have hl:s1.heap.FunFrames B (envOfC qual scope s.heap.objs.size f cd :: outer):=by rw [← hB];exact PySem.W.funFrames_hide hfun hin
 obtain ⟨tp,he,_,_⟩:=id hm.there;have go:=wpAny_leaves_madeW (M:=model P w) (A:=A.deeper (envOfC qual scope s.heap.objs.size f cd)) (E:=λ_ _=>False) (base:=B) (s:={ s1 with heap:=h2 }) (Q:=λ_ s'=>∃ h' t,s'={ s1 with heap:=h' }/\Heap.FlyingW B outer e cls (.ref t) h'/\h2.UpToSlots h') hfr rfl hkb hl hm λh' t u _ _ v=>⟨h',t,rfl,u,v⟩;refine wpAny_mono (a8n e (a6B _ _) go) (λ_ s' z=>?_) λ_ _ z=>z.1.elim;obtain ⟨⟨h',tt,rfl,hfl,hup⟩,dk⟩:=z;obtain ⟨ob,hob,_⟩:=hfl.there;have nL:∀ b o,s.heap.get? b=some o->b ∉ frs outer->b ∉ frs (envOfC qual scope s.heap.objs.size f cd :: outer):=λb o e n z=>by
  rw [hst] at z
  rcases List.mem_cons.mp z with q | q
  ·exact absurd (Heap.lt_size e) (by rw [q];exact Nat.lt_irrefl _)
  ·exact n q
 have ub:Un (frs outer) [] H H1 s.heap s1.heap:=I.base;have noE:∀ b:Addr,b ∉ ([]:List Addr):=λb z=>by cases z
 refine ⟨e,cls,none,H1,rfl,I.os,I.bare,⟨B,_,⟨λa o ea=>?_,λb o q n hb=>inB b o (ub.keep b o q n hb (noE b)) (nL b o q hb),λb o q n=>ub.free b o q n (noE b),λb o q hb=>?_,ub.tups,ub.frzs,ub.tbls⟩,hfl,λb o q hb=>?_⟩,a3C.dk ⟨_,he,rfl⟩ dk hob,hE⟩
 ·refine (I.hok a o ea).stay (λb u hb q=>inB b u q λz=>?_) (λ_ q=>q) λ_ _ q=>q
  rcases hb with rfl | hb
  ·rw [free _ z] at ea;cases ea
  ·rw [free _ z] at hb;cases hb
 ·obtain ⟨u,eu⟩:=ub.there b o q (noE b);exact ⟨u,inB b u eu (nL b o q hb)⟩
 ·have hz:H b=none:=I.ok.frf b hb;obtain ⟨sl,e1⟩:=ub.slot b o q hz hb (noE b);have e2:=hm.keeps b _ e1;have hd:∀ vs,o.data ≠ .fields vs:=λvs z=>by
   obtain ⟨_,o',ho',hnd⟩:=hfun.mem (b:=b) (List.mem_cons_of_mem _ hb);rw [e1] at ho';cases ho';exact hnd vs z
  obtain ⟨sl2,e3⟩:=hup b _ e2 hd;exact ⟨sl2,e3⟩
theorem p0:a6n (CXD P w) (a2s (CXD P w) P w K mg base N qual scope f cd A outer s H E) E:=by
 intro pins σ H1 s1 e s2 I hc;obtain ⟨x,C,od,H2,rfl,os,bare,⟨B,arg,b,hfl,fr⟩,di,hE⟩:=hc;have hst:frs (envOfC qual scope s.heap.objs.size f cd :: outer)=s.heap.objs.size :: frs outer:=rfl;have hfr:(A.deeper (envOfC qual scope s.heap.objs.size f cd)).frames=some (envOfC qual scope s.heap.objs.size f cd :: outer):=I.ok.frames;have hfun:s1.heap.FunFrames base (envOfC qual scope s.heap.objs.size f cd :: outer):=I.stack
 show wpAny (model P w) (A.deeper (envOfC qual scope s.heap.objs.size f cd)) (leaving (envOfC qual scope s.heap.objs.size f cd) (.ref x)) (λ_ s''=>CXD P w outer H s E (.ref x) s'') (λe' s''=>CXD P w outer H s E e' s'') s2
 have nL:∀ b o,s.heap.get? b=some o->b ∉ frs outer->b ∉ frs (envOfC qual scope s.heap.objs.size f cd :: outer):=λb o e n z=>by
  rw [hst] at z
  rcases List.mem_cons.mp z with q | q
  ·exact absurd (Heap.lt_size e) (by rw [q];exact Nat.lt_irrefl _)
  ·exact n q
 have ub:Un (frs outer) [] H H1 s.heap s1.heap:=I.base;have noE:∀ b:Addr,b ∉ ([]:List Addr):=λb z=>by cases z
 have go:=wpAny_leaves_onW (M:=model P w) (A:=A.deeper (envOfC qual scope s.heap.objs.size f cd)) (E:=λ_ _=>False) (s:=s2) (base:=B) (Q:=λ_ s'=>∃ h',s'={ s2 with heap:=h' }/\Heap.FlyingW B outer x C arg h'/\s2.heap.UpToSlots h') hfr rfl hfl λh' u v=>⟨h',rfl,u,v⟩;refine wpAny_mono (a8n x (a6B _ _) go) (λ_ s' z=>?_) λ_ _ z=>z.1.elim;obtain ⟨⟨h',rfl,hfl',hup⟩,dk⟩:=z;obtain ⟨ob,hob,_⟩:=hfl'.there;refine ⟨x,C,od,H2,rfl,os.trans I.os,bare,⟨B,arg,⟨b.hok,λc o q n hc=>b.keep c o (ub.keep c o q n hc (noE c)) (ub.free c o q n (noE c)) (nL c o q hc),λc o q n=>?_,λc o q hc=>?_,λc xs q=>b.tups c xs (ub.tups c xs q),λc o u q=>b.frzs c o u (ub.frzs c o u q),λc ps q=>?_⟩,hfl',λc o q hc=>?_⟩,di.dk dk hob,hE⟩
 ·obtain ⟨u,eu⟩:=ub.there c o q (noE c);exact b.free c u eu (ub.free c o q n (noE c))
 ·obtain ⟨u,eu⟩:=ub.there c o q (noE c);exact b.there c u eu (nL c o q hc)
 ·obtain ⟨m1,e1⟩:=ub.tbls c ps q;obtain ⟨m2,e2⟩:=b.tbls c _ e1;exact ⟨m1 ++ m2,by rw [← Array.append_assoc];exact e2⟩
 ·have hz:H c=none:=I.ok.frf c hc;obtain ⟨sl,e1⟩:=ub.slot c o q hz hc (noE c);obtain ⟨sl1,e2⟩:=fr c _ e1 (List.mem_cons_of_mem _ hc);have hd:∀ vs,o.data ≠ .fields vs:=λvs z=>by
   obtain ⟨_,o',ho',hnd⟩:=hfun.mem (b:=c) (List.mem_cons_of_mem _ hc);rw [e1] at ho';cases ho';exact hnd vs z
  obtain ⟨sl2,e3⟩:=hup c _ e2 hd;exact ⟨sl2,e3⟩
end
theorem D0 {P:Program}{w:World}{K:PySem.W.Frag}{mg:Str->Option Value}{base:Heap}{N:List Str}{qual:Str}{scope:Scope}{f:Addr}{cd:Value}{A:Around}{outer:List Env}{s:Shared}{H:Hp}{E:XK} :
  b9M (a2s (CXD P w) P w K mg base N qual scope f cd A outer s H E) E:=λ_ _ _ _ _ _ _ _ I hm hE=>b1q I hm hE
noncomputable def a9N (P:Program)(w:World)(K:PySem.W.Frag)(mg:Str->Option Value)(base:Heap)(k:Nat)(x:Str)(ps:List Str)(sp:Sp):Prop :=
 ∃ (f:Addr) (fd:FuncData),a7n P w K mg base (CXD P w) k f fd ps sp/\mg x=some (.ref f)/\PySem.W.keepIn K (.ref f)=true/\O9 K fd ps []
noncomputable def a7z (P:Program)(w:World)(K:PySem.W.Frag)(mg:Str->Option Value)(base:Heap)(k:Nat)(C:Addr)(m:Str)(ps:List Str)(sp:Sp):Prop :=
 ∃ (f:Addr) (fd:FuncData),a7n P w K mg base (CXD P w) k f fd ps sp/\b6n K C m f/\O9 K fd ps []
section
variable {P:Program}{w:World}{K:PySem.W.Frag}{mg:Str->Option Value}{base:Heap}
theorem Raw.okXD {x:Str}{ps N:List Str}{st:Stmt}{k:Nat}{sp:Sp}(R:Raw K mg x ps st)(S:g0 N ps (c6 st))(len:∀ vs H Q E,sp vs H Q E->vs.length=ps.length)
  (hbody:∀ (f:Addr) (cdv:Value) (A:Around) (outer:List Env) (s:Shared) (H:Hp) (vs:List V) (Q:VK) (E:XK),G4 k (A.deeper (envOfC x (c6 st) s.heap.objs.size f cdv))->sp vs H Q E ->
   ∃ t,PSs (a2s (CXD P w) P w K mg base N x (c6 st) f cdv A outer s H E) (B9 st) t/\t { nx:=λ_ H'=>Q .non H',rt:=Q } (Y5 N vs) H):a9N P w K mg base (k + 1) x ps sp:=by
 obtain ⟨f,fd,F,m,b⟩:=R;have kp:=F.kp;obtain ⟨oc,od,kV,doc,pm,an,cdv,ct,osl,rfl,lk,hcd⟩:=F.ex;exact ⟨f,_,b2K lk hcd S len λA outer s H vs Q E hr hsp=>hbody f cdv A outer s H vs Q E hr hsp,m,kp,b⟩
theorem a7N.okXD {C:Addr}{m qual:Str}{ps N:List Str}{st:Stmt}{k:Nat}{sp:Sp}(R:a7N K C m qual ps st)(S:g0 N ps (c6 st))(len:∀ vs H Q E,sp vs H Q E->vs.length=ps.length)
  (hbody:∀ (f:Addr) (cdv:Value) (A:Around) (outer:List Env) (s:Shared) (H:Hp) (vs:List V) (Q:VK) (E:XK),G4 k (A.deeper (envOfC qual (c6 st) s.heap.objs.size f cdv))->sp vs H Q E ->
   ∃ t,PSs (a2s (CXD P w) P w K mg base N qual (c6 st) f cdv A outer s H E) (B9 st) t/\t { nx:=λ_ H'=>Q .non H',rt:=Q } (Y5 N vs) H):a7z P w K mg base (k + 1) C m ps sp:=by
 obtain ⟨f,fd,M,F,b⟩:=R;obtain ⟨oc,od,kV,doc,pm,an,cdv,ct,osl,rfl,lk,hcd⟩:=F.ex;exact ⟨f,_,b2K lk hcd S len λA outer s H vs Q E hr hsp=>hbody f cdv A outer s H vs Q E hr hsp,M,b⟩
end
section
variable {X:Cx}{k:Nat}{C:Addr}{m x:Str}{ps:List Str}{sp:Sp}{o e:Expr}{es:List Expr}{ta:TE}{t:TA}{p apos pos:Pos}{E:XK}
theorem E6 (D:a9N X.prog X.w X.K X.mg X.base k x ps sp)(hr:G4 k X.A)(hx:a6n (CXD X.prog X.w) X E)(ha:PA X (e :: es) t)(hg:Gl X x:=by rfl)
  (hdb:(x == ("__debug__" : Str))=false:=by decide) (he:starEach (e :: es) X.env=(false,eval e X.env) :: starEach es X.env:=by rfl) (hpl:(backTo pos (starEach es X.env)).any (·.1)=false:=by rfl) :
  PE X (.Call (.Name x p) (e :: es) [] pos) (b7E sp [] E t):=by
 obtain ⟨f,fd,F,m,kp,b⟩:=D;exact b5v F hr hg m kp b .nil hx ha hdb he hpl
end
noncomputable def c4o (C:Addr) (h:Heap):Prop:=∃ bm N nm qn bs hdc sn sub ab col dd k0 k1 k2 k3 k5,h.get? C=some (excClassObj nm qn C N bs bm hdc sn sub ab col dd k0 k1 k2 k3 k5 a5t)/\bm.contains (.type "BaseException")=true
theorem c1a {M:Model}{A:Around}{E:Value->Shared->Prop}{env:Env}{s:Shared}{x:Sem Value}{Q:Flow->Shared->Prop}(hh:A.handled=none)
  (h:wpAny M A x (λv s1=>∃ e o vs C,v = .ref e/\c4o C s1.heap /\ s1.heap.get? e=some o/\o.cls = .ref C/\o.data = .fields vs/\vs[1]? = some .none /\ E (.ref e) s1) E s) :
  wpAny M A (raiseStmt env (some x) none) Q E s:=by
 unfold raiseStmt;refine wpAny_bind (wpAny_mono h (λv s1 z=>?_) λ_ _ z=>z);obtain ⟨e,o,vs,C,rfl,⟨bm,N,nm,qn,bs,hdc,sn,sub,ab,col,dd,k0,k1,k2,k3,k5,hC,hb⟩,he,hc,hd,h1,hE⟩:=z;have cB:(Value.ref C :: bm).contains (.type "BaseException")=true:=by rw [List.contains_cons,hb,Bool.or_true]
 obtain ⟨oc,od,oda,osl⟩:=o;dsimp only at hc hd;subst hc hd;obtain ⟨hp,g,dr,tk,os⟩:=s1
 repeat (first
  | with_reducible refine wpAny_loadPart_at he ?_
  | with_reducible refine wpAny_loadPart_at hC ?_
  | (with_reducible refine wpAny_isSubtype_exc hC ?_;rw [cB])
  | wp_step)
 rw [h1];refine wpAny_pure ?_;rw [if_neg .(24)];exact wpAny_pure (wpAny_raiseNew_none hh hE)
noncomputable def b4P (X:Cx)(te:TE)(E:XK):TS:=λ_ σ H=>te σ H λv H1=>∃ x C fI od,v = .ref x/\H1 x=some (.ext (ExN x (.ref C) od))/\T3 X.K C fI=true/\X.sZ.heap.get? x=none/\E (.ref C) od (a8H H1 x)
section
variable {X:Cx}{E:XK}{ex:Expr}{te:TE}{pos:Pos}
noncomputable def b7y (X:Cx)(E:XK):Prop:=∀ (pins:List (Addr × Obj)) (σ:St) (H1:Hp) (s1:Shared) (x:Addr) (C:Value) (od:Option Addr),Inv X pins σ H1 s1->H1 x=some (.ext (ExN x C od))->X.sZ.heap.get? x=none->E C od (a8H H1 x)->X.xe (.ref x) s1
theorem Y4 {P:Program}{w:World}{K:PySem.W.Frag}{mg:Str->Option Value}{base:Heap}{N:List Str}{qual:Str}{scope:Scope}{f:Addr}{cd:Value}{A:Around}{outer:List Env}{s:Shared}{H:Hp}{E:XK} :
  b7y (a2s (CXD P w) P w K mg base N qual scope f cd A outer s H E) E:=λ_ _ _ _ _ _ _ I hx hn hE=>b2q I hx hn hE
theorem a2x (hc:X.calm=true)(hx:b7y X E)(he:PE X ex te):PS X (.Raise (some ex) none pos) (b4P X te E):=by
 intro pins s σ H D I h;rw [arm_exec_Raise];refine wpAny_bind (wpAny_standAt (c1a (I.ok.hd hc) ?_));refine wpAny_bind (wpAny_mono (he pins s σ H _ I h) (λu s1 z=>wpAny_bind (wpAny_standAt (wpAny_pure ?_))) λ_ _ z=>z);obtain ⟨v,H1,I1,rv,x,C,fI,od,rfl,e1,e2,e3,e4⟩:=z;obtain rfl:u=Value.ref x:=rv;obtain ⟨bm,N,nm,qn,bs,hdc,sn,sub,ab,col,dd,k0,k1,k2,k3,k5,mN,hC,hN,hi,tl⟩:=b7e I1.kIn e2;obtain ⟨⟨o,vs,tp,ho,hcl,hd,h0,h1,hdi⟩,_,_⟩:=I1.hok x _ e1;exact ⟨x,o,vs,C,rfl,⟨bm,N,nm,qn,bs,hdc,sn,sub,ab,col,dd,k0,k1,k2,k3,k5,hC,tl.hasType .(28)⟩,ho,hcl,hd,h1,hx pins σ H1 s1 x _ od I1 e1 e3 e4⟩
end
noncomputable def b6P (X:Cx)(C:Addr)(sp:Sp)(t:TA):TE:=fun σ H Q=>t σ H λvs H1=>vs.length <= sizeLine/\∀ x,H1 x=none->X.sZ.heap.get? x=none->sp (.ref x :: vs) (upd H1 x (.ext (ExN x (.ref C) none))) (λv H2=>v = .non /\ Q (.ref x) H2) E0
section
variable {X:Cx}{k:Nat}{C:Addr}{ps:List Str}{sp:Sp}{x:Str}{e:Expr}{es:List Expr}{t:TA}{p pos:Pos}
theorem a0E (D:DfE X.prog X.w X.K X.mg X.base k C ps sp)(hr:G4 (k + 1) X.A)(hm:X.mg x=some (.ref C))(ha:PA X (e :: es) t)(hg:Gl X x:=by rfl)
  (hdb:(x == ("__debug__" : Str))=false:=by decide) (he:starEach (e :: es) X.env=(false,eval e X.env) :: starEach es X.env:=by rfl) (hpl:(backTo pos (starEach es X.env)).any (·.1)=false:=by rfl) (hex:X.ex=[]:=by rfl) :
  PE X (.Call (.Name x p) (e :: es) [] pos) (b6P X C sp t):=by
 obtain ⟨f,fd,F,⟨q1,q2,q3⟩,b,_⟩:=D;intro pins s σ H Q I h;refine wpAny_Call_Name_kw (a5x I hg hm ?_ hdb);refine PySem.W.callWith_K (h₀:=X.base) I.ok.mod.kin q3 (thn (ha pos pins s σ H _ I h) λus s1 ⟨vs,H1,I1,r,q⟩=>⟨I1.kIn,?_⟩) he hpl;refine b4G (zs:=us) F q1 q2 hr hex I1 (by show us.length <= sizeLine;rw [← r.length];exact q.1) r (λe s3 k3 hl=>?_) q.2;have z:=b s3 (.ref e :: us) k3 (by rw [List.append_nil];exact hl);rw [List.append_nil] at z;exact z
end
noncomputable def Cx.tryD (X:Cx)(pins:List (Addr × Obj))(W:St->XK):Cx :=
 { X with pn:=X.pn ++ pins,xe:=λe s'=>∃ (σ:St) (H0 H':Hp) (s0:Shared) (x:Addr) (C:Value) (od:Option Addr),e = .ref x/\Inv X pins σ H0 s0/\s'.os=s0.os /\ AllBare s'.gens /\ Fly X.prog X.w X.stack H0 H' s0.heap s'.heap x C/\a3C x od s'.heap /\ W σ C od H' }
section
variable {X:Cx}{pins:List (Addr × Obj)}{σ:St}{H:Hp}{s:Shared}{W:St->XK}
theorem Cx.Ok.tryInD (o:X.Ok):(X.tryD pins W).Ok:=⟨o.mod,o.kind,o.glob,o.blt,o.above,o.inj,o.has,o.cab,o.hd,o.frames,o.stk,o.exf,o.bs,o.bsz,o.noex,o.exfs,o.funs,o.frf⟩
theorem Cx.Ok.tryOutD (o:(X.tryD pins W).Ok):X.Ok:=⟨o.mod,o.kind,o.glob,o.blt,o.above,o.inj,o.has,o.cab,o.hd,o.frames,o.stk,o.exf,o.bs,o.bsz,o.noex,o.exfs,o.funs,o.frf⟩
theorem Inv.tryInD (I:Inv X pins σ H s):Inv (X.tryD pins W) [] σ H s:=⟨I.ok.tryInD,I.os,I.bare,I.base,I.loc,I.cell,I.free,I.freeC,λp hp=>I.pin p (by rw [List.append_nil] at hp;exact hp),I.hok,I.len⟩
theorem Inv.tryOutD {pins':List (Addr × Obj)}(I:Inv (X.tryD pins W) pins' σ H s):Inv X pins σ H s:=⟨I.ok.tryOutD,I.os,I.bare,I.base,I.loc,I.cell,I.free,I.freeC,λp hp=>I.pin p (List.mem_append_left _ hp),I.hok,I.len⟩
theorem c9d:b9y (CXD X.prog X.w) (X.tryD pins W) W:=λ_ σ H s _ _ I ⟨x,C,od,H',q,os,bare,F,di,hE⟩=>⟨σ,H,H',s,x,C,od,q,I.tryOutD,os,bare,F,di,hE⟩
end
theorem c2f {X:Cx}{pins:List (Addr × Obj)}{σ:St}{H:Hp}{s:Shared}{x:Addr}{C:Value}{od:Option Addr}(I:Inv X pins σ (upd H x (.ext (b8n x C))) s)(e:ExA x C od s.heap):Inv X pins σ (upd H x (.ext (ExA x C od))) s:=by
 obtain ⟨o,vs,ho,r⟩:=id e;have z:=I.write (x:=x) (e:=x) (o:=.ext (ExA x C od)) (h':=s.heap) (t':=s.toks) (by rw [b7];trivial) (.inl rfl) (λb u _ q=>q) ⟨o,ho⟩ (c5g e);rw [b1P] at z;exact z
section
variable {X:Cx}{CX:CXT}{k:Nat}{f C:Addr}{fd:FuncData}{ps:List Str}{sp:Sp}{dvs:List V}{ds:List Value}{E:XK}{W:St->XK}{x m:Str}{p pos apos:Pos}{e o:Expr}{es:List Expr}{ta:TE}{t:TA}
theorem b7U {pl:Sem Bool}(D:a7z X.prog X.w X.K X.mg X.base k C m ps sp)(c:Cls X.K C)(hr:G4 k X.A)(hx:b9y (CXD X.prog X.w) X W)(he:PE X o ta)(ha:PA X (e :: es) t)
  (hst:starEach (e :: es) X.env=(false,eval e X.env) :: starEach es X.env:=by rfl) (hpl:(backTo pos (starEach es X.env)).any (·.1)=false:=by rfl)
  (ht:eval (.Call (.Attribute o m apos) (e :: es) [] pos) X.env=(do
   let ov ← eval o X.env
   standAt apos.atName
   let (f,first) ← holding [ov] (getMethod ov m pl)
   callWith pos f first (backTo pos (starEach (e :: es) X.env)) (backToKw pos (keywordEach [] X.env))):=by rfl) :
  PE X (.Call (.Attribute o m apos) (e :: es) [] pos) (c9a C m sp [] W ta t):=by
 obtain ⟨f,fd,F,M,b⟩:=D;intro pins s σ H Q I h;refine PySem.W.methodCall_KW (pl:=pl) (thn (he pins s σ H _ I h) λu s1 ⟨x,H1,I1,rx,a,dx,fs,ex,ea,l,q⟩=>?_) ht;subst ex;obtain rfl:u=Value.ref a:=rx;refine a7r I1 ea c M l ?_;refine PySem.W.callWith_K (first:=[.ref a]) (h₀:=X.base) I.ok.mod.kin M.kp (thn (ha pos pins s1 σ H1 _ I1 q) λus s2 ⟨vs,H2,I2,r,q2⟩=>⟨I2.kIn,?_⟩) hst hpl;exact b6S (us:=.ref a :: us) (vs:=.ref a :: vs) F hr b .nil (λe s' z=>hx pins σ H2 s2 e s' I2 z) I2 (.cons rfl r) q2
end
noncomputable def c3i (K:PySem.W.Frag)(Wc:Addr)(ie:Nat)(th:TS)(D:a0x):St->XK:=fun σ C od H=>PySem.W.exmOne K C (.ref Wc)=some true /\
 ∀ x,H x=none->th { nx:=fun σ2 H2=>D.nx (σ2.set ie none) H2,rt:=D.rt,bk:=fun σ2 H2=>D.bk (σ2.set ie none) H2,ct:=fun σ2 H2=>D.ct (σ2.set ie none) H2 } (σ.set ie (some (.ref x))) (upd H x (.ext (ExA x C od)))
noncomputable def b2P (K:PySem.W.Frag)(Wc:Addr)(ie:Nat)(t:(St->XK)->TS)(th:TS):TS:=λD σ H=>t (c3i K Wc ie th D) D σ H
section
variable {X:Cx}{K:PySem.W.Frag}{Wc:Addr}{wn n:Str}{ie:Nat}{body suite:List Stmt}{b0:Stmt}{t:(St->XK)->TS}{th:TS}{np hp pos:Pos}
theorem b9B (hK:X.K=K)(hex:X.ex=[])(hst:X.stack=X.env :: X.outer)(hfr:X.env.frame=some X.env.locals)(hN:X.N.Nodup)(hi:X.N[ie]? = some n)(hk:X.env.kindOf n=some .local)(hm:X.mg wn=some (.ref Wc))
  (hb:∀ pins W,PSs (X.tryD pins W) body (t W)) (hh:∀ v,PSs (X.markX v) (b0 :: suite) th) (hg:Gl X wn:=by rfl) (hd:(wn == ("__debug__" : Str))=false:=by decide) :
  PS X (.Try body [.ExceptHandler (some (.Name wn np)) (some n) (b0 :: suite) hp] [] [] pos) (b2P K Wc ie t th):=by
 subst hK;intro pins s σ H D I h;refine wpAny_Try_except (wpAny_mono (hb pins _ [] s σ H D I.tryInD h) (λf s1 q=>?_) λe s1 q=>?_)
 ·cases f with
  | next =>
   obtain ⟨σ',H',I',q⟩:=q;exact wpAny_execs_nil ⟨σ',H',I'.tryOutD,q⟩
  | brk=>obtain ⟨σ',H',I',q⟩:=q;exact ⟨σ',H',I'.tryOutD,q⟩
  | cont=>obtain ⟨σ',H',I',q⟩:=q;exact ⟨σ',H',I'.tryOutD,q⟩
  | ret u=>obtain ⟨v,σ',H',I',q⟩:=q;exact ⟨v,σ',H',I'.tryOutD,q⟩
 ·obtain ⟨σ',H0,H',s0,x,C,od,rfl,I0,os,bare,⟨B,arg,b,fl,fr⟩,di,hm1,hW⟩:=q;have frames:X.A.frames=some (X.env :: X.outer):=by rw [← hst];exact I0.ok.frames
  have go1:=wpAny_looks_onW (M:=model X.prog X.w) (A:=X.A) (E:=λ_ _=>False) (s:=s1) (base:=B) (Q:=λ_ s'=>∃ h',s'={ s1 with heap:=h' }/\Heap.HeldW B (X.env :: X.outer) x C arg X.env.locals h'/\s1.heap.UpToSlots h') frames hfr (by rw [← hst];exact fl) λh' u v=>⟨h',rfl,u,v⟩;refine wpAny_mono (a8n x (a7E _ _) go1) (λ_ s' z=>?_) λ_ _ z=>z.1.elim;obtain ⟨⟨h1,rfl,held,up1⟩,dk1⟩:=z;have go2:=wpAny_landsW (M:=model X.prog X.w) (A:=X.A) (E:=λ_ _=>False) (s:={ s1 with heap:=h1 }) (Q:=λ_ s'=>∃ h',s'={ s1 with heap:=h' }/\Heap.FlyingW B (X.env :: X.outer) x C arg h'/\h1.UpToSlots h') held λh' u v=>⟨h',rfl,u,v⟩;refine wpAny_mono (a8n x (a6r _ _) go2) (λ_ s' z=>?_) λ_ _ z=>z.1.elim;obtain ⟨⟨h2,rfl,fl2,up2⟩,dk2⟩:=z;rw [← hst] at fl2;obtain ⟨I2,hn⟩:=b3L (s1:=s1) (h:=h2) I0 hex os bare b fl fr fl2 (up1.trans up2);refine wpAny_handleBy_cons (s:={ s1 with heap:=h2 }) (codeAny_handlers_test ?_) (by intro z;cases z);refine Calls.Name_function_global I2.ok.kind hg (Calls.loadGlobal_global (by rw [I2.ok.glob];exact I2.mod.glob.keeps I2.bk) hm ?_) hd;have L:PySem.W.Looks (model X.prog X.w) h2 (excMatches (.ref x) (.ref Wc)) true:=PySem.W.exm_one I2.kIn (b8e fl2.there) hm1;refine L.at ?_;refine codeAny_handlers_suite_as (s:={ s1 with heap:=h2 }) ?_;have go3:=lands_againW (M:=model X.prog X.w) (A:=X.A.mark (some (.ref x))) (E:=λ_ _=>False) (s:={ s1 with heap:=h2 }) (Q:=λ_ s'=>∃ h',s'={ s1 with heap:=h' }/\Heap.FlyingW B X.stack x C arg h'/\h2.UpToSlots h') fl2 λh' u v=>⟨h',rfl,u,v⟩;refine wpAny_mono (a8n x (a6r _ _) go3) (λ_ s' z=>?_) λ_ _ z=>z.1.elim;obtain ⟨⟨h3,rfl,fl3,up3⟩,dk3⟩:=z;obtain ⟨I3',_⟩:=b3L (s1:=s1) (h:=h3) I0 hex os bare b fl fr fl3 ((up1.trans up2).trans up3);obtain ⟨oe,ws,T,oT,ts,he,⟨hcls,_⟩,hd3,_⟩:=fl3.2.2.2;obtain ⟨oe',he',hde⟩:=di.dk ((dk1.trans dk2).trans dk3) he;rw [he] at he';cases he';have I3:=c2f I3' ⟨oe,ws,he,hcls,hd3,hde⟩;refine a1Q (s:={ s1 with heap:=h3 }) I3 hN hi (.inl hk) (v:=.ref x) rfl (λs4 I4=>?_) (.inr hk);refine wpAny_mono (hh (.ref x) pins s4 _ _ _ I4.markIn (hW x hn)) (λf s5 q=>?_) λe' s5 q=>q.elim;cases f with
  | next=>obtain ⟨σ5,H5,I5,q⟩:=q;exact a8O (I5.markOut I0.ok) hN hi hk λs6 I6=>⟨_,H5,I6,q⟩
  | brk=>obtain ⟨σ5,H5,I5,q⟩:=q;exact a8O (I5.markOut I0.ok) hN hi hk λs6 I6=>⟨_,H5,I6,q⟩
  | cont=>obtain ⟨σ5,H5,I5,q⟩:=q;exact a8O (I5.markOut I0.ok) hN hi hk λs6 I6=>⟨_,H5,I6,q⟩
  | ret u=>obtain ⟨v,σ5,H5,I5,r,q⟩:=q;exact a8O (I5.markOut I0.ok) hN hi hk λs6 I6=>⟨v,_,H5,I6,r,q⟩
end
section
variable {X:Cx}{K:PySem.W.Frag}
theorem B7 (h:X.K=K):B6 X (.builtin "isinstance") (λxs H Q=>∃ (x D:Addr) (c:V) (b:Bool) (φ:Heap->Prop),xs=[.ref x,c]/\H x=some (.ext φ)/\(∀ h,φ h->b8n x (.ref D) h)/\O5 K D=true /\
  ((b9w c=true/\PySem.W.kitOne K (.ref D) (cV c)=some b) \/ ∃ p cs,c = .ref p/\H p=some (.tup cs)/\cs.all b9w=true/\PySem.W.kitAny K (.ref D) (cs.map cV)=some b)/\Q (.bl b) H):=by
 subst h;intro pins s σ H xs us Q I r ⟨x,D,c,b,φ,e,hx,hφ,kit,how,q⟩;subst e;obtain ⟨u,v,rfl,r1,r2⟩:=r.two;obtain rfl:u=Value.ref x:=r1;have p:b8n x (.ref D) s.heap:=hφ _ (I.hok x _ hx).1
 rcases how with ⟨hc,hb⟩ | ⟨p',cs,rfl,hp,hall,hb⟩
 ·rw [b8Z r2 hc];exact PySem.W.kia_one (b4k kit) I.kIn p hb (by intro z;cases z) λtk=>⟨.bl b,H,I.tok _,rfl,q⟩
 ·obtain rfl:v=Value.ref p':=r2;obtain ⟨_,its,rv,o,ho,hcl,n,hd⟩:=I.hok p' _ hp;obtain ⟨oc,od,odt,osl⟩:=o;have e1:oc = .type "tuple":=hcl;have e2:odt = .seq its.toArray n:=hd;subst e1 e2;have e3:=b6L rv hall;subst e3;exact PySem.W.kia_tup (b4k kit) I.kIn p ho hb (by intro z;cases z) λtk=>⟨.bl b,H,I.tok _,rfl,q⟩
end
theorem PS.nox {X:Cx}{st:Stmt}{t:TS}(h:PS X.nox st t):PS X st t:=λpins s σ H D I q =>
 wpAny_mono (h pins s σ H D (I.wish _) q) (λ_ _ z=>z.unwish) λ_ _ z=>z.elim
theorem a7n.plain {P:Program}{w:World}{K:PySem.W.Frag}{mg:Str->Option Value}{base:Heap}{k:Nat}{f:Addr}{fd:FuncData}{ps:List Str}{sp:Sp}(F:a7n P w K mg base (CXD P w) k f fd ps sp) :
  a7n P w K mg base CX0 k f fd ps (λvs H Q _=>sp vs H Q E0) :=
 ⟨λvs H Q _ h=>F.len vs H Q E0 h,λA outer s H args us vs Q E hr e b v h=>codeAny_mono (F.run A outer s H args us vs Q E0 hr e b v h) λr s' z=>by
  cases r with
  | ok u=>cases u <;> exact z
  | error e =>
   obtain ⟨_,_,_,_,_,_,_,_,_,z⟩:=z;exact z⟩
section
variable {X:Cx}{k:Nat}{C:Addr}{m:Str}{ps:List Str}{sp:Sp}{o e:Expr}{es:List Expr}{ta:TE}{t:TA}{apos pos:Pos}{E:XK}
theorem a1E {pl:Sem Bool}(D:a7z X.prog X.w X.K X.mg X.base k C m ps sp)(c:Cls X.K C)(hr:G4 k X.A)(hx:a6n (CXD X.prog X.w) X E)(he:PE X o ta)(ha:PA X (e :: es) t)
  (hst:starEach (e :: es) X.env=(false,eval e X.env) :: starEach es X.env:=by rfl) (hpl:(backTo pos (starEach es X.env)).any (·.1)=false:=by rfl)
  (ht:eval (.Call (.Attribute o m apos) (e :: es) [] pos) X.env=(do
   let ov ← eval o X.env
   standAt apos.atName
   let (f,first) ← holding [ov] (getMethod ov m pl)
   callWith pos f first (backTo pos (starEach (e :: es) X.env)) (backToKw pos (keywordEach [] X.env))):=by rfl) :
  PE X (.Call (.Attribute o m apos) (e :: es) [] pos) (a5P C m sp [] E ta t):=by
 obtain ⟨f,fd,F,M,b⟩:=D;exact b2d (pl:=pl) he c M F hr b .nil hx ha hst hpl ht
theorem a3R {pl:Sem Bool}(D:a7z X.prog X.w X.K X.mg X.base k C m ps sp)(c:Cls X.K C)(hr:G4 k X.A)(he:PE X o ta)(ha:PA X (e :: es) t)
  (hst:starEach (e :: es) X.env=(false,eval e X.env) :: starEach es X.env:=by rfl) (hpl:(backTo pos (starEach es X.env)).any (·.1)=false:=by rfl)
  (ht:eval (.Call (.Attribute o m apos) (e :: es) [] pos) X.env=(do
   let ov ← eval o X.env
   standAt apos.atName
   let (f,first) ← holding [ov] (getMethod ov m pl)
   callWith pos f first (backTo pos (starEach (e :: es) X.env)) (backToKw pos (keywordEach [] X.env))):=by rfl) :
  PE X (.Call (.Attribute o m apos) (e :: es) [] pos) (a5P C m (λvs H Q _=>sp vs H Q E0) [] E0 ta t):=by
 obtain ⟨f,fd,F,M,b⟩:=D;exact b2d (pl:=pl) he c M F.plain hr b .nil a2Y ha hst hpl ht
end
end L2
namespace Mw
open PySem L2
noncomputable def top (i:Nat):Stmt:=PySem.Challenge.pw_midwindow_k35_desk_refused.main.body.getD i (.Pass ⟨0,0,0,0⟩)
noncomputable abbrev a4v:Stmt:=top 10
theorem a6D:g0 ["word","figures"] ["word"] (c6 a4v):=⟨rfl,rfl,rfl,by decide +kernel,rfl,by decide +kernel,by decide +kernel⟩
noncomputable abbrev a9I:Stmt:=top 11
theorem b9p:g0 ["word"] ["word"] (c6 a9I):=⟨rfl,rfl,rfl,by decide +kernel,rfl,by decide +kernel,by decide +kernel⟩
noncomputable abbrev a6v:Stmt:=top 12
theorem b5c:g0 ["word"] ["word"] (c6 a6v):=⟨rfl,rfl,rfl,by decide +kernel,rfl,by decide +kernel,by decide +kernel⟩
noncomputable abbrev a6q:Stmt:=top 13
theorem a6V:g0 ["cell"] ["cell"] (c6 a6q):=⟨rfl,rfl,rfl,by decide +kernel,rfl,by decide +kernel,by decide +kernel⟩
noncomputable abbrev a6u:Stmt:=top 14
theorem P3:g0 ["lines","rows","row","line","words"] ["lines"] (c6 a6u):=⟨rfl,rfl,rfl,by decide +kernel,rfl,by decide +kernel,by decide +kernel⟩
noncomputable abbrev a5u:Stmt:=top 15
theorem b1c:g0 ["row"] ["row"] (c6 a5u):=⟨rfl,rfl,rfl,by decide +kernel,rfl,by decide +kernel,by decide +kernel⟩
noncomputable abbrev a5v:Stmt:=top 17
theorem b4c:g0 ["field","i","j"] ["field","i","j"] (c6 a5v):=⟨rfl,rfl,rfl,by decide +kernel,rfl,by decide +kernel,by decide +kernel⟩
noncomputable abbrev R5:Stmt:=top 18
theorem Y7:g0 ["rule","place","length","there"] ["rule","place","length"] (c6 R5):=⟨rfl,rfl,rfl,by decide +kernel,rfl,by decide +kernel,by decide +kernel⟩
noncomputable abbrev a4u:Stmt:=top 19
theorem a1D:g0 ["field","rule","i","j","row"] ["field","rule","i","j"] (c6 a4u):=⟨rfl,rfl,rfl,by decide +kernel,rfl,by decide +kernel,by decide +kernel⟩
noncomputable abbrev U9:Stmt:=top 20
theorem a5I:g0 ["place","ahead","behind"] ["place","ahead","behind"] (c6 U9):=⟨rfl,rfl,rfl,by decide +kernel,rfl,by decide +kernel,by decide +kernel⟩
noncomputable abbrev X4:Stmt:=top 21
theorem J3:g0 ["field","window","rule","i","j","columns","cells","row","column"] ["field","window","rule","i","j"] (c6 X4):=⟨rfl,rfl,rfl,by decide +kernel,rfl,by decide +kernel,by decide +kernel⟩
noncomputable abbrev R4:Stmt:=top 23
theorem a3D:g0 ["how_many","share"] ["how_many","share"] (c6 R4):=⟨rfl,rfl,rfl,by decide +kernel,rfl,by decide +kernel,by decide +kernel⟩
noncomputable abbrev a0q:Stmt:=top 24
theorem a2V:g0 ["numbers","share"] ["numbers","share"] (c6 a0q):=⟨rfl,rfl,rfl,by decide +kernel,rfl,by decide +kernel,by decide +kernel⟩
noncomputable abbrev U7:Stmt:=top 25
theorem a3I:g0 ["cells"] ["cells"] (c6 U7):=⟨rfl,rfl,rfl,by decide +kernel,rfl,by decide +kernel,by decide +kernel⟩
noncomputable abbrev U8:Stmt:=top 26
theorem a4I:g0 ["cells","share"] ["cells","share"] (c6 U8):=⟨rfl,rfl,rfl,by decide +kernel,rfl,by decide +kernel,by decide +kernel⟩
noncomputable abbrev a2B:Stmt:=top 27
theorem T6:g0 ["field","window","rule","share","rows","i","row","j"] ["field","window","rule","share"] (c6 a2B):=⟨rfl,rfl,rfl,by decide +kernel,rfl,by decide +kernel,by decide +kernel⟩
noncomputable abbrev R3:Stmt:=top 29
theorem a2D:g0 ["field","i","j"] ["field","i","j"] (c6 R3):=⟨rfl,rfl,rfl,by decide +kernel,rfl,by decide +kernel,by decide +kernel⟩
noncomputable abbrev a1A:Stmt:=top 30
theorem b6i:g0 ["row","j","cell"] ["row","j","cell"] (c6 a1A):=⟨rfl,rfl,rfl,by decide +kernel,rfl,by decide +kernel,by decide +kernel⟩
noncomputable abbrev a5q:Stmt:=top 31
theorem a5V:g0 ["field","i","j","cell"] ["field","i","j","cell"] (c6 a5q):=⟨rfl,rfl,rfl,by decide +kernel,rfl,by decide +kernel,by decide +kernel⟩
noncomputable abbrev a8q:Stmt:=top 54
theorem a7V:g0 ["numbers","least","most"] ["numbers","least","most"] (c6 a8q):=⟨rfl,rfl,rfl,by decide +kernel,rfl,by decide +kernel,by decide +kernel⟩
noncomputable abbrev V0:Stmt:=top 55
theorem a6I:g0 ["words","how_many"] ["words","how_many"] (c6 V0):=⟨rfl,rfl,rfl,by decide +kernel,rfl,by decide +kernel,by decide +kernel⟩
noncomputable abbrev a7q:Stmt:=top 56
theorem a1z:g0 ["word","cell"] ["word"] (c6 a7q):=⟨rfl,rfl,rfl,by decide +kernel,rfl,by decide +kernel,by decide +kernel⟩
noncomputable abbrev X5:Stmt:=top 57
theorem a6s:g0 ["words","sides"] ["words"] (c6 X5):=⟨rfl,rfl,rfl,by decide +kernel,rfl,by decide +kernel,by decide +kernel⟩
noncomputable abbrev a1q:Stmt:=top 58
theorem a3V:g0 ["words"] ["words"] (c6 a1q):=⟨rfl,rfl,rfl,by decide +kernel,rfl,by decide +kernel,by decide +kernel⟩
noncomputable abbrev Z7:Stmt:=top 59
theorem a3u:g0 ["words","share"] ["words"] (c6 Z7):=⟨rfl,rfl,rfl,by decide +kernel,rfl,by decide +kernel,by decide +kernel⟩
noncomputable abbrev Z6:Stmt:=top 60
theorem a2u:g0 ["words","times"] ["words"] (c6 Z6):=⟨rfl,rfl,rfl,by decide +kernel,rfl,by decide +kernel,by decide +kernel⟩
noncomputable abbrev Z8:Stmt:=top 61
theorem X3:g0 ["text","field","row"] ["text"] (c6 Z8):=⟨rfl,rfl,rfl,by decide +kernel,rfl,by decide +kernel,by decide +kernel⟩
noncomputable abbrev a2A:Stmt:=top 65
theorem b7i:g0 ["field"] ["field"] (c6 a2A):=⟨rfl,rfl,rfl,by decide +kernel,rfl,by decide +kernel,by decide +kernel⟩
noncomputable abbrev a5A:Stmt:=top 68
theorem a6K:g0 ["cell","number"] ["cell"] (c6 a5A):=⟨rfl,rfl,rfl,by decide +kernel,rfl,by decide +kernel,by decide +kernel⟩
noncomputable abbrev a0B:Stmt:=top 69
theorem Y6:g0 ["seed","most","found","number"] ["seed","most"] (c6 a0B):=⟨rfl,rfl,rfl,by decide +kernel,rfl,by decide +kernel,by decide +kernel⟩
noncomputable abbrev a2v:Stmt:=top 70
theorem b3c:g0 ["script","many"] ["script","many"] (c6 a2v):=⟨rfl,rfl,rfl,by decide +kernel,rfl,by decide +kernel,by decide +kernel⟩
noncomputable abbrev a3q:Stmt:=top 71
theorem a4V:g0 ["seed","kind"] ["seed","kind"] (c6 a3q):=⟨rfl,rfl,rfl,by decide +kernel,rfl,by decide +kernel,by decide +kernel⟩
noncomputable abbrev a1v:Stmt:=top 72
theorem F4:g0 ["seed","height","width","holes","kind","rows","i","row","j","cell"] ["seed","height","width","holes"] (c6 a1v):=⟨rfl,rfl,rfl,by decide +kernel,rfl,by decide +kernel,by decide +kernel⟩
noncomputable abbrev a7u:Stmt:=top 73
theorem a4D:g0 ["seed","way"] ["seed"] (c6 a7u):=⟨rfl,rfl,rfl,by decide +kernel,rfl,by decide +kernel,by decide +kernel⟩
noncomputable abbrev a2q:Stmt:=top 74
theorem a0z:g0 ["seed","most"] ["seed"] (c6 a2q):=⟨rfl,rfl,rfl,by decide +kernel,rfl,by decide +kernel,by decide +kernel⟩
noncomputable abbrev a7A:Stmt:=top 75
theorem a7K:g0 ["seed","way"] ["seed"] (c6 a7A):=⟨rfl,rfl,rfl,by decide +kernel,rfl,by decide +kernel,by decide +kernel⟩
noncomputable abbrev a8u:Stmt:=top 76
theorem a8p:g0 ["seed","way","below"] ["seed"] (c6 a8u):=⟨rfl,rfl,rfl,by decide +kernel,rfl,by decide +kernel,by decide +kernel⟩
noncomputable abbrev a0v:Stmt:=top 77
theorem a5D:g0 ["rule","k","size"] ["rule","k","size"] (c6 a0v):=⟨rfl,rfl,rfl,by decide +kernel,rfl,by decide +kernel,by decide +kernel⟩
noncomputable abbrev V1:Stmt:=top 78
theorem r6:g0 ["field","window","rule","i","j","up","down","left","right","found","k","m","row","column"] ["field","window","rule","i","j"] (c6 V1):=⟨rfl,rfl,rfl,by decide +kernel,rfl,by decide +kernel,by decide +kernel⟩
noncomputable abbrev a4A:Stmt:=top 79
theorem a5K:g0 ["cells","share","some"] ["cells","share"] (c6 a4A):=⟨rfl,rfl,rfl,by decide +kernel,rfl,by decide +kernel,by decide +kernel⟩
noncomputable abbrev X7:Stmt:=top 80
theorem F2:g0 ["field","window","rule","share","rows","i","row","j","some"] ["field","window","rule","share"] (c6 X7):=⟨rfl,rfl,rfl,by decide +kernel,rfl,by decide +kernel,by decide +kernel⟩
noncomputable abbrev a3A:Stmt:=top 81
theorem b8i:g0 ["cell"] ["cell"] (c6 a3A):=⟨rfl,rfl,rfl,by decide +kernel,rfl,by decide +kernel,by decide +kernel⟩
noncomputable abbrev a9u:Stmt:=top 82
theorem b2c:g0 ["field"] ["field"] (c6 a9u):=⟨rfl,rfl,rfl,by decide +kernel,rfl,by decide +kernel,by decide +kernel⟩
noncomputable abbrev a9A:Stmt:=top 83
theorem b9i:g0 ["rule"] ["rule"] (c6 a9A):=⟨rfl,rfl,rfl,by decide +kernel,rfl,by decide +kernel,by decide +kernel⟩
noncomputable abbrev a7I:Stmt:=top 84
theorem b8p:g0 ["window","field"] ["window","field"] (c6 a7I):=⟨rfl,rfl,rfl,by decide +kernel,rfl,by decide +kernel,by decide +kernel⟩
noncomputable abbrev a3v:Stmt:=top 85
theorem C8:g0 ["seed","height","width","field","window","rule","share","lines"] ["seed"] (c6 a3v):=⟨rfl,rfl,rfl,by decide +kernel,rfl,by decide +kernel,by decide +kernel⟩
noncomputable abbrev a1B:Stmt:=top 86
theorem t4:g0 ["seed","state","field","window","rule","share","way","other","i","j","cell","row","changed"] ["seed","state"] (c6 a1B):=⟨rfl,rfl,rfl,by decide +kernel,rfl,by decide +kernel,by decide +kernel⟩
noncomputable abbrev a4q:Stmt:=top 87
theorem A6:g0 ["seed","some","sign","text","row"] ["seed"] (c6 a4q):=⟨rfl,rfl,rfl,by decide +kernel,rfl,by decide +kernel,by decide +kernel⟩
noncomputable abbrev X6:Stmt:=top 88
theorem J4:g0 ["seed","words","odd"] ["seed"] (c6 X6):=⟨rfl,rfl,rfl,by decide +kernel,rfl,by decide +kernel,by decide +kernel⟩
noncomputable abbrev a8I:Stmt:=top 89
theorem y6:g0 ["seed","state","height","width","way","i","j","asks","word"] ["seed","state"] (c6 a8I):=⟨rfl,rfl,rfl,by decide +kernel,rfl,by decide +kernel,by decide +kernel⟩
noncomputable abbrev a8A:Stmt:=top 90
theorem O6:g0 ["desk","line","kind","e"] ["desk","line"] (c6 a8A):=⟨rfl,rfl,rfl,by decide +kernel,rfl,by decide +kernel,by decide +kernel⟩
noncomputable abbrev a6A:Stmt:=top 91
theorem L6:g0 ["desk","state","field","window","rule","share","some","words"] ["desk","state"] (c6 a6A):=⟨rfl,rfl,rfl,by decide +kernel,rfl,by decide +kernel,by decide +kernel⟩
noncomputable abbrev b8u:Stmt:=top 92
theorem L7:g0 ["script","seed","state","lines","desk","line","cell","turn","due","field","window","rule","share"] ["script"] (c6 b8u):=⟨rfl,rfl,rfl,by decide +kernel,rfl,by decide +kernel,by decide +kernel⟩
noncomputable abbrev a7v:Stmt:=W2 (top 66) 0
theorem b6c:g0 ["self"] ["self"] (c6 a7v):=⟨rfl,rfl,rfl,by decide +kernel,rfl,by decide +kernel,by decide +kernel⟩
noncomputable abbrev a3B:Stmt:=W2 (top 66) 1
theorem a8K:g0 ["self","line","words"] ["self","line"] (c6 a3B):=⟨rfl,rfl,rfl,by decide +kernel,rfl,by decide +kernel,by decide +kernel⟩
noncomputable abbrev R6:Stmt:=W2 (top 66) 2
theorem a7D:g0 ["self","word","words"] ["self","word","words"] (c6 R6):=⟨rfl,rfl,rfl,by decide +kernel,rfl,by decide +kernel,by decide +kernel⟩
noncomputable abbrev O1:Stmt:=W2 (top 66) 3
theorem N2:g0 ["self","words","place","cell"] ["self","words"] (c6 O1):=⟨rfl,rfl,rfl,by decide +kernel,rfl,by decide +kernel,by decide +kernel⟩
noncomputable abbrev J7:Stmt:=W2 (top 66) 4
theorem a9p:g0 ["self"] ["self"] (c6 J7):=⟨rfl,rfl,rfl,by decide +kernel,rfl,by decide +kernel,by decide +kernel⟩
noncomputable abbrev P6:Stmt:=W2 (top 66) 5
theorem a0A:g0 ["self","word","words"] ["self","word","words"] (c6 P6):=⟨rfl,rfl,rfl,by decide +kernel,rfl,by decide +kernel,by decide +kernel⟩
noncomputable abbrev V2:Stmt:=W2 (top 66) 6
theorem a0o:g0 ["self","place","cells"] ["self","place"] (c6 V2):=⟨rfl,rfl,rfl,by decide +kernel,rfl,by decide +kernel,by decide +kernel⟩
noncomputable abbrev O0:Stmt:=W2 (top 66) 7
theorem a3y:g0 ["self","most","told","words"] ["self","most"] (c6 O0):=⟨rfl,rfl,rfl,by decide +kernel,rfl,by decide +kernel,by decide +kernel⟩
noncomputable abbrev P4:Stmt:=W2 (top 5) 0
theorem a9M:g0 ["self","row"] ["self","row"] (c6 P4):=⟨rfl,rfl,rfl,by decide +kernel,rfl,by decide +kernel,by decide +kernel⟩
structure Txt (K:PySem.W.Frag)(mg:Str->Option Value)(C:Addr):Prop where
 g_Desk:mg "Desk" = some (.ref C)
 cl_Desk:Cls K C
 a_field:J9 K C "field"
 a_rule:J9 K C "rule"
 a_share:J9 K C "share"
 a_window:J9 K C "window"
 m_Desk_init:b4Y K C "Desk.__init__" ["self"] a7v
 m_Desk_ask:a7N K C "ask" "Desk.ask" ["self","line"] a3B
 m_Desk_change_by:a7N K C "change_by" "Desk.change_by" ["self","word","words"] R6
 m_Desk_change_cell:a7N K C "change_cell" "Desk.change_cell" ["self","words"] O1
 m_Desk_filtered_field:a7N K C "filtered_field" "Desk.filtered_field" ["self"] J7
 m_Desk_lines_told:a7N K C "lines_told" "Desk.lines_told" ["self","word","words"] P6
 m_Desk_lines_at:a7N K C "lines_at" "Desk.lines_at" ["self","place"] V2
 m_Desk_lines_still:a7N K C "lines_still" "Desk.lines_still" ["self","most"] O0
 d_is_number:Raw K mg "is_number" ["word"] a4v
 d_is_cell:Raw K mg "is_cell" ["word"] a9I
 d_cell_read:Raw K mg "cell_read" ["word"] a6v
 d_cell_shown:Raw K mg "cell_shown" ["cell"] a6q
 d_read_rows:Raw K mg "read_rows" ["lines"] a6u
 d_row_shown:Raw K mg "row_shown" ["row"] a5u
 d_is_inside:Raw K mg "is_inside" ["field","i","j"] a5v
 d_brought_inside:Raw K mg "brought_inside" ["rule","place","length"] R5
 d_stands_at:Raw K mg "stands_at" ["field","rule","i","j"] a4u
 d_places_around:Raw K mg "places_around" ["place","ahead","behind"] U9
 d_window_cells:Raw K mg "window_cells" ["field","window","rule","i","j"] X4
 d_place_by_share:Raw K mg "place_by_share" ["how_many","share"] R4
 d_so_manieth:Raw K mg "so_manieth" ["numbers","share"] a0q
 d_without_holes:Raw K mg "without_holes" ["cells"] U7
 d_told_of_cells:Raw K mg "told_of_cells" ["cells","share"] U8
 d_filtered:Raw K mg "filtered" ["field","window","rule","share"] a2B
 d_refuse_outside:Raw K mg "refuse_outside" ["field","i","j"] R3
 d_row_with:Raw K mg "row_with" ["row","j","cell"] a1A
 d_field_with:Raw K mg "field_with" ["field","i","j","cell"] a5q
 d_are_within:Raw K mg "are_within" ["numbers","least","most"] a8q
 d_numbers_asked:Raw K mg "numbers_asked" ["words","how_many"] V0
 d_cell_asked:Raw K mg "cell_asked" ["word"] a7q
 d_window_asked:Raw K mg "window_asked" ["words"] X5
 d_rule_asked:Raw K mg "rule_asked" ["words"] a1q
 d_share_asked:Raw K mg "share_asked" ["words"] Z7
 d_times_asked:Raw K mg "times_asked" ["words"] Z6
 d_field_asked:Raw K mg "field_asked" ["text"] Z8
 d_lines_of:Raw K mg "lines_of" ["field"] a2A
 d_law_seed:Raw K mg "_law_seed" ["cell"] a5A
 d_law_draw:Raw K mg "_law_draw" ["seed","most"] a0B
 d_law_cells:Raw K mg "_law_cells" ["script","many"] a2v
 d_law_number:Raw K mg "_law_number" ["seed","kind"] a3q
 d_law_field:Raw K mg "_law_field" ["seed","height","width","holes"] a1v
 d_law_sizes:Raw K mg "_law_sizes" ["seed"] a7u
 d_law_window:Raw K mg "_law_window" ["seed"] a2q
 d_law_rule:Raw K mg "_law_rule" ["seed"] a7A
 d_law_share:Raw K mg "_law_share" ["seed"] a8u
 d_law_index:Raw K mg "_law_index" ["rule","k","size"] a0v
 d_law_window_at:Raw K mg "_law_window_at" ["field","window","rule","i","j"] V1
 d_law_told:Raw K mg "_law_told" ["cells","share"] a4A
 d_law_filtered:Raw K mg "_law_filtered" ["field","window","rule","share"] X7
 d_law_word:Raw K mg "_law_word" ["cell"] a3A
 d_law_lines:Raw K mg "_law_lines" ["field"] a9u
 d_law_edge:Raw K mg "_law_edge" ["rule"] a9A
 d_law_cut:Raw K mg "_law_cut" ["window","field"] a7I
 d_law_begun:Raw K mg "_law_begun" ["seed"] a3v
 d_law_deed:Raw K mg "_law_deed" ["seed","state"] a1B
 d_law_fields:Raw K mg "_law_fields" ["seed"] a4q
 d_law_odd_word:Raw K mg "_law_odd_word" ["seed"] X6
 d_law_bad:Raw K mg "_law_bad" ["seed","state"] a8I
 d_law_kind:Raw K mg "_law_kind" ["desk","line"] a8A
 d_law_same:Raw K mg "_law_same" ["desk","state"] a6A
 d_law:Raw K mg "law" ["script"] b8u
 g_PLAIN_RULES:∃ p,mg "PLAIN_RULES" = some (.ref p)/\b0h K p [.str "there",.str "near",.str "turned",.str "round"]
 g_CHANGES:∃ p,mg "CHANGES" = some (.ref p)/\b0h K p [.str "window",.str "edge",.str "share",.str "cell",.str "take"]
 g_HOLE:∃ u,mg "HOLE" = some u/\u7 (.str ".") u
 g_FIGURES:∃ u,mg "FIGURES" = some u/\u7 (.str "0123456789") u
 g_MOST_NUMBER:∃ u,mg "MOST_NUMBER" = some u/\u7 (.int 1000000000) u
 g_MOST_LENGTH:∃ u,mg "MOST_LENGTH" = some u/\u7 (.int 12) u
 g_MOST_SIDE:∃ u,mg "MOST_SIDE" = some u/\u7 (.int 6) u
 g_MOST_SHARE:∃ u,mg "MOST_SHARE" = some u/\u7 (.int 1000) u
 g_MOST_TIMES:∃ u,mg "MOST_TIMES" = some u/\u7 (.int 40) u
 g_FIELD_AHEAD:∃ u,mg "FIELD_AHEAD" = some u/\u7 (.str "field ") u
 x_exc:∃ aN aF aM aP aW,b2h K mg aN aF aM aP aW
 e_NoField:∃ D,mg "NoField" = some (.ref D)/\Y3 K D=true/\J9 K D "row"/\b3N K D "NoField.__init__" ["self","row"] P4
 e_win:∃ W,mg "WindowError" = some (.ref W)/\a0X K W=true
 n_len:mg "len" = none
 n_all:mg "all" = none
 n_max:mg "max" = none
 n_min:mg "min" = none
 n_tuple:mg "tuple" = none
 n_list:mg "list" = none
 n_int:mg "int" = none
 n_bool:mg "bool" = none
 n_str:mg "str" = none
 n_isinstance:mg "isinstance" = none
 n_range:mg "range" = none
 n_enumerate:mg "enumerate" = none
 n_sorted:mg "sorted" = none
 n_ValueError:mg "ValueError" = none
section
variable {P:Program}{w:World}{K:PySem.W.Frag}{mg:Str->Option Value}{base:Heap}{C:Addr}
noncomputable def c0b:Sp:=λvs H Q _=>∃ (c:Int),vs=[.int c]/\∀ (d:Addr) (H':Hp),H d=none->C7 H' d->n6 H H'->Q (.ref d) H'
theorem a9L (T:Txt K mg C):Df P w K mg base 1 "_law_seed" ["cell"] c0b:=by
 refine T.d_law_seed.ok a6K .(29) .(30)
 ·obtain ⟨c,rfl,_⟩:=h
  rfl
 ·obtain ⟨c,rfl,q⟩:=h;refine ⟨_,.(2 .(8 1 a6K.nd .(11 (a2K rfl) T.n_max b5t .(0 (pv 0) .(1 .(5 O3 b6 (pv 0)) a7 m5))) (by first | exact .inl rfl | exact .inr rfl)) .(3 .(7 .(6 .(0 (pv 1) .(1 .(15 b6D T.n_int b3g .(1 .(22 c6k (pv 1) .(5 b5d b6 b6) (j8 _)) a7 b8E)) .(0 b6 .(1 .(5 V3 (pv 0) b6) a7 m5)) c8)))))),?_⟩
  refine ⟨_,rfl,_,rfl,_,_,rfl,rfl,_,_,rfl,?_⟩;refine ⟨_,rfl,_,rfl,_,_,rfl,rfl,⟨by decide,by decide,by decide⟩,_,_,rfl,rfl,Or.inr ⟨_,rfl,_,rfl,_,_,rfl,rfl,(by show (0:Int) < 1999999973;decide),(by show 4<=sizeLine;decide),λd hd=>?_⟩⟩;exact q d _ hd ⟨_,_,_,_,b7⟩ (c4 hd)
noncomputable def c5b:Sp:=λvs H Q _=>∃ (d:Addr) (most:Int),vs=[.ref d,.int most]/\C7 H d/\0 < most/\most < 2 ^ 40 /\
 ∀ (x:Int) (H':Hp),0<=x->x < most->C7 H' d->d3 d H H'->Q (.int x) H'
theorem d7 (T:Txt K mg C):Df P w K mg base 1 "_law_draw" ["seed","most"] c5b:=by
 refine T.d_law_draw.ok Y6 .(29) .(30)
 ·obtain ⟨d,most,rfl,_⟩:=h
  rfl
 ·obtain ⟨d,most,rfl,⟨a,b,n,c,hd⟩,m0,m1,q⟩:=h;refine ⟨_,.(2 .(19 .(5 B8 .(9 (d8 (K:=K) rfl) (pv 0) b6) b6) (b1d (pv 0) b6 a9C)) .(2 .(10 (Z9 .(12 (o7 hr.units) .(9 (d8 (K:=K) rfl) (pv 0) b6) b6 (j8 _)) (S0 .(12 a3Y .(9 (d8 (K:=K) rfl) (pv 0) b6) b6 (j8 _)))).pt .(2 .(8 2 Y6.nd .(5 V3 .(9 (d8 (K:=K) rfl) (pv 0) b6) (pv 1)) (by first | exact .inl rfl | exact .inr rfl)) .(2 .(19 .(5 a4E .(9 (d8 (K:=K) rfl) (pv 0) b6) (pv 1)) (b1d (pv 0) b6 a9C)) .(3 .(7 (pv 2))))) i7) .(2 .(8 3 Y6.nd .(5 V3 .(5 R7 .(5 B8 .(5 B8 .(9 (d8 (K:=K) rfl) (pv 0) b6) .(5 R7 b6 .(9 (d8 (K:=K) rfl) (pv 0) b6))) b6) b6) b6) (by first | exact .inl rfl | exact .inr rfl)) .(2 .(8 3 Y6.nd .(5 V3 .(5 R7 .(5 V3 .(5 R7 (pv 3) (pv 3)) b6) b6) b6) (by first | exact .inl rfl | exact .inr rfl)) .(3 .(7 .(5 V3 .(5 a4E (pv 3) b6) (pv 1)))))))),?_⟩
  refine ⟨_,rfl,Or.inl ⟨_,_,_,_,rfl,rfl,SqL.of hd,rfl,_,_,rfl,rfl,?_⟩⟩;refine ⟨_,rfl,_,_,_,2,rfl,rfl,hd,rfl,?_⟩;have h1:upd H d (.lst [.int a,.int b,.int (n + 1),.int c]) d=some (.lst [.int a,.int b,.int (n + 1),.int c]):=b7;have k1:d3 d H (upd H d (.lst [.int a,.int b,.int (n + 1),.int c])):=λb' o e hb=>by rw [j4 hb];exact e
  dsimp only [List.set];generalize upd H d (.lst [.int a,.int b,.int (n + 1),.int c])=H1 at h1 k1 ⊢;refine W8 (fun σ' H'=>∃ fo:Option V,σ'=[some (.ref d),some (.int most),fo,none]/\H'=H1) ?_ (λrest=>?_)
  ·rintro _ _ ⟨fo,rfl,rfl⟩;refine ⟨_,rfl,Or.inl ⟨_,_,_,_,rfl,rfl,SqL.of h1,rfl,_,rfl,Or.inl ⟨_,_,_,_,rfl,rfl,SqL.of h1,rfl,_,_,rfl,rfl,Or.inl ⟨by decide,by decide⟩,_,_,rfl,rfl,_,_,rfl,rfl,_,_,rfl,rfl,Or.inr ⟨by decide,by decide⟩,_,_,rfl,rfl,(by show (0:Int) < 2147483647;decide),?_⟩⟩⟩;have a1:(0:Int)<=((c + 7477 * (n + 1) + 29) * 48271) % 2147483647:=Int.emod_nonneg _ .(24);have a2:((c + 7477 * (n + 1) + 29) * 48271) % 2147483647 < (2147483647:Int):=Int.emod_lt_of_pos _ .(24);generalize ((c + 7477 * (n + 1) + 29) * 48271) % 2147483647=n1 at a1 a2;refine ⟨_,rfl,_,rfl,_,_,rfl,rfl,Or.inl ⟨by omega,by omega⟩,_,_,rfl,rfl,(by show (0:Int) < 2147483629;decide),_,_,rfl,rfl,Or.inr ⟨by decide,by decide⟩,_,_,rfl,rfl,(by show (0:Int) < 2147483399;decide),?_⟩;refine ⟨_,rfl,_,_,rfl,rfl,⟨(by show (0:Int) < 7;decide),by show (7:Int) < 2 ^ 62;decide⟩,_,rfl,_,_,rfl,rfl,m0,?_⟩;exact q _ _ (Int.emod_nonneg _ .(25)) (Int.emod_lt_of_pos _ m0) ⟨_,_,_,_,h1⟩ k1
  ·refine ⟨_,rfl,Or.inl ⟨_,_,_,_,rfl,rfl,SqL.of h1,rfl,Or.inl ⟨rfl,_,rfl,?_⟩⟩⟩;refine A7 (λhz=>?_) (λhz=>y7 (rest _ _ ⟨none,rfl,rfl⟩));refine ⟨_,rfl,Or.inl ⟨_,_,_,_,rfl,rfl,SqL.of h1,rfl,_,_,rfl,rfl,_,rfl,?_⟩⟩;refine A7 (λhz=>?_) (λhz=>rest _ _ ⟨none,rfl,rfl⟩);refine ⟨_,rfl,Or.inl ⟨_,_,_,_,rfl,rfl,SqL.of h1,rfl,_,rfl,_,_,rfl,rfl,m0,?_⟩⟩;refine ⟨_,rfl,Or.inl ⟨_,_,_,_,rfl,rfl,SqL.of h1,rfl,_,rfl,_,_,rfl,rfl,⟨m0,by omega⟩,?_⟩⟩;refine ⟨_,rfl,_,_,_,0,rfl,rfl,h1,rfl,_,rfl,?_⟩;refine q _ _ (Int.emod_nonneg _ .(25)) (Int.emod_lt_of_pos _ m0) ⟨_,_,_,_,b7⟩ λb' o e hb=>?_;rw [j4 hb];exact k1 b' o e hb
theorem b4X {xs:List V}{lo hi:Option Int}{x:V}(h:x∈a1p xs lo hi):x∈xs:=by
 unfold a1p at h;exact List.mem_of_mem_drop (List.mem_of_mem_take h)
theorem b5X (xs:List V)(lo hi:Option Int):(a1p xs lo hi).length <= xs.length:=by
 unfold a1p;rw [List.length_take,List.length_drop]
 omega
theorem c2k {x:Int}{ms:List Int}(x0:0<=x)(x1:x < ms.length):∃ m:Int,atI (ms.map V.int) x=some (.int m)/\m∈ms:=by
 obtain ⟨v,e3,e4⟩:=a4s (xs:=ms.map V.int) x0 (by rw [List.length_map];exact x1);obtain ⟨m,hm,rfl⟩:=List.mem_map.mp e4;exact ⟨m,e3,hm⟩
theorem a6G (xs:List V)(k:Nat):a1p xs none (some (k:Int))=xs.take k:=by
 unfold a1p;rw [HT.b9u]
 show (xs.drop 0).take (min k xs.length - 0)=_
 rw [List.drop_zero,Nat.sub_zero]
 rcases Nat.le_total k xs.length with z | z
 ·rw [Nat.min_eq_left z]
 ·rw [Nat.min_eq_right z,List.take_of_length_le (Nat.le_refl _),List.take_of_length_le z]
theorem a8w (xs:List V)(k:Nat):a1p xs (some ((k:Int) + 1)) none=xs.drop (k + 1):=by
 unfold a1p;rw [show ((k:Int) + 1)=((k + 1:Nat):Int) by omega,HT.b9u]
 show (xs.drop (min (k + 1) xs.length)).take (xs.length - min (k + 1) xs.length)=_
 rw [List.take_of_length_le (by rw [List.length_drop];omega)]
 rcases Nat.le_total (k + 1) xs.length with z | z
 ·rw [Nat.min_eq_left z]
 ·rw [Nat.min_eq_right z,List.drop_of_length_le (Nat.le_refl _),List.drop_of_length_le z]
theorem a3Z {H:Hp}{xs:List V}{ds:List PyData}(h:IsDs H xs ds):∀ k:Nat,IsDs H (xs.take k) (ds.take k):=by
 induction xs generalizing ds with
 | nil=>cases h;intro k;rw [List.take_nil,List.take_nil];exact .nil
 | cons x xs ih =>
  cases h with
  | cons h1 h2 =>
   intro k;cases k with
   | zero=>exact .nil
   | succ k=>exact .cons h1 (ih h2 k)
theorem a4Z {H:Hp}{xs:List V}{ds:List PyData}(h:IsDs H xs ds):∀ k:Nat,IsDs H (xs.drop k) (ds.drop k):=by
 induction xs generalizing ds with
 | nil=>cases h;intro k;rw [List.drop_nil,List.drop_nil];exact .nil
 | cons x xs ih =>
  cases h with
  | cons h1 h2 =>
   intro k;cases k with
   | zero=>exact .cons h1 h2
   | succ k=>exact ih h2 k
noncomputable def b8A (K:PySem.W.Frag):Sp:=λvs H Q _=>∃ (n:Nat) (sv:V) (a b:Int),vs=[.int n,sv]/\Shr K H sv a b/\a4p a b/\Q (.int (G5 n a b)) H
theorem a6F (T:Txt K mg C):Df P w K mg base 1 "place_by_share" ["how_many","share"] (b8A K):=by
 refine T.d_place_by_share.ok a3D .(29) .(30)
 ·obtain ⟨n,sv,a,b,rfl,_⟩:=h
  rfl
 ·obtain ⟨n,sv,a,b,rfl,hs,⟨s1,s2,s3,s4⟩,q⟩:=h;obtain ⟨sa,rfl,hsa⟩:=hs;refine ⟨_,.(3 .(7 .(5 a4E .(5 R7 .(9 (d8 (K:=K) rfl) (pv 1) b6) .(5 O3 (pv 0) b6)) .(9 (d8 (K:=K) rfl) (pv 1) b6)))),?_⟩;refine ⟨_,rfl,Or.inr (Or.inl ⟨_,_,_,_,rfl,rfl,b2G hsa,rfl,_,rfl,_,_,rfl,rfl,_,_,rfl,rfl,Or.inl ⟨by show -(2 ^ 64) < a;omega,by show a < 2 ^ 64;omega⟩,?_⟩)⟩;exact ⟨_,rfl,Or.inr (Or.inl ⟨_,_,_,_,rfl,rfl,b2G hsa,rfl,_,_,rfl,rfl,⟨by show 0 < b;omega,by show b < 2 ^ 62;omega⟩,q⟩)⟩
noncomputable def b9A (K:PySem.W.Frag):Sp:=λvs H Q _=>∃ (p:Addr) (sv:V) (ns:List Int) (a b:Int),vs=[.ref p,sv]/\b1h H p (ns.map V.int)/\Shr K H sv a b/\a4p a b/\∀ H',n6 H H'->Q (j9 (M7 ns a b)) H'
theorem a3W (T:Txt K mg C):Df P w K mg base 2 "so_manieth" ["numbers","share"] (b9A K):=by
 refine T.d_so_manieth.ok a2V .(29) .(30)
 ·obtain ⟨p,sv,ns,a,b,rfl,_⟩:=h
  rfl
 ·obtain ⟨p,sv,ns,a,b,rfl,hp,hs,hS,q⟩:=h;refine ⟨_,.(2 .(10 .(12 (o7 hr.units) .(11 (m6 (K:=K) rfl) T.n_len x9 .(0 (pv 0) a7)) b6 (j8 _)) .(3 .(7 Q0)) i7) .(3 .(7 .(9 (d8 (K:=K) rfl) .(11 a5M T.n_sorted b4a .(0 (pv 0) a7)) .(4 (a6F T) .(1 .(11 (m6 (K:=K) rfl) T.n_len x9 .(0 (pv 0) a7)) .(0 (pv 1) a7) c8)))))),?_⟩
  refine ⟨_,rfl,_,_,rfl,hp.len,Or.inl ⟨rfl,_,rfl,?_⟩⟩;refine A7 (λz=>?_) (λz=>?_)
  ·have e:ns=[]:=by
    have z':V.int (((ns.map V.int).length:Nat):Int)=V.int 0:=of_decide_eq_true z;have z2:(((ns.map V.int).length:Nat):Int)=0:=V.int.inj z';rw [List.length_map] at z2;exact List.length_eq_zero_iff.mp .(25)
   subst e;have:=q H (n6.refl H);rw [a0L] at this;exact this
  ·have e:ns≠[]:=λe=>by subst e;exact z .(24)
   refine ⟨_,rfl,p,ns,rfl,hp,λl hl=>?_⟩;have sl:=c4 (o:=.lst ((B4 ns).map V.int)) hl;refine ⟨_,rfl,_,_,rfl,(hp.same sl).len,_,rfl,_,_,a,b,rfl,hs.keep sl.tups,hS,?_⟩;obtain ⟨hlt,em⟩:=a4r hS e;have hl1:1<=ns.length:=by
    cases ns with
    | nil=>exact absurd rfl e
    | cons x l=>simp
   have pb:=a2r hS hl1;have el:(ns.map V.int).length=ns.length:=List.length_map ..;rw [el];have en:(((G5 ns.length a b).toNat:Nat):Int)=G5 ns.length a b:=Int.toNat_of_nonneg pb.1;generalize hx:(B4 ns)[(G5 ns.length a b).toNat]=x at em;refine Or.inl ⟨_,_,_,.int x,rfl,rfl,SqL.of b7,?_,?_⟩
   ·rw [← en];refine B0 ?_;rw [List.getElem?_map,List.getElem?_eq_getElem hlt,hx]
    rfl
   ·have:=q _ sl;rw [em] at this;exact this
noncomputable def b9F:Sp:=λvs H Q _=>∃ (fv:V) (F:List (List (Option Int))) (i j:Int),vs=[fv,.int i,.int j]/\U6 F/\IsD H fv (B2 F)/\Q (.bl (inF F i j)) H
theorem a2G (T:Txt K mg C):Df P w K mg base 1 "is_inside" ["field","i","j"] b9F:=by
 refine T.d_is_inside.ok b4c .(29) .(30)
 ·obtain ⟨fv,F,i,j,rfl,_⟩:=h
  rfl
 ·obtain ⟨fv,F,i,j,rfl,R,hf,q⟩:=h;obtain ⟨a,xs,b,ys,rfl,ha,la,hb0,hb,lb⟩:=G0 R hf;refine ⟨_,.(3 .(7 (c8d (a5R a2z a6R b6 (pv 1) .(11 (m6 (K:=K) rfl) T.n_len x9 .(0 (pv 0) a7))) (b8H (a5R a2z a6R b6 (pv 2) .(11 (m6 (K:=K) rfl) T.n_len x9 .(1 .(9 (d8 (K:=K) rfl) (pv 0) b6) a7 k9))))))),?_⟩;refine ⟨_,rfl,_,_,rfl,rfl,_,rfl,?_⟩;unfold inF at q;refine A7 (λz=>?_) (λz=>?_)
  ·refine ⟨_,rfl,_,_,rfl,Or.inr ⟨_,SqT.of ha,rfl⟩,_,_,rfl,rfl,_,rfl,?_⟩;refine A7 (λz2=>?_) (λz2=>?_)
   ·refine ⟨_,rfl,_,_,rfl,rfl,_,rfl,?_⟩;have e1:(decide (0<=i) && decide (i < (F.length:Int)))=true:=by rw [z,← la,z2];rfl
    rw [e1,Bool.true_and] at q;refine A7 (λz3=>?_) (λz3=>?_)
    ·refine ⟨_,rfl,Or.inr (Or.inl ⟨_,_,_,_,rfl,rfl,SqT.of ha,hb0,_,_,rfl,Or.inr ⟨_,SqT.of hb,rfl⟩,_,_,rfl,rfl,?_⟩)⟩;rw [z3,← lb,Bool.true_and] at q;exact q
    ·rw [Bool.eq_false_iff.mpr z3,Bool.false_and] at q;exact q
   ·have e1:(decide (0<=i) && decide (i < (F.length:Int)))=false:=by rw [← la,Bool.eq_false_iff.mpr z2,Bool.and_false]
    rw [e1,Bool.false_and] at q;exact q
  ·rw [Bool.eq_false_iff.mpr z,Bool.false_and,Bool.false_and] at q;exact ⟨_,rfl,y7 q⟩
theorem b9d (i j:Int):(if j < i then j else i)=min i j:=by omega
theorem b5I (i j:Int):(if j > i then j else i)=max i j:=by omega
theorem b9N:¬ (("near" : Str) = "turned"):=by decide +kernel
theorem a8V:¬ (("turned" : Str) = "near"):=by decide +kernel
theorem b7c:¬ (("round" : Str) = "near"):=by decide +kernel
theorem a7Q:¬ (("round" : Str) = "turned"):=by decide +kernel
theorem b8c:¬ (("near" : Str) = "there"):=by decide +kernel
theorem a6Q:¬ (("turned" : Str) = "there"):=by decide +kernel
theorem a9V:¬ (("round" : Str) = "there"):=by decide +kernel
theorem eqS {x y:Str}(h:x=y):decide (V.str x=V.str y)=true:=decide_eq_true (by rw [h])
theorem neS {x y:Str}(h:¬ x=y):decide (V.str x=V.str y)=false:=decide_eq_false λe=>h (V.str.inj e)
noncomputable def Led (r:C3) (x:Str):Prop:=(r = .near /\ x = "near") \/ (r = .turned /\ x = "turned") \/ (r = .round /\ x = "round")
noncomputable def b4B:Sp:=λvs H Q _=>∃ (r:C3) (x:Str) (p n:Int),vs=[.str x,.int p,.int n]/\Led r x/\1<=n/\n < 2 ^ 40/\Q (.int (led r p n)) H
theorem Z4 (T:Txt K mg C):Df P w K mg base 1 "brought_inside" ["rule","place","length"] b4B:=by
 refine T.d_brought_inside.ok Y7 .(29) .(30)
 ·obtain ⟨r,x,p,n,rfl,_⟩:=h
  rfl
 ·obtain ⟨r,x,p,n,rfl,hl,n1,n2,q⟩:=h;refine ⟨_,.(2 .(10 .(12 (o7 hr.units) (pv 0) b8 (j8 _)) .(3 .(7 .(11 (a3p rfl) T.n_min a4U .(1 .(11 (a2K rfl) T.n_max b5t .(0 (pv 1) .(0 b6 a7))) .(1 .(5 O3 (pv 2) b6) a7 m5) c8)))) i7) .(2 .(10 .(12 (o7 hr.units) (pv 0) b8 (j8 _)) .(2 .(8 3 Y7.nd .(5 V3 (pv 1) .(5 R7 b6 (pv 2))) (by first | exact .inl rfl | exact .inr rfl)) .(3 .(7 .(11 (a3p rfl) T.n_min a4U .(0 (pv 3) .(1 .(5 O3 .(5 O3 .(5 R7 b6 (pv 2)) b6) (pv 3)) a7 m5)))))) i7) .(3 .(7 .(5 V3 (pv 1) (pv 2)))))),?_⟩
  rcases hl with ⟨rfl,rfl⟩ | ⟨rfl,rfl⟩ | ⟨rfl,rfl⟩
  ·refine ⟨_,rfl,Or.inl ⟨rfl,_,rfl,?_⟩⟩;rw [eqS rfl];refine C6 ?_;refine ⟨_,rfl,_,_,rfl,_,rfl,_,_,rfl,rfl,_,_,rfl,?_⟩;rw [b9d,b5I];exact q
  ·refine ⟨_,rfl,Or.inl ⟨rfl,_,rfl,?_⟩⟩;rw [neS a8V];refine y7 ?_;refine ⟨_,rfl,Or.inl ⟨rfl,_,rfl,?_⟩⟩;rw [eqS rfl];refine C6 ?_;refine ⟨_,rfl,_,rfl,_,_,rfl,rfl,Or.inl ⟨by decide,by decide⟩,_,_,rfl,rfl,(by show (0:Int) < 2 * n;omega),?_⟩;refine ⟨_,rfl,_,rfl,_,_,rfl,rfl,Or.inl ⟨by decide,by decide⟩,_,_,rfl,rfl,_,rfl,_,_,rfl,rfl,_,_,rfl,?_⟩;rw [b9d];exact q
  ·refine ⟨_,rfl,Or.inl ⟨rfl,_,rfl,?_⟩⟩;rw [neS b7c];refine y7 ?_;refine ⟨_,rfl,Or.inl ⟨rfl,_,rfl,?_⟩⟩;rw [neS a7Q];refine y7 ?_;refine ⟨_,rfl,_,rfl,_,_,rfl,rfl,(by show (0:Int) < n;omega),?_⟩;exact q
noncomputable def b0p:Sp:=λvs H Q _=>∃ (fv rv:V) (F:List (List (Option Int))) (r:C3) (i j:Int),vs=[fv,rv,.int i,.int j]/\U6 F/\IsD H fv (B2 F)/\IsD H rv (X8 r) /\
 ∀ (p:Addr),H p=none->Q (.ref p) (upd H p (.tup ((A1 F r i j).map j9)))
theorem b2f (T:Txt K mg C):Df P w K mg base 2 "stands_at" ["field","rule","i","j"] b0p:=by
 refine T.d_stands_at.ok a1D .(29) .(30)
 ·obtain ⟨fv,rv,F,r,i,j,rfl,_⟩:=h
  rfl
 ·obtain ⟨fv,rv,F,r,i,j,rfl,R,hf,hru,q⟩:=h;refine ⟨_,.(2 .(10 .(13 .(4 (a2G T) .(0 (pv 0) .(0 (pv 2) .(0 (pv 3) a7))))) .(3 .(7 .(14 .(1 .(9 (d8 (K:=K) rfl) .(9 (d8 (K:=K) rfl) (pv 0) (pv 2)) (pv 3)) a7 k9)))) i7) .(2 .(10 .(12 (o7 hr.units) (pv 1) b8 (j8 _)) .(3 .(7 .(14 a7))) i7) .(2 .(10 .(13 .(11 (A0 (K:=K) rfl) T.n_isinstance v0 .(0 (pv 1) .(0 (a3E (v:=.ty "tuple") .(23) T.n_tuple G1 rfl) a7)))) .(3 .(7 .(14 .(1 .(9 (d8 (K:=K) rfl) (pv 1) b6) a7 k9)))) i7) .(2 .(8 4 a1D.nd .(9 (d8 (K:=K) rfl) (pv 0) .(4 (Z4 T) .(0 (pv 1) .(0 (pv 2) .(1 .(11 (m6 (K:=K) rfl) T.n_len x9 .(0 (pv 0) a7)) a7 c8))))) (by first | exact .inl rfl | exact .inr rfl)) .(3 .(7 .(14 .(1 .(9 (d8 (K:=K) rfl) (pv 4) .(4 (Z4 T) .(0 (pv 1) .(0 (pv 3) .(1 .(11 (m6 (K:=K) rfl) T.n_len x9 .(0 (pv 4) a7)) a7 c8))))) a7 k9)))))))),?_⟩
  refine ⟨_,rfl,_,rfl,_,rfl,_,F,i,j,rfl,R,hf,_,rfl,?_⟩;unfold A1 at q;cases hin:inF F i j with
  | true =>
   refine C6 ?_;rw [hin,if_pos rfl] at q;unfold inF at hin;simp only [Bool.and_eq_true,decide_eq_true_eq] at hin;obtain ⟨a,xs,b,rr,rfl,ha,hab,hb,hbc,_⟩:=field_cell R hf hin.1.1 hin.1.2 hin.2.1 hin.2.2;refine ⟨_,rfl,_,rfl,Or.inr (Or.inl ⟨_,_,_,_,rfl,rfl,SqT.of ha,hab,_,rfl,Or.inr (Or.inl ⟨_,_,_,_,rfl,rfl,SqT.of hb,hbc,(by show 1<=sizeLine;decide),λp hp=>?_⟩)⟩)⟩;exact q p hp
  | false =>
   refine y7 ?_;rw [hin,if_neg Bool.false_ne_true] at q;cases r with
   | there =>
    have e:=C5 hru;subst e;refine ⟨_,rfl,Or.inl ⟨rfl,_,rfl,?_⟩⟩;rw [eqS rfl];refine C6 ?_;exact ⟨(by show 0<=sizeLine;decide),λp hp=>q p hp⟩
   | told c =>
    obtain ⟨a,xs,rfl,ha,hxs⟩:=hru.tuple_inv;refine ⟨_,rfl,Or.inr ⟨_,_,hru,.str _,⟨?_,by decide +kernel,?_⟩,_,rfl,?_⟩⟩
    ·show PyData.canLayAll0 [.str "told",M3 c]=true
     rw [PyData.canLayAll0,PyData.canLayAll0,Z5]
     decide +kernel
    ·show PyData.depthAll [.str "told",M3 c] + 1<=20
     rw [PyData.depthAll,PyData.depthAll,a1s]
     decide
    refine y7 ?_;refine ⟨_,rfl,_,_,_,_,rfl,Or.inl ⟨rfl,_,ha⟩,rfl,_,rfl,?_⟩;refine C6 ?_;cases hxs with
    | cons h1 h2 =>
     cases h2 with
     | cons h3 h4 =>
      cases h4;rw [IsD.cell_inv h3] at ha;refine ⟨_,rfl,Or.inr (Or.inl ⟨_,_,_,_,rfl,rfl,SqT.of ha,rfl,(by show 1<=sizeLine;decide),λp hp=>q p hp⟩)⟩
   | near =>
    have e:=C5 hru;subst e;obtain ⟨a,xs,b0,ys,e,ha,la,hb0,hb,lb⟩:=G0 R hf;subst e;have li:=a0n .near i (n:=F.length) (by have:=R.h1;omega);have lj:=a0n .near j (n:=(F.headD []).length) (by have:=R.w1;omega);obtain ⟨a',xs',b,rr,e,ha',hab,hb',hbc,lr⟩:=field_cell R hf li.1 li.2 lj.1 lj.2;cases e;rw [ha] at ha';cases ha';refine ⟨_,rfl,Or.inl ⟨rfl,_,rfl,?_⟩⟩;rw [neS b8c];refine y7 ?_;refine ⟨_,rfl,_,_,_,_,rfl,rfl,rfl,_,rfl,?_⟩;refine y7 ?_;refine ⟨_,rfl,_,rfl,_,rfl,_,rfl,_,_,rfl,Or.inr ⟨_,SqT.of ha,rfl⟩,.near,_,_,_,rfl,(by unfold Led;simp),(by have:=R.h1;omega),(by have:=R.hs;omega),?_⟩;refine Or.inr (Or.inl ⟨_,_,_,_,rfl,rfl,SqT.of ha,(by rw [la];exact hab),?_⟩);refine ⟨_,rfl,_,rfl,_,rfl,_,rfl,_,_,rfl,Or.inr ⟨_,SqT.of hb',rfl⟩,.near,_,_,_,rfl,(by unfold Led;simp),(by rw [lr];have:=R.w1;omega),(by rw [lr];have:=R.ws;omega),?_⟩;refine Or.inr (Or.inl ⟨_,_,_,_,rfl,rfl,SqT.of hb',(by rw [lr];exact hbc),(by show 1<=sizeLine;decide),λp hp=>q p hp⟩)
   | turned =>
    have e:=C5 hru;subst e;obtain ⟨a,xs,b0,ys,e,ha,la,hb0,hb,lb⟩:=G0 R hf;subst e;have li:=a0n .turned i (n:=F.length) (by have:=R.h1;omega);have lj:=a0n .turned j (n:=(F.headD []).length) (by have:=R.w1;omega);obtain ⟨a',xs',b,rr,e,ha',hab,hb',hbc,lr⟩:=field_cell R hf li.1 li.2 lj.1 lj.2;cases e;rw [ha] at ha';cases ha';refine ⟨_,rfl,Or.inl ⟨rfl,_,rfl,?_⟩⟩;rw [neS a6Q];refine y7 ?_;refine ⟨_,rfl,_,_,_,_,rfl,rfl,rfl,_,rfl,?_⟩;refine y7 ?_;refine ⟨_,rfl,_,rfl,_,rfl,_,rfl,_,_,rfl,Or.inr ⟨_,SqT.of ha,rfl⟩,.turned,_,_,_,rfl,(by unfold Led;simp),(by have:=R.h1;omega),(by have:=R.hs;omega),?_⟩;refine Or.inr (Or.inl ⟨_,_,_,_,rfl,rfl,SqT.of ha,(by rw [la];exact hab),?_⟩);refine ⟨_,rfl,_,rfl,_,rfl,_,rfl,_,_,rfl,Or.inr ⟨_,SqT.of hb',rfl⟩,.turned,_,_,_,rfl,(by unfold Led;simp),(by rw [lr];have:=R.w1;omega),(by rw [lr];have:=R.ws;omega),?_⟩;refine Or.inr (Or.inl ⟨_,_,_,_,rfl,rfl,SqT.of hb',(by rw [lr];exact hbc),(by show 1<=sizeLine;decide),λp hp=>q p hp⟩)
   | round =>
    have e:=C5 hru;subst e;obtain ⟨a,xs,b0,ys,e,ha,la,hb0,hb,lb⟩:=G0 R hf;subst e;have li:=a0n .round i (n:=F.length) (by have:=R.h1;omega);have lj:=a0n .round j (n:=(F.headD []).length) (by have:=R.w1;omega);obtain ⟨a',xs',b,rr,e,ha',hab,hb',hbc,lr⟩:=field_cell R hf li.1 li.2 lj.1 lj.2;cases e;rw [ha] at ha';cases ha';refine ⟨_,rfl,Or.inl ⟨rfl,_,rfl,?_⟩⟩;rw [neS a9V];refine y7 ?_;refine ⟨_,rfl,_,_,_,_,rfl,rfl,rfl,_,rfl,?_⟩;refine y7 ?_;refine ⟨_,rfl,_,rfl,_,rfl,_,rfl,_,_,rfl,Or.inr ⟨_,SqT.of ha,rfl⟩,.round,_,_,_,rfl,(by unfold Led;simp),(by have:=R.h1;omega),(by have:=R.hs;omega),?_⟩;refine Or.inr (Or.inl ⟨_,_,_,_,rfl,rfl,SqT.of ha,(by rw [la];exact hab),?_⟩);refine ⟨_,rfl,_,rfl,_,rfl,_,rfl,_,_,rfl,Or.inr ⟨_,SqT.of hb',rfl⟩,.round,_,_,_,rfl,(by unfold Led;simp),(by rw [lr];have:=R.w1;omega),(by rw [lr];have:=R.ws;omega),?_⟩;refine Or.inr (Or.inl ⟨_,_,_,_,rfl,rfl,SqT.of hb',(by rw [lr];exact hbc),(by show 1<=sizeLine;decide),λp hp=>q p hp⟩)
noncomputable def b6F:Sp:=λvs H Q _=>∃ (p:Int) (a b:Nat),vs=[.int p,.int a,.int b]/\(-(2 ^ 60) < p/\p < 2 ^ 60)/\a<=100/\b<=100 /\
 ∀ (l:Addr) (H':Hp),n6 H H'->H' l=some (.lst (P2 (p - a) (a + b + 1)))->Q (.ref l) H'
theorem a9o (T:Txt K mg C):Df P w K mg base 1 "places_around" ["place","ahead","behind"] b6F:=by
 refine T.d_places_around.ok a5I .(29) .(30)
 ·obtain ⟨p,a,b,rfl,_⟩:=h
  rfl
 ·obtain ⟨p,a,b,rfl,hp,ha,hb,q⟩:=h;refine ⟨_,.(3 .(7 .(15 (B6.or (b4t (K:=K) rfl) (a7W rfl)) T.n_list b8X .(1 .(15 b0g T.n_range b8L .(1 .(5 O3 (pv 0) (pv 1)) .(1 .(5 B8 .(5 B8 (pv 0) (pv 2)) b6) a7 m5) m5)) a7 c8)))),?_⟩;refine ⟨_,rfl,_,rfl,_,_,rfl,rfl,_,rfl,_,rfl,_,_,rfl,rfl,_,_,rfl,rfl,?_⟩;refine ⟨_,_,rfl,λr hr=>?_⟩;have e:(p + (b:Int) + 1 - (p - (a:Int))).toNat=a + b + 1:=by omega
  refine Or.inr ⟨_,_,_,rfl,b7,⟨by omega,by omega,by omega,by omega⟩,by rw [e];omega,λl hl=>?_⟩;rw [e];exact q l _ ((c4 hr).trans (c4 hl)) b7
noncomputable def b4R:Sp:=λvs H Q _=>∃ (fv wv rv:V) (F:List (List (Option Int))) (ru:C3) (u d l r:Nat) (i j:Int),vs=[fv,wv,rv,.int i,.int j]/\U6 F/\IsD H fv (B2 F)/\IsD H wv (a2P u d l r)/\IsD H rv (X8 ru) /\
 (-(2 ^ 60) < i/\i < 2 ^ 60)/\(-(2 ^ 60) < j/\j < 2 ^ 60)/\(u<=100/\d<=100/\l<=100/\r<=100) /\
 ∀ (p:Addr) (H':Hp),n6 H H'->H' p=some (.tup ((wc F ru u d l r i j).map j9))->Q (.ref p) H'
theorem a9s (T:Txt K mg C):Df P w K mg base 3 "window_cells" ["field","window","rule","i","j"] b4R:=by
 refine T.d_window_cells.ok J3 .(29) .(30)
 ·obtain ⟨fv,wv,rv,F,ru,u,d,l,r,i,j,rfl,_⟩:=h
  rfl
 ·obtain ⟨fv,wv,rv,F,ru,u,d,l,r,i,j,rfl,R,hf,hw,hru,bi,bj,⟨bu,bd,bl,br⟩,q⟩:=h;refine ⟨_,.(2 .(8 5 J3.nd .(4 (a9o T) .(0 (pv 4) .(1 .(9 (d8 (K:=K) rfl) (pv 1) b6) .(1 .(9 (d8 (K:=K) rfl) (pv 1) b6) a7 k9) k9))) (by first | exact .inl rfl | exact .inr rfl)) .(2 .(8 6 J3.nd .(6 a7) (by first | exact .inl rfl | exact .inr rfl)) .(2 .(18 PassesOwn.never (A9 (K:=K) rfl .(4 (a9o T) .(0 (pv 3) .(1 .(9 (d8 (K:=K) rfl) (pv 1) b6) .(1 .(9 (d8 (K:=K) rfl) (pv 1) b6) a7 k9) k9)))) (m9 (i:=7) J3.nd rfl .(27)) .(3 .(18 PassesOwn.never (A9 (K:=K) rfl (pv 5)) (m9 (i:=8) J3.nd rfl .(27)) .(3 .(16 .(20 PySem.F.plainAttrs_list PySem.F.slot_list_extend PySem.F.type_list_extend (MtR.or b4C b2r) (pv 6) .(1 .(4 (b2f T) .(0 (pv 0) .(0 (pv 2) .(0 (pv 7) .(0 (pv 8) a7))))) a7 c8))))))) .(3 .(7 .(15 (A5 (K:=K) rfl) T.n_tuple G1 .(0 (pv 6) a7))))))),?_⟩
  obtain ⟨wa,rfl,hwa⟩:=a5o hw;refine ⟨_,rfl,_,rfl,Or.inr (Or.inl ⟨_,_,_,_,rfl,rfl,SqT.of hwa,rfl,_,rfl,Or.inr (Or.inl ⟨_,_,_,_,rfl,rfl,SqT.of hwa,rfl,?_⟩)⟩)⟩;refine ⟨_,_,_,rfl,bj,bl,br,λlc H1 s1 hlc=>?_⟩;refine ⟨(by show 0<=sizeLine;decide),λc hc=>?_⟩;have s2:=c4 (o:=.lst []) hc;have S2:=s1.trans s2;refine Or.inl ?_;refine ⟨_,rfl,_,rfl,Or.inr (Or.inl ⟨_,_,_,_,rfl,rfl,SqT.of (S2 _ _ hwa),rfl,_,rfl,Or.inr (Or.inl ⟨_,_,_,_,rfl,rfl,SqT.of (S2 _ _ hwa),rfl,?_⟩)⟩)⟩;refine ⟨_,_,_,rfl,bi,bu,bd,λlr H3 s3 hlr=>?_⟩;refine ⟨_,rfl,⟨_,SqL.of hlr⟩,?_⟩;have hc3:H3 c=some (.lst []):=s3 _ _ b7;have S3:=S2.trans s3;have hlc3:=(s2.trans s3) _ _ hlc;have nlc:lc≠c:=d6 hlc hc;have nlr:lr≠c:=by
   refine U2 hlr hc3 λz=>?_;have:=congrArg (λo=>match o with | HO.lst xs=>xs.length | _=>0) z;simp only [Q9,List.length_nil] at this
   omega
  have oldne:∀ b o,H b=some o->b≠c:=λb o e=>d6 (s1 b o e) hc;have keepH:∀ {H':Hp},d3 c H3 H'->n6 H H':=λk b o e=>k b o (S3 b o e) (oldne b o e);refine a1F (xs:=P2 (i - u) (u + d + 1)) (λa σ H'=>∃ v7 v8,σ=[some fv,some (.ref wa),some rv,some (.int i),some (.int j),some (.ref lc),some (.ref c),v7,v8]/\d3 c H3 H' /\
    H' c=some (.lst (((List.range a).flatMap λa=>E3 F ru l r (i - u + (a:Nat)) j).map j9)))
   ⟨none,none,rfl,d3.refl _ _,hc3⟩ (λa σ H' _ ⟨_,_,_,k,_⟩=>SqL.of (k _ _ hlr nlr)) ?_ ?_
  ·rintro a y _ H4 ha ⟨v7,v8,rfl,k4,hc4⟩;have ha':a < u + d + 1:=by
    have:=(List.getElem?_eq_some_iff.mp ha).1;rw [Q9] at this;exact this
   have ey:y = .int (i - u + (a:Nat)):=by
    unfold P2 at ha;rw [List.getElem?_map,List.getElem?_range ha'] at ha;exact (Option.some.inj ha).symm
   subst ey;refine Or.inl ?_;refine ⟨_,rfl,_,rfl,⟨_,SqL.of (k4 _ _ hlc3 nlc)⟩,?_⟩;refine a1F (xs:=P2 (j - l) (l + r + 1)) (λb σ H'=>∃ v8,σ=[some fv,some (.ref wa),some rv,some (.int i),some (.int j),some (.ref lc),some (.ref c),some (.int (i - u + (a:Nat))),v8]/\d3 c H3 H' /\
     H' c=some (.lst ((((List.range a).flatMap λa=>E3 F ru l r (i - u + (a:Nat)) j) ++ (List.range b).flatMap λb=>A1 F ru (i - u + (a:Nat)) (j - l + (b:Nat))).map j9)))
    ⟨v8,rfl,k4,by rw [hc4];simp⟩ (λb σ H' _ ⟨_,_,k,_⟩=>SqL.of (k _ _ hlc3 nlc)) ?_ ?_
   ·rintro b y _ H5 hb ⟨v8,rfl,k5,hc5⟩;have hb':b < l + r + 1:=by
     have:=(List.getElem?_eq_some_iff.mp hb).1;rw [Q9] at this;exact this
    have ey:y = .int (j - l + (b:Nat)):=by
     unfold P2 at hb;rw [List.getElem?_map,List.getElem?_range hb'] at hb;exact (Option.some.inj hb).symm
    subst ey;have S5:=keepH k5;refine ⟨_,rfl,Or.inl ⟨rfl,_,SqL.of hc5⟩,?_⟩;refine ⟨_,rfl,_,rfl,_,rfl,_,rfl,_,_,F,ru,_,_,rfl,R,hf.keep S5.tups,hru.keep S5.tups,λp hp=>?_⟩;have s6:=c4 (o:=.tup ((A1 F ru (i - u + (a:Nat)) (j - l + (b:Nat))).map j9)) hp;have np:p≠c:=(d6 hc5 hp).symm;refine Or.inr ⟨_,_,_,_,rfl,rfl,s6 _ _ hc5,b7,?_,?_⟩
    ·have l1:=M1 (λa=>E3 F ru l r (i - u + (a:Nat)) j) (m:=201) (λk=>Nat.le_trans (a9q _ _ _ _ _ _) .(25)) a;have l2:=M1 (λb=>A1 F ru (i - u + (a:Nat)) (j - l + (b:Nat))) (m:=1) (λk=>a5p _ _ _ _) b;have l3:=a5p F ru (i - u + (a:Nat)) (j - l + (b:Nat));have l4:a * 201<=201 * 201:=Nat.mul_le_mul_right _ .(25);rw [List.length_map,List.length_map,List.length_append];refine Nat.le_trans (m:=50000) ?_ .(24)
     omega
    ·refine ⟨_,rfl,λb' o e n=>?_,?_⟩
     ·rw [j4 n];exact s6 _ _ (k5 b' o e n)
     ·rw [b7,M9,← List.map_append,List.append_assoc]
   ·rintro _ H5 ⟨v8,rfl,k5,hc5⟩;refine ⟨_,_,rfl,k5,?_⟩;rw [hc5,M9,Q9]
    rfl
  ·rintro _ H4 ⟨v7,v8,rfl,k4,hc4⟩;rw [Q9] at hc4;refine ⟨_,rfl,_,_,rfl,Or.inl ⟨SqL.of hc4,λp hp=>?_⟩⟩;exact q p _ ((keepH k4).trans (c4 hp)) b7
noncomputable def b0R:Sp:=λvs H Q _=>∃ (p:Addr) (cs:List (Option Int)),vs=[.ref p]/\b1h H p (cs.map j9)/\cs.length <= 100000/\∀ (t:Addr) (H':Hp),n6 H H'->H' t=some (.tup ((cs.filterMap id).map V.int))->Q (.ref t) H'
theorem R8 (T:Txt K mg C):Df P w K mg base 1 "without_holes" ["cells"] b0R:=by
 refine T.d_without_holes.ok a3I .(29) .(30)
 ·obtain ⟨p,cs,rfl,_⟩:=h
  rfl
 ·obtain ⟨p,cs,rfl,hp,hl,q⟩:=h;refine ⟨_,.(3 .(7 .(15 (A5 (K:=K) rfl) T.n_tuple G1 .(1 (w5 (M:=[]) (idx:=[]) rfl (A9 (K:=K) rfl (pv 0)) (J2 (by kernel_rfl)) .(28) .(27) (λ_ _ _ _ _=>b3v .(12 b8v (pv 0) Q0 (j8 _))) (λ_ _ _ _ _=>(pv 0))) a7 A4)))),?_⟩;refine b3a (K:=K) (xs:=cs.map j9) (λk h=>⟨_,rfl,h⟩) hp (λi ys H'=>H'=H/\ys=((cs.take i).filterMap id).map V.int) ⟨rfl,rfl⟩ (by rw [List.length_map];exact Nat.le_trans hl .(24)) (λi ys H' _ ⟨e,_⟩=>by rw [e]) ?_ ?_
  ·rintro i x ys _ hx ⟨rfl,rfl⟩;obtain ⟨c,ec,rfl⟩:=b8f hx;rw [List.take_add_one,ec,List.filterMap_append,List.map_append];cases c with
   | none =>
    refine ⟨_,rfl,rfl,_,rfl,?_⟩;refine y7 ?_;exact ⟨rfl,by simp⟩
   | some n =>
    refine ⟨_,rfl,rfl,_,rfl,?_⟩;refine C6 ?_;exact ⟨_,rfl,rfl,rfl⟩
  ·rintro ys _ ⟨rfl,rfl⟩ l hl2;rw [List.length_map,List.take_length];refine ⟨_,_,rfl,Or.inl ⟨SqL.of b7,λt ht=>?_⟩⟩;exact q t _ ((c4 hl2).trans (c4 ht)) b7
noncomputable def b0F (K:PySem.W.Frag):Sp:=λvs H Q _=>∃ (p:Addr) (sv:V) (cs:List (Option Int)) (a b:Int),vs=[.ref p,sv]/\b1h H p (cs.map j9)/\cs.length <= 100000/\Shr K H sv a b/\a4p a b/\∀ H',n6 H H'->Q (j9 (M7 (cs.filterMap id) a b)) H'
theorem a8o (T:Txt K mg C):Df P w K mg base 3 "told_of_cells" ["cells","share"] (b0F K):=by
 refine T.d_told_of_cells.ok a4I .(29) .(30)
 ·obtain ⟨p,sv,cs,a,b,rfl,_⟩:=h
  rfl
 ·obtain ⟨p,sv,cs,a,b,rfl,hp,hl,hs,hS,q⟩:=h;refine ⟨_,.(3 .(7 .(4 (a3W T) .(1 .(4 (R8 T) .(0 (pv 0) a7)) .(0 (pv 1) a7) c8)))),?_⟩;refine ⟨_,rfl,p,cs,rfl,hp,hl,λt H1 s1 ht=>?_⟩;exact ⟨_,rfl,t,sv,_,a,b,rfl,.inl ht,hs.keep s1.tups,hS,λH2 s2=>q H2 (s1.trans s2)⟩
noncomputable def b3p (K:PySem.W.Frag):Sp:=λvs H Q _=>∃ (fv wv rv sv:V) (F:List (List (Option Int))) (ru:C3) (u d l r:Nat) (a b:Int),vs=[fv,wv,rv,sv]/\U6 F/\IsD H fv (B2 F)/\IsD H wv (a2P u d l r)/\IsD H rv (X8 ru)/\Shr K H sv a b/\a4p a b /\
 (u<=100/\d<=100/\l<=100/\r<=100)/\∀ (v:V) (H':Hp),n6 H H'->IsD H' v (B2 (fil F ru u d l r a b))->Q v H'
theorem b3m (T:Txt K mg C):Df P w K mg base 4 "filtered" ["field","window","rule","share"] (b3p K):=by
 refine T.d_filtered.ok T6 .(29) .(30)
 ·obtain ⟨fv,wv,rv,sv,F,ru,u,d,l,r,a,b,rfl,_⟩:=h
  rfl
 ·obtain ⟨fv,wv,rv,sv,F,ru,u,d,l,r,a,b,rfl,R,hf,hw,hru,hs,hS,bb,q⟩:=h;obtain ⟨fa,xs,rfl,hfa,hxs⟩:=E1 hf;have lxs:xs.length=F.length:=by rw [hxs.length,List.length_map]
  have hW:=R.ws;have hH:=R.hs;refine ⟨_,.(2 .(8 4 T6.nd .(6 a7) (by first | exact .inl rfl | exact .inr rfl)) .(2 .(18 PassesOwn.never (O7 .(23) T.n_range .(1 .(11 (m6 (K:=K) rfl) T.n_len x9 .(0 (pv 0) a7)) a7 c8)) (m9 (i:=5) T6.nd rfl .(27)) .(2 .(8 6 T6.nd .(6 a7) (by first | exact .inl rfl | exact .inr rfl)) .(2 .(18 PassesOwn.never (O7 .(23) T.n_range .(1 .(11 (m6 (K:=K) rfl) T.n_len x9 .(1 .(9 (d8 (K:=K) rfl) (pv 0) (pv 5)) a7 k9)) a7 c8)) (m9 (i:=7) T6.nd rfl .(27)) .(3 .(16 .(20 PySem.F.plainAttrs_list PySem.F.slot_list_append PySem.F.type_list_append M5 (pv 6) .(1 .(4 (a8o T) .(1 .(4 (a9s T) .(0 (pv 0) .(0 (pv 1) .(0 (pv 2) .(0 (pv 5) .(0 (pv 7) a7)))))) .(0 (pv 3) a7) c8)) a7 c8))))) .(3 .(16 .(20 PySem.F.plainAttrs_list PySem.F.slot_list_append PySem.F.type_list_append M5 (pv 4) .(1 .(15 (A5 (K:=K) rfl) T.n_tuple G1 .(0 (pv 6) a7)) a7 c8))))))) .(3 .(7 .(15 (A5 (K:=K) rfl) T.n_tuple G1 .(0 (pv 4) a7)))))),?_⟩
  refine ⟨(by show 0<=sizeLine;decide),λc hc=>?_⟩;have s1:=c4 (o:=.lst []) hc;have oldne:∀ b o,H b=some o->b≠c:=λb o e=>d6 e hc;have keepH:∀ {H':Hp},d3 c (upd H c (.lst [])) H'->n6 H H':=λk b o e=>k b o (s1 b o e) (oldne b o e);refine ⟨_,rfl,_,_,rfl,Or.inr ⟨_,SqT.of (s1 _ _ hfa),rfl⟩,_,rfl,by omega,by omega,?_⟩;have hc1:upd H c (.lst []) c=some (.lst []):=b7;generalize upd H c (.lst [])=H1 at s1 hc1 keepH ⊢;refine M8 (n:=((xs.length:Nat):Int).toNat) (λi σ H'=>∃ (v5 v6 v7:Option V) (ys:List V),σ=[some (.ref fa),some wv,some rv,some sv,some (.ref c),v5,v6,v7]/\d3 c H1 H'/\H' c=some (.lst ys)/\IsDs H' ys (((fil F ru u d l r a b).take i).map a4y)) ⟨none,none,none,[],rfl,d3.refl _ _,hc1,.nil⟩ ?_ ?_
  ·rintro i _ H2 hi ⟨v5,v6,v7,ys,rfl,k2,hc2,hys⟩;have hi':i < F.length:=by
    have:i < ((xs.length:Nat):Int).toNat:=hi
    omega
   have S2:=keepH k2;have e0:(0:Int) + (i:Int)=(i:Int):=by omega
   rw [e0];obtain ⟨ra,era,hra⟩:=G2 hxs hi';have eW:F[i].length=(F.headD []).length:=R.row _ (List.getElem_mem _);refine ⟨(by show 0<=sizeLine;decide),λe he=>?_⟩;have s3:=c4 (o:=.lst []) he;have ne:e≠c:=(d6 hc2 he).symm;refine ⟨_,rfl,_,rfl,Or.inr (Or.inl ⟨_,_,_,_,rfl,rfl,SqT.of (s3 _ _ (S2 _ _ hfa)),B0 era,_,_,rfl,Or.inr ⟨_,SqT.of (s3 _ _ (S2 _ _ hra)),rfl⟩,_,rfl,by rw [List.length_map];omega,by rw [List.length_map];omega,?_⟩)⟩;have he3:upd H2 e (.lst []) e=some (.lst []):=b7;have hc3:=s3 _ _ hc2;have hys3:=hys.keep s3.tups;have S3:=S2.trans s3;have K3:d3 c H1 (upd H2 e (.lst [])):=λb' o e' n=>s3 _ _ (k2 b' o e' n);have old3:∀ b' o,H2 b'=some o->b'≠e:=λb' o e'=>d6 e' he;have el:(F[i].map j9).length=E8 F:=by rw [List.length_map];exact eW
   generalize upd H2 e (.lst [])=H3 at s3 he3 hc3 hys3 S3 K3 ⊢;refine M8 (n:=((((F[i].map j9).length:Nat):Int).toNat)) (λj σ H'=>∃ (v7:Option V),σ=[some (.ref fa),some wv,some rv,some sv,some (.ref c),some (.int i),some (.ref e),v7]/\d3 e H3 H'/\H' e=some (.lst (((List.range j).map λj:Nat=>L5 F ru u d l r a b (i:Int) (j:Int)).map j9))) ⟨v7,rfl,d3.refl _ _,he3⟩ ?_ ?_
   ·rintro j _ H4 hj ⟨v7,rfl,k4,he4⟩;have hj':j < E8 F:=by
     have:j < ((((F[i].map j9).length:Nat):Int).toNat):=hj
     omega
    have e0:(0:Int) + (j:Int)=(j:Int):=by omega
    rw [e0];have S4:n6 H H4:=λb' o e'=>k4 b' o (S3 b' o e') (old3 b' o (S2 b' o e'));have hjw:j < (F.headD []).length:=hj';refine ⟨_,rfl,Or.inl ⟨rfl,_,SqL.of he4⟩,?_⟩;refine ⟨_,rfl,_,rfl,_,rfl,_,rfl,_,rfl,_,_,_,F,ru,u,d,l,r,_,_,rfl,R,hf.keep S4.tups,hw.keep S4.tups,hru.keep S4.tups,⟨by omega,by omega⟩,⟨by omega,by omega⟩,bb,λp H5 s5 hp=>?_⟩;have wl:=b4b F ru u d l r (i:Int) (j:Int);have wl2:(u + d + 1) * (l + r + 1)<=201 * 201:=Nat.mul_le_mul .(25) .(25);have S5:=S4.trans s5;have he5:=s5 _ _ he4;refine ⟨_,rfl,p,sv,wc F ru u d l r i j,a,b,rfl,.inl hp,by omega,hs.keep S5.tups,hS,λH7 s7=>?_⟩;have S6:=S5;have he7:=s7 _ _ he5;refine ⟨_,_,_,rfl,rfl,he7,?_,?_⟩
    ·rw [List.length_map,List.length_map,List.length_range];exact Nat.lt_of_lt_of_le (show j < 1001 by omega) .(24)
    ·refine ⟨_,rfl,λb' o e' n=>?_,?_⟩
     ·rw [j4 n];exact s7 _ _ (s5 _ _ (k4 b' o e' n))
     ·rw [b7,List.range_succ,List.map_append,List.map_append]
      rfl
   ·rintro _ H4 ⟨v7,rfl,k4,he4⟩;rw [show ((((F[i].map j9).length:Nat):Int).toNat)=E8 F by omega] at he4;have hc4:=k4 _ _ hc3 ne.symm;refine ⟨_,rfl,Or.inl ⟨rfl,_,SqL.of hc4⟩,_,rfl,_,_,rfl,Or.inl ⟨SqL.of he4,λt ht=>?_⟩⟩;have st:=c4 (o:=.tup (((List.range (E8 F)).map λj:Nat=>L5 F ru u d l r a b (i:Int) (j:Int)).map j9)) ht;have hct:=st _ _ hc4;have ly:ys.length=i:=by rw [hys.length,List.length_map,List.length_take,T1];omega
    refine ⟨_,_,_,rfl,rfl,hct,(by rw [ly];exact Nat.lt_of_lt_of_le (show i < 1001 by omega) .(24)),?_⟩;refine ⟨_,_,_,ys ++ [.ref t],rfl,λb' o e' n=>?_,b7,?_⟩
    ·rw [j4 n];exact st _ _ (k4 b' o (K3 b' o e' n) (old3 b' o (k2 b' o e' n)))
    ·rw [List.take_add_one,a9O hi',List.map_append];have tt:t≠c:=(d6 hc4 ht).symm;have u1:upd (upd H4 t (.tup (((List.range (E8 F)).map λj:Nat=>L5 F ru u d l r a b (i:Int) (j:Int)).map j9))) c (.lst (ys ++ [.ref t])) t=some (.tup (((List.range (E8 F)).map λj:Nat=>L5 F ru u d l r a b (i:Int) (j:Int)).map j9)):=by rw [j4 tt];exact b7
     have kt:∀ b' zs,H3 b'=some (.tup zs)->upd (upd H4 t (.tup (((List.range (E8 F)).map λj:Nat=>L5 F ru u d l r a b (i:Int) (j:Int)).map j9))) c (.lst (ys ++ [.ref t])) b'=some (.tup zs):=λb' zs e'=>by
      have n1:b'≠c:=U2 e' hc3 λz=>by cases z
      have n2:b'≠e:=U2 e' he3 λz=>by cases z
      rw [j4 n1];exact st _ _ (k4 _ _ e' n2)
     exact (hys3.keep kt).append (.cons (.tup u1 (T0 _)) .nil)
  ·rintro _ H2 ⟨v5,v6,v7,ys,rfl,k2,hc2,hys⟩;refine ⟨_,rfl,_,_,rfl,Or.inl ⟨SqL.of hc2,λt ht=>?_⟩⟩;have st:=c4 (o:=.tup ys) ht;refine q (.ref t) _ ((keepH k2).trans st) (.tup b7 ?_);have:(fil F ru u d l r a b).take ((xs.length:Nat):Int).toNat=fil F ru u d l r a b:=List.take_of_length_le (by rw [T1];omega);rw [this] at hys;exact hys.keep st.tups
theorem b2L (ns:List Int):ns.map V.int=(ns.map some).map j9:=by rw [List.map_map];rfl
theorem b6l {H:Hp}{p q:Addr}{cs:List (Option Int)}{Q:VK}(hp:H p=some (.lst (cs.map j9)))(hq:H q=some (.lst []))(h:Q (.bl (decide (cs=[]))) H):b5T (.ref p) (.ref q) H Q:=by
 refine ⟨p,q,_,_,cs.map M3,[],rfl,rfl,hp,hq,T0 cs,.nil,⟨a9G cs,rfl,?_⟩,?_⟩
 ·show PyData.depthAll (cs.map M3) + 1<=20
  rw [a3M];decide
 ·have:=b0a cs [];rw [List.map_nil] at this;rw [this];exact h
noncomputable def a8v (ru:C3)(x:Str):Bool:=match ru with
 | .there=>decide (("there" : Str)=x)
 | .near=>decide (("near" : Str)=x)
 | .turned=>decide (("turned" : Str)=x)
 | .round=>decide (("round" : Str)=x)
 | .told _=>false
theorem b9e {H:Hp}{rv:V}{ru:C3}{x:Str}{Q:VK}(h:IsD H rv (X8 ru))(hx:(PyData.str x).canLay0=true)(q:Q (.bl (a8v ru x)) H):rEq rv (.str x) H Q \/ b0H 0 rv (.str x) H Q:=by
 have st:∀ y:Str,rv = .str y->Q (.bl (decide (y=x))) H->rEq rv (.str x) H Q \/ b0H 0 rv (.str x) H Q:=λy e q'=>by
  subst e;refine Or.inl ⟨rfl,?_⟩;have:decide (V.str y=V.str x)=decide (y=x):=by
   by_cases z:y=x
   ·subst z;simp
   ·rw [decide_eq_false (λe=>z (V.str.inj e)),decide_eq_false z]
  rw [this];exact q'
 cases ru with
 | there=>exact st _ (C5 h) q
 | near=>exact st _ (C5 h) q
 | turned=>exact st _ (C5 h) q
 | round=>exact st _ (C5 h) q
 | told c =>
  refine Or.inr ⟨_,_,h,.str _,⟨?_,hx,?_⟩,q⟩
  ·show PyData.canLayAll0 [.str "told",M3 c]=true
   rw [PyData.canLayAll0,PyData.canLayAll0,Z5]
   decide +kernel
  ·show PyData.depthAll [.str "told",M3 c] + 1<=20
   rw [PyData.depthAll,PyData.depthAll,a1s]
   decide
theorem field_cell {H:Hp}{v:V}{F:List (List (Option Int))}{i j:Nat}(R:U6 F)(hf:IsD H v (B2 F))(hi:i < F.length)(hj:j < (F.headD []).length) :
  ∃ (fa:Addr) (xs:List V) (ra:Addr) (ys:List V),v = .ref fa/\H fa=some (.tup xs)/\atI xs (i:Int)=some (.ref ra)/\H ra=some (.tup ys)/\atI ys (j:Int)=some (j9 (J8 F (i:Int) (j:Int))):=by
 obtain ⟨fa,xs,rfl,hfa,hxs⟩:=E1 hf;obtain ⟨ra,era,hra⟩:=G2 hxs hi;have lr:F[i].length=(F.headD []).length:=R.row _ (List.getElem_mem _);have hj':j < F[i].length:=by omega
 refine ⟨fa,xs,ra,_,rfl,hfa,B0 era,hra,B0 ?_⟩;rw [List.getElem?_map,List.getElem?_eq_getElem hj'];unfold J8;rw [Int.toNat_natCast,Int.toNat_natCast,List.getElem?_eq_getElem hi]
 show some (j9 F[i][j])=some (j9 (F[i][j]?).join)
 rw [List.getElem?_eq_getElem hj']
 rfl
theorem N8 {a b:Str}(h:a.cps.toList=b.cps.toList):a=b:=by
 cases a;cases b;exact congrArg Str.mk (Array.toList_inj.mp h)
theorem b6b (x:Str):(decide (0 + (("-" : Str)).length <= x.length) && Builtin.Str.subAt x ("-" : Str) 0)=decide (x.cps.toList.head? = some 45):=by
 rw [PySem.StrLaws.subAt_eq];have e1:(("-" : Str)).length=1:=by decide +kernel
 have e2:(("-" : Str)).cps.toList=[45]:=by decide +kernel
 rw [e1,e2,List.drop_zero];have e3:x.length=x.cps.toList.length:=by simp [Str.length]
 rw [e3];cases h:x.cps.toList with
 | nil=>simp
 | cons c r=>by_cases hc:c=45 <;> simp [hc]
theorem b8C:((List.range 128).all λc=>(!(Builtin.Str.occurrences ("0123456789" : Str) ⟨#[c]⟩ 0 (("0123456789" : Str)).length 1).isEmpty) == a7J c)=true:=by decide +kernel
theorem b3W {c:Nat} (h:c < 128):(!(Builtin.Str.occurrences ("0123456789" : Str) ⟨#[c]⟩ 0 (("0123456789" : Str)).length 1).isEmpty)=a7J c:=by
 have:=List.all_eq_true.mp b8C c (List.mem_range.mpr h)
 simpa using this
noncomputable def a4T (x:Str):Str:=⟨(F9 (i8 x)).toArray⟩
theorem a3w (x:Str):(a4T x).cps.toList=F9 (i8 x):=by show (F9 (i8 x)).toArray.toList=_;simp
theorem a0Q (x y:Str):decide (V.str x=V.str y)=decide (i8 x=i8 y):=by
 by_cases h:x=y
 ·rw [h,decide_eq_true rfl,decide_eq_true rfl]
 ·rw [decide_eq_false λe=>h (V.str.inj e),decide_eq_false (show ¬ i8 x=i8 y from λe=>h (N8 e))]
theorem b1L:i8 ("0" : Str)=[48]:=by decide +kernel
theorem c6l:i8 ("" : Str)=[]:=by decide +kernel
theorem b6X:i8 ("." : Str)=[46]:=by decide +kernel
theorem b5w (x:Str):(i8 x).length=x.length:=by unfold i8;simp [Str.length]
theorem b3l (w:List Nat):∀ c∈F9 w,c∈w:=λc hc=>by
 unfold F9 at hc
 split at hc
 ·exact List.mem_of_mem_tail hc
 ·exact hc
theorem b4K (w:List Nat):(F9 w).length <= w.length:=by
 unfold F9
 split
 ·rw [List.length_tail];omega
 ·exact Nat.le_refl _
noncomputable def b8F:Sp:=λvs H Q _=>∃ (x:Str),vs=[.str x]/\Asc x/\x.length <= 1000000/\∀ H',n6 H H'->Q (.bl (numB (i8 x))) H'
theorem a1G (T:Txt K mg C):Df P w K mg base 1 "is_number" ["word"] b8F:=by
 refine T.d_is_number.ok a6D .(29) .(30)
 ·obtain ⟨x,rfl,_⟩:=h
  rfl
 ·obtain ⟨x,rfl,asc,wl,q⟩:=h;refine ⟨_,.(2 .(8 1 a6D.nd (a4R .(13 (G8 (K:=K) rfl PySem.F.plainAttrs_str PySem.F.slot_str_startswith PySem.F.type_str_startswith a3z (pv 0) .(0 b8 a7))) (F6 b9R (pv 0) (K0 b6) L4) (pv 0)) (by first | exact .inl rfl | exact .inr rfl)) .(2 .(10 .(12 (o7 hr.units) (pv 1) b8 (j8 _)) .(3 .(7 .(22 (o7 hr.units) (pv 0) b8 (j8 _)))) i7) .(2 .(10 (a0R .(12 (o7 hr.units) (pv 1) b8 (j8 _)) (a4B .(12 (o7 hr.units) .(9 (d8 (K:=K) rfl) (pv 1) b6) b8 (j8 _)))).pt .(3 .(7 b6v)) i7) .(3 .(7 .(11 (a9x (K:=K) rfl rfl) T.n_all b5g .(1 (w5 (M:=[]) (idx:=[]) rfl (c3d (pv 1)) (J2 (by kernel_rfl)) .(28) .(27) (λ_ _ _ _ _=>F5) (λ_ _ _ _ _=>(@a3x _ _ _ _ _ _ _ _ b1C (pv 0) (E4 .(23) T.g_FIGURES) .(23)))) a7 A4))))))),?_⟩
  have fl:(F9 (i8 x)).length <= 1000000:=by have:=b4K (i8 x);rw [b5w] at this;omega
  refine W8 (fun σ' H'=>σ'=[some (.str x),some (.str (a4T x))]/\H'=H) ?_ (λrest=>?_)
  ·rintro _ H ⟨rfl,rfl⟩;refine ⟨_,rfl,Or.inl ⟨rfl,_,rfl,?_⟩⟩;rw [a0Q,b1L,show i8 (a4T x)=F9 (i8 x) from a3w x];refine A7 (λz=>?_) (λz=>?_)
   ·have z0:F9 (i8 x)=[48]:=of_decide_eq_true z;refine ⟨_,rfl,Or.inl ⟨rfl,?_⟩⟩;have:=q _ (n6.refl _);unfold numB at this;rw [z0] at this;rw [a0Q,b1L]
    simpa [a7J] using this
   ·have z0:¬ F9 (i8 x)=[48]:=λe=>z (decide_eq_true e);refine ⟨_,rfl,Or.inl ⟨rfl,_,rfl,?_⟩⟩;rw [a0Q,c6l,show i8 (a4T x)=F9 (i8 x) from a3w x];refine A7 (λy=>?_) (λy=>?_)
    ·have y0:F9 (i8 x)=[]:=of_decide_eq_true y;refine C6 ?_;have:=q _ (n6.refl _);unfold numB at this;rw [y0] at this
     show Q (.bl false) H
     simpa using this
    ·have y0:¬ F9 (i8 x)=[]:=λe=>y (decide_eq_true e);obtain ⟨c,r,hd⟩:∃ c r,F9 (i8 x)=c :: r:=by
      cases h:F9 (i8 x) with
      | nil=>exact absurd h y0
      | cons c r=>exact ⟨c,r,rfl⟩
     have at0:atI (a4T x).cps.toList 0=some c:=by rw [a3w,hd];show atI (c :: r) ((0:Nat):Int)=some c;exact B0 rfl
     refine ⟨_,rfl,Or.inr (Or.inr ⟨_,_,_,rfl,rfl,?_,at0,Or.inl ⟨rfl,_,rfl,?_⟩⟩)⟩
     ·show (F9 (i8 x)).toArray.size <= sizeLine
      rw [List.size_toArray];exact Nat.le_trans fl .(24)
     rw [a0Q,b1L,show i8 (⟨#[c]⟩:Str)=[c] from rfl];refine A7 (λe=>?_) (λe=>?_)
     ·have e0:c=48:=by have:=of_decide_eq_true e;simpa using this
      have:=q _ (n6.refl _);unfold numB at this;have hx:¬ i8 x=[48]:=λe2=>z0 (by rw [e2];rfl);rw [hd,e0,decide_eq_false hx] at this
      show Q (.bl false) H
      simpa using this
     ·have e0:c≠48:=λe2=>e (by rw [e2];rfl);refine ⟨_,rfl,_,rfl,?_,?_⟩
      ·show (F9 (i8 x)).toArray.all (· < 128)=true
       rw [← Array.all_toList,List.all_eq_true];intro d hdm;have hdm':d∈F9 (i8 x):=by simpa using hdm
       have:=asc d (b3l (i8 x) d hdm')
       simpa using this
      have sz:(a4T x).cps.size=(F9 (i8 x)).length:=by show (F9 (i8 x)).toArray.size=_;simp
      refine b5D (x:=a4T x) (λk zs H'=>H'=H/\zs=(((F9 (i8 x)).take k).map a7J).map V.bl) ⟨rfl,rfl⟩ (by rw [sz];exact Nat.le_trans fl .(24)) ?_ ?_
      ·rintro k d zs _ hd' ⟨rfl,rfl⟩;refine a5E ?_;have hm:(F9 (i8 x))[k]? = some d:=by
        rw [← a3w,Array.getElem?_toList];exact hd'
       have h128:d < 128:=asc d (b3l _ d (List.mem_of_getElem? hm));refine ⟨_,rfl,_,_,rfl,rfl,?_⟩;rw [b3W h128];refine ⟨rfl,?_⟩;rw [List.take_add_one,hm,List.map_append,List.map_append]
       rfl
      ·rintro zs _ ⟨rfl,rfl⟩ l hl;rw [sz,List.take_length];refine ⟨_,(F9 (i8 x)).map a7J,rfl,SqL.of b7,?_⟩;have:=q _ (c4 (o:=.lst (((F9 (i8 x)).map a7J).map V.bl)) hl);unfold numB at this;rw [decide_eq_true y0,decide_eq_true (show (F9 (i8 x)).head?≠some 48 from λe2=>e0 (by rw [hd] at e2;exact Option.some.inj e2)),Bool.true_or,Bool.and_true,Bool.and_true] at this;rw [List.all_map];exact this
  ·refine ⟨_,rfl,rfl,_,_,rfl,rfl,_,rfl,?_⟩;rw [b6b]
   by_cases neg:x.cps.toList.head? = some 45
   ·rw [decide_eq_true neg];refine C6 ?_;have ef:F9 (i8 x)=(i8 x).tail:=by unfold F9 i8;rw [if_pos neg]
    refine ⟨_,rfl,_,rfl,_,rfl,rfl,rfl,?_,Nat.le_trans wl .(24),?_⟩
    ·rw [← b5w];unfold i8;cases h:x.cps.toList with
     | nil=>rw [h] at neg;cases neg
     | cons c r=>simp
    ·refine rest _ _ ⟨?_,rfl⟩
     show [some (V.str x),some (V.str ⟨(x.cps.toList.drop 1).toArray⟩)]=[some (V.str x),some (V.str (a4T x))]
     unfold a4T;rw [ef,List.drop_one]
     rfl
   ·rw [decide_eq_false neg];refine y7 ?_;refine ⟨_,rfl,rest _ _ ⟨?_,rfl⟩⟩;have ef:a4T x=x:=N8 (by rw [a3w];unfold F9 i8;rw [if_neg neg])
    show [some (V.str x),some (V.str x)]=[some (V.str x),some (V.str (a4T x))]
    rw [ef]
noncomputable def b0B:Sp:=λvs H Q _=>∃ (x:Str),vs=[.str x]/\Asc x/\x.length <= 1000000/\∀ H',n6 H H'->Q (.bl (J1 (i8 x))) H'
theorem a8T (T:Txt K mg C):Df P w K mg base 2 "is_cell" ["word"] b0B:=by
 refine T.d_is_cell.ok b9p .(29) .(30)
 ·obtain ⟨x,rfl,_⟩:=h
  rfl
 ·obtain ⟨x,rfl,asc,wl,q⟩:=h;refine ⟨_,.(3 .(7 (c4k .(22 (o7 hr.units) (pv 0) (E4 .(23) T.g_HOLE) (j8 _)) (b8H .(4 (a1G T) .(0 (pv 0) a7)))))),?_⟩;refine ⟨_,rfl,Or.inl ⟨rfl,?_⟩⟩;rw [a0Q,b6X]
  by_cases e:i8 x=[46]
  ·rw [decide_eq_true e];have:=q _ (n6.refl _);unfold J1 at this;rw [decide_eq_true e,Bool.true_or] at this;exact ⟨_,rfl,C6 this⟩
  ·rw [decide_eq_false e];refine ⟨_,rfl,y7 ⟨_,rfl,x,rfl,asc,wl,λH' s=>?_⟩⟩;have:=q H' s;unfold J1 at this;rw [decide_eq_false e,Bool.false_or] at this;exact this
noncomputable def Wide (i:Int):Prop:=-10000000000 < i/\i < 10000000000
noncomputable def a2t (c:Option Int):Prop:=∀ i,c=some i->Wide i
theorem N5 (c:Option Int):(c5 c).cps.toList=q9 c:=by show (q9 c).toArray.toList=_;simp
theorem E2 {c:Option Int}(h:a2t c):(c5 c).length <= 11:=by
 show (q9 c).toArray.size <= 11
 rw [List.size_toArray];exact a7H c λi e=>h i e
theorem t9 (x y:Str):(x ++ y).length=x.length + y.length:=by
 show (x.cps ++ y.cps).size=_
 rw [Array.size_append]
 rfl
theorem F3 {n:Int}(h:Wide n):n.natAbs.log2 < 1920:=by
 have h1:n.natAbs < 2 ^ 40:=by unfold Wide at h;omega
 rcases Nat.eq_zero_or_pos n.natAbs with z | z
 ·rw [z];decide
 ·exact Nat.lt_trans ((Nat.log2_lt .(25)).mpr h1) .(24)
theorem c6e (n:Int) (h:Wide n):(Str.empty ++ ("line " : Str) ++ Str.ofString (toString n) ++ (" is no row of this field" : Str)).length <= 100:=by
 have e0:(Str.empty).length=0:=rfl;have e1:(" is no row of this field" : Str).length=24:=by decide +kernel
 have e3:("line " : Str).length=5:=by decide +kernel
 have e2:(Str.ofString (toString n)).length <= 11:=by rw [C4];exact E2 λi e=>by cases e;exact h
 simp only [t9,e0,e1,e3]
 omega
noncomputable def b7F (D:Addr):Sp:=λvs H Q _=>∃ (x:Addr) (n:Int),vs=[.ref x,.int n]/\H x=some (.ext (ExN x (.ref D) none))/\Wide n /\
 ∀ dx,H dx=none->dx≠x->Q .non (upd (upd H dx (.xd [(("row" : Str),.int n)])) x (.ext (ExN x (.ref D) (some dx))))
theorem N9 (T:Txt K mg C) {D:Addr} (pD:Y3 K D=true) (nD:J9 K D "row") (RD:b3N K D "NoField.__init__" ["self","row"] P4):DfE P w K mg base 1 D ["self","row"] (b7F D):=by
 obtain ⟨W,gW,qW⟩:=T.e_win;obtain ⟨fI,fd0,⟨m1,m2,m3⟩,F0,b0⟩:=id RD;refine RD.ok a9M .(29) .(30)
 ·obtain ⟨x,n,rfl,_⟩:=h
  rfl
 ·obtain ⟨x,n,rfl,hx,hn,q⟩:=h;refine ⟨_,.(2 .(16 (b7H (K:=K) rfl gW qW .(0 (pv 0) .(0 (a2E (A8 b8 (A8 (Y9 (pv 1)) (A8 b8 a1R)))) a7)))) .(3 (b9T (K:=K) rfl (pv 0) (pv 1) rfl))),?_⟩
  have l:=c6e n hn;have fits:∀ {n:Nat},n<=100->n<=sizeLine:=λh=>Nat.le_trans h .(24);have l2:=l;simp only [t9] at l2;refine ⟨_,rfl,_,rfl,fits (by simp only [t9];omega),_,rfl,n,rfl,F3 hn,_,rfl,fits (by simp only [t9];omega),_,rfl,fits l,fits l,x,D,fI,none,_,rfl,hx,m1,?_⟩;exact ⟨_,rfl,_,rfl,x,D,rfl,hx,pD,nD,λdx hd ne=>q dx hd ne⟩
theorem a2X {H:Hp}{y dx:Addr}{o1 o2 o3:HO}(hy:H y=none)(hd:upd H y o1 dx=none)(ne:dx≠y) :
  n6 H (a8H (upd (upd (upd H y o1) dx o2) y o3) y)/\H dx=none/\a8H (upd (upd (upd H y o1) dx o2) y o3) y dx=some o2:=by
 have h0:H dx=none:=by rw [j4 ne] at hd;exact hd
 refine ⟨λb o e=>?_,h0,?_⟩
 ·have n1:=d6 e hy;have n2:=d6 e h0;rw [V9 n1,j4 n1,j4 n2,j4 n1];exact e
 ·rw [V9 ne,j4 ne];exact b7
noncomputable def b5n (D:Addr) (n:Int) (H:Hp) (E:XK):Prop:=∀ (dx:Addr) (H':Hp),n6 H H'->H' dx=some (.xd [(("row" : Str),.int n)])->E (.ref D) (some dx) H'
noncomputable def b5p:Sp:=λvs H Q _=>∃ (c:Option Int),vs=[.str (c5 c)]/\a2t c/\Q (j9 c) H
theorem a3G (T:Txt K mg C):Df P w K mg base 1 "cell_read" ["word"] b5p:=by
 refine T.d_cell_read.ok b5c .(29) .(30)
 ·obtain ⟨c,rfl,_⟩:=h
  rfl
 ·obtain ⟨c,rfl,hc,q⟩:=h;refine ⟨_,.(3 .(7 (a4R .(12 (o7 hr.units) (pv 0) (E4 .(23) T.g_HOLE) (j8 _)) Q0 .(15 a6z T.n_int b3g .(0 (pv 0) a7))))),?_⟩;refine ⟨_,rfl,Or.inl ⟨rfl,_,rfl,?_⟩⟩;cases c with
  | none =>
   rw [eqS word_none];exact C6 q
  | some i =>
   rw [neS (b2E i)];refine y7 ?_;refine ⟨_,rfl,_,i,rfl,b8k (hc i rfl),Nat.le_trans (E2 (c:=some i) hc) .(24),q⟩
theorem M4:((" " : Str))=⟨#[32]⟩:=by decide +kernel
noncomputable def b5Q (mg:Str->Option Value):Sp:=λvs H Q E=>∃ (ll:Addr) (xs:List Str),vs=[.ref ll]/\H ll=some (.lst (xs.map V.str))/\(∀ x∈xs,Asc x/\x.length <= 100000)/\xs.length <= 200000/\(∀ x∈xs,∀ w∈y4 x,numB w=true->Wide (numOf w)) /\
 (∀ F,rdL (xs.map y4) [] = .inl F->∀ (v:V) (H':Hp),n6 H H'->IsD H' v (B2 F)->Q v H')/\∀ (k:Nat),rdL (xs.map y4) [] = .inr k->∀ D,mg "NoField" = some (.ref D)->b5n D k H E
theorem a9T (T:Txt K mg C):a9N P w K mg base 4 "read_rows" ["lines"] (b5Q mg):=by
 obtain ⟨D,gD,pD,nD,RD⟩:=T.e_NoField;obtain ⟨fI,fd0,⟨m1,m2,m3⟩,F0,b0⟩:=id RD;refine T.d_read_rows.okXD P3 .(29) .(30)
 ·obtain ⟨ll,xs,rfl,_⟩:=h
  rfl
 ·obtain ⟨ll,xs,rfl,hll,hx,lxs,hwide,qF,qE⟩:=h;refine ⟨_,.(2 (PS.nox .(8 1 P3.nd .(6 a7) (by first | exact .inl rfl | exact .inr rfl))) .(2 .(18 PassesOwn.leaving (b4U (K:=K) rfl .(23) T.n_enumerate .(0 (pv 0) a7)) (b4v (K:=K) rfl rfl (o6 (m9 (i:=2) P3.nd rfl .(27)) (o6 (m9 (i:=3) P3.nd rfl .(27)) P9))) .(2 (PS.nox .(8 4 P3.nd (G8 (K:=K) rfl PySem.F.plainAttrs_str PySem.F.slot_str_split PySem.F.type_str_split a6E (pv 3) .(0 b8 a7)) (by first | exact .inl rfl | exact .inr rfl))) .(2 .(10 (PT.nox .(17 .(13 .(11 (a9x (K:=K) rfl rfl) T.n_all b5g .(1 (w5 (M:=[]) (idx:=[]) rfl (A9 (K:=K) rfl (pv 4)) (J2 (by kernel_rfl)) .(28) .(27) (λ_ _ _ _ _=>F5) (λ_ _ _ _ _=>.(4 (a8T T) .(0 (pv 0) a7)))) a7 A4))))) .(3 (a2x rfl Y4 (a0E (N9 T pD nD RD) (hr.mono .(24)) gD .(0 (pv 2) a7)))) i7) .(2 .(10 (PT.nox (Z9 (b8B (K:=K) rfl (pv 1) (λ_=>rfl)) (S0 .(12 (b6d hr.units) .(11 (m6 (K:=K) rfl) T.n_len x9 .(0 (pv 4) a7)) .(11 (m6 (K:=K) rfl) T.n_len x9 .(1 .(9 (d8 (K:=K) rfl) (pv 1) b6) a7 k9)) (j8 _)))).pt) .(3 (a2x rfl Y4 (a0E (N9 T pD nD RD) (hr.mono .(24)) gD .(0 (pv 2) a7)))) i7) .(3 (PS.nox .(16 .(20 PySem.F.plainAttrs_list PySem.F.slot_list_append PySem.F.type_list_append M5 (pv 1) .(1 .(15 (A5 (K:=K) rfl) T.n_tuple G1 .(1 (w5 (M:=[]) (idx:=[]) rfl (A9 (K:=K) rfl (pv 4)) (J2 (by kernel_rfl)) .(28) .(27) (λ_ _ _ _ _=>F5) (λ_ _ _ _ _=>.(4 (a3G T) .(0 (pv 0) a7)))) a7 A4)) a7 c8))))))))) .(3 (PS.nox .(7 .(15 (A5 (K:=K) rfl) T.n_tuple G1 .(0 (pv 1) a7))))))),?_⟩
  refine ⟨(by show 0<=sizeLine;decide),λc hc=>?_⟩;have hc1:upd H c (.lst []) c=some (.lst []):=b7;have S1:n6 H (upd H c (.lst [])):=c4 hc;have el:=S1 _ _ hll;have nl:ll≠c:=d6 hll hc;generalize upd H c (.lst [])=H1 at hc1 el S1 ⊢;have keepH:∀ {H':Hp},d3 c H1 H'->n6 H H':=λk b o e=>k b o (S1 b o e) (d6 e hc);refine ⟨_,rfl,_,rfl,⟨_,SqL.of el⟩,?_⟩;refine b1K (xs:=xs.map V.str) (λk σ H'=>∃ (v2 v3 v4:Option V) (ys:List V) (rows:List (List (Option Int))),σ=[some (.ref ll),some (.ref c),v2,v3,v4]/\d3 c H1 H'/\H' c=some (.lst ys)/\IsDs H' ys (rows.map a4y)/\rows.length=k/\rdL (xs.map y4) []=rdL ((xs.drop k).map y4) rows)
   ⟨none,none,none,[],[],rfl,d3.refl _ _,hc1,.nil,rfl,rfl⟩ (λk σ H' _ ⟨_,_,_,_,_,_,kb,_⟩=>SqL.of (kb _ _ el nl)) ?_ ?_
  ·rintro k x _ H2 t hxk ⟨v2,v3,v4,ys,rows,rfl,k2,hc2,iy,lr,er⟩ ht;have kx:k < xs.length:=by have:=(List.getElem?_eq_some_iff.mp hxk).1;rwa [List.length_map] at this
   obtain rfl:V.str xs[k]=x:=by rw [List.getElem?_map,List.getElem?_eq_getElem kx] at hxk;exact Option.some.inj hxk
   have ed:xs.drop k=xs[k] :: xs.drop (k + 1):=List.drop_eq_getElem_cons kx;rw [ed,List.map_cons] at er;obtain ⟨asc,ln⟩:=hx xs[k] (List.getElem_mem kx);have hw:=hwide xs[k] (List.getElem_mem kx);generalize xs[k]=line at asc ln hw er ht ⊢;have st:=c4 (o:=.tup [.int (k:Nat),.str line]) ht;refine ⟨_,_,rfl,SqT.of b7,rfl,_,_,rfl,_,_,rfl,rfl,?_⟩;have hc3:=st _ _ hc2;have k3:d3 c H1 (upd H2 t (.tup [.int (k:Nat),.str line])):=k2.upd ht;have iy3:=iy.keep st.tups;generalize upd H2 t (.tup [.int (k:Nat),.str line])=H3 at hc3 k3 iy3 ⊢;refine ⟨_,rfl,rfl,_,_,rfl,rfl,by decide +kernel,by omega,λlw hlw=>?_⟩;rw [M4]
   show _
   have ew:upd H3 lw (.lst ((o9 line).map V.str)) lw=some (.lst ((o9 line).map V.str)):=b7;have sw:=c4 (o:=.lst ((o9 line).map V.str)) hlw;have hc4:=sw _ _ hc3;have k4:d3 c H1 (upd H3 lw (.lst ((o9 line).map V.str))):=k3.upd hlw;have iy4:=iy3.keep sw.tups;have nw:lw≠c:=(d6 hc3 hlw).symm;have lws:(o9 line).length <= 100002:=by have:=PyProof.Rows.split_le line ⟨#[32]⟩;unfold o9;omega
   have wp:∀ w∈o9 line,Asc w/\w.length <= 1000000:=λw hw=>⟨asc.part hw,by have:=(a6p hw).2;omega⟩;dsimp only [List.set]
   change a4t _ _ _ _ (upd H3 lw (.lst ((o9 line).map V.str)))
   generalize upd H3 lw (.lst ((o9 line).map V.str))=H4 at ew hc4 k4 iy4 ⊢;refine Or.inl ?_;refine ⟨_,rfl,_,rfl,⟨_,SqL.of ew⟩,?_⟩;refine R9 (xs:=(o9 line).map V.str) (λj zs H'=>n6 H4 H'/\zs=(((o9 line).take j).map λw=>J1 (i8 w)).map V.bl) ⟨n6.refl _,rfl⟩ (by rw [List.length_map];exact Nat.le_trans lws .(24)) (λj zs H' _ ⟨s,_⟩=>SqL.of (s _ _ ew)) ?_ ?_
   ·rintro j y zs H5 hy ⟨s5,rfl⟩;rw [List.getElem?_map] at hy;obtain ⟨wd,ec,rfl⟩:=Option.map_eq_some_iff.mp hy;refine a5E ?_;obtain ⟨a1,a2⟩:=wp wd (List.mem_of_getElem? ec);refine ⟨_,rfl,wd,rfl,a1,a2,λH6 s6=>⟨s5.trans s6,?_⟩⟩;rw [List.take_add_one,ec,List.map_append,List.map_append]
    rfl
   rintro zs H5 ⟨s5,rfl⟩ l5 hl5;rw [List.length_map,List.take_of_length_le (Nat.le_refl _)];have s6:=s5.trans (c4 (o:=.lst (((o9 line).map λw=>J1 (i8 w)).map V.bl)) hl5);refine ⟨_,(o9 line).map λw=>J1 (i8 w),rfl,SqL.of b7,_,rfl,?_⟩;have eall:((o9 line).map λw=>J1 (i8 w)).all id=(y4 line).all J1:=by unfold y4;rw [List.all_map,List.all_map];rfl
   rw [eall];have hc6:=s6 _ _ hc4;have ew6:=s6 _ _ ew;have iy6:=iy4.keep s6.tups;have k6:d3 c H1 (upd H5 l5 (.lst (((o9 line).map λw=>J1 (i8 w)).map V.bl))):=k4.trans (s6.but c);generalize upd H5 l5 (.lst (((o9 line).map λw=>J1 (i8 w)).map V.bl))=H6 at s6 hc6 ew6 iy6 k6 ⊢;have wk:Wide ((k:Nat):Int):=by unfold Wide;omega
   have S6:=keepH k6;have fin:rdL (xs.map y4) [] = .inr k->∀ (y dx:Addr) (hy:H6 y=none) (hdx:upd H6 y (.ext (ExN y (.ref D) none)) dx=none) (ne:dx≠y),E (.ref D) (some dx) (a8H (upd (upd (upd H6 y (.ext (ExN y (.ref D) none))) dx (.xd [(("row" : Str),.int ((k:Nat):Int))])) y (.ext (ExN y (.ref D) (some dx)))) y):=λe y dx hy hdx ne=>by
    obtain ⟨a1,a2,a3⟩:=a2X (o1:=.ext (ExN y (.ref D) none)) (o2:=.xd [(("row" : Str),.int ((k:Nat):Int))]) (o3:=.ext (ExN y (.ref D) (some dx))) hy hdx ne;exact qE k e D gD dx _ (S6.trans a1) a3
   cases ac:(y4 line).all J1 with
   | false =>
    have e1:rdL (xs.map y4) [] = .inr k:=by
     rw [er];unfold rdL;rw [ac,Bool.false_and,if_neg Bool.false_ne_true,lr]
    refine C6 ?_;exact ⟨_,rfl,(by show 1<=sizeLine;decide),λy hy ny=>⟨y,_,rfl,b7,wk,λdx hdx ne=>⟨rfl,y,D,fI,some dx,rfl,b7,m1,ny,fin e1 y dx hy hdx ne⟩⟩⟩
   | true =>
    refine y7 ?_;dsimp only [W9];have lC:(y4 line).length=(o9 line).length:=by unfold y4;rw [List.length_map]
    refine W8 (fun σ' H'=>σ'=[some (.ref ll),some (.ref c),some (.int ((k:Nat):Int)),some (.str line),some (.ref lw)]/\H'=H6/\(decide (rows=[]) || decide ((y4 line).length=(rows.headD []).length))=true) ?_ (λrest=>?_)
    ·rintro _ H6' ⟨rfl,eH6,hlen⟩;rw [eH6];clear eH6 H6';have e1:rdL (xs.map y4) []=rdL ((xs.drop (k + 1)).map y4) (rows ++ [(y4 line).map B5]):=by
      rw [er]
      show (if ((y4 line).all J1 && (decide (rows=[]) || decide ((y4 line).length=(rows.headD []).length)))=true then _ else _)=_
      rw [ac,Bool.true_and,if_pos hlen]
     refine ⟨_,rfl,Or.inl ⟨rfl,_,SqL.of hc6⟩,?_⟩;refine Or.inl ?_;refine ⟨_,rfl,_,rfl,⟨_,SqL.of ew6⟩,?_⟩;refine R9 (xs:=(o9 line).map V.str) (λj zs H'=>H'=H6/\zs=(((o9 line).take j).map λw=>B5 (i8 w)).map j9) ⟨rfl,rfl⟩ (by rw [List.length_map];exact Nat.le_trans lws .(24)) (λj zs H' _ ⟨e,_⟩=>by rw [e];exact SqL.of ew6) ?_ ?_
     ·rintro j y zs _ hy ⟨rfl,rfl⟩;rw [List.getElem?_map] at hy;obtain ⟨wd,ec,rfl⟩:=Option.map_eq_some_iff.mp hy;have mw:=List.mem_of_getElem? ec;have ml:i8 wd∈y4 line:=List.mem_map.mpr ⟨wd,mw,rfl⟩;have cb:J1 (i8 wd)=true:=List.all_eq_true.mp ac _ ml;have ewd:wd=c5 (B5 (i8 wd)):=N8 (by rw [N5];exact a3U cb);have cw:a2t (B5 (i8 wd)):=λi e=>by
       unfold B5 at e
       split at e
       ·cases e
       ·rename_i nd
        have nb:numB (i8 wd)=true:=by unfold J1 at cb;rw [decide_eq_false nd,Bool.false_or] at cb;exact cb
        rw [← Option.some.inj e];exact hw _ ml nb
      refine a5E ?_;refine ⟨_,rfl,B5 (i8 wd),(by show [V.str wd]=[V.str (c5 (B5 (i8 wd)))];rw [← ewd]),cw,rfl,?_⟩;rw [List.take_add_one,ec,List.map_append,List.map_append]
      rfl
     ·rintro zs H' ⟨eH,rfl⟩ l7 hl7;subst eH;rw [List.length_map,List.take_of_length_le (Nat.le_refl _)];have er2:((o9 line).map λw=>B5 (i8 w))=(y4 line).map B5:=by unfold y4;rw [List.map_map];rfl
      rw [er2];refine ⟨_,_,rfl,Or.inl ⟨SqL.of b7,λt8 ht8=>?_⟩⟩;have s8:=(c4 (o:=.lst (((y4 line).map B5).map j9)) hl7).trans (c4 (o:=.tup (((y4 line).map B5).map j9)) ht8);have hc8:=s8 _ _ hc6;have ly:ys.length=k:=by rw [iy.length,List.length_map,lr]
      refine ⟨_,_,_,rfl,rfl,hc8,(by rw [ly];exact Nat.lt_of_lt_of_le (show k < 200001 by omega) .(24)),?_⟩;have kc:N7 (upd (upd H' l7 (.lst (((y4 line).map B5).map j9))) t8 (.tup (((y4 line).map B5).map j9))) (upd (upd (upd H' l7 (.lst (((y4 line).map B5).map j9))) t8 (.tup (((y4 line).map B5).map j9))) c (.lst (ys ++ [.ref t8]))):=λa xs e=>by rw [j4 (U2 e hc8 λz=>by cases z)];exact e
      refine ⟨_,_,_,_,rows ++ [(y4 line).map B5],rfl,?_,b7,?_,by rw [List.length_append,lr];rfl,e1⟩
      ·intro b o e n;rw [j4 n];exact s8 _ _ (k6 b o e n)
      ·rw [List.map_append];exact ((iy6.keep s8.tups).append (.cons (.tup b7 (T0 _)) .nil)).keep kc
    ·refine ⟨_,rfl,_,Or.inl ⟨_,SqL.of hc6,rfl⟩,?_⟩;cases ys with
     | nil =>
      have r0:rows=[]:=by have:=iy.length;rw [List.length_map] at this;exact List.length_eq_zero_iff.mp this.symm
      exact y7 (y7 (rest _ _ ⟨rfl,rfl,by rw [r0];rfl⟩))
     | cons y0 ys =>
      refine C6 ?_;obtain ⟨r0,rows',erw⟩:∃ r0 rows',rows=r0 :: rows':=by
       cases rows with
       | nil=>cases iy
       | cons r0 rows'=>exact ⟨r0,rows',rfl⟩
      have i0:IsD H6 y0 (a4y r0):=by
       rw [erw] at iy6;cases iy6 with
       | cons a _=>exact a
      obtain ⟨a0,rfl,ha0⟩:=a2Z i0;refine ⟨_,rfl,_,_,rfl,Or.inl ⟨_,SqL.of ew6,rfl⟩,_,rfl,Or.inl ⟨_,_,_,_,rfl,rfl,SqL.of hc6,(show atI (V.ref a0 :: ys) ((0:Nat):Int)=some (V.ref a0) from B0 rfl),_,_,rfl,Or.inr ⟨_,SqT.of ha0,rfl⟩,?_⟩⟩;rw [List.length_map,List.length_map];refine Or.inl ⟨rfl,_,rfl,?_⟩
      by_cases el:(y4 line).length=r0.length
      ·rw [decide_eq_true (by rw [← lC,el])];exact y7 (rest _ _ ⟨rfl,rfl,by rw [erw];simp [el]⟩)
      ·rw [decide_eq_false (λe=>el (by have:=V.int.inj e;omega))];refine C6 ?_;have e1:rdL (xs.map y4) [] = .inr k:=by
        rw [er]
        show (if ((y4 line).all J1 && (decide (rows=[]) || decide ((y4 line).length=(rows.headD []).length)))=true then _ else _)=_
        rw [if_neg (by rw [erw];simp [el]),lr]
       exact ⟨_,rfl,(by show 1<=sizeLine;decide),λy hy ny=>⟨y,_,rfl,b7,wk,λdx hdx ne=>⟨rfl,y,D,fI,some dx,rfl,b7,m1,ny,fin e1 y dx hy hdx ne⟩⟩⟩
  ·rintro _ H2 ⟨v2,v3,v4,ys,rows,rfl,k2,hc2,iy,lr,er⟩;rw [List.length_map,List.drop_length] at er;refine ⟨_,rfl,_,_,rfl,Or.inl ⟨SqL.of hc2,λt ht=>?_⟩⟩;exact qF rows er (.ref t) _ ((keepH k2).trans (c4 ht)) (.tup b7 (iy.keep (c4 ht).tups))
theorem a3X (a:Str)(ys:List Str):PySem.Txt.join a ys=Str.join a ys:=PySem.StrLaws.glued_eq_join a ys
noncomputable def o5 (r:List (Option Int)):Str:=Str.join ⟨#[32]⟩ (r.map c5)
noncomputable def a6U (F:List (List (Option Int))):Prop:=F≠[]/\F.length <= 100/\(∀ r∈F,r.length=(F.headD []).length)/\1<=(F.headD []).length /\ (F.headD []).length <= 100/\∀ r∈F,∀ c∈r,a2t c
theorem b7r {r:List (Option Int)}(h:r≠[]):PySem.Txt.split (o5 r) ⟨#[32]⟩=r.map c5:=by
 refine a9z 32 (by simpa using h) λx hx=>?_;obtain ⟨c,_,rfl⟩:=List.mem_map.mp hx;rw [N5];exact (a1P c).1
theorem a0T {c d:Nat}(hcd:c≠d):∀ p:List (List Nat),(∀ x∈p,d ∉ x)->d ∉ D5 c p
 | [],_=>by simp [D5]
 | [x],h=>h x .(26)
 | x :: y :: r,h=>by
  show d ∉ x ++ c :: D5 c (y :: r)
  intro z
  rcases List.mem_append.mp z with z | z
  ·exact h x .(26) z
  ·rcases List.mem_cons.mp z with z | z
   ·exact hcd z.symm
   ·exact a0T hcd (y :: r) (λu hu=>h u (List.mem_cons_of_mem _ hu)) z
theorem a4o (c m:Nat):∀ p:List (List Nat),(∀ x∈p,x.length <= m)->(D5 c p).length <= p.length * (m + 1)
 | [],_=>by simp [D5]
 | [x],h=>by have:=h x .(26);simp [D5];omega
 | x :: y :: r,h=>by
  have a:=h x .(26);have b:=a4o c m (y :: r) λu hu=>h u (List.mem_cons_of_mem _ hu)
  show (x ++ c :: D5 c (y :: r)).length <= _
  rw [List.length_append,List.length_cons,List.length_cons,Nat.succ_mul]
  omega
theorem a6S {r:List (Option Int)}(hr:r.length <= 100)(h:∀ c∈r,a2t c):(o5 r).length <= 1200:=by
 have e:(o5 r).length=(o5 r).cps.toList.length:=by simp [Str.length]
 rw [e];unfold o5;rw [B1];have:=a4o 32 11 ((r.map c5).map (·.cps.toList)) (λx hx=>by
  obtain ⟨y,hy,rfl⟩:=List.mem_map.mp hx;obtain ⟨c,hc,rfl⟩:=List.mem_map.mp hy
  show (c5 c).cps.toList.length <= 11
  rw [N5];exact a7H c λi e=>h c hc i e)
 rw [List.length_map,List.length_map] at this
 omega
theorem a8S {r:List (Option Int)}(h:r≠[]):y4 (o5 r)=r.map q9:=by
 unfold y4 o9;rw [b7r h,List.map_map];exact List.map_congr_left λc _=>a2p c
theorem b3j {m:Nat}:∀ (G rows:List (List (Option Int))),(∀ r∈G,r.length=m)->(rows=[] \/ (rows.headD []).length=m)->rdL (G.map λr=>r.map q9) rows = .inl (rows ++ G)
 | [],rows,_,_=>by show Sum.inl rows=_;rw [List.append_nil]
 | r :: G,rows,h,hr=>by
  have hm:=h r List.mem_cons_self;have ec:(r.map q9).map B5=r:=by
   rw [List.map_map];have:r.map (B5 ∘ q9)=r.map id:=List.map_congr_left λc _=>b0n c;rw [this,List.map_id]
  have ea:(r.map q9).all J1=true:=by
   rw [List.all_map];exact List.all_eq_true.mpr λc _=>b9m c
  show (if ((r.map q9).all J1 && (decide (rows=[]) || decide ((r.map q9).length=(rows.headD []).length)))=true then rdL (G.map λr=>r.map q9) (rows ++ [(r.map q9).map B5]) else .inr rows.length)=_
  rw [ea,ec,if_pos,b3j G _ (λx hx=>h x (List.mem_cons_of_mem _ hx)),List.append_assoc]
  ·rfl
  ·right
   rcases hr with e | e
   ·rw [e];exact hm
   ·cases rows with
    | nil=>exact hm
    | cons a t=>exact e
  ·rw [List.length_map,hm,Bool.true_and,Bool.or_eq_true,decide_eq_true_eq,decide_eq_true_eq];exact hr.imp id λe=>e.symm
theorem b6B {F:List (List (Option Int))}(R:a6U F):rdL ((F.map o5).map y4) [] = .inl F:=by
 obtain ⟨_,_,h2,h3,_⟩:=R;have:(F.map o5).map y4=F.map λr=>r.map q9:=by
  rw [List.map_map];exact List.map_congr_left λr hr=>a8S λe=>by have:=h2 r hr;rw [e,List.length_nil] at this;omega
 rw [this,b3j F [] h2 (Or.inl rfl)]
 rfl
noncomputable def b5i:Sp:=λvs H Q _=>∃ (c:Option Int),vs=[j9 c]/\a2t c/\Q (.str (c5 c)) H
theorem a5z (T:Txt K mg C):Df P w K mg base 1 "cell_shown" ["cell"] b5i:=by
 refine T.d_cell_shown.ok a6V .(29) .(30)
 ·obtain ⟨c,rfl,_⟩:=h
  rfl
 ·obtain ⟨c,rfl,hc,q⟩:=h;refine ⟨_,.(3 .(7 (a4R .(12 b2I (pv 0) Q0 (j8 _)) (E4 .(23) T.g_HOLE) .(15 b9f T.n_str b7L .(0 (pv 0) a7))))),?_⟩;cases c with
  | none =>
   refine ⟨_,rfl,rfl,_,rfl,?_⟩;refine C6 ?_
   show Q (.str ".") H
   rw [← word_none];exact q
  | some i =>
   refine ⟨_,rfl,rfl,_,rfl,?_⟩;refine y7 ?_;refine ⟨_,rfl,i,rfl,F3 (hc i rfl),?_⟩;have e:(Str.ofString (toString i))=c5 (some i):=C4 i;rw [← e] at q;exact q
theorem a1x {m:Nat}:∀ (ws:List Str),(∀ x∈ws,x.length <= m)->(ws.map (·.length)).sum <= ws.length * m
 | [],_=>by simp
 | x :: ws,h=>by
  have:=h x .(26);have:=a1x ws λy hy=>h y (List.mem_cons_of_mem _ hy);rw [List.map_cons,List.sum_cons,List.length_cons,Nat.succ_mul]
  omega
noncomputable def b1p:Sp:=λvs H Q _=>∃ (a:Addr) (r:List (Option Int)),vs=[.ref a]/\H a=some (.tup (r.map j9))/\r.length <= 1000/\(∀ c∈r,a2t c)/\∀ H',n6 H H'->Q (.str (o5 r)) H'
theorem a5F (T:Txt K mg C):Df P w K mg base 2 "row_shown" ["row"] b1p:=by
 refine T.d_row_shown.ok b1c .(29) .(30)
 ·obtain ⟨a,r,rfl,_⟩:=h
  rfl
 ·obtain ⟨a,r,rfl,ha,hl,hw,q⟩:=h;refine ⟨_,.(3 .(7 (G8 (K:=K) rfl PySem.F.plainAttrs_str PySem.F.slot_str_join PySem.F.type_str_join (F7 (K:=K) rfl) b8 .(1 (w5 (M:=[]) (idx:=[]) rfl (A9 (K:=K) rfl (pv 0)) (J2 (by kernel_rfl)) .(28) .(27) (λ_ _ _ _ _=>F5) (λ_ _ _ _ _=>.(4 (a5z T) .(0 (pv 0) a7)))) a7 A4)))),?_⟩;refine ⟨rfl,?_⟩;refine Or.inr ?_;refine ⟨_,rfl,_,rfl,⟨_,SqT.of ha⟩,?_⟩;refine O8 (xs:=r.map j9) (λj zs H'=>H'=H/\zs=((r.take j).map c5).map V.str) ⟨rfl,rfl⟩ (by rw [List.length_map];exact Nat.le_trans hl .(24)) (λj zs H' _ ⟨e,_⟩=>by rw [e];exact SqT.of ha) ?_ ?_
  ·rintro j y zs _ hy2 ⟨rfl,rfl⟩;obtain ⟨cl,ec,rfl⟩:∃ cl,r[j]? = some cl/\j9 cl=y:=by
    rw [List.getElem?_map] at hy2;cases e:r[j]? with
    | none=>rw [e] at hy2;cases hy2
    | some cl=>rw [e] at hy2;exact ⟨cl,rfl,Option.some.inj hy2⟩
   refine a5E ?_;refine ⟨_,rfl,cl,rfl,hw cl (List.mem_of_getElem? ec),rfl,?_⟩;rw [List.take_add_one,ec,List.map_append,List.map_append]
   rfl
  ·rintro zs _ ⟨rfl,rfl⟩ l2 hl2;rw [List.length_map,List.take_of_length_le (Nat.le_refl _)];refine ⟨_,_,r.map c5,rfl,rfl,SqL.of b7,?_,?_⟩
   ·have:=a1x (m:=11) (r.map c5) (λx hx=>by
     obtain ⟨c,hc,rfl⟩:=List.mem_map.mp hx;exact E2 (hw c hc))
    rw [List.length_map] at this ⊢;have e1:((" " : Str)).length=1:=by decide +kernel
    rw [e1]
    omega
   ·rw [M4,a3X];exact q _ (c4 hl2)
noncomputable def b6A:Sp:=λvs H Q _=>∃ (ra:Addr) (xs:List (Option Int)) (j:Nat) (c:Option Int),vs=[.ref ra,.int (j:Int),j9 c]/\H ra=some (.tup (xs.map j9))/\j < xs.length /\ xs.length <= 1000/\∀ (p:Addr) (H':Hp),n6 H H'->H' p=some (.tup ((xs.take j ++ [c] ++ xs.drop (j + 1)).map j9))->Q (.ref p) H'
theorem b0m (T:Txt K mg C):Df P w K mg base 1 "row_with" ["row","j","cell"] b6A:=by
 refine T.d_row_with.ok b6i .(29) .(30)
 ·obtain ⟨ra,xs,j,c,rfl,_⟩:=h
  rfl
 ·obtain ⟨ra,xs,j,c,rfl,hra,hj,hl,q⟩:=h;refine ⟨_,.(3 .(7 .(5 U0 .(5 U0 (F6 (a8M (K:=K) rfl) (pv 0) L4 (K0 (pv 1))) .(14 .(0 (pv 2) a7))) (F6 (a8M (K:=K) rfl) (pv 0) (K0 .(5 B8 (pv 1) b6)) L4)))),?_⟩;refine ⟨_,rfl,_,rfl,_,rfl,Or.inr ⟨_,_,rfl,hra,λp1 H1 s1 hp1=>?_⟩⟩;rw [a6G] at hp1;refine ⟨_,rfl,(by show 1<=sizeLine;decide),λp2 hp2=>?_⟩;have s2:=c4 (o:=.tup [j9 c]) hp2;refine ⟨_,_,_,_,rfl,rfl,s2 _ _ hp1,b7,(by rw [List.length_take,List.length_map];exact Nat.le_trans (show _<=2000 by simp;omega) .(24)),λp3 H3 s3 hp3=>?_⟩;have S3:=(s1.trans s2).trans s3;refine ⟨_,rfl,_,rfl,_,_,rfl,rfl,_,rfl,Or.inr ⟨_,_,rfl,S3 _ _ hra,λp4 H4 s4 hp4=>?_⟩⟩;rw [a8w] at hp4;refine ⟨_,_,_,_,rfl,rfl,s4 _ _ hp3,hp4,(by rw [List.length_append,List.length_take,List.length_drop,List.length_map];exact Nat.le_trans (show _<=5000 by simp;omega) .(24)),λp5 H5 s5 hp5=>?_⟩;refine q p5 H5 ((S3.trans s4).trans s5) ?_;rw [hp5,List.map_append,List.map_append,List.map_take,List.map_drop]
  rfl
noncomputable def W4 (mg:Str->Option Value)(n:Str)(H:Hp)(E:XK):Prop:=∀ D,mg n=some (.ref D)->∀ H',n6 H H'->E (.ref D) none H'
theorem W4.of {n:Str}{H H1:Hp}{E:XK}(r:W4 mg n H E)(s:n6 H H1):W4 mg n H1 E:=λD g H' s'=>r D g H' (s.trans s')
noncomputable def b7A (mg:Str->Option Value):Sp:=λvs H Q E=>∃ (fv:V) (F:List (List (Option Int))) (i j:Int),vs=[fv,.int i,.int j]/\U6 F/\IsD H fv (B2 F)/\if inF F i j=true then Q .non H else W4 mg "NoPlace" H E
theorem V6 (T:Txt K mg C):a9N P w K mg base 2 "refuse_outside" ["field","i","j"] (b7A mg):=by
 obtain ⟨aN,aF,aM,aP,aW,XX⟩:=T.x_exc;refine T.d_refuse_outside.okXD a2D .(29) .(30)
 ·obtain ⟨fv,F,i,j,rfl,_⟩:=h
  rfl
 ·obtain ⟨fv,F,i,j,rfl,R,hf,q⟩:=h;refine ⟨_,.(3 .(10 (PT.nox .(17 .(13 .(4 (a2G T) .(0 (pv 0) .(0 (pv 1) .(0 (pv 2) a7))))))) .(3 (N6 rfl D0 XX.place XX.inP .(0 b8 a7))) i7)),?_⟩;refine ⟨_,rfl,_,rfl,_,rfl,_,F,_,_,rfl,R,hf,_,rfl,?_⟩;cases hin:inF F i j with
  | true =>
   rw [hin,if_pos rfl] at q;exact y7 q
  | false =>
   rw [hin,if_neg .(24)] at q;refine C6 ⟨(by show 1<=sizeLine;decide),q _ XX.place _ (n6.refl _)⟩
noncomputable def b7b (mg:Str->Option Value):Sp:=λvs H Q E=>∃ (fv:V) (F:List (List (Option Int))) (i j:Int) (c:Option Int),vs=[fv,.int i,.int j,j9 c]/\U6 F/\IsD H fv (B2 F)/\if inF F i j=true then (∀ (v:V) (H':Hp),n6 H H'->IsD H' v (B2 (a1o F i.toNat j.toNat c))->Q v H') else W4 mg "NoPlace" H E
theorem a7O {F:List (List (Option Int))}{i j:Int}(h:inF F i j=true):(i.toNat:Int)=i/\(j.toNat:Int)=j/\i.toNat < F.length /\ j.toNat < (F.headD []).length:=by
 unfold inF at h;simp only [Bool.and_eq_true,decide_eq_true_eq] at h
 omega
theorem a4N (T:Txt K mg C):a9N P w K mg base 3 "field_with" ["field","i","j","cell"] (b7b mg):=by
 refine T.d_field_with.okXD a5V .(29) .(30)
 ·obtain ⟨fv,F,i,j,c,rfl,_⟩:=h
  rfl
 ·obtain ⟨fv,F,i,j,c,rfl,R,hf,q⟩:=h;refine ⟨_,.(2 .(16 (E6 (V6 T) (hr.mono .(24)) p0 .(0 (pv 0) .(0 (pv 1) .(0 (pv 2) a7))))) .(3 (PS.nox .(7 .(5 U0 .(5 U0 (F6 (a8M (K:=K) rfl) (pv 0) L4 (K0 (pv 1))) .(14 .(1 .(4 (b0m T) .(1 .(9 (d8 (K:=K) rfl) (pv 0) (pv 1)) .(0 (pv 2) .(0 (pv 3) a7)) k9)) a7 c8))) (F6 (a8M (K:=K) rfl) (pv 0) (K0 .(5 B8 (pv 1) b6)) L4)))))),?_⟩
  refine ⟨_,rfl,_,rfl,_,rfl,_,F,_,_,rfl,R,hf,?_⟩;refine A7 (λhin=>?_) (λhin=>by rw [if_neg hin] at q;exact q);rw [if_pos hin] at q;obtain ⟨ei,ej,hi,hj⟩:=a7O hin;rw [← ei,← ej];generalize i.toNat=i at hi q ⊢;generalize j.toNat=j at hj q ⊢;obtain ⟨fa,xs,rfl,hfa,hxs⟩:=E1 hf;have lxs:xs.length=F.length:=by rw [hxs.length,List.length_map]
  have hs:=R.hs;have ws:=R.ws;obtain ⟨ra,era,hra⟩:=G2 hxs hi;have lr:F[i].length=(F.headD []).length:=R.row _ (List.getElem_mem _);refine ⟨_,rfl,_,rfl,_,rfl,Or.inr ⟨_,_,rfl,hfa,λp1 H1 s1 hp1=>?_⟩⟩;rw [a6G] at hp1;refine ⟨_,rfl,_,rfl,Or.inr (Or.inl ⟨_,_,_,_,rfl,rfl,SqT.of (s1 _ _ hfa),B0 era,_,rfl,_,rfl,?_⟩)⟩;refine ⟨ra,F[i],j,c,rfl,s1 _ _ hra,by omega,by omega,λp2 H2 s2 hp2=>?_⟩;refine ⟨(by show 1<=sizeLine;decide),λp3 hp3=>?_⟩;have s3:=c4 (o:=.tup [.ref p2]) hp3;have S3:=(s1.trans s2).trans s3;refine ⟨_,_,_,_,rfl,rfl,(s2.trans s3) _ _ hp1,b7,(by rw [List.length_take];exact Nat.le_trans (show _<=2000 by simp;omega) .(24)),λp4 H4 s4 hp4=>?_⟩;have S4:=S3.trans s4;refine ⟨_,rfl,_,rfl,_,_,rfl,rfl,_,rfl,Or.inr ⟨_,_,rfl,S4 _ _ hfa,λp5 H5 s5 hp5=>?_⟩⟩;rw [a8w] at hp5;refine ⟨_,_,_,_,rfl,rfl,s5 _ _ hp4,hp5,(by rw [List.length_append,List.length_take,List.length_drop];exact Nat.le_trans (show _<=5000 by simp;omega) .(24)),λp6 H6 s6 hp6=>?_⟩;have S6:=(S4.trans s5).trans s6;refine q (.ref p6) H6 S6 (.tup hp6 ?_);unfold a1o;rw [List.getElem?_eq_getElem hi]
  show IsDs H6 _ ((F.take i ++ [F[i].take j ++ [c] ++ F[i].drop (j + 1)] ++ F.drop (i + 1)).map a4y)
  rw [List.map_append,List.map_append,List.map_take,List.map_drop];have h6:=hxs.keep S6.tups;exact ((a3Z h6 i).append (.cons (.tup ((s3.trans (s4.trans (s5.trans s6))) _ _ hp2) (T0 _)) .nil)).append (a4Z h6 (i + 1))
noncomputable def N1 (F:List (List (Option Int))):Str:=Str.join ⟨#[59]⟩ (F.map o5)
theorem a9P:((";" : Str))=⟨#[59]⟩:=by decide +kernel
theorem b2o (c:Option Int):59 ∉ q9 c:=by
 cases c with
 | none=>simp [q9]
 | some i =>
  have a:=a0s i.natAbs;unfold q9;intro h
  rcases List.mem_append.mp h with z | z
  ·split at z <;> simp at z
  ·have:=a _ z;omega
theorem b5C (r:List (Option Int)):59 ∉ (o5 r).cps.toList:=by
 unfold o5;rw [B1];refine a0T .(24) _ λx hx=>?_;obtain ⟨y,hy,rfl⟩:=List.mem_map.mp hx;obtain ⟨c,_,rfl⟩:=List.mem_map.mp hy
 show 59 ∉ (c5 c).cps.toList
 rw [N5];exact b2o c
theorem b2i {F:List (List (Option Int))}(h:F≠[]):PySem.Txt.split (N1 F) ⟨#[59]⟩=F.map o5:=by
 refine a9z 59 (by simpa using h) λx hx=>?_;obtain ⟨r,_,rfl⟩:=List.mem_map.mp hx;exact b5C r
theorem b9z {F:List (List (Option Int))}(R:a6U F):(N1 F).length <= 130000:=by
 obtain ⟨h0,h1,h2,h3,h4,h5⟩:=R;have e:(N1 F).length=(N1 F).cps.toList.length:=by simp [Str.length]
 rw [e];unfold N1;rw [B1];have:=a4o 59 1200 ((F.map o5).map (·.cps.toList)) (λx hx=>by
  obtain ⟨y,hy,rfl⟩:=List.mem_map.mp hx;obtain ⟨r,hr,rfl⟩:=List.mem_map.mp hy
  show (o5 r).cps.toList.length <= 1200
  have:=a6S (r:=r) (by rw [h2 r hr];exact h4) (h5 r hr);have e:(o5 r).length=(o5 r).cps.toList.length:=by simp [Str.length]
  omega)
 rw [List.length_map,List.length_map] at this
 omega
theorem b3V {H:Hp}{i j:Int}{Q:VK}(q:Q (.bl (!decide (i=j))) H):rNe (.int i) (.int j) H Q \/ b3q 0 (.int i) (.int j) H Q:=by
 refine Or.inl ⟨rfl,?_⟩;have:decide (V.int i=V.int j)=decide (i=j):=by
  by_cases e:i=j
  ·rw [e,decide_eq_true rfl,decide_eq_true rfl]
  ·rw [decide_eq_false e,decide_eq_false λz=>e (V.int.inj z)]
 rw [this];exact q
theorem b0e {α:Type}{f:α->V}{ns:List α}{j:Nat}{y:V}(hy:(ns.map f)[j]? = some y):∃ n,ns[j]? = some n/\f n=y:=by
 rw [List.getElem?_map] at hy;exact Option.map_eq_some_iff.mp hy
noncomputable def b2A:Sp:=λvs H Q _=>∃ (t:Addr) (ns:List Int) (lo hi:Int),vs=[.ref t,.int lo,.int hi]/\H t=some (.tup (ns.map V.int))/\ns.length <= 1000/\∀ H',n6 H H'->Q (.bl (wi lo hi ns)) H'
theorem T4 (T:Txt K mg C):Df P w K mg base 1 "are_within" ["numbers","least","most"] b2A:=by
 refine T.d_are_within.ok a7V .(29) .(30)
 ·obtain ⟨t,ns,lo,hi,rfl,_⟩:=h
  rfl
 ·obtain ⟨t,ns,lo,hi,rfl,ht,hl,q⟩:=h;refine ⟨_,.(3 .(7 .(11 (a9x (K:=K) rfl rfl) T.n_all b5g .(1 (w5 (M:=["least","most"]) (idx:=[1,2]) rfl (A9 (K:=K) rfl (pv 0)) (J2 (by kernel_rfl)) .(28) .(27) (λ_ _ _ _ _=>F5) (λ_ _ _ _ _=>(a5R a2z a2z (pv 1) (pv 0) (pv 2)))) a7 A4)))),?_⟩;refine Or.inr ?_;refine ⟨_,rfl,_,rfl,⟨_,SqT.of ht⟩,?_⟩;refine O8 (xs:=ns.map V.int) (λj zs H'=>H'=H/\zs=((ns.take j).map λn=>decide (lo<=n) && decide (n<=hi)).map V.bl) ⟨rfl,rfl⟩ (by rw [List.length_map];exact Nat.le_trans hl .(24)) (λj zs H' _ ⟨e,_⟩=>by rw [e];exact SqT.of ht) ?_ ?_
  ·rintro j y zs _ hy ⟨rfl,rfl⟩;obtain ⟨n,en,rfl⟩:=b0e hy;have stp:((ns.take (j + 1)).map λn=>decide (lo<=n) && decide (n<=hi)).map V.bl=((ns.take j).map λn=>decide (lo<=n) && decide (n<=hi)).map V.bl ++ [V.bl (decide (lo<=n) && decide (n<=hi))]:=by
    rw [List.take_add_one,en,List.map_append,List.map_append]
    rfl
   rw [stp];refine a5E ?_;refine ⟨_,rfl,_,rfl,_,_,rfl,rfl,_,rfl,?_⟩;refine A7 (λz=>?_) (λz=>?_)
   ·rw [show decide (lo<=n)=true from z,Bool.true_and];exact ⟨_,rfl,_,_,rfl,rfl,rfl,rfl⟩
   ·rw [show decide (lo<=n)=false from by simpa using z,Bool.false_and];exact ⟨rfl,rfl⟩
  ·rintro zs _ ⟨rfl,rfl⟩ l5 hl5;rw [List.length_map,List.take_length];refine ⟨_,_,rfl,SqL.of b7,?_⟩;have:=q _ (c4 (o:=.lst ((ns.map λn=>decide (lo<=n) && decide (n<=hi)).map V.bl)) hl5);unfold wi at this;rw [List.all_map];exact this
noncomputable def b9g (x:Str):Prop:=Asc x/\x.length <= 90000/\b1b (i8 x)
noncomputable def b7Q (mg:Str->Option Value):Sp:=λvs H Q E=>∃ (l:Addr) (ws:List Str) (n:Nat),vs=[.ref l,.int n]/\H l=some (.lst (ws.map V.str))/\ws.length <= 100000/\(∀ x∈ws,b9g x) /\
 (∀ ks,L9 ws n=some ks->∀ (t:Addr) (H':Hp),n6 H H'->H' t=some (.tup (ks.map V.int))->Q (.ref t) H')/\(L9 ws n=none->W4 mg "NoAsk" H E)
theorem A3 (T:Txt K mg C):a9N P w K mg base 2 "numbers_asked" ["words","how_many"] (b7Q mg):=by
 obtain ⟨aN,aF,aM,aP,aW,XX⟩:=T.x_exc;refine T.d_numbers_asked.okXD a6I .(29) .(30)
 ·obtain ⟨l,ws,n,rfl,_⟩:=h
  rfl
 ·obtain ⟨l,ws,n,rfl,hl,few,hw,q,qN⟩:=h;refine ⟨_,.(2 .(10 (PT.nox .(12 (b6d hr.units) .(11 (m6 (K:=K) rfl) T.n_len x9 .(0 (pv 0) a7)) (pv 1) (j8 _))) .(3 (N6 rfl D0 XX.ask XX.inN .(0 b8 a7))) i7) .(2 .(10 (PT.nox .(17 .(13 .(11 (a9x (K:=K) rfl rfl) T.n_all b5g .(1 (w5 (M:=[]) (idx:=[]) rfl (A9 (K:=K) rfl (pv 0)) (J2 (by kernel_rfl)) .(28) .(27) (λ_ _ _ _ _=>F5) (λ_ _ _ _ _=>.(4 (a1G T) .(0 (pv 0) a7)))) a7 A4))))) .(3 (N6 rfl D0 XX.ask XX.inN .(0 b8 a7))) i7) .(3 (PS.nox .(7 .(15 (A5 (K:=K) rfl) T.n_tuple G1 .(1 (w5 (M:=[]) (idx:=[]) rfl (A9 (K:=K) rfl (pv 0)) (J2 (by kernel_rfl)) .(28) .(27) (λ_ _ _ _ _=>F5) (λ_ _ _ _ _=>.(15 a6z T.n_int b3g .(0 (pv 0) a7)))) a7 A4))))))),?_⟩
  refine ⟨_,rfl,_,_,rfl,Or.inl ⟨_,SqL.of hl,rfl⟩,_,rfl,b3V ⟨_,rfl,?_⟩⟩;rw [List.length_map]
  by_cases el':¬ ws.length=n
  ·have el:=el';rw [decide_eq_false (λe=>el .(25))];refine C6 ⟨(by show 1<=sizeLine;decide),qN ?_ _ XX.ask _ (n6.refl _)⟩;unfold L9;rw [decide_eq_false el,Bool.false_and,if_neg .(24)]
  have el:ws.length=n:=Decidable.not_not.mp el';rw [decide_eq_true (by rw [el])];refine y7 ?_;dsimp only [W9,a4t];refine Or.inl ⟨_,rfl,_,rfl,⟨_,SqL.of hl⟩,?_⟩;refine R9 (xs:=ws.map V.str) (λj zs H'=>n6 H H'/\zs=((ws.take j).map λx=>numB (i8 x)).map V.bl) ⟨n6.refl _,rfl⟩ (by rw [List.length_map];exact Nat.le_trans few .(24)) (λj zs H' _ ⟨s,_⟩=>SqL.of (s _ _ hl)) ?_ ?_
  ·rintro j y zs H5 hy ⟨s5,rfl⟩;obtain ⟨x,ex,rfl⟩:=b0e hy;obtain ⟨w1,w2,_⟩:=hw x (List.mem_of_getElem? ex);refine a5E ?_;refine ⟨_,rfl,x,rfl,w1,by omega,λH6 s6=>⟨s5.trans s6,?_⟩⟩;rw [List.take_add_one,ex,List.map_append,List.map_append]
   rfl
  ·rintro zs H5 ⟨s5,rfl⟩ l5 hl5;rw [List.length_map,List.take_length];have s6:=s5.trans (c4 (o:=.lst ((ws.map λx=>numB (i8 x)).map V.bl)) hl5);refine ⟨_,_,rfl,SqL.of b7,_,rfl,?_⟩;have eall:(ws.map λx=>numB (i8 x)).all id=ws.all λx=>numB (i8 x):=by rw [List.all_map];rfl
   rw [eall];generalize upd H5 l5 (.lst ((ws.map λx=>numB (i8 x)).map V.bl))=H6 at s6 ⊢;have eN:L9 ws n=if (ws.all λx=>numB (i8 x))=true then some (ws.map λx=>numOf (i8 x)) else none:=by
    unfold L9;rw [decide_eq_true el,Bool.true_and]
   cases ea:ws.all λx=>numB (i8 x) with
   | false =>
    rw [ea,if_neg .(24)] at eN;exact C6 ⟨(by show 1<=sizeLine;decide),qN eN _ XX.ask _ s6⟩
   | true =>
   rw [ea,if_pos rfl] at eN;refine y7 ?_;dsimp only [W9,a4t];have hl6:=s6 _ _ hl;refine Or.inl ⟨_,rfl,_,rfl,⟨_,SqL.of hl6⟩,?_⟩;refine R9 (xs:=ws.map V.str) (λj zs H'=>H'=H6/\zs=((ws.take j).map λx=>numOf (i8 x)).map V.int) ⟨rfl,rfl⟩ (by rw [List.length_map];exact Nat.le_trans few .(24)) (λj zs H' _ ⟨e,_⟩=>by rw [e];exact SqL.of hl6) ?_ ?_
   ·rintro j y zs _ hy ⟨rfl,rfl⟩;obtain ⟨x,ex,rfl⟩:=b0e hy;have mx:=List.mem_of_getElem? ex;have nb:numB (i8 x)=true:=List.all_eq_true.mp ea x mx;have wk:Wide (numOf (i8 x)):=(hw x mx).2.2 nb;have exw:x=c5 (some (numOf (i8 x))):=N8 (by rw [N5];exact a4Y nb);have xl:x.length <= 11:=by rw [exw];exact E2 (c:=some _) λi e=>by cases e;exact wk
    have xi:=b8k wk;rw [← exw] at xi;refine a5E ?_;refine ⟨_,rfl,_,numOf (i8 x),rfl,xi,Nat.le_trans xl .(24),rfl,?_⟩;rw [List.take_add_one,ex,List.map_append,List.map_append]
    rfl
   ·rintro zs _ ⟨rfl,rfl⟩ l7 hl7;rw [List.length_map,List.take_length];refine ⟨_,_,rfl,Or.inl ⟨SqL.of b7,λt ht=>?_⟩⟩;exact q _ eN t _ ((s6.trans (c4 hl7)).trans (c4 ht)) b7
noncomputable def a6X:Sp:=λvs H Q _=>∃ (fv:V) (F:List (List (Option Int))),vs=[fv]/\IsD H fv (B2 F)/\a6U F/\∀ (l:Addr) (H':Hp),n6 H H'->H l=none->H' l=some (.lst (F.map (V.str ∘ o5)))->Q (.ref l) H'
theorem a7L (T:Txt K mg C):Df P w K mg base 3 "lines_of" ["field"] a6X:=by
 refine T.d_lines_of.ok b7i .(29) .(30)
 ·obtain ⟨fv,F,rfl,_⟩:=h
  rfl
 ·obtain ⟨fv,F,rfl,hf,R,q⟩:=h;obtain ⟨h0,h1,h2,h3,h4,h5⟩:=R;refine ⟨_,.(3 .(7 (w5 (M:=[]) (idx:=[]) rfl (A9 (K:=K) rfl (pv 0)) (J2 (by kernel_rfl)) .(28) .(27) (λ_ _ _ _ _=>F5) (λ_ _ _ _ _=>.(4 (a5F T) .(0 (pv 0) a7)))))),?_⟩;obtain ⟨fa,xs,rfl,hfa,hxs⟩:=E1 hf;have lxs:xs.length=F.length:=by rw [hxs.length,List.length_map]
  refine Or.inr ?_;refine ⟨_,rfl,_,rfl,⟨_,SqT.of hfa⟩,?_⟩;refine O8 (xs:=xs) (λj zs H'=>n6 H H'/\zs=(F.take j).map (V.str ∘ o5)) ⟨n6.refl _,rfl⟩ (by rw [lxs];exact Nat.le_trans h1 .(24)) (λj zs H' _ ⟨s,_⟩=>SqT.of (s _ _ hfa)) ?_ ?_
  ·rintro j y zs H2 hy ⟨s2,rfl⟩;have hj:j < F.length:=by rw [← lxs];exact (List.getElem?_eq_some_iff.mp hy).1
   obtain ⟨ra,era,hra⟩:=G2 hxs hj;obtain rfl:y = .ref ra:=by rw [hy] at era;exact Option.some.inj era
   have lr:F[j].length=(F.headD []).length:=h2 _ (List.getElem_mem _);refine a5E ?_;refine ⟨_,rfl,ra,F[j],rfl,s2 _ _ hra,by omega,h5 _ (List.getElem_mem _),λH3 s3=>⟨s2.trans s3,?_⟩⟩;rw [List.take_add_one,List.getElem?_eq_getElem hj,List.map_append]
   rfl
  ·rintro zs H2 ⟨s2,rfl⟩ l hl;rw [lxs,List.take_length];exact q l _ (s2.trans (c4 hl)) (s2.free hl) b7
theorem a4P {H H2:Hp}{D:Addr}{n:Int}{E:XK}(q:b5n D n H E)(S:n6 H H2){y dx:Addr}(hy:H2 y=none)(hdx:upd H2 y (.ext (ExN y (.ref D) none)) dx=none)(ne:dx≠y) :
  E (.ref D) (some dx) (a8H (upd (upd (upd H2 y (.ext (ExN y (.ref D) none))) dx (.xd [(("row" : Str),.int n)])) y (.ext (ExN y (.ref D) (some dx)))) y):=by
 obtain ⟨a1,a2,a3⟩:=a2X (o1:=.ext (ExN y (.ref D) none)) (o2:=.xd [(("row" : Str),.int n)]) (o3:=.ext (ExN y (.ref D) (some dx))) hy hdx ne;exact q dx _ (S.trans a1) a3
noncomputable def b5J (r:List (Option Int)):Bool:=wi (-1000000000) 1000000000 (r.filterMap id)
noncomputable def c2b (mg:Str->Option Value):Sp:=λvs H Q E=>∃ x:Str,vs=[.str x]/\Asc x/\x.length <= 90000/\(∀ l∈Txt.split x ⟨#[59]⟩,∀ w∈y4 l,b1b w) /\
 (∀ F,a1W x = .fld F->∀ (v:V) (H':Hp),n6 H H'->IsD H' v (B2 F)->Q v H')/\∀ k:Nat,a1W x = .bad k->∀ D,mg "NoField" = some (.ref D)->b5n D k H E
theorem a0K (T:Txt K mg C):a9N P w K mg base 5 "field_asked" ["text"] (c2b mg):=by
 obtain ⟨D,gD,pD,nD,RD⟩:=T.e_NoField;obtain ⟨fI,fd0,⟨m1,m2,m3⟩,F0,b0⟩:=id RD;refine T.d_field_asked.okXD X3 .(29) .(30)
 ·obtain ⟨x,rfl,_⟩:=h
  rfl
 ·obtain ⟨x,rfl,asc,tl,hw,q,qE⟩:=h;refine ⟨_,.(2 .(8 1 X3.nd (E6 (a9T T) (hr.mono .(24)) p0 .(1 (G8 (K:=K) rfl PySem.F.plainAttrs_str PySem.F.slot_str_split PySem.F.type_str_split a6E (pv 0) .(0 b8 a7)) a7 c8)) (by first | exact .inl rfl | exact .inr rfl)) .(2 .(10 (PT.nox (a0R .(12 a3Y .(11 (m6 (K:=K) rfl) T.n_len x9 .(0 (pv 1) a7)) (E4 .(23) T.g_MOST_LENGTH) (j8 _)) (a4B .(12 a3Y .(11 (m6 (K:=K) rfl) T.n_len x9 .(1 .(9 (d8 (K:=K) rfl) (pv 1) b6) a7 k9)) (E4 .(23) T.g_MOST_LENGTH) (j8 _)))).pt) .(3 (a2x rfl Y4 (a0E (N9 T pD nD RD) (hr.mono .(24)) gD .(0 b6 a7)))) i7) .(2 .(18 PassesOwn.leaving (A9 (K:=K) rfl (pv 1)) (m9 (i:=2) X3.nd rfl .(27)) .(3 .(10 (PT.nox .(17 .(13 .(4 (T4 T) .(1 .(4 (R8 T) .(0 (pv 2) a7)) .(1 .(21 a9H (E4 .(23) T.g_MOST_NUMBER)) .(0 (E4 .(23) T.g_MOST_NUMBER) a7) a3O) c8))))) .(3 (a2x rfl Y4 (a0E (N9 T pD nD RD) (hr.mono .(24)) gD .(0 b6 a7)))) i7))) .(3 (PS.nox .(7 (pv 1))))))),?_⟩
  refine ⟨_,rfl,rfl,_,_,rfl,rfl,by decide +kernel,by omega,λll hll=>?_⟩;rw [a9P];have sl:=c4 (o:=.lst ((Txt.split x ⟨#[59]⟩).map V.str)) hll;have e:(Txt.split x ⟨#[59]⟩).length <= x.length + 2:=PyProof.Rows.split_le x ⟨#[59]⟩;refine ⟨ll,Txt.split x ⟨#[59]⟩,rfl,b7,λl hl=>⟨asc.part hl,by have:=(a6p hl).2;omega⟩,by omega,hw,λF hF v H1 s1 hv=>?_,λk hk D gD dx H' s e=>qE k (by unfold a1W;rw [hk]) D gD dx H' (sl.trans s) e⟩;have eF:a1W x=if (decide (F.length <= 12) && decide ((F.headD []).length <= 12) && F.all b5J)=true then .fld F else .bad 0:=by unfold a1W;rw [hF];rfl
  have S1:=sl.trans s1;dsimp only [q0,List.set];obtain ⟨fa,xs,rfl,hfa,hxs⟩:=E1 hv;have lxs:xs.length=F.length:=by rw [hxs.length,List.length_map]
  obtain ⟨r1,r2,_⟩:=a9Q _ [] F hF (λr hr=>by cases hr);have hF:0 < F.length:=by
   have:=List.length_pos_iff.mpr (a8C x 59);rw [List.length_map] at r1
   simp at r1
   omega
  obtain ⟨b0,eb0,hb0⟩:=G2 hxs hF;have l0:F[0].length=(F.headD []).length:=r2 _ (List.getElem_mem _);have no:(decide (F.length <= 12) && decide ((F.headD []).length <= 12) && F.all b5J)=false->b5n D 0 H E:=λz=>qE 0 (by rw [eF,z];rfl) D gD;have w0:Wide 0:=by unfold Wide;decide
  refine ⟨_,rfl,_,_,rfl,Or.inr ⟨_,SqT.of hfa,rfl⟩,_,_,rfl,rfl,_,rfl,?_⟩;refine A7 (λz=>?_) (λz=>?_)
  ·have z:=of_decide_eq_true z;refine C6 ⟨(by show 1<=sizeLine;decide),λy hy ny=>⟨y,0,rfl,b7,w0,λdx hdx ne=>⟨rfl,y,D,fI,some dx,rfl,b7,m1,ny,a4P (no ?_) S1 hy hdx ne⟩⟩⟩;rw [decide_eq_false .(25)]
   rfl
  have f12:F.length <= 12:=by
   have:=of_decide_eq_false (Bool.not_eq_true _ ▸ z)
   omega
  refine ⟨_,rfl,Or.inr (Or.inl ⟨_,_,_,_,rfl,rfl,SqT.of hfa,B0 (j:=0) eb0,_,_,rfl,Or.inr ⟨_,SqT.of hb0,rfl⟩,_,_,rfl,rfl,_,rfl,?_⟩)⟩;rw [List.length_map];refine A7 (λz=>?_) (λz=>?_)
  ·have z:=of_decide_eq_true z;refine ⟨(by show 1<=sizeLine;decide),λy hy ny=>⟨y,0,rfl,b7,w0,λdx hdx ne=>⟨rfl,y,D,fI,some dx,rfl,b7,m1,ny,a4P (no ?_) S1 hy hdx ne⟩⟩⟩;rw [decide_eq_false (show ¬ (F.headD []).length <= 12 by omega),Bool.and_false]
   rfl
  have w12:(F.headD []).length <= 12:=by
   have:=of_decide_eq_false (Bool.not_eq_true _ ▸ z)
   omega
  rw [decide_eq_true f12,decide_eq_true w12,Bool.true_and,Bool.true_and] at eF no;dsimp only [W9,a4t];refine Or.inr ⟨_,rfl,fa,rfl,⟨_,SqT.of hfa⟩,?_⟩;refine b8W (K:=K) (xs:=xs) (λt σ H'=>∃ (v2:Option V),σ=[some (.str x),some (.ref fa),v2]/\n6 H1 H'/\(F.take t).all b5J=true) ⟨none,rfl,n6.refl _,rfl⟩ (λt σ H' _ ⟨_,_,s',_⟩=>SqT.of (s' _ _ hfa)) ?_ ?_
  ·rintro t y _ H2 hx ⟨v2,rfl,s2,ha⟩;have ht:t < F.length:=by rw [← lxs];exact (List.getElem?_eq_some_iff.mp hx).1
   obtain ⟨ra,era,hra⟩:=G2 hxs ht;obtain rfl:y = .ref ra:=by rw [hx] at era;exact Option.some.inj era
   have lr:F[t].length=(F.headD []).length:=r2 _ (List.getElem_mem _);refine ⟨_,rfl,?_⟩;refine ⟨ra,F[t],rfl,.inl (s2 _ _ hra),by omega,λt3 H3 s3 ht3=>?_⟩;refine ⟨_,rfl,t3,F[t].filterMap id,-1000000000,1000000000,rfl,ht3,Nat.le_trans (List.length_filterMap_le _ _) .(25),λH4 s4=>?_⟩;have S4:=(s2.trans s3).trans s4;refine ⟨_,rfl,?_⟩;cases ea:b5J F[t] with
   | false =>
    rw [show wi (-1000000000) 1000000000 (F[t].filterMap id)=false from ea];refine C6 ⟨(by show 1<=sizeLine;decide),λy hy ny=>⟨y,0,rfl,b7,w0,λdx hdx ne=>⟨rfl,y,D,fI,some dx,rfl,b7,m1,ny,a4P (no ?_) (S1.trans S4) hy hdx ne⟩⟩⟩;exact Bool.eq_false_iff.mpr λz=>by rw [List.all_eq_true.mp z _ (List.getElem_mem ht)] at ea;cases ea
   | true =>
    rw [show wi (-1000000000) 1000000000 (F[t].filterMap id)=true from ea];refine y7 ⟨_,rfl,S4,?_⟩;rw [List.take_add_one,List.getElem?_eq_getElem ht,List.all_append,ha,Bool.true_and]
    show (b5J F[t] && true)=true
    rw [ea]
    rfl
  ·rintro _ H2 ⟨v2,rfl,s2,ha⟩;rw [lxs,List.take_length] at ha;rw [ha] at eF;exact ⟨_,rfl,q F eF _ _ (S1.trans s2) (hv.keep s2.tups)⟩
noncomputable def In9 (c:Option Int):Prop:=∀ i,c=some i->-1000000000<=i/\i<=1000000000
theorem In9.wide {c:Option Int}(h:In9 c):a2t c:=λi e=>by have:=h i e;unfold Wide;omega
noncomputable def b8b (mg:Str->Option Value):Sp:=λvs H Q E=>∃ (x:Str),vs=[.str x]/\b9g x/\(∀ c,V7 x=some c->∀ H',n6 H H'->Q (j9 c) H')/\(V7 x=none->W4 mg "NoAsk" H E)
theorem a1t (T:Txt K mg C):a9N P w K mg base 3 "cell_asked" ["word"] (b8b mg):=by
 obtain ⟨aN,aF,aM,aP,aW,XX⟩:=T.x_exc;refine T.d_cell_asked.okXD a1z .(29) .(30)
 ·obtain ⟨x,rfl,_⟩:=h
  rfl
 ·obtain ⟨x,rfl,⟨asc,ln,wd⟩,q,qN⟩:=h;refine ⟨_,.(2 .(10 (PT.nox .(17 .(13 .(4 (a8T T) .(0 (pv 0) a7))))) .(3 (N6 rfl D0 XX.ask XX.inN .(0 b8 a7))) i7) .(2 (PS.nox .(8 1 a1z.nd .(4 (a3G T) .(0 (pv 0) a7)) (by first | exact .inl rfl | exact .inr rfl))) .(2 .(10 (PT.nox .(17 .(13 .(4 (T4 T) .(1 .(4 (R8 T) .(1 .(14 .(0 (pv 1) a7)) a7 X1)) .(1 .(21 a9H (E4 .(23) T.g_MOST_NUMBER)) .(0 (E4 .(23) T.g_MOST_NUMBER) a7) a3O) c8))))) .(3 (N6 rfl D0 XX.ask XX.inN .(0 b8 a7))) i7) .(3 (PS.nox .(7 (pv 1))))))),?_⟩
  refine ⟨_,rfl,x,rfl,asc,by omega,λH1 s1=>⟨_,rfl,?_⟩⟩;cases cb:J1 (i8 x) with
  | false=>exact C6 ⟨(by show 1<=sizeLine;decide),qN (by unfold V7;rw [cb];rfl) _ XX.ask _ s1⟩
  | true =>
  refine y7 ?_;dsimp only [W9,a4t];have ex:x=c5 (B5 (i8 x)):=N8 (by rw [N5];exact a3U cb);have cw:a2t (B5 (i8 x)):=λi e=>by
   unfold B5 at e
   split at e
   ·cases e
   ·rename_i nd
    unfold J1 at cb;rw [decide_eq_false nd,Bool.false_or] at cb;rw [← Option.some.inj e];exact wd cb
  have eP:V7 x=if wi (-1000000000) 1000000000 ([B5 (i8 x)].filterMap id)=true then some (B5 (i8 x)) else none:=by unfold V7;rw [cb,Bool.true_and]
  generalize B5 (i8 x)=c at ex cw eP;subst ex;refine ⟨_,rfl,c,rfl,cw,?_⟩;dsimp only [q0,List.set];refine ⟨_,rfl,(by show 1<=sizeLine;decide),λp2 hp2=>?_⟩;have s2:=c4 (o:=.tup [j9 c]) hp2;refine ⟨p2,[c],rfl,.inl b7,(by show 1<=100000;decide),λt3 H3 s3 ht3=>?_⟩;refine ⟨_,rfl,t3,[c].filterMap id,-1000000000,1000000000,rfl,ht3,Nat.le_trans (List.length_filterMap_le _ _) (by show 1<=1000;decide),λH4 s4=>?_⟩;have S4:=((s1.trans s2).trans s3).trans s4;refine ⟨_,rfl,?_⟩;cases ea:wi (-1000000000) 1000000000 ([c].filterMap id) with
  | false =>
   rw [ea] at eP;exact C6 ⟨(by show 1<=sizeLine;decide),qN eP _ XX.ask _ S4⟩
  | true =>
   rw [ea] at eP;exact y7 ⟨_,rfl,q _ eP _ S4⟩
noncomputable def b9t (H:Hp)(l:Addr)(ws:List Str):Prop:=H l=some (.lst (ws.map V.str))/\ws.length <= 100000/\∀ x∈ws,b9g x
noncomputable def b3A (mg:Str->Option Value):Sp:=λvs H Q E=>∃ (l:Addr) (ws:List Str),vs=[.ref l]/\b9t H l ws/\(∀ ks,a8U ws = .win ks->∀ (t:Addr) (H':Hp),n6 H H'->H' t=some (.tup (ks.map V.int))->Q (.ref t) H')/\(a8U ws = .no -> W4 mg "NoAsk" H E)
theorem a4G (T:Txt K mg C):a9N P w K mg base 3 "window_asked" ["words"] (b3A mg):=by
 obtain ⟨aN,aF,aM,aP,aW,XX⟩:=T.x_exc;refine T.d_window_asked.okXD a6s .(29) .(30)
 ·obtain ⟨l,ws,rfl,_⟩:=h
  rfl
 ·obtain ⟨l,ws,rfl,⟨hl,few,hw⟩,q,qN⟩:=h;refine ⟨_,.(2 .(8 1 a6s.nd (E6 (A3 T) (hr.mono .(24)) p0 .(0 (pv 0) .(0 b6 a7))) (by first | exact .inl rfl | exact .inr rfl)) .(2 .(10 (PT.nox .(17 .(13 .(4 (T4 T) .(0 (pv 1) .(0 b6 .(0 (E4 .(23) T.g_MOST_SIDE) a7))))))) .(3 (N6 rfl D0 XX.ask XX.inN .(0 b8 a7))) i7) .(3 (PS.nox .(7 (pv 1)))))),?_⟩
  refine ⟨_,rfl,l,ws,4,rfl,hl,few,hw,λks hk t H1 s1 ht=>?_,λhk=>qN (by unfold a8U;rw [hk])⟩;have eP:a8U ws=if wi 0 6 ks=true then .win ks else .no:=by unfold a8U;rw [hk]
  have lk:=(W5 hk).2.1;dsimp only [q0,List.set];refine ⟨_,rfl,t,ks,0,6,rfl,ht,by omega,λH2 s2=>⟨_,rfl,?_⟩⟩;cases ea:wi 0 6 ks with
  | false =>
   rw [ea] at eP;exact C6 ⟨(by show 1<=sizeLine;decide),qN eP _ XX.ask _ (s1.trans s2)⟩
  | true =>
   rw [ea] at eP;exact y7 ⟨_,rfl,q ks eP t _ (s1.trans s2) (s2 _ _ ht)⟩
noncomputable def b2F (mg:Str->Option Value):Sp:=λvs H _ E=>∃ (l:Addr) (ws:List Str),vs=[.ref l]/\b9t H l ws/\(∀ ks,L9 ws 1=some ks->wi 0 40 ks=false)/\W4 mg "NoAsk" H E
theorem a8J (T:Txt K mg C):a9N P w K mg base 3 "times_asked" ["words"] (b2F mg):=by
 obtain ⟨aN,aF,aM,aP,aW,XX⟩:=T.x_exc;refine T.d_times_asked.okXD a2u .(29) .(30)
 ·obtain ⟨l,ws,rfl,_⟩:=h
  rfl
 ·obtain ⟨l,ws,rfl,⟨hl,few,hw⟩,hn,qN⟩:=h;refine ⟨_,.(2 .(8 1 a2u.nd (E6 (A3 T) (hr.mono .(24)) p0 .(0 (pv 0) .(0 b6 a7))) (by first | exact .inl rfl | exact .inr rfl)) .(2 .(10 (PT.nox .(17 .(13 .(4 (T4 T) .(0 (pv 1) .(0 b6 .(0 (E4 .(23) T.g_MOST_TIMES) a7))))))) .(3 (N6 rfl D0 XX.ask XX.inN .(0 b8 a7))) i7) .(3 (PS.nox .(7 .(9 (d8 (K:=K) rfl) (pv 1) b6)))))),?_⟩
  refine ⟨_,rfl,l,ws,1,rfl,hl,few,hw,λks hk t H1 s1 ht=>?_,λ_=>qN⟩;have lk:=(W5 hk).2.1;dsimp only [q0,List.set];refine ⟨_,rfl,t,ks,0,40,rfl,ht,by omega,λH2 s2=>⟨_,rfl,?_⟩⟩;rw [hn ks hk];exact C6 ⟨(by show 1<=sizeLine;decide),qN _ XX.ask _ (s1.trans s2)⟩
noncomputable def b3F (mg:Str->Option Value):Sp:=λvs H Q E=>∃ (l:Addr) (ws:List Str),vs=[.ref l]/\b9t H l ws/\(∀ a b,shP ws=some (a,b)->∀ (t:Addr) (H':Hp),n6 H H'->H' t=some (.tup [.int a,.int b])->Q (.ref t) H')/\(shP ws=none->W4 mg "NoAsk" H E)
theorem a9J (T:Txt K mg C):a9N P w K mg base 3 "share_asked" ["words"] (b3F mg):=by
 obtain ⟨aN,aF,aM,aP,aW,XX⟩:=T.x_exc;refine T.d_share_asked.okXD a3u .(29) .(30)
 ·obtain ⟨l,ws,rfl,_⟩:=h
  rfl
 ·obtain ⟨l,ws,rfl,⟨hl,few,hw⟩,q,qN⟩:=h;refine ⟨_,.(2 .(8 1 a3u.nd (E6 (A3 T) (hr.mono .(24)) p0 .(0 (pv 0) .(0 b6 a7))) (by first | exact .inl rfl | exact .inr rfl)) .(2 .(10 (PT.nox (a0R .(17 (a9D a2z a2z b6 .(9 (d8 (K:=K) rfl) (pv 1) b6) (E4 .(23) T.g_MOST_SHARE))) (a4B .(17 (a9D a2z a2z b6 .(9 (d8 (K:=K) rfl) (pv 1) b6) .(9 (d8 (K:=K) rfl) (pv 1) b6))))).pt) .(3 (N6 rfl D0 XX.ask XX.inN .(0 b8 a7))) i7) .(3 (PS.nox .(7 (pv 1)))))),?_⟩
  refine ⟨_,rfl,l,ws,2,rfl,hl,few,hw,λks hk t H1 s1 ht=>?_,λhk=>qN (by unfold shP;rw [hk])⟩;obtain ⟨a,b,rfl⟩:∃ a b,ks=[a,b]:=by
   have lk:=(W5 hk).2.1
   match ks,lk with
   | [a,b],_=>exact ⟨a,b,rfl⟩
  have eP:shP ws=if (decide (1<=b) && decide (b<=1000) && (decide (0<=a) && decide (a<=b)))=true then some (a,b) else none:=by unfold shP;rw [hk]
  have no:(decide (1<=b) && decide (b<=1000) && (decide (0<=a) && decide (a<=b)))=false->E (.ref aN) none H1:=λz=>qN (by rw [eP,z];rfl) _ XX.ask _ s1;dsimp only [q0,List.set];refine ⟨_,rfl,Or.inr (Or.inl ⟨_,_,_,_,rfl,rfl,SqT.of ht,rfl,_,_,rfl,rfl,_,rfl,?_⟩)⟩;cases b1:decide (1<=b) with
  | false=>exact y7 ⟨_,rfl,C6 (C6 ⟨(by show 1<=sizeLine;decide),no (by rw [b1];rfl)⟩)⟩
  | true =>
  refine C6 ⟨_,_,rfl,rfl,_,rfl,?_⟩;cases b2:decide (b<=1000) with
  | false=>exact C6 (C6 ⟨(by show 1<=sizeLine;decide),no (by rw [b1,b2];rfl)⟩)
  | true =>
  refine y7 ?_;refine ⟨_,rfl,Or.inr (Or.inl ⟨_,_,_,_,rfl,rfl,SqT.of ht,rfl,_,_,rfl,rfl,_,rfl,?_⟩)⟩;cases b3:decide (0<=a) with
  | false=>exact y7 ⟨_,rfl,C6 ⟨(by show 1<=sizeLine;decide),no (by rw [b1,b2,b3];rfl)⟩⟩
  | true =>
  refine C6 ⟨_,rfl,Or.inr (Or.inl ⟨_,_,_,_,rfl,rfl,SqT.of ht,rfl,_,_,rfl,rfl,_,rfl,?_⟩)⟩;cases b4:decide (a<=b) with
  | false=>exact C6 ⟨(by show 1<=sizeLine;decide),no (by rw [b1,b2,b3,b4];rfl)⟩
  | true=>exact y7 ⟨_,rfl,q a b (by rw [eP,b1,b2,b3,b4];rfl) t _ s1 ht⟩
theorem b5H (x:Str):inV (.str x) [V.str "there",V.str "near",V.str "turned",V.str "round"]=(ruP [x]).isSome:=by
 unfold ruP;dsimp only
 by_cases h1:x = "there"
 ·rw [if_pos h1,h1];decide +kernel
 by_cases h2:x = "near"
 ·rw [if_neg h1,if_pos h2,h2];decide +kernel
 by_cases h3:x = "turned"
 ·rw [if_neg h1,if_neg h2,if_pos h3,h3];decide +kernel
 by_cases h4:x = "round"
 ·rw [if_neg h1,if_neg h2,if_neg h3,if_pos h4,h4];decide +kernel
 rw [if_neg h1,if_neg h2,if_neg h3,if_neg h4];have n:∀ y:Str,x≠y->eqV (.str y) (.str x)=false:=λy h=>by show (y == x)=false;exact beq_false_of_ne (Ne.symm h)
 unfold inV;simp only [List.any_cons,List.any_nil,n _ h1,n _ h2,n _ h3,n _ h4]
 rfl
theorem b4q {x:Str}{ru:C3}(h:ruP [x]=some ru)(H:Hp):IsD H (.str x) (X8 ru):=by
 unfold ruP at h;dsimp only at h
 split at h
 ·cases h;rename_i e;rw [e];exact .str _
 split at h
 ·cases h;rename_i e;rw [e];exact .str _
 split at h
 ·cases h;rename_i e;rw [e];exact .str _
 split at h
 ·cases h;rename_i e;rw [e];exact .str _
 ·cases h
noncomputable def b4Q (mg:Str->Option Value):Sp:=λvs H Q E=>∃ (l:Addr) (ws:List Str),vs=[.ref l]/\b9t H l ws/\(∀ ru,ruP ws=some ru->∀ (v:V) (H':Hp),n6 H H'->IsD H' v (X8 ru)->Q v H')/\(ruP ws=none->W4 mg "NoAsk" H E)
theorem a3N (T:Txt K mg C):a9N P w K mg base 4 "rule_asked" ["words"] (b4Q mg):=by
 obtain ⟨aN,aF,aM,aP,aW,XX⟩:=T.x_exc;refine T.d_rule_asked.okXD a3V .(29) .(30)
 ·obtain ⟨l,ws,rfl,_⟩:=h
  rfl
 ·obtain ⟨l,ws,rfl,⟨hl,few,hw⟩,q,qN⟩:=h;refine ⟨_,.(2 (PS.nox .(10 (Z9 .(12 (o7 hr.units) .(11 (m6 (K:=K) rfl) T.n_len x9 .(0 (pv 0) a7)) b6 (j8 _)) (S0 (@i9 _ _ _ _ _ _ _ _ (a7R (K:=K) rfl) .(9 (d8 (K:=K) rfl) (pv 0) b6) (b8j (K:=K) rfl .(23) T.g_PLAIN_RULES) .(23)))).pt .(3 .(7 .(9 (d8 (K:=K) rfl) (pv 0) b6))) i7)) .(2 .(10 (PT.nox (Z9 .(12 (o7 hr.units) .(11 (m6 (K:=K) rfl) T.n_len x9 .(0 (pv 0) a7)) b6 (j8 _)) (S0 .(12 (o7 hr.units) .(9 (d8 (K:=K) rfl) (pv 0) b6) b8 (j8 _)))).pt) .(3 .(7 .(14 .(0 b8 .(1 (E6 (a1t T) (hr.mono .(24)) p0 .(1 .(9 (d8 (K:=K) rfl) (pv 0) b6) a7 k9)) a7 c8))))) i7) .(3 (N6 rfl D0 XX.ask XX.inN .(0 b8 a7))))),?_⟩
  have nl:∀ {m:Nat} {n:Int},¬ (m:Int)=n->¬ decide (V.int (m:Int)=V.int n)=true:=λh z=>h (V.int.inj (of_decide_eq_true z));refine W8 (fun σ' H'=>σ'=[some (.ref l)]/\H'=H/\∀ x,ws=[x]->ruP [x]=none) ?_ (λrest=>?_)
  ·rintro _ H ⟨rfl,rfl,hx⟩;refine ⟨_,rfl,_,_,rfl,Or.inl ⟨_,SqL.of hl,rfl⟩,Or.inl ⟨rfl,_,rfl,?_⟩⟩;rw [List.length_map]
   by_cases l2:ws.length=2
   ·obtain ⟨x,y,rfl⟩:∃ x y,ws=[x,y]:=by
     match ws,l2 with
     | [x,y],_=>exact ⟨x,y,rfl⟩
    refine A7 (λ_=>?_) (λz=>absurd (decide_eq_true rfl) z);refine ⟨_,rfl,Or.inl ⟨_,_,_,_,rfl,rfl,SqL.of hl,rfl,Or.inl ⟨rfl,_,rfl,A7 (λz=>?_) (λz=>?_)⟩⟩⟩
    ·have ex:x = "told":=V.str.inj (of_decide_eq_true z);have eP:ruP [x,y]=(V7 y).map .told:=by unfold ruP;dsimp only;rw [if_pos ex]
     refine ⟨_,rfl,Or.inl ⟨_,_,_,_,rfl,rfl,SqL.of hl,rfl,?_⟩⟩;refine ⟨y,rfl,hw y .(26),λc hc H1 s1=>?_,λhc=>qN (by rw [eP,hc];rfl)⟩;refine ⟨(by show 2<=sizeLine;decide),λt ht=>?_⟩;exact q (.told c) (by rw [eP,hc];rfl) (.ref t) _ (s1.trans (c4 ht)) (.tup b7 (.cons (.str _) (T0 [c])))
    ·have ex:¬ x = "told":=λe=>z (eqS e);refine ⟨(by show 1<=sizeLine;decide),qN ?_ _ XX.ask _ (n6.refl _)⟩;unfold ruP;dsimp only;rw [if_neg ex]
   ·refine A7 (λz=>absurd z (nl .(25))) (λ_=>?_);refine y7 ⟨(by show 1<=sizeLine;decide),qN ?_ _ XX.ask _ (n6.refl _)⟩
    match ws,l2,hx with
    | [],_,_=>rfl
    | [x],_,hx=>exact hx x rfl
    | _ :: _ :: _ :: _,_,_=>rfl
  ·refine ⟨_,rfl,_,_,rfl,Or.inl ⟨_,SqL.of hl,rfl⟩,Or.inl ⟨rfl,_,rfl,?_⟩⟩;rw [List.length_map]
   by_cases l1:ws.length=1
   ·obtain ⟨x,rfl⟩:∃ x,ws=[x]:=by
     match ws,l1 with
     | [x],_=>exact ⟨x,rfl⟩
    refine A7 (λ_=>?_) (λz=>absurd (decide_eq_true rfl) z);refine ⟨_,rfl,Or.inl ⟨_,_,_,_,rfl,rfl,SqL.of hl,rfl,λp hp=>⟨p,_,rfl,Or.inr hp.sq,rfl,rfl,_,rfl,?_⟩⟩⟩
    show if inV (.str x) [V.str "there",V.str "near",V.str "turned",V.str "round"]=true then _ else _
    rw [b5H];cases e:ruP [x] with
    | none=>exact y7 (rest _ _ ⟨rfl,rfl,λy hy=>by cases hy;exact e⟩)
    | some ru=>exact C6 ⟨_,rfl,Or.inl ⟨_,_,_,_,rfl,rfl,SqL.of hl,rfl,q ru e _ _ (n6.refl _) (b4q e H)⟩⟩
   ·refine A7 (λz=>absurd z (nl .(25))) (λ_=>?_);exact y7 (rest _ _ ⟨rfl,rfl,λx e=>by rw [e] at l1;exact absurd rfl l1⟩)
noncomputable def Y8:C3->List Str
 | .there=>["there"]
 | .near=>["near"]
 | .turned=>["turned"]
 | .round=>["round"]
 | .told c=>["told",c5 c]
noncomputable def dkF (fv wv rv sv:V):List (Str × V):=[("field",fv),("window",wv),("rule",rv),("share",sv)]
theorem a8D (f:Str)(v:V):∀ (fs:List (Str × V)) (ns:List Str),fs.map (·.1)=ns->(ns.all λg=>!decide (g=f))=true->T7 f v fs=fs ++ [(f,v)]
 | [],_,_,_=>rfl
 | (g,x) :: r,ns,e,h=>by
  subst e;rw [List.map_cons,List.all_cons,Bool.and_eq_true] at h;have ng:¬ g=f:=λe=>by
   have:=h.1;rw [decide_eq_true (show g=f from e)] at this;exact absurd this .(24)
  show (if g=f then (g,v) :: r else (g,x) :: T7 f v r)=_
  rw [if_neg ng,a8D f v r _ rfl h.2]
  rfl
section
variable (fv wv rv sv gv:V)
theorem a4w:(dkF fv wv rv sv).lookup ("field" : Str)=some fv:=rfl
theorem b2a:(dkF fv wv rv sv).lookup ("window" : Str)=some wv:=rfl
theorem b6x:(dkF fv wv rv sv).lookup ("rule" : Str)=some rv:=rfl
theorem b7l:(dkF fv wv rv sv).lookup ("share" : Str)=some sv:=rfl
theorem a8r:T7 "field" gv (dkF fv wv rv sv)=dkF gv wv rv sv:=rfl
theorem a2W:T7 "window" gv (dkF fv wv rv sv)=dkF fv gv rv sv:=rfl
theorem b8l:T7 "rule" gv (dkF fv wv rv sv)=dkF fv wv gv sv:=rfl
theorem b0f:T7 "share" gv (dkF fv wv rv sv)=dkF fv wv rv gv:=rfl
theorem a6J:(dkF fv wv rv sv).lookup ("lines_told" : Str)=none:=rfl
theorem a6T:(dkF fv wv rv sv).lookup ("lines_at" : Str)=none:=rfl
theorem a1N:(dkF fv wv rv sv).lookup ("change_by" : Str)=none:=rfl
theorem a4F:(dkF fv wv rv sv).lookup ("change_cell" : Str)=none:=rfl
theorem U4:(dkF fv wv rv sv).lookup ("filtered_field" : Str)=none:=rfl
theorem W7:(dkF fv wv rv sv).lookup ("ask" : Str)=none:=rfl
end
theorem b2g (H:Hp)(x:Addr)(o:HO):d3 x H (upd H x o):=λb u e n=>by rw [j4 n];exact e
structure Dsk where
 F:List (List (Option Int))
 ru:C3
 u:Nat
 d:Nat
 l:Nat
 r:Nat
 a:Int
 b:Int
structure J0 (D:Dsk):Prop where
 rect:U6 D.F
 rc:∀ c,D.ru = .told c->In9 c
 fh:D.F.length <= 12
 fw:(D.F.headD []).length <= 12
 c9:∀ r∈D.F,∀ c∈r,In9 c
 sh:a4p D.a D.b
 bb:D.u <= 6/\D.d <= 6/\D.l <= 6/\D.r <= 6
structure V5 (C:Addr)(H:Hp)(x dy:Addr)(fv wv rv sv:V)(D:Dsk):Prop where
 at_:H x=some (.ins C dy (dkF fv wv rv sv))
 fd_:IsD H fv (B2 D.F)
 wd_:IsD H wv (a2P D.u D.d D.l D.r)
 rl_:IsD H rv (X8 D.ru)
 sd_:IsD H sv (a9m (D.a,D.b))
 ok:J0 D
theorem V5.keep {C x dy:Addr}{H H':Hp}{fv wv rv sv:V}{D:Dsk}(k:V5 C H x dy fv wv rv sv D)(t:N7 H H')(e:H' x=some (.ins C dy (dkF fv wv rv sv))):V5 C H' x dy fv wv rv sv D :=
 ⟨e,k.fd_.keep t,k.wd_.keep t,k.rl_.keep t,k.sd_.keep t,k.ok⟩
theorem V5.same {C x dy:Addr}{H H':Hp}{fv wv rv sv:V}{D:Dsk}(k:V5 C H x dy fv wv rv sv D)(s:n6 H H'):V5 C H' x dy fv wv rv sv D:=k.keep s.tups (s _ _ k.at_)
noncomputable def a8B (D:Dsk):List (List (Option Int)):=fil D.F D.ru D.u D.d D.l D.r D.a D.b
noncomputable def c3b (C:Addr):Sp:=λvs H Q _=>∃ (x dy:Addr) (fv wv rv sv:V) (D:Dsk),vs=[.ref x]/\V5 C H x dy fv wv rv sv D/\∀ (v:V) (H':Hp),n6 H H'->IsD H' v (B2 (a8B D))->Q v H'
theorem Q4 (T:Txt K mg C):DfM P w K mg base 5 C "filtered_field" ["self"] (c3b C):=by
 refine T.m_Desk_filtered_field.ok a9p .(29) .(30)
 ·obtain ⟨x,dy,fv,wv,rv,sv,D,rfl,_⟩:=h
  rfl
 ·obtain ⟨x,dy,fv,wv,rv,sv,D,rfl,k,q⟩:=h;refine ⟨_,.(3 .(7 .(4 (b3m T) .(0 (Q2 (K:=K) rfl (pv 0) .(23)) .(0 (Q2 (K:=K) rfl (pv 0) .(23)) .(0 (Q2 (K:=K) rfl (pv 0) .(23)) .(0 (Q2 (K:=K) rfl (pv 0) .(23)) a7))))))),?_⟩;have bb:=k.ok.bb;refine ⟨_,rfl,x,C,dy,_,_,rfl,k.at_,T.cl_Desk,T.a_field,a4w ..,?_⟩;refine ⟨_,rfl,x,C,dy,_,_,rfl,k.at_,T.cl_Desk,T.a_window,b2a ..,?_⟩;refine ⟨_,rfl,x,C,dy,_,_,rfl,k.at_,T.cl_Desk,T.a_rule,b6x ..,?_⟩;refine ⟨_,rfl,x,C,dy,_,_,rfl,k.at_,T.cl_Desk,T.a_share,b7l ..,?_⟩;exact ⟨fv,wv,rv,sv,D.F,D.ru,D.u,D.d,D.l,D.r,D.a,D.b,rfl,k.ok.rect,k.fd_,k.wd_,k.rl_,Shr.of k.sd_,k.ok.sh,⟨by omega,by omega,by omega,by omega⟩,λv H' s h=>q v H' s h⟩
theorem J0.rectW {D:Dsk}(k:J0 D):a6U D.F:=by
 have R:=k.rect;have h1:=R.h1;have w1:=R.w1;have fh:=k.fh;have fw:=k.fw;exact ⟨λe=>by rw [e] at h1;simp at h1,by omega,R.row,w1,by omega,λr hr c hc=>(k.c9 r hr c hc).wide⟩
theorem a9E:In9 none:=λi e=>by cases e
theorem b3t {F:List (List (Option Int))}(h:∀ r∈F,∀ c∈r,In9 c)(i j:Int):In9 (J8 F i j):=by
 unfold J8;cases e1:F[i.toNat]? with
 | none=>exact a9E
 | some r =>
  show In9 (r[j.toNat]?).join
  cases e2:r[j.toNat]? with
  | none=>exact a9E
  | some c=>exact h r (List.mem_of_getElem? e1) c (List.mem_of_getElem? e2)
theorem b9o {D:Dsk}(k:J0 D){i j:Int}:∀ c∈A1 D.F D.ru i j,In9 c:=λc hc=>by
 have g:∀ a b:Int,In9 (J8 D.F a b):=λa b=>b3t k.c9 a b;have rc:=k.rc;unfold A1 at hc
 split at hc
 ·rw [List.mem_singleton.mp hc];exact g _ _
 ·cases e:D.ru with
  | there=>rw [e] at hc;cases hc
  | told x=>rw [e] at hc;rw [List.mem_singleton.mp hc];exact rc x e
  | near=>rw [e] at hc;rw [List.mem_singleton.mp hc];exact g _ _
  | turned=>rw [e] at hc;rw [List.mem_singleton.mp hc];exact g _ _
  | round=>rw [e] at hc;rw [List.mem_singleton.mp hc];exact g _ _
theorem b3o {D:Dsk}(k:J0 D){i j:Int}:∀ c∈wc D.F D.ru D.u D.d D.l D.r i j,In9 c:=λc hc=>by
 unfold wc E3 at hc;obtain ⟨a,_,h2⟩:=List.mem_flatMap.mp hc;obtain ⟨b,_,h3⟩:=List.mem_flatMap.mp h2;exact b9o k c h3
theorem a5J {D:Dsk}(k:J0 D)(i j:Int):In9 (L5 D.F D.ru D.u D.d D.l D.r D.a D.b i j):=λx e=>by
 unfold L5 at e;have h:=a1L e;unfold a8R at h;obtain ⟨c,hc,e2⟩:=List.mem_filterMap.mp h;exact b3o k c hc x e2
theorem J0.fil {D:Dsk}(k:J0 D):J0 { D with F:=a8B D }:=by
 have R:=k.rect;have e1:(a8B D).length=D.F.length:=T1 ..;have e2:E8 (a8B D)=E8 D.F:=a2F R;refine ⟨R.fil _ _ _ _ _ _ _,k.rc,by show (a8B D).length <= 12;rw [e1];exact k.fh,by show E8 (a8B D)<=12;rw [e2];exact k.fw,λr hr c hc=>?_,k.sh,k.bb⟩;have hr:r∈a8B D:=hr;unfold a8B L2.fil at hr;obtain ⟨i,_,rfl⟩:=List.mem_map.mp hr;obtain ⟨j,_,rfl⟩:=List.mem_map.mp hc;exact a5J k _ _
theorem J0.put {D:Dsk}(k:J0 D){i j:Nat}{c:Option Int}(hi:i < D.F.length)(hj:j < (D.F.headD []).length)(hc:In9 c):J0 { D with F:=a1o D.F i j c }:=by
 obtain ⟨RP,LP,WP⟩:=b7B k.rect hi hj c;refine ⟨RP,k.rc,by show (a1o D.F i j c).length <= 12;rw [LP];exact k.fh,by show ((a1o D.F i j c).headD []).length <= 12;rw [WP];exact k.fw,λr hr x hx=>?_,k.sh,k.bb⟩;have hr:r∈a1o D.F i j c:=hr;unfold a1o at hr;rw [List.getElem?_eq_getElem hi] at hr;simp only [List.mem_append,List.mem_singleton,Option.getD_some] at hr
 rcases hr with (hr | rfl) | hr
 ·exact k.c9 r (List.mem_of_mem_take hr) x hx
 ·simp only [List.mem_append,List.mem_singleton] at hx
  rcases hx with (hx | rfl) | hx
  ·exact k.c9 _ (List.getElem_mem hi) x (List.mem_of_mem_take hx)
  ·exact hc
  ·exact k.c9 _ (List.getElem_mem hi) x (List.mem_of_mem_drop hx)
 ·exact k.c9 r (List.mem_of_mem_drop hr) x hx
inductive b9n where
 | window (u d l r:Nat)
 | edge (ru:C3)
 | share (a b:Int)
 | cell (i j:Nat) (c:Option Int)
 | take
noncomputable def y8:b9n->Str × List Str
 | .window u d l r=>("window",[c5 (some (u:Int)),c5 (some (d:Int)),c5 (some (l:Int)),c5 (some (r:Int))])
 | .edge ru=>("edge",Y8 ru)
 | .share a b=>("share",[c5 (some a),c5 (some b)])
 | .cell i j c=>("cell",[c5 (some (i:Int)),c5 (some (j:Int)),c5 c])
 | .take=>("take",[])
noncomputable def b6f (D:Dsk):b9n->Prop
 | .window u d l r=>u<=6/\d<=6/\l<=6/\r<=6
 | .edge ru=>∀ c,ru = .told c->In9 c
 | .share a b=>a4p a b/\b<=1000
 | .cell i j c=>i < D.F.length /\ j < (D.F.headD []).length /\ In9 c
 | .take=>True
noncomputable def b0t (D:Dsk):b9n->Dsk
 | .window u d l r=>{ D with u:=u,d:=d,l:=l,r:=r }
 | .edge ru=>{ D with ru:=ru }
 | .share a b=>{ D with a:=a,b:=b }
 | .cell i j c=>{ D with F:=a1o D.F i j c }
 | .take=>{ D with F:=a8B D }
theorem a5G {D:Dsk}(k:J0 D){δ:b9n}(h:b6f D δ):J0 (b0t D δ):=by
 cases δ with
 | window u d l r=>exact ⟨k.rect,k.rc,k.fh,k.fw,k.c9,k.sh,h⟩
 | edge ru=>exact ⟨k.rect,h,k.fh,k.fw,k.c9,k.sh,k.bb⟩
 | share a b=>exact ⟨k.rect,k.rc,k.fh,k.fw,k.c9,h.1,k.bb⟩
 | cell i j c=>exact k.put h.1 h.2.1 h.2.2
 | take=>exact k.fil
noncomputable def a8t (mg:Str->Option Value)(H:Hp)(E:XK)(D:Dsk)(B:Dsk->Prop)(L:List Str->Prop):Cmd->Prop
 | .no=>W4 mg "NoAsk" H E
 | .bad k=>∀ A,mg "NoField" = some (.ref A)->b5n A k H E
 | .fld F=>B { D with F:=F }
 | .win ks=>B { D with u:=(ks.getD 0 0).toNat,d:=(ks.getD 1 0).toNat,l:=(ks.getD 2 0).toNat,r:=(ks.getD 3 0).toNat }
 | .edge ru=>B { D with ru:=ru }
 | .share a b=>B { D with a:=a,b:=b }
 | .cell i j c=>if inF D.F i j=true then B { D with F:=a1o D.F i.toNat j.toNat c } else W4 mg "NoPlace" H E
 | .take=>B { D with F:=a8B D }
 | .spot i j=>if inF D.F i j=true then L [o5 (wc D.F D.ru D.u D.d D.l D.r i j),c5 (L5 D.F D.ru D.u D.d D.l D.r D.a D.b i j)] else W4 mg "NoPlace" H E
 | .lines=>L (D.F.map o5)
 | .filter=>L ((a8B D).map o5)
 | .odd=>False
theorem a8t.mono {H H1:Hp}{E:XK}{D:Dsk}{B B':Dsk->Prop}{L L':List Str->Prop}{c:Cmd}(g:a8t mg H E D B L c)(s:n6 H H1)(b:∀ D',B D'->B' D')(l:∀ xs,L xs->L' xs):a8t mg H1 E D B' L' c:=by
 cases c with
 | no=>exact W4.of g s
 | bad k=>exact λA gA dx H' s' e=>g A gA dx H' (s.trans s') e
 | cell i j c =>
  exact A7 (λh=>b _ ((if_pos h).mp g)) λh=>W4.of ((if_neg h).mp g) s
 | spot i j =>
  exact A7 (λh=>l _ ((if_pos h).mp g)) λh=>W4.of ((if_neg h).mp g) s
 | lines=>exact l _ g
 | filter=>exact l _ g
 | odd=>exact g
 | _=>exact b _ g
theorem b0L (ws:List Str):a1p (ws.map V.str) none (some (-1))=ws.dropLast.map V.str:=by
 rw [List.map_dropLast];generalize ws.map V.str=xs;unfold a1p;have e:HT.sIx xs.length xs.length (some (-1))=xs.length - 1:=by
  unfold HT.sIx
  simp
  omega
 rw [e]
 show (xs.drop 0).take (xs.length - 1 - 0)=_
 rw [List.drop_zero,Nat.sub_zero,List.dropLast_eq_take]
noncomputable def b5h (C x dy:Addr)(H:Hp)(Q:VK)(D':Dsk):Prop:=∀ (fv wv rv sv:V) (H':Hp),d3 x H H'->V5 C H' x dy fv wv rv sv D'->Q .non H'
noncomputable def b2B (C:Addr)(mg:Str->Option Value):Sp:=λvs H Q E=>∃ (x dy lw:Addr) (fv wv rv sv:V) (D:Dsk) (ws:List Str),vs=[.ref x,.ref lw]/\V5 C H x dy fv wv rv sv D/\b9t H lw ws/\a8t mg H E D (b5h C x dy H Q) (λ_=>True) (a8G ws)
theorem a7t (T:Txt K mg C):a7z P w K mg base 4 C "change_cell" ["self","words"] (b2B C mg):=by
 refine T.m_Desk_change_cell.okXD N2 .(29) .(30)
 ·obtain ⟨x,dy,lw,fv,wv,rv,sv,D,ws,rfl,_⟩:=h
  rfl
 ·obtain ⟨x,dy,lw,fv,wv,rv,sv,D,ws,rfl,k,⟨hlw,few,hw⟩,q⟩:=h;refine ⟨_,.(2 .(8 2 N2.nd (E6 (A3 T) (hr.mono .(24)) p0 .(1 (F6 (a8M (K:=K) rfl) (pv 1) L4 (K0 .(21 a9H b6))) .(0 b6 a7) k9)) (by first | exact .inl rfl | exact .inr rfl)) .(2 .(8 3 N2.nd (E6 (a1t T) (hr.mono .(24)) p0 .(1 .(9 (d8 (K:=K) rfl) (pv 1) .(21 a9H b6)) a7 k9)) (by first | exact .inl rfl | exact .inr rfl)) .(3 (a8m (pv 0) (E6 (a4N T) (hr.mono .(24)) p0 .(0 (Q2 (K:=K) rfl (pv 0) .(23)) .(1 .(9 (d8 (K:=K) rfl) (pv 2) b6) .(1 .(9 (d8 (K:=K) rfl) (pv 2) b6) .(0 (pv 3) a7) k9) k9))) rfl)))),?_⟩
  refine ⟨_,rfl,_,rfl,_,rfl,Or.inl ⟨_,_,rfl,SqL.of hlw,λl1 hl1=>?_⟩⟩;rw [b0L];have s1:=c4 (o:=.lst (ws.dropLast.map V.str)) hl1;have ldl:ws.dropLast.length <= 100000:=by rw [List.length_dropLast];omega
  refine ⟨l1,ws.dropLast,2,rfl,b7,ldl,λy hy=>hw y (List.dropLast_subset _ hy),λks hk t2 H2 s2 ht2=>?_,λhk=>?_⟩
  ·obtain ⟨e1,e2,_⟩:=W5 hk;rw [List.length_dropLast] at e1;obtain ⟨y1,y2,y3,rfl⟩:∃ y1 y2 y3,ws=[y1,y2,y3]:=by
    match ws,e1 with
    | [y1,y2,y3],_=>exact ⟨y1,y2,y3,rfl⟩
   obtain ⟨i,j,rfl⟩:∃ i j,ks=[i,j]:=by
    match ks,e2 with
    | [i,j],_=>exact ⟨i,j,rfl⟩
   have eC:a8G [y1,y2,y3]=match V7 y3 with | some c=>.cell i j c | none=>.no:=by unfold a8G;rw [hk];rfl
   rw [eC] at q;dsimp only [q0,List.set];have S2:=s1.trans s2;refine ⟨_,rfl,_,rfl,Or.inl ⟨_,_,_,_,rfl,rfl,SqL.of (S2 _ _ hlw),rfl,?_⟩⟩;refine ⟨y3,rfl,hw y3 .(26),λc hc H3 s3=>?_,λhc=>?_⟩
   ·rw [hc] at q;have q:if inF D.F i j=true then b5h C x dy H Q { D with F:=a1o D.F i.toNat j.toNat c } else W4 mg "NoPlace" H E:=q
    dsimp only [q0,List.set];have S3:=S2.trans s3;refine ⟨_,rfl,x,C,dy,_,_,rfl,S3 _ _ k.at_,T.cl_Desk,T.a_field,a4w ..,?_⟩;refine ⟨_,rfl,Or.inr (Or.inl ⟨_,_,_,_,rfl,rfl,SqT.of (s3 _ _ ht2),rfl,?_⟩)⟩;refine ⟨_,rfl,Or.inr (Or.inl ⟨_,_,_,_,rfl,rfl,SqT.of (s3 _ _ ht2),rfl,_,rfl,?_⟩)⟩;refine ⟨fv,D.F,i,j,c,rfl,k.ok.rect,k.fd_.keep S3.tups,?_⟩;refine A7 (λhin=>?_) (λhin=>?_)
    ·rw [if_pos hin] at q;obtain ⟨_,_,hi,hj⟩:=a7O hin;intro gv H4 s4 hg;have S4:=S3.trans s4;refine ⟨_,rfl,x,C,dy,_,rfl,S4 _ _ k.at_,T.cl_Desk,T.a_field,(by show 4 < 1000;decide),?_⟩;rw [a8r];have b5:=b2g H4 x (.ins C dy (dkF gv wv rv sv));have t5:N7 H4 (upd H4 x (.ins C dy (dkF gv wv rv sv))):=λb ws e=>b5 _ _ e (U2 e (S4 _ _ k.at_) λz=>by cases z);have u5:=λb ws e=>t5 b ws (S4.tups b ws e);exact q gv wv rv sv _ ((S4.but x).trans b5) ⟨b7,hg.keep t5,k.wd_.keep u5,k.rl_.keep u5,k.sd_.keep u5,k.ok.put hi hj (b8m hc)⟩
    ·rw [if_neg hin] at q;exact W4.of q S3
   ·rw [hc] at q;exact W4.of q S2
  ·have eC:a8G ws = .no:=by unfold a8G;rw [hk]
   rw [eC] at q;exact W4.of q s1
theorem b3E {ws:List Str}{ks:List Int}(h:a8U ws = .win ks):∃ u d l r:Nat,ks=[(u:Int),(d:Int),(l:Int),(r:Int)]/\u<=6/\d<=6/\l<=6/\r<=6:=by
 unfold a8U at h
 split at h
 ·rename_i ks' hk
  split at h
  ·rename_i hw
   cases h;have:=b3b.mp hw;have lk:=(W5 hk).2.1
   match ks,lk with
   | [u,d,l,r],_ =>
    have h1:=this u .(26);have h2:=this d .(26);have h3:=this l .(26);have h4:=this r .(26);refine ⟨u.toNat,d.toNat,l.toNat,r.toNat,?_,by omega,by omega,by omega,by omega⟩;rw [Int.toNat_of_nonneg h1.1,Int.toNat_of_nonneg h2.1,Int.toNat_of_nonneg h3.1,Int.toNat_of_nonneg h4.1]
  ·cases h
 ·cases h
theorem c2c {ws:List Str}{a b:Int}(h:shP ws=some (a,b)):a4p a b/\b<=1000:=by
 unfold shP at h
 split at h
 ·split at h
  ·rename_i z
   cases h;simp only [Bool.and_eq_true,decide_eq_true_eq] at z;exact ⟨⟨z.2.1,z.2.2,z.1.1,by omega⟩,z.1.2⟩
  ·cases h
 ·cases h
theorem c7c {ws:List Str}{ru:C3}(h:ruP ws=some ru):∀ c,ru = .told c->In9 c:=λc e=>by
 subst e
 match ws,h with
 | [],h=>cases h
 | [x],h =>
  unfold ruP at h;dsimp only at h
  split at h
  ·cases h
  split at h
  ·cases h
  split at h
  ·cases h
  split at h <;> cases h
 | [x,y],h =>
  unfold ruP at h;dsimp only at h
  split at h
  ·obtain ⟨c',h1,h2⟩:=Option.map_eq_some_iff.mp h;cases h2;exact b8m h1
  ·cases h
 | _ :: _ :: _ :: _,h=>cases h
noncomputable def b3R (C:Addr)(mg:Str->Option Value):Sp:=λvs H Q E=>∃ (x dy lw:Addr) (fv wv rv sv:V) (D:Dsk) (wo:Str) (ws:List Str),vs=[.ref x,.str wo,.ref lw]/\V5 C H x dy fv wv rv sv D/\b9t H lw ws/\a8t mg H E D (b5h C x dy H Q) (λ_=>True) (P0 wo ws)
theorem a7y (T:Txt K mg C):a7z P w K mg base 6 C "change_by" ["self","word","words"] (b3R C mg):=by
 refine T.m_Desk_change_by.okXD a7D .(29) .(30)
 ·obtain ⟨x,dy,lw,fv,wv,rv,sv,D,wo,ws,rfl,_⟩:=h
  rfl
 ·obtain ⟨x,dy,lw,fv,wv,rv,sv,D,wo,ws,rfl,k,hlw,q⟩:=h;refine ⟨_,.(3 .(10 (PT.nox .(12 (o7 hr.units) (pv 1) b8 (j8 _))) .(3 (a8m (pv 0) (E6 (a4G T) (hr.mono .(24)) p0 .(0 (pv 2) a7)) rfl)) .(3 .(10 (PT.nox .(12 (o7 hr.units) (pv 1) b8 (j8 _))) .(3 (a8m (pv 0) (E6 (a3N T) (hr.mono .(24)) p0 .(0 (pv 2) a7)) rfl)) .(3 .(10 (PT.nox .(12 (o7 hr.units) (pv 1) b8 (j8 _))) .(3 (a8m (pv 0) (E6 (a9J T) (hr.mono .(24)) p0 .(0 (pv 2) a7)) rfl)) .(3 .(10 (PT.nox .(12 (o7 hr.units) (pv 1) b8 (j8 _))) .(3 .(16 (a1E (a7t T) T.cl_Desk (hr.mono .(24)) p0 (pv 0) .(0 (pv 2) a7)))) .(2 .(16 (E6 (A3 T) (hr.mono .(24)) p0 .(0 (pv 2) .(0 b6 a7)))) .(3 (PS.nox (a8m (pv 0) (@b9H _ _ _ _ _ _ _ _ _ _ _ (Q4 T) T.cl_Desk (hr.mono .(24)) (pv 0) .(23)) rfl)))))))))))),?_⟩
  have put:∀ {H1:Hp} {fv' wv' rv' sv':V},n6 H H1->d3 x H (upd H1 x (.ins C dy (dkF fv' wv' rv' sv')))/\N7 H1 (upd H1 x (.ins C dy (dkF fv' wv' rv' sv'))):=λ{H1 fv' wv' rv' sv'} s1=>by
   have b5:=b2g H1 x (.ins C dy (dkF fv' wv' rv' sv'));exact ⟨(s1.but x).trans b5,λb ws e=>b5 _ _ e (U2 e (s1 _ _ k.at_) λz=>by cases z)⟩
  have is:∀ {y:Str},decide (V.str wo=V.str y)=true->wo=y:=λz=>V.str.inj (of_decide_eq_true z);refine ⟨_,rfl,Or.inl ⟨rfl,_,rfl,A7 (λz=>?_) (λz1=>?_)⟩⟩
  ·have eC:P0 wo ws=a8U ws:=by unfold P0;rw [if_pos (is z)]
   rw [eC] at q;refine ⟨_,rfl,lw,ws,rfl,hlw,λks hk t H1 s1 ht=>?_,λhk=>by rw [hk] at q;exact q⟩;rw [hk] at q;obtain ⟨u,d,l,r,rfl,bb⟩:=b3E hk;refine ⟨_,rfl,x,C,dy,_,rfl,s1 _ _ k.at_,T.cl_Desk,T.a_window,(by show 4 < 1000;decide),?_⟩;rw [a2W];obtain ⟨b5,t5⟩:=put (fv':=fv) (wv':=.ref t) (rv':=rv) (sv':=sv) s1;exact q _ _ _ _ _ b5 ⟨b7,(k.fd_.keep s1.tups).keep t5,(b7k ht).keep t5,(k.rl_.keep s1.tups).keep t5,(k.sd_.keep s1.tups).keep t5,k.ok.rect,k.ok.rc,k.ok.fh,k.ok.fw,k.ok.c9,k.ok.sh,bb⟩
  refine ⟨_,rfl,Or.inl ⟨rfl,_,rfl,A7 (λz=>?_) (λz2=>?_)⟩⟩
  ·have eC:P0 wo ws=match ruP ws with | some r=>.edge r | none=>.no:=by unfold P0;rw [if_neg (λe=>z1 (eqS e)),if_pos (is z)] <;> rfl
   rw [eC] at q;refine ⟨_,rfl,lw,ws,rfl,hlw,λru hk v H1 s1 hv=>?_,λhk=>by rw [hk] at q;exact q⟩;rw [hk] at q;refine ⟨_,rfl,x,C,dy,_,rfl,s1 _ _ k.at_,T.cl_Desk,T.a_rule,(by show 4 < 1000;decide),?_⟩;rw [b8l];obtain ⟨b5,t5⟩:=put (fv':=fv) (wv':=wv) (rv':=v) (sv':=sv) s1;exact q _ _ _ _ _ b5 ⟨b7,(k.fd_.keep s1.tups).keep t5,(k.wd_.keep s1.tups).keep t5,hv.keep t5,(k.sd_.keep s1.tups).keep t5,k.ok.rect,c7c hk,k.ok.fh,k.ok.fw,k.ok.c9,k.ok.sh,k.ok.bb⟩
  refine ⟨_,rfl,Or.inl ⟨rfl,_,rfl,A7 (λz=>?_) (λz3=>?_)⟩⟩
  ·have eC:P0 wo ws=match shP ws with | some p=>.share p.1 p.2 | none=>.no:=by unfold P0;rw [if_neg (λe=>z1 (eqS e)),if_neg (λe=>z2 (eqS e)),if_pos (is z)] <;> rfl
   rw [eC] at q;refine ⟨_,rfl,lw,ws,rfl,hlw,λa b hk t H1 s1 ht=>?_,λhk=>by rw [hk] at q;exact q⟩;rw [hk] at q;refine ⟨_,rfl,x,C,dy,_,rfl,s1 _ _ k.at_,T.cl_Desk,T.a_share,(by show 4 < 1000;decide),?_⟩;rw [b0f];obtain ⟨b5,t5⟩:=put (fv':=fv) (wv':=wv) (rv':=rv) (sv':=.ref t) s1;exact q _ _ _ _ _ b5 ⟨b7,(k.fd_.keep s1.tups).keep t5,(k.wd_.keep s1.tups).keep t5,(k.rl_.keep s1.tups).keep t5,.tup (t5 _ _ ht) (.cons (.int _) (.cons (.int _) .nil)),k.ok.rect,k.ok.rc,k.ok.fh,k.ok.fw,k.ok.c9,(c2c hk).1,k.ok.bb⟩
  refine ⟨_,rfl,Or.inl ⟨rfl,_,rfl,A7 (λz=>?_) (λz4=>?_)⟩⟩
  ·have eC:P0 wo ws=a8G ws:=by unfold P0;rw [if_neg (λe=>z1 (eqS e)),if_neg (λe=>z2 (eqS e)),if_neg (λe=>z3 (eqS e)),if_pos (is z)]
   rw [eC] at q;refine ⟨_,rfl,x,dy,_,rfl,k.at_,a4F ..,_,rfl,?_⟩;exact ⟨x,dy,lw,fv,wv,rv,sv,D,ws,rfl,k,hlw,q⟩
  ·have eC:P0 wo ws=match L9 ws 0 with | some _=>.take | none=>.no:=by unfold P0;rw [if_neg (λe=>z1 (eqS e)),if_neg (λe=>z2 (eqS e)),if_neg (λe=>z3 (eqS e)),if_neg (λe=>z4 (eqS e))] <;> rfl
   rw [eC] at q;refine ⟨_,rfl,?_⟩;refine ⟨lw,ws,0,rfl,hlw.1,hlw.2.1,hlw.2.2,λks hk t H1 s1 _=>?_,λhk=>by rw [hk] at q;exact q⟩;rw [hk] at q;have k1:=k.same s1;refine ⟨_,rfl,x,dy,_,rfl,k1.at_,U4 ..,?_⟩;dsimp only [a1I,List.nil_append,List.cons_append];refine ⟨x,dy,fv,wv,rv,sv,D,rfl,k1,λv H2 s2 hv=>?_⟩;have S2:=s1.trans s2;refine ⟨_,rfl,x,C,dy,_,rfl,S2 _ _ k.at_,T.cl_Desk,T.a_field,(by show 4 < 1000;decide),?_⟩;rw [a8r];obtain ⟨b5,t5⟩:=put (fv':=v) (wv':=wv) (rv':=rv) (sv':=sv) S2;exact q _ _ _ _ _ b5 ⟨b7,hv.keep t5,(k.wd_.keep S2.tups).keep t5,(k.rl_.keep S2.tups).keep t5,(k.sd_.keep S2.tups).keep t5,k.ok.fil⟩
noncomputable def b8y (H:Hp)(Q:VK)(xs:List Str):Prop:=∀ (l:Addr) (H':Hp),n6 H H'->H l=none->H' l=some (.lst (xs.map V.str))->Q (.ref l) H'
noncomputable def b2p (C:Addr)(mg:Str->Option Value):Sp:=λvs H Q E=>∃ (x dy t:Addr) (fv wv rv sv:V) (D:Dsk) (i j:Int),vs=[.ref x,.ref t]/\V5 C H x dy fv wv rv sv D/\H t=some (.tup [.int i,.int j]) /\
 if inF D.F i j=true then b8y H Q [o5 (wc D.F D.ru D.u D.d D.l D.r i j),c5 (L5 D.F D.ru D.u D.d D.l D.r D.a D.b i j)] else W4 mg "NoPlace" H E
theorem a0C (T:Txt K mg C):a7z P w K mg base 4 C "lines_at" ["self","place"] (b2p C mg):=by
 refine T.m_Desk_lines_at.okXD a0o .(29) .(30)
 ·obtain ⟨x,dy,t,fv,wv,rv,sv,D,i,j,rfl,_⟩:=h
  rfl
 ·obtain ⟨x,dy,t,fv,wv,rv,sv,D,i,j,rfl,k,ht,q⟩:=h;refine ⟨_,.(2 .(16 (E6 (V6 T) (hr.mono .(24)) p0 .(0 (Q2 (K:=K) rfl (pv 0) .(23)) .(1 .(9 (d8 (K:=K) rfl) (pv 1) b6) .(1 .(9 (d8 (K:=K) rfl) (pv 1) b6) a7 k9) k9)))) .(2 (PS.nox .(8 2 a0o.nd .(4 (a9s T) .(0 (Q2 (K:=K) rfl (pv 0) .(23)) .(0 (Q2 (K:=K) rfl (pv 0) .(23)) .(0 (Q2 (K:=K) rfl (pv 0) .(23)) .(1 .(9 (d8 (K:=K) rfl) (pv 1) b6) .(1 .(9 (d8 (K:=K) rfl) (pv 1) b6) a7 k9) k9))))) (by first | exact .inl rfl | exact .inr rfl))) .(3 (PS.nox .(7 .(6 .(1 .(4 (a5F T) .(0 (pv 2) a7)) .(1 .(4 (a5z T) .(1 .(4 (a8o T) .(0 (pv 2) .(0 (Q2 (K:=K) rfl (pv 0) .(23)) a7))) a7 c8)) a7 c8) c8))))))),?_⟩
  have bb:=k.ok.bb;have fh:=k.ok.fh;have fw:=k.ok.fw;refine ⟨_,rfl,x,C,dy,_,_,rfl,k.at_,T.cl_Desk,T.a_field,a4w ..,?_⟩;refine ⟨_,rfl,Or.inr (Or.inl ⟨_,_,_,_,rfl,rfl,SqT.of ht,rfl,?_⟩)⟩;refine ⟨_,rfl,Or.inr (Or.inl ⟨_,_,_,_,rfl,rfl,SqT.of ht,rfl,?_⟩)⟩;refine ⟨fv,D.F,i,j,rfl,k.ok.rect,k.fd_,A7 (λhin=>?_) (λhin=>(if_neg hin).mp q)⟩;have q:=(if_pos hin).mp q;obtain ⟨ei,ej,hi,hj⟩:=a7O hin;refine ⟨_,rfl,x,C,dy,_,_,rfl,k.at_,T.cl_Desk,T.a_field,a4w ..,?_⟩;refine ⟨_,rfl,x,C,dy,_,_,rfl,k.at_,T.cl_Desk,T.a_window,b2a ..,?_⟩;refine ⟨_,rfl,x,C,dy,_,_,rfl,k.at_,T.cl_Desk,T.a_rule,b6x ..,?_⟩;refine ⟨_,rfl,Or.inr (Or.inl ⟨_,_,_,_,rfl,rfl,SqT.of ht,rfl,?_⟩)⟩;refine ⟨_,rfl,Or.inr (Or.inl ⟨_,_,_,_,rfl,rfl,SqT.of ht,rfl,?_⟩)⟩;refine ⟨fv,wv,rv,D.F,D.ru,D.u,D.d,D.l,D.r,_,_,rfl,k.ok.rect,k.fd_,k.wd_,k.rl_,⟨by omega,by omega⟩,⟨by omega,by omega⟩,⟨by omega,by omega,by omega,by omega⟩,λcw H1 s1 hcw=>?_⟩;have wl:=b4b D.F D.ru D.u D.d D.l D.r i j;have wl2:(D.u + D.d + 1) * (D.l + D.r + 1)<=13 * 13:=Nat.mul_le_mul .(25) .(25);dsimp only [q0,List.set];refine ⟨_,rfl,cw,_,rfl,hcw,by omega,λc hc=>(b3o k.ok c hc).wide,λH2 s2=>?_⟩;have S2:=s1.trans s2;refine ⟨_,rfl,_,rfl,x,C,dy,_,_,rfl,S2 _ _ k.at_,T.cl_Desk,T.a_share,b7l ..,?_⟩;refine ⟨cw,sv,_,D.a,D.b,rfl,.inl (s2 _ _ hcw),by omega,(Shr.of k.sd_).keep S2.tups,k.ok.sh,λH3 s3=>?_⟩;refine ⟨_,rfl,(a5J k.ok i j).wide,?_⟩;refine ⟨(by show 2<=sizeLine;decide),λl hl=>?_⟩;exact q l _ ((S2.trans s3).trans (c4 hl)) ((S2.trans s3).free hl) b7
theorem a6t (T:Txt K mg C):a7z P w K mg base 1 C "lines_still" ["self","most"] (λ_ _ _ _=>False) :=
 T.m_Desk_lines_still.okXD (k:=0) a3y (λ_ _ _ _ h=>h.elim) λ_ _ _ _ _ _ _ _ _ _ h=>h.elim
theorem a3F (fv wv rv sv:V):(dkF fv wv rv sv).lookup ("lines_still" : Str)=none:=rfl
noncomputable def b2Q (C:Addr)(mg:Str->Option Value):Sp:=λvs H Q E=>∃ (x dy lw:Addr) (fv wv rv sv:V) (D:Dsk) (wo:Str) (ws:List Str),vs=[.ref x,.str wo,.ref lw]/\V5 C H x dy fv wv rv sv D/\b9t H lw ws/\a8t mg H E D (λ_=>True) (b8y H Q) (a1u wo ws)
theorem a7w (T:Txt K mg C):a7z P w K mg base 6 C "lines_told" ["self","word","words"] (b2Q C mg):=by
 obtain ⟨aN,aF,aM,aP,aW,XX⟩:=T.x_exc;refine T.m_Desk_lines_told.okXD a0A .(29) .(30)
 ·obtain ⟨x,dy,lw,fv,wv,rv,sv,D,wo,ws,rfl,_⟩:=h
  rfl
 ·obtain ⟨x,dy,lw,fv,wv,rv,sv,D,wo,ws,rfl,k,hlw,q⟩:=h;refine ⟨_,.(2 .(10 (PT.nox .(12 (o7 hr.units) (pv 1) b8 (j8 _))) .(3 .(7 (a1E (a0C T) T.cl_Desk (hr.mono .(24)) p0 (pv 0) .(1 (E6 (A3 T) (hr.mono .(24)) p0 .(0 (pv 2) .(0 b6 a7))) a7 c8)))) i7) .(2 .(10 (PT.nox .(12 (o7 hr.units) (pv 1) b8 (j8 _))) .(3 .(7 (a1E (a6t T) T.cl_Desk (hr.mono .(24)) p0 (pv 0) .(1 (E6 (a8J T) (hr.mono .(24)) p0 .(0 (pv 2) a7)) a7 c8)))) i7) .(2 .(16 (E6 (A3 T) (hr.mono .(24)) p0 .(0 (pv 2) .(0 b6 a7)))) .(2 (PS.nox .(10 .(12 (o7 hr.units) (pv 1) b8 (j8 _)) .(3 .(7 .(4 (a7L T) .(0 (Q2 (K:=K) rfl (pv 0) .(23)) a7)))) i7)) .(2 (PS.nox .(10 .(12 (o7 hr.units) (pv 1) b8 (j8 _)) .(3 .(7 .(4 (a7L T) .(1 (@b9H _ _ _ _ _ _ _ _ _ _ _ (Q4 T) T.cl_Desk (hr.mono .(24)) (pv 0) .(23)) a7 c8)))) i7)) .(2 (PS.nox .(10 .(12 (o7 hr.units) (pv 1) b8 (j8 _)) .(3 b4H) i7)) .(3 (N6 rfl D0 XX.ask XX.inN .(0 b8 a7))))))))),?_⟩
  have is:∀ {y:Str},decide (V.str wo=V.str y)=true->wo=y:=λz=>V.str.inj (of_decide_eq_true z);refine ⟨_,rfl,Or.inl ⟨rfl,_,rfl,A7 (λz=>?_) (λz1=>?_)⟩⟩
  ·have eC:a1u wo ws=match L9 ws 2 with | some [i,j]=>.spot i j | _=>.no:=by unfold a1u;rw [if_pos (is z)] <;> rfl
   rw [eC] at q;refine ⟨_,rfl,x,dy,_,rfl,k.at_,a6T ..,_,rfl,?_⟩;refine ⟨lw,ws,2,rfl,hlw.1,hlw.2.1,hlw.2.2,λks hk t H1 s1 ht=>?_,λhk=>by rw [hk] at q;exact q⟩;rw [hk] at q;obtain ⟨i,j,rfl⟩:∃ i j,ks=[i,j]:=by
    have e2:=(W5 hk).2.1
    match ks,e2 with
    | [i,j],_=>exact ⟨i,j,rfl⟩
   have q2:=a8t.mono (B':=λ_=>True) (L':=b8y H1 Q) q s1 (λ_ z=>z) λxs z l H' s' f h=>z l H' (s1.trans s') (s1.free f) h;exact ⟨x,dy,t,fv,wv,rv,sv,D,i,j,rfl,k.same s1,ht,q2⟩
  refine ⟨_,rfl,Or.inl ⟨rfl,_,rfl,A7 (λz=>?_) (λz2=>?_)⟩⟩
  ·have eC:a1u wo ws=match L9 ws 1 with | some ks=>if wi 0 40 ks=true then .odd else .no | none=>.no:=by unfold a1u;rw [if_neg (λe=>z1 (eqS e)),if_pos (is z)] <;> rfl
   rw [eC] at q;have q2:(∀ ks,L9 ws 1=some ks->wi 0 40 ks=false)/\W4 mg "NoAsk" H E:=by
    cases hk:L9 ws 1 with
    | none=>rw [hk] at q;exact ⟨λks e=>(by cases e),q⟩
    | some ks =>
     rw [hk] at q;dsimp only at q;cases hw:wi 0 40 ks with
     | true=>rw [hw,if_pos rfl] at q;exact q.elim
     | false=>rw [hw,if_neg .(24)] at q;exact ⟨λks' e=>(by cases e;exact hw),q⟩
   refine ⟨_,rfl,x,dy,_,rfl,k.at_,a3F ..,_,rfl,?_⟩;exact ⟨lw,ws,rfl,hlw,q2.1,q2.2⟩
  have eC:a1u wo ws=match L9 ws 0 with | none=>.no | some _=>if wo = "show" then .lines else if wo = "filter" then .filter else if wo = "moves" then .odd else .no:=by unfold a1u;rw [if_neg (λe=>z1 (eqS e)),if_neg (λe=>z2 (eqS e))] <;> rfl
  rw [eC] at q;refine ⟨_,rfl,?_⟩;refine ⟨lw,ws,0,rfl,hlw.1,hlw.2.1,hlw.2.2,λks hk t H1 s1 _=>?_,λhk=>by rw [hk] at q;exact q⟩;rw [hk] at q;dsimp only at q;have k1:=k.same s1;refine ⟨_,rfl,Or.inl ⟨rfl,_,rfl,A7 (λz=>?_) (λz3=>?_)⟩⟩
  ·rw [if_pos (is z)] at q;refine ⟨_,rfl,x,C,dy,_,_,rfl,k1.at_,T.cl_Desk,T.a_field,a4w ..,?_⟩;exact ⟨fv,D.F,rfl,k1.fd_,k.ok.rectW,λl H2 s2 f2 h2=>q l H2 (s1.trans s2) (s1.free f2) (by rw [h2,List.map_map])⟩
  rw [if_neg (λe=>z3 (eqS e))] at q;refine ⟨_,rfl,Or.inl ⟨rfl,_,rfl,A7 (λz=>?_) (λz4=>?_)⟩⟩
  ·rw [if_pos (is z)] at q;refine ⟨_,rfl,x,dy,_,rfl,k1.at_,U4 ..,?_⟩;dsimp only [a1I,List.nil_append,List.cons_append];refine ⟨x,dy,fv,wv,rv,sv,D,rfl,k1,λv H2 s2 hv=>?_⟩;exact ⟨v,a8B D,rfl,hv,k.ok.fil.rectW,λl H3 s3 f3 h3=>q l H3 ((s1.trans s2).trans s3) ((s1.trans s2).free f3) (by rw [h3,List.map_map])⟩
  rw [if_neg (λe=>z4 (eqS e))] at q;refine ⟨_,rfl,Or.inl ⟨rfl,_,rfl,A7 (λz=>?_) (λz5=>?_)⟩⟩
  ·rw [if_pos (is z)] at q;exact q.elim
  ·rw [if_neg (λe=>z5 (eqS e))] at q;exact ⟨(by show 1<=sizeLine;decide),q _ XX.ask _ s1⟩
noncomputable def U3 (F:List (List (Option Int))):Str:=⟨(("field " : Str).cps.toList ++ (N1 F).cps.toList).toArray⟩
theorem a8x:("field " : Str).cps.toList=[102,105,101,108,100,32]:=by decide +kernel
theorem Z3:("field " : Str).length=6:=by decide +kernel
theorem b8r (F:List (List (Option Int))):(⟨((U3 F).cps.toList.drop 6).toArray⟩:Str)=N1 F:=by
 refine N8 ?_
 show (((("field " : Str).cps.toList ++ (N1 F).cps.toList).toArray.toList.drop 6).toArray).toList=_
 rw [a8x]
 simp
theorem b2e (F:List (List (Option Int))):(decide (0 + ("field " : Str).length <= (U3 F).length) && Builtin.Str.subAt (U3 F) ("field " : Str) 0)=true:=by
 rw [PySem.StrLaws.subAt_eq];have e:(U3 F).length=6 + (N1 F).length:=by
  show ((("field " : Str).cps.toList ++ (N1 F).cps.toList).toArray).size=_
  rw [List.size_toArray,List.length_append,a8x]
  show 6 + (N1 F).cps.toList.length=_
  simp [Str.length]
 rw [Z3,e,decide_eq_true .(25),Bool.true_and];have e2:(U3 F).cps.toList=("field " : Str).cps.toList ++ (N1 F).cps.toList:=by
  show (("field " : Str).cps.toList ++ (N1 F).cps.toList).toArray.toList=_
  simp
 rw [e2,List.drop_zero,a8x]
 simp
noncomputable def o0 (ws:List Str):Str:=Str.join ⟨#[32]⟩ ws
theorem a4L {ws:List Str}(h:ws≠[])(hf:∀ w∈ws,32 ∉ w.cps.toList):PySem.Txt.split (o0 ws) ⟨#[32]⟩=ws:=a9z 32 h hf
theorem a8Y {ws:List Str}(h:∀ w∈ws,w.length <= 11)(hl:ws.length <= 10):(o0 ws).length <= 1000:=by
 have e:(o0 ws).length=(o0 ws).cps.toList.length:=by simp [Str.length]
 rw [e];unfold o0;rw [B1];have:=a4o 32 11 (ws.map (·.cps.toList)) (λx hx=>by
  obtain ⟨w,hw,rfl⟩:=List.mem_map.mp hx;have:=h w hw;have e:w.length=w.cps.toList.length:=by simp [Str.length]
  omega)
 rw [List.length_map] at this
 omega
theorem b9r {w0:Str}{ws:List Str}:∃ rest,(o0 (w0 :: ws)).cps.toList=w0.cps.toList ++ rest:=by
 unfold o0;rw [B1];cases ws with
 | nil=>exact ⟨[],by simp [D5]⟩
 | cons w r=>exact ⟨_,by rw [List.map_cons,List.map_cons];rfl⟩
theorem R0 {w0:Str} {ws:List Str} {c:Nat} {t:List Nat} (h:w0.cps.toList=c :: t) (hc:c≠102):(decide (0 + ("field " : Str).length <= (o0 (w0 :: ws)).length) && Builtin.Str.subAt (o0 (w0 :: ws)) ("field " : Str) 0)=false:=by
 rw [PySem.StrLaws.subAt_eq];obtain ⟨rest,e⟩:=b9r (w0:=w0) (ws:=ws);rw [e,h,List.drop_zero,Z3,a8x];have:(List.take 6 (c :: t ++ rest) == [102,105,101,108,100,32])=false:=by
  rw [List.cons_append,List.take_succ_cons];refine Bool.eq_false_iff.mpr λz=>?_;have:=beq_iff_eq.mp z;exact hc (List.cons.inj this).1
 rw [this,Bool.and_false]
noncomputable def b7n (x:Str):Prop:=32 ∉ x.cps.toList /\ x.length <= 11/\Asc x/\b1b (i8 x)
theorem P1 {c:Option Int}(h:a2t c):b7n (c5 c):=by
 refine ⟨?_,E2 h,λy hy=>?_,λn=>?_⟩
 ·rw [N5];exact (a1P c).1
 ·rw [N5] at hy;cases c with
  | none=>rw [List.mem_singleton.mp hy];decide
  | some i =>
   have a:=a0s i.natAbs
   by_cases z:i < 0
   ·rw [a6H z] at hy
    rcases List.mem_cons.mp hy with e | e
    ·rw [e];decide
    ·have:=a y e;omega
   ·rw [a0P z] at hy;have:=a y hy;omega
 ·rw [a2p] at n ⊢;cases c with
  | none=>exact absurd n .(24)
  | some i=>rw [a9R];exact h i rfl
theorem b1r {n:Nat}(h:n<=100):b7n (c5 (some (n:Int))):=P1 λi e=>by cases e;unfold Wide;omega
theorem a1w:∀ w∈([("window" : Str),"edge","share","cell","take","there","near","turned","round","told"]:List Str),b7n w:=λw hw=>by
 have h:([("window" : Str),"edge","share","cell","take","there","near","turned","round","told"].all λx=>(x.cps.toList.all λc=>decide (c≠32) && decide (c < 128)) && (decide (x.length <= 11) && !numB (i8 x)))=true:=by decide +kernel
 have h:=List.all_eq_true.mp h w hw;rw [Bool.and_eq_true,Bool.and_eq_true,decide_eq_true_eq] at h;obtain ⟨h1,h2,h3⟩:=h;have h1:∀ c∈w.cps.toList,c≠32/\c < 128:=λc hc=>by
  have:=List.all_eq_true.mp h1 c hc;rw [Bool.and_eq_true,decide_eq_true_eq,decide_eq_true_eq] at this;exact this
 exact ⟨λz=>(h1 32 z).1 rfl,h2,λc hc=>(h1 c hc).2,λn=>by rw [n] at h3;cases h3⟩
noncomputable def b6Y (ws:List Str):Prop:=ws≠[]/\ws.length <= 10/\∀ w∈ws,b7n w
theorem b3D {D:Dsk}(k:J0 D){δ:b9n}(h:b6f D δ):b6Y ((y8 δ).1 :: (y8 δ).2):=by
 have fh:=k.fh;have fw:=k.fw;cases δ with
 | window u d l r =>
  obtain ⟨h1,h2,h3,h4⟩:=h;refine ⟨by simp,by simp [y8],λw hw=>?_⟩;simp only [y8,List.mem_cons,List.not_mem_nil,or_false] at hw
  rcases hw with rfl | rfl | rfl | rfl | rfl
  ·exact a1w _ .(26)
  all_goals exact b1r .(25)
 | edge ru =>
  cases ru with
  | told c =>
   refine ⟨by simp,by simp [y8,Y8],λw hw=>?_⟩;simp only [y8,Y8,List.mem_cons,List.not_mem_nil,or_false] at hw
   rcases hw with rfl | rfl | rfl
   ·exact a1w _ .(26)
   ·exact a1w _ .(26)
   ·exact P1 (h c rfl).wide
  | _ =>
   refine ⟨by simp,by simp [y8,Y8],λw hw=>?_⟩;simp only [y8,Y8,List.mem_cons,List.not_mem_nil,or_false] at hw
   rcases hw with rfl | rfl <;> exact a1w _ .(26)
 | share a b =>
  obtain ⟨hS,hb⟩:=h;obtain ⟨s1,s2,s3,_⟩:=hS;refine ⟨by simp,by simp [y8],λw hw=>?_⟩;simp only [y8,List.mem_cons,List.not_mem_nil,or_false] at hw
  rcases hw with rfl | rfl | rfl
  ·exact a1w _ .(26)
  all_goals exact P1 λi e=>by cases e;unfold Wide;omega
 | cell i j c =>
  obtain ⟨h1,h2,h3⟩:=h;refine ⟨by simp,by simp [y8],λw hw=>?_⟩;simp only [y8,List.mem_cons,List.not_mem_nil,or_false] at hw
  rcases hw with rfl | rfl | rfl | rfl
  ·exact a1w _ .(26)
  ·exact b1r .(25)
  ·exact b1r .(25)
  ·exact P1 h3.wide
 | take=>exact ⟨by simp,by simp [y8],λw hw=>by
   simp only [y8,List.mem_cons,List.not_mem_nil,or_false] at hw;subst hw;exact a1w _ .(26)⟩
noncomputable def b1R (C:Addr):Sp:=λvs H Q _=>∃ (x dy:Addr),vs=[.ref x]/\H x=some (.ins C dy []) /\
 ∀ (fv wv rv sv:V) (H':Hp),d3 x H H'->H' x=some (.ins C dy (dkF fv wv rv sv))->IsD H' fv (B2 [[none]])->IsD H' wv (a2P 0 0 0 0)->IsD H' rv (X8 .there)->IsD H' sv (a9m (1,2))->Q .non H'
theorem b5f (T:Txt K mg C):DfI P w K mg base 1 C ["self"] (b1R C):=by
 refine T.m_Desk_init.ok b6c .(29) .(30)
 ·obtain ⟨x,dy,rfl,_⟩:=h
  rfl
 ·obtain ⟨x,dy,rfl,hx,q⟩:=h;refine ⟨_,.(2 (a8m (pv 0) .(14 .(1 .(14 .(0 Q0 a7)) a7 X1)) rfl) .(2 (a8m (pv 0) .(14 .(0 b6 .(0 b6 .(0 b6 .(0 b6 a7))))) rfl) .(2 (a8m (pv 0) b8 rfl) .(3 (a8m (pv 0) .(14 .(0 b6 .(0 b6 a7))) rfl))))),?_⟩
  have put:∀ {H:Hp} {fs gs:List (Str × V)},H x=some (.ins C dy fs)->upd H x (.ins C dy gs) x=some (.ins C dy gs)/\d3 x H (upd H x (.ins C dy gs))/\N7 H (upd H x (.ins C dy gs)):=λ{H fs gs} h=>⟨b7,λb o e n=>by rw [j4 n];exact e,λb ws e=>by rw [j4 (U2 e h λz=>by cases z)];exact e⟩;refine ⟨(by show 1<=sizeLine;decide),λp1 hp1=>⟨(by show 1<=sizeLine;decide),λp2 hp2=>?_⟩⟩;have s1:=c4 (o:=.tup [.non]) hp1;have s2:=c4 (o:=.tup [.ref p1]) hp2;have f2:IsD (upd (upd H p1 (.tup [.non])) p2 (.tup [.ref p1])) (.ref p2) (B2 [[none]]):=.tup b7 (.cons (.tup (s2 _ _ (show upd H p1 (.tup [.non]) p1=some (.tup [.non]) from b7)) (T0 [none])) .nil);have x2:=(s1.trans s2) _ _ hx;have S2:=s1.trans s2;generalize upd (upd H p1 (.tup [.non])) p2 (.tup [.ref p1])=H2 at f2 x2 S2 ⊢;refine ⟨_,rfl,x,C,dy,_,rfl,x2,T.cl_Desk,T.a_field,(by show 0 < 1000;decide),?_⟩;rw [show T7 "field" (V.ref p2) []=[(("field" : Str),V.ref p2)] from rfl];obtain ⟨x3,k3,t3⟩:=put (gs:=[(("field" : Str),V.ref p2)]) x2;generalize upd H2 x (.ins C dy [(("field" : Str),V.ref p2)])=H3 at x3 k3 t3 ⊢;refine ⟨(by show 4<=sizeLine;decide),λp4 hp4=>?_⟩;have s4:=c4 (o:=.tup [.int 0,.int 0,.int 0,.int 0]) hp4;have x4:=s4 _ _ x3;have w4:upd H3 p4 (.tup [.int 0,.int 0,.int 0,.int 0]) p4=some (.tup [.int 0,.int 0,.int 0,.int 0]):=b7;generalize upd H3 p4 (.tup [.int 0,.int 0,.int 0,.int 0])=H4 at s4 x4 w4 ⊢;refine ⟨_,rfl,x,C,dy,_,rfl,x4,T.cl_Desk,T.a_window,(by show 1 < 1000;decide),?_⟩;rw [show T7 "window" (V.ref p4) [(("field" : Str),V.ref p2)]=[(("field" : Str),V.ref p2),("window",V.ref p4)] from a8D _ _ _ ["field"] rfl .(28)];obtain ⟨x5,k5,t5⟩:=put (gs:=[(("field" : Str),V.ref p2),("window",V.ref p4)]) x4;generalize upd H4 x (.ins C dy [(("field" : Str),V.ref p2),("window",V.ref p4)])=H5 at x5 k5 t5 ⊢;refine ⟨_,rfl,x,C,dy,_,rfl,x5,T.cl_Desk,T.a_rule,(by show 2 < 1000;decide),?_⟩;rw [show T7 "rule" (V.str "there") [(("field" : Str),V.ref p2),("window",V.ref p4)]=[(("field" : Str),V.ref p2),("window",V.ref p4),("rule",V.str "there")] from a8D _ _ _ ["field","window"] rfl .(28)];obtain ⟨x6,k6,t6⟩:=put (gs:=[(("field" : Str),V.ref p2),("window",V.ref p4),("rule",V.str "there")]) x5;generalize upd H5 x (.ins C dy [(("field" : Str),V.ref p2),("window",V.ref p4),("rule",V.str "there")])=H6 at x6 k6 t6 ⊢;refine ⟨(by show 2<=sizeLine;decide),λp7 hp7=>?_⟩;have s7:=c4 (o:=.tup [.int 1,.int 2]) hp7;have x7:=s7 _ _ x6;have v7:upd H6 p7 (.tup [.int 1,.int 2]) p7=some (.tup [.int 1,.int 2]):=b7;generalize upd H6 p7 (.tup [.int 1,.int 2])=H7 at s7 x7 v7 ⊢;refine ⟨_,rfl,x,C,dy,_,rfl,x7,T.cl_Desk,T.a_share,(by show 3 < 1000;decide),?_⟩;rw [show T7 "share" (V.ref p7) [(("field" : Str),V.ref p2),("window",V.ref p4),("rule",V.str "there")]=dkF (.ref p2) (.ref p4) (.str "there") (.ref p7) from a8D _ _ _ ["field","window","rule"] rfl .(28)];obtain ⟨x8,k8,t8⟩:=put (gs:=dkF (.ref p2) (.ref p4) (.str "there") (.ref p7)) x7;refine q _ _ _ _ _ ((((((S2.but x).trans k3).trans (s4.but x)).trans k5).trans k6).trans ((s7.but x).trans k8)) x8 ?_ ?_ (.str _) ?_
  ·exact (((((f2.keep t3).keep s4.tups).keep t5).keep t6).keep s7.tups).keep t8
  ·exact b7k (u:=0) (d:=0) (l:=0) (r:=0) (t8 _ _ (s7 _ _ (t6 _ _ (t5 _ _ w4))))
  ·exact .tup (t8 _ _ v7) (.cons (.int _) (.cons (.int _) .nil))
theorem b4m (δ:b9n):(decide (0 + ("field " : Str).length <= (o0 ((y8 δ).1 :: (y8 δ).2)).length) && Builtin.Str.subAt (o0 ((y8 δ).1 :: (y8 δ).2)) ("field " : Str) 0)=false:=by
 cases δ with
 | window=>exact R0 (c:=119) (t:=[105,110,100,111,119]) (by simp only [y8];decide +kernel) .(24)
 | edge=>exact R0 (c:=101) (t:=[100,103,101]) (by simp only [y8];decide +kernel) .(24)
 | share=>exact R0 (c:=115) (t:=[104,97,114,101]) (by simp only [y8];decide +kernel) .(24)
 | cell=>exact R0 (c:=99) (t:=[101,108,108]) (by simp only [y8];decide +kernel) .(24)
 | take=>exact R0 (c:=116) (t:=[97,107,101]) (by simp only [y8];decide +kernel) .(24)
theorem b0y (y:V)(xs:List V):a1p (y :: xs) (some 1) none=xs:=a8w (y :: xs) 0
theorem a1Z {p:List (List Nat)}(h:∀ x∈p,∀ c∈x,c < 128):∀ c∈D5 32 p,c < 128:=by
 match p,h with
 | [],_=>intro c hc;cases hc
 | [x],h=>exact h x .(26)
 | x :: y :: r,h =>
  intro c hc;have hc:c∈x ++ 32 :: D5 32 (y :: r):=hc
  rcases List.mem_append.mp hc with z | z
  ·exact h x .(26) c z
  ·rcases List.mem_cons.mp z with z | z
   ·rw [z];decide
   ·exact a1Z (λu hu=>h u (List.mem_cons_of_mem _ hu)) c z
theorem b4e {ws:List Str}(f:b6Y ws)(st:stF (o0 ws)=false):N4 (o0 ws):=by
 obtain ⟨n0,n10,fine⟩:=f;refine ⟨λc hc=>?_,Nat.le_trans (a8Y (λw hw=>(fine w hw).2.1) n10) .(24),λ_ w hw=>?_,λz=>by rw [st] at z;cases z⟩
 ·have hc:c∈(Str.join ⟨#[32]⟩ ws).cps.toList:=hc;rw [B1] at hc;refine a1Z (λx hx=>?_) c hc;obtain ⟨y,hy,rfl⟩:=List.mem_map.mp hx;exact (fine y hy).2.2.1
 ·unfold y4 o9 at hw;rw [a4L n0 λw hw=>(fine w hw).1] at hw;obtain ⟨y,hy,rfl⟩:=List.mem_map.mp hw;exact (fine y hy).2.2.2
theorem a5B {w0:Str}{ws:List Str}(h:∀ w∈w0 :: ws,32 ∉ w.cps.toList)(st:stF (o0 (w0 :: ws))=false):D4 (o0 (w0 :: ws))=if b4J w0=true then P0 w0 ws else a1u w0 ws:=by
 unfold D4;rw [if_neg (by rw [st];decide)];unfold o9;rw [a4L .(26) h]
noncomputable def b0o (C x dy:Addr)(H:Hp)(Q:VK)(D':Dsk):Prop:=∀ (fv wv rv sv:V) (l:Addr) (H':Hp),d3 x H H'->V5 C H' x dy fv wv rv sv D'->H l=none->H' l=some (.lst [])->Q (.ref l) H'
noncomputable def c7b (C:Addr)(mg:Str->Option Value):Sp:=λvs H Q E=>∃ (x dy:Addr) (fv wv rv sv:V) (D:Dsk) (line:Str),vs=[.ref x,.str line]/\V5 C H x dy fv wv rv sv D/\N4 line/\a8t mg H E D (b0o C x dy H Q) (b8y H Q) (D4 line)
theorem J6 (T:Txt K mg C):a7z P w K mg base 7 C "ask" ["self","line"] (c7b C mg):=by
 refine T.m_Desk_ask.okXD a8K .(29) .(30)
 ·obtain ⟨x,dy,fv,wv,rv,sv,D,line,rfl,_⟩:=h
  rfl
 ·obtain ⟨x,dy,fv,wv,rv,sv,D,line,rfl,k,ok,q⟩:=h;refine ⟨_,.(2 .(10 (PT.nox .(13 (G8 (K:=K) rfl PySem.F.plainAttrs_str PySem.F.slot_str_startswith PySem.F.type_str_startswith a3z (pv 1) .(0 (E4 .(23) T.g_FIELD_AHEAD) a7)))) .(2 (a8m (pv 0) (E6 (a0K T) (hr.mono .(24)) p0 .(1 (F6 b8R (pv 1) (K0 .(11 (m6 (K:=K) rfl) T.n_len x9 .(0 (E4 .(23) T.g_FIELD_AHEAD) a7))) L4) a7 k9)) rfl) .(3 (PS.nox .(7 .(6 a7))))) i7) .(2 (PS.nox .(8 2 a8K.nd (G8 (K:=K) rfl PySem.F.plainAttrs_str PySem.F.slot_str_split PySem.F.type_str_split a6E (pv 1) .(0 b8 a7)) (by first | exact .inl rfl | exact .inr rfl))) .(2 .(10 (PT.nox (@i9 _ _ _ _ _ _ _ _ (a7R (K:=K) rfl) .(9 (d8 (K:=K) rfl) (pv 2) b6) (b8j (K:=K) rfl .(23) T.g_CHANGES) .(23))) .(2 .(16 (a1E (a7y T) T.cl_Desk (hr.mono .(24)) p0 (pv 0) .(1 .(9 (d8 (K:=K) rfl) (pv 2) b6) .(1 (F6 (a8M (K:=K) rfl) (pv 2) (K0 b6) L4) a7 k9) k9))) .(3 (PS.nox .(7 .(6 a7))))) i7) .(3 .(7 (a1E (a7w T) T.cl_Desk (hr.mono .(24)) p0 (pv 0) .(1 .(9 (d8 (K:=K) rfl) (pv 2) b6) .(1 (F6 (a8M (K:=K) rfl) (pv 2) (K0 b6) L4) a7 k9) k9))))))),?_⟩
  have ln:=ok.len;have fin:∀ {D':Dsk} {fv' wv' rv' sv':V} {H1 H3:Hp} {l:Addr},b0o C x dy H Q D'->n6 H H1->d3 x H1 H3->V5 C H3 x dy fv' wv' rv' sv' D'->H3 l=none->Q (.ref l) (upd H3 l (.lst [])):=λ{D' fv' wv' rv' sv' H1 H3 l} q s1 kb k3 hl=>by
   have s4:=c4 (o:=.lst []) hl;have hln:H l=none:=by
    cases e:H l with
    | none=>rfl
    | some o =>
     by_cases z:l=x
     ·rw [z,k3.at_] at hl;cases hl
     ·rw [kb _ _ (s1 _ _ e) z] at hl;cases hl
   exact q fv' wv' rv' sv' l _ (((s1.but x).trans kb).trans (s4.but x)) (k3.same s4) hln b7
  refine ⟨_,rfl,rfl,_,_,rfl,rfl,?_⟩
  show ∃ c,V.bl (stF line)=V.bl c/\_
  cases st:stF line with
  | true =>
   refine ⟨_,rfl,C6 ?_⟩;have eP:D4 line=a1W (a5T line):=by unfold D4;rw [if_pos st]
   rw [eP] at q;have l6:6<=line.length:=by
    unfold stF at st;rw [Bool.and_eq_true,decide_eq_true_eq,Z3] at st
    omega
   refine ⟨_,rfl,_,_,rfl,⟨(by rw [Z3];decide),rfl⟩,_,rfl,line,("field " : Str).length,rfl,rfl,rfl,(by rw [Z3];decide),(by rw [Z3];omega),Nat.le_trans (show line.length <= 1000000 by omega) .(24),?_⟩;rw [Z3];have ld:(a5T line).length <= 90000:=by
    show ((line.cps.toList.drop 6).toArray).size <= _
    rw [List.size_toArray,List.length_drop];have:line.cps.toList.length=line.length:=by simp [Str.length]
    omega
   refine ⟨a5T line,rfl,λc hc=>ok.asc c ?_,ld,ok.fd st,λF hF gv H1 s1 hg=>?_,λk hk=>by rw [hk] at q;exact q⟩
   ·have hc:c∈(line.cps.toList.drop 6).toArray.toList:=hc;rw [List.toList_toArray] at hc;exact List.mem_of_mem_drop hc
   rw [hF] at q;obtain ⟨R,h12,w12,c9⟩:=b9W hF;have x1:=s1 _ _ k.at_;refine ⟨_,rfl,x,C,dy,_,rfl,x1,T.cl_Desk,T.a_field,(by show 4 < 1000;decide),?_⟩;rw [a8r];refine ⟨(by show 0<=sizeLine;decide),λl hl=>?_⟩;have k2:=b2g H1 x (.ins C dy (dkF gv wv rv sv));have t2:N7 H1 (upd H1 x (.ins C dy (dkF gv wv rv sv))):=λb ws e=>k2 _ _ e (U2 e x1 λz=>by cases z);exact fin q s1 k2 ⟨b7,hg.keep t2,(k.wd_.keep s1.tups).keep t2,(k.rl_.keep s1.tups).keep t2,(k.sd_.keep s1.tups).keep t2,R,k.ok.rc,h12,w12,c9,k.ok.sh,k.ok.bb⟩ hl
  | false =>
  refine ⟨_,rfl,y7 ?_⟩;dsimp only [W9,a4t];refine ⟨_,rfl,rfl,_,_,rfl,rfl,by decide +kernel,by omega,λlw hlw=>?_⟩;rw [M4];obtain ⟨w0,ws,ew⟩:∃ w0 ws,Txt.split line ⟨#[32]⟩=w0 :: ws:=by
   cases h:Txt.split line ⟨#[32]⟩ with
   | nil=>exact absurd h (a8C line 32)
   | cons w0 ws=>exact ⟨w0,ws,rfl⟩
  have eP:D4 line=if b4J w0=true then P0 w0 ws else a1u w0 ws:=by
   unfold D4 o9;rw [if_neg (by rw [st];decide),ew]
  have fine:∀ y∈ws,b9g y:=λy hy=>by
   have hm:y∈Txt.split line ⟨#[32]⟩:=by rw [ew];exact List.mem_cons_of_mem _ hy
   exact ⟨ok.asc.part hm,Nat.le_trans (a6p hm).2 ln,ok.wd st _ (List.mem_map.mpr ⟨y,hm,rfl⟩)⟩
  have few:ws.length <= 100000:=by
   have e:(Txt.split line ⟨#[32]⟩).length <= line.length + 2:=PyProof.Rows.split_le line ⟨#[32]⟩;rw [ew,List.length_cons] at e
   omega
  rw [ew];have s1:=c4 (o:=.lst ((w0 :: ws).map V.str)) hlw;have e1:upd H lw (.lst ((w0 :: ws).map V.str)) lw=some (.lst (V.str w0 :: ws.map V.str)):=b7;generalize upd H lw (.lst ((w0 :: ws).map V.str))=H1 at s1 e1 ⊢;dsimp only [q0,List.set];rw [eP] at q;refine ⟨_,rfl,Or.inl ⟨_,_,_,.str w0,rfl,rfl,SqL.of e1,B0 (j:=0) rfl,λp hp=>⟨p,_,rfl,Or.inr hp.sq,rfl,rfl,_,rfl,?_⟩⟩⟩
  show if b4J w0=true then _ else _
  refine A7 (λz=>?_) (λz=>?_)
  ·rw [if_pos z] at q;refine ⟨_,rfl,x,dy,_,rfl,s1 _ _ k.at_,a1N ..,?_⟩;refine ⟨_,rfl,Or.inl ⟨_,_,_,_,rfl,rfl,SqL.of e1,B0 (j:=0) rfl,?_⟩⟩;refine ⟨_,rfl,_,rfl,Or.inl ⟨_,_,rfl,SqL.of e1,λl2 hl2=>?_⟩⟩;rw [b0y];have s2:=s1.trans (c4 (o:=.lst (ws.map V.str)) hl2);refine ⟨x,dy,l2,fv,wv,rv,sv,D,w0,ws,rfl,k.same s2,⟨b7,few,fine⟩,a8t.mono q s2 (λD' z fv' wv' rv' sv' H3 kb k3=>?_) λ_ _=>trivial⟩;exact ⟨(by show 0<=sizeLine;decide),λl hl=>fin z s2 kb k3 hl⟩
  ·rw [if_neg z] at q;dsimp only [W9,a4t];refine ⟨_,rfl,x,dy,_,rfl,s1 _ _ k.at_,a6J ..,?_⟩;refine ⟨_,rfl,Or.inl ⟨_,_,_,_,rfl,rfl,SqL.of e1,B0 (j:=0) rfl,?_⟩⟩;refine ⟨_,rfl,_,rfl,Or.inl ⟨_,_,rfl,SqL.of e1,λl2 hl2=>?_⟩⟩;rw [b0y];have s2:=s1.trans (c4 (o:=.lst (ws.map V.str)) hl2);exact ⟨x,dy,l2,fv,wv,rv,sv,D,w0,ws,rfl,k.same s2,⟨b7,few,fine⟩,a8t.mono q s2 (λ_ _=>trivial) λxs z l H3 s3 f3 h3=>z l H3 (s2.trans s3) (s2.free f3) h3⟩
noncomputable def a5y:C3->Int->Int->Int
 | .near,p,n=>led .near p n
 | .turned,p,n=>led .turned p n
 | .round,p,n=>led .round p n
 | _,p,_=>p
theorem b0v (ru:C3):a8v ru "near" = true↔ru = .near:=by
 cases ru <;> simp [a8v] <;> decide +kernel
theorem b1j (ru:C3):a8v ru "round" = true↔ru = .round:=by
 cases ru <;> simp [a8v] <;> decide +kernel
theorem a8X (ru:C3):a8v ru "turned" = true↔ru = .turned:=by
 cases ru <;> simp [a8v] <;> decide +kernel
noncomputable def b9Q:Sp:=λvs H Q _=>∃ (rv:V) (ru:C3) (p n:Int),vs=[rv,.int p,.int n]/\IsD H rv (X8 ru)/\1<=n/\n < 2 ^ 40/\Q (.int (a5y ru p n)) H
theorem a8F (T:Txt K mg C):Df P w K mg base 1 "_law_index" ["rule","k","size"] b9Q:=by
 refine T.d_law_index.ok a5D .(29) .(30)
 ·obtain ⟨rv,ru,p,n,rfl,_⟩:=h
  rfl
 ·obtain ⟨rv,ru,p,n,rfl,hru,n1,n2,q⟩:=h;refine ⟨_,.(2 .(10 .(12 (o7 hr.units) (pv 0) b8 (j8 _)) .(3 .(7 .(11 (a3p rfl) T.n_min a4U .(1 .(11 (a2K rfl) T.n_max b5t .(0 (pv 1) .(0 b6 a7))) .(1 .(5 O3 (pv 2) b6) a7 m5) c8)))) i7) .(2 .(10 .(12 (o7 hr.units) (pv 0) b8 (j8 _)) .(3 .(7 .(5 V3 (pv 1) (pv 2)))) i7) .(2 .(10 .(12 (o7 hr.units) (pv 0) b8 (j8 _)) .(2 .(8 1 a5D.nd .(5 V3 (pv 1) .(5 R7 b6 (pv 2))) (by first | exact .inl rfl | exact .inr rfl)) .(3 .(7 .(11 (a3p rfl) T.n_min a4U .(0 (pv 1) .(1 .(5 O3 .(5 O3 .(5 R7 b6 (pv 2)) b6) (pv 1)) a7 m5)))))) i7) .(3 .(7 (pv 1)))))),?_⟩
  refine ⟨_,rfl,b9e hru .(28) ⟨_,rfl,A7 (λz=>?_) (λz1=>?_)⟩⟩
  ·obtain rfl:=(b0v ru).mp z;refine ⟨_,rfl,_,_,rfl,_,rfl,_,_,rfl,rfl,_,_,rfl,?_⟩;rw [b9d,b5I];exact q
  refine ⟨_,rfl,b9e hru .(28) ⟨_,rfl,A7 (λz=>?_) (λz2=>?_)⟩⟩
  ·obtain rfl:=(b1j ru).mp z;exact ⟨_,rfl,_,rfl,_,_,rfl,rfl,(by show (0:Int) < n;omega),q⟩
  refine ⟨_,rfl,b9e hru .(28) ⟨_,rfl,A7 (λz=>?_) (λz3=>?_)⟩⟩
  ·obtain rfl:=(a8X ru).mp z;refine ⟨_,rfl,_,rfl,_,_,rfl,rfl,Or.inl ⟨by decide,by decide⟩,_,_,rfl,rfl,(by show (0:Int) < 2 * n;omega),?_⟩;refine ⟨_,rfl,_,rfl,_,_,rfl,rfl,Or.inl ⟨by decide,by decide⟩,_,_,rfl,rfl,_,rfl,_,_,rfl,rfl,_,_,rfl,?_⟩;rw [b9d];exact q
  ·refine ⟨_,rfl,?_⟩;have e:a5y ru p n=p:=by
    cases ru with
    | near=>exact absurd ((b0v _).mpr rfl) z1
    | round=>exact absurd ((b1j _).mpr rfl) z2
    | turned=>exact absurd ((a8X _).mpr rfl) z3
    | there=>rfl
    | told c=>rfl
   rw [e] at q;exact q
theorem b9C {F:List (List (Option Int))}(R:U6 F)(ru:C3)(i j:Int) :
  (inF F (a5y ru i F.length) (a5y ru j (F.headD []).length)=true->A1 F ru i j=[J8 F (a5y ru i F.length) (a5y ru j (F.headD []).length)]) /\
  (inF F (a5y ru i F.length) (a5y ru j (F.headD []).length)=false->(ru = .there /\ A1 F ru i j=[]) \/ ∃ c,ru = .told c/\A1 F ru i j=[c]):=by
 have h1:=R.h1;have w1:=R.w1;have led_ok:∀ r:C3,(r = .near \/ r = .turned \/ r = .round)->inF F (led r i F.length) (led r j (F.headD []).length)=true/\A1 F r i j=[J8 F (led r i F.length) (led r j (F.headD []).length)]:=λr hr=>by
  have li:=a0n r i (n:=F.length) .(25);have lj:=a0n r j (n:=(F.headD []).length) .(25);refine ⟨by unfold inF;rw [decide_eq_true li.1,decide_eq_true li.2,decide_eq_true lj.1,decide_eq_true lj.2];rfl,?_⟩;unfold A1;cases hin:inF F i j with
  | true =>
   rw [if_pos rfl];unfold inF at hin;simp only [Bool.and_eq_true,decide_eq_true_eq] at hin;rw [b8I r hin.1.1 hin.1.2,b8I r hin.2.1 hin.2.2]
  | false =>
   rw [if_neg Bool.false_ne_true]
   rcases hr with rfl | rfl | rfl <;> rfl
 cases ru with
 | near=>exact ⟨λ_=>(led_ok .near .(26)).2,λz=>by have:=(led_ok .near .(26)).1;rw [show a5y .near i F.length=led .near i F.length from rfl,show a5y .near j (F.headD []).length=led .near j (F.headD []).length from rfl,this] at z;cases z⟩
 | turned=>exact ⟨λ_=>(led_ok .turned .(26)).2,λz=>by have:=(led_ok .turned .(26)).1;rw [show a5y .turned i F.length=led .turned i F.length from rfl,show a5y .turned j (F.headD []).length=led .turned j (F.headD []).length from rfl,this] at z;cases z⟩
 | round=>exact ⟨λ_=>(led_ok .round .(26)).2,λz=>by have:=(led_ok .round .(26)).1;rw [show a5y .round i F.length=led .round i F.length from rfl,show a5y .round j (F.headD []).length=led .round j (F.headD []).length from rfl,this] at z;cases z⟩
 | there =>
  refine ⟨λz=>?_,λz=>Or.inl ⟨rfl,?_⟩⟩
  ·unfold A1;rw [if_pos (show inF F i j=true from z)];rfl
  ·unfold A1;rw [if_neg (by rw [show inF F i j=false from z];decide)]
 | told c =>
  refine ⟨λz=>?_,λz=>Or.inr ⟨c,rfl,?_⟩⟩
  ·unfold A1;rw [if_pos (show inF F i j=true from z)];rfl
  ·unfold A1;rw [if_neg (by rw [show inF F i j=false from z];decide)]
theorem b0w {H:Hp}{rv:V}{ru:C3}{x:Str}{Q:VK}(h:IsD H rv (X8 ru))(hx:(PyData.str x).canLay0=true)(q:Q (.bl (!a8v ru x)) H):rNe rv (.str x) H Q \/ b3q 0 rv (.str x) H Q:=by
 have st:∀ y:Str,rv = .str y->Q (.bl (!decide (y=x))) H->rNe rv (.str x) H Q \/ b3q 0 rv (.str x) H Q:=λy e q'=>by
  subst e;refine Or.inl ⟨rfl,?_⟩;have:decide (V.str y=V.str x)=decide (y=x):=by
   by_cases z:y=x
   ·subst z;simp
   ·rw [decide_eq_false (λe=>z (V.str.inj e)),decide_eq_false z]
  rw [this];exact q'
 cases ru with
 | there=>exact st _ (C5 h) q
 | near=>exact st _ (C5 h) q
 | turned=>exact st _ (C5 h) q
 | round=>exact st _ (C5 h) q
 | told c =>
  refine Or.inr ⟨_,_,h,.str _,⟨?_,hx,?_⟩,q⟩
  ·show PyData.canLayAll0 [.str "told",M3 c]=true
   rw [PyData.canLayAll0,PyData.canLayAll0,Z5]
   decide +kernel
  ·show PyData.depthAll [.str "told",M3 c] + 1<=20
   rw [PyData.depthAll,PyData.depthAll,a1s]
   decide
theorem b7P {t:TT}{a b:TS}{D:a0x}{σ:St}{H:Hp}(P:Bool->Hp->Prop)(key:∀ c H1,P c H1->if c=true then a D σ H1 else b D σ H1)(test:∀ Q:Bool->Hp->Prop,(∀ c H1,P c H1->Q c H1)->t σ H Q):c8i t a b D σ H:=test _ key
theorem a5L {H:Hp}{v:V}:∀ {c:Option Int},IsD H v (M3 c)->v=j9 c
 | none,h=>by cases h;rfl
 | some _,h=>by cases h;rfl
noncomputable def b1Q:Sp:=λvs H Q _=>∃ (fv wv rv:V) (F:List (List (Option Int))) (ru:C3) (u d l r:Nat) (i j:Int),vs=[fv,wv,rv,.int i,.int j]/\U6 F/\IsD H fv (B2 F)/\IsD H wv (a2P u d l r)/\IsD H rv (X8 ru)/\(-(2 ^ 40) < i/\i < 2 ^ 40)/\(-(2 ^ 40) < j/\j < 2 ^ 40)/\(u<=100/\d<=100/\l<=100/\r<=100) /\
 ∀ (p:Addr) (H':Hp),n6 H H'->H' p=some (.lst ((wc F ru u d l r i j).map j9))->Q (.ref p) H'
theorem a0p (T:Txt K mg C):Df P w K mg base 2 "_law_window_at" ["field","window","rule","i","j"] b1Q:=by
 refine T.d_law_window_at.ok r6 .(29) .(30)
 ·obtain ⟨fv,wv,rv,F,ru,u,d,l,r,i,j,rfl,_⟩:=h
  rfl
 ·obtain ⟨fv,wv,rv,F,ru,u,d,l,r,i,j,rfl,R,hf,hw,hru,bi,bj,⟨bu,bd,bl,br⟩,q⟩:=h;refine ⟨_,.(2 .(19 (pv 1) (b4v (K:=K) rfl rfl (o6 (m9 (i:=5) r6.nd rfl .(27)) (o6 (m9 (i:=6) r6.nd rfl .(27)) (o6 (m9 (i:=7) r6.nd rfl .(27)) (o6 (m9 (i:=8) r6.nd rfl .(27)) P9)))))) .(2 .(8 9 r6.nd .(6 a7) (by first | exact .inl rfl | exact .inr rfl)) .(2 .(18 PassesOwn.never (a0Y .(23) T.n_range .(1 .(5 O3 (pv 3) (pv 5)) .(1 .(5 B8 .(5 B8 (pv 3) (pv 6)) b6) a7 m5) m5)) (m9 (i:=10) r6.nd rfl .(27)) .(3 .(18 PassesOwn.never (a0Y .(23) T.n_range .(1 .(5 O3 (pv 4) (pv 7)) .(1 .(5 B8 .(5 B8 (pv 4) (pv 8)) b6) a7 m5) m5)) (m9 (i:=11) r6.nd rfl .(27)) .(2 .(8 12 r6.nd .(4 (a8F T) .(0 (pv 2) .(0 (pv 10) .(1 .(11 (m6 (K:=K) rfl) T.n_len x9 .(0 (pv 0) a7)) a7 c8)))) (by first | exact .inl rfl | exact .inr rfl)) .(2 .(8 13 r6.nd .(4 (a8F T) .(0 (pv 2) .(0 (pv 11) .(1 .(11 (m6 (K:=K) rfl) T.n_len x9 .(1 .(9 (d8 (K:=K) rfl) (pv 0) b6) a7 k9)) a7 c8)))) (by first | exact .inl rfl | exact .inr rfl)) .(3 .(10 (Z9 (a9D a2z a6R b6 (pv 12) .(11 (m6 (K:=K) rfl) T.n_len x9 .(0 (pv 0) a7))) (S0 (a9D a2z a6R b6 (pv 13) .(11 (m6 (K:=K) rfl) T.n_len x9 .(1 .(9 (d8 (K:=K) rfl) (pv 0) b6) a7 k9))))).pt .(3 .(16 .(20 PySem.F.plainAttrs_list PySem.F.slot_list_append PySem.F.type_list_append M5 (pv 9) .(1 .(9 (d8 (K:=K) rfl) .(9 (d8 (K:=K) rfl) (pv 0) (pv 12)) (pv 13)) a7 k9)))) .(3 .(10 .(12 (b6d hr.units) (pv 2) b8 (j8 _)) .(3 .(16 .(20 PySem.F.plainAttrs_list PySem.F.slot_list_append PySem.F.type_list_append M5 (pv 9) .(1 .(9 (d8 (K:=K) rfl) (pv 2) b6) a7 k9)))) i7))))))))) .(3 .(7 (pv 9)))))),?_⟩
  obtain ⟨wa,rfl,hwa⟩:=a5o hw;have h1:=R.h1;have hs:=R.hs;have w1:=R.w1;have ws:=R.ws;obtain ⟨fa,xs,b0,ys0,rfl,hfa,la,hb0,hb,lb⟩:=G0 R hf;refine ⟨_,rfl,_,_,rfl,SqT.of hwa,rfl,?_⟩;refine ⟨_,_,rfl,_,_,rfl,_,_,rfl,_,_,rfl,rfl,?_⟩;refine ⟨(by show 0<=sizeLine;decide),λc hc=>?_⟩;have s1:=c4 (o:=.lst []) hc;have hc1:upd H c (.lst []) c=some (.lst []):=b7;have oldne:∀ b o,H b=some o->b≠c:=λb o e=>d6 e hc;have keepH:∀ {H':Hp},d3 c (upd H c (.lst [])) H'->n6 H H':=λk b o e=>k b o (s1 b o e) (oldne b o e);generalize upd H c (.lst [])=H1 at s1 hc1 keepH ⊢;refine ⟨_,rfl,_,rfl,_,_,rfl,rfl,_,rfl,_,rfl,_,_,rfl,rfl,_,_,rfl,rfl,?_⟩;refine ⟨_,_,rfl,⟨by omega,by omega,by omega,by omega⟩,?_⟩;have eu:(i + (d:Int) + 1 - (i - (u:Int))).toNat=u + d + 1:=by omega
  rw [eu];have len:∀ k m:Nat,k<=u + d + 1->m<=l + r + 1->∀ row:Int,(((List.range k).flatMap λa=>E3 F ru l r (i - u + (a:Nat)) j) ++ (List.range m).flatMap λb=>A1 F ru row (j - l + (b:Nat))).length <= 50000:=λk m hk hm row=>by
   have l1:=M1 (λa=>E3 F ru l r (i - u + (a:Nat)) j) (m:=201) (λk=>Nat.le_trans (a9q _ _ _ _ _ _) .(25)) k;have l2:=M1 (λb=>A1 F ru row (j - l + (b:Nat))) (m:=1) (λk=>a5p _ _ _ _) m;have l4:k * 201<=201 * 201:=Nat.mul_le_mul_right _ .(25);rw [List.length_append]
   omega
  refine M8 (n:=u + d + 1) (λa σ H'=>∃ (v10 v11 v12 v13:Option V),σ=[some (.ref fa),some (.ref wa),some rv,some (.int i),some (.int j),some (.int u),some (.int d),some (.int l),some (.int r),some (.ref c),v10,v11,v12,v13]/\d3 c H1 H' /\
    H' c=some (.lst (((List.range a).flatMap λa=>E3 F ru l r (i - u + (a:Nat)) j).map j9))) ⟨none,none,none,none,rfl,d3.refl _ _,hc1⟩ ?_ ?_
  ·rintro a _ H4 ha ⟨v10,v11,v12,v13,rfl,k4,hc4⟩;refine ⟨_,rfl,_,rfl,_,_,rfl,rfl,_,rfl,_,rfl,_,_,rfl,rfl,_,_,rfl,rfl,?_⟩;refine ⟨_,_,rfl,⟨by omega,by omega,by omega,by omega⟩,?_⟩;have ev:(j + (r:Int) + 1 - (j - (l:Int))).toNat=l + r + 1:=by omega
   rw [ev];refine M8 (n:=l + r + 1) (λb σ H'=>∃ (v11 v12 v13:Option V),σ=[some (.ref fa),some (.ref wa),some rv,some (.int i),some (.int j),some (.int u),some (.int d),some (.int l),some (.int r),some (.ref c),some (.int (i - u + (a:Nat))),v11,v12,v13]/\d3 c H1 H' /\
     H' c=some (.lst ((((List.range a).flatMap λa=>E3 F ru l r (i - u + (a:Nat)) j) ++ (List.range b).flatMap λb=>A1 F ru (i - u + (a:Nat)) (j - l + (b:Nat))).map j9))) ⟨v11,v12,v13,rfl,k4,by rw [hc4];simp⟩ ?_ ?_
   ·rintro b _ H5 hb5 ⟨v11,v12,v13,rfl,k5,hc5⟩;have S5:=keepH k5;have hfa5:=S5 _ _ hfa;have hb5':=S5 _ _ hb;refine ⟨_,rfl,_,rfl,_,rfl,_,_,rfl,Or.inr ⟨_,SqT.of hfa5,rfl⟩,?_⟩;refine ⟨rv,ru,_,_,rfl,hru.keep S5.tups,by omega,by omega,?_⟩;dsimp only [q0,List.set];refine ⟨_,rfl,_,rfl,_,rfl,Or.inr (Or.inl ⟨_,_,_,_,rfl,rfl,SqT.of hfa5,hb0,_,_,rfl,Or.inr ⟨_,SqT.of hb5',rfl⟩,?_⟩)⟩;refine ⟨rv,ru,_,_,rfl,hru.keep S5.tups,by omega,by omega,?_⟩;dsimp only [q0,List.set];rw [la,lb];obtain ⟨in1,in2⟩:=b9C R ru (i - u + (a:Nat)) (j - l + (b:Nat));have e0:(0:Int)=0:=rfl;generalize a5y ru (i - u + (a:Nat)) F.length=ro at in1 in2 ⊢;generalize a5y ru (j - l + (b:Nat)) (F.headD []).length=co at in1 in2 ⊢;have lenA:=len a b .(25) .(25) (i - u + (a:Nat));have grow:∀ x:Option Int,A1 F ru (i - u + (a:Nat)) (j - l + (b:Nat))=[x]->d3 c H1 (upd H5 c (.lst ((((List.range a).flatMap λa=>E3 F ru l r (i - u + (a:Nat)) j) ++ (List.range b).flatMap λb=>A1 F ru (i - u + (a:Nat)) (j - l + (b:Nat))).map j9 ++ [j9 x])))/\upd H5 c (.lst ((((List.range a).flatMap λa=>E3 F ru l r (i - u + (a:Nat)) j) ++ (List.range b).flatMap λb=>A1 F ru (i - u + (a:Nat)) (j - l + (b:Nat))).map j9 ++ [j9 x])) c=some (.lst ((((List.range a).flatMap λa=>E3 F ru l r (i - u + (a:Nat)) j) ++ (List.range (b + 1)).flatMap λb=>A1 F ru (i - u + (a:Nat)) (j - l + (b:Nat))).map j9)):=λx hx=>by
     refine ⟨λb' o e n=>by rw [j4 n];exact k5 b' o e n,?_⟩;rw [b7,M9,hx];simp only [List.map_append,List.append_assoc,List.map_cons,List.map_nil]
    have fits:((((List.range a).flatMap λa=>E3 F ru l r (i - u + (a:Nat)) j) ++ (List.range b).flatMap λb=>A1 F ru (i - u + (a:Nat)) (j - l + (b:Nat))).map j9).length < sizeLine:=by
     rw [List.length_map];exact Nat.lt_of_lt_of_le (show _ < 60000 by omega) .(24)
    refine b7P (λc' H'=>H'=H5/\c'=inF F ro co) (λc' H' ⟨eh,ec⟩=>?_) (λQ' hQ=>?_)
    ·subst eh;cases c' with
     | true =>
      have hin:inF F ro co=true:=ec.symm;have st:=in1 hin;unfold inF at hin;simp only [Bool.and_eq_true,decide_eq_true_eq] at hin;obtain ⟨⟨r0,r1⟩,c0,c1⟩:=hin;obtain ⟨rn,rfl⟩:∃ m:Nat,ro=(m:Int):=⟨ro.toNat,by omega⟩;obtain ⟨cn,rfl⟩:∃ m:Nat,co=(m:Int):=⟨co.toNat,by omega⟩;obtain ⟨fa',xs',ra,ys,ef,e1,e2,e3,e4⟩:=field_cell (i:=rn) (j:=cn) R (hf.keep S5.tups) .(25) .(25);cases ef;rw [hfa5] at e1;cases e1;refine C6 ?_;refine ⟨_,rfl,Or.inl ⟨rfl,_,SqL.of hc5⟩,?_⟩;refine ⟨_,rfl,_,rfl,Or.inr (Or.inl ⟨_,_,_,_,rfl,rfl,SqT.of hfa5,e2,?_⟩)⟩;refine ⟨_,rfl,Or.inr (Or.inl ⟨_,_,_,_,rfl,rfl,SqT.of e3,e4,?_⟩)⟩;refine ⟨_,_,_,rfl,rfl,hc5,fits,?_⟩;obtain ⟨g1,g2⟩:=grow _ st;exact ⟨_,_,_,rfl,g1,g2⟩
     | false =>
      refine y7 ?_
      rcases in2 ec.symm with ⟨rfl,st⟩ | ⟨x,rfl,st⟩
      ·refine ⟨_,rfl,b0w (hru.keep S5.tups) .(28) ⟨_,rfl,A7 (λz=>absurd z .(28)) (λ_=>?_)⟩⟩;refine ⟨_,_,_,rfl,k5,?_⟩;rw [hc5,M9,st,List.append_nil]
      ·obtain ⟨ra,zs,e1,e2,e3⟩:=(hru.keep S5.tups).tuple_inv;cases e3 with | cons y1 e3=>cases e3 with | cons y2 e3=>cases e3 with
       | nil =>
        refine ⟨_,rfl,b0w (hru.keep S5.tups) .(28) ⟨_,rfl,A7 (λ_=>?_) (λz=>absurd rfl z)⟩⟩;have y3:=a5L y2;subst e1 y3;refine ⟨_,rfl,Or.inl ⟨rfl,_,SqL.of hc5⟩,?_⟩;refine ⟨_,rfl,Or.inr (Or.inl ⟨_,_,_,_,rfl,rfl,SqT.of e2,rfl,?_⟩)⟩;refine ⟨_,_,_,rfl,rfl,hc5,fits,?_⟩;obtain ⟨g1,g2⟩:=grow _ st;exact ⟨_,_,_,rfl,g1,g2⟩
    ·have no1:¬ (0<=ro/\ro < F.length)->inF F ro co=false:=λh=>Bool.eq_false_iff.mpr λz=>h (by unfold inF at z;simp only [Bool.and_eq_true,decide_eq_true_eq] at z;exact z.1);have no2:¬ (0<=co/\co < (F.headD []).length)->inF F ro co=false:=λh=>Bool.eq_false_iff.mpr λz=>h (by unfold inF at z;simp only [Bool.and_eq_true,decide_eq_true_eq] at z;exact z.2);have yes:0<=ro->ro < F.length -> 0<=co->co < (F.headD []).length -> inF F ro co=true:=λh1 h2 h3 h4=>by unfold inF;rw [decide_eq_true h1,decide_eq_true h2,decide_eq_true h3,decide_eq_true h4];rfl
     refine ⟨_,rfl,_,_,rfl,rfl,_,rfl,A7 (λz1=>?_) (λz1=>?_)⟩
     ·refine ⟨_,rfl,_,_,rfl,Or.inr ⟨_,SqT.of hfa5,rfl⟩,_,_,rfl,rfl,_,rfl,?_⟩;rw [la];refine A7 (λz2=>?_) (λz2=>?_)
      ·refine ⟨_,rfl,_,_,rfl,rfl,_,rfl,A7 (λz3=>?_) (λz3=>?_)⟩
       ·refine ⟨_,rfl,Or.inr (Or.inl ⟨_,_,_,_,rfl,rfl,SqT.of hfa5,hb0,_,_,rfl,Or.inr ⟨_,SqT.of hb5',rfl⟩,_,_,rfl,rfl,_,rfl,?_⟩)⟩;refine hQ _ _ ⟨rfl,?_⟩;rw [lb]
        by_cases z4:co < (F.headD []).length
        ·rw [decide_eq_true z4,yes (of_decide_eq_true z1) (of_decide_eq_true z2) (of_decide_eq_true z3) z4]
        ·rw [decide_eq_false z4,no2 λh=>z4 h.2]
       ·exact ⟨_,rfl,hQ _ _ ⟨rfl,(no2 λh=>z3 (decide_eq_true h.1)).symm⟩⟩
      ·exact hQ _ _ ⟨rfl,(no1 λh=>z2 (decide_eq_true h.2)).symm⟩
     ·exact ⟨_,rfl,y7 (hQ _ _ ⟨rfl,(no1 λh=>z1 (decide_eq_true h.1)).symm⟩)⟩
   ·rintro _ H5 ⟨v11,v12,v13,rfl,k5,hc5⟩;refine ⟨_,_,_,_,rfl,k5,?_⟩;rw [hc5,M9 _ a]
    rfl
  ·rintro _ H4 ⟨v10,v11,v12,v13,rfl,k4,hc4⟩;exact ⟨_,rfl,q c _ (keepH k4) hc4⟩
noncomputable def b1F:Sp:=λvs H Q _=>∃ (p:Addr) (sv:V) (cs:List (Option Int)) (a b:Int),vs=[.ref p,sv]/\H p=some (.lst (cs.map j9))/\cs.length <= 50000/\IsD H sv (a9m (a,b))/\a4p a b/\∀ H',n6 H H'->Q (j9 (M7 (cs.filterMap id) a b)) H'
theorem a8L (T:Txt K mg C):Df P w K mg base 1 "_law_told" ["cells","share"] b1F:=by
 refine T.d_law_told.ok a5K .(29) .(30)
 ·obtain ⟨p,sv,cs,a,b,rfl,_⟩:=h
  rfl
 ·obtain ⟨p,sv,cs,a',b',rfl,hp,hl,hs,hS,q⟩:=h;refine ⟨_,.(2 .(8 2 a5K.nd .(11 a5M T.n_sorted b4a .(1 (w5 (M:=[]) (idx:=[]) rfl (A9 (K:=K) rfl (pv 0)) (J2 (by kernel_rfl)) .(28) .(27) (λ_ _ _ _ _=>b3v .(12 b8v (pv 0) Q0 (j8 _))) (λ_ _ _ _ _=>(pv 0))) a7 A4)) (by first | exact .inl rfl | exact .inr rfl)) .(2 .(10 .(12 (b9q hr.units) (pv 2) .(6 a7) (j8 _)) .(3 .(7 Q0)) i7) .(3 .(7 .(9 (d8 (K:=K) rfl) (pv 2) .(5 a4E .(5 R7 .(9 (d8 (K:=K) rfl) (pv 1) b6) .(5 O3 .(11 (m6 (K:=K) rfl) T.n_len x9 .(0 (pv 2) a7)) b6)) .(9 (d8 (K:=K) rfl) (pv 1) b6))))))),?_⟩
  obtain ⟨sa,rfl,hsa⟩:=Z1 hs;refine b3a (K:=K) (xs:=cs.map j9) (λk h=>⟨_,rfl,h⟩) (.inr hp) (λi ys H'=>H'=H/\ys=((cs.take i).filterMap id).map V.int) ⟨rfl,rfl⟩ (by rw [List.length_map];exact Nat.le_trans hl .(24)) (λi ys H' _ ⟨e,_⟩=>by rw [e]) ?_ ?_
  ·rintro i x ys _ hx ⟨rfl,rfl⟩;obtain ⟨c,ec,rfl⟩:=b8f hx;rw [List.take_add_one,ec,List.filterMap_append,List.map_append];cases c with
   | none =>
    refine ⟨_,rfl,rfl,_,rfl,?_⟩;refine y7 ?_;exact ⟨rfl,by simp⟩
   | some n =>
    refine ⟨_,rfl,rfl,_,rfl,?_⟩;refine C6 ?_;exact ⟨_,rfl,rfl,rfl⟩
  ·rintro ys H0 ⟨eH,rfl⟩ l2 hl2;subst eH;rw [List.length_map,List.take_length];have ln:(cs.filterMap id).length <= 50000:=Nat.le_trans (List.length_filterMap_le _ _) hl;generalize cs.filterMap id=ns at q ln ⊢;have s2:=c4 (o:=.lst (ns.map V.int)) hl2;have e2:upd H0 l2 (.lst (ns.map V.int)) l2=some (.lst (ns.map V.int)):=b7;generalize upd H0 l2 (.lst (ns.map V.int))=H2 at s2 e2 ⊢;refine ⟨l2,ns,rfl,Or.inr e2,λl3 hl3=>?_⟩;have s3:=c4 (o:=.lst ((B4 ns).map V.int)) hl3;have e3:upd H2 l3 (.lst ((B4 ns).map V.int)) l3=some (.lst ((B4 ns).map V.int)):=b7;generalize upd H2 l3 (.lst ((B4 ns).map V.int))=H3 at s3 e3 ⊢;dsimp only [q0,List.set];have S3:=s2.trans s3;refine ⟨_,rfl,(by show 0<=sizeLine;decide),λp5 hp5=>?_⟩;have s5:=c4 (o:=.lst []) hp5;have e5:=s5 _ _ e3;have S5:=S3.trans s5;refine Or.inr (b6l (cs:=(B4 ns).map some) (by rw [e5,b2L]) b7 ⟨_,rfl,?_⟩);generalize upd H3 p5 (.lst [])=H5 at s5 e5 S5 ⊢;have ll:(B4 ns).length=ns.length:=R1 ns
   by_cases z:ns=[]
   ·subst z;rw [a0L] at q;have en:B4 []=[]:=List.length_eq_zero_iff.mp (by rw [R1];rfl);rw [decide_eq_true (show (B4 []).map some=[] by rw [en];rfl)];exact C6 (q _ S5)
   ·have z':¬ B4 ns=[]:=λe=>z (List.length_eq_zero_iff.mp (by rw [← ll,e];rfl));rw [decide_eq_false (show ¬ (B4 ns).map some=[] from λe=>z' (List.map_eq_nil_iff.mp e))];refine y7 ?_;obtain ⟨h',em⟩:=a4r hS z;rw [em] at q;have lp:1<=ns.length:=List.length_pos_iff.mpr z;obtain ⟨pb0,pb1⟩:=a2r (n:=ns.length) hS lp;obtain ⟨q1,q2,q3,q4⟩:=hS;refine ⟨_,rfl,_,rfl,Or.inr (Or.inl ⟨_,_,_,_,rfl,rfl,SqT.of (S5 _ _ hsa),rfl,?_⟩)⟩;refine ⟨_,rfl,_,_,rfl,Or.inl ⟨_,SqL.of e5,rfl⟩,_,_,rfl,rfl,_,_,rfl,rfl,Or.inl ⟨by show -(2 ^ 64) < a';omega,by show a' < 2 ^ 64;omega⟩,?_⟩;refine ⟨_,rfl,Or.inr (Or.inl ⟨_,_,_,_,rfl,rfl,SqT.of (S5 _ _ hsa),rfl,_,_,rfl,rfl,⟨by show 0 < b';omega,by show b' < 2 ^ 62;omega⟩,?_⟩)⟩;refine Or.inl ⟨_,_,_,_,rfl,rfl,SqL.of e5,?_,q _ S5⟩;have e1:a' * ((((B4 ns).map V.int).length:Int) - 1) / b'=(((G5 ns.length a' b').toNat:Nat):Int):=by
     rw [List.length_map,ll,Int.toNat_of_nonneg pb0];rfl
    show atI ((B4 ns).map V.int) (a' * ((((B4 ns).map V.int).length:Int) - 1) / b')=_
    rw [e1];exact B0 (by rw [List.getElem?_map,List.getElem?_eq_getElem h'];rfl)
noncomputable def a9U:Sp:=λvs H Q _=>∃ (fv wv rv sv:V) (F:List (List (Option Int))) (ru:C3) (u d l r:Nat) (a b:Int),vs=[fv,wv,rv,sv]/\U6 F/\IsD H fv (B2 F)/\IsD H wv (a2P u d l r)/\IsD H rv (X8 ru)/\IsD H sv (a9m (a,b))/\a4p a b /\
 (u<=100/\d<=100/\l<=100/\r<=100)/\∀ (v:V) (H':Hp),n6 H H'->IsD H' v (B2 (fil F ru u d l r a b))->Q v H'
theorem a0t (T:Txt K mg C):Df P w K mg base 3 "_law_filtered" ["field","window","rule","share"] a9U:=by
 refine T.d_law_filtered.ok F2 .(29) .(30)
 ·obtain ⟨fv,wv,rv,sv,F,ru,u,d,l,r,a,b,rfl,_⟩:=h
  rfl
 ·obtain ⟨fv,wv,rv,sv,F,ru,u,d,l,r,a,b,rfl,R,hf,hw,hru,hs,hS,bb,q⟩:=h;obtain ⟨fa,xs,b0,ys0,rfl,hfa,la,hb0,hb,lb⟩:=G0 R hf;have hW:=R.ws;have hH:=R.hs;refine ⟨_,.(2 .(8 4 F2.nd .(6 a7) (by first | exact .inl rfl | exact .inr rfl)) .(2 .(18 PassesOwn.never (O7 .(23) T.n_range .(1 .(11 (m6 (K:=K) rfl) T.n_len x9 .(0 (pv 0) a7)) a7 c8)) (m9 (i:=5) F2.nd rfl .(27)) .(2 .(8 6 F2.nd .(6 a7) (by first | exact .inl rfl | exact .inr rfl)) .(2 .(18 PassesOwn.never (O7 .(23) T.n_range .(1 .(11 (m6 (K:=K) rfl) T.n_len x9 .(1 .(9 (d8 (K:=K) rfl) (pv 0) b6) a7 k9)) a7 c8)) (m9 (i:=7) F2.nd rfl .(27)) .(2 .(8 8 F2.nd .(4 (a0p T) .(0 (pv 0) .(0 (pv 1) .(0 (pv 2) .(0 (pv 5) .(0 (pv 7) a7)))))) (by first | exact .inl rfl | exact .inr rfl)) .(3 .(16 .(20 PySem.F.plainAttrs_list PySem.F.slot_list_append PySem.F.type_list_append M5 (pv 6) .(1 .(4 (a8L T) .(0 (pv 8) .(0 (pv 3) a7))) a7 c8)))))) .(3 .(16 .(20 PySem.F.plainAttrs_list PySem.F.slot_list_append PySem.F.type_list_append M5 (pv 4) .(1 .(15 (A5 (K:=K) rfl) T.n_tuple G1 .(0 (pv 6) a7)) a7 c8))))))) .(3 .(7 .(15 (A5 (K:=K) rfl) T.n_tuple G1 .(0 (pv 4) a7)))))),?_⟩
  refine ⟨(by show 0<=sizeLine;decide),λc hc=>?_⟩;have s1:=c4 (o:=.lst []) hc;have oldne:∀ b o,H b=some o->b≠c:=λb o e=>d6 e hc;have keepH:∀ {H':Hp},d3 c (upd H c (.lst [])) H'->n6 H H':=λk b o e=>k b o (s1 b o e) (oldne b o e);refine ⟨_,rfl,_,_,rfl,Or.inr ⟨_,SqT.of (s1 _ _ hfa),rfl⟩,_,rfl,by omega,by omega,?_⟩;have hc1:upd H c (.lst []) c=some (.lst []):=b7;generalize upd H c (.lst [])=H1 at s1 hc1 keepH ⊢;refine M8 (n:=((xs.length:Nat):Int).toNat) (λi σ H'=>∃ (v5 v6 v7 v8:Option V) (ys:List V),σ=[some (.ref fa),some wv,some rv,some sv,some (.ref c),v5,v6,v7,v8]/\d3 c H1 H'/\H' c=some (.lst ys)/\IsDs H' ys (((fil F ru u d l r a b).take i).map a4y)) ⟨none,none,none,none,[],rfl,d3.refl _ _,hc1,.nil⟩ ?_ ?_
  ·rintro i _ H2 hi ⟨v5,v6,v7,v8,ys,rfl,k2,hc2,hys⟩;have hi':i < F.length:=by
    have:i < ((xs.length:Nat):Int).toNat:=hi
    omega
   have S2:=keepH k2;have e0:(0:Int) + (i:Int)=(i:Int):=by omega
   rw [e0];refine ⟨(by show 0<=sizeLine;decide),λe he=>?_⟩;have s3:=c4 (o:=.lst []) he;have ne:e≠c:=(d6 hc2 he).symm;have he3:upd H2 e (.lst []) e=some (.lst []):=b7;have hc3:=s3 _ _ hc2;have hys3:=hys.keep s3.tups;have S3:=S2.trans s3;have K3:d3 c H1 (upd H2 e (.lst [])):=λb' o e' n=>s3 _ _ (k2 b' o e' n);have old3:∀ b' o,H2 b'=some o->b'≠e:=λb' o e'=>d6 e' he;generalize upd H2 e (.lst [])=H3 at s3 he3 hc3 hys3 S3 K3 ⊢;refine ⟨_,rfl,Or.inr (Or.inl ⟨_,_,_,_,rfl,rfl,SqT.of (S3 _ _ hfa),hb0,_,_,rfl,Or.inr ⟨_,SqT.of (S3 _ _ hb),rfl⟩,_,rfl,by omega,by omega,?_⟩)⟩;have eW:((ys0.length:Nat):Int).toNat=E8 F:=by
    have:E8 F=(F.headD []).length:=rfl
    omega
   rw [eW];refine M8 (n:=E8 F) (λj σ H'=>∃ (v7 v8:Option V),σ=[some (.ref fa),some wv,some rv,some sv,some (.ref c),some (.int i),some (.ref e),v7,v8]/\d3 e H3 H'/\H' e=some (.lst (((List.range j).map λj:Nat=>L5 F ru u d l r a b (i:Int) (j:Int)).map j9))) ⟨v7,v8,rfl,d3.refl _ _,he3⟩ ?_ ?_
   ·rintro j _ H4 hj ⟨v7,v8,rfl,k4,he4⟩;have hj':j < (F.headD []).length:=hj;have S4:n6 H H4:=λb' o e'=>k4 b' o (S3 b' o e') (old3 _ _ (S2 _ _ e'));have e0:(0:Int) + (j:Int)=(j:Int):=by omega
    rw [e0];refine ⟨_,rfl,_,rfl,_,rfl,_,rfl,_,rfl,?_⟩;refine ⟨_,wv,rv,F,ru,u,d,l,r,_,_,rfl,R,hf.keep S4.tups,hw.keep S4.tups,hru.keep S4.tups,⟨by omega,by omega⟩,⟨by omega,by omega⟩,bb,λp H5 s5 hp=>?_⟩;dsimp only [q0,List.set];have wl:=b4b F ru u d l r (i:Int) (j:Int);have wl2:(u + d + 1) * (l + r + 1)<=201 * 201:=Nat.mul_le_mul .(25) .(25);refine ⟨_,rfl,Or.inl ⟨rfl,_,SqL.of (s5 _ _ he4)⟩,?_⟩;refine ⟨_,rfl,_,rfl,p,sv,_,a,b,rfl,hp,by omega,(hs.keep S4.tups).keep s5.tups,hS,λH6 s6=>?_⟩;have he6:=s6 _ _ (s5 _ _ he4);refine ⟨_,_,_,rfl,rfl,he6,?_,?_⟩
    ·rw [List.length_map,List.length_map,List.length_range];exact Nat.lt_of_lt_of_le (show j < 1001 by omega) .(24)
    ·refine ⟨_,_,rfl,λb' o e' n=>?_,?_⟩
     ·rw [j4 n];exact s6 _ _ (s5 _ _ (k4 b' o e' n))
     ·rw [b7,List.range_succ,List.map_append,List.map_append]
      rfl
   ·rintro _ H4 ⟨v7,v8,rfl,k4,he4⟩;have hc4:=k4 _ _ hc3 ne.symm;refine ⟨_,rfl,Or.inl ⟨rfl,_,SqL.of hc4⟩,_,rfl,_,_,rfl,Or.inl ⟨SqL.of he4,λt ht=>?_⟩⟩;have st:=c4 (o:=.tup (((List.range (E8 F)).map λj:Nat=>L5 F ru u d l r a b (i:Int) (j:Int)).map j9)) ht;have hct:=st _ _ hc4;have ly:ys.length=i:=by rw [hys.length,List.length_map,List.length_take,T1];omega
    refine ⟨_,_,_,rfl,rfl,hct,(by rw [ly];exact Nat.lt_of_lt_of_le (show i < 1001 by omega) .(24)),?_⟩;refine ⟨_,_,_,_,ys ++ [.ref t],rfl,λb' o e' n=>?_,b7,?_⟩
    ·rw [j4 n];exact st _ _ (k4 b' o (K3 b' o e' n) (old3 b' o (k2 b' o e' n)))
    ·rw [List.take_add_one,a9O hi',List.map_append];have tt:t≠c:=(d6 hc4 ht).symm;have u1:upd (upd H4 t (.tup (((List.range (E8 F)).map λj:Nat=>L5 F ru u d l r a b (i:Int) (j:Int)).map j9))) c (.lst (ys ++ [.ref t])) t=some (.tup (((List.range (E8 F)).map λj:Nat=>L5 F ru u d l r a b (i:Int) (j:Int)).map j9)):=by rw [j4 tt];exact b7
     have kt:∀ b' zs,H3 b'=some (.tup zs)->upd (upd H4 t (.tup (((List.range (E8 F)).map λj:Nat=>L5 F ru u d l r a b (i:Int) (j:Int)).map j9))) c (.lst (ys ++ [.ref t])) b'=some (.tup zs):=λb' zs e'=>by
      have n1:b'≠c:=U2 e' hc3 λz=>by cases z
      have n2:b'≠e:=U2 e' he3 λz=>by cases z
      rw [j4 n1];exact st _ _ (k4 _ _ e' n2)
     exact (hys3.keep kt).append (.cons (.tup u1 (T0 _)) .nil)
  ·rintro _ H2 ⟨v5,v6,v7,v8,ys,rfl,k2,hc2,hys⟩;refine ⟨_,rfl,_,_,rfl,Or.inl ⟨SqL.of hc2,λt ht=>?_⟩⟩;have st:=c4 (o:=.tup ys) ht;refine q (.ref t) _ ((keepH k2).trans st) (.tup b7 ?_);have:(fil F ru u d l r a b).take ((xs.length:Nat):Int).toNat=fil F ru u d l r a b:=List.take_of_length_le (by rw [T1];omega);rw [this] at hys;exact hys.keep st.tups
theorem word_none:c5 none=("." : Str):=by decide +kernel
noncomputable def b9E:Sp:=λvs H Q _=>∃ (c:Option Int),vs=[j9 c]/\a2t c/\Q (.str (c5 c)) H
theorem U5 (T:Txt K mg C):Df P w K mg base 1 "_law_word" ["cell"] b9E:=by
 refine T.d_law_word.ok b8i .(29) .(30)
 ·obtain ⟨c,rfl,_⟩:=h
  rfl
 ·obtain ⟨c,rfl,hc,q⟩:=h;refine ⟨_,.(2 .(10 .(12 b2I (pv 0) Q0 (j8 _)) .(3 .(7 b8)) i7) .(3 .(7 (a9v (Y9 (pv 0)))))),?_⟩
  cases c with
  | none =>
   refine ⟨_,rfl,rfl,_,rfl,C6 ?_⟩;rw [word_none] at q;exact q
  | some i =>
   refine ⟨_,rfl,rfl,_,rfl,y7 ?_⟩;refine ⟨_,rfl,i,rfl,F3 (hc i rfl),?_⟩;rw [C4];exact q
theorem W3 (T:Txt K mg C):Df P w K mg base 2 "_law_lines" ["field"] a6X:=by
 refine T.d_law_lines.ok b2c .(29) .(30)
 ·obtain ⟨fv,F,rfl,_⟩:=h
  rfl
 ·obtain ⟨fv,F,rfl,hf,R,q⟩:=h;obtain ⟨h0,h1,h2,h3,h4,h5⟩:=R;refine ⟨_,.(3 .(7 (w5 (M:=[]) (idx:=[]) rfl (A9 (K:=K) rfl (pv 0)) (J2 (by kernel_rfl)) .(28) .(27) (λ_ _ _ _ _=>F5) (λ_ _ _ _ _=>(G8 (K:=K) rfl PySem.F.plainAttrs_str PySem.F.slot_str_join PySem.F.type_str_join (F7 (K:=K) rfl) b8 .(1 (w5 (M:=[]) (idx:=[]) rfl (A9 (K:=K) rfl (pv 0)) (J2 (by kernel_rfl)) .(28) .(27) (λ_ _ _ _ _=>F5) (λ_ _ _ _ _=>.(4 (U5 T) .(0 (pv 0) a7)))) a7 A4)))))),?_⟩;obtain ⟨fa,xs,rfl,hfa,hxs⟩:=E1 hf;have lxs:xs.length=F.length:=by rw [hxs.length,List.length_map]
  refine Or.inr ?_;refine ⟨_,rfl,_,rfl,⟨_,SqT.of hfa⟩,?_⟩;refine O8 (xs:=xs) (λj zs H'=>n6 H H'/\zs=(F.take j).map (V.str ∘ o5)) ⟨n6.refl _,rfl⟩ (by rw [lxs];exact Nat.le_trans h1 .(24)) (λj zs H' _ ⟨s,_⟩=>SqT.of (s _ _ hfa)) ?_ ?_
  ·rintro k y zs H1 hy ⟨s1,rfl⟩;have kF:k < F.length:=by rw [← lxs];exact (List.getElem?_eq_some_iff.mp hy).1
   obtain ⟨ra,er,hra⟩:=G2 hxs kF;rw [hy] at er;cases er;have eg:F[k]? = some F[k]:=List.getElem?_eq_getElem kF;have hm:=List.getElem_mem kF;generalize F[k]=r at hra eg hm;have hra1:=s1 _ _ hra;have lr:=h2 r hm;refine a5E ?_;refine ⟨rfl,?_⟩;refine Or.inr ?_;refine ⟨_,rfl,_,rfl,⟨_,SqT.of hra1⟩,?_⟩;refine O8 (xs:=r.map j9) (λj zs H'=>H'=H1/\zs=((r.take j).map c5).map V.str) ⟨rfl,rfl⟩ (by rw [List.length_map,lr];exact Nat.le_trans h4 .(24)) (λj zs H' _ ⟨e,_⟩=>by rw [e];exact SqT.of hra1) ?_ ?_
   ·rintro j y zs _ hy2 ⟨rfl,rfl⟩;obtain ⟨cl,ec,rfl⟩:∃ cl,r[j]? = some cl/\j9 cl=y:=by
     rw [List.getElem?_map] at hy2;cases e:r[j]? with
     | none=>rw [e] at hy2;cases hy2
     | some cl=>rw [e] at hy2;exact ⟨cl,rfl,Option.some.inj hy2⟩
    refine a5E ?_;refine ⟨_,rfl,cl,rfl,h5 r hm cl (List.mem_of_getElem? ec),rfl,?_⟩;rw [List.take_add_one,ec,List.map_append,List.map_append]
    rfl
   ·rintro zs H2 ⟨e2,rfl⟩ l2 hl2;subst e2;rw [List.length_map,List.take_of_length_le (Nat.le_refl _)];refine ⟨_,_,r.map c5,rfl,rfl,SqL.of b7,?_,?_⟩
    ·have:=a1x (m:=11) (r.map c5) (λx hx=>by
      obtain ⟨c,hc,rfl⟩:=List.mem_map.mp hx;exact E2 (h5 r hm c hc))
     rw [List.length_map] at this ⊢;have e1:((" " : Str)).length=1:=by decide +kernel
     rw [e1]
     omega
    ·rw [M4,a3X];refine ⟨s1.trans (c4 hl2),?_⟩;rw [List.take_add_one,eg,List.map_append]
     rfl
  ·rintro zs H2 ⟨s2,rfl⟩ l hl;rw [lxs,List.take_length];exact q l _ (s2.trans (c4 hl)) (s2.free hl) b7
noncomputable def b2R:Sp:=λvs H Q _=>∃ (wv fv:V) (F:List (List (Option Int))) (u d l r:Nat),vs=[wv,fv]/\U6 F/\IsD H fv (B2 F)/\IsD H wv (a2P u d l r)/\(u<=6/\d<=6/\l<=6/\r<=6) /\
 ∀ (v:V) (u' d' l' r':Nat) (H':Hp),n6 H H'->IsD H' v (a2P u' d' l' r')->u'<=6/\d'<=6/\l'<=6/\r'<=6->Q v H'
theorem b1D (c:Option Int):("edge told " : Str) ++ c5 c=o0 ["edge","told",c5 c]:=by
 refine N8 ?_;unfold o0;rw [B1];simp only [List.map_cons,List.map_nil,D5];have e1:("edge told " : Str).cps.toList=[101,100,103,101,32,116,111,108,100,32]:=by decide +kernel
 have e2:("edge" : Str).cps.toList=[101,100,103,101]:=by decide +kernel
 have e3:("told" : Str).cps.toList=[116,111,108,100]:=by decide +kernel
 rw [e2,e3]
 show (("edge told " : Str).cps ++ (c5 c).cps).toList=_
 rw [Array.toList_append,e1]
 rfl
noncomputable def c4b:Sp:=λvs H Q _=>∃ (rv:V) (ru:C3),vs=[rv]/\IsD H rv (X8 ru)/\(∀ c,ru = .told c->In9 c)/\Q (.str (o0 ("edge" :: Y8 ru))) H
theorem a2M (T:Txt K mg C):Df P w K mg base 2 "_law_edge" ["rule"] c4b:=by
 refine T.d_law_edge.ok b9i .(29) .(30)
 ·obtain ⟨rv,ru,rfl,_⟩:=h
  rfl
 ·obtain ⟨rv,ru,rfl,hru,hc,q⟩:=h;refine ⟨_,.(2 .(10 .(13 .(11 (A0 (K:=K) rfl) T.n_isinstance v0 .(0 (pv 0) .(0 (a3E (v:=.ty "str") .(23) T.n_str b7L rfl) a7)))) .(3 .(7 .(5 u6 b8 (pv 0)))) i7) .(3 .(7 .(5 u6 b8 .(4 (U5 T) .(1 .(9 (d8 (K:=K) rfl) (pv 0) b6) a7 k9)))))),?_⟩
  have k1:PySem.W.kitOne K (.type "str") (.type "str")=some true:=by kernel_rfl
  have k2:PySem.W.kitOne K (.type "tuple") (.type "str")=some false:=by kernel_rfl
  cases ru with
  | there =>
   have e:=C5 hru;subst e;refine ⟨_,rfl,_,"str","str",true,rfl,rfl,k1,_,rfl,C6 ?_⟩;refine ⟨_,rfl,_,_,rfl,rfl,.(28),?_⟩;rw [show ("edge " : Str) ++ ("there" : Str)=o0 ["edge","there"] by decide +kernel];exact q
  | near =>
   have e:=C5 hru;subst e;refine ⟨_,rfl,_,"str","str",true,rfl,rfl,k1,_,rfl,C6 ?_⟩;refine ⟨_,rfl,_,_,rfl,rfl,.(28),?_⟩;rw [show ("edge " : Str) ++ ("near" : Str)=o0 ["edge","near"] by decide +kernel];exact q
  | turned =>
   have e:=C5 hru;subst e;refine ⟨_,rfl,_,"str","str",true,rfl,rfl,k1,_,rfl,C6 ?_⟩;refine ⟨_,rfl,_,_,rfl,rfl,.(28),?_⟩;rw [show ("edge " : Str) ++ ("turned" : Str)=o0 ["edge","turned"] by decide +kernel];exact q
  | round =>
   have e:=C5 hru;subst e;refine ⟨_,rfl,_,"str","str",true,rfl,rfl,k1,_,rfl,C6 ?_⟩;refine ⟨_,rfl,_,_,rfl,rfl,.(28),?_⟩;rw [show ("edge " : Str) ++ ("round" : Str)=o0 ["edge","round"] by decide +kernel];exact q
  | told c =>
   obtain ⟨ra,zs,rfl,e2,e3⟩:=hru.tuple_inv;cases e3 with | cons y1 e3=>cases e3 with | cons y2 e3=>cases e3 with
   | nil =>
    have y3:=a5L y2;subst y3;refine ⟨_,rfl,_,"tuple","str",false,rfl,?_,k2,_,rfl,y7 ?_⟩
    ·exact .inl ⟨rfl,_,e2⟩
    ·refine ⟨_,rfl,Or.inr (Or.inl ⟨_,_,_,_,rfl,rfl,SqT.of e2,rfl,?_⟩)⟩;refine ⟨c,rfl,(hc c rfl).wide,?_⟩;refine ⟨_,_,rfl,rfl,?_,?_⟩
     ·have:=E2 (hc c rfl).wide;have e1:("edge told " : Str).length=10:=by decide +kernel
      rw [e1];exact Nat.le_trans (show _<=100 by omega) .(24)
     ·rw [b1D];exact q
noncomputable def m2 (n:Nat):Nat:=if 2 < n then 2 else n
theorem c8e (n:Nat):(if (2:Int) < (n:Int) then (2:Int) else (n:Int))=((m2 n:Nat):Int):=by
 unfold m2
 by_cases h:2 < n
 ·rw [if_pos h,if_pos .(25)];rfl
 ·rw [if_neg h,if_neg .(25)]
theorem b1w (n:Nat):m2 n<=2:=by unfold m2;split <;> omega
theorem a7T (T:Txt K mg C):Df P w K mg base 1 "_law_cut" ["window","field"] b2R:=by
 refine T.d_law_cut.ok b8p .(29) .(30)
 ·obtain ⟨wv,fv,F,u,d,l,r,rfl,_⟩:=h
  rfl
 ·obtain ⟨wv,fv,F,u,d,l,r,rfl,R,hf,hw,bb,q⟩:=h;refine ⟨_,.(2 .(10 .(12 a3Y .(5 R7 .(11 (m6 (K:=K) rfl) T.n_len x9 .(0 (pv 1) a7)) .(11 (m6 (K:=K) rfl) T.n_len x9 .(1 .(9 (d8 (K:=K) rfl) (pv 1) b6) a7 k9))) b6 (j8 _)) .(3 .(7 .(15 (A5 (K:=K) rfl) T.n_tuple G1 .(1 (w5 (M:=[]) (idx:=[]) rfl (A9 (K:=K) rfl (pv 0)) (J2 (by kernel_rfl)) .(28) .(27) (λ_ _ _ _ _=>F5) (λ_ _ _ _ _=>.(11 (a3p rfl) T.n_min a4U .(0 (pv 0) .(0 b6 a7))))) a7 A4)))) i7) .(3 .(7 (pv 0)))),?_⟩
  have h1:=R.h1;have hs:=R.hs;have w1:=R.w1;have ws:=R.ws;obtain ⟨fa,xs,b0,ys0,rfl,hfa,la,hb0,hb,lb⟩:=G0 R hf;obtain ⟨wa,rfl,hwa⟩:=a5o hw;refine ⟨_,rfl,_,_,rfl,Or.inr ⟨_,SqT.of hfa,rfl⟩,?_⟩;refine ⟨_,rfl,Or.inr (Or.inl ⟨_,_,_,_,rfl,rfl,SqT.of hfa,hb0,_,_,rfl,Or.inr ⟨_,SqT.of hb,rfl⟩,_,_,rfl,rfl,Or.inl ⟨by omega,by omega⟩,_,_,rfl,rfl,_,rfl,?_⟩)⟩;refine A7 (λ_=>?_) (λ_=>?_)
  ·refine Or.inr ?_;refine ⟨_,rfl,_,rfl,⟨_,SqT.of hwa⟩,?_⟩;refine O8 (xs:=[V.int u,V.int d,V.int l,V.int r]) (λj zs H'=>H'=H/\zs=(([u,d,l,r].take j).map λn=>V.int ((m2 n:Nat):Int))) ⟨rfl,rfl⟩ (by show 4<=sizeLine;decide) (λj zs H' _ ⟨e,_⟩=>by rw [e];exact SqT.of hwa) ?_ ?_
   ·rintro j y zs _ hy ⟨rfl,rfl⟩;obtain ⟨n,en,rfl⟩:∃ n:Nat,[u,d,l,r][j]? = some n/\V.int (n:Int)=y:=by
     match j,hy with
     | 0,hy=>cases hy;exact ⟨u,rfl,rfl⟩
     | 1,hy=>cases hy;exact ⟨d,rfl,rfl⟩
     | 2,hy=>cases hy;exact ⟨l,rfl,rfl⟩
     | 3,hy=>cases hy;exact ⟨r,rfl,rfl⟩
     | j + 4,hy=>cases hy
    refine a5E ?_;refine ⟨_,rfl,_,_,rfl,rfl,?_⟩;rw [List.take_add_one,en,List.map_append]
    show _ ++ [V.int (if (2:Int) < (n:Int) then 2 else (n:Int))]=_
    rw [c8e]
    rfl
   ·rintro zs H0 ⟨eH,rfl⟩ l2 hl2;subst eH;refine ⟨_,_,rfl,Or.inl ⟨SqL.of b7,λt ht=>?_⟩⟩;have a1:=b1w u;have a2:=b1w d;have a3:=b1w l;have a4:=b1w r;refine q (.ref t) (m2 u) (m2 d) (m2 l) (m2 r) _ ((c4 hl2).trans (c4 ht)) (b7k b7) ⟨by omega,by omega,by omega,by omega⟩
  ·exact ⟨_,rfl,q _ u d l r _ (n6.refl _) hw bb⟩
noncomputable def b8Q:Sp:=λvs H Q _=>∃ (d:Addr) (k:Int),vs=[.ref d,.int k]/\C7 H d/\∀ (x:Int) (H':Hp),(-1000000000<=x/\x<=1000000000)->C7 H' d->d3 d H H'->Q (.int x) H'
theorem a1n (T:Txt K mg C):Df P w K mg base 2 "_law_number" ["seed","kind"] b8Q:=by
 refine T.d_law_number.ok a4V .(29) .(30)
 ·obtain ⟨d,sc,rfl,_⟩:=h
  rfl
 ·obtain ⟨d,sc,rfl,D,q⟩:=h;refine ⟨_,.(2 .(10 .(12 (o7 hr.units) (pv 1) b6 (j8 _)) .(3 .(7 .(4 (d7 T) .(0 (pv 0) .(0 b6 a7))))) i7) .(2 .(10 .(12 (o7 hr.units) (pv 1) b6 (j8 _)) .(3 .(7 .(5 O3 .(4 (d7 T) .(0 (pv 0) .(0 b6 a7))) b6))) i7) .(3 .(7 .(5 O3 .(5 V3 .(5 B8 .(5 R7 .(4 (d7 T) .(0 (pv 0) .(1 .(5 b5d b6 b6) a7 m5))) b6) .(4 (d7 T) .(0 (pv 0) .(0 b6 a7)))) .(5 B8 .(5 R7 b6 .(5 b5d b6 b6)) b6)) .(5 b5d b6 b6)))))),?_⟩
  refine ⟨_,rfl,Or.inl ⟨rfl,_,rfl,?_⟩⟩;refine A7 (λ_=>?_) (λ_=>?_)
  ·exact ⟨_,rfl,_,_,rfl,D,.(24),.(24),λx H1 x0 x1 D1 k1=>q x H1 ⟨by omega,by omega⟩ D1 k1⟩
  refine ⟨_,rfl,Or.inl ⟨rfl,_,rfl,?_⟩⟩;refine A7 (λ_=>?_) (λ_=>?_)
  ·exact ⟨_,rfl,_,_,rfl,D,.(24),.(24),λx H1 x0 x1 D1 k1=>⟨_,_,rfl,rfl,q (x - 20) H1 ⟨by omega,by omega⟩ D1 k1⟩⟩
  refine ⟨_,rfl,_,_,rfl,rfl,⟨by decide,by decide,by decide⟩,?_⟩;refine ⟨_,_,rfl,D,.(24),.(24),λx H1 x0 x1 D1 k1=>?_⟩;refine ⟨_,_,rfl,rfl,Or.inr ⟨by decide,by decide⟩,?_⟩;refine ⟨_,rfl,_,_,rfl,D1,.(24),.(24),λy H2 y0 y1 D2 k2=>?_⟩;refine ⟨_,_,rfl,rfl,?_⟩;refine ⟨_,_,rfl,rfl,⟨by decide,by decide,by decide⟩,_,_,rfl,rfl,Or.inl ⟨by decide,by decide⟩,_,_,rfl,rfl,?_⟩;refine ⟨_,_,rfl,rfl,(by show (0:Int) < 2 * 10 ^ Int.toNat 9 + 1;decide),?_⟩;refine ⟨_,_,rfl,rfl,⟨by decide,by decide,by decide⟩,_,_,rfl,rfl,?_⟩;have e9:(10:Int) ^ Int.toNat 9=1000000000:=by decide
  refine q _ H2 ?_ D2 (k1.trans k2)
  show -1000000000<=(x * 2001 + y) % (2 * 10 ^ Int.toNat 9 + 1) - 10 ^ Int.toNat 9/\(x * 2001 + y) % (2 * 10 ^ Int.toNat 9 + 1) - 10 ^ Int.toNat 9<=1000000000
  rw [e9];have m0:=Int.emod_nonneg (x * 2001 + y) (show (2 * 1000000000 + 1:Int)≠0 by decide);have m1:=Int.emod_lt_of_pos (x * 2001 + y) (show (0:Int) < 2 * 1000000000 + 1 by decide)
  omega
noncomputable def b5F:Sp:=λvs H Q _=>∃ (d:Addr),vs=[.ref d]/\C7 H d/\∀ (v:V) (r:C3) (H':Hp),IsD H' v (X8 r)->(∀ c,r = .told c->In9 c)->C7 H' d->d3 d H H'->Q v H'
theorem a1M (T:Txt K mg C):Df P w K mg base 3 "_law_rule" ["seed"] b5F:=by
 refine T.d_law_rule.ok a7K .(29) .(30)
 ·obtain ⟨d,rfl,_⟩:=h
  rfl
 ·obtain ⟨d,rfl,D,q⟩:=h;refine ⟨_,.(2 .(8 1 a7K.nd .(4 (d7 T) .(0 (pv 0) .(0 b6 a7))) (by first | exact .inl rfl | exact .inr rfl)) .(2 .(10 .(12 (o7 hr.units) (pv 1) b6 (j8 _)) .(3 .(7 .(14 .(0 b8 .(1 .(4 (a1n T) .(0 (pv 0) .(1 .(4 (d7 T) .(0 (pv 0) .(0 b6 a7))) a7 c8))) a7 c8))))) i7) .(2 .(10 .(12 (o7 hr.units) (pv 1) b6 (j8 _)) .(3 .(7 .(14 .(0 b8 .(0 Q0 a7))))) i7) .(3 .(7 .(9 (d8 (K:=K) rfl) .(6 .(0 b8 .(0 b8 .(0 b8 .(0 b8 a7))))) (pv 1))))))),?_⟩
  refine ⟨_,rfl,_,_,rfl,D,.(24),.(24),λx H1 x0 x1 D1 k1=>?_⟩;refine ⟨_,rfl,Or.inl ⟨rfl,_,rfl,?_⟩⟩
  by_cases z4:x=4
  ·rw [decide_eq_true (by rw [z4])];refine C6 ?_;refine ⟨_,rfl,_,rfl,_,_,rfl,D1,.(24),.(24),λy H2 y0 y1 D2 k2=>?_⟩;refine ⟨_,_,rfl,D2,λn H3 bn D3 k3=>?_⟩;refine ⟨(by show 2<=sizeLine;decide),λt ht=>?_⟩;have st:=c4 (o:=.tup [.str "told",.int n]) ht;exact q (.ref t) (.told (some n)) _ (.tup b7 (.cons (.str _) (.cons (b1s (some n)) .nil))) (λc e i e2=>by cases e;cases e2;exact bn) (D3.keep st) (((k1.trans k2).trans k3).trans (st.but d))
  rw [decide_eq_false (λz=>z4 (V.int.inj z))];refine y7 ?_;refine ⟨_,rfl,Or.inl ⟨rfl,_,rfl,?_⟩⟩
  by_cases z5:x=5
  ·rw [decide_eq_true (by rw [z5])];refine C6 ?_;refine ⟨(by show 2<=sizeLine;decide),λt ht=>?_⟩;have st:=c4 (o:=.tup [.str "told",.non]) ht;exact q (.ref t) (.told none) _ (.tup b7 (.cons (.str _) (.cons (b1s none) .nil))) (λc e i e2=>by cases e;cases e2) (D1.keep st) (k1.trans (st.but d))
  rw [decide_eq_false (λz=>z5 (V.int.inj z))];refine y7 ?_;refine ⟨(by show 4<=sizeLine;decide),λp hp=>?_⟩;have sp:=c4 (o:=.lst [.str "there",.str "near",.str "turned",.str "round"]) hp;obtain ⟨v,e3,e4⟩:=a4s (xs:=[V.str "there",V.str "near",V.str "turned",V.str "round"]) x0 (by show x < 4;omega);refine ⟨_,rfl,Or.inl ⟨_,_,_,_,rfl,rfl,SqL.of b7,e3,?_⟩⟩;simp only [List.mem_cons,List.not_mem_nil,or_false] at e4
  rcases e4 with e | e | e | e
  ·subst e;exact q _ .there _ (.str _) (λc e=>by cases e) (D1.keep sp) (k1.trans (sp.but d))
  ·subst e;exact q _ .near _ (.str _) (λc e=>by cases e) (D1.keep sp) (k1.trans (sp.but d))
  ·subst e;exact q _ .turned _ (.str _) (λc e=>by cases e) (D1.keep sp) (k1.trans (sp.but d))
  ·subst e;exact q _ .round _ (.str _) (λc e=>by cases e) (D1.keep sp) (k1.trans (sp.but d))
noncomputable def b4A:Sp:=λvs H Q _=>∃ (d:Addr),vs=[.ref d]/\C7 H d/\∀ (v:V) (a b:Int) (H':Hp),IsD H' v (a9m (a,b))->a4p a b->b<=1000->C7 H' d->d3 d H H'->Q v H'
theorem a7F (T:Txt K mg C):Df P w K mg base 2 "_law_share" ["seed"] b4A:=by
 refine T.d_law_share.ok a8p .(29) .(30)
 ·obtain ⟨d,rfl,_⟩:=h
  rfl
 ·obtain ⟨d,rfl,D,q⟩:=h;refine ⟨_,.(2 .(8 1 a8p.nd .(4 (d7 T) .(0 (pv 0) .(0 b6 a7))) (by first | exact .inl rfl | exact .inr rfl)) .(2 .(10 .(12 a6R (pv 1) b6 (j8 _)) .(3 .(7 .(9 (d8 (K:=K) rfl) .(6 .(1 .(14 .(0 b6 .(0 b6 a7))) .(1 .(14 .(0 b6 .(0 b6 a7))) .(1 .(14 .(0 b6 .(0 b6 a7))) a7 X1) X1) X1)) (pv 1)))) i7) .(2 .(8 2 a8p.nd .(5 B8 b6 .(4 (d7 T) .(0 (pv 0) .(1 .(9 (d8 (K:=K) rfl) .(6 .(0 b6 .(0 b6 a7))) .(5 V3 (pv 1) b6)) a7 k9)))) (by first | exact .inl rfl | exact .inr rfl)) .(3 .(7 .(14 .(1 .(4 (d7 T) .(0 (pv 0) .(1 .(5 B8 (pv 2) b6) a7 m5))) .(0 (pv 2) a7) c8))))))),?_⟩
  refine ⟨_,rfl,_,_,rfl,D,.(24),.(24),λx H1 x0 x1 D1 k1=>?_⟩;refine ⟨_,rfl,_,_,rfl,rfl,_,rfl,?_⟩
  by_cases z3:x < 3
  ·rw [decide_eq_true z3];refine C6 ?_;refine ⟨(by show 2<=sizeLine;decide),λt1 ht1=>?_⟩;refine ⟨(by show 2<=sizeLine;decide),λt2 ht2=>?_⟩;refine ⟨(by show 2<=sizeLine;decide),λt3 ht3=>?_⟩;refine ⟨(by show 3<=sizeLine;decide),λl1 hl1=>?_⟩;have sa:=c4 (o:=.tup [.int 0,.int 1]) ht1;have sb:=c4 (o:=.tup [.int 1,.int 2]) ht2;have sc:=c4 (o:=.tup [.int 1,.int 1]) ht3;have sl:=c4 (o:=.lst [.ref t1,.ref t2,.ref t3]) hl1;have S4:=((sa.trans sb).trans sc).trans sl;have g1:=sl _ _ (sc _ _ (sb _ _ (show upd H1 t1 (.tup [.int 0,.int 1]) t1=_ from b7)));have g2:=sl _ _ (sc _ _ (show upd (upd H1 t1 (.tup [.int 0,.int 1])) t2 (.tup [.int 1,.int 2]) t2=_ from b7));have g3:=sl _ _ (show upd (upd (upd H1 t1 (.tup [.int 0,.int 1])) t2 (.tup [.int 1,.int 2])) t3 (.tup [.int 1,.int 1]) t3=_ from b7);obtain ⟨sv,e3,e4⟩:=a4s (xs:=[V.ref t1,V.ref t2,V.ref t3]) (i:=x) .(25) (by show _ < ((3:Nat):Int);omega);refine ⟨_,rfl,Or.inl ⟨_,_,_,_,rfl,rfl,SqL.of b7,e3,?_⟩⟩;simp only [List.mem_cons,List.not_mem_nil,or_false] at e4
   rcases e4 with e | e | e
   ·subst e;exact q _ 0 1 _ (a5O g1) ⟨by decide,by decide,by decide,by decide⟩ .(24) (D1.keep S4) (k1.trans (S4.but d))
   ·subst e;exact q _ 1 2 _ (a5O g2) ⟨by decide,by decide,by decide,by decide⟩ .(24) (D1.keep S4) (k1.trans (S4.but d))
   ·subst e;exact q _ 1 1 _ (a5O g3) ⟨by decide,by decide,by decide,by decide⟩ .(24) (D1.keep S4) (k1.trans (S4.but d))
  ·rw [decide_eq_false z3];refine y7 ?_;refine ⟨_,rfl,(by show 2<=sizeLine;decide),λp hp=>?_⟩;have sp:=c4 (o:=.lst [.int 9,.int 1000]) hp;refine ⟨_,rfl,_,_,rfl,rfl,(by show (0:Int) < 2;decide),?_⟩;obtain ⟨m,em,hm⟩:=c2k (x:=x % 2) (ms:=[9,1000]) .(25) (by show _ < ((2:Nat):Int);omega);refine Or.inl ⟨_,_,_,_,rfl,rfl,SqL.of b7,em,?_⟩;have hm':1<=m/\m<=1000:=by
    simp only [List.mem_cons,List.not_mem_nil,or_false] at hm
    rcases hm with e | e <;> omega
   refine ⟨_,_,rfl,D1.keep sp,.(25),.(25),λy H2 y0 y1 D2 k2=>?_⟩;refine ⟨_,_,rfl,rfl,?_⟩;refine ⟨_,rfl,_,rfl,_,_,rfl,rfl,?_⟩;refine ⟨_,_,rfl,D2,.(25),.(25),λa H3 a0 a1 D3 k3=>?_⟩;refine ⟨_,rfl,(by show 2<=sizeLine;decide),λt ht=>?_⟩;have st:=c4 (o:=.tup [.int a,.int (1 + y)]) ht;exact q (.ref t) a (1 + y) _ (a5O b7) ⟨a0,by omega,by omega,by omega⟩ .(25) (D3.keep st) ((((k1.trans (sp.but d)).trans k2).trans k3).trans (st.but d))
noncomputable def b1B:Sp:=λvs H Q _=>∃ (d:Addr) (h wd holes:Int),vs=[.ref d,.int h,.int wd,.int holes]/\C7 H d/\1<=h/\h<=12/\1<=wd/\wd<=12 /\
 ∀ (v:V) (F:List (List (Option Int))) (H':Hp),IsD H' v (B2 F)->U6 F->(F.length:Int)=h->((F.headD []).length:Int)=wd->(∀ r∈F,∀ c∈r,In9 c)->C7 H' d->d3 d H H'->Q v H'
theorem a9F (T:Txt K mg C):Df P w K mg base 3 "_law_field" ["seed","height","width","holes"] b1B:=by
 refine T.d_law_field.ok F4 .(29) .(30)
 ·obtain ⟨d,h,wd,holes,rfl,_⟩:=h
  rfl
 ·obtain ⟨d,h,wd,holes,rfl,D,h1,h12,w1,w12,q⟩:=h;refine ⟨_,.(2 .(8 4 F4.nd .(4 (d7 T) .(0 (pv 0) .(0 b6 a7))) (by first | exact .inl rfl | exact .inr rfl)) .(2 .(8 5 F4.nd .(6 a7) (by first | exact .inl rfl | exact .inr rfl)) .(2 .(18 PassesOwn.never (O7 .(23) T.n_range .(0 (pv 1) a7)) (m9 (i:=6) F4.nd rfl .(27)) .(2 .(8 7 F4.nd .(6 a7) (by first | exact .inl rfl | exact .inr rfl)) .(2 .(18 PassesOwn.never (O7 .(23) T.n_range .(0 (pv 2) a7)) (m9 (i:=8) F4.nd rfl .(27)) .(2 .(8 9 F4.nd .(4 (a1n T) .(0 (pv 0) .(0 (pv 4) a7))) (by first | exact .inl rfl | exact .inr rfl)) .(2 .(10 (Z9 .(12 a3Y (pv 3) b6 (j8 _)) (S0 .(12 a6R .(4 (d7 T) .(0 (pv 0) .(0 b6 a7))) (pv 3) (j8 _)))).pt .(3 .(8 9 F4.nd Q0 (by first | exact .inl rfl | exact .inr rfl))) i7) .(3 .(16 .(20 PySem.F.plainAttrs_list PySem.F.slot_list_append PySem.F.type_list_append M5 (pv 7) .(0 (pv 9) a7))))))) .(3 .(16 .(20 PySem.F.plainAttrs_list PySem.F.slot_list_append PySem.F.type_list_append M5 (pv 5) .(1 .(15 (A5 (K:=K) rfl) T.n_tuple G1 .(0 (pv 7) a7)) a7 c8))))))) .(3 .(7 .(15 (A5 (K:=K) rfl) T.n_tuple G1 .(0 (pv 5) a7))))))),?_⟩
  refine ⟨_,rfl,_,_,rfl,D,.(24),.(24),λx5 H6 a5 b5 D6 K6=>?_⟩;refine ⟨(by show 0<=sizeLine;decide),λc hc=>?_⟩;have hcd:c≠d:=D6.ne hc;have K7:d3 d H (upd H6 c (.lst [])):=K6.upd hc;have hc7:upd H6 c (.lst []) c=some (.lst []):=b7;have D7:=D6.upd (o:=.lst []) hc;have hcH:H c=none:=by
   cases e:H c with
   | none=>rfl
   | some o=>rw [K6 c o e hcd] at hc;cases hc
  generalize upd H6 c (.lst [])=H7 at K7 hc7 D7 ⊢;refine ⟨_,rfl,_,rfl,by omega,by omega,?_⟩;refine M8 (n:=h.toNat) (λi σ H'=>∃ (v6 v7 v8 v9:Option V) (ys:List V) (G:List (List (Option Int))),σ=[some (.ref d),some (.int h),some (.int wd),some (.int holes),some (.int x5),some (.ref c),v6,v7,v8,v9]/\d3 d H H'/\C7 H' d/\H' c=some (.lst ys)/\IsDs H' ys (G.map a4y)/\G.length=i /\
   (∀ r∈G,r.length=wd.toNat /\ ∀ c∈r,In9 c)) ⟨none,none,none,none,[],[],rfl,K7,D7,hc7,.nil,rfl,λr hr=>absurd hr .(26)⟩ ?_ ?_
  ·rintro i _ H8 hi ⟨v6,v7,v8,v9,ys,G,rfl,K8,D8,hc8,hys,lG,hG⟩;have ly:ys.length=i:=by rw [hys.length,List.length_map,lG]
   have hi':i < 12:=by
    have:i < h.toNat:=hi
    omega
   refine ⟨(by show 0<=sizeLine;decide),λe he=>?_⟩;have s9:=c4 (o:=.lst []) he;have hed:e≠d:=D8.ne he;have hec:e≠c:=(d6 hc8 he).symm;have heH:H e=none:=by
    cases e':H e with
    | none=>rfl
    | some o=>rw [K8 e o e' hed] at he;cases he
   have K9:=K8.upd (o:=.lst []) he;have he9:upd H8 e (.lst []) e=some (.lst []):=b7;have D9:=D8.keep s9;have hc9:=s9 _ _ hc8;have hys9:=hys.keep s9.tups;generalize upd H8 e (.lst [])=H9 at K9 he9 D9 hc9 hys9 ⊢;refine ⟨_,rfl,_,rfl,by omega,by omega,?_⟩;refine M8 (n:=wd.toNat) (λj σ H'=>∃ (v8 v9:Option V) (r:List (Option Int)),σ=[some (.ref d),some (.int h),some (.int wd),some (.int holes),some (.int x5),some (.ref c),some (.int (0 + (i:Int))),some (.ref e),v8,v9]/\d3 d H H'/\C7 H' d/\H' c=some (.lst ys)/\IsDs H' ys (G.map a4y)/\H' e=some (.lst (r.map j9))/\r.length=j/\∀ c∈r,In9 c) ⟨v8,v9,[],rfl,K9,D9,hc9,hys9,he9,rfl,λc hc=>absurd hc .(26)⟩ ?_ ?_
   ·rintro j _ H10 hj ⟨v8,v9,r,rfl,K10,D10,hc10,hys10,he10,lr,r9⟩;have hj':j < 12:=by
     have:j < wd.toNat:=hj
     omega
    refine ⟨_,rfl,_,rfl,_,_,rfl,D10,λy H11 y9 D11 k11=>?_⟩;dsimp only [q0,List.set];refine W8 (fun σ' H'=>∃ cl:Option Int,σ'=[some (.ref d),some (.int h),some (.int wd),some (.int holes),some (.int x5),some (.ref c),some (.int (0 + (i:Int))),some (.ref e),some (.int (0 + (j:Int))),some (j9 cl)]/\In9 cl/\C7 H' d/\d3 d H10 H') ?_ (λrest=>?_)
    ·rintro _ H12 ⟨cl,rfl,c9,D12,k12⟩;have he12:=k12 _ _ he10 hed;have hc12:=k12 _ _ hc10 hcd;have K12:=K10.trans k12;have t12:=k12.tups D10.lst.choose_spec;refine ⟨_,rfl,Or.inl ⟨rfl,_,SqL.of he12⟩,?_⟩;refine ⟨_,rfl,_,_,_,rfl,rfl,he12,(by rw [List.length_map,lr];exact Nat.lt_of_lt_of_le (show j < 1001 by omega) .(24)),?_⟩;refine ⟨_,_,r ++ [cl],rfl,λb' o e' n=>?_,?_,?_,?_,?_,by rw [List.length_append,lr];rfl,λc hc=>(List.mem_append.mp hc).elim (r9 c) λz=>by rw [List.mem_singleton.mp z];exact c9⟩
     ·have n1:b'≠e:=d6 e' heH;rw [j4 n1];exact K12 b' o e' n
     ·obtain ⟨a,b,n,c',e'⟩:=D12;exact ⟨a,b,n,c',by rw [j4 hed.symm];exact e'⟩
     ·rw [j4 hec.symm];exact hc12
     ·refine hys10.keep λb' zs e'=>?_;rw [j4 (U2 e' he10 λz=>by cases z)];exact t12 _ _ e'
     ·rw [b7,List.map_append];rfl
    ·refine ⟨_,rfl,_,_,rfl,rfl,_,rfl,?_⟩;refine A7 (λz=>?_) (λz=>?_)
     ·refine ⟨_,rfl,_,_,rfl,D11,.(24),.(24),λz2 H12 z0 z1 D12 k12=>?_⟩;refine ⟨_,rfl,_,_,rfl,rfl,_,rfl,?_⟩;refine A7 (λz3=>?_) (λz3=>?_)
      ·exact rest _ _ ⟨none,rfl,(λi e=>by cases e),D12,k11.trans k12⟩
      ·exact rest _ _ ⟨some y,rfl,(λi e=>by cases e;exact y9),D12,k11.trans k12⟩
     ·exact y7 (rest _ _ ⟨some y,rfl,(λi e=>by cases e;exact y9),D11,k11⟩)
   ·rintro _ H10 ⟨v8,v9,r,rfl,K10,D10,hc10,hys10,he10,lr,r9⟩;refine ⟨_,rfl,Or.inl ⟨rfl,_,SqL.of hc10⟩,_,rfl,_,_,rfl,Or.inl ⟨SqL.of he10,λt ht=>?_⟩⟩;have st:=c4 (o:=.tup (r.map j9)) ht;have hct:=st _ _ hc10;have htd:t≠d:=D10.ne ht;have htc:t≠c:=(d6 hc10 ht).symm;have D11:=D10.keep st;refine ⟨_,_,_,rfl,rfl,hct,(by rw [ly];exact Nat.lt_of_lt_of_le (show i < 1001 by omega) .(24)),?_⟩;refine ⟨_,_,_,_,ys ++ [.ref t],G ++ [r],rfl,λb' o e' n=>?_,?_,b7,?_,by rw [List.length_append,lG];rfl,?_⟩
    ·have n1:b'≠c:=d6 e' hcH;rw [j4 n1];exact st _ _ (K10 b' o e' n)
    ·obtain ⟨a,b,n,c',e'⟩:=D11;exact ⟨a,b,n,c',by rw [j4 hcd.symm];exact e'⟩
    ·have kt:∀ b' zs,H10 b'=some (.tup zs)->upd (upd H10 t (.tup (r.map j9))) c (.lst (ys ++ [.ref t])) b'=some (.tup zs):=λb' zs e'=>by
      have n1:b'≠c:=U2 e' hc10 λz=>by cases z
      rw [j4 n1];exact st _ _ e'
     rw [List.map_append];exact (hys10.keep kt).append (.cons (.tup (by rw [j4 htc];exact b7) (T0 _)) .nil)
    ·intro r' hr2
     rcases List.mem_append.mp hr2 with z | z
     ·exact hG r' z
     ·have:r'=r:=by simpa using z
      subst this;exact ⟨lr,r9⟩
  ·rintro _ H8 ⟨v6,v7,v8,v9,ys,G,rfl,K8,D8,hc8,hys,lG,hG⟩;refine ⟨_,rfl,_,_,rfl,Or.inl ⟨SqL.of hc8,λt ht=>?_⟩⟩;have st:=c4 (o:=.tup ys) ht;have lG':G.length=h.toNat:=lG;have W:(G.headD []).length=wd.toNat:=(hG _ (List.mem_of_getElem? (b0l _ .(25)))).1;exact q (.ref t) G _ (.tup b7 (hys.keep st.tups)) ⟨by omega,by omega,by omega,by omega,λx hx=>by rw [W];exact (hG x hx).1⟩ .(25) .(25) (λr hr=>(hG r hr).2) (D8.keep st) (K8.trans (st.but d))
noncomputable def b3Q:Sp:=λvs H Q _=>∃ (d:Addr),vs=[.ref d]/\C7 H d /\
 ∀ (p:Addr) (x y:Int) (H':Hp),H' p=some (.lst [.int x,.int y])->1<=x->x<=12->1<=y->y<=12->C7 H' d->d3 d H H'->Q (.ref p) H'
theorem b3f (T:Txt K mg C):Df P w K mg base 2 "_law_sizes" ["seed"] b3Q:=by
 refine T.d_law_sizes.ok a4D .(29) .(30)
 ·obtain ⟨d,rfl,_⟩:=h
  rfl
 ·obtain ⟨d,rfl,D,q⟩:=h;refine ⟨_,.(2 .(8 1 a4D.nd .(4 (d7 T) .(0 (pv 0) .(0 b6 a7))) (by first | exact .inl rfl | exact .inr rfl)) .(2 .(10 .(12 (o7 hr.units) (pv 1) b6 (j8 _)) .(3 .(7 .(6 .(0 b6 .(1 .(5 B8 b6 .(4 (d7 T) .(0 (pv 0) .(0 b6 a7)))) a7 m5))))) i7) .(2 .(10 .(12 (o7 hr.units) (pv 1) b6 (j8 _)) .(3 .(7 .(6 .(1 .(5 B8 b6 .(4 (d7 T) .(0 (pv 0) .(0 b6 a7)))) .(1 .(5 B8 b6 .(4 (d7 T) .(0 (pv 0) .(0 b6 a7)))) a7 m5) m5)))) i7) .(3 .(7 .(6 .(1 .(5 B8 b6 .(4 (d7 T) .(0 (pv 0) .(0 b6 a7)))) .(1 .(5 B8 b6 .(4 (d7 T) .(0 (pv 0) .(0 b6 a7)))) a7 m5) m5))))))),?_⟩
  refine ⟨_,rfl,_,_,rfl,D,.(24),.(24),λx H1 x0 x1 D1 k1=>?_⟩;refine ⟨_,rfl,Or.inl ⟨rfl,_,rfl,?_⟩⟩;refine A7 (λ_=>?_) (λ_=>?_)
  ·refine ⟨_,rfl,_,_,rfl,D1,.(24),.(24),λy H2 y0 y1 D2 k2=>?_⟩;refine ⟨_,_,rfl,rfl,(by show 2<=sizeLine;decide),λp hp=>?_⟩;have sp:=c4 (o:=.lst [.int 1,.int (1 + y)]) hp;exact q p 1 (1 + y) _ b7 .(25) .(25) .(25) .(25) (D2.keep sp) ((k1.trans k2).trans (sp.but d))
  refine ⟨_,rfl,Or.inl ⟨rfl,_,rfl,?_⟩⟩;refine A7 (λ_=>?_) (λ_=>?_)
  ·refine ⟨_,rfl,_,_,rfl,D1,.(24),.(24),λy H2 y0 y1 D2 k2=>?_⟩;refine ⟨_,_,rfl,rfl,_,rfl,_,_,rfl,D2,.(24),.(24),λz H3 z0 z1 D3 k3=>?_⟩;refine ⟨_,_,rfl,rfl,(by show 2<=sizeLine;decide),λp hp=>?_⟩;have sp:=c4 (o:=.lst [.int (1 + y),.int (1 + z)]) hp;exact q p (1 + y) (1 + z) _ b7 .(25) .(25) .(25) .(25) (D3.keep sp) (((k1.trans k2).trans k3).trans (sp.but d))
  ·refine ⟨_,rfl,_,_,rfl,D1,.(24),.(24),λy H2 y0 y1 D2 k2=>?_⟩;refine ⟨_,_,rfl,rfl,_,rfl,_,_,rfl,D2,.(24),.(24),λz H3 z0 z1 D3 k3=>?_⟩;refine ⟨_,_,rfl,rfl,(by show 2<=sizeLine;decide),λp hp=>?_⟩;have sp:=c4 (o:=.lst [.int (1 + y),.int (1 + z)]) hp;exact q p (1 + y) (1 + z) _ b7 .(25) .(25) .(25) .(25) (D3.keep sp) (((k1.trans k2).trans k3).trans (sp.but d))
noncomputable def b5A:Sp:=λvs H Q _=>∃ (d:Addr),vs=[.ref d]/\C7 H d /\
 ∀ (t:Addr) (u dn l r:Nat) (H':Hp),u<=6->dn<=6->l<=6->r<=6->H' t=some (.tup [.int u,.int dn,.int l,.int r])->C7 H' d->d3 d H H'->Q (.ref t) H'
theorem b5V {z:Int}(z0:0<=z)(z1:z < 3):∃ m:Int,atI [V.int 3,V.int 3,V.int 7] z=some (.int m)/\0 < m/\m<=7:=by
 obtain ⟨v,e3,e4⟩:=a4s (xs:=[V.int 3,V.int 3,V.int 7]) z0 (by exact z1);simp only [List.mem_cons,List.not_mem_nil,or_false] at e4
 rcases e4 with e | e | e
 ·exact ⟨3,by rw [e3,e],by decide,by decide⟩
 ·exact ⟨3,by rw [e3,e],by decide,by decide⟩
 ·exact ⟨7,by rw [e3,e],by decide,by decide⟩
theorem b0K {ys:List V}{ks:List Nat}(h:ys=ks.map λk:Nat=>V.int (k:Int))(l:ks.length=4)(b:∀ k∈ks,k<=6):∃ a b c d:Nat,ys=[.int a,.int b,.int c,.int d]/\a<=6/\b<=6/\c<=6/\d<=6:=by
 match ks,l with
 | [a,b',c,d],_=>exact ⟨a,b',c,d,h,b a .(26),b b' .(26),b c .(26),b d .(26)⟩
theorem a4z (T:Txt K mg C):Df P w K mg base 2 "_law_window" ["seed"] b5A:=by
 refine T.d_law_window.ok a0z .(29) .(30)
 ·obtain ⟨d,rfl,_⟩:=h
  rfl
 ·obtain ⟨d,rfl,D,q⟩:=h;refine ⟨_,.(2 .(8 1 a0z.nd .(9 (d8 (K:=K) rfl) .(6 .(0 b6 .(0 b6 .(0 b6 a7)))) .(4 (d7 T) .(0 (pv 0) .(0 b6 a7)))) (by first | exact .inl rfl | exact .inr rfl)) .(3 .(7 .(15 (A5 (K:=K) rfl) T.n_tuple G1 .(1 (w5 (M:=["seed","most"]) (idx:=[0,1]) rfl (O7 .(23) T.n_range .(0 b6 a7)) (J2 (by kernel_rfl)) .(28) .(27) (λ_ _ _ _ _=>F5) (λ_ _ _ _ _=>.(4 (d7 T) .(0 (pv 1) .(0 (pv 2) a7))))) a7 A4))))),?_⟩
  refine ⟨(by show 3<=sizeLine;decide),λp hp=>?_⟩;have hpd:=D.ne hp;refine ⟨_,rfl,_,_,rfl,D.upd hp,.(24),.(24),λx H1 x0 x1 D1 k1=>?_⟩;obtain ⟨m,em,m0,m7⟩:=b5V x0 x1;refine Or.inl ⟨_,_,_,_,rfl,rfl,SqL.of (k1 p _ b7 hpd),em,?_⟩;have K1:d3 d H H1:=((d3.refl d H).upd hp).trans k1;refine ⟨4,rfl,.(24),.(24),?_⟩;refine b5m (λi ys H'=>∃ ks:List Nat,ks.length=i/\ys=ks.map (λk:Nat=>V.int (k:Int))/\(∀ k∈ks,k<=6)/\C7 H' d/\d3 d H H')
   ⟨[],rfl,rfl,λk hk=>absurd hk .(26),D1,K1⟩ .(24) ?_ ?_
  ·rintro i ys H2 hi ⟨ks,lk,ek,bk,D2,K2⟩;refine a5E ?_;refine ⟨_,rfl,_,rfl,_,_,rfl,D2,m0,by omega,λy H3 y0 y1 D3 k3=>?_⟩;refine ⟨ks ++ [y.toNat],by rw [List.length_append,lk];rfl,?_,λk hk=>?_,D3,K2.trans k3⟩
   ·rw [ek,List.map_append]
    show _ ++ [V.int y]=_ ++ [V.int ((y.toNat:Nat):Int)]
    rw [Int.toNat_of_nonneg y0]
   ·rcases List.mem_append.mp hk with z | z
    ·exact bk k z
    ·have:k=y.toNat:=by simpa using z
     omega
  ·rintro ys H2 ⟨ks,lk,ek,bk,D2,K2⟩ ls hls;refine ⟨_,_,rfl,Or.inl ⟨SqL.of b7,λt ht=>?_⟩⟩;obtain ⟨a,b,c,e,ey,ha,hb,hc,he⟩:=b0K ek lk bk;have kk:=(c4 (o:=.lst ys) hls).trans (c4 (o:=.tup ys) ht);exact q t a b c e _ ha hb hc he (by rw [b7,ey]) (D2.keep kk) (K2.trans (kk.but d))
theorem b7j {w0 ws0:Str}{ws:List Str}(h:ws0.cps.toList=w0.cps.toList ++ [32])(hn:ws≠[]):ws0 ++ o0 ws=o0 (w0 :: ws):=by
 refine N8 ?_;unfold o0;rw [B1]
 show (ws0.cps ++ (Str.join ⟨#[32]⟩ ws).cps).toList=_
 rw [Array.toList_append,B1,h];cases ws with
 | nil=>exact absurd rfl hn
 | cons x r =>
  simp only [List.map_cons,D5]
  simp
theorem b0i (ws:List Str) (hn:ws≠[]):("window " : Str) ++ o0 ws=o0 ("window" :: ws):=b7j .(28) hn
theorem a5Q (ws:List Str) (hn:ws≠[]):("share " : Str) ++ o0 ws=o0 ("share" :: ws):=b7j .(28) hn
theorem b4s (F:List (List (Option Int))):("field " : Str) ++ N1 F=U3 F:=by
 refine N8 ?_
 show (("field " : Str).cps ++ (N1 F).cps).toList=(("field " : Str).cps.toList ++ (N1 F).cps.toList).toArray.toList
 simp
theorem b5y (a b:Str):(a ++ b).cps.toList=a.cps.toList ++ b.cps.toList:=by
 show (a.cps ++ b.cps).toList=_
 rw [Array.toList_append]
theorem b5a:(" " : Str).cps.toList=[32]:=by decide +kernel
theorem b1a:(Str.empty).cps.toList=[]:=rfl
theorem a1K (a b c:Str):Str.empty ++ ("cell " : Str) ++ a ++ (" " : Str) ++ b ++ (" " : Str) ++ c=o0 ["cell",a,b,c]:=by
 refine N8 ?_;unfold o0;rw [B1];simp only [List.map_cons,List.map_nil,D5,b5y,b5a,b1a];have e1:("cell " : Str).cps.toList=[99,101,108,108,32]:=by decide +kernel
 have e2:("cell" : Str).cps.toList=[99,101,108,108]:=by decide +kernel
 rw [e1,e2]
 simp
theorem b2Y (a b:Str):Str.empty ++ ("at " : Str) ++ a ++ (" " : Str) ++ b=o0 ["at",a,b]:=by
 refine N8 ?_;unfold o0;rw [B1];simp only [List.map_cons,List.map_nil,D5,b5y,b5a,b1a];have e1:("at " : Str).cps.toList=[97,116,32]:=by decide +kernel
 have e2:("at" : Str).cps.toList=[97,116]:=by decide +kernel
 rw [e1,e2]
 simp
theorem c5i:("take" : Str)=o0 ["take"]:=by decide +kernel
theorem b1e (r:List (Option Int)):PyData.strOk (o5 r)=true:=by
 have key:∀ c:Option Int,∀ x∈q9 c,x < 128:=λc x hx=>by
  cases c with
  | none=>exact (by decide +kernel:∀ x∈q9 none,x < 128) x hx
  | some i =>
   unfold q9 at hx
   rcases List.mem_append.mp hx with z | z
   ·split at z <;> simp at z
    omega
   ·have:=a0s i.natAbs _ z
    omega
 have kj:∀ ls:List (List Nat),(∀ l∈ls,∀ x∈l,x < 128)->∀ x∈D5 32 ls,x < 128:=λls=>by
  induction ls with
  | nil=>intro _ x hx;cases hx
  | cons a r ih =>
   intro h x hx;cases r with
   | nil=>exact h a .(26) x hx
   | cons b r' =>
    simp only [D5] at hx
    rcases List.mem_append.mp hx with z | z
    ·exact h a .(26) x z
    ·rcases List.mem_cons.mp z with z | z
     ·omega
     ·exact ih (λl hl=>h l (List.mem_cons_of_mem _ hl)) x z
 unfold PyData.strOk;rw [← Array.all_toList,List.all_eq_true];unfold o5;rw [B1];intro x hx;have:=kj _ (λl hl=>by
  obtain ⟨s,hs,rfl⟩:=List.mem_map.mp hl;obtain ⟨c,hc,rfl⟩:=List.mem_map.mp hs;rw [N5];exact key c) x hx
 exact decide_eq_true .(25)
theorem b3z (c:Option Int):c5 c=o5 [c]:=by
 refine N8 ?_;unfold o5;rw [B1];simp only [List.map_cons,List.map_nil,N5,D5]
theorem b1E (c:Option Int):PyData.strOk (c5 c)=true:=by rw [b3z];exact b1e _
noncomputable def X0 (xs:List Str):List PyData:=xs.map PyData.str
theorem a1T {H:Hp}:∀ xs:List Str,IsDs H (xs.map V.str) (X0 xs)
 | []=>.nil
 | _ :: xs=>.cons (.str _) (a1T xs)
theorem a6P:∀ {xs:List Str},(∀ x∈xs,PyData.strOk x=true)->PyData.canLayAll0 (X0 xs)=true
 | [],_=>rfl
 | x :: xs,h=>by
  have h1:=h x .(26);have h2:=a6P λy hy=>h y (List.mem_cons_of_mem _ hy);unfold X0 at h2 ⊢;rw [List.map_cons]
  simp [PyData.canLayAll0,PyData.canLay0,h1,h2]
theorem a8P:∀ xs:List Str,PyData.depthAll (X0 xs)<=1
 | []=>by simp [X0,PyData.depthAll]
 | x :: xs=>by
  have:=a8P xs;unfold X0 at this ⊢;rw [List.map_cons];simp only [PyData.depthAll,PyData.depth]
  omega
theorem a7P:∀ xs ys:List Str,PyData.eqvAll (X0 xs) (X0 ys)=decide (xs=ys)
 | [],[]=>rfl
 | [],_ :: _=>rfl
 | _ :: _,[]=>rfl
 | x :: xs,y :: ys=>by
  have:=a7P xs ys;unfold X0 at this ⊢;rw [List.map_cons,List.map_cons];simp only [PyData.eqvAll,PyData.eqv,this]
  by_cases e:x=y
  ·subst e;simp
  ·simp [e]
theorem b6m {xs ys:List Str}(hx:∀ x∈xs,PyData.strOk x=true)(hy:∀ y∈ys,PyData.strOk y=true):b7N 0 (.list (X0 xs)) (.list (X0 ys)):=by
 refine ⟨by simp [PyData.canLay0,a6P hx],by simp [PyData.canLay0,a6P hy],?_⟩;have:=a8P xs;simp only [PyData.depth]
 omega
structure a5N (H:Hp)(fv wv rv sv:V)(D:Dsk):Prop where
 f_:IsD H fv (B2 D.F)
 w_:IsD H wv (a2P D.u D.d D.l D.r)
 r_:IsD H rv (X8 D.ru)
 s_:IsD H sv (a9m (D.a,D.b))
theorem a5N.keep {H H':Hp}{fv wv rv sv:V}{D:Dsk}(k:a5N H fv wv rv sv D)(t:N7 H H'):a5N H' fv wv rv sv D:=⟨k.f_.keep t,k.w_.keep t,k.r_.keep t,k.s_.keep t⟩
noncomputable def b3B (K:PySem.W.Frag):Sp:=λvs H Q _=>∃ (a:Addr) (ns:List Int) (m:Nat),vs=[.ref a,.int (m:Int)]/\SqL K H a (ns.map V.int)/\ns.length <= 63/\∀ (p:Addr) (zs:List V) (H':Hp),n6 H H'->H' p=some (.lst zs)->zs≠[]->zs.length <= 64->(∀ x∈zs,∃ z:Int,x = .int z)->Q (.ref p) H'
theorem a0G (T:Txt K mg C):Df P w K mg base 1 "_law_cells" ["script","many"] (b3B K):=by
 refine T.d_law_cells.ok b3c .(29) .(30)
 ·obtain ⟨a,ns,m,rfl,_⟩:=h
  rfl
 ·obtain ⟨a,ns,m,rfl,hS,hl,q⟩:=h;refine ⟨_,.(3 .(7 .(5 O4 (F6 (a8M (K:=K) rfl) (pv 0) L4 (K0 (pv 1))) .(6 .(1 .(11 (m6 (K:=K) rfl) T.n_len x9 .(0 (pv 0) a7)) a7 c8))))),?_⟩;refine ⟨_,rfl,_,rfl,_,rfl,Or.inl ⟨_,_,rfl,hS,λp hp=>?_⟩⟩;have s1:=c4 (o:=.lst (a1p (ns.map V.int) none (some (m:Int)))) hp;refine ⟨_,rfl,_,_,rfl,Or.inl ⟨_,s1.seq hS,rfl⟩,?_⟩;refine ⟨(by show 1<=sizeLine;decide),λp2 hp2=>?_⟩;have lc:=b5X (ns.map V.int) none (some (m:Int));rw [List.length_map] at lc ⊢;have s2:=c4 (o:=.lst [.int (ns.length:Int)]) hp2;refine ⟨_,_,_,_,rfl,rfl,s2 _ _ b7,b7,(by exact Nat.le_trans (show _ + 1<=64 by omega) .(24)),λp3 hp3=>?_⟩;refine q p3 _ _ ((s1.trans s2).trans (c4 hp3)) b7 .(26) (by rw [List.length_append];show _ + 1<=64;omega) λx hx=>?_
  rcases List.mem_append.mp hx with y | y
  ·obtain ⟨z,_,e⟩:=List.mem_map.mp (b4X y);exact ⟨z,e.symm⟩
  ·exact ⟨_,by simpa using y⟩
noncomputable def a0y (D:Dsk):List Str:=[U3 D.F,o0 ((y8 (.window D.u D.d D.l D.r)).1 :: (y8 (.window D.u D.d D.l D.r)).2),o0 ((y8 (.edge D.ru)).1 :: (y8 (.edge D.ru)).2),o0 ((y8 (.share D.a D.b)).1 :: (y8 (.share D.a D.b)).2)]
theorem b1z {ns:List Int}(h:∀ n∈ns,Wide n):((ns.map λn=>c5 (some n)).map (·.length)).sum <= ns.length * 11:=by
 have:=a1x (m:=11) (ns.map λn=>c5 (some n)) (λx hx=>by
  obtain ⟨n,hn,rfl⟩:=List.mem_map.mp hx;exact E2 λi e=>by cases e;exact h n hn)
 rw [List.length_map] at this;exact this
theorem a7x {K:PySem.W.Frag}{pre:Str}(k:Nat){σ:St}{H:Hp}{a:Addr}{ns:List Int}{Q:VK}(hv:σ[k]? = some (some (.ref a)))(ha:H a=some (.tup (ns.map V.int)))(hl:ns.length <= 4)(hp:pre.length <= 10)(hw:∀ n∈ns,Wide n)
  (q:∀ H',n6 H H'->Q (.str (pre ++ o0 (ns.map λn=>c5 (some n)))) H') :
  tOp (λx y H Q=>∃ i j,x=V.str i/\y=V.str j/\i.length + j.length <= sizeLine/\Q (V.str (i ++ j)) H) (tC (V.str pre)) (tBM K "str" (b2v K) (tC (V.str (" " : Str))) (a9y (b5u (fun σ H R=>b9k K (b4i k) σ H R \/ b6J K (b4i k) σ H R) [] b7o (tFv (b4i 0))) a1I)) σ H Q:=by
 refine ⟨rfl,Or.inr ⟨_,hv,_,rfl,⟨_,SqT.of ha⟩,?_⟩⟩;refine O8 (xs:=ns.map V.int) (λj zs H'=>H'=H/\zs=((ns.take j).map λn=>c5 (some n)).map V.str) ⟨rfl,rfl⟩ (by rw [List.length_map];exact Nat.le_trans hl .(24)) (λj zs H' _ ⟨e,_⟩=>by rw [e];exact SqT.of ha) ?_ ?_
 ·rintro j y zs _ hy ⟨rfl,rfl⟩;obtain ⟨n,en,rfl⟩:∃ n,ns[j]? = some n/\V.int n=y:=by
   rw [List.getElem?_map] at hy;cases e:ns[j]? with
   | none=>rw [e] at hy;cases hy
   | some n=>rw [e] at hy;exact ⟨n,rfl,Option.some.inj hy⟩
  refine a5E ?_;refine ⟨_,rfl,n,rfl,F3 (hw n (List.mem_of_getElem? en)),rfl,?_⟩;rw [List.take_add_one,en,List.map_append,List.map_append,C4]
  rfl
 ·rintro zs _ ⟨rfl,rfl⟩ l2 hl2;rw [List.length_map,List.take_of_length_le (Nat.le_refl _)];have wl:=b1z hw;have e1:((" " : Str)).length=1:=by decide +kernel
  refine ⟨_,_,ns.map λn=>c5 (some n),rfl,rfl,SqL.of b7,?_,?_⟩
  ·rw [List.length_map,e1]
   omega
  ·rw [M4,a3X];refine ⟨_,_,rfl,rfl,?_,q _ (c4 hl2)⟩;have:=a8Y (ws:=ns.map λn=>c5 (some n)) (λx hx=>by
    obtain ⟨n,hn,rfl⟩:=List.mem_map.mp hx;exact E2 λi e=>by cases e;exact hw n hn) (by rw [List.length_map];omega)
   exact Nat.le_trans (show _<=1010 by show pre.length + (o0 _).length <= 1010;omega) .(24)
theorem b0j {F:List (List (Option Int))} (R:a6U F):((F.map o5).map λx=>x.length).sum + (F.map o5).length * (";" : Str).length <= 1000000:=by
 obtain ⟨h0,h1,h2,h3,h4,h5⟩:=R;have:=a1x (m:=1200) (F.map o5) (λx hx=>by
  obtain ⟨r,hr,rfl⟩:=List.mem_map.mp hx;exact a6S (r:=r) (by rw [h2 r hr];exact h4) (h5 r hr))
 have e1:((";" : Str)).length=1:=by decide +kernel
 rw [e1];rw [List.length_map] at this ⊢
 omega
theorem a7S {F:List (List (Option Int))} (R:a6U F):("field " : Str).length + (Str.join ⟨#[59]⟩ (F.map o5)).length <= sizeLine:=by
 have tl:=b9z R;rw [Z3];exact Nat.le_trans (show 6 + (N1 F).length <= 1000000 by omega) .(24)
theorem b3k (F:List (List (Option Int))):("field " : Str) ++ Str.join ⟨#[59]⟩ (F.map o5)=U3 F:=b4s F
noncomputable def b5R:Sp:=λvs H Q _=>∃ (d:Addr),vs=[.ref d]/\C7 H d /\
 ∀ (fv wv rv sv:V) (D:Dsk) (p p1 p2:Addr) (H':Hp),J0 D->D.b <= 1000->H' p=some (.lst [.ref p1,.ref p2])->H' p1=some (.lst [fv,wv,rv,sv])->H' p2=some (.lst ((a0y D).map V.str))->a5N H' fv wv rv sv D->C7 H' d->d3 d H H'->Q (.ref p) H'
theorem b4f (T:Txt K mg C):Df P w K mg base 4 "_law_begun" ["seed"] b5R:=by
 refine T.d_law_begun.ok C8 .(29) .(30)
 ·obtain ⟨d,rfl,_⟩:=h
  rfl
 ·obtain ⟨d,rfl,S,q⟩:=h;refine ⟨_,.(2 .(19 .(4 (b3f T) .(0 (pv 0) a7)) (W0 (K:=K) rfl rfl (o6 (m9 (i:=1) C8.nd rfl .(27)) (o6 (m9 (i:=2) C8.nd rfl .(27)) P9)))) .(2 .(8 3 C8.nd .(4 (a9F T) .(0 (pv 0) .(0 (pv 1) .(0 (pv 2) .(1 .(4 (d7 T) .(0 (pv 0) .(0 b6 a7))) a7 c8))))) (by first | exact .inl rfl | exact .inr rfl)) .(2 .(8 4 C8.nd .(4 (a7T T) .(1 .(4 (a4z T) .(0 (pv 0) a7)) .(0 (pv 3) a7) c8)) (by first | exact .inl rfl | exact .inr rfl)) .(2 .(8 5 C8.nd .(4 (a1M T) .(0 (pv 0) a7)) (by first | exact .inl rfl | exact .inr rfl)) .(2 .(8 6 C8.nd .(4 (a7F T) .(0 (pv 0) a7)) (by first | exact .inl rfl | exact .inr rfl)) .(2 .(8 7 C8.nd .(6 .(1 .(5 u6 b8 (G8 (K:=K) rfl PySem.F.plainAttrs_str PySem.F.slot_str_join PySem.F.type_str_join (F7 (K:=K) rfl) b8 .(1 .(4 (W3 T) .(0 (pv 3) a7)) a7 c8))) .(1 .(5 u6 b8 (G8 (K:=K) rfl PySem.F.plainAttrs_str PySem.F.slot_str_join PySem.F.type_str_join (F7 (K:=K) rfl) b8 .(1 (w5 (M:=[]) (idx:=[]) rfl (A9 (K:=K) rfl (pv 4)) (J2 (by kernel_rfl)) .(28) .(27) (λ_ _ _ _ _=>F5) (λ_ _ _ _ _=>(a9v (Y9 (pv 0))))) a7 A4))) a7 m5) m5)) (by first | exact .inl rfl | exact .inr rfl)) .(2 .(8 7 C8.nd .(5 O4 (pv 7) .(6 .(1 .(4 (a2M T) .(0 (pv 5) a7)) .(1 .(5 u6 b8 (G8 (K:=K) rfl PySem.F.plainAttrs_str PySem.F.slot_str_join PySem.F.type_str_join (F7 (K:=K) rfl) b8 .(1 (w5 (M:=[]) (idx:=[]) rfl (A9 (K:=K) rfl (pv 6)) (J2 (by kernel_rfl)) .(28) .(27) (λ_ _ _ _ _=>F5) (λ_ _ _ _ _=>(a9v (Y9 (pv 0))))) a7 A4))) a7 m5) c8))) (by first | exact .inl rfl | exact .inr rfl)) .(3 .(7 .(6 .(1 .(6 .(0 (pv 3) .(0 (pv 4) .(0 (pv 5) .(0 (pv 6) a7))))) .(0 (pv 7) a7) j5))))))))))),?_⟩
  refine ⟨_,rfl,_,rfl,S,λps hh wd H1 hps h1 h12 w1 w12 S1 k1=>?_⟩;refine ⟨_,_,rfl,SqL.of hps,rfl,_,_,rfl,_,_,rfl,rfl,?_⟩;refine ⟨_,rfl,_,rfl,_,rfl,_,rfl,_,_,rfl,S1,.(24),.(24),λho H2 a1 b1 S2 k2=>?_⟩;refine ⟨_,_,_,_,rfl,S2,h1,h12,w1,w12,λfv F H3 hfv R lF lW c9 S3 k3=>?_⟩;dsimp only [q0,List.set];refine ⟨_,rfl,_,rfl,S3,λwt u dn l r H4 bu bd bl br hwt S4 k4=>?_⟩;have kt4:N7 H3 H4:=k4.tups S3.lst.choose_spec;refine ⟨_,rfl,.ref wt,fv,F,u,dn,l,r,rfl,R,hfv.keep kt4,b7k hwt,⟨bu,bd,bl,br⟩,λwv u dn l r H5 s5 hwv bb=>?_⟩;have S5:=S4.keep s5;refine ⟨_,rfl,_,rfl,S5,λrv ru H6 hru rc S6 k6=>?_⟩;have kt6:N7 H5 H6:=k6.tups S5.lst.choose_spec;refine ⟨_,rfl,_,rfl,S6,λsv a b H7 hsv hSh hb S7 k7=>?_⟩;have kt7:N7 H6 H7:=k7.tups S6.lst.choose_spec;have ok:J0 ⟨F,ru,u,dn,l,r,a,b⟩:=⟨R,rc,by show F.length <= 12;omega,by show (F.headD []).length <= 12;omega,c9,hSh,bb⟩;have at7:a5N H7 fv wv rv sv ⟨F,ru,u,dn,l,r,a,b⟩:=⟨(((hfv.keep kt4).keep s5.tups).keep kt6).keep kt7,(hwv.keep kt6).keep kt7,hru.keep kt7,hsv⟩;have K7:d3 d H H7:=(((((k1.trans k2).trans k3).trans k4).trans (s5.but d)).trans k6).trans k7;dsimp only [q0,List.set];refine ⟨rfl,_,rfl,fv,F,rfl,at7.f_,ok.rectW,λl8 H8 s8 f8 h8=>?_⟩;refine ⟨_,_,F.map o5,rfl,rfl,SqL.of (by rw [h8,List.map_map]),b0j ok.rectW,?_⟩;rw [a9P,a3X];refine ⟨_,_,rfl,rfl,a7S ok.rectW,?_⟩;rw [b3k];have at8:=at7.keep s8.tups;obtain ⟨wa,rfl,hwa⟩:=a5o at8.w_;have w4:∀ n∈[(u:Int),(dn:Int),(l:Int),(r:Int)],Wide n:=λn hn=>by
   simp only [List.mem_cons,List.not_mem_nil,or_false] at hn;unfold Wide
   omega
  refine a7x 4 (ns:=[(u:Int),(dn:Int),(l:Int),(r:Int)]) rfl hwa (Nat.le_refl 4) .(28) w4 λH9 s9=>?_;rw [b0i _ .(26)];refine ⟨(by show 2<=sizeLine;decide),λp10 hp10=>?_⟩;have s10:=c4 (o:=.lst [V.str (U3 F),V.str (o0 ("window" :: [(u:Int),(dn:Int),(l:Int),(r:Int)].map λn=>c5 (some n)))]) hp10;have e10:upd H9 p10 (.lst [V.str (U3 F),V.str (o0 ("window" :: [(u:Int),(dn:Int),(l:Int),(r:Int)].map λn=>c5 (some n)))]) p10=_:=b7;generalize upd H9 p10 (.lst [V.str (U3 F),V.str (o0 ("window" :: [(u:Int),(dn:Int),(l:Int),(r:Int)].map λn=>c5 (some n)))])=H10 at s10 e10 ⊢;have at10:=at8.keep (s9.trans s10).tups;dsimp only [q0,List.set];refine ⟨_,rfl,?_⟩;refine ⟨_,rfl,_,ru,rfl,at10.r_,rc,?_⟩;obtain ⟨sa,rfl,hsa⟩:=Z1 at10.s_;have w2:∀ n∈[a,b],Wide n:=λn hn=>by
   obtain ⟨x1,x2,x3,x4⟩:=hSh;simp only [List.mem_cons,List.not_mem_nil,or_false] at hn;unfold Wide
   omega
  refine a7x 6 (ns:=[a,b]) rfl hsa (by show 2<=4;decide) .(28) w2 λH11 s11=>?_;rw [a5Q _ .(26)];refine ⟨(by show 2<=sizeLine;decide),λp12 hp12=>?_⟩;have s12:=c4 (o:=.lst [V.str (o0 ("edge" :: Y8 ru)),V.str (o0 ("share" :: [a,b].map λn=>c5 (some n)))]) hp12;refine ⟨_,_,_,_,rfl,rfl,s12 _ _ (s11 _ _ e10),b7,(by show 4<=sizeLine;decide),λp13 hp13=>?_⟩;have s13:=c4 (o:=.lst ((a0y ⟨F,ru,u,dn,l,r,a,b⟩).map V.str)) hp13;have S13:=(((((s8.trans s9).trans s10).trans s11).trans s12).trans s13);dsimp only [q0,List.set];refine ⟨_,rfl,_,rfl,_,rfl,_,rfl,(by show 4<=sizeLine;decide),λp14 hp14=>?_⟩;have s14:=c4 (o:=.lst [fv,V.ref wa,rv,V.ref sa]) hp14;refine ⟨_,rfl,(by show 2<=sizeLine;decide),λp15 hp15=>?_⟩;have s15:=c4 (o:=.lst [.ref p14,.ref p13]) hp15;have S15:=(S13.trans s14).trans s15;exact q _ _ _ _ _ _ p14 p13 _ ok hb b7 (s15 _ _ b7) (s15 _ _ (s14 _ _ b7)) (at7.keep S15.tups) (S7.keep S15) (K7.trans (S15.but d))
noncomputable def b6N (D:Dsk)(line:Str)(D':Dsk):Prop:=(∃ F,line=U3 F/\D'={ D with F:=F }/\J0 D') \/ (∃ δ,line=o0 ((y8 δ).1 :: (y8 δ).2)/\b6f D δ/\D'=b0t D δ)
noncomputable def c6b:Sp:=λvs H Q _=>∃ (d p1:Addr) (fv wv rv sv:V) (D:Dsk),vs=[.ref d,.ref p1]/\C7 H d/\H p1=some (.lst [fv,wv,rv,sv])/\a5N H fv wv rv sv D/\J0 D /\
 ∀ (line:Str) (D':Dsk) (p p2:Addr) (fv' wv' rv' sv':V) (H':Hp),b6N D line D'->J0 D'->H' p=some (.lst [.str line,.ref p2])->H' p2=some (.lst [fv',wv',rv',sv'])->a5N H' fv' wv' rv' sv' D'->C7 H' d->d3 d H H'->Q (.ref p) H'
theorem b2m (T:Txt K mg C):Df P w K mg base 4 "_law_deed" ["seed","state"] c6b:=by
 refine T.d_law_deed.ok t4 .(29) .(30)
 ·obtain ⟨d,p1,fv,wv,rv,sv,D,rfl,_⟩:=h
  rfl
 ·obtain ⟨d,p1,fv,wv,rv,sv,D,rfl,S,hp1,at0,ok,q⟩:=h;refine ⟨_,.(2 .(19 (pv 1) (W0 (K:=K) rfl rfl (o6 (m9 (i:=2) t4.nd rfl .(27)) (o6 (m9 (i:=3) t4.nd rfl .(27)) (o6 (m9 (i:=4) t4.nd rfl .(27)) (o6 (m9 (i:=5) t4.nd rfl .(27)) P9)))))) .(2 .(8 6 t4.nd .(4 (d7 T) .(0 (pv 0) .(0 b6 a7))) (by first | exact .inl rfl | exact .inr rfl)) .(2 .(10 .(12 (o7 hr.units) (pv 6) b6 (j8 _)) .(2 .(8 7 t4.nd .(4 (a9F T) .(0 (pv 0) .(1 .(5 B8 b6 .(4 (d7 T) .(0 (pv 0) .(0 b6 a7)))) .(1 .(5 B8 b6 .(4 (d7 T) .(0 (pv 0) .(0 b6 a7)))) .(1 .(4 (d7 T) .(0 (pv 0) .(0 b6 a7))) a7 c8) m5) m5))) (by first | exact .inl rfl | exact .inr rfl)) .(3 .(7 .(6 .(1 .(5 u6 b8 (G8 (K:=K) rfl PySem.F.plainAttrs_str PySem.F.slot_str_join PySem.F.type_str_join (F7 (K:=K) rfl) b8 .(1 .(4 (W3 T) .(0 (pv 7) a7)) a7 c8))) .(1 .(6 .(0 (pv 7) .(0 (pv 3) .(0 (pv 4) .(0 (pv 5) a7))))) a7 j5) m5))))) i7) .(2 .(10 .(12 (o7 hr.units) (pv 6) b6 (j8 _)) .(2 .(8 3 t4.nd .(4 (a7T T) .(1 .(4 (a4z T) .(0 (pv 0) a7)) .(0 (pv 2) a7) c8)) (by first | exact .inl rfl | exact .inr rfl)) .(3 .(7 .(6 .(1 .(5 u6 b8 (G8 (K:=K) rfl PySem.F.plainAttrs_str PySem.F.slot_str_join PySem.F.type_str_join (F7 (K:=K) rfl) b8 .(1 (w5 (M:=[]) (idx:=[]) rfl (A9 (K:=K) rfl (pv 3)) (J2 (by kernel_rfl)) .(28) .(27) (λ_ _ _ _ _=>F5) (λ_ _ _ _ _=>(a9v (Y9 (pv 0))))) a7 A4))) .(1 .(6 .(0 (pv 2) .(0 (pv 3) .(0 (pv 4) .(0 (pv 5) a7))))) a7 j5) m5))))) i7) .(2 .(10 .(12 (o7 hr.units) (pv 6) b6 (j8 _)) .(2 .(8 4 t4.nd .(4 (a1M T) .(0 (pv 0) a7)) (by first | exact .inl rfl | exact .inr rfl)) .(3 .(7 .(6 .(1 .(4 (a2M T) .(0 (pv 4) a7)) .(1 .(6 .(0 (pv 2) .(0 (pv 3) .(0 (pv 4) .(0 (pv 5) a7))))) a7 j5) c8))))) i7) .(2 .(10 .(12 (o7 hr.units) (pv 6) b6 (j8 _)) .(2 .(8 5 t4.nd .(4 (a7F T) .(0 (pv 0) a7)) (by first | exact .inl rfl | exact .inr rfl)) .(3 .(7 .(6 .(1 .(5 u6 b8 (G8 (K:=K) rfl PySem.F.plainAttrs_str PySem.F.slot_str_join PySem.F.type_str_join (F7 (K:=K) rfl) b8 .(1 (w5 (M:=[]) (idx:=[]) rfl (A9 (K:=K) rfl (pv 5)) (J2 (by kernel_rfl)) .(28) .(27) (λ_ _ _ _ _=>F5) (λ_ _ _ _ _=>(a9v (Y9 (pv 0))))) a7 A4))) .(1 .(6 .(0 (pv 2) .(0 (pv 3) .(0 (pv 4) .(0 (pv 5) a7))))) a7 j5) m5))))) i7) .(2 .(10 .(12 (o7 hr.units) (pv 6) b6 (j8 _)) .(3 .(7 .(6 .(0 b8 .(1 .(6 .(1 .(4 (a0t T) .(0 (pv 2) .(0 (pv 3) .(0 (pv 4) .(0 (pv 5) a7))))) .(0 (pv 3) .(0 (pv 4) .(0 (pv 5) a7))) c8)) a7 j5))))) i7) .(2 .(8 8 t4.nd .(4 (d7 T) .(0 (pv 0) .(1 .(11 (m6 (K:=K) rfl) T.n_len x9 .(0 (pv 2) a7)) a7 c8))) (by first | exact .inl rfl | exact .inr rfl)) .(2 .(8 9 t4.nd .(4 (d7 T) .(0 (pv 0) .(1 .(11 (m6 (K:=K) rfl) T.n_len x9 .(1 .(9 (d8 (K:=K) rfl) (pv 2) b6) a7 k9)) a7 c8))) (by first | exact .inl rfl | exact .inr rfl)) .(2 .(8 10 t4.nd .(4 (a1n T) .(0 (pv 0) .(1 .(4 (d7 T) .(0 (pv 0) .(0 b6 a7))) a7 c8))) (by first | exact .inl rfl | exact .inr rfl)) .(2 .(10 .(12 (o7 hr.units) .(4 (d7 T) .(0 (pv 0) .(0 b6 a7))) b6 (j8 _)) .(3 .(8 10 t4.nd Q0 (by first | exact .inl rfl | exact .inr rfl))) i7) .(2 .(8 11 t4.nd .(5 U0 .(5 U0 (F6 (a8M (K:=K) rfl) .(9 (d8 (K:=K) rfl) (pv 2) (pv 8)) L4 (K0 (pv 9))) .(14 .(0 (pv 10) a7))) (F6 (a8M (K:=K) rfl) .(9 (d8 (K:=K) rfl) (pv 2) (pv 8)) (K0 .(5 B8 (pv 9) b6)) L4)) (by first | exact .inl rfl | exact .inr rfl)) .(2 .(8 12 t4.nd .(5 U0 .(5 U0 (F6 (a8M (K:=K) rfl) (pv 2) L4 (K0 (pv 8))) .(14 .(0 (pv 11) a7))) (F6 (a8M (K:=K) rfl) (pv 2) (K0 .(5 B8 (pv 8) b6)) L4)) (by first | exact .inl rfl | exact .inr rfl)) .(3 .(7 .(6 .(1 .(5 u6 (a2E (A8 b8 (A8 (Y9 (pv 8)) (A8 b8 (A8 (Y9 (pv 9)) (A8 b8 a1R)))))) .(4 (U5 T) .(0 (pv 10) a7))) .(1 .(6 .(0 (pv 12) .(0 (pv 3) .(0 (pv 4) .(0 (pv 5) a7))))) a7 j5) m5))))))))))))))))),?_⟩
  have fh:=ok.fh;have fw:=ok.fw;have Fh1:=ok.rect.h1;have Fw1:=ok.rect.w1;refine ⟨_,rfl,_,_,rfl,SqL.of hp1,rfl,_,_,rfl,_,_,rfl,_,_,rfl,_,_,rfl,rfl,?_⟩;refine ⟨_,rfl,_,_,rfl,S,.(24),.(24),λway H1 y0 y1 S1 k1=>?_⟩;have kt1:N7 H H1:=k1.tups S.lst.choose_spec;have at1:=at0.keep kt1;dsimp only [q0,List.set];refine ⟨_,rfl,Or.inl ⟨rfl,_,rfl,A7 (λ_=>?_) (λ_=>?_)⟩⟩
  ·-- another field
   refine ⟨_,rfl,_,rfl,_,_,rfl,S1,.(24),.(24),λhh H2 a2 b2 S2 k2=>?_⟩;refine ⟨_,_,rfl,rfl,_,rfl,_,_,rfl,S2,.(24),.(24),λwd H3 a3 b3 S3 k3=>?_⟩;refine ⟨_,_,rfl,rfl,_,rfl,_,_,rfl,S3,.(24),.(24),λho H4 a4 b4 S4 k4=>?_⟩;refine ⟨_,_,_,_,rfl,S4,by omega,by omega,by omega,by omega,λgv F H5 hgv R lF lW c9 S5 k5=>?_⟩;have K5:d3 d H1 H5:=((k2.trans k3).trans k4).trans k5;have at5:=at1.keep (K5.tups S1.lst.choose_spec);dsimp only [q0,List.set];have ok':J0 { D with F:=F }:=⟨R,ok.rc,by show F.length <= 12;omega,by show (F.headD []).length <= 12;omega,c9,ok.sh,ok.bb⟩;refine ⟨rfl,_,rfl,gv,F,rfl,hgv,ok'.rectW,λl6 H6 s6 f6 h6=>?_⟩;refine ⟨_,_,F.map o5,rfl,rfl,SqL.of (by rw [h6,List.map_map]),b0j ok'.rectW,?_⟩;rw [a9P,a3X];refine ⟨_,_,rfl,rfl,a7S ok'.rectW,?_⟩;rw [b3k];refine ⟨_,rfl,_,rfl,_,rfl,_,rfl,(by show 4<=sizeLine;decide),λp7 hp7=>⟨(by show 2<=sizeLine;decide),λp8 hp8=>?_⟩⟩;have s7:=c4 (o:=.lst [gv,wv,rv,sv]) hp7;have s8:=c4 (o:=.lst [.str (U3 F),.ref p7]) hp8;have S8:=(s6.trans s7).trans s8;have at8:=at5.keep S8.tups;exact q _ _ p8 p7 _ _ _ _ _ (.inl ⟨F,rfl,rfl,ok'⟩) ok' b7 (s8 _ _ b7) ⟨hgv.keep S8.tups,at8.w_,at8.r_,at8.s_⟩ (S5.keep S8) ((k1.trans K5).trans (S8.but d))
  refine ⟨_,rfl,Or.inl ⟨rfl,_,rfl,A7 (λ_=>?_) (λ_=>?_)⟩⟩
  ·-- a window
   refine ⟨_,rfl,_,rfl,S1,λwt u dn l r H4 bu bd bl br hwt S4 k4=>?_⟩;have kt4:N7 H1 H4:=k4.tups S1.lst.choose_spec;have at4:=at1.keep kt4;refine ⟨_,rfl,.ref wt,fv,D.F,u,dn,l,r,rfl,ok.rect,at4.f_,b7k hwt,⟨bu,bd,bl,br⟩,λwv' u dn l r H5 s5 hwv bb=>?_⟩;have at5:=at4.keep s5.tups;dsimp only [q0,List.set];obtain ⟨wa,rfl,hwa⟩:=a5o hwv;have w4:∀ n∈[(u:Int),(dn:Int),(l:Int),(r:Int)],Wide n:=λn hn=>by
    simp only [List.mem_cons,List.not_mem_nil,or_false] at hn;unfold Wide
    omega
   dsimp only [b3P,a7C];refine a7x 3 (ns:=[(u:Int),(dn:Int),(l:Int),(r:Int)]) rfl hwa (Nat.le_refl 4) .(28) w4 λH6 s6=>?_;rw [b0i _ .(26)];refine ⟨_,rfl,_,rfl,_,rfl,_,rfl,(by show 4<=sizeLine;decide),λp7 hp7=>⟨(by show 2<=sizeLine;decide),λp8 hp8=>?_⟩⟩;have s7:=c4 (o:=.lst [fv,.ref wa,rv,sv]) hp7;have s8:=c4 (o:=.lst [.str (o0 ("window" :: [(u:Int),(dn:Int),(l:Int),(r:Int)].map λn=>c5 (some n))),.ref p7]) hp8;have S8:=(s6.trans s7).trans s8;have at8:=at5.keep S8.tups;have ok':=a5G ok (δ:=.window u dn l r) bb;exact q _ _ p8 p7 _ _ _ _ _ (.inr ⟨.window u dn l r,rfl,bb,rfl⟩) ok' b7 (s8 _ _ b7) ⟨at8.f_,hwv.keep S8.tups,at8.r_,at8.s_⟩ ((S4.keep s5).keep S8) (((k1.trans k4).trans (s5.but d)).trans (S8.but d))
  refine ⟨_,rfl,Or.inl ⟨rfl,_,rfl,A7 (λ_=>?_) (λ_=>?_)⟩⟩
  ·-- a rule
   refine ⟨_,rfl,_,rfl,S1,λrv' ru H6 hru rc S6 k6=>?_⟩;have kt6:N7 H1 H6:=k6.tups S1.lst.choose_spec;dsimp only [q0,List.set];refine ⟨_,rfl,_,ru,rfl,hru,rc,?_⟩;refine ⟨_,rfl,_,rfl,_,rfl,_,rfl,(by show 4<=sizeLine;decide),λp7 hp7=>⟨(by show 2<=sizeLine;decide),λp8 hp8=>?_⟩⟩;have s7:=c4 (o:=.lst [fv,wv,rv',sv]) hp7;have s8:=c4 (o:=.lst [.str (o0 ("edge" :: Y8 ru)),.ref p7]) hp8;have S8:=s7.trans s8;have at8:=(at1.keep kt6).keep S8.tups;exact q _ _ p8 p7 _ _ _ _ _ (.inr ⟨.edge ru,rfl,rc,rfl⟩) (a5G ok (δ:=.edge ru) rc) b7 (s8 _ _ b7) ⟨at8.f_,at8.w_,hru.keep S8.tups,at8.s_⟩ (S6.keep S8) ((k1.trans k6).trans (S8.but d))
  refine ⟨_,rfl,Or.inl ⟨rfl,_,rfl,A7 (λ_=>?_) (λ_=>?_)⟩⟩
  ·-- a share
   refine ⟨_,rfl,_,rfl,S1,λsv' a b H6 hsv hSh hb S6 k6=>?_⟩;have kt6:N7 H1 H6:=k6.tups S1.lst.choose_spec;dsimp only [q0,List.set];obtain ⟨sa,rfl,hsa⟩:=Z1 hsv;have w2:∀ n∈[a,b],Wide n:=λn hn=>by
    obtain ⟨x1,x2,x3,x4⟩:=hSh;simp only [List.mem_cons,List.not_mem_nil,or_false] at hn;unfold Wide
    omega
   dsimp only [b3P,a7C];refine a7x 5 (ns:=[a,b]) rfl hsa (by show 2<=4;decide) .(28) w2 λH7 s6=>?_;rw [a5Q _ .(26)];refine ⟨_,rfl,_,rfl,_,rfl,_,rfl,(by show 4<=sizeLine;decide),λp7 hp7=>⟨(by show 2<=sizeLine;decide),λp8 hp8=>?_⟩⟩;have s7:=c4 (o:=.lst [fv,wv,rv,.ref sa]) hp7;have s8:=c4 (o:=.lst [.str (o0 ("share" :: [a,b].map λn=>c5 (some n))),.ref p7]) hp8;have S8:=(s6.trans s7).trans s8;have at8:=(at1.keep kt6).keep S8.tups;exact q _ _ p8 p7 _ _ _ _ _ (.inr ⟨.share a b,rfl,⟨hSh,hb⟩,rfl⟩) (a5G ok (δ:=.share a b) ⟨hSh,hb⟩) b7 (s8 _ _ b7) ⟨at8.f_,at8.w_,at8.r_,hsv.keep S8.tups⟩ (S6.keep S8) ((k1.trans k6).trans (S8.but d))
  refine ⟨_,rfl,Or.inl ⟨rfl,_,rfl,A7 (λ_=>?_) (λ_=>?_)⟩⟩
  ·-- the filtered field
   refine ⟨_,rfl,_,rfl,_,rfl,_,rfl,?_⟩;refine ⟨_,_,_,_,D.F,D.ru,D.u,D.d,D.l,D.r,D.a,D.b,rfl,ok.rect,at1.f_,at1.w_,at1.r_,at1.s_,ok.sh,⟨by have:=ok.bb;omega,by have:=ok.bb;omega,by have:=ok.bb;omega,by have:=ok.bb;omega⟩,λv H2 s2 hv=>?_⟩;refine ⟨_,rfl,_,rfl,_,rfl,(by show 4<=sizeLine;decide),λp7 hp7=>⟨(by show 2<=sizeLine;decide),λp8 hp8=>?_⟩⟩;have s7:=c4 (o:=.lst [v,wv,rv,sv]) hp7;have s8:=c4 (o:=.lst [.str ("take" : Str),.ref p7]) hp8;have S78:=s7.trans s8;have S8:=s2.trans S78;have at8:=at1.keep S8.tups;exact q _ _ p8 p7 _ _ _ _ _ (.inr ⟨.take,c5i,trivial,rfl⟩) (a5G ok (δ:=.take) trivial) b7 (s8 _ _ b7) ⟨hv.keep S78.tups,at8.w_,at8.r_,at8.s_⟩ (S1.keep S8) (k1.trans (S8.but d))
  obtain ⟨fa,xs,b0,ys0,rfl,hfa1,la,hb0,hb1,lb⟩:=G0 ok.rect at1.f_;refine ⟨_,rfl,_,rfl,_,_,rfl,Or.inr ⟨_,SqT.of hfa1,rfl⟩,_,_,rfl,S1,.(25),.(25),λxi H2 i0 i1 S2 k2=>?_⟩;have kt2:N7 H1 H2:=k2.tups S1.lst.choose_spec;refine ⟨_,rfl,_,rfl,Or.inr (Or.inl ⟨_,_,_,_,rfl,rfl,SqT.of (kt2 _ _ hfa1),hb0,_,_,rfl,Or.inr ⟨_,SqT.of (kt2 _ _ hb1),rfl⟩,_,_,rfl,S2,.(25),.(25),λxj H3 j0 j1 S3 k3=>?_⟩)⟩;refine ⟨_,rfl,_,rfl,_,_,rfl,S3,.(24),.(24),λkd H4 d0 d1 S4 k4=>?_⟩;refine ⟨_,_,rfl,S4,λn H5 bn S5 k5=>?_⟩;have K5:d3 d H1 H5:=((k2.trans k3).trans k4).trans k5;obtain ⟨i,rfl⟩:∃ i:Nat,xi=i:=⟨xi.toNat,by omega⟩;obtain ⟨j,rfl⟩:∃ j:Nat,xj=j:=⟨xj.toNat,by omega⟩;have hi:i < D.F.length:=by omega
  have hj:j < (D.F.headD []).length:=by omega
  dsimp only [q0,List.set];refine W8 (fun σ' H'=>∃ cl:Option Int,σ'=[some (.ref d),some (.ref p1),some (.ref fa),some wv,some rv,some sv,some (.int way),none,some (.int (i:Int)),some (.int (j:Int)),some (j9 cl),none,none]/\In9 cl/\C7 H' d/\d3 d H1 H') ?_ (λrest=>?_)
  ·rintro _ H3 ⟨cl,rfl,c9,Sd,k6⟩;have kt6:=k6.tups S1.lst.choose_spec;have at6:=at1.keep kt6;obtain ⟨fa',xs',e',hfa6,hxs6⟩:=E1 at6.f_;cases e';have ex:xs'=xs:=by
    have:=kt6 _ _ hfa1;rw [hfa6] at this;cases this
    rfl
   subst ex;obtain ⟨ra,era,hra6⟩:=G2 hxs6 hi;have lr:D.F[i].length=(D.F.headD []).length:=ok.rect.row _ (List.getElem_mem _);have lxs:xs'.length=D.F.length:=by rw [hxs6.length,List.length_map]
   refine ⟨_,rfl,_,rfl,Or.inr (Or.inl ⟨_,_,_,_,rfl,rfl,SqT.of hfa6,B0 era,_,rfl,_,rfl,Or.inr ⟨_,_,rfl,hra6,λp4 H4 s4 hp4=>?_⟩⟩)⟩;rw [a6G] at hp4;refine ⟨_,rfl,(by show 1<=sizeLine;decide),λp5 hp5=>?_⟩;have s5:=c4 (o:=.tup [j9 cl]) hp5;refine ⟨_,_,_,_,rfl,rfl,s5 _ _ hp4,b7,?_,λp6 H6 s6 hp6=>?_⟩
   ·rw [List.length_take,List.length_map];exact Nat.le_trans (show min j D.F[i].length + 1<=2000 by omega) .(24)
   have S6:=(s4.trans s5).trans s6;refine ⟨_,rfl,_,rfl,Or.inr (Or.inl ⟨_,_,_,_,rfl,rfl,SqT.of (S6 _ _ hfa6),B0 era,_,rfl,_,_,rfl,rfl,_,rfl,Or.inr ⟨_,_,rfl,S6 _ _ hra6,λp7 H7 s7 hp7=>?_⟩⟩)⟩;rw [a8w] at hp7;refine ⟨_,_,_,_,rfl,rfl,s7 _ _ hp6,hp7,?_,λp8 H8 s8 hp8=>?_⟩
   ·rw [List.length_append,List.length_take,List.length_drop,List.length_map];exact Nat.le_trans (show min j D.F[i].length + 1 + (D.F[i].length - (j + 1))<=3000 by omega) .(24)
   have S8:=(S6.trans s7).trans s8;have er8:H8 p8=some (.tup ((D.F[i].take j ++ [cl] ++ D.F[i].drop (j + 1)).map j9)):=by
    rw [hp8];simp only [List.map_append,List.map_take,List.map_drop]
    rfl
   refine ⟨_,rfl,_,rfl,_,rfl,Or.inr ⟨_,_,rfl,S8 _ _ hfa6,λp9 H9 s9 hp9=>?_⟩⟩;rw [a6G] at hp9;refine ⟨_,rfl,(by show 1<=sizeLine;decide),λp10 hp10=>?_⟩;have s10:=c4 (o:=.tup [.ref p8]) hp10;refine ⟨_,_,_,_,rfl,rfl,s10 _ _ hp9,b7,?_,λp11 H11 s11 hp11=>?_⟩
   ·rw [List.length_take];exact Nat.le_trans (show min i xs'.length + 1<=2000 by omega) .(24)
   have S11:=((S8.trans s9).trans s10).trans s11;refine ⟨_,rfl,_,rfl,_,_,rfl,rfl,_,rfl,Or.inr ⟨_,_,rfl,S11 _ _ hfa6,λp12 H12 s12 hp12=>?_⟩⟩;rw [a8w] at hp12;refine ⟨_,_,_,_,rfl,rfl,s12 _ _ hp11,hp12,?_,λp13 H13 s13 hp13=>?_⟩
   ·rw [List.length_append,List.length_take,List.length_drop];exact Nat.le_trans (show min i xs'.length + 1 + (xs'.length - (i + 1))<=3000 by omega) .(24)
   have S13:=(S11.trans s12).trans s13;have T13:=(((s9.trans s10).trans s11).trans s12).trans s13;have hx13:=hxs6.keep S13.tups;have er:D.F[i]?.getD []=D.F[i]:=by rw [List.getElem?_eq_getElem hi];rfl
   have e:(a1o D.F i j cl).map a4y=(D.F.map a4y).take i ++ [a4y (D.F[i].take j ++ [cl] ++ D.F[i].drop (j + 1))] ++ (D.F.map a4y).drop (i + 1):=by
    unfold a1o;rw [er];simp only [List.map_append,List.map_take,List.map_drop]
    rfl
   have hv:IsD H13 (.ref p13) (B2 (a1o D.F i j cl)):=by
    refine .tup hp13 ?_;rw [e];exact ((a3Z hx13 i).append (.cons (.tup (T13 _ _ er8) (T0 _)) .nil)).append (a4Z hx13 (i + 1))
   dsimp only [q0,List.set];have at13:=at6.keep S13.tups;have wi:Wide (i:Int):=by unfold Wide;omega
   have wj:Wide (j:Int):=by unfold Wide;omega
   have li:(Str.ofString (toString (i:Int))).length <= 11:=by rw [C4];exact E2 λx e=>by cases e;exact wi
   have lj:(Str.ofString (toString (j:Int))).length <= 11:=by rw [C4];exact E2 λx e=>by cases e;exact wj
   have lc:=E2 c9.wide;have e5:("cell " : Str).length=5:=by decide +kernel
   have e1:(" " : Str).length=1:=by decide +kernel
   have e0:(Str.empty).length=0:=rfl;have fits:∀ {n:Nat},n<=100->n<=sizeLine:=λh=>Nat.le_trans h .(24);dsimp only [b3P,a7C];refine ⟨_,rfl,fits (by simp only [t9,e0,e5];omega),_,rfl,(i:Int),rfl,F3 wi,_,rfl,fits (by simp only [t9,e0,e5];omega),_,rfl,fits (by simp only [t9,e0,e1,e5];omega),_,rfl,(j:Int),rfl,F3 wj,_,rfl,fits (by simp only [t9,e0,e1,e5];omega),_,rfl,fits (by simp only [t9,e0,e1,e5];omega),fits (by simp only [t9,e0,e1,e5];omega),?_⟩;refine ⟨_,rfl,cl,rfl,c9.wide,_,_,rfl,rfl,fits (by simp only [t9,e0,e1,e5];omega),?_⟩;rw [a1K,C4,C4];refine ⟨_,rfl,_,rfl,_,rfl,_,rfl,(by show 4<=sizeLine;decide),λq7 hq7=>⟨(by show 2<=sizeLine;decide),λq8 hq8=>?_⟩⟩;have t7:=c4 (o:=.lst [.ref p13,wv,rv,sv]) hq7;have t8:=c4 (o:=.lst [.str (o0 ["cell",c5 (some (i:Int)),c5 (some (j:Int)),c5 cl]),.ref q7]) hq8;have T8:=t7.trans t8;have at8:=at13.keep T8.tups;exact q _ _ q8 q7 _ _ _ _ _ (.inr ⟨.cell i j cl,rfl,⟨hi,hj,c9⟩,rfl⟩) (a5G ok (δ:=.cell i j cl) ⟨hi,hj,c9⟩) b7 (t8 _ _ b7) ⟨hv.keep T8.tups,at8.w_,at8.r_,at8.s_⟩ (Sd.keep (S13.trans T8)) (((k1.trans k6).trans (S13.but d)).trans (T8.but d))
  ·refine ⟨_,rfl,_,_,rfl,S5,.(24),.(24),λz H6 z0 z1 S6 k6=>?_⟩;refine Or.inl ⟨rfl,_,rfl,A7 (λ_=>?_) (λ_=>?_)⟩
   ·exact rest _ _ ⟨none,rfl,a9E,S6,K5.trans k6⟩
   ·exact rest _ _ ⟨some n,rfl,(λi e=>by cases e;exact bn),S6,K5.trans k6⟩
theorem a7B {d:Nat}(hd:d < 128):∀ {p:List (List Nat)},(∀ x∈p,∀ c∈x,c < 128)->∀ c∈D5 d p,c < 128
 | [],_=>λc hc=>by cases hc
 | [x],h=>h x .(26)
 | x :: y :: r,h=>λc hc=>by
  have hc:c∈x ++ d :: D5 d (y :: r):=hc
  rcases List.mem_append.mp hc with z | z
  ·exact h x .(26) c z
  ·rcases List.mem_cons.mp z with z | z
   ·rw [z];exact hd
   ·exact a7B hd (λu hu=>h u (List.mem_cons_of_mem _ hu)) c z
theorem b7I {D:Dsk}{F:List (List (Option Int))}(k:J0 { D with F:=F }):N4 (U3 F)/\D4 (U3 F) = .fld F:=by
 have R:a6U F:=k.rectW;have st:stF (U3 F)=true:=b2e F;have dr:a5T (U3 F)=N1 F:=b8r F;obtain ⟨h0,h1,h2,h3,h4,h5⟩:=id R;have sp:=b2i h0;have fh:F.length <= 12:=k.fh;have fw:(F.headD []).length <= 12:=k.fw;have ec:(N1 F).cps.toList=D5 59 ((F.map o5).map (·.cps.toList)):=by unfold N1;rw [B1]
 have lw:∀ r∈F,∀ c∈(o5 r).cps.toList,c < 128:=λr hr c hc=>by
  unfold o5 at hc;rw [B1] at hc;refine a7B .(24) (λx hx=>?_) c hc;obtain ⟨y,hy,rfl⟩:=List.mem_map.mp hx;obtain ⟨z,hz,rfl⟩:=List.mem_map.mp hy;exact (P1 (h5 r hr z hz)).2.2.1
 refine ⟨⟨λc hc=>?_,?_,λz=>(by rw [st] at z;cases z),λ_ l hl w hw=>?_⟩,?_⟩
 ·have hc:c∈(("field " : Str).cps.toList ++ (N1 F).cps.toList).toArray.toList:=hc;rw [List.toList_toArray,a8x,ec] at hc
  rcases List.mem_append.mp hc with z | z
  ·simp only [List.mem_cons,List.not_mem_nil,or_false] at z
   omega
  ·refine a7B .(24) (λx hx=>?_) c z;obtain ⟨y,hy,rfl⟩:=List.mem_map.mp hx;obtain ⟨r,hr,rfl⟩:=List.mem_map.mp hy;exact lw r hr
 ·show ((("field " : Str).cps.toList ++ (N1 F).cps.toList).toArray).size <= _
  rw [List.size_toArray,List.length_append,a8x,ec];have:=a4o 59 1200 ((F.map o5).map (·.cps.toList)) (λx hx=>by
   obtain ⟨y,hy,rfl⟩:=List.mem_map.mp hx;obtain ⟨r,hr,rfl⟩:=List.mem_map.mp hy
   show (o5 r).cps.toList.length <= 1200
   have:=a6S (r:=r) (by rw [h2 r hr];exact h4) (h5 r hr);have e:(o5 r).length=(o5 r).cps.toList.length:=by simp [Str.length]
   omega)
  rw [List.length_map,List.length_map] at this
  show 6 + _<=_
  omega
 ·rw [dr,sp] at hl;obtain ⟨r,hr,rfl⟩:=List.mem_map.mp hl;rw [a8S (λe=>by have:=h2 r hr;rw [e,List.length_nil] at this;omega)] at hw;obtain ⟨c,hc,rfl⟩:=List.mem_map.mp hw;have:=(P1 (h5 r hr c hc)).2.2.2;rw [a2p] at this;exact this
 ·unfold D4;rw [if_pos st,dr];unfold a1W;rw [sp,b6B R];dsimp only;rw [decide_eq_true fh,decide_eq_true fw,if_pos];rw [Bool.true_and,Bool.true_and];refine List.all_eq_true.mpr λr hr=>b3b.mpr λi hi=>?_;obtain ⟨c,hc,e⟩:=List.mem_filterMap.mp hi;exact k.c9 r hr c hc i e
theorem b6G {ru:C3}(h:∀ c,ru = .told c->In9 c):ruP (Y8 ru)=some ru:=by
 cases ru with
 | told c =>
  show (if ("told" : Str) = "told" then (V7 (c5 c)).map C3.told else none)=_
  rw [if_pos rfl,a2C (a1O.mpr (h c rfl))]
  rfl
 | there=>rfl
 | near =>
  unfold ruP Y8;dsimp only;rw [if_neg .(28),if_pos rfl]
 | turned =>
  unfold ruP Y8;dsimp only;rw [if_neg .(28),if_neg .(28),if_pos rfl]
 | round =>
  unfold ruP Y8;dsimp only;rw [if_neg .(28),if_neg .(28),if_neg .(28),if_pos rfl]
theorem b3X (δ:b9n):inV (.str (y8 δ).1) [V.str "window",V.str "edge",V.str "share",V.str "cell",V.str "take"]=true:=by
 cases δ <;> (simp only [y8];decide +kernel)
theorem b2D {D:Dsk}{δ:b9n}(k:J0 D)(h:b6f D δ):N4 (o0 ((y8 δ).1 :: (y8 δ).2))/\∀ {H:Hp} {E:XK} {B:Dsk->Prop} {L:List Str->Prop},B (b0t D δ)->a8t mg H E D B L (D4 (o0 ((y8 δ).1 :: (y8 δ).2))):=by
 have f:=b3D k h;have st:stF (o0 ((y8 δ).1 :: (y8 δ).2))=false:=b4m δ;refine ⟨b4e f st,λ{H E B L} b=>?_⟩;rw [a5B (λw hw=>(f.2.2 w hw).1) st,if_pos (show b4J (y8 δ).1=true from b3X δ)];cases δ with
 | window u d l r =>
  obtain ⟨b1,b2,b3,b4⟩:=h;have e:P0 "window" (y8 (.window u d l r)).2 = .win [(u:Int),(d:Int),(l:Int),(r:Int)]:=by
   unfold P0;rw [if_pos rfl];unfold a8U;rw [show (y8 (.window u d l r)).2=[(u:Int),(d:Int),(l:Int),(r:Int)].map λk=>c5 (some k) from rfl,U1 (n:=4) _ rfl];dsimp only;rw [if_pos];refine b3b.mpr λn hn=>?_;simp only [List.mem_cons,List.not_mem_nil,or_false] at hn
   omega
  show a8t mg H E D B L (P0 "window" (y8 (.window u d l r)).2)
  rw [e];exact b
 | edge ru =>
  have e:P0 "edge" (Y8 ru) = .edge ru:=by
   unfold P0;rw [if_neg .(28),if_pos rfl,b6G h]
  show a8t mg H E D B L (P0 "edge" (Y8 ru))
  rw [e];exact b
 | share a c =>
  obtain ⟨⟨s1,s2,s3,_⟩,hb⟩:=h;have e:P0 "share" [c5 (some a),c5 (some c)] = .share a c:=by
   unfold P0;rw [if_neg .(28),if_neg .(28),if_pos rfl];unfold shP;rw [show [c5 (some a),c5 (some c)]=[a,c].map λk=>c5 (some k) from rfl,U1 (n:=2) _ rfl];dsimp only;rw [if_pos];rw [decide_eq_true s1,decide_eq_true s2,decide_eq_true s3,decide_eq_true hb]
   rfl
  show a8t mg H E D B L (P0 "share" [c5 (some a),c5 (some c)])
  rw [e];exact b
 | cell i j c =>
  obtain ⟨hi,hj,hc⟩:=h;have e:P0 "cell" [c5 (some (i:Int)),c5 (some (j:Int)),c5 c] = .cell i j c:=by
   unfold P0;rw [if_neg .(28),if_neg .(28),if_neg .(28),if_pos rfl];unfold a8G;rw [show [c5 (some (i:Int)),c5 (some (j:Int)),c5 c].dropLast=[(i:Int),(j:Int)].map λk=>c5 (some k) from rfl,U1 (n:=2) _ rfl]
   show (match V7 (c5 c) with | some c=>Cmd.cell i j c | none=>.no)=_
   rw [a2C (a1O.mpr hc)]
  show a8t mg H E D B L (P0 "cell" [c5 (some (i:Int)),c5 (some (j:Int)),c5 c])
  rw [e];have hin:inF D.F (i:Int) (j:Int)=true:=by
   unfold inF;rw [decide_eq_true (show (0:Int)<=(i:Int) by omega),decide_eq_true (show (i:Int) < D.F.length by omega),decide_eq_true (show (0:Int)<=(j:Int) by omega),decide_eq_true (show (j:Int) < (D.F.headD []).length by omega)]
   rfl
  exact (if_pos hin).mpr b
 | take =>
  have e:P0 "take" [] = .take:=by
   unfold P0;rw [if_neg .(28),if_neg .(28),if_neg .(28),if_neg .(28)]
   rfl
  show a8t mg H E D B L (P0 "take" [])
  rw [e];exact b
theorem a0U {D D':Dsk}{line:Str}(k:J0 D)(h:b6N D line D'):N4 line/\∀ {H:Hp} {E:XK} {B:Dsk->Prop} {L:List Str->Prop},B D'->a8t mg H E D B L (D4 line):=by
 rcases h with ⟨F,rfl,rfl,ok⟩ | ⟨δ,rfl,hd,rfl⟩
 ·obtain ⟨a,e⟩:=b7I ok;exact ⟨a,λb=>by rw [e];exact b⟩
 ·exact b2D k hd
noncomputable def c9h (D:Dsk) (line:Str) (due:V):Prop:=(D4 line = .no /\ due = .str "") \/ (∃ k:Nat,D4 line = .bad k/\due = .int k) \/ (due = .str "place"/\∃ i j,inF D.F i j=false/\(D4 line = .spot i j \/ ∃ c,D4 line = .cell i j c))
theorem b8D {D:Dsk} {line:Str} {i j:Int} {H:Hp} {E:XK} {B:Dsk->Prop} {L:List Str->Prop} (hin:inF D.F i j=false) (hp:D4 line = .spot i j \/ ∃ c,D4 line = .cell i j c) (r:W4 mg "NoPlace" H E):a8t mg H E D B L (D4 line):=by
 have n:¬ inF D.F i j=true:=by rw [hin];decide
 rcases hp with e | ⟨c,e⟩
 ·rw [e];exact (if_neg n).mpr r
 ·rw [e];exact (if_neg n).mpr r
noncomputable def c1b (C:Addr):Sp:=λvs H Q _=>∃ (x dy:Addr) (fv wv rv sv:V) (D:Dsk) (line:Str) (due:V),vs=[.ref x,.str line]/\V5 C H x dy fv wv rv sv D/\N4 line/\c9h D line due/\∀ H',n6 H H'->Q due H'
theorem b1m (T:Txt K mg C):Df P w K mg base 8 "_law_kind" ["desk","line"] (c1b C):=by
 refine T.d_law_kind.ok O6 .(29) .(30)
 ·obtain ⟨x,dy,fv,wv,rv,sv,D,line,due,rfl,_⟩:=h
  rfl
 ·obtain ⟨x,dy,fv,wv,rv,sv,D,line,due,rfl,k,ok,bad,q⟩:=h;obtain ⟨aN,aF,aM,aP,aW,XX⟩:=T.x_exc;obtain ⟨B,gB,pB,nB,RB⟩:=T.e_NoField;refine ⟨_,.(2 .(8 2 O6.nd Q0 (by first | exact .inl rfl | exact .inr rfl)) .(2 (b9B (K:=K) rfl rfl rfl rfl O6.nd (ie:=3) rfl rfl XX.win (λpins W=>.(3 .(16 (b7U (J6 T) T.cl_Desk (hr.mono .(24)) c9d (pv 0) .(0 (pv 1) a7))))) (λv=>.(2 .(10 (a0R .(17 .(13 .(11 (B6.or (A0 (K:=K) rfl) (B7 (K:=K) rfl)) T.n_isinstance v0 .(0 (pv 3) .(0 (a3E (v:=.ty "ValueError") .(23) T.n_ValueError a8W rfl) a7))))) (a4B .(13 .(11 (B6.or (A0 (K:=K) rfl) (B7 (K:=K) rfl)) T.n_isinstance v0 .(0 (pv 3) .(0 (Q1 (v:=.ref _) .(23) XX.number rfl) a7)))))).pt .(3 .(7 Q0)) i7) .(3 .(10 (Z9 .(13 .(11 (B6.or (A0 (K:=K) rfl) (B7 (K:=K) rfl)) T.n_isinstance v0 .(0 (pv 3) .(0 (Q1 (v:=.ref _) .(23) XX.field rfl) a7)))) (S0 .(17 .(13 .(11 (B6.or (A0 (K:=K) rfl) (B7 (K:=K) rfl)) T.n_isinstance v0 .(0 (pv 3) .(1 .(14 .(0 (Q1 (v:=.ref _) .(23) XX.ask rfl) .(0 (Q1 (v:=.ref _) .(23) XX.place rfl) a7))) a7 X1))))))).pt .(2 .(8 2 O6.nd (b5U (K:=K) rfl (pv 3) .(23)) (by first | exact .inl rfl | exact .inr rfl)) .(3 .(10 (a0R .(13 .(11 (B6.or (A0 (K:=K) rfl) (B7 (K:=K) rfl)) T.n_isinstance v0 .(0 (pv 2) .(0 (a3E (v:=.ty "bool") .(23) T.n_bool b9X rfl) a7)))) (a4B .(17 .(13 .(11 (B6.or (A0 (K:=K) rfl) (B7 (K:=K) rfl)) T.n_isinstance v0 .(0 (pv 2) .(0 (a3E (v:=.ty "int") .(23) T.n_int b3g rfl) a7))))))).pt .(3 .(7 Q0)) i7))) .(3 .(10 (Z9 .(13 .(11 (B6.or (A0 (K:=K) rfl) (B7 (K:=K) rfl)) T.n_isinstance v0 .(0 (pv 3) .(0 (Q1 (v:=.ref _) .(23) XX.place rfl) a7)))) (S0 .(17 .(13 .(11 (B6.or (A0 (K:=K) rfl) (B7 (K:=K) rfl)) T.n_isinstance v0 .(0 (pv 3) .(0 (Q1 (v:=.ref _) .(23) XX.ask rfl) a7))))))).pt .(3 .(8 2 O6.nd b8 (by first | exact .inl rfl | exact .inr rfl))) .(3 .(10 (Z9 .(13 .(11 (B6.or (A0 (K:=K) rfl) (B7 (K:=K) rfl)) T.n_isinstance v0 .(0 (pv 3) .(0 (Q1 (v:=.ref _) .(23) XX.ask rfl) a7)))) (S0 .(17 .(13 .(11 (B6.or (A0 (K:=K) rfl) (B7 (K:=K) rfl)) T.n_isinstance v0 .(0 (pv 3) .(1 .(14 .(0 (Q1 (v:=.ref _) .(23) XX.field rfl) .(0 (Q1 (v:=.ref _) .(23) XX.place rfl) a7))) a7 X1))))))).pt .(3 .(8 2 O6.nd b8 (by first | exact .inl rfl | exact .inr rfl))) i7))))))))) .(3 .(7 (pv 2))))),?_⟩
  refine ⟨_,rfl,x,dy,_,rfl,k.at_,W7 ..,_,rfl,?_⟩;refine ⟨x,dy,fv,wv,rv,sv,D,line,rfl,k,ok,?_⟩;have tt:∀ {y:Addr} {D:Addr} {o:Option Addr} (h:Heap),ExA y (.ref D) o h->b8n y (.ref D) h:=λh ⟨o,_,ho,hc,_⟩=>⟨o,ho,hc⟩
  rcases bad with ⟨hp,rfl⟩ | ⟨n,hp,rfl⟩ | ⟨rfl,i,j,hin,hp⟩
  ·rw [hp];intro A gA H1 s1;obtain rfl:A=aN:=by have z:=gA.symm.trans XX.ask;cases z;rfl
   refine ⟨XX.exmN,λy hy=>?_⟩;have s2:=c4 (o:=.ext (ExA y (.ref A) none)) hy;have ey:upd H1 y (.ext (ExA y (.ref A) none)) y=some (.ext (ExA y (.ref A) none)):=b7;have S2:=s1.trans s2;generalize upd H1 y (.ext (ExA y (.ref A) none))=H2 at ey S2 ⊢;refine ⟨_,rfl,Or.inr ⟨y,A,_,true,_,rfl,ey,tt,XX.kitN,Or.inl ⟨rfl,XX.veN⟩,_,rfl,y7 ?_⟩⟩;refine ⟨_,rfl,Or.inr ⟨y,A,_,false,_,rfl,ey,tt,XX.kitN,Or.inl ⟨rfl,XX.kNM⟩,_,rfl,y7 ?_⟩⟩;dsimp only [W9,a4t];refine ⟨_,rfl,Or.inr ⟨y,A,_,false,_,rfl,ey,tt,XX.kitN,Or.inl ⟨rfl,XX.kNF⟩,_,rfl,y7 ?_⟩⟩;refine y7 ?_;refine ⟨_,rfl,Or.inr ⟨y,A,_,false,_,rfl,ey,tt,XX.kitN,Or.inl ⟨rfl,XX.kNP⟩,_,rfl,y7 ?_⟩⟩;refine y7 ?_;refine ⟨_,rfl,Or.inr ⟨y,A,_,true,_,rfl,ey,tt,XX.kitN,Or.inl ⟨rfl,XX.kNN⟩,_,rfl,C6 ?_⟩⟩;refine ⟨_,rfl,(by show 2<=sizeLine;decide),λp2 hp2=>Or.inr ⟨y,A,.ref p2,false,_,rfl,c4 hp2 _ _ ey,tt,XX.kitN,Or.inr ⟨p2,_,rfl,b7,rfl,a6x XX.kNF (a6x XX.kNP rfl)⟩,_,rfl,C6 ?_⟩⟩;exact ⟨_,rfl,q _ (S2.trans (c4 hp2))⟩
  ·rw [hp];intro A gA dx H1 s1 e1;obtain rfl:A=aF:=by have z:=gA.symm.trans XX.field;cases z;rfl
   obtain rfl:B=A:=by have z:=gB.symm.trans gA;cases z;rfl
   refine ⟨XX.exmF,λy hy=>?_⟩;have s2:=c4 (o:=.ext (ExA y (.ref B) (some dx))) hy;have ey:upd H1 y (.ext (ExA y (.ref B) (some dx))) y=some (.ext (ExA y (.ref B) (some dx))):=b7;have ex:=s2 _ _ e1;have S2:=s1.trans s2;generalize upd H1 y (.ext (ExA y (.ref B) (some dx)))=H2 at ey ex S2 ⊢;refine ⟨_,rfl,Or.inr ⟨y,B,_,true,_,rfl,ey,tt,XX.kitF,Or.inl ⟨rfl,XX.veF⟩,_,rfl,y7 ?_⟩⟩;refine ⟨_,rfl,Or.inr ⟨y,B,_,false,_,rfl,ey,tt,XX.kitF,Or.inl ⟨rfl,XX.kFM⟩,_,rfl,y7 ?_⟩⟩;dsimp only [W9,a4t];refine ⟨_,rfl,Or.inr ⟨y,B,_,true,_,rfl,ey,tt,XX.kitF,Or.inl ⟨rfl,XX.kFF⟩,_,rfl,C6 ?_⟩⟩;refine ⟨_,rfl,(by show 2<=sizeLine;decide),λp2 hp2=>Or.inr ⟨y,B,.ref p2,false,_,rfl,c4 hp2 _ _ ey,tt,XX.kitF,Or.inr ⟨p2,_,rfl,b7,rfl,a6x XX.kFN (a6x XX.kFP rfl)⟩,_,rfl,C6 ?_⟩⟩;have s3:=c4 (o:=.tup [.ref aN,.ref aP]) hp2;have ey3:=s3 _ _ ey;have ex3:=s3 _ _ ex;have S3:=S2.trans s3;generalize upd H2 p2 (.tup [.ref aN,.ref aP])=H3 at ey3 ex3 S3 ⊢;refine ⟨_,rfl,y,B,dx,_,_,_,rfl,ey3,λh z=>z,ex3,pB,nB,rfl,?_⟩;dsimp only [q0,List.set];refine ⟨_,rfl,Or.inl ⟨_,_,_,_,rfl,rfl,rfl,_,rfl,y7 ?_⟩⟩;refine ⟨_,rfl,Or.inl ⟨_,_,_,_,rfl,rfl,rfl,_,rfl,y7 ?_⟩⟩;exact ⟨_,rfl,q _ S3⟩
  ·refine b8D hin hp ?_;intro A gA H1 s1;obtain rfl:A=aP:=by have z:=gA.symm.trans XX.place;cases z;rfl
   refine ⟨XX.exmP,λy hy=>?_⟩;have s2:=c4 (o:=.ext (ExA y (.ref A) none)) hy;have ey:upd H1 y (.ext (ExA y (.ref A) none)) y=some (.ext (ExA y (.ref A) none)):=b7;have S2:=s1.trans s2;generalize upd H1 y (.ext (ExA y (.ref A) none))=H2 at ey S2 ⊢;refine ⟨_,rfl,Or.inr ⟨y,A,_,true,_,rfl,ey,tt,XX.kitP,Or.inl ⟨rfl,XX.veP⟩,_,rfl,y7 ?_⟩⟩;refine ⟨_,rfl,Or.inr ⟨y,A,_,false,_,rfl,ey,tt,XX.kitP,Or.inl ⟨rfl,XX.kPM⟩,_,rfl,y7 ?_⟩⟩;dsimp only [W9,a4t];refine ⟨_,rfl,Or.inr ⟨y,A,_,false,_,rfl,ey,tt,XX.kitP,Or.inl ⟨rfl,XX.kPF⟩,_,rfl,y7 ?_⟩⟩;refine y7 ?_;refine ⟨_,rfl,Or.inr ⟨y,A,_,true,_,rfl,ey,tt,XX.kitP,Or.inl ⟨rfl,XX.kPP⟩,_,rfl,C6 ?_⟩⟩;refine ⟨_,rfl,Or.inr ⟨y,A,_,false,_,rfl,ey,tt,XX.kitP,Or.inl ⟨rfl,XX.kPN⟩,_,rfl,C6 ?_⟩⟩;exact ⟨_,rfl,q _ S2⟩
theorem b9v {H:Hp}{p q:Addr}{xs ys:List Str}{Q:VK}(hp:H p=some (.lst (xs.map V.str)))(hq:H q=some (.lst (ys.map V.str)))(hx:∀ x∈xs,PyData.strOk x=true)(hy:∀ y∈ys,PyData.strOk y=true)(k:Q (.bl (!decide (xs=ys))) H):c9c (.ref p) (.ref q) H Q :=
 ⟨p,q,_,_,X0 xs,X0 ys,rfl,rfl,hp,hq,a1T xs,a1T ys,b6m hx hy,by rw [a7P];exact k⟩
theorem b5x {H:Hp}{p q:Addr}{xs ys:List Str}{Q:VK}(hp:H p=some (.lst (xs.map V.str)))(hq:H q=some (.lst (ys.map V.str)))(hx:∀ x∈xs,PyData.strOk x=true)(hy:∀ y∈ys,PyData.strOk y=true)(k:Q (.bl (decide (xs=ys))) H):b5T (.ref p) (.ref q) H Q :=
 ⟨p,q,_,_,X0 xs,X0 ys,rfl,rfl,hp,hq,a1T xs,a1T ys,b6m hx hy,by rw [a7P];exact k⟩
theorem a4x (F:List (List (Option Int))):∀ t∈F.map o5,PyData.strOk t=true:=λt ht=>by
 obtain ⟨r,_,rfl⟩:=List.mem_map.mp ht;exact b1e r
theorem b6q:D4 "show" = .lines:=by kernel_rfl
theorem b3d:D4 "filter" = .filter:=by kernel_rfl
theorem b7q:D4 "at 0 0" = .spot 0 0:=by kernel_rfl
theorem ok3:N4 "show"/\N4 "filter"/\N4 "at 0 0":=⟨a3o .(28),a3o .(28),a3o .(28)⟩
theorem b3u (r:List (Option Int))(c:Option Int):∀ t∈[o5 r,c5 c],PyData.strOk t=true:=λt ht=>by
 rcases List.mem_cons.mp ht with rfl | ht
 ·exact b1e _
 ·rw [List.mem_singleton.mp ht];exact b1E _
noncomputable def b4F (C:Addr):Sp:=λvs H Q _=>∃ (x dy p1:Addr) (fa wa ra sa fv wv rv sv:V) (D:Dsk),vs=[.ref x,.ref p1]/\V5 C H x dy fa wa ra sa D/\H p1=some (.lst [fv,wv,rv,sv])/\a5N H fv wv rv sv D/\∀ H',n6 H H'->Q (.bl true) H'
theorem a0M (T:Txt K mg C):Df P w K mg base 8 "_law_same" ["desk","state"] (b4F C):=by
 refine T.d_law_same.ok L6 .(29) .(30)
 ·obtain ⟨x,dy,p1,fa,wa,ra,sa,fv,wv,rv,sv,D,rfl,_⟩:=h
  rfl
 ·obtain ⟨x,dy,p1,fa,wa,ra,sa,fv,wv,rv,sv,D,rfl,k,hp1,at0,q⟩:=h;refine ⟨_,.(2 .(19 (pv 1) (W0 (K:=K) rfl rfl (o6 (m9 (i:=2) L6.nd rfl .(27)) (o6 (m9 (i:=3) L6.nd rfl .(27)) (o6 (m9 (i:=4) L6.nd rfl .(27)) (o6 (m9 (i:=5) L6.nd rfl .(27)) P9)))))) .(2 .(8 6 L6.nd .(4 (a0p T) .(0 (pv 2) .(0 (pv 3) .(0 (pv 4) .(0 b6 .(0 b6 a7)))))) (by first | exact .inl rfl | exact .inr rfl)) .(2 .(10 .(12 (b8q hr.units) (a3R (J6 T) T.cl_Desk (hr.mono .(24)) (pv 0) .(0 b8 a7)) .(4 (W3 T) .(0 (pv 2) a7)) (j8 _)) .(3 .(7 b6v)) i7) .(2 .(8 7 L6.nd (G8 (K:=K) rfl PySem.F.plainAttrs_str PySem.F.slot_str_join PySem.F.type_str_join (F7 (K:=K) rfl) b8 .(1 (w5 (M:=[]) (idx:=[]) rfl (A9 (K:=K) rfl (pv 6)) (J2 (by kernel_rfl)) .(28) .(27) (λ_ _ _ _ _=>F5) (λ_ _ _ _ _=>.(4 (U5 T) .(0 (pv 0) a7)))) a7 A4)) (by first | exact .inl rfl | exact .inr rfl)) .(3 .(7 .(22 (b9q hr.units) (a3R (J6 T) T.cl_Desk (hr.mono .(24)) (pv 0) .(0 b8 a7)) .(6 .(0 (pv 7) .(1 .(4 (U5 T) .(1 .(4 (a8L T) .(0 (pv 6) .(0 (pv 5) a7))) a7 c8)) a7 c8))) (j8 _)))))))),?_⟩
  have ok:=k.ok;have fh:=ok.fh;have fw:=ok.fw;have Fh1:=ok.rect.h1;have Fw1:=ok.rect.w1;have bb:=ok.bb;refine ⟨_,rfl,_,_,rfl,SqL.of hp1,rfl,_,_,rfl,_,_,rfl,_,_,rfl,_,_,rfl,rfl,?_⟩;dsimp only [q0,List.set];refine ⟨_,rfl,_,rfl,_,rfl,fv,wv,rv,D.F,D.ru,D.u,D.d,D.l,D.r,0,0,rfl,ok.rect,at0.f_,at0.w_,at0.r_,⟨by omega,by omega⟩,⟨by omega,by omega⟩,⟨by omega,by omega,by omega,by omega⟩,λcw H1 s1 hcw=>?_⟩;dsimp only [q0,List.set];have wl:=b4b D.F D.ru D.u D.d D.l D.r 0 0;have wl2:(D.u + D.d + 1) * (D.l + D.r + 1)<=13 * 13:=Nat.mul_le_mul .(25) .(25);have w9:∀ c∈wc D.F D.ru D.u D.d D.l D.r 0 0,a2t c:=λc hc=>(b3o ok c hc).wide;have k1:=k.same s1;refine ⟨_,rfl,x,dy,_,rfl,k1.at_,W7 ..,?_⟩;refine ⟨x,dy,fa,wa,ra,sa,D,"show",rfl,k1,ok3.1,?_⟩;rw [b6q];intro l2 H2 s2 f2 h2;refine ⟨_,rfl,fv,D.F,rfl,at0.f_.keep (s1.trans s2).tups,ok.rectW,λl3 H3 s3 f3 h3=>?_⟩;have S3:=(s1.trans s2).trans s3;refine Or.inr (b9v (xs:=D.F.map o5) (ys:=D.F.map o5) (s3 _ _ h2) (by rw [h3,List.map_map]) (a4x _) (a4x _) ⟨_,rfl,?_⟩);rw [decide_eq_true rfl];refine y7 ?_;dsimp only [W9,a4t];have hcw3:=(s2.trans s3) _ _ hcw;generalize hws:wc D.F D.ru D.u D.d D.l D.r 0 0=ws at hcw3 wl w9;refine ⟨rfl,Or.inl ⟨_,rfl,_,rfl,⟨_,SqL.of hcw3⟩,?_⟩⟩;refine R9 (xs:=ws.map j9) (λj zs H'=>H'=H3/\zs=((ws.take j).map c5).map V.str) ⟨rfl,rfl⟩ (by rw [List.length_map];exact Nat.le_trans (show _<=1000 by omega) .(24)) (λj zs H' _ ⟨e,_⟩=>by rw [e];exact SqL.of hcw3) ?_ ?_
  ·rintro m y zs _ hy2 ⟨rfl,rfl⟩;obtain ⟨cl,ec,rfl⟩:=b8f hy2;refine a5E ?_;refine ⟨_,rfl,cl,rfl,w9 cl (List.mem_of_getElem? ec),rfl,?_⟩;rw [List.take_add_one,ec,List.map_append,List.map_append]
   rfl
  ·rintro zs H3' ⟨e3,rfl⟩ l12 hl12;subst e3;rw [List.length_map,List.take_of_length_le (Nat.le_refl _)];refine ⟨_,_,ws.map c5,rfl,rfl,SqL.of b7,?_,?_⟩
   ·have:=a1x (m:=11) (ws.map c5) (λx hx=>by
     obtain ⟨c,hc,rfl⟩:=List.mem_map.mp hx;exact E2 (w9 c hc))
    rw [List.length_map] at this ⊢;have e1:((" " : Str)).length=1:=by decide +kernel
    rw [e1]
    omega
   rw [M4,a3X];have s4:=S3.trans (c4 (o:=.lst ((ws.map c5).map V.str)) hl12);have hcw4:=c4 (o:=.lst ((ws.map c5).map V.str)) hl12 _ _ hcw3;generalize upd H3' l12 (.lst ((ws.map c5).map V.str))=H4 at s4 hcw4 ⊢;dsimp only [q0,List.set];rw [← M4];have k4:=k.same s4;refine ⟨_,rfl,x,dy,_,rfl,k4.at_,W7 ..,?_⟩;refine ⟨x,dy,fa,wa,ra,sa,D,"at 0 0",rfl,k4,ok3.2.2,?_⟩;rw [b7q];refine (if_pos ?_).mpr ?_
   ·unfold inF;rw [decide_eq_true (show (0:Int) < D.F.length by omega),decide_eq_true (show (0:Int) < (D.F.headD []).length by omega)]
    rfl
   rw [hws];intro l5 H5 s5 f5 h5;have S5:=s4.trans s5;refine ⟨_,rfl,_,rfl,_,rfl,cw,sv,ws,D.a,D.b,rfl,s5 _ _ hcw4,by omega,at0.s_.keep S5.tups,ok.sh,λH6 s6=>?_⟩;have em:M7 (ws.filterMap id) D.a D.b=L5 D.F D.ru D.u D.d D.l D.r D.a D.b 0 0:=by rw [← hws];rfl
   rw [em];refine ⟨_,rfl,(a5J ok 0 0).wide,?_⟩;refine ⟨(by show 2<=sizeLine;decide),λp7 hp7=>?_⟩;have s7:=s6.trans (c4 (o:=.lst [V.str (Str.join (" " : Str) (ws.map c5)),V.str (c5 (L5 D.F D.ru D.u D.d D.l D.r D.a D.b 0 0))]) hp7);refine Or.inr (b5x (xs:=[o5 ws,c5 (L5 D.F D.ru D.u D.d D.l D.r D.a D.b 0 0)]) (ys:=[o5 ws,c5 (L5 D.F D.ru D.u D.d D.l D.r D.a D.b 0 0)]) (s7 _ _ h5) (by rw [M4];exact b7) (b3u _ _) (b3u _ _) ?_);rw [decide_eq_true rfl];exact q _ (S5.trans s7)
noncomputable def Q7 (H:Hp):List V->List (V × V)->Prop
 | [],[]=>True
 | v :: vs,p :: ps=>(∃ a,v = .ref a/\H a=some (.lst [p.1,p.2]))/\Q7 H vs ps
 | _,_=>False
theorem Q7.same {H H':Hp}(s:n6 H H'):∀ {vs:List V} {ps:List (V × V)},Q7 H vs ps->Q7 H' vs ps
 | [],[],_=>trivial
 | _ :: _,_ :: _,⟨⟨a,e,h⟩,r⟩=>⟨⟨a,e,s _ _ h⟩,r.same s⟩
theorem Q7.app {H:Hp}{us:List V}{qs:List (V × V)}(q:Q7 H us qs):∀ {vs:List V} {ps:List (V × V)},Q7 H vs ps->Q7 H (vs ++ us) (ps ++ qs)
 | [],[],_=>q
 | _ :: _,_ :: _,⟨h,r⟩=>⟨h,Q7.app q r⟩
theorem Q7.len {H:Hp}:∀ {vs:List V} {ps:List (V × V)},Q7 H vs ps->vs.length=ps.length
 | [],[],_=>rfl
 | _ :: _,_ :: _,⟨_,r⟩=>congrArg (· + 1) r.len
theorem Q7.get {H:Hp}:∀ {vs:List V} {ps:List (V × V)} (n:Nat),Q7 H vs ps->n < vs.length -> ∃ a p,vs[n]? = some (.ref a)/\p∈ps/\H a=some (.lst [p.1,p.2])
 | v :: vs,p :: ps,0,⟨⟨a,e,h⟩,r⟩,_=>⟨a,p,by rw [e];rfl,List.mem_cons_self,h⟩
 | v :: vs,p :: ps,n + 1,⟨_,r⟩,hn=>by
  obtain ⟨a,p',h1,h2,h3⟩:=r.get n (by simpa using hn);exact ⟨a,p',h1,List.mem_cons_of_mem _ h2,h3⟩
noncomputable def a5s (H:Hp)(l:Addr)(ps:List (V × V)):Prop:=∃ vs,H l=some (.lst vs)/\Q7 H vs ps
noncomputable def Prs (tr:TA)(σ:St)(ps:List (V × V)):Prop:=∀ (H:Hp) (Q:List V->Hp->Prop),(∀ vs H',n6 H H'->Q7 H' vs ps->Q vs H')->tr σ H Q
noncomputable def Tx (te:TE)(σ:St)(t:V):Prop:=∀ (H:Hp) (Q:VK),(∀ H',n6 H H'->Q t H')->te σ H Q
theorem G7 {σ:St}{t:V}:Tx (tC t) σ t:=λH _ q=>q H (n6.refl _)
theorem a1r {σ:St}:Prs a1I σ []:=λH _ q=>q [] H (n6.refl _) trivial
theorem Y1 {te tf:TE}{tr:TA}{σ:St}{x y:V}{ps:List (V × V)}(hx:Tx te σ x)(hy:Tx tf σ y)(hr:Prs tr σ ps):Prs (a9y (a7C (a9y te (a9y tf a1I))) tr) σ ((x,y) :: ps):=λH Q q =>
 hx H _ λH1 s1=>hy H1 _ λH2 s2=>⟨(by show 2<=sizeLine;decide),λa ha=>hr _ _ λvs H3 s3 hv=>q _ _ ((s1.trans s2).trans ((c4 ha).trans s3)) ⟨⟨a,rfl,s3 _ _ b7⟩,hv⟩⟩
theorem n8 {te:TE}{tr:TA}{σ:St}{x y:V}{ps:List (V × V)}(ht:Tx te σ x)(hr:Prs tr σ ps):Prs (a9y (a7C (a9y te (a9y (tC y) a1I))) tr) σ ((x,y) :: ps):=Y1 ht G7 hr
theorem b9c {tr:TA}{σ:St}{ps:List (V × V)}{H:Hp}{Q:VK}(h:Prs tr σ ps)(hl:ps.length <= 1000)(q:∀ (l:Addr) (H':Hp),n6 H H'->a5s H' l ps->Q (.ref l) H'):a7C tr σ H Q :=
 h H _ λvs H1 s1 hv=>⟨by rw [hv.len];exact Nat.le_trans hl .(24),λl hl=>q l _ (s1.trans (c4 hl)) ⟨vs,b7,hv.same (c4 hl)⟩⟩
theorem b0U {tr:TA}{σ:St}{ps qs:List (V × V)}{H:Hp}{Q:VK}{l:Addr}(hp:a5s H l ps)(h:Prs tr σ qs)(hl:ps.length + qs.length <= 1000)(q:∀ (l:Addr) (H':Hp),n6 H H'->a5s H' l (ps ++ qs)->Q (.ref l) H') :
  a7C tr σ H λy H2=>b6T (.ref l) y H2 Q:=b9c h .(25) λb H1 s1 ⟨us,h1,hu⟩=>by
 obtain ⟨vs,h0,hv⟩:=hp;refine ⟨l,b,vs,us,rfl,rfl,s1 _ _ h0,h1,by rw [hv.len,hu.len];exact Nat.le_trans hl .(24),λp hp=>?_⟩;have s2:=c4 (o:=.lst (vs ++ us)) hp;exact q p _ (s1.trans s2) ⟨_,b7,((hu.same s2).app ((hv.same s1).same s2))⟩
theorem b4o {σ:St}{i:Nat}{t:V}(h:σ[i]? = some (some t)):Tx (b4i i) σ t:=λH _ q=>⟨_,h,q H (n6.refl _)⟩
theorem a0I {σ:St}{te tf:TE}{x y:Str}(hx:Tx te σ (.str x))(hy:Tx tf σ (.str y))(h:x.length + y.length <= 1000):Tx (tOp (λx y H Q=>∃ i j,x=V.str i/\y=V.str j/\i.length + j.length <= sizeLine/\Q (.str (i ++ j)) H) te tf) σ (.str (x ++ y)):=λH Q q =>
 hx H _ λH1 s1=>hy H1 _ λH2 s2=>⟨x,y,rfl,rfl,Nat.le_trans h .(24),q H2 (s1.trans s2)⟩
theorem a2O {σ:St} {x:Str} (hx:x.length=1):Tx (tBM K "str" (b2v K) (tC (.str x)) (a9y (tOp c7j (a7C (a9y (tC (.str ".")) a1I)) (tC (.int 13))) a1I)) σ (.str (Txt.join x (List.replicate 13 "."))):=λH Q q=>by
 refine ⟨rfl,(by show 1<=sizeLine;decide),λa ha=>?_⟩;refine ⟨a,13,[.str "."],rfl,rfl,b7,.(24),.(24),(by show 13<=sizeLine;decide),λb hb=>?_⟩;have e:(List.replicate (13:Int).toNat [V.str "."]).flatten=(List.replicate 13 (".": Str)).map V.str:=rfl;rw [e];refine ⟨x,b,List.replicate 13 ".",rfl,rfl,SqL.of b7,?_,q _ ((c4 ha).trans (c4 hb))⟩;rw [hx]
 decide +kernel
theorem b3S {tr:TA}{σ:St}{ps:List (V × V)}{H:Hp}{i:Nat}{u:TS}{D:a0x}(h:Prs tr σ ps)(hl:ps.length <= 1000)(q:∀ (l:Addr) (H':Hp),n6 H H'->a5s H' l ps->u D (σ.set i (some (.ref l))) H'):a4t (b8o (a7C tr) (q0 i)) u D σ H:=b9c (Q:=λv H1=>u D (σ.set i (some v)) H1) h hl q
theorem a0D {tr:TA}{σ:St}{ps qs:List (V × V)}{H:Hp}{i:Nat}{u:TS}{D:a0x}{l:Addr}(hi:σ[i]? = some (some (.ref l)))(hp:a5s H l ps)(h:Prs tr σ qs)(hl:ps.length + qs.length <= 1000)(q:∀ (l:Addr) (H':Hp),n6 H H'->a5s H' l (ps ++ qs)->u D (σ.set i (some (.ref l))) H') :
  a4t (b8o (tOp b6T (b4i i) (a7C tr)) (q0 i)) u D σ H:=⟨_,hi,b0U hp h hl q⟩
theorem b4S {tr:TA}{tb:TE}{r:R2}{g:TG}{σ:St}{ps:List (V × V)}{H:Hp}{u:TS}{D:a0x}(h:Prs tr σ ps)(hl:ps.length <= 1000)(q:∀ (l:Addr) (H':Hp),n6 H H'->a5s H' l ps->tb σ H' λy H2=>r (.ref l) y H2 λx H3=>g x σ H3 (u D)) :
  a4t (b8o (tOp r (a7C tr) tb) g) u D σ H:=b9c (Q:=λx H1=>tb σ H1 λy H2=>r x y H2 λx H3=>g x σ H3 (u D)) h hl q
theorem Q7.but {H H':Hp}{d:Addr}(S:C7 H d)(k:d3 d H H'):∀ {vs:List V} {ps:List (V × V)},Q7 H vs ps->Q7 H' vs ps
 | [],[],_=>trivial
 | _ :: _,_ :: _,⟨⟨a,e,h⟩,r⟩=>⟨⟨a,e,k a _ h λz=>by obtain ⟨_,_,_,_,e'⟩:=S;rw [z,e'] at h;exact absurd (congrArg List.length (HO.lst.inj (Option.some.inj h))) (by show ¬ 4=2;decide)⟩,r.but S k⟩
theorem a5s.but {H H':Hp}{d l:Addr}{ps:List (V × V)}(h:a5s H l ps)(S:C7 H d)(k:d3 d H H'):a5s H' l ps:=by
 obtain ⟨vs,hv,hp⟩:=h;refine ⟨vs,k l _ hv λz=>?_,hp.but S k⟩;obtain ⟨a,b,n,c,e⟩:=S;rw [z,e] at hv;cases hv;cases ps with
 | nil=>exact hp
 | cons p ps=>obtain ⟨⟨a,e,_⟩,_⟩:=hp;cases e
noncomputable def prA:List (Str × Int):=[("1 2;3",1),("1;2;x",2),("1 ;2",0),("1  2",0),("",0),(";",0),("1;",1),("1;;2",1),("-0",0)]
noncomputable def prB:List (Str × Int):=[("01",0),("1;2 .;3",1),("1;+2",1),(". .;. ..",1),("1000000001",0),("1;-1000000001",0)]
noncomputable def b1X (x:Str):Str:=Txt.join x (List.replicate 13 ".")
noncomputable def prC:List (Str × Int):=[(b1X " ",0),(b1X ";",0),("1\n2",0),("1;2\n3",1),("1.0",0)]
noncomputable def prD:List (Str × Int):=[("1000000001;x",1),(b1X " " ++ (";1" : Str),1),(b1X ";" ++ (";x" : Str),13)]
noncomputable def prE:List (Str × Int):=[("1 2 1000000001",0),("1 2;. -1000000001",0),(" 1",0),("1 ",0),("1;2 ",1),("1\n",0)]
noncomputable def prF (g:Str):List (Str × Int):=[(("1" : Str) ++ g ++ ("2" : Str),0),(("1;2" : Str) ++ g,1),(("1;" : Str) ++ g,1),("1_0",0),("--1",0),("1;-",1)]
noncomputable def b0c:Str := "!#$&'()*+,/:<=>?@AZ[]^_{}~ax"
noncomputable def prV (p:Str × Int):V × V:=(.str p.1,.int p.2)
noncomputable def b2U (p:Str × Int):Bool:=a9S (("field " : Str) ++ p.1) && c7l p.2.toNat (D4 (("field " : Str) ++ p.1)) && decide (0<=p.2)
theorem c1d:((prA ++ prB ++ prC ++ prD ++ prE).all b2U)=true:=by decide +kernel
theorem b1U:(b0c.cps.toList.all λc=>(prF ⟨#[c]⟩).all b2U)=true:=by decide +kernel
theorem b1G:b0c.cps.toList.length=28:=by decide +kernel
noncomputable def b4p:Sp:=λvs H Q _=>∃ (d:Addr),vs=[.ref d]/\C7 H d/\∀ (p:Addr) (line:Str) (k:Nat) (H':Hp),H' p=some (.lst [.str line,.int k])->D4 line = .bad k->N4 line->C7 H' d->d3 d H H'->Q (.ref p) H'
theorem a4W (T:Txt K mg C):Df P w K mg base 2 "_law_fields" ["seed"] b4p:=by
 refine T.d_law_fields.ok A6 .(29) .(30)
 ·obtain ⟨d,rfl,_⟩:=h
  rfl
 ·obtain ⟨d,rfl,S,q⟩:=h;refine ⟨_,.(2 .(8 1 A6.nd .(6 .(1 .(6 .(0 b8 .(0 b6 a7))) .(1 .(6 .(0 b8 .(0 b6 a7))) .(1 .(6 .(0 b8 .(0 b6 a7))) .(1 .(6 .(0 b8 .(0 b6 a7))) .(1 .(6 .(0 b8 .(0 b6 a7))) .(1 .(6 .(0 b8 .(0 b6 a7))) .(1 .(6 .(0 b8 .(0 b6 a7))) .(1 .(6 .(0 b8 .(0 b6 a7))) .(1 .(6 .(0 b8 .(0 b6 a7))) a7 j5) j5) j5) j5) j5) j5) j5) j5) j5)) (by first | exact .inl rfl | exact .inr rfl)) .(2 .(8 1 A6.nd .(5 O4 (pv 1) .(6 .(1 .(6 .(0 b8 .(0 b6 a7))) .(1 .(6 .(0 b8 .(0 b6 a7))) .(1 .(6 .(0 b8 .(0 b6 a7))) .(1 .(6 .(0 b8 .(0 b6 a7))) .(1 .(6 .(0 b8 .(0 b6 a7))) .(1 .(6 .(0 b8 .(0 b6 a7))) a7 j5) j5) j5) j5) j5) j5))) (by first | exact .inl rfl | exact .inr rfl)) .(2 .(8 1 A6.nd .(5 O4 (pv 1) .(6 .(1 .(6 .(1 (G8 (K:=K) rfl PySem.F.plainAttrs_str PySem.F.slot_str_join PySem.F.type_str_join (F7 (K:=K) rfl) b8 .(1 .(5 b4d .(6 .(0 b8 a7)) b6) a7 m5)) .(0 b6 a7) c8)) .(1 .(6 .(1 (G8 (K:=K) rfl PySem.F.plainAttrs_str PySem.F.slot_str_join PySem.F.type_str_join (F7 (K:=K) rfl) b8 .(1 .(5 b4d .(6 .(0 b8 a7)) b6) a7 m5)) .(0 b6 a7) c8)) .(1 .(6 .(0 b8 .(0 b6 a7))) .(1 .(6 .(0 b8 .(0 b6 a7))) .(1 .(6 .(0 b8 .(0 b6 a7))) a7 j5) j5) j5) j5) j5))) (by first | exact .inl rfl | exact .inr rfl)) .(2 .(8 1 A6.nd .(5 O4 (pv 1) .(6 .(1 .(6 .(0 b8 .(0 b6 a7))) .(1 .(6 .(1 .(5 u6 (G8 (K:=K) rfl PySem.F.plainAttrs_str PySem.F.slot_str_join PySem.F.type_str_join (F7 (K:=K) rfl) b8 .(1 .(5 b4d .(6 .(0 b8 a7)) b6) a7 m5)) b8) .(0 b6 a7) m5)) .(1 .(6 .(1 .(5 u6 (G8 (K:=K) rfl PySem.F.plainAttrs_str PySem.F.slot_str_join PySem.F.type_str_join (F7 (K:=K) rfl) b8 .(1 .(5 b4d .(6 .(0 b8 a7)) b6) a7 m5)) b8) .(0 b6 a7) m5)) a7 j5) j5) j5))) (by first | exact .inl rfl | exact .inr rfl)) .(2 .(8 1 A6.nd .(5 O4 (pv 1) .(6 .(1 .(6 .(0 b8 .(0 b6 a7))) .(1 .(6 .(0 b8 .(0 b6 a7))) .(1 .(6 .(0 b8 .(0 b6 a7))) .(1 .(6 .(0 b8 .(0 b6 a7))) .(1 .(6 .(0 b8 .(0 b6 a7))) .(1 .(6 .(0 b8 .(0 b6 a7))) a7 j5) j5) j5) j5) j5) j5))) (by first | exact .inl rfl | exact .inr rfl)) .(2 .(8 2 A6.nd .(9 (d8 (K:=K) rfl) b8 .(4 (d7 T) .(0 (pv 0) .(0 b6 a7)))) (by first | exact .inl rfl | exact .inr rfl)) .(2 .(8 1 A6.nd .(5 O4 (pv 1) .(6 .(1 .(6 .(1 .(5 u6 .(5 u6 b8 (pv 2)) b8) .(0 b6 a7) m5)) .(1 .(6 .(1 .(5 u6 b8 (pv 2)) .(0 b6 a7) m5)) .(1 .(6 .(1 .(5 u6 b8 (pv 2)) .(0 b6 a7) m5)) .(1 .(6 .(0 b8 .(0 b6 a7))) .(1 .(6 .(0 b8 .(0 b6 a7))) .(1 .(6 .(0 b8 .(0 b6 a7))) a7 j5) j5) j5) j5) j5) j5))) (by first | exact .inl rfl | exact .inr rfl)) .(2 .(19 .(9 (d8 (K:=K) rfl) (pv 1) .(4 (d7 T) .(0 (pv 0) .(1 .(11 (m6 (K:=K) rfl) T.n_len x9 .(0 (pv 1) a7)) a7 c8)))) (W0 (K:=K) rfl rfl (o6 (m9 (i:=3) A6.nd rfl .(27)) (o6 (m9 (i:=4) A6.nd rfl .(27)) P9)))) .(3 .(7 .(6 .(1 .(5 u6 b8 (pv 3)) .(0 (pv 4) a7) m5)))))))))))),?_⟩
  refine b3S (n8 G7 (n8 G7 (n8 G7 (n8 G7 (n8 G7 (n8 G7 (n8 G7 (n8 G7 (n8 G7 a1r))))))))) .(24) λl1 H1 s1 h1=>?_;have h1:a5s H1 l1 (prA.map prV):=h1;refine a0D rfl h1 (n8 G7 (n8 G7 (n8 G7 (n8 G7 (n8 G7 (n8 G7 a1r)))))) .(24) λl2 H2 s2 h2=>?_;have h2:a5s H2 l2 ((prA ++ prB).map prV):=h2;refine a0D rfl h2 (n8 (a2O .(28)) (n8 (a2O .(28)) (n8 G7 (n8 G7 (n8 G7 a1r))))) .(24) λl3 H3 s3 h3=>?_;have h3:a5s H3 l3 ((prA ++ prB ++ prC).map prV):=h3;refine a0D rfl h3 (n8 G7 (n8 (a0I (a2O .(28)) G7 .(28)) (n8 (a0I (a2O .(28)) G7 .(28)) a1r))) .(24) λl4 H4 s4 h4=>?_;have h4:a5s H4 l4 ((prA ++ prB ++ prC ++ prD).map prV):=h4;refine a0D rfl h4 (n8 G7 (n8 G7 (n8 G7 (n8 G7 (n8 G7 (n8 G7 a1r)))))) .(24) λl5 H5 s5 h5=>?_;have h5:a5s H5 l5 ((prA ++ prB ++ prC ++ prD ++ prE).map prV):=h5;have S5:=(((s1.trans s2).trans s3).trans s4).trans s5;have S5':C7 H5 d:=S.keep S5;refine ⟨_,rfl,_,_,rfl,S5',.(24),.(24),λx H6 x0 x1 S6 k6=>?_⟩;obtain ⟨c,ec,mc⟩:=a4s (xs:=b0c.cps.toList) x0 (by rw [b1G];exact x1);refine Or.inr (Or.inr ⟨_,_,_,rfl,rfl,(by show b0c.length <= sizeLine;decide +kernel),ec,?_⟩);have h6:a5s H6 l5 ((prA ++ prB ++ prC ++ prD ++ prE).map prV):=h5.but S5' k6;refine a0D rfl h6 (n8 (a0I (a0I G7 (b4o rfl) (by show 2<=1000;decide)) G7 (by show 3<=1000;decide)) (n8 (a0I G7 (b4o rfl) (by show 4<=1000;decide)) (n8 (a0I G7 (b4o rfl) (by show 3<=1000;decide)) (n8 G7 (n8 G7 (n8 G7 a1r)))))) (by show 35<=1000;decide) λl7 H7 s7 h7=>?_;have h7:a5s H7 l7 ((prA ++ prB ++ prC ++ prD ++ prE ++ prF ⟨#[c]⟩).map prV):=h7;obtain ⟨vs,hvs,hv⟩:=h7;have lv:vs.length=35:=hv.len;have S7:=S6.keep s7;dsimp only [q0,List.set];refine ⟨_,rfl,_,rfl,_,rfl,_,_,rfl,Or.inl ⟨_,SqL.of hvs,rfl⟩,_,_,rfl,S7,(by rw [lv];decide),(by rw [lv];decide),λy H8 y0 y1 S8 k8=>?_⟩;have hl8:a5s H8 l7 ((prA ++ prB ++ prC ++ prD ++ prE ++ prF ⟨#[c]⟩).map prV):=a5s.but ⟨vs,hvs,hv⟩ S7 k8;obtain ⟨vs',hvs',hv'⟩:=hl8;have lv':vs'.length=35:=hv'.len;rw [lv] at y1;obtain ⟨a,p',ea,mp',ha⟩:=hv'.get y.toNat .(25);obtain ⟨p,mp,rfl⟩:=List.mem_map.mp mp';have ey:atI vs' y=some (.ref a):=by
   have:=B0 ea
   rwa [Int.toNat_of_nonneg y0] at this
  have good:b2U p=true:=by
   rcases List.mem_append.mp mp with z | z
   ·exact List.all_eq_true.mp c1d p z
   ·exact List.all_eq_true.mp (List.all_eq_true.mp b1U c mc) p z
  unfold b2U at good;rw [Bool.and_eq_true,Bool.and_eq_true,decide_eq_true_eq] at good;obtain ⟨⟨g1,g2⟩,g3⟩:=good;obtain ⟨t,n⟩:=p;refine Or.inl ⟨_,_,_,_,rfl,rfl,SqL.of hvs',ey,?_⟩;refine ⟨_,_,rfl,SqL.of ha,rfl,_,_,rfl,_,_,rfl,rfl,?_⟩;dsimp only [q0,List.set];have lk:=a3o g1;have l9:=lk.len;refine ⟨_,rfl,_,_,rfl,rfl,(by rw [← t9];exact Nat.le_trans l9 .(24)),_,rfl,(by show 2<=sizeLine;decide),λr hr=>?_⟩;have s9:=c4 (o:=.lst [.str (("field " : Str) ++ t),.int n]) hr;refine q r _ n.toNat _ (by rw [Int.toNat_of_nonneg g3];exact b7) (b1Y g2) lk (S8.keep s9) ?_;exact ((((S5.but d).trans k6).trans (s7.but d)).trans k8).trans (s9.but d)
theorem b3J {d l:Addr}{H H1:Hp}{o:HO}(a:d3 d H H1)(f:H l=none):d3 d H (upd H1 l o):=λc u h n=>by
 rw [j4 (d6 h f)];exact a c u h n
theorem b6w {d l:Addr}{H H1:Hp}(a:d3 d H H1)(f:H1 l=none)(n:l≠d):H l=none:=by
 cases e:H l with
 | none=>rfl
 | some o=>rw [a l o e n] at f;cases f
noncomputable def c1c:List Str:=["window 1 1 1 1","share 1 2","edge told 1","cell 0 0 1","at 0 0","still 1"]
noncomputable def c5e:List Str:=["01","-0","+1","x","1_0","1.0","--1","","1\n","..","-"]
noncomputable def b5O:List Str:=["window","1","1","1","1"]
noncomputable def c3c:List Str:=["7","-1","."]
noncomputable def b0M (ws:List Str):Bool:=noB (D4 (Txt.join ⟨#[32]⟩ ws)) && a9S (Txt.join ⟨#[32]⟩ ws) && decide ((ws.map (·.length)).sum + ws.length * 1<=1000)
theorem b1V:(c1c.all λb=>decide (b.length <= 20) && (decide (2<=(o9 b).length /\ (o9 b).length <= 9) && ((List.range ((o9 b).length - 1)).all λk=>c5e.all λo=>b0M ((o9 b).set (k + 1) o))))=true:=by decide +kernel
theorem b4O:((List.range 4).all λk=>c3c.all λo=>b0M (b5O.set (k + 1) o))=true:=by decide +kernel
theorem a2o {xs:List Str}{x:Int}(h0:0<=x)(h1:x < xs.length):∃ y,atI (xs.map V.str) x=some (.str y)/\y∈xs:=by
 obtain ⟨v,e,m⟩:=a4s (xs:=xs.map V.str) h0 (by rw [List.length_map];exact h1);obtain ⟨y,hy,rfl⟩:=List.mem_map.mp m;exact ⟨y,e,hy⟩
theorem b8w {n:Nat}{z:Int}(h0:0<=z)(h1:z < (n:Int) - 1):ixN n (1 + z)=some (z.toNat + 1):=by
 obtain ⟨k,rfl⟩:∃ k:Nat,z=k:=⟨z.toNat,by omega⟩;unfold ixN;rw [if_pos .(25),if_pos .(25)]
 congr 1
 omega
noncomputable def b6Q:Sp:=λvs H Q _=>∃ (d:Addr),vs=[.ref d]/\C7 H d/\∀ (p:Addr) (line:Str) (H':Hp),H' p=some (.lst [.str line,.str ""])->D4 line = .no -> N4 line->C7 H' d->d3 d H H'->Q (.ref p) H'
theorem a2N (T:Txt K mg C):Df P w K mg base 2 "_law_odd_word" ["seed"] b6Q:=by
 refine T.d_law_odd_word.ok J4 .(29) .(30)
 ·obtain ⟨d,rfl,_⟩:=h
  rfl
 ·obtain ⟨d,rfl,S,q⟩:=h;refine ⟨_,.(2 .(8 1 J4.nd .(9 (d8 (K:=K) rfl) .(6 .(0 b8 .(0 b8 .(0 b8 .(0 b8 .(0 b8 .(0 b8 a7))))))) .(4 (d7 T) .(0 (pv 0) .(0 b6 a7)))) (by first | exact .inl rfl | exact .inr rfl)) .(2 .(8 1 J4.nd (G8 (K:=K) rfl PySem.F.plainAttrs_str PySem.F.slot_str_split PySem.F.type_str_split a6E (pv 1) .(0 b8 a7)) (by first | exact .inl rfl | exact .inr rfl)) .(2 .(8 2 J4.nd .(6 .(0 b8 .(0 b8 .(0 b8 .(0 b8 .(0 b8 .(0 b8 .(0 b8 .(0 b8 .(0 b8 .(0 b8 .(0 b8 a7)))))))))))) (by first | exact .inl rfl | exact .inr rfl)) .(2 .(19 .(9 (d8 (K:=K) rfl) (pv 2) .(4 (d7 T) .(0 (pv 0) .(1 .(11 (m6 (K:=K) rfl) T.n_len x9 .(0 (pv 2) a7)) a7 c8)))) (b1d (pv 1) .(5 B8 b6 .(4 (d7 T) .(0 (pv 0) .(1 .(5 O3 .(11 (m6 (K:=K) rfl) T.n_len x9 .(0 (pv 1) a7)) b6) a7 m5)))) a9C)) .(2 .(10 (Z9 .(12 (o7 hr.units) .(9 (d8 (K:=K) rfl) (pv 1) b6) b8 (j8 _)) (S0 .(12 (o7 hr.units) .(4 (d7 T) .(0 (pv 0) .(0 b6 a7))) b6 (j8 _)))).pt .(2 .(8 1 J4.nd .(6 .(0 b8 .(0 b8 .(0 b8 .(0 b8 .(0 b8 a7)))))) (by first | exact .inl rfl | exact .inr rfl)) .(3 .(19 .(9 (d8 (K:=K) rfl) .(6 .(0 b8 .(0 b8 .(0 b8 a7)))) .(4 (d7 T) .(0 (pv 0) .(0 b6 a7)))) (b1d (pv 1) .(5 B8 b6 .(4 (d7 T) .(0 (pv 0) .(0 b6 a7)))) a9C)))) i7) .(3 .(7 .(6 .(1 (G8 (K:=K) rfl PySem.F.plainAttrs_str PySem.F.slot_str_join PySem.F.type_str_join (F7 (K:=K) rfl) b8 .(0 (pv 1) a7)) .(0 b8 a7) c8))))))))),?_⟩
  refine ⟨(by show 6<=sizeLine;decide),λp1 hp1=>?_⟩;have hpd:=S.ne hp1;have e1:upd H p1 (.lst [V.str "window 1 1 1 1",V.str "share 1 2",V.str "edge told 1",V.str "cell 0 0 1",V.str "at 0 0",V.str "still 1"]) p1=some (.lst (c1c.map V.str)):=b7;have S1:=S.upd (o:=.lst [V.str "window 1 1 1 1",V.str "share 1 2",V.str "edge told 1",V.str "cell 0 0 1",V.str "at 0 0",V.str "still 1"]) hp1;have K1:=(d3.refl d H).upd (o:=.lst [V.str "window 1 1 1 1",V.str "share 1 2",V.str "edge told 1",V.str "cell 0 0 1",V.str "at 0 0",V.str "still 1"]) hp1;generalize upd H p1 (.lst [V.str "window 1 1 1 1",V.str "share 1 2",V.str "edge told 1",V.str "cell 0 0 1",V.str "at 0 0",V.str "still 1"])=H1 at e1 S1 K1 ⊢;refine ⟨_,rfl,_,_,rfl,S1,.(24),.(24),λx H2 x0 x1 S2 k2=>?_⟩;obtain ⟨b,eb,hb⟩:=a2o (xs:=c1c) x0 x1;have ob:=List.all_eq_true.mp b1V b hb;rw [Bool.and_eq_true,Bool.and_eq_true,decide_eq_true_eq,decide_eq_true_eq] at ob;obtain ⟨ob1,ob2,ob3⟩:=ob;refine Or.inl ⟨_,_,_,_,rfl,rfl,SqL.of (k2 p1 _ e1 hpd),eb,?_⟩;dsimp only [q0,List.set];have K2:=K1.trans k2;refine ⟨_,rfl,rfl,_,_,rfl,rfl,by decide +kernel,by omega,λlw hlw=>?_⟩;rw [M4];have ew:upd H2 lw (.lst ((Txt.split b ⟨#[32]⟩).map V.str)) lw=some (.lst ((o9 b).map V.str)):=b7;have nw:=S2.ne hlw;have S3:=S2.upd (o:=.lst ((Txt.split b ⟨#[32]⟩).map V.str)) hlw;have K3:=K2.upd (o:=.lst ((Txt.split b ⟨#[32]⟩).map V.str)) hlw;have hlwN:H lw=none:=b6w K2 hlw nw;generalize upd H2 lw (.lst ((Txt.split b ⟨#[32]⟩).map V.str))=H3 at ew S3 K3 ⊢;generalize o9 b=ws at ew ob2 ob3;dsimp only [q0,List.set];refine ⟨(by show 11<=sizeLine;decide),λp4 hp4=>?_⟩;have eo:upd H3 p4 (.lst [V.str "01",V.str "-0",V.str "+1",V.str "x",V.str "1_0",V.str "1.0",V.str "--1",V.str "",V.str "1\n",V.str "..",V.str "-"]) p4=some (.lst (c5e.map V.str)):=b7;have n4:=S3.ne hp4;have ew4:=c4 (o:=.lst [V.str "01",V.str "-0",V.str "+1",V.str "x",V.str "1_0",V.str "1.0",V.str "--1",V.str "",V.str "1\n",V.str "..",V.str "-"]) hp4 _ _ ew;have S4:=S3.upd (o:=.lst [V.str "01",V.str "-0",V.str "+1",V.str "x",V.str "1_0",V.str "1.0",V.str "--1",V.str "",V.str "1\n",V.str "..",V.str "-"]) hp4;have K4:=K3.upd (o:=.lst [V.str "01",V.str "-0",V.str "+1",V.str "x",V.str "1_0",V.str "1.0",V.str "--1",V.str "",V.str "1\n",V.str "..",V.str "-"]) hp4;generalize upd H3 p4 (.lst [V.str "01",V.str "-0",V.str "+1",V.str "x",V.str "1_0",V.str "1.0",V.str "--1",V.str "",V.str "1\n",V.str "..",V.str "-"])=H4 at eo ew4 S4 K4 ⊢;dsimp only [q0,List.set];refine ⟨_,rfl,_,rfl,_,rfl,_,_,rfl,Or.inl ⟨_,SqL.of eo,rfl⟩,_,_,rfl,S4,.(24),.(24),λy H5 y0 y1 S5 k5=>?_⟩;obtain ⟨o,eO,hO⟩:=a2o (xs:=c5e) y0 y1;refine Or.inl ⟨_,_,_,_,rfl,rfl,SqL.of (k5 p4 _ eo n4),eO,?_⟩;have ew5:=k5 lw _ ew4 nw;refine ⟨_,rfl,_,rfl,_,rfl,_,_,rfl,Or.inl ⟨_,SqL.of ew5,rfl⟩,_,_,rfl,rfl,_,_,rfl,S5,(by rw [List.length_map];omega),(by rw [List.length_map];omega),λz H6 z0 z1 S6 k6=>?_⟩;rw [List.length_map] at z1;have ew6:=k6 lw _ ew5 nw;have bad:b0M (ws.set (z.toNat + 1) o)=true:=List.all_eq_true.mp (List.all_eq_true.mp ob3 z.toNat (List.mem_range.mpr .(25))) o hO;refine ⟨_,_,rfl,rfl,_,_,_,_,rfl,rfl,ew6,b8w z0 (by rw [List.length_map];exact z1),?_⟩;have e7:upd H6 lw (.lst ((ws.map V.str).set (z.toNat + 1) (.str o))) lw=some (.lst ((ws.set (z.toNat + 1) o).map V.str)):=by rw [List.map_set];exact b7
  have S7:C7 (upd H6 lw (.lst ((ws.map V.str).set (z.toNat + 1) (.str o)))) d:=by
   obtain ⟨a1,a2,a3,a4,a5⟩:=S6;exact ⟨a1,a2,a3,a4,by rw [j4 (Ne.symm nw)];exact a5⟩
  have K7:d3 d H (upd H6 lw (.lst ((ws.map V.str).set (z.toNat + 1) (.str o)))):=b3J ((K4.trans k5).trans k6) hlwN;generalize upd H6 lw (.lst ((ws.map V.str).set (z.toNat + 1) (.str o)))=H7 at e7 S7 K7 ⊢;have l1:1<=(ws.set (z.toNat + 1) o).length:=by rw [List.length_set];omega
  generalize ws.set (z.toNat + 1) o=us at bad e7 l1;clear ew6 ew5 ew4 ew ob3 ob2 z0 z1;dsimp only [q0,List.set];refine W8 (fun σ' H'=>∃ (l:Addr) (us':List Str) (v2:Option V),σ'=[some (.ref d),some (.ref l),v2]/\H' l=some (.lst (us'.map V.str))/\b0M us'=true/\C7 H' d/\d3 d H H') ?_ (λrest=>?_)
  ·rintro _ H8 ⟨l,us',v2,rfl,e8,bad8,S8,K8⟩;unfold b0M at bad8;rw [Bool.and_eq_true,Bool.and_eq_true,decide_eq_true_eq] at bad8;obtain ⟨⟨g1,g2⟩,g3⟩:=bad8;refine ⟨rfl,_,rfl,?_⟩;refine ⟨_,_,us',rfl,rfl,SqL.of e8,?_,?_⟩
   ·show _ + us'.length * 1<=_
    omega
   refine ⟨(by show 2<=sizeLine;decide),λr hr=>?_⟩;have s9:=c4 (o:=.lst [.str (Txt.join ⟨#[32]⟩ us'),.str ""]) hr;exact q r _ _ b7 (b4I g1) (a3o g2) (S8.keep s9) (K8.trans (s9.but d))
  ·obtain ⟨u0,ur,rfl⟩:∃ u0 ur,us=u0 :: ur:=by
    cases us with
    | nil=>exact absurd l1 .(24)
    | cons u0 ur=>exact ⟨u0,ur,rfl⟩
   have at0:atI ((u0 :: ur).map V.str) 0=some (.str u0):=B0 (j:=0) rfl;refine ⟨_,rfl,Or.inl ⟨_,_,_,_,rfl,rfl,SqL.of e7,at0,Or.inl ⟨rfl,_,rfl,A7 (λzw=>?_) (λzw=>?_)⟩⟩⟩
   ·refine ⟨_,rfl,_,_,rfl,S7,.(24),.(24),λt H8 t0 t1 S8 k8=>?_⟩;refine Or.inl ⟨rfl,_,rfl,A7 (λzt=>?_) (λzt=>?_)⟩
    ·refine ⟨(by show 5<=sizeLine;decide),λp9 hp9=>?_⟩;have n9:=S8.ne hp9;have K8:=K7.trans k8;have h9N:=b6w K8 hp9 n9;have e9:upd H8 p9 (.lst [V.str "window",V.str "1",V.str "1",V.str "1",V.str "1"]) p9=some (.lst (b5O.map V.str)):=b7;have S9:=S8.upd (o:=.lst [V.str "window",V.str "1",V.str "1",V.str "1",V.str "1"]) hp9;have K9:=K8.upd (o:=.lst [V.str "window",V.str "1",V.str "1",V.str "1",V.str "1"]) hp9;generalize upd H8 p9 (.lst [V.str "window",V.str "1",V.str "1",V.str "1",V.str "1"])=H9 at e9 S9 K9 ⊢;dsimp only [q0,List.set];refine ⟨(by show 3<=sizeLine;decide),λp10 hp10=>?_⟩;have n10:=S9.ne hp10;have e10:upd H9 p10 (.lst [V.str "7",V.str "-1",V.str "."]) p10=some (.lst (c3c.map V.str)):=b7;have e910:=c4 (o:=.lst [V.str "7",V.str "-1",V.str "."]) hp10 _ _ e9;have S10:=S9.upd (o:=.lst [V.str "7",V.str "-1",V.str "."]) hp10;have K10:=K9.upd (o:=.lst [V.str "7",V.str "-1",V.str "."]) hp10;generalize upd H9 p10 (.lst [V.str "7",V.str "-1",V.str "."])=H10 at e10 e910 S10 K10 ⊢;refine ⟨_,rfl,_,_,rfl,S10,.(24),.(24),λy2 H11 a0 a1 S11 k11=>?_⟩;obtain ⟨o2,eO2,hO2⟩:=a2o (xs:=c3c) a0 a1;refine Or.inl ⟨_,_,_,_,rfl,rfl,SqL.of (k11 p10 _ e10 n10),eO2,?_⟩;refine ⟨_,rfl,_,rfl,_,_,rfl,S11,.(24),.(24),λz2 H12 c0 c1 S12 k12=>?_⟩;have e12:=k12 p9 _ (k11 p9 _ e910 n9) n9;refine ⟨_,_,rfl,rfl,_,_,_,_,rfl,rfl,e12,b8w c0 (by show z2 < (5:Int) - 1;omega),?_⟩;have e13:upd H12 p9 (.lst ((b5O.map V.str).set (z2.toNat + 1) (.str o2))) p9=some (.lst ((b5O.set (z2.toNat + 1) o2).map V.str)):=by rw [List.map_set];exact b7
     refine rest _ _ ⟨p9,_,_,rfl,e13,List.all_eq_true.mp (List.all_eq_true.mp b4O z2.toNat (List.mem_range.mpr .(25))) o2 hO2,?_,b3J ((K10.trans k11).trans k12) h9N⟩;obtain ⟨a1,a2,a3,a4,a5⟩:=S12;exact ⟨a1,a2,a3,a4,by rw [j4 (Ne.symm n9)];exact a5⟩
    ·exact rest _ _ ⟨lw,_,_,rfl,k8 lw _ e7 nw,bad,S8,K7.trans k8⟩
   ·refine y7 ?_;exact rest _ _ ⟨lw,_,_,rfl,e7,bad,S7,K7⟩
theorem c5c {tr:TA}{σ:St}{xs:List Str}{H:Hp}{i:Nat}{u:TS}{D:a0x}(h:∀ σ H Q,Q (xs.map V.str) H->tr σ H Q)(hl:xs.length <= 1000)(q:∀ (l:Addr) (H':Hp),n6 H H'->H' l=some (.lst (xs.map V.str))->u D (σ.set i (some (.ref l))) H'):a4t (b8o (a7C tr) (q0 i)) u D σ H :=
 h σ H _ ⟨by rw [List.length_map];exact Nat.le_trans hl .(24),λl hl=>q l _ (c4 hl) b7⟩
theorem a1C {tr:TA}{σ:St}{xs ys:List Str}{H:Hp}{i:Nat}{u:TS}{D:a0x}{l:Addr}(hi:σ[i]? = some (some (.ref l)))(hp:H l=some (.lst (ys.map V.str)))(h:∀ σ H Q,Q (xs.map V.str) H->tr σ H Q)(hl:ys.length + xs.length <= 1000)
  (q:∀ (l:Addr) (H':Hp),n6 H H'->H' l=some (.lst ((ys ++ xs).map V.str))->u D (σ.set i (some (.ref l))) H'):a4t (b8o (tOp b6T (b4i i) (a7C tr)) (q0 i)) u D σ H:=by
 refine ⟨_,hi,h σ H _ ⟨by rw [List.length_map];exact Nat.le_trans (show xs.length <= 1000 by omega) .(24),λb hb=>?_⟩⟩;have s1:=c4 (o:=.lst (xs.map V.str)) hb;refine ⟨l,b,_,_,rfl,rfl,s1 _ _ hp,b7,by rw [List.length_map,List.length_map];exact Nat.le_trans hl .(24),λp hp=>?_⟩;exact q p _ (s1.trans (c4 hp)) (by rw [List.map_append];exact b7)
noncomputable def b8M:List Str:=["","field","show "," show","Show","filter x","moves 1","take 1","window 1 1 1","window"]
noncomputable def b7M:List Str:=["window 1 1 1 7","window 1 1 1 -1","window 1 1 1 1 1","window 1 1 1 01","edge","edge told"]
noncomputable def b6M:List Str:=["edge near 1","edge told x","edge told 1000000001","edge told . .","edge far","share 1"]
noncomputable def b5M:List Str:=["share 2 1","share 0 0","share -1 2","share 1 1001","share 1 2 3","cell 0 0","cell 0 0 x"]
noncomputable def b4M:List Str:=["cell 0 0 1000000001","cell 0 0 -0","cell 99 0 x","cell x 0 1","at 0","at 0 x","at 0 0 0"]
noncomputable def b3M:List Str:=["at 00 0","still","still 41","still -1","still 1.0","still 1 1","show\n","edge near\n"]
noncomputable def b2M:List Str:=["share 1 2\n","cell 0 0 1_0","at 99 x","at -1 00","cell 99 x 1","cell 99 0 1000000001"]
noncomputable def b1M:List Str:=["cell 0 99 -0","edge told -1000000001","cell 0 0 -1000000001","cell 0 0 5 5","fields 1"]
noncomputable def b9h:List Str:=["show","filter","moves","take","edge near","edge round"]
noncomputable def b0Q:Str := "sxe1"
noncomputable def a0H (x:Str):List Str:=b8M ++ b7M ++ b6M ++ b5M ++ b4M ++ b3M ++ b2M ++ b1M ++ [("cells 0 0 1" : Str),x]
theorem b3y:((a0H "").all λx=>noB (D4 x) && a9S x)=true:=by decide +kernel
theorem b9P:(b9h.all λx=>b0Q.cps.toList.all λc=>noB (D4 (x ++ ⟨#[c]⟩)) && a9S (x ++ ⟨#[c]⟩) && decide (x.length <= 20))=true:=by decide +kernel
theorem b8P:b0Q.cps.toList.length=4:=by decide +kernel
theorem a2Q {i j:Int} (hi:Wide i) (hj:Wide j):N4 (o0 ["at",c5 (some i),c5 (some j)])/\D4 (o0 ["at",c5 (some i),c5 (some j)]) = .spot i j:=by
 have wi:=P1 (c:=some i) λx e=>by cases e;exact hi
 have wj:=P1 (c:=some j) λx e=>by cases e;exact hj
 have a8:∀ c∈("at" : Str).cps.toList,c < 128:=by decide +kernel
 have la:b7n "at":=⟨by decide +kernel,by decide +kernel,a8,a3P .(28)⟩;have f:b6Y ["at",c5 (some i),c5 (some j)]:=⟨by simp,by simp,λw hw=>by
  simp only [List.mem_cons,List.not_mem_nil,or_false] at hw
  rcases hw with rfl | rfl | rfl
  ·exact la
  ·exact wi
  ·exact wj⟩
 have st:stF (o0 ["at",c5 (some i),c5 (some j)])=false:=R0 (c:=97) (t:=[116]) .(28) .(24);refine ⟨b4e f st,?_⟩;rw [a5B (λw hw=>(f.2.2 w hw).1) st,if_neg .(28)];unfold a1u;rw [if_pos rfl,show [c5 (some i),c5 (some j)]=[i,j].map λk=>c5 (some k) from rfl,U1 (n:=2) _ rfl]
theorem a2U {i j:Int} {c:Option Int} (hi:Wide i) (hj:Wide j) (hc:In9 c):N4 (o0 ["cell",c5 (some i),c5 (some j),c5 c])/\D4 (o0 ["cell",c5 (some i),c5 (some j),c5 c]) = .cell i j c:=by
 have wi:=P1 (c:=some i) λx e=>by cases e;exact hi
 have wj:=P1 (c:=some j) λx e=>by cases e;exact hj
 have f:b6Y ["cell",c5 (some i),c5 (some j),c5 c]:=⟨by simp,by simp,λw hw=>by
  simp only [List.mem_cons,List.not_mem_nil,or_false] at hw
  rcases hw with rfl | rfl | rfl | rfl
  ·exact a1w _ .(26)
  ·exact wi
  ·exact wj
  ·exact P1 hc.wide⟩
 have st:stF (o0 ["cell",c5 (some i),c5 (some j),c5 c])=false:=R0 (c:=99) (t:=[101,108,108]) .(28) .(24);refine ⟨b4e f st,?_⟩;rw [a5B (λw hw=>(f.2.2 w hw).1) st,if_pos .(28)];unfold P0;rw [if_neg .(28),if_neg .(28),if_neg .(28),if_pos rfl];unfold a8G;rw [show [c5 (some i),c5 (some j),c5 c].dropLast=[i,j].map λk=>c5 (some k) from rfl,U1 (n:=2) _ rfl]
 show (match V7 (c5 c) with | some c=>Cmd.cell i j c | none=>.no)=_
 rw [a2C (a1O.mpr hc)]
theorem c4i {σ:St}:Tx (tUn (rU λi=>V.int (-i)) (tC (.int 1))) σ (.int (-1)):=λH _ q=>⟨1,rfl,q H (n6.refl _)⟩
theorem a5X (a b c:Str):a ++ (b ++ c)=a ++ b ++ c:=by
 cases a;cases b;cases c;exact congrArg Str.mk (Array.append_assoc ..).symm
theorem b7u {H:Hp}{l d:Addr}{x:Str}{xs:List Str}(h:H l=some (.lst ((x :: xs).map V.str)))(S:C7 H d):l≠d:=λz=>by
 obtain ⟨_,_,_,_,e⟩:=S;rw [z,e] at h;cases h
noncomputable def b6R:Sp:=λvs H Q _=>∃ (d p1:Addr) (fv wv rv sv:V) (D:Dsk),vs=[.ref d,.ref p1]/\C7 H d/\H p1=some (.lst [fv,wv,rv,sv])/\IsD H fv (B2 D.F)/\J0 D /\
 ∀ (p:Addr) (line:Str) (due:V) (H':Hp),H' p=some (.lst [.str line,due])->N4 line->c9h D line due->C7 H' d->d3 d H H'->Q (.ref p) H'
theorem b9s (T:Txt K mg C):Df P w K mg base 3 "_law_bad" ["seed","state"] b6R:=by
 refine T.d_law_bad.ok y6 .(29) .(30)
 ·obtain ⟨d,p1,fv,wv,rv,sv,D,rfl,_⟩:=h
  rfl
 ·obtain ⟨d,p1,fv,wv,rv,sv,D,rfl,S,hp1,hf,ok,q⟩:=h;refine ⟨_,.(2 .(8 2 y6.nd .(11 (m6 (K:=K) rfl) T.n_len x9 .(1 .(9 (d8 (K:=K) rfl) (pv 1) b6) a7 k9)) (by first | exact .inl rfl | exact .inr rfl)) .(2 .(8 3 y6.nd .(11 (m6 (K:=K) rfl) T.n_len x9 .(1 .(9 (d8 (K:=K) rfl) .(9 (d8 (K:=K) rfl) (pv 1) b6) b6) a7 k9)) (by first | exact .inl rfl | exact .inr rfl)) .(2 .(8 4 y6.nd .(4 (d7 T) .(0 (pv 0) .(0 b6 a7))) (by first | exact .inl rfl | exact .inr rfl)) .(2 .(10 .(12 a6R (pv 4) b6 (j8 _)) .(3 .(7 .(4 (a4W T) .(0 (pv 0) a7)))) i7) .(2 .(10 .(12 a3Y (pv 4) b6 (j8 _)) .(3 .(7 .(4 (a2N T) .(0 (pv 0) a7)))) i7) .(2 .(10 .(12 (o7 hr.units) (pv 4) b6 (j8 _)) .(2 .(19 .(9 (d8 (K:=K) rfl) .(6 .(1 .(6 .(1 .(21 a9H b6) .(0 b6 a7) a3O)) .(1 .(6 .(0 b6 .(1 .(21 a9H b6) a7 a3O))) .(1 .(6 .(0 (pv 2) .(0 b6 a7))) .(1 .(6 .(0 b6 .(0 (pv 3) a7))) .(1 .(6 .(0 (pv 2) .(0 (pv 3) a7))) .(1 .(6 .(0 b6 .(0 b6 a7))) a7 j5) j5) j5) j5) j5) j5)) .(4 (d7 T) .(0 (pv 0) .(0 b6 a7)))) (W0 (K:=K) rfl rfl (o6 (m9 (i:=5) y6.nd rfl .(27)) (o6 (m9 (i:=6) y6.nd rfl .(27)) P9)))) .(3 .(7 .(6 .(1 .(9 (d8 (K:=K) rfl) .(6 .(0 (a2E (A8 b8 (A8 (Y9 (pv 5)) (A8 b8 (A8 (Y9 (pv 6)) a1R))))) .(0 (a2E (A8 b8 (A8 (Y9 (pv 5)) (A8 b8 (A8 (Y9 (pv 6)) (A8 b8 a1R)))))) .(0 (a2E (A8 b8 (A8 (Y9 (pv 5)) (A8 b8 (A8 (Y9 (pv 6)) (A8 b8 a1R)))))) a7)))) .(4 (d7 T) .(0 (pv 0) .(0 b6 a7)))) .(0 b8 a7) k9))))) i7) .(2 .(8 7 y6.nd .(6 .(0 b8 .(0 b8 .(0 b8 .(0 b8 .(0 b8 .(0 b8 .(0 b8 .(0 b8 .(0 b8 .(0 b8 a7))))))))))) (by first | exact .inl rfl | exact .inr rfl)) .(2 .(8 7 y6.nd .(5 O4 (pv 7) .(6 .(0 b8 .(0 b8 .(0 b8 .(0 b8 .(0 b8 .(0 b8 a7)))))))) (by first | exact .inl rfl | exact .inr rfl)) .(2 .(8 7 y6.nd .(5 O4 (pv 7) .(6 .(0 b8 .(0 b8 .(0 b8 .(0 b8 .(0 b8 .(0 b8 a7)))))))) (by first | exact .inl rfl | exact .inr rfl)) .(2 .(8 7 y6.nd .(5 O4 (pv 7) .(6 .(0 b8 .(0 b8 .(0 b8 .(0 b8 .(0 b8 .(0 b8 .(0 b8 a7))))))))) (by first | exact .inl rfl | exact .inr rfl)) .(2 .(8 7 y6.nd .(5 O4 (pv 7) .(6 .(0 b8 .(0 b8 .(0 b8 .(0 b8 .(0 b8 .(0 b8 .(0 b8 a7))))))))) (by first | exact .inl rfl | exact .inr rfl)) .(2 .(8 7 y6.nd .(5 O4 (pv 7) .(6 .(0 b8 .(0 b8 .(0 b8 .(0 b8 .(0 b8 .(0 b8 .(0 b8 .(0 b8 a7)))))))))) (by first | exact .inl rfl | exact .inr rfl)) .(2 .(8 7 y6.nd .(5 O4 (pv 7) .(6 .(0 b8 .(0 b8 .(0 b8 .(0 b8 .(0 b8 .(0 b8 a7)))))))) (by first | exact .inl rfl | exact .inr rfl)) .(2 .(8 7 y6.nd .(5 O4 (pv 7) .(6 .(0 b8 .(0 b8 .(0 b8 .(0 b8 .(0 b8 a7))))))) (by first | exact .inl rfl | exact .inr rfl)) .(2 .(8 8 y6.nd .(9 (d8 (K:=K) rfl) .(6 .(0 b8 .(0 b8 .(0 b8 .(0 b8 .(0 b8 .(0 b8 a7))))))) .(4 (d7 T) .(0 (pv 0) .(0 b6 a7)))) (by first | exact .inl rfl | exact .inr rfl)) .(2 .(8 7 y6.nd .(5 O4 (pv 7) .(6 .(0 b8 .(1 .(5 u6 (pv 8) .(9 (d8 (K:=K) rfl) b8 .(4 (d7 T) .(0 (pv 0) .(0 b6 a7))))) a7 m5)))) (by first | exact .inl rfl | exact .inr rfl)) .(3 .(7 .(6 .(1 .(9 (d8 (K:=K) rfl) (pv 7) .(4 (d7 T) .(0 (pv 0) .(1 .(11 (m6 (K:=K) rfl) T.n_len x9 .(0 (pv 7) a7)) a7 c8)))) .(0 b8 a7) k9)))))))))))))))))))),?_⟩
  have fh:=ok.fh;have fw:=ok.fw;have Fh1:=ok.rect.h1;have Fw1:=ok.rect.w1;obtain ⟨ga,xs,b0,ys0,rfl,hga,la,hb0,hb1,lb⟩:=G0 ok.rect hf;refine ⟨_,rfl,Or.inl ⟨_,_,_,_,rfl,rfl,SqL.of hp1,rfl,_,_,rfl,Or.inr ⟨_,SqT.of hga,rfl⟩,?_⟩⟩;dsimp only [q0,List.set];refine ⟨_,rfl,Or.inl ⟨_,_,_,_,rfl,rfl,SqL.of hp1,rfl,Or.inr (Or.inl ⟨_,_,_,_,rfl,rfl,SqT.of hga,hb0,_,_,rfl,Or.inr ⟨_,SqT.of hb1,rfl⟩,?_⟩)⟩⟩;dsimp only [q0,List.set];rw [la,lb];refine ⟨_,rfl,_,_,rfl,S,.(24),.(24),λway H1 y0 y1 S1 k1=>?_⟩;dsimp only [q0,List.set];refine ⟨_,rfl,_,_,rfl,rfl,_,rfl,A7 (λ_=>?_) (λ_=>?_)⟩
  ·exact ⟨_,rfl,d,rfl,S1,λp line k H2 hp hl ok2 S2 k2=>q p line _ H2 hp ok2 (Or.inr (Or.inl ⟨k,hl,rfl⟩)) S2 (k1.trans k2)⟩
  dsimp only [W9];refine ⟨_,rfl,_,_,rfl,rfl,_,rfl,A7 (λ_=>?_) (λ_=>?_)⟩
  ·exact ⟨_,rfl,d,rfl,S1,λp line H2 hp hl ok2 S2 k2=>q p line _ H2 hp ok2 (Or.inl ⟨hl,rfl⟩) S2 (k1.trans k2)⟩
  dsimp only [W9];refine ⟨_,rfl,Or.inl ⟨rfl,_,rfl,A7 (λ_=>?_) (λ_=>?_)⟩⟩
  ·refine b4S (Y1 c4i G7 (Y1 G7 c4i (Y1 (b4o rfl) G7 (Y1 G7 (b4o rfl) (Y1 (b4o rfl) (b4o rfl) (Y1 G7 G7 a1r)))))) (by show 6<=1000;decide) λl2 H2 s2 h2=>?_;have S2:=S1.keep s2;refine ⟨_,rfl,_,_,rfl,S2,.(24),.(24),λy H3 a0 a1 S3 k3=>?_⟩;obtain ⟨vs,hvs,hv⟩:=h2.but S2 k3;have lv:vs.length=6:=hv.len;obtain ⟨a,p,ea,mp,ha⟩:=hv.get y.toNat .(25);have ey:atI vs y=some (.ref a):=by
    have:=B0 ea
    rwa [Int.toNat_of_nonneg a0] at this
   obtain ⟨i,j,rfl,hin,wi,wj⟩:∃ i j,p=(V.int i,V.int j)/\inF D.F i j=false/\Wide i/\Wide j:=by
    have go:∀ i j:Int,(i < 0 \/ D.F.length <= i \/ j < 0 \/ (D.F.headD []).length <= j)->-1<=i->i<=99->-1<=j->j<=99->p=(V.int i,V.int j)->∃ i j,p=(V.int i,V.int j)/\inF D.F i j=false/\Wide i/\Wide j:=λi j h b1 b2 b3 b4 e=>by
     refine ⟨i,j,e,Bool.eq_false_iff.mpr λz=>?_,by unfold Wide;omega,by unfold Wide;omega⟩;have:=a7O z
     omega
    simp only [List.mem_cons,List.not_mem_nil,or_false] at mp
    rcases mp with e | e | e | e | e | e
    ·exact go _ _ .(25) .(25) .(25) .(25) .(25) e
    ·exact go _ _ .(25) .(25) .(25) .(25) .(25) e
    ·exact go _ _ .(25) .(25) .(25) .(25) .(25) e
    ·exact go _ _ .(25) .(25) .(25) .(25) .(25) e
    ·exact go _ _ .(25) .(25) .(25) .(25) .(25) e
    ·exact go _ _ .(25) .(25) .(25) .(25) .(25) e
   refine Or.inl ⟨_,_,_,_,rfl,rfl,SqL.of hvs,ey,?_⟩;refine ⟨_,_,rfl,SqL.of ha,rfl,_,_,rfl,_,_,rfl,rfl,?_⟩;dsimp only [q0,List.set];have li:(Str.ofString (toString i)).length <= 11:=by rw [C4];exact E2 λx e=>by cases e;exact wi
   have lj:(Str.ofString (toString j)).length <= 11:=by rw [C4];exact E2 λx e=>by cases e;exact wj
   have e0:(Str.empty).length=0:=rfl;have e1:(" " : Str).length=1:=by decide +kernel
   have e2:(" 5" : Str).length=2:=by decide +kernel
   have e3:(" ." : Str).length=2:=by decide +kernel
   have e4:("at " : Str).length=3:=by decide +kernel
   have e5:("cell " : Str).length=5:=by decide +kernel
   have fits:∀ {n:Nat},n<=100->n<=sizeLine:=λh=>Nat.le_trans h .(24);have L1:Str.empty ++ ("at " : Str) ++ Str.ofString (toString i) ++ (" " : Str) ++ Str.ofString (toString j)=o0 ["at",c5 (some i),c5 (some j)]:=by rw [b2Y,C4,C4]
   have L2:Str.empty ++ ("cell " : Str) ++ Str.ofString (toString i) ++ (" " : Str) ++ Str.ofString (toString j) ++ (" 5" : Str)=o0 ["cell",c5 (some i),c5 (some j),c5 (some 5)]:=by
    rw [show (" 5" : Str)=(" " : Str) ++ c5 (some 5) by decide +kernel,a5X,a1K,C4,C4]
   have L3:Str.empty ++ ("cell " : Str) ++ Str.ofString (toString i) ++ (" " : Str) ++ Str.ofString (toString j) ++ (" ." : Str)=o0 ["cell",c5 (some i),c5 (some j),c5 none]:=by
    rw [show (" ." : Str)=(" " : Str) ++ c5 none by decide +kernel,a5X,a1K,C4,C4]
   refine ⟨_,rfl,fits (by simp only [t9,e0,e4];omega),_,rfl,i,rfl,F3 wi,_,rfl,fits (by simp only [t9,e0,e4];omega),_,rfl,fits (by simp only [t9,e0,e1,e4];omega),_,rfl,j,rfl,F3 wj,_,rfl,fits (by simp only [t9,e0,e1,e4];omega),fits (by simp only [t9,e0,e1,e4];omega),?_⟩;refine ⟨_,rfl,fits (by simp only [t9,e0,e5];omega),_,rfl,i,rfl,F3 wi,_,rfl,fits (by simp only [t9,e0,e5];omega),_,rfl,fits (by simp only [t9,e0,e1,e5];omega),_,rfl,j,rfl,F3 wj,_,rfl,fits (by simp only [t9,e0,e1,e5];omega),_,rfl,fits (by simp only [t9,e0,e1,e2,e5];omega),fits (by simp only [t9,e0,e1,e2,e5];omega),?_⟩;refine ⟨_,rfl,fits (by simp only [t9,e0,e5];omega),_,rfl,i,rfl,F3 wi,_,rfl,fits (by simp only [t9,e0,e5];omega),_,rfl,fits (by simp only [t9,e0,e1,e5];omega),_,rfl,j,rfl,F3 wj,_,rfl,fits (by simp only [t9,e0,e1,e5];omega),_,rfl,fits (by simp only [t9,e0,e1,e3,e5];omega),fits (by simp only [t9,e0,e1,e3,e5];omega),?_⟩;rw [L1,L2,L3];refine ⟨(by show 3<=sizeLine;decide),λp4 hp4=>?_⟩;have n4:=S3.ne hp4;have S4:=S3.upd (o:=.lst ([o0 ["at",c5 (some i),c5 (some j)],o0 ["cell",c5 (some i),c5 (some j),c5 (some 5)],o0 ["cell",c5 (some i),c5 (some j),c5 none]].map V.str)) hp4;have K4:=((k1.trans (s2.but d)).trans k3).upd (o:=.lst ([o0 ["at",c5 (some i),c5 (some j)],o0 ["cell",c5 (some i),c5 (some j),c5 (some 5)],o0 ["cell",c5 (some i),c5 (some j),c5 none]].map V.str)) hp4;refine ⟨_,rfl,_,_,rfl,S4,.(24),.(24),λt H5 t0 t1 S5 k5=>?_⟩;obtain ⟨line,eL,hL⟩:=a2o (xs:=[o0 ["at",c5 (some i),c5 (some j)],o0 ["cell",c5 (some i),c5 (some j),c5 (some 5)],o0 ["cell",c5 (some i),c5 (some j),c5 none]]) t0 t1;refine Or.inl ⟨_,_,_,_,rfl,rfl,SqL.of (k5 p4 _ b7 n4),eL,?_⟩;have good:N4 line/\(D4 line = .spot i j \/ ∃ c,D4 line = .cell i j c):=by
    simp only [List.mem_cons,List.not_mem_nil,or_false] at hL
    rcases hL with rfl | rfl | rfl
    ·exact ⟨(a2Q wi wj).1,Or.inl (a2Q wi wj).2⟩
    ·have:=a2U (c:=some 5) wi wj (λx e=>by cases e;decide);exact ⟨this.1,Or.inr ⟨_,this.2⟩⟩
    ·have:=a2U (c:=none) wi wj (λx e=>by cases e);exact ⟨this.1,Or.inr ⟨_,this.2⟩⟩
   refine ⟨(by show 2<=sizeLine;decide),λr hr=>?_⟩;have s6:=c4 (o:=.lst [.str line,.str "place"]) hr;exact q r line _ _ b7 good.1 (Or.inr (Or.inr ⟨rfl,i,j,hin,good.2⟩)) (S5.keep s6) ((K4.trans k5).trans (s6.but d))
  ·dsimp only [W9];refine c5c (xs:=b8M) (λ_ _ _ q=>q) .(24) λl2 H2 s2 h2=>?_;refine a1C (xs:=b7M) rfl h2 (λ_ _ _ q=>q) .(24) λl3 H3 s3 h3=>?_;refine a1C (xs:=b6M) rfl h3 (λ_ _ _ q=>q) .(24) λl4 H4 s4 h4=>?_;refine a1C (xs:=b5M) rfl h4 (λ_ _ _ q=>q) .(24) λl5 H5 s5 h5=>?_;refine a1C (xs:=b4M) rfl h5 (λ_ _ _ q=>q) .(24) λl6 H6 s6 h6=>?_;refine a1C (xs:=b3M) rfl h6 (λ_ _ _ q=>q) .(24) λl7 H7 s7 h7=>?_;refine a1C (xs:=b2M) rfl h7 (λ_ _ _ q=>q) .(24) λl8 H8 s8 h8=>?_;refine a1C (xs:=b1M) rfl h8 (λ_ _ _ q=>q) .(24) λl9 H9 s9 h9=>?_;have T9:n6 H1 H9:=((((((s2.trans s3).trans s4).trans s5).trans s6).trans s7).trans s8).trans s9;clear h2 h3 h4 h5 h6 h7 h8 s2 s3 s4 s5 s6 s7 s8 s9;have S9:=S1.keep T9;have n9:l9≠d:=b7u h9 S9;refine ⟨(by show 6<=sizeLine;decide),λp10 hp10=>?_⟩;have n10:=S9.ne hp10;have h10:=c4 (o:=.lst (b9h.map V.str)) hp10 _ _ h9;have S10:=S9.upd (o:=.lst (b9h.map V.str)) hp10;have K10:=(k1.trans (T9.but d)).upd (o:=.lst (b9h.map V.str)) hp10;refine ⟨_,rfl,_,_,rfl,S10,.(24),.(24),λx H11 x0 x1 S11 k11=>?_⟩;obtain ⟨wo,ew,hw⟩:=a2o (xs:=b9h) x0 x1;refine Or.inl ⟨_,_,_,_,rfl,rfl,SqL.of (k11 p10 _ b7 n10),ew,?_⟩;have h11:=k11 l9 _ h10 n9;have K11:=K10.trans k11;dsimp only [q0,List.set];refine ⟨_,rfl,_,rfl,_,rfl,_,_,rfl,S11,.(24),.(24),λy H12 y0 y1 S12 k12=>?_⟩;obtain ⟨c,ec,mc⟩:=a4s (xs:=b0Q.cps.toList) y0 (by rw [b8P];exact y1);have gw:=List.all_eq_true.mp (List.all_eq_true.mp b9P wo hw) c mc;rw [Bool.and_eq_true,decide_eq_true_eq] at gw;obtain ⟨gw,lw⟩:=gw;have h12:=k12 l9 _ h11 n9;refine Or.inr (Or.inr ⟨_,_,_,rfl,rfl,(by show b0Q.length <= sizeLine;decide +kernel),ec,_,_,rfl,rfl,Nat.le_trans (show wo.length + 1<=100 by omega) .(24),(by show 2<=sizeLine;decide),λb hb=>?_⟩);have s13:=c4 (o:=.lst [V.str "cells 0 0 1",V.str (wo ++ ⟨#[c]⟩)]) hb;refine ⟨l9,b,_,[V.str "cells 0 0 1",V.str (wo ++ ⟨#[c]⟩)],rfl,rfl,s13 _ _ h12,b7,(by rw [List.length_map];show 57<=sizeLine;decide),λl14 hl14=>?_⟩;have s14:=s13.trans (c4 (o:=.lst ((b8M ++ b7M ++ b6M ++ b5M ++ b4M ++ b3M ++ b2M ++ b1M).map V.str ++ [V.str "cells 0 0 1",V.str (wo ++ ⟨#[c]⟩)])) hl14);have h14:upd (upd H12 b (.lst [V.str "cells 0 0 1",V.str (wo ++ ⟨#[c]⟩)])) l14 (.lst ((b8M ++ b7M ++ b6M ++ b5M ++ b4M ++ b3M ++ b2M ++ b1M).map V.str ++ [V.str "cells 0 0 1",V.str (wo ++ ⟨#[c]⟩)])) l14=some (.lst ((a0H (wo ++ ⟨#[c]⟩)).map V.str)):=by
    unfold a0H;rw [List.map_append];exact b7
   generalize upd (upd H12 b (.lst [V.str "cells 0 0 1",V.str (wo ++ ⟨#[c]⟩)])) l14 (.lst ((b8M ++ b7M ++ b6M ++ b5M ++ b4M ++ b3M ++ b2M ++ b1M).map V.str ++ [V.str "cells 0 0 1",V.str (wo ++ ⟨#[c]⟩)]))=H14 at s14 h14 ⊢;have S14:=S12.keep s14;have n14:l14≠d:=b7u h14 S14;dsimp only [q0,List.set];have la:(a0H (wo ++ ⟨#[c]⟩)).length=57:=rfl;refine ⟨_,rfl,_,rfl,_,rfl,_,_,rfl,Or.inl ⟨_,SqL.of h14,rfl⟩,_,_,rfl,S14,(by rw [List.length_map,la];decide),(by rw [List.length_map,la];decide),λz H15 z0 z1 S15 k15=>?_⟩;rw [List.length_map] at z1;obtain ⟨line,eL,hL⟩:=a2o z0 z1;have good:(noB (D4 line) && a9S line)=true:=by
    unfold a0H at hL
    rcases List.mem_append.mp hL with m | m
    ·exact List.all_eq_true.mp b3y line (List.mem_append_left _ m)
    ·rcases List.mem_cons.mp m with rfl | m
     ·exact List.all_eq_true.mp b3y _ (List.mem_append_right _ List.mem_cons_self)
     ·rw [List.mem_singleton.mp m];exact gw
   rw [Bool.and_eq_true] at good;refine Or.inl ⟨_,_,_,_,rfl,rfl,SqL.of (k15 l14 _ h14 n14),eL,?_⟩;refine ⟨(by show 2<=sizeLine;decide),λr hr=>?_⟩;have s16:=c4 (o:=.lst [.str line,.str ""]) hr;exact q r line _ _ b7 (a3o good.2) (Or.inl ⟨b4I good.1,rfl⟩) (S15.keep s16) ((((K11.trans k12).trans (s14.but d)).trans k15).trans (s16.but d))
noncomputable def D00:Dsk:=⟨[[none]],.there,0,0,0,0,1,2⟩
theorem c4e:J0 D00:=by
 refine ⟨⟨by decide,by decide,by decide,by decide,λr hr=>?_⟩,λc e=>(by cases e),by decide,by decide,λr hr c hc=>?_,⟨by decide,by decide,by decide,by decide⟩,⟨by decide,by decide,by decide,by decide⟩⟩
 ·simp only [D00,List.mem_cons,List.not_mem_nil,or_false] at hr;subst hr
  rfl
 ·simp only [D00,List.mem_cons,List.not_mem_nil,or_false] at hr;subst hr;simp only [List.mem_cons,List.not_mem_nil,or_false] at hc;subst hc;exact a9E
noncomputable def b0Y (D:Dsk):Nat->Dsk
 | 0=>D00
 | 1=>{ D00 with F:=D.F }
 | 2=>⟨D.F,.there,D.u,D.d,D.l,D.r,1,2⟩
 | 3=>⟨D.F,D.ru,D.u,D.d,D.l,D.r,1,2⟩
 | _=>D
theorem b7D {D:Dsk}(ok:J0 D)(hb:D.b <= 1000){t:Nat}{line:Str}(h:(a0y D)[t]? = some line):b6N (b0Y D t) line (b0Y D (t + 1)):=by
 unfold a0y at h
 match t,h with
 | 0,h =>
  rw [List.getElem?_cons_zero] at h;obtain rfl:=Option.some.inj h;exact Or.inl ⟨D.F,rfl,rfl,⟨ok.rect,λc e=>(by cases e),ok.fh,ok.fw,ok.c9,c4e.sh,c4e.bb⟩⟩
 | 1,h =>
  rw [List.getElem?_cons_succ,List.getElem?_cons_zero] at h;obtain rfl:=Option.some.inj h;exact Or.inr ⟨.window D.u D.d D.l D.r,rfl,ok.bb,rfl⟩
 | 2,h =>
  rw [List.getElem?_cons_succ,List.getElem?_cons_succ,List.getElem?_cons_zero] at h;obtain rfl:=Option.some.inj h;exact Or.inr ⟨.edge D.ru,rfl,ok.rc,rfl⟩
 | 3,h =>
  rw [List.getElem?_cons_succ,List.getElem?_cons_succ,List.getElem?_cons_succ,List.getElem?_cons_zero] at h;obtain rfl:=Option.some.inj h;exact Or.inr ⟨.share D.a D.b,rfl,⟨ok.sh,hb⟩,rfl⟩
 | t + 4,h =>
  rw [List.getElem?_cons_succ,List.getElem?_cons_succ,List.getElem?_cons_succ,List.getElem?_cons_succ,List.getElem?_nil] at h;cases h
structure Lw (C d x dy p1:Addr)(fa wa ra sa fv wv rv sv:V)(D:Dsk)(H:Hp):Prop where
 sd:C7 H d
 k:V5 C H x dy fa wa ra sa D
 v:a5N H fv wv rv sv D
 h1:H p1=some (.lst [fv,wv,rv,sv])
 n1:p1≠d
section
variable {d x dy p1:Addr}{fa wa ra sa fv wv rv sv:V}{D:Dsk}{H:Hp}
theorem Lw.same {H':Hp}(r:Lw C d x dy p1 fa wa ra sa fv wv rv sv D H)(s:n6 H H'):Lw C d x dy p1 fa wa ra sa fv wv rv sv D H' :=
 ⟨r.sd.keep s,r.k.same s,r.v.keep s.tups,s _ _ r.h1,r.n1⟩
theorem Lw.draw {H':Hp}(r:Lw C d x dy p1 fa wa ra sa fv wv rv sv D H)(S:C7 H' d)(k:d3 d H H'):Lw C d x dy p1 fa wa ra sa fv wv rv sv D H':=by
 obtain ⟨ls,hls⟩:=r.sd.lst;have t:=k.tups hls;exact ⟨S,r.k.keep t (k _ _ r.k.at_ (U2 r.k.at_ hls λz=>by cases z)),r.v.keep t,k _ _ r.h1 r.n1,r.n1⟩
end
theorem c2j {H:Hp}{d p:Addr}{fv wv rv sv:V}{D:Dsk}(S:C7 H d)(v:a5N H fv wv rv sv D)(h:H p=some (.lst [fv,wv,rv,sv])):p≠d:=λz=>by
 obtain ⟨a',b',n',c',e'⟩:=S;obtain ⟨g,xs',eg,_⟩:=E1 v.f_;rw [z,e',eg] at h;cases h
theorem c7e {D:Dsk}{line:Str}{due:V}{H:Hp}{Q:VK}(b:c9h D line due)(q:Q (.bl false) H):rNe due due H Q \/ b3q 0 due due H Q:=by
 rcases b with ⟨_,rfl⟩ | ⟨k,_,rfl⟩ | ⟨rfl,_⟩
 ·exact Or.inl ⟨rfl,by rw [decide_eq_true rfl];exact q⟩
 ·exact Or.inl ⟨rfl,by rw [decide_eq_true rfl];exact q⟩
 ·exact Or.inl ⟨rfl,by rw [decide_eq_true rfl];exact q⟩
theorem V5.deed {x dy d:Addr}{fa wa ra sa fv wv rv sv fa' wa' ra' sa':V}{D D':Dsk}{ps:Addr}{H H':Hp}(k:V5 C H x dy fa wa ra sa D)(S:C7 H d)(v:a5N H fv wv rv sv D')(h:H ps=some (.lst [fv,wv,rv,sv]))(kb:d3 x H H')(k':V5 C H' x dy fa' wa' ra' sa' D'):Lw C d x dy ps fa' wa' ra' sa' fv wv rv sv D' H':=by
 have xl:∀ {b:Addr} {ls:List V},H b=some (.lst ls)->H' b=some (.lst ls):=λ{b ls} e=>kb _ _ e (U2 e k.at_ λz=>by cases z);have kt:N7 H H':=λb ws e=>kb _ _ e (U2 e k.at_ λz=>by cases z);refine ⟨?_,k',v.keep kt,xl h,c2j S v h⟩;obtain ⟨a',b',n',c',e'⟩:=S;exact ⟨a',b',n',c',xl e'⟩
theorem c8g (T:Txt K mg C):Df P w K mg base 9 "law" ["script"] (b0N K):=by
 refine T.d_law.ok L7 .(29) .(30)
 ·obtain ⟨a,ns,rfl,_⟩:=h
  rfl
 ·obtain ⟨a,ns,rfl,hS,hl,q⟩:=h;refine ⟨_,.(2 .(8 1 L7.nd .(4 (a9L T) .(1 .(9 (d8 (K:=K) rfl) .(4 (a0G T) .(0 (pv 0) .(0 b6 a7))) b6) a7 k9)) (by first | exact .inl rfl | exact .inr rfl)) .(2 .(19 .(4 (b4f T) .(0 (pv 1) a7)) (W0 (K:=K) rfl rfl (o6 (m9 (i:=2) L7.nd rfl .(27)) (o6 (m9 (i:=3) L7.nd rfl .(27)) P9)))) .(2 .(8 4 L7.nd (b6U (b5f T) (hr.mono .(24)) T.g_Desk) (by first | exact .inl rfl | exact .inr rfl)) .(2 .(18 PassesOwn.never (A9 (K:=K) rfl (pv 3)) (m9 (i:=5) L7.nd rfl .(27)) .(3 .(16 (a3R (J6 T) T.cl_Desk (hr.mono .(24)) (pv 4) .(0 (pv 5) a7))))) .(2 .(18 PassesOwn.never (A9 (K:=K) rfl .(4 (a0G T) .(0 (pv 0) .(0 b6 a7)))) (m9 (i:=6) L7.nd rfl .(27)) .(2 .(8 1 L7.nd .(4 (a9L T) .(0 (pv 6) a7)) (by first | exact .inl rfl | exact .inr rfl)) .(2 .(18 PassesOwn.never (O7 .(23) T.n_range .(0 b6 a7)) (m9 (i:=7) L7.nd rfl .(27)) .(2 .(19 .(4 (b9s T) .(0 (pv 1) .(0 (pv 2) a7))) (W0 (K:=K) rfl rfl (o6 (m9 (i:=5) L7.nd rfl .(27)) (o6 (m9 (i:=8) L7.nd rfl .(27)) P9)))) .(3 .(10 (a0R .(12 (b8q hr.units) .(4 (b1m T) .(0 (pv 4) .(0 (pv 5) a7))) (pv 8) (j8 _)) (a4B .(17 .(13 .(4 (a0M T) .(0 (pv 4) .(0 (pv 2) a7))))))).pt .(3 .(7 b6v)) i7)))) .(2 .(19 .(4 (b2m T) .(0 (pv 1) .(0 (pv 2) a7))) (W0 (K:=K) rfl rfl (o6 (m9 (i:=5) L7.nd rfl .(27)) (o6 (m9 (i:=2) L7.nd rfl .(27)) P9)))) .(3 .(10 (a0R .(12 (b8q hr.units) (a3R (J6 T) T.cl_Desk (hr.mono .(24)) (pv 4) .(0 (pv 5) a7)) .(6 a7) (j8 _)) (a4B .(17 .(13 .(4 (a0M T) .(0 (pv 4) .(0 (pv 2) a7))))))).pt .(3 .(7 b6v)) i7)))))) .(2 .(19 (pv 2) (W0 (K:=K) rfl rfl (o6 (m9 (i:=9) L7.nd rfl .(27)) (o6 (m9 (i:=10) L7.nd rfl .(27)) (o6 (m9 (i:=11) L7.nd rfl .(27)) (o6 (m9 (i:=12) L7.nd rfl .(27)) P9)))))) .(3 .(7 .(22 (b9q hr.units) (a3R (J6 T) T.cl_Desk (hr.mono .(24)) (pv 4) .(0 b8 a7)) .(4 (W3 T) .(1 .(4 (a0t T) .(0 (pv 9) .(0 (pv 10) .(0 (pv 11) .(0 (pv 12) a7))))) a7 c8)) (j8 _)))))))))),?_⟩
  refine ⟨_,rfl,a,ns,1,rfl,hS,hl,λp1 zs H1 s1 e1 nz lz hz=>?_⟩;obtain ⟨z0,zr,rfl⟩:∃ z0 zr,zs=z0 :: zr:=by
   cases zs with
   | nil=>exact absurd rfl nz
   | cons z r=>exact ⟨z,r,rfl⟩
  obtain ⟨c0,rfl⟩:=hz z0 .(26);refine Or.inl ⟨_,_,_,_,rfl,rfl,SqL.of e1,B0 (j:=0) rfl,?_⟩;refine ⟨c0,rfl,λd H2 fd S2 s2=>?_⟩;dsimp only [q0,List.set];refine ⟨_,rfl,d,rfl,S2,λfv wv rv sv D p3 ps pl H3 ok hb h3 hps hpl v3 S3 k3=>?_⟩;refine ⟨_,_,rfl,SqL.of h3,rfl,_,_,rfl,_,_,rfl,rfl,?_⟩;refine λx dx hx hdx ne=>⟨x,dx,rfl,b7,λfa wa ra sa H4 k4 e4 f4 w4 r4 sh4=>⟨rfl,?_⟩⟩;have S34:n6 H3 H4:=λb o e=>k4 b o (by rw [j4 (d6 e hx),j4 (d6 e hdx)];exact e) (d6 e hx);have d4:V5 C H4 x dx fa wa ra sa D00:=⟨e4,f4,w4,r4,sh4,c4e⟩;dsimp only [q0,List.set];refine Or.inl ⟨_,rfl,pl,rfl,⟨_,SqL.of (S34 _ _ hpl)⟩,?_⟩;refine a1F (K:=K) (xs:=(a0y D).map V.str) (λt σ H'=>n6 H3 H'/\∃ (v5:Option V) (fa wa ra sa:V),σ=[some (.ref a),some (.ref d),some (.ref ps),some (.ref pl),some (.ref x),v5,none,none,none,none,none,none,none]/\V5 C H' x dx fa wa ra sa (b0Y D t)) ⟨S34,none,fa,wa,ra,sa,rfl,d4⟩ (λ_ _ _ _ h=>SqL.of (h.1 _ _ hpl)) ?_ ?_
  ·rintro t y _ H12 hy ⟨S12,v5,fa,wa,ra,sa,rfl,d12⟩;obtain ⟨line,el,rfl⟩:=b0e hy;obtain ⟨lok,gets⟩:=a0U d12.ok (b7D ok hb el);refine ⟨_,rfl,x,dx,_,rfl,d12.at_,W7 ..,_,rfl,?_⟩;refine ⟨x,dx,fa,wa,ra,sa,_,line,rfl,d12,lok,gets λfa' wa' ra' sa' l13 H13 k13 d13 f13 h13=>?_⟩;exact ⟨λb o e=>k13 _ _ (S12 _ _ e) (d6 e hx),_,_,_,_,_,rfl,d13⟩
  ·rintro _ H12 ⟨S12,v5,fa,wa,ra,sa,rfl,d12⟩;rw [show b0Y D ((a0y D).map V.str).length=D from rfl] at d12;dsimp only;have v12:=v3.keep S12.tups;have hps12:=S12 _ _ hps;have S1_12:n6 H1 H12:=λb o e=>S12 _ _ (k3 _ _ (s2 _ _ e) (d6 e fd));refine Or.inl ⟨_,rfl,a,ns,10,rfl,(s1.trans S1_12).seq hS,hl,λpc zs H15 s15 e15 nz15 lz15 hz15=>?_⟩;refine ⟨_,rfl,⟨_,SqL.of e15⟩,?_⟩;refine a1F (K:=K) (xs:=zs) (λt σ H'=>H' pc=some (.lst zs)/\∃ (v1 v5 v6 v7 v8:Option V) (ps:Addr) (fa wa ra sa fv wv rv sv:V) (D:Dsk),σ=[some (.ref a),v1,some (.ref ps),some (.ref pl),some (.ref x),v5,v6,v7,v8,none,none,none,none]/\V5 C H' x dx fa wa ra sa D/\a5N H' fv wv rv sv D/\H' ps=some (.lst [fv,wv,rv,sv]))
    ⟨e15,_,_,_,_,_,ps,fa,wa,ra,sa,fv,wv,rv,sv,D,rfl,d12.same s15,v12.keep s15.tups,s15 _ _ hps12⟩
    (λ_ _ _ _ h=>SqL.of h.1) ?_ ?_
   ·clear S3 v3 hps ok hb d12 S12 v12 hps12 S1_12 d4 S34 k3 q;rintro t y _ H16 hy ⟨hpc,v1,v5,v6,v7,v8,ps,fa,wa,ra,sa,fv,wv,rv,sv,D,rfl,d16,a16,hps⟩;obtain ⟨z,rfl⟩:=hz15 y (List.mem_of_getElem? hy);refine ⟨_,rfl,z,rfl,λd H17 fd S17 s17=>?_⟩;have npd:pc≠d:=d6 hpc fd;have w17:Lw C d x dx ps fa wa ra sa fv wv rv sv D H17:=⟨S17,d16.same s17,a16.keep s17.tups,s17 _ _ hps,d6 hps fd⟩;have pc17:=s17 _ _ hpc;dsimp only [q0,List.set];refine ⟨4,rfl,.(24),.(24),?_⟩;refine M8 (n:=4) (λt σ H'=>∃ (v5 v7 v8:Option V),σ=[some (.ref a),some (.ref d),some (.ref ps),some (.ref pl),some (.ref x),v5,some (.int z),v7,v8,none,none,none,none]/\Lw C d x dx ps fa wa ra sa fv wv rv sv D H'/\H' pc=some (.lst zs)) ⟨_,_,_,rfl,w17,pc17⟩ ?_ ?_
    ·rintro t' _ H18 ht ⟨v5,v7,v8,rfl,w18,pc18⟩;refine ⟨_,rfl,_,rfl,d,ps,fv,wv,rv,sv,D,rfl,w18.sd,w18.h1,w18.v.f_,w18.k.ok,λp line due H19 hp lok bad S19 k19=>?_⟩;have w19:=w18.draw S19 k19;have pc19:=k19 _ _ pc18 npd;refine ⟨_,_,rfl,SqL.of hp,rfl,_,_,rfl,_,_,rfl,rfl,?_⟩;dsimp only [q0,List.set];refine ⟨_,rfl,_,rfl,x,dx,fa,wa,ra,sa,D,line,due,rfl,w19.k,lok,bad,λH20 s20=>?_⟩;have w20:=w19.same s20;refine ⟨_,rfl,Or.inl (c7e bad ⟨_,rfl,y7 ?_⟩)⟩;refine ⟨_,rfl,_,rfl,x,dx,ps,fa,wa,ra,sa,fv,wv,rv,sv,D,rfl,w20.k,w20.h1,w20.v,λH21 s21=>⟨_,rfl,y7 ?_⟩⟩;exact ⟨_,_,_,rfl,w20.same s21,s21 _ _ (s20 _ _ pc19)⟩
    ·rintro _ H18 ⟨v5,v7,v8,rfl,w18,pc18⟩;dsimp only;refine ⟨_,rfl,_,rfl,d,ps,fv,wv,rv,sv,D,rfl,w18.sd,w18.h1,w18.v,w18.k.ok,λline D' p p2 fv' wv' rv' sv' H19 deeds ok' hp hp2 v' S19 k19=>?_⟩;have w19:=w18.draw S19 k19;have pc19:=k19 _ _ pc18 npd;refine ⟨_,_,rfl,SqL.of hp,rfl,_,_,rfl,_,_,rfl,rfl,?_⟩;dsimp only [q0,List.set];obtain ⟨lok,gets⟩:=a0U w19.k.ok deeds;refine ⟨_,rfl,x,dx,_,rfl,w19.k.at_,W7 ..,_,rfl,?_⟩;refine ⟨x,dx,fa,wa,ra,sa,D,line,rfl,w19.k,lok,gets λfa' wa' ra' sa' l20 H20 k20 d20 f20 h20=>?_⟩;have w20:=V5.deed w19.k S19 v' hp2 k20 d20;have pc20:=k20 _ _ pc19 (U2 pc19 w19.k.at_ λz=>by cases z);refine ⟨(by show 0<=sizeLine;decide),λp21 hp21=>?_⟩;have s21:=c4 (o:=.lst []) hp21;refine Or.inr (b9v (xs:=[]) (ys:=[]) (s21 _ _ h20) b7 .(26) .(26) ⟨_,rfl,y7 ?_⟩);have w21:=w20.same s21;have pc21:=s21 _ _ pc20;generalize upd H20 p21 (.lst [])=H21 at w21 pc21 ⊢;refine ⟨_,rfl,_,rfl,x,dx,p2,fa',wa',ra',sa',fv',wv',rv',sv',D',rfl,w21.k,w21.h1,w21.v,λH22 s22=>⟨_,rfl,y7 ?_⟩⟩;have w22:=w21.same s22;exact ⟨s22 _ _ pc21,_,_,_,_,_,p2,fa',wa',ra',sa',fv',wv',rv',sv',D',rfl,w22.k,w22.v,w22.h1⟩
   ·rintro _ H16 ⟨hpc,v1,v5,v6,v7,v8,ps,fa,wa,ra,sa,fv,wv,rv,sv,D,rfl,d16,a16,hps⟩;have ok:=d16.ok;have bb:=ok.bb;dsimp only;refine ⟨_,rfl,_,_,rfl,SqL.of hps,rfl,_,_,rfl,_,_,rfl,_,_,rfl,_,_,rfl,rfl,?_⟩;dsimp only [q0,List.set];refine ⟨_,rfl,x,dx,_,rfl,d16.at_,W7 ..,?_⟩;refine ⟨x,dx,fa,wa,ra,sa,D,"filter",rfl,d16,ok3.2.1,?_⟩;rw [b3d];intro l17 H17 s17 f17 h17;have a17:=a16.keep s17.tups;refine ⟨_,rfl,_,rfl,_,rfl,_,rfl,fv,wv,rv,sv,D.F,D.ru,D.u,D.d,D.l,D.r,D.a,D.b,rfl,ok.rect,a17.f_,a17.w_,a17.r_,a17.s_,ok.sh,⟨by omega,by omega,by omega,by omega⟩,λgv H18 s18 hgv=>?_⟩;refine ⟨gv,a8B D,rfl,hgv,ok.fil.rectW,λl19 H19 s19 f19 h19=>?_⟩;refine Or.inr (b5x (xs:=(a8B D).map o5) (ys:=(a8B D).map o5) ((s18.trans s19) _ _ h17) (by rw [h19,List.map_map]) (a4x _) (a4x _) ?_);rw [decide_eq_true rfl];exact q _
end
noncomputable def B3 (K:PySem.W.Frag)(mg:Str->Option Value)(x:Str)(st:Stmt):Prop:=∃ (f:Addr) (fd:FuncData),Fun K x x st f fd/\mg x=some (.ref f)
theorem j6 {K:PySem.W.Frag}{mg:Str->Option Value}{x:Str}{st:Stmt}{ps:List Str}(R:B3 K mg x st)(h:∀ (kV doc pm:Value) (an:Option Addr) (cdv ct:Value) (us:List Value),us.length=ps.length -> bindArgs (PySem.W.fnOf x x (N0 st) (B9 st) (c6 st) .none kV doc pm an cdv ct) ⟨us,[]⟩=pure (ps.zip us)):Raw K mg x ps st :=
 let ⟨f,fd,F,m⟩:=R
 ⟨f,fd,F,m,Fun.binds F h⟩
theorem j7 {K:PySem.W.Frag}{h:Heap}{mg:Str->Option Value}(X:K.In h)(G:h.Ns mainGlobals mg){x:Str}{st:Stmt}{f:Addr}{oc:Value}{od an:Option Addr}{osl:Array (Option Value)}{kV doc pm cdv ct:Value}(a:PySem.W.nsIn K mainGlobals x=some (some (.ref f)))(l:K.lookup f=some ⟨oc,od,.func (PySem.W.fnOf x x (N0 st) (B9 st) (c6 st) .none kV doc pm an cdv ct),osl⟩)
  (c:PySem.W.codeIn K cdv x=true) (k:PySem.W.keepIn K (.ref f)=true):B3 K mg x st:=⟨_,_,b6e l c k,PySem.W.mg_of X G a⟩
noncomputable def a3H (K:PySem.W.Frag)(C:Addr)(m qual:Str)(st:Stmt):Prop:=∃ f fd,b6n K C m f/\Fun K m qual st f fd
theorem a0r {K:PySem.W.Frag}{C:Addr}{m qual:Str}{st:Stmt}{ps:List Str}(R:a3H K C m qual st)(h:∀ (kV doc pm:Value) (an:Option Addr) (cdv ct:Value) (us:List Value),us.length=ps.length -> bindArgs (PySem.W.fnOf m qual (N0 st) (B9 st) (c6 st) .none kV doc pm an cdv ct) ⟨us,[]⟩=pure (ps.zip us)):a7N K C m qual ps st :=
 let ⟨f,fd,M,F⟩:=R
 ⟨f,fd,M,F,Fun.binds F h⟩
theorem Y0 {K:PySem.W.Frag}{C:Addr}{m qual:Str}{st:Stmt}{f:Addr}{oc:Value}{od an:Option Addr}{osl:Array (Option Value)}{kV doc pm cdv ct:Value}(a:PySem.W.findIn K (.ref C) m=some (some (.ref f)))(i:PySem.W.isFn K (.ref f)=true)(l:K.lookup f=some ⟨oc,od,.func (PySem.W.fnOf m qual (N0 st) (B9 st) (c6 st) .none kV doc pm an cdv ct),osl⟩)
  (c:PySem.W.codeIn K cdv qual=true) (k:PySem.W.keepIn K (.ref f)=true):a3H K C m qual st:=⟨_,_,⟨a,i,k⟩,b6e l c k⟩
noncomputable def b1N (K:PySem.W.Frag) (C:Addr) (qual:Str) (st:Stmt):Prop:=∃ f fd,L2.Mk K C f/\Fun K "__init__" qual st f fd
theorem b0T {K:PySem.W.Frag} {C:Addr} {qual:Str} {st:Stmt} {ps:List Str} (R:b1N K C qual st) (h:∀ (kV doc pm:Value) (an:Option Addr) (cdv ct:Value) (us:List Value),us.length=ps.length -> bindArgs (PySem.W.fnOf "__init__" qual (N0 st) (B9 st) (c6 st) .none kV doc pm an cdv ct) ⟨us,[]⟩=pure (ps.zip us)):b4Y K C qual ps st :=
 let ⟨f,fd,M,F⟩:=R
 ⟨f,fd,M,F,Fun.binds F h⟩
theorem b7G {K:PySem.W.Frag} {C:Addr} {qual:Str} {st:Stmt} {f:Addr} {oc:Value} {od an:Option Addr} {osl:Array (Option Value)} {kV doc pm cdv ct:Value} (mkC:PySem.W.makesIn K C=true) (kc:PySem.W.keepIn K (.ref C)=true) (a:PySem.W.findIn K (.ref C) "__init__" = some (some (.ref f))) (i:PySem.W.isFn K (.ref f)=true) (l:K.lookup f=some ⟨oc,od,.func (PySem.W.fnOf "__init__" qual (N0 st) (B9 st) (c6 st) .none kV doc pm an cdv ct),osl⟩)
  (c:PySem.W.codeIn K cdv qual=true) (k:PySem.W.keepIn K (.ref f)=true):b1N K C qual st:=⟨_,_,⟨mkC,a,i,kc⟩,b6e l c k⟩
noncomputable def b2N (K:PySem.W.Frag) (mg:Str->Option Value) (x attr qual:Str) (st:Stmt):Prop:=∃ D,mg x=some (.ref D)/\Y3 K D=true/\J9 K D attr/\∃ f fd,(T3 K D f=true/\PySem.W.isFn K (.ref f)=true/\PySem.W.keepIn K (.ref D)=true)/\Fun K "__init__" qual st f fd
theorem b1T {K:PySem.W.Frag} {mg:Str->Option Value} {x attr qual:Str} {st:Stmt} {ps:List Str} (R:b2N K mg x attr qual st) (h:∀ (kV doc pm:Value) (an:Option Addr) (cdv ct:Value) (us:List Value),us.length=ps.length -> bindArgs (PySem.W.fnOf "__init__" qual (N0 st) (B9 st) (c6 st) .none kV doc pm an cdv ct) ⟨us,[]⟩=pure (ps.zip us)):∃ D,mg x=some (.ref D)/\Y3 K D=true/\J9 K D attr/\b3N K D qual ps st :=
 let ⟨D,a,b,c,f,fd,M,F⟩:=R
 ⟨D,a,b,c,f,fd,M,F,Fun.binds F h⟩
theorem b8G {K:PySem.W.Frag} {h:Heap} {mg:Str->Option Value} (X:K.In h) (G:h.Ns mainGlobals mg) {x attr qual:Str} {st:Stmt} {D f:Addr} {oc:Value} {od an:Option Addr} {osl:Array (Option Value)} {kV doc pm cdv ct:Value} (a:PySem.W.nsIn K mainGlobals x=some (some (.ref D))) (_i:PySem.W.findIn K (.ref D) "__init__" = some (some (.ref f))) (p:Y3 K D=true) (n:PySem.W.findIn K (.ref D) attr=some none) (q:T3 K D f=true) (fn:PySem.W.isFn K (.ref f)=true) (kc:PySem.W.keepIn K (.ref D)=true) (l:K.lookup f=some ⟨oc,od,.func (PySem.W.fnOf "__init__" qual (N0 st) (B9 st) (c6 st) .none kV doc pm an cdv ct),osl⟩)
  (c:PySem.W.codeIn K cdv qual=true) (k:PySem.W.keepIn K (.ref f)=true):b2N K mg x attr qual st:=⟨D,PySem.W.mg_of X G a,p,n,f,_,⟨q,fn,kc⟩,b6e l c k⟩
theorem b3O {K:PySem.W.Frag} {h:Heap} {mg:Str->Option Value} (X:K.In h) (G:h.Ns mainGlobals mg) {W:Addr} (a:PySem.W.nsIn K mainGlobals "WindowError" = some (some (.ref W))) (q:a0X K W=true):∃ W,mg "WindowError" = some (.ref W)/\a0X K W=true:=⟨W,PySem.W.mg_of X G a,q⟩
theorem G3 {P:List Value->Prop}(h:∀ a0:Value,P [a0]):∀ us:List Value,us.length=1->P us:=λus hl=>by
 cases us with
 | nil=>cases hl
 | cons a0 us =>
 cases us with
 | nil=>exact h a0
 | cons _ us=>exact absurd hl .(26)
theorem Q6 {P:List Value->Prop}(h:∀ a0 a1:Value,P [a0,a1]):∀ us:List Value,us.length=2->P us:=λus hl=>by
 cases us with
 | nil=>cases hl
 | cons a0 us =>
 cases us with
 | nil=>cases hl
 | cons a1 us =>
 cases us with
 | nil=>exact h a0 a1
 | cons _ us=>exact absurd hl .(26)
theorem a1H {P:List Value->Prop}(h:∀ a0 a1 a2:Value,P [a0,a1,a2]):∀ us:List Value,us.length=3->P us:=λus hl=>by
 cases us with
 | nil=>cases hl
 | cons a0 us =>
 cases us with
 | nil=>cases hl
 | cons a1 us =>
 cases us with
 | nil=>cases hl
 | cons a2 us =>
 cases us with
 | nil=>exact h a0 a1 a2
 | cons _ us=>exact absurd hl .(26)
theorem b4n {P:List Value->Prop}(h:∀ a0 a1 a2 a3:Value,P [a0,a1,a2,a3]):∀ us:List Value,us.length=4->P us:=λus hl=>by
 cases us with
 | nil=>cases hl
 | cons a0 us =>
 cases us with
 | nil=>cases hl
 | cons a1 us =>
 cases us with
 | nil=>cases hl
 | cons a2 us =>
 cases us with
 | nil=>cases hl
 | cons a3 us =>
 cases us with
 | nil=>exact h a0 a1 a2 a3
 | cons _ us=>exact absurd hl .(26)
theorem b9Z {P:List Value->Prop}(h:∀ a0 a1 a2 a3 a4:Value,P [a0,a1,a2,a3,a4]):∀ us:List Value,us.length=5->P us:=λus hl=>by
 cases us with
 | nil=>cases hl
 | cons a0 us =>
 cases us with
 | nil=>cases hl
 | cons a1 us =>
 cases us with
 | nil=>cases hl
 | cons a2 us =>
 cases us with
 | nil=>cases hl
 | cons a3 us =>
 cases us with
 | nil=>cases hl
 | cons a4 us =>
 cases us with
 | nil=>exact h a0 a1 a2 a3 a4
 | cons _ us=>exact absurd hl .(26)
theorem c4a {K:W.Frag}{h:Heap}{mg:Str->Option Value}(X:K.In h)(G:h.Ns mainGlobals mg){a0a:Value}{a1a:Value}{a2a:Value}{a3a:Value}{a4a:Value}{a5a:Value}{a6a:Value}{a7a:Value}{a8a:Addr}{a9a:Option Addr}{a0b:Array Value}{a1b:Nat}{a2b:Array (Option Value)}{a3b:Addr}{a4b:Option Addr}{a5b:Array Value}{a6b:Nat}{a7b:Array (Option Value)}{C:Addr}{x_aN x_aF x_aM x_aP x_aW:Addr}
  (a8b:B3 K mg "is_number" a4v)
  (a9b:B3 K mg "is_cell" a9I)
  (a0c:B3 K mg "cell_read" a6v)
  (a1c:B3 K mg "cell_shown" a6q)
  (a2c:B3 K mg "read_rows" a6u)
  (a3c:B3 K mg "row_shown" a5u)
  (a4c:B3 K mg "is_inside" a5v)
  (a5c:B3 K mg "brought_inside" R5)
  (a6c:B3 K mg "stands_at" a4u)
  (a7c:B3 K mg "places_around" U9)
  (a8c:B3 K mg "window_cells" X4)
  (a9c:B3 K mg "place_by_share" R4)
  (a0d:B3 K mg "so_manieth" a0q)
  (a1d:B3 K mg "without_holes" U7)
  (a2d:B3 K mg "told_of_cells" U8)
  (a3d:B3 K mg "filtered" a2B)
  (a4d:B3 K mg "refuse_outside" R3)
  (a5d:B3 K mg "row_with" a1A)
  (a6d:B3 K mg "field_with" a5q)
  (a7d:B3 K mg "are_within" a8q)
  (a8d:B3 K mg "numbers_asked" V0)
  (a9d:B3 K mg "cell_asked" a7q)
  (a0e:B3 K mg "window_asked" X5)
  (a1e:B3 K mg "rule_asked" a1q)
  (a2e:B3 K mg "share_asked" Z7)
  (a3e:B3 K mg "times_asked" Z6)
  (a4e:B3 K mg "field_asked" Z8)
  (a5e:B3 K mg "lines_of" a2A)
  (a6e:B3 K mg "_law_seed" a5A)
  (a7e:B3 K mg "_law_draw" a0B)
  (a8e:B3 K mg "_law_cells" a2v)
  (a9e:B3 K mg "_law_number" a3q)
  (a0f:B3 K mg "_law_field" a1v)
  (a1f:B3 K mg "_law_sizes" a7u)
  (a2f:B3 K mg "_law_window" a2q)
  (a3f:B3 K mg "_law_rule" a7A)
  (a4f:B3 K mg "_law_share" a8u)
  (a5f:B3 K mg "_law_index" a0v)
  (a6f:B3 K mg "_law_window_at" V1)
  (a7f:B3 K mg "_law_told" a4A)
  (a8f:B3 K mg "_law_filtered" X7)
  (a9f:B3 K mg "_law_word" a3A)
  (a0g:B3 K mg "_law_lines" a9u)
  (a1g:B3 K mg "_law_edge" a9A)
  (a2g:B3 K mg "_law_cut" a7I)
  (a3g:B3 K mg "_law_begun" a3v)
  (a4g:B3 K mg "_law_deed" a1B)
  (a5g:B3 K mg "_law_fields" a4q)
  (a6g:B3 K mg "_law_odd_word" X6)
  (a7g:B3 K mg "_law_bad" a8I)
  (a8g:B3 K mg "_law_kind" a8A)
  (a9g:B3 K mg "_law_same" a6A)
  (a0h:B3 K mg "law" b8u)
  (a1h:W.nsIn K mainGlobals "HOLE" = some (some a0a))
  (a2h:u7 (.str ".") a0a)
  (a3h:W.nsIn K mainGlobals "FIGURES" = some (some a1a))
  (a4h:u7 (.str "0123456789") a1a)
  (a5h:W.nsIn K mainGlobals "MOST_NUMBER" = some (some a2a))
  (a6h:u7 (.int 1000000000) a2a)
  (a7h:W.nsIn K mainGlobals "MOST_LENGTH" = some (some a3a))
  (a8h:u7 (.int 12) a3a)
  (a9h:W.nsIn K mainGlobals "MOST_SIDE" = some (some a4a))
  (a0i:u7 (.int 6) a4a)
  (a1i:W.nsIn K mainGlobals "MOST_SHARE" = some (some a5a))
  (a2i:u7 (.int 1000) a5a)
  (a3i:W.nsIn K mainGlobals "MOST_TIMES" = some (some a6a))
  (a4i:u7 (.int 40) a6a)
  (a5i:W.nsIn K mainGlobals "FIELD_AHEAD" = some (some a7a))
  (a6i:u7 (.str "field ") a7a)
  (a7i:W.nsIn K mainGlobals "PLAIN_RULES" = some (some (.ref a8a)))
  (a8i:K.lookup a8a=some ⟨.type "tuple",a9a,.seq a0b a1b,a2b⟩)
  (a9i:V8 [.str "there",.str "near",.str "turned",.str "round"] a0b.toList) (a0j:a0b.size <= sizeLine)
  (a1j:W.nsIn K mainGlobals "CHANGES" = some (some (.ref a3b)))
  (a2j:K.lookup a3b=some ⟨.type "tuple",a4b,.seq a5b a6b,a7b⟩)
  (a3j:V8 [.str "window",.str "edge",.str "share",.str "cell",.str "take"] a5b.toList) (a4j:a5b.size <= sizeLine)
  (aC:W.nsIn K mainGlobals "Desk" = some (some (.ref C)))
  (pg:W.plainGet K C Str.empty=true) (hd:W.hasDictIn K C=true) (po:W.plainOver K C=true) (sa:W.findIn K (.ref C) "__setattr__" = some (some (.builtin "object.__setattr__")))
  (a5j:W.findIn K (.ref C) "field" = some none)
  (a6j:W.findIn K (.ref C) "rule" = some none)
  (a7j:W.findIn K (.ref C) "share" = some none)
  (a8j:W.findIn K (.ref C) "window" = some none)
  (a9j:b1N K C "Desk.__init__" a7v)
  (a0k:a3H K C "ask" "Desk.ask" a3B)
  (a1k:a3H K C "change_by" "Desk.change_by" R6)
  (a2k:a3H K C "change_cell" "Desk.change_cell" O1)
  (a3k:a3H K C "filtered_field" "Desk.filtered_field" J7)
  (a4k:a3H K C "lines_told" "Desk.lines_told" P6)
  (a5k:a3H K C "lines_at" "Desk.lines_at" V2)
  (a6k:a3H K C "lines_still" "Desk.lines_still" O0)
  (a7k:b2N K mg "NoField" "row" "NoField.__init__" P4)
  (a8k:∃ W,mg "WindowError" = some (.ref W)/\a0X K W=true)
  (a9k:W.nsIn K mainGlobals "NoAsk" = some (some (.ref x_aN)))
  (e_NoField:W.nsIn K mainGlobals "NoField" = some (some (.ref x_aF)))
  (a0l:W.nsIn K mainGlobals "NoNumber" = some (some (.ref x_aM)))
  (a1l:W.nsIn K mainGlobals "NoPlace" = some (some (.ref x_aP)))
  (a2l:W.nsIn K mainGlobals "WindowError" = some (some (.ref x_aW)))
  (a3l:b5s K x_aN x_aF x_aM x_aP x_aW=true)
  (a4l:W.nsIn K mainGlobals "len" = some none)
  (a5l:W.nsIn K mainGlobals "all" = some none)
  (a6l:W.nsIn K mainGlobals "max" = some none)
  (a7l:W.nsIn K mainGlobals "min" = some none)
  (a8l:W.nsIn K mainGlobals "tuple" = some none)
  (a9l:W.nsIn K mainGlobals "list" = some none)
  (a0m:W.nsIn K mainGlobals "int" = some none)
  (a1m:W.nsIn K mainGlobals "bool" = some none)
  (a2m:W.nsIn K mainGlobals "str" = some none)
  (a3m:W.nsIn K mainGlobals "isinstance" = some none)
  (a4m:W.nsIn K mainGlobals "range" = some none)
  (a5m:W.nsIn K mainGlobals "enumerate" = some none)
  (a6m:W.nsIn K mainGlobals "sorted" = some none)
  (a7m:W.nsIn K mainGlobals "ValueError" = some none):Txt K mg C where
  d_is_number:=j6 a8b (ps:=["word"]) λ_ _ _ _ _ _=>G3 λ_=>rfl
  d_is_cell:=j6 a9b (ps:=["word"]) λ_ _ _ _ _ _=>G3 λ_=>rfl
  d_cell_read:=j6 a0c (ps:=["word"]) λ_ _ _ _ _ _=>G3 λ_=>rfl
  d_cell_shown:=j6 a1c (ps:=["cell"]) λ_ _ _ _ _ _=>G3 λ_=>rfl
  d_read_rows:=j6 a2c (ps:=["lines"]) λ_ _ _ _ _ _=>G3 λ_=>rfl
  d_row_shown:=j6 a3c (ps:=["row"]) λ_ _ _ _ _ _=>G3 λ_=>rfl
  d_is_inside:=j6 a4c (ps:=["field","i","j"]) λ_ _ _ _ _ _=>a1H λ_ _ _=>rfl
  d_brought_inside:=j6 a5c (ps:=["rule","place","length"]) λ_ _ _ _ _ _=>a1H λ_ _ _=>rfl
  d_stands_at:=j6 a6c (ps:=["field","rule","i","j"]) λ_ _ _ _ _ _=>b4n λ_ _ _ _=>rfl
  d_places_around:=j6 a7c (ps:=["place","ahead","behind"]) λ_ _ _ _ _ _=>a1H λ_ _ _=>rfl
  d_window_cells:=j6 a8c (ps:=["field","window","rule","i","j"]) λ_ _ _ _ _ _=>b9Z λ_ _ _ _ _=>rfl
  d_place_by_share:=j6 a9c (ps:=["how_many","share"]) λ_ _ _ _ _ _=>Q6 λ_ _=>rfl
  d_so_manieth:=j6 a0d (ps:=["numbers","share"]) λ_ _ _ _ _ _=>Q6 λ_ _=>rfl
  d_without_holes:=j6 a1d (ps:=["cells"]) λ_ _ _ _ _ _=>G3 λ_=>rfl
  d_told_of_cells:=j6 a2d (ps:=["cells","share"]) λ_ _ _ _ _ _=>Q6 λ_ _=>rfl
  d_filtered:=j6 a3d (ps:=["field","window","rule","share"]) λ_ _ _ _ _ _=>b4n λ_ _ _ _=>rfl
  d_refuse_outside:=j6 a4d (ps:=["field","i","j"]) λ_ _ _ _ _ _=>a1H λ_ _ _=>rfl
  d_row_with:=j6 a5d (ps:=["row","j","cell"]) λ_ _ _ _ _ _=>a1H λ_ _ _=>rfl
  d_field_with:=j6 a6d (ps:=["field","i","j","cell"]) λ_ _ _ _ _ _=>b4n λ_ _ _ _=>rfl
  d_are_within:=j6 a7d (ps:=["numbers","least","most"]) λ_ _ _ _ _ _=>a1H λ_ _ _=>rfl
  d_numbers_asked:=j6 a8d (ps:=["words","how_many"]) λ_ _ _ _ _ _=>Q6 λ_ _=>rfl
  d_cell_asked:=j6 a9d (ps:=["word"]) λ_ _ _ _ _ _=>G3 λ_=>rfl
  d_window_asked:=j6 a0e (ps:=["words"]) λ_ _ _ _ _ _=>G3 λ_=>rfl
  d_rule_asked:=j6 a1e (ps:=["words"]) λ_ _ _ _ _ _=>G3 λ_=>rfl
  d_share_asked:=j6 a2e (ps:=["words"]) λ_ _ _ _ _ _=>G3 λ_=>rfl
  d_times_asked:=j6 a3e (ps:=["words"]) λ_ _ _ _ _ _=>G3 λ_=>rfl
  d_field_asked:=j6 a4e (ps:=["text"]) λ_ _ _ _ _ _=>G3 λ_=>rfl
  d_lines_of:=j6 a5e (ps:=["field"]) λ_ _ _ _ _ _=>G3 λ_=>rfl
  d_law_seed:=j6 a6e (ps:=["cell"]) λ_ _ _ _ _ _=>G3 λ_=>rfl
  d_law_draw:=j6 a7e (ps:=["seed","most"]) λ_ _ _ _ _ _=>Q6 λ_ _=>rfl
  d_law_cells:=j6 a8e (ps:=["script","many"]) λ_ _ _ _ _ _=>Q6 λ_ _=>rfl
  d_law_number:=j6 a9e (ps:=["seed","kind"]) λ_ _ _ _ _ _=>Q6 λ_ _=>rfl
  d_law_field:=j6 a0f (ps:=["seed","height","width","holes"]) λ_ _ _ _ _ _=>b4n λ_ _ _ _=>rfl
  d_law_sizes:=j6 a1f (ps:=["seed"]) λ_ _ _ _ _ _=>G3 λ_=>rfl
  d_law_window:=j6 a2f (ps:=["seed"]) λ_ _ _ _ _ _=>G3 λ_=>rfl
  d_law_rule:=j6 a3f (ps:=["seed"]) λ_ _ _ _ _ _=>G3 λ_=>rfl
  d_law_share:=j6 a4f (ps:=["seed"]) λ_ _ _ _ _ _=>G3 λ_=>rfl
  d_law_index:=j6 a5f (ps:=["rule","k","size"]) λ_ _ _ _ _ _=>a1H λ_ _ _=>rfl
  d_law_window_at:=j6 a6f (ps:=["field","window","rule","i","j"]) λ_ _ _ _ _ _=>b9Z λ_ _ _ _ _=>rfl
  d_law_told:=j6 a7f (ps:=["cells","share"]) λ_ _ _ _ _ _=>Q6 λ_ _=>rfl
  d_law_filtered:=j6 a8f (ps:=["field","window","rule","share"]) λ_ _ _ _ _ _=>b4n λ_ _ _ _=>rfl
  d_law_word:=j6 a9f (ps:=["cell"]) λ_ _ _ _ _ _=>G3 λ_=>rfl
  d_law_lines:=j6 a0g (ps:=["field"]) λ_ _ _ _ _ _=>G3 λ_=>rfl
  d_law_edge:=j6 a1g (ps:=["rule"]) λ_ _ _ _ _ _=>G3 λ_=>rfl
  d_law_cut:=j6 a2g (ps:=["window","field"]) λ_ _ _ _ _ _=>Q6 λ_ _=>rfl
  d_law_begun:=j6 a3g (ps:=["seed"]) λ_ _ _ _ _ _=>G3 λ_=>rfl
  d_law_deed:=j6 a4g (ps:=["seed","state"]) λ_ _ _ _ _ _=>Q6 λ_ _=>rfl
  d_law_fields:=j6 a5g (ps:=["seed"]) λ_ _ _ _ _ _=>G3 λ_=>rfl
  d_law_odd_word:=j6 a6g (ps:=["seed"]) λ_ _ _ _ _ _=>G3 λ_=>rfl
  d_law_bad:=j6 a7g (ps:=["seed","state"]) λ_ _ _ _ _ _=>Q6 λ_ _=>rfl
  d_law_kind:=j6 a8g (ps:=["desk","line"]) λ_ _ _ _ _ _=>Q6 λ_ _=>rfl
  d_law_same:=j6 a9g (ps:=["desk","state"]) λ_ _ _ _ _ _=>Q6 λ_ _=>rfl
  d_law:=j6 a0h (ps:=["script"]) λ_ _ _ _ _ _=>G3 λ_=>rfl
  g_HOLE:=⟨_,W.mg_of X G a1h,a2h⟩
  g_FIGURES:=⟨_,W.mg_of X G a3h,a4h⟩
  g_MOST_NUMBER:=⟨_,W.mg_of X G a5h,a6h⟩
  g_MOST_LENGTH:=⟨_,W.mg_of X G a7h,a8h⟩
  g_MOST_SIDE:=⟨_,W.mg_of X G a9h,a0i⟩
  g_MOST_SHARE:=⟨_,W.mg_of X G a1i,a2i⟩
  g_MOST_TIMES:=⟨_,W.mg_of X G a3i,a4i⟩
  g_FIELD_AHEAD:=⟨_,W.mg_of X G a5i,a6i⟩
  g_PLAIN_RULES:=⟨_,W.mg_of X G a7i,_,_,_,a8i,rfl,rfl,a0j,a9i⟩
  g_CHANGES:=⟨_,W.mg_of X G a1j,_,_,_,a2j,rfl,rfl,a4j,a3j⟩
  g_Desk:=W.mg_of X G aC
  cl_Desk:=⟨pg,hd,po,sa⟩
  a_field:=a5j
  a_rule:=a6j
  a_share:=a7j
  a_window:=a8j
  m_Desk_init:=b0T a9j (ps:=["self"]) λ_ _ _ _ _ _=>G3 λ_=>rfl
  m_Desk_ask:=a0r a0k (ps:=["self","line"]) λ_ _ _ _ _ _=>Q6 λ_ _=>rfl
  m_Desk_change_by:=a0r a1k (ps:=["self","word","words"]) λ_ _ _ _ _ _=>a1H λ_ _ _=>rfl
  m_Desk_change_cell:=a0r a2k (ps:=["self","words"]) λ_ _ _ _ _ _=>Q6 λ_ _=>rfl
  m_Desk_filtered_field:=a0r a3k (ps:=["self"]) λ_ _ _ _ _ _=>G3 λ_=>rfl
  m_Desk_lines_told:=a0r a4k (ps:=["self","word","words"]) λ_ _ _ _ _ _=>a1H λ_ _ _=>rfl
  m_Desk_lines_at:=a0r a5k (ps:=["self","place"]) λ_ _ _ _ _ _=>Q6 λ_ _=>rfl
  m_Desk_lines_still:=a0r a6k (ps:=["self","most"]) λ_ _ _ _ _ _=>Q6 λ_ _=>rfl
  e_NoField:=b1T a7k (ps:=["self","row"]) λ_ _ _ _ _ _=>Q6 λ_ _=>rfl
  e_win:=a8k
  x_exc:=⟨_,_,_,_,_,b2h.of (W.mg_of X G a9k) (W.mg_of X G e_NoField) (W.mg_of X G a0l) (W.mg_of X G a1l) (W.mg_of X G a2l) a3l⟩
  n_len:=W.mg_none_of X G a4l
  n_all:=W.mg_none_of X G a5l
  n_max:=W.mg_none_of X G a6l
  n_min:=W.mg_none_of X G a7l
  n_tuple:=W.mg_none_of X G a8l
  n_list:=W.mg_none_of X G a9l
  n_int:=W.mg_none_of X G a0m
  n_bool:=W.mg_none_of X G a1m
  n_str:=W.mg_none_of X G a2m
  n_isinstance:=W.mg_none_of X G a3m
  n_range:=W.mg_none_of X G a4m
  n_enumerate:=W.mg_none_of X G a5m
  n_sorted:=W.mg_none_of X G a6m
  n_ValueError:=W.mg_none_of X G a7m
end Mw
structure PySem.W.Fast:Prop where
(tw10073894559957706378 tw10093519402381078489 tw1011697201187565380 tw10137765837660305341 tw10169993937833634598 tw10192481487136406752 tw10199436416047475002 tw10247880916288176085 tw1029464594839891035 tw10368582427885592436 tw10377624187320294724 tw10397775354707572349 tw10401382276286184245 tw10448165980677310845 tw10456680063749107469 tw10547013536967777921 tw10548234810530389596 tw10556424989114670345 tw10562992883665618319 tw10584872592820219239 tw10600558722024578103 tw10622378063794142182 tw10682809083099816883 tw10699314502798930820 tw10703000440467463340 tw10707079639952574211 tw10736847048572955362 tw10752773179713174399 tw10764408662799489687 tw10777817781177150221 tw10791738868287706283 tw10832831247548329466 tw10952894726758436231 tw10980081082711658136 tw10994893933851243539 tw11025278243376503179 tw11070063326978694260 tw11077992952852121628 tw11112450490953557054 tw11131387797625144219 tw11137943242566734235 tw11153365379111752127 tw11166918387442810160 tw11174290190493145228 tw1117433716208392592 tw11181839936888664884 tw11250466424807380118 tw1138005702184475432 tw11409591519785412834 tw11435992063307619801 tw11463599636898111798 tw11488146514189892486 tw11503267302646588278 tw11512487511699805755 tw11538524818937733611 tw11565076543232091490 tw11566783305099824905 tw11644343802581001230 tw11646767326676049545 tw11664520688466850332 tw11671123444364344467 tw11691902617632906326 tw11732547249797669085 tw11739570198004842207 tw11755286773300681321 tw11762182783667468409 tw11764884218172295169 tw1178483090139417173 tw11784850158844912865 tw11881249324494447992 tw11900378666235765364 tw11944804964187582595 tw11968785386952171897 tw11974574348710453563 tw11983513490784245620 tw11996053354641082975 tw12004358065005598788 tw12004821957850208623 tw12031692454050714158 tw12055229434684492484 tw12113813205957550025 tw12139912167469854285 tw12200256227105995562 tw12220923041102147440 tw12222055308961142046 tw12228900869211929973 tw12229143603740249280 tw12234872935902808752 tw12239285502557745138 tw12251436373557861579 tw12301791665241773917 tw12311257609021103074 tw12312238604584349612 tw12317086283291470791 tw12326318851452397476 tw12381059027409083547 tw12402395307414956727 tw12407134632438340823 tw1242054298570298824 tw12433447613837454881 tw12453313979937368417 tw12477869854344059242 tw12481738416243904317 tw125018890383346943 tw12568992541033933121 tw12574295667385300864 tw12578447314402427252 tw12587648676740100182 tw12594778839466693451 tw1260788108388277809 tw12608803521341909927 tw12609124379588164438 tw12621907613852440445 tw12660485629196718248 tw12701442707719453783 tw12704994150974245506 tw12717223532502903250 tw12734004750157829408 tw12837250396901894160 tw12851389420997878041 tw12880407425552894420 tw12895882418592186707 tw12902377052746628484 tw12918453082196199832 tw12974395077105759558 tw13000283663510926577 tw13028058121372960315 tw13040062464399692091 tw13078406217232693444 tw1312675157034471465 tw13133179020947357517 tw13172465493934090441 tw13197548716255022749 tw13224750025720206626 tw13239299390086255229 tw13272379738703265366 tw13284300646058136783 tw13285959916172371023 tw13323710813970878458 tw13339986237321209288 tw13350766354612965060 tw13379010469160053513 tw13406019233097963311 tw13418577640400325513 tw13419403832274213199 tw13438500942525625242 tw13521193150401338968 tw1352562808757778236 tw1358768722022322372 tw13596266671983676809 tw13639996331784220922 tw13675207963936567860 tw1367731880957034114 tw13695481775311082144 tw13699607344196132282 tw13722047919513831586 tw13776322367246087187 tw13787549476349171727 tw13794518165704850120 tw13858025861443216651 tw13859675362137661997 tw13866055671383437742 tw13923611303391489029 tw13932837386158060434 tw14001161264215483234 tw14019594004881733725 tw14041931041899391727 tw14103939274556317373 tw14103950739228738241 tw14113785971108675547 tw14128957167180260785 tw14139446167117149280 tw14182286217495750019 tw14184790209231241640 tw14195733765094336054 tw14260392100777189631 tw14364860646591248856 tw14398999514409657318 tw14407992569986299640 tw1441437225434934216 tw14440792960070159515 tw14488816733466471772 tw14490799488531748404 tw14514827381815903344 tw14551515852765208716 tw14566777122840455053 tw14568668262870230995 tw14575397041599991359 tw14613291114655608038 tw14673070439920313592 tw1467707602685922724 tw14700499127200588279 tw14782340006091312316 tw14791491031786052859 tw14818212048225563891 tw14858177524381099721 tw14874368130480269495 tw14943689951740333523 tw14979401655425577299 tw15072909347834505970 tw15075542188155053631 tw15105953256061836030 tw15180213732248217946 tw15181525040359907894 tw15190045062419374481 tw15196317342170779576 tw15273095758652423758 tw15285344420344978113 tw15331909365990828535 tw15338951983235097464 tw15361688215454094404 tw15409277840069879118 tw15437109952296976875 tw15439610628537474547 tw15464277822270148345 tw15472673001409872399 tw15472864088181010024 tw15479651695454396985 tw15492042175395734538 tw15545834161088356779 tw15571583328966631270 tw15613745581338447657 tw15616883443226142435 tw1562083540383506793 tw15706719536948129770 tw15756842065814676274 tw15770904606046306300 tw15779526273297887315 tw15863441829647615936 tw15910067628931809179 tw15917516534069850753 tw15927232252924474279 tw15959043445370526900 tw15959050527176145103 tw15968451229966162763 tw15978366964496929663 tw16011289089882550509 tw16024612265229577463 tw16053995892127876285 tw1606154987066710899 tw16116433820009516750 tw16129660864566656638 tw16190328332338334161 tw16198730296829155964 tw16213808992512983499 tw16213814689708001872 tw1624892679411347021 tw16285703326717267880 tw16304022669816371424 tw16318545209646842634 tw16396616323698797638 tw16411855631332887350 tw16418787702562493756 tw16420511787812250439 tw16431694091959530035 tw16449996382366607661 tw16466750525502284533 tw16526198351723270917 tw16540044676623282421 tw16555928839037375061 tw16619349902153275047 tw16638651408798753860 tw16643031114970833999 tw1664598774003457063 tw1665354601839082802 tw16707038222183046144 tw16711436973536982230 tw16850792636233123325 tw16912010497017331522 tw16929548264858120689 tw16934960862418729745 tw16969164395310924806 tw1702066396176607710 tw17069899579884260773 tw17087611910867609997 tw17148985868711138434 tw1721390389242634569 tw17262437284064223396 tw17308527319299898866 tw17328943024124361099 tw17404276558813830957 tw17416905921588430667 tw17421456203195491402 tw17429875709388897365 tw17430370479210905636 tw1749344418053176707 tw17494240954705530850 tw1760142592934729085 tw17625912267462709174 tw17694100106046340205 tw17729893869971964470 tw17742773318941560387 tw17756302629485795999 tw1775934074112857795 tw17864190097474954610 tw17881648014765040545 tw17927455888625349725 tw1793059121958756558 tw17950697267504983979 tw17988509220373992765 tw1800564774221402250 tw18106954545525039918 tw18134570786072093669 tw18163138018886155926 tw18189563194086001063 tw18237018761156824966 tw18247436332583634222 tw18322208440941745518 tw18333241789444210399 tw18360086096234867515 tw18365205041188991615 tw1846285252734720221 tw1872217687945184312 tw18752556875875875 tw1910529785275175030 tw1929532576773105729 tw1935263249895724763 tw1945871848017368149 tw1958392378739073727 tw1973473702779707539 tw2016288330483393409 tw2056472068212808939 tw2070337056982046795 tw2096190236321753393 tw2119269477822143540 tw2183893407176762848 tw2314925424430966779 tw2331076199204605 tw2344237851225788740 tw2345602905007129584 tw2351470148511460728 tw2357167769520100207 tw2357203250178479989 tw2384601989013690780 tw2391280194089477815 tw2422740820766087142 tw2443296048426667575 tw2446920619562935068 tw2455358700482503255 tw2456073836265491814 tw2550536867381391355 tw2561226913148193331 tw2591343481393078380 tw2600007308988649278 tw2622073599996791449 tw2630895650677858257 tw2632373260924275986 tw2658868071082500203 tw270363358235461684 tw2733687155842848432 tw2763639315322622850 tw2765907631902780638 tw2779596889106865150 tw2790662979227146721 tw2826877288126785227 tw2829119966628156675 tw2845854297978888164 tw2906720183378875752 tw290808584493112976 tw2921379266096311104 tw2969885692174794518 tw2991570072497332549 tw3049027483736750428 tw3087379232996232875 tw3123509831361202686 tw3142050385008876456 tw3177342475593252860 tw3190284564033245673 tw3229013674670475848 tw3277135083387557526 tw3279213203541022858 tw3286299305857087722 tw3302765776299746699 tw3356158316822746506 tw3357869327891695470 tw3395148235696423347 tw3403349161019306932 tw3408766375455621050 tw3535656153855131797 tw3543499220515757317 tw3587048984327503363 tw3593681294977485510 tw3596856248267581722 tw3612306614604164092 tw3661423481009482677 tw3682841511557392445 tw3693654497734052023 tw3760801188812963264 tw3800005412258156334 tw3807423461240619059 tw3824910489126324538 tw3877388790902554446 tw3911199970338458684 tw3960729184657544928 tw3966545433447096125 tw3985172013331511752 tw4011003452887419213 tw4048441945723261830 tw4071094506363596726 tw4094598885554442063 tw4109048469067199546 tw4121234121545076132 tw4205663005568460627 tw4219711975936940802 tw4240644189530800296 tw4313327588662757571 tw4345223372054216892 tw436820084850695086 tw4384510200286006129 tw438577324746101898 tw4392278214656483206 tw4405873276256504041 tw4429589889073120302 tw4450661429692806790 tw4531343082485540885 tw4537850573129455469 tw4600971894987830083 tw4650148168246425081 tw4659568943609659538 tw4672633248534548262 tw4692144457383001126 tw4703850414389376864 tw4757740192274231551 tw4915756258164432239 tw5049429027516512684 tw5099549515810006999 tw5112572067844262451 tw5120546276261815907 tw5145286349944317163 tw5161144715353103312 tw5172941539084226864 tw5213809193568258960 tw5254112719303473549 tw5274759348836860226 tw530770024381960291 tw5358664079705086464 tw5358704118966601414 tw5433917802330181465 tw5435267989539885349 tw5445694049407469060 tw5510528672114272131 tw55177888657761464 tw5547324485825228073 tw5566593937657175124 tw5570552248743510956 tw5594510274719869366 tw5608621082406842443 tw5617521313256710641 tw5656954553885329382 tw5659460128374629836 tw5680500676709667668 tw5717268966682649576 tw5720340907054342656 tw5786962279687638162 tw5869171637558911967 tw5895089803015405958 tw5900661801271858659 tw5904631184276805821 tw5926444519844632295 tw5952368459136561957 tw6022456733243280331 tw6068085072160851431 tw6082872146348717554 tw6084519655592003324 tw6089438249793629006 tw6115486101755085495 tw6138988155979034039 tw6153417645266491373 tw6164836500879625235 tw6225655044620631509 tw6233093231108950698 tw6329726022342056468 tw633414731828149393 tw6382443067798268095 tw6386468419307409359 tw6453561726708271941 tw64601177692795566 tw6485085467395957428 tw6541341968003695093 tw6580124836498003940 tw6621209304048863878 tw667176230982882932 tw6716416379666844236 tw6766571385081445565 tw6862947971987872758 tw6866253184901151865 tw6866878959844118501 tw694566455225013623 tw699756563840568765 tw6999193429718547309 tw7043713166907325391 tw7059817336227449628 tw7099309609613946757 tw7126473578459332676 tw7242681468351780086 tw7265159610132737816 tw7275390394596349667 tw728104706347911484 tw7299916024401848508 tw732419314272106135 tw7376823653256727756 tw7425111363796518475 tw742919858039469890 tw7452740042810915989 tw7469319025178504525 tw7493131997061197731 tw7519233355728468830 tw753695457149488075 tw7561771535197626602 tw759232232197262402 tw759415690990023594 tw7594651835153391533 tw7597662139518006353 tw7598468427512934680 tw7612084156254102072 tw7640375320542020822 tw765414763077464869 tw7675867697755205330 tw7727621593282533363 tw781406225889875486 tw7828191415344854037 tw783641584496630071 tw7848715002768892393 tw7880073430351560354 tw7883788939062608136 tw7950745001060091988 tw8031377037675700986 tw8035026445782163204 tw8097362534622975254 tw8145877699421213184 tw8147968126588258538 tw8254623158195732259 tw8255627850239846409 tw826158578566869470 tw8286525999967209031 tw8288718590386901301 tw833417371521732051 tw8364973979803416400 tw8370746162151251594 tw8374584740008128856 tw8414563410213741933 tw8477598104184052189 tw8490442854736884890 tw856866969722426061 tw8574092310176505161 tw8596566148176829911 tw8598396699933077612 tw8636922049024044285 tw8654787403230720962 tw8664367888410608741 tw8742906954011821904 tw8771847471121362661 tw879045424328007516 tw8798364989482335726 tw8866717825297900027 tw8918304550556936251 tw8975303752620006823 tw9006885131362781576 tw9027074662265486684 tw9068363253236942534 tw9128398138475930420 tw9131136428996056698 tw9137511964832966467 tw9187705058424783556 tw9232605356630127128 tw9241182920837376798 tw9268046272401108969 tw9271096195182847190 tw9278915426866698488 tw9390179548169887148 tw9422784189423013033 tw9476375231993314742 tw9486596992795571898 tw9486999188841561265 tw9503712188283222187 tw9513849627564748566 tw9517312708852797542 tw9517788344140093556 tw9562044567162704986 tw9603269728713708163 tw9659539965100687112 tw9688137883518622668 tw970368960566580152 tw9802552415627067794 tw98460082772127971 tw9922413805345274634 tw9950554039791643826 tw9970687770296048706:True)
open PySem PySem.W PyProof.Rows
set_option maxHeartbeats 0 in
theorem PySem.Challenge.cw_midwindow_k35_desk_refused_holds : PySem.Challenge.rw_midwindow_k35_desk_refused.Holds := by
 w_on;o_law;k_head;(case hw=>w_witness2)
 k_fill
 refine L2.b7O (l:=PySem.Challenge.rw_midwindow_k35_desk_refused) (k:=9) (st:=Mw.b8u) rfl rfl rfl ⟨rfl,by decide,by decide⟩ (fun w h Y=>W.kIn_of Y) (fun _ _ _ _ _ _ _=>rfl) ?F
 case F =>
  intro w mg h KX G
  have T:∃ C,Mw.Txt (L2.KOf KX) mg C:=by
   dsimp only [L2.KOf]
   refine' ⟨_,Mw.c4a KX G (Mw.j7 KX G ?h0 ?h1 ?h2 ?h3) (Mw.j7 KX G ?h4 ?h5 ?h6 ?h7) (Mw.j7 KX G ?h8 ?h9 ?h10 ?h11) (Mw.j7 KX G ?h12 ?h13 ?h14 ?h15) (Mw.j7 KX G ?h16 ?h17 ?h18 ?h19) (Mw.j7 KX G ?h20 ?h21 ?h22 ?h23) (Mw.j7 KX G ?h24 ?h25 ?h26 ?h27) (Mw.j7 KX G ?h28 ?h29 ?h30 ?h31) (Mw.j7 KX G ?h32 ?h33 ?h34 ?h35) (Mw.j7 KX G ?h36 ?h37 ?h38 ?h39) (Mw.j7 KX G ?h40 ?h41 ?h42 ?h43) (Mw.j7 KX G ?h44 ?h45 ?h46 ?h47) (Mw.j7 KX G ?h48 ?h49 ?h50 ?h51) (Mw.j7 KX G ?h52 ?h53 ?h54 ?h55) (Mw.j7 KX G ?h56 ?h57 ?h58 ?h59) (Mw.j7 KX G ?h60 ?h61 ?h62 ?h63) (Mw.j7 KX G ?h64 ?h65 ?h66 ?h67) (Mw.j7 KX G ?h68 ?h69 ?h70 ?h71) (Mw.j7 KX G ?h72 ?h73 ?h74 ?h75) (Mw.j7 KX G ?h76 ?h77 ?h78 ?h79) (Mw.j7 KX G ?h80 ?h81 ?h82 ?h83) (Mw.j7 KX G ?h84 ?h85 ?h86 ?h87) (Mw.j7 KX G ?h88 ?h89 ?h90 ?h91) (Mw.j7 KX G ?h92 ?h93 ?h94 ?h95) (Mw.j7 KX G ?h96 ?h97 ?h98 ?h99) (Mw.j7 KX G ?h100 ?h101 ?h102 ?h103) (Mw.j7 KX G ?h104 ?h105 ?h106 ?h107) (Mw.j7 KX G ?h108 ?h109 ?h110 ?h111) (Mw.j7 KX G ?h112 ?h113 ?h114 ?h115) (Mw.j7 KX G ?h116 ?h117 ?h118 ?h119) (Mw.j7 KX G ?h120 ?h121 ?h122 ?h123) (Mw.j7 KX G ?h124 ?h125 ?h126 ?h127) (Mw.j7 KX G ?h128 ?h129 ?h130 ?h131) (Mw.j7 KX G ?h132 ?h133 ?h134 ?h135) (Mw.j7 KX G ?h136 ?h137 ?h138 ?h139) (Mw.j7 KX G ?h140 ?h141 ?h142 ?h143) (Mw.j7 KX G ?h144 ?h145 ?h146 ?h147) (Mw.j7 KX G ?h148 ?h149 ?h150 ?h151) (Mw.j7 KX G ?h152 ?h153 ?h154 ?h155) (Mw.j7 KX G ?h156 ?h157 ?h158 ?h159) (Mw.j7 KX G ?h160 ?h161 ?h162 ?h163) (Mw.j7 KX G ?h164 ?h165 ?h166 ?h167) (Mw.j7 KX G ?h168 ?h169 ?h170 ?h171) (Mw.j7 KX G ?h172 ?h173 ?h174 ?h175) (Mw.j7 KX G ?h176 ?h177 ?h178 ?h179) (Mw.j7 KX G ?h180 ?h181 ?h182 ?h183) (Mw.j7 KX G ?h184 ?h185 ?h186 ?h187) (Mw.j7 KX G ?h188 ?h189 ?h190 ?h191) (Mw.j7 KX G ?h192 ?h193 ?h194 ?h195) (Mw.j7 KX G ?h196 ?h197 ?h198 ?h199) (Mw.j7 KX G ?h200 ?h201 ?h202 ?h203) (Mw.j7 KX G ?h204 ?h205 ?h206 ?h207) (Mw.j7 KX G ?h208 ?h209 ?h210 ?h211) ?a1h ?a2h ?a3h ?a4h ?a5h ?a6h ?a7h ?a8h ?a9h ?a0i ?a1i ?a2i ?a3i ?a4i ?a5i ?a6i ?a7i ?a8i ?a9i ?a0j ?a1j ?a2j ?a3j ?a4j ?aC ?pg ?hd ?po ?sa ?a5j ?a6j ?a7j ?a8j (Mw.b7G ?h212 ?h213 ?h214 ?h215 ?h216 ?h217 ?h218) (Mw.Y0 ?h219 ?h220 ?h221 ?h222 ?h223) (Mw.Y0 ?h224 ?h225 ?h226 ?h227 ?h228) (Mw.Y0 ?h229 ?h230 ?h231 ?h232 ?h233) (Mw.Y0 ?h234 ?h235 ?h236 ?h237 ?h238) (Mw.Y0 ?h239 ?h240 ?h241 ?h242 ?h243) (Mw.Y0 ?h244 ?h245 ?h246 ?h247 ?h248) (Mw.Y0 ?h249 ?h250 ?h251 ?h252 ?h253) (Mw.b8G KX G ?h254 ?h255 ?h256 ?h257 ?h258 ?h259 ?h260 ?h261 ?h262 ?h263) (Mw.b3O KX G ?h264 ?h265) ?a9k ?e_NoField ?a0l ?a1l ?a2l ?a3l ?a4l ?a5l ?a6l ?a7l ?a8l ?a9l ?a0m ?a1m ?a2m ?a3m ?a4m ?a5m ?a6m ?a7m⟩
   (case h0=>k_is)
   (case h1=>k_is)
   (case h2=>k_is)
   (case h3=>k_is)
   (case h4=>k_is)
   (case h5=>k_is)
   (case h6=>k_is)
   (case h7=>k_is)
   (case h8=>k_is)
   (case h9=>k_is)
   (case h10=>k_is)
   (case h11=>k_is)
   (case h12=>k_is)
   (case h13=>k_is)
   (case h14=>k_is)
   (case h15=>k_is)
   (case h16=>k_is)
   (case h17=>k_is)
   (case h18=>k_is)
   (case h19=>k_is)
   (case h20=>k_is)
   (case h21=>k_is)
   (case h22=>k_is)
   (case h23=>k_is)
   (case h24=>k_is)
   (case h25=>k_is)
   (case h26=>k_is)
   (case h27=>k_is)
   (case h28=>k_is)
   (case h29=>k_is)
   (case h30=>k_is)
   (case h31=>k_is)
   (case h32=>k_is)
   (case h33=>k_is)
   (case h34=>k_is)
   (case h35=>k_is)
   (case h36=>k_is)
   (case h37=>k_is)
   (case h38=>k_is)
   (case h39=>k_is)
   (case h40=>k_is)
   (case h41=>k_is)
   (case h42=>k_is)
   (case h43=>k_is)
   (case h44=>k_is)
   (case h45=>k_is)
   (case h46=>k_is)
   (case h47=>k_is)
   (case h48=>k_is)
   (case h49=>k_is)
   (case h50=>k_is)
   (case h51=>k_is)
   (case h52=>k_is)
   (case h53=>k_is)
   (case h54=>k_is)
   (case h55=>k_is)
   (case h56=>k_is)
   (case h57=>k_is)
   (case h58=>k_is)
   (case h59=>k_is)
   (case h60=>k_is)
   (case h61=>k_is)
   (case h62=>k_is)
   (case h63=>k_is)
   (case h64=>k_is)
   (case h65=>k_is)
   (case h66=>k_is)
   (case h67=>k_is)
   (case h68=>k_is)
   (case h69=>k_is)
   (case h70=>k_is)
   (case h71=>k_is)
   (case h72=>k_is)
   (case h73=>k_is)
   (case h74=>k_is)
   (case h75=>k_is)
   (case h76=>k_is)
   (case h77=>k_is)
   (case h78=>k_is)
   (case h79=>k_is)
   (case h80=>k_is)
   (case h81=>k_is)
   (case h82=>k_is)
   (case h83=>k_is)
   (case h84=>k_is)
   (case h85=>k_is)
   (case h86=>k_is)
   (case h87=>k_is)
   (case h88=>k_is)
   (case h89=>k_is)
   (case h90=>k_is)
   (case h91=>k_is)
   (case h92=>k_is)
   (case h93=>k_is)
   (case h94=>k_is)
   (case h95=>k_is)
   (case h96=>k_is)
   (case h97=>k_is)
   (case h98=>k_is)
   (case h99=>k_is)
   (case h100=>k_is)
   (case h101=>k_is)
   (case h102=>k_is)
   (case h103=>k_is)
   (case h104=>k_is)
   (case h105=>k_is)
   (case h106=>k_is)
   (case h107=>k_is)
   (case h108=>k_is)
   (case h109=>k_is)
   (case h110=>k_is)
   (case h111=>k_is)
   (case h112=>k_is)
   (case h113=>k_is)
   (case h114=>k_is)
   (case h115=>k_is)
   (case h116=>k_is)
   (case h117=>k_is)
   (case h118=>k_is)
   (case h119=>k_is)
   (case h120=>k_is)
   (case h121=>k_is)
   (case h122=>k_is)
   (case h123=>k_is)
   (case h124=>k_is)
   (case h125=>k_is)
   (case h126=>k_is)
   (case h127=>k_is)
   (case h128=>k_is)
   (case h129=>k_is)
   (case h130=>k_is)
   (case h131=>k_is)
   (case h132=>k_is)
   (case h133=>k_is)
   (case h134=>k_is)
   (case h135=>k_is)
   (case h136=>k_is)
   (case h137=>k_is)
   (case h138=>k_is)
   (case h139=>k_is)
   (case h140=>k_is)
   (case h141=>k_is)
   (case h142=>k_is)
   (case h143=>k_is)
   (case h144=>k_is)
   (case h145=>k_is)
   (case h146=>k_is)
   (case h147=>k_is)
   (case h148=>k_is)
   (case h149=>k_is)
   (case h150=>k_is)
   (case h151=>k_is)
   (case h152=>k_is)
   (case h153=>k_is)
   (case h154=>k_is)
   (case h155=>k_is)
   (case h156=>k_is)
   (case h157=>k_is)
   (case h158=>k_is)
   (case h159=>k_is)
   (case h160=>k_is)
   (case h161=>k_is)
   (case h162=>k_is)
   (case h163=>k_is)
   (case h164=>k_is)
   (case h165=>k_is)
   (case h166=>k_is)
   (case h167=>k_is)
   (case h168=>k_is)
   (case h169=>k_is)
   (case h170=>k_is)
   (case h171=>k_is)
   (case h172=>k_is)
   (case h173=>k_is)
   (case h174=>k_is)
   (case h175=>k_is)
   (case h176=>k_is)
   (case h177=>k_is)
   (case h178=>k_is)
   (case h179=>k_is)
   (case h180=>k_is)
   (case h181=>k_is)
   (case h182=>k_is)
   (case h183=>k_is)
   (case h184=>k_is)
   (case h185=>k_is)
   (case h186=>k_is)
   (case h187=>k_is)
   (case h188=>k_is)
   (case h189=>k_is)
   (case h190=>k_is)
   (case h191=>k_is)
   (case h192=>k_is)
   (case h193=>k_is)
   (case h194=>k_is)
   (case h195=>k_is)
   (case h196=>k_is)
   (case h197=>k_is)
   (case h198=>k_is)
   (case h199=>k_is)
   (case h200=>k_is)
   (case h201=>k_is)
   (case h202=>k_is)
   (case h203=>k_is)
   (case h204=>k_is)
   (case h205=>k_is)
   (case h206=>k_is)
   (case h207=>k_is)
   (case h208=>k_is)
   (case h209=>k_is)
   (case h210=>k_is)
   (case h211=>k_is)
   (case a1h=>k_is)
   (case a2h=>exact ⟨_,rfl⟩)
   (case a3h=>k_is)
   (case a4h=>exact ⟨_,rfl⟩)
   (case a5h=>k_is)
   (case a6h=>exact ⟨_,rfl⟩)
   (case a7h=>k_is)
   (case a8h=>exact ⟨_,rfl⟩)
   (case a9h=>k_is)
   (case a0i=>exact ⟨_,rfl⟩)
   (case a1i=>k_is)
   (case a2i=>exact ⟨_,rfl⟩)
   (case a3i=>k_is)
   (case a4i=>exact ⟨_,rfl⟩)
   (case a5i=>k_is)
   (case a6i=>exact ⟨_,rfl⟩)
   (case a7i=>k_is)
   (case a8i=>k_is)
   (case a9i=>exact .cons rfl (.cons rfl (.cons rfl (.cons rfl (.nil)))))
   (case a0j=>decide)
   (case a1j=>k_is)
   (case a2j=>k_is)
   (case a3j=>exact .cons rfl (.cons rfl (.cons rfl (.cons rfl (.cons rfl (.nil))))))
   (case a4j=>decide)
   (case aC=>k_is)
   (case pg=>k_is)
   (case hd=>k_is)
   (case po=>k_is)
   (case sa=>k_is)
   (case a5j=>k_is)
   (case a6j=>k_is)
   (case a7j=>k_is)
   (case a8j=>k_is)
   (case h212=>k_is)
   (case h213=>k_is)
   (case h214=>k_is)
   (case h215=>k_is)
   (case h216=>k_is)
   (case h217=>k_is)
   (case h218=>k_is)
   (case h219=>k_is)
   (case h220=>k_is)
   (case h221=>k_is)
   (case h222=>k_is)
   (case h223=>k_is)
   (case h224=>k_is)
   (case h225=>k_is)
   (case h226=>k_is)
   (case h227=>k_is)
   (case h228=>k_is)
   (case h229=>k_is)
   (case h230=>k_is)
   (case h231=>k_is)
   (case h232=>k_is)
   (case h233=>k_is)
   (case h234=>k_is)
   (case h235=>k_is)
   (case h236=>k_is)
   (case h237=>k_is)
   (case h238=>k_is)
   (case h239=>k_is)
   (case h240=>k_is)
   (case h241=>k_is)
   (case h242=>k_is)
   (case h243=>k_is)
   (case h244=>k_is)
   (case h245=>k_is)
   (case h246=>k_is)
   (case h247=>k_is)
   (case h248=>k_is)
   (case h249=>k_is)
   (case h250=>k_is)
   (case h251=>k_is)
   (case h252=>k_is)
   (case h253=>k_is)
   (case h254=>k_is)
   (case h255=>k_is)
   (case h256=>kernel_rfl)
   (case h257=>k_is)
   (case h258=>kernel_rfl)
   (case h259=>k_is)
   (case h260=>k_is)
   (case h261=>k_is)
   (case h262=>k_is)
   (case h263=>k_is)
   (case h264=>k_is)
   (case h265=>kernel_rfl)
   (case a9k=>k_is)
   (case e_NoField=>k_is)
   (case a0l=>k_is)
   (case a1l=>k_is)
   (case a2l=>k_is)
   (case a3l=>kernel_rfl)
   (case a4l=>k_is)
   (case a5l=>k_is)
   (case a6l=>k_is)
   (case a7l=>k_is)
   (case a8l=>k_is)
   (case a9l=>k_is)
   (case a0m=>k_is)
   (case a1m=>k_is)
   (case a2m=>k_is)
   (case a3m=>k_is)
   (case a4m=>k_is)
   (case a5m=>k_is)
   (case a6m=>k_is)
   (case a7m=>k_is)
  obtain ⟨C,T⟩:=T
  exact ⟨T.d_law,fun base=>Mw.c8g T⟩
