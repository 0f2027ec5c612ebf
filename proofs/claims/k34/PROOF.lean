import PyProof.Rows.All
import Wide.All
import OpenK.AllK
import Wide.FinOn
import Lean
import PyProof.EqAt
import PyProof.EqKinds
import PyProof.TupleCall
import KE.LcSums
import PyProof.RulesAs
import PyProof.NsDelKeeps
import PyProof.Rows.Catch
import OpenK.KOwn
import KE.KTryMore
import PyProof.ExcArgs
import KE.KUnpack
import PyProof.P3In
import PyProof.Rows.SortRuns
import PyProof.Rows.SortShell
import PyProof.TupleOfSeq
import PyProof.SetKind
import PyProof.Rows.SetFrom
import PyProof.WalksMore
import PyProof.DictIter
import PyProof.SetRoads
import KE.KDictSum
import KE.KSortedM
import KE.KIntText
import PyProof.StrWalks
import PyProof.EnumMake
import PyProof.EnumStmt
import PyProof.SliceStr2
import PyProof.StrLawsTight
import PyProof.StrLawsChain
import PyProof.ZipIter
import KE.KPairComp
import PyProof.DictItems
import PyProof.DictWalks
import PyProof.SumAny
import KE.KFind
import PyProof.EnumIter
import PyProof.ListMulAny
import PyProof.FactsAll.tuple
import PyProof.P3Eq
import PyProof.TupleKey
import PyProof.FactsAll.NoneType
import PyProof.DictRoadsH
import PyProof.Rows.TupDisplay
import KE.KSortTup
import PySem.Challenge.RW_midwindow_k34_desk_shows
set_option Elab.async false
set_option linter.all false
set_option maxRecDepth 100000
set_option maxHeartbeats 4000000
namespace L2
open PySem PySem.Spec PyProof.Rows
abbrev Key:=Sum Int Str
def keyIs:Key→Value→Bool
 | .inl k,v=>Value.isInt k v
 | .inr x,v=>Value.isStrOf x v
def keyH (w:World):Key→Int
 | .inl k=>hashInt k
 | .inr x=>hashStr w x
theorem keyIs_shape:∀ {k:Key} {v:Value},keyIs k v=true→(∃ i t,k=Sum.inl i∧v=Value.int i t) ∨ (∃ x t,k=Sum.inr x∧v=Value.str x t)
 | .inl i,v,h=>by
  obtain ⟨t,e⟩:=Value.isInt_shape (k:=i) (v:=v) h
  exact .inl ⟨i,t,rfl,e⟩
 | .inr x,v,h=>by
  obtain ⟨t,e⟩:=Value.isStrOf_shape (x:=x) (v:=v) h
  exact .inr ⟨x,t,rfl,e⟩
theorem key_ll (a b:Int):decide ((Sum.inl a:Key)=Sum.inl b)=(a == b):=by
 by_cases e:a=b
 ·subst e;simp
 ·have h:¬ (Sum.inl a:Key)=Sum.inl b:=fun q=>e (Sum.inl.inj q)
  rw [decide_eq_false h]
  exact (beq_eq_false_iff_ne.mpr e).symm
theorem key_rr (a b:Str):decide ((Sum.inr a:Key)=Sum.inr b)=decide (a=b):=by
 by_cases e:a=b
 ·subst e;simp
 ·have h:¬ (Sum.inr a:Key)=Sum.inr b:=fun q=>e (Sum.inr.inj q)
  rw [decide_eq_false h,decide_eq_false e]
theorem key_lr (a:Int)(b:Str):decide ((Sum.inl a:Key)=Sum.inr b)=false:=decide_eq_false (fun q=>nomatch q)
theorem key_rl (a:Str)(b:Int):decide ((Sum.inr a:Key)=Sum.inl b)=false:=decide_eq_false (fun q=>nomatch q)
def mixKind (prog:Program)(w:World):PySem.KeyKind prog w Key where
 is:=keyIs
 hash:=keyH w
 inj:=fun v a b ha hb=>by
  rcases keyIs_shape ha with ⟨i,t,rfl,rfl⟩ | ⟨x,t,rfl,rfl⟩
  ·rcases keyIs_shape hb with ⟨j,u,rfl,e⟩ | ⟨y,u,rfl,e⟩
   ·injection e with e1 _;rw [e1]
   ·exact nomatch e
  ·rcases keyIs_shape hb with ⟨j,u,rfl,e⟩ | ⟨y,u,rfl,e⟩
   ·exact nomatch e
   ·injection e with e1 _;rw [e1]
 byValue:=fun k v h=>by
  rcases keyIs_shape h with ⟨i,t,rfl,rfl⟩ | ⟨x,t,rfl,rfl⟩ <;> rfl
 pyHash:=fun hv h=>by
  rcases keyIs_shape hv with ⟨i,t,rfl,rfl⟩ | ⟨x,t,rfl,rfl⟩
  ·exact wpAny_pyHash_int h
  ·exact wpAny_pyHash_str h
 eqBool:=fun hu hv h=>by
  rcases keyIs_shape hu with ⟨i,t,rfl,rfl⟩ | ⟨x,t,rfl,rfl⟩
  ·rcases keyIs_shape hv with ⟨j,u,rfl,rfl⟩ | ⟨y,u,rfl,rfl⟩
   ·rw [key_ll] at h;exact wpAny_eqBool_int h
   ·rw [key_lr] at h;exact SeqAt.EqAt.int_str i t y u _ _ _ _ h
  ·rcases keyIs_shape hv with ⟨j,u,rfl,rfl⟩ | ⟨y,u,rfl,rfl⟩
   ·rw [key_rl] at h;exact SeqAt.EqAt.str_int x t j u _ _ _ _ h
   ·rw [key_rr] at h;exact wpAny_eqBool_str h
 «strs»:=fun k x t v h=>by
  rcases keyIs_shape h with ⟨i,u,rfl,e⟩ | ⟨y,u,rfl,e⟩
  ·exact nomatch e
  ·injection e with e1 _
   subst e1
   cases v <;> rfl
end L2
namespace L2
open PySem PySem.Spec PyProof.Rows
inductive V where
 | non | bl (b:Bool) | int (i:Int) | str (x:Str) | byt (b:Array UInt8) | flt (b:UInt64) | ref (a:Addr) | ty (n:String)
 deriving DecidableEq
def RelV:V→Value→Prop
 | .non,u=>u=Value.none
 | .bl b,u=>u=Value.bool b
 | .int i,u=>∃ t,u=Value.int i t
 | .str x,u=>∃ t,u=Value.str x t
 | .byt b,u=>∃ t,u=Value.bytes b t
 | .flt b,u=>∃ t,u=Value.float b t
 | .ref a,u=>u=Value.ref a
 | .ty n,u=>u=Value.type n
abbrev Vals:List V→List Value→Prop:=Paired RelV
theorem Vals.length {xs:List V}{us:List Value}(r:Vals xs us):xs.length=us.length:=Paired.length r
theorem Vals.get:∀ {xs:List V} {us:List Value} {i:Nat} {x:V},Vals xs us→xs[i]? = some x→∃ u,us[i]? = some u∧RelV x u
 | _,_,_,_,.nil,e=>by simp at e
 | _,_,0,_,.cons r _,e=>by simp at e;subst e;exact ⟨_,rfl,r⟩
 | _,_,i + 1,x,.cons _ t,e=>by
  obtain ⟨u,h1,h2⟩:=Vals.get (i:=i) (x:=x) t (by simpa using e)
  exact ⟨u,by simpa using h1,h2⟩
theorem Vals.set {x:V}{u:Value}(r:RelV x u):∀ {xs:List V} {us:List Value} (i:Nat),Vals xs us→Vals (xs.set i x) (us.set i u)
 | _,_,_,.nil=>.nil
 | _,_,0,.cons _ t=>.cons r t
 | _,_,i + 1,.cons q t=>.cons q (Vals.set r i t)
theorem Vals.append:∀ {xs ys:List V} {us ws:List Value},Vals xs us→Vals ys ws→Vals (xs ++ ys) (us ++ ws)
 | _,_,_,_,.nil,s=>s
 | _,_,_,_,.cons r t,s=>.cons r (Vals.append t s)
theorem Vals.take:∀ {xs:List V} {us:List Value} (n:Nat),Vals xs us→Vals (xs.take n) (us.take n)
 | _,_,0,_=>.nil
 | _,_,_ + 1,.nil=>.nil
 | _,_,n + 1,.cons r t=>.cons r (Vals.take n t)
theorem Vals.drop:∀ {xs:List V} {us:List Value} (n:Nat),Vals xs us→Vals (xs.drop n) (us.drop n)
 | _,_,0,r=>r
 | _,_,_ + 1,.nil=>.nil
 | _,_,n + 1,.cons _ t=>Vals.drop n t
def RelO:Option V→Option Value→Prop
 | some v,some u=>RelV v u
 | none,none=>True
 | _,_=>False
def KV {κ:Type}:List (κ × V)→List (κ × Value)→Prop:=Paired fun (p:κ × V) (q:κ × Value)=>p.1=q.1 ∧ RelV p.2 q.2
def kV:Key→V
 | .inl i=>.int i
 | .inr x=>.str x
inductive HO where
 /-- a list -/
 | lst (xs:List V)
 /-- a tuple (never changes) -/
 | tup (xs:List V)
 /-- a dict whose keys are ints and texts;one whose keys are tuples of ints and texts (the empty one is both) -/
 | dK (kvs:List (Key × V)) | dT (kvs:List (List Key × V))
 /-- a set of ints: its members,its size -/
 | set (S:Int→Bool) (n:Nat)
 /-- an instance of the class at C,its dict at dx,its attributes -/
 | ins (C dx:Addr) (fs:List (Str × V))
 /-- the dict of the instance at x -/
 | own (x:Addr)
 /-- the dict of an exception -/
 | xd (fs:List (Str × V))
 /-- a bound method,f of x -/
 | met (f x:Addr)
 /-- a range object lo,lo + 1,.. below hi -/
 | rng (lo hi:Int)
 /-- a thing that is known to the object (the script;a dict while a loop walks it): read,never written while it is so -/
 | frz (o:Obj) (u:HO)
 /-- a code object's table -/
 | tbl (ps:Array Value)
 /-- any other thing,by what is true of its one object (a def of one's own: SetO a S n:=HO.ext fun h=>..) -/
 | ext (φ:Heap→Prop)
abbrev Hp:=Addr→Option HO
def upd (H:Hp)(a:Addr)(o:HO):Hp:=fun b=>if b=a then some o else H b
theorem upd_same {H:Hp}{a:Addr}{o:HO}:upd H a o a=some o:=by unfold upd;rw [if_pos rfl]
theorem upd_ne {H:Hp}{a b:Addr}{o:HO}(h:b≠a):upd H a o b=H b:=by unfold upd;rw [if_neg h]
theorem ne_of {H:Hp}{a b:Addr}{o u:HO}(h:H a=some o)(h':H b=some u)(d:o≠u):a≠b:=by
 intro e;subst e;rw [h] at h';exact d (Option.some.inj h')
theorem ne_of_none {H:Hp}{a b:Addr}{o:HO}(h:H a=some o)(h':H b=none):a≠b:=by
 intro e;subst e;rw [h] at h';cases h'
section
variable (P:Program)(w:World)
def ObjOk (H:Hp)(h:Heap)(a:Addr):HO→Prop
 | .lst xs=>xs.length ≤ sizeLine∧∃ (its:List Value) (n:Nat),Vals xs its∧h.get? a=some { cls:=.type "list",data:=.seq its.toArray n }
 | .tup xs=>xs.length ≤ sizeLine∧∃ its:List Value,Vals xs its∧IsTup h a its.toArray
 | .dK kvs=>kvs.length ≤ sizeLine∧(a == sysModules)=false∧∃ vs,KV kvs vs∧h.DictOf (mixKind P w) a vs
 | .dT kvs=>kvs.length ≤ sizeLine∧(a == sysModules)=false∧∃ xs:List (List Key × Addr × Value),
   Paired (fun (p:List Key × V) (q:List Key × Addr × Value)=>p.1=q.1 ∧ H q.2.1=some (.tup (p.1.map kV))∧RelV p.2 q.2.2) kvs xs ∧
   ∃ o es ep,h.get? a=some o∧o.ExactDict ∧ o.data = .dict es ep∧es.toList=xs.map (entryOfKey (tupleKind (mixKind P w)))∧(xs.map (·.1)).Nodup
 | .set S n=>h.SetOf (intKind P w) a S n
 | .ins C dx fs=>H dx=some (.own a)∧fs.length ≤ 1000∧dx≠a∧h.get? a=some (PySem.W.instObj C dx) ∧
   ∃ mA,h.Ns1 dx mA∧(∀ f,RelO (fs.lookup f) (mA f))∧PySem.Within mA (fs.map (·.1))
 | .own _=>∃ o,h.get? a=some o
 | .xd fs=>∃ mA,h.Ns1 a mA∧∀ f,RelO (fs.lookup f) (mA f)
 | .rng lo hi=>∃ t u v,h.get? a=some { cls:=.type "range",data:=.fields #[.int lo t,.int hi u,.int 1 v] }
 | .frz o u=>h.get? a=some o∧ObjOk H h a u
 | .tbl ps=>h.get? a=some { cls:=.none,data:=.fields ps }
 | .met f x=>h.get? a=some (PySem.W.methodObj (.ref f) (.ref x))
 | .ext φ=>φ h∧(∃ o,h.get? a=some o)∧∀ h1 h2:Heap,φ h1→(∀ o,h1.get? a=some o→h2.get? a=some o)→φ h2
def HOk (H:Hp)(h:Heap):Prop:=∀ a o,H a=some o→ObjOk P w H h a o
end
section
variable {P:Program}{w:World}{H H':Hp}{h h':Heap}{a:Addr}{o:HO}
theorem ObjOk.lt (x:ObjOk P w H h a o):a < h.objs.size:=by
 cases o with
 | lst xs=>obtain ⟨_,_,_,_,e⟩:=x;exact Heap.lt_size e
 | tup xs=>obtain ⟨_,_,_,p⟩:=x;exact p.lt
 | dK kvs=>obtain ⟨_,_,_,_,o,_,_,e,_⟩:=x;exact Heap.lt_size e
 | dT kvs=>obtain ⟨_,_,_,_,o,_,_,e,_⟩:=x;exact Heap.lt_size e
 | set S n=>obtain ⟨o,_,_,_,e,_⟩:=x;exact Heap.lt_size e
 | ins C dx fs=>obtain ⟨_,_,_,e,_⟩:=x;exact Heap.lt_size e
 | own y=>obtain ⟨_,e⟩:=x;exact Heap.lt_size e
 | xd fs=>obtain ⟨_,⟨_,_,_,e,_⟩,_⟩:=x;exact Heap.lt_size e
 | rng lo hi=>obtain ⟨_,_,_,e⟩:=x;exact Heap.lt_size e
 | frz ob u=>obtain ⟨e,_⟩:=x;exact Heap.lt_size e
 | tbl ps=>exact Heap.lt_size (show h.get? a=some _ from x)
 | met f y=>exact Heap.lt_size (show h.get? a=some _ from x)
 | ext φ=>obtain ⟨_,⟨_,e⟩,_⟩:=x;exact Heap.lt_size e
theorem Paired.mapP {α β:Type}{F G:α→β→Prop}:∀ {l₁:List α} {l₂:List β},Paired F l₁ l₂→(∀ a b,F a b→G a b)→Paired G l₁ l₂
 | _,_,.nil,_=>.nil
 | _,_,.cons r t,f=>.cons (f _ _ r) (Paired.mapP t f)
theorem ObjOk.stay (x:ObjOk P w H h a o)(k:∀ b u,(b=a ∨ H b=some (.own a))→h.get? b=some u→h'.get? b=some u)
  (ho:∀ b,H b=some (.own a)→H' b=some (.own a)) (ht:∀ b xs,H b=some (.tup xs)→H' b=some (.tup xs)):ObjOk P w H' h' a o:=by
 induction o with
 | lst xs=>obtain ⟨z,its,n,r,e⟩:=x;exact ⟨z,its,n,r,k _ _ (.inl rfl) e⟩
 | tup xs=>obtain ⟨z,its,r,ob,e,c⟩:=x;exact ⟨z,its,r,ob,k _ _ (.inl rfl) e,c⟩
 | dK kvs=>obtain ⟨z,y,vs,r,ob,es,ep,e,c⟩:=x;exact ⟨z,y,vs,r,ob,es,ep,k _ _ (.inl rfl) e,c⟩
 | dT kvs =>
  obtain ⟨z,y,xs,r,ob,es,ep,e,c⟩:=x
  exact ⟨z,y,xs,Paired.mapP r fun p q z=>⟨z.1,ht _ _ z.2.1,z.2.2⟩,ob,es,ep,k _ _ (.inl rfl) e,c⟩
 | set S n=>obtain ⟨ob,es,ep,t,e,c⟩:=x;exact ⟨ob,es,ep,t,k _ _ (.inl rfl) e,c⟩
 | ins C dx fs =>
  obtain ⟨d,z,ne,e,mA,⟨od,es,ep,e2,c⟩,r⟩:=x
  exact ⟨ho _ d,z,ne,k _ _ (.inl rfl) e,mA,⟨od,es,ep,k _ _ (.inr d) e2,c⟩,r⟩
 | own y=>obtain ⟨ob,e⟩:=x;exact ⟨ob,k _ _ (.inl rfl) e⟩
 | xd fs=>obtain ⟨mA,⟨od,es,ep,e,c⟩,r⟩:=x;exact ⟨mA,⟨od,es,ep,k _ _ (.inl rfl) e,c⟩,r⟩
 | rng lo hi=>obtain ⟨t,u,v,e⟩:=x;exact ⟨t,u,v,k _ _ (.inl rfl) e⟩
 | frz ob u ih=>obtain ⟨e,q⟩:=x;exact ⟨k _ _ (.inl rfl) e,ih q⟩
 | tbl ps =>
  have e:h.get? a=some { cls:=.none,data:=.fields ps }:=x
  show h'.get? a=some { cls:=.none,data:=.fields ps }
  exact k a _ (.inl rfl) e
 | met f y =>
  have e:h.get? a=some (PySem.W.methodObj (.ref f) (.ref y)):=x
  show h'.get? a=some (PySem.W.methodObj (.ref f) (.ref y))
  exact k a _ (.inl rfl) e
 | ext φ=>obtain ⟨p,⟨o,e⟩,st⟩:=x;exact ⟨st _ _ p fun o q=>k _ _ (.inl rfl) q,⟨o,k _ _ (.inl rfl) e⟩,st⟩
theorem HOk.lt (x:HOk P w H h)(e:H a=some o):a < h.objs.size:=(x a o e).lt
theorem HOk.fresh (x:HOk P w H h)(e:h.objs.size ≤ a):H a=none:=by
 cases q:H a with
 | none=>rfl
 | some u=>exact absurd (Nat.lt_of_lt_of_le (x.lt q) e) (Nat.lt_irrefl _)
theorem HOk.kept (x:HOk P w H h)(k:∀ b u,h.get? b=some u→h'.get? b=some u):HOk P w H h':=fun a o e =>
 (x a o e).stay (fun b u _ q=>k b u q) (fun _ q=>q) fun _ _ q=>q
theorem HOk.laid (x:HOk P w H h)(k:∀ b u,h.get? b=some u→h'.get? b=some u)(hp:h.objs.size ≤ a)(new:ObjOk P w (upd H a o) h' a o):HOk P w (upd H a o) h':=fun b u e=>by
 have hn:=x.fresh hp
 by_cases hb:b=a
 ·subst hb;rw [upd_same] at e;cases e;exact new
 ·rw [upd_ne hb] at e
  exact (x b u e).stay (fun c v _ q=>k c v q) (fun c q=>by rw [upd_ne (ne_of_none q hn)];exact q) fun c xs q=>by rw [upd_ne (ne_of_none q hn)];exact q
end
def Rd (H:Hp)(a:Addr)(u:HO):Prop:=H a=some u ∨ ∃ o,H a=some (.frz o u)
theorem Rd.ok {P:Program}{w:World}{H:Hp}{h:Heap}{a:Addr}{u:HO}(r:Rd H a u)(x:HOk P w H h):ObjOk P w H h a u:=by
 rcases r with r | ⟨o,r⟩
 ·exact x a u r
 ·obtain ⟨_,q⟩:=x a _ r
  exact q
def Mut:Option HO→Prop
 | some (.lst _)=>True
 | some (.dK _)=>True
 | some (.dT _)=>True
 | some (.set _ _)=>True
 | some (.ins _ _ _)=>True
 | some (.ext _)=>True
 | _=>False
section
variable {P:Program}{w:World}{H:Hp}{h h':Heap}{x e:Addr}{o':HO}
theorem HOk.write (ok:HOk P w H h)(mu:Mut (H x))(he:e=x ∨ H e=some (.own x))(k:∀ b u,b≠e→h.get? b=some u→h'.get? b=some u)(heo:∃ u,h'.get? e=some u)
  (new:ObjOk P w (upd H x o') h' x o'):HOk P w (upd H x o') h':=fun b u q=>by
 have nown:∀ c y,H c=some (.own y)→c≠x:=fun c y r z=>by subst z;rw [r] at mu;exact mu
 have ntup:∀ c xs,H c=some (.tup xs)→c≠x:=fun c xs r z=>by subst z;rw [r] at mu;exact mu
 by_cases hb:b=x
 ·subst hb;rw [upd_same] at q;cases q;exact new
 ·rw [upd_ne hb] at q
  by_cases hbe:b=e
  ·have q':H b=some (.own x):=by
    rcases he with z | z
    ·exact absurd (hbe.trans z) hb
    ·rw [hbe];exact z
   rw [q] at q';cases q'
   obtain ⟨v,hv⟩:=heo
   exact ⟨v,by rw [hbe];exact hv⟩
  ·refine (ok b u q).stay (fun c v hc r=>k c v ?_ r) (fun c r=>by rw [upd_ne (nown c b r)];exact r) fun c xs r=>by rw [upd_ne (ntup c xs r)];exact r
   rcases hc with rfl | hc
   ·exact hbe
   ·rintro rfl
    rcases he with z | z
    ·exact nown c b hc z
    ·rw [hc] at z;cases z;exact hb rfl
end
structure Un (fs ex:List Addr)(H H':Hp)(h h':Heap):Prop where
 keep:∀ b o,h.get? b=some o→H b=none→b ∉ fs→b ∉ ex→h'.get? b=some o
 slot:∀ b o,h.get? b=some o→H b=none→b∈fs→b ∉ ex→∃ sl,h'.get? b=some { o with slots:=sl }
 free:∀ b o,h.get? b=some o→H b=none→b ∉ ex→H' b=none
 there:∀ b o,h.get? b=some o→b ∉ ex→∃ o',h'.get? b=some o'
 tups:∀ b xs,H b=some (.tup xs)→H' b=some (.tup xs)
 frzs:∀ b o u,H b=some (.frz o u)→H' b=some (.frz o u)
 tbls:∀ b ps,H b=some (.tbl ps)→∃ more,H' b=some (.tbl (ps ++ more))
section
variable {fs fs' ex ex':List Addr}{H H1 H2:Hp}{h h1 h2 h':Heap}{a x e:Addr}{o:HO}
theorem Un.any (u:Un fs ex H H1 h h1){b:Addr}{ob:Obj}(q:h.get? b=some ob)(n:H b=none)(hx:b ∉ ex):∃ sl,h1.get? b=some { ob with slots:=sl }:=by
 by_cases hb:b∈fs
 ·exact u.slot b ob q n hb hx
 ·exact ⟨ob.slots,u.keep b ob q n hb hx⟩
theorem Un.kept (k:∀ b u,h.get? b=some u→h'.get? b=some u):Un fs ex H H h h' :=
 ⟨fun b ob q _ _ _=>k b ob q,fun b ob q _ _ _=>⟨ob.slots,k b ob q⟩,fun _ _ _ n _=>n,fun b ob q _=>⟨ob,k b ob q⟩,fun _ _ q=>q,fun _ _ _ q=>q,fun _ ps q=>⟨#[],by rw [q];simp⟩⟩
theorem Un.refl:Un fs ex H H h h:=Un.kept fun _ _ q=>q
theorem Un.laid (k:∀ b u,h.get? b=some u→h'.get? b=some u)(hp:h.objs.size ≤ a)(hn:H a=none):Un fs ex H (upd H a o) h h' where
 keep:=fun b u q _ _ _=>k b u q
 slot:=fun b u q _ _ _=>⟨u.slots,k b u q⟩
 free:=fun b u q n _=>by rw [upd_ne (Nat.ne_of_lt (Nat.lt_of_lt_of_le (Heap.lt_size q) hp))];exact n
 there:=fun b u q _=>⟨u,k b u q⟩
 tups:=fun b xs q=>by rw [upd_ne (ne_of_none q hn)];exact q
 frzs:=fun b u xs q=>by rw [upd_ne (ne_of_none q hn)];exact q
 tbls:=fun b ps q=>⟨#[],by rw [upd_ne (ne_of_none q hn),q];simp⟩
theorem Un.write (mu:Mut (H x))(he:e=x ∨ H e=some (.own x))(k:∀ b u,b≠e→h.get? b=some u→h'.get? b=some u)(heo:∃ u,h'.get? e=some u):Un fs ex H (upd H x o) h h':=by
 have hx:∀ b,H b=none→b≠x:=fun b n z=>by subst z;rw [n] at mu;exact mu
 have hb:∀ b,H b=none→b≠e:=fun b n z=>by
  subst z
  rcases he with r | r
  ·exact hx b n r
  ·rw [n] at r;cases r
 have hm:∀ b u,H b=some u→¬ Mut (some u)→b≠x:=fun b u q nm z=>by subst z;rw [q] at mu;exact nm mu
 refine ⟨fun b u q n _ _=>k b u (hb b n) q,fun b u q n _ _=>⟨u.slots,k b u (hb b n) q⟩,fun b u q n _=>by rw [upd_ne (hx b n)];exact n,fun b u q _=>?_,
  fun b xs q=>by rw [upd_ne (hm b _ q fun z=>z)];exact q,fun b u xs q=>by rw [upd_ne (hm b _ q fun z=>z)];exact q,fun b ps q=>⟨#[],by rw [upd_ne (hm b _ q fun z=>z),q];simp⟩⟩
 by_cases hbe:b=e
 ·subst hbe;exact heo
 ·exact ⟨u,k b u hbe q⟩
end
def trk (h:Heap)(H:Hp):List Addr:=(List.range h.objs.size).filter fun a=>(H a).isSome
def hidT (h:Heap)(H:Hp):Heap:=PySem.W.hideAll h (trk h H)
theorem hidT_size (h:Heap)(H:Hp):(hidT h H).objs.size=h.objs.size:=PySem.W.hideAll_size _ _
theorem hidT_get {h:Heap}{H:Hp}{b:Addr}{o:Obj}(e:h.get? b=some o)(n:H b=none):(hidT h H).get? b=some o :=
 PySem.W.hideAll_get _ e fun hm=>by
  have q:(H b).isSome=true:=(List.mem_filter.mp hm).2
  rw [n] at q;simp at q
theorem of_hidT {h:Heap}{H:Hp}{b:Addr}{o:Obj}(e:(hidT h H).get? b=some o):h.get? b=some o∧H b=none:=by
 have e':h.get? b=some o:=PySem.W.of_hideAll (trk h H) e
 refine ⟨e',?_⟩
 cases q:H b with
 | none=>rfl
 | some x =>
  have hm:b∈trk h H:=List.mem_filter.mpr ⟨List.mem_range.mpr (Heap.lt_size e'),by simp [q]⟩
  have z:(hidT h H).get? b=none:=PySem.W.hideAll_none (trk h H) hm
  rw [z] at e;cases e
end L2
namespace L2
open PySem PySem.Spec PyProof.Rows
structure Mod (K:PySem.W.Frag)(mg:Str→Option Value)(base:Heap):Prop where
 kin:K.In base
 glob:base.Ns mainGlobals mg
 blt:∃ mb,base.Ns builtinsNs mb∧∀ x:Str,x ≠ "__name__"→mb x=bootBuiltins x
 nolimit:base.NoLimit
structure Cx where
 prog:Program
 w:World
 K:PySem.W.Frag
 mg:Str→Option Value
 base:Heap
 A:Around
 N:List Str
 sZ:Shared
 HZ:Hp
 env:Env
 outer:List Env
 stack:List Env
 ex:List Addr
 fn:Str→Bool
 calm:Bool
 pn:List (Addr × Obj)
 xe:Value→Shared→Prop
def frs (l:List Env):List Addr:=l.filterMap (·.frame)
abbrev Cx.fs (X:Cx):List Addr:=frs X.outer
def Vis (sc:Scope)(x:Str):Prop:=sc.names.lookup x=some .local ∨ sc.names.lookup x=some .cell ∨ sc.names.lookup x=some .free
def Loc (sc:Scope)(x:Str):Prop:=sc.names.lookup x=some .local ∨ sc.names.lookup x=some .cell
def Look (env:Env)(h:Heap)(m:Str→Option Value)(x:Str)(u:Value):Prop :=
 (env.kindOf x=some .local ∧ m x=some u) ∨ ((env.kindOf x=some .cell ∨ env.kindOf x=some .free)∧∃ c,env.cells.lookup x=some c∧h.IsCell c (some u))
structure Cx.Ok (X:Cx):Prop where
 mod:Mod X.K X.mg X.base
 kind:X.env.scope.kind = .function
 glob:X.env.globals=mainGlobals
 blt:X.env.builtins=builtinsNs
 above:X.sZ.heap.objs.size ≤ X.env.locals
 inj:∀ x y c,X.env.cells.lookup x=some c→X.env.cells.lookup y=some c→x=y
 has:∀ x,(X.env.kindOf x=some .cell ∨ X.env.kindOf x=some .free)→∃ c,X.env.cells.lookup x=some c
 cab:∀ x c,X.fn x=true→X.env.cells.lookup x=some c→X.sZ.heap.objs.size ≤ c
 hd:X.calm=true→X.A.handled=none
 frames:X.A.frames=some X.stack
 stk:X.stack=X.outer ∨ (X.stack=X.env :: X.outer ∧ X.env.frame=some X.env.locals)
 exf:∀ b∈X.ex,b≠X.env.locals ∧ ∀ x c,X.env.cells.lookup x=some c→c≠b
 bs:∀ b o,X.base.get? b=some o→X.sZ.heap.get? b=some o∧X.HZ b=none
 bsz:X.base.objs.size ≤ X.sZ.heap.objs.size
 noex:∀ b o,X.base.get? b=some o→b ∉ X.ex
 exfs:∀ b∈X.ex,b ∉ X.fs
 funs:X.sZ.heap.FunFrames X.base X.outer
 frf:∀ b∈X.fs,X.HZ b=none
structure Inv (X:Cx)(pins:List (Addr × Obj))(σ:List (Option V))(H:Hp)(s:Shared):Prop where
 ok:X.Ok
 os:s.os=X.sZ.os
 bare:AllBare s.gens
 base:Un X.fs X.ex X.HZ H X.sZ.heap s.heap
 loc:∃ m,s.heap.Ns X.env.locals m∧∀ (i:Nat) (x:Str) (v:V),X.N[i]? = some x→σ[i]? = some (some v)→Vis X.env.scope x→∃ u,RelV v u∧Look X.env s.heap m x u
 cell:∀ x c,X.env.cells.lookup x=some c→∃ v,s.heap.IsCell c v
 free:H X.env.locals=none
 freeC:∀ x c,X.env.cells.lookup x=some c→H c=none
 pin:∀ p∈X.pn ++ pins,s.heap.get? p.1=some p.2 ∧ H p.1=none∧p.1 ≠ X.env.locals ∧ p.1 ∉ X.fs ∧ ∀ v,p.2.data ≠ .cell v
 hok:HOk X.prog X.w H s.heap
 len:σ.length=X.N.length
section
variable {X:Cx}{pins:List (Addr × Obj)}{σ:List (Option V)}{H H':Hp}{s:Shared}{h':Heap}
theorem Cx.Ok.nofr (ok:X.Ok){b:Addr}{o:Obj}(e:X.base.get? b=some o):b ∉ X.fs:=fun hb=>by
 have:=(ok.funs.mem hb).1
 rw [e] at this;cases this
theorem Inv.bs (I:Inv X pins σ H s):∀ b o,X.base.get? b=some o→s.heap.get? b=some o∧H b=none:=fun b o e =>
 ⟨I.base.keep b o (I.ok.bs b o e).1 (I.ok.bs b o e).2 (I.ok.nofr e) (I.ok.noex b o e),I.base.free b o (I.ok.bs b o e).1 (I.ok.bs b o e).2 (I.ok.noex b o e)⟩
theorem Inv.bk (I:Inv X pins σ H s):∀ b o,X.base.get? b=some o→s.heap.get? b=some o:=fun b o e=>(I.bs b o e).1
theorem Inv.mod (I:Inv X pins σ H s):Mod X.K X.mg X.base:=I.ok.mod
theorem Inv.kIn (I:Inv X pins σ H s):X.K.In s.heap:=I.ok.mod.kin.keeps I.bk
theorem Inv.fr (I:Inv X pins σ H s):∃ m,Fr X.base X.env.locals s.heap m :=
 let ⟨m,hn,_⟩:=I.loc
 ⟨m,hn,I.bk,Nat.le_trans I.ok.bsz I.ok.above⟩
theorem Inv.lt (I:Inv X pins σ H s):X.env.locals < s.heap.objs.size:=let ⟨_,hn,_⟩:=I.loc;hn.lt
theorem Inv.sz (I:Inv X pins σ H s):X.sZ.heap.objs.size ≤ s.heap.objs.size:=Nat.le_trans I.ok.above (Nat.le_of_lt I.lt)
theorem Inv.nofs (I:Inv X pins σ H s){a:Addr}(h:s.heap.objs.size ≤ a):a ∉ X.fs:=fun hb=>by
 obtain ⟨_,o,ho,_⟩:=I.ok.funs.mem hb
 exact absurd (Nat.lt_of_lt_of_le (Heap.lt_size ho) (Nat.le_trans I.sz h)) (Nat.lt_irrefl _)
theorem Inv.cne (I:Inv X pins σ H s):∀ x c,X.env.cells.lookup x=some c→c≠X.env.locals:=fun x c e z=>by
 obtain ⟨v,o,ho,hd⟩:=I.cell x c e
 obtain ⟨m,⟨o',es,ep,ho',hd',_⟩,_⟩:=I.loc
 rw [z,ho'] at ho;cases ho;rw [hd'] at hd;cases hd
theorem Inv.funs (I:Inv X pins σ H s):s.heap.FunFrames X.base X.outer:=by
 have all:∀ (l:List Env),(∀ b∈frs l,b∈X.fs)→X.sZ.heap.FunFrames X.base l→s.heap.FunFrames X.base l:=by
  intro l
  induction l with
  | nil=>intro _ _;trivial
  | cons env r ih =>
   intro hs hl
   obtain ⟨hk,⟨L,o,hf,hn,ho,hd⟩,hr⟩:=hl
   have hL:L∈X.fs:=hs L (by unfold frs;rw [List.filterMap_cons,hf];exact List.mem_cons_self)
   obtain ⟨sl,e⟩:=I.base.slot L o ho (I.ok.frf L hL) hL fun z=>I.ok.exfs L z hL
   exact ⟨hk,⟨L,_,hf,hn,e,hd⟩,ih (fun b hb=>hs b (by unfold frs;rw [List.filterMap_cons,hf];exact List.mem_cons_of_mem _ hb)) hr⟩
 exact all X.outer (fun _ hb=>hb) I.ok.funs
theorem Inv.stack (I:Inv X pins σ H s):s.heap.FunFrames X.base X.stack:=by
 rcases I.ok.stk with e | ⟨e,hf⟩
 ·rw [e];exact I.funs
 ·rw [e]
  obtain ⟨m,hn,_⟩:=I.loc
  refine .cons (by rw [I.ok.kind];decide) hf hn ?_ I.funs
  exact Heap.get?_none_of_le (Nat.le_trans I.ok.bsz I.ok.above)
theorem Inv.stkSub (I:Inv X pins σ H s):∀ b∈frs X.stack,b∈X.env.locals :: X.fs:=fun b hb=>by
 rcases I.ok.stk with e | ⟨e,hf⟩
 ·rw [e] at hb;exact List.mem_cons_of_mem _ hb
 ·rw [e] at hb
  unfold frs at hb
  rw [List.filterMap_cons,hf] at hb
  exact hb
theorem Inv.stkFree (I:Inv X pins σ H s):∀ b∈frs X.stack,H b=none:=fun b hb=>by
 rcases List.mem_cons.mp (I.stkSub b hb) with e | hb
 ·rw [e];exact I.free
 ·obtain ⟨_,o,ho,_⟩:=I.ok.funs.mem hb
  exact I.base.free b o ho (I.ok.frf b hb) fun z=>I.ok.exfs b z hb
theorem Inv.step {g':Array GenState}{t':Nat}{d':Drawn}{ch:List Addr}(I:Inv X pins σ H s)
  (hch:∀ b∈ch,(b∈X.ex ∨ X.sZ.heap.objs.size ≤ b)∧b≠X.env.locals ∧ (∀ x c,X.env.cells.lookup x=some c→c≠b)∧∀ p∈X.pn ++ pins,p.1 ≠ b)
  (keep:∀ b o,b≠X.env.locals → b ∉ X.fs → b ∉ ch→s.heap.get? b=some o→H b=none→h'.get? b=some o)
  (slot:∀ b o,b≠X.env.locals → b∈X.fs → b ∉ ch→s.heap.get? b=some o→H b=none→∃ sl,h'.get? b=some { o with slots:=sl }) (free:∀ b o,b ∉ ch→s.heap.get? b=some o→H b=none→H' b=none)
  (there:∀ b o,b ∉ ch→s.heap.get? b=some o→∃ o',h'.get? b=some o')
  (tups:∀ b xs,H b=some (.tup xs)→H' b=some (.tup xs)) (frzs:∀ b o u,H b=some (.frz o u)→H' b=some (.frz o u)) (tbls:∀ b ps,H b=some (.tbl ps)→∃ more,H' b=some (.tbl (ps ++ more)))
  (ns:∀ m,s.heap.Ns X.env.locals m→h'.Ns X.env.locals m) (hok:HOk X.prog X.w H' h') (hg:AllBare g') :
  Inv X pins σ H' { s with heap:=h',gens:=g',drawn:=d',toks:=t' }:=by
 have neL:∀ b o,X.sZ.heap.get? b=some o→b≠X.env.locals:=fun b o e=>Nat.ne_of_lt (Nat.lt_of_lt_of_le (Heap.lt_size e) I.ok.above)
 have neC:∀ b o,X.sZ.heap.get? b=some o→b ∉ X.ex → b ∉ ch:=fun b o e hx hb=>by
  rcases (hch b hb).1 with z | z
  ·exact hx z
  ·exact absurd (Nat.lt_of_lt_of_le (Heap.lt_size e) z) (Nat.lt_irrefl _)
 have cellK:∀ x c,X.env.cells.lookup x=some c→∀ v,s.heap.IsCell c v→h'.IsCell c v:=fun x c e v ⟨o,ho,hd⟩=>by
  have nch:c ∉ ch:=fun z=>(hch c z).2.2.1 x c e rfl
  by_cases hc:c∈X.fs
  ·obtain ⟨sl,q⟩:=slot c o (I.cne x c e) hc nch ho (I.freeC x c e)
   exact ⟨_,q,hd⟩
  ·exact ⟨o,keep c o (I.cne x c e) hc nch ho (I.freeC x c e),hd⟩
 refine ⟨I.ok,I.os,hg,⟨fun b o e n hb hx=>?_,fun b o e n hb hx=>?_,fun b o e n hx=>?_,fun b o e hx=>?_,fun b xs e=>tups b xs (I.base.tups b xs e),fun b o xs e=>frzs b o xs (I.base.frzs b o xs e),fun b ps e=>?_⟩,?_,fun x c e=>?_,?_,fun x c e=>?_,fun p hp=>?_,hok,I.len⟩
 ·exact keep b o (neL b o e) hb (neC b o e hx) (I.base.keep b o e n hb hx) (I.base.free b o e n hx)
 ·obtain ⟨sl,e1⟩:=I.base.slot b o e n hb hx
  obtain ⟨sl',e2⟩:=slot b _ (neL b o e) hb (neC b o e hx) e1 (I.base.free b o e n hx)
  exact ⟨sl',e2⟩
 ·obtain ⟨o',e1⟩:=I.base.there b o e hx
  exact free b o' (neC b o e hx) e1 (I.base.free b o e n hx)
 ·obtain ⟨o',e1⟩:=I.base.there b o e hx
  exact there b o' (neC b o e hx) e1
 ·obtain ⟨m1,e1⟩:=I.base.tbls b ps e
  obtain ⟨m2,e2⟩:=tbls b _ e1
  exact ⟨m1 ++ m2,by rw [e2,Array.append_assoc]⟩
 ·obtain ⟨m,hn,hl⟩:=I.loc
  refine ⟨m,ns m hn,fun i x v e1 e2 e3=>?_⟩
  obtain ⟨u,r,l⟩:=hl i x v e1 e2 e3
  refine ⟨u,r,?_⟩
  rcases l with l | ⟨k,c,e,z⟩
  ·exact .inl l
  ·exact .inr ⟨k,c,e,cellK x c e _ z⟩
 ·obtain ⟨v,z⟩:=I.cell x c e
  exact ⟨v,cellK x c e v z⟩
 ·obtain ⟨m,⟨o,_,_,ho,_⟩,_⟩:=I.loc
  exact free _ o (fun z=>(hch _ z).2.1 rfl) ho I.free
 ·obtain ⟨v,o,ho,hd⟩:=I.cell x c e
  exact free c o (fun z=>(hch c z).2.2.1 x c e rfl) ho (I.freeC x c e)
 ·obtain ⟨e,n,ne,nf,d⟩:=I.pin p hp
  have nch:p.1 ∉ ch:=fun z=>(hch p.1 z).2.2.2 p hp rfl
  exact ⟨keep p.1 p.2 ne nf nch e n,free p.1 p.2 nch e n,ne,nf,d⟩
theorem Inv.un {t':Nat}(I:Inv X pins σ H s)(u:Un X.fs [] H H' s.heap h')(hok:HOk X.prog X.w H' h'):Inv X pins σ H' { s with heap:=h',toks:=t' }:=by
 obtain ⟨m,⟨o,es,ep,ho,r⟩,_⟩:=id I.loc
 obtain ⟨sl,hL⟩:=u.any ho I.free (by simp)
 exact I.step (g':=s.gens) (d':=s.drawn) (ch:=[]) (fun _ z=>nomatch z) (fun b o _ hb _ e n=>u.keep b o e n hb (by simp)) (fun b o _ hb _ e n=>u.slot b o e n hb (by simp)) (fun b o _ e n=>u.free b o e n (by simp)) (fun b o _ e=>u.there b o e (by simp)) u.tups u.frzs u.tbls (fun m' hm=>by
  obtain ⟨o',es',ep',ho',r'⟩:=hm
  rw [ho] at ho';cases ho'
  exact ⟨_,es',ep',hL,r'⟩) hok I.bare
theorem Inv.call {g':Array GenState}{t':Nat}{d':Drawn}{ch:List Addr}(I:Inv X pins σ H s)(u:Un (frs X.stack) ch H H' s.heap h')(hok:HOk X.prog X.w H' h')(hg:AllBare g')
  (hch:∀ b∈ch,(b∈X.ex ∨ X.sZ.heap.objs.size ≤ b)∧b≠X.env.locals ∧ (∀ x c,X.env.cells.lookup x=some c→c≠b)∧∀ p∈X.pn ++ pins,p.1 ≠ b) :
  Inv X pins σ H' { s with heap:=h',gens:=g',drawn:=d',toks:=t' }:=by
 obtain ⟨m,⟨o,es,ep,ho,r⟩,_⟩:=id I.loc
 obtain ⟨sl,hL⟩:=u.any ho I.free fun z=>(hch _ z).2.1 rfl
 exact I.step (ch:=ch) hch (fun b o hL hb hc e n=>u.keep b o e n (fun z=>(List.mem_cons.mp (I.stkSub b z)).elim hL hb) hc) (fun b o _ _ hc e n=>u.any e n hc) (fun b o hc e n=>u.free b o e n hc) (fun b o hc e=>u.there b o e hc) u.tups u.frzs u.tbls (fun m' hm=>by
  obtain ⟨o',es',ep',ho',r'⟩:=hm
  rw [ho] at ho';cases ho'
  exact ⟨_,es',ep',hL,r'⟩) hok hg
theorem Inv.turned {t':Nat}{it:Addr}(I:Inv X pins σ H s)(k:∀ b o,b≠it→s.heap.get? b=some o→h'.get? b=some o)(hn:H it=none)(hL:it≠X.env.locals)
  (h1:it∈X.ex ∨ X.sZ.heap.objs.size ≤ it) (h2:∀ x c,X.env.cells.lookup x=some c→c≠it) (h3:∀ p∈X.pn ++ pins,p.1 ≠ it):Inv X pins σ H { s with heap:=h',toks:=t' }:=by
 have nit:∀ b u,H b=some u→b≠it:=fun b u e z=>by rw [z,hn] at e;cases e
 refine I.step (g':=s.gens) (d':=s.drawn) (ch:=[it]) (fun b hb=>?_) (fun b o _ _ hc e _=>k b o (fun z=>hc (by simp [z])) e) (fun b o _ _ hc e _=>⟨o.slots,k b o (fun z=>hc (by simp [z])) e⟩) (fun _ _ _ _ n=>n)
  (fun b o hc e=>⟨o,k b o (fun z=>hc (by simp [z])) e⟩) (fun _ _ e=>e) (fun _ _ _ e=>e) (fun b ps e=>⟨#[],by rw [e];simp⟩) (fun m hm=>?_) (fun b u e=>?_) I.bare
 ·have e:b=it:=by simpa using hb
  subst e
  exact ⟨h1,hL,h2,h3⟩
 ·obtain ⟨o,es,ep,ho,r⟩:=hm
  exact ⟨o,es,ep,k _ o (Ne.symm hL) ho,r⟩
 ·refine (I.hok b u e).stay (fun c v hc q=>k c v ?_ q) (fun _ q=>q) fun _ _ q=>q
  rcases hc with z | z
  ·rw [z];exact nit b u e
  ·exact nit c _ z
theorem Inv.tok (I:Inv X pins σ H s)(t:Nat):Inv X pins σ H { s with toks:=t }:=I.un (h':=s.heap) (t':=t) Un.refl I.hok
theorem Inv.kept {t':Nat}(I:Inv X pins σ H s)(k:∀ b u,s.heap.get? b=some u→h'.get? b=some u):Inv X pins σ H { s with heap:=h',toks:=t' }:=I.un (Un.kept k) (I.hok.kept k)
theorem Inv.laid {a:Addr}{o:HO}{t':Nat}(I:Inv X pins σ H s)(k:∀ b u,s.heap.get? b=some u→h'.get? b=some u)(hp:s.heap.objs.size ≤ a)(new:ObjOk X.prog X.w (upd H a o) h' a o) :
  Inv X pins σ (upd H a o) { s with heap:=h',toks:=t' }:=I.un (Un.laid k hp (I.hok.fresh hp)) (I.hok.laid k hp new)
theorem Inv.write {x e:Addr}{o:HO}{t':Nat}(I:Inv X pins σ H s)(mu:Mut (H x))(he:e=x ∨ H e=some (.own x))(k:∀ b u,b≠e→s.heap.get? b=some u→h'.get? b=some u)(heo:∃ u,h'.get? e=some u)
  (new:ObjOk X.prog X.w (upd H x o) h' x o):Inv X pins σ (upd H x o) { s with heap:=h',toks:=t' }:=I.un (Un.write mu he k heo) (I.hok.write mu he k heo new)
theorem Inv.weak {σ':List (Option V)}(I:Inv X pins σ H s)(hl:σ'.length=σ.length)(w:∀ (i:Nat) v,σ'[i]? = some (some v)→σ[i]? = some (some v)):Inv X pins σ' H s :=
 ⟨I.ok,I.os,I.bare,I.base,let ⟨m,hn,hl'⟩:=I.loc;⟨m,hn,fun i x v e1 e2 e3=>hl' i x v e1 (w i v e2) e3⟩,I.cell,I.free,I.freeC,I.pin,I.hok,hl.trans I.len⟩
theorem Inv.pins_of {pins':List (Addr × Obj)}(I:Inv X pins σ H s)(h:∀ p∈pins',s.heap.get? p.1=some p.2 ∧ H p.1=none∧p.1 ≠ X.env.locals ∧ p.1 ∉ X.fs ∧ ∀ v,p.2.data ≠ .cell v):Inv X pins' σ H s :=
 ⟨I.ok,I.os,I.bare,I.base,I.loc,I.cell,I.free,I.freeC,fun p hp=>(List.mem_append.mp hp).elim (fun z=>I.pin p (List.mem_append_left _ z)) (h p),I.hok,I.len⟩
theorem nodup_ix {N:List Str}(hN:N.Nodup){i j:Nat}{x:Str}(a:N[i]? = some x)(b:N[j]? = some x):i=j:=by
 obtain ⟨h1,e1⟩:=List.getElem?_eq_some_iff.mp a
 obtain ⟨h2,e2⟩:=List.getElem?_eq_some_iff.mp b
 exact (List.getElem_inj hN).mp (e1.trans e2.symm)
theorem store_ok2 {M:Model}{A:Around}{E:Value→Shared→Prop}{i:Nat}{x:Str}{v:V}{u:Value}{Q:Unit→Shared→Prop}(I:Inv X pins σ H s)(hN:X.N.Nodup)(hi:X.N[i]? = some x)(hx:Loc X.env.scope x)(r:RelV v u)
  (h:∀ s',Inv X pins (σ.set i (some v)) H s'→(∃ a,Heap.SameBut a s.heap s'.heap ∧ (a=X.env.locals ∨ X.env.cells.lookup x=some a))→Q () s') (hf:X.fn x=true ∨ X.env.scope.names.lookup x=some .local:=by first | exact .inl rfl | exact .inr rfl | assumption):wpAny M A (storeName X.env x u) Q E s:=by
 obtain ⟨m,hn,hl⟩:=id I.loc
 have hcls:(X.env.scope.kind == .class || (X.env.scope.kind == .module && X.env.locals != X.env.globals))=false:=by rw [I.ok.kind];rfl
 have hiσ:i < σ.length:=by rw [I.len];exact (List.getElem?_eq_some_iff.mp hi).1
 have cne:=I.cne
 have tracked:∀ {a:Addr} {h':Heap},(∃ o,s.heap.get? a=some o∧H a=none)→Heap.SameBut a s.heap h'→HOk X.prog X.w H h':=fun {a h'} ha hs b ob e=>by
  obtain ⟨_,_,hfree⟩:=ha
  refine (I.hok b ob e).stay (fun c w' hc q=>(hs.2 c ?_).trans q) (fun _ q=>q) fun _ _ q=>q
  rintro rfl
  rcases hc with rfl | hc
  ·rw [hfree] at e;cases e
  ·rw [hfree] at hc;cases hc
 rcases hx with hk | hk
 ·refine wpAny_storeName_local hk hn (fun h' hn' hs=>?_) hcls
  obtain ⟨oL,_,_,hoL,_⟩:=id hn
  refine h _ ⟨I.ok,I.os,I.bare,⟨fun b o e n hb hx=>?_,fun b o e n hb hx=>?_,I.base.free,fun b o e hx=>?_,I.base.tups,I.base.frzs,I.base.tbls⟩,⟨_,hn',fun j y v' e1 e2 e3=>?_⟩,fun y c e=>?_,I.free,I.freeC,fun p hp=>?_,tracked ⟨oL,hoL,I.free⟩ hs,by simpa using I.len⟩ ⟨_,hs,.inl rfl⟩
  ·exact (hs.2 b (Nat.ne_of_lt (Nat.lt_of_lt_of_le (Heap.lt_size e) I.ok.above))).trans (I.base.keep b o e n hb hx)
  ·obtain ⟨sl,e1⟩:=I.base.slot b o e n hb hx
   exact ⟨sl,(hs.2 b (Nat.ne_of_lt (Nat.lt_of_lt_of_le (Heap.lt_size e) I.ok.above))).trans e1⟩
  ·obtain ⟨o',e1⟩:=I.base.there b o e hx
   exact ⟨o',(hs.2 b (Nat.ne_of_lt (Nat.lt_of_lt_of_le (Heap.lt_size e) I.ok.above))).trans e1⟩
  ·by_cases hj:j=i
   ·subst hj
    rw [hi] at e1;cases e1
    rw [List.getElem?_set_self hiσ] at e2
    cases e2
    exact ⟨u,r,.inl ⟨hk,by simp⟩⟩
   ·rw [List.getElem?_set_ne (Ne.symm hj)] at e2
    obtain ⟨u',r',q⟩:=hl j y v' e1 e2 e3
    refine ⟨u',r',?_⟩
    rcases q with ⟨k,e⟩ | ⟨k,c,e,z⟩
    ·refine .inl ⟨k,?_⟩
     have:y≠x:=fun e=>hj (nodup_ix hN e1 (e ▸ hi))
     simp [this,e]
    ·exact .inr ⟨k,c,e,z.sameBut hs (cne y c e)⟩
  ·obtain ⟨w',z⟩:=I.cell y c e
   exact ⟨w',z.sameBut hs (cne y c e)⟩
  ·obtain ⟨e,n,ne,nf,d⟩:=I.pin p hp
   exact ⟨(hs.2 p.1 ne).trans e,n,ne,nf,d⟩
 ·have hfn:X.fn x=true:=by
   rcases hf with z | z
   ·exact z
   ·rw [z] at hk;cases hk
  obtain ⟨c,hc⟩:=I.ok.has x (.inl hk)
  obtain ⟨w',z⟩:=I.cell x c hc
  refine wpAny_storeName_cell I.ok.kind hk hc z (fun h' hc' hs=>?_)
  obtain ⟨oc,hoc,hocd⟩:=id z
  refine h { s with heap:=h' } ⟨I.ok,I.os,I.bare,⟨fun b o e n hb hx=>?_,fun b o e n hb hx=>?_,I.base.free,fun b o e hx=>?_,I.base.tups,I.base.frzs,I.base.tbls⟩,⟨m,hn.sameBut hs (Ne.symm (cne x c hc)),fun j y v' e1 e2 e3=>?_⟩,fun y c' e=>?_,I.free,I.freeC,fun p hp=>?_,tracked ⟨oc,hoc,I.freeC x c hc⟩ hs,by simpa using I.len⟩ ⟨c,hs,.inr hc⟩
  ·exact (hs.2 b (Nat.ne_of_lt (Nat.lt_of_lt_of_le (Heap.lt_size e) (I.ok.cab x c hfn hc)))).trans (I.base.keep b o e n hb hx)
  ·obtain ⟨sl,e1⟩:=I.base.slot b o e n hb hx
   exact ⟨sl,(hs.2 b (Nat.ne_of_lt (Nat.lt_of_lt_of_le (Heap.lt_size e) (I.ok.cab x c hfn hc)))).trans e1⟩
  ·obtain ⟨o',e1⟩:=I.base.there b o e hx
   exact ⟨o',(hs.2 b (Nat.ne_of_lt (Nat.lt_of_lt_of_le (Heap.lt_size e) (I.ok.cab x c hfn hc)))).trans e1⟩
  ·by_cases hj:j=i
   ·subst hj
    rw [hi] at e1;cases e1
    rw [List.getElem?_set_self hiσ] at e2
    cases e2
    exact ⟨u,r,.inr ⟨.inl hk,c,hc,hc'⟩⟩
   ·rw [List.getElem?_set_ne (Ne.symm hj)] at e2
    obtain ⟨u',r',q⟩:=hl j y v' e1 e2 e3
    refine ⟨u',r',?_⟩
    rcases q with q | ⟨k,c',e,z'⟩
    ·exact .inl q
    ·refine .inr ⟨k,c',e,z'.sameBut hs ?_⟩
     rintro rfl
     exact hj (nodup_ix hN e1 (I.ok.inj _ _ _ e hc ▸ hi))
  ·by_cases hcc:c'=c
   ·subst hcc;exact ⟨_,hc'⟩
   ·obtain ⟨w2,z2⟩:=I.cell y c' e
    exact ⟨w2,z2.sameBut hs hcc⟩
  ·obtain ⟨e,n,ne,nf,d⟩:=I.pin p hp
   refine ⟨(hs.2 p.1 ?_).trans e,n,ne,nf,d⟩
   intro q
   rw [q,hoc] at e
   have q':oc=p.2:=Option.some.inj e
   exact d w' (by rw [← q'];exact hocd)
theorem store_ok {M:Model}{A:Around}{E:Value→Shared→Prop}{i:Nat}{x:Str}{v:V}{u:Value}{Q:Unit→Shared→Prop}(I:Inv X pins σ H s)(hN:X.N.Nodup)(hi:X.N[i]? = some x)(hx:Loc X.env.scope x)(r:RelV v u)
  (h:∀ s',Inv X pins (σ.set i (some v)) H s'→Q () s') (hf:X.fn x=true ∨ X.env.scope.names.lookup x=some .local:=by first | exact .inl rfl | exact .inr rfl | assumption):wpAny M A (storeName X.env x u) Q E s :=
 store_ok2 I hN hi hx r (fun s' I' _=>h s' I') hf
theorem Inv.call' {s':Shared}{ch:List Addr}(I:Inv X pins σ H s)(ho:s'.os=s.os)(u:Un (frs X.stack) ch H H' s.heap s'.heap)(hok:HOk X.prog X.w H' s'.heap)(hg:AllBare s'.gens)
  (hch:∀ b∈ch,(b∈X.ex ∨ X.sZ.heap.objs.size ≤ b)∧b≠X.env.locals ∧ (∀ x c,X.env.cells.lookup x=some c→c≠b)∧∀ p∈X.pn ++ pins,p.1 ≠ b):Inv X pins σ H' s':=by
 obtain ⟨h',g',d',t',o'⟩:=s'
 have e:o'=s.os:=ho
 subst e
 exact I.call (g':=g') (t':=t') (d':=d') u hok hg hch
end
abbrev XK:=Value→Option Addr→Hp→Prop
abbrev St:=List (Option V)
abbrev VK:=V→Hp→Prop
abbrev TE:=St→Hp→VK→Prop
abbrev TT:=St→Hp→(Bool→Hp→Prop)→Prop
abbrev TA:=St→Hp→(List V→Hp→Prop)→Prop
structure Ends where
 nx:St→Hp→Prop
 rt:VK
 bk:St→Hp→Prop:=fun _ _=>False
 ct:St→Hp→Prop:=fun _ _=>False
abbrev TS:=Ends→St→Hp→Prop
def EP (X:Cx)(pins:List (Addr × Obj))(σ:St)(Q:VK)(u:Value)(s':Shared):Prop:=∃ v H',Inv X pins σ H' s'∧RelV v u∧Q v H'
def TP (X:Cx)(pins:List (Addr × Obj))(σ:St)(Q:Bool→Hp→Prop)(b:Bool)(s':Shared):Prop:=∃ H',Inv X pins σ H' s'∧Q b H'
def AP (X:Cx)(pins:List (Addr × Obj))(σ:St)(Q:List V→Hp→Prop)(us:List Value)(s':Shared):Prop:=∃ vs H',Inv X pins σ H' s'∧Vals vs us∧Q vs H'
def SP (X:Cx)(pins:List (Addr × Obj))(D:Ends)(f:Flow)(s':Shared):Prop :=
 match f with
 | .next=>∃ σ' H',Inv X pins σ' H' s'∧D.nx σ' H'
 | .brk=>∃ σ' H',Inv X pins σ' H' s'∧D.bk σ' H'
 | .cont=>∃ σ' H',Inv X pins σ' H' s'∧D.ct σ' H'
 | .ret u=>∃ v σ' H',Inv X pins σ' H' s'∧RelV v u∧D.rt v H'
def PE (X:Cx)(e:Expr)(t:TE):Prop :=
 ∀ (pins:List (Addr × Obj)) (s:Shared) (σ:St) (H:Hp) (Q:VK),Inv X pins σ H s→t σ H Q→wpAny (model X.prog X.w) X.A (eval e X.env) (EP X pins σ Q) X.xe s
def PT (X:Cx)(e:Expr)(t:TT):Prop :=
 ∀ (pins:List (Addr × Obj)) (s:Shared) (σ:St) (H:Hp) (Q:Bool→Hp→Prop),Inv X pins σ H s→t σ H Q→wpAny (model X.prog X.w) X.A (isTrue e X.env (eval e X.env)) (TP X pins σ Q) X.xe s
def PW (X:Cx)(e:Expr)(t:TT):Prop :=
 ∀ (whole:Sem Value) (pins:List (Addr × Obj)) (s:Shared) (σ:St) (H:Hp) (Q:Bool→Hp→Prop),Inv X pins σ H s→t σ H Q→wpAny (model X.prog X.w) X.A (isTrue e X.env whole) (TP X pins σ Q) X.xe s
theorem PW.pt {X:Cx}{e:Expr}{t:TT}(h:PW X e t):PT X e t:=h _
def PA (X:Cx)(es:List Expr)(t:TA):Prop :=
 ∀ (pos:Pos) (pins:List (Addr × Obj)) (s:Shared) (σ:St) (H:Hp) (Q:List V→Hp→Prop),Inv X pins σ H s→t σ H Q→wpAny (model X.prog X.w) X.A (spliced (backTo pos (starEach es X.env))) (AP X pins σ Q) X.xe s
def PS (X:Cx)(st:Stmt)(t:TS):Prop :=
 ∀ (pins:List (Addr × Obj)) (s:Shared) (σ:St) (H:Hp) (D:Ends),Inv X pins σ H s→t D σ H→wpAny (model X.prog X.w) X.A (exec st X.env) (SP X pins D) X.xe s
def PSs (X:Cx)(st:List Stmt)(t:TS):Prop :=
 ∀ (pins:List (Addr × Obj)) (s:Shared) (σ:St) (H:Hp) (D:Ends),Inv X pins σ H s→t D σ H→wpAny (model X.prog X.w) X.A (execs st X.env) (SP X pins D) X.xe s
theorem thn {α:Type}{t:Sem α}{Q Q':α→Shared→Prop}{M:Model}{A:Around}{E:Value→Shared→Prop}{s:Shared}(h:wpAny M A t Q E s)(hQ:∀ a s,Q a s→Q' a s):wpAny M A t Q' E s:=wpAny_mono h hQ fun _ _ x=>x
end L2
namespace L2
open PySem PySem.Spec PyProof.Rows
section
variable {X:Cx}
theorem bin {a b:Expr}{ta tb:TE}(ha:PE X a ta)(hb:PE X b tb){pins:List (Addr × Obj)}{s:Shared}{σ:St}{H:Hp}{R:V→V→Hp→Prop}(I:Inv X pins σ H s)(h:ta σ H fun x H1=>tb σ H1 fun y H2=>R x y H2)
  {α:Type} {Q:α→Shared→Prop} {f:Value→Value→Sem α}
  (hf:∀ v u s2 x y H2,Inv X pins σ H2 s2→RelV x v→RelV y u→R x y H2→wpAny (model X.prog X.w) X.A (f v u) Q X.xe s2) :
  wpAny (model X.prog X.w) X.A (eval a X.env) (fun v s₁=>wpAny (model X.prog X.w) X.A (eval b X.env) (fun u s₂=>wpAny (model X.prog X.w) X.A (f v u) Q X.xe s₂) X.xe s₁) X.xe s:=by
 refine thn (ha pins s σ H _ I h) fun v s1 ⟨x,H1,I1,r1,q1⟩=>?_
 refine thn (hb pins s1 σ H1 _ I1 q1) fun u s2 ⟨y,H2,I2,r2,q2⟩=>?_
 exact hf v u s2 x y H2 I2 r1 r2 q2
def tVar (i:Nat):TE:=fun σ H Q=>∃ v,σ[i]? = some (some v)∧Q v H
def tC (v:V):TE:=fun _ H Q=>Q v H
theorem pe_var {i:Nat} {x:Str} {pos:Pos} (hN:X.N[i]? = some x) (hv:Vis X.env.scope x) (hd:(x == ("__debug__" : Str))=false:=by decide) (hcd:(x == ("__classdict__" : Str))=false:=by decide):PE X (.Name x pos) (tVar i):=by
 intro pins s σ H Q I h
 obtain ⟨v,e,h⟩:=h
 obtain ⟨m,hn,hl⟩:=I.loc
 obtain ⟨u,r,l⟩:=hl i x v hN e hv
 have fin:EP X pins σ Q u s:=⟨v,H,I,r,h⟩
 rcases l with ⟨hk,hm⟩ | ⟨hk,c,hc,hcell⟩
 ·exact wpAny_Name (wpAny_loadName_local I.ok.kind hk hn hm fin) hd
 ·rcases hk with hk | hk
  ·exact wpAny_Name (wpAny_loadName_cell I.ok.kind hk hc hcell fin) hd
  ·exact wpAny_Name (wpAny_loadName_free I.ok.kind hk hc hcell fin hcd) hd
theorem pe_int {i j pos}:PE X (.Constant (.int i) j pos) (tC (.int i)):=fun _ _ _ H _ I h=>wpAny_Constant_int ⟨.int i,H,I.tok _,⟨_,rfl⟩,h⟩
theorem pe_bl {b j pos}:PE X (.Constant (.bool b) j pos) (tC (.bl b)):=fun _ _ _ H _ I h=>Constant_bool ⟨.bl b,H,I,rfl,h⟩
theorem pe_non {j pos}:PE X (.Constant .none j pos) (tC .non):=fun _ _ _ H _ I h=>Constant_none ⟨.non,H,I,rfl,h⟩
theorem pe_str {x j pos}:PE X (.Constant (.str x) j pos) (tC (.str x)):=fun _ _ _ H _ I h=>Calls.Constant_str ⟨.str x,H,I.tok _,⟨_,rfl⟩,h⟩
def Gl (X:Cx)(x:Str):Prop:=X.env.kindOf x=some .globalImplicit
theorem ld_glob {E:Value→Shared→Prop}{pins:List (Addr × Obj)}{s:Shared}{σ:St}{H:Hp}{x:Str}{u:Value}{pos:Pos}{Q:Value→Shared→Prop}(I:Inv X pins σ H s)(hg:Gl X x)(hm:X.mg x=some u)(h:Q u s)
  (hd:(x == ("__debug__" : Str))=false:=by decide):wpAny (model X.prog X.w) X.A (eval (.Name x pos) X.env) Q E s :=
 Calls.Name_function_global I.ok.kind hg (Calls.loadGlobal_global (by rw [I.ok.glob];exact I.mod.glob.keeps I.bk) hm h) hd
theorem ld_blt {E:Value→Shared→Prop}{pins:List (Addr × Obj)}{s:Shared}{σ:St}{H:Hp}{x:Str}{u:Value}{pos:Pos}{Q:Value→Shared→Prop}(I:Inv X pins σ H s)(hg:Gl X x)(hm:X.mg x=none)(hv:bootBuiltins x=some u)(h:Q u s)
  (hn:x ≠ "__name__":=by decide) (hd:(x == ("__debug__" : Str))=false:=by decide):wpAny (model X.prog X.w) X.A (eval (.Name x pos) X.env) Q E s:=by
 obtain ⟨mb,h1,h2⟩:=I.mod.blt
 exact Calls.Name_function_global I.ok.kind hg (Calls.loadGlobal_builtin (by rw [I.ok.glob];exact I.mod.glob.keeps I.bk) hm (by rw [I.ok.blt];exact h1.keeps I.bk) ((h2 x hn).trans hv) h) hd
theorem pe_glob {x:Str} {v:V} {u:Value} {pos:Pos} (hg:Gl X x) (hm:X.mg x=some u) (r:RelV v u) (hd:(x == ("__debug__" : Str))=false:=by decide):PE X (.Name x pos) (tC v) :=
 fun _ _ _ H _ I h=>ld_glob I hg hm ⟨v,H,I,r,h⟩ hd
theorem pe_bltn {x:Str} {v:V} {u:Value} {pos:Pos} (hg:Gl X x) (hm:X.mg x=none) (hv:bootBuiltins x=some u) (r:RelV v u) (hn:x ≠ "__name__":=by decide) (hd:(x == ("__debug__" : Str))=false:=by decide):PE X (.Name x pos) (tC v) :=
 fun _ _ _ H _ I h=>ld_blt I hg hm hv ⟨v,H,I,r,h⟩ hn hd
variable {a b:Expr}{ta tb:TE}{pos:Pos}
def PC (X:Cx)(op:CmpOp)(a b:Expr)(t:TE):Prop :=
 ∀ (pins:List (Addr × Obj)) (s:Shared) (σ:St) (H:Hp) (Q:VK),Inv X pins σ H s→t σ H Q →
  wpAny (model X.prog X.w) X.A (eval a X.env) (fun v s₁=>wpAny (model X.prog X.w) X.A (eval b X.env) (fun u s₂=>wpAny (model X.prog X.w) X.A (compareOp op v u) (EP X pins σ Q) X.xe s₂) X.xe s₁) X.xe s
def tB (t:TE):TT:=fun σ H Q=>t σ H fun x H1=>∃ c,x = .bl c∧Q c H1
theorem pt_cmp {op:CmpOp}{t:TE}(h:PC X op a b t)(h1:behindInMarks op b=false:=by first | exact nobehind _ (by decide) (by decide) | rfl):PT X (.Compare a [op] [b] pos) (tB t):=by
 intro pins s σ H Q I hw
 refine wpAny_isTrue_Compare1 (thn (h pins s σ H _ I hw) fun v s1 h1=>thn h1 fun u s2 h2=>thn h2 fun c s3 ⟨x,H1,I1,r1,q1⟩=>?_) h1
 obtain ⟨d,rfl,q⟩:=q1
 cases r1
 exact wpAny_truthy_bool ⟨H1,I1,q⟩
theorem pt_val {e:Expr}{t:TE}(h:PE X e t)(he:∀ whole,isTrue e X.env whole=(do let v ← whole;standAt e.pos;holding [v] (truthy v)):=by intro _;rfl):PT X e (tB t):=by
 intro pins s σ H Q I hw
 refine isTrue_plain (thn (h pins s σ H _ I hw) fun v s1 ⟨x,H1,I1,r1,q1⟩=>?_) (he _)
 obtain ⟨d,rfl,q⟩:=q1
 cases r1
 exact wpAny_truthy_bool ⟨H1,I1,q⟩
variable {tA tB':TT}{rest:List Expr}
def tAnd (t u:TT):TT:=fun σ H Q=>t σ H fun c H1=>if c=true then u σ H1 Q else Q false H1
def tOr (t u:TT):TT:=fun σ H Q=>t σ H fun c H1=>if c=true then Q true H1 else u σ H1 Q
def tNot (t:TT):TT:=fun σ H Q=>t σ H fun c H1=>Q (!c) H1
theorem pw_and1 (ha:PT X a tA):PW X (.BoolOp .And [a] pos) tA:=by
 intro wh pins s σ H Q I h
 refine isTrue_and (thn (ha pins s σ H Q I h) fun c s1 e=>?_)
 cases c with
 | true=>exact isTrue_and_nil e
 | false=>exact e
theorem pw_or1 (ha:PT X a tA):PW X (.BoolOp .Or [a] pos) tA:=by
 intro wh pins s σ H Q I h
 refine isTrue_or (thn (ha pins s σ H Q I h) fun c s1 e=>?_)
 cases c with
 | false=>exact isTrue_or_nil e
 | true=>exact e
theorem pw_and (ha:PT X a tA)(hb:PW X (.BoolOp .And (b :: rest) pos) tB'):PW X (.BoolOp .And (a :: b :: rest) pos) (tAnd tA tB'):=by
 intro wh pins s σ H Q I h
 refine isTrue_and (thn (ha pins s σ H _ I h) fun c s1 ⟨H1,I1,q1⟩=>?_)
 cases c with
 | true=>exact hb wh pins s1 σ H1 Q I1 q1
 | false=>exact ⟨H1,I1,q1⟩
theorem pw_or (ha:PT X a tA)(hb:PW X (.BoolOp .Or (b :: rest) pos) tB'):PW X (.BoolOp .Or (a :: b :: rest) pos) (tOr tA tB'):=by
 intro wh pins s σ H Q I h
 refine isTrue_or (thn (ha pins s σ H _ I h) fun c s1 ⟨H1,I1,q1⟩=>?_)
 cases c with
 | true=>exact ⟨H1,I1,q1⟩
 | false=>exact hb wh pins s1 σ H1 Q I1 q1
theorem pt_not (ha:PT X a tA):PT X (.UnaryOp .Not a pos) (tNot tA):=by
 intro pins s σ H Q I h
 exact isTrue_not (ha pins s σ H (fun c H1=>Q (!c) H1) I h)
def tAndV (ta tb:TE):TE:=fun σ H Q=>ta σ H fun x H1=>∃ c,x = .bl c∧if c=true then tb σ H1 Q else Q (.bl false) H1
def tOrV (ta tb:TE):TE:=fun σ H Q=>ta σ H fun x H1=>∃ c,x = .bl c∧if c=true then Q (.bl true) H1 else tb σ H1 Q
theorem pe_one {op}{t:TE}(h:PE X a t):PE X (.BoolOp op [a] pos) t:=fun pins s σ H Q I hw=>BoolOp_one (h pins s σ H Q I hw)
theorem pe_and (ha:PE X a ta)(hb:PE X (.BoolOp .And (b :: rest) pos) tb):PE X (.BoolOp .And (a :: b :: rest) pos) (tAndV ta tb):=by
 intro pins s σ H Q I h
 refine BoolOp_and (thn (ha pins s σ H _ I h) fun v s1 ⟨x,H1,I1,r1,q1⟩=>?_)
 obtain ⟨c,rfl,q1⟩:=q1
 cases r1
 refine wpAny_truthy_bool ?_
 cases c with
 | true=>exact hb pins s1 σ H1 Q I1 q1
 | false=>exact ⟨.bl false,H1,I1,rfl,q1⟩
theorem pe_or (ha:PE X a ta)(hb:PE X (.BoolOp .Or (b :: rest) pos) tb):PE X (.BoolOp .Or (a :: b :: rest) pos) (tOrV ta tb):=by
 intro pins s σ H Q I h
 refine BoolOp_or (thn (ha pins s σ H _ I h) fun v s1 ⟨x,H1,I1,r1,q1⟩=>?_)
 obtain ⟨c,rfl,q1⟩:=q1
 cases r1
 refine wpAny_truthy_bool ?_
 cases c with
 | false=>exact hb pins s1 σ H1 Q I1 q1
 | true=>exact ⟨.bl true,H1,I1,rfl,q1⟩
def tIf (t:TT)(ta tb:TE):TE:=fun σ H Q=>t σ H fun c H1=>if c=true then ta σ H1 Q else tb σ H1 Q
theorem pe_ifExp {c:Expr}(hc:PT X c tA)(ha:PE X a ta)(hb:PE X b tb):PE X (.IfExp c a b pos) (tIf tA ta tb):=by
 intro pins s σ H Q I h
 refine wpAny_IfExp (thn (hc pins s σ H _ I h) fun d s1 ⟨H1,I1,q1⟩=>?_)
 cases d with
 | true=>exact ha pins s1 σ H1 Q I1 q1
 | false=>exact hb pins s1 σ H1 Q I1 q1
end
end L2
namespace L2
open PySem PySem.Spec PyProof.Rows
def SqL (K:PySem.W.Frag)(H:Hp)(a:Addr)(xs:List V):Prop :=
 Rd H a (.lst xs) ∨
  ∃ (o:Obj) (its:Array Value) (n:Nat),K.lookup a=some o∧o.cls = .type "list"∧o.dict=none∧o.data = .seq its n∧its.size ≤ sizeLine∧Vals xs its.toList
def SqT (K:PySem.W.Frag)(H:Hp)(a:Addr)(xs:List V):Prop :=
 Rd H a (.tup xs) ∨
  ∃ (o:Obj) (its:Array Value) (n:Nat),K.lookup a=some o∧o.cls = .type "tuple"∧o.data = .seq its n∧its.size ≤ sizeLine∧Vals xs its.toList
def absV:Value→Option V
 | .none=>some .non
 | .bool b=>some (.bl b)
 | .int i _=>some (.int i)
 | .str x _=>some (.str x)
 | .bytes b _=>some (.byt b)
 | .float b _=>some (.flt b)
 | .ref a=>some (.ref a)
 | .type n=>some (.ty n)
 | _=>none
theorem RelV.abs {x:V}{u:Value}(r:RelV x u):absV u=some x:=by
 cases x with
 | non=>cases r;rfl
 | bl _=>cases r;rfl
 | int _=>obtain ⟨t,rfl⟩:=r;rfl
 | str _=>obtain ⟨t,rfl⟩:=r;rfl
 | byt _=>obtain ⟨t,rfl⟩:=r;rfl
 | flt _=>obtain ⟨t,rfl⟩:=r;rfl
 | ref _=>cases r;rfl
 | ty _=>cases r;rfl
theorem RelV.inj {x y:V}{u:Value}(r:RelV x u)(q:RelV y u):x=y:=Option.some.inj (r.abs.symm.trans q.abs)
theorem Vals.inj:∀ {xs ys:List V} {us:List Value},Vals xs us→Vals ys us→xs=ys
 | _,_,_,.nil,.nil=>rfl
 | _,_,_,.cons r t,.cons r' t'=>by rw [r.inj r',Vals.inj t t']
section
variable {X:Cx}{pins:List (Addr × Obj)}{σ:St}{H:Hp}{s:Shared}{a:Addr}{xs ys:List V}
theorem SqL.of {K:PySem.W.Frag}(h:H a=some (.lst xs)):SqL K H a xs:=.inl (.inl h)
theorem SqT.of {K:PySem.W.Frag}(h:H a=some (.tup xs)):SqT K H a xs:=.inl (.inl h)
theorem Inv.list (I:Inv X pins σ H s)(h:SqL X.K H a xs):∃ its:List Value,Vals xs its∧PlainL s.heap a its.toArray ∧ xs.length ≤ sizeLine:=by
 rcases h with h | ⟨o,its,n,hk,hc,hd,hs,hz,r⟩
 ·obtain ⟨z,its,n,r,e⟩:=h.ok I.hok
  exact ⟨its,r,⟨_,n,e,rfl,rfl,rfl⟩,z⟩
 ·refine ⟨its.toList,r,⟨o,n,I.kIn a o hk,hc,hd,by simpa using hs⟩,?_⟩
  have e:=r.length
  simp only [Array.length_toList] at e
  omega
theorem Inv.tuple (I:Inv X pins σ H s)(h:SqT X.K H a xs):∃ its:List Value,Vals xs its∧IsTup s.heap a its.toArray ∧ xs.length ≤ sizeLine:=by
 rcases h with h | ⟨o,its,n,hk,hc,hs,hz,r⟩
 ·obtain ⟨z,its,r,p⟩:=h.ok I.hok
  exact ⟨its,r,p,z⟩
 ·refine ⟨its.toList,r,⟨o,I.kIn a o hk,hc,n,by simpa using hs⟩,?_⟩
  have e:=r.length
  simp only [Array.length_toList] at e
  omega
theorem Inv.list_inj (I:Inv X pins σ H s)(h:SqL X.K H a xs)(h':SqL X.K H a ys):xs=ys:=by
 obtain ⟨its,r,⟨o,n,e,_,_,d⟩,_⟩:=I.list h
 obtain ⟨its',r',⟨o',n',e',_,_,d'⟩,_⟩:=I.list h'
 rw [e] at e';cases e'
 rw [d] at d'
 injection d' with d1 _
 have:its=its':=by simpa using congrArg Array.toList d1
 subst this
 exact r.inj r'
theorem Inv.tuple_inj (I:Inv X pins σ H s)(h:SqT X.K H a xs)(h':SqT X.K H a ys):xs=ys:=by
 obtain ⟨its,r,⟨o,e,_,n,d⟩,_⟩:=I.tuple h
 obtain ⟨its',r',⟨o',e',_,n',d'⟩,_⟩:=I.tuple h'
 rw [e] at e';cases e'
 rw [d] at d'
 injection d' with d1 _
 have:its=its':=by simpa using congrArg Array.toList d1
 subst this
 exact r.inj r'
end
abbrev Cx.wish (X:Cx)(E:Value→Shared→Prop):Cx:={ X with xe:=E }
abbrev Cx.nox (X:Cx):Cx:=X.wish fun _ _=>False
theorem Cx.Ok.wish {X:Cx}(ok:X.Ok)(E:Value→Shared→Prop):(X.wish E).Ok :=
 ⟨ok.mod,ok.kind,ok.glob,ok.blt,ok.above,ok.inj,ok.has,ok.cab,ok.hd,ok.frames,ok.stk,ok.exf,ok.bs,ok.bsz,ok.noex,ok.exfs,ok.funs,ok.frf⟩
theorem Cx.Ok.unwish {X:Cx}{E:Value→Shared→Prop}(ok:(X.wish E).Ok):X.Ok :=
 ⟨ok.mod,ok.kind,ok.glob,ok.blt,ok.above,ok.inj,ok.has,ok.cab,ok.hd,ok.frames,ok.stk,ok.exf,ok.bs,ok.bsz,ok.noex,ok.exfs,ok.funs,ok.frf⟩
section
variable {X:Cx}{pins:List (Addr × Obj)}{σ:St}{H:Hp}{s:Shared}{E:Value→Shared→Prop}
theorem Inv.wish (I:Inv X pins σ H s)(E:Value→Shared→Prop):Inv (X.wish E) pins σ H s:=⟨I.ok.wish E,I.os,I.bare,I.base,I.loc,I.cell,I.free,I.freeC,I.pin,I.hok,I.len⟩
theorem Inv.unwish (I:Inv (X.wish E) pins σ H s):Inv X pins σ H s:=⟨I.ok.unwish,I.os,I.bare,I.base,I.loc,I.cell,I.free,I.freeC,I.pin,I.hok,I.len⟩
theorem SP.unwish {D:Ends}{f:Flow}{s':Shared}(h:SP (X.wish E) pins D f s'):SP X pins D f s':=by
 cases f with
 | next=>obtain ⟨σ',H',I,q⟩:=h;exact ⟨σ',H',I.unwish,q⟩
 | brk=>obtain ⟨σ',H',I,q⟩:=h;exact ⟨σ',H',I.unwish,q⟩
 | cont=>obtain ⟨σ',H',I,q⟩:=h;exact ⟨σ',H',I.unwish,q⟩
 | ret u=>obtain ⟨v,σ',H',I,r,q⟩:=h;exact ⟨v,σ',H',I.unwish,r,q⟩
theorem PSs.nox {st:List Stmt}{t:TS}(h:PSs X.nox st t):PSs X st t:=fun pins s σ H D I hw =>
 wpAny_mono (h pins s σ H D (I.wish _) hw) (fun _ _ q=>q.unwish) fun _ _ z=>False.elim z
end
section
variable {X:Cx}{st:Stmt}{rest:List Stmt}{t u:TS}{e:Expr}{te:TE}{pos:Pos}
def tNext:TS:=fun D σ H=>D.nx σ H
def tSeq (t u:TS):TS:=fun D σ H=>t { D with nx:=u D } σ H
theorem pss_nil:PSs X [] tNext:=fun _ _ σ H _ I h=>wpAny_execs_nil ⟨σ,H,I,h⟩
theorem pss_cons (h1:PS X st t)(h2:PSs X rest u):PSs X (st :: rest) (tSeq t u):=by
 intro pins s σ H D I h
 refine wpAny_execs_cons (thn (h1 pins s σ H { D with nx:=u D } I h) fun f s1 q=>?_)
 cases f with
 | next =>
  obtain ⟨σ',H',I',q⟩:=q
  exact h2 pins s1 σ' H' D I' q
 | ret v=>exact q
 | brk=>exact q
 | cont=>exact q
theorem pss_one (h1:PS X st t):PSs X [st] t:=by
 intro pins s σ H D I h
 refine wpAny_execs_cons (thn (h1 pins s σ H D I h) fun f s1 q=>?_)
 cases f with
 | next=>exact wpAny_execs_nil q
 | ret v=>exact q
 | brk=>exact q
 | cont=>exact q
theorem Inv.quiet {pins:List (Addr × Obj)}{σ:St}{H:Hp}{s:Shared}(I:Inv X pins σ H s):interactive X.env=false:=by simp [interactive,I.ok.kind]
def tDrop (te:TE):TS:=fun D σ H=>te σ H fun _ H1=>D.nx σ H1
theorem ps_expr (he:PE X e te)(hs:swapsWith e none pos.line X.env=pure false:=by rfl):PS X (.Expr e pos) (tDrop te):=by
 intro pins s σ H D I h
 exact wpAny_Expr_any (thn (he pins s σ H _ I h) fun v s1 ⟨x,H1,I1,r1,q1⟩=>⟨σ,H1,I1,q1⟩) I.quiet hs
def tRet (te:TE):TS:=fun D σ H=>te σ H D.rt
theorem ps_ret (he:PE X e te):PS X (.Return (some e) pos) (tRet te):=by
 intro pins s σ H D I h
 exact wpAny_Return_some (thn (he pins s σ H _ I h) fun v s1 ⟨x,H1,I1,r1,q1⟩=>⟨x,σ,H1,I1,r1,q1⟩)
def tIfS (c:TT)(t u:TS):TS:=fun D σ H=>c σ H fun b H1=>if b=true then t D σ H1 else u D σ H1
theorem ps_if {c:Expr}{a b:List Stmt}{tc:TT}(hc:PT X c tc)(ha:PSs X a t)(hb:PSs X b u):PS X (.If c a b pos) (tIfS tc t u):=by
 intro pins s σ H D I h
 refine wpAny_If (thn (hc pins s σ H _ I h) fun d s1 ⟨H1,I1,q1⟩=>?_)
 cases d with
 | true=>exact ha pins s1 σ H1 D I1 q1
 | false=>exact hb pins s1 σ H1 D I1 q1
def tNever:TS:=fun _ _ _=>False
theorem ps_never:PS X st tNever:=fun _ _ _ _ _ _ h=>h.elim
end
abbrev TG:=V→St→Hp→(St→Hp→Prop)→Prop
abbrev TGs:=List V→St→Hp→(St→Hp→Prop)→Prop
def PG (X:Cx)(target:Expr)(t:TG):Prop :=
 ∀ (pins:List (Addr × Obj)) (s:Shared) (σ:St) (H:Hp) (v:V) (u:Value) (Q:St→Hp→Prop),Inv X pins σ H s→RelV v u→t v σ H Q →
  wpAny (model X.prog X.w) X.A (assign target X.env u) (fun _ s'=>∃ σ' H',Inv X pins σ' H' s'∧Q σ' H') X.xe s
def PGs (X:Cx)(ts:List Expr)(t:TGs):Prop :=
 ∀ (pins:List (Addr × Obj)) (s:Shared) (σ:St) (H:Hp) (vs:List V) (us:List Value) (Q:St→Hp→Prop),Inv X pins σ H s→Vals vs us→t vs σ H Q →
  wpAny (model X.prog X.w) X.A (assignInOrder ((assignEach ts X.env).map (·.2)) us) (fun _ s'=>∃ σ' H',Inv X pins σ' H' s'∧Q σ' H') X.xe s
abbrev TSet:=V→V→V→Hp→(Hp→Prop)→Prop
def PSet (X:Cx)(t:TSet):Prop :=
 ∀ (pins:List (Addr × Obj)) (s:Shared) (σ:St) (H:Hp) (o i v:V) (ov iv u:Value) (Q:Hp→Prop),Inv X pins σ H s→RelV o ov→RelV i iv→RelV v u→t o i v H Q →
  wpAny (model X.prog X.w) X.A (setItem ov iv u) (fun _ s'=>∃ H',Inv X pins σ H' s'∧Q H') X.xe s
section
variable {X:Cx}{pos:Pos}
def gName (i:Nat):TG:=fun v σ H Q=>Q (σ.set i (some v)) H
theorem pg_name {i:Nat}{x:Str}(hN:X.N.Nodup)(hi:X.N[i]? = some x)(hx:Loc X.env.scope x)(hf:X.fn x=true ∨ X.env.scope.names.lookup x=some .local:=by first | exact .inl rfl | exact .inr rfl | assumption):PG X (.Name x pos) (gName i):=by
 intro pins s σ H v u Q I r h
 exact wpAny_assign_Name (store_ok I hN hi hx r (fun s' I'=>⟨_,H,I',h⟩) hf)
def gNil:TGs:=fun vs σ H Q=>vs=[]∧Q σ H
def gCons (t:TG)(u:TGs):TGs:=fun vs σ H Q=>∃ v r,vs=v :: r∧t v σ H fun σ' H'=>u r σ' H' Q
theorem pgs_nil:PGs X [] gNil:=by
 intro pins s σ H vs us Q I r h
 obtain ⟨e,h⟩:=h
 subst e
 cases r
 exact assignInOrder_nil ⟨σ,H,I,h⟩
theorem pgs_cons {e:Expr}{es:List Expr}{t:TG}{u:TGs}(h1:PG X e t)(h2:PGs X es u)
  (hs:(assignEach (e :: es) X.env).map (·.2)=assign e X.env :: (assignEach es X.env).map (·.2):=by rfl):PGs X (e :: es) (gCons t u):=by
 intro pins s σ H vs us Q I r h
 obtain ⟨v,vr,e1,h⟩:=h
 subst e1
 cases r with
 | cons r rr =>
  rw [hs]
  refine assignInOrder_cons (thn (h1 pins s σ H _ _ _ I r h) fun _ s1 ⟨σ1,H1,I1,q1⟩=>?_)
  exact h2 pins s1 σ1 H1 _ _ Q I1 rr q1
def gTup (K:PySem.W.Frag)(n:Nat)(t:TGs):TG:=fun v σ H Q=>∃ a xs,v = .ref a∧SqT K H a xs∧xs.length=n∧t xs σ H Q
theorem pg_tup {es:List Expr}{k:Nat}{t:TGs}{n:Nat}(hc:X.calm=true)(h:PGs X es t)
  (hn:(assignEach es X.env).length=n:=by rfl) (hst:(assignEach es X.env).findIdx? (·.1)=none:=by rfl):PG X (.Tuple es k pos) (gTup X.K n t):=by
 intro pins s σ H v u Q I r hw
 obtain ⟨a,xs,e1,hq,hl,hw⟩:=hw
 subst e1
 cases r
 obtain ⟨its,rv,ht,hz⟩:=I.tuple hq
 refine assign_Tuple_tuple (I.ok.hd hc) ht (by simp [hn,← hl,rv.length]) hst fun h' hx=>?_
 have I1:Inv X pins σ H { s with heap:=h' }:=I.kept (t':=s.toks) fun b o e=>hx b o (Nat.ne_of_lt (Heap.lt_size e)) e
 exact h pins _ σ H xs _ Q I1 (by simpa using rv) hw
def gSub (to ti:TE)(t:TSet):TG:=fun v σ H Q=>to σ H fun o H1=>ti σ H1 fun i H2=>t o i v H2 fun H3=>Q σ H3
theorem pg_sub {o i:Expr}{to ti:TE}{t:TSet}(ho:PE X o to)(hi:PE X i ti)(hs:PSet X t)
  (ha:∀ v,assign (.Subscript o i pos) X.env v=(do
   let ov ← holding [v] (eval o X.env)
   let iv ← holding [v,ov] (eval i X.env)
   standAt pos
   holding [v,ov,iv] (setItem ov iv v)
   release [v,ov,iv] []):=by intro _;rfl):PG X (.Subscript o i pos) (gSub to ti t):=by
 intro pins s σ H v u Q I r h
 rw [ha]
 refine wpAny_bind (wpAny_holding (thn (ho pins s σ H _ I h) fun ov s1 ⟨x,H1,I1,r1,q1⟩=>?_))
 refine wpAny_bind (wpAny_holding (thn (hi pins s1 σ H1 _ I1 q1) fun iv s2 ⟨y,H2,I2,r2,q2⟩=>?_))
 refine wpAny_bind (wpAny_standAt (wpAny_bind (wpAny_holding (thn (hs pins s2 σ H2 x y v ov iv u _ I2 r1 r2 r q2) fun _ s3 ⟨H3,I3,q3⟩=>?_))))
 exact wpAny_release ⟨σ,H3,I3,q3⟩
def tAsg (te:TE)(g:TG):TS:=fun D σ H=>te σ H fun x H1=>g x σ H1 D.nx
theorem ps_asg {tg e:Expr}{te:TE}{g:TG}(he:PE X e te)(hg:PG X tg g)(hs:swapsWithSole [tg] e pos.line X.env=pure false:=by rfl)(hw:swappedStores [tg] e X.env=pure none:=by rfl)
  (h1:(assignEach [tg] X.env).map (·.2)=[assign tg X.env]:=by rfl):PS X (.Assign [tg] e pos) (tAsg te g):=by
 intro pins s σ H D I h
 refine wpAny_Assign_stores (thn (he pins s σ H _ I h) fun v s1 ⟨x,H1,I1,r1,q1⟩=>?_) hs hw
 rw [h1]
 exact thn (hg pins s1 σ H1 x v _ I1 r1 q1) fun _ s2 q=>q
theorem ps_set {i:Nat}{x:Str}{e:Expr}{te:TE}{pos':Pos}(hN:X.N.Nodup)(hi:X.N[i]? = some x)(hx:Loc X.env.scope x)(he:PE X e te)(hs:swapsWith e (some (.Name x pos')) pos.line X.env=pure false:=by rfl)(hf:X.fn x=true ∨ X.env.scope.names.lookup x=some .local:=by first | exact .inl rfl | exact .inr rfl | assumption) :
  PS X (.Assign [.Name x pos'] e pos) (tAsg te (gName i)):=by
 intro pins s σ H D I h
 refine wpAny_Assign_Name (thn (he pins s σ H _ I h) fun v s1 ⟨y,H1,I1,r1,q1⟩=>?_) hs
 exact store_ok I1 hN hi hx r1 (fun s2 I2=>⟨_,H1,I2,q1⟩) hf
end
structure It where
 go:Nat→Hp→Prop
 yld:Nat→Hp→V→Hp→Prop
 stop:Nat→Hp→Prop
def FpOk (X:Cx)(pins:List (Addr × Obj))(H:Hp)(b:Addr):Prop :=
 H b=none∧b≠X.env.locals ∧ b ∉ X.fs ∧ (b∈X.ex ∨ X.sZ.heap.objs.size ≤ b)∧(∀ x c,X.env.cells.lookup x=some c→c≠b)∧∀ p∈X.pn ++ pins,p.1 ≠ b
theorem Inv.fpOk {X:Cx}{pins:List (Addr × Obj)}{σ:St}{H H':Hp}{s:Shared}{b:Addr}(I:Inv X pins σ H s)(hb:s.heap.objs.size ≤ b)(hn:H' b=none):FpOk X pins H' b:=by
 refine ⟨hn,Nat.ne_of_gt (Nat.lt_of_lt_of_le I.lt hb),I.nofs hb,.inr (Nat.le_trans I.sz hb),fun x c e z=>?_,fun p hp z=>?_⟩
 ·obtain ⟨v,q⟩:=I.cell x c e
  exact absurd (Nat.lt_of_lt_of_le q.lt (by rw [z];exact hb)) (Nat.lt_irrefl _)
 ·exact absurd (Nat.lt_of_lt_of_le (Heap.lt_size (I.pin p hp).1) (by rw [z];exact hb)) (Nat.lt_irrefl _)
structure Turn (P:Program)(w:World)(K:PySem.W.Frag)(tg:Expr)(J:It)(fp:List Addr)(it:Addr)(tn:Nat→Heap→Prop):Prop where
 mem:it∈fp
 obj:∀ i h,tn i h→∀ b∈fp,∃ o,h.get? b=some o∧∀ v,o.data ≠ .cell v
 keep:∀ i h h',tn i h→(∀ b∈fp,∀ o,h.get? b=some o→h'.get? b=some o)→tn i h'
 item:∀ (X:Cx),X.prog=P→X.w=w→X.K=K→X.calm=true→∀ (i:Nat) (pins:List (Addr × Obj)) (s:Shared) (σ:St) (H:Hp) (E:Value→Shared→Prop),Inv X pins σ H s→(∀ b∈fp,FpOk X pins H b)→tn i s.heap → J.go i H →
  wpAny (model P w) X.A (pyNext (.ref it)) (fun r s1=>∃ u,r=some u ∧
   wpAny (model P w) X.A (letOwnedTupleGo tg (.ref it) u) (fun _ s2=>∃ x H',Inv X pins σ H' s2∧RelV x u∧J.yld i H x H'∧tn (i + 1) s2.heap ∧ ∀ b∈fp,H' b=none) E s1) E s
 done:∀ (X:Cx),X.prog=P→X.w=w→X.K=K→X.calm=true→∀ (i:Nat) (pins:List (Addr × Obj)) (s:Shared) (σ:St) (H:Hp) (E:Value→Shared→Prop),Inv X pins σ H s→(∀ b∈fp,FpOk X pins H b)→tn i s.heap → J.stop i H →
  wpAny (model P w) X.A (pyNext (.ref it)) (fun r s1=>r=none∧Inv X pins σ H s1) E s
 self:∀ (A:Around) (i:Nat) (s:Shared) (Q:Value→Shared→Prop) (E:Value→Shared→Prop),tn i s.heap → Q (.ref it) s→wpAny (model P w) A (pyIter (.ref it)) Q E s
abbrev TI:=St→Hp→(It→Hp→Prop)→Prop
def PIE (X:Cx)(pins:List (Addr × Obj))(σ:St)(tg:Expr)(R:It→Hp→Prop)(itv:Value)(s2:Shared):Prop :=
 ∃ (it:Addr) (fp:List Addr) (tn:Nat→Heap→Prop) (J:It) (H':Hp),itv = .ref it∧Inv X pins σ H' s2∧Turn X.prog X.w X.K tg J fp it tn∧tn 0 s2.heap ∧ (∀ b∈fp,FpOk X pins H' b)∧R J H'
def PI (X:Cx)(tg iter:Expr)(wi:TI):Prop :=
 ∀ (pins:List (Addr × Obj)) (s:Shared) (σ:St) (H:Hp) (R:It→Hp→Prop),Inv X pins σ H s→wi σ H R →
  wpAny (model X.prog X.w) X.A (eval iter X.env) (fun v s1=>wpAny (model X.prog X.w) X.A (pyIter v) (PIE X pins σ tg R) X.xe s1) X.xe s
theorem go_of {M:Model}{A:Around}{E:Value→Shared→Prop}{s:Shared}{tg:Expr}{it:Addr}{u:Value}{o:Obj}{n:String}{vs:Array Value}{Q:Unit→Shared→Prop}(ho:s.heap.get? it=some o)(hc:o.cls = .type n)(hd:o.data = .fields vs)
    (hn:["enumerate","zip","dict_itemiterator","dict_reverseitemiterator","odict_iterator","itertools.zip_longest","itertools.pairwise"].contains n=false) (hQ:Q () s):wpAny M A (letOwnedTupleGo tg (.ref it) u) Q E s:=by
  unfold letOwnedTupleGo
  cases tg <;> first
    | exact wpAny_pure hQ
    | (cases u <;> first
        | exact wpAny_pure hQ
        | (refine wpAny_bind (wpAny_load ho ?_)
           rw [hc,hd]
           show wpAny M A (if (["enumerate","zip","dict_itemiterator","dict_reverseitemiterator","odict_iterator","itertools.zip_longest","itertools.pairwise"].contains n && vs[0]? == some (rawInt _))=true then _ else _) Q E s
           rw [if_neg (by intro h;rw [hn,Bool.false_and] at h;cases h)]
           exact wpAny_pure hQ))
def Itl (K:PySem.W.Frag)(a:Addr):It :=
 ⟨fun i H=>∃ xs x,SqL K H a xs∧xs[i]? = some x,fun i H x H'=>H'=H∧∀ xs,SqL K H a xs→xs[i]? = some x,fun i H=>∃ xs,SqL K H a xs∧xs.length ≤ i⟩
def Itt (K:PySem.W.Frag)(a:Addr):It :=
 ⟨fun i H=>∃ xs x,SqT K H a xs∧xs[i]? = some x,fun i H x H'=>H'=H∧∀ xs,SqT K H a xs→xs[i]? = some x,fun i H=>∃ xs,SqT K H a xs∧xs.length ≤ i⟩
def Itr (lo:Int)(n:Nat):It:=⟨fun i _=>i < n,fun i H x H'=>H'=H∧x = .int (lo + i),fun i _=>n≤i⟩
theorem turn_list {P:Program}{w:World}{K:PySem.W.Frag}{tg:Expr}(a it:Addr):Turn P w K tg (Itl K a) [it] it (fun i h=>h.IsListIter it a i) where
 mem:=by simp
 obj:=fun i h st b hb=>by
  have e:b=it:=by simpa using hb
  subst e
  obtain ⟨o,e,c,d⟩:=st
  exact ⟨o,e,fun v z=>by rw [d] at z;cases z⟩
 keep:=fun i h h' st k=>st.at fun o e=>k it (by simp) o e
 item:=by
  intro X hP hw hK hc i pins s σ H E I hf st hg
  subst hP hw hK
  obtain ⟨xs,x,hq,hx⟩:=hg
  obtain ⟨its,rv,p,hz⟩:=I.list hq
  obtain ⟨u,hu,ru⟩:=rv.get hx
  obtain ⟨f0,f1,f2,f3,f4,f5⟩:=hf it (by simp)
  refine wpAny_pyNext_list_item st p.isList (x:=u) (by simpa using hu) fun h' st' sb=>?_
  have I1:Inv X pins σ H { s with heap:=h' }:=I.turned (t':=s.toks) (fun b o hb e=>(sb.2 b hb).trans e) f0 f1 f3 f4 f5
  obtain ⟨o,e,c,d⟩:=id st'
  exact ⟨u,rfl,go_of (s:={ s with heap:=h' }) e c d (by decide) ⟨x,H,I1,ru,⟨rfl,fun ys hy=>by rw [I.list_inj hy hq];exact hx⟩,st',fun b hb=>(hf b hb).1⟩⟩
 done:=by
  intro X hP hw hK hc i pins s σ H E I hf st hg
  subst hP hw hK
  obtain ⟨xs,hq,hx⟩:=hg
  obtain ⟨its,rv,p,hz⟩:=I.list hq
  obtain ⟨f0,f1,f2,f3,f4,f5⟩:=hf it (by simp)
  have hl:=rv.length
  exact wpAny_pyNext_list_end (I.ok.hd hc) st p.isList (by simp;omega) fun h' eb=>⟨rfl,I.turned (t':=s.toks) (fun b o hb e=>eb b o hb e) f0 f1 f3 f4 f5⟩
 self:=fun _ _ _ _ _ st h=>wpAny_pyIter_listiter st h
theorem turn_tuple {P:Program}{w:World}{K:PySem.W.Frag}{tg:Expr}(a it:Addr):Turn P w K tg (Itt K a) [it] it (fun i h=>h.IsTupleIter it a i) where
 mem:=by simp
 obj:=fun i h st b hb=>by
  have e:b=it:=by simpa using hb
  subst e
  obtain ⟨o,e,c,d⟩:=st
  exact ⟨o,e,fun v z=>by rw [d] at z;cases z⟩
 keep:=fun i h h' st k=>st.at fun o e=>k it (by simp) o e
 item:=by
  intro X hP hw hK hc i pins s σ H E I hf st hg
  subst hP hw hK
  obtain ⟨xs,x,hq,hx⟩:=hg
  obtain ⟨its,rv,p,hz⟩:=I.tuple hq
  obtain ⟨u,hu,ru⟩:=rv.get hx
  obtain ⟨f0,f1,f2,f3,f4,f5⟩:=hf it (by simp)
  refine wpAny_pyNext_tuple_item st (show s.heap.IsTuple a its.toArray from p) (x:=u) (by simpa using hu) fun h' st' sb=>?_
  have I1:Inv X pins σ H { s with heap:=h' }:=I.turned (t':=s.toks) (fun b o hb e=>(sb.2 b hb).trans e) f0 f1 f3 f4 f5
  obtain ⟨o,e,c,d⟩:=id st'
  exact ⟨u,rfl,go_of (s:={ s with heap:=h' }) e c d (by decide) ⟨x,H,I1,ru,⟨rfl,fun ys hy=>by rw [I.tuple_inj hy hq];exact hx⟩,st',fun b hb=>(hf b hb).1⟩⟩
 done:=by
  intro X hP hw hK hc i pins s σ H E I hf st hg
  subst hP hw hK
  obtain ⟨xs,hq,hx⟩:=hg
  obtain ⟨its,rv,p,hz⟩:=I.tuple hq
  obtain ⟨f0,f1,f2,f3,f4,f5⟩:=hf it (by simp)
  have hl:=rv.length
  exact wpAny_pyNext_tuple_end (I.ok.hd hc) st (show s.heap.IsTuple a its.toArray from p) (by simp;omega) fun h' eb=>⟨rfl,I.turned (t':=s.toks) (fun b o hb e=>eb b o hb e) f0 f1 f3 f4 f5⟩
 self:=fun _ _ _ _ _ st h=>wpAny_pyIter_tupleiter st h
theorem turn_range {P:Program}{w:World}{K:PySem.W.Frag}{tg:Expr}(it:Addr)(lo:Int)(n:Nat):Turn P w K tg (Itr lo n) [it] it (fun i h=>IsRangeIter h it (lo + (i:Nat) * 1) ((n:Int) - (i:Nat)) 1) where
 mem:=by simp
 obj:=fun i h st b hb=>by
  have e:b=it:=by simpa using hb
  subst e
  exact ⟨_,st,fun v z=>by
   have z':Data.fields _=Data.cell v:=z
   cases z'⟩
 keep:=fun i h h' st k=>k it (by simp) _ st
 item:=by
  intro X hP hw hK hc i pins s σ H E I hf st hg
  subst hP hw hK
  obtain ⟨f0,f1,f2,f3,f4,f5⟩:=hf it (by simp)
  have W:=Walks.range (prog:=X.prog) (w:=X.w) (I.ok.hd hc) it lo 1 n
  refine W.item i s _ _ hg st fun v h' tk hv st' kk=>?_
  obtain ⟨t,rfl⟩:=hv
  have I1:Inv X pins σ H { s with heap:=h',toks:=tk }:=I.turned (fun b o hb e=>kk b o (by simpa using hb) e) f0 f1 f3 f4 f5
  refine ⟨_,rfl,go_of (s:={ s with heap:=h',toks:=tk }) (n := "range_iterator") st' rfl rfl (by decide) ⟨.int (lo + i),H,I1,⟨t,?_⟩,⟨rfl,rfl⟩,st',fun b hb=>(hf b hb).1⟩⟩
  rw [Int.mul_one]
 done:=by
  intro X hP hw hK hc i pins s σ H E I hf st hg
  subst hP hw hK
  obtain ⟨f0,f1,f2,f3,f4,f5⟩:=hf it (by simp)
  exact wpAny_pyNext_range_end (I.ok.hd hc) st (by have:n≤i:=hg;omega) fun h' eb=>⟨rfl,I.turned (t':=s.toks) (fun b o hb e=>eb b o hb e) f0 f1 f3 f4 f5⟩
 self:=fun _ _ _ _ _ st h=>wpAny_pyIter_rangeiter st h
end L2
namespace L2
open PySem PySem.Spec PyProof.Rows
section
variable {X:Cx}{tg:Expr}
def iList (K:PySem.W.Frag)(tl:TE):TI:=fun σ H R=>tl σ H fun x H1=>∃ a,x = .ref a∧(∃ xs,SqL K H1 a xs)∧R (Itl K a) H1
def iTup (K:PySem.W.Frag)(tl:TE):TI:=fun σ H R=>tl σ H fun x H1=>∃ a,x = .ref a∧(∃ xs,SqT K H1 a xs)∧R (Itt K a) H1
theorem pi_list {l:Expr}{tl:TE}(hl:PE X l tl):PI X tg l (iList X.K tl):=by
 intro pins s σ H R I h
 refine thn (hl pins s σ H _ I h) fun v s1 ⟨x,H1,I1,r1,q1⟩=>?_
 obtain ⟨a,e,⟨xs,hq⟩,q⟩:=q1
 subst e
 cases r1
 obtain ⟨its,rv,p,hz⟩:=I1.list hq
 refine wpAny_pyIter_list p.isList ?_
 refine ⟨s1.heap.objs.size,[s1.heap.objs.size],_,_,H1,rfl,I1.kept (t':=s1.toks) fun b o e=>Heap.get?_push_of_some _ e,turn_list a _,⟨_,Heap.get?_push_size _ rfl,rfl,rfl⟩,fun b hb=>?_,q⟩
 have e:b=s1.heap.objs.size:=by simpa using hb
 subst e
 exact I1.fpOk (Nat.le_refl _) (I1.hok.fresh (Nat.le_refl _))
theorem pi_tup {l:Expr}{tl:TE}(hl:PE X l tl):PI X tg l (iTup X.K tl):=by
 intro pins s σ H R I h
 refine thn (hl pins s σ H _ I h) fun v s1 ⟨x,H1,I1,r1,q1⟩=>?_
 obtain ⟨a,e,⟨xs,hq⟩,q⟩:=q1
 subst e
 cases r1
 obtain ⟨its,rv,p,hz⟩:=I1.tuple hq
 refine wpAny_pyIter_tuple (show s1.heap.IsTuple a its.toArray from p) ?_
 refine ⟨s1.heap.objs.size,[s1.heap.objs.size],_,_,H1,rfl,I1.kept (t':=s1.toks) fun b o e=>Heap.get?_push_of_some _ e,turn_tuple a _,⟨_,Heap.get?_push_size _ rfl,rfl,rfl⟩,fun b hb=>?_,q⟩
 have e:b=s1.heap.objs.size:=by simpa using hb
 subst e
 exact I1.fpOk (Nat.le_refl _) (I1.hok.fresh (Nat.le_refl _))
theorem range_it {pins:List (Addr × Obj)}{σ:St}{H:Hp}{s:Shared}{R:It→Hp→Prop}{E:Value→Shared→Prop}{lo hi:Int}{t u v:Tok}{tk:Nat}(I:Inv X pins σ H s)(h1:-(2 ^ 62)≤lo)(h2:lo < 2 ^ 62)(h3:-(2 ^ 62)≤hi)(h4:hi < 2 ^ 62)
  (q:R (Itr lo (hi - lo).toNat) H):wpAny (model X.prog X.w) X.A (pyIter (.ref s.heap.objs.size)) (PIE X pins σ tg R) E { s with heap:=s.heap.push { cls:=.type "range",data:=.fields #[.int lo t,.int hi u,.int 1 v] },toks:=tk }:=by
 refine wpAny_pyIter_range (IsRange.new ..) (small_one h1 h2 h3 h4) ?_
 have I1:Inv X pins σ H { s with heap:=s.heap.push { cls:=.type "range",data:=.fields #[.int lo t,.int hi u,.int 1 v] },toks:=tk }:=I.kept fun b o e=>Heap.get?_push_of_some _ e
 refine ⟨(s.heap.push { cls:=.type "range",data:=.fields #[.int lo t,.int hi u,.int 1 v] }).objs.size,[(s.heap.push { cls:=.type "range",data:=.fields #[.int lo t,.int hi u,.int 1 v] }).objs.size],_,_,H,rfl,
  I1.kept (t':=tk) fun b o e=>Heap.get?_push_of_some _ e,turn_range _ lo (hi - lo).toNat,?_,fun b hb=>?_,q⟩
 ·have e1:lo + ((0:Nat):Int) * 1=lo:=by simp
  have e2:(((hi - lo).toNat:Nat):Int) - ((0:Nat):Int)=Builtin.Range.rangeSize lo hi 1:=by rw [rangeSize_one];split <;> omega
  show IsRangeIter _ _ (lo + ((0:Nat):Int) * 1) ((((hi - lo).toNat:Nat):Int) - ((0:Nat):Int)) 1
  rw [e1,e2]
  exact Heap.get?_push_size _ rfl
 ·have e:b=(s.heap.push { cls:=.type "range",data:=.fields #[.int lo t,.int hi u,.int 1 v] }).objs.size:=by simpa using hb
  subst e
  exact I1.fpOk (Nat.le_refl _) (I1.hok.fresh (Nat.le_refl _))
def iRng1 (ta:TA):TI:=fun σ H R=>ta σ H fun vs H1=>∃ j:Int,vs=[.int j]∧-(2 ^ 62)≤j∧j < 2 ^ 62∧R (Itr 0 j.toNat) H1
def iRng2 (ta:TA):TI:=fun σ H R=>ta σ H fun vs H1=>∃ i j:Int,vs=[.int i,.int j]∧(-(2 ^ 62)≤i∧i < 2 ^ 62∧-(2 ^ 62)≤j∧j < 2 ^ 62)∧R (Itr i (j - i).toNat) H1
theorem pi_range1 {a:Expr} {ta:TA} {p pos:Pos} (hg:Gl X "range") (hm:X.mg "range" = none) (ha:PA X [a] ta) (hs:starEach [a] X.env=[(false,eval a X.env)]:=by rfl):PI X tg (.Call (.Name "range" p) [a] [] pos) (iRng1 ta):=by
 intro pins s σ H R I h
 refine Call_ (ld_blt I hg hm boot_range (PyProof.Rows.callWith_type1 (thn (ha pos pins s σ H _ I h) fun us s1 ⟨vs,H1,I1,r1,q1⟩=>?_) hs rfl))
 obtain ⟨j,e,q1,q2,q⟩:=q1
 subst e
 cases r1 with
 | cons r rr =>
  cases rr
  obtain ⟨t,rfl⟩:=r
  exact call_range_1 (range_it I1 (by omega) (by omega) q1 q2 (by simpa using q))
theorem pi_range2 {a b:Expr} {ta:TA} {p pos:Pos} (hg:Gl X "range") (hm:X.mg "range" = none) (ha:PA X [a,b] ta) (hs:starEach [a,b] X.env=[(false,eval a X.env),(false,eval b X.env)]:=by rfl) (hs2:starEach [b] X.env=[(false,eval b X.env)]:=by rfl) :
  PI X tg (.Call (.Name "range" p) [a,b] [] pos) (iRng2 ta):=by
 intro pins s σ H R I h
 refine Call_ (ld_blt I hg hm boot_range (PyProof.Rows.callWith_type1 (thn (ha pos pins s σ H _ I h) fun us s1 ⟨vs,H1,I1,r1,q1⟩=>?_) (by rw [hs,hs2]) (by rw [hs2];rfl)))
 obtain ⟨i,j,e,⟨q1,q2,q3,q4⟩,q⟩:=q1
 subst e
 cases r1 with
 | cons r rr =>
  cases rr with
  | cons r' rr =>
   cases rr
   obtain ⟨t,rfl⟩:=r
   obtain ⟨t',rfl⟩:=r'
   exact call_range_2 (range_it I1 q1 q2 q3 q4 q)
def tFor (wi:TI)(g:TG)(tb:TS):TS:=fun D σ H=>wi σ H fun J H1=>∃ W:Nat→Nat→St→Hp→Prop,(∃ m,W 0 m σ H1)∧∀ i m σ H,W i m σ H →
 (J.stop i H∧D.nx σ H) ∨ (J.go i H∧∃ N:St→Hp→Prop,(∀ σ' H',N σ' H'→∃ m',m' < m∧W (i + 1) m' σ' H')∧∀ x H',J.yld i H x H'→g x σ H' fun σ2 H2=>tb { D with nx:=N,ct:=N,bk:=D.nx } σ2 H2)
def pinsAt (fp:List Addr)(h:Heap):List (Addr × Obj):=fp.filterMap fun b=>(h.get? b).map fun o=>(b,o)
theorem mem_pinsAt {fp:List Addr}{h:Heap}{b:Addr}{o:Obj}(hb:b∈fp)(e:h.get? b=some o):(b,o)∈pinsAt fp h:=List.mem_filterMap.mpr ⟨b,hb,by rw [e];rfl⟩
theorem of_pinsAt {fp:List Addr}{h:Heap}{p:Addr × Obj}(hp:p∈pinsAt fp h):p.1 ∈ fp∧h.get? p.1=some p.2:=by
 obtain ⟨b,hb,e⟩:=List.mem_filterMap.mp hp
 cases q:h.get? b with
 | none=>rw [q] at e;cases e
 | some o =>
  rw [q] at e
  have e':(b,o)=p:=Option.some.inj e
  subst e'
  exact ⟨hb,q⟩
theorem Inv.pinned {pins:List (Addr × Obj)}{σ:St}{H:Hp}{s:Shared}{fp:List Addr}(I:Inv X pins σ H s)(hf:∀ b∈fp,FpOk X pins H b)(ho:∀ b∈fp,∃ o,s.heap.get? b=some o∧∀ v,o.data ≠ .cell v):Inv X (pins ++ pinsAt fp s.heap) σ H s :=
 I.pins_of fun p hp=>(List.mem_append.mp hp).elim (fun z=>I.pin p (List.mem_append_right _ z)) fun z=>by
  obtain ⟨hb,e⟩:=of_pinsAt z
  obtain ⟨f0,f1,f2,_⟩:=hf p.1 hb
  obtain ⟨o,e',d⟩:=ho p.1 hb
  rw [e] at e';cases e'
  exact ⟨e,f0,f1,f2,d⟩
theorem Inv.unpinned {pins pl:List (Addr × Obj)}{σ:St}{H:Hp}{s:Shared}(I:Inv X (pins ++ pl) σ H s):Inv X pins σ H s:=I.pins_of fun p hp=>I.pin p (List.mem_append_right _ (List.mem_append_left _ hp))
theorem ps_for {iter:Expr}{body:List Stmt}{wi:TI}{g:TG}{tb:TS}{pos:Pos}(hp:PassesOwn (model X.prog X.w) X.A X.env X.xe)(hc:X.calm=true)(hi:PI X tg iter wi)(hg:PG X tg g)(hb:PSs X body tb)
  (hs:∀ x,foldedSetIterable iter X.env x=pure x:=by intro _;rfl):PS X (.For tg iter body [] pos) (tFor wi g tb):=by
 intro pins s σ H D I h
 refine wpAny_For (thn (hi pins s σ H _ I h) fun v s1 h1=>thn h1 fun itv s2 h2=>?_) hs
 obtain ⟨it,fp,tn,J,H2,e,I2,T,st2,f2,W,⟨m0,w0⟩,turn⟩:=h2
 subst e
 have stat:∀ {H':Hp},(∀ b∈fp,H' b=none)→∀ b∈fp,FpOk X pins H' b:=fun hn b hb=>⟨hn b hb,(f2 b hb).2⟩
 refine codeAny_forLoop_any (fun n s'=>∃ i σ' H',Inv X pins σ' H' s'∧tn i s'.heap ∧ (∀ b∈fp,H' b=none)∧W i n σ' H') ?_ m0 ⟨0,σ,H2,I2,st2,fun b hb=>(f2 b hb).1,w0⟩
 rintro n s3 ⟨i,σ3,H3,I3,st3,fr3,w3⟩
 rcases turn i n σ3 H3 w3 with ⟨stop,qn⟩ | ⟨go,N,hN,step⟩
 ·refine wpAny_passesOwn hp (thn (T.done X rfl rfl rfl hc i pins s3 σ3 H3 X.xe I3 (stat fr3) st3 stop) fun r s4 ⟨hr,I4⟩=>?_)
  subst hr
  exact wpAny_execs_nil ⟨σ3,H3,I4,qn⟩
 ·refine wpAny_passesOwn hp (thn (T.item X rfl rfl rfl hc i pins s3 σ3 H3 X.xe I3 (stat fr3) st3 go) fun r s4 ⟨u,hr,h4⟩=>?_)
  subst hr
  refine wpAny_passesOwn hp (thn h4 fun _ s5 ⟨x,H5,I5,r5,y5,st5,fr5⟩=>?_)
  have I5':=I5.pinned (stat fr5) (T.obj _ _ st5)
  refine wpAny_passesOwn hp (thn (hg _ s5 σ3 H5 x u _ I5' r5 (step x H5 y5)) fun _ s6 ⟨σ6,H6,I6,q6⟩=>?_)
  refine wpAny_passesOwn hp (thn (hb _ s6 σ6 H6 _ I6 q6) fun f s7 q7=>?_)
  have again:∀ {σ7:St} {H7:Hp},Inv X (pins ++ pinsAt fp s5.heap) σ7 H7 s7→N σ7 H7→∃ m,m < n∧∃ i σ' H',Inv X pins σ' H' s7∧tn i s7.heap ∧ (∀ b∈fp,H' b=none)∧W i m σ' H':=fun {σ7 H7} I7 n7=>by
   obtain ⟨m',hm,w7⟩:=hN σ7 H7 n7
   refine ⟨m',hm,i + 1,σ7,H7,I7.unpinned,T.keep _ _ _ st5 fun b hb o e=>(I7.pin (b,o) (List.mem_append_right _ (List.mem_append_right _ (mem_pinsAt hb e)))).1,fun b hb=>?_,w7⟩
   obtain ⟨o,e,d⟩:=T.obj _ _ st5 b hb
   exact (I7.pin (b,o) (List.mem_append_right _ (List.mem_append_right _ (mem_pinsAt hb e)))).2.1
  cases f with
  | next=>obtain ⟨σ7,H7,I7,n7⟩:=q7;exact again I7 n7
  | cont=>obtain ⟨σ7,H7,I7,n7⟩:=q7;exact again I7 n7
  | brk=>obtain ⟨σ7,H7,I7,q7⟩:=q7;exact ⟨σ7,H7,I7.unpinned,q7⟩
  | ret v=>obtain ⟨x7,σ7,H7,I7,r7,q7⟩:=q7;exact ⟨x7,σ7,H7,I7.unpinned,r7,q7⟩
end
theorem for_list {K:PySem.W.Frag}{a:Addr}{xs:List V}{g:TG}{tb:TS}{D:Ends}{σ:St}{H:Hp}(Pv:Nat→St→Hp→Prop)(h0:Pv 0 σ H)(hl:∀ i σ H,i≤xs.length → Pv i σ H→SqL K H a xs)
  (hs:∀ i x σ H,xs[i]? = some x→Pv i σ H→g x σ H fun σ2 H2=>tb { D with nx:=Pv (i + 1),ct:=Pv (i + 1),bk:=D.nx } σ2 H2) (hd:∀ σ H,Pv xs.length σ H→D.nx σ H) :
  ∃ W:Nat→Nat→St→Hp→Prop,(∃ m,W 0 m σ H)∧∀ i m σ H,W i m σ H →
   ((Itl K a).stop i H∧D.nx σ H) ∨ ((Itl K a).go i H∧∃ N:St→Hp→Prop,(∀ σ' H',N σ' H'→∃ m',m' < m∧W (i + 1) m' σ' H')∧∀ x H',(Itl K a).yld i H x H'→g x σ H' fun σ2 H2=>tb { D with nx:=N,ct:=N,bk:=D.nx } σ2 H2):=by
 refine ⟨fun i m σ H=>m=xs.length - i∧i≤xs.length ∧ Pv i σ H,⟨xs.length,by simp,Nat.zero_le _,h0⟩,?_⟩
 rintro i m σ H ⟨rfl,hi,p⟩
 have q:=hl i σ H hi p
 by_cases hlt:i < xs.length
 ·refine .inr ⟨⟨xs,xs[i],q,by simp [hlt]⟩,Pv (i + 1),fun σ' H' p'=>⟨xs.length - (i + 1),by omega,rfl,hlt,p'⟩,fun x H' y=>?_⟩
  obtain ⟨e,y⟩:=y
  subst e
  exact hs i x σ _ (y xs q) p
 ·have e:i=xs.length:=by omega
  subst e
  exact .inl ⟨⟨xs,q,Nat.le_refl _⟩,hd σ H p⟩
theorem for_tup {K:PySem.W.Frag}{a:Addr}{xs:List V}{g:TG}{tb:TS}{D:Ends}{σ:St}{H:Hp}(Pv:Nat→St→Hp→Prop)(h0:Pv 0 σ H)(hl:∀ i σ H,i≤xs.length → Pv i σ H→SqT K H a xs)
  (hs:∀ i x σ H,xs[i]? = some x→Pv i σ H→g x σ H fun σ2 H2=>tb { D with nx:=Pv (i + 1),ct:=Pv (i + 1),bk:=D.nx } σ2 H2) (hd:∀ σ H,Pv xs.length σ H→D.nx σ H) :
  ∃ W:Nat→Nat→St→Hp→Prop,(∃ m,W 0 m σ H)∧∀ i m σ H,W i m σ H →
   ((Itt K a).stop i H∧D.nx σ H) ∨ ((Itt K a).go i H∧∃ N:St→Hp→Prop,(∀ σ' H',N σ' H'→∃ m',m' < m∧W (i + 1) m' σ' H')∧∀ x H',(Itt K a).yld i H x H'→g x σ H' fun σ2 H2=>tb { D with nx:=N,ct:=N,bk:=D.nx } σ2 H2):=by
 refine ⟨fun i m σ H=>m=xs.length - i∧i≤xs.length ∧ Pv i σ H,⟨xs.length,by simp,Nat.zero_le _,h0⟩,?_⟩
 rintro i m σ H ⟨rfl,hi,p⟩
 have q:=hl i σ H hi p
 by_cases hlt:i < xs.length
 ·refine .inr ⟨⟨xs,xs[i],q,by simp [hlt]⟩,Pv (i + 1),fun σ' H' p'=>⟨xs.length - (i + 1),by omega,rfl,hlt,p'⟩,fun x H' y=>?_⟩
  obtain ⟨e,y⟩:=y
  subst e
  exact hs i x σ _ (y xs q) p
 ·have e:i=xs.length:=by omega
  subst e
  exact .inl ⟨⟨xs,q,Nat.le_refl _⟩,hd σ H p⟩
theorem for_range {lo:Int}{n:Nat}{g:TG}{tb:TS}{D:Ends}{σ:St}{H:Hp}(Pv:Nat→St→Hp→Prop)(h0:Pv 0 σ H)
  (hs:∀ i σ H,i < n→Pv i σ H→g (.int (lo + i)) σ H fun σ2 H2=>tb { D with nx:=Pv (i + 1),ct:=Pv (i + 1),bk:=D.nx } σ2 H2) (hd:∀ σ H,Pv n σ H→D.nx σ H) :
  ∃ W:Nat→Nat→St→Hp→Prop,(∃ m,W 0 m σ H)∧∀ i m σ H,W i m σ H →
   ((Itr lo n).stop i H∧D.nx σ H) ∨ ((Itr lo n).go i H∧∃ N:St→Hp→Prop,(∀ σ' H',N σ' H'→∃ m',m' < m∧W (i + 1) m' σ' H')∧∀ x H',(Itr lo n).yld i H x H'→g x σ H' fun σ2 H2=>tb { D with nx:=N,ct:=N,bk:=D.nx } σ2 H2):=by
 refine ⟨fun i m σ H=>m=n - i∧i≤n∧Pv i σ H,⟨n,by simp,Nat.zero_le _,h0⟩,?_⟩
 rintro i m σ H ⟨rfl,hi,p⟩
 by_cases hlt:i < n
 ·refine .inr ⟨hlt,Pv (i + 1),fun σ' H' p'=>⟨n - (i + 1),by omega,rfl,hlt,p'⟩,fun x H' y=>?_⟩
  obtain ⟨e,y⟩:=y
  subst e y
  exact hs i σ _ hlt p
 ·have e:i=n:=by omega
  subst e
  exact .inl ⟨Nat.le_refl _,hd σ H p⟩
end L2
namespace L2
open PySem PySem.Spec PyProof.Rows
abbrev R2:=V→V→Hp→VK→Prop
def OpR (X:Cx)(f:Value→Value→Sem Value)(r:R2):Prop :=
 ∀ (pins:List (Addr × Obj)) (s:Shared) (σ:St) (H:Hp) (x y:V) (v u:Value) (Q:VK),Inv X pins σ H s→RelV x v→RelV y u→r x y H Q →
  wpAny (model X.prog X.w) X.A (f v u) (EP X pins σ Q) X.xe s
def UnR (X:Cx)(f:Value→Sem Value)(r:V→Hp→VK→Prop):Prop :=
 ∀ (pins:List (Addr × Obj)) (s:Shared) (σ:St) (H:Hp) (x:V) (v:Value) (Q:VK),Inv X pins σ H s→RelV x v→r x H Q →
  wpAny (model X.prog X.w) X.A (f v) (EP X pins σ Q) X.xe s
def CallR (X:Cx)(f:Value)(r:List V→Hp→VK→Prop):Prop :=
 ∀ (pins:List (Addr × Obj)) (s:Shared) (σ:St) (H:Hp) (xs:List V) (us:List Value) (Q:VK),Inv X pins σ H s→Vals xs us→r xs H Q →
  wpAny (model X.prog X.w) X.A (call f us) (EP X pins σ Q) X.xe s
def TruR (X:Cx)(r:V→Hp→(Bool→Hp→Prop)→Prop):Prop :=
 ∀ (pins:List (Addr × Obj)) (s:Shared) (σ:St) (H:Hp) (x:V) (v:Value) (Q:Bool→Hp→Prop),Inv X pins σ H s→RelV x v→r x H Q →
  wpAny (model X.prog X.w) X.A (truthy v) (TP X pins σ Q) X.xe s
def tOp (r:R2)(ta tb:TE):TE:=fun σ H Q=>ta σ H fun x H1=>tb σ H1 fun y H2=>r x y H2 Q
def tUn (r:V→Hp→VK→Prop)(ta:TE):TE:=fun σ H Q=>ta σ H fun x H1=>r x H1 Q
def rI (C:Int→Int→Prop)(g:Int→Int→V):R2:=fun x y H Q=>∃ i j,x = .int i∧y = .int j∧C i j∧Q (g i j) H
def rI0 (g:Int→Int→V):R2:=fun x y H Q=>∃ i j,x = .int i∧y = .int j∧Q (g i j) H
def rU (g:Int→V):V→Hp→VK→Prop:=fun x H Q=>∃ i,x = .int i∧Q (g i) H
section
variable {X:Cx}{a b c:Expr}{ta tb tc:TE}{pos:Pos}
theorem binT (ha:PE X a ta)(hb:PE X b tb){pins:List (Addr × Obj)}{s:Shared}{σ:St}{H:Hp}{R:V→V→Hp→Prop}(I:Inv X pins σ H s)
  (h:ta σ H fun x H1=>tb σ H1 fun y H2=>R x y H2) {Q:Value→Shared→Prop} {f:Value→Value→Sem Value}
  (hf:∀ v u s2 x y H2,Inv X pins σ H2 s2→RelV x v→RelV y u→R x y H2→wpAny (model X.prog X.w) X.A (f v u) Q X.xe s2) :
  wpAny (model X.prog X.w) X.A (eval a X.env) (fun v s₁=>wpAny (model X.prog X.w) X.A (eval b X.env) (fun u s₂=>wpAny (model X.prog X.w) X.A (f v u) Q X.xe s₂) X.xe s₁) X.xe s:=by
 refine thn (ha pins s σ H _ I h) fun v s1 ⟨x,H1,I1,r1,q1⟩=>?_
 refine thn (hb pins s1 σ H1 _ I1 q1) fun u s2 ⟨y,H2,I2,r2,q2⟩=>?_
 exact hf v u s2 x y H2 I2 r1 r2 q2
theorem pe_op {op:Operator}{r:R2}(ho:OpR X (binaryOp op) r)(ha:PE X a ta)(hb:PE X b tb):PE X (.BinOp a op b pos) (tOp r ta tb):=by
 intro pins s σ H Q I h
 exact wpAny_BinOp (binT ha hb I h fun v u s2 x y H2 I2 rx ry q=>ho pins s2 σ H2 x y v u Q I2 rx ry q)
theorem pe_un {op:UnaryOp}{r:V→Hp→VK→Prop}(ho:UnR X (unaryOp op) r)(ha:PE X a ta):PE X (.UnaryOp op a pos) (tUn r ta):=by
 intro pins s σ H Q I h
 exact UnaryOp_ (thn (ha pins s σ H _ I h) fun v s1 ⟨x,H1,I1,r1,q1⟩=>ho pins s1 σ H1 x v Q I1 r1 q1)
theorem opI {f:Value→Value→Sem Value}{C:Int→Int→Prop}{g:Int→Int→Int}
  (rule:∀ (i j:Int) (t u:Tok) (s:Shared) (Q:Value→Shared→Prop) (E:Value→Shared→Prop),C i j→Q (.int (g i j) s.toks) { s with toks:=s.toks + 1 }→wpAny (model X.prog X.w) X.A (f (.int i t) (.int j u)) Q E s) :
  OpR X f (rI C fun i j=>.int (g i j)):=by
 intro pins s σ H x y v u Q I rx ry h
 obtain ⟨i,j,rfl,rfl,hc,q⟩:=h
 obtain ⟨t,rfl⟩:=rx
 obtain ⟨t',rfl⟩:=ry
 exact rule i j t t' s _ _ hc ⟨.int (g i j),H,I.tok _,⟨_,rfl⟩,q⟩
theorem opI0 {f:Value→Value→Sem Value}{g:Int→Int→Int}
  (rule:∀ (i j:Int) (t u:Tok) (s:Shared) (Q:Value→Shared→Prop) (E:Value→Shared→Prop),Q (.int (g i j) s.toks) { s with toks:=s.toks + 1 }→wpAny (model X.prog X.w) X.A (f (.int i t) (.int j u)) Q E s) :
  OpR X f (rI0 fun i j=>.int (g i j)):=by
 intro pins s σ H x y v u Q I rx ry h
 obtain ⟨i,j,rfl,rfl,q⟩:=h
 obtain ⟨t,rfl⟩:=rx
 obtain ⟨t',rfl⟩:=ry
 exact rule i j t t' s _ _ ⟨.int (g i j),H,I.tok _,⟨_,rfl⟩,q⟩
theorem opB0 {f:Value→Value→Sem Value}{g:Int→Int→Bool}
  (rule:∀ (i j:Int) (t u:Tok) (s:Shared) (Q:Value→Shared→Prop) (E:Value→Shared→Prop),Q (.bool (g i j)) s→wpAny (model X.prog X.w) X.A (f (.int i t) (.int j u)) Q E s) :
  OpR X f (rI0 fun i j=>.bl (g i j)):=by
 intro pins s σ H x y v u Q I rx ry h
 obtain ⟨i,j,rfl,rfl,q⟩:=h
 obtain ⟨t,rfl⟩:=rx
 obtain ⟨t',rfl⟩:=ry
 exact rule i j t t' s _ _ ⟨.bl (g i j),H,I,rfl,q⟩
def CPow (i j:Int):Prop:=0≤j∧j≤1000000∧i.natAbs < 2 ^ 64
def CMul (i j:Int):Prop:=(-(2 ^ 64) < i∧i < 2 ^ 64) ∨ (-(2 ^ 64) < j∧j < 2 ^ 64)
theorem CMul.ok {i j:Int}(h:CMul i j):IntMulOk i j:=by
 rcases h with ⟨h1,h2⟩ | ⟨h1,h2⟩
 ·exact .of_left (intBits_le_64 h1 h2)
 ·exact .of_right (intBits_le_64 h1 h2)
theorem op_add:OpR X (binaryOp .Add) (rI0 fun i j=>.int (i + j)):=opI0 fun _ _ _ _ _ _ _ q=>add_int q
theorem op_sub:OpR X (binaryOp .Sub) (rI0 fun i j=>.int (i - j)):=opI0 fun _ _ _ _ _ _ _ q=>sub_int q
theorem op_mul:OpR X (binaryOp .Mult) (rI CMul fun i j=>.int (i * j)):=opI fun _ _ _ _ _ _ _ hc q=>mul_int q hc.ok
theorem op_mod:OpR X (binaryOp .Mod) (rI (fun _ j=>0 < j) fun i j=>.int (i % j)):=opI fun i j _ _ _ _ _ hc q=>by
 have h1:(0:Int) < j:=hc
 exact mod_int' (by omega) (by rw [Int.fmod_eq_emod_of_nonneg i (by omega)];exact q)
theorem op_pow:OpR X (binaryOp .Pow) (rI CPow fun i j=>.int (i ^ j.toNat)):=opI fun _ _ _ _ _ _ _ hc q=>pow_int_small hc.1 hc.2.1 hc.2.2 q
theorem unI {f:Value→Sem Value}{g:Int→Int}
  (rule:∀ (i:Int) (t:Tok) (s:Shared) (Q:Value→Shared→Prop) (E:Value→Shared→Prop),Q (.int (g i) s.toks) { s with toks:=s.toks + 1 }→wpAny (model X.prog X.w) X.A (f (.int i t)) Q E s) :
  UnR X f (rU fun i=>.int (g i)):=by
 intro pins s σ H x v Q I rx h
 obtain ⟨i,rfl,q⟩:=h
 obtain ⟨t,rfl⟩:=rx
 exact rule i t s _ _ ⟨.int (g i),H,I.tok _,⟨_,rfl⟩,q⟩
theorem un_neg:UnR X (unaryOp .USub) (rU fun i=>.int (-i)):=unI fun _ _ _ _ _ q=>neg_int q
end
def scal:V→V→Bool
 | .non,.non=>true | .non,.int _=>true | .int _,.non=>true | .non,.bl _=>true | .bl _,.non=>true | .non,.str _=>true | .str _,.non=>true
 | .int _,.int _=>true | .bl _,.bl _=>true | .str _,.str _=>true | .byt _,.byt _=>true
 | .int _,.str _=>true | .str _,.int _=>true | .bl _,.str _=>true | .str _,.bl _=>true
 | _,_=>false
def rEq:R2:=fun x y H Q=>scal x y=true∧Q (.bl (decide (x=y))) H
def rNe:R2:=fun x y H Q=>scal x y=true∧Q (.bl (!decide (x=y))) H
theorem dec_int {i j:Int}:decide (V.int i=V.int j)=(i == j):=by
 rw [Bool.eq_iff_iff]
 simp
theorem dec_bl {i j:Bool}:decide (V.bl i=V.bl j)=(i == j):=by
 rw [Bool.eq_iff_iff]
 simp
theorem dec_str {i j:Str}:decide (V.str i=V.str j)=(i == j):=by
 rw [Bool.eq_iff_iff]
 simp
theorem dec_byt {i j:Array UInt8}:decide (V.byt i=V.byt j)=(i.toList == j.toList):=by
 rw [Bool.eq_iff_iff]
 cases i
 cases j
 simp
section
variable {X:Cx}{a b c:Expr}{ta tb tc:TE}{pos:Pos}
theorem fin_bl {pins:List (Addr × Obj)}{σ:St}{H:Hp}{s:Shared}{Q:VK}{k k':Bool}(I:Inv X pins σ H s)(q:Q (.bl k) H)(e:k=k'):EP X pins σ Q (.bool k') s:=by
 subst e
 exact ⟨.bl k,H,I,rfl,q⟩
theorem op_eq:OpR X (compareOp .Eq) rEq:=by
 intro pins s σ H x y v u Q I rx ry h
 obtain ⟨hs,q⟩:=h
 cases x with
 | non =>
  cases rx
  cases y with
  | non=>cases ry;exact PySem.EqNone.eq_none_none (fin_bl I q (by simp))
  | bl j=>cases ry;exact PySem.EqNone.eq_none_bool (fin_bl I q (by simp))
  | int j=>obtain ⟨t',rfl⟩:=ry;exact PySem.EqNone.eq_none_int (fin_bl I q (by simp))
  | str j=>obtain ⟨t',rfl⟩:=ry;exact PySem.EqNone.eq_none_str (fin_bl I q (by simp))
  | _=>exact absurd (show false=true from hs) Bool.false_ne_true
 | bl i =>
  cases rx
  cases y with
  | non=>cases ry;exact PySem.EqNone.eq_bool_none (fin_bl I q (by simp))
  | bl j=>cases ry;exact eq_bool (fin_bl I q dec_bl)
  | str j=>obtain ⟨t',rfl⟩:=ry;exact PySem.EqMixed.eq_bool_str (fin_bl I q (by simp))
  | _=>exact absurd (show false=true from hs) Bool.false_ne_true
 | int i =>
  obtain ⟨t,rfl⟩:=rx
  cases y with
  | non=>cases ry;exact PySem.EqNone.eq_int_none (fin_bl I q (by simp))
  | int j=>obtain ⟨t',rfl⟩:=ry;exact eq_int (fin_bl I q dec_int)
  | str j=>obtain ⟨t',rfl⟩:=ry;exact PySem.EqMixed.eq_int_str (fin_bl I q (by simp))
  | _=>exact absurd (show false=true from hs) Bool.false_ne_true
 | str i =>
  obtain ⟨t,rfl⟩:=rx
  cases y with
  | non=>cases ry;exact PySem.EqNone.eq_str_none (fin_bl I q (by simp))
  | bl j=>cases ry;exact PySem.EqMixed.eq_str_bool (fin_bl I q (by simp))
  | int j=>obtain ⟨t',rfl⟩:=ry;exact PySem.EqMixed.eq_str_int (fin_bl I q (by simp))
  | str j=>obtain ⟨t',rfl⟩:=ry;exact eq_str (fin_bl I q dec_str)
  | _=>exact absurd (show false=true from hs) Bool.false_ne_true
 | byt i =>
  obtain ⟨t,rfl⟩:=rx
  cases y with
  | byt j=>obtain ⟨t',rfl⟩:=ry;exact PySem.W.eq_bytes (fin_bl I q dec_byt)
  | _=>exact absurd (show false=true from hs) Bool.false_ne_true
 | _=>cases y <;> exact absurd (show false=true from hs) Bool.false_ne_true
theorem op_ne:OpR X (compareOp .NotEq) rNe:=by
 intro pins s σ H x y v u Q I rx ry h
 obtain ⟨hs,q⟩:=h
 cases x with
 | non =>
  cases rx
  cases y with
  | non=>cases ry;exact PySem.EqNone.ne_none_none (fin_bl I q (by simp))
  | bl j=>cases ry;exact PySem.EqNone.ne_none_bool (fin_bl I q (by simp))
  | int j=>obtain ⟨t',rfl⟩:=ry;exact PySem.EqNone.ne_none_int (fin_bl I q (by simp))
  | str j=>obtain ⟨t',rfl⟩:=ry;exact PySem.EqNone.ne_none_str (fin_bl I q (by simp))
  | _=>exact absurd (show false=true from hs) Bool.false_ne_true
 | bl i =>
  cases rx
  cases y with
  | non=>cases ry;exact PySem.EqNone.ne_bool_none (fin_bl I q (by simp))
  | bl j=>cases ry;exact ne_bool (fin_bl I q (congrArg not dec_bl))
  | str j=>obtain ⟨t',rfl⟩:=ry;exact PySem.EqMixed.ne_bool_str (fin_bl I q (by simp))
  | _=>exact absurd (show false=true from hs) Bool.false_ne_true
 | int i =>
  obtain ⟨t,rfl⟩:=rx
  cases y with
  | non=>cases ry;exact PySem.EqNone.ne_int_none (fin_bl I q (by simp))
  | int j=>obtain ⟨t',rfl⟩:=ry;exact ne_int (fin_bl I q (congrArg not dec_int))
  | str j=>obtain ⟨t',rfl⟩:=ry;exact PySem.EqMixed.ne_int_str (fin_bl I q (by simp))
  | _=>exact absurd (show false=true from hs) Bool.false_ne_true
 | str i =>
  obtain ⟨t,rfl⟩:=rx
  cases y with
  | non=>cases ry;exact PySem.EqNone.ne_str_none (fin_bl I q (by simp))
  | bl j=>cases ry;exact PySem.EqMixed.ne_str_bool (fin_bl I q (by simp))
  | int j=>obtain ⟨t',rfl⟩:=ry;exact PySem.EqMixed.ne_str_int (fin_bl I q (by simp))
  | str j=>obtain ⟨t',rfl⟩:=ry;exact ne_str (fin_bl I q (congrArg not dec_str))
  | _=>exact absurd (show false=true from hs) Bool.false_ne_true
 | byt i =>
  obtain ⟨t,rfl⟩:=rx
  cases y with
  | byt j=>obtain ⟨t',rfl⟩:=ry;exact PySem.W.ne_bytes (fin_bl I q (congrArg not dec_byt))
  | _=>exact absurd (show false=true from hs) Bool.false_ne_true
 | _=>cases y <;> exact absurd (show false=true from hs) Bool.false_ne_true
theorem op_lt:OpR X (compareOp .Lt) (rI0 fun i j=>.bl (decide (i < j))):=opB0 fun _ _ _ _ _ _ _ q=>lt_int q
theorem op_le:OpR X (compareOp .LtE) (rI0 fun i j=>.bl (decide (i≤j))):=opB0 fun _ _ _ _ _ _ _ q=>le_int q
theorem op_gt:OpR X (compareOp .Gt) (rI0 fun i j=>.bl (decide (j < i))):=opB0 fun _ _ _ _ _ _ _ q=>gt_int q
theorem op_ge:OpR X (compareOp .GtE) (rI0 fun i j=>.bl (decide (j≤i))):=opB0 fun _ _ _ _ _ _ _ q=>ge_int q
theorem op_in_str:OpR X (compareOp .In) (fun x y H Q=>∃ i j,x = .str i∧y = .str j∧Q (.bl (!(Builtin.Str.occurrences j i 0 j.length 1).isEmpty)) H):=by
 intro pins s σ H x y v u Q I rx ry h
 obtain ⟨i,j,rfl,rfl,q⟩:=h
 obtain ⟨t,rfl⟩:=rx
 obtain ⟨t',rfl⟩:=ry
 exact in_str (fin_bl I q rfl)
theorem op_isN:OpR X (compareOp .Is) (fun x y H Q=>y = .non ∧ Q (.bl (decide (x = .non))) H):=by
 intro pins s σ H x y v u Q I rx ry h
 obtain ⟨rfl,q⟩:=h
 cases ry
 refine is_none_gen (fin_bl I q ?_)
 cases x <;> first
  | (cases rx;rfl)
  | (obtain ⟨t,rfl⟩:=rx;rfl)
theorem op_notN:OpR X (compareOp .IsNot) (fun x y H Q=>y = .non ∧ Q (.bl (!decide (x = .non))) H):=by
 intro pins s σ H x y v u Q I rx ry h
 obtain ⟨rfl,q⟩:=h
 cases ry
 refine isnot_none_gen (fin_bl I q ?_)
 cases x <;> first
  | (cases rx;rfl)
  | (obtain ⟨t,rfl⟩:=rx;rfl)
theorem OpR.or {f:Value→Value→Sem Value}{r r':R2}(h:OpR X f r)(h':OpR X f r'):OpR X f (fun x y H Q=>r x y H Q ∨ r' x y H Q):=by
 intro pins s σ H x y v u Q I rx ry q
 rcases q with q | q
 ·exact h pins s σ H x y v u Q I rx ry q
 ·exact h' pins s σ H x y v u Q I rx ry q
theorem nomark (b:Expr){op:CmpOp}(h:op≠.In:=by decide)(h2:op≠.NotIn:=by decide):behindInMarks op b=false:=by
 have e1:(op == CmpOp.In)=false:=by cases op <;> first | rfl | exact absurd rfl h
 have e2:(op == CmpOp.NotIn)=false:=by cases op <;> first | rfl | exact absurd rfl h2
 cases b <;> simp [behindInMarks,e1,e2]
theorem pe_cmpR {op:CmpOp}{r:R2}(ho:OpR X (compareOp op) r)(ha:PE X a ta)(hb:PE X b tb)(hm:behindInMarks op b=false):PE X (.Compare a [op] [b] pos) (tOp r ta tb):=by
 intro pins s σ H Q I h
 exact wpAny_Compare1 (binT ha hb I h fun v u s2 x y H2 I2 rx ry q=>ho pins s2 σ H2 x y v u Q I2 rx ry q) hm
def tTest (t:TE):TT:=fun σ H Q=>t σ H fun x H'=>∃ k,x = .bl k∧Q k H'
theorem pt_cmpR {op:CmpOp}{r:R2}(ho:OpR X (compareOp op) r)(ha:PE X a ta)(hb:PE X b tb)(hm:behindInMarks op b=false):PT X (.Compare a [op] [b] pos) (tTest (tOp r ta tb)):=by
 intro pins s σ H Q I h
 refine wpAny_isTrue_Compare1 (thn (ha pins s σ H _ I h) fun v s1 ⟨x,H1,I1,r1,q1⟩=>thn (hb pins s1 σ H1 _ I1 q1) fun u s2 ⟨y,H2,I2,r2,q2⟩ =>
  thn (ho pins s2 σ H2 x y v u _ I2 r1 r2 q2) fun c s3 ⟨z,H3,I3,r3,k,e,q3⟩=>?_) hm
 subst e
 cases r3
 exact wpAny_truthy_bool ⟨H3,I3,q3⟩
def tChain (r r':R2)(ta tb tc:TE):TE:=fun σ H Q=>ta σ H fun x H1=>tb σ H1 fun y H2=>r x y H2 fun z H3=>∃ k,z = .bl k ∧
 (if k=true then tc σ H3 fun w' H4=>r' y w' H4 Q else Q (.bl false) H3)
theorem pe_chain {op op':CmpOp}{r r':R2}(ho:OpR X (compareOp op) r)(ho':OpR X (compareOp op') r')(ha:PE X a ta)(hb:PE X b tb)(hc:PE X c tc)
  (hm:lastMarks [op,op'] [b,c]=false:=by with_unfolding_all rfl):PE X (.Compare a [op,op'] [b,c] pos) (tChain r r' ta tb tc):=by
 intro pins s σ H Q I h
 refine Compare_chain (thn (ha pins s σ H _ I h) fun v s1 ⟨x,H1,I1,r1,q1⟩=>chain_link (thn (hb pins s1 σ H1 _ I1 q1) fun u s2 ⟨y,H2,I2,r2,q2⟩ =>
  thn (ho pins s2 σ H2 x y v u _ I2 r1 r2 q2) fun d s3 ⟨z,H3,I3,r3,k,e,q3⟩=>?_)) hm
 subst e
 cases r3
 refine wpAny_truthy_bool ?_
 cases k with
 | false=>exact ite_ff ⟨.bl false,H3,I3,rfl,q3⟩
 | true=>exact ite_tt (chain_last (thn (hc pins s3 σ H3 _ I3 q3) fun w' s4 ⟨z',H4,I4,r4,q4⟩=>ho' pins s4 σ H4 y z' u w' Q I4 r2 r4 q4))
theorem pt_chain {op op':CmpOp}{r r':R2}(ho:OpR X (compareOp op) r)(ho':OpR X (compareOp op') r')(ha:PE X a ta)(hb:PE X b tb)(hc:PE X c tc)
  (hm:lastMarks [op,op'] [b,c]=false:=by with_unfolding_all rfl):PT X (.Compare a [op,op'] [b,c] pos) (tTest (tChain r r' ta tb tc)):=by
 intro pins s σ H Q I h
 refine isTrue_chain (thn (ha pins s σ H _ I h) fun v s1 ⟨x,H1,I1,r1,q1⟩=>test_link (thn (hb pins s1 σ H1 _ I1 q1) fun u s2 ⟨y,H2,I2,r2,q2⟩ =>
  thn (ho pins s2 σ H2 x y v u _ I2 r1 r2 q2) fun d s3 ⟨z,H3,I3,r3,k,e,q3⟩=>?_)) hm
 subst e
 cases r3
 refine wpAny_truthy_bool ?_
 cases k with
 | false =>
  obtain ⟨k',e',q'⟩:=q3
  cases e'
  exact ite_ff ⟨H3,I3,q'⟩
 | true =>
  refine ite_tt (test_last (thn (hc pins s3 σ H3 _ I3 q3) fun w' s4 ⟨z',H4,I4,r4,q4⟩=>thn (ho' pins s4 σ H4 y z' u w' _ I4 r2 r4 q4) fun d' s5 ⟨z2,H5,I5,r5,k2,e2,q5⟩=>?_))
  subst e2
  cases r5
  exact wpAny_truthy_bool ⟨H5,I5,q5⟩
def TruV (K:PySem.W.Frag)(x:V)(H:Hp)(k:Bool):Prop :=
 match x with
 | .non=>k=false
 | .bl b=>k=b
 | .int i=>k=(i != 0)
 | .str y=>y.length ≤ sizeLine∧k=((y.length:Int) != 0)
 | .byt y=>y.size ≤ sizeLine∧k=((y.size:Int) != 0)
 | .ref p=>(∃ xs,SqL K H p xs∧k = !xs.isEmpty) ∨ (∃ xs,SqT K H p xs∧k = !xs.isEmpty) ∨ ∃ kvs,H p=some (.dK kvs)∧k = !kvs.isEmpty
 | _=>False
theorem isEmpty_kv {κ:Type}{kvs:List (κ × V)}{vs:List (κ × Value)}(r:KV kvs vs):(!vs.isEmpty) = !kvs.isEmpty:=by
 cases r <;> rfl
theorem isEmpty_of {xs:List V}{its:List Value}(r:Vals xs its):(!its.toArray.isEmpty) = !xs.isEmpty:=by
 cases r <;> simp
theorem line63:(sizeLine:Nat) < 2 ^ 63:=by rw [sizeLine_eq];decide
theorem tru_ok:TruR X (fun x H Q=>∃ k,TruV X.K x H k∧Q k H):=by
 intro pins s σ H x v Q I rx h
 obtain ⟨k,e,q⟩:=h
 have hl:=line63
 have hs:sizeLine=16777216:=sizeLine_eq
 cases x with
 | non =>
  cases rx
  have e':k=false:=e
  subst e'
  exact truthy_none ⟨H,I,q⟩
 | bl b =>
  cases rx
  have e':k=b:=e
  subst e'
  exact wpAny_truthy_bool ⟨H,I,q⟩
 | int i =>
  obtain ⟨t,rfl⟩:=rx
  have e':k=(i != 0):=e
  subst e'
  exact PySem.P.truthy_int ⟨H,I,q⟩
 | str y =>
  obtain ⟨t,rfl⟩:=rx
  obtain ⟨hy,e'⟩:y.length ≤ sizeLine∧k=((y.length:Int) != 0):=e
  subst e'
  exact PySem.P.truthy_str (by omega) ⟨H,I.tok _,q⟩
 | byt y =>
  obtain ⟨t,rfl⟩:=rx
  obtain ⟨hy,e'⟩:y.size ≤ sizeLine∧k=((y.size:Int) != 0):=e
  subst e'
  exact PySem.W.truthy_bytes (by omega) ⟨H,I.tok _,q⟩
 | ref p =>
  cases rx
  have e':(∃ xs,SqL X.K H p xs∧k = !xs.isEmpty) ∨ (∃ xs,SqT X.K H p xs∧k = !xs.isEmpty) ∨ ∃ kvs,H p=some (.dK kvs)∧k = !kvs.isEmpty:=e
  rcases e' with ⟨xs,hx,e'⟩ | ⟨xs,hx,e'⟩ | ⟨kvs,hx,e'⟩
  ·subst e'
   obtain ⟨its,r,pl,hz⟩:=I.list hx
   have hlen:=r.length
   exact wpAny_truthy_list pl.isList (by simp only [List.size_toArray];omega) ⟨H,I.tok _,by rw [isEmpty_of r];exact q⟩
  ·subst e'
   obtain ⟨its,r,pl,hz⟩:=I.tuple hx
   have hlen:=r.length
   exact truthy_tuple pl (by simp only [List.size_toArray];omega) ⟨H,I.tok _,by rw [isEmpty_of r];exact q⟩
  ·subst e'
   obtain ⟨hz,hS,vs,r,m⟩:kvs.length ≤ sizeLine∧(p == sysModules)=false∧∃ vs,KV kvs vs∧s.heap.DictOf (mixKind X.prog X.w) p vs:=I.hok p _ hx
   have hlen:kvs.length=vs.length:=Paired.length r
   exact wpAny_truthy_dict hS m (by omega) ⟨H,I.tok _,by rw [isEmpty_kv r];exact q⟩
 | _=>exact (show False from e).elim
theorem pt_truth (ha:PE X a ta)(he:∀ whole,isTrue a X.env whole=(do let v ← whole;standAt a.pos;holding [v] (truthy v))) :
  PT X a (fun σ H Q=>ta σ H fun x H'=>∃ k,TruV X.K x H' k∧Q k H'):=by
 intro pins s σ H Q I h
 exact isTrue_plain (thn (ha pins s σ H _ I h) fun v s1 ⟨x,H1,I1,r1,q1⟩=>tru_ok pins s1 σ H1 x v Q I1 r1 q1) (he _)
theorem op_add_str:OpR X (binaryOp .Add) (fun x y H Q=>∃ i j,x = .str i∧y = .str j∧i.length + j.length ≤ sizeLine∧Q (.str (i ++ j)) H):=by
 intro pins s σ H x y v u Q I rx ry h
 obtain ⟨i,j,rfl,rfl,hz,q⟩:=h
 obtain ⟨t,rfl⟩:=rx
 obtain ⟨t',rfl⟩:=ry
 exact add_str (fun t' tk=>⟨.str (i ++ j),H,I.tok _,⟨_,rfl⟩,q⟩) hz
theorem vals1 {x:V}{us:List Value}(r:Vals [x] us):∃ u,us=[u]∧RelV x u:=by
 cases r with
 | cons r1 r2=>cases r2;exact ⟨_,rfl,r1⟩
theorem vals2 {x y:V}{us:List Value}(r:Vals [x,y] us):∃ u w',us=[u,w']∧RelV x u∧RelV y w':=by
 cases r with
 | cons r1 r2 =>
  cases r2 with
  | cons r3 r4=>cases r4;exact ⟨_,_,rfl,r1,r3⟩
theorem call_max2 (hc:X.calm=true):CallR X (.builtin "max") (fun xs H Q=>∃ i j,xs=[.int i,.int j]∧Q (.int (if j > i then j else i)) H):=by
 intro pins s σ H xs us Q I r h
 obtain ⟨i,j,rfl,q⟩:=h
 obtain ⟨u,w',rfl,⟨t,rfl⟩,⟨t',rfl⟩⟩:=vals2 r
 refine max_two_ints (I.ok.hd hc) fun h' tk k=>⟨_,H,I.kept k,?_,q⟩
 by_cases hj:j > i
 ·rw [if_pos hj,if_pos hj];exact ⟨_,rfl⟩
 ·rw [if_neg hj,if_neg hj];exact ⟨_,rfl⟩
theorem call_min2 (hc:X.calm=true):CallR X (.builtin "min") (fun xs H Q=>∃ i j,xs=[.int i,.int j]∧Q (.int (if j < i then j else i)) H):=by
 intro pins s σ H xs us Q I r h
 obtain ⟨i,j,rfl,q⟩:=h
 obtain ⟨u,w',rfl,⟨t,rfl⟩,⟨t',rfl⟩⟩:=vals2 r
 refine min_two_ints (I.ok.hd hc) fun h' tk k=>⟨_,H,I.kept k,?_,q⟩
 by_cases hj:j < i
 ·rw [if_pos hj,if_pos hj];exact ⟨_,rfl⟩
 ·rw [if_neg hj,if_neg hj];exact ⟨_,rfl⟩
theorem call_int1:CallR X (.type "int") (fun xs H Q=>(∃ i,xs=[.int i]∧Q (.int i) H) ∨ ∃ k,xs=[.bl k]∧Q (.int (if k then 1 else 0)) H):=by
 intro pins s σ H xs us Q I r h
 rcases h with ⟨i,rfl,q⟩ | ⟨k,rfl,q⟩
 ·obtain ⟨u,rfl,t,rfl⟩:=vals1 r
  exact call_int_int ⟨.int i,H,I,⟨_,rfl⟩,q⟩
 ·obtain ⟨u,rfl,r1⟩:=vals1 r
  cases r1
  exact call_int_bool ⟨.int (if k then 1 else 0),H,I.tok _,⟨_,rfl⟩,q⟩
theorem call_str_int:CallR X (.type "str") (fun xs H Q=>∃ i,xs=[.int i]∧i.natAbs.log2 < 1920∧Q (.str (toString i)) H):=by
 intro pins s σ H xs us Q I r h
 obtain ⟨i,rfl,hz,q⟩:=h
 obtain ⟨u,rfl,t,rfl⟩:=vals1 r
 exact PySem.P.str_of_int hz ⟨.str _,H,I.tok _,⟨_,rfl⟩,q⟩
def LenV (K:PySem.W.Frag)(x:V)(H:Hp)(n:Nat):Prop :=
 match x with
 | .str y=>y.length ≤ sizeLine∧n=y.length
 | .byt y=>y.size ≤ sizeLine∧n=y.size
 | .ref p=>(∃ xs,SqL K H p xs∧n=xs.length) ∨ ∃ xs,SqT K H p xs∧n=xs.length
 | _=>False
theorem call_len:CallR X (.builtin "len") (fun xs H Q=>∃ x n,xs=[x]∧LenV X.K x H n∧Q (.int n) H):=by
 intro pins s σ H xs us Q I r h
 obtain ⟨x,n,rfl,e,q⟩:=h
 obtain ⟨u,rfl,rx⟩:=vals1 r
 have hl:=line63
 have hs:sizeLine=16777216:=sizeLine_eq
 cases x with
 | str y =>
  obtain ⟨t,rfl⟩:=rx
  obtain ⟨hy,e'⟩:y.length ≤ sizeLine∧n=y.length:=e
  subst e'
  exact len_str (by omega) ⟨.int _,H,I.tok _,⟨_,rfl⟩,q⟩
 | byt y =>
  obtain ⟨t,rfl⟩:=rx
  obtain ⟨hy,e'⟩:y.size ≤ sizeLine∧n=y.size:=e
  subst e'
  exact PySem.W.len_bytes (by omega) ⟨.int _,H,I.tok _,⟨_,rfl⟩,q⟩
 | ref p =>
  cases rx
  have e':(∃ xs,SqL X.K H p xs∧n=xs.length) ∨ ∃ xs,SqT X.K H p xs∧n=xs.length:=e
  rcases e' with ⟨xs,hx,e'⟩ | ⟨xs,hx,e'⟩
  ·subst e'
   obtain ⟨its,r',pl,hz⟩:=I.list hx
   have hlen:=r'.length
   exact Calls.call_len_list pl.isList (by simp only [List.size_toArray];omega) ⟨.int xs.length,H,I.tok _,⟨_,by simp only [List.size_toArray];rw [hlen]⟩,q⟩
  ·subst e'
   obtain ⟨its,r',pl,hz⟩:=I.tuple hx
   have hlen:=r'.length
   exact len_tuple pl (by simp only [List.size_toArray];omega) ⟨.int xs.length,H,I.tok _,⟨_,by simp only [List.size_toArray];rw [hlen]⟩,q⟩
 | _=>exact (show False from e).elim
end
end L2
namespace L2
open PySem PySem.Spec PyProof.Rows
structure ObjM (h:Heap)(x dx C:Addr)(mA:Str→Option Value):Prop where
 obj:h.get? x=some (PySem.W.instObj C dx)
 ns:h.Ns1 dx mA
 ne:dx≠x
theorem lookIn_ns {h:Heap}{dx:Addr}{mA:Str→Option Value}(n:h.Ns1 dx mA):∃ od,h.get? dx=some od∧∀ name,PySem.W.lookIn name od=some (mA name):=by
 obtain ⟨o,es,ep,ho,hd,hk,_,hm⟩:=n
 refine ⟨o,ho,fun name=>?_⟩
 have e:=hm name
 unfold nsFind findBy at e
 rw [← Array.find?_toList] at e
 unfold PySem.W.lookIn
 rw [hd]
 dsimp only
 split
 ·rename_i y q
  rw [q] at e
  exact congrArg some e
 ·rename_i q
  rw [q] at e
  have a:es.toList.any (·.refKey)=false:=by
   rw [List.any_eq_false]
   intro y hy
   obtain ⟨z,t,hkey⟩:=hk y (Array.mem_toList_iff.mp hy)
   simp [DictEntry.refKey,hkey]
  have a':¬ es.toList.any (·.refKey)=true:=by rw [a];exact Bool.false_ne_true
  rw [if_neg a']
  exact congrArg some e
theorem ObjM.look {h:Heap}{x dx C:Addr}{mA:Str→Option Value}(I:ObjM h x dx C mA):∃ od,PySem.W.InstAt h x (PySem.W.instObj C dx) C (some od)∧∀ name,PySem.W.lookIn name od=some (mA name) :=
 let ⟨od,ho,hl⟩:=lookIn_ns I.ns
 ⟨od,⟨I.obj,rfl,rfl,ho⟩,hl⟩
section
variable {prog:Program}{w:World}{A:Around}{E:Value→Shared→Prop}{s:Shared}{K:PySem.W.Frag}{x dx C f:Addr}{mA:Str→Option Value}{name:Str}{v:Value}
theorem get_map {expr:Bool}{Q:Value→Shared→Prop}(X:K.In s.heap)(I:ObjM s.heap x dx C mA)(hg:PySem.W.plainGet K C name=true)(hh:PySem.W.hasDictIn K C=true)
  (ha:PySem.W.findIn K (.ref C) name=some none) (hv:mA name=some v) (hv':PySem.W.handedIn v=true) (h:Q v { s with toks:=s.toks + 1 }) :
  wpAny (model prog w) A (getAttr (.ref x) name expr) Q E s:=by
 obtain ⟨od,J,hl⟩:=I.look
 exact PySem.W.get_value X J (PySem.W.plainGet_of hg).1 (PySem.W.findObj_own hh ha rfl (by rw [hl,hv])) hv' h
theorem get_meth {pl:Sem Bool}{Q:Value × List Value→Shared→Prop}(X:K.In s.heap)(I:ObjM s.heap x dx C mA)(hg:PySem.W.plainGet K C name=true)
  (hf:PySem.W.findIn K (.ref C) name=some (some (.ref f))) (ht:PySem.W.isFn K (.ref f)=true) (hv:mA name=none) (h:Q (.ref f,[.ref x]) s) :
  wpAny (model prog w) A (getMethod (.ref x) name pl) Q E s:=by
 obtain ⟨od,J,hl⟩:=I.look
 exact PySem.W.method_fn X J (PySem.W.plainGet_of hg).1 (PySem.W.plainGet_of hg).2 hf (beq_iff_eq.mp ht) (by show (PySem.W.lookIn name od).map (·.isSome)=some false;rw [hl,hv];rfl) h
theorem set_map {ns:List Str}{Q:Unit→Shared→Prop}(X:K.In s.heap)(I:ObjM s.heap x dx C mA)
  (hs:PySem.W.findIn K (.ref C) "__setattr__" = some (some (.builtin "object.__setattr__"))) (hp:PySem.W.plainOver K C=true) (ht:PySem.W.takerIn K C name=some none) (hh:PySem.W.hasDictIn K C=true)
  (hw:PySem.Within mA ns) (hsz:ns.length ≤ sizeLine)
  (h:∀ h',ObjM h' x dx C (fun y=>if y=name then some v else mA y)→Heap.SameBut dx s.heap h'→Q () { s with heap:=h',toks:=s.toks + 2 }) :
  wpAny (model prog w) A (setAttr (.ref x) name v) Q E s:=by
 obtain ⟨od,J,hl⟩:=I.look
 refine PySem.W.set_plain X J hs (PySem.W.osa_open (s:={ s with toks:=s.toks + 1 }) (r:=none) X J hp ht fun b=>?_)
 obtain ⟨cd,hc,hd'⟩:=PySem.W.any_some hh
 have hx:s.heap.get? x=some ⟨.ref C,some dx,.plain,#[]⟩:=I.obj
 refine wpAny_bind (wpAny_pure (wpAny_bind (wpAny_bind (wpAny_loadPart hx (wpAny_bind (PySem.W.Looks.here (s:={ s with toks:=s.toks + 1 }) (PySem.W.looks_clsIn X hc) ?_))))))
 rw [hd']
 refine wpAny_pure (a:=some dx) (wpAny_bind (wpAny_pure (wpAny_bind ?_)))
 refine wpAny_nsSet1 (s:={ s with toks:=s.toks + 1 }) I.ns fun h' hn2 hs2=>?_
 obtain ⟨oD,esD,epD,hoD,hdD,hcD⟩:=hn2.count (PySem.Within.cons name v hw)
 refine wpAny_bind (wpAny_lookBehind hoD (by rw [hdD];exact pastItsLine_dict (Nat.le_trans hcD (by rw [List.length_cons];omega))) ?_)
 exact wpAny_pure (h _ ⟨(hs2.2 _ (Ne.symm I.ne)).trans I.obj,hn2,I.ne⟩ hs2)
theorem make_map {R:Result→Shared→Prop}{vs:List Value}{kw:List (Str × Value)}(X:K.In s.heap)(hm:PySem.W.makesIn K C=true)
  (hi:PySem.W.findIn K (.ref C) "__init__" = some (some (.ref f))) (hf:PySem.W.typeIn K (.ref f)=some (.type "function"))
  (h:codeAny (model prog w) (A.under (.builtin "type.__call__" ⟨.ref C :: vs,kw⟩)) (.call (.ref f) ⟨.ref (s.heap.objs.size + 1) :: vs,kw⟩) (PySem.W.InitBack (s.heap.objs.size + 1) R)
   { s with heap:=(s.heap.push PySem.W.emptyDict).push (PySem.W.instObj C s.heap.objs.size) }) :
  codeAny (model prog w) A (.call (.ref C) ⟨vs,kw⟩) R s:=by
 obtain ⟨hh,g,d,t,os⟩:=s
 exact PySem.W.make_core (PySem.W.makes_of X hm) (PySem.W.looks_findIn X hi) (fun self=>PySem.W.bind_fn X self hf) (.inl rfl) h
end
def putF (f:Str)(v:V):List (Str × V)→List (Str × V)
 | []=>[(f,v)]
 | (g,x) :: r=>if g=f then (g,v) :: r else (g,x) :: putF f v r
theorem lookup_putF (f g:Str)(v:V):∀ fs:List (Str × V),(putF f v fs).lookup g=if g=f then some v else fs.lookup g
 | []=>by
  show List.lookup g [(f,v)]=_
  by_cases h:g=f
  ·have hb:(g == f)=true:=beq_iff_eq.mpr h
   simp only [List.lookup,hb,if_pos h]
  ·have hb:(g == f)=false:=beq_eq_false_iff_ne.mpr h
   simp only [List.lookup,hb,if_neg h]
 | (k,x) :: r=>by
  have ih:=lookup_putF f g v r
  rw [show putF f v ((k,x) :: r)=(if k=f then (k,v) :: r else (k,x) :: putF f v r) from rfl]
  by_cases hk:k=f
  ·rw [if_pos hk]
   by_cases h:g=k
   ·have hb:(g == k)=true:=beq_iff_eq.mpr h
    simp only [List.lookup,hb,if_pos (h.trans hk)]
   ·have hb:(g == k)=false:=beq_eq_false_iff_ne.mpr h
    simp only [List.lookup,hb,if_neg (fun e:g=f=>h (e.trans hk.symm))]
  ·rw [if_neg hk]
   by_cases h:g=k
   ·have hb:(g == k)=true:=beq_iff_eq.mpr h
    simp only [List.lookup,hb,if_neg (fun e:g=f=>hk (h.symm.trans e))]
   ·have hb:(g == k)=false:=beq_eq_false_iff_ne.mpr h
    simp only [List.lookup,hb]
    exact ih
theorem keys_putF (f:Str)(v:V):∀ fs:List (Str × V),f∈(putF f v fs).map (·.1)∧∀ g,g∈fs.map (·.1)→g∈(putF f v fs).map (·.1)
 | []=>⟨by simp [putF],fun g h=>by simp at h⟩
 | (k,x) :: r=>by
  obtain ⟨i1,i2⟩:=keys_putF f v r
  rw [show putF f v ((k,x) :: r)=(if k=f then (k,v) :: r else (k,x) :: putF f v r) from rfl]
  by_cases hk:k=f
  ·rw [if_pos hk]
   subst hk
   exact ⟨by simp,fun g h=>by simpa using h⟩
  ·rw [if_neg hk]
   refine ⟨?_,fun g h=>?_⟩
   ·rw [List.map_cons]
    exact List.mem_cons_of_mem _ i1
   ·rw [List.map_cons] at h ⊢
    rcases List.mem_cons.mp h with e | e
    ·exact List.mem_cons.mpr (.inl e)
    ·exact List.mem_cons_of_mem _ (i2 g e)
theorem length_putF (f:Str)(v:V):∀ fs:List (Str × V),(putF f v fs).length ≤ fs.length + 1
 | []=>by simp [putF]
 | (k,x) :: r=>by
  have ih:=length_putF f v r
  rw [show putF f v ((k,x) :: r)=(if k=f then (k,v) :: r else (k,x) :: putF f v r) from rfl]
  by_cases hk:k=f
  ·rw [if_pos hk,List.length_cons,List.length_cons];omega
  ·rw [if_neg hk,List.length_cons,List.length_cons];omega
theorem RelO.some_of {v:V}{o:Option Value}(r:RelO (some v) o):∃ u,o=some u∧RelV v u:=by
 cases o with
 | none=>exact (show False from r).elim
 | some u=>exact ⟨u,rfl,r⟩
theorem RelO.none_of {o:Option Value}(r:RelO none o):o=none:=by
 cases o with
 | none=>rfl
 | some u=>exact (show False from r).elim
theorem handed_of {v:V}{u:Value}(r:RelV v u):PySem.W.handedIn u=true:=by
 cases v with
 | non=>cases (show u=Value.none from r);rfl
 | bl b=>cases (show u=Value.bool b from r);rfl
 | int i=>obtain ⟨t,e⟩:=(show ∃ t,u=Value.int i t from r);cases e;rfl
 | str x=>obtain ⟨t,e⟩:=(show ∃ t,u=Value.str x t from r);cases e;rfl
 | byt b=>obtain ⟨t,e⟩:=(show ∃ t,u=Value.bytes b t from r);cases e;rfl
 | flt b=>obtain ⟨t,e⟩:=(show ∃ t,u=Value.float b t from r);cases e;rfl
 | ref a=>cases (show u=Value.ref a from r);rfl
 | ty n=>cases (show u=Value.type n from r);rfl
section
variable {P:Program}{w:World}{H H':Hp}{h h':Heap}{a C dx:Addr}{fs fs':List (Str × V)}
theorem ins_get (hok:HOk P w H h)(e:H a=some (.ins C dx fs)):∃ mA,ObjM h a dx C mA∧(∀ f,RelO (fs.lookup f) (mA f))∧PySem.Within mA (fs.map (·.1))∧fs.length ≤ 1000∧H dx=some (.own a):=by
 obtain ⟨d,z,ne,ob,mA,n,r,q⟩:=(show ObjOk P w H h a (.ins C dx fs) from hok a _ e)
 exact ⟨mA,⟨ob,n,ne⟩,r,q,z,d⟩
end
structure Cls (K:PySem.W.Frag)(C:Addr):Prop where
 pg:PySem.W.plainGet K C Str.empty=true
 hd:PySem.W.hasDictIn K C=true
 po:PySem.W.plainOver K C=true
 sa:PySem.W.findIn K (.ref C) "__setattr__" = some (some (.builtin "object.__setattr__"))
theorem Cls.get {K:PySem.W.Frag}{C:Addr}(c:Cls K C)(f:Str):PySem.W.plainGet K C f=true:=c.pg
def NoAttr (K:PySem.W.Frag)(C:Addr)(f:Str):Prop:=PySem.W.findIn K (.ref C) f=some none
theorem NoAttr.taker {K:PySem.W.Frag}{C:Addr}{f:Str}(n:NoAttr K C f):PySem.W.takerIn K C f=some none:=by
 unfold PySem.W.takerIn
 rw [show PySem.W.findIn K (.ref C) f=some none from n]
 rfl
structure Meth (K:PySem.W.Frag)(C:Addr)(m:Str)(f:Addr):Prop where
 at_:PySem.W.findIn K (.ref C) m=some (some (.ref f))
 fn:PySem.W.isFn K (.ref f)=true
 kp:PySem.W.keepIn K (.ref f)=true
section
variable {X:Cx}{pins:List (Addr × Obj)}{σ:St}{H:Hp}{s:Shared}{a C dx:Addr}{fs:List (Str × V)}{f:Str}{v:V}{A:Around}{E:Value→Shared→Prop}
theorem getattr_ok {b:Bool}{Q:Value→Shared→Prop}(I:Inv X pins σ H s)(e:H a=some (.ins C dx fs))(c:Cls X.K C)(n:NoAttr X.K C f)(l:fs.lookup f=some v)
  (h:∀ u s',Inv X pins σ H s'→RelV v u→Q u s'):wpAny (model X.prog X.w) A (getAttr (.ref a) f b) Q E s:=by
 obtain ⟨mA,O,r,_,_,_⟩:=ins_get I.hok e
 obtain ⟨u,hu,ru⟩:=RelO.some_of (v:=v) (o:=mA f) (by rw [← l];exact r f)
 exact get_map I.kIn O (c.get f) c.hd n hu (handed_of ru) (h u _ (I.tok _) ru)
theorem getmeth_ok {m:Str}{g:Addr}{pl:Sem Bool}{Q:Value × List Value→Shared→Prop}(I:Inv X pins σ H s)(e:H a=some (.ins C dx fs))(c:Cls X.K C)(k:Meth X.K C m g)(l:fs.lookup m=none)
  (h:Q (.ref g,[.ref a]) s):wpAny (model X.prog X.w) A (getMethod (.ref a) m pl) Q E s:=by
 obtain ⟨mA,O,r,_,_,_⟩:=ins_get I.hok e
 have hn:mA m=none:=RelO.none_of (by rw [← l];exact r m)
 exact get_meth I.kIn O (c.get m) k.at_ k.fn hn h
theorem setattr_ok {y:V}{u:Value}{Q:Unit→Shared→Prop}(I:Inv X pins σ H s)(e:H a=some (.ins C dx fs))(c:Cls X.K C)(n:NoAttr X.K C f)(hl:fs.length < 1000)(ry:RelV y u)
  (h:∀ s',Inv X pins σ (upd H a (.ins C dx (putF f y fs))) s'→Q () s'):wpAny (model X.prog X.w) A (setAttr (.ref a) f u) Q E s:=by
 obtain ⟨mA,O,r,wi,_,ho⟩:=ins_get I.hok e
 have hz:(fs.map (·.1)).length ≤ sizeLine:=by rw [List.length_map,sizeLine_eq];omega
 refine set_map I.kIn O c.sa c.po n.taker c.hd wi hz fun h' O' sb=>h _ ?_
 have hd:∃ o,h'.get? dx=some o:=let ⟨o,_,_,e',_⟩:=O'.ns;⟨o,e'⟩
 refine I.write (x:=a) (e:=dx) (by rw [e];exact True.intro) (.inr ho) (fun b q hb z=>(sb.2 b hb).trans z) hd ?_
 refine ⟨by rw [upd_ne O.ne];exact ho,?_,O.ne,O'.obj,_,O'.ns,fun g=>?_,fun g hg=>?_⟩
 ·have:=length_putF f y fs;omega
 ·show RelO ((putF f y fs).lookup g) (if g=f then some u else mA g)
  rw [lookup_putF]
  by_cases q:g=f
  ·rw [if_pos q,if_pos q];exact ry
  ·rw [if_neg q,if_neg q];exact r g
 ·by_cases q:g=f
  ·rw [q];exact (keys_putF f y fs).1
  ·refine (keys_putF f y fs).2 g (wi g fun z=>hg ?_)
   show (if g=f then some u else mA g)=none
   rw [if_neg q];exact z
theorem Inv.made (I:Inv X pins σ H s):Inv X pins σ (upd (upd H s.heap.objs.size (.own (s.heap.objs.size + 1))) (s.heap.objs.size + 1) (.ins C s.heap.objs.size []))
  { s with heap:=(s.heap.push PySem.W.emptyDict).push (PySem.W.instObj C s.heap.objs.size) }:=by
 have e1:(s.heap.push PySem.W.emptyDict).get? s.heap.objs.size=some PySem.W.emptyDict:=Heap.get?_push_size s.heap rfl
 have e2:((s.heap.push PySem.W.emptyDict).push (PySem.W.instObj C s.heap.objs.size)).get? (s.heap.objs.size + 1)=some (PySem.W.instObj C s.heap.objs.size):=by
  have:=Heap.get?_push_size (s.heap.push PySem.W.emptyDict) (o:=PySem.W.instObj C s.heap.objs.size) rfl
  rwa [Heap.size_push] at this
 have e3:(s.heap.push PySem.W.emptyDict).Ns s.heap.objs.size (fun _=>none):=⟨PySem.W.emptyDict,#[],_,e1,rfl,(fun e he=>absurd he (by simp)),fun _=>rfl⟩
 have I1:=I.laid (a:=s.heap.objs.size) (o:=.own (s.heap.objs.size + 1)) (h':=s.heap.push PySem.W.emptyDict) (t':=s.toks) (fun b u q=>Heap.get?_push_of_some _ q) (Nat.le_refl _) ⟨_,e1⟩
 refine I1.laid (a:=s.heap.objs.size + 1) (o:=.ins C s.heap.objs.size []) (t':=s.toks) (fun b u q=>Heap.get?_push_of_some _ q) (Nat.le_of_eq (Heap.size_push _ _)) ?_
 have ne:s.heap.objs.size ≠ s.heap.objs.size + 1:=Nat.ne_of_lt (Nat.lt_succ_self _)
 refine ⟨by rw [upd_ne ne,upd_same],Nat.zero_le _,ne,e2,fun _=>none,(Heap.Ns1.of_empty e3).at fun o q=>Heap.get?_push_of_some _ q,fun _=>True.intro,fun y hy=>absurd rfl hy⟩
theorem attr_of {prog:Program}{w:World}{env:Env}{e:Expr}{f:Str}{pos:Pos}{s:Shared}{Q:Value→Shared→Prop}(hb:attributeBase e f env (eval e env)=eval e env)
  (h:wpAny (model prog w) A (eval e env) (fun o s₁=>wpAny (model prog w) A (getAttr o f true) Q E s₁) E s):wpAny (model prog w) A (eval (.Attribute e f pos) env) Q E s :=
 Attribute_any_ h (by rw [arm_eval_Attribute,hb])
end
def tFld (K:PySem.W.Frag)(ta:TE)(f:Str):TE:=fun σ H Q=>ta σ H fun x H1=>∃ a C dx fs v,x = .ref a∧H1 a=some (.ins C dx fs)∧Cls K C∧NoAttr K C f∧fs.lookup f=some v∧Q v H1
def sFld (K:PySem.W.Frag)(ta tv:TE)(f:Str):TS:=fun D σ H=>tv σ H fun y H1=>ta σ H1 fun x H2=>∃ a C dx fs,x = .ref a∧H2 a=some (.ins C dx fs)∧Cls K C∧NoAttr K C f∧fs.length < 1000 ∧
 D.nx σ (upd H2 a (.ins C dx (putF f y fs)))
section
variable {X:Cx}{o e value:Expr}{f:Str}{pos pos' tpos:Pos}{ta tv:TE}
theorem pe_fld (he:PE X e ta)(hb:attributeBase e f X.env (eval e X.env)=eval e X.env):PE X (.Attribute e f pos) (tFld X.K ta f):=by
 intro pins s σ H Q I h
 refine attr_of hb (thn (he pins s σ H _ I h) fun u s1 ⟨x,H1,I1,rx,a,C,dx,fs,v,ex,ea,c,n,l,q⟩=>?_)
 subst ex
 obtain rfl:u=Value.ref a:=rx
 exact getattr_ok I1 ea c n l fun u' s2 I2 ru=>⟨v,H1,I2,ru,q⟩
theorem ps_fld (ha:PE X o ta)(hv:PE X value tv)(hs:swapsWith value (some (.Attribute o f pos')) pos.line X.env=pure false):PS X (.Assign [.Attribute o f pos'] value pos) (sFld X.K ta tv f):=by
 intro pins s σ H D I h
 refine plainObj_wpAny_Assign_Attribute (thn (hv pins s σ H _ I h) fun u s1 ⟨y,H1,I1,ry,q⟩=>thn (ha pins s1 σ H1 _ I1 q) fun ov s2 ⟨x,H2,I2,rx,a,C,dx,fs,ex,ea,c,n,l,q2⟩=>?_) hs
 subst ex
 obtain rfl:ov=Value.ref a:=rx
 exact setattr_ok I2 ea c n l ry fun s3 I3=>⟨σ,_,I3,q2⟩
theorem methcall_of {pl:Sem Bool}{m:Str}{apos:Pos}{args:List Expr}{pins:List (Addr × Obj)}{s:Shared}{σ:St}{H:Hp}{Q:Value→Shared→Prop}{te:TE}(he:PE X e te)(I:Inv X pins σ H s)
  (h:te σ H fun x H1=>∃ a C dx fs g,x = .ref a∧H1 a=some (.ins C dx fs)∧Cls X.K C∧Meth X.K C m g∧fs.lookup m=none ∧
   ∀ s1,Inv X pins σ H1 s1→wpAny (model X.prog X.w) X.A (callWith pos (.ref g) [.ref a] (backTo pos (starEach args X.env)) (backToKw pos (keywordEach [] X.env))) Q X.xe s1)
  (ht:eval (.Call (.Attribute e m apos) args [] pos) X.env=(do
   let ov ← eval e X.env
   standAt apos.atName
   let (f,first) ← holding [ov] (getMethod ov m pl)
   callWith pos f first (backTo pos (starEach args X.env)) (backToKw pos (keywordEach [] X.env)))) :
  wpAny (model X.prog X.w) X.A (eval (.Call (.Attribute e m apos) args [] pos) X.env) Q X.xe s:=by
 refine PySem.W.methodCall_KW (pl:=pl) (thn (he pins s σ H _ I h) fun u s1 ⟨x,H1,I1,rx,a,C,dx,fs,g,ex,ea,c,k,l,q⟩=>?_) ht
 subst ex
 obtain rfl:u=Value.ref a:=rx
 exact getmeth_ok I1 ea c k l (q s1 I1)
end
section
variable {X:Cx}{pins:List (Addr × Obj)}{σ:St}{H:Hp}{s:Shared}{A:Around}{E:Value→Shared→Prop}{Q:Value→Shared→Prop}{c:Value}{b:Bool}
inductive TyOf (K:PySem.W.Frag)(H:Hp):V→Value→Prop where
 | non:TyOf K H .non (.type "NoneType")
 | bl (x:Bool):TyOf K H (.bl x) (.type "bool")
 | int (i:Int):TyOf K H (.int i) (.type "int")
 | str (x:Str):TyOf K H (.str x) (.type "str")
 | flt (x:UInt64):TyOf K H (.flt x) (.type "float")
 | lst {a:Addr} {xs:List V} (e:H a=some (.lst xs)):TyOf K H (.ref a) (.type "list")
 | frz {a:Addr} {o:Obj} {xs:List V} (e:H a=some (.frz o (.lst xs))):TyOf K H (.ref a) (.type "list")
 | tup {a:Addr} {xs:List V} (e:H a=some (.tup xs)):TyOf K H (.ref a) (.type "tuple")
 | dK {a:Addr} {kvs:List (Key × V)} (e:H a=some (.dK kvs)):TyOf K H (.ref a) (.type "dict")
 | dT {a:Addr} {kvs:List (List Key × V)} (e:H a=some (.dT kvs)):TyOf K H (.ref a) (.type "dict")
 | ins {a C dx:Addr} {fs:List (Str × V)} (e:H a=some (.ins C dx fs)) (cl:Cls K C) (ha:PySem.W.findIn K (.ref C) "__class__" = some (some (.builtin "object.__class__")))
   (hn:PySem.W.specialIn K (.builtin "object.__class__") "__get__" = some (some (.builtin "getset_descriptor.__get__"))) (htk:PySem.W.takesIn K (.builtin "object.__class__")=some true)
   (hm:PySem.W.mroIn K C (.type "object")=some true):TyOf K H (.ref a) (.ref C)
theorem isinst_ok {x:V}{u t:Value}(I:Inv X pins σ H s)(rx:RelV x u)(ty:TyOf X.K H x t)(e:PySem.W.kitOne X.K t c=some b)(h:∀ tk,Q (.bool b) { s with toks:=tk }) :
  wpAny (model X.prog X.w) A (call (.builtin "isinstance") [u,c]) Q E s:=by
 cases ty with
 | non=>cases (show u=Value.none from rx);exact PySem.W.kia_one PySem.W.kitx_none I.kIn True.intro e (fun z=>nomatch z) h
 | bl y=>cases (show u=Value.bool y from rx);exact PySem.W.kia_one PySem.W.kitx_bool I.kIn True.intro e (fun z=>nomatch z) h
 | int i=>obtain ⟨t,q⟩:=(show ∃ t,u=Value.int i t from rx);cases q;exact PySem.W.kia_one PySem.W.kitx_int I.kIn True.intro e (fun z=>nomatch z) h
 | str y=>obtain ⟨t,q⟩:=(show ∃ t,u=Value.str y t from rx);cases q;exact PySem.W.kia_one PySem.W.kitx_str I.kIn True.intro e (fun z=>nomatch z) h
 | flt y=>obtain ⟨t,q⟩:=(show ∃ t,u=Value.float y t from rx);cases q;exact PySem.W.kia_one PySem.W.kitx_float I.kIn True.intro e (fun z=>nomatch z) h
 | @lst a xs ea =>
  cases (show u=Value.ref a from rx)
  obtain ⟨_,_,n,_,h1⟩:=(show ObjOk X.prog X.w H s.heap a (.lst xs) from I.hok a _ ea)
  exact PySem.W.kia_one PySem.W.kitx_list I.kIn ⟨_,h1,rfl⟩ e (fun z=>nomatch z) h
 | @frz a ob xs ea =>
  cases (show u=Value.ref a from rx)
  obtain ⟨_,_,_,n,_,h1⟩:=(show ObjOk X.prog X.w H s.heap a (.frz ob (.lst xs)) from I.hok a _ ea)
  exact PySem.W.kia_one PySem.W.kitx_list I.kIn ⟨_,h1,rfl⟩ e (fun z=>nomatch z) h
 | @tup a xs ea =>
  cases (show u=Value.ref a from rx)
  obtain ⟨_,_,_,p⟩:=(show ObjOk X.prog X.w H s.heap a (.tup xs) from I.hok a _ ea)
  obtain ⟨o,h1,h2,_⟩:=p
  exact PySem.W.kia_one PySem.W.kitx_tuple I.kIn ⟨o,h1,h2⟩ e (fun z=>nomatch z) h
 | @dK a kvs ea =>
  cases (show u=Value.ref a from rx)
  obtain ⟨_,_,vs,_,p⟩:=(show ObjOk X.prog X.w H s.heap a (.dK kvs) from I.hok a _ ea)
  obtain ⟨o,es,ep,h1,h2,_⟩:=p
  exact PySem.W.kia_one PySem.W.kitx_dict I.kIn ⟨o,h1,h2.1⟩ e (fun z=>nomatch z) h
 | @dT a kvs ea =>
  cases (show u=Value.ref a from rx)
  obtain ⟨_,_,xs,_,o,es,ep,h1,h2,_⟩:=(show ObjOk X.prog X.w H s.heap a (.dT kvs) from I.hok a _ ea)
  exact PySem.W.kia_one PySem.W.kitx_dict I.kIn ⟨o,h1,h2.1⟩ e (fun z=>nomatch z) h
 | @ins a C dx fs ea cl ha hn htk hm =>
  cases (show u=Value.ref a from rx)
  obtain ⟨mA,O,_⟩:=ins_get I.hok ea
  obtain ⟨od,J,_⟩:=O.look
  exact PySem.W.kia_one (PySem.W.kitx_own (cl.get _) cl.hd ha hn htk hm) I.kIn J e (fun z=>nomatch z) h
end
end L2
namespace L2
open PySem PySem.Spec PyProof.Rows
structure Room (k:Nat)(A:Around):Prop where
 hd:A.handled=none
 dp:A.depth + 3 * k + 5 < recursionLimit
 un:A.units + 16 * k + 200 < cLine
theorem Room.mono {j k:Nat}{A:Around}(r:Room k A)(h:j≤k):Room j A:=⟨r.hd,by have:=r.dp;omega,by have:=r.un;omega⟩
theorem Room.deeper {k:Nat}{A:Around}(r:Room (k + 1) A)(env:Env):Room k (A.deeper env) :=
 ⟨r.hd,by have:=r.dp;show A.depth + 1 + 3 * k + 5 < _;omega,by have:=r.un;show A.units + 3 + 16 * k + 200 < _;omega⟩
theorem make_depth {A:Around} {C:Addr} {us:List Value} {kw:List (Str × Value)}:(A.under (.builtin "type.__call__" ⟨.ref C :: us,kw⟩)).depth=A.depth + 1:=by
 first | rfl | simp [Around.under,Code.weight,Code.isCreation,Code.isGuard,Code.isCaller,Code.frames,Code.isFrame,guardIds]
theorem make_units {A:Around} {C:Addr} {us:List Value} {kw:List (Str × Value)}:(A.under (.builtin "type.__call__" ⟨.ref C :: us,kw⟩)).units=A.units + 1:=by
 first | rfl | simp [Around.under,Code.cUnits,Code.frames,Code.isFrame]
theorem Room.make {k:Nat} {A:Around} (r:Room (k + 1) A) (C:Addr) (us:List Value) (kw:List (Str × Value)):Room k (A.under (.builtin "type.__call__" ⟨.ref C :: us,kw⟩)) :=
 ⟨r.hd,by have:=r.dp;rw [make_depth];omega,by have:=r.un;rw [make_units];omega⟩
theorem Room.depth {k:Nat}{A:Around}(r:Room k A):A.depth < recursionLimit:=by have:=r.dp;omega
theorem Room.units {k:Nat}{A:Around}(r:Room k A):A.units + 64 < cLine:=by have:=r.un;omega
def tNil:TA:=fun _ H Q=>Q [] H
def tCons (ta:TE)(tr:TA):TA:=fun σ H Q=>ta σ H fun x H1=>tr σ H1 fun xs H2=>Q (x :: xs) H2
section
variable {X:Cx}{e:Expr}{es:List Expr}{te:TE}{t:TA}{pos:Pos}
theorem pa_nil:PA X [] tNil:=fun _ _ _ _ H Q I h=>Calls.spliced_nil ⟨[],H,I,.nil,h⟩
theorem pa_cons (ha:PE X e te)(hr:PA X es t)(hs:starEach (e :: es) X.env=(false,eval e X.env) :: starEach es X.env:=by rfl):PA X (e :: es) (tCons te t):=by
 intro pos pins s σ H Q I h
 rw [hs]
 show wpAny _ _ (spliced ((false,eval e X.env) :: backTo pos (starEach es X.env))) _ _ s
 refine Calls.spliced_cons (thn (ha pins s σ H _ I h) fun u s1 ⟨x,H1,I1,r1,q1⟩=>?_)
 exact thn (hr pos pins s1 σ H1 _ I1 q1) fun us s2 ⟨xs,H2,I2,r2,q2⟩=>⟨x :: xs,H2,I2,.cons r1 r2,q2⟩
def tTup (t:TA):TE:=fun σ H Q=>t σ H fun xs H1=>xs.length ≤ sizeLine∧∀ p,H1 p=none→Q (.ref p) (upd H1 p (.tup xs))
def tLst (t:TA):TE:=fun σ H Q=>t σ H fun xs H1=>xs.length ≤ sizeLine∧∀ p,H1 p=none→Q (.ref p) (upd H1 p (.lst xs))
theorem pe_tup {x1}(h:PA X es t):PE X (.Tuple es x1 pos) (tTup t):=by
 intro pins s σ H Q I hq
 refine wpAny_Tuple_spliced (thn (h pos pins s σ H _ I hq) fun us s1 ⟨xs,H1,I1,r,z,q⟩=>⟨by rw [← r.length];exact z,?_⟩)
 have hf:H1 s1.heap.objs.size=none:=I1.hok.fresh (Nat.le_refl _)
 refine ⟨.ref s1.heap.objs.size,upd H1 s1.heap.objs.size (.tup xs),I1.laid (t':=s1.toks) (fun b u e=>Heap.get?_push_of_some _ e) (Nat.le_refl _) ?_,rfl,q _ hf⟩
 exact ⟨z,us,r,⟨_,Heap.get?_push_size _ rfl,rfl,_,rfl⟩⟩
theorem pe_lst (h:PA X es t):PE X (.List es pos) (tLst t):=by
 intro pins s σ H Q I hq
 refine wpAny_List_spliced (thn (h pos pins s σ H _ I hq) fun us s1 ⟨xs,H1,I1,r,z,q⟩=>⟨by rw [← r.length];exact z,?_⟩)
 have hf:H1 s1.heap.objs.size=none:=I1.hok.fresh (Nat.le_refl _)
 refine ⟨.ref s1.heap.objs.size,upd H1 s1.heap.objs.size (.lst xs),I1.laid (t':=s1.toks) (fun b u e=>Heap.get?_push_of_some _ e) (Nat.le_refl _) ?_,rfl,q _ hf⟩
 exact ⟨z,us,0,r,Heap.get?_push_size _ rfl⟩
end
abbrev Sp:=List V→Hp→VK→XK→Prop
abbrev CXT:=List Env→Hp→Shared→XK→Value→Shared→Prop
structure Env0 (P:Program)(w:World)(K:PySem.W.Frag)(mg:Str→Option Value)(base:Heap)(A:Around)(outer:List Env)(s:Shared)(H:Hp):Prop where
 frames:A.frames=some outer
 mod:Mod K mg base
 bs:∀ b o,base.get? b=some o→s.heap.get? b=some o∧H b=none
 bsz:base.objs.size ≤ s.heap.objs.size
 funs:s.heap.FunFrames base outer
 frf:∀ b∈frs outer,H b=none
 hok:HOk P w H s.heap
 bare:AllBare s.gens
def CE (outer:List Env)(P:Program)(w:World)(H:Hp)(s:Shared)(Q:VK)(u:Value)(s':Shared):Prop :=
 ∃ v H',s'.os=s.os ∧ AllBare s'.gens ∧ Un (frs outer) [] H H' s.heap s'.heap ∧ HOk P w H' s'.heap ∧ RelV v u∧Q v H'
def CR (CX:CXT)(outer:List Env)(P:Program)(w:World)(H:Hp)(s:Shared)(Q:VK)(E:XK)(r:Result)(s':Shared):Prop :=
 match r with
 | .ok (.ret u)=>CE outer P w H s Q u s'
 | .ok _=>False
 | .error e=>CX outer H s E e s'
structure FnOk (P:Program)(w:World)(K:PySem.W.Frag)(mg:Str→Option Value)(base:Heap)(CX:CXT)(k:Nat)(f:Addr)(fd:FuncData)(ps:List Str)(sp:Sp):Prop where
 len:∀ vs H Q E,sp vs H Q E→vs.length=ps.length
 run:∀ (A:Around) (outer:List Env) (s:Shared) (H:Hp) (args:Args) (us:List Value) (vs:List V) (Q:VK) (E:XK),Room k A→Env0 P w K mg base A outer s H→BindsTo s fd args (ps.zip us)→Vals vs us→sp vs H Q E →
  codeAny (model P w) A (.call (.ref f) args) (CR CX outer P w H s Q E) s
theorem Env0.make {P:Program}{w:World}{K:PySem.W.Frag}{mg:Str→Option Value}{base:Heap}{A:Around}{outer:List Env}{s:Shared}{H:Hp}(e:Env0 P w K mg base A outer s H)(C:Addr)(us:List Value)(kw:List (Str × Value)) :
  Env0 P w K mg base (A.under (.builtin "type.__call__" ⟨.ref C :: us,kw⟩)) outer s H:=⟨by first | exact e.frames | (simpa [Around.under,Code.envs,Code.isFrame,pushEnvs] using e.frames),e.mod,e.bs,e.bsz,e.funs,e.frf,e.hok,e.bare⟩
section
variable {X:Cx}{pins:List (Addr × Obj)}{σ:St}{H:Hp}{s s':Shared}
theorem Inv.env0 (I:Inv X pins σ H s):Env0 X.prog X.w X.K X.mg X.base X.A X.stack s H :=
 ⟨I.ok.frames,I.ok.mod,I.bs,Nat.le_trans I.ok.bsz I.sz,I.stack,I.stkFree,I.hok,I.bare⟩
theorem Inv.after {Q:VK}{u:Value}(I:Inv X pins σ H s)(h:CE X.stack X.prog X.w H s Q u s'):EP X pins σ Q u s':=by
 obtain ⟨v,H',os,bare,un,hok,r,q⟩:=h
 obtain ⟨hh,g,d,t,os'⟩:=s'
 obtain rfl:os'=s.os:=os
 exact ⟨v,H',I.call (h':=hh) (g':=g) (d':=d) (t':=t) (ch:=[]) un hok bare (fun b z=>absurd z (by simp)),r,q⟩
end
def tCall (sp:Sp)(dvs:List V)(E:XK)(t:TA):TE:=fun σ H Q=>t σ H fun vs H1=>sp (vs ++ dvs) H1 Q E
def tMeth (C:Addr)(m:Str)(sp:Sp)(dvs:List V)(E:XK)(ta:TE)(t:TA):TE:=fun σ H Q=>ta σ H fun x H1=>∃ a dx fs,x = .ref a∧H1 a=some (.ins C dx fs)∧fs.lookup m=none ∧
 t σ H1 fun vs H2=>sp (x :: (vs ++ dvs)) H2 Q E
def tMake (C:Addr)(sp:Sp)(dvs:List V)(E:XK)(t:TA):TE:=fun σ H Q=>t σ H fun vs H1=>∀ x dx,H1 x=none→H1 dx=none→dx≠x →
 sp (.ref x :: (vs ++ dvs)) (upd (upd H1 dx (.own x)) x (.ins C dx [])) (fun v H2=>v = .non ∧ Q (.ref x) H2) E
def Binds (K:PySem.W.Frag)(fd:FuncData)(ps:List Str)(ds:List Value):Prop :=
 ∀ (s:Shared) (us:List Value),K.In s.heap → (us ++ ds).length=ps.length → BindsTo s fd ⟨us,[]⟩ (ps.zip (us ++ ds))
theorem Binds.all {K:PySem.W.Frag}{fd:FuncData}{ps:List Str}(h:∀ us:List Value,us.length=ps.length → bindArgs fd ⟨us,[]⟩=pure (ps.zip us)):Binds K fd ps []:=fun s us _ hl=>by
 rw [List.append_nil] at hl ⊢
 exact .of_eq (h us hl)
def Passes (CX:CXT)(X:Cx)(E:XK):Prop:=∀ (pins:List (Addr × Obj)) (σ:St) (H:Hp) (s:Shared) (e:Value) (s':Shared),Inv X pins σ H s→CX X.stack H s E e s'→X.xe e s'
section
variable {X:Cx}{CX:CXT}{k:Nat}{f C:Addr}{fd:FuncData}{ps:List Str}{sp:Sp}{dvs:List V}{ds:List Value}{E:XK}{x m:Str}{p pos apos:Pos}{e o:Expr}{es:List Expr}{ta:TE}{t:TA}
theorem run_fn {pins:List (Addr × Obj)}{σ:St}{H:Hp}{s:Shared}{Q:VK}{us:List Value}{vs:List V}(F:FnOk X.prog X.w X.K X.mg X.base CX k f fd ps sp)(hr:Room k X.A)(hb:Binds X.K fd ps ds)(hd:Vals dvs ds)(hx:Passes CX X E)
  (I:Inv X pins σ H s) (r:Vals vs us) (h:sp (vs ++ dvs) H Q E):wpAny (model X.prog X.w) X.A (call (.ref f) us) (EP X pins σ Q) X.xe s:=by
 have r2:Vals (vs ++ dvs) (us ++ ds):=r.append hd
 have hl:(us ++ ds).length=ps.length:=by rw [← r2.length];exact F.len _ _ _ _ h
 refine wpAny_call (codeAny_mono (F.run X.A X.stack s H ⟨us,[]⟩ (us ++ ds) (vs ++ dvs) Q E hr I.env0 (hb s us I.kIn hl) r2 h) fun r s' hq=>?_)
 cases r with
 | error e=>exact hx pins σ H s e s' I hq
 | ok fl =>
  cases fl with
  | ret u=>exact I.after hq
  | next=>exact False.elim hq
  | brk=>exact False.elim hq
  | cont=>exact False.elim hq
theorem pe_call (F:FnOk X.prog X.w X.K X.mg X.base CX k f fd ps sp)(hr:Room k X.A)(hg:Gl X x)(hm:X.mg x=some (.ref f))(hk:PySem.W.keepIn X.K (.ref f)=true)(hb:Binds X.K fd ps ds)(hd:Vals dvs ds)(hx:Passes CX X E)
  (ha:PA X (e :: es) t) (hdb:(x == ("__debug__" : Str))=false:=by decide) (he:starEach (e :: es) X.env=(false,eval e X.env) :: starEach es X.env:=by rfl) (hpl:(backTo pos (starEach es X.env)).any (·.1)=false:=by rfl) :
  PE X (.Call (.Name x p) (e :: es) [] pos) (tCall sp dvs E t):=by
 intro pins s σ H Q I h
 refine wpAny_Call_Name_kw (ld_glob I hg hm ?_ hdb)
 refine PySem.W.callWith_K (h₀:=X.base) I.ok.mod.kin hk (thn (ha pos pins s σ H _ I h) fun us s1 ⟨vs,H1,I1,r,q⟩=>⟨I1.kIn,?_⟩) he hpl
 exact run_fn F hr hb hd hx I1 r q
theorem pe_call0 (F:FnOk X.prog X.w X.K X.mg X.base CX k f fd ps sp)(hr:Room k X.A)(hg:Gl X x)(hm:X.mg x=some (.ref f))(hk:PySem.W.keepIn X.K (.ref f)=true)(hb:Binds X.K fd ps ds)(hd:Vals dvs ds)(hx:Passes CX X E)
  (hdb:(x == ("__debug__" : Str))=false:=by decide):PE X (.Call (.Name x p) [] [] pos) (tCall sp dvs E tNil):=by
 intro pins s σ H Q I h
 refine wpAny_Call_Name_kw (ld_glob I hg hm ?_ hdb)
 exact PySem.W.callWith_K0 I.kIn hk (run_fn (us:=[]) F hr hb hd hx I .nil h)
theorem pe_meth {pl:Sem Bool}(he:PE X o ta)(c:Cls X.K C)(hm:Meth X.K C m f)(F:FnOk X.prog X.w X.K X.mg X.base CX k f fd ps sp)(hr:Room k X.A)(hb:Binds X.K fd ps ds)(hd:Vals dvs ds)(hx:Passes CX X E)(ha:PA X (e :: es) t)
  (hst:starEach (e :: es) X.env=(false,eval e X.env) :: starEach es X.env:=by rfl) (hpl:(backTo pos (starEach es X.env)).any (·.1)=false:=by rfl)
  (ht:eval (.Call (.Attribute o m apos) (e :: es) [] pos) X.env=(do
   let ov ← eval o X.env
   standAt apos.atName
   let (f,first) ← holding [ov] (getMethod ov m pl)
   callWith pos f first (backTo pos (starEach (e :: es) X.env)) (backToKw pos (keywordEach [] X.env))):=by rfl) :
  PE X (.Call (.Attribute o m apos) (e :: es) [] pos) (tMeth C m sp dvs E ta t):=by
 intro pins s σ H Q I h
 refine PySem.W.methodCall_KW (pl:=pl) (thn (he pins s σ H _ I h) fun u s1 ⟨x,H1,I1,rx,a,dx,fs,ex,ea,l,q⟩=>?_) ht
 subst ex
 obtain rfl:u=Value.ref a:=rx
 refine getmeth_ok I1 ea c hm l ?_
 refine PySem.W.callWith_K (first:=[.ref a]) (h₀:=X.base) I.ok.mod.kin hm.kp (thn (ha pos pins s1 σ H1 _ I1 q) fun us s2 ⟨vs,H2,I2,r,q2⟩=>⟨I2.kIn,?_⟩) hst hpl
 exact run_fn (us:=.ref a :: us) (vs:=.ref a :: vs) F hr hb hd hx I2 (.cons rfl r) q2
theorem pe_meth0 {pl:Sem Bool}(he:PE X o ta)(c:Cls X.K C)(hm:Meth X.K C m f)(F:FnOk X.prog X.w X.K X.mg X.base CX k f fd ps sp)(hr:Room k X.A)(hb:Binds X.K fd ps ds)(hd:Vals dvs ds)(hx:Passes CX X E)
  (ht:eval (.Call (.Attribute o m apos) [] [] pos) X.env=(do
   let ov ← eval o X.env
   standAt apos.atName
   let (f,first) ← holding [ov] (getMethod ov m pl)
   callWith pos f first (backTo pos (starEach [] X.env)) (backToKw pos (keywordEach [] X.env))):=by rfl) :
  PE X (.Call (.Attribute o m apos) [] [] pos) (tMeth C m sp dvs E ta tNil):=by
 intro pins s σ H Q I h
 refine PySem.W.methodCall_KW (pl:=pl) (thn (he pins s σ H _ I h) fun u s1 ⟨x,H1,I1,rx,a,dx,fs,ex,ea,l,q⟩=>?_) ht
 subst ex
 obtain rfl:u=Value.ref a:=rx
 refine getmeth_ok I1 ea c hm l ?_
 exact PySem.W.callWith_K0 (first:=[.ref a]) I1.kIn hm.kp (run_fn (us:=[.ref a]) (vs:=[.ref a]) F hr hb hd hx I1 (.cons rfl .nil) q)
structure Mk (K:PySem.W.Frag)(C f:Addr):Prop where
 makes:PySem.W.makesIn K C=true
 init:PySem.W.findIn K (.ref C) "__init__" = some (some (.ref f))
 fn:PySem.W.isFn K (.ref f)=true
 kp:PySem.W.keepIn K (.ref C)=true
theorem run_make {pins:List (Addr × Obj)}{σ:St}{H:Hp}{s:Shared}{Q:VK}{us:List Value}{vs:List V}(M:Mk X.K C f)(F:FnOk X.prog X.w X.K X.mg X.base CX k f fd ps sp)(hr:Room (k + 1) X.A)(hb:Binds X.K fd ps ds)(hd:Vals dvs ds)
  (hx:Passes CX X E) (I:Inv X pins σ H s) (r:Vals vs us)
  (h:∀ x dx,H x=none→H dx=none→dx≠x→sp (.ref x :: (vs ++ dvs)) (upd (upd H dx (.own x)) x (.ins C dx [])) (fun v H2=>v = .non ∧ Q (.ref x) H2) E) :
  wpAny (model X.prog X.w) X.A (call (.ref C) us) (EP X pins σ Q) X.xe s:=by
 have hq:=h (s.heap.objs.size + 1) s.heap.objs.size (I.hok.fresh (Nat.le_succ _)) (I.hok.fresh (Nat.le_refl _)) (Nat.ne_of_lt (Nat.lt_succ_self _))
 have I2:=Inv.made (C:=C) I
 have r2:Vals (V.ref (s.heap.objs.size + 1) :: (vs ++ dvs)) (Value.ref (s.heap.objs.size + 1) :: (us ++ ds)):=.cons rfl (r.append hd)
 have hl:(Value.ref (s.heap.objs.size + 1) :: us ++ ds).length=ps.length:=by
  have e:=r2.length
  rw [F.len _ _ _ _ hq] at e
  exact e.symm
 refine wpAny_call (make_map (f:=f) I.kIn M.makes M.init (beq_iff_eq.mp M.fn) (codeAny_mono (F.run _ X.stack _ _ ⟨Value.ref (s.heap.objs.size + 1) :: us,[]⟩ (Value.ref (s.heap.objs.size + 1) :: (us ++ ds)) _ _ E (hr.make C us [])
  (I2.env0.make C us []) (hb _ (Value.ref (s.heap.objs.size + 1) :: us) I2.kIn hl) r2 hq) fun r s' hq'=>?_))
 cases r with
 | error e=>exact hx pins σ _ _ e s' I2 hq'
 | ok fl =>
  cases fl with
  | ret u =>
   obtain ⟨v,H',I3,rv,ev,q3⟩:=I2.after hq'
   subst ev
   exact ⟨rv,⟨V.ref (s.heap.objs.size + 1),H',I3,rfl,q3⟩⟩
  | next=>exact False.elim hq'
  | brk=>exact False.elim hq'
  | cont=>exact False.elim hq'
theorem pe_make0 (M:Mk X.K C f)(F:FnOk X.prog X.w X.K X.mg X.base CX k f fd ps sp)(hr:Room (k + 1) X.A)(hg:Gl X x)(hm:X.mg x=some (.ref C))(hb:Binds X.K fd ps ds)(hd:Vals dvs ds)(hx:Passes CX X E)
  (hdb:(x == ("__debug__" : Str))=false:=by decide):PE X (.Call (.Name x p) [] [] pos) (tMake C sp dvs E tNil):=by
 intro pins s σ H Q I h
 refine wpAny_Call_Name_kw (ld_glob I hg hm ?_ hdb)
 exact PySem.W.callWith_K0 I.kIn M.kp (run_make (us:=[]) M F hr hb hd hx I .nil h)
end
structure FnScope (N P:List Str)(sc:Scope):Prop where
 kind:sc.kind = .function
 co:sc.isCoroutine=false
 gen:sc.isGenerator=false
 nd:N.Nodup
 pre:N.take P.length=P
 par:∀ x∈P,sc.names.lookup x=some .local ∨ sc.names.lookup x=some .cell
 nofree:∀ y∈sc.names,y.2 ≠ .free
theorem bindL_out {kindOf:Str→Option NameKind}{x:Str}:∀ {binds:List (Str × Value)} {m:Str→Option Value},(∀ v,(x,v) ∉ binds)→bindL kindOf binds m x=m x
 | [],_,_=>rfl
 | (n,v) :: r,m,h=>by
  unfold bindL
  rw [bindL_out fun w hw=>h w (List.mem_cons_of_mem _ hw)]
  split
  ·have:x≠n:=by rintro rfl;exact h v List.mem_cons_self
   simp [this]
  ·rfl
theorem bindC_out {kindOf:Str→Option NameKind}{x:Str}:∀ {binds:List (Str × Value)} {m:Str→Option Value},(∀ v,(x,v) ∉ binds)→bindC kindOf binds m x=m x
 | [],_,_=>rfl
 | (n,v) :: r,m,h=>by
  unfold bindC
  rw [bindC_out fun w hw=>h w (List.mem_cons_of_mem _ hw)]
  split
  ·rfl
  ·have:x≠n:=by rintro rfl;exact h v List.mem_cons_self
   simp [this]
theorem bindL_get {kindOf:Str→Option NameKind}{x:Str}{v:Value}:∀ {P:List Str} {vs:List Value} {i:Nat} {m:Str→Option Value},P.Nodup → P[i]? = some x→vs[i]? = some v→kindOf x=some .local →
  bindL kindOf (P.zip vs) m x=some v
 | [],_,_,_,_,h,_,_=>by simp at h
 | _ :: _,[],_,_,_,_,h,_=>by simp at h
 | p :: P,w :: vs,0,m,nd,h1,h2,hk=>by
  simp at h1 h2;subst h1;subst h2
  show bindL kindOf ((p,w) :: P.zip vs) m p=_
  unfold bindL
  rw [bindL_out fun v hv=>(List.nodup_cons.mp nd).1 (List.of_mem_zip hv).1,if_pos hk]
  simp
 | p :: P,w :: vs,i + 1,m,nd,h1,h2,hk=>by
  show bindL kindOf ((p,w) :: P.zip vs) m x=_
  unfold bindL
  exact bindL_get (i:=i) (List.nodup_cons.mp nd).2 (by simpa using h1) (by simpa using h2) hk
theorem bindC_get {kindOf:Str→Option NameKind}{x:Str}{v:Value}:∀ {P:List Str} {vs:List Value} {i:Nat} {m:Str→Option Value},P.Nodup → P[i]? = some x→vs[i]? = some v→kindOf x≠some .local →
  bindC kindOf (P.zip vs) m x=some v
 | [],_,_,_,_,h,_,_=>by simp at h
 | _ :: _,[],_,_,_,_,h,_=>by simp at h
 | p :: P,w :: vs,0,m,nd,h1,h2,hk=>by
  simp at h1 h2;subst h1;subst h2
  show bindC kindOf ((p,w) :: P.zip vs) m p=_
  unfold bindC
  rw [bindC_out fun v hv=>(List.nodup_cons.mp nd).1 (List.of_mem_zip hv).1,if_neg hk]
  simp
 | p :: P,w :: vs,i + 1,m,nd,h1,h2,hk=>by
  show bindC kindOf ((p,w) :: P.zip vs) m x=_
  unfold bindC
  exact bindC_get (i:=i) (List.nodup_cons.mp nd).2 (by simpa using h1) (by simpa using h2) hk
def start (N:List Str)(vs:List V):St:=vs.map some ++ List.replicate (N.length - vs.length) none
def cxOf (CX:CXT)(P:Program)(w:World)(K:PySem.W.Frag)(mg:Str→Option Value)(base:Heap)(N:List Str)(qual:Str)(scope:Scope)(f:Addr)(cd:Value)(A:Around)(outer:List Env)(s:Shared)(H:Hp)(E:XK):Cx where
 prog:=P
 w:=w
 K:=K
 mg:=mg
 base:=base
 A:=A.deeper (envOfC qual scope s.heap.objs.size f cd)
 N:=N
 sZ:=s
 HZ:=H
 env:=envOfC qual scope s.heap.objs.size f cd
 outer:=outer
 stack:=envOfC qual scope s.heap.objs.size f cd :: outer
 ex:=[]
 calm:=true
 fn:=fun _=>true
 pn:=[]
 xe:=fun e s'=>wpAny (model P w) (A.deeper (envOfC qual scope s.heap.objs.size f cd)) (leaving (envOfC qual scope s.heap.objs.size f cd) e) (fun _ s''=>CX outer H s E e s'') (fun e' s''=>CX outer H s E e' s'') s'
theorem cell_has {sc:Scope}{n:Nat}{x:Str}(h:sc.names.lookup x=some .cell):∃ c,(cellsFrom n sc.names []).lookup x=some c:=by
 have q:=PySem.W.cellsFrom_some sc.names n [] (.inl h)
 exact Option.isSome_iff_exists.mp q
theorem inv_start {CX:CXT}{P:Program}{w:World}{K:PySem.W.Frag}{mg:Str→Option Value}{base:Heap}{N ps:List Str}{qual:Str}{scope:Scope}{f:Addr}{cd:Value}{A:Around}{outer:List Env}{s s1:Shared}{H:Hp}{E:XK}{us:List Value}{vs:List V}
  (S:FnScope N ps scope) (hd:A.handled=none) (e0:Env0 P w K mg base A outer s H) (hl:vs.length=ps.length) (r:Vals vs us)
  (x:InCallC s s.heap.objs.size (bindL (envOfC qual scope s.heap.objs.size f cd).kindOf (ps.zip us) fun _=>none) (cellsFrom (s.heap.objs.size + 1) scope.names []) (bindC (envOfC qual scope s.heap.objs.size f cd).kindOf (ps.zip us) fun _=>none) s1) :
  Inv (cxOf CX P w K mg base N qual scope f cd A outer s H E) [] (start N vs) H s1:=by
 have hpl:ps.length ≤ N.length:=by have:=congrArg List.length S.pre;rw [List.length_take] at this;omega
 obtain ⟨h1,tk,rfl,hk⟩:=x.done
 have noA:∀ b:Addr,b ∉ (cxOf CX P w K mg base N qual scope f cd A outer s H E).ex:=fun b z=>absurd (show b∈([]:List Addr) from z) (by simp)
 refine ⟨⟨e0.mod,S.kind,rfl,rfl,Nat.le_refl _,fun y z c h1 h2=>?_,fun y hy=>?_,fun y c _ h=>?_,fun _=>hd,Around.frames_deeper e0.frames,.inr ⟨rfl,rfl⟩,fun b z=>absurd z (noA b),e0.bs,e0.bsz,fun b _ _=>noA b,fun b z=>absurd z (noA b),e0.funs,e0.frf⟩,
  rfl,e0.bare,Un.kept hk,⟨_,x.toInCall.ns,fun i y v h1 h2 h3=>?_⟩,fun y c h=>⟨_,x.cell y c h⟩,e0.hok.fresh (Nat.le_refl _),fun y c h=>?_,fun p hp=>absurd (show p∈([]:List (Addr × Obj)) from hp) (by simp),e0.hok.kept hk,?_⟩
 ·exact name_of_addr x.apart (PySem.mem_of_lookup h1) (PySem.mem_of_lookup h2)
 ·have hy:scope.names.lookup y=some .cell ∨ scope.names.lookup y=some .free:=hy
  rcases hy with hy | hy
  ·exact cell_has hy
  ·exact absurd rfl (S.nofree _ (PySem.mem_of_lookup hy))
 ·exact Nat.le_of_lt (x.above y c (PySem.mem_of_lookup h))
 ·have hi:i < vs.length:=by
   unfold start at h2
   by_cases hi:i < vs.length
   ·exact hi
   ·rw [List.getElem?_append_right (by simpa using hi)] at h2
    rw [List.getElem?_replicate] at h2
    split at h2 <;> cases h2
  have ha:vs[i]? = some v:=by
   unfold start at h2
   rw [List.getElem?_append_left (by simpa using hi),List.getElem?_map] at h2
   cases e:vs[i]? with
   | none=>rw [e] at h2;cases h2
   | some a=>rw [e] at h2;cases h2;rfl
  obtain ⟨u,hu,rv⟩:=r.get ha
  have hp:ps[i]? = some y:=by
   rw [← S.pre,List.getElem?_take_of_lt (by omega)];exact h1
  have ndP:ps.Nodup:=by rw [← S.pre];exact S.nd.sublist (List.take_sublist _ _)
  refine ⟨u,rv,?_⟩
  rcases S.par y (List.mem_of_getElem? hp) with k | k
  ·exact .inl ⟨k,bindL_get ndP hp hu k⟩
  ·obtain ⟨c,e⟩:=cell_has (n:=s.heap.objs.size + 1) k
   refine .inr ⟨.inl k,c,e,?_⟩
   have q:=x.cell y c e
   rw [bindC_get ndP hp hu (by show scope.names.lookup y≠_;rw [k];decide)] at q
   exact q
 ·exact e0.hok.fresh (Nat.le_of_lt (x.above y c (PySem.mem_of_lookup h)))
 ·unfold start
  show _=N.length
  rw [List.length_append,List.length_map,List.length_replicate]
  omega
theorem fn_of {CX:CXT}{P:Program}{w:World}{K:PySem.W.Frag}{mg:Str→Option Value}{base:Heap}{k:Nat}{f:Addr}{name qual:Str}{params:Arguments}{body:List Stmt}{scope:Scope}{dV kV doc pm cdv ct oc:Value}{an od:Option Addr}
  {osl:Array (Option Value)} {N ps:List Str} {sp:Sp} (lk:K.lookup f=some ⟨oc,od,.func (PySem.W.fnOf name qual params body scope dV kV doc pm an cdv ct),osl⟩) (hcd:PySem.W.codeIn K cdv qual=true) (S:FnScope N ps scope)
  (len:∀ vs H Q E,sp vs H Q E→vs.length=ps.length)
  (hbody:∀ (A:Around) (outer:List Env) (s:Shared) (H:Hp) (vs:List V) (Q:VK) (E:XK),Room k (A.deeper (envOfC qual scope s.heap.objs.size f cdv))→sp vs H Q E →
   ∃ t,PSs (cxOf CX P w K mg base N qual scope f cdv A outer s H E) body t∧t { nx:=fun _ H'=>Q .non H',rt:=Q } (start N vs) H) :
  FnOk P w K mg base CX (k + 1) f (PySem.W.fnOf name qual params body scope dV kV doc pm an cdv ct) ps sp:=by
 refine ⟨len,fun A outer s H args us vs Q E hr e0 hb r hsp=>?_⟩
 have hl:=len _ _ _ _ hsp
 have KX:K.In s.heap:=e0.mod.kin.keeps fun b o e=>(e0.bs b o e).1
 have lim:s.heap.NoLimit:=e0.mod.nolimit.keeps fun b o e=>(e0.bs b o e).1
 have hkind:∀ y∈ps.zip us,scope.names.lookup y.1=some .local ∨ (scope.names.lookup y.1=some .cell ∧ ((cellsFrom (s.heap.objs.size + 1) scope.names []).lookup y.1).isSome=true):=fun ⟨n,v⟩ hy=>by
  rcases S.par n (List.of_mem_zip hy).1 with q | q
  ·exact .inl q
  ·exact .inr ⟨q,PySem.W.cellsFrom_some _ _ _ (.inl q)⟩
 refine codeAny_call_function hr.depth (KX _ _ lk) rfl S.co S.gen rfl (PySem.W.codeRec_of KX hcd) (hb _ _ _ _ ?_)
 refine wpAny_newFunctionEnv_cells S.kind hkind fun env he s1 x=>?_
 subst he
 refine ⟨lim.keeps x.toInCall.keep,codeAny_func ?_⟩
 obtain ⟨t,ht,hq⟩:=hbody A outer s H vs Q E (hr.deeper _) hsp
 have I:Inv (cxOf CX P w K mg base N qual scope f cdv A outer s H E) [] (start N vs) H s1:=inv_start S hr.hd e0 hl r x
 refine wpAny_mono (ht [] s1 (start N vs) H _ I hq) (fun fl s' hs=>?_) fun e s' hs=>hs
 have fin:∀ {σ':St} {H':Hp} {v:V} {u:Value},Inv (cxOf CX P w K mg base N qual scope f cdv A outer s H E) [] σ' H' s'→RelV v u→Q v H'→CE outer P w H s Q u s' :=
  fun {σ' H' v u} J rv q=>⟨v,H',J.os,J.bare,J.base,J.hok,rv,q⟩
 cases fl with
 | ret u =>
  obtain ⟨v,σ',H',J,rv,q⟩:=hs
  exact fin J rv q
 | next =>
  obtain ⟨σ',H',J,q⟩:=hs
  exact fin (v:=V.non) (u:=Value.none) J rfl q
 | brk =>
  obtain ⟨_,_,_,q⟩:=hs
  exact False.elim q
 | cont =>
  obtain ⟨_,_,_,q⟩:=hs
  exact False.elim q
end L2
namespace L2
open PySem PySem.Spec PyProof.Rows
section
variable {X:Cx}{x:Str}{p pos:Pos}{e:Expr}{es:List Expr}{t:TA}{id T:String}{r:List V→Hp→VK→Prop}
def tCB (r:List V→Hp→VK→Prop)(t:TA):TE:=fun σ H Q=>t σ H fun vs H1=>r vs H1 Q
theorem pe_callB (hc:CallR X (.builtin id) r) (hg:Gl X x) (hm:X.mg x=none) (hv:bootBuiltins x=some (.builtin id)) (ha:PA X (e :: es) t) (hn:x ≠ "__name__":=by decide) (hdb:(x == ("__debug__" : Str))=false:=by decide)
  (he:starEach (e :: es) X.env=(false,eval e X.env) :: starEach es X.env:=by rfl) (hpl:(backTo pos (starEach es X.env)).any (·.1)=false:=by rfl):PE X (.Call (.Name x p) (e :: es) [] pos) (tCB r t):=by
 intro pins s σ H Q I h
 refine wpAny_Call_Name_kw (ld_blt I hg hm hv ?_ hn hdb)
 exact PyProof.Rows.callWith_builtin1 (thn (ha pos pins s σ H _ I h) fun us s1 ⟨vs,H1,I1,r1,q1⟩=>hc pins s1 σ H1 vs us Q I1 r1 q1) he hpl
theorem pe_callTy (hc:CallR X (.type T) r) (hg:Gl X x) (hm:X.mg x=none) (hv:bootBuiltins x=some (.type T)) (ha:PA X (e :: es) t) (hn:x ≠ "__name__":=by decide) (hdb:(x == ("__debug__" : Str))=false:=by decide)
  (he:starEach (e :: es) X.env=(false,eval e X.env) :: starEach es X.env:=by rfl) (hpl:(backTo pos (starEach es X.env)).any (·.1)=false:=by rfl):PE X (.Call (.Name x p) (e :: es) [] pos) (tCB r t):=by
 intro pins s σ H Q I h
 refine wpAny_Call_Name_kw (ld_blt I hg hm hv ?_ hn hdb)
 exact PyProof.Rows.callWith_type1 (thn (ha pos pins s σ H _ I h) fun us s1 ⟨vs,H1,I1,r1,q1⟩=>hc pins s1 σ H1 vs us Q I1 r1 q1) he hpl
end
end L2
namespace HT
open PySem PyProof.Rows
section
variable {prog:Program}{w:World}{A:Around}{E:Value→Shared→Prop}{s:Shared}
theorem cat_tup {t b:Addr}{vs ws:List Value}{Q:Value→Shared→Prop}(ht:IsTup s.heap t vs.toArray)(hb:IsTup s.heap b ws.toArray)(hv:vs≠[])
  (h1:ws=[]→Q (.ref t) s) (h2:ws≠[]→Q (.ref s.heap.objs.size) { s with heap:=s.heap.push { cls:=.type "tuple",data:=.seq (vs ++ ws).toArray } })
  (hsz:vs.length + ws.length ≤ sizeLine):wpAny (model prog w) A (binaryOp .Add (.ref t) (.ref b)) Q E s:=by
 obtain ⟨⟨cls,dd,data,sl⟩,ho,hc,n,hd⟩:=id ht
 obtain ⟨⟨cls2,dd2,data2,sl2⟩,ho2,hc2,n2,hd2⟩:=id hb
 simp only at hc hd hc2 hd2
 subst hc hd hc2 hd2
 have e:vs.toArray ++ ws.toArray=(vs ++ ws).toArray:=by simp
 by_cases hw:ws=[]
 ·exact concat_meets ⟨_,ho,rfl⟩ ⟨_,ho2,rfl⟩ noFill_tuple_add seq_tuple_add PySem.F.slot_tuple_add PySem.F.entry_tuple_add (PySem.F.args_tuple_add_2 _ _)
   (tuple_addW1 t b vs.toArray ws.toArray n n2 dd dd2 sl sl2 (by simpa using hv) (by simp [hw])) ⟨ho,ho2,h1 hw⟩
 ·refine concat_meets ⟨_,ho,rfl⟩ ⟨_,ho2,rfl⟩ noFill_tuple_add seq_tuple_add PySem.F.slot_tuple_add PySem.F.entry_tuple_add (PySem.F.args_tuple_add_2 _ _)
   (tuple_addW2 t b vs.toArray ws.toArray n n2 dd dd2 sl sl2 (by simpa using hv) (by simpa using hw) (by rw [List.size_toArray,List.size_toArray];exact hsz)) ⟨ho,ho2,?_⟩
  rw [e]
  exact h2 hw
def sIx (n d:Nat):Option Int→Nat
 | none=>d
 | some v=>if v < 0 then (v + (n:Int)).toNat else min v.toNat n
theorem sIx_nat (n d k:Nat):sIx n d (some (k:Int))=min k n:=by
 show (if (k:Int) < 0 then ((k:Int) + (n:Int)).toNat else min (k:Int).toNat n)=min k n
 rw [if_neg (by omega),Int.toNat_natCast]
theorem sIx_le (n d:Nat)(hd:d≤n)(o:Option Int):sIx n d o≤n:=by
 cases o with
 | none=>exact hd
 | some v =>
  show (if v < 0 then (v + (n:Int)).toNat else min v.toNat n)≤n
  by_cases hv:v < 0
  ·rw [if_pos hv];omega
  ·rw [if_neg hv];exact Nat.min_le_right _ _
theorem clip_eq (v:Int)(n d:Nat):(if v < 0 then max (v + (n:Int)) 0 else min v (n:Int))=((sIx n d (some v):Nat):Int):=by
 show (if v < 0 then max (v + (n:Int)) 0 else min v (n:Int))=(((if v < 0 then (v + (n:Int)).toNat else min v.toNat n):Nat):Int)
 by_cases hv:v < 0
 ·simp only [if_pos hv];omega
 ·simp only [if_neg hv];omega
theorem adjust_gen (lo hi:Option Int)(n:Nat):Builtin.Slice.sliceAdjust lo hi 1 (n:Int)=(((sIx n 0 lo:Nat):Int),((sIx n n hi:Nat):Int)):=by
 have h1:¬ ((1:Int) < 0):=by omega
 unfold Builtin.Slice.sliceAdjust
 simp only [h1,if_false]
 refine Prod.ext ?_ ?_
 ·cases lo with
  | none=>rfl
  | some v=>exact clip_eq v n 0
 ·cases hi with
  | none=>rfl
  | some v=>exact clip_eq v n n
theorem places_gen (i j:Nat):Builtin.Slice.slicePlaces (i:Int) (j:Int) 1=j - i:=by
 unfold Builtin.Slice.slicePlaces
 have h1:(1:Int) > 0:=by omega
 simp only [h1,if_true,Int.ediv_one]
 split <;> omega
theorem slicePart_ {v:Value}{o:Option Int}{Q:Option Int→Shared→Prop}(p:IsPart v o)(h:Q o s):wpAny (model prog w) A (Builtin.Slice.slicePartIndex v) Q E s:=by
 cases p with
 | none=>exact slicePart_none h
 | int i t=>exact slicePart_int h
theorem sliceApplied_gen {sl:Addr}{vl vu:Value}{lo hi:Option Int}{n:Nat}{Q:Int × Int × Nat→Shared→Prop}(hs:s.heap.IsSliceOf sl vl vu .none)(pl:IsPart vl lo)(pu:IsPart vu hi)
  (h:Q (((sIx n 0 lo:Nat):Int),1,sIx n n hi - sIx n 0 lo) s):wpAny (model prog w) A (Builtin.Slice.sliceApplied (.ref sl) (pure (n:Int))) Q E s:=by
 obtain ⟨os,hos,hcs,hds⟩:=id hs
 unfold Builtin.Slice.sliceApplied Builtin.Slice.sliceFields
 refine wpAny_bind (wpAny_bind (wpAny_field hos hds (x:=vl) rfl (wpAny_bind (wpAny_field hos hds (x:=vu) rfl (wpAny_bind (wpAny_field hos hds (x:=.none) rfl (wpAny_pure ?_)))))))
 refine wpAny_bind (slicePart_none ?_)
 show wpAny _ _ (if ((1:Int) == 0)=true then _ else _) _ _ s
 rw [if_neg (by decide)]
 refine wpAny_bind (slicePart_ pl (wpAny_bind (slicePart_ pu (wpAny_bind (wpAny_pure ?_)))))
 show wpAny _ _ (match Builtin.Slice.sliceAdjust lo hi 1 (n:Int) with | (lo,hi)=>pure (lo,(1:Int),Builtin.Slice.slicePlaces lo hi 1)) _ _ s
 rw [adjust_gen lo hi n]
 show wpAny _ _ (pure (((sIx n 0 lo:Nat):Int),(1:Int),Builtin.Slice.slicePlaces ((sIx n 0 lo:Nat):Int) ((sIx n n hi:Nat):Int) 1)) _ _ s
 rw [places_gen]
 exact wpAny_pure h
theorem pick_gen (xs:Array Value)(i k:Nat):((List.range k).filterMap fun (m:Nat)=>xs[((i:Int) + (m:Int) * 1).toNat]?).toArray=((xs.toList.drop i).take k).toArray:=by
 have e:(fun (m:Nat)=>xs[((i:Int) + (m:Int) * 1).toNat]?)=fun m=>xs[i + m]?:=by
  funext m
  have:((i:Int) + (m:Int) * 1).toNat=i + m:=by omega
  rw [this]
 rw [e]
 have:=pick_run xs i k
 rw [List.filterMap_map] at this
 have e2:((fun x=>xs[x]?) ∘ fun x=>i + x)=fun m=>xs[i + m]?:=rfl
 rw [e2] at this
 rw [this]
theorem getItem_tuple_cut {t sl:Addr}{items:Array Value}{vl vu:Value}{lo hi:Option Int}{Q:Value→Shared→Prop}(ht:IsTup s.heap t items)(hs:s.heap.IsSliceOf sl vl vu .none)(pl:IsPart vl lo)(pu:IsPart vu hi)
  (hw:¬ (sIx items.size 0 lo=0∧sIx items.size items.size hi=items.size))
  (h:Q (.ref s.heap.objs.size) { s with heap:=s.heap.push { cls:=.type "tuple",data:=.seq ((items.toList.drop (sIx items.size 0 lo)).take (sIx items.size items.size hi - sIx items.size 0 lo)).toArray } })
  (hsz:items.size ≤ sizeLine):wpAny (model prog w) A (getItem (.ref t) (.ref sl)) Q E s:=by
 have htake:sizeOk (.seq ((items.toList.drop (sIx items.size 0 lo)).take (sIx items.size items.size hi - sIx items.size 0 lo)).toArray):=by
  show ((items.toList.drop (sIx items.size 0 lo)).take (sIx items.size items.size hi - sIx items.size 0 lo)).toArray.size ≤ sizeLine
  rw [List.size_toArray,List.length_take,List.length_drop,Array.length_toList]
  omega
 have hj:sIx items.size items.size hi≤items.size:=sIx_le _ _ (Nat.le_refl _) hi
 obtain ⟨os,hos,hcs,hds⟩:=id hs
 have hTs:s.TypeIs (.ref sl) "slice":=⟨os,hos,hcs⟩
 unfold getItem
 try with_reducible refine wpAny_holding ?_
 first | refine wpAny_bind (wpAny_pure ?_) | skip
 refine wpAny_bind (wpAny_sequenceKey ht.typeIs (by decide) ?_)
 refine wpAny_bind (wpAny_callSpecial?_slot (name:=Str.ofString "__getitem__") ht.typeIs PyProof.Rows.slot_tuple_getitem
  (wpAny_call_entry PyProof.Rows.slot_tuple_getitem ht.typeIs entry_tuple_getitem ?_ (args_tuple_getitem _ _)))
 show wpAny _ _ (Builtin.Tuple.tupleItemsOf (.ref t) >>= _) _ _ s
 refine wpAny_bind (tupleItemsOf_ ht ?_)
 refine wpAny_bind (wpAny_typeOf hTs ?_)
 rw [if_pos (by decide)]
 refine wpAny_bind (sliceApplied_gen hs pl pu ?_)
 have hno:¬ ((((sIx items.size 0 lo:Nat):Int) == 0 && (1:Int) == 1 && (sIx items.size items.size hi - sIx items.size 0 lo) == items.size)=true):=by
  intro q
  rw [Bool.and_eq_true,Bool.and_eq_true] at q
  have q1:((sIx items.size 0 lo:Nat):Int)=0:=eq_of_beq q.1.1
  have q2:sIx items.size items.size hi - sIx items.size 0 lo=items.size:=eq_of_beq q.2
  exact hw ⟨by omega,by omega⟩
 show wpAny _ _ (if (((sIx items.size 0 lo:Nat):Int) == 0 && (1:Int) == 1 && (sIx items.size items.size hi - sIx items.size 0 lo) == items.size)=true then _ else _) _ _ s
 rw [if_neg hno,pick_gen]
 first
  | exact wpAny_bind (m:=Builtin.Tuple.tupleExact _) (wpAny_newObj_type (wpAny_pure ⟨_,rfl,wpAny_pure h⟩) htake)
  | exact wpAny_bind (m:=Builtin.Tuple.tupleExact _) (wpAny_newObj_type (wpAny_bind (wpAny_pure (wpAny_pure ⟨_,rfl,wpAny_pure h⟩))) htake)
  | exact wpAny_bind (wpAny_bind (m:=Builtin.Tuple.tupleExact _) (wpAny_newObj_type (wpAny_pure (wpAny_pure ⟨_,rfl,wpAny_pure h⟩)) htake))
  | exact wpAny_bind (wpAny_bind (m:=Builtin.Tuple.tupleExact _) (wpAny_newObj_type (wpAny_pure ⟨_,rfl,wpAny_pure h⟩) htake))
end
end HT
namespace L2
open PySem PySem.Spec PyProof.Rows
abbrev TO:=St→Hp→(Option Int→Hp→Prop)→Prop
def PO (X:Cx)(e:Option Expr)(t:TO):Prop :=
 ∀ (pins:List (Addr × Obj)) (s:Shared) (σ:St) (H:Hp) (Q:Option Int→Hp→Prop),Inv X pins σ H s→t σ H Q →
  wpAny (model X.prog X.w) X.A (evalPart e X.env) (fun u s'=>∃ o H',Inv X pins σ H' s'∧IsPart u o∧Q o H') X.xe s
def tNoPart:TO:=fun _ H Q=>Q none H
def tPart (t:TE):TO:=fun σ H Q=>t σ H fun x H1=>∃ i,x = .int i∧Q (some i) H1
section
variable {X:Cx}{e:Expr}{te:TE}{lo hi:Option Expr}{tl th:TO}{pos p2:Pos}
theorem po_none:PO X none tNoPart:=by
 intro pins s σ H Q I h
 rw [evalPart_none]
 exact wpAny_pure ⟨none,H,I,.none,h⟩
theorem po_some (h:PE X e te):PO X (some e) (tPart te):=by
 intro pins s σ H Q I hw
 rw [evalPart_some]
 refine thn (h pins s σ H _ I hw) fun u s1 ⟨x,H1,I1,r1,q1⟩=>?_
 obtain ⟨i,rfl,q⟩:=q1
 obtain ⟨t,rfl⟩:=r1
 exact ⟨some i,H1,I1,.int i t,q⟩
def SlR (X:Cx)(r:V→Option Int→Option Int→Hp→VK→Prop):Prop :=
 ∀ (pins:List (Addr × Obj)) (s:Shared) (σ:St) (H:Hp) (x:V) (v vl vu:Value) (lo hi:Option Int) (sl:Addr) (Q:VK),Inv X pins σ H s→RelV x v→s.heap.IsSliceOf sl vl vu .none → IsPart vl lo→IsPart vu hi→r x lo hi H Q →
  ∃ T id,typeLookup (.type T) "__getitem__" = pure (some (.builtin id))∧s.TypeIs v T∧wpAny (model X.prog X.w) X.A (getItem v (.ref sl)) (EP X pins σ Q) X.xe s
theorem SlR.or {r r':V→Option Int→Option Int→Hp→VK→Prop}(h:SlR X r)(h':SlR X r'):SlR X (fun x lo hi H Q=>r x lo hi H Q ∨ r' x lo hi H Q):=by
 intro pins s σ H x v vl vu lo hi sl Q I rx hs pl pu q
 rcases q with q | q
 ·exact h pins s σ H x v vl vu lo hi sl Q I rx hs pl pu q
 ·exact h' pins s σ H x v vl vu lo hi sl Q I rx hs pl pu q
def tSl (r:V→Option Int→Option Int→Hp→VK→Prop)(te:TE)(tl th:TO):TE:=fun σ H Q=>te σ H fun x H1=>tl σ H1 fun l H2=>th σ H2 fun u H3=>r x l u H3 Q
theorem pe_slice {r:V→Option Int→Option Int→Hp→VK→Prop}(hr:SlR X r)(he:PE X e te)(hl:PO X lo tl)(hu:PO X hi th):PE X (.Subscript e (.Slice lo hi none p2) pos) (tSl r te tl th):=by
 intro pins s σ H Q I h
 refine Subscript_ (thn (he pins s σ H _ I h) fun v s1 ⟨x,H1,I1,r1,q1⟩=>?_)
 refine wpAny_Slice (thn (hl pins s1 σ H1 _ I1 q1) fun vl s2 ⟨l,H2,I2,pl,q2⟩=>thn (hu pins s2 σ H2 _ I2 q2) fun vu s3 ⟨u,H3,I3,pu,q3⟩=>?_)
 rw [evalPart_none]
 refine wpAny_pure ?_
 have I4:Inv X pins σ H3 { s3 with heap:=s3.heap.push { cls:=.type "slice",data:=.fields #[vl,vu,.none] } }:=I3.kept (t':=s3.toks) fun b ob q=>Heap.get?_push_of_some _ q
 obtain ⟨T,id,hT,ht,hg⟩:=hr pins { s3 with heap:=s3.heap.push { cls:=.type "slice",data:=.fields #[vl,vu,.none] } } σ H3 x v vl vu l u s3.heap.objs.size Q I4 r1 (Heap.IsSliceOf.new ..) pl pu q3
 show wpAny (model X.prog X.w) X.A (subscriptTail e (.Slice lo hi none p2) v (.ref s3.heap.objs.size)) (EP X pins σ Q) X.xe { s3 with heap:=s3.heap.push { cls:=.type "slice",data:=.fields #[vl,vu,.none] } }
 exact tail_any (ops:=[.ref s3.heap.objs.size,v]) ht hT hg (by with_unfolding_all rfl)
def cutV (xs:List V)(lo hi:Option Int):List V:=(xs.drop (HT.sIx xs.length 0 lo)).take (HT.sIx xs.length xs.length hi - HT.sIx xs.length 0 lo)
theorem cutV_length (xs:List V)(lo hi:Option Int):(cutV xs lo hi).length ≤ xs.length:=by
 unfold cutV
 rw [List.length_take,List.length_drop]
 omega
def rSlT (K:PySem.W.Frag):V→Option Int→Option Int→Hp→VK→Prop:=fun x lo hi H Q=>∃ a xs,x = .ref a∧SqT K H a xs ∧
 ¬ (HT.sIx xs.length 0 lo=0∧HT.sIx xs.length xs.length hi=xs.length)∧∀ p,H p=none→Q (.ref p) (upd H p (.tup (cutV xs lo hi)))
theorem sl_tup:SlR X (rSlT X.K):=by
 intro pins s σ H x v vl vu lo hi sl Q I rx hs pl pu h
 obtain ⟨a,xs,rfl,hx,hw,q⟩:=h
 cases rx
 obtain ⟨its,r,ht,hz⟩:=I.tuple hx
 have hlen:its.toArray.size=xs.length:=by rw [List.size_toArray];exact r.length.symm
 refine ⟨"tuple",_,PyProof.Rows.slot_tuple_getitem.lookup,ht.typeIs,?_⟩
 refine HT.getItem_tuple_cut ht hs pl pu (by rw [hlen];exact hw) ?_ (by rw [hlen];exact hz)
 rw [hlen]
 refine ⟨.ref s.heap.objs.size,_,I.laid (t':=s.toks) (o:=.tup (cutV xs lo hi)) (fun b ob q=>Heap.get?_push_of_some _ q) (Nat.le_refl _) ?_,rfl,q _ (I.hok.fresh (Nat.le_refl _))⟩
 exact ⟨Nat.le_trans (cutV_length xs lo hi) hz,_,(r.drop (HT.sIx xs.length 0 lo)).take (HT.sIx xs.length xs.length hi - HT.sIx xs.length 0 lo),IsTup.new _ _⟩
def rCatT (K:PySem.W.Frag):R2:=fun x y H Q=>∃ a b xs ys,x = .ref a∧y = .ref b∧SqT K H a xs∧SqT K H b ys∧xs≠[]∧xs.length + ys.length ≤ sizeLine ∧
 (ys=[]→Q (.ref a) H)∧(ys≠[]→∀ p,H p=none→Q (.ref p) (upd H p (.tup (xs ++ ys))))
theorem Vals.nil_iff {xs:List V}{us:List Value}(r:Vals xs us):us=[]↔xs=[]:=by
 cases r with
 | nil=>simp
 | cons _ _=>simp
theorem op_catT:OpR X (binaryOp .Add) (rCatT X.K):=by
 intro pins s σ H x y v u Q I rx ry h
 obtain ⟨a,b,xs,ys,rfl,rfl,ha,hb,hx,hz,q1,q2⟩:=h
 cases rx
 cases ry
 obtain ⟨its,r1,p1,_⟩:=I.tuple ha
 obtain ⟨its2,r2,p2,_⟩:=I.tuple hb
 refine HT.cat_tup p1 p2 (fun z=>hx (r1.nil_iff.mp z)) (fun z=>⟨.ref a,H,I,rfl,q1 (r2.nil_iff.mp z)⟩) (fun z=>?_) (by rw [← r1.length,← r2.length];exact hz)
 refine ⟨.ref s.heap.objs.size,_,I.laid (t':=s.toks) (o:=.tup (xs ++ ys)) (fun b ob q=>Heap.get?_push_of_some _ q) (Nat.le_refl _) ?_,rfl,q2 (fun w=>z (r2.nil_iff.mpr w)) _ (I.hok.fresh (Nat.le_refl _))⟩
 exact ⟨by rw [List.length_append];exact hz,_,r1.append r2,IsTup.new _ _⟩
end
end L2
namespace L2
open PySem PySem.Spec PyProof.Rows
def ixN (n:Nat)(i:Int):Option Nat:=if 0≤i then (if i < n then some i.toNat else none) else if -(n:Int)≤i then some (i + n).toNat else none
def atI {α:Type}(xs:List α)(i:Int):Option α:=(ixN xs.length i).bind fun j=>xs[j]?
theorem ixN_seq {n:Nat}{i:Int}{j:Nat}(h:ixN n i=some j):seqIndex? i n=some j∧j < n∧-(n:Int)≤i∧i < n:=by
 unfold ixN at h
 by_cases h0:0≤i
 ·rw [if_pos h0] at h
  by_cases h1:i < n
  ·rw [if_pos h1] at h
   have e:i.toNat=j:=Option.some.inj h
   exact ⟨by rw [seqIndex_of h0 h1,e],by omega,by omega,h1⟩
  ·rw [if_neg h1] at h;cases h
 ·rw [if_neg h0] at h
  by_cases h1:-(n:Int)≤i
  ·rw [if_pos h1] at h
   have e:(i + n).toNat=j:=Option.some.inj h
   exact ⟨by rw [seqIndex_neg (by omega) h1,e],by omega,h1,by omega⟩
  ·rw [if_neg h1] at h;cases h
theorem atI_get {α:Type}{xs:List α}{i:Int}{v:α}(h:atI xs i=some v):∃ j,seqIndex? i xs.length=some j∧xs[j]? = some v∧j < xs.length ∧ -(xs.length:Int)≤i∧i < xs.length:=by
 unfold atI at h
 cases e:ixN xs.length i with
 | none=>rw [e] at h;cases h
 | some j =>
  rw [e] at h
  obtain ⟨h1,h2,h3,h4⟩:=ixN_seq e
  exact ⟨j,h1,h,h2,h3,h4⟩
theorem atI_nat {α:Type}{xs:List α}{j:Nat}{v:α}(h:xs[j]? = some v):atI xs (j:Int)=some v:=by
 have hj:j < xs.length:=(List.getElem?_eq_some_iff.mp h).1
 have e:ixN xs.length (j:Int)=some j:=by
  unfold ixN
  rw [if_pos (by omega),if_pos (by omega)];simp
 unfold atI;rw [e];exact h
def PlainIx (b:Expr):Prop:=∀ o i,subscripted b false o i=operate [o,i] (getItem o i)
def IxR (X:Cx)(r:R2):Prop :=
 ∀ (value slice:Expr) (pins:List (Addr × Obj)) (s:Shared) (σ:St) (H:Hp) (x y:V) (v u:Value) (Q:VK),Inv X pins σ H s→RelV x v→RelV y u→r x y H Q →
  subscripted slice false v u=operate [v,u] (getItem v u)→wpAny (model X.prog X.w) X.A (subscriptTail value slice v u) (EP X pins σ Q) X.xe s
def MtR (X:Cx)(id:String)(r:V→List V→Hp→VK→Prop):Prop :=
 ∀ (pins:List (Addr × Obj)) (s:Shared) (σ:St) (H:Hp) (x:V) (xs:List V) (v:Value) (us:List Value) (Q:VK),Inv X pins σ H s→RelV x v→Vals xs us→r x xs H Q →
  wpAny (model X.prog X.w) X.A (call (.builtin id) (v :: us)) (EP X pins σ Q) X.xe s
section
variable {X:Cx}{a b:Expr}{ta tb:TE}{pos:Pos}
theorem IxR.or {r r':R2}(h:IxR X r)(h':IxR X r'):IxR X (fun x y H Q=>r x y H Q ∨ r' x y H Q):=by
 intro value slice pins s σ H x y v u Q I rx ry q hs
 rcases q with q | q
 ·exact h value slice pins s σ H x y v u Q I rx ry q hs
 ·exact h' value slice pins s σ H x y v u Q I rx ry q hs
theorem MtR.or {id:String}{r r':V→List V→Hp→VK→Prop}(h:MtR X id r)(h':MtR X id r'):MtR X id (fun x xs H Q=>r x xs H Q ∨ r' x xs H Q):=by
 intro pins s σ H x xs v us Q I rx rs q
 rcases q with q | q
 ·exact h pins s σ H x xs v us Q I rx rs q
 ·exact h' pins s σ H x xs v us Q I rx rs q
theorem pe_ix {r:R2}(hr:IxR X r)(ha:PE X a ta)(hb:PE X b tb)(hs:PlainIx b):PE X (.Subscript a b pos) (tOp r ta tb):=by
 intro pins s σ H Q I h
 exact Subscript_ (binT ha hb I h fun v u s2 x y H2 I2 rx ry q=>hr a b pins s2 σ H2 x y v u Q I2 rx ry q (hs _ _))
def rIxL (K:PySem.W.Frag):R2:=fun x y H Q=>∃ p xs i v,x = .ref p∧y = .int i∧SqL K H p xs∧atI xs i=some v∧Q v H
def rIxT (K:PySem.W.Frag):R2:=fun x y H Q=>∃ p xs i v,x = .ref p∧y = .int i∧SqT K H p xs∧atI xs i=some v∧Q v H
def rIxS:R2:=fun x y H Q=>∃ z i c,x = .str z∧y = .int i∧z.length ≤ sizeLine∧atI z.cps.toList i=some c∧Q (.str ⟨#[c]⟩) H
theorem ix_list:IxR X (rIxL X.K):=by
 intro value slice pins s σ H x y v u Q I rx ry h hs
 obtain ⟨p,xs,i,z,rfl,rfl,hq,he,q⟩:=h
 cases rx
 obtain ⟨t,rfl⟩:=ry
 obtain ⟨its,r,pl,hz⟩:=I.list hq
 obtain ⟨j,h1,h2,h3,h4,h5⟩:=atI_get he
 obtain ⟨w,ew,rw'⟩:=r.get h2
 have hl:=r.length
 have hn:=line63
 have fin:EP X pins σ Q w s:=⟨z,H,I,rw',q⟩
 by_cases h0:0≤i
 ·have hj:i.toNat=j:=by
   rw [seqIndex_of h0 h5] at h1
   exact Option.some.inj h1
  exact item_listR pl.isList h0 (by omega) (by rw [hj];simpa using ew) fin hs
 ·have hj:(i + (its.toArray.size:Int)).toNat=j:=by
   rw [seqIndex_neg (by omega) h4] at h1
   rw [List.size_toArray,← hl]
   exact Option.some.inj h1
  exact subscriptTail_builtinR (x:=w) pl.isList.typeIs slot_list_getitem.lookup
   (wpAny_getItem_list_neg (Q:=fun r s'=>r=w∧EP X pins σ Q r s') pl.isList (by omega) (by rw [List.size_toArray] <;> omega) (by omega) (by rw [hj];simpa using ew) ⟨rfl,fin⟩) hs
theorem ix_tup:IxR X (rIxT X.K):=by
 intro value slice pins s σ H x y v u Q I rx ry h hs
 obtain ⟨p,xs,i,z,rfl,rfl,hq,he,q⟩:=h
 cases rx
 obtain ⟨t,rfl⟩:=ry
 obtain ⟨its,r,pl,hz⟩:=I.tuple hq
 obtain ⟨j,h1,h2,h3,h4,h5⟩:=atI_get he
 obtain ⟨w,ew,rw'⟩:=r.get h2
 have hl:=r.length
 have hn:=line63
 have fin:EP X pins σ Q w s:=⟨z,H,I,rw',q⟩
 exact subscriptTail_builtinR (x:=w) pl.typeIs slot_tuple_getitem.lookup
  (getItem_tuple (j:=j) (Q:=fun r s'=>r=w∧EP X pins σ Q r s') pl (by omega) (by omega) (by rw [List.size_toArray,← hl];exact h1) (by simpa using ew) ⟨rfl,fin⟩) hs
theorem ix_str:IxR X rIxS:=by
 intro value slice pins s σ H x y v u Q I rx ry h hs
 obtain ⟨z,i,c,rfl,rfl,hz,he,q⟩:=h
 obtain ⟨t,rfl⟩:=rx
 obtain ⟨t',rfl⟩:=ry
 obtain ⟨j,h1,h2,h3,h4,h5⟩:=atI_get he
 have hl:z.cps.toList.length=z.length:=by simp [Str.length]
 rw [hl] at h1 h4 h5
 have hn:=line63
 exact tail_any (typeIs_str s z t) slot_str_getitem.lookup (getItem_str (c:=c) (by
  have e1:decide (i < -(2 ^ 63:Int))=false:=decide_eq_false (by omega)
  have e2:decide (i ≥ 2 ^ 63)=false:=decide_eq_false (by omega)
  rw [e1,e2,Bool.or_false]) (by rw [h1];simpa using h2) ⟨.str ⟨#[c]⟩,H,I.tok _,⟨_,rfl⟩,q⟩) hs
def rIx (K:PySem.W.Frag):R2:=fun x y H Q=>rIxL K x y H Q ∨ rIxT K x y H Q ∨ rIxS x y H Q
theorem ix_seq:IxR X (rIx X.K):=ix_list.or (ix_tup.or ix_str)
theorem mapSeq_set (its:List Value) (n j:Nat) (u:Value):Obj.mapSeq (·.setIfInBounds j u) { cls:=.type "list",data:=.seq its.toArray n }={ cls:=.type "list",data:=.seq (its.set j u).toArray n }:=by
 simp [Obj.mapSeq]
theorem Inv.lst {pins:List (Addr × Obj)}{σ:St}{H:Hp}{s:Shared}{p:Addr}{xs:List V}(I:Inv X pins σ H s)(h:H p=some (.lst xs)) :
  ∃ (its:List Value) (n:Nat),Vals xs its∧s.heap.get? p=some { cls:=.type "list",data:=.seq its.toArray n }∧xs.length ≤ sizeLine:=by
 obtain ⟨z,its,n,r,e⟩:=I.hok p _ h
 exact ⟨its,n,r,e,z⟩
theorem Inv.lstUpd {pins:List (Addr × Obj)}{σ:St}{H:Hp}{s:Shared}{p:Addr}{xs ys:List V}{its its':List Value}{n n':Nat}{f:Obj→Obj}(I:Inv X pins σ H s)(h:H p=some (.lst xs))
  (ho:s.heap.get? p=some { cls:=.type "list",data:=.seq its.toArray n }) (hf:f { cls:=.type "list",data:=.seq its.toArray n }={ cls:=.type "list",data:=.seq its'.toArray n' }) (r:Vals ys its') (hz:ys.length ≤ sizeLine) (t:Nat) :
  Inv X pins σ (upd H p (.lst ys)) { s with heap:=s.heap.update p f,toks:=t }:=by
 have e:(s.heap.update p f).get? p=some { cls:=.type "list",data:=.seq its'.toArray n' }:=by
  rw [Heap.get?_update_self f ho (by rw [hf] <;> rfl),hf]
 refine I.write (x:=p) (e:=p) (by rw [h];trivial) (.inl rfl) (fun b u hb q=>(Heap.get?_update_other _ _ (Ne.symm hb)).trans q) ⟨_,e⟩ ?_
 exact ⟨hz,its',n',r,e⟩
def rSetL:V→V→V→Hp→(Hp→Prop)→Prop:=fun o i v H Q=>∃ p xs k j,o = .ref p∧i = .int k∧H p=some (.lst xs)∧ixN xs.length k=some j∧Q (upd H p (.lst (xs.set j v)))
theorem set_list:PSet X rSetL:=by
 intro pins s σ H o i v ov iv u Q I ro ri rv h
 obtain ⟨p,xs,k,j,rfl,rfl,hp,hj,q⟩:=h
 cases ro
 obtain ⟨t,rfl⟩:=ri
 obtain ⟨its,n,r,ho,hz⟩:=I.lst hp
 obtain ⟨h1,h2,h3,h4⟩:=ixN_seq hj
 have hl:=r.length
 have hn:=line63
 have I':Inv X pins σ (upd H p (.lst (xs.set j v))) { s with heap:=s.heap.update p (Obj.mapSeq (·.setIfInBounds j u)) } :=
  I.lstUpd hp ho (mapSeq_set its n j u) (r.set rv j) (by rw [List.length_set];exact hz) s.toks
 by_cases h0:0≤k
 ·have hk:k.toNat=j:=by
   rw [seqIndex_of h0 h4] at h1
   exact Option.some.inj h1
  exact PySem.W.ki_setAt ho h0 (by omega) (by rw [List.size_toArray,← hl];exact h4) (by rw [hk];exact ⟨_,I',q⟩)
 ·have hk:(k + (its.toArray.size:Int)).toNat=j:=by
   rw [seqIndex_neg (by omega) h3] at h1
   rw [List.size_toArray,← hl]
   exact Option.some.inj h1
  exact PySem.W.ki_setBack ho (by omega) (by rw [List.size_toArray,← hl];exact h3) (by omega) (by rw [hk];exact ⟨_,I',q⟩)
theorem slice_bounds (lo hi:Option Int)(n:Nat):(sliceBounds lo hi none n).1=((HT.sIx n 0 lo:Nat):Int)∧(sliceBounds lo hi none n).2.1=((HT.sIx n n hi:Nat):Int)∧(sliceBounds lo hi none n).2.2=1:=by
 refine ⟨?_,?_,rfl⟩
 ·cases lo with
  | none=>simp [sliceBounds,HT.sIx]
  | some i =>
   simp only [sliceBounds,HT.sIx,Option.getD_none,show (1:Int) > 0 by decide,if_true]
   by_cases h:i < 0
   ·simp only [h,if_true] <;> omega
   ·simp only [h,if_false] <;> omega
 ·cases hi with
  | none=>simp [sliceBounds,HT.sIx]
  | some i =>
   simp only [sliceBounds,HT.sIx,Option.getD_none,show (1:Int) > 0 by decide,if_true]
   by_cases h:i < 0
   ·simp only [h,if_true] <;> omega
   ·simp only [h,if_false] <;> omega
theorem slicePick_cut (its:List Value)(lo hi:Option Int):slicePick its.toArray lo hi none=((its.drop (HT.sIx its.length 0 lo)).take (HT.sIx its.length its.length hi - HT.sIx its.length 0 lo)).toArray:=by
 obtain ⟨h1,h2,h3⟩:=slice_bounds lo hi its.toArray.size
 unfold slicePick
 rw [h1,h2,h3]
 simp only [sliceRange_one,pick_run,List.size_toArray] <;> rfl
def rSlL (K:PySem.W.Frag):V→Option Int→Option Int→Hp→VK→Prop:=fun x lo hi H Q=>∃ a xs,x = .ref a∧SqL K H a xs∧∀ p,H p=none→Q (.ref p) (upd H p (.lst (cutV xs lo hi)))
theorem sl_list:SlR X (rSlL X.K):=by
 intro pins s σ H x v vl vu lo hi sl Q I rx hs pl pu h
 obtain ⟨a,xs,rfl,hx,q⟩:=h
 cases rx
 obtain ⟨its,r,ht,hz⟩:=I.list hx
 have hlen:=r.length
 refine ⟨"list",_,slot_list_getitem.lookup,ht.isList.typeIs,?_⟩
 refine wpAny_getItem_list_slice ht.isList hs pl pu .none (by simp) ?_ (by rw [List.size_toArray] <;> omega)
 rw [slicePick_cut,← hlen]
 refine ⟨.ref s.heap.objs.size,_,I.laid (t':=s.toks) (o:=.lst (cutV xs lo hi)) (fun b ob q=>Heap.get?_push_of_some _ q) (Nat.le_refl _) ?_,rfl,q _ (I.hok.fresh (Nat.le_refl _))⟩
 exact ⟨Nat.le_trans (cutV_length xs lo hi) hz,_,0,(r.drop (HT.sIx xs.length 0 lo)).take (HT.sIx xs.length xs.length hi - HT.sIx xs.length 0 lo),Heap.get?_push_size _ rfl⟩
def flatV:V→Bool
 | .non=>true
 | .bl _=>true
 | .int _=>true
 | .str _=>true
 | _=>false
def eqV:V→V→Bool
 | .non,.non=>true
 | .bl a,.bl b=>a == b
 | .bl a,.int b=>(if a then 1 else 0) == b
 | .int a,.bl b=>a == (if b then 1 else 0)
 | .int a,.int b=>a == b
 | .str a,.str b=>a == b
 | _,_=>false
theorem eqAt_V {A:Around}{s:Shared}{y x:V}{u v:Value}(ry:RelV y u)(rx:RelV x v)(fy:flatV y=true)(fx:flatV x=true):SeqAt.EqAt A s u v (eqV y x):=by
 cases y with
 | non =>
  cases ry
  cases x with
  | non=>cases rx;exact SeqAt.EqAt.same _
  | bl b=>cases rx;exact SeqAt.EqAt.none_bool b
  | int b=>obtain ⟨t,rfl⟩:=rx;exact SeqAt.EqAt.none_int b t
  | str b=>obtain ⟨t,rfl⟩:=rx;exact SeqAt.EqAt.none_str b t
  | _=>exact absurd (show false=true from fx) Bool.false_ne_true
 | bl a =>
  cases ry
  cases x with
  | non=>cases rx;exact SeqAt.EqAt.bool_none a
  | bl b=>cases rx;exact SeqAt.EqAt.bool_bool a b
  | int b=>obtain ⟨t,rfl⟩:=rx;exact SeqAt.EqAt.bool_int a b t
  | str b=>obtain ⟨t,rfl⟩:=rx;exact SeqAt.EqAt.bool_str a b t
  | _=>exact absurd (show false=true from fx) Bool.false_ne_true
 | int a =>
  obtain ⟨t',rfl⟩:=ry
  cases x with
  | non=>cases rx;exact SeqAt.EqAt.int_none a t'
  | bl b=>cases rx;exact SeqAt.EqAt.int_bool a t' b
  | int b=>obtain ⟨t,rfl⟩:=rx;exact SeqAt.EqAt.int_int a t' b t
  | str b=>obtain ⟨t,rfl⟩:=rx;exact SeqAt.EqAt.int_str a t' b t
  | _=>exact absurd (show false=true from fx) Bool.false_ne_true
 | str a =>
  obtain ⟨t',rfl⟩:=ry
  cases x with
  | non=>cases rx;exact SeqAt.EqAt.str_none a t'
  | bl b=>cases rx;exact SeqAt.EqAt.str_bool a t' b
  | int b=>obtain ⟨t,rfl⟩:=rx;exact SeqAt.EqAt.str_int a t' b t
  | str b=>obtain ⟨t,rfl⟩:=rx;exact SeqAt.EqAt.str_str a t' b t
  | _=>exact absurd (show false=true from fx) Bool.false_ne_true
 | _=>exact absurd (show false=true from fy) Bool.false_ne_true
def eqU (x:V)(u:Value):Bool:=match u with
 | .none=>eqV .non x
 | .bool b=>eqV (.bl b) x
 | .int i _=>eqV (.int i) x
 | .str z _=>eqV (.str z) x
 | _=>false
theorem eqU_of {x y:V}{u:Value}(r:RelV y u)(f:flatV y=true):eqU x u=eqV y x:=by
 cases y with
 | non=>cases r;rfl
 | bl b=>cases r;rfl
 | int i=>obtain ⟨t,rfl⟩:=r;rfl
 | str z=>obtain ⟨t,rfl⟩:=r;rfl
 | _=>exact absurd (show false=true from f) Bool.false_ne_true
theorem any_eqU {x:V}:∀ {xs:List V} {us:List Value},Vals xs us→xs.all flatV=true→us.any (eqU x)=xs.any fun y=>eqV y x
 | _,_,.nil,_=>rfl
 | y :: xs,u :: us,.cons r t,f=>by
  rw [List.all_cons,Bool.and_eq_true] at f
  rw [List.any_cons,List.any_cons,eqU_of r f.1,any_eqU t f.2]
theorem mem_eqAt {A:Around}{s:Shared}{x:V}{v:Value}(rx:RelV x v)(fx:flatV x=true):∀ {xs:List V} {us:List Value},Vals xs us→xs.all flatV=true→∀ u∈us,SeqAt.EqAt A s u v (eqU x u)
 | _,_,.nil,_=>fun u hu=>by cases hu
 | y :: xs,u :: us,.cons r t,f=>fun u' hu=>by
  rw [List.all_cons,Bool.and_eq_true] at f
  rcases List.mem_cons.mp hu with rfl | hu
  ·rw [eqU_of r f.1];exact eqAt_V r rx f.1 fx
  ·exact mem_eqAt rx fx t f.2 u' hu
def inV (x:V)(xs:List V):Bool:=xs.any fun y=>eqV y x
def rIn (K:PySem.W.Frag)(neg:Bool):R2:=fun x y H Q=>∃ p xs,y = .ref p∧(SqL K H p xs ∨ SqT K H p xs)∧flatV x=true∧xs.all flatV=true∧Q (.bl (if neg then !inV x xs else inV x xs)) H
theorem op_in_seq:OpR X (compareOp .In) (rIn X.K false):=by
 intro pins s σ H x y v u Q I rx ry h
 obtain ⟨p,xs,rfl,hq,fx,fs,q⟩:=h
 cases ry
 rcases hq with hq | hq
 ·obtain ⟨its,r,pl,hz⟩:=I.list hq
  refine SeqAt.in_listAt (eqU x) pl.isList (fun w hw=>mem_eqAt rx fx r fs w (by simpa using hw)) ⟨.bl _,H,I,rfl,?_⟩
  rw [show its.toArray.any (eqU x)=its.any (eqU x) by simp,any_eqU r fs]
  exact q
 ·obtain ⟨its,r,pl,hz⟩:=I.tuple hq
  refine SeqAt.in_tupleAt (eqU x) pl (fun w hw=>mem_eqAt rx fx r fs w (by simpa using hw)) ⟨.bl _,H,I,rfl,?_⟩
  rw [show its.toArray.any (eqU x)=its.any (eqU x) by simp,any_eqU r fs]
  exact q
theorem CallR.or {f:Value}{r r':List V→Hp→VK→Prop}(h:CallR X f r)(h':CallR X f r'):CallR X f (fun xs H Q=>r xs H Q ∨ r' xs H Q):=by
 intro pins s σ H xs us Q I rs q
 rcases q with q | q
 ·exact h pins s σ H xs us Q I rs q
 ·exact h' pins s σ H xs us Q I rs q
theorem call_list_of:CallR X (.type "list") (fun xs H Q=>∃ p ys,xs=[.ref p]∧(SqL X.K H p ys ∨ SqT X.K H p ys)∧∀ l,H l=none→Q (.ref l) (upd H l (.lst ys))):=by
 intro pins s σ H xs us Q I r h
 obtain ⟨p,ys,rfl,hq,q⟩:=h
 obtain ⟨u,rfl,rx⟩:=vals1 r
 cases rx
 have fin:∀ (its:List Value),Vals ys its→ys.length ≤ sizeLine→∀ (h':Heap) (c':Nat),(∀ b o',s.heap.get? b=some o'→h'.get? b=some o') →
   h'.get? s.heap.objs.size=some { cls:=.type "list",dict:=none,data:=.seq its.toArray c',slots:=#[] }→EP X pins σ Q (.ref s.heap.objs.size) { s with heap:=h' }:=fun its r' hz h' c' kp e =>
  ⟨.ref s.heap.objs.size,_,I.laid (t':=s.toks) kp (Nat.le_refl _) (show ObjOk X.prog X.w _ h' _ (.lst ys) from ⟨hz,its,c',r',e⟩),rfl,q _ (I.hok.fresh (Nat.le_refl _))⟩
 rcases hq with hq | hq
 ·obtain ⟨its,r',pl,hz⟩:=I.list hq
  have hlen:=r'.length
  obtain ⟨o,ho,hc,n,hd⟩:=pl.isList
  exact call_list_seq p (.inl rfl) ho hc hd (fun h' c' kp e=>fin its r' hz h' c' kp e) (by simp only [List.size_toArray] <;> omega)
 ·obtain ⟨its,r',pl,hz⟩:=I.tuple hq
  have hlen:=r'.length
  obtain ⟨o,ho,hc,n,hd⟩:=pl
  exact call_list_seq p (.inr rfl) ho hc hd (fun h' c' kp e=>fin its r' hz h' c' kp e) (by simp only [List.size_toArray] <;> omega)
theorem call_tuple_of:CallR X (.type "tuple") (fun xs H Q=>∃ p ys,xs=[.ref p]∧((SqL X.K H p ys∧∀ l,H l=none→Q (.ref l) (upd H l (.tup ys))) ∨ (SqT X.K H p ys∧Q (.ref p) H))):=by
 intro pins s σ H xs us Q I r h
 obtain ⟨p,ys,rfl,h⟩:=h
 obtain ⟨u,rfl,rx⟩:=vals1 r
 cases rx
 rcases h with ⟨hq,q⟩ | ⟨hq,q⟩
 ·obtain ⟨its,r',pl,hz⟩:=I.list hq
  have hlen:=r'.length
  refine call_tuple_list pl.isList (fun h' kp=>?_) (by simp only [List.size_toArray] <;> omega)
  have I1:Inv X pins σ H { s with heap:=h' }:=I.kept (t':=s.toks) kp
  have I2:Inv X pins σ (upd H h'.objs.size (.tup ys)) { s with heap:=h'.push { cls:=.type "tuple",data:=.seq its.toArray } } :=
   I1.laid (t':=s.toks) (fun b o e=>Heap.get?_push_of_some _ e) (Nat.le_refl _) (show ObjOk X.prog X.w _ _ _ (.tup ys) from ⟨hz,its,r',IsTup.new _ _⟩)
  exact ⟨.ref h'.objs.size,_,I2,rfl,q _ (I1.hok.fresh (Nat.le_refl _))⟩
 ·obtain ⟨its,r',pl,hz⟩:=I.tuple hq
  exact call_tuple_same pl ⟨.ref p,H,I,rfl,q⟩
def tyV (K:PySem.W.Frag)(T:String)(x:V)(H:Hp):Prop:=match x with
 | .str _=>T = "str"
 | .int _=>T = "int"
 | .ref p=>(T = "list"∧∃ xs,SqL K H p xs) ∨ (T = "tuple"∧∃ o,K.lookup p=some o∧o.cls = .type "tuple"∧o.dict=none) ∨
   (T = "dict"∧((∃ kvs,H p=some (.dK kvs)) ∨ ∃ kvs,H p=some (.dT kvs))) ∨ (T = "set"∧∃ S n,H p=some (.set S n))
 | _=>False
theorem tyV_is {pins:List (Addr × Obj)}{σ:St}{H:Hp}{s:Shared}{T:String}{x:V}{v:Value}(I:Inv X pins σ H s)(r:RelV x v)(ty:tyV X.K T x H) :
  s.TypeIs v T∧∀ a,v = .ref a→∃ ob,s.heap.get? a=some ob∧ob.dict=none:=by
 cases x with
 | str z =>
  obtain ⟨t,rfl⟩:=r
  cases (show T = "str" from ty)
  exact ⟨typeIs_str s z t,fun _ e=>nomatch e⟩
 | int i =>
  obtain ⟨t,rfl⟩:=r
  cases (show T = "int" from ty)
  exact ⟨typeIs_int s i t,fun _ e=>nomatch e⟩
 | ref p =>
  cases r
  rcases ty with ⟨rfl,xs,hq⟩ | ⟨rfl,o,hk,hc,hd⟩ | ⟨rfl,hk⟩ | ⟨rfl,S,n,hk⟩
  ·obtain ⟨its,_,pl,_⟩:=I.list hq
   refine ⟨pl.isList.typeIs,fun a e=>?_⟩
   cases e
   obtain ⟨o,n,e,c,hd,_⟩:=pl
   exact ⟨o,e,hd⟩
  ·refine ⟨⟨o,I.kIn p o hk,hc⟩,fun a e=>?_⟩
   cases e
   exact ⟨o,I.kIn _ o hk,hd⟩
  ·have z:∃ o,s.heap.get? p=some o∧o.ExactDict:=by
    rcases hk with ⟨kvs,hk⟩ | ⟨kvs,hk⟩
    ·obtain ⟨_,_,_,_,o,_,_,e,ex,_⟩:=I.hok p _ hk
     exact ⟨o,e,ex⟩
    ·obtain ⟨_,_,_,_,o,_,_,e,ex,_⟩:=I.hok p _ hk
     exact ⟨o,e,ex⟩
   obtain ⟨o,e,ex⟩:=z
   refine ⟨⟨o,e,ex.1⟩,fun a e2=>?_⟩
   cases e2
   exact ⟨o,e,ex.2.1⟩
  ·obtain ⟨o,_,_,_,e,ex,_⟩:=I.hok p _ hk
   refine ⟨⟨o,e,ex.1⟩,fun a e2=>?_⟩
   cases e2
   exact ⟨o,e,ex.2.1⟩
 | _=>exact False.elim ty
def tBM0 (K:PySem.W.Frag)(T:String)(r:V→List V→Hp→VK→Prop)(to:TE):TE:=fun σ H Q=>to σ H fun x H1=>tyV K T x H1∧r x [] H1 Q
def tBM (K:PySem.W.Frag)(T:String)(r:V→List V→Hp→VK→Prop)(to:TE)(t:TA):TE:=fun σ H Q=>to σ H fun x H1=>tyV K T x H1∧t σ H1 fun xs H2=>r x xs H2 Q
variable {o e:Expr}{es:List Expr}{to:TE}{t:TA}{name:Str}{apos cpos:Pos}{T id:String}{r:V→List V→Hp→VK→Prop}
theorem pe_bm0 (pa:PlainAttrs T) (slot:Slot T name id) (hty:typeOf (.builtin id)=pure (.type "method_descriptor")) (hm:MtR X id r) (ho:PE X o to)
  (hbase:attributeBase o name X.env (eval o X.env)=eval o X.env:=by rfl) (hline:(apos.endLine == cpos.line)=true:=by rfl):PE X (.Call (.Attribute o name apos) [] [] cpos) (tBM0 X.K T r to):=by
 intro pins s σ H Q I h
 refine wpAny_Call_method0_late hbase hline (thn (ho pins s σ H _ I h) fun v s1 ⟨x,H1,I1,r1,ty,q1⟩=>?_)
 obtain ⟨h1,h2⟩:=tyV_is I1 r1 ty
 exact ⟨T,id,pa,slot,hty,h1,h2,Calls.callWith_builtin rfl (PySem.evalArgs_none (hm pins s1 σ H1 x [] v [] Q I1 r1 .nil q1))⟩
theorem pe_bm (pa:PlainAttrs T) (slot:Slot T name id) (hty:typeOf (.builtin id)=pure (.type "method_descriptor")) (hm:MtR X id r) (ho:PE X o to) (ha:PA X (e :: es) t)
  (hbase:attributeBase o name X.env (eval o X.env)=eval o X.env:=by rfl)
  (hfew:((backTo cpos (starEach (e :: es) X.env)).all (fun x=>!x.1) && (backToKw cpos (keywordEach [] X.env)).all (fun x=>x.1.isSome)
   && decide ((e :: es).length + ([]:List Keyword).length + (if ([]:List Keyword).isEmpty then 0 else 1) < 30))=true:=by rfl)
  (hline:(apos.endLine == cpos.line)=true:=by rfl) (hs:starEach (e :: es) X.env=(false,eval e X.env) :: starEach es X.env:=by rfl) (hplain:(backTo cpos (starEach es X.env)).any (·.1)=false:=by rfl) :
  PE X (.Call (.Attribute o name apos) (e :: es) [] cpos) (tBM X.K T r to t):=by
 intro pins s σ H Q I h
 refine wpAny_Call_method_late hbase hfew hline rfl (thn (ho pins s σ H _ I h) fun v s1 ⟨x,H1,I1,r1,ty,q1⟩=>?_)
 obtain ⟨h1,h2⟩:=tyV_is I1 r1 ty
 refine ⟨T,id,pa,slot,hty,h1,h2,?_⟩
 have hA:=ha cpos pins s1 σ H1 _ I1 q1
 rw [hs] at hA ⊢
 refine Calls.callWith_builtin (by show (false || (backTo cpos (starEach es X.env)).any (·.1))=false;rw [hplain] <;> rfl) (Calls.evalArgs_plain ?_)
 exact thn hA fun us s2 ⟨vs,H2,I2,r2,q2⟩=>hm pins s2 σ H2 x vs v us Q I2 r1 r2 q2
end
end L2
namespace L2
open PySem PySem.Spec PyProof.Rows
def MtM (X:Cx)(id:String)(r:V→List V→Hp→VK→Prop):Prop :=
 ∀ (pins:List (Addr × Obj)) (s:Shared) (σ:St) (H:Hp) (x:V) (xs:List V) (v:Value) (us:List Value) (Q:VK),Inv X pins σ H s→RelV x v→Vals xs us→r x xs H Q →
  wpAny (model X.prog X.w) X.A (call (.builtin id) (v :: us)) (EP X pins σ Q) X.xe s
theorem Vals.one:∀ {x:V} {us:List Value},Vals [x] us→∃ u,us=[u]∧RelV x u
 | _,_,.cons r .nil=>⟨_,rfl,r⟩
theorem Vals.zero:∀ {us:List Value},Vals [] us→us=[]
 | _,.nil=>rfl
theorem Vals.dropLast {xs:List V}{us:List Value}(h:Vals xs us):Vals xs.dropLast us.dropLast:=by
 induction h with
 | nil=>exact .nil
 | cons r t ih =>
  cases t with
  | nil=>exact .nil
  | cons q t'=>exact .cons r ih
theorem erase_last {α:Type}(l:List α):l.eraseIdx (l.length - 1)=l.dropLast:=by
 induction l with
 | nil=>rfl
 | cons a r ih =>
  cases r with
  | nil=>rfl
  | cons b r =>
   have e:(a :: b :: r).length - 1=((b :: r).length - 1) + 1:=by
    have h1:(a :: b :: r).length=r.length + 2:=rfl
    have h2:(b :: r).length=r.length + 1:=rfl
    omega
   rw [e,List.eraseIdx_cons_succ,ih]
   all_goals rfl
section
variable {X:Cx}{pins:List (Addr × Obj)}{σ:St}{H:Hp}{s:Shared}{l b:Addr}{xs ys zs:List V}
theorem Inv.lset {its its':List Value}{n:Nat}{f:Array Value→Array Value}{t':Nat}(I:Inv X pins σ H s)(hH:H l=some (.lst xs))
  (e:s.heap.get? l=some { cls:=.type "list",data:=.seq its.toArray n }) (hf:f its.toArray=its'.toArray) (hv:Vals ys its') (hz:ys.length ≤ sizeLine) :
  Inv X pins σ (upd H l (.lst ys)) { s with heap:=s.heap.update l (Obj.mapSeq f),toks:=t' }:=by
 have q:=PySem.IsL.update e f
 rw [hf] at q
 refine I.write (x:=l) (e:=l) (by rw [hH];exact trivial) (.inl rfl) (fun b' u hb hu=>(Heap.get?_update_other s.heap (Obj.mapSeq f) (Ne.symm hb)).trans hu) ⟨_,q⟩ ?_
 exact ⟨hz,its',_,hv,q⟩
theorem Inv.lnew {its:List Value}{t':Nat}(I:Inv X pins σ H s)(hv:Vals ys its)(hz:ys.length ≤ sizeLine) :
  Inv X pins σ (upd H s.heap.objs.size (.lst ys)) { s with heap:=s.heap.push { cls:=.type "list",data:=.seq its.toArray },toks:=t' } :=
 I.laid (fun _ _ q=>Heap.get?_push_of_some _ q) (Nat.le_refl _) ⟨hz,its,0,hv,Heap.get?_push_size _ rfl⟩
theorem Inv.fresh (I:Inv X pins σ H s):H s.heap.objs.size=none:=I.hok.fresh (Nat.le_refl _)
theorem Inv.lstM (I:Inv X pins σ H s) (hH:H l=some (.lst xs)):xs.length ≤ sizeLine∧∃ (its:List Value) (n:Nat),Vals xs its∧xs.length=its.length ∧ s.heap.get? l=some { cls:=.type "list",data:=.seq its.toArray n }:=by
 obtain ⟨z,its,n,r,e⟩:=I.hok l _ hH
 exact ⟨z,its,n,r,r.length,e⟩
theorem notLongL {n:Nat}(h:n≤sizeLine):Builtin.List.listTooLong n=false:=by
 unfold Builtin.List.listTooLong
 exact decide_eq_false (by omega)
end
section
variable {X:Cx}
def rAppend:V→List V→Hp→VK→Prop:=fun x vs H Q=>∃ l xs y,x = .ref l∧vs=[y]∧H l=some (.lst xs)∧xs.length < sizeLine∧Q .non (upd H l (.lst (xs ++ [y])))
theorem mt_append:MtM X "list.append" rAppend:=by
 intro pins s σ H x vs v us Q I rx rv h
 obtain ⟨l,xs,y,rfl,rfl,hH,hz,q⟩:=h
 cases rx
 obtain ⟨u,rfl,ru⟩:=rv.one
 obtain ⟨z,its,n,r,hl,e⟩:=I.lstM hH
 refine call_meets F.slot_list_append ⟨_,e,rfl⟩ F.entry_list_append (F.args_list_append_2 _ _) (PySem.list_append l its.toArray n u (by rw [List.size_toArray];omega)) ⟨e,?_⟩
 refine ⟨.non,_,I.lset (its':=its ++ [u]) hH e (by simp) (r.append (.cons ru .nil)) ?_,rfl,q⟩
 rw [List.length_append,List.length_singleton]
 omega
def rExtend:V→List V→Hp→VK→Prop:=fun x vs H Q=>∃ l b xs zs,x = .ref l∧vs=[.ref b]∧H l=some (.lst xs)∧H b=some (.lst zs)∧xs.length + zs.length ≤ sizeLine∧Q .non (upd H l (.lst (xs ++ zs)))
theorem mt_extend:MtM X "list.extend" rExtend:=by
 intro pins s σ H x vs v us Q I rx rv h
 obtain ⟨l,b,xs,zs,rfl,rfl,hH,hB,hz,q⟩:=h
 cases rx
 obtain ⟨u,rfl,ru⟩:=rv.one
 cases ru
 obtain ⟨z,its,n,r,hl,e⟩:=I.lstM hH
 obtain ⟨z2,its2,n2,r2,hl2,e2⟩:=I.lstM hB
 have hsz:its.toArray.size + its2.toArray.size ≤ sizeLine:=by rw [List.size_toArray,List.size_toArray];omega
 have hlong:¬ (!its.toArray.isEmpty && Builtin.List.listTooLong (its.toArray.size + its2.toArray.size))=true:=by
  rw [notLongL hsz,Bool.and_false]
  exact Bool.false_ne_true
 refine call_meets F.slot_list_extend ⟨_,e,rfl⟩ F.entry_list_extend (F.args_list_extend_2 _ _)
  (AutoSeq1.list_extend_list_list_0 l its.toArray n b its2.toArray n2 hlong (by rw [List.size_toArray];omega) (by omega)) ⟨e,e2,?_⟩
 refine ⟨.non,_,I.lset (its':=its ++ its2) hH e (by simp) (r.append r2) ?_,rfl,q⟩
 rw [List.length_append]
 omega
def rPop:V→List V→Hp→VK→Prop:=fun x vs H Q=>∃ l xs y,x = .ref l∧vs=[]∧H l=some (.lst xs)∧xs[xs.length - 1]? = some y∧Q y (upd H l (.lst xs.dropLast))
theorem mt_pop:MtM X "list.pop" rPop:=by
 intro pins s σ H x vs v us Q I rx rv h
 obtain ⟨l,xs,y,rfl,rfl,hH,hy,q⟩:=h
 cases rx
 have hus:=rv.zero
 subst hus
 obtain ⟨z,its,n,r,hl,e⟩:=I.lstM hH
 obtain ⟨u,hu,ru⟩:=r.get hy
 have hy':its.toArray[its.toArray.size - 1]? = some u:=by
  show its.toArray[its.length - 1]? = some u
  rw [← Array.getElem?_toList,← hl]
  exact hu
 refine call_meets F.slot_list_pop ⟨_,e,rfl⟩ F.entry_list_pop (F.args_list_pop_1 _) (MeetsSeq.list_pop_last l its.toArray n u hy' (by rw [List.size_toArray];omega)) ⟨e,?_⟩
 refine ⟨y,_,I.lset (its':=its.dropLast) hH e ?_ r.dropLast ?_,ru,q⟩
 ·show its.toArray.eraseIdxIfInBounds (its.toArray.size - 1)=its.dropLast.toArray
  rw [List.size_toArray,List.eraseIdxIfInBounds_toArray,erase_last]
 ·rw [List.length_dropLast]
  omega
def rClear:V→List V→Hp→VK→Prop:=fun x vs H Q=>∃ l xs,x = .ref l∧vs=[]∧H l=some (.lst xs)∧Q .non (upd H l (.lst []))
theorem mt_clear:MtM X "list.clear" rClear:=by
 intro pins s σ H x vs v us Q I rx rv h
 obtain ⟨l,xs,rfl,rfl,hH,q⟩:=h
 cases rx
 have hus:=rv.zero
 subst hus
 obtain ⟨z,its,n,r,hl,e⟩:=I.lstM hH
 refine call_meets F.slot_list_clear ⟨_,e,rfl⟩ F.entry_list_clear (F.args_list_clear_1 _) (AutoSeq1.list_clear_list_0 l its.toArray n (by rw [List.size_toArray];omega)) ⟨e,?_⟩
 exact ⟨.non,_,I.lset (its':=[]) (ys:=[]) hH e rfl .nil (Nat.zero_le _),rfl,q⟩
def rCat:R2:=fun x y H Q=>∃ l b xs zs,x = .ref l∧y = .ref b∧H l=some (.lst xs)∧H b=some (.lst zs)∧xs.length + zs.length ≤ sizeLine∧∀ p,H p=none→Q (.ref p) (upd H p (.lst (xs ++ zs)))
theorem op_cat:OpR X (binaryOp .Add) rCat:=by
 intro pins s σ H x y v u Q I rx ry h
 obtain ⟨l,b,xs,zs,rfl,rfl,hH,hB,hz,q⟩:=h
 cases rx
 cases ry
 obtain ⟨z,its,n,r,hl,e⟩:=I.lstM hH
 obtain ⟨z2,its2,n2,r2,hl2,e2⟩:=I.lstM hB
 refine PySem.P.add_list e e2 ?_ (by rw [List.size_toArray,List.size_toArray];omega)
 have ea:its.toArray ++ its2.toArray=(its ++ its2).toArray:=by simp
 rw [ea]
 exact ⟨.ref _,_,I.lnew (t':=s.toks) (r.append r2) (by rw [List.length_append];omega),rfl,q _ I.fresh⟩
end
end L2
namespace Att
open PySem PySem.W PySem.Calls PyProof.Rows
theorem ints_of_wellAll {P:Params}{h:Heap}:∀ (ns:List Int) (vs:List Value),WellAll P h vs (ns.map WData.int)→IntsAre vs ns:=by
 intro ns
 induction ns with
 | nil =>
  intro vs w
  rw [List.map_nil] at w
  cases w
  exact .nil
 | cons n ns ih =>
  intro vs w
  rw [List.map_cons] at w
  cases w with
  | cons a b =>
   cases a
   exact .cons _ _ (ih _ b)
theorem script_of {l:OpenLaw}{n:Nat}(hn:l.most=some n){P:Params}{h:Heap}{args:List WData}{vals:List Value}
  (hpre:l.row.toRowW.claim.pre args=true) (hwl:WellAll P h vals args) :
  ∃ a vs ns,vals=[Value.ref a]∧args=[WData.list (ns.map WData.int)]∧h.get? a=some { cls:=.type "list",data:=.seq vs.toArray }∧IntsAre vs ns∧ns.length ≤ n:=by
 have hsh:WShape.hasAll [] args [.list .int]=true:=(pre_splitW hpre).1
 have hc:l.pre.holds [] { args:=args }=true:=(pre_splitW hpre).2
 obtain ⟨d,r,rfl,h1,h2⟩:=hasAllW_cons hsh
 obtain rfl:=hasAllW_nil h2
 obtain ⟨xs,rfl,h3⟩:=hasW_list h1
 obtain ⟨ns,rfl⟩:=items_int h3
 have hlen:ns.length ≤ n:=by
  unfold OpenLaw.pre at hc
  have h4:(WTm.not (.lt (.lit (.int (n:Int))) (.len (.arg 0)))).holds [] { args:=[.list (ns.map .int)] }=true:=by
   have h4:=(holds_andW hc).1
   rw [hn] at h4
   exact h4
  have h5:=condW_of h4 (w_not (w_lt w_lit (w_len_list (w_arg rfl))))
  rw [List.length_map] at h5
  refine Nat.le_of_not_lt fun q=>?_
  have q':(n:Int) < ((ns.length:Nat):Int):=by omega
  first
   | (rw [decide_eq_true q'] at h5;exact absurd h5 (by decide))
   | (simp at h5;omega)
 cases hwl with
 | cons w1 w2 =>
  cases w2
  cases w1 with
  | list ho hall=>exact ⟨_,_,ns,rfl,rfl,ho,ints_of_wellAll ns _ hall,hlen⟩
theorem post_true (l:OpenLaw)(args:List WData):l.row.toRowW.claim.post args (.bool true) args=true :=
 postW_of (r:=l.row.toRowW) (X:=(true == true))
  (show WShape.has [] (.bool true) .bool=true by first | rfl | decide | simp [WShape.has,WShape.arms,WShape.armsAll])
  (show (WTm.eq .res (.lit (.bool true))).value [] { args:=args,res:=some (.bool true),after:=args }=some (.bool (true == true)) from w_eq_bool (w_res rfl) w_lit) rfl
theorem attach_call {l:OpenLaw}{n:Nat}{q:Program}{loose:List Str}{XP:(Str→Option Value)→Heap→Prop}{YP:World→Heap→Prop}{d:DefRec}
  (hn:l.most=some n) (hdf:d.params.defaults=[])
  (call:∀ (w:World) (sZ s₁:Shared) (mg mb:Str→Option Value) (fa:Addr) (o:Obj) (pm cd doc:Value) (a:Addr) (vs:List Value) (ns:List Int),
   Ground q loose [] XP w sZ mg mb s₁.heap → YP w s₁.heap →
   s₁.heap.get? fa=some o→o.data = .func (docDef d.name d.params d.body d.scope pm cd doc)→s₁.heap.CodeRec cd d.name → mg d.name=some (.ref fa) →
   s₁.heap.get? a=some { cls:=.type "list",data:=.seq vs.toArray }→IntsAre vs ns→ns.length ≤ n→s₁.gens = #[] →
   codeAny (model l.prog w) callerA (.call (.ref fa) ⟨[.ref a],[]⟩) (fun r s'=>r = .ok (.ret (.bool true))∧OldK s₁.heap s'.heap ∧ s'.os=s₁.os ∧ AllBare s'.gens) s₁) :
  WalkO q loose XP YP l.row.toRowW d [] (fun f vs=>PySem.call f vs):=by
 intro w sZ s₁ mg mb G Y fa o pm cd doc dV kV ho hd hcd hD hmg hg args vals as hpre hlay hrd hwl hlo
 obtain rfl:dV = .none:=Dflts.none hD hdf
 obtain rfl:kV = .none:=Dflts.noKw hD
 obtain ⟨a,vs,ns,rfl,rfl,hobj,hints,hlen⟩:=script_of hn hpre hwl
 refine enter_call (codeAny_mono (call w sZ s₁ mg mb fa o pm cd doc a vs ns G Y ho (fd_plain hd) hcd hmg hobj hints hlen hg) fun r s' hq=>?_)
 obtain ⟨rfl,h2,h3,h4⟩:=hq
 exact ⟨.inl ⟨.bool true,.bool true,[],rfl,fun _=>rfl,.bool true,post_true l _,fun _=>⟨List.Pairwise.nil,fun _ hm=>(nomatch hm)⟩⟩,h2,h3,h4⟩
end Att
namespace L2
open PySem PySem.Spec PyProof.Rows
theorem vals_ints:∀ {vs:List Value} {ns:List Int},IntsAre vs ns→Vals (ns.map V.int) vs
 | _,_,.nil=>.nil
 | _,_,.cons n t h=>.cons ⟨t,rfl⟩ (vals_ints h)
def Only (H:Hp):Prop:=∀ b,H b=none ∨ ∃ o xs,H b=some (.frz o (.lst xs))
theorem law_call {P:Program}{w:World}{K:PySem.W.Frag}{mg mb:Str→Option Value}{CX:CXT}{k:Nat}{fa a:Addr}{fd:FuncData}{x:Str}{sp:Sp}{s₁:Shared}{vs:List Value}{ns:List Int}
  (KX:K.In s₁.heap) (hns:s₁.heap.Ns mainGlobals mg) (hb:s₁.heap.Ns builtinsNs mb) (hbb:∀ x:Str,x ≠ "__name__"→mb x=bootBuiltins x) (hlim:s₁.heap.NoLimit) (hg:s₁.gens = #[])
  (ha:s₁.heap.get? a=some { cls:=.type "list",data:=.seq vs.toArray }) (hi:IntsAre vs ns) (hl:ns.length ≤ sizeLine) (hr:Room k callerA)
  (F:∀ base:Heap,K.In base→base.Ns mainGlobals mg→FnOk P w K mg base CX k fa fd [x] sp) (hbind:∀ (s:Shared) (u:Value),BindsTo s fd ⟨[u],[]⟩ [(x,u)])
  (hsp:∀ H:Hp,Only H→SqL K H a (ns.map V.int)→sp [.ref a] H (fun v _=>v = .bl true) fun _ _ _=>False)
  (hCX:∀ H e s',CX [] H s₁ (fun _ _ _=>False) e s'→False) :
  codeAny (model P w) callerA (.call (.ref fa) ⟨[.ref a],[]⟩) (fun r s'=>r = .ok (.ret (.bool true))∧OldK s₁.heap s'.heap ∧ s'.os=s₁.os ∧ AllBare s'.gens) s₁:=by
 have rv:=vals_ints hi
 have lenV:=hi.length
 have core:∀ H:Hp,Only H→SqL K H a (ns.map V.int)→HOk P w H s₁.heap → (∀ b,H b≠none→b=a)→(H a≠none→K.lookup a=none) →
   codeAny (model P w) callerA (.call (.ref fa) ⟨[.ref a],[]⟩) (fun r s'=>r = .ok (.ret (.bool true))∧OldK s₁.heap s'.heap ∧ s'.os=s₁.os ∧ AllBare s'.gens) s₁:=by
  intro H hO hS hok hA hK
  have base_of:∀ {b:Addr} {o:Obj},s₁.heap.get? b=some o→H b=none→(hidT s₁.heap H).get? b=some o:=fun e n=>hidT_get e n
  have noA:∀ {b:Addr} {o:Obj} {es:Array DictEntry} {ep:Nat},s₁.heap.get? b=some o→o.data = .dict es ep→H b=none:=fun {b o es ep} e d=>by
   cases q:H b with
   | none=>rfl
   | some u =>
    have e':b=a:=hA b (by rw [q];simp)
    subst e'
    rw [ha] at e;cases e
    have d':Data.seq vs.toArray _=Data.dict es ep:=d
    cases d'
  have nsK:∀ {b:Addr} {m:Str→Option Value},s₁.heap.Ns b m→(hidT s₁.heap H).Ns b m:=fun {b m} ⟨o,es,ep,e,d,r⟩=>⟨o,es,ep,base_of e (noA e d),d,r⟩
  have hKb:K.In (hidT s₁.heap H):=fun b o e=>base_of (KX b o e) (by
   cases q:H b with
   | none=>rfl
   | some u =>
    have e':b=a:=hA b (by rw [q];simp)
    subst e'
    rw [hK (by rw [q];simp)] at e;cases e)
  have hM:Mod K mg (hidT s₁.heap H):=⟨hKb,nsK hns,⟨mb,nsK hb,hbb⟩,let ⟨mc,h1,h2⟩:=hlim;⟨mc,nsK h1,h2⟩⟩
  have e0:Env0 P w K mg (hidT s₁.heap H) callerA [] s₁ H:=⟨rfl,hM,fun b o e=>of_hidT e,Nat.le_of_eq (hidT_size _ _),trivial,fun b hb=>absurd (show b∈([]:List Addr) from hb) (by simp),hok,.of_eq hg⟩
  refine codeAny_mono ((F _ hKb (nsK hns)).run callerA [] s₁ H ⟨[.ref a],[]⟩ [.ref a] [.ref a] _ _ hr e0 (hbind s₁ (.ref a)) (.cons rfl .nil) (hsp H hO hS)) fun r s' h=>?_
  cases r with
  | error e=>exact (hCX H e s' h).elim
  | ok fl =>
   cases fl with
   | next=>exact False.elim h
   | brk=>exact False.elim h
   | cont=>exact False.elim h
   | ret u =>
    obtain ⟨v,H',os,bare,un,hok',r',q⟩:=h
    have q':v = .bl true:=q
    subst q'
    obtain rfl:u=Value.bool true:=r'
    refine ⟨rfl,OldK.of_keep fun b o e=>?_,os,bare⟩
    cases q:H b with
    | none=>exact un.keep b o e q (by intro z;exact absurd (show b∈([]:List Addr) from z) (by simp)) (by simp)
    | some u =>
     rcases hO b with z | ⟨ob,xs,z⟩
     ·rw [q] at z;cases z
     ·have z2:=un.frzs b ob _ z
      obtain ⟨e1,_⟩:=hok b _ z
      obtain ⟨e2,_⟩:=hok' b _ z2
      rw [e] at e1;cases e1
      exact e2
 cases hk:K.lookup a with
 | some o =>
  have e:=KX a o hk
  rw [ha] at e
  cases e
  refine core (fun _=>none) (fun _=>.inl rfl) (.inr ⟨_,vs.toArray,_,hk,rfl,rfl,rfl,by rw [List.size_toArray,lenV];exact hl,by simpa using rv⟩) (fun b u z=>by have z':(none:Option HO)=some u:=z;cases z') (fun b z=>absurd rfl z) fun z=>absurd rfl z
 | none =>
  refine core (fun b=>if b=a then some (.frz { cls:=.type "list",data:=.seq vs.toArray } (.lst (ns.map V.int))) else none) (fun b=>?_) (.inl (.inr ⟨{ cls:=.type "list",data:=.seq vs.toArray },if_pos rfl⟩)) (fun b u z=>?_) (fun b z=>?_) fun _=>hk
  ·by_cases hb:b=a
   ·exact .inr ⟨_,_,if_pos hb⟩
   ·exact .inl (if_neg hb)
  ·by_cases hb:b=a
   ·have z':=(if_pos hb).symm.trans z
    cases z'
    subst hb
    exact ⟨ha,by rw [List.length_map];exact hl,vs,_,rv,ha⟩
   ·have z':=(if_neg hb).symm.trans z
    cases z'
  ·by_cases hb:b=a
   ·exact hb
   ·exact absurd (if_neg hb) z
end L2
namespace L2
open PySem PySem.Spec PyProof.Rows
abbrev KOf {K:PySem.W.Frag}{h:Heap}(_:K.In h):PySem.W.Frag:=K
theorem walk_of {l:PySem.W.OpenLaw}{n k:Nat}{q:Program}{loose:List Str}{XP:(Str→Option Value)→Heap→Prop}{YP:World→Heap→Prop}{d:DefRec}{K:Params→PySem.W.Frag}{CX:World→CXT}{sp:World→Sp}{x:Str}
  (hn:l.most=some n) (hn2:n≤sizeLine) (hdf:d.params.defaults=[]) (hr:Room k callerA)
  (hY:∀ (w:World) (h:Heap),YP w h→(K w.params).In h)
  (F:∀ (w:World) (mg:Str→Option Value) (fa:Addr) (h:Heap),(K w.params).In h→h.Ns mainGlobals mg→mg d.name=some (.ref fa) →
   ∃ fd:FuncData,(∀ (s:Shared) (u:Value),BindsTo s fd ⟨[u],[]⟩ [(x,u)]) ∧
    ∀ base:Heap,(K w.params).In base→base.Ns mainGlobals mg→FnOk l.prog w (K w.params) mg base (CX w) k fa fd [x] (sp w))
  (hsp:∀ (w:World) (H:Hp) (a:Addr) (ns:List Int),ns.length ≤ n→Only H→SqL (K w.params) H a (ns.map V.int)→sp w [.ref a] H (fun v _=>v = .bl true) fun _ _ _=>False)
  (hCX:∀ (w:World) (H:Hp) (s:Shared) (e:Value) (s':Shared),CX w [] H s (fun _ _ _=>False) e s'→False) :
  PySem.W.WalkO q loose XP YP l.row.toRowW d [] (fun f vs=>PySem.call f vs):=by
 refine Att.attach_call hn hdf fun w sZ s₁ mg mb fa o pm cd doc a vs ns G Y ho hd hcd hmg hobj hints hlen hg=>?_
 have KX:=hY w _ Y
 obtain ⟨fd,hb,hF⟩:=F w mg fa _ KX G.T.g hmg
 exact law_call KX G.T.g G.T.b G.T.builtins G.T.nolimit hg hobj hints (Nat.le_trans hlen hn2) hr hF hb (fun H hO hS=>hsp w H a ns hlen hO hS) fun H e s'=>hCX w H s₁ e s'
end L2
namespace L2
open PySem PySem.Spec PyProof.Rows
def inClass (s:Stmt)(j:Nat):Stmt:=match s with
 | .ClassDef _ _ _ body _ _ _ _ _ _ _=>body.getD j (.Pass ⟨0,0,0,0⟩)
 | _=>.Pass ⟨0,0,0,0⟩
def defArgs (s:Stmt):Arguments:=match s with
 | .FunctionDef _ a _ _ _ _ _ _ _ _=>a
 | _=>{ posonlyargs:=[],args:=[],vararg:=none,kwonlyargs:=[],kw_defaults:=[],kwarg:=none,defaults:=[] }
def defBody (s:Stmt):List Stmt:=match s with
 | .FunctionDef _ _ b _ _ _ _ _ _ _=>b
 | _=>[]
def defScope (s:Stmt):Scope:=match s with
 | .FunctionDef _ _ _ _ _ _ sc _ _ _=>sc
 | _=>{ kind:=.function,names:=[],isGenerator:=false,isCoroutine:=false }
abbrev CX0:CXT:=fun _ _ _ _ _ _=>False
abbrev E0:XK:=fun _ _ _=>False
theorem pass0 {X:Cx}:Passes CX0 X E0:=fun _ _ _ _ _ _ _ h=>h.elim
structure Fun (K:PySem.W.Frag)(x qual:Str)(st:Stmt)(f:Addr)(fd:FuncData):Prop where
 ex:∃ (oc:Value) (od:Option Addr) (kV doc pm:Value) (an:Option Addr) (cdv ct:Value) (osl:Array (Option Value)),
  fd=PySem.W.fnOf x qual (defArgs st) (defBody st) (defScope st) .none kV doc pm an cdv ct∧K.lookup f=some ⟨oc,od,.func fd,osl⟩∧PySem.W.codeIn K cdv qual=true
 kp:PySem.W.keepIn K (.ref f)=true
section
variable {P:Program}{w:World}{K:PySem.W.Frag}{mg:Str→Option Value}{base:Heap}
theorem Fun.ok {x qual:Str}{st:Stmt}{f:Addr}{fd:FuncData}{N ps:List Str}{k:Nat}{sp:Sp}(F:Fun K x qual st f fd)(S:FnScope N ps (defScope st))(len:∀ vs H Q E,sp vs H Q E→vs.length=ps.length)
  (hbody:∀ (cdv:Value) (A:Around) (outer:List Env) (s:Shared) (H:Hp) (vs:List V) (Q:VK) (E:XK),Room k (A.deeper (envOfC qual (defScope st) s.heap.objs.size f cdv))→sp vs H Q E →
   ∃ t,PSs (cxOf CX0 P w K mg base N qual (defScope st) f cdv A outer s H E).nox (defBody st) t∧t { nx:=fun _ H'=>Q .non H',rt:=Q } (start N vs) H):FnOk P w K mg base CX0 (k + 1) f fd ps sp:=by
 obtain ⟨oc,od,kV,doc,pm,an,cdv,ct,osl,rfl,lk,hcd⟩:=F.ex
 refine fn_of lk hcd S len fun A outer s H vs Q E hr hsp=>?_
 obtain ⟨t,h,q⟩:=hbody cdv A outer s H vs Q E hr hsp
 exact ⟨t,h.nox,q⟩
theorem Fun.binds {x qual:Str}{st:Stmt}{f:Addr}{fd:FuncData}{ps:List Str}(F:Fun K x qual st f fd)
  (h:∀ (kV doc pm:Value) (an:Option Addr) (cdv ct:Value) (us:List Value),us.length=ps.length → bindArgs (PySem.W.fnOf x qual (defArgs st) (defBody st) (defScope st) .none kV doc pm an cdv ct) ⟨us,[]⟩=pure (ps.zip us)):Binds K fd ps []:=by
 obtain ⟨oc,od,kV,doc,pm,an,cdv,ct,osl,rfl,lk,hcd⟩:=F.ex
 exact .all (h kV doc pm an cdv ct)
theorem fun_mk {x qual:Str}{st:Stmt}{f:Addr}{oc:Value}{od an:Option Addr}{osl:Array (Option Value)}{kV doc pm cdv ct:Value}(l:K.lookup f=some ⟨oc,od,.func (PySem.W.fnOf x qual (defArgs st) (defBody st) (defScope st) .none kV doc pm an cdv ct),osl⟩)
  (c:PySem.W.codeIn K cdv qual=true) (k:PySem.W.keepIn K (.ref f)=true):Fun K x qual st f (PySem.W.fnOf x qual (defArgs st) (defBody st) (defScope st) .none kV doc pm an cdv ct):=⟨⟨oc,od,kV,doc,pm,an,cdv,ct,osl,rfl,l,c⟩,k⟩
end
section
variable {X:Cx}
theorem pv (i:Nat) {x:Str} {pos:Pos} (hN:X.N[i]? = some x:=by rfl) (hv:Vis X.env.scope x:=by first | exact Or.inl rfl | exact Or.inr (Or.inl rfl) | exact Or.inr (Or.inr rfl)) (hd:(x == ("__debug__" : Str))=false:=by decide)
  (hcd:(x == ("__classdict__" : Str))=false:=by decide):PE X (.Name x pos) (tVar i):=pe_var hN hv hd hcd
end
theorem iteF {A B:Prop}(h:B):if false=true then A else B:=by
 rw [if_neg Bool.false_ne_true]
 exact h
theorem iteT {A B:Prop}(h:A):if true=true then A else B:=by
 rw [if_pos rfl]
 exact h
theorem ite2 {c A B:Prop}[Decidable c](h1:c→A)(h2:¬ c→B):if c then A else B:=by
 by_cases h:c
 ·rw [if_pos h]
  exact h1 h
 ·rw [if_neg h]
  exact h2 h
def Same (H H':Hp):Prop:=∀ b o,H b=some o→H' b=some o
theorem Same.refl (H:Hp):Same H H:=fun _ _ h=>h
theorem Same.trans {H H1 H2:Hp}(a:Same H H1)(b:Same H1 H2):Same H H2:=fun c o h=>b c o (a c o h)
theorem Same.free {H H':Hp}(e:Same H H'){l:Addr}(h:H' l=Option.none):H l=Option.none:=by
 cases q:H l with
 | none=>rfl
 | some o =>
  rw [e l o q] at h
  cases h
theorem Same.seq {K:PySem.W.Frag}{H H':Hp}{a:Addr}{xs:List V}(e:Same H H')(h:SqL K H a xs):SqL K H' a xs:=by
 rcases h with (h | ⟨o,h⟩) | h
 ·exact .inl (.inl (e _ _ h))
 ·exact .inl (.inr ⟨o,e _ _ h⟩)
 ·exact .inr h
end L2
namespace L2
open PySem PySem.Spec PyProof.Rows
def clOf (cells:List (Str × Addr)):List (Str × NameKind)→List (Str × Addr)→List (Str × Addr)
 | [],acc=>acc
 | (n,k) :: r,acc=>if k == .free then (match cells.lookup n with | some a=>clOf cells r ((n,a) :: acc) | none=>clOf cells r acc) else clOf cells r acc
theorem clOf_for {env:Env}(f:Str × NameKind→List (Str × Addr)→Sem (ForInStep (List (Str × Addr))))
  (hf:∀ n k cs,f (n,k) cs=if k == .free then (do let a ← cellOf env n;pure (.yield ((n,a) :: cs))) else pure (.yield cs)) :
  ∀ (names:List (Str × NameKind)) (acc:List (Str × Addr)),(∀ y∈names,y.2 = .free → ∃ c,env.cells.lookup y.1=some c)→forIn names acc f=pure (clOf env.cells names acc)
 | [],acc,_=>by rw [List.forIn_nil];rfl
 | (n,k) :: r,acc,h=>by
  have hr:∀ y∈r,y.2 = .free → ∃ c,env.cells.lookup y.1=some c:=fun y hy=>h y (List.mem_cons_of_mem _ hy)
  rw [List.forIn_cons,hf]
  unfold clOf
  by_cases hk:k = .free
  ·subst hk
   obtain ⟨c,hc⟩:=h (n,.free) List.mem_cons_self rfl
   have hc':env.cells.lookup n=some c:=hc
   have e1:cellOf env n=pure c:=by unfold cellOf;rw [hc']
   have ef:(NameKind.free == NameKind.free)=true:=rfl
   rw [if_pos ef,if_pos ef,e1,hc']
   exact clOf_for f hf r ((n,c) :: acc) hr
  ·have hb:(k == NameKind.free)=false:=by simpa using hk
   rw [hb,if_neg Bool.false_ne_true,if_neg Bool.false_ne_true]
   exact clOf_for f hf r acc hr
theorem closureFor_cl {scope:Scope}{env:Env}(h:∀ y∈scope.names,y.2 = .free → ∃ c,env.cells.lookup y.1=some c):closureFor scope env=pure (clOf env.cells scope.names []):=by
 have e:=clOf_for (env:=env) (fun x cs=>match x with | (n,k)=>if k == .free then (do let a ← cellOf env n;pure (.yield ((n,a) :: cs))) else pure (.yield cs)) (fun _ _ _=>rfl) scope.names [] h
 show (forIn scope.names [] _ >>= fun cs=>pure cs)=_
 refine Eq.trans (congrArg (· >>= fun cs=>pure cs) (Eq.trans ?_ e)) rfl
 refine congrArg _ (funext fun x=>funext fun cs=>?_)
 obtain ⟨n,k⟩:=x
 cases hk:k == NameKind.free <;> simp [hk]
theorem lookup_clOf {cells:List (Str × Addr)}:∀ {names:List (Str × NameKind)} {acc:List (Str × Addr)},(∀ n c,acc.lookup n=some c→cells.lookup n=some c)→∀ n c,(clOf cells names acc).lookup n=some c→cells.lookup n=some c
 | [],_,h,n,c,e=>h n c e
 | (m,k) :: r,acc,h,n,c,e=>by
  unfold clOf at e
  split at e
  ·split at e
   ·rename_i a ha
    refine lookup_clOf (names:=r) (acc:=(m,a) :: acc) (fun x d q=>?_) n c e
    rw [List.lookup_cons] at q
    cases hb:x == m with
    | true=>rw [hb] at q;cases q;rw [beq_iff_eq.mp hb];exact ha
    | false=>rw [hb] at q;exact h x d q
   ·exact lookup_clOf (names:=r) h n c e
  ·exact lookup_clOf (names:=r) h n c e
theorem clOf_acc {cells:List (Str × Addr)}{n:Str}:∀ {names:List (Str × NameKind)} {acc:List (Str × Addr)},(∃ c,acc.lookup n=some c)→∃ c,(clOf cells names acc).lookup n=some c
 | [],_,h=>h
 | (m,k) :: r,acc,h=>by
  unfold clOf
  split
  ·split
   ·rename_i a ha
    refine clOf_acc (names:=r) ?_
    rw [List.lookup_cons]
    cases hb:n == m with
    | true=>exact ⟨a,rfl⟩
    | false=>exact h
   ·exact clOf_acc (names:=r) h
  ·exact clOf_acc (names:=r) h
theorem clOf_has {cells:List (Str × Addr)}{n:Str}{c:Addr}(hc:cells.lookup n=some c):∀ {names:List (Str × NameKind)} {acc:List (Str × Addr)},(n,NameKind.free)∈names→∃ d,(clOf cells names acc).lookup n=some d
 | (m,k) :: r,acc,h=>by
  unfold clOf
  rcases List.mem_cons.mp h with e | h
  ·cases e
   rw [if_pos (show (NameKind.free == NameKind.free)=true from rfl),hc]
   exact clOf_acc (names:=r) ⟨c,by rw [List.lookup_cons,beq_self_eq_true]⟩
  ·split
   ·split
    ·exact clOf_has hc h
    ·exact clOf_has hc h
   ·exact clOf_has hc h
theorem cellsFrom_not {y:Str}:∀ {names:List (Str × NameKind)} {n:Nat} {acc:List (Str × Addr)},(∀ p∈names,p.2 = .cell → p.1 ≠ y)→(cellsFrom n names acc).lookup y=acc.lookup y
 | [],_,_,_=>rfl
 | (m,k) :: r,n,acc,h=>by
  have hr:∀ p∈r,p.2 = .cell → p.1 ≠ y:=fun p hp=>h p (List.mem_cons_of_mem _ hp)
  unfold cellsFrom
  by_cases hk:k = .cell
  ·subst hk
   rw [if_pos (show (NameKind.cell == NameKind.cell)=true from rfl),cellsFrom_not hr,List.lookup_cons]
   have:(y == m)=false:=by simpa using Ne.symm (h (m,.cell) List.mem_cons_self rfl)
   rw [this]
  ·rw [if_neg (by simpa using hk)]
   exact cellsFrom_not hr
theorem cellsFrom_new:∀ {names:List (Str × NameKind)} {h:Heap} {acc:List (Str × Addr)} {y:Str} {c:Addr},(cellsFrom h.objs.size names acc).lookup y=some c →
  (h.objs.size ≤ c∧(pushCells h names).IsCell c none) ∨ acc.lookup y=some c
 | [],_,_,_,_,e=>.inr e
 | (m,k) :: r,h,acc,y,c,e=>by
  unfold cellsFrom at e
  unfold pushCells
  by_cases hk:(k == NameKind.cell)=true
  ·rw [if_pos hk] at e ⊢
   have e':(cellsFrom (h.push { cls:=.type "cell",data:=.cell none }).objs.size r ((m,h.objs.size) :: acc)).lookup y=some c:=by rw [Heap.size_push];exact e
   rcases cellsFrom_new e' with ⟨q1,q2⟩ | q
   ·rw [Heap.size_push] at q1
    exact .inl ⟨Nat.le_of_succ_le q1,q2⟩
   ·rw [List.lookup_cons] at q
    cases hb:y == m with
    | true =>
     rw [hb] at q;cases q
     exact .inl ⟨Nat.le_refl _,Heap.IsCell.keeps ⟨_,Heap.get?_push_size _ rfl,rfl⟩ (pushCells_keeps _ _)⟩
    | false=>rw [hb] at q;exact .inr q
  ·rw [if_neg hk] at e ⊢
   exact cellsFrom_new e
theorem cellsFrom_inj:∀ {names:List (Str × NameKind)} {n:Nat} {acc:List (Str × Addr)},(∀ x y c,acc.lookup x=some c→acc.lookup y=some c→x=y)→(∀ x c,acc.lookup x=some c→c < n) →
  ∀ x y c,(cellsFrom n names acc).lookup x=some c→(cellsFrom n names acc).lookup y=some c→x=y
 | [],_,_,h,_=>h
 | (m,k) :: r,n,acc,h,lt=>by
  unfold cellsFrom
  by_cases hk:(k == NameKind.cell)=true
  ·rw [if_pos hk]
   have one:∀ x c,((m,n) :: acc).lookup x=some c→(x=m∧c=n) ∨ acc.lookup x=some c:=fun x c e=>by
    rw [List.lookup_cons] at e
    cases hb:x == m with
    | true=>rw [hb] at e;cases e;exact .inl ⟨beq_iff_eq.mp hb,rfl⟩
    | false=>rw [hb] at e;exact .inr e
   refine cellsFrom_inj (fun x y c ex ey=>?_) fun x c e=>?_
   ·rcases one x c ex with ⟨a1,a2⟩ | a <;> rcases one y c ey with ⟨b1,b2⟩ | b
    ·rw [a1,b1]
    ·exact absurd (lt y c b) (by rw [a2];exact Nat.lt_irrefl _)
    ·exact absurd (lt x c a) (by rw [b2];exact Nat.lt_irrefl _)
    ·exact h x y c a b
   ·rcases one x c e with ⟨_,a2⟩ | a
    ·rw [a2];exact Nat.lt_succ_self _
    ·exact Nat.lt_succ_of_lt (lt x c a)
  ·rw [if_neg hk]
   exact cellsFrom_inj h lt
theorem cellsFrom_acc {y:Str}:∀ {names:List (Str × NameKind)} {n:Nat} {acc:List (Str × Addr)},(∃ c,acc.lookup y=some c)→∃ c,(cellsFrom n names acc).lookup y=some c
 | [],_,_,h=>h
 | (m,k) :: r,n,acc,h=>by
  unfold cellsFrom
  split
  ·refine cellsFrom_acc ?_
   rw [List.lookup_cons]
   cases y == m with
   | true=>exact ⟨_,rfl⟩
   | false=>exact h
  ·exact cellsFrom_acc h
theorem cellsFrom_has {y:Str}:∀ {names:List (Str × NameKind)} {n:Nat} {acc:List (Str × Addr)},(y,NameKind.cell)∈names→∃ c,(cellsFrom n names acc).lookup y=some c
 | (m,k) :: r,n,acc,h=>by
  unfold cellsFrom
  rcases List.mem_cons.mp h with e | h
  ·cases e
   rw [if_pos (show (NameKind.cell == NameKind.cell)=true from rfl)]
   exact cellsFrom_acc ⟨n,by rw [List.lookup_cons,beq_self_eq_true]⟩
  ·split
   ·exact cellsFrom_has h
   ·exact cellsFrom_has h
theorem cellsFrom_ge {y:Str}{lo:Nat}:∀ {names:List (Str × NameKind)} {n:Nat} {acc:List (Str × Addr)} {c:Addr},lo≤n→((y,NameKind.cell)∈names ∨ ∀ d,acc.lookup y=some d→lo≤d)→(cellsFrom n names acc).lookup y=some c→lo≤c
 | [],n,acc,c,hn,h,e=>h.elim (fun z=>nomatch z) fun z=>z c e
 | (m,k) :: r,n,acc,c,hn,h,e=>by
  unfold cellsFrom at e
  by_cases hk:(k == NameKind.cell)=true
  ·rw [if_pos hk] at e
   have k':k = .cell:=beq_iff_eq.mp hk
   subst k'
   refine cellsFrom_ge (names:=r) (Nat.le_succ_of_le hn) ?_ e
   by_cases hm:(y,NameKind.cell)∈r
   ·exact .inl hm
   ·refine .inr fun d q=>?_
    rw [List.lookup_cons] at q
    cases hb:y == m with
    | true=>rw [hb] at q;cases q;exact hn
    | false =>
     rw [hb] at q
     rcases h with z | z
     ·rcases List.mem_cons.mp z with z | z
      ·cases z;simp at hb
      ·exact absurd z hm
     ·exact z d q
  ·rw [if_neg hk] at e
   refine cellsFrom_ge (names:=r) hn ?_ e
   rcases h with z | z
   ·rcases List.mem_cons.mp z with z | z
    ·cases z;exact absurd rfl hk
    ·exact .inl z
   ·exact .inr z
section
variable {M:Model}{A:Around}{E:Value→Shared→Prop}{s:Shared}
theorem newCompEnv {scope:Scope}{globals:Addr}{cl:List (Str × Addr)}{qual:Str}{env:Env}{Q:Env→Shared→Prop}
  (h:Q { scope:=scope,locals:=s.heap.objs.size,globals:=globals,cells:=cellsFrom (s.heap.objs.size + 1) scope.names cl,qual:=qual,func:=none,code:=env.code,frame:=env.frame,builtins:=env.builtins }
   { s with heap:=pushCells (s.heap.push { cls:=.type "dict",data:=.dict #[] }) scope.names }) :
  wpAny M A (newFunctionEnv scope globals cl [] qual none .none (some env)) Q E s:=by
 simp only [newFunctionEnv,Option.isSome_some,if_true]
 refine wpAny_bind (wpAny_alloc ?_)
 refine wpAny_bind (wpAny_layCells _ (fun name kind cells=>by cases hkc:kind == NameKind.cell <;> simp [hkc]) _ _ _ _ ?_)
 rw [show ({ s with heap:=s.heap.push { cls:=.type "dict",data:=.dict #[] } }:Shared).heap.objs.size=s.heap.objs.size + 1 from Heap.size_push ..]
 refine wpAny_bind ?_
 rw [List.forIn_nil]
 exact wpAny_pure (wpAny_pure h)
end
theorem kindOf_relabel {env:Env}:∀ (names:List (Str × NameKind)) (x:Str),
  (names.map fun (n,k)=>if (k == NameKind.free && env.scope.kind == .function && env.kindOf n == some .cell) then (n,NameKind.cell) else (n,k)).lookup x =
   (names.lookup x).map fun k=>if (k == NameKind.free && env.scope.kind == .function && env.kindOf x == some .cell) then NameKind.cell else k
 | [],_=>rfl
 | (n,k) :: r,x=>by
  rw [List.map_cons]
  show List.lookup x ((if (k == NameKind.free && env.scope.kind == .function && env.kindOf n == some .cell)=true then (n,NameKind.cell) else (n,k)) :: _)=_
  cases hx:x == n with
  | true =>
   have e:=beq_iff_eq.mp hx
   subst e
   by_cases hc:(k == NameKind.free && env.scope.kind == .function && env.kindOf x == some .cell)=true
   ·rw [if_pos hc,List.lookup_cons,List.lookup_cons,beq_self_eq_true]
    show _=some (if (k == NameKind.free && env.scope.kind == .function && env.kindOf x == some .cell)=true then NameKind.cell else k)
    rw [if_pos hc]
   ·rw [if_neg hc,List.lookup_cons,List.lookup_cons,beq_self_eq_true]
    show _=some (if (k == NameKind.free && env.scope.kind == .function && env.kindOf x == some .cell)=true then NameKind.cell else k)
    rw [if_neg hc]
  | false =>
   have ih:=kindOf_relabel (env:=env) r x
   by_cases hc:(k == NameKind.free && env.scope.kind == .function && env.kindOf n == some .cell)=true
   ·rw [if_pos hc,List.lookup_cons,List.lookup_cons,hx];exact ih
   ·rw [if_neg hc,List.lookup_cons,List.lookup_cons,hx];exact ih
def sel (idx:List Nat)(σ:St):St:=idx.map fun j=>(σ[j]?).join
def Cx.comp (X:Cx)(scope:Scope)(cells:List (Str × Addr))(C:Addr)(N':List Str)(s2:Shared)(H2:Hp)(fp:List Addr):Cx where
 prog:=X.prog
 w:=X.w
 K:=X.K
 mg:=X.mg
 base:=X.base
 A:=X.A
 N:=N'
 sZ:=s2
 HZ:=H2
 env:=compEnvC scope cells C X.env
 outer:=X.stack
 stack:=X.stack
 ex:=fp
 fn:=fun y=>scope.names.lookup y == some .cell
 calm:=X.calm
 pn:=[]
 xe:=fun _ _=>False
structure CompOk (X:Cx)(scope:Scope)(M:List Str)(idx:List Nat):Prop where
 kind:scope.kind = .function
 loc:∀ y∈scope.names,y.2 = .local → scope.names.lookup y.1=some .local
 cel:∀ y∈scope.names,y.2 = .cell → scope.names.lookup y.1=some .cell
 fre:∀ y∈scope.names,y.2 = .free → X.env.kindOf y.1=some .cell ∨ X.env.kindOf y.1=some .free
 len:idx.length=M.length
 cap:∀ (j:Nat) (y:Str),M[j]? = some y→scope.names.lookup y=some .free ∧ ∃ k,idx[j]? = some k∧X.N[k]? = some y
theorem sel_get {idx:List Nat}{σ:St}{j:Nat}{v:V}(h:(sel idx σ)[j]? = some (some v)):∃ k,idx[j]? = some k∧σ[k]? = some (some v):=by
 unfold sel at h
 rw [List.getElem?_map] at h
 cases e:idx[j]? with
 | none=>rw [e] at h;cases h
 | some k =>
  rw [e] at h
  refine ⟨k,rfl,?_⟩
  have h':(σ[k]?).join=some v:=Option.some.inj h
  cases q:σ[k]? with
  | none=>rw [q] at h';cases h'
  | some o =>
   rw [q] at h'
   have h'':o=some v:=h'
   rw [h'']
section
variable {X:Cx}{pins:List (Addr × Obj)}{σ:St}{H:Hp}{s:Shared}
theorem comp_start {scope:Scope}{M:List Str}{idx:List Nat}{fp:List Addr}{x:Str}(ok:CompOk X scope M idx)(hc:X.calm=true)(I:Inv X pins σ H s)(hf:∀ b∈fp,FpOk X pins H b)
  (ho:∀ b∈fp,∃ o,s.heap.get? b=some o) :
  Inv (X.comp scope (cellsFrom (s.heap.objs.size + 2) scope.names (clOf X.env.cells scope.names [])) (s.heap.objs.size + 1) (x :: M) s H fp) [] (none :: sel idx σ) H
   { s with heap:=pushCells ((s.heap.push { cls:=.type "list",dict:=none,data:=.seq ([]:List Value).toArray }).push { cls:=.type "dict",data:=.dict #[] }) scope.names }:=by
 have sz2:((s.heap.push { cls:=.type "list",dict:=none,data:=.seq ([]:List Value).toArray }).push { cls:=.type "dict",data:=.dict #[] }).objs.size=s.heap.objs.size + 2:=by rw [Heap.size_push,Heap.size_push]
 have keep:∀ b o,s.heap.get? b=some o→(pushCells ((s.heap.push { cls:=.type "list",dict:=none,data:=.seq ([]:List Value).toArray }).push { cls:=.type "dict",data:=.dict #[] }) scope.names).get? b=some o :=
  fun b o e=>pushCells_keeps _ _ _ _ (Heap.get?_push_of_some _ (Heap.get?_push_of_some _ e))
 have clLook:∀ n c,(clOf X.env.cells scope.names []).lookup n=some c→X.env.cells.lookup n=some c:=lookup_clOf fun n c e=>by simp at e
 have clLt:∀ n c,(clOf X.env.cells scope.names []).lookup n=some c→c < s.heap.objs.size:=fun n c e=>by
  obtain ⟨v,z⟩:=I.cell n c (clLook n c e)
  exact z.lt
 have look:∀ n c,(cellsFrom (s.heap.objs.size + 2) scope.names (clOf X.env.cells scope.names [])).lookup n=some c →
   (s.heap.objs.size + 2≤c∧(pushCells ((s.heap.push { cls:=.type "list",dict:=none,data:=.seq ([]:List Value).toArray }).push { cls:=.type "dict",data:=.dict #[] }) scope.names).IsCell c none) ∨ X.env.cells.lookup n=some c:=fun n c e=>by
  have e':(cellsFrom ((s.heap.push { cls:=.type "list",dict:=none,data:=.seq ([]:List Value).toArray }).push { cls:=.type "dict",data:=.dict #[] }).objs.size scope.names (clOf X.env.cells scope.names [])).lookup n=some c:=by rw [sz2];exact e
  rcases cellsFrom_new e' with ⟨q1,q2⟩ | q
  ·rw [sz2] at q1;exact .inl ⟨q1,q2⟩
  ·exact .inr (clLook n c q)
 have fresh:∀ a,s.heap.objs.size ≤ a→H a=none:=fun a h=>I.hok.fresh h
 have fpLt:∀ b∈fp,b < s.heap.objs.size:=fun b hb=>let ⟨_,e⟩:=ho b hb;Heap.lt_size e
 have fpStk:∀ b∈fp,b ∉ frs X.stack:=fun b hb z=>by
  obtain ⟨_,f1,f2,_⟩:=hf b hb
  exact (List.mem_cons.mp (I.stkSub b z)).elim f1 f2
 have hasFree:∀ y∈scope.names,y.2 = .free → ∃ c,X.env.cells.lookup y.1=some c:=fun y hy e=>I.ok.has y.1 (ok.fre y hy e)
 have kindR:∀ y,(compEnvC scope (cellsFrom (s.heap.objs.size + 2) scope.names (clOf X.env.cells scope.names [])) (s.heap.objs.size + 1) X.env).kindOf y =
   (scope.names.lookup y).map fun k=>if (k == NameKind.free && X.env.scope.kind == .function && X.env.kindOf y == some .cell) then NameKind.cell else k:=fun y=>kindOf_relabel scope.names y
 refine ⟨⟨I.ok.mod,ok.kind,I.ok.glob,I.ok.blt,Nat.le_succ _,?_,fun y hy=>?_,fun y c hfn e=>?_,I.ok.hd,I.ok.frames,.inl rfl,fun b hb=>⟨?_,fun y c e=>?_⟩,I.bs,Nat.le_trans I.ok.bsz I.sz,fun b o e hb=>?_,fun b hb=>fpStk b hb,I.stack,I.stkFree⟩,
  rfl,I.bare,Un.kept keep,⟨fun _=>none,?_,fun i y v h1 h2 h3=>?_⟩,fun y c e=>?_,fresh _ (Nat.le_succ _),fun y c e=>?_,fun p hp=>absurd (show p∈([]:List (Addr × Obj)) from hp) (by simp),I.hok.kept keep,?_⟩
 ·exact cellsFrom_inj (fun a b c h1 h2=>I.ok.inj a b c (clLook a c h1) (clLook b c h2)) fun a c h1=>Nat.lt_of_lt_of_le (clLt a c h1) (Nat.le_add_right _ _)
 ·-- has
  rw [show (X.comp scope (cellsFrom (s.heap.objs.size + 2) scope.names (clOf X.env.cells scope.names [])) (s.heap.objs.size + 1) (x :: M) s H fp).env.kindOf y=_ from kindR y] at hy
  show ∃ c,(cellsFrom (s.heap.objs.size + 2) scope.names (clOf X.env.cells scope.names [])).lookup y=some c
  cases hk:scope.names.lookup y with
  | none=>rw [hk] at hy;rcases hy with z | z <;> cases z
  | some k =>
   have mem:=PySem.mem_of_lookup hk
   by_cases k1:k = .cell
   ·subst k1;exact cellsFrom_has mem
   by_cases k2:k = .free
   ·subst k2
    obtain ⟨c,ec⟩:=hasFree _ mem rfl
    exact cellsFrom_acc (clOf_has ec mem)
   ·rw [hk] at hy
    have hb:(k == NameKind.free)=false:=by simpa using k2
    rw [Option.map_some,hb,Bool.false_and,Bool.false_and,if_neg Bool.false_ne_true] at hy
    rcases hy with z | z
    ·exact absurd (Option.some.inj z) k1
    ·exact absurd (Option.some.inj z) k2
 ·-- cab
  have hl:scope.names.lookup y=some .cell:=by simpa [Cx.comp] using hfn
  exact cellsFrom_ge (lo:=s.heap.objs.size) (by omega) (.inl (PySem.mem_of_lookup hl)) e
 ·-- exf
  exact Nat.ne_of_lt (Nat.lt_succ_of_lt (fpLt b hb))
 ·rcases look y c e with ⟨q,_⟩ | q
  ·exact fun z=>absurd (fpLt b hb) (by rw [← z];exact Nat.not_lt.mpr (Nat.le_trans (Nat.le_add_right _ 2) q))
  ·exact (hf b hb).2.2.2.2.1 y c q
 ·-- noex
  rcases (hf b hb).2.2.2.1 with z | z
  ·exact I.ok.noex b o e z
  ·exact absurd (Nat.lt_of_lt_of_le (Heap.lt_size e) (Nat.le_trans I.ok.bsz z)) (Nat.lt_irrefl _)
 ·-- the new map
  have e0:(s.heap.push { cls:=.type "list",dict:=none,data:=.seq ([]:List Value).toArray }).objs.size=s.heap.objs.size + 1:=Heap.size_push ..
  have q:=(Heap.Ns.new (s.heap.push { cls:=.type "list",dict:=none,data:=.seq ([]:List Value).toArray }) (.type "dict")).keeps (pushCells_keeps scope.names _)
  rw [e0] at q
  exact q
 ·-- names
  cases i with
  | zero=>cases h2
  | succ j =>
   have h2':(sel idx σ)[j]? = some (some v):=h2
   have h1':M[j]? = some y:=h1
   obtain ⟨k,ek,ev⟩:=sel_get h2'
   obtain ⟨hl,k',ek',eN⟩:=ok.cap j y h1'
   rw [ek] at ek';cases ek'
   have mem:=PySem.mem_of_lookup hl
   have hk:=ok.fre _ mem rfl
   obtain ⟨m,hn,hloc⟩:=I.loc
   have vis:Vis X.env.scope y:=hk.elim (fun z=>.inr (.inl z)) fun z=>.inr (.inr z)
   obtain ⟨u,r,l⟩:=hloc k y v eN ev vis
   refine ⟨u,r,?_⟩
   rcases l with ⟨z,_⟩ | ⟨_,c,ec,hcell⟩
   ·rw [z] at hk;rcases hk with z | z <;> cases z
   ·refine .inr ⟨?_,c,?_,hcell.keeps keep⟩
    ·rw [show (X.comp scope (cellsFrom (s.heap.objs.size + 2) scope.names (clOf X.env.cells scope.names [])) (s.heap.objs.size + 1) (x :: M) s H fp).env.kindOf y=_ from kindR y,hl,Option.map_some]
     by_cases hcc:(NameKind.free == NameKind.free && X.env.scope.kind == .function && X.env.kindOf y == some .cell)=true
     ·rw [if_pos hcc];exact .inl rfl
     ·rw [if_neg hcc];exact .inr rfl
    ·show (cellsFrom (s.heap.objs.size + 2) scope.names (clOf X.env.cells scope.names [])).lookup y=some c
     rw [cellsFrom_not]
     ·obtain ⟨d,ed⟩:=clOf_has (acc:=[]) ec mem
      rw [ed,← clLook y d ed,ec]
     ·intro p hp hpc hpy
      have:=ok.cel p hp hpc
      rw [hpy,hl] at this
      cases this
 ·rcases look y c e with ⟨_,q⟩ | q
  ·exact ⟨_,q⟩
  ·obtain ⟨v,z⟩:=I.cell y c q
   exact ⟨v,z.keeps keep⟩
 ·rcases look y c e with ⟨q,_⟩ | q
  ·exact fresh _ (by omega)
  ·exact I.freeC y c q
 ·show (none :: sel idx σ).length=(x :: M).length
  unfold sel
  rw [List.length_cons,List.length_cons,List.length_map,ok.len]
theorem compLoop_any {prog:Program}{w:World}{A:Around}{R:Result→Shared→Prop}{s:Shared}{elt target iter:Expr}{ifs:List Expr}{scope:Scope}{pos:Pos}{it acc:Value}{env:Env}(I:Nat→Shared→Prop)
  (turn:∀ n s,I n s→wpAny (model prog w) A (pyNext it) (fun r s₁=>match r with
   | none=>R (.ok .next) s₁
   | some v=>wpAny (model prog w) A (letOwnedTupleGo target it v) (fun _ s₁'=>wpAny (model prog w) A (assign target env v) (fun _ s₂ =>
     wpAny (model prog w) A (forIn ifs true fun c r=>if r=true then do let ok ← isTrue c env (eval c env);pure (ForInStep.yield ok) else pure (ForInStep.yield r)) (fun ok s₃ =>
      if ok=true then wpAny (model prog w) A (eval elt env) (fun x s₄ =>
       wpAny (model prog w) A (call (.builtin "list.append") [acc,x]) (fun _ s₅=>∃ m,m < n∧I m s₅) (fun _ _=>False) s₄) (fun _ _=>False) s₃
      else ∃ m,m < n∧I m s₃) (fun _ _=>False) s₂) (fun _ _=>False) s₁') (fun _ _=>False) s₁) (fun _ _=>False) s)
  (n:Nat) (h:I n s) :
  codeAny (model prog w) A (.compLoop (.ListComp elt [⟨target,iter,ifs,0⟩] scope pos) 0 it acc env) R s:=by
 refine codeAny_loop rfl I (fun n s hI=>?_) n h
 show wpAny _ A ((compTurn (.ListComp elt [⟨target,iter,ifs,0⟩] scope pos) 0 it acc env).onRaise (fun x=>do noteFrame x env;theTreesLotGoes x)) _ _ s
 refine wpAny_noted ?_
 rw [compTurn_list]
 refine wpAny_bind (wpAny_standAt (wpAny_bind (wpAny_mono (turn n s hI) (fun r s₁ h₁=>?_) fun _ _ h'=>h'.elim)))
 cases r with
 | none=>exact wpAny_pure h₁
 | some v =>
  refine wpAny_bind (wpAny_mono h₁ (fun _ s₁' h₁'=>?_) fun _ _ h'=>h'.elim)
  refine wpAny_bind (wpAny_mono h₁' (fun _ s₂ h₂=>wpAny_bind (wpAny_mono h₂ (fun ok s₃ h₃=>?_) fun _ _ h'=>h'.elim)) fun _ _ h'=>h'.elim)
  cases ok with
  | false=>exact wpAny_pure ⟨rfl,h₃⟩
  | true =>
   exact wpAny_bind (wpAny_bind (wpAny_mono h₃ (fun x s₄ h₄=>wpAny_bind (wpAny_mono h₄ (fun _ s₅ h₅=>wpAny_pure (wpAny_pure ⟨rfl,h₅⟩)) fun _ _ h'=>h'.elim)) fun _ _ h'=>h'.elim))
def PTs (X:Cx)(cs:List Expr)(t:TT):Prop :=
 ∀ (pins:List (Addr × Obj)) (s:Shared) (σ:St) (H:Hp) (Q:Bool→Hp→Prop),Inv X pins σ H s→t σ H Q →
  wpAny (model X.prog X.w) X.A (forIn cs true fun c r=>if r=true then do let ok ← isTrue c X.env (eval c X.env);pure (ForInStep.yield ok) else pure (ForInStep.yield r)) (TP X pins σ Q) X.xe s
def ttTrue:TT:=fun _ H Q=>Q true H
theorem pts_nil:PTs X [] ttTrue:=fun _ _ _ H _ I h=>wpAny_tests_nil ⟨H,I,h⟩
theorem pts_one {c:Expr}{t:TT}(h:PT X c t):PTs X [c] t:=fun pins s σ H Q I hq=>wpAny_tests_one (h pins s σ H Q I hq)
def CompW (J:It)(H1:Hp)(one:V→Hp→(Option V→Hp→Prop)→Prop)(Q:List V→Hp→Prop):Prop :=
 ∃ (n:Nat) (W:Nat→List V→Hp→Prop),W 0 [] H1∧n≤sizeLine∧∀ i ys H',W i ys H'→(J.stop i H'∧Q ys H') ∨
  (J.go i H'∧i < n∧∃ N:Option V→Hp→Prop,(∀ o H3,N o H3→W (i + 1) (ys ++ o.toList) H3)∧∀ x H2,J.yld i H' x H2→one x H2 N)
def oneOf (tc:TT)(te:TE)(σ:St)(x:V)(H:Hp)(k:Option V→Hp→Prop):Prop :=
 tc (some x :: σ) H fun b H1=>if b=true then te (some x :: σ) H1 fun v H2=>k (some v) H2 else k none H1
def tCompIf (wi:TI)(idx:List Nat)(tc:TT)(te:TE):TE:=fun σ H Q=>wi σ H fun J H1=>CompW J H1 (oneOf tc te (sel idx σ)) fun ys H'=>∀ p,H' p=none→Q (.ref p) (upd H' p (.lst ys))
theorem comp_block {elt iter:Expr}{ifs:List Expr}{scope:Scope}{pos:Pos}{x:Str}{px:Pos}{M:List Str}{idx:List Nat}{tc:TT}{te:TE}{itv:Value}{Q:List V→Hp→Prop}
  {RR:Value→Addr→Result→Shared→Prop}
  (hc:X.calm=true) (ok:CompOk X scope M idx) (hN:(x :: M).Nodup) (hx:scope.names.lookup x=some .local ∨ scope.names.lookup x=some .cell)
  (ht:∀ cells C s2 H2 fp,PTs (X.comp scope cells C (x :: M) s2 H2 fp) ifs tc) (he:∀ cells C s2 H2 fp,PE (X.comp scope cells C (x :: M) s2 H2 fp) elt te)
  (h:PIE X pins σ (.Name x px) (fun J H1=>CompW J H1 (oneOf tc te (sel idx σ)) Q) itv s)
  (hR:∀ (D C:Addr) (ys:List V) (H':Hp) (s':Shared),s.heap.objs.size ≤ D→s.heap.objs.size ≤ C→D≠C→H' D=none→H' C=none→Q ys H'→(∃ m,s'.heap.Ns C m) →
   (∀ h' tk,Heap.SameBut C s'.heap h'→Inv X pins σ (upd H' D (.lst ys)) { s' with heap:=h',toks:=tk })→RR (.ref D) C (.ok .next) s') :
  wpAny (model X.prog X.w) X.A (newList []) (fun acc s₃=>wpAny (model X.prog X.w) X.A (newFunctionEnv scope X.env.globals (clOf X.env.cells scope.names []) [] X.env.qual none .none (some X.env)) (fun cenv s₄ =>
   codeAny (model X.prog X.w) X.A (.compStart (.ListComp elt [⟨.Name x px,iter,ifs,0⟩] scope pos) 0 itv acc { cenv with scope:=relabel scope X.env }) (RR acc cenv.locals) s₄) X.xe s₃) X.xe s:=by
 obtain ⟨it,fp,tn,J,H2,e,I2,T,st2,f2,n,W,w0,hn,turn⟩:=h
 subst e
 have ho:∀ b∈fp,∃ o,s.heap.get? b=some o:=fun b hb=>let ⟨o,e,_⟩:=T.obj 0 _ st2 b hb;⟨o,e⟩
 have I3:=comp_start (x:=x) ok hc I2 f2 ho
 have sz1:(s.heap.push { cls:=.type "list",dict:=none,data:=.seq ([]:List Value).toArray }).objs.size=s.heap.objs.size + 1:=Heap.size_push ..
 have keep0:∀ b o,s.heap.get? b=some o→(pushCells ((s.heap.push { cls:=.type "list",dict:=none,data:=.seq ([]:List Value).toArray }).push { cls:=.type "dict",data:=.dict #[] }) scope.names).get? b=some o :=
  fun b o e=>pushCells_keeps _ _ _ _ (Heap.get?_push_of_some _ (Heap.get?_push_of_some _ e))
 have acc0:(pushCells ((s.heap.push { cls:=.type "list",dict:=none,data:=.seq ([]:List Value).toArray }).push { cls:=.type "dict",data:=.dict #[] }) scope.names).PlainList s.heap.objs.size ([]:List Value).toArray :=
  ⟨_,pushCells_keeps _ _ _ _ (Heap.get?_push_of_some _ (Heap.get?_push_size _ rfl))⟩
 have fpLt:∀ b∈fp,b < s.heap.objs.size:=fun b hb=>let ⟨_,e⟩:=ho b hb;Heap.lt_size e
 refine wpAny_newList ?_
 refine newCompEnv ?_
 dsimp only
 rw [sz1]
 generalize hcells:cellsFrom (s.heap.objs.size + 1 + 1) scope.names (clOf X.env.cells scope.names [])=cells
 have hcells':cellsFrom (s.heap.objs.size + 2) scope.names (clOf X.env.cells scope.names [])=cells:=hcells
 rw [hcells'] at I3
 generalize hh:pushCells ((s.heap.push { cls:=.type "list",dict:=none,data:=.seq ([]:List Value).toArray }).push { cls:=.type "dict",data:=.dict #[] }) scope.names=h1 at I3 keep0 acc0 ⊢
 have ht:=ht cells (s.heap.objs.size + 1) s H2 fp
 have he:=he cells (s.heap.objs.size + 1) s H2 fp
 have st3:tn 0 h1:=T.keep 0 _ _ st2 fun b hb o e=>keep0 b o e
 have hg:PG (X.comp scope cells (s.heap.objs.size + 1) (x :: M) s H2 fp) (.Name x px) (gName 0):=by
  refine pg_name hN rfl ?_ ?_
  ·show (relabel scope X.env).names.lookup x=some .local ∨ (relabel scope X.env).names.lookup x=some .cell
   rw [show (relabel scope X.env).names.lookup x=_ from kindOf_relabel scope.names x]
   rcases hx with z | z
   ·rw [z];exact .inl rfl
   ·rw [z];exact .inr rfl
  ·rcases hx with z | z
   ·refine .inr ?_
    show (relabel scope X.env).names.lookup x=some .local
    rw [show (relabel scope X.env).names.lookup x=_ from kindOf_relabel scope.names x,z]
    rfl
   ·refine .inl ?_
    show (scope.names.lookup x == some .cell)=true
    rw [z];rfl
 have stat:∀ {pins':List (Addr × Obj)} {H':Hp},(∀ p∈pins',p.1=s.heap.objs.size)→(∀ b∈fp,H' b=none)→∀ b∈fp,FpOk (X.comp scope cells (s.heap.objs.size + 1) (x :: M) s H2 fp) pins' H' b:=fun {pins' H'} hp hn b hb =>
  ⟨hn b hb,(I3.ok.exf b hb).1,I3.ok.exfs b hb,.inl hb,(I3.ok.exf b hb).2,fun p hp'=>by
   have e:=hp p (show p∈pins' from by simpa [Cx.comp] using hp')
   rw [e];exact Nat.ne_of_gt (fpLt b hb)⟩
 have loop:∀ (s₄:Shared),s₄={ s with heap:=h1 }→codeAny (model X.prog X.w) X.A (.compLoop (.ListComp elt [⟨.Name x px,iter,ifs,0⟩] scope pos) 0 (.ref it) (.ref s.heap.objs.size) (compEnvC scope cells (s.heap.objs.size + 1) X.env))
   (RR (.ref s.heap.objs.size) (s.heap.objs.size + 1)) s₄:=by
  rintro s₄ rfl
  refine compLoop_any (fun k s'=>∃ (i:Nat) (ys:List V) (its:List Value) (H':Hp),Inv (X.comp scope cells (s.heap.objs.size + 1) (x :: M) s H2 fp) [] (none :: sel idx σ) H' s'∧tn i s'.heap ∧ (∀ b∈fp,H' b=none)∧H' s.heap.objs.size=none ∧
   s'.heap.PlainList s.heap.objs.size its.toArray ∧ Vals ys its∧ys.length ≤ i∧i≤n∧W i ys H'∧k=n - i) ?_ n ⟨0,[],[],H2,I3,st3,fun b hb=>(f2 b hb).1,I2.hok.fresh (Nat.le_refl _),acc0,.nil,Nat.le_refl _,Nat.zero_le _,w0,rfl⟩
  rintro k s' ⟨i,ys,its,H',I',st',fr',hD',hpl',hv',hlen,hlin,w',rfl⟩
  obtain ⟨nn,hobj⟩:=id hpl'
  have pinD:∀ {H5:Hp} {s5:Shared} {σ5:St} {P5:List (Addr × Obj)},Inv (X.comp scope cells (s.heap.objs.size + 1) (x :: M) s H2 fp) P5 σ5 H5 s5→s5.heap.get? s.heap.objs.size=some { cls:=.type "list",data:=.seq its.toArray nn }→H5 s.heap.objs.size=none →
    ∀ p∈[(s.heap.objs.size,({ cls:=.type "list",data:=.seq its.toArray nn }:Obj))],s5.heap.get? p.1=some p.2 ∧ H5 p.1=none∧p.1 ≠ (X.comp scope cells (s.heap.objs.size + 1) (x :: M) s H2 fp).env.locals ∧ p.1 ∉ (X.comp scope cells (s.heap.objs.size + 1) (x :: M) s H2 fp).fs ∧ ∀ v,p.2.data ≠ .cell v :=
   fun {H5 s5 σ5 P5} I5 e5 n5 p hp=>by
    have ep:p=(s.heap.objs.size,({ cls:=.type "list",data:=.seq its.toArray nn }:Obj)):=by simpa using hp
    subst ep
    refine ⟨e5,n5,Nat.ne_of_lt (Nat.lt_succ_self _),fun z=>?_,fun v z=>by cases z⟩
    obtain ⟨_,o,ho,_⟩:=I5.ok.funs.mem z
    exact absurd (Heap.lt_size ho) (Nat.lt_irrefl _)
  have ID:=I'.pins_of (pinD I' hobj hD')
  have ndp:∀ p∈[(s.heap.objs.size,({ cls:=.type "list",data:=.seq its.toArray nn }:Obj))],p.1=s.heap.objs.size:=fun p hp=>by
   have ep:p=(s.heap.objs.size,({ cls:=.type "list",data:=.seq its.toArray nn }:Obj)):=by simpa using hp
   rw [ep]
  rcases turn i ys H' w' with ⟨stop,qn⟩ | ⟨go,hin,N,hNW,step⟩
  ·refine thn (T.done (X.comp scope cells (s.heap.objs.size + 1) (x :: M) s H2 fp) rfl rfl rfl hc i _ s' _ H' (fun _ _=>False) ID (stat ndp fr') st' stop) fun r s4 ⟨hr,I4⟩=>?_
   subst hr
   have pin4:=I4.pin (s.heap.objs.size,({ cls:=.type "list",data:=.seq its.toArray nn }:Obj)) (by simp [Cx.comp])
   obtain ⟨m4,hm4,_⟩:=id I4.loc
   refine hR s.heap.objs.size (s.heap.objs.size + 1) ys H' s4 (Nat.le_refl _) (Nat.le_succ _) (Nat.ne_of_lt (Nat.lt_succ_self _)) pin4.2.1 I4.free qn ⟨m4,hm4⟩ fun h' tk hs'=>?_
   have neC:∀ b,b < s.heap.objs.size → b≠s.heap.objs.size + 1:=fun b hb=>Nat.ne_of_lt (Nat.lt_succ_of_lt hb)
   have neD:∀ b,b < s.heap.objs.size → b≠s.heap.objs.size:=fun b hb=>Nat.ne_of_lt hb
   have u4:=I4.base
   refine I2.call' (s':={ s4 with heap:=h',toks:=tk }) (ch:=fp) I4.os ?_ ?_ I4.bare fun b hb=>?_
   ·refine ⟨fun b o e1 e2 e3 e4=>?_,fun b o e1 e2 e3 e4=>?_,fun b o e1 e2 e3=>?_,fun b o e1 e2=>?_,fun b xs e1=>?_,fun b o u e1=>?_,fun b ps e1=>?_⟩
    ·exact (hs'.2 b (neC b (Heap.lt_size e1))).trans (u4.keep b o e1 e2 e3 e4)
    ·obtain ⟨sl,q⟩:=u4.slot b o e1 e2 e3 e4
     exact ⟨sl,(hs'.2 b (neC b (Heap.lt_size e1))).trans q⟩
    ·rw [upd_ne (neD b (Heap.lt_size e1))];exact u4.free b o e1 e2 e3
    ·obtain ⟨o',q⟩:=u4.there b o e1 e2
     exact ⟨o',(hs'.2 b (neC b (Heap.lt_size e1))).trans q⟩
    ·have q:=u4.tups b xs e1
     rw [upd_ne (ne_of_none q pin4.2.1)];exact q
    ·have q:=u4.frzs b o u e1
     rw [upd_ne (ne_of_none q pin4.2.1)];exact q
    ·obtain ⟨more,q⟩:=u4.tbls b ps e1
     exact ⟨more,by rw [upd_ne (ne_of_none q pin4.2.1)];exact q⟩
   ·intro b o e1
    by_cases hb:b=s.heap.objs.size
    ·subst hb
     rw [upd_same] at e1;cases e1
     exact ⟨Nat.le_trans hlen (Nat.le_trans hlin hn),its,nn,hv',(hs'.2 _ (Nat.ne_of_lt (Nat.lt_succ_self _))).trans pin4.1⟩
    ·rw [upd_ne hb] at e1
     refine (I4.hok b o e1).stay (fun c u hcu q=>(hs'.2 c ?_).trans q) (fun c q=>by rw [upd_ne (ne_of_none q pin4.2.1)];exact q) fun c xs q=>by rw [upd_ne (ne_of_none q pin4.2.1)];exact q
     rintro rfl
     rcases hcu with z | z
     ·rw [← z] at e1
      have z2:=I4.free
      rw [show (X.comp scope cells (s.heap.objs.size + 1) (x :: M) s H2 fp).env.locals=s.heap.objs.size + 1 from rfl,e1] at z2
      cases z2
     ·have z2:=I4.free
      rw [show (X.comp scope cells (s.heap.objs.size + 1) (x :: M) s H2 fp).env.locals=s.heap.objs.size + 1 from rfl,z] at z2
      cases z2
   ·obtain ⟨_,g1,g2,g3,g4,g5⟩:=f2 b hb
    exact ⟨g3,g1,g4,g5⟩
  ·refine thn (T.item (X.comp scope cells (s.heap.objs.size + 1) (x :: M) s H2 fp) rfl rfl rfl hc i _ s' _ H' (fun _ _=>False) ID (stat ndp fr') st' go) fun r s4 ⟨u,hr,h4⟩=>?_
   subst hr
   refine thn h4 fun _ s5 ⟨y,H5,I5,r5,y5,st5,fr5⟩=>?_
   have I5':=I5.pinned (stat ndp fr5) (T.obj _ _ st5)
   refine thn (hg _ s5 _ H5 y u (fun σ' H6=>σ'=some y :: sel idx σ∧H6=H5) I5' r5 ⟨rfl,rfl⟩) fun _ s6 ⟨σ6,H6,I6,e6,e6'⟩=>?_
   subst e6 e6'
   have fin:∀ {H8:Hp} {s8:Shared} {σ8:St},Inv (X.comp scope cells (s.heap.objs.size + 1) (x :: M) s H2 fp) ([(s.heap.objs.size,({ cls:=.type "list",data:=.seq its.toArray nn }:Obj))] ++ pinsAt fp s5.heap) σ8 H8 s8 →
     s8.heap.PlainList s.heap.objs.size its.toArray ∧ H8 s.heap.objs.size=none∧tn (i + 1) s8.heap ∧ ∀ b∈fp,H8 b=none:=fun {H8 s8 σ8} I8=>by
    have p8:=I8.pin (s.heap.objs.size,({ cls:=.type "list",data:=.seq its.toArray nn }:Obj)) (by simp [Cx.comp])
    refine ⟨⟨nn,p8.1⟩,p8.2.1,T.keep _ _ _ st5 fun b hb o e=>(I8.pin (b,o) (List.mem_append_right _ (List.mem_append_right _ (mem_pinsAt hb e)))).1,fun b hb=>?_⟩
    obtain ⟨o,e,_⟩:=T.obj _ _ st5 b hb
    exact (I8.pin (b,o) (List.mem_append_right _ (List.mem_append_right _ (mem_pinsAt hb e)))).2.1
   have back:∀ {H8:Hp} {s8:Shared} {P8:List (Addr × Obj)},Inv (X.comp scope cells (s.heap.objs.size + 1) (x :: M) s H2 fp) P8 (some y :: sel idx σ) H8 s8→Inv (X.comp scope cells (s.heap.objs.size + 1) (x :: M) s H2 fp) [] (none :: sel idx σ) H8 s8:=fun I8 =>
    (I8.pins_of fun p hp=>absurd hp (by simp)).weak rfl fun j v e=>by
     cases j with
     | zero=>cases e
     | succ j=>exact e
   refine thn (ht _ s6 _ _ _ I6 (step y _ y5)) fun b s7 ⟨H7,I7,q7⟩=>?_
   cases b with
   | false =>
    have q7':W (i + 1) (ys ++ []) H7:=hNW none H7 q7
    rw [List.append_nil] at q7'
    obtain ⟨g1,g2,g3,g4⟩:=fin I7
    refine show (if false=true then _ else _) from ?_
    rw [if_neg Bool.false_ne_true]
    exact ⟨n - (i + 1),by omega,i + 1,ys,its,H7,back I7,g3,g4,g2,g1,hv',Nat.le_succ_of_le hlen,hin,q7',rfl⟩
   | true =>
    refine show (if true=true then _ else _) from ?_
    rw [if_pos rfl]
    have q7':te (some y :: sel idx σ) H7 fun v H3=>N (some v) H3:=q7
    refine thn (he _ s7 _ _ _ I7 q7') fun u8 s8 ⟨v8,H8,I8,r8,w8⟩=>?_
    have w8:W (i + 1) (ys ++ [v8]) H8:=hNW (some v8) H8 w8
    obtain ⟨g1,g2,g3,g4⟩:=fin I8
    refine wpAny_list_append_plain g1 (fun h' hpl hs'=>?_) (by
     rw [List.size_toArray,← hv'.length]
     exact Nat.le_trans hlen (Nat.le_trans hlin hn))
    have I9:=back I8
    have hpl2:h'.PlainList s.heap.objs.size (its ++ [u8]).toArray:=by
     have e:(its ++ [u8]).toArray=its.toArray.push u8:=by simp
     rw [e];exact hpl
    refine ⟨n - (i + 1),by omega,i + 1,ys ++ [v8],its ++ [u8],H8,I9.turned (it:=s.heap.objs.size) (t':=s8.toks) (fun b o hb e=>(hs'.2 b hb).trans e) g2 (Nat.ne_of_lt (Nat.lt_succ_self _)) (.inr (Nat.le_refl _)) (fun z c ec hcz=>?_) (fun p hp=>absurd hp (by simp [Cx.comp])),
     T.keep _ _ _ g3 (fun b hb o e=>(hs'.2 b (Nat.ne_of_lt (fpLt b hb))).trans e),g4,g2,hpl2,hv'.append (.cons r8 .nil),by rw [List.length_append];exact Nat.succ_le_succ hlen,hin,w8,rfl⟩
    obtain ⟨v,o,ho,hd⟩:=I9.cell z c ec
    obtain ⟨n9,g9⟩:=g1
    rw [hcz,g9] at ho
    cases ho
    cases hd
 exact codeAny_compStart_list (loop _ rfl) (T.self _ 0 _ _ _ st3 (loop _ rfl))
theorem pe_compIf {elt iter:Expr}{ifs:List Expr}{scope:Scope}{pos:Pos}{x:Str}{px:Pos}{M:List Str}{idx:List Nat}{wi:TI}{tc:TT}{te:TE}
  (hc:X.calm=true) (hi:PI X (.Name x px) iter wi) (ok:CompOk X scope M idx) (hN:(x :: M).Nodup) (hx:scope.names.lookup x=some .local ∨ scope.names.lookup x=some .cell)
  (ht:∀ cells C s2 H2 fp,PTs (X.comp scope cells C (x :: M) s2 H2 fp) ifs tc) (he:∀ cells C s2 H2 fp,PE (X.comp scope cells C (x :: M) s2 H2 fp) elt te)
  (hs:∀ x,foldedSetIterable iter X.env x=pure x:=by intro _;rfl):PE X (.ListComp elt [⟨.Name x px,iter,ifs,0⟩] scope pos) (tCompIf wi idx tc te):=by
 intro pins s σ H Q I h
 rw [eval_ListComp]
 refine wpAny_comprehension_free (use:=none) rfl hs (closureFor_cl fun y hy e=>I.ok.has y.1 (ok.fre y hy e)) ok.kind ok.loc (thn (hi pins s σ H _ I h) fun v s1 h1=>thn h1 fun itv s2 h2=>?_)
 refine comp_block (RR:=fun acc C=>compPost (model X.prog X.w) X.A X.xe none (EP X pins σ Q) acc C) hc ok hN hx ht he h2 fun D C ys H' s' hD hC hDC nD nC q hm hI=>?_
 obtain ⟨m,hm⟩:=hm
 exact ⟨m,hm,fun h' hs'=>⟨.ref D,upd H' D (.lst ys),hI h' s'.toks hs',rfl,q D nD⟩⟩
end
theorem compW_list {K:PySem.W.Frag}{a:Addr}{xs:List V}{H:Hp}{one:V→Hp→(Option V→Hp→Prop)→Prop}{Q:List V→Hp→Prop}(Pv:Nat→List V→Hp→Prop)(h0:Pv 0 [] H)(hn:xs.length ≤ sizeLine)
  (hl:∀ i ys H,i≤xs.length → Pv i ys H→SqL K H a xs) (hs:∀ i x ys H,xs[i]? = some x→Pv i ys H→one x H fun o H2=>Pv (i + 1) (ys ++ o.toList) H2) (hd:∀ ys H,Pv xs.length ys H→Q ys H):CompW (Itl K a) H one Q:=by
 refine ⟨xs.length,fun i ys H=>i≤xs.length ∧ Pv i ys H,⟨Nat.zero_le _,h0⟩,hn,?_⟩
 rintro i ys H ⟨hi,p⟩
 have q:=hl i ys H hi p
 by_cases hlt:i < xs.length
 ·refine .inr ⟨⟨xs,xs[i],q,by simp [hlt]⟩,hlt,fun o H3=>Pv (i + 1) (ys ++ o.toList) H3,fun o H3 z=>⟨hlt,z⟩,fun x H2 y=>?_⟩
  obtain ⟨e,y⟩:=y
  subst e
  exact hs i x ys _ (y xs q) p
 ·have e:i=xs.length:=by omega
  subst e
  exact .inl ⟨⟨xs,q,Nat.le_refl _⟩,hd ys H p⟩
theorem compW_tup {K:PySem.W.Frag}{a:Addr}{xs:List V}{H:Hp}{one:V→Hp→(Option V→Hp→Prop)→Prop}{Q:List V→Hp→Prop}(Pv:Nat→List V→Hp→Prop)(h0:Pv 0 [] H)(hn:xs.length ≤ sizeLine)
  (hl:∀ i ys H,i≤xs.length → Pv i ys H→SqT K H a xs) (hs:∀ i x ys H,xs[i]? = some x→Pv i ys H→one x H fun o H2=>Pv (i + 1) (ys ++ o.toList) H2) (hd:∀ ys H,Pv xs.length ys H→Q ys H):CompW (Itt K a) H one Q:=by
 refine ⟨xs.length,fun i ys H=>i≤xs.length ∧ Pv i ys H,⟨Nat.zero_le _,h0⟩,hn,?_⟩
 rintro i ys H ⟨hi,p⟩
 have q:=hl i ys H hi p
 by_cases hlt:i < xs.length
 ·refine .inr ⟨⟨xs,xs[i],q,by simp [hlt]⟩,hlt,fun o H3=>Pv (i + 1) (ys ++ o.toList) H3,fun o H3 z=>⟨hlt,z⟩,fun x H2 y=>?_⟩
  obtain ⟨e,y⟩:=y
  subst e
  exact hs i x ys _ (y xs q) p
 ·have e:i=xs.length:=by omega
  subst e
  exact .inl ⟨⟨xs,q,Nat.le_refl _⟩,hd ys H p⟩
theorem compW_range {lo:Int}{n:Nat}{H:Hp}{one:V→Hp→(Option V→Hp→Prop)→Prop}{Q:List V→Hp→Prop}(Pv:Nat→List V→Hp→Prop)(h0:Pv 0 [] H)(hn:n≤sizeLine)
  (hs:∀ i ys H,i < n→Pv i ys H→one (.int (lo + i)) H fun o H2=>Pv (i + 1) (ys ++ o.toList) H2) (hd:∀ ys H,Pv n ys H→Q ys H):CompW (Itr lo n) H one Q:=by
 refine ⟨n,fun i ys H=>i≤n∧Pv i ys H,⟨Nat.zero_le _,h0⟩,hn,?_⟩
 rintro i ys H ⟨hi,p⟩
 by_cases hlt:i < n
 ·refine .inr ⟨hlt,hlt,fun o H3=>Pv (i + 1) (ys ++ o.toList) H3,fun o H3 z=>⟨hlt,z⟩,fun x H2 y=>?_⟩
  obtain ⟨e,y⟩:=y
  subst e y
  exact hs i ys _ hlt p
 ·have e:i=n:=by omega
  subst e
  exact .inl ⟨Nat.le_refl _,hd ys H p⟩
end L2
namespace L2
open PySem PySem.Spec PyProof.Rows
mutual
inductive IsD (H:Hp):V→PyData→Prop
 | non:IsD H .non .none
 | bl (b:Bool):IsD H (.bl b) (.bool b)
 | int (i:Int):IsD H (.int i) (.int i)
 | str (x:Str):IsD H (.str x) (.str x)
 | tup {a:Addr} {xs:List V} {ds:List PyData}:H a=some (.tup xs)→IsDs H xs ds→IsD H (.ref a) (.tuple ds)
inductive IsDs (H:Hp):List V→List PyData→Prop
 | nil:IsDs H [] []
 | cons {x:V} {xs:List V} {d:PyData} {ds:List PyData}:IsD H x d→IsDs H xs ds→IsDs H (x :: xs) (d :: ds)
end
def KeepT (H H':Hp):Prop:=∀ a xs,H a=some (.tup xs)→H' a=some (.tup xs)
mutual
theorem IsD.keep {H H':Hp}(k:KeepT H H'):∀ {v:V} {d:PyData},IsD H v d→IsD H' v d
 | _,_,.non=>.non
 | _,_,.bl b=>.bl b
 | _,_,.int i=>.int i
 | _,_,.str x=>.str x
 | _,_,.tup h r=>.tup (k _ _ h) (IsDs.keep k r)
theorem IsDs.keep {H H':Hp}(k:KeepT H H'):∀ {xs:List V} {ds:List PyData},IsDs H xs ds→IsDs H' xs ds
 | _,_,.nil=>.nil
 | _,_,.cons h r=>.cons (IsD.keep k h) (IsDs.keep k r)
end
theorem IsDs.length {H:Hp}:∀ {xs:List V} {ds:List PyData},IsDs H xs ds→xs.length=ds.length
 | _,_,.nil=>rfl
 | _,_,.cons _ r=>by rw [List.length_cons,List.length_cons,IsDs.length r]
theorem IsDs.get {H:Hp}:∀ {xs:List V} {ds:List PyData} {i:Nat} {d:PyData},IsDs H xs ds→ds[i]? = some d→∃ x,xs[i]? = some x∧IsD H x d
 | _,_,i,d,.nil,e=>by simp at e
 | _,_,0,d,.cons h _,e=>by simp at e;subst e;exact ⟨_,rfl,h⟩
 | _,_,i + 1,d,.cons _ r,e=>by
  obtain ⟨x,e1,h⟩:=IsDs.get (i:=i) (d:=d) r (by simpa using e)
  exact ⟨x,by simpa using e1,h⟩
theorem IsDs.append {H:Hp}:∀ {xs ys:List V} {ds es:List PyData},IsDs H xs ds→IsDs H ys es→IsDs H (xs ++ ys) (ds ++ es)
 | _,_,_,_,.nil,s=>s
 | _,_,_,_,.cons h r,s=>.cons h (IsDs.append r s)
theorem IsD.tuple_inv {H:Hp}{v:V}{ds:List PyData}(h:IsD H v (.tuple ds)):∃ a xs,v = .ref a∧H a=some (.tup xs)∧IsDs H xs ds:=by
 cases h with
 | tup e r=>exact ⟨_,_,rfl,e,r⟩
section
variable {X:Cx}{pins:List (Addr × Obj)}{σ:St}{H:Hp}{s:Shared}
mutual
theorem IsD.reads {P:Program}{w:World}{h:Heap}{H:Hp}(I:HOk P w H h):∀ {v:V} {d:PyData} {u:Value},IsD H v d→RelV v u→∃ as,Reads h u d as
 | _,_,u,.non,r=>by cases (show u=Value.none from r);exact ⟨_,.none⟩
 | _,_,u,.bl b,r=>by cases (show u=Value.bool b from r);exact ⟨_,.bool b⟩
 | _,_,u,.int i,r=>by obtain ⟨t,rfl⟩:=(show ∃ t,u=Value.int i t from r);exact ⟨_,.int i t⟩
 | _,_,u,.str x,r=>by obtain ⟨t,rfl⟩:=(show ∃ t,u=Value.str x t from r);exact ⟨_,.str x t⟩
 | _,_,u,.tup (a:=a) (xs:=xs) e rs,r=>by
  cases (show u=Value.ref a from r)
  obtain ⟨_,its,rv,o,h1,h2,n,h3⟩:=(show ObjOk P w H h a (.tup xs) from I a _ e)
  obtain ⟨as,hr⟩:=IsDs.reads I rs rv
  exact ⟨as,.tuple h1 h2 h3 (by simpa using hr)⟩
theorem IsDs.reads {P:Program}{w:World}{h:Heap}{H:Hp}(I:HOk P w H h):∀ {xs:List V} {ds:List PyData} {us:List Value},IsDs H xs ds→Vals xs us→∃ as,ReadsAll h us ds as
 | _,_,_,.nil,.nil=>⟨_,.nil⟩
 | _,_,_,.cons h r,.cons v vs=>by
  obtain ⟨as,h1⟩:=IsD.reads I h v
  obtain ⟨bs,h2⟩:=IsDs.reads I r vs
  exact ⟨_,.cons h1 h2⟩
end
def CmpD (u:Nat)(dx dy:PyData):Prop:=dx.canLay0=true∧dy.canLay0=true∧dx.depth ≤ 20
def rEqD (u:Nat):R2:=fun x y H Q=>∃ dx dy,IsD H x dx∧IsD H y dy∧CmpD u dx dy∧Q (.bl (PyData.eqv dx dy)) H
def rNeD (u:Nat):R2:=fun x y H Q=>∃ dx dy,IsD H x dx∧IsD H y dy∧CmpD u dx dy∧Q (.bl (!PyData.eqv dx dy)) H
theorem unitsD {A:Around}{a b:Nat}(hu:A.units + 64 < cLine)(h:a≤20):A.units + min a b < cLine:=by
 have:min a b≤a:=Nat.min_le_left _ _
 omega
theorem op_eqD (hu:X.A.units + 64 < cLine):OpR X (compareOp .Eq) (rEqD 0):=by
 intro pins s σ H x y v u Q I rx ry h
 obtain ⟨dx,dy,hx,hy,⟨c1,c2,c3⟩,q⟩:=h
 obtain ⟨as,r1⟩:=hx.reads I.hok rx
 obtain ⟨bs,r2⟩:=hy.reads I.hok ry
 exact PySem.SeqAt.compareEq_reads r1 r2 c1 c2 (unitsD hu c3) ⟨.bl _,H,I,rfl,q⟩
theorem op_neD (hu:X.A.units + 64 < cLine):OpR X (compareOp .NotEq) (rNeD 0):=by
 intro pins s σ H x y v u Q I rx ry h
 obtain ⟨dx,dy,hx,hy,⟨c1,c2,c3⟩,q⟩:=h
 obtain ⟨as,r1⟩:=hx.reads I.hok rx
 obtain ⟨bs,r2⟩:=hy.reads I.hok ry
 exact PySem.SeqAt.compareNe_reads r1 r2 c1 c2 (unitsD hu c3) ⟨.bl _,H,I,rfl,q⟩
theorem bools_of:∀ {bs:List Bool} {us:List Value},Vals (bs.map V.bl) us→LSm.BoolsAre us bs
 | [],_,.nil=>.nil
 | b :: bs,_,.cons r t=>by
  cases (show _=Value.bool b from r)
  exact .cons b (bools_of t)
theorem call_all (hc:X.calm=true):CallR X (.builtin "all") (fun xs H Q=>∃ (p:Addr) (bs:List Bool),xs=[.ref p]∧SqL X.K H p (bs.map V.bl)∧Q (.bl (bs.all id)) H):=by
 intro pins s σ H xs us Q I r h
 obtain ⟨p,bs,rfl,hS,q⟩:=h
 obtain ⟨u,rfl,e⟩:=vals1 r
 obtain rfl:u=Value.ref p:=e
 obtain ⟨its,hv,⟨o,n,h1,h2,h3,h4⟩,_⟩:=I.list hS
 have hb:=bools_of hv
 have hl:s.heap.IsList p its.toArray:=⟨o,h1,h2,n,h4⟩
 have hlt:p < s.heap.objs.size:=Heap.lt_size h1
 refine call_all_walk (wpAny_pyIter_list hl ?_)
 refine ⟨s.heap.objs.size,[s.heap.objs.size,p],[s.heap.objs.size],its.toArray.size,_,_,fun i=>(bs[i]?).getD true,rfl,Walks.list (A:=X.A.in1) (I.ok.hd hc) _ p (Nat.ne_of_lt hlt) its.toArray,
  ⟨⟨_,Heap.get?_push_size _ rfl,rfl,rfl⟩,hl.push _⟩,fun i v s' Q' E' hP hQ=>?_,fun h' tk hk=>?_⟩
 ·obtain ⟨b,e,rfl⟩:=hb.get i v (by simpa using hP)
  simp only [e,Option.getD_some] at hQ
  exact wpAny_truthy_bool hQ
 ·have e:((List.range its.toArray.size).all fun i=>(bs[i]?).getD true)=bs.all id:=by
   rw [List.size_toArray,hb.length];exact LSm.range_all bs
  rw [e]
  exact ⟨.bl _,H,I.kept (LSm.kept_iter hk),rfl,q⟩
def kindV (K:PySem.W.Frag)(H:Hp)(x:V)(T:String):Prop:=match x with
 | .non=>T = "NoneType"
 | .bl _=>T = "bool"
 | .int _=>T = "int"
 | .str _=>T = "str"
 | .ref a=>(T = "tuple"∧∃ xs,H a=some (.tup xs)) ∨ (T = "list"∧∃ xs,H a=some (.lst xs))
 | _=>False
theorem kind_ty {K:PySem.W.Frag}{H:Hp}{x:V}{T:String}(h:kindV K H x T):TyOf K H x (.type T):=by
 cases x with
 | non=>cases (show T=_ from h);exact .non
 | bl b=>cases (show T=_ from h);exact .bl b
 | int i=>cases (show T=_ from h);exact .int i
 | str i=>cases (show T=_ from h);exact .str i
 | ref a =>
  rcases h with ⟨rfl,xs,e⟩ | ⟨rfl,xs,e⟩
  ·exact .tup e
  ·exact .lst e
 | byt b=>exact h.elim
 | flt b=>exact h.elim
 | ty n=>exact h.elim
theorem call_isinst:CallR X (.builtin "isinstance") (fun xs H Q=>∃ (x:V) (T C:String) (b:Bool),xs=[x,.ty C]∧kindV X.K H x T∧PySem.W.kitOne X.K (.type T) (.type C)=some b∧Q (.bl b) H):=by
 intro pins s σ H xs us Q I r h
 obtain ⟨x,T,C,b,rfl,ty,e,q⟩:=h
 obtain ⟨u,c,rfl,rx,rc⟩:=vals2 r
 cases (show c=Value.type C from rc)
 exact isinst_ok I rx (kind_ty ty) e fun tk=>⟨.bl b,H,I.tok tk,rfl,q⟩
theorem op_fdivB:OpR X (binaryOp .FloorDiv) (rI (fun _ j=>0 < j∧j < 2 ^ 62) fun i j=>.int (i / j)):=opI fun i j _ _ _ _ _ hc q=>by
 rw [← Int.fdiv_eq_ediv_of_nonneg i (Int.le_of_lt hc.1)] at q
 refine floordiv_int (by omega) q (.inl (PyProof.noPylong_of_log2 ?_))
 have h1:j.natAbs < 2 ^ 62:=by omega
 have h2:j.natAbs ≠ 0:=by omega
 have:=(Nat.log2_lt h2).mpr h1
 omega
end
end L2
namespace L2
open PySem PySem.Spec PyProof.Rows
def Raw (K:PySem.W.Frag)(mg:Str→Option Value)(x:Str)(ps:List Str)(st:Stmt):Prop :=
 ∃ (f:Addr) (fd:FuncData),Fun K x x st f fd∧mg x=some (.ref f)∧Binds K fd ps []
def Df (P:Program)(w:World)(K:PySem.W.Frag)(mg:Str→Option Value)(base:Heap)(k:Nat)(x:Str)(ps:List Str)(sp:Sp):Prop :=
 ∃ (f:Addr) (fd:FuncData),FnOk P w K mg base CX0 k f fd ps sp∧mg x=some (.ref f)∧PySem.W.keepIn K (.ref f)=true∧Binds K fd ps []∧∃ st,Fun K x x st f fd
section
variable {P:Program}{w:World}{K:PySem.W.Frag}{mg:Str→Option Value}{base:Heap}
theorem Raw.ok {x:Str}{ps N:List Str}{st:Stmt}{k:Nat}{sp:Sp}(R:Raw K mg x ps st)(S:FnScope N ps (defScope st))(len:∀ vs H Q E,sp vs H Q E→vs.length=ps.length)
  (hbody:∀ (f:Addr) (cdv:Value) (A:Around) (outer:List Env) (s:Shared) (H:Hp) (vs:List V) (Q:VK) (E:XK),Room k (A.deeper (envOfC x (defScope st) s.heap.objs.size f cdv))→sp vs H Q E →
   ∃ t,PSs (cxOf CX0 P w K mg base N x (defScope st) f cdv A outer s H E).nox (defBody st) t∧t { nx:=fun _ H'=>Q .non H',rt:=Q } (start N vs) H):Df P w K mg base (k + 1) x ps sp:=by
 obtain ⟨f,fd,F,m,b⟩:=R
 exact ⟨f,fd,F.ok S len (fun cdv A outer s H vs Q E hr h=>hbody f cdv A outer s H vs Q E hr h),m,F.kp,b,st,F⟩
end
theorem pe_df {X:Cx}{k:Nat}{x:Str}{ps:List Str}{sp:Sp}{p pos:Pos}{e:Expr}{es:List Expr}{t:TA}(D:Df X.prog X.w X.K X.mg X.base k x ps sp)(hr:Room k X.A)(ha:PA X (e :: es) t)(hg:Gl X x:=by rfl)
  (hdb:(x == ("__debug__" : Str))=false:=by decide) (he:starEach (e :: es) X.env=(false,eval e X.env) :: starEach es X.env:=by rfl) (hpl:(backTo pos (starEach es X.env)).any (·.1)=false:=by rfl) :
  PE X (.Call (.Name x p) (e :: es) [] pos) (tCall sp [] E0 t):=by
 obtain ⟨f,fd,F,m,kp,b,_⟩:=D
 exact pe_call F hr hg m kp b .nil pass0 ha hdb he hpl
def KeepBut (d:Addr)(H H':Hp):Prop:=∀ b o,H b=some o→b≠d→H' b=some o
theorem KeepBut.refl (d:Addr)(H:Hp):KeepBut d H H:=fun _ _ h _=>h
theorem KeepBut.trans {d:Addr}{H H1 H2:Hp}(a:KeepBut d H H1)(b:KeepBut d H1 H2):KeepBut d H H2:=fun c o h n=>b c o (a c o h n) n
theorem KeepBut.upd {d p:Addr}{H H1:Hp}{o:HO}(a:KeepBut d H H1)(hp:H1 p=none):KeepBut d H (upd H1 p o):=fun c u h n=>by
 rw [upd_ne (ne_of_none (a c u h n) hp)];exact a c u h n
structure DeckAt (H:Hp)(d c:Addr)(ns:List Int)(k:Nat)(r:Int)(m:Nat)(t:Int):Prop where
 deck:H d=some (.lst [.ref c,.int k,.int r,.int m,.int t])
 cut:H c=some (.lst (ns.map V.int))
 kle:k≤ns.length
 few:ns.length ≤ 63
 rnn:0≤r
def Deck (H:Hp)(d:Addr)(n:Nat):Prop:=∃ c ns k r m t,DeckAt H d c ns k r m t∧m≤n
theorem Deck.more {H:Hp}{d:Addr}{n m:Nat}(D:Deck H d n)(h:n≤m):Deck H d m:=let ⟨c,ns,k,r,j,t,D,hj⟩:=D;⟨c,ns,k,r,j,t,D,Nat.le_trans hj h⟩
theorem Deck.keep {H H':Hp}{d:Addr}{n:Nat}(D:Deck H d n)(h:Same H H'):Deck H' d n :=
 let ⟨c,ns,k,r,m,t,D,hm⟩:=D;⟨c,ns,k,r,m,t,⟨h _ _ D.deck,h _ _ D.cut,D.kle,D.few,D.rnn⟩,hm⟩
theorem Deck.upd {H:Hp}{d p:Addr}{n:Nat}{o:HO}(D:Deck H d n)(hp:H p=none):Deck (upd H p o) d n:=D.keep fun b u e=>by rw [upd_ne (ne_of_none e hp)];exact e
theorem KeepBut.tups {d:Addr}{H H':Hp}{xs:List V}(k:KeepBut d H H')(hd:H d=some (.lst xs)):KeepT H H':=fun a ys e=>k a _ e (ne_of e hd fun z=>by cases z)
theorem same_upd {H:Hp}{p:Addr}{o:HO}(hp:H p=none):Same H (upd H p o):=fun b u e=>by rw [upd_ne (ne_of_none e hp)];exact e
theorem Same.tups {H H':Hp}(s:Same H H'):KeepT H H':=fun a xs e=>s a _ e
theorem Same.but {H H':Hp}(s:Same H H')(d:Addr):KeepBut d H H':=fun a o e _=>s a o e
end L2
namespace L2
open PySem PySem.Spec PyProof.Rows
section
variable {X:Cx}{tg l:Expr}
theorem op_eqA (hu:X.A.units + 64 < cLine):OpR X (compareOp .Eq) (fun x y H Q=>rEq x y H Q ∨ rEqD 0 x y H Q):=op_eq.or (op_eqD hu)
theorem op_neA (hu:X.A.units + 64 < cLine):OpR X (compareOp .NotEq) (fun x y H Q=>rNe x y H Q ∨ rNeD 0 x y H Q):=op_ne.or (op_neD hu)
theorem pi_or {w1 w2:TI}(h1:PI X tg l w1)(h2:PI X tg l w2):PI X tg l (fun σ H R=>w1 σ H R ∨ w2 σ H R):=fun pins s σ H R I h=>h.elim (h1 pins s σ H R I) (h2 pins s σ H R I)
theorem pi_seq {tl:TE}(hl:PE X l tl):PI X tg l (fun σ H R=>iList X.K tl σ H R ∨ iTup X.K tl σ H R):=pi_or (pi_list hl) (pi_tup hl)
end
theorem bt_tuple:bootBuiltins "tuple" = some (.type "tuple"):=by decide +kernel
theorem bt_int:bootBuiltins "int" = some (.type "int"):=by decide +kernel
theorem bt_str:bootBuiltins "str" = some (.type "str"):=by decide +kernel
theorem bt_list:bootBuiltins "list" = some (.type "list"):=by decide +kernel
theorem bt_range:bootBuiltins "range" = some (.type "range"):=by decide +kernel
theorem bt_len:bootBuiltins "len" = some (.builtin "len"):=by decide +kernel
theorem bt_all:bootBuiltins "all" = some (.builtin "all"):=by decide +kernel
theorem bt_max:bootBuiltins "max" = some (.builtin "max"):=by decide +kernel
theorem bt_min:bootBuiltins "min" = some (.builtin "min"):=by decide +kernel
theorem bt_isinstance:bootBuiltins "isinstance" = some (.builtin "isinstance"):=by decide +kernel
end L2
namespace L2
open PySem PySem.Spec PyProof.Rows
def compB (outer:List (Str × NameKind))(scope:Scope)(M:List Str)(idx:List Nat)(N:List Str):Bool :=
 scope.kind == .function && (scope.names.all fun y=>(y.2 != .local || scope.names.lookup y.1 == some .local) && (y.2 != .cell || scope.names.lookup y.1 == some .cell) && (y.2 != .free || (outer.lookup y.1 == some .cell || outer.lookup y.1 == some .free)))
  && idx.length == M.length && (M.zip idx).all fun p=>scope.names.lookup p.1 == some .free && N[p.2]? == some p.1
theorem compOk {X:Cx}{scope:Scope}{M:List Str}{idx:List Nat}(h:compB X.env.scope.names scope M idx X.N=true):CompOk X scope M idx:=by
 unfold compB at h
 simp only [Bool.and_eq_true] at h
 obtain ⟨⟨⟨h1,h2⟩,h3⟩,h4⟩:=h
 have h2':=List.all_eq_true.mp h2
 refine ⟨by simpa using h1,fun y hy e=>?_,fun y hy e=>?_,fun y hy e=>?_,by simpa using h3,fun j y ej=>?_⟩
 ·have:=h2' y hy
  simp [e] at this
  exact this
 ·have:=h2' y hy
  simp [e] at this
  exact this
 ·have:=h2' y hy
  simp [e] at this
  exact this
 ·have hl:idx.length=M.length:=by simpa using h3
  have hj:j < M.length:=(List.getElem?_eq_some_iff.mp ej).1
  have hk:idx[j]? = some (idx[j]'(by omega)):=by simp [hl,hj]
  have hz:(M.zip idx)[j]? = some (y,idx[j]'(by omega)):=by
   rw [List.getElem?_zip_eq_some]
   exact ⟨ej,hk⟩
  have:=List.all_eq_true.mp h4 _ (List.mem_of_getElem? hz)
  simp only [Bool.and_eq_true,beq_iff_eq] at this
  exact ⟨this.1,_,hk,this.2⟩
end L2
namespace L2
open PySem PySem.Spec PyProof.Rows
def SpLaw (K:PySem.W.Frag):Sp:=fun vs H Q _=>∃ (a:Addr) (ns:List Int),vs=[.ref a]∧SqL K H a (ns.map V.int)∧ns.length ≤ 63∧∀ H',Q (.bl true) H'
theorem walk_df {l:PySem.W.OpenLaw}{k:Nat}{q:Program}{loose:List Str}{XP:(Str→Option Value)→Heap→Prop}{YP:World→Heap→Prop}{d:DefRec}{K:Params→PySem.W.Frag}{st:Stmt}
  (hn:l.most=some 63) (hdf:d.params.defaults=[]) (hdn:d.name = "law") (hr:Room k callerA)
  (hY:∀ (w:World) (h:Heap),YP w h→(K w.params).In h)
  (hbind:∀ (kV doc pm:Value) (an:Option Addr) (cdv ct v:Value),bindArgs (PySem.W.fnOf "law" "law" (defArgs st) (defBody st) (defScope st) .none kV doc pm an cdv ct) ⟨[v],[]⟩=pure [(("script" : Str),v)])
  (F:∀ (w:World) (mg:Str→Option Value) (h:Heap),(K w.params).In h→h.Ns mainGlobals mg→Raw (K w.params) mg "law" ["script"] st∧∀ base:Heap,Df l.prog w (K w.params) mg base k "law" ["script"] (SpLaw (K w.params))) :
  PySem.W.WalkO q loose XP YP l.row.toRowW d [] (fun f vs=>PySem.call f vs):=by
 refine L2.walk_of (n:=63) (k:=k) (x := "script") (CX:=fun _=>CX0) (sp:=fun w=>SpLaw (K w.params)) hn (by decide) hdf hr hY (fun w mg fa h KX G hmg=>?_) (fun w H a ns hl _ hS=>⟨a,ns,rfl,hS,hl,fun _=>rfl⟩) fun _ _ _ _ _ z=>z
 obtain ⟨⟨f,fd,R,m,b⟩,D⟩:=F w mg h KX G
 rw [hdn] at hmg
 have e:=hmg.symm.trans m
 cases e
 obtain ⟨oc,od,kV,doc,pm,an,cdv,ct,osl,e1,e2,_⟩:=R.ex
 refine ⟨fd,fun s v=>.of_eq (by rw [e1];exact hbind kV doc pm an cdv ct v),fun base _ _=>?_⟩
 obtain ⟨f',fd',G',m',_,_,st',R'⟩:=D base
 have e:=hmg.symm.trans m'
 cases e
 obtain ⟨oc',od',kV',doc',pm',an',cdv',ct',osl',e1',e2',_⟩:=R'.ex
 rw [e2] at e2'
 cases e2'
 exact G'
end L2
namespace L2
open PySem PySem.Spec PyProof.Rows
end L2
namespace L2
theorem tSeq_cut {t u:TS}{D:Ends}{σ:St}{H:Hp}(R:St→Hp→Prop)(hu:∀ σ H,R σ H→u D σ H)(ht:(∀ σ H,R σ H→u D σ H)→t { D with nx:=u D } σ H):tSeq t u D σ H:=ht hu
end L2
namespace L2
open PySem PySem.Spec PyProof.Rows
section
variable {X:Cx}{K:PySem.W.Frag}{tg l a b:Expr}{ta tb tl:TE}{pos:Pos}
theorem call_lenK (h:X.K=K):CallR X (.builtin "len") (fun xs H Q=>∃ x n,xs=[x]∧LenV K x H n∧Q (.int n) H):=by subst h;exact call_len
theorem call_tupleK (h:X.K=K):CallR X (.type "tuple") (fun xs H Q=>∃ p ys,xs=[.ref p]∧((SqL K H p ys∧∀ l,H l=none→Q (.ref l) (upd H l (.tup ys))) ∨ (SqT K H p ys∧Q (.ref p) H))):=by subst h;exact call_tuple_of
theorem call_listK (h:X.K=K):CallR X (.type "list") (fun xs H Q=>∃ p ys,xs=[.ref p]∧(SqL K H p ys ∨ SqT K H p ys)∧∀ l,H l=none→Q (.ref l) (upd H l (.lst ys))):=by subst h;exact call_list_of
theorem call_allK (h:X.K=K) (hc:X.calm=true):CallR X (.builtin "all") (fun xs H Q=>∃ (p:Addr) (bs:List Bool),xs=[.ref p]∧SqL K H p (bs.map V.bl)∧Q (.bl (bs.all id)) H):=by subst h;exact call_all hc
theorem call_isinstK (h:X.K=K):CallR X (.builtin "isinstance") (fun xs H Q=>∃ (x:V) (T C:String) (b:Bool),xs=[x,.ty C]∧kindV K H x T∧PySem.W.kitOne K (.type T) (.type C)=some b∧Q (.bl b) H):=by subst h;exact call_isinst
theorem ix_seqK (h:X.K=K):IxR X (rIx K):=by subst h;exact ix_seq
theorem pi_seqK (h:X.K=K)(hl:PE X l tl):PI X tg l (fun σ H R=>iList K tl σ H R ∨ iTup K tl σ H R):=by subst h;exact pi_seq hl
theorem pt_truthK (h:X.K=K)(ha:PE X a ta)(he:∀ whole,isTrue a X.env whole=(do let v ← whole;standAt a.pos;holding [v] (truthy v))) :
  PT X a (fun σ H Q=>ta σ H fun x H'=>∃ k,TruV K x H' k∧Q k H'):=by subst h;exact pt_truth ha he
theorem pg_tupK {es:List Expr}{k:Nat}{t:TGs}{n:Nat}(h:X.K=K)(hc:X.calm=true)(hg:PGs X es t)
  (hn:(assignEach es X.env).length=n:=by rfl) (hst:(assignEach es X.env).findIdx? (·.1)=none:=by rfl):PG X (.Tuple es k pos) (gTup K n t):=by subst h;exact pg_tup hc hg hn hst
end
end L2
namespace L2
theorem oneT {te:TE}{σ:St}{x:V}{H:Hp}{k:Option V→Hp→Prop}(h:te (some x :: σ) H fun v H2=>k (some v) H2):oneOf ttTrue te σ x H k:=by
 show if true=true then (te (some x :: σ) H fun v H2=>k (some v) H2) else k none H
 rw [if_pos rfl]
 exact h
end L2
namespace L2
open PySem PySem.Spec PyProof.Rows
end L2
namespace L2
end L2
namespace L2
end L2
namespace L2
open PySem PySem.Spec PyProof.Rows
def cellV:Option Int→V
 | none=>.non
 | some i=>.int i
def cellD:Option Int→PyData
 | none=>.none
 | some i=>.int i
def rowD (r:List (Option Int)):PyData:=.tuple (r.map cellD)
def fieldD (F:List (List (Option Int))):PyData:=.tuple (F.map rowD)
theorem isCell {H:Hp}:∀ c:Option Int,IsD H (cellV c) (cellD c)
 | none=>.non
 | some i=>.int i
theorem isCells {H:Hp}:∀ r:List (Option Int),IsDs H (r.map cellV) (r.map cellD)
 | []=>.nil
 | c :: r=>.cons (isCell c) (isCells r)
theorem IsD.cell_inv {H:Hp}{v:V}:∀ {c:Option Int},IsD H v (cellD c)→v=cellV c
 | none,h=>by cases h;rfl
 | some i,h=>by cases h;rfl
theorem IsDs.cells_inv {H:Hp}:∀ {xs:List V} {r:List (Option Int)},IsDs H xs (r.map cellD)→xs=r.map cellV
 | _,[],h=>by cases h;rfl
 | _,c :: r,h=>by
  cases h with
  | cons h1 h2=>rw [IsD.cell_inv h1,IsDs.cells_inv h2];rfl
theorem isRow_inv {H:Hp}{v:V}{r:List (Option Int)}(h:IsD H v (rowD r)):∃ a,v = .ref a∧H a=some (.tup (r.map cellV)):=by
 obtain ⟨a,xs,e,h1,h2⟩:=h.tuple_inv
 rw [IsDs.cells_inv h2] at h1
 exact ⟨a,e,h1⟩
theorem isField_inv {H:Hp}{v:V}{F:List (List (Option Int))}(h:IsD H v (fieldD F)):∃ a xs,v = .ref a∧H a=some (.tup xs)∧IsDs H xs (F.map rowD):=h.tuple_inv
theorem isRows_get {H:Hp}{xs:List V}{F:List (List (Option Int))}{i:Nat}(h:IsDs H xs (F.map rowD))(hi:i < F.length):∃ a,xs[i]? = some (.ref a)∧H a=some (.tup (F[i].map cellV)):=by
 obtain ⟨x,e1,e2⟩:=h.get (i:=i) (d:=rowD F[i]) (by simp [hi])
 obtain ⟨a,e3,e4⟩:=isRow_inv e2
 exact ⟨a,by rw [e1,e3],e4⟩
theorem atI_mem {α:Type}{xs:List α}{i:Int}(h0:0≤i)(h1:i < xs.length):∃ v,atI xs i=some v∧v∈xs:=by
 obtain ⟨j,rfl⟩:=Int.eq_ofNat_of_zero_le h0
 have hj:j < xs.length:=by omega
 exact ⟨xs[j],atI_nat (by simp [hj]),List.getElem_mem hj⟩
theorem canLay_cell (c:Option Int):(cellD c).canLay0=true:=by cases c <;> rfl
theorem canLay_cells:∀ r:List (Option Int),PyData.canLayAll0 (r.map cellD)=true
 | []=>rfl
 | c :: r=>by rw [List.map_cons,PyData.canLayAll0,canLay_cell,canLay_cells r];rfl
theorem depth_cell (c:Option Int):(cellD c).depth=0:=by cases c <;> rfl
theorem depth_cells:∀ r:List (Option Int),PyData.depthAll (r.map cellD)=0
 | []=>rfl
 | c :: r=>by rw [List.map_cons,PyData.depthAll,depth_cell,depth_cells r];rfl
theorem eqv_cell (a b:Option Int):PyData.eqv (cellD a) (cellD b)=decide (a=b):=by
 cases a with
 | none=>cases b <;> rfl
 | some i =>
  cases b with
  | none=>rfl
  | some j =>
   show (i == j)=decide (some i=some j)
   by_cases h:i=j
   ·subst h;simp
   ·have:¬ (some i=some j):=fun e=>h (Option.some.inj e)
    rw [decide_eq_false this];simpa using h
theorem eqv_cells:∀ a b:List (Option Int),PyData.eqvAll (a.map cellD) (b.map cellD)=decide (a=b)
 | [],[]=>rfl
 | [],_ :: _=>rfl
 | _ :: _,[]=>rfl
 | x :: a,y :: b=>by
  rw [List.map_cons,List.map_cons,PyData.eqvAll,eqv_cell,eqv_cells a b]
  by_cases h1:x=y
  ·by_cases h2:a=b
   ·simp [h1,h2]
   ·simp [h1,h2]
  ·simp [h1]
end L2
namespace L2
open PySem PySem.Spec PyProof.Rows
mutual
def plainD:PyData→Bool
 | .none | .int _=>true
 | .tuple ds=>decide (ds.length ≤ 100000) && plainDs ds
 | _=>false
def plainDs:List PyData→Bool
 | []=>true
 | d :: ds=>plainD d && plainDs ds
end
end L2
namespace L2
open PySem PySem.Spec PyProof.Rows
inductive Rule where
 | there | near | turned | round | told (c:Option Int)
def ruleD:Rule→PyData
 | .there=>.str "there"
 | .near=>.str "near"
 | .turned=>.str "turned"
 | .round=>.str "round"
 | .told c=>.tuple [.str "told",cellD c]
def led:Rule→Int→Int→Int
 | .near,p,n=>min (max p 0) (n - 1)
 | .turned,p,n=>min (p % (2 * n)) (2 * n - 1 - p % (2 * n))
 | _,p,n=>p % n
theorem led_in (r:Rule)(p:Int){n:Int}(h:1≤n):0≤led r p n∧led r p n < n:=by
 have a:=Int.emod_nonneg p (show n≠0 by omega)
 have b:=Int.emod_lt_of_pos p (show 0 < n by omega)
 have c:=Int.emod_nonneg p (show 2 * n≠0 by omega)
 have d:=Int.emod_lt_of_pos p (show 0 < 2 * n by omega)
 cases r <;> simp only [led] <;> omega
theorem led_id (r:Rule){p n:Int}(h0:0≤p)(h1:p < n):led r p n=p:=by
 have a:=Int.emod_eq_of_lt h0 h1
 have b:=Int.emod_eq_of_lt h0 (show p < 2 * n by omega)
 cases r <;> simp only [led] <;> omega
def cellAt (F:List (List (Option Int)))(i j:Int):Option Int:=((F[i.toNat]?).bind fun r=>r[j.toNat]?).join
def inF (F:List (List (Option Int)))(i j:Int):Bool:=decide (0≤i) && decide (i < F.length) && (decide (0≤j) && decide (j < (F.headD []).length))
def stands (F:List (List (Option Int)))(r:Rule)(i j:Int):List (Option Int) :=
 if inF F i j then [cellAt F i j] else match r with
  | .there=>[]
  | .told c=>[c]
  | r=>[cellAt F (led r i F.length) (led r j (F.headD []).length)]
structure Rect (F:List (List (Option Int))):Prop where
 h1:1≤F.length
 hs:F.length ≤ 1000
 w1:1≤(F.headD []).length
 ws:(F.headD []).length ≤ 1000
 row:∀ r∈F,r.length=(F.headD []).length
theorem field_cell {H:Hp}{v:V}{F:List (List (Option Int))}(R:Rect F)(h:IsD H v (fieldD F)){i j:Int}(i0:0≤i)(i1:i < F.length)(j0:0≤j)(j1:j < (F.headD []).length) :
  ∃ (a:Addr) (xs:List V) (b:Addr) (r:List (Option Int)),v = .ref a∧H a=some (.tup xs)∧atI xs i=some (.ref b)∧H b=some (.tup (r.map cellV))∧atI (r.map cellV) j=some (cellV (cellAt F i j))∧(r.map cellV).length=(F.headD []).length:=by
 obtain ⟨a,xs,e,h1,h2⟩:=isField_inv h
 obtain ⟨i',rfl⟩:=Int.eq_ofNat_of_zero_le i0
 obtain ⟨j',rfl⟩:=Int.eq_ofNat_of_zero_le j0
 have hi:i' < F.length:=by omega
 obtain ⟨b,e2,h3⟩:=isRows_get h2 hi
 have hw:=R.row F[i'] (List.getElem_mem hi)
 have hj:j' < F[i'].length:=by omega
 refine ⟨a,xs,b,F[i'],e,h1,atI_nat e2,h3,?_,by rw [List.length_map];exact hw⟩
 have e3:cellAt F (i':Int) (j':Int)=F[i'][j']:=by
  unfold cellAt
  simp [hi,hj]
 rw [e3]
 exact atI_nat (by simp [hj])
theorem field_sizes {H:Hp}{v:V}{F:List (List (Option Int))}(R:Rect F)(h:IsD H v (fieldD F)) :
  ∃ (a:Addr) (xs:List V) (b:Addr) (ys:List V),v = .ref a∧H a=some (.tup xs)∧xs.length=F.length ∧ atI xs 0=some (.ref b)∧H b=some (.tup ys)∧ys.length=(F.headD []).length:=by
 obtain ⟨a,xs,e,h1,h2⟩:=isField_inv h
 have hi:0 < F.length:=R.h1
 obtain ⟨b,e2,h3⟩:=isRows_get h2 hi
 refine ⟨a,xs,b,_,e,h1,by rw [h2.length,List.length_map],atI_nat e2,h3,?_⟩
 rw [List.length_map]
 exact R.row _ (List.getElem_mem hi)
theorem rule_str {H:Hp}{v:V}{x:Str}(h:IsD H v (.str x)):v = .str x:=by cases h;rfl
end L2
namespace L2
open PySem PySem.Spec PyProof.Rows
theorem stands_len (F:List (List (Option Int)))(r:Rule)(i j:Int):(stands F r i j).length ≤ 1:=by
 unfold stands
 split
 ·exact Nat.le_refl _
 ·split <;> simp
end L2
namespace L2
open PySem PySem.Spec PyProof.Rows
end L2
namespace L2
open PySem PySem.Spec PyProof.Rows
section
open PySem.AutoSeq1 PySem.MeetsSeq PySem.MeetsSeq2 PySem.MeetsSeq3
set_option maxHeartbeats 4000000 in
theorem extend_tuple_meets (l:Addr)(items:Array Value)(n:Nat)(b:Addr)(items2:Array Value)(n2:Nat)(dd:Option Addr)(sl:Array (Option Value))(hs0:¬(!items.isEmpty && Builtin.List.listTooLong (items.size + items2.size))=true)(hs1:items.size ≤ sizeLine)(hs2:items.size + items2.size ≤ sizeLine + 1) :
  Meets (Builtin.«list.extend» ⟨[.ref l,.ref b],[]⟩) (fun _ R s=>s.heap.get? l=some { cls:=.type "list",dict:=none,data:=.seq items n,slots:=#[] }∧s.heap.get? b=some { cls:=.type "tuple",dict:=dd,data:=.seq items2 n2,slots:=sl }∧R (.ok (.ret Value.none)) { s with heap:=s.heap.update l (Obj.mapSeq fun x=>x ++ items2),toks:=s.toks }) :=
 .of_wp fun prog w A R s h=>by
  obtain ⟨hp,g,d,tk,os⟩:=s;obtain ⟨hl,hb,h⟩:=h;have f1:=idx_int;have f2:=PySem.AutoSeq1.sub_tuple_tuple;have f3:=PySem.AutoSeq1.sub_list_list;have f4:=PySem.AutoSeq1.sub_tuple_list;have f5:=PySem.AutoSeq1.sub_list_tuple;
  have hz':(items ++ items2).size ≤ sizeLine + 1:=by rw [Array.size_append];exact hs2
  wp_walk using (wpAny_updateSeq hl rfl (hz:=hs1) (_hz':=hz')),wpAny_loadPart' hl,wpAny_loadPart' hb;exact ⟨_,rfl,h⟩
end
section
variable {X:Cx}
def rExtendT:V→List V→Hp→VK→Prop:=fun x vs H Q=>∃ l b xs zs,x = .ref l∧vs=[.ref b]∧H l=some (.lst xs)∧H b=some (.tup zs)∧xs.length + zs.length ≤ sizeLine∧Q .non (upd H l (.lst (xs ++ zs)))
theorem mt_extendT:MtM X "list.extend" rExtendT:=by
 intro pins s σ H x vs v us Q I rx rv h
 obtain ⟨l,b,xs,zs,rfl,rfl,hH,hB,hz,q⟩:=h
 cases rx
 obtain ⟨u,rfl,ru⟩:=rv.one
 cases ru
 obtain ⟨z,its,n,r,hl,e⟩:=I.lstM hH
 obtain ⟨z2,its2,r2,⟨oc,od,odt,osl⟩,e2,c2,n2,d2⟩:=(show ObjOk X.prog X.w H s.heap b (.tup zs) from I.hok b _ hB)
 simp only at c2 d2
 subst c2 d2
 have hl2:=r2.length
 have hsz:its.toArray.size + its2.toArray.size ≤ sizeLine:=by rw [List.size_toArray,List.size_toArray];omega
 have hlong:¬ (!its.toArray.isEmpty && Builtin.List.listTooLong (its.toArray.size + its2.toArray.size))=true:=by
  rw [notLongL hsz,Bool.and_false]
  exact Bool.false_ne_true
 refine call_meets F.slot_list_extend ⟨_,e,rfl⟩ F.entry_list_extend (F.args_list_extend_2 _ _)
  (extend_tuple_meets l its.toArray n b its2.toArray n2 od osl hlong (by rw [List.size_toArray];omega) (by omega)) ⟨e,e2,?_⟩
 refine ⟨.non,_,I.lset (its':=its ++ its2) hH e (by simp) (r.append r2) ?_,rfl,q⟩
 rw [List.length_append]
 omega
def upInts (lo:Int)(n:Nat):List V:=(List.range n).map fun i=>V.int (lo + (i:Nat))
theorem call_range2V:CallR X (.type "range") (fun xs H Q=>∃ i j:Int,xs=[.int i,.int j]∧∀ p,H p=none→Q (.ref p) (upd H p (.rng i j))):=by
 intro pins s σ H xs us Q I r h
 obtain ⟨i,j,rfl,q⟩:=h
 obtain ⟨u,w',rfl,⟨t,rfl⟩,⟨t',rfl⟩⟩:=vals2 r
 refine call_range_2 ?_
 exact ⟨.ref s.heap.objs.size,_,I.laid (o:=.rng i j) (fun b u e=>Heap.get?_push_of_some _ e) (Nat.le_refl _) ⟨t,t',s.toks,Heap.get?_push_size _ rfl⟩,rfl,q _ (I.hok.fresh (Nat.le_refl _))⟩
theorem vals_up {lo:Int}:∀ {n:Nat} {acc:List Value},acc.length=n→(∀ (j:Nat) v,acc[j]? = some v→∃ t,v=Value.int (lo + j * 1) t)→Vals (upInts lo n) acc:=by
 intro n
 induction n with
 | zero=>intro acc hl _;have e:=List.length_eq_zero_iff.mp hl;subst e;exact .nil
 | succ n ih =>
  intro acc hl h
  obtain ⟨init,x,rfl⟩:∃ init x,acc=init ++ [x]:=by
   have hne:acc≠[]:=by intro e;rw [e] at hl;cases hl
   exact ⟨acc.dropLast,acc.getLast hne,(List.dropLast_concat_getLast hne).symm⟩
  have hli:init.length=n:=by rw [List.length_append] at hl;simpa using hl
  have e1:upInts lo (n + 1)=upInts lo n ++ [.int (lo + (n:Nat))]:=by
   unfold upInts
   rw [List.range_succ,List.map_append]
   rfl
  rw [e1]
  refine (ih hli fun j v e=>h j v ?_).append (.cons ?_ .nil)
  ·rw [List.getElem?_append_left (List.getElem?_eq_some_iff.mp e).1];exact e
  ·obtain ⟨t,e⟩:=h n x (by rw [← hli];simp)
   exact ⟨t,by rw [e,Int.mul_one]⟩
theorem upInts_len (lo:Int)(n:Nat):(upInts lo n).length=n:=by unfold upInts;rw [List.length_map,List.length_range]
theorem call_list_rng (hc:X.calm=true):CallR X (.type "list") (fun xs H Q=>∃ (p:Addr) (i j:Int),xs=[.ref p]∧H p=some (.rng i j)∧(-(2 ^ 62)≤i∧i < 2 ^ 62∧-(2 ^ 62)≤j∧j < 2 ^ 62)∧(j - i).toNat ≤ 2 ^ 20 ∧
  ∀ l,H l=none→Q (.ref l) (upd H l (.lst (upInts i (j - i).toNat)))):=by
 intro pins s σ H xs us Q I r h
 obtain ⟨p,i,j,rfl,hp,⟨b1,b2,b3,b4⟩,hn,q⟩:=h
 obtain ⟨u,rfl,e⟩:=vals1 r
 obtain rfl:u=Value.ref p:=e
 obtain ⟨t,u,v,hr⟩:=(show ObjOk X.prog X.w H s.heap p (.rng i j) from I.hok p _ hp)
 refine call_list_range (n:=(j - i).toNat) (I.ok.hd hc) hr (small_one b1 b2 b3 b4) (by rw [rangeSize_one];split <;> omega) (Nat.le_trans hn (by decide)) fun h' tk acc' c' hk hS hacc=>?_
 have hv:Vals (upInts i (j - i).toNat) acc'.toList:=vals_up (by simpa using hacc.1) fun k v e=>hacc.2 k v (by simpa using e)
 refine ⟨.ref s.heap.objs.size,_,I.laid (o:=.lst (upInts i (j - i).toNat)) hk (Nat.le_refl _) ⟨by rw [upInts_len];exact Nat.le_trans hn (by decide),acc'.toList,c',hv,by simpa using hS⟩,rfl,q _ (I.hok.fresh (Nat.le_refl _))⟩
end
end L2
namespace L2
open PySem PySem.Spec PyProof.Rows
def winD (u d l r:Nat):PyData:=.tuple [.int u,.int d,.int l,.int r]
theorem isWin_inv {H:Hp}{v:V}{u d l r:Nat}(h:IsD H v (winD u d l r)):∃ a,v = .ref a∧H a=some (.tup [.int u,.int d,.int l,.int r]):=by
 obtain ⟨a,xs,e,h1,h2⟩:=h.tuple_inv
 cases h2 with
 | cons a1 h2=>cases a1;cases h2 with
  | cons a2 h2=>cases a2;cases h2 with
   | cons a3 h2=>cases a3;cases h2 with
    | cons a4 h2=>cases a4;cases h2;exact ⟨a,e,h1⟩
theorem isWin {H:Hp}{a:Addr}{u d l r:Nat}(h:H a=some (.tup [.int u,.int d,.int l,.int r])):IsD H (.ref a) (winD u d l r):=.tup h (.cons (.int _) (.cons (.int _) (.cons (.int _) (.cons (.int _) .nil))))
def rowCells (F:List (List (Option Int)))(ru:Rule)(l r:Nat)(row j:Int):List (Option Int):=(List.range (l + r + 1)).flatMap fun b=>stands F ru row (j - l + (b:Nat))
def wc (F:List (List (Option Int)))(ru:Rule)(u d l r:Nat)(i j:Int):List (Option Int):=(List.range (u + d + 1)).flatMap fun a=>rowCells F ru l r (i - u + (a:Nat)) j
theorem flatMap_succ {α:Type}(f:Nat→List α)(n:Nat):(List.range (n + 1)).flatMap f=(List.range n).flatMap f ++ f n:=by
 rw [List.range_succ,List.flatMap_append]
 simp
theorem flatMap_len {α:Type}(f:Nat→List α){m:Nat}(h:∀ k,(f k).length ≤ m):∀ n,((List.range n).flatMap f).length ≤ n * m
 | 0=>by simp
 | n + 1=>by
  rw [flatMap_succ,List.length_append,Nat.succ_mul]
  exact Nat.add_le_add (flatMap_len f h n) (h n)
theorem rowCells_len (F:List (List (Option Int)))(ru:Rule)(l r:Nat)(row j:Int):(rowCells F ru l r row j).length ≤ l + r + 1:=by
 have:=flatMap_len (fun b=>stands F ru row (j - l + (b:Nat))) (m:=1) (fun k=>stands_len _ _ _ _) (l + r + 1)
 rw [Nat.mul_one] at this
 exact this
theorem wc_len (F:List (List (Option Int)))(ru:Rule)(u d l r:Nat)(i j:Int):(wc F ru u d l r i j).length ≤ (u + d + 1) * (l + r + 1) :=
 flatMap_len _ (fun k=>rowCells_len _ _ _ _ _ _) _
end L2
namespace L2
end L2
namespace HT
open PySem PyProof.Rows
section
variable {prog:Program}{w:World}{A:Around}{E:Value→Shared→Prop}{s:Shared}
set_option maxHeartbeats 4000000 in
theorem getItem_tuple_whole {t sl:Addr}{items:Array Value}{vl vu:Value}{lo hi:Option Int}{Q:Value→Shared→Prop}(ht:IsTup s.heap t items)(hs:s.heap.IsSliceOf sl vl vu .none)(pl:IsPart vl lo)(pu:IsPart vu hi)
  (hw:sIx items.size 0 lo=0∧sIx items.size items.size hi=items.size) (h:Q (.ref t) s):wpAny (model prog w) A (getItem (.ref t) (.ref sl)) Q E s:=by
 obtain ⟨os,hos,hcs,hds⟩:=id hs
 have hTs:s.TypeIs (.ref sl) "slice":=⟨os,hos,hcs⟩
 unfold getItem
 try with_reducible refine wpAny_holding ?_
 first | refine wpAny_bind (wpAny_pure ?_) | skip
 refine wpAny_bind (wpAny_sequenceKey ht.typeIs (by decide) ?_)
 refine wpAny_bind (wpAny_callSpecial?_slot (name:=Str.ofString "__getitem__") ht.typeIs PyProof.Rows.slot_tuple_getitem
  (wpAny_call_entry PyProof.Rows.slot_tuple_getitem ht.typeIs entry_tuple_getitem ?_ (args_tuple_getitem _ _)))
 show wpAny _ _ (Builtin.Tuple.tupleItemsOf (.ref t) >>= _) _ _ s
 refine wpAny_bind (tupleItemsOf_ ht ?_)
 refine wpAny_bind (wpAny_typeOf hTs ?_)
 rw [if_pos (by decide)]
 refine wpAny_bind (sliceApplied_gen hs pl pu ?_)
 rw [hw.1,hw.2]
 show wpAny _ _ (if ((((0:Nat):Int) == 0 && (1:Int) == 1 && (items.size - 0) == items.size)=true) then _ else _) _ _ s
 rw [if_pos (by simp)]
 refine wpAny_bind ?_
 unfold Builtin.Tuple.tupleIsExact
 refine wpAny_bind (wpAny_typeOf ht.typeIs (wpAny_pure ?_))
 rw [if_pos (by decide)]
 first
  | exact wpAny_bind (wpAny_rule (wpAny_bind (wpAny_pure (wpAny_pure ⟨_,rfl,wpAny_pure h⟩))))
  | exact wpAny_bind (wpAny_rule (wpAny_pure ⟨_,rfl,wpAny_pure h⟩))
  | exact wpAny_rule (wpAny_bind (wpAny_pure (wpAny_pure ⟨_,rfl,wpAny_pure h⟩)))
end
end HT
namespace L2
open PySem PySem.Spec PyProof.Rows
section
variable {X:Cx}
def rSlTA:V→Option Int→Option Int→Hp→VK→Prop:=fun x lo hi H Q=>∃ a xs,x = .ref a∧H a=some (.tup xs)∧∀ p H',Same H H'→H' p=some (.tup (cutV xs lo hi))→Q (.ref p) H'
theorem sl_tupA:SlR X rSlTA:=by
 intro pins s σ H x v vl vu lo hi sl Q I rx hs pl pu h
 obtain ⟨a,xs,rfl,hx,q⟩:=h
 by_cases hw:HT.sIx xs.length 0 lo=0∧HT.sIx xs.length xs.length hi=xs.length
 ·cases rx
  obtain ⟨its,r,ht,hz⟩:=I.tuple (SqT.of hx)
  have hlen:its.toArray.size=xs.length:=by rw [List.size_toArray];exact r.length.symm
  refine ⟨"tuple",_,PyProof.Rows.slot_tuple_getitem.lookup,ht.typeIs,?_⟩
  refine HT.getItem_tuple_whole ht hs pl pu (by rw [hlen];exact hw) ⟨.ref a,H,I,rfl,q a H (Same.refl H) ?_⟩
  rw [hx]
  unfold cutV
  rw [hw.1,hw.2,List.drop_zero,Nat.sub_zero,List.take_of_length_le (Nat.le_refl _)]
 ·exact sl_tup pins s σ H _ v vl vu lo hi sl Q I rx hs pl pu ⟨a,xs,rfl,SqT.of hx,hw,fun p hp=>q p _ (same_upd hp) upd_same⟩
def rCatTA:R2:=fun x y H Q=>∃ a b xs ys,x = .ref a∧y = .ref b∧H a=some (.tup xs)∧H b=some (.tup ys)∧xs.length + ys.length ≤ sizeLine∧∀ p H',Same H H'→H' p=some (.tup (xs ++ ys))→Q (.ref p) H'
theorem op_catTA:OpR X (binaryOp .Add) rCatTA:=by
 intro pins s σ H x y v u Q I rx ry h
 obtain ⟨a,b,xs,ys,rfl,rfl,ha,hb,hz,q⟩:=h
 by_cases hx:xs=[]
 ·subst hx
  cases rx
  cases ry
  obtain ⟨its,r1,⟨⟨cls,dd,data,sl⟩,ho,hc,n,hd⟩,_⟩:=I.tuple (SqT.of ha)
  obtain ⟨its2,r2,⟨⟨cls2,dd2,data2,sl2⟩,ho2,hc2,n2,hd2⟩,_⟩:=I.tuple (SqT.of hb)
  simp only at hc hd hc2 hd2
  subst hc hd hc2 hd2
  have e:its=[]:=r1.nil_iff.mpr rfl
  exact concat_meets ⟨_,ho,rfl⟩ ⟨_,ho2,rfl⟩ noFill_tuple_add seq_tuple_add PySem.F.slot_tuple_add PySem.F.entry_tuple_add (PySem.F.args_tuple_add_2 _ _)
   (tuple_addW0 a b its.toArray its2.toArray n n2 dd dd2 sl sl2 (by simp [e])) ⟨ho,ho2,⟨.ref b,H,I,rfl,q b H (Same.refl H) (by rw [hb];rfl)⟩⟩
 ·refine op_catT pins s σ H _ _ v u Q I rx ry ⟨a,b,xs,ys,rfl,rfl,SqT.of ha,SqT.of hb,hx,hz,fun e=>q a H (Same.refl H) (by rw [ha,e,List.append_nil]),fun _ p hp=>q p _ (same_upd hp) upd_same⟩
def rNeL:R2:=fun x y H Q=>∃ p q xs ys dx dy,x = .ref p∧y = .ref q∧H p=some (.lst xs)∧H q=some (.lst ys)∧IsDs H xs dx∧IsDs H ys dy∧CmpD 0 (.list dx) (.list dy)∧Q (.bl (!PyData.eqvAll dx dy)) H
def rEqL:R2:=fun x y H Q=>∃ p q xs ys dx dy,x = .ref p∧y = .ref q∧H p=some (.lst xs)∧H q=some (.lst ys)∧IsDs H xs dx∧IsDs H ys dy∧CmpD 0 (.list dx) (.list dy)∧Q (.bl (PyData.eqvAll dx dy)) H
theorem list_reads {P:Program}{w:World}{H:Hp}{h:Heap}(I:HOk P w H h){p:Addr}{xs:List V}{dx:List PyData}(hp:H p=some (.lst xs))(hd:IsDs H xs dx):∃ as,Reads h (.ref p) (.list dx) as:=by
 obtain ⟨_,its,n,r,e⟩:=(show ObjOk P w H h p (.lst xs) from I p _ hp)
 obtain ⟨as,hr⟩:=hd.reads I r
 exact ⟨_,.list e rfl rfl (by simpa using hr)⟩
theorem op_neL (hu:X.A.units + 64 < cLine):OpR X (compareOp .NotEq) rNeL:=by
 intro pins s σ H x y v u Q I rx ry h
 obtain ⟨p,q,xs,ys,dx,dy,rfl,rfl,hp,hq,hx,hy,⟨c1,c2,c3⟩,qq⟩:=h
 cases rx
 cases ry
 obtain ⟨as,r1⟩:=list_reads I.hok hp hx
 obtain ⟨bs,r2⟩:=list_reads I.hok hq hy
 exact PySem.SeqAt.compareNe_reads r1 r2 c1 c2 (unitsD hu c3) ⟨.bl _,H,I,rfl,qq⟩
theorem op_eqL (hu:X.A.units + 64 < cLine):OpR X (compareOp .Eq) rEqL:=by
 intro pins s σ H x y v u Q I rx ry h
 obtain ⟨p,q,xs,ys,dx,dy,rfl,rfl,hp,hq,hx,hy,⟨c1,c2,c3⟩,qq⟩:=h
 cases rx
 cases ry
 obtain ⟨as,r1⟩:=list_reads I.hok hp hx
 obtain ⟨bs,r2⟩:=list_reads I.hok hq hy
 exact PySem.SeqAt.compareEq_reads r1 r2 c1 c2 (unitsD hu c3) ⟨.bl _,H,I,rfl,qq⟩
theorem op_neX (hu:X.A.units + 64 < cLine):OpR X (compareOp .NotEq) (fun x y H Q=>(rNe x y H Q ∨ rNeD 0 x y H Q) ∨ rNeL x y H Q):=(op_neA hu).or (op_neL hu)
theorem op_eqX (hu:X.A.units + 64 < cLine):OpR X (compareOp .Eq) (fun x y H Q=>(rEq x y H Q ∨ rEqD 0 x y H Q) ∨ rEqL x y H Q):=(op_eqA hu).or (op_eqL hu)
theorem sl_X {K:PySem.W.Frag}(h:X.K=K):SlR X (fun x lo hi H Q=>rSlL K x lo hi H Q ∨ rSlTA x lo hi H Q):=by subst h;exact sl_list.or sl_tupA
end
end L2
namespace L2
open PySem PySem.Spec PyProof.Rows
theorem IsDs.take {H:Hp}:∀ {xs:List V} {ds:List PyData} (n:Nat),IsDs H xs ds→IsDs H (xs.take n) (ds.take n)
 | _,_,0,_=>by rw [List.take_zero,List.take_zero];exact .nil
 | _,_,_ + 1,.nil=>.nil
 | _,_,n + 1,.cons h r=>.cons h (IsDs.take n r)
end L2
namespace L2
open PySem PySem.Spec PyProof.Rows PySem.Builtin PySem.Builtin.Str
section
variable {X:Cx}
theorem vals_strsFrom:∀ (xs:List Str) (t:Nat),Vals (xs.map V.str) (strsFrom t xs)
 | [],_=>.nil
 | x :: xs,t=>.cons ⟨t,rfl⟩ (vals_strsFrom xs (t + 1))
def rSplit:V→List V→Hp→VK→Prop:=fun x vs H Q=>∃ a b:Str,x = .str a∧vs=[.str b]∧(b.length == 0)=false∧a.length ≤ 1000000∧∀ l,H l=none→Q (.ref l) (upd H l (.lst ((Txt.split a b).map V.str)))
theorem mt_split:MtM X "str.split" rSplit:=by
 intro pins s σ H x vs v us Q I rx rv h
 obtain ⟨a,b,rfl,rfl,hb,ha,q⟩:=h
 obtain ⟨t,rfl⟩:=rx
 obtain ⟨u,rfl,⟨t',rfl⟩⟩:=rv.one
 have fin:∀ (its:List Value) (tk:Nat),Vals ((Txt.split a b).map V.str) its→EP X pins σ Q (.ref s.heap.objs.size) { s with heap:=s.heap.push { cls:=.type "list",data:=.seq its.toArray },toks:=tk }:=fun its tk hv =>
  ⟨.ref s.heap.objs.size,_,I.laid (o:=.lst ((Txt.split a b).map V.str)) (fun c o e=>Heap.get?_push_of_some _ e) (Nat.le_refl _) ⟨by
   rw [List.length_map]
   exact Nat.le_trans (split_le a b) (Nat.le_trans (show a.length + 2≤1000002 by omega) (by decide)),its,_,hv,Heap.get?_push_size _ rfl⟩,rfl,q _ (I.hok.fresh (Nat.le_refl _))⟩
 have hsz:a.length ≤ sizeLine:=Nat.le_trans ha (by decide)
 by_cases h1:(decide (a.length < b.length) || decide (strKind a < strKind b))=true
 ·have e:Txt.split a b=[a]:=by unfold Txt.split;rw [if_pos h1]
  refine call_meets F.slot_str_split (typeIs_str s a t) F.entry_str_split (F.args_str_split_2 _ _) (meets_str_split_cannot_occur a b t t' h1) ?_
  exact fin [.str a t] s.toks (by rw [e];exact .cons ⟨t,rfl⟩ .nil)
 ·have h1':(decide (a.length < b.length) || decide (strKind a < strKind b))=false:=by simpa using h1
  by_cases h2:(occurrences a b 0 a.length (a.length + 1)).isEmpty=true
  ·have e:Txt.split a b=[a]:=by unfold Txt.split;rw [if_neg h1,if_pos h2]
   refine call_meets F.slot_str_split (typeIs_str s a t) F.entry_str_split (F.args_str_split_2 _ _) (meets_str_split_not_found a b t t' h1' hb h2) ?_
   exact fin [.str a t] s.toks (by rw [e];exact .cons ⟨t,rfl⟩ .nil)
  ·have e:Txt.split a b=partsBetween a (occurrences a b 0 a.length (a.length + 1)) b.length:=by unfold Txt.split;rw [if_neg h1,if_neg h2]
   have hn:(partsBetween a (occurrences a b 0 a.length (a.length + 1)) b.length).length ≤ sizeLine:=by
    rw [← e]
    exact Nat.le_trans (split_le a b) (Nat.le_trans (show a.length + 2≤1000002 by omega) (by decide))
   refine call_meets F.slot_str_split (typeIs_str s a t) F.entry_str_split (F.args_str_split_2 _ _) (meets_str_split_sep a b t t' h1' hb (by simpa using h2) hsz hn) ?_
   exact fin _ _ (by rw [e];exact vals_strsFrom _ _)
def rStarts:V→List V→Hp→VK→Prop:=fun x vs H Q=>∃ a b:Str,x = .str a∧vs=[.str b]∧Q (.bl (decide (0 + b.length ≤ a.length) && subAt a b 0)) H
theorem mt_startswith:MtM X "str.startswith" rStarts:=by
 intro pins s σ H x vs v us Q I rx rv h
 obtain ⟨a,b,rfl,rfl,q⟩:=h
 obtain ⟨t,rfl⟩:=rx
 obtain ⟨u,rfl,⟨t',rfl⟩⟩:=rv.one
 exact call_gives F.slot_str_startswith (typeIs_str s a t) F.entry_str_startswith (F.args_str_startswith_2 _ _) (gives_str_startswith a b t t') ⟨.bl _,H,I,rfl,q⟩
def rJoin (K:PySem.W.Frag):V→List V→Hp→VK→Prop:=fun x vs H Q=>∃ (a:Str) (p:Addr) (ys:List Str),x = .str a∧vs=[.ref p]∧SqL K H p (ys.map V.str)∧(ys.map (·.length)).sum + ys.length * a.length ≤ 1000000∧Q (.str (Txt.join a ys)) H
theorem strs_of:∀ {ys:List Str} {us:List Value},Vals (ys.map V.str) us→StrsAre us ys
 | [],_,.nil=>.nil
 | y :: ys,_,.cons r t=>by
  obtain ⟨k,rfl⟩:=r
  exact .cons _ _ (strs_of t)
theorem mt_join:MtM X "str.join" (rJoin X.K):=by
 intro pins s σ H x vs v us Q I rx rv h
 obtain ⟨a,p,ys,rfl,rfl,hS,hz,q⟩:=h
 obtain ⟨t,rfl⟩:=rx
 obtain ⟨u,rfl,e⟩:=rv.one
 cases (show u=Value.ref p from e)
 obtain ⟨its,hv,⟨o,n,h1,h2,h3,h4⟩,_⟩:=I.list hS
 exact join_list ⟨o,h1,h2,n,h4⟩ (strs_of hv) (Nat.le_trans hz (by decide)) fun t' k=>⟨.str _,H,I.tok _,⟨_,rfl⟩,q⟩
end
end L2
namespace L2
open PySem PySem.Spec PyProof.Rows
end L2
namespace HT
open PySem PyProof.Rows
end HT
namespace L2
open PySem PySem.Spec PyProof.Rows
end L2
namespace L2
open PySem PySem.Spec PyProof.Rows
end L2
namespace L2
open PySem
def dg (n:Nat):List Nat:=if h:n < 10 then [48 + n] else dg (n / 10) ++ [48 + n % 10]
termination_by n
decreasing_by omega
theorem dg_low {n:Nat}(h:n < 10):dg n=[48 + n]:=by rw [dg,dif_pos h]
theorem dg_high {n:Nat}(h:¬ n < 10):dg n=dg (n / 10) ++ [48 + n % 10]:=by rw [dg,dif_neg h]
theorem dg_ind {p:Nat→Prop}(h1:∀ n,n < 10→p n)(h2:∀ n,¬ n < 10→p (n / 10)→p n)(n:Nat):p n:=by
 induction n using Nat.strongRecOn with
 | ind n ih =>
  by_cases h:n < 10
  ·exact h1 n h
  ·exact h2 n h (ih (n / 10) (by omega))
theorem dg_all (n:Nat):∀ c∈dg n,48≤c∧c≤57:=by
 induction n using dg_ind with
 | h1 n h =>
  rw [dg_low h]
  intro c hc
  have:c=48 + n:=by simpa using hc
  omega
 | h2 n h ih =>
  rw [dg_high h]
  intro c hc
  rcases List.mem_append.mp hc with z | z
  ·exact ih c z
  ·have:c=48 + n % 10:=by simpa using z
   omega
theorem dg_ne (n:Nat):dg n≠[]:=by
 by_cases h:n < 10
 ·rw [dg_low h];simp
 ·rw [dg_high h];simp
theorem dg_val (n:Nat):(dg n).foldl (fun acc c=>acc * 10 + (c - 48)) 0=n:=by
 induction n using dg_ind with
 | h1 n h=>rw [dg_low h];simp
 | h2 n h ih =>
  rw [dg_high h,List.foldl_append,ih]
  simp
  omega
theorem dg_head (n:Nat):(dg n).head? = some 48→n=0:=by
 induction n using dg_ind with
 | h1 n h =>
  rw [dg_low h]
  intro z
  have:48 + n=48:=by simpa using z
  omega
 | h2 n h ih =>
  rw [dg_high h]
  intro z
  have e:(dg (n / 10)).head? = some 48:=by
   cases q:dg (n / 10) with
   | nil=>exact absurd q (dg_ne _)
   | cons a r=>rw [q] at z;simpa using z
  have:=ih e
  omega
theorem dg_len:∀ (k n:Nat),n < 10 ^ (k + 1)→(dg n).length ≤ k + 1
 | 0,n,h=>by rw [dg_low (by simpa using h)];simp
 | k + 1,n,h=>by
  by_cases z:n < 10
  ·rw [dg_low z];simp
  ·rw [dg_high z,List.length_append]
   have:=dg_len k (n / 10) (by rw [Nat.pow_succ] at h;omega)
   simp
   omega
def wordL:Option Int→List Nat
 | none=>[46]
 | some i=>(if i < 0 then [45] else []) ++ dg i.natAbs
def wordOf (c:Option Int):Str:=⟨(wordL c).toArray⟩
theorem wordL_free (c:Option Int):32 ∉ wordL c∧10 ∉ wordL c:=by
 cases c with
 | none=>simp [wordL]
 | some i =>
  have a:=dg_all i.natAbs
  unfold wordL
  constructor
  ·intro h
   rcases List.mem_append.mp h with z | z
   ·split at z <;> simp at z
   ·have:=a _ z;omega
  ·intro h
   rcases List.mem_append.mp h with z | z
   ·split at z <;> simp at z
   ·have:=a _ z;omega
theorem wordL_len (c:Option Int)(h:∀ i,c=some i→-10000000000 < i∧i < 10000000000):(wordL c).length ≤ 11:=by
 cases c with
 | none=>simp [wordL]
 | some i =>
  have:=h i rfl
  have:=dg_len 9 i.natAbs (by show i.natAbs < 10000000000;omega)
  unfold wordL
  rw [List.length_append]
  split <;> simp <;> omega
def joinL (c:Nat):List (List Nat)→List Nat
 | []=>[]
 | [x]=>x
 | x :: y :: r=>x ++ c :: joinL c (y :: r)
theorem take_free {c:Nat}:∀ {x y r s:List Nat},c ∉ x→c ∉ y→x ++ c :: r=y ++ c :: s→x=y∧r=s
 | [],[],r,s,_,_,h=>by simpa using h
 | [],b :: y,r,s,_,hy,h=>by
  have:c=b:=by simpa using (List.cons.inj h).1
  exact absurd (by simp [this]) hy
 | a :: x,[],r,s,hx,_,h=>by
  have:a=c:=by simpa using (List.cons.inj h).1
  exact absurd (by simp [this]) hx
 | a :: x,b :: y,r,s,hx,hy,h=>by
  have e:=List.cons.inj h
  have:=take_free (x:=x) (y:=y) (fun z=>hx (List.mem_cons_of_mem _ z)) (fun z=>hy (List.mem_cons_of_mem _ z)) e.2
  exact ⟨by rw [e.1,this.1],this.2⟩
theorem mem_joinL {c:Nat}{x y:List Nat}(r:List (List Nat)):c∈joinL c (x :: y :: r):=by
 show c∈x ++ c :: joinL c (y :: r)
 simp
theorem joinL_inj {c:Nat}:∀ {p q:List (List Nat)},p≠[]→q≠[]→(∀ x∈p,c ∉ x)→(∀ x∈q,c ∉ x)→joinL c p=joinL c q→p=q
 | [],_,h,_,_,_,_=>absurd rfl h
 | _,[],_,h,_,_,_=>absurd rfl h
 | [x],[y],_,_,_,_,h=>by rw [show x=y from h]
 | [x],y :: z :: r,_,_,hx,_,h=>absurd (show c∈x from by rw [show x=_ from h];exact mem_joinL r) (hx x (by simp))
 | x :: z :: r,[y],_,_,_,hy,h=>absurd (show c∈y from by rw [← show _=y from h];exact mem_joinL r) (hy y (by simp))
 | x :: x2 :: r,y :: y2 :: s,_,_,hx,hy,h=>by
  have e:=take_free (hx x (by simp)) (hy y (by simp)) h
  have:=joinL_inj (p:=x2 :: r) (q:=y2 :: s) (by simp) (by simp) (fun z hz=>hx z (List.mem_cons_of_mem _ hz)) (fun z hz=>hy z (List.mem_cons_of_mem _ hz)) e.2
  rw [e.1,this]
theorem join_cps (c:Nat):∀ p:List Str,(Str.join ⟨#[c]⟩ p).cps.toList=joinL c (p.map (·.cps.toList))
 | []=>rfl
 | [x]=>rfl
 | x :: y :: r=>by
  show ((x ++ ⟨#[c]⟩ ++ Str.join ⟨#[c]⟩ (y :: r):Str)).cps.toList=x.cps.toList ++ c :: joinL c ((y :: r).map (·.cps.toList))
  rw [← join_cps c (y :: r)]
  show (x.cps ++ #[c] ++ (Str.join ⟨#[c]⟩ (y :: r)).cps).toList=_
  simp
theorem split_join (c:Nat){p:List Str}(h:p≠[])(hp:∀ x∈p,c ∉ x.cps.toList):Txt.split (Str.join ⟨#[c]⟩ p) ⟨#[c]⟩=p:=by
 have e:=StrLaws.join_split (Str.join ⟨#[c]⟩ p) ⟨#[c]⟩
 have f:=StrLaws.split_free (Str.join ⟨#[c]⟩ p) c
 have n:Txt.split (Str.join ⟨#[c]⟩ p) ⟨#[c]⟩≠[]:=by
  unfold Txt.split
  split
  ·simp
  ·split
   ·simp
   ·unfold PySem.Builtin.Str.partsBetween
    simp
 generalize Txt.split (Str.join ⟨#[c]⟩ p) ⟨#[c]⟩=q at e f n
 have e2:=congrArg (fun x:Str=>x.cps.toList) e
 simp only [join_cps] at e2
 have:=joinL_inj (c:=c) (by simpa using n) (by simpa using h) (by simpa using f) (by simpa using hp) e2
 refine (List.map_inj_right (fun a b h=>?_)).mp this
 cases a
 cases b
 exact congrArg Str.mk (Array.toList_inj.mp h)
theorem toDigits_dg (m:Nat):(Nat.toDigits 10 m).map Char.toNat=dg m:=by
 have back:∀ d:Nat,d < 10→(Nat.digitChar d).toNat=48 + d:=by decide
 induction m using dg_ind with
 | h1 m h =>
  rw [Nat.toDigits_of_lt_base h,dg_low h]
  show [(Nat.digitChar m).toNat]=_
  rw [back m h]
 | h2 m h ih =>
  have hm:m % 10 < 10:=Nat.mod_lt m (by decide)
  have t:Nat.toDigits 10 (m / 10) ++ Nat.toDigits 10 (m % 10)=Nat.toDigits 10 (10 * (m / 10) + m % 10):=Nat.toDigits_append_toDigits (by decide) (by omega) hm
  rw [Nat.div_add_mod] at t
  rw [← t,List.map_append,Nat.toDigits_of_lt_base hm,ih,dg_high h]
  show _ ++ [(Nat.digitChar (m % 10)).toNat]=_
  rw [back _ hm]
theorem str_word (i:Int):Str.ofString (toString i)=wordOf (some i):=by
 rw [Str.ofString_eq_toList]
 unfold wordOf wordL
 congr 1
 cases i with
 | ofNat m =>
  show ((Nat.repr m).toList.map Char.toNat).toArray=_
  rw [Nat.toList_repr,toDigits_dg]
  dsimp only
  rw [if_neg (by show ¬ ((m:Int) < 0);omega)]
  rfl
 | negSucc m =>
  show (("-" ++ Nat.repr (m + 1)).toList.map Char.toNat).toArray=_
  rw [String.toList_append,List.map_append,Nat.toList_repr,toDigits_dg]
  dsimp only
  rw [if_pos (Int.negSucc_lt_zero m)]
  rfl
end L2
namespace L2
open PySem PySem.Spec PyProof.Rows
section
variable {X:Cx}{pins:List (Addr × Obj)}{σ:St}{H:Hp}{s:Shared}{h':Heap}
theorem Inv.turnedL {t':Nat}{fp:List Addr}(I:Inv X pins σ H s)(k:∀ b o,b ∉ fp→s.heap.get? b=some o→h'.get? b=some o)(hf:∀ b∈fp,FpOk X pins H b):Inv X pins σ H { s with heap:=h',toks:=t' }:=by
 have nit:∀ b u,H b=some u→b ∉ fp:=fun b u e z=>by rw [(hf b z).1] at e;cases e
 refine I.step (g':=s.gens) (d':=s.drawn) (ch:=fp) (fun b hb=>?_) (fun b o _ _ hc e _=>k b o hc e) (fun b o _ _ hc e _=>⟨o.slots,k b o hc e⟩) (fun _ _ _ _ n=>n)
  (fun b o hc e=>⟨o,k b o hc e⟩) (fun _ _ e=>e) (fun _ _ _ e=>e) (fun b ps e=>⟨#[],by rw [e];simp⟩) (fun m hm=>?_) (fun b u e=>?_) I.bare
 ·obtain ⟨f0,f1,f2,f3,f4,f5⟩:=hf b hb
  exact ⟨f3,f1,f4,f5⟩
 ·obtain ⟨o,es,ep,ho,r⟩:=hm
  exact ⟨o,es,ep,k _ o (fun z=>(hf _ z).2.1 rfl) ho,r⟩
 ·refine (I.hok b u e).stay (fun c v hc q=>k c v ?_ q) (fun _ q=>q) fun _ _ q=>q
  rcases hc with z | z
  ·rw [z];exact nit b u e
  ·exact nit c _ z
end
def Ite (K:PySem.W.Frag)(a:Addr):It :=
 ⟨fun i H=>∃ xs x,SqL K H a xs∧xs[i]? = some x,fun i H v H'=>∃ t y,H t=none∧v = .ref t∧H'=upd H t (.tup [.int i,y])∧∀ xs,SqL K H a xs→xs[i]? = some y,fun i H=>∃ xs,SqL K H a xs∧xs.length ≤ i⟩
theorem turn_enum {P:Program}{w:World}{K:PySem.W.Frag}{elts:List Expr}{k:Nat}{pos:Pos}(a e it:Addr)(hei:e≠it) :
  Turn P w K (.Tuple elts k pos) (Ite K a) [e,it] e (fun i h=>(∃ old,IsEnum h e it i old)∧h.IsListIter it a i) where
 mem:=by simp
 obj:=fun i h st b hb=>by
  obtain ⟨⟨old,he⟩,o,e',c,d⟩:=st
  rcases List.mem_cons.mp hb with rfl | hb
  ·exact ⟨_,he,fun v z=>by cases z⟩
  ·have:b=it:=by simpa using hb
   subst this
   exact ⟨o,e',fun v z=>by rw [d] at z;cases z⟩
 keep:=fun i h h' st kk=>by
  obtain ⟨⟨old,he⟩,hit⟩:=st
  exact ⟨⟨old,kk e (by simp) _ he⟩,hit.at fun o x=>kk it (by simp) o x⟩
 item:=by
  intro X hP hw hK hc i pins s σ H E I hf st hg
  subst hP hw hK
  obtain ⟨xs,x,hq,hx⟩:=hg
  obtain ⟨its,rv,p,hz⟩:=I.list hq
  obtain ⟨u,hu,ru⟩:=rv.get hx
  obtain ⟨⟨old,he⟩,hit⟩:=st
  have helt:e < s.heap.objs.size:=Heap.lt_size he
  have hilt:it < s.heap.objs.size:=by obtain ⟨_,z,_⟩:=hit;exact Heap.lt_size z
  refine wpAny_pyNext_enum_item he hit p.isList (x:=u) (by simpa using hu) hei fun h' ho hit' hT hsz hk=>?_
  refine ⟨_,rfl,wpAny_letOwnedTupleGo_enum ho fun h2 he2 sb=>?_⟩
  have T2:h2.get? s.heap.objs.size=some { cls:=.type "tuple",data:=.seq #[.int i s.toks,u] }:=(sb.2 _ (Nat.ne_of_gt helt)).trans hT
  have new:ObjOk X.prog X.w (upd H s.heap.objs.size (.tup [.int i,x])) (s.heap.push { cls:=.type "tuple",data:=.seq #[.int i s.toks,u] }) s.heap.objs.size (.tup [.int i,x]) :=
   ⟨(by show 2≤sizeLine;decide),[.int i s.toks,u],.cons ⟨_,rfl⟩ (.cons ru .nil),_,Heap.get?_push_size _ rfl,rfl,_,rfl⟩
  have I1:Inv X pins σ (upd H s.heap.objs.size (.tup [.int i,x])) { s with heap:=s.heap.push { cls:=.type "tuple",data:=.seq #[.int i s.toks,u] },toks:=s.toks + 1 } :=
   I.laid (fun b o z=>Heap.get?_push_of_some _ z) (Nat.le_refl _) new
  have hf1:∀ b∈[e,it],FpOk X pins (upd H s.heap.objs.size (.tup [.int i,x])) b:=fun b hb=>by
   obtain ⟨f0,f⟩:=hf b hb
   refine ⟨?_,f⟩
   have:b≠s.heap.objs.size:=by
    rcases List.mem_cons.mp hb with rfl | hb
    ·exact Nat.ne_of_lt helt
    ·have:b=it:=by simpa using hb
     subst this
     exact Nat.ne_of_lt hilt
   rw [upd_ne this]
   exact f0
  have I2:Inv X pins σ (upd H s.heap.objs.size (.tup [.int i,x])) { s with heap:=h2,toks:=s.toks + 1 }:=by
   have I3:=I1.turnedL (t':=s.toks + 1) (h':=h2) (fp:=[e,it]) (fun b o hb z=>?_) hf1
   ·exact I3
   have b1:b≠e:=fun z=>hb (by simp [z])
   have b2:b≠it:=fun z=>hb (by simp [z])
   rcases Heap.get?_push_cases z with ⟨rfl,rfl⟩ | z
   ·exact T2
   ·exact (sb.2 b b1).trans (hk b o b1 b2 z)
  refine ⟨.ref s.heap.objs.size,_,I2,rfl,⟨s.heap.objs.size,x,I.hok.fresh (Nat.le_refl _),rfl,rfl,fun ys hy=>by rw [I.list_inj hy hq];exact hx⟩,⟨⟨_,by simpa using he2⟩,hit'.at fun o z=>(sb.2 it hei.symm).trans z⟩,fun b hb=>(hf1 b hb).1⟩
 done:=by
  intro X hP hw hK hc i pins s σ H E I hf st hg
  subst hP hw hK
  obtain ⟨xs,hq,hx⟩:=hg
  obtain ⟨its,rv,p,hz⟩:=I.list hq
  obtain ⟨⟨old,he⟩,hit⟩:=st
  have hl:=rv.length
  exact wpAny_pyNext_enum_end (I.ok.hd hc) he hit p.isList (by simp;omega) fun h' eb=>⟨rfl,I.turnedL (t':=s.toks) (fp:=[e,it]) (fun b o hb z=>eb b o (fun y=>hb (by simp [y])) z) hf⟩
 self:=fun _ _ _ _ _ st h=>by
  obtain ⟨⟨old,he⟩,_⟩:=st
  exact wpAny_pyIter_enum he h
theorem bt_enumerate:bootBuiltins "enumerate" = some (.type "enumerate"):=by decide +kernel
def iEnum (K:PySem.W.Frag)(ta:TA):TI:=fun σ H R=>ta σ H fun vs H1=>∃ a,vs=[.ref a]∧(∃ xs,SqL K H1 a xs)∧R (Ite K a) H1
section
variable {X:Cx}
theorem pi_enum {K:PySem.W.Frag} {elts:List Expr} {k:Nat} {pt:Pos} {a:Expr} {ta:TA} {p pos:Pos} (hK:X.K=K) (hg:Gl X "enumerate") (hm:X.mg "enumerate" = none) (ha:PA X [a] ta) (hs:starEach [a] X.env=[(false,eval a X.env)]:=by rfl) :
  PI X (.Tuple elts k pt) (.Call (.Name "enumerate" p) [a] [] pos) (iEnum K ta):=by
 subst hK
 intro pins s σ H R I h
 refine Call_ (ld_blt I hg hm bt_enumerate (PyProof.Rows.callWith_type1 (thn (ha pos pins s σ H _ I h) fun us s1 ⟨vs,H1,I1,r1,q1⟩=>?_) hs rfl))
 obtain ⟨l,rfl,⟨xs,hq⟩,q⟩:=q1
 obtain ⟨u,rfl,e⟩:=vals1 r1
 obtain rfl:u=Value.ref l:=e
 obtain ⟨its,rv,pl,hz⟩:=I1.list hq
 refine call_enumerate_list pl.isList fun h' he hit hsz hk=>?_
 refine wpAny_pyIter_enum he ?_
 refine ⟨s1.heap.objs.size + 1,[s1.heap.objs.size + 1,s1.heap.objs.size],_,_,H1,rfl,I1.kept (t':=s1.toks) hk,turn_enum l _ _ (Nat.ne_of_gt (Nat.lt_succ_self _)),⟨⟨_,he⟩,hit⟩,fun b hb=>?_,q⟩
 rcases List.mem_cons.mp hb with rfl | hb
 ·exact I1.fpOk (Nat.le_succ _) (I1.hok.fresh (Nat.le_succ _))
 ·have:b=s1.heap.objs.size:=by simpa using hb
  subst this
  exact I1.fpOk (Nat.le_refl _) (I1.hok.fresh (Nat.le_refl _))
end
theorem for_enum {K:PySem.W.Frag}{a:Addr}{xs:List V}{g:TG}{tb:TS}{D:Ends}{σ:St}{H:Hp}(Pv:Nat→St→Hp→Prop)(h0:Pv 0 σ H)(hl:∀ i σ H,i≤xs.length → Pv i σ H→SqL K H a xs)
  (hs:∀ i x σ H t,xs[i]? = some x→Pv i σ H→H t=none→g (.ref t) σ (upd H t (.tup [.int i,x])) fun σ2 H2=>tb { D with nx:=Pv (i + 1),ct:=Pv (i + 1),bk:=D.nx } σ2 H2) (hd:∀ σ H,Pv xs.length σ H→D.nx σ H) :
  ∃ W:Nat→Nat→St→Hp→Prop,(∃ m,W 0 m σ H)∧∀ i m σ H,W i m σ H →
   ((Ite K a).stop i H∧D.nx σ H) ∨ ((Ite K a).go i H∧∃ N:St→Hp→Prop,(∀ σ' H',N σ' H'→∃ m',m' < m∧W (i + 1) m' σ' H')∧∀ x H',(Ite K a).yld i H x H'→g x σ H' fun σ2 H2=>tb { D with nx:=N,ct:=N,bk:=D.nx } σ2 H2):=by
 refine ⟨fun i m σ H=>m=xs.length - i∧i≤xs.length ∧ Pv i σ H,⟨xs.length,by simp,Nat.zero_le _,h0⟩,?_⟩
 rintro i m σ H ⟨rfl,hi,p⟩
 have q:=hl i σ H hi p
 by_cases hlt:i < xs.length
 ·refine .inr ⟨⟨xs,xs[i],q,by simp [hlt]⟩,Pv (i + 1),fun σ' H' p'=>⟨xs.length - (i + 1),by omega,rfl,hlt,p'⟩,fun x H' y=>?_⟩
  obtain ⟨t,z,ht,rfl,rfl,y⟩:=y
  exact hs i z σ H t (y xs q) p ht
 ·have e:i=xs.length:=by omega
  subst e
  exact .inl ⟨⟨xs,q,Nat.le_refl _⟩,hd σ H p⟩
def Itx (x:Str):It:=⟨fun i _=>i < x.cps.size,fun i H v H'=>H'=H∧∃ c,x.cps[i]? = some c∧v = .str ⟨#[c]⟩,fun i _=>x.cps.size ≤ i⟩
theorem turn_str {P:Program} {w:World} {K:PySem.W.Frag} {tg:Expr} (it:Addr) (x:Str) (t:Tok):Turn P w K tg (Itx x) [it] it (fun i h=>h.IsStrIter it "str_ascii_iterator" x t i) where
 mem:=by simp
 obj:=fun i h st b hb=>by
  have e:b=it:=by simpa using hb
  subst e
  obtain ⟨o,e,c,d⟩:=st
  exact ⟨o,e,fun v z=>by rw [d] at z;cases z⟩
 keep:=fun i h h' st k=>let ⟨o,e,r⟩:=st;⟨o,k it (by simp) o e,r⟩
 item:=by
  intro X hP hw hK hc i pins s σ H E I hf st hg
  subst hP hw hK
  obtain ⟨f0,f1,f2,f3,f4,f5⟩:=hf it (by simp)
  have hi:i < x.cps.size:=hg
  refine wpAny_pyNext_ascii_item st (c:=x.cps[i]) (by simp [hi]) fun h' st' sb=>?_
  have I1:Inv X pins σ H { s with heap:=h',toks:=s.toks + 1 }:=I.turned (t':=s.toks + 1) (fun b o hb e=>(sb.2 b hb).trans e) f0 f1 f3 f4 f5
  obtain ⟨o,e,c,d⟩:=id st'
  exact ⟨_,rfl,go_of (s:={ s with heap:=h',toks:=s.toks + 1 }) e c d (by decide) ⟨.str ⟨#[x.cps[i]]⟩,H,I1,⟨_,rfl⟩,⟨rfl,_,by simp [hi],rfl⟩,st',fun b hb=>(hf b hb).1⟩⟩
 done:=by
  intro X hP hw hK hc i pins s σ H E I hf st hg
  subst hP hw hK
  obtain ⟨f0,f1,f2,f3,f4,f5⟩:=hf it (by simp)
  have hi:x.cps.size ≤ i:=hg
  exact wpAny_pyNext_ascii_end (I.ok.hd hc) st (by simp [hi]) fun h' eb=>⟨rfl,I.turned (t':=s.toks) (fun b o hb e=>eb b o hb e) f0 f1 f3 f4 f5⟩
 self:=fun _ _ _ _ _ st h=>wpAny_pyIter_striter_ascii st h
def iStr (tl:TE):TI:=fun σ H R=>tl σ H fun v H1=>∃ x,v = .str x∧x.cps.all (· < 128)=true∧R (Itx x) H1
section
variable {X:Cx}{tg:Expr}
theorem pi_str {l:Expr}{tl:TE}(hl:PE X l tl):PI X tg l (iStr tl):=by
 intro pins s σ H R I h
 refine thn (hl pins s σ H _ I h) fun v s1 ⟨x,H1,I1,r1,q1⟩=>?_
 obtain ⟨y,rfl,ha,q⟩:=q1
 obtain ⟨t,rfl⟩:=r1
 refine wpAny_pyIter_ascii ha ?_
 refine ⟨s1.heap.objs.size,[s1.heap.objs.size],_,_,H1,rfl,I1.kept (t':=s1.toks) fun b o e=>Heap.get?_push_of_some _ e,turn_str _ y t,⟨_,Heap.get?_push_size _ rfl,rfl,rfl⟩,fun b hb=>?_,q⟩
 have e:b=s1.heap.objs.size:=by simpa using hb
 subst e
 exact I1.fpOk (Nat.le_refl _) (I1.hok.fresh (Nat.le_refl _))
end
theorem compW_str {x:Str}{H:Hp}{one:V→Hp→(Option V→Hp→Prop)→Prop}{Q:List V→Hp→Prop}(Pv:Nat→List V→Hp→Prop)(h0:Pv 0 [] H)(hn:x.cps.size ≤ sizeLine)
  (hs:∀ i c ys H,x.cps[i]? = some c→Pv i ys H→one (.str ⟨#[c]⟩) H fun o H2=>Pv (i + 1) (ys ++ o.toList) H2) (hd:∀ ys H,Pv x.cps.size ys H→Q ys H):CompW (Itx x) H one Q:=by
 refine ⟨x.cps.size,fun i ys H=>i≤x.cps.size ∧ Pv i ys H,⟨Nat.zero_le _,h0⟩,hn,?_⟩
 rintro i ys H ⟨hi,p⟩
 by_cases hlt:i < x.cps.size
 ·refine .inr ⟨hlt,hlt,fun o H3=>Pv (i + 1) (ys ++ o.toList) H3,fun o H3 z=>⟨hlt,z⟩,fun v H2 y=>?_⟩
  obtain ⟨e,c,hc,rfl⟩:=y
  subst e
  exact hs i c ys _ hc p
 ·have e:i=x.cps.size:=by omega
  subst e
  exact .inl ⟨Nat.le_refl _,hd ys H p⟩
section
variable {X:Cx}{K:PySem.W.Frag}
theorem call_int_text:CallR X (.type "int") (fun xs H Q=>∃ (x:Str) (n:Int),xs=[.str x]∧PySem.intText? x=some n∧x.length ≤ 640∧Q (.int n) H):=by
 intro pins s σ H xs us Q I r h
 obtain ⟨x,n,rfl,hn,hl,q⟩:=h
 obtain ⟨u,rfl,⟨t,rfl⟩⟩:=vals1 r
 exact PySem.W.KIN.call_text hn hl ⟨.int n,H,I.tok _,⟨_,rfl⟩,q⟩
theorem slice1 (n:Nat)(h:1≤n):Builtin.Str.strSliceIndices (some 1) none 1 n=(List.range (n - 1)).map (fun k=>1 + k):=by
 rw [← PySem.StrLaws.strSliceIndices_plain (a:=1) (b:=n) h (Nat.le_refl _)]
 have h2:¬ ((n:Int) < 0):=by omega
 have e1:max (0:Int) (min (n:Int) (n:Int))=n:=by omega
 simp only [Builtin.Str.strSliceIndices,sliceRange,h2,if_false,e1,show ((1:Int) > 0)=True from by simp,if_true]
 rfl
def rSl1:V→Option Int→Option Int→Hp→VK→Prop:=fun x lo hi H Q=>∃ z:Str,x = .str z∧lo=some 1∧hi=none∧1≤z.length ∧ z.length ≤ sizeLine∧Q (.str ⟨(z.cps.toList.drop 1).toArray⟩) H
theorem sl_str1:SlR X rSl1:=by
 intro pins s σ H x v vl vu lo hi sl Q I rx hs pl pu h
 obtain ⟨z,rfl,rfl,rfl,h1,h2,q⟩:=h
 obtain ⟨t,rfl⟩:=rx
 obtain ⟨tl,rfl⟩:∃ tl,vl = .int 1 tl:=by cases pl;exact ⟨_,rfl⟩
 obtain rfl:vu = .none:=by cases pu;rfl
 refine ⟨"str",_,PySem.F.slot_str_getitem.lookup,typeIs_str s z t,?_⟩
 obtain ⟨o,ho,hc,hd⟩:=hs
 refine wpAny_getItem_str_slice (l:=some (1,tl)) (u:=none) (st:=none) ⟨o,ho,hc,hd⟩ rfl ?_
 have e:slicePicked z (some (1,tl)) none none=(List.range (z.length - 1)).map (fun k=>1 + k):=slice1 _ h1
 have e3:((List.range (z.length - 1)).map (fun k=>1 + k)).filterMap (z.cps[·]?)=z.cps.toList.drop 1:=by
  have:=PySem.StrLaws.picks z.cps.toList (z.length - 1) 1 (by simp [Str.length] at h1 ⊢;omega)
  rw [List.take_of_length_le (by simp [Str.length])] at this
  simpa using this
 unfold sliceMade
 rw [e,if_neg (by rw [List.length_map,List.length_range,Bool.and_eq_true];intro z2;have:=z2.2;simp at this;omega),e3]
 refine ⟨?_,⟨.str _,H,I.tok _,⟨_,rfl⟩,q⟩⟩
 show (List.drop 1 z.cps.toList).toArray.size ≤ sizeLine
 rw [List.size_toArray,List.length_drop]
 have:z.cps.toList.length=z.length:=by simp [Str.length]
 omega
theorem mt_joinK (h:X.K=K):MtM X "str.join" (rJoin K):=by subst h;exact mt_join
theorem int_word {i:Int}(h:-10000000000 < i∧i < 10000000000):PySem.intText? (wordOf (some i))=some i:=by
 have l:=wordL_len (some i) (fun j e=>by cases e;exact h)
 have hl:(wordOf (some i)).length ≤ 4300:=by
  show (wordL (some i)).toArray.size ≤ 4300
  rw [List.size_toArray];omega
 by_cases hi:i < 0
 ·have e:(wordOf (some i)).cps.toList=45 :: dg i.natAbs:=by
   show (wordL (some i)).toArray.toList=_
   unfold wordL
   dsimp only
   rw [if_pos hi]
   simp
  rw [PySem.intText_neg e (dg_all _) (dg_ne _) hl]
  have:PySem.NumText.digitsVal (dg i.natAbs)=i.natAbs:=dg_val _
  rw [this]
  congr 1
  omega
 ·have e:(wordOf (some i)).cps.toList=dg i.natAbs:=by
   show (wordL (some i)).toArray.toList=_
   unfold wordL
   dsimp only
   rw [if_neg hi]
   simp
  rw [PySem.intText_digits (by rw [e];exact dg_all _) (by rw [e];exact dg_ne _) hl,e]
  have:PySem.NumText.digitsVal (dg i.natAbs)=i.natAbs:=dg_val _
  rw [this]
  congr 1
  omega
theorem pe_bmK {o e:Expr} {es:List Expr} {to:TE} {t:TA} {name:Str} {apos cpos:Pos} {T id:String} {r:V→List V→Hp→VK→Prop} (hK:X.K=K) (pa:PlainAttrs T) (slot:Slot T name id) (hty:typeOf (.builtin id)=pure (.type "method_descriptor")) (hm:MtR X id r) (ho:PE X o to) (ha:PA X (e :: es) t)
  (hbase:attributeBase o name X.env (eval o X.env)=eval o X.env:=by rfl)
  (hfew:((backTo cpos (starEach (e :: es) X.env)).all (fun x=>!x.1) && (backToKw cpos (keywordEach [] X.env)).all (fun x=>x.1.isSome)
   && decide ((e :: es).length + ([]:List Keyword).length + (if ([]:List Keyword).isEmpty then 0 else 1) < 30))=true:=by rfl)
  (hline:(apos.endLine == cpos.line)=true:=by rfl) (hs:starEach (e :: es) X.env=(false,eval e X.env) :: starEach es X.env:=by rfl) (hplain:(backTo cpos (starEach es X.env)).any (·.1)=false:=by rfl) :
  PE X (.Call (.Attribute o name apos) (e :: es) [] cpos) (tBM K T r to t):=by
 subst hK
 exact pe_bm pa slot hty hm ho ha hbase hfew hline hs hplain
theorem pe_globE {x:Str} {v:V} {pos:Pos} (hg:Gl X x) (h:∃ u,X.mg x=some u∧RelV v u) (hd:(x == ("__debug__" : Str))=false:=by decide):PE X (.Name x pos) (tC v):=by
 obtain ⟨u,hm,r⟩:=h
 exact pe_glob hg hm r hd
theorem word_none:wordOf none=("." : Str):=by decide +kernel
theorem word_dot (i:Int):¬ wordOf (some i)=("." : Str):=by
 intro h
 have e:=congrArg (fun x:Str=>x.cps.toList) h
 have e2:(wordOf (some i)).cps.toList=wordL (some i):=by show (wordL (some i)).toArray.toList=_;simp
 have e3:(("." : Str)).cps.toList=[46]:=by decide +kernel
 simp only [e2,e3] at e
 unfold wordL at e
 dsimp only at e
 have a:=dg_all i.natAbs
 have n:=dg_ne i.natAbs
 cases hd:dg i.natAbs with
 | nil=>exact n hd
 | cons c r =>
  rw [hd] at e a
  have:=a c (by simp)
  by_cases hi:i < 0
  ·rw [if_pos hi] at e;simp at e
  ·rw [if_neg hi] at e
   have:c=46:=by simpa using (List.cons.inj e).1
   omega
def tFv (ta:TE):TE:=fun σ H Q=>ta σ H fun x H1=>∃ i:Int,x = .int i∧i.natAbs.log2 < 1920∧Q (.str (Str.ofString (toString i))) H1
theorem pe_fv {a:Expr}{ta:TE}{pos:Pos}(ha:PE X a ta):PE X (.FormattedValue a (-1) none pos) (tFv ta):=by
 intro pins s σ H Q I h
 refine wpAny_FormattedValue_plain (thn (ha pins s σ H _ I h) fun v s1 ⟨x,H1,I1,r1,q1⟩=>?_)
 obtain ⟨i,rfl,hi,q⟩:=q1
 obtain ⟨t,rfl⟩:=r1
 exact wpAny_formatField_int hi ⟨.str _,H1,I1.tok _,⟨_,rfl⟩,q⟩
abbrev TJ:=Str→St→Hp→VK→Prop
def PJ (X:Cx)(es:List Expr)(t:TJ):Prop:=∀ (acc:Str) (pins:List (Addr × Obj)) (s:Shared) (σ:St) (H:Hp) (Q:VK),Inv X pins σ H s→t acc σ H Q →
 Joins (model X.prog X.w) X.A X.xe (evalEach es X.env) acc (fun out s1=>out.length ≤ sizeLine∧EP X pins σ Q (.str out s1.toks) { s1 with toks:=s1.toks + 1 }) s
theorem pj_nil:PJ X [] (fun acc _ H Q=>acc.length ≤ sizeLine∧Q (.str acc) H):=by
 intro acc pins s σ H Q I h
 exact ⟨h.1,.str acc,H,I.tok _,⟨_,rfl⟩,h.2⟩
theorem pj_cons {e:Expr}{es:List Expr}{te:TE}{t:TJ}(he:PE X e te)(hr:PJ X es t):PJ X (e :: es) (fun acc σ H Q=>te σ H fun x H1=>∃ y:Str,x = .str y∧(acc ++ y).length ≤ sizeLine∧t (acc ++ y) σ H1 Q):=by
 intro acc pins s σ H Q I h
 show wpAny _ _ (eval e X.env) _ _ s
 refine thn (he pins s σ H _ I h) fun v s1 ⟨x,H1,I1,r1,q1⟩=>?_
 obtain ⟨y,rfl,hz,q⟩:=q1
 obtain ⟨t',rfl⟩:=r1
 exact ⟨y,t',rfl,hz,hr _ pins s1 σ H1 Q I1 q⟩
theorem pe_fstr {e1 e2:Expr}{es:List Expr}{t:TJ}{pos:Pos}(h:PJ X (e1 :: e2 :: es) t):PE X (.JoinedStr (e1 :: e2 :: es) pos) (fun σ H Q=>t Str.empty σ H Q):=by
 intro pins s σ H Q I hq
 exact wpAny_JoinedStr (h Str.empty pins s σ H Q I hq)
end
end L2
namespace L2
def ups (lo:Int)(n:Nat):List Int:=(List.range n).map fun i=>lo + (i:Nat)
def notIn (xs ys:List Int):List Int:=xs.filter fun x=>!decide (x∈ys)
abbrev Area:=List Int × List Int
def beyond (a o:Area):Area:=if a.1=o.1 then (a.1,notIn a.2 o.2) else (notIn a.1 o.1,a.2)
def many (lo hi:Int):Int:=max 0 (hi - lo + 1)
def placeAt (w k:Nat):Int × Int:=(((k / w:Nat):Int),((if (k / w) % 2=1 then w - 1 - k % w else k % w:Nat):Int))
def areaAt (u d l r w k:Nat):Area:=(ups ((placeAt w k).1 - u) (u + d + 1),ups ((placeAt w k).2 - l) (l + r + 1))
def oldAt (u d l r w:Nat):Nat→Area
 | 0=>([],[])
 | k + 1=>areaAt u d l r w k
end L2
namespace L2
open PySem PySem.Spec PyProof.Rows
def Seed (H:Hp)(d:Addr):Prop:=∃ a b n c:Int,H d=some (.lst [.int a,.int b,.int n,.int c])
theorem Seed.keep {H H':Hp}{d:Addr}(D:Seed H d)(h:Same H H'):Seed H' d:=let ⟨a,b,n,c,e⟩:=D;⟨a,b,n,c,h _ _ e⟩
theorem Seed.upd {H:Hp}{d p:Addr}{o:HO}(D:Seed H d)(hp:H p=none):Seed (upd H p o) d:=D.keep (same_upd hp)
theorem Seed.lst {H:Hp}{d:Addr}(D:Seed H d):∃ xs,H d=some (.lst xs):=let ⟨_,_,_,_,e⟩:=D;⟨_,e⟩
theorem Seed.ne {H:Hp}{d p:Addr}(D:Seed H d)(hp:H p=none):p≠d:=by
 obtain ⟨xs,e⟩:=D.lst
 exact (ne_of_none e hp).symm
section
variable {X:Cx}{K:PySem.W.Frag}
theorem op_in_seqK (h:X.K=K):OpR X (compareOp .In) (rIn K false):=by subst h;exact op_in_seq
end
def IsArea (x:Addr)(H:Hp)(v:V)(A:Area):Prop:=∃ t a b,v = .ref t∧H t=some (.tup [.ref a,.ref b])∧H a=some (.lst (A.1.map V.int))∧H b=some (.lst (A.2.map V.int))∧a≠x∧b≠x
def placeD (p:Int × Int):PyData:=.tuple [.int p.1,.int p.2]
theorem isPlace_inv {H:Hp}{v:V}{p:Int × Int}(h:IsD H v (placeD p)):∃ a,v = .ref a∧H a=some (.tup [.int p.1,.int p.2]):=by
 obtain ⟨a,xs,e,h1,h2⟩:=h.tuple_inv
 cases h2 with
 | cons a1 h2=>cases a1;cases h2 with
  | cons a2 h2=>cases a2;cases h2;exact ⟨a,e,h1⟩
theorem isPlace {H:Hp}{a:Addr}{i j:Int}(h:H a=some (.tup [.int i,.int j])):IsD H (.ref a) (placeD (i,j)):=.tup h (.cons (.int _) (.cons (.int _) .nil))
def IsStep (x:Addr)(u d l r w:Nat)(H:Hp)(v:V)(k:Nat):Prop:=∃ t pv a b,v = .ref t∧H t=some (.tup [pv,a,b])∧IsD H pv (placeD (placeAt w k))∧IsArea x H a (beyond (areaAt u d l r w k) (oldAt u d l r w k))∧IsArea x H b (beyond (oldAt u d l r w k) (areaAt u d l r w k))
def IsSteps (x:Addr)(u d l r w:Nat)(H:Hp)(vs:List V)(n:Nat):Prop:=vs.length=n∧∀ k,k < n→∃ v,vs[k]? = some v∧IsStep x u d l r w H v k
theorem IsSteps.nil {x:Addr}{u d l r w:Nat}{H:Hp}:IsSteps x u d l r w H [] 0:=⟨rfl,fun k hk=>by omega⟩
end L2
set_option maxHeartbeats 2000000
namespace MwSet
open PySem
def Rs (xs:Array Nat):Prop:=xs.toList.Pairwise (· < ·)
structure TabOk (byText:Bool)(t:SetTable):Prop where
 led:t.led = !byText
 rs:t.plain=true→Rs t.place
end MwSet
set_option maxHeartbeats 2000000
namespace MwSet
open PySem PyProof.Rows
def byT (w:World):Bool:=w.params.followText "set-order"
abbrev setObj (es:Array (Int × Value)) (ep:Nat) (t:SetTable):Obj:={ cls:=.type "set",dict:=none,data:=.set es ep t,slots:=#[] }
def nums (es:Array (Int × Value)):List Int:=es.toList.map fun e=>numOf e.2
def IntEl (es:Array (Int × Value)):Prop:=∀ e∈es.toList,∃ k u,e=(hashInt k,Value.int k u)
def SetG (w:World)(h:Heap)(a:Addr)(ks:List Int):Prop :=
 ∃ es ep t,h.get? a=some (setObj es ep t)∧IntEl es∧(nums es).Perm ks∧ks.Nodup ∧ es.size < scanBound∧t.fits es.size=true∧TabOk (byT w) t
theorem SetG.at {w:World}{h h':Heap}{a:Addr}{ks:List Int}(S:SetG w h a ks)(k:∀ o,h.get? a=some o→h'.get? a=some o):SetG w h' a ks:=let ⟨es,ep,t,e,r⟩:=S;⟨es,ep,t,k _ e,r⟩
end MwSet
set_option maxHeartbeats 3200000
namespace MwSet
open PySem PySem.Spec PyProof.Rows
end MwSet
set_option maxHeartbeats 3200000
namespace MwSet
open PySem PySem.Spec PyProof.Rows
end MwSet
set_option maxHeartbeats 2000000
namespace MwSortR
open PySem PyProof.Rows
class Ranks where
 ρ:Value→Int
 κ:SortKind
 V:Value→Prop
class CmpOk [Ranks] (prog:Program) (w:World) (A:Around) (s:Shared):Prop where
 lt:∀ (x y:Value) (Q:Bool→Shared→Prop) (E:Value→Shared→Prop),Ranks.V x→Ranks.V y→Q (decide (Ranks.ρ x < Ranks.ρ y)) s→wpAny (model prog w) A (keyLt' Ranks.κ x y) Q E s
variable [Ranks]
def K (xs:Array Keyed)(i:Nat):Int:=match xs[i]? with
 | some p=>Ranks.ρ p.1
 | none=>0
def SortedTo (xs:Array Keyed)(k:Nat):Prop:=∀ i j,i≤j→j < k→K xs i≤K xs j
def KeysIn (xs:Array Keyed):Prop:=∀ p,p∈xs.toList → Ranks.V p.1
def IsK (v:Value)(a:Int):Prop:=Ranks.V v∧Ranks.ρ v=a
theorem K_congr {xs ys:Array Keyed}{i j:Nat}(h:xs[i]? = ys[j]?):K xs i=K ys j:=congrArg (fun z:Option Keyed=>match z with | some p=>Ranks.ρ p.1 | none=>0) h
theorem K_ite {xs ys:Array Keyed}{k m n:Nat}{c:Prop}[Decidable c](e:xs[k]? = if c then ys[m]? else ys[n]?):K xs k=if c then K ys m else K ys n:=by
 by_cases z:c
 ·rw [if_pos z] at e ⊢
  exact K_congr e
 ·rw [if_neg z] at e ⊢
  exact K_congr e
theorem K_bubble {xs:Array Keyed}{src d:Nat}(hs:src < xs.size)(hd:d≤src)(k:Nat):K (bubble xs src d) k=if k=src - d then K xs src else if src - d < k∧k≤src then K xs (k - 1) else K xs k:=by
 have e:=getElem?_bubble hs d hd k
 by_cases z:k=src - d
 ·rw [if_pos z] at e ⊢
  exact K_congr e
 ·rw [if_neg z] at e ⊢
  exact K_ite e
theorem K_mirror {xs:Array Keyed}{i j:Nat}(hj:j≤xs.size)(k:Nat):K (mirror xs i j ((j - i) / 2)) k=if i≤k∧k < j then K xs (i + j - 1 - k) else K xs k:=K_ite (getElem?_mirror_all (i:=i) hj k)
theorem K_mirror_equal {xs:Array Keyed}{i j:Nat}(hj:j≤xs.size)(heq:∀ k,i≤k→k < j→K xs k=K xs (j - 1))(k:Nat):K (mirror xs i j ((j - i) / 2)) k=K xs k:=by
 rw [K_mirror hj]
 by_cases z:i≤k∧k < j
 ·rw [if_pos z,heq k z.1 z.2]
  exact heq _ (by omega) (by omega)
 ·rw [if_neg z]
def gallop':Bool→Keyed→Array Keyed→Nat→Nat→Nat→StateT SortSt Sem (Option Nat):=sortPriv% PySem.Builtin.gallop
theorem gallop'_eq (lf:Bool)(ky:Keyed)(ar:Array Keyed)(bs n hint:Nat):gallop' lf ky ar bs n hint=(do
 let ask (i:Nat):StateT SortSt Sem (Option Bool):=do
  let y ← elem' ar (bs + i)
  if lf then lt' y ky else return (← lt' ky y).map (!·)
 let mut l:=0
 let mut o:=1
 let mut lw:=0
 let mut up:=0
 let some fw ← ask hint | return none
 if fw then
  let far:=n - hint
  for _ in [0:n] do
   if o ≥ far then break
   let some go ← ask (hint + o) | return none
   if !go then break
   l:=o
   o:=2 * o + 1
  lw:=hint + l + 1
  up:=hint + min o far
 else
  let far:=hint + 1
  for _ in [0:n] do
   if o ≥ far then break
   let some go ← ask (hint - o) | return none
   if go then break
   l:=o
   o:=2 * o + 1
  lw:=hint + 1 - min o far
  up:=hint - l
 for _ in [0:n] do
  if lw ≥ up then break
  let mid:=lw + (up - lw) / 2
  let some go ← ask mid | return none
  if go then lw:=mid + 1 else up:=mid
 return some up):=rfl
section
variable {prog:Program}{w:World}{A:Around}{E:Value→Shared→Prop}{s:Shared}[CmpOk prog w A s]
theorem wpS_lt2 {st:SortSt}{x y:Keyed}{a b:Int}{Q:Option Bool→SortSt→Prop}(hk:kindOf st=Ranks.κ)(hx:IsK x.1 a)(hy:IsK y.1 b)(h:Q (some (decide (a < b))) st) :
  wpS (model prog w) A E s (lt' x y) Q st:=by
 rw [lt'_eq]
 refine wpS_bind (wpS_get ?_)
 rw [hk]
 refine wpS_bind (wpS_lift (wpAny_attempt (CmpOk.lt _ _ _ _ hx.1 hy.1 ⟨rfl,?_⟩)))
 rw [hx.2,hy.2]
 exact wpS_pure h
theorem wpS_elem {st:SortSt}{arr:Array Keyed}{i:Nat}{p:Keyed}{Q:Keyed→SortSt→Prop}(h:arr[i]? = some p)(q:Q p st):wpS (model prog w) A E s (elem' arr i) Q st:=by
 rw [elem'_eq,h]
 exact wpS_pure q
def Turns (B:Nat→Bool)(n k:Nat):Prop:=k≤n∧(∀ i,i < k→B i=true)∧∀ i,k≤i→i < n→B i=false
def Fwd (left:Bool)(kk:Int)(arr:Array Keyed)(b:Nat)(i:Nat):Bool:=if left=true then decide (K arr (b + i) < kk) else !decide (kk < K arr (b + i))
theorem at_int {arr:Array Keyed}(hI:KeysIn arr){i:Nat}(h:i < arr.size):∃ (p:Keyed) (t:Tok),arr[i]? = some p∧IsK p.1 (K arr i):=by
 have e:arr[i]? = some arr[i]:=getElem?_pos arr i h
 refine ⟨arr[i],0,e,hI arr[i] (by simp),?_⟩
 unfold K
 rw [e]
theorem fwd_mono {left:Bool}{kk:Int}{arr:Array Keyed}{b n:Nat}(hs:∀ i j,i≤j→j < n→K arr (b + i)≤K arr (b + j)){i j:Nat}(hij:i≤j)(hj:j < n)(h:Fwd left kk arr b j=true):Fwd left kk arr b i=true:=by
 have:=hs i j hij hj
 unfold Fwd at h ⊢
 cases left
 ·simp at h ⊢
  omega
 ·simp at h ⊢
  omega
theorem wpS_fwd {st:SortSt}{left:Bool}{key:Keyed}{arr:Array Keyed}{b i:Nat}{kk:Int}{Q:Option Bool→SortSt→Prop}(hk:kindOf st=Ranks.κ)(hkey:IsK key.1 kk)(hI:KeysIn arr)(hi:b + i < arr.size)
  (h:Q (some (Fwd left kk arr b i)) st) :
  wpS (model prog w) A E s (do let x ← (sortPriv% PySem.Builtin.elem) arr (b + i);if left=true then (sortPriv% PySem.Builtin.lt) x key else do let r ← (sortPriv% PySem.Builtin.lt) key x;pure (Option.map (fun x=>!x) r)) Q st:=by
 obtain ⟨p,t,e,hp⟩:=at_int hI hi
 refine wpS_bind (wpS_elem (arr:=arr) e ?_)
 unfold Fwd at h
 cases left with
 | true =>
  rw [if_pos rfl]
  exact wpS_lt2 hk hp hkey (by simpa using h)
 | false =>
  rw [if_neg Bool.false_ne_true]
  exact wpS_bind (wpS_lt2 hk hkey hp (wpS_pure (by simpa using h)))
theorem wpS_gallop {st:SortSt}{left:Bool}{key:Keyed}{arr:Array Keyed}{b n hint:Nat}{kk:Int}{Q:Option Nat→SortSt→Prop}(hk:kindOf st=Ranks.κ)(hkey:IsK key.1 kk)
  (hI:KeysIn arr) (hb:b + n≤arr.size) (hh:hint < n) (hs:∀ i j,i≤j→j < n→K arr (b + i)≤K arr (b + j))
  (h:∀ k,Turns (Fwd left kk arr b) n k→Q (some k) st):wpS (model prog w) A E s (gallop' left key arr b n hint) Q st:=by
 have mono:∀ {i j:Nat},i≤j→j < n→Fwd left kk arr b j=true→Fwd left kk arr b i=true:=fun a b c=>fwd_mono hs a b c
 have anti:∀ {i j:Nat},i≤j→j < n→Fwd left kk arr b i=false→Fwd left kk arr b j=false:=fun {i j} a b c=>by
  cases e:Fwd left kk arr _ j with
  | false=>rfl
  | true=>rw [mono a b e] at c;cases c
 have half:∀ (lo hi:Nat),lo≤hi→hi≤n→(∀ i,i < lo→Fwd left kk arr b i=true)→(∀ i,hi≤i→i < n→Fwd left kk arr b i=false) →
   ∀ (f:Nat→(Option (Option Nat) × Nat × Nat)→StateT SortSt Sem (ForInStep (Option (Option Nat) × Nat × Nat))),
   (∀ x c,f x c=(if c.snd.fst ≥ c.snd.snd then pure (ForInStep.done (none,c.snd.fst,c.snd.snd)) else do
    let r ← (do let x ← (sortPriv% PySem.Builtin.elem) arr (b + (c.snd.fst + (c.snd.snd - c.snd.fst) / 2));if left=true then (sortPriv% PySem.Builtin.lt) x key else do let r ← (sortPriv% PySem.Builtin.lt) key x;pure (Option.map (fun x=>!x) r))
    match r with
    | some more=>if more=true then pure (ForInStep.yield (none,c.snd.fst + (c.snd.snd - c.snd.fst) / 2 + 1,c.snd.snd)) else pure (ForInStep.yield (none,c.snd.fst,c.snd.fst + (c.snd.snd - c.snd.fst) / 2))
    | x=>pure (ForInStep.done (some none,c.snd.fst,c.snd.snd)))) →
   wpS (model prog w) A E s (forIn [:n] (none,lo,hi) f) (fun c st'=>st'=st∧c.fst=none∧Turns (Fwd left kk arr b) n c.snd.snd) st:=by
  intro lo hi h1 h2 h3 h4 f hf
  refine wpS_forRange (a:=0) (I:=fun (x:Nat) (c:Option (Option Nat) × Nat × Nat) (st':SortSt)=>st'=st∧c.fst=none∧c.snd.fst ≤ c.snd.snd ∧ c.snd.snd ≤ n∧(∀ i,i < c.snd.fst → Fwd left kk arr b i=true)∧(∀ i,c.snd.snd ≤ i→i < n→Fwd left kk arr b i=false)∧c.snd.snd - c.snd.fst ≤ n - x) ?_ ?_ ⟨rfl,rfl,h1,h2,h3,h4,by show hi - lo≤n - 0;omega⟩
  ·rintro x ⟨c0,l,r⟩ st' _ hx ⟨rfl,rfl,i1,i2,i3,i4,i5⟩
   dsimp only at i1 i2 i3 i4 i5
   rw [hf]
   dsimp only
   by_cases hlr:l ≥ r
   ·rw [if_pos hlr]
    have:l=r:=by omega
    subst this
    exact wpS_pure ⟨rfl,rfl,i2,i3,i4⟩
   ·rw [if_neg hlr]
    refine wpS_bind (wpS_fwd hk hkey hI (by omega) ?_)
    cases e:Fwd left kk arr b (l + (r - l) / 2) with
    | true =>
     dsimp only
     rw [if_pos rfl]
     exact wpS_pure ⟨rfl,rfl,by dsimp only;omega,i2,fun i hi=>mono (show i≤l + (r - l) / 2 by dsimp only at hi;omega) (by omega) e,i4,by dsimp only;omega⟩
    | false =>
     dsimp only
     rw [if_neg Bool.false_ne_true]
     exact wpS_pure ⟨rfl,rfl,by dsimp only;omega,by dsimp only;omega,i3,fun i hi hn=>anti hi hn e,by dsimp only;omega⟩
  ·rintro ⟨c0,l,r⟩ st' ⟨rfl,rfl,i1,i2,i3,i4,i5⟩
   dsimp only at i1 i2 i3 i4 i5 ⊢
   have:l=r:=by omega
   subst this
   exact ⟨rfl,rfl,i2,i3,i4⟩
 rw [gallop'_eq]
 dsimp only
 refine wpS_bind (wpS_fwd hk hkey hI (by omega) ?_)
 cases e0:Fwd left kk arr b hint with
 | true =>
  dsimp only
  rw [if_pos rfl]
  refine wpS_bind (wpS_mono (wpS_forRange (a:=0) (I:=fun (x:Nat) (c:Option (Option Nat) × Nat × Nat) (st':SortSt)=>st'=st∧c.fst=none∧c.snd.fst < c.snd.snd ∧ hint + c.snd.fst < n∧Fwd left kk arr b (hint + c.snd.fst)=true∧x + 1≤c.snd.snd)
   (Q:=fun (c:Option (Option Nat) × Nat × Nat) (st':SortSt)=>st'=st∧c.fst=none∧c.snd.fst < c.snd.snd ∧ hint + c.snd.fst < n∧Fwd left kk arr b (hint + c.snd.fst)=true∧(n - hint≤c.snd.snd ∨ (hint + c.snd.snd < n∧Fwd left kk arr b (hint + c.snd.snd)=false))) ?_ ?_ ⟨rfl,rfl,by decide,hh,(show Fwd left kk arr b (hint + 0)=true from e0),by decide⟩) ?_)
  ·rintro x ⟨c0,l,r⟩ st' _ hx ⟨rfl,rfl,i1,i2,i3,i4⟩
   dsimp only at i1 i2 i3 i4 ⊢
   by_cases hlr:r ≥ n - hint
   ·rw [if_pos hlr]
    exact wpS_pure ⟨rfl,rfl,i1,i2,i3,.inl hlr⟩
   ·rw [if_neg hlr]
    refine wpS_bind (wpS_fwd hk hkey hI (by omega) ?_)
    cases e:Fwd left kk arr b (hint + r) with
    | true =>
     dsimp only
     rw [if_neg (by simp)]
     exact wpS_pure ⟨rfl,rfl,by dsimp only;omega,by dsimp only;omega,e,by dsimp only;omega⟩
    | false =>
     dsimp only
     rw [if_pos (show (!false)=true from rfl)]
     exact wpS_pure ⟨rfl,rfl,i1,i2,i3,.inr ⟨by dsimp only;omega,e⟩⟩
  ·rintro ⟨c0,l,r⟩ st' ⟨rfl,rfl,i1,i2,i3,i4⟩
   dsimp only at i1 i2 i3 i4 ⊢
   exact ⟨rfl,rfl,i1,i2,i3,.inl (by omega)⟩
  ·rintro ⟨c0,l,r⟩ st' ⟨rfl,rfl,i1,i2,i3,i4⟩
   dsimp only at i1 i2 i3 i4 ⊢
   refine wpS_bind (wpS_mono (half (hint + l + 1) (hint + min r (n - hint)) (by omega) (by omega) (fun i hi=>mono (show i≤hint + l by omega) i2 i3) (fun i hi hn=>?_) _ (fun x c=>rfl)) ?_)
   ·rcases i4 with z | ⟨z1,z2⟩
    ·omega
    ·exact anti (show hint + r≤i by omega) hn z2
   ·rintro ⟨c0,l2,r2⟩ st' ⟨rfl,rfl,t⟩
    exact wpS_pure (h _ t)
 | false =>
  dsimp only
  rw [if_neg Bool.false_ne_true]
  refine wpS_bind (wpS_mono (wpS_forRange (a:=0) (I:=fun (x:Nat) (c:Option (Option Nat) × Nat × Nat) (st':SortSt)=>st'=st∧c.fst=none∧c.snd.fst < c.snd.snd ∧ c.snd.fst ≤ hint∧Fwd left kk arr b (hint - c.snd.fst)=false∧x + 1≤c.snd.snd)
   (Q:=fun (c:Option (Option Nat) × Nat × Nat) (st':SortSt)=>st'=st∧c.fst=none∧c.snd.fst < c.snd.snd ∧ c.snd.fst ≤ hint∧Fwd left kk arr b (hint - c.snd.fst)=false∧(hint + 1≤c.snd.snd ∨ (c.snd.snd ≤ hint∧Fwd left kk arr b (hint - c.snd.snd)=true))) ?_ ?_ ⟨rfl,rfl,by decide,Nat.zero_le _,(show Fwd left kk arr b (hint - 0)=false from e0),by decide⟩) ?_)
  ·rintro x ⟨c0,l,r⟩ st' _ hx ⟨rfl,rfl,i1,i2,i3,i4⟩
   dsimp only at i1 i2 i3 i4 ⊢
   by_cases hlr:r ≥ hint + 1
   ·rw [if_pos hlr]
    exact wpS_pure ⟨rfl,rfl,i1,i2,i3,.inl hlr⟩
   ·rw [if_neg hlr]
    refine wpS_bind (wpS_fwd hk hkey hI (by omega) ?_)
    cases e:Fwd left kk arr b (hint - r) with
    | true =>
     dsimp only
     rw [if_pos rfl]
     exact wpS_pure ⟨rfl,rfl,i1,i2,i3,.inr ⟨by dsimp only;omega,e⟩⟩
    | false =>
     dsimp only
     rw [if_neg Bool.false_ne_true]
     exact wpS_pure ⟨rfl,rfl,by dsimp only;omega,by dsimp only;omega,e,by dsimp only;omega⟩
  ·rintro ⟨c0,l,r⟩ st' ⟨rfl,rfl,i1,i2,i3,i4⟩
   dsimp only at i1 i2 i3 i4 ⊢
   exact ⟨rfl,rfl,i1,i2,i3,.inl (by omega)⟩
  ·rintro ⟨c0,l,r⟩ st' ⟨rfl,rfl,i1,i2,i3,i4⟩
   dsimp only at i1 i2 i3 i4 ⊢
   refine wpS_bind (wpS_mono (half (hint + 1 - min r (hint + 1)) (hint - l) (by omega) (by omega) (fun i hi=>?_) (fun i hi hn=>anti hi hn i3) _ (fun x c=>rfl)) ?_)
   ·rcases i4 with z | ⟨z1,z2⟩
    ·omega
    ·exact mono (show i≤hint - r by omega) (by omega) z2
   ·rintro ⟨c0,l2,r2⟩ st' ⟨rfl,rfl,t⟩
    exact wpS_pure (h _ t)
end
end MwSortR
namespace MwSortR
open PySem PyProof.Rows
variable [Ranks]
def kf (p:Keyed):Int:=Ranks.ρ p.1
def Rise (l:List Keyed):Prop:=l.Pairwise (fun x y=>kf x≤kf y)
def Ahead (l r:List Keyed):Prop:=∀ x∈l,∀ y∈r,kf x≤kf y
theorem Rise.append {l r:List Keyed}(h1:Rise l)(h2:Rise r)(h:Ahead l r):Rise (l ++ r):=List.pairwise_append.mpr ⟨h1,h2,h⟩
theorem Rise.sub {l r:List Keyed}(h:Rise r)(s:l.Sublist r):Rise l:=h.sublist s
structure MI (a b out:List Keyed)(ia ib:Nat):Prop where
 perm:out.Perm (a.take ia ++ b.take ib)
 rise:Rise out
 ahA:Ahead out (a.drop ia)
 ahB:Ahead out (b.drop ib)
theorem MI.moreB {a b out:List Keyed}{ia ib k:Nat}(h:MI a b out ia ib)(hb:Rise b)(hk:ib + k≤b.length)(hx:Ahead ((b.drop ib).take k) (a.drop ia)):MI a b (out ++ (b.drop ib).take k) ia (ib + k):=by
 have e:b.drop ib=(b.drop ib).take k ++ b.drop (ib + k):=by rw [← List.drop_drop,List.take_append_drop]
 have r:Rise ((b.drop ib).take k ++ b.drop (ib + k)):=by rw [← e];exact hb.sub (List.drop_sublist _ _)
 have c:=List.pairwise_append.mp r
 refine ⟨?_,h.rise.append c.1 fun x hx y hy=>h.ahB x hx y (List.mem_of_mem_take hy),fun x hx' y hy=>?_,fun x hx' y hy=>?_⟩
 ·rw [List.take_add]
  have:=h.perm.append_right ((b.drop ib).take k)
  rwa [List.append_assoc] at this
 ·rcases List.mem_append.mp hx' with z | z
  ·exact h.ahA x z y hy
  ·exact hx x z y hy
 ·rcases List.mem_append.mp hx' with z | z
  ·exact h.ahB x z y (by rw [e];exact List.mem_append_right _ hy)
  ·exact c.2.2 x z y hy
theorem MI.swap {a b out:List Keyed}{ia ib:Nat}(h:MI a b out ia ib):MI b a out ib ia:=⟨h.perm.trans List.perm_append_comm,h.rise,h.ahB,h.ahA⟩
theorem MI.moreA {a b out:List Keyed}{ia ib k:Nat}(h:MI a b out ia ib)(ha:Rise a)(hk:ia + k≤a.length)(hx:Ahead ((a.drop ia).take k) (b.drop ib)):MI a b (out ++ (a.drop ia).take k) (ia + k) ib:=(h.swap.moreB ha hk hx).swap
theorem MI.fin {a b out:List Keyed}(h:MI a b out a.length b.length):out.Perm (a ++ b)∧Rise out:=by
 refine ⟨?_,h.rise⟩
 have:=h.perm
 rwa [List.take_length,List.take_length] at this
theorem MI.restA {a b out:List Keyed}{ia:Nat}(h:MI a b out ia b.length)(ha:Rise a)(hi:ia≤a.length):(out ++ a.drop ia).Perm (a ++ b)∧Rise (out ++ a.drop ia):=by
 have m:=h.moreA (k:=a.length - ia) ha (by omega) (by rw [List.drop_length];exact fun x _ y hy=>absurd hy (by simp))
 have e:(a.drop ia).take (a.length - ia)=a.drop ia:=List.take_of_length_le (by rw [List.length_drop];exact Nat.le_refl _)
 rw [e,show ia + (a.length - ia)=a.length by omega] at m
 exact m.fin
theorem MI.lastA {a b out:List Keyed}{ia ib:Nat}(h:MI a b out ia ib)(ha:Rise a)(hb:Rise b)(hi:ia≤a.length)(hj:ib≤b.length)(hx:Ahead (b.drop ib) (a.drop ia)) :
  (out ++ b.drop ib ++ a.drop ia).Perm (a ++ b)∧Rise (out ++ b.drop ib ++ a.drop ia):=by
 have e:(b.drop ib).take (b.length - ib)=b.drop ib:=List.take_of_length_le (by rw [List.length_drop];exact Nat.le_refl _)
 have m:=h.moreB (k:=b.length - ib) hb (by omega) (by rw [e];exact hx)
 rw [e,show ib + (b.length - ib)=b.length by omega] at m
 exact m.restA ha hi
theorem MI.restB {a b out:List Keyed}{ib:Nat}(h:MI a b out a.length ib)(hb:Rise b)(hi:ib≤b.length):(out ++ b.drop ib).Perm (a ++ b)∧Rise (out ++ b.drop ib):=by
 have:=h.swap.restA hb hi
 exact ⟨this.1.trans List.perm_append_comm,this.2⟩
theorem MI.nil {a b:List Keyed}:MI a b [] 0 0:=⟨by simp,List.Pairwise.nil,fun x hx=>absurd hx (by simp),fun x hx=>absurd hx (by simp)⟩
theorem MI.len {a b out:List Keyed}{ia ib:Nat}(h:MI a b out ia ib)(h1:ia≤a.length)(h2:ib≤b.length):out.length=ia + ib:=by
 have:=h.perm.length_eq
 rw [List.length_append,List.length_take,List.length_take] at this
 omega
theorem mem_seg {l:List Keyed}{x:Keyed}{i k:Nat}(h:x∈(l.drop i).take k):∃ n,∃ _:n < l.length,i≤n∧n < i + k∧l[n]=x:=by
 obtain ⟨m,hm,e⟩:=List.mem_iff_getElem.mp h
 rw [List.length_take,List.length_drop] at hm
 refine ⟨i + m,by omega,by omega,by omega,?_⟩
 rw [List.getElem_take,List.getElem_drop] at e
 exact e
theorem mem_rest {l:List Keyed}{x:Keyed}{i:Nat}(h:x∈l.drop i):∃ n,∃ _:n < l.length,i≤n∧l[n]=x:=by
 obtain ⟨m,hm,e⟩:=List.mem_iff_getElem.mp h
 rw [List.length_drop] at hm
 refine ⟨i + m,by omega,by omega,?_⟩
 rw [List.getElem_drop] at e
 exact e
theorem mem_first {l:List Keyed}{x:Keyed}{i:Nat}(h:x∈l.take i):∃ n,∃ _:n < l.length,n < i∧l[n]=x:=by
 obtain ⟨m,hm,e⟩:=List.mem_iff_getElem.mp h
 rw [List.length_take] at hm
 refine ⟨m,by omega,by omega,?_⟩
 rw [List.getElem_take] at e
 exact e
theorem kf_at {a:Array Keyed}{n:Nat}(h:n < a.toList.length):kf a.toList[n]=K a n:=by
 unfold kf K
 rw [getElem?_pos a n (by simpa using h)]
 simp
theorem riseK {a:Array Keyed}(h:Rise a.toList){i j:Nat}(hij:i≤j)(hj:j < a.size):K a i≤K a j:=by
 rcases Nat.lt_or_ge i j with z | z
 ·have:=(List.pairwise_iff_getElem.mp h) i j (by simp;omega) (by simpa using hj) z
  rwa [kf_at,kf_at] at this
 ·have:i=j:=by omega
  rw [this];exact Int.le_refl _
theorem rise_of {a:Array Keyed}(h:∀ i j,i≤j→j < a.size → K a i≤K a j):Rise a.toList:=by
 refine List.pairwise_iff_getElem.mpr fun i j hi hj hij=>?_
 rw [kf_at,kf_at]
 exact h i j (by omega) (by simpa using hj)
structure MH (a b out:List Keyed)(na nb:Nat):Prop where
 perm:out.Perm (a.drop na ++ b.drop nb)
 rise:Rise out.reverse
 ahA:Ahead (a.take na) out
 ahB:Ahead (b.take nb) out
theorem MH.swap {a b out:List Keyed}{na nb:Nat}(h:MH a b out na nb):MH b a out nb na:=⟨h.perm.trans List.perm_append_comm,h.rise,h.ahB,h.ahA⟩
theorem MH.nil {a b:List Keyed}:MH a b [] a.length b.length:=⟨by simp,List.Pairwise.nil,fun x _ y hy=>absurd hy (by simp),fun x _ y hy=>absurd hy (by simp)⟩
theorem seg_split {l:List Keyed}{i j:Nat}(h:i≤j):l.drop i=(l.drop i).take (j - i) ++ l.drop j:=by
 have e:l.drop j=(l.drop i).drop (j - i):=by rw [List.drop_drop];congr 1;omega
 rw [e,List.take_append_drop]
theorem first_split {l:List Keyed}{i j:Nat}(h:i≤j):l.take j=l.take i ++ (l.drop i).take (j - i):=by
 have:j=i + (j - i):=by omega
 rw [this,List.take_add]
 congr 3
theorem MH.moreA {a b out:List Keyed}{na nb p:Nat}(h:MH a b out na nb)(ha:Rise a)(hp:p≤na)(hx:Ahead (b.take nb) ((a.drop p).take (na - p))):MH a b (out ++ ((a.drop p).take (na - p)).reverse) p nb:=by
 have e1:=seg_split (l:=a) hp
 have e2:=first_split (l:=a) hp
 have r1:Rise (a.take p ++ (a.drop p).take (na - p)):=by rw [← e2];exact ha.sub (List.take_sublist _ _)
 have c:=List.pairwise_append.mp r1
 have hA:Ahead ((a.drop p).take (na - p)) out:=fun x hx' y hy=>h.ahA x (by rw [e2];exact List.mem_append_right _ hx') y hy
 refine ⟨?_,?_,fun x hx' y hy=>?_,fun x hx' y hy=>?_⟩
 ·have e3:a.drop p ++ b.drop nb=(a.drop p).take (na - p) ++ (a.drop na ++ b.drop nb):=by rw [← List.append_assoc,← e1]
  rw [e3]
  refine (h.perm.append_right _).trans ?_
  refine ((List.reverse_perm _).append_left _).trans ?_
  exact List.perm_append_comm
 ·rw [List.reverse_append,List.reverse_reverse]
  refine Rise.append c.2.1 h.rise fun x hx' y hy=>hA x hx' y (List.mem_reverse.mp hy)
 ·rcases List.mem_append.mp hy with z | z
  ·exact h.ahA x (by rw [e2];exact List.mem_append_left _ hx') y z
  ·exact c.2.2 x hx' y (List.mem_reverse.mp z)
 ·rcases List.mem_append.mp hy with z | z
  ·exact h.ahB x hx' y z
  ·exact hx x hx' y (List.mem_reverse.mp z)
theorem MH.moreB {a b out:List Keyed}{na nb p:Nat}(h:MH a b out na nb)(hb:Rise b)(hp:p≤nb)(hx:Ahead (a.take na) ((b.drop p).take (nb - p))):MH a b (out ++ ((b.drop p).take (nb - p)).reverse) na p:=(h.swap.moreA hb hp hx).swap
theorem MH.fin {a b out:List Keyed}(h:MH a b out 0 0):out.reverse.Perm (a ++ b)∧Rise out.reverse:=⟨(List.reverse_perm _).trans (by simpa using h.perm),h.rise⟩
theorem MH.restB {a b out:List Keyed}{nb:Nat}(h:MH a b out 0 nb)(hb:Rise b)(hi:nb≤b.length):(b.take nb ++ out.reverse).Perm (a ++ b)∧Rise (b.take nb ++ out.reverse):=by
 have m:=h.moreB (p:=0) hb (by omega) (fun x hx=>absurd hx (by simp))
 have:=m.fin
 simpa using this
theorem MH.restA {a b out:List Keyed}{na:Nat}(h:MH a b out na 0)(ha:Rise a)(hi:na≤a.length):(a.take na ++ out.reverse).Perm (a ++ b)∧Rise (a.take na ++ out.reverse):=by
 have m:=h.moreA (p:=0) ha (by omega) (fun x hx=>absurd hx (by simp))
 have:=m.fin
 simpa using this
theorem MH.firstB {a b out:List Keyed}{na nb:Nat}(h:MH a b out na nb)(ha:Rise a)(hb:Rise b)(hi:na≤a.length)(hj:nb≤b.length)(hx:Ahead (b.take nb) (a.take na)) :
  (b.take nb ++ a.take na ++ out.reverse).Perm (a ++ b)∧Rise (b.take nb ++ a.take na ++ out.reverse):=by
 have m:=h.moreA (p:=0) ha (by omega) (by simpa using hx)
 have:=m.restB hb hj
 simpa using this
end MwSortR
set_option maxHeartbeats 2000000
namespace MwSortR
open PySem PyProof.Rows
variable [Ranks]
def mergeLo':Array Keyed→Array Keyed→StateT SortSt Sem (Array Keyed):=sortPriv% PySem.Builtin.mergeLo
def setG':Nat→StateT SortSt Sem Unit:=sortPriv% PySem.Builtin.setMinGallop
theorem setG'_eq (g:Nat):setG' g=modify fun z=>SortSt.mk' (kindOf z) (arrOf z) (pendingOf z) g (failedOf z):=rfl
abbrev LoR:=Option (Array Keyed) × Array Keyed × Nat × Nat × Nat × Nat
abbrev LoG:=Option (Array Keyed) × Array Keyed × Nat × Nat × Nat × Nat × Nat
abbrev LoO:=Option (Array Keyed) × Array Keyed × Nat × Nat × Nat
def fDone (a b out:Array Keyed)(ia ib:Nat):Array Keyed:=out ++ a.extract ia a.size ++ b.extract ib b.size
def fLast (a b out:Array Keyed)(ia ib:Nat):Array Keyed:=out ++ b.extract ib b.size ++ a.extract ia a.size
def loR (a b:Array Keyed)(mg:Nat)(out:Array Keyed)(ia ib ac bc:Nat):StateT SortSt Sem (ForInStep LoR):=do
 let p ← elem' b ib
 let q ← elem' a ia
 let r ← lt' p q
 match r with
 | some t =>
  if t=true then do
   let z ← elem' b ib
   if (ib + 1 == b.size)=true then pure (.done (some (fDone a b (out.push z) ia (ib + 1)),out.push z,ia,ib + 1,0,bc + 1))
   else if bc + 1 ≥ mg then pure (.done (none,out.push z,ia,ib + 1,0,bc + 1))
   else pure (.yield (none,out.push z,ia,ib + 1,0,bc + 1))
  else do
   let z ← elem' a ia
   if (ia + 1 + 1 == a.size)=true then pure (.done (some (fLast a b (out.push z) (ia + 1) ib),out.push z,ia + 1,ib,ac + 1,0))
   else if ac + 1 ≥ mg then pure (.done (none,out.push z,ia + 1,ib,ac + 1,0))
   else pure (.yield (none,out.push z,ia + 1,ib,ac + 1,0))
 | _=>pure (.done (some (fDone a b out ia ib),out,ia,ib,ac,bc))
def loG3 (a b:Array Keyed)(out:Array Keyed)(ia ib mg ac bc:Nat):StateT SortSt Sem (ForInStep LoG):=do
 let z ← elem' a ia
 if (ia + 1 + 1 == a.size)=true then pure (.done (some (fLast a b (out.push z) (ia + 1) ib),out.push z,ia + 1,ib,mg,ac,bc))
 else if (decide (ac < 7) && decide (bc < 7))=true then pure (.done (none,out.push z,ia + 1,ib,mg,ac,bc))
 else pure (.yield (none,out.push z,ia + 1,ib,mg,ac,bc))
def loG2 (a b:Array Keyed)(out:Array Keyed)(ia ib mg ac bc:Nat):StateT SortSt Sem (ForInStep LoG):=do
 let z ← elem' b ib
 if (ib + 1 == b.size)=true then pure (.done (some (fDone a b (out.push z) ia (ib + 1)),out.push z,ia,ib + 1,mg,ac,bc))
 else do
  let y ← elem' a ia
  let r ← gallop' true y b (ib + 1) (b.size - (ib + 1)) 0
  match r with
  | some k =>
   if k > 0 then
    if (ib + 1 + k == b.size)=true then pure (.done (some (fDone a b (out.push z ++ b.extract (ib + 1) (ib + 1 + k)) ia (ib + 1 + k)),out.push z ++ b.extract (ib + 1) (ib + 1 + k),ia,ib + 1 + k,mg,ac,k))
    else loG3 a b (out.push z ++ b.extract (ib + 1) (ib + 1 + k)) ia (ib + 1 + k) mg ac k
   else loG3 a b (out.push z) ia (ib + 1) mg ac k
  | _=>pure (.done (some (fDone a b (out.push z) ia (ib + 1)),out.push z,ia,ib + 1,mg,ac,bc))
def loG1 (a b:Array Keyed)(out:Array Keyed)(ia ib mg ac bc:Nat):StateT SortSt Sem (ForInStep LoG):=do
 setG' mg
 let y ← elem' b ib
 let r ← gallop' false y a ia (a.size - ia) 0
 match r with
 | some k =>
  if k > 0 then
   if (ia + k + 1 == a.size)=true then pure (.done (some (fLast a b (out ++ a.extract ia (ia + k)) (ia + k) ib),out ++ a.extract ia (ia + k),ia + k,ib,mg,k,bc))
   else if (ia + k == a.size)=true then pure (.done (some (fDone a b (out ++ a.extract ia (ia + k)) (ia + k) ib),out ++ a.extract ia (ia + k),ia + k,ib,mg,k,bc))
   else loG2 a b (out ++ a.extract ia (ia + k)) (ia + k) ib mg k bc
  else loG2 a b out ia ib mg k bc
 | _=>pure (.done (some (fDone a b out ia ib),out,ia,ib,mg,ac,bc))
def loG (a b:Array Keyed)(out:Array Keyed)(ia ib mg ac bc:Nat):StateT SortSt Sem (ForInStep LoG) :=
 if mg > 1 then loG1 a b out ia ib (mg - 1) ac bc else loG1 a b out ia ib mg ac bc
def loO (a b:Array Keyed)(out:Array Keyed)(ia ib mg:Nat):StateT SortSt Sem (ForInStep LoO):=do
 let c ← forIn [:a.size + b.size] ((none,out,ia,ib,0,0):LoR) fun _ c=>loR a b mg c.2.1 c.2.2.1 c.2.2.2.1 c.2.2.2.2.1 c.2.2.2.2.2
 match c.1 with
 | some r=>pure (.done (some r,c.2.1,c.2.2.1,c.2.2.2.1,mg))
 | none=>do
  liftM (rule "list.sort.gallop")
  let d ← forIn [:a.size + b.size] ((none,c.2.1,c.2.2.1,c.2.2.2.1,mg + 1,c.2.2.2.2.1,c.2.2.2.2.2):LoG) fun _ d=>loG a b d.2.1 d.2.2.1 d.2.2.2.1 d.2.2.2.2.1 d.2.2.2.2.2.1 d.2.2.2.2.2.2
  match d.1 with
  | some r=>pure (.done (some r,d.2.1,d.2.2.1,d.2.2.2.1,d.2.2.2.2.1))
  | none=>do
   setG' (d.2.2.2.2.1 + 1)
   pure (.yield (none,d.2.1,d.2.2.1,d.2.2.2.1,d.2.2.2.2.1 + 1))
theorem bindC {α β:Type}{x y:StateT SortSt Sem α}{f g:α→StateT SortSt Sem β}(h1:x=y)(h2:∀ c,f c=g c):(x >>= f)=(y >>= g):=by rw [h1,funext h2]
theorem forC {β:Type}{r:Std.Legacy.Range}{i:β}{f g:Nat→β→StateT SortSt Sem (ForInStep β)}(h:∀ x c,f x c=g x c):forIn r i f=forIn r i g:=by rw [funext fun x=>funext fun c=>h x c]
theorem mergeLo'_eq (a b:Array Keyed):mergeLo' a b=(do
  liftM (rule "list.sort.merge-lo")
  let z ← elem' b 0
  if (1 == b.size)=true then pure (fDone a b #[z] 0 1)
  else if (0 + 1 == a.size)=true then pure (fLast a b #[z] 0 1)
  else do
   let g ← get
   let c ← forIn [:a.size + b.size] ((none,#[z],0,1,gallopOf g):LoO) fun _ c=>loO a b c.2.1 c.2.2.1 c.2.2.2.1 c.2.2.2.2
   match c.1 with
   | some r=>pure r
   | none=>liftM (unsupported "internal:list.sort.merge-bound" : Sem (Array Keyed))):=by
 refine bindC rfl fun u=>bindC rfl fun z=>ite_congr rfl (fun _=>rfl) fun _=>ite_congr rfl (fun _=>rfl) fun _=>bindC rfl fun g=>bindC (forC fun x c=>bindC rfl fun d=>?_) fun c=>?_
 ·obtain ⟨d1,d2⟩:=d
  cases d1 with
  | some r=>rfl
  | none =>
   refine bindC rfl fun v=>bindC rfl fun d=>?_
   obtain ⟨d1,d2⟩:=d
   cases d1 with
   | some r=>rfl
   | none=>rfl
 ·obtain ⟨c1,c2⟩:=c
  cases c1 with
  | some r=>rfl
  | none=>rfl
structure Two (a b:Array Keyed):Prop where
 ia:KeysIn a
 ib:KeysIn b
 ra:Rise a.toList
 rb:Rise b.toList
 na:1≤a.size
 nb:1≤b.size
 h0:K b 0 < K a 0
 hl:K b (b.size - 1) < K a (a.size - 1)
def Stay (st st':SortSt):Prop:=kindOf st'=kindOf st∧arrOf st'=arrOf st∧pendingOf st'=pendingOf st∧failedOf st'=failedOf st
theorem Stay.rfl {st:SortSt}:Stay st st:=⟨_root_.rfl,_root_.rfl,_root_.rfl,_root_.rfl⟩
theorem Stay.kind {st st':SortSt}(h:Stay st st')(k:kindOf st=Ranks.κ):kindOf st'=Ranks.κ:=h.1.trans k
def Merged (a b r:Array Keyed):Prop:=r.toList.Perm (a.toList ++ b.toList)∧Rise r.toList
abbrev MA (a b out:Array Keyed)(ia ib:Nat):Prop:=MI a.toList b.toList out.toList ia ib
theorem Two.last {a b:Array Keyed}(T:Two a b){j:Nat}(hj:j < b.size):K b j < K a (a.size - 1):=Int.lt_of_le_of_lt (riseK T.rb (show j≤b.size - 1 by omega) (by omega)) T.hl
theorem Two.first {a b:Array Keyed}(T:Two a b){i:Nat}(hi:i < a.size):K b 0 < K a i:=Int.lt_of_lt_of_le T.h0 (riseK T.ra (Nat.zero_le i) hi)
theorem MA.addA {a b out:Array Keyed}{ia ib k:Nat}(h:MA a b out ia ib)(ra:Rise a.toList)(hk:ia + k≤a.size)(hx:∀ i j,ia≤i→i < ia + k→ib≤j→j < b.size → K a i≤K b j):MA a b (out ++ a.extract ia (ia + k)) (ia + k) ib:=by
 have:=MI.moreA (k:=k) h ra (by simpa using hk) (fun x hx' y hy=>by
  obtain ⟨n,hn,n1,n2,rfl⟩:=mem_seg hx'
  obtain ⟨m,hm,m1,rfl⟩:=mem_rest hy
  rw [kf_at,kf_at]
  exact hx n m n1 n2 m1 (by simpa using hm))
 show MI _ _ _ _ _
 rw [Array.toList_append,Array.toList_extract,List.extract_eq_take_drop,Nat.add_sub_cancel_left]
 exact this
theorem MA.swap {a b out:Array Keyed}{ia ib:Nat}(h:MA a b out ia ib):MA b a out ib ia:=MI.swap h
theorem MA.addB {a b out:Array Keyed}{ia ib k:Nat}(h:MA a b out ia ib)(rb:Rise b.toList)(hk:ib + k≤b.size)(hx:∀ i j,ib≤i→i < ib + k→ia≤j→j < a.size → K b i≤K a j):MA a b (out ++ b.extract ib (ib + k)) ia (ib + k):=(h.swap.addA rb hk hx).swap
theorem push_ext {a out:Array Keyed}{i:Nat}{z:Keyed}(h:a[i]? = some z):out.push z=out ++ a.extract i (i + 1):=by
 obtain ⟨hi,rfl⟩:=Array.getElem?_eq_some_iff.mp h
 apply Array.ext'
 simp [List.extract_eq_take_drop,List.take_one,List.head?_drop,hi]
theorem MA.pushA {a b out:Array Keyed}{ia ib:Nat}{z:Keyed}(h:MA a b out ia ib)(ra:Rise a.toList)(hz:a[ia]? = some z)(hx:∀ j,ib≤j→j < b.size → K a ia≤K b j):MA a b (out.push z) (ia + 1) ib:=by
 rw [push_ext hz]
 obtain ⟨hi,_⟩:=Array.getElem?_eq_some_iff.mp hz
 exact h.addA ra (by omega) fun i j h1 h2 h3 h4=>by
  have:i=ia:=by omega
  rw [this];exact hx j h3 h4
theorem MA.pushB {a b out:Array Keyed}{ia ib:Nat}{z:Keyed}(h:MA a b out ia ib)(rb:Rise b.toList)(hz:b[ib]? = some z)(hx:∀ j,ia≤j→j < a.size → K b ib≤K a j):MA a b (out.push z) ia (ib + 1):=(h.swap.pushA rb hz hx).swap
theorem MA.size {a b out:Array Keyed}{ia ib:Nat}(h:MA a b out ia ib)(h1:ia≤a.size)(h2:ib≤b.size):out.size=ia + ib:=by
 have:=MI.len h (by simpa using h1) (by simpa using h2)
 simpa using this
theorem ext_rest (a:Array Keyed)(i:Nat):(a.extract i a.size).toList=a.toList.drop i:=by
 rw [Array.toList_extract,List.extract_eq_take_drop]
 exact List.take_of_length_le (by simp)
theorem MA.doneB {a b out:Array Keyed}{ia ib:Nat}(T:Two a b)(h:MA a b out ia ib)(e:ib=b.size)(hi:ia≤a.size):Merged a b (fDone a b out ia ib):=by
 subst e
 unfold Merged fDone
 have e2:(b.extract b.size b.size).toList=[]:=by rw [ext_rest];simp
 rw [Array.toList_append,Array.toList_append,ext_rest,e2,List.append_nil]
 exact MI.restA (by simpa using h) T.ra (by simpa using hi)
theorem MA.doneA {a b out:Array Keyed}{ia ib:Nat}(T:Two a b)(h:MA a b out ia ib)(e:ia=a.size)(hi:ib≤b.size):Merged a b (fDone a b out ia ib):=by
 subst e
 unfold Merged fDone
 have e2:(a.extract a.size a.size).toList=[]:=by rw [ext_rest];simp
 rw [Array.toList_append,Array.toList_append,ext_rest b,e2,List.append_nil]
 exact MI.restB (by simpa using h) T.rb (by simpa using hi)
theorem MA.last {a b out:Array Keyed}{ia ib:Nat}(T:Two a b)(h:MA a b out ia ib)(e:ia + 1=a.size)(hi:ib≤b.size):Merged a b (fLast a b out ia ib):=by
 unfold Merged fLast
 rw [Array.toList_append,Array.toList_append,ext_rest,ext_rest]
 refine MI.lastA h T.ra T.rb (by simp;omega) (by simpa using hi) fun x hx y hy=>?_
 obtain ⟨n,hn,n1,rfl⟩:=mem_rest hx
 obtain ⟨m,hm,m1,rfl⟩:=mem_rest hy
 rw [kf_at,kf_at]
 have hm':m < a.size:=by simpa using hm
 have:m=a.size - 1:=by omega
 rw [this]
 exact Int.le_of_lt (T.last (by simpa using hn))
section
variable {prog:Program}{w:World}{A:Around}{E:Value→Shared→Prop}{s:Shared}[CmpOk prog w A s]
theorem at_some {arr:Array Keyed}(hI:KeysIn arr){i:Nat}(h:i < arr.size):∃ p,arr[i]? = some p∧∃ t:Tok,IsK p.1 (K arr i):=by
 obtain ⟨p,t,e,k⟩:=at_int hI h
 exact ⟨p,e,t,k⟩
theorem wpS_setG {st₀ st:SortSt}{g:Nat}{Q:Unit→SortSt→Prop}(hS:Stay st₀ st)(h:∀ st',Stay st₀ st'→Q () st'):wpS (model prog w) A E s (setG' g) Q st:=by
 rw [setG'_eq]
 exact wpS_modify (h _ ⟨hS.1,hS.2.1,hS.2.2.1,hS.2.2.2⟩)
theorem turns_false {kk:Int}{arr:Array Keyed}{b n k:Nat}(h:Turns (Fwd false kk arr b) n k):k≤n∧(∀ i,i < k→K arr (b + i)≤kk)∧∀ i,k≤i→i < n→kk < K arr (b + i):=by
 refine ⟨h.1,fun i hi=>?_,fun i hi hn=>?_⟩
 ·have:=h.2.1 i hi
  simp [Fwd] at this
  exact this
 ·have:=h.2.2 i hi hn
  simp [Fwd] at this
  exact this
theorem turns_true {kk:Int}{arr:Array Keyed}{b n k:Nat}(h:Turns (Fwd true kk arr b) n k):k≤n∧(∀ i,i < k→K arr (b + i) < kk)∧∀ i,k≤i→i < n→kk≤K arr (b + i):=by
 refine ⟨h.1,fun i hi=>?_,fun i hi hn=>?_⟩
 ·have:=h.2.1 i hi
  simp [Fwd] at this
  exact this
 ·have:=h.2.2 i hi hn
  simp [Fwd] at this
  exact this
def OkR (a b:Array Keyed)(n:Nat)(st₀:SortSt)(c:LoR)(st:SortSt):Prop:=Stay st₀ st∧((∃ r,c.1=some r∧Merged a b r) ∨ (c.1=none∧MA a b c.2.1 c.2.2.1 c.2.2.2.1 ∧ c.2.2.1 + 1 < a.size ∧ c.2.2.2.1 < b.size ∧ n≤c.2.2.1 + c.2.2.2.1))
def OkG (a b:Array Keyed)(n:Nat)(st₀:SortSt)(c:LoG)(st:SortSt):Prop:=Stay st₀ st∧((∃ r,c.1=some r∧Merged a b r) ∨ (c.1=none∧MA a b c.2.1 c.2.2.1 c.2.2.2.1 ∧ c.2.2.1 + 1 < a.size ∧ c.2.2.2.1 < b.size ∧ n≤c.2.2.1 + c.2.2.2.1))
theorem loR_ok {st₀ st:SortSt}{a b out:Array Keyed}{mg ia ib ac bc n:Nat}(T:Two a b)(hk:kindOf st₀=Ranks.κ)(hS:Stay st₀ st)(hM:MA a b out ia ib)(hA:ia + 1 < a.size)(hB:ib < b.size)(hn:n≤ia + ib) :
  wpS (model prog w) A E s (loR a b mg out ia ib ac bc) (fun r st'=>match r with | .done c=>OkR a b (n + 1) st₀ c st' | .yield c=>c.1=none∧OkR a b (n + 1) st₀ c st') st:=by
 obtain ⟨p,ep,t,hp⟩:=at_some T.ib hB
 obtain ⟨q,eq,u,hq⟩:=at_some T.ia (show ia < a.size by omega)
 unfold loR
 refine wpS_bind (wpS_elem ep (wpS_bind (wpS_elem eq (wpS_bind (wpS_lt2 (hS.kind hk) hp hq ?_)))))
 dsimp only
 by_cases hlt:K b ib < K a ia
 ·rw [if_pos (by simpa using hlt)]
  refine wpS_bind (wpS_elem ep ?_)
  have M:MA a b (out.push p) ia (ib + 1):=hM.pushB T.rb ep fun j h1 h2=>Int.le_of_lt (Int.lt_of_lt_of_le hlt (riseK T.ra h1 h2))
  by_cases e:ib + 1=b.size
  ·rw [if_pos (by simpa using e)]
   exact wpS_pure ⟨hS,.inl ⟨_,rfl,M.doneB T e (by omega)⟩⟩
  ·rw [if_neg (by simpa using e)]
   have R:OkR a b (n + 1) st₀ (none,out.push p,ia,ib + 1,0,bc + 1) st:=⟨hS,.inr ⟨rfl,M,hA,by dsimp only;omega,by dsimp only;omega⟩⟩
   by_cases g:bc + 1 ≥ mg
   ·rw [if_pos g];exact wpS_pure R
   ·rw [if_neg g];exact wpS_pure ⟨rfl,R⟩
 ·rw [if_neg (by simpa using hlt)]
  refine wpS_bind (wpS_elem eq ?_)
  have M:MA a b (out.push q) (ia + 1) ib:=hM.pushA T.ra eq fun j h1 h2=>Int.le_trans (Int.not_lt.mp hlt) (riseK T.rb h1 h2)
  by_cases e:ia + 1 + 1=a.size
  ·rw [if_pos (by simpa using e)]
   exact wpS_pure ⟨hS,.inl ⟨_,rfl,M.last T e (by omega)⟩⟩
  ·rw [if_neg (by simpa using e)]
   have R:OkR a b (n + 1) st₀ (none,out.push q,ia + 1,ib,ac + 1,0) st:=⟨hS,.inr ⟨rfl,M,by dsimp only;omega,hB,by dsimp only;omega⟩⟩
   by_cases g:ac + 1 ≥ mg
   ·rw [if_pos g];exact wpS_pure R
   ·rw [if_neg g];exact wpS_pure ⟨rfl,R⟩
abbrev PG (a b:Array Keyed)(n:Nat)(st₀:SortSt)(r:ForInStep LoG)(st':SortSt):Prop:=match r with | .done c=>OkG a b n st₀ c st' | .yield c=>c.1=none∧OkG a b n st₀ c st'
theorem loG3_ok {st₀ st:SortSt}{a b out:Array Keyed}{mg ia ib ac bc n:Nat}(T:Two a b)(hS:Stay st₀ st)(hM:MA a b out ia ib)(hA:ia + 1 < a.size)(hB:ib < b.size)(hn:n≤ia + ib)(hx:∀ j,ib≤j→j < b.size → K a ia≤K b j) :
  wpS (model prog w) A E s (loG3 a b out ia ib mg ac bc) (PG a b n st₀) st:=by
 obtain ⟨q,eq,u,hq⟩:=at_some T.ia (show ia < a.size by omega)
 unfold loG3
 refine wpS_bind (wpS_elem eq ?_)
 have M:MA a b (out.push q) (ia + 1) ib:=hM.pushA T.ra eq hx
 by_cases e:ia + 1 + 1=a.size
 ·rw [if_pos (by simpa using e)]
  exact wpS_pure ⟨hS,.inl ⟨_,rfl,M.last T e (by omega)⟩⟩
 ·rw [if_neg (by simpa using e)]
  have R:OkG a b n st₀ (none,out.push q,ia + 1,ib,mg,ac,bc) st:=⟨hS,.inr ⟨rfl,M,by dsimp only;omega,hB,by dsimp only;omega⟩⟩
  by_cases g:(decide (ac < 7) && decide (bc < 7))=true
  ·rw [if_pos g];exact wpS_pure R
  ·rw [if_neg g];exact wpS_pure ⟨rfl,R⟩
theorem loG2_ok {st₀ st:SortSt}{a b out:Array Keyed}{mg ia ib ac bc n:Nat}(T:Two a b)(hk:kindOf st₀=Ranks.κ)(hS:Stay st₀ st)(hM:MA a b out ia ib)(hA:ia + 1 < a.size)(hB:ib < b.size)(hn:n≤ia + ib)(hx:∀ j,ia≤j→j < a.size → K b ib≤K a j) :
  wpS (model prog w) A E s (loG2 a b out ia ib mg ac bc) (PG a b n st₀) st:=by
 obtain ⟨p,ep,t,hp⟩:=at_some T.ib hB
 obtain ⟨q,eq,u,hq⟩:=at_some T.ia (show ia < a.size by omega)
 unfold loG2
 refine wpS_bind (wpS_elem ep ?_)
 have M:MA a b (out.push p) ia (ib + 1):=hM.pushB T.rb ep hx
 by_cases e:ib + 1=b.size
 ·rw [if_pos (by simpa using e)]
  exact wpS_pure ⟨hS,.inl ⟨_,rfl,M.doneB T e (by omega)⟩⟩
 ·rw [if_neg (by simpa using e)]
  refine wpS_bind (wpS_elem eq (wpS_bind (wpS_gallop (hS.kind hk) hq T.ib (by omega) (by omega) (fun i j h1 h2=>riseK T.rb (by omega) (by omega)) fun k hT=>?_)))
  obtain ⟨k1,k2,k3⟩:=turns_true hT
  dsimp only
  by_cases hk0:k > 0
  ·rw [if_pos hk0]
   have M2:=M.addB (k:=k) T.rb (by omega) fun i j h1 h2 h3 h4=>Int.le_of_lt (Int.lt_of_lt_of_le (by
    have:=k2 (i - (ib + 1)) (by omega)
    rwa [show ib + 1 + (i - (ib + 1))=i by omega] at this) (riseK T.ra h3 h4))
   by_cases e2:ib + 1 + k=b.size
   ·rw [if_pos (by simpa using e2)]
    exact wpS_pure ⟨hS,.inl ⟨_,rfl,M2.doneB T e2 (by omega)⟩⟩
   ·rw [if_neg (by simpa using e2)]
    exact loG3_ok T hS M2 hA (by omega) (by omega) fun j h1 h2=>by
     have:=k3 (j - (ib + 1)) (by omega) (by omega)
     rwa [show ib + 1 + (j - (ib + 1))=j by omega] at this
  ·rw [if_neg hk0]
   exact loG3_ok T hS M hA (by omega) (by omega) fun j h1 h2=>by
    have:=k3 (j - (ib + 1)) (by omega) (by omega)
    rwa [show ib + 1 + (j - (ib + 1))=j by omega] at this
theorem loG1_ok {st₀ st:SortSt}{a b out:Array Keyed}{mg ia ib ac bc n:Nat}(T:Two a b)(hk:kindOf st₀=Ranks.κ)(hS:Stay st₀ st)(hM:MA a b out ia ib)(hA:ia + 1 < a.size)(hB:ib < b.size)(hn:n≤ia + ib) :
  wpS (model prog w) A E s (loG1 a b out ia ib mg ac bc) (PG a b n st₀) st:=by
 obtain ⟨p,ep,t,hp⟩:=at_some T.ib hB
 unfold loG1
 refine wpS_bind (wpS_setG hS fun st' hS'=>wpS_bind (wpS_elem ep (wpS_bind (wpS_gallop (hS'.kind hk) hp T.ia (by omega) (by omega) (fun i j h1 h2=>riseK T.ra (by omega) (by omega)) fun k hT=>?_))))
 obtain ⟨k1,k2,k3⟩:=turns_false hT
 dsimp only
 by_cases hk0:k > 0
 ·rw [if_pos hk0]
  have M2:=hM.addA (k:=k) T.ra (by omega) fun i j h1 h2 h3 h4=>Int.le_trans (by
   have:=k2 (i - ia) (by omega)
   rwa [show ia + (i - ia)=i by omega] at this) (riseK T.rb h3 h4)
  by_cases e:ia + k + 1=a.size
  ·rw [if_pos (by simpa using e)]
   exact wpS_pure ⟨hS',.inl ⟨_,rfl,M2.last T e (by omega)⟩⟩
  ·rw [if_neg (by simpa using e)]
   by_cases e2:ia + k=a.size
   ·rw [if_pos (by simpa using e2)]
    exact wpS_pure ⟨hS',.inl ⟨_,rfl,M2.doneA T e2 (by omega)⟩⟩
   ·rw [if_neg (by simpa using e2)]
    exact loG2_ok T hk hS' M2 (by omega) hB (by omega) fun j h1 h2=>by
     have:=k3 (j - ia) (by omega) (by omega)
     rw [show ia + (j - ia)=j by omega] at this
     exact Int.le_of_lt this
 ·rw [if_neg hk0]
  exact loG2_ok T hk hS' hM hA hB hn fun j h1 h2=>by
   have:=k3 (j - ia) (by omega) (by omega)
   rw [show ia + (j - ia)=j by omega] at this
   exact Int.le_of_lt this
theorem loG_ok {st₀ st:SortSt}{a b out:Array Keyed}{mg ia ib ac bc n:Nat}(T:Two a b)(hk:kindOf st₀=Ranks.κ)(hS:Stay st₀ st)(hM:MA a b out ia ib)(hA:ia + 1 < a.size)(hB:ib < b.size)(hn:n≤ia + ib) :
  wpS (model prog w) A E s (loG a b out ia ib mg ac bc) (PG a b n st₀) st:=by
 unfold loG
 by_cases h:mg > 1
 ·rw [if_pos h];exact loG1_ok T hk hS hM hA hB hn
 ·rw [if_neg h];exact loG1_ok T hk hS hM hA hB hn
def OkO (a b:Array Keyed)(n:Nat)(st₀:SortSt)(c:LoO)(st:SortSt):Prop:=Stay st₀ st∧((∃ r,c.1=some r∧Merged a b r) ∨ (c.1=none∧MA a b c.2.1 c.2.2.1 c.2.2.2.1 ∧ c.2.2.1 + 1 < a.size ∧ c.2.2.2.1 < b.size ∧ n≤c.2.2.1 + c.2.2.2.1))
theorem loO_ok {st₀ st:SortSt}{a b out:Array Keyed}{mg ia ib n:Nat}(T:Two a b)(hk:kindOf st₀=Ranks.κ)(hS:Stay st₀ st)(hM:MA a b out ia ib)(hA:ia + 1 < a.size)(hB:ib < b.size)(hn:n≤ia + ib) :
  wpS (model prog w) A E s (loO a b out ia ib mg) (fun r st'=>match r with | .done c=>OkO a b (n + 1) st₀ c st'∧c.1 ≠ none | .yield c=>c.1=none∧OkO a b (n + 1) st₀ c st') st:=by
 unfold loO
 refine wpS_bind (wpS_mono (wpS_forRange (I:=fun x c st'=>c.1=none∧OkR a b (n + x) st₀ c st') (Q:=fun c st'=>OkR a b (n + 1) st₀ c st') ?_ ?_ ⟨rfl,hS,.inr ⟨rfl,hM,hA,hB,by dsimp only;omega⟩⟩) ?_)
 ·rintro x ⟨c0,o,i,j,ac,bc⟩ st' _ hx ⟨e,hS',z⟩
  rcases z with ⟨r,e',_⟩ | ⟨_,m,h1,h2,h3⟩
  ·rw [e'] at e;cases e
  ·refine wpS_mono (loR_ok T hk hS' m h1 h2 h3) fun r st2 hr=>?_
   have le:∀ c,OkR a b (n + x + 1) st₀ c st2→OkR a b (n + 1) st₀ c st2:=fun c hc=>⟨hc.1,hc.2.imp id fun ⟨q1,q2,q3,q4,q5⟩=>⟨q1,q2,q3,q4,by omega⟩⟩
   cases r with
   | done c=>exact le c hr
   | yield c=>exact hr
 ·rintro c st' ⟨e,hc⟩
  exact ⟨hc.1,hc.2.imp id fun ⟨q1,q2,q3,q4,q5⟩=>⟨q1,q2,q3,q4,by omega⟩⟩
 ·rintro ⟨c0,o,i,j,ac,bc⟩ st' ⟨hS',z⟩
  rcases z with ⟨r,e,hr⟩ | ⟨e,m,h1,h2,h3⟩
  ·dsimp only at e
   subst e
   exact wpS_pure ⟨⟨hS',.inl ⟨r,rfl,hr⟩⟩,by simp⟩
  ·dsimp only at e
   subst e
   dsimp only
   refine wpS_bind (wpS_lift (wpAny_rule ⟨rfl,?_⟩))
   refine wpS_bind (wpS_mono (wpS_forRange (I:=fun x c st'=>c.1=none∧OkG a b (n + 1) st₀ c st') (Q:=fun c st'=>OkG a b (n + 1) st₀ c st') ?_ ?_ ⟨rfl,hS',.inr ⟨rfl,m,h1,h2,h3⟩⟩) ?_)
   ·rintro x ⟨c0,o,i,j,mg,ac,bc⟩ st' _ hx ⟨e,hS',z⟩
    rcases z with ⟨r,e',_⟩ | ⟨_,m,h1,h2,h3⟩
    ·rw [e'] at e;cases e
    ·refine wpS_mono (loG_ok T hk hS' m h1 h2 h3) fun r st2 hr=>?_
     cases r with
     | done c=>exact hr
     | yield c=>exact hr
   ·exact fun c st' hc=>hc.2
   ·rintro ⟨c0,o,i,j,mg,ac,bc⟩ st' ⟨hS',z⟩
    rcases z with ⟨r,e,hr⟩ | ⟨e,m,h1,h2,h3⟩
    ·dsimp only at e
     subst e
     exact wpS_pure ⟨⟨hS',.inl ⟨r,rfl,hr⟩⟩,by simp⟩
    ·dsimp only at e
     subst e
     dsimp only
     exact wpS_bind (wpS_setG hS' fun st2 hS2=>wpS_pure ⟨rfl,hS2,.inr ⟨rfl,m,h1,h2,h3⟩⟩)
theorem wpS_mergeLo {st:SortSt}{a b:Array Keyed}{Q:Array Keyed→SortSt→Prop}(T:Two a b)(hk:kindOf st=Ranks.κ)(h:∀ r st',Stay st st'→Merged a b r→Q r st'):wpS (model prog w) A E s (mergeLo' a b) Q st:=by
 rw [mergeLo'_eq]
 obtain ⟨p,ep,t,hp⟩:=at_some T.ib (show 0 < b.size by have:=T.nb;omega)
 have hna:=T.na
 have hnb:=T.nb
 refine wpS_bind (wpS_lift (wpAny_rule ⟨rfl,wpS_bind (wpS_elem ep ?_)⟩))
 have M:MA a b #[p] 0 1:=(show MA a b #[] 0 0 from MI.nil).pushB T.rb ep fun j _ hj=>Int.le_of_lt (T.first hj)
 by_cases e1:1=b.size
 ·rw [if_pos (by simpa using e1)]
  exact wpS_pure (h _ _ Stay.rfl (M.doneB T e1 (by omega)))
 ·rw [if_neg (by simpa using e1)]
  by_cases e2:0 + 1=a.size
  ·rw [if_pos (by simpa using e2)]
   exact wpS_pure (h _ _ Stay.rfl (M.last T e2 (by omega)))
  ·rw [if_neg (by simpa using e2)]
   refine wpS_bind (wpS_get ?_)
   refine wpS_bind (wpS_mono (wpS_forRange (I:=fun x c st'=>c.1=none∧OkO a b (x + 1) st c st') (Q:=fun c st'=>OkO a b 0 st c st'∧c.1 ≠ none) ?_ ?_ ⟨rfl,Stay.rfl,.inr ⟨rfl,M,by dsimp only;omega,by dsimp only;omega,by dsimp only;omega⟩⟩) ?_)
   ·rintro x ⟨c0,o,i,j,mg⟩ st' _ hx ⟨e,hS',z⟩
    rcases z with ⟨r,e',_⟩ | ⟨_,m,h1,h2,h3⟩
    ·rw [e'] at e;cases e
    ·refine wpS_mono (loO_ok T hk hS' m h1 h2 h3) fun r st2 hr=>?_
     cases r with
     | done c=>exact ⟨⟨hr.1.1,hr.1.2.imp id fun ⟨q1,q2,q3,q4,q5⟩=>⟨q1,q2,q3,q4,by omega⟩⟩,hr.2⟩
     | yield c=>exact hr
   ·rintro ⟨c0,o,i,j,mg⟩ st' ⟨e,hS',z⟩
    rcases z with ⟨r,e',_⟩ | ⟨_,m,h1,h2,h3⟩
    ·rw [e'] at e;cases e
    ·dsimp only at h1 h2 h3
     exfalso;omega
   ·rintro ⟨c0,o,i,j,mg⟩ st' ⟨⟨hS',z⟩,hne⟩
    rcases z with ⟨r,e,hr⟩ | ⟨e,_⟩
    ·dsimp only at e
     subst e
     exact wpS_pure (h _ _ hS' hr)
    ·exact absurd e hne
end
end MwSortR
set_option maxHeartbeats 2000000
namespace MwSortR
open PySem PyProof.Rows
variable [Ranks]
def mergeHi':Array Keyed→Array Keyed→StateT SortSt Sem (Array Keyed):=sortPriv% PySem.Builtin.mergeHi
abbrev HiR:=Option (Array Keyed) × Nat × Nat × Array Keyed × Nat × Nat
abbrev HiG:=Option (Array Keyed) × Nat × Nat × Array Keyed × Nat × Nat × Nat
abbrev HiO:=Option (Array Keyed) × Nat × Nat × Array Keyed × Nat
def gDone (a b out:Array Keyed)(na nb:Nat):Array Keyed:=a.extract 0 na ++ b.extract 0 nb ++ out.reverse
def gFirst (a b out:Array Keyed)(na nb:Nat):Array Keyed:=b.extract 0 nb ++ a.extract 0 na ++ out.reverse
def hiR (a b:Array Keyed)(mg:Nat)(out:Array Keyed)(na nb ac bc:Nat):StateT SortSt Sem (ForInStep HiR):=do
 let p ← elem' b (nb - 1)
 let q ← elem' a (na - 1)
 let r ← lt' p q
 match r with
 | some t =>
  if t=true then do
   let z ← elem' a (na - 1)
   if (na - 1 == 0)=true then pure (.done (some (gDone a b (out.push z) (na - 1) nb),na - 1,nb,out.push z,ac + 1,0))
   else if ac + 1 ≥ mg then pure (.done (none,na - 1,nb,out.push z,ac + 1,0))
   else pure (.yield (none,na - 1,nb,out.push z,ac + 1,0))
  else do
   let z ← elem' b (nb - 1)
   if (nb - 1 == 1)=true then pure (.done (some (gFirst a b (out.push z) na (nb - 1)),na,nb - 1,out.push z,0,bc + 1))
   else if bc + 1 ≥ mg then pure (.done (none,na,nb - 1,out.push z,0,bc + 1))
   else pure (.yield (none,na,nb - 1,out.push z,0,bc + 1))
 | _=>pure (.done (some (gDone a b out na nb),na,nb,out,ac,bc))
def hiG3 (a b:Array Keyed)(out:Array Keyed)(na nb mg ac bc:Nat):StateT SortSt Sem (ForInStep HiG):=do
 let z ← elem' a (na - 1)
 if (na - 1 == 0)=true then pure (.done (some (gDone a b (out.push z) (na - 1) nb),na - 1,nb,out.push z,mg,ac,bc))
 else if (decide (ac < 7) && decide (bc < 7))=true then pure (.done (none,na - 1,nb,out.push z,mg,ac,bc))
 else pure (.yield (none,na - 1,nb,out.push z,mg,ac,bc))
def hiG2 (a b:Array Keyed)(out:Array Keyed)(na nb mg ac bc:Nat):StateT SortSt Sem (ForInStep HiG):=do
 let z ← elem' b (nb - 1)
 if (nb - 1 == 1)=true then pure (.done (some (gFirst a b (out.push z) na (nb - 1)),na,nb - 1,out.push z,mg,ac,bc))
 else do
  let y ← elem' a (na - 1)
  let r ← gallop' true y b 0 (nb - 1) (nb - 1 - 1)
  match r with
  | some p =>
   if nb - 1 - p > 0 then
    if (p == 1)=true then pure (.done (some (gFirst a b (out.push z ++ (b.extract p (nb - 1)).reverse) na p),na,p,out.push z ++ (b.extract p (nb - 1)).reverse,mg,ac,nb - 1 - p))
    else if (p == 0)=true then pure (.done (some (gDone a b (out.push z ++ (b.extract p (nb - 1)).reverse) na p),na,p,out.push z ++ (b.extract p (nb - 1)).reverse,mg,ac,nb - 1 - p))
    else hiG3 a b (out.push z ++ (b.extract p (nb - 1)).reverse) na p mg ac (nb - 1 - p)
   else hiG3 a b (out.push z) na (nb - 1) mg ac (nb - 1 - p)
  | _=>pure (.done (some (gDone a b (out.push z) na (nb - 1)),na,nb - 1,out.push z,mg,ac,bc))
def hiG1 (a b:Array Keyed)(out:Array Keyed)(na nb mg ac bc:Nat):StateT SortSt Sem (ForInStep HiG):=do
 setG' mg
 let y ← elem' b (nb - 1)
 let r ← gallop' false y a 0 na (na - 1)
 match r with
 | some p =>
  if na - p > 0 then
   if (p == 0)=true then pure (.done (some (gDone a b (out ++ (a.extract p na).reverse) p nb),p,nb,out ++ (a.extract p na).reverse,mg,na - p,bc))
   else hiG2 a b (out ++ (a.extract p na).reverse) p nb mg (na - p) bc
  else hiG2 a b out na nb mg (na - p) bc
 | _=>pure (.done (some (gDone a b out na nb),na,nb,out,mg,ac,bc))
def hiG (a b:Array Keyed)(out:Array Keyed)(na nb mg ac bc:Nat):StateT SortSt Sem (ForInStep HiG) :=
 if mg > 1 then hiG1 a b out na nb (mg - 1) ac bc else hiG1 a b out na nb mg ac bc
def hiO (a b:Array Keyed)(na nb:Nat)(out:Array Keyed)(mg:Nat):StateT SortSt Sem (ForInStep HiO):=do
 let c ← forIn [:a.size + b.size] ((none,na,nb,out,0,0):HiR) fun _ c=>hiR a b mg c.2.2.2.1 c.2.1 c.2.2.1 c.2.2.2.2.1 c.2.2.2.2.2
 match c.1 with
 | some r=>pure (.done (some r,c.2.1,c.2.2.1,c.2.2.2.1,mg))
 | none=>do
  liftM (rule "list.sort.gallop")
  let d ← forIn [:a.size + b.size] ((none,c.2.1,c.2.2.1,c.2.2.2.1,mg + 1,c.2.2.2.2.1,c.2.2.2.2.2):HiG) fun _ d=>hiG a b d.2.2.2.1 d.2.1 d.2.2.1 d.2.2.2.2.1 d.2.2.2.2.2.1 d.2.2.2.2.2.2
  match d.1 with
  | some r=>pure (.done (some r,d.2.1,d.2.2.1,d.2.2.2.1,d.2.2.2.2.1))
  | none=>do
   setG' (d.2.2.2.2.1 + 1)
   pure (.yield (none,d.2.1,d.2.2.1,d.2.2.2.1,d.2.2.2.2.1 + 1))
theorem mergeHi'_eq (a b:Array Keyed):mergeHi' a b=(do
  liftM (rule "list.sort.merge-hi")
  let z ← elem' a (a.size - 1)
  if (a.size - 1 == 0)=true then pure (gDone a b #[z] (a.size - 1) b.size)
  else if (b.size == 1)=true then pure (gFirst a b #[z] (a.size - 1) b.size)
  else do
   let g ← get
   let c ← forIn [:a.size + b.size] ((none,a.size - 1,b.size,#[z],gallopOf g):HiO) fun _ c=>hiO a b c.2.1 c.2.2.1 c.2.2.2.1 c.2.2.2.2
   match c.1 with
   | some r=>pure r
   | none=>liftM (unsupported "internal:list.sort.merge-bound" : Sem (Array Keyed))):=by
 refine bindC rfl fun u=>bindC rfl fun z=>ite_congr rfl (fun _=>rfl) fun _=>ite_congr rfl (fun _=>rfl) fun _=>bindC rfl fun g=>bindC (forC fun x c=>bindC rfl fun d=>?_) fun c=>?_
 ·obtain ⟨d1,d2⟩:=d
  cases d1 with
  | some r=>rfl
  | none =>
   refine bindC rfl fun v=>bindC rfl fun d=>?_
   obtain ⟨d1,d2⟩:=d
   cases d1 with
   | some r=>rfl
   | none=>rfl
 ·obtain ⟨c1,c2⟩:=c
  cases c1 with
  | some r=>rfl
  | none=>rfl
abbrev MB (a b out:Array Keyed)(na nb:Nat):Prop:=MH a.toList b.toList out.toList na nb
theorem MB.swap {a b out:Array Keyed}{na nb:Nat}(h:MB a b out na nb):MB b a out nb na:=MH.swap h
theorem MB.addA {a b out:Array Keyed}{na nb p:Nat}(h:MB a b out na nb)(ra:Rise a.toList)(hp:p≤na)(hx:∀ i j,p≤i→i < na→j < nb→i < a.size → j < b.size → K b j≤K a i):MB a b (out ++ (a.extract p na).reverse) p nb:=by
 have:=MH.moreA (p:=p) h ra hp (fun x hx' y hy=>by
  obtain ⟨n,hn,n1,n2,rfl⟩:=mem_seg hy
  obtain ⟨m,hm,m1,rfl⟩:=mem_first hx'
  rw [kf_at,kf_at]
  exact hx n m n1 (by omega) m1 (by simpa using hn) (by simpa using hm))
 show MH _ _ _ _ _
 rw [Array.toList_append,Array.toList_reverse,Array.toList_extract,List.extract_eq_take_drop]
 exact this
theorem MB.addB {a b out:Array Keyed}{na nb p:Nat}(h:MB a b out na nb)(rb:Rise b.toList)(hp:p≤nb)(hx:∀ i j,p≤i→i < nb→j < na→i < b.size → j < a.size → K a j≤K b i):MB a b (out ++ (b.extract p nb).reverse) na p:=(h.swap.addA rb hp hx).swap
theorem push_rev {a out:Array Keyed}{n:Nat}{z:Keyed}(h1:1≤n)(h:a[n - 1]? = some z):out.push z=out ++ (a.extract (n - 1) n).reverse:=by
 have e:=push_ext (out:=#[]) h
 rw [show n - 1 + 1=n by omega] at e
 have e2:a.extract (n - 1) n = #[z]:=by
  rw [Array.empty_append] at e
  exact e.symm
 rw [e2]
 rfl
theorem MB.pushA {a b out:Array Keyed}{na nb:Nat}{z:Keyed}(h:MB a b out na nb)(ra:Rise a.toList)(h1:1≤na)(hz:a[na - 1]? = some z)(hx:∀ j,j < nb→j < b.size → K b j≤K a (na - 1)):MB a b (out.push z) (na - 1) nb:=by
 rw [push_rev h1 hz]
 exact h.addA ra (by omega) fun i j g1 g2 g3 g4 g5=>by
  have:i=na - 1:=by omega
  rw [this];exact hx j g3 g5
theorem MB.pushB {a b out:Array Keyed}{na nb:Nat}{z:Keyed}(h:MB a b out na nb)(rb:Rise b.toList)(h1:1≤nb)(hz:b[nb - 1]? = some z)(hx:∀ j,j < na→j < a.size → K a j≤K b (nb - 1)):MB a b (out.push z) na (nb - 1):=(h.swap.pushA rb h1 hz hx).swap
theorem ext_first (a:Array Keyed)(i:Nat):(a.extract 0 i).toList=a.toList.take i:=by
 rw [Array.toList_extract,List.extract_eq_take_drop]
 simp
theorem MB.doneA {a b out:Array Keyed}{na nb:Nat}(T:Two a b)(h:MB a b out na nb)(e:na=0)(hi:nb≤b.size):Merged a b (gDone a b out na nb):=by
 subst e
 unfold Merged gDone
 rw [Array.toList_append,Array.toList_append,ext_first,ext_first,Array.toList_reverse,List.take_zero,List.nil_append]
 exact MH.restB h T.rb (by simpa using hi)
theorem MB.doneB {a b out:Array Keyed}{na nb:Nat}(T:Two a b)(h:MB a b out na nb)(e:nb=0)(hi:na≤a.size):Merged a b (gDone a b out na nb):=by
 subst e
 unfold Merged gDone
 rw [Array.toList_append,Array.toList_append,ext_first,ext_first,Array.toList_reverse,List.take_zero,List.append_nil]
 exact MH.restA h T.ra (by simpa using hi)
theorem MB.first {a b out:Array Keyed}{na nb:Nat}(T:Two a b)(h:MB a b out na nb)(e:nb=1)(hi:na≤a.size):Merged a b (gFirst a b out na nb):=by
 unfold Merged gFirst
 rw [Array.toList_append,Array.toList_append,ext_first,ext_first,Array.toList_reverse]
 have hnb:=T.nb
 refine MH.firstB h T.ra T.rb (by simpa using hi) (by simp;omega) fun x hx y hy=>?_
 obtain ⟨n,hn,n1,rfl⟩:=mem_first hx
 obtain ⟨m,hm,m1,rfl⟩:=mem_first hy
 rw [kf_at,kf_at]
 have:n=0:=by omega
 rw [this]
 exact Int.le_of_lt (T.first (by simpa using hm))
section
variable {prog:Program}{w:World}{A:Around}{E:Value→Shared→Prop}{s:Shared}[CmpOk prog w A s]
def Left (a b:Array Keyed)(n:Nat)(out:Array Keyed)(na nb:Nat):Prop:=MB a b out na nb∧1≤na∧na≤a.size ∧ 2≤nb∧nb≤b.size ∧ na + nb + n≤a.size + b.size
theorem Left.le {a b:Array Keyed}{n m:Nat}{out:Array Keyed}{na nb:Nat}(h:Left a b n out na nb)(hm:m≤n):Left a b m out na nb:=⟨h.1,h.2.1,h.2.2.1,h.2.2.2.1,h.2.2.2.2.1,by have:=h.2.2.2.2.2;omega⟩
def HkR (a b:Array Keyed)(n:Nat)(st₀:SortSt)(c:HiR)(st:SortSt):Prop:=Stay st₀ st∧((∃ r,c.1=some r∧Merged a b r) ∨ (c.1=none∧Left a b n c.2.2.2.1 c.2.1 c.2.2.1))
def HkG (a b:Array Keyed)(n:Nat)(st₀:SortSt)(c:HiG)(st:SortSt):Prop:=Stay st₀ st∧((∃ r,c.1=some r∧Merged a b r) ∨ (c.1=none∧Left a b n c.2.2.2.1 c.2.1 c.2.2.1))
def HkO (a b:Array Keyed)(n:Nat)(st₀:SortSt)(c:HiO)(st:SortSt):Prop:=Stay st₀ st∧((∃ r,c.1=some r∧Merged a b r) ∨ (c.1=none∧Left a b n c.2.2.2.1 c.2.1 c.2.2.1))
theorem hiR_ok {st₀ st:SortSt}{a b out:Array Keyed}{mg na nb ac bc n:Nat}(T:Two a b)(hk:kindOf st₀=Ranks.κ)(hS:Stay st₀ st)(hL:Left a b n out na nb) :
  wpS (model prog w) A E s (hiR a b mg out na nb ac bc) (fun r st'=>match r with | .done c=>HkR a b (n + 1) st₀ c st' | .yield c=>c.1=none∧HkR a b (n + 1) st₀ c st') st:=by
 obtain ⟨hM,a1,a2,b1,b2,hn⟩:=hL
 obtain ⟨p,ep,t,hp⟩:=at_some T.ib (show nb - 1 < b.size by omega)
 obtain ⟨q,eq,u,hq⟩:=at_some T.ia (show na - 1 < a.size by omega)
 unfold hiR
 refine wpS_bind (wpS_elem ep (wpS_bind (wpS_elem eq (wpS_bind (wpS_lt2 (hS.kind hk) hp hq ?_)))))
 dsimp only
 by_cases hlt:K b (nb - 1) < K a (na - 1)
 ·rw [if_pos (by simpa using hlt)]
  refine wpS_bind (wpS_elem eq ?_)
  have M:MB a b (out.push q) (na - 1) nb:=hM.pushA T.ra a1 eq fun j h1 h2=>Int.le_of_lt (Int.lt_of_le_of_lt (riseK T.rb (show j≤nb - 1 by omega) (by omega)) hlt)
  by_cases e:na - 1=0
  ·rw [if_pos (by simpa using e)]
   exact wpS_pure ⟨hS,.inl ⟨_,rfl,M.doneA T e (by omega)⟩⟩
  ·rw [if_neg (by simpa using e)]
   have R:HkR a b (n + 1) st₀ (none,na - 1,nb,out.push q,ac + 1,0) st:=⟨hS,.inr ⟨rfl,M,by dsimp only;omega,by dsimp only;omega,b1,b2,by dsimp only;omega⟩⟩
   by_cases g:ac + 1 ≥ mg
   ·rw [if_pos g];exact wpS_pure R
   ·rw [if_neg g];exact wpS_pure ⟨rfl,R⟩
 ·rw [if_neg (by simpa using hlt)]
  refine wpS_bind (wpS_elem ep ?_)
  have M:MB a b (out.push p) na (nb - 1):=hM.pushB T.rb (by omega) ep fun j h1 h2=>Int.le_trans (riseK T.ra (show j≤na - 1 by omega) (by omega)) (Int.not_lt.mp hlt)
  by_cases e:nb - 1=1
  ·rw [if_pos (by simpa using e)]
   exact wpS_pure ⟨hS,.inl ⟨_,rfl,M.first T e (by omega)⟩⟩
  ·rw [if_neg (by simpa using e)]
   have R:HkR a b (n + 1) st₀ (none,na,nb - 1,out.push p,0,bc + 1) st:=⟨hS,.inr ⟨rfl,M,a1,a2,by dsimp only;omega,by dsimp only;omega,by dsimp only;omega⟩⟩
   by_cases g:bc + 1 ≥ mg
   ·rw [if_pos g];exact wpS_pure R
   ·rw [if_neg g];exact wpS_pure ⟨rfl,R⟩
abbrev PH (a b:Array Keyed)(n:Nat)(st₀:SortSt)(r:ForInStep HiG)(st':SortSt):Prop:=match r with | .done c=>HkG a b n st₀ c st' | .yield c=>c.1=none∧HkG a b n st₀ c st'
theorem hiG3_ok {st₀ st:SortSt}{a b out:Array Keyed}{mg na nb ac bc n:Nat}(T:Two a b)(hS:Stay st₀ st)(hL:Left a b n out na nb)(hx:∀ j,j < nb→j < b.size → K b j≤K a (na - 1)) :
  wpS (model prog w) A E s (hiG3 a b out na nb mg ac bc) (PH a b n st₀) st:=by
 obtain ⟨hM,a1,a2,b1,b2,hn⟩:=hL
 obtain ⟨q,eq,u,hq⟩:=at_some T.ia (show na - 1 < a.size by omega)
 unfold hiG3
 refine wpS_bind (wpS_elem eq ?_)
 have M:MB a b (out.push q) (na - 1) nb:=hM.pushA T.ra a1 eq hx
 by_cases e:na - 1=0
 ·rw [if_pos (by simpa using e)]
  exact wpS_pure ⟨hS,.inl ⟨_,rfl,M.doneA T e (by omega)⟩⟩
 ·rw [if_neg (by simpa using e)]
  have R:HkG a b n st₀ (none,na - 1,nb,out.push q,mg,ac,bc) st:=⟨hS,.inr ⟨rfl,M,by dsimp only;omega,by dsimp only;omega,b1,b2,by dsimp only;omega⟩⟩
  by_cases g:(decide (ac < 7) && decide (bc < 7))=true
  ·rw [if_pos g];exact wpS_pure R
  ·rw [if_neg g];exact wpS_pure ⟨rfl,R⟩
theorem hiG2_ok {st₀ st:SortSt}{a b out:Array Keyed}{mg na nb ac bc n:Nat}(T:Two a b)(hk:kindOf st₀=Ranks.κ)(hS:Stay st₀ st)(hL:Left a b n out na nb)(hx:∀ j,j < na→j < a.size → K a j≤K b (nb - 1)) :
  wpS (model prog w) A E s (hiG2 a b out na nb mg ac bc) (PH a b n st₀) st:=by
 obtain ⟨hM,a1,a2,b1,b2,hn⟩:=hL
 obtain ⟨p,ep,t,hp⟩:=at_some T.ib (show nb - 1 < b.size by omega)
 obtain ⟨q,eq,u,hq⟩:=at_some T.ia (show na - 1 < a.size by omega)
 unfold hiG2
 refine wpS_bind (wpS_elem ep ?_)
 have M:MB a b (out.push p) na (nb - 1):=hM.pushB T.rb (by omega) ep hx
 by_cases e:nb - 1=1
 ·rw [if_pos (by simpa using e)]
  exact wpS_pure ⟨hS,.inl ⟨_,rfl,M.first T e (by omega)⟩⟩
 ·rw [if_neg (by simpa using e)]
  refine wpS_bind (wpS_elem eq (wpS_bind (wpS_gallop (hS.kind hk) hq T.ib (by omega) (by omega) (fun i j h1 h2=>riseK T.rb (by omega) (by omega)) fun k hT=>?_)))
  obtain ⟨k1,k2,k3⟩:=turns_true hT
  simp only [Nat.zero_add] at k2 k3
  dsimp only
  by_cases hk0:nb - 1 - k > 0
  ·rw [if_pos hk0]
   have M2:=M.addB (p:=k) T.rb (by omega) fun i j h1 h2 h3 h4 h5=>Int.le_trans (riseK T.ra (show j≤na - 1 by omega) (by omega)) (k3 i h1 h2)
   by_cases e1:k=1
   ·rw [if_pos (by simpa using e1)]
    exact wpS_pure ⟨hS,.inl ⟨_,rfl,M2.first T e1 (by omega)⟩⟩
   ·rw [if_neg (by simpa using e1)]
    by_cases e2:k=0
    ·rw [if_pos (by simpa using e2)]
     exact wpS_pure ⟨hS,.inl ⟨_,rfl,M2.doneB T e2 (by omega)⟩⟩
    ·rw [if_neg (by simpa using e2)]
     exact hiG3_ok T hS ⟨M2,a1,a2,by omega,by omega,by omega⟩ fun j h1 h2=>Int.le_of_lt (k2 j h1)
  ·rw [if_neg hk0]
   exact hiG3_ok T hS ⟨M,a1,a2,by omega,by omega,by omega⟩ fun j h1 h2=>Int.le_of_lt (k2 j (by omega))
theorem hiG1_ok {st₀ st:SortSt}{a b out:Array Keyed}{mg na nb ac bc n:Nat}(T:Two a b)(hk:kindOf st₀=Ranks.κ)(hS:Stay st₀ st)(hL:Left a b n out na nb) :
  wpS (model prog w) A E s (hiG1 a b out na nb mg ac bc) (PH a b n st₀) st:=by
 obtain ⟨hM,a1,a2,b1,b2,hn⟩:=id hL
 obtain ⟨p,ep,t,hp⟩:=at_some T.ib (show nb - 1 < b.size by omega)
 unfold hiG1
 refine wpS_bind (wpS_setG hS fun st' hS'=>wpS_bind (wpS_elem ep (wpS_bind (wpS_gallop (hS'.kind hk) hp T.ia (by omega) (by omega) (fun i j h1 h2=>riseK T.ra (by omega) (by omega)) fun k hT=>?_))))
 obtain ⟨k1,k2,k3⟩:=turns_false hT
 simp only [Nat.zero_add] at k2 k3
 dsimp only
 by_cases hk0:na - k > 0
 ·rw [if_pos hk0]
  have M2:=hM.addA (p:=k) T.ra (by omega) fun i j h1 h2 h3 h4 h5=>Int.le_of_lt (Int.lt_of_le_of_lt (riseK T.rb (show j≤nb - 1 by omega) (by omega)) (k3 i h1 h2))
  by_cases e:k=0
  ·rw [if_pos (by simpa using e)]
   exact wpS_pure ⟨hS',.inl ⟨_,rfl,M2.doneA T e (by omega)⟩⟩
  ·rw [if_neg (by simpa using e)]
   exact hiG2_ok T hk hS' ⟨M2,by omega,by omega,b1,b2,by omega⟩ fun j h1 h2=>k2 j h1
 ·rw [if_neg hk0]
  exact hiG2_ok T hk hS' hL fun j h1 h2=>k2 j (by omega)
theorem hiG_ok {st₀ st:SortSt}{a b out:Array Keyed}{mg na nb ac bc n:Nat}(T:Two a b)(hk:kindOf st₀=Ranks.κ)(hS:Stay st₀ st)(hL:Left a b n out na nb) :
  wpS (model prog w) A E s (hiG a b out na nb mg ac bc) (PH a b n st₀) st:=by
 unfold hiG
 by_cases h:mg > 1
 ·rw [if_pos h];exact hiG1_ok T hk hS hL
 ·rw [if_neg h];exact hiG1_ok T hk hS hL
theorem hiO_ok {st₀ st:SortSt}{a b out:Array Keyed}{mg na nb n:Nat}(T:Two a b)(hk:kindOf st₀=Ranks.κ)(hS:Stay st₀ st)(hL:Left a b n out na nb) :
  wpS (model prog w) A E s (hiO a b na nb out mg) (fun r st'=>match r with | .done c=>HkO a b (n + 1) st₀ c st'∧c.1 ≠ none | .yield c=>c.1=none∧HkO a b (n + 1) st₀ c st') st:=by
 have hna:=T.na
 unfold hiO
 refine wpS_bind (wpS_mono (wpS_forRange (I:=fun x c st'=>c.1=none∧HkR a b (n + x) st₀ c st') (Q:=fun c st'=>HkR a b (n + 1) st₀ c st') ?_ ?_ ⟨rfl,hS,.inr ⟨rfl,hL⟩⟩) ?_)
 ·rintro x ⟨c0,i,j,o,ac,bc⟩ st' _ hx ⟨e,hS',z⟩
  rcases z with ⟨r,e',_⟩ | ⟨_,l⟩
  ·rw [e'] at e;cases e
  ·refine wpS_mono (hiR_ok T hk hS' l) fun r st2 hr=>?_
   cases r with
   | done c=>exact ⟨hr.1,hr.2.imp id fun ⟨q1,q2⟩=>⟨q1,q2.le (by omega)⟩⟩
   | yield c=>exact hr
 ·rintro c st' ⟨e,hc⟩
  exact ⟨hc.1,hc.2.imp id fun ⟨q1,q2⟩=>⟨q1,q2.le (by omega)⟩⟩
 ·rintro ⟨c0,i,j,o,ac,bc⟩ st' ⟨hS',z⟩
  rcases z with ⟨r,e,hr⟩ | ⟨e,l⟩
  ·dsimp only at e
   subst e
   exact wpS_pure ⟨⟨hS',.inl ⟨r,rfl,hr⟩⟩,by simp⟩
  ·dsimp only at e
   subst e
   dsimp only
   refine wpS_bind (wpS_lift (wpAny_rule ⟨rfl,?_⟩))
   refine wpS_bind (wpS_mono (wpS_forRange (I:=fun x c st'=>c.1=none∧HkG a b (n + 1) st₀ c st') (Q:=fun c st'=>HkG a b (n + 1) st₀ c st') ?_ ?_ ⟨rfl,hS',.inr ⟨rfl,l⟩⟩) ?_)
   ·rintro x ⟨c0,i,j,o,mg,ac,bc⟩ st' _ hx ⟨e,hS',z⟩
    rcases z with ⟨r,e',_⟩ | ⟨_,l⟩
    ·rw [e'] at e;cases e
    ·refine wpS_mono (hiG_ok T hk hS' l) fun r st2 hr=>?_
     cases r with
     | done c=>exact hr
     | yield c=>exact hr
   ·exact fun c st' hc=>hc.2
   ·rintro ⟨c0,i,j,o,mg,ac,bc⟩ st' ⟨hS',z⟩
    rcases z with ⟨r,e,hr⟩ | ⟨e,l⟩
    ·dsimp only at e
     subst e
     exact wpS_pure ⟨⟨hS',.inl ⟨r,rfl,hr⟩⟩,by simp⟩
    ·dsimp only at e
     subst e
     dsimp only
     exact wpS_bind (wpS_setG hS' fun st2 hS2=>wpS_pure ⟨rfl,hS2,.inr ⟨rfl,l⟩⟩)
theorem wpS_mergeHi {st:SortSt}{a b:Array Keyed}{Q:Array Keyed→SortSt→Prop}(T:Two a b)(hk:kindOf st=Ranks.κ)(h:∀ r st',Stay st st'→Merged a b r→Q r st'):wpS (model prog w) A E s (mergeHi' a b) Q st:=by
 rw [mergeHi'_eq]
 have hna:=T.na
 have hnb:=T.nb
 obtain ⟨p,ep,t,hp⟩:=at_some T.ia (show a.size - 1 < a.size by omega)
 refine wpS_bind (wpS_lift (wpAny_rule ⟨rfl,wpS_bind (wpS_elem ep ?_)⟩))
 have M0:MB a b #[] a.size b.size:=by
  have:=MH.nil (a:=a.toList) (b:=b.toList)
  simpa using this
 have M:MB a b #[p] (a.size - 1) b.size:=M0.pushA T.ra hna ep fun j _ hj=>Int.le_of_lt (T.last hj)
 by_cases e1:a.size - 1=0
 ·rw [if_pos (by simpa using e1)]
  exact wpS_pure (h _ _ Stay.rfl (M.doneA T e1 (by omega)))
 ·rw [if_neg (by simpa using e1)]
  by_cases e2:b.size=1
  ·rw [if_pos (by simpa using e2)]
   exact wpS_pure (h _ _ Stay.rfl (M.first T e2 (by omega)))
  ·rw [if_neg (by simpa using e2)]
   refine wpS_bind (wpS_get ?_)
   refine wpS_bind (wpS_mono (wpS_forRange (I:=fun x c st'=>c.1=none∧HkO a b (x + 1) st c st') (Q:=fun c st'=>HkO a b 0 st c st'∧c.1 ≠ none) ?_ ?_ ⟨rfl,Stay.rfl,.inr ⟨rfl,M,by dsimp only;omega,by dsimp only;omega,by dsimp only;omega,by dsimp only;omega,by dsimp only;omega⟩⟩) ?_)
   ·rintro x ⟨c0,i,j,o,mg⟩ st' _ hx ⟨e,hS',z⟩
    rcases z with ⟨r,e',_⟩ | ⟨_,l⟩
    ·rw [e'] at e;cases e
    ·refine wpS_mono (hiO_ok T hk hS' l) fun r st2 hr=>?_
     cases r with
     | done c=>exact ⟨⟨hr.1.1,hr.1.2.imp id fun ⟨q1,q2⟩=>⟨q1,q2.le (by omega)⟩⟩,hr.2⟩
     | yield c=>exact hr
   ·rintro ⟨c0,i,j,o,mg⟩ st' ⟨e,hS',z⟩
    rcases z with ⟨r,e',_⟩ | ⟨_,l⟩
    ·rw [e'] at e;cases e
    ·obtain ⟨_,l1,l2,l3,l4,l5⟩:=l
     dsimp only at l1 l2 l3 l4 l5
     exfalso;omega
   ·rintro ⟨c0,i,j,o,mg⟩ st' ⟨⟨hS',z⟩,hne⟩
    rcases z with ⟨r,e,hr⟩ | ⟨e,_⟩
    ·dsimp only at e
     subst e
     exact wpS_pure (h _ _ hS' hr)
    ·exact absurd e hne
end
end MwSortR
set_option maxHeartbeats 2000000
namespace MwSortR
open PySem PyProof.Rows
variable [Ranks]
def lay (at_:Nat)(l:List (Keyed × Nat))(xs:Array Keyed):Array Keyed:=l.foldl (fun z (p,j)=>z.setIfInBounds (at_ + j) p) xs
theorem lay_cons (at_:Nat)(p:Keyed)(j:Nat)(l:List (Keyed × Nat))(xs:Array Keyed):lay at_ ((p,j) :: l) xs=lay at_ l (xs.setIfInBounds (at_ + j) p):=rfl
theorem lay_get {at_:Nat}:∀ (l:List Keyed) (n:Nat) (xs:Array Keyed),at_ + n + l.length ≤ xs.size → ∀ k,(lay at_ (l.zipIdx n) xs)[k]? = if at_ + n≤k∧k < at_ + n + l.length then l[k - (at_ + n)]? else xs[k]?
 | [],n,xs,h,k=>by
  rw [if_neg (by simp only [List.length_nil];omega)];rfl
 | p :: l,n,xs,h,k=>by
  rw [List.zipIdx_cons,lay_cons,lay_get l (n + 1) _ (by rw [Array.size_setIfInBounds];simp only [List.length_cons] at h;omega) k]
  simp only [List.length_cons] at h ⊢
  by_cases h1:at_ + (n + 1)≤k∧k < at_ + (n + 1) + l.length
  ·rw [if_pos h1,if_pos (by omega),show k - (at_ + n)=(k - (at_ + (n + 1))) + 1 by omega,List.getElem?_cons_succ]
  ·rw [if_neg h1]
   by_cases h2:at_ + n=k
   ·subst h2
    rw [if_pos (by omega),Nat.sub_self]
    rw [Array.getElem?_setIfInBounds_self_of_lt (by omega)]
    rfl
   ·rw [if_neg (by omega),Array.getElem?_setIfInBounds_ne h2]
theorem lay_list {at_:Nat}{m xs:Array Keyed}(h:at_ + m.size ≤ xs.size):(lay at_ m.toList.zipIdx xs).toList=xs.toList.take at_ ++ m.toList ++ xs.toList.drop (at_ + m.size):=by
 apply List.ext_getElem?
 intro k
 rw [Array.getElem?_toList,lay_get m.toList 0 xs (by simpa using h) k]
 simp only [Nat.add_zero,Array.length_toList]
 rw [List.append_assoc,List.getElem?_append,List.getElem?_append]
 have e1:(xs.toList.take at_).length=at_:=by simp;omega
 rw [e1]
 by_cases h1:k < at_
 ·rw [if_neg (by omega),if_pos h1,List.getElem?_take_of_lt h1,Array.getElem?_toList]
 ·rw [if_neg h1]
  simp only [Array.length_toList]
  by_cases h2:k < at_ + m.size
  ·rw [if_pos ⟨by omega,h2⟩,if_pos (by omega)]
  ·rw [if_neg (by omega),if_neg (by omega),List.getElem?_drop,Array.getElem?_toList]
   congr 1
   omega
def Up (xs:Array Keyed)(i j:Nat):Prop:=∀ p q,i≤p→p≤q→q < j→K xs p≤K xs q
theorem K_ext {xs:Array Keyed}{i j k:Nat}(hj:j≤xs.size)(hk:i + k < j):K (xs.extract i j) k=K xs (i + k):=by
 apply K_congr
 rw [Array.getElem?_extract]
 rw [if_pos (by omega)]
theorem ext_rise {xs:Array Keyed}{i j:Nat}(hj:j≤xs.size)(h:Up xs i j):Rise (xs.extract i j).toList:=rise_of fun p q hpq hq=>by
 have hs:(xs.extract i j).size=j - i:=by rw [Array.size_extract];omega
 rw [hs] at hq
 rw [K_ext hj (by omega),K_ext hj (by omega)]
 exact h _ _ (by omega) (by omega) (by omega)
theorem ext_int {xs:Array Keyed}{i j:Nat}(h:KeysIn xs):KeysIn (xs.extract i j):=fun p hp=>h p (by
 rw [Array.toList_extract,List.extract_eq_take_drop] at hp
 exact List.mem_of_mem_drop (List.mem_of_mem_take hp))
theorem joined {xs m:Array Keyed}{sa sb e c d:Nat}(h1:sa≤c)(h2:c≤sb)(h3:sb≤d)(h4:d≤e)(h5:e≤xs.size)(ua:Up xs sa sb)(ub:Up xs sb e)
  (hlo:∀ i,sa≤i→i < c→K xs i≤K xs sb) (hhi:∀ i,d≤i→i < e→K xs (sb - 1)≤K xs i) (hc:c < sb) (hd:sb < d) (hM:Merged (xs.extract c sb) (xs.extract sb d) m) :
  (lay c m.toList.zipIdx xs).toList.Perm xs.toList ∧ (∀ k,k < c ∨ d≤k→K (lay c m.toList.zipIdx xs) k=K xs k)∧Up (lay c m.toList.zipIdx xs) sa e:=by
 have hm:m.size=d - c:=by
  have:=hM.1.length_eq
  simp at this
  omega
 have hfit:c + m.size ≤ xs.size:=by omega
 have hg:∀ k,(lay c m.toList.zipIdx xs)[k]? = if c≤k∧k < d then m[k - c]? else xs[k]?:=fun k=>by
  rw [lay_get m.toList 0 xs (by simpa using hfit) k]
  simp only [Nat.add_zero,Array.length_toList,hm,Array.getElem?_toList]
  rw [show c + (d - c)=d by omega]
 have kout:∀ k,k < c ∨ d≤k→K (lay c m.toList.zipIdx xs) k=K xs k:=fun k hk=>K_congr (by rw [hg,if_neg (by omega)])
 have kin:∀ k,c≤k→k < d→K (lay c m.toList.zipIdx xs) k=K m (k - c):=fun k a b=>K_congr (by rw [hg,if_pos ⟨a,b⟩])
 have mid:∀ k,k < m.size → ∃ n,c≤n∧n < d∧K m k=K xs n:=fun k hk=>by
  have hmem:m.toList[k]'(by simpa using hk)∈(xs.extract c sb).toList ++ (xs.extract sb d).toList:=hM.1.mem_iff.mp (List.getElem_mem _)
  have ek:=kf_at (a:=m) (n:=k) (by simpa using hk)
  rcases List.mem_append.mp hmem with z | z
  ·rw [Array.toList_extract,List.extract_eq_take_drop] at z
   obtain ⟨n,hn,n1,n2,e⟩:=mem_seg z
   refine ⟨n,n1,by omega,?_⟩
   rw [← ek,← e,kf_at]
  ·rw [Array.toList_extract,List.extract_eq_take_drop] at z
   obtain ⟨n,hn,n1,n2,e⟩:=mem_seg z
   refine ⟨n,by omega,by omega,?_⟩
   rw [← ek,← e,kf_at]
 refine ⟨?_,kout,?_⟩
 ·rw [lay_list hfit,hm,show c + (d - c)=d by omega]
  have e1:xs.toList=xs.toList.take c ++ ((xs.extract c sb).toList ++ (xs.extract sb d).toList) ++ xs.toList.drop d:=by
   rw [Array.toList_extract,Array.toList_extract,List.extract_eq_take_drop,List.extract_eq_take_drop]
   have q1:=seg_split (l:=xs.toList) h3
   have q2:=seg_split (l:=xs.toList) h2
   have q3:=List.take_append_drop c xs.toList
   rw [List.append_assoc,List.append_assoc,← q1,← q2,q3]
  have p:=(hM.1.append_left (xs.toList.take c)).append_right (xs.toList.drop d)
  rwa [← e1] at p
 ·intro p q hp hpq hq
  rcases Nat.lt_or_ge p c with p1 | p1
  ·rw [kout p (.inl p1)]
   rcases Nat.lt_or_ge q c with q1 | q1
   ·rw [kout q (.inl q1)]
    exact ua p q hp hpq (by omega)
   ·have low:∀ n,c≤n→n < e→K xs p≤K xs n:=fun n n1 n2=>by
     rcases Nat.lt_or_ge n sb with z | z
     ·exact ua p n hp (by omega) z
     ·exact Int.le_trans (hlo p hp p1) (ub sb n (by omega) z n2)
    rcases Nat.lt_or_ge q d with q2 | q2
    ·rw [kin q q1 q2]
     obtain ⟨n,n1,n2,e⟩:=mid (q - c) (by omega)
     rw [e]
     exact low n n1 (by omega)
    ·rw [kout q (.inr q2)]
     exact low q q1 hq
  ·rcases Nat.lt_or_ge p d with p2 | p2
   ·rw [kin p p1 p2]
    rcases Nat.lt_or_ge q d with q2 | q2
    ·rw [kin q (by omega) q2]
     exact riseK hM.2 (by omega) (by omega)
    ·rw [kout q (.inr q2)]
     obtain ⟨n,n1,n2,e⟩:=mid (p - c) (by omega)
     rw [e]
     rcases Nat.lt_or_ge n sb with z | z
     ·exact Int.le_trans (ua n (sb - 1) (by omega) (by omega) (by omega)) (hhi q q2 hq)
     ·exact ub n q z (by omega) hq
   ·rw [kout p (.inr p2),kout q (.inr (by omega))]
    exact ub p q (by omega) hpq hq
theorem mergeAt'_eq (i:Nat):mergeAt' i=(do
 let g ← get
 let (some (p,m,pw),some (q,n,_)):=((pendingOf g)[i]?,(pendingOf g)[i + 1]?) | unsupported "internal:list.sort.pending"
 set (setPending g (((pendingOf g).setIfInBounds i (p,m + n,pw)).eraseIdxIfInBounds (i + 1)))
 let some k ← gallop' false (← elem' (arrOf g) q) (arrOf g) p m 0 | return false
 let (p,m):=(p + k,m - k)
 if m == 0 then return true
 let some n ← gallop' true (← elem' (arrOf g) (p + m - 1)) (arrOf g) q n (n - 1) | return false
 if n == 0 then return true
 let x:=(arrOf g).extract p q
 let y:=(arrOf g).extract q (q + n)
 let r ← if m≤n then mergeLo' x y else mergeHi' x y
 modify fun z=>setArr z (lay p r.toList.zipIdx (arrOf z))
 return (failedOf (← get)).isNone):=rfl
section
variable {prog:Program}{w:World}{A:Around}{E:Value→Shared→Prop}{s:Shared}[CmpOk prog w A s]
theorem wpS_set {st st':SortSt}{Q:PUnit→SortSt→Prop}(h:Q ⟨⟩ st'):wpS (model prog w) A E s (set st':StateT SortSt Sem PUnit) Q st:=by
 unfold wpS;rw [StateT.run_set];exact wpAny_pure ⟨rfl,h⟩
structure Joined (st st':SortSt)(p e:Nat):Prop where
 kind:kindOf st'=kindOf st
 failed:failedOf st'=failedOf st
 perm:(arrOf st').toList.Perm (arrOf st).toList
 out:∀ k,k < p ∨ e≤k→K (arrOf st') k=K (arrOf st) k
 up:Up (arrOf st') p e
theorem wpS_mergeAt {st:SortSt}{i p m pw n pw2:Nat}{Q:Bool→SortSt→Prop}(hk:kindOf st=Ranks.κ)(hf:failedOf st=none)(hI:KeysIn (arrOf st))
  (hp:(pendingOf st)[i]? = some (p,m,pw)) (hq:(pendingOf st)[i + 1]? = some (p + m,n,pw2)) (m1:1≤m) (n1:1≤n) (he:p + m + n≤(arrOf st).size) (ua:Up (arrOf st) p (p + m)) (ub:Up (arrOf st) (p + m) (p + m + n))
  (h:∀ st',Joined st st' p (p + m + n)→pendingOf st'=((pendingOf st).setIfInBounds i (p,m + n,pw)).eraseIdxIfInBounds (i + 1)→Q true st'):wpS (model prog w) A E s (mergeAt' i) Q st:=by
 rw [mergeAt'_eq]
 refine wpS_bind (wpS_get ?_)
 rw [hp,hq]
 dsimp only
 refine wpS_bind (wpS_set ?_)
 obtain ⟨b0,eb,tb,hb⟩:=at_some hI (show p + m < (arrOf st).size by omega)
 refine wpS_bind (wpS_elem eb (wpS_bind (wpS_gallop hk hb hI (by omega) (by omega) (fun i j h1 h2=>ua _ _ (by omega) (by omega) (by omega)) fun k hT=>?_)))
 obtain ⟨k1,k2,k3⟩:=turns_false hT
 have hlo:∀ i,p≤i→i < p + k→K (arrOf st) i≤K (arrOf st) (p + m):=fun i h1 h2=>by
  have:=k2 (i - p) (by omega)
  rwa [show p + (i - p)=i by omega] at this
 dsimp only
 by_cases e0:m - k=0
 ·rw [if_pos (by simpa using e0)]
  refine wpS_pure (h _ ⟨rfl,rfl,List.Perm.refl _,fun _ _=>rfl,fun x y hx hxy hy=>?_⟩ rfl)
  show K (arrOf st) x≤K (arrOf st) y
  rcases Nat.lt_or_ge y (p + m) with z | z
  ·exact ua x y hx hxy z
  ·rcases Nat.lt_or_ge x (p + m) with z2 | z2
   ·exact Int.le_trans (hlo x hx (by omega)) (ub _ y (by omega) z hy)
   ·exact ub x y z2 hxy hy
 ·rw [if_neg (by simpa using e0)]
  have hlast:p + k + (m - k) - 1=p + m - 1:=by omega
  obtain ⟨a1,ea,ta,ha⟩:=at_some hI (show p + k + (m - k) - 1 < (arrOf st).size by omega)
  refine wpS_bind (wpS_elem ea (wpS_bind (wpS_gallop hk ha hI (by omega) (by omega) (fun i j h1 h2=>ub _ _ (by omega) (by omega) (by omega)) fun k' hT'=>?_)))
  obtain ⟨j1,j2,j3⟩:=turns_true hT'
  rw [hlast] at j2 j3
  have hhi:∀ i,p + m + k'≤i→i < p + m + n→K (arrOf st) (p + m - 1)≤K (arrOf st) i:=fun i h1 h2=>by
   have:=j3 (i - (p + m)) (by omega) (by omega)
   rwa [show p + m + (i - (p + m))=i by omega] at this
  dsimp only
  by_cases e1:k'=0
  ·rw [if_pos (by simpa using e1)]
   refine wpS_pure (h _ ⟨rfl,rfl,List.Perm.refl _,fun _ _=>rfl,fun x y hx hxy hy=>?_⟩ rfl)
   show K (arrOf st) x≤K (arrOf st) y
   rcases Nat.lt_or_ge y (p + m) with z | z
   ·exact ua x y hx hxy z
   ·rcases Nat.lt_or_ge x (p + m) with z2 | z2
    ·exact Int.le_trans (ua x (p + m - 1) hx (by omega) (by omega)) (hhi y (by omega) hy)
    ·exact ub x y z2 hxy hy
  ·rw [if_neg (by simpa using e1)]
   have sx:((arrOf st).extract (p + k) (p + m)).size=m - k:=by rw [Array.size_extract];omega
   have sy:((arrOf st).extract (p + m) (p + m + k')).size=k':=by rw [Array.size_extract];omega
   have T:Two ((arrOf st).extract (p + k) (p + m)) ((arrOf st).extract (p + m) (p + m + k')):={
    ia:=ext_int hI
    ib:=ext_int hI
    ra:=ext_rise (by omega) fun x y h1 h2 h3=>ua x y (by omega) h2 h3
    rb:=ext_rise (by omega) fun x y h1 h2 h3=>ub x y (by omega) h2 (by omega)
    na:=by rw [sx];omega
    nb:=by rw [sy];omega
    h0:=by
     rw [K_ext (by omega) (by omega),K_ext (by omega) (by omega)]
     have:=k3 k (by omega) (by omega)
     simpa using this
    hl:=by
     rw [sx,sy,K_ext (by omega) (by omega),K_ext (by omega) (by omega)]
     have:=j2 (k' - 1) (by omega)
     rwa [show p + k + (m - k - 1)=p + m - 1 by omega] }
   have fin:∀ (r:Array Keyed) (st':SortSt),Stay (setPending st (((pendingOf st).setIfInBounds i (p,m + n,pw)).eraseIdxIfInBounds (i + 1))) st'→Merged ((arrOf st).extract (p + k) (p + m)) ((arrOf st).extract (p + m) (p + m + k')) r →
     wpS (model prog w) A E s (do modify fun z=>setArr z (lay (p + k) r.toList.zipIdx (arrOf z));return (failedOf (← get)).isNone) Q st':=fun r st' hS hM=>by
    refine wpS_bind (wpS_modify (wpS_bind (wpS_get (wpS_pure ?_))))
    have hj:=joined (sa:=p) (e:=p + m + n) (by omega) (by omega) (by omega) (by omega) he ua ub hlo hhi (by omega) (by omega) hM
    have ef:failedOf st'=none:=hS.2.2.2.trans hf
    have ex:arrOf st'=arrOf st:=hS.2.1
    have:(failedOf (setArr st' (lay (p + k) r.toList.zipIdx (arrOf st')))).isNone=true:=by show (failedOf st').isNone=true;rw [ef];rfl
    rw [this]
    refine h _ ⟨hS.1,hS.2.2.2,?_,?_,?_⟩ hS.2.2.1
    ·show (lay (p + k) r.toList.zipIdx (arrOf st')).toList.Perm _
     rw [ex];exact hj.1
    ·intro x hx
     show K (lay (p + k) r.toList.zipIdx (arrOf st')) x=_
     rw [ex];exact hj.2.1 x (by omega)
    ·show Up (lay (p + k) r.toList.zipIdx (arrOf st')) _ _
     rw [ex];exact hj.2.2
   by_cases hc:m - k≤k'
   ·rw [if_pos hc]
    exact wpS_bind (wpS_mergeLo T hk fun r st' hS hM=>fin r st' hS hM)
   ·rw [if_neg hc]
    exact wpS_bind (wpS_mergeHi T hk fun r st' hS hM=>fin r st' hS hM)
end
end MwSortR
set_option maxHeartbeats 2000000
namespace MwSortR
open PySem PyProof.Rows
variable [Ranks]
def ascL (lo a nr:Nat):StateT SortSt Sem (Option (Option Nat) × Nat):=forIn [a:nr] ((none,a):Option (Option Nat) × Nat) fun _ c=>do
 let r ← ltAt' (lo + c.2) (lo + c.2 - 1)
 match r with
 | some t=>if t=true then pure (.done (none,c.2)) else pure (.yield (none,c.2 + 1))
 | _=>pure (.done (some none,c.2))
def tailL (lo n nr:Nat):StateT SortSt Sem (Option Nat):=do
 reverseSlice' lo (lo + n)
 let c ← ascL lo n nr
 match c.1 with
 | some r=>pure r
 | none=>pure (some c.2)
def dscL (lo n nr:Nat):StateT SortSt Sem (Option (Option Nat) × Nat × Nat):=forIn [n:nr] ((none,n,0):Option (Option Nat) × Nat × Nat) fun _ c=>do
 let r ← ltAt' (lo + c.2.1) (lo + c.2.1 - 1)
 match r with
 | some t =>
  if t=true then
   if c.2.2 > 0 then do
    reverseSlice' (lo + c.2.1 - (c.2.2 + 1)) (lo + c.2.1)
    pure (.yield (none,c.2.1 + 1,0))
   else pure (.yield (none,c.2.1 + 1,0))
  else do
   let r ← ltAt' (lo + c.2.1 - 1) (lo + c.2.1)
   match r with
   | some g=>if g=true then pure (.done (none,c.2.1,c.2.2)) else pure (.yield (none,c.2.1 + 1,c.2.2 + 1))
   | _=>pure (.done (some none,c.2.1,c.2.2))
 | _=>pure (.done (some none,c.2.1,c.2.2))
def partL (lo n nr:Nat):StateT SortSt Sem (Option Nat):=do
 liftM (rule "list.sort.descending-run")
 let c ← dscL lo (n + 1) nr
 match c.1 with
 | some r=>pure r
 | none =>
  if c.2.2 > 0 then do
   reverseSlice' (lo + c.2.1 - (c.2.2 + 1)) (lo + c.2.1)
   tailL lo c.2.1 nr
  else tailL lo c.2.1 nr
theorem countL_eq (lo nr:Nat):countRun' lo nr=(do
  let c ← ascL lo 1 nr
  match c.1 with
  | some r=>pure r
  | none =>
   if (c.2 == nr)=true then pure (some c.2)
   else if c.2 > 1 then do
    let r ← ltAt' lo (lo + c.2 - 1)
    match r with
    | some g=>if g=true then pure (some c.2) else do
      reverseSlice' lo (lo + c.2)
      partL lo c.2 nr
    | _=>pure none
   else partL lo c.2 nr):=by
 refine bindC rfl fun c=>?_
 obtain ⟨c1,n⟩:=c
 cases c1 with
 | some r=>rfl
 | none =>
  refine ite_congr rfl (fun _=>rfl) fun _=>ite_congr rfl (fun _=>bindC rfl fun r=>?_) fun _=>bindC rfl fun _=>bindC rfl fun c=>?_
  ·cases r with
   | none=>rfl
   | some g =>
    refine ite_congr rfl (fun _=>rfl) fun _=>bindC rfl fun _=>bindC rfl fun _=>bindC rfl fun c=>?_
    obtain ⟨c1,n2,q⟩:=c
    cases c1 with
    | some r=>rfl
    | none =>
     refine ite_congr rfl (fun _=>bindC rfl fun _=>bindC rfl fun _=>bindC rfl fun c=>?_) fun _=>bindC rfl fun _=>bindC rfl fun c=>?_
     all_goals (obtain ⟨c1,n3⟩:=c;cases c1 <;> rfl)
  ·obtain ⟨c1,n2,q⟩:=c
   cases c1 with
   | some r=>rfl
   | none =>
    refine ite_congr rfl (fun _=>bindC rfl fun _=>bindC rfl fun _=>bindC rfl fun c=>?_) fun _=>bindC rfl fun _=>bindC rfl fun c=>?_
    all_goals (obtain ⟨c1,n3⟩:=c;cases c1 <;> rfl)
structure Moved (lo:Nat)(st st':SortSt):Prop where
 kind:kindOf st'=kindOf st
 failed:failedOf st'=failedOf st
 pend:pendingOf st'=pendingOf st
 perm:(arrOf st').Perm (arrOf st)
 out:∀ k,k < lo→K (arrOf st') k=K (arrOf st) k
theorem Moved.rfl {lo:Nat}{st:SortSt}:Moved lo st st:=⟨_root_.rfl,_root_.rfl,_root_.rfl,Array.Perm.refl _,fun _ _=>_root_.rfl⟩
theorem Moved.trans {lo:Nat}{a b c:SortSt}(h:Moved lo a b)(g:Moved lo b c):Moved lo a c:=⟨g.kind.trans h.kind,g.failed.trans h.failed,g.pend.trans h.pend,g.perm.trans h.perm,fun k hk=>(g.out k hk).trans (h.out k hk)⟩
theorem Moved.size {lo:Nat}{st st':SortSt}(h:Moved lo st st'):(arrOf st').size=(arrOf st).size:=h.perm.size_eq
theorem int_perm {xs ys:Array Keyed}(hI:KeysIn xs)(h:ys.Perm xs):KeysIn ys:=fun p hp=>hI p ((Array.perm_iff_toList_perm.mp h).mem_iff.mp hp)
theorem moved_mirror {lo i j:Nat}{st:SortSt}(hi:lo≤i)(hj:j≤(arrOf st).size):Moved lo st (setArr st (mirror (arrOf st) i j ((j - i) / 2))) :=
 ⟨rfl,rfl,rfl,mirror_perm _ _ _ _,fun k hk=>by show K (mirror (arrOf st) i j ((j - i) / 2)) k=_;rw [K_mirror hj,if_neg (by omega)]⟩
def Dn (xs:Array Keyed)(i j:Nat):Prop:=∀ p q,i≤p→p≤q→q < j→K xs q≤K xs p
theorem Up.more {xs:Array Keyed}{i j:Nat}(h:Up xs i j)(hj:i < j)(hx:K xs (j - 1)≤K xs j):Up xs i (j + 1):=fun p q h1 h2 h3=>by
 rcases Nat.lt_or_ge q j with z | z
 ·exact h p q h1 h2 z
 ·have:q=j:=by omega
  subst this
  rcases Nat.lt_or_ge p q with z2 | z2
  ·exact Int.le_trans (h p (q - 1) h1 (by omega) (by omega)) hx
  ·have:p=q:=by omega
   rw [this];exact Int.le_refl _
theorem Dn.more {xs:Array Keyed}{i j:Nat}(h:Dn xs i j)(hj:i < j)(hx:K xs j≤K xs (j - 1)):Dn xs i (j + 1):=fun p q h1 h2 h3=>by
 rcases Nat.lt_or_ge q j with z | z
 ·exact h p q h1 h2 z
 ·have:q=j:=by omega
  subst this
  rcases Nat.lt_or_ge p q with z2 | z2
  ·exact Int.le_trans hx (h p (q - 1) h1 (by omega) (by omega))
  ·have:p=q:=by omega
   rw [this];exact Int.le_refl _
theorem Up.one (xs:Array Keyed)(i:Nat):Up xs i (i + 1):=fun p q h1 h2 h3=>by
 have:p=q:=by omega
 rw [this];exact Int.le_refl _
section
variable {prog:Program}{w:World}{A:Around}{E:Value→Shared→Prop}{s:Shared}[CmpOk prog w A s]
theorem wpS_ltI {st:SortSt}{i j:Nat}{Q:Option Bool→SortSt→Prop}(hk:kindOf st=Ranks.κ)(hI:KeysIn (arrOf st))(hi:i < (arrOf st).size)(hj:j < (arrOf st).size)(h:Q (some (decide (K (arrOf st) i < K (arrOf st) j))) st) :
  wpS (model prog w) A E s (ltAt' i j) Q st:=by
 obtain ⟨p,t1,e1,h1⟩:=at_int hI hi
 obtain ⟨q,t2,e2,h2⟩:=at_int hI hj
 rw [ltAt'_eq]
 refine wpS_bind (wpS_get ?_)
 show wpS _ _ _ _ (elem' (arrOf st) i >>= fun x=>elem' (arrOf st) j >>= fun y=>lt' x y) Q st
 exact wpS_bind (wpS_elem e1 (wpS_bind (wpS_elem e2 (wpS_lt2 hk h1 h2 h))))
theorem ascL_ok {st:SortSt}{lo a nr:Nat}{Q:Option (Option Nat) × Nat→SortSt→Prop}(hk:kindOf st=Ranks.κ)(hI:KeysIn (arrOf st))(h1:1≤a)(h2:a≤nr)(h3:lo + nr≤(arrOf st).size)(hu:Up (arrOf st) lo (lo + a))
  (h:∀ n,a≤n→n≤nr→Up (arrOf st) lo (lo + n)→(n=nr ∨ K (arrOf st) (lo + n) < K (arrOf st) (lo + n - 1))→Q (none,n) st):wpS (model prog w) A E s (ascL lo a nr) Q st:=by
 unfold ascL
 refine wpS_forRange (I:=fun x c z=>z=st∧c=(none,x)∧Up (arrOf st) lo (lo + x)) ?_ ?_ ⟨rfl,rfl,hu⟩
 ·rintro x c z hx1 hx2 ⟨rfl,rfl,u⟩
  dsimp only
  refine wpS_bind (wpS_ltI hk hI (by omega) (by omega) ?_)
  by_cases hl:K (arrOf z) (lo + x) < K (arrOf z) (lo + x - 1)
  ·rw [decide_eq_true hl]
   exact wpS_pure (h x hx1 (by omega) u (.inr hl))
  ·rw [decide_eq_false hl]
   exact wpS_pure ⟨rfl,rfl,u.more (by omega) (Int.not_lt.mp hl)⟩
 ·rintro c z ⟨rfl,rfl,u⟩
  rw [show max a nr=nr by omega] at u ⊢
  exact h nr h2 (Nat.le_refl _) u (.inl rfl)
theorem tailL_ok {st₀ st:SortSt}{lo n nr:Nat}{Q:Option Nat→SortSt→Prop}(hk:kindOf st₀=Ranks.κ)(hI:KeysIn (arrOf st₀))(hm:Moved lo st₀ st)(h1:1≤n)(h2:n≤nr)(h3:lo + nr≤(arrOf st₀).size)(hd:Dn (arrOf st) lo (lo + n))
  (h:∀ m st',Moved lo st₀ st'→1≤m→m≤nr→Up (arrOf st') lo (lo + m)→Q (some m) st'):wpS (model prog w) A E s (tailL lo n nr) Q st:=by
 have hsz:=hm.size
 unfold tailL
 refine wpS_bind (wpS_reverse ?_)
 have hm2:=hm.trans (moved_mirror (lo:=lo) (i:=lo) (j:=lo + n) (Nat.le_refl _) (by omega))
 have hsz2:=hm2.size
 refine wpS_bind (ascL_ok (hm2.kind.trans hk) (int_perm hI hm2.perm) h1 h2 (by omega) (fun p q g1 g2 g3=>?_) fun m m1 m2 m3 m4=>wpS_pure (h m _ hm2 (by omega) m2 m3))
 show K (mirror (arrOf st) lo (lo + n) _) p≤K (mirror (arrOf st) lo (lo + n) _) q
 rw [K_mirror (by omega),K_mirror (by omega),if_pos (by omega),if_pos (by omega)]
 exact hd _ _ (by omega) (by omega) (by omega)
theorem mirror_alike {xs:Array Keyed}{i j k:Nat}(hj:j≤xs.size)(h:∀ p,i≤p→p < j→K xs p=K xs (j - 1)):K (mirror xs i j ((j - i) / 2)) k=K xs k:=K_mirror_equal hj h k
theorem dscL_ok {st₀ st:SortSt}{lo n nr:Nat}{Q:Option (Option Nat) × Nat × Nat→SortSt→Prop}(hk:kindOf st₀=Ranks.κ)(hI:KeysIn (arrOf st₀))(hm:Moved lo st₀ st)(h1:1≤n)(h2:n≤nr)(h3:lo + nr≤(arrOf st₀).size)(hd:Dn (arrOf st) lo (lo + n))
  (h:∀ m e st',Moved lo st₀ st'→n≤m→m≤nr→Dn (arrOf st') lo (lo + m)→e + 1≤m→(∀ i,lo + m - (e + 1)≤i→i < lo + m→K (arrOf st') i=K (arrOf st') (lo + m - 1))→Q (none,m,e) st'):wpS (model prog w) A E s (dscL lo n nr) Q st:=by
 unfold dscL
 refine wpS_forRange (I:=fun x c z=>∃ e,c=(none,x,e)∧Moved lo st₀ z∧Dn (arrOf z) lo (lo + x)∧e + 1≤x∧(∀ i,lo + x - (e + 1)≤i→i < lo + x→K (arrOf z) i=K (arrOf z) (lo + x - 1))) ?_ ?_ ⟨0,rfl,hm,hd,by omega,fun i g1 g2=>by congr 1;omega⟩
 ·rintro x c z hx1 hx2 ⟨e,rfl,hm,hd,he,ha⟩
  have hsz:=hm.size
  have hk':=hm.kind.trans hk
  have hI':=int_perm hI hm.perm
  dsimp only
  refine wpS_bind (wpS_ltI hk' hI' (by omega) (by omega) ?_)
  by_cases hl:K (arrOf z) (lo + x) < K (arrOf z) (lo + x - 1)
  ·rw [decide_eq_true hl]
   dsimp only
   rw [if_pos rfl]
   by_cases h0:e > 0
   ·rw [if_pos h0]
    refine wpS_bind (wpS_reverse (wpS_pure ⟨0,rfl,hm.trans (moved_mirror (by omega) (by omega)),?_,by omega,fun i g1 g2=>by congr 1;omega⟩))
    intro p q g1 g2 g3
    show K (mirror (arrOf z) _ _ _) q≤K (mirror (arrOf z) _ _ _) p
    rw [mirror_alike (by omega) ha,mirror_alike (by omega) ha]
    exact (hd.more (by omega) (Int.le_of_lt hl)) p q g1 g2 (by omega)
   ·rw [if_neg h0]
    exact wpS_pure ⟨0,rfl,hm,hd.more (by omega) (Int.le_of_lt hl),by omega,fun i g1 g2=>by congr 1;omega⟩
  ·rw [decide_eq_false hl]
   dsimp only
   rw [if_neg Bool.false_ne_true]
   refine wpS_bind (wpS_ltI hk' hI' (by omega) (by omega) ?_)
   by_cases hg:K (arrOf z) (lo + x - 1) < K (arrOf z) (lo + x)
   ·rw [decide_eq_true hg]
    exact wpS_pure (h x e z hm hx1 (by omega) hd he ha)
   ·rw [decide_eq_false hg]
    have eq:K (arrOf z) (lo + x)=K (arrOf z) (lo + x - 1):=by omega
    refine wpS_pure ⟨e + 1,rfl,hm,hd.more (by omega) (by omega),by omega,fun i g1 g2=>?_⟩
    rw [show lo + (x + 1) - 1=lo + x by omega]
    rcases Nat.lt_or_ge i (lo + x) with z1 | z1
    ·rw [eq];exact ha i (by omega) z1
    ·have:i=lo + x:=by omega
     rw [this]
 ·rintro c z ⟨e,rfl,hm,hd,he,ha⟩
  rw [show max n nr=nr by omega] at hd he ha ⊢
  exact h nr e z hm h2 (Nat.le_refl _) hd he ha
theorem partL_ok {st₀ st:SortSt}{lo n nr:Nat}{Q:Option Nat→SortSt→Prop}(hk:kindOf st₀=Ranks.κ)(hI:KeysIn (arrOf st₀))(hm:Moved lo st₀ st)(h2:n + 1≤nr)(h3:lo + nr≤(arrOf st₀).size)(hd:Dn (arrOf st) lo (lo + (n + 1)))
  (h:∀ m st',Moved lo st₀ st'→1≤m→m≤nr→Up (arrOf st') lo (lo + m)→Q (some m) st'):wpS (model prog w) A E s (partL lo n nr) Q st:=by
 unfold partL
 refine wpS_bind (wpS_lift (wpAny_rule ⟨rfl,?_⟩))
 refine wpS_bind (dscL_ok hk hI hm (by omega) h2 h3 hd fun m e z hm hx1 hx2 hd he ha=>?_)
 have hsz:=hm.size
 dsimp only
 by_cases h0:e > 0
 ·rw [if_pos h0]
  refine wpS_bind (wpS_reverse (tailL_ok hk hI (hm.trans (moved_mirror (by omega) (by omega))) (by omega) hx2 h3 ?_ h))
  intro p q g1 g2 g3
  show K (mirror (arrOf z) _ _ _) q≤K (mirror (arrOf z) _ _ _) p
  rw [mirror_alike (by omega) ha,mirror_alike (by omega) ha]
  exact hd p q g1 g2 g3
 ·rw [if_neg h0]
  exact tailL_ok hk hI hm (by omega) hx2 h3 hd h
theorem wpS_countL {st:SortSt}{lo nr:Nat}{Q:Option Nat→SortSt→Prop}(hk:kindOf st=Ranks.κ)(hI:KeysIn (arrOf st))(h1:1≤nr)(h3:lo + nr≤(arrOf st).size)
  (h:∀ m st',Moved lo st st'→1≤m→m≤nr→Up (arrOf st') lo (lo + m)→Q (some m) st'):wpS (model prog w) A E s (countRun' lo nr) Q st:=by
 rw [countL_eq]
 refine wpS_bind (ascL_ok hk hI (Nat.le_refl 1) h1 h3 (Up.one _ _) fun n n1 n2 hu ho=>?_)
 dsimp only
 by_cases e:n=nr
 ·rw [if_pos (by simpa using e)]
  exact wpS_pure (h n st Moved.rfl n1 n2 hu)
 ·rw [if_neg (by simpa using e)]
  have hl:=ho.resolve_left e
  by_cases g:n > 1
  ·rw [if_pos g]
   refine wpS_bind (wpS_ltI hk hI (by omega) (by omega) ?_)
   by_cases hr:K (arrOf st) lo < K (arrOf st) (lo + n - 1)
   ·rw [decide_eq_true hr]
    exact wpS_pure (h n st Moved.rfl n1 n2 hu)
   ·rw [decide_eq_false hr]
    dsimp only
    rw [if_neg Bool.false_ne_true]
    have ha:∀ p,lo≤p→p < lo + n→K (arrOf st) p=K (arrOf st) (lo + n - 1):=fun p p1 p2=>by
     have a1:=hu lo p (by omega) p1 p2
     have a2:=hu p (lo + n - 1) p1 (by omega) (by omega)
     omega
    refine wpS_bind (wpS_reverse (partL_ok hk hI (moved_mirror (Nat.le_refl _) (by omega)) (by omega) h3 ?_ h))
    intro p q g1 g2 g3
    show K (mirror (arrOf st) _ _ _) q≤K (mirror (arrOf st) _ _ _) p
    rw [mirror_alike (by omega) ha,mirror_alike (by omega) ha]
    have d0:Dn (arrOf st) lo (lo + n):=fun p q g1 g2 g3=>by rw [ha p g1 (by omega),ha q (by omega) g3];exact Int.le_refl _
    exact (d0.more (by omega) (Int.le_of_lt hl)) p q g1 g2 (by omega)
  ·rw [if_neg g]
   have:n=1:=by omega
   subst this
   refine partL_ok hk hI Moved.rfl (by omega) h3 ?_ h
   have d0:Dn (arrOf st) lo (lo + 1):=fun p q g1 g2 g3=>by
    have:p=q:=by omega
    rw [this];exact Int.le_refl _
   exact d0.more (by omega) (Int.le_of_lt hl)
theorem wpS_binL {st:SortSt}{lo n ok:Nat}{Q:Bool→SortSt→Prop}(hk:kindOf st=Ranks.κ)(hI:KeysIn (arrOf st))(h1:1≤ok)(h2:ok≤n)(h3:lo + n≤(arrOf st).size)(hu:Up (arrOf st) lo (lo + ok))
  (h:∀ st',Moved lo st st'→Up (arrOf st') lo (lo + n)→Q true st'):wpS (model prog w) A E s (binarySort' lo n ok) Q st:=by
 rw [binarySort'_eq]
 refine wpS_bind (wpS_mono (wpS_forRange (I:=fun x c z=>c=(none,())∧Moved lo st z∧Up (arrOf z) lo (lo + x)) (Q:=fun c z=>c=(none,())∧Moved lo st z∧Up (arrOf z) lo (lo + n)) ?_ ?_ ⟨rfl,Moved.rfl,by rw [show max ok 1=ok by omega];exact hu⟩) ?_)
 ·rintro x c z hx1 hx2 ⟨rfl,hm,u⟩
  have hsz:=hm.size
  have hk':=hm.kind.trans hk
  have hI':=int_perm hI hm.perm
  refine wpS_bind (wpS_mono (wpS_forRange (I:=fun y c z'=>z'=z∧∃ l r,c=(none,l,r)∧l≤r∧r≤x∧r - l≤x - y∧(∀ i,lo≤i→i < lo + l→K (arrOf z) i≤K (arrOf z) (lo + x))∧(∀ i,lo + r≤i→i < lo + x→K (arrOf z) (lo + x) < K (arrOf z) i))
   (Q:=fun c z'=>z'=z∧∃ l r,c=(none,l,r)∧l≤x∧(∀ i,lo≤i→i < lo + l→K (arrOf z) i≤K (arrOf z) (lo + x))∧(∀ i,lo + l≤i→i < lo + x→K (arrOf z) (lo + x) < K (arrOf z) i)) ?_ ?_ ⟨rfl,0,x,rfl,by omega,by omega,by omega,fun i _ _=>by omega,fun i _ _=>by omega⟩) ?_)
  ·rintro y c z' _ hy ⟨rfl,l,r,rfl,i1,i2,i3,i4,i5⟩
   dsimp only
   by_cases hlr:l ≥ r
   ·rw [if_pos hlr]
    have:l=r:=by omega
    subst this
    exact wpS_pure ⟨rfl,l,l,rfl,i2,i4,i5⟩
   ·rw [if_neg hlr]
    refine wpS_bind (wpS_ltI hk' hI' (by omega) (by omega) ?_)
    by_cases hl:K (arrOf z') (lo + x) < K (arrOf z') (lo + (l + r) / 2)
    ·rw [decide_eq_true hl]
     exact wpS_pure ⟨rfl,l,(l + r) / 2,rfl,by omega,by omega,by omega,i4,fun i g1 g2=>Int.lt_of_lt_of_le hl (u _ i (by omega) g1 g2)⟩
    ·rw [decide_eq_false hl]
     exact wpS_pure ⟨rfl,(l + r) / 2 + 1,r,rfl,by omega,by omega,by omega,fun i g1 g2=>Int.le_trans (u i (lo + (l + r) / 2) g1 (by omega) (by omega)) (Int.not_lt.mp hl),i5⟩
  ·rintro c z' ⟨rfl,l,r,rfl,i1,i2,i3,i4,i5⟩
   have:l=r:=by omega
   subst this
   exact ⟨rfl,l,l,rfl,i2,i4,i5⟩
  ·rintro c z' ⟨rfl,l,r,rfl,i2,i4,i5⟩
   show wpS _ _ _ _ (do moveDown' (lo + x) (lo + l);pure (ForInStep.yield (none,()))) _ _
   rw [moveDown'_eq]
   have hx:lo + x < (arrOf z').size:=by omega
   have kb:∀ k,K (bubble (arrOf z') (lo + x) (lo + x - (lo + l))) k=if k=lo + l then K (arrOf z') (lo + x) else if lo + l < k∧k≤lo + x then K (arrOf z') (k - 1) else K (arrOf z') k:=fun k=>by
    rw [K_bubble hx (by omega),show lo + x - (lo + x - (lo + l))=lo + l by omega]
   refine wpS_bind (wpS_modify (wpS_pure ⟨rfl,hm.trans ⟨rfl,rfl,rfl,bubble_perm _ _ _,fun k hk=>?_⟩,fun p q g1 g2 g3=>?_⟩))
   ·show K (bubble _ _ _) k=_
    rw [kb,if_neg (by omega),if_neg (by omega)]
   ·show K (bubble _ _ _) p≤K (bubble _ _ _) q
    rw [kb,kb]
    repeat' split
    all_goals first
     | (exfalso;omega)
     | exact Int.le_refl _
     | exact i4 _ (by omega) (by omega)
     | exact Int.le_of_lt (i5 _ (by omega) (by omega))
     | exact u _ _ (by omega) (by omega) (by omega)
 ·rintro c z ⟨rfl,hm,u⟩
  rw [show max (max ok 1) n=n by omega] at u
  exact ⟨rfl,hm,u⟩
 ·rintro c z ⟨rfl,hm,u⟩
  exact wpS_pure (h z hm u)
end
end MwSortR
set_option maxHeartbeats 2000000
namespace MwSortR
open PySem PyProof.Rows
variable [Ranks]
def Runs (xs:Array Keyed):Nat→List (Nat × Nat × Nat)→Nat→Prop
 | s,[],e=>s=e
 | s,c :: l,e=>c.1=s∧1≤c.2.1 ∧ Up xs s (s + c.2.1)∧Runs xs (s + c.2.1) l e
theorem Runs.le {xs:Array Keyed}:∀ {l:List (Nat × Nat × Nat)} {s e:Nat},Runs xs s l e→s + l.length ≤ e
 | [],s,e,h=>by have:s=e:=h;simp [this]
 | c :: l,s,e,h=>by
  have:=Runs.le h.2.2.2
  have h1:=h.2.1
  rw [List.length_cons]
  omega
theorem Up.congr {xs ys:Array Keyed}{i j:Nat}(h:∀ k,i≤k→k < j→K ys k=K xs k)(u:Up xs i j):Up ys i j:=fun p q h1 h2 h3=>by
 rw [h p h1 (by omega),h q (by omega) h3];exact u p q h1 h2 h3
theorem Runs.congr {xs ys:Array Keyed}:∀ {l:List (Nat × Nat × Nat)} {s e:Nat},(∀ k,s≤k→k < e→K ys k=K xs k)→Runs xs s l e→Runs ys s l e
 | [],s,e,_,r=>r
 | c :: l,s,e,h,r=>by
  have:=Runs.le r.2.2.2
  exact ⟨r.1,r.2.1,r.2.2.1.congr fun k h1 h2=>h k h1 (by omega),Runs.congr (fun k h1 h2=>h k (by omega) h2) r.2.2.2⟩
theorem Runs.push {xs:Array Keyed}{n q:Nat}:∀ {l:List (Nat × Nat × Nat)} {s e:Nat},Runs xs s l e→1≤n→Up xs e (e + n)→Runs xs s (l ++ [(e,n,q)]) (e + n)
 | [],s,e,r,h,u=>by
  have:s=e:=r
  subst this
  exact ⟨rfl,h,u,rfl⟩
 | c :: l,s,e,r,h,u=>⟨r.1,r.2.1,r.2.2.1,Runs.push r.2.2.2 h u⟩
theorem Runs.mod {xs:Array Keyed}(f:Nat × Nat × Nat→Nat × Nat × Nat)(hf:∀ c,(f c).1=c.1 ∧ (f c).2.1=c.2.1):∀ {l:List (Nat × Nat × Nat)} {i s e:Nat},Runs xs s l e→Runs xs s (l.modify i f) e
 | [],i,s,e,r=>by cases i <;> exact r
 | c :: l,0,s,e,r=>by
  show (f c).1=s∧1≤(f c).2.1 ∧ Up xs s (s + (f c).2.1)∧Runs xs (s + (f c).2.1) l e
  rw [(hf c).1,(hf c).2]
  exact r
 | c :: l,i + 1,s,e,r=>⟨r.1,r.2.1,r.2.2.1,Runs.mod f hf r.2.2.2⟩
theorem Runs.two {xs:Array Keyed}:∀ {l:List (Nat × Nat × Nat)} {i s e:Nat},Runs xs s l e→i + 1 < l.length →
  ∃ p m pw n pw2,l[i]? = some (p,m,pw)∧l[i + 1]? = some (p + m,n,pw2)∧1≤m∧1≤n∧s≤p∧p + m + n≤e∧Up xs p (p + m)∧Up xs (p + m) (p + m + n) ∧
   ∀ ys,(∀ k,k < p ∨ p + m + n≤k→K ys k=K xs k)→Up ys p (p + m + n)→Runs ys s ((l.set i (p,m + n,pw)).eraseIdx (i + 1)) e
 | [],i,s,e,r,h=>by simp at h
 | [c],0,s,e,r,h=>by simp at h
 | (p,m,pw) :: (q,n,pw2) :: l,0,s,e,r,h=>by
  obtain ⟨h1,h2,h3,h4,h5,h6,h7⟩:=r
  dsimp only at h1 h2 h3 h4 h5 h6 h7
  subst h1
  have:=Runs.le h7
  refine ⟨p,m,pw,n,pw2,rfl,by rw [← h4];rfl,h2,h5,Nat.le_refl _,by omega,h3,h6,fun ys hy hu=>?_⟩
  show p=p∧1≤m + n∧Up ys p (p + (m + n))∧Runs ys (p + (m + n)) l e
  rw [← Nat.add_assoc]
  exact ⟨rfl,by omega,hu,h7.congr fun k a b=>hy k (.inr a)⟩
 | c :: l,i + 1,s,e,r,h=>by
  obtain ⟨p,m,pw,n,pw2,g1,g2,g3,g4,g5,g6,g7,g8,g9⟩:=Runs.two (i:=i) r.2.2.2 (by simpa using h)
  refine ⟨p,m,pw,n,pw2,by simpa using g1,by simpa using g2,g3,g4,by omega,g6,g7,g8,fun ys hy hu=>?_⟩
  exact ⟨r.1,r.2.1,r.2.2.1.congr fun k a b=>hy k (.inl (by omega)),g9 ys hy hu⟩
section
variable {prog:Program}{w:World}{A:Around}{E:Value→Shared→Prop}{s:Shared}[CmpOk prog w A s]
structure SInv (a₀:Array Keyed)(lo:Nat)(st:SortSt):Prop where
 kind:kindOf st=Ranks.κ
 failed:failedOf st=none
 perm:(arrOf st).Perm a₀
 runs:Runs (arrOf st) 0 (pendingOf st).toList lo
theorem SInv.merge {a₀:Array Keyed}{lo i:Nat}{st:SortSt}{Q:Bool→SortSt→Prop}(hI:KeysIn a₀)(h:SInv a₀ lo st)(hlo:lo≤a₀.size)(hi:i + 1 < (pendingOf st).size)
  (hq:∀ st',SInv a₀ lo st'→(pendingOf st').size + 1=(pendingOf st).size → (∀ k,lo≤k→K (arrOf st') k=K (arrOf st) k)→Q true st'):wpS (model prog w) A E s (mergeAt' i) Q st:=by
 obtain ⟨p,m,pw,n,pw2,g1,g2,g3,g4,g5,g6,g7,g8,g9⟩:=h.runs.two (i:=i) (by simpa using hi)
 have hsz:=h.perm.size_eq
 refine wpS_mergeAt h.kind h.failed (int_perm hI h.perm) (by simpa using g1) (by simpa using g2) g3 g4 (by omega) g7 g8 fun st' hJ hp=>hq st' ⟨hJ.kind.trans h.kind,hJ.failed.trans h.failed,?_,?_⟩ ?_ fun k hk=>hJ.out k (.inr (by omega))
 ·exact (Array.perm_iff_toList_perm.mpr hJ.perm).trans h.perm
 ·rw [hp]
  have e:(((pendingOf st).setIfInBounds i (p,m + n,pw)).eraseIdxIfInBounds (i + 1)).toList=((pendingOf st).toList.set i (p,m + n,pw)).eraseIdx (i + 1):=by simp
  rw [e]
  exact g9 _ hJ.out hJ.up
 ·have e:(((pendingOf st).setIfInBounds i (p,m + n,pw)).eraseIdxIfInBounds (i + 1)).toList=((pendingOf st).toList.set i (p,m + n,pw)).eraseIdx (i + 1):=by simp
  rw [hp,← Array.length_toList,e,List.length_eraseIdx,List.length_set,if_pos (by simpa using hi),Array.length_toList]
  omega
theorem wpS_sortAll {st:SortSt}{a₀:Array Keyed}{Q:Unit→SortSt→Prop}(hI:KeysIn a₀)(hp:(arrOf st).Perm a₀)(hk:kindOf st=Ranks.κ)(hf:failedOf st=none)(hpe:pendingOf st = #[])
  (h:∀ st',(arrOf st').Perm a₀→failedOf st'=none→SortedTo (arrOf st') a₀.size → Q () st'):wpS (model prog w) A E s sortRuns' Q st:=by
 rw [sortRuns'_eq]
 refine wpS_bind (wpS_get ?_)
 dsimp only
 have hsz:=hp.size_eq
 rw [hsz]
 generalize minRun' a₀.size a₀.size 0=mr
 refine wpS_bind (wpS_mono (wpS_forRange (I:=fun x c z=>∃ lo,c=(none,lo)∧x≤lo∧lo≤a₀.size ∧ SInv a₀ lo z) (Q:=fun c z=>c.1=none∧SInv a₀ a₀.size z) ?_ ?_ ⟨0,rfl,Nat.le_refl _,Nat.zero_le _,hk,hf,hp,by rw [hpe];rfl⟩) ?_)
 ·rintro x c z _ hx ⟨lo,rfl,i1,i2,i3⟩
  dsimp only
  by_cases hlo:lo ≥ a₀.size
  ·rw [if_pos hlo]
   have:lo=a₀.size:=by omega
   subst this
   exact wpS_pure ⟨rfl,i3⟩
  ·rw [if_neg hlo]
   have hz:=i3.perm.size_eq
   refine wpS_bind (wpS_countL i3.kind (int_perm hI i3.perm) (by omega) (by omega) fun m z1 hm m1 m2 mu=>?_)
   dsimp only
   have keep:∀ z2:SortSt,Moved lo z z2→SInv a₀ lo z2:=fun z2 hm=>⟨hm.kind.trans i3.kind,hm.failed.trans i3.failed,hm.perm.trans i3.perm,by rw [hm.pend];exact i3.runs.congr fun k _ hk=>hm.out k hk⟩
   have fin:∀ (n:Nat) (z2:SortSt),1≤n→lo + n≤a₀.size → SInv a₀ lo z2→Up (arrOf z2) lo (lo + n)→wpS (model prog w) A E s (do
      modify fun y=>setPending y ((pendingOf y).push (lo,n,0))
      (pure (ForInStep.yield ((none,lo + n):Option Unit × Nat)):StateT SortSt Sem (ForInStep (Option Unit × Nat)))) (fun r st'=>match r with | .done c'=>c'.1=none∧SInv a₀ a₀.size st' | .yield c'=>∃ lo,c'=(none,lo)∧x + 1≤lo∧lo≤a₀.size ∧ SInv a₀ lo st') z2:=fun n z2 n1 n2 hi hu=>by
    refine wpS_bind (wpS_modify (wpS_pure ⟨lo + n,rfl,by omega,n2,hi.kind,hi.failed,hi.perm,?_⟩))
    show Runs (arrOf z2) 0 ((pendingOf z2).push (lo,n,0)).toList (lo + n)
    rw [Array.toList_push]
    exact hi.runs.push n1 hu
   have back:∀ (n:Nat) (z2:SortSt),1≤n→lo + n≤a₀.size → SInv a₀ lo z2→Up (arrOf z2) lo (lo + n)→∀ (pw:Nat) (f:Nat→Option Unit × Unit→StateT SortSt Sem (ForInStep (Option Unit × Unit))),
     (∀ y c,f y c=do
      let g ← get
      match (if (pendingOf g).size > 1 then (pendingOf g)[(pendingOf g).size - 2]? else none) with
      | some (_,_,older)=>if older≤pw then pure (.done (none,())) else do
        let r ← mergeAt' ((pendingOf g).size - 2)
        if (!r)=true then pure (.done (some (),())) else pure (.yield (none,()))
      | _=>pure (.done (none,()))) →
     wpS (model prog w) A E s (forIn [:a₀.size] (none,()) f) (fun c z3=>c=(none,())∧SInv a₀ lo z3∧Up (arrOf z3) lo (lo + n)) z2:=fun n z2 n1 n2 hi hu pw f hf=>by
    refine wpS_forRange (I:=fun _ c z3=>c=(none,())∧SInv a₀ lo z3∧Up (arrOf z3) lo (lo + n)) ?_ (fun c z3 hc=>hc) ⟨rfl,hi,hu⟩
    rintro y c z3 _ hy ⟨rfl,hi,hu⟩
    rw [hf]
    refine wpS_bind (wpS_get ?_)
    by_cases h1:(pendingOf z3).size > 1
    ·rw [if_pos h1]
     have e:(pendingOf z3)[(pendingOf z3).size - 2]? = some (pendingOf z3)[(pendingOf z3).size - 2]:=getElem?_pos _ _ (by omega)
     rw [e]
     dsimp only
     by_cases ho:(pendingOf z3)[(pendingOf z3).size - 2].2.2 ≤ pw
     ·rw [if_pos ho]
      exact wpS_pure ⟨rfl,hi,hu⟩
     ·rw [if_neg ho]
      refine wpS_bind (hi.merge hI i2 (by omega) fun z4 hi4 _ hk4=>?_)
      exact wpS_pure ⟨rfl,hi4,hu.congr fun k a b=>hk4 k a⟩
    ·rw [if_neg h1]
     exact wpS_pure ⟨rfl,hi,hu⟩
   by_cases hn:m < mr
   ·rw [if_pos hn]
    refine wpS_bind (wpS_lift (wpAny_rule ⟨rfl,?_⟩))
    have hz1:=hm.size
    refine wpS_bind (wpS_binL (hm.kind.trans i3.kind) (int_perm hI (hm.perm.trans i3.perm)) m1 (by omega) (by omega) mu fun z2 hm2 mu2=>?_)
    simp only [Bool.not_true,Bool.false_eq_true,if_false]
    refine wpS_bind (wpS_get ?_)
    have hi2:=keep z2 (hm.trans hm2)
    cases eb:(pendingOf z2).back? with
    | none=>exact fin _ z2 (by omega) (by omega) hi2 mu2
    | some t =>
     obtain ⟨s1,n1,t1⟩:=t
     dsimp only
     refine wpS_bind (wpS_mono (back _ z2 (by omega) (by omega) hi2 mu2 _ _ (fun y c=>rfl)) ?_)
     rintro c z3 ⟨rfl,hi3,mu3⟩
     dsimp only
     refine wpS_bind (wpS_modify ?_)
     refine fin _ _ (by omega) (by omega) ⟨hi3.kind,hi3.failed,hi3.perm,?_⟩ mu3
     show Runs (arrOf z3) 0 ((pendingOf z3).modify _ _).toList lo
     rw [Array.toList_modify]
     refine hi3.runs.mod _ ?_
     exact fun c=>⟨rfl,rfl⟩
   ·rw [if_neg hn]
    refine wpS_bind (wpS_get ?_)
    have hi2:=keep z1 hm
    cases eb:(pendingOf z1).back? with
    | none=>exact fin _ z1 (by omega) (by omega) hi2 mu
    | some t =>
     obtain ⟨s1,n1,t1⟩:=t
     dsimp only
     refine wpS_bind (wpS_mono (back _ z1 (by omega) (by omega) hi2 mu _ _ (fun y c=>rfl)) ?_)
     rintro c z3 ⟨rfl,hi3,mu3⟩
     dsimp only
     refine wpS_bind (wpS_modify ?_)
     refine fin _ _ (by omega) (by omega) ⟨hi3.kind,hi3.failed,hi3.perm,?_⟩ mu3
     show Runs (arrOf z3) 0 ((pendingOf z3).modify _ _).toList lo
     rw [Array.toList_modify]
     refine hi3.runs.mod _ ?_
     exact fun c=>⟨rfl,rfl⟩
 ·rintro c z ⟨lo,rfl,i1,i2,i3⟩
  have:lo=a₀.size:=by omega
  subst this
  exact ⟨rfl,i3⟩
 ·rintro ⟨c1,c2⟩ z ⟨e,hi⟩
  dsimp only at e
  subst e
  dsimp only
  have hle:=hi.runs.le
  simp only [Array.length_toList,Nat.zero_add] at hle
  refine wpS_bind (wpS_mono (wpS_forRange (I:=fun x c z=>c=(none,())∧SInv a₀ a₀.size z∧(pendingOf z).size + x≤a₀.size) (Q:=fun c z=>c=(none,())∧SInv a₀ a₀.size z∧(pendingOf z).size ≤ 1) ?_ ?_ ⟨rfl,hi,hle⟩) ?_)
  ·rintro x c z _ hx ⟨rfl,hi,hs⟩
   refine wpS_bind (wpS_get ?_)
   by_cases h1:(pendingOf z).size ≤ 1
   ·rw [if_pos h1]
    exact wpS_pure ⟨rfl,hi,h1⟩
   ·rw [if_neg h1]
    refine wpS_bind (hi.merge hI (Nat.le_refl _) ?_ fun z4 hi4 hs4 _=>wpS_pure ⟨rfl,hi4,by omega⟩)
    repeat' split
    all_goals omega
  ·rintro c z ⟨rfl,hi,hs⟩
   exact ⟨rfl,hi,by omega⟩
  ·rintro c z ⟨rfl,hi,hs⟩
   refine wpS_pure (h z hi.perm hi.failed ?_)
   have hr:=hi.runs
   match e:(pendingOf z).toList,hr with
   | [],hr =>
    have:0=a₀.size:=hr
    intro i j _ hj
    omega
   | [c],hr =>
    obtain ⟨h1,h2,h3,h4⟩:=hr
    have h4':0 + c.2.1=a₀.size:=h4
    rw [h4'] at h3
    exact fun i j hij hj=>h3 i j (Nat.zero_le _) hij hj
   | c :: d :: l,hr =>
    have:(pendingOf z).toList.length=(c :: d :: l).length:=by rw [e]
    simp at this
    omega
end
end MwSortR
set_option maxHeartbeats 2000000
namespace MwSort
open PySem PyProof.Rows
section
variable {prog:Program}{w:World}{A:Around}{E:Value→Shared→Prop}{s:Shared}
def intRanks:MwSortR.Ranks:=⟨numOf,oneType',fun v=>∃ n t,v = .int n t⟩
theorem int_cmp:@MwSortR.CmpOk intRanks prog w A s:=by
 letI:=intRanks
 refine ⟨fun x y Q E hx hy q=>?_⟩
 obtain ⟨n,t,rfl⟩:=hx
 obtain ⟨m,u,rfl⟩:=hy
 show wpAny _ _ (keyLt' oneType' (.int n t) (.int m u)) Q E s
 rw [keyLt'_oneType]
 exact oneLt_int q
theorem wpS_sortAll {st:SortSt}{a₀:Array Keyed}{Q:Unit→SortSt→Prop}(hI:IntKeys a₀)(hp:(arrOf st).Perm a₀)(hk:kindOf st=oneType')(hf:failedOf st=none)(hpe:pendingOf st = #[])
  (h:∀ st',(arrOf st').Perm a₀→failedOf st'=none→SortedTo (arrOf st') a₀.size → Q () st'):wpS (model prog w) A E s sortRuns' Q st:=by
 letI:=intRanks
 haveI:MwSortR.CmpOk prog w A s:=int_cmp
 exact MwSortR.wpS_sortAll (fun p hp=>hI p hp) hp hk hf hpe h
theorem sortedHeap_keep {h:Heap}{a:Addr}{vs:List Value}{out:Array Value}{b:Addr}{o:Obj}(hb:b≠a)(e:h.get? b=some o):(sortedHeap h a vs out).get? b=some o:=by
 unfold sortedHeap
 rw [Heap.get?_update_other _ _ hb.symm]
 refine Heap.get?_push_of_some _ (Heap.get?_push_of_some _ ?_)
 rw [Heap.get?_update_other _ _ hb.symm]
 exact e
theorem sortedHeap_at {h:Heap} {a:Addr} {vs xs:List Value} {n:Nat} {out:Array Value} (e:h.get? a=some (seqObj "list" xs.toArray n)):∃ c,(sortedHeap h a vs out).get? a=some (seqObj "list" out c):=by
 have hlt:a < h.objs.size:=Heap.lt_size e
 have e1:=get?_update_seq e fun _=>#[]
 have e2:=Heap.get?_push_of_some (seqObj "list" #[] 0) (Heap.get?_push_of_some (seqObj "tuple" vs.toArray 0) e1)
 exact ⟨_,get?_update_seq e2 fun _=>out⟩
theorem list_sort_any {a:Addr} {vs:List Value} {ns:List Int} {n:Nat} {P:Fin→Shared→Prop} (ho:s.heap.get? a=some (seqObj "list" vs.toArray n)) (hI:IntsAre vs ns) (hz:vs.length ≤ sizeLine)
  (h:∀ (out:Array Value) (ms:List Int),IntsAre out.toList ms→ms.Perm ns→ms.Pairwise (·≤·)→P (.done (.ret .none)) { s with heap:=sortedHeap s.heap a vs out }):wpAny (model prog w) A (Builtin.«list.sort» ⟨[.ref a],[]⟩) P E s:=by
 rw [list_sort_plain]
 have ha:a < s.heap.objs.size:=Heap.lt_size ho
 have hzA:vs.toArray.size ≤ sizeLine:=by rw [List.size_toArray];exact hz
 refine wpAny_bind (listItems_at ho rfl (wpAny_bind (listUpdate_at ho rfl ?_ (hsz:=hzA) (hsz2:=Nat.zero_le _))))
 obtain ⟨c1,g1⟩:∃ c,(s.heap.update a (Obj.mapSeq fun _=>#[])).get? a=some (seqObj "list" #[] c):=⟨_,get?_update_seq ho fun _=>#[]⟩
 refine wpAny_bind (seqEpoch_at g1 rfl (wpAny_bind (wpAny_newTuple (wpAny_bind (wpAny_newList (wpAny_holding ?_))))))
 have g2:=Heap.get?_push_of_some (seqObj "list" #[] 0) (Heap.get?_push_of_some (seqObj "tuple" vs.toArray 0) g1)
 show wpAny (model prog w) A _ P E { s with heap:=((s.heap.update a (Obj.mapSeq fun _=>#[])).push (seqObj "tuple" vs.toArray 0)).push (seqObj "list" #[] 0) }
 dsimp only
 have hl:vs.toArray.size=vs.length:=by simp
 have fin:∀ z:SortSt,(arrOf z).Perm (pairsOf vs)→SortedTo (arrOf z) (pairsOf vs).size → P (.done (.ret .none)) { s with heap:=sortedHeap s.heap a vs ((arrOf z).map (·.2)) }:=fun z p q=>by
  obtain ⟨ms,i1,i2,i3⟩:=sorted_out hI p q
  exact h _ ms i1 i2 i3
 by_cases few:vs.toArray.size < 2
 ·rw [if_pos few,if_pos few]
  refine wpAny_bind (wpAny_pure ?_)
  rw [StateT.run_pure]
  refine wpAny_bind (wpAny_pure ?_)
  dsimp only
  refine wpAny_bind (seqEpoch_at g2 rfl (wpAny_bind (listUpdate_at g2 rfl ?_ (hsz:=Nat.zero_le _) (hsz2:=?_))))
  ·simp only [bne_self_eq_false,Bool.false_eq_true,if_false]
   refine wpAny_pure (fin (SortSt.mk' general' (vs.toArray.zip vs.toArray) #[] 7 none) (Array.Perm.refl _) fun i j hij hj=>?_)
   rw [pairsOf_size] at hj
   have:i=j:=by omega
   rw [this];exact Int.le_refl _
  ·rw [Array.size_map]
   show (pairsOf vs).size ≤ _
   rw [pairsOf_size];omega
 ·rw [if_neg few,if_neg few]
  obtain ⟨x,y,r,rfl⟩:∃ x y r,vs=x :: y :: r:=by
   rcases vs with _ | ⟨x,_ | ⟨y,r⟩⟩
   ·exact absurd (by simp) few
   ·exact absurd (by simp) few
   ·exact ⟨x,y,r,rfl⟩
  rw [keyKind_ints hI]
  refine wpAny_bind (wpAny_pure ?_)
  refine wpAny_bind (wpAny_mono (wpS_sortAll (a₀:=pairsOf (x :: y :: r)) (st:=SortSt.mk' oneType' ((x :: y :: r).toArray.zip (x :: y :: r).toArray) #[] 7 none) (Q:=fun _ z=>(arrOf z).Perm (pairsOf (x :: y :: r))∧failedOf z=none∧SortedTo (arrOf z) (pairsOf (x :: y :: r)).size)
   hI.intKeys (Array.Perm.refl _) rfl rfl rfl fun z b1 b2 b3=>⟨b1,b2,b3⟩) ?_ fun _ _ e=>e)
  rintro ⟨⟨⟩,z⟩ s' ⟨rfl,p,f,q⟩
  dsimp only
  refine wpAny_bind (seqEpoch_at g2 rfl (wpAny_bind (listUpdate_at g2 rfl ?_ (hsz:=Nat.zero_le _) (hsz2:=?_))))
  ·rw [f]
   simp only [bne_self_eq_false,Bool.false_eq_true,if_false]
   exact wpAny_pure (fin z p q)
  ·have:=(Array.size_map (f:=(·.2)) (xs:=arrOf z)).trans (p.size_eq.trans (pairsOf_size _))
   rw [this];omega
theorem sorted_any {v:Value}{ns:List Int}{Q:Value→Shared→Prop}
  (hc:∀ R:List Value→Shared→Prop,(∀ (vs:List Value) (h₁:Heap) (t:Nat) (dr:Drawn) (ks:List Int),IntsAre vs ks→ks.Perm ns→vs.length ≤ sizeLine→(∀ b o,s.heap.get? b=some o→h₁.get? b=some o)→R vs { s with heap:=h₁,toks:=t,drawn:=dr })→wpAny (model prog w) A.in1 (collect v) R E s)
  (h:∀ (h₁ h':Heap) (t:Nat) (dr:Drawn) (D:Addr) (c:Nat) (out:List Value) (ms:List Int),(∀ b o,s.heap.get? b=some o→h₁.get? b=some o)→(∀ b o,h₁.get? b=some o→h'.get? b=some o)→h₁.objs.size ≤ D→h'.get? D=some (seqObj "list" out.toArray c)→IntsAre out ms→ms.Perm ns→ms.Pairwise (·≤·)→Q (.ref D) { s with heap:=h',toks:=t,drawn:=dr }) :
  wpAny (model prog w) A (call (.builtin "sorted") [v]) Q E s:=by
 refine Calls.call_function_entry kind_sorted plain_sorted entry_sorted (args_sorted1 _) ?_
 unfold Builtin.«sorted»
 refine wpAny_bind (m:=checkCount "sorted" 1 1 _) (wpAny_pure (wpAny_bind (hc _ fun vs h₁ t dr ks hI hP hz hk=>wpAny_bind (wpAny_newList ?_))))
 have g:(h₁.push (seqObj "list" vs.toArray 0)).get? h₁.objs.size=some (seqObj "list" vs.toArray 0):=Heap.get?_push_size _ rfl
 show wpAny _ _ _ _ _ { s with heap:=h₁.push (seqObj "list" vs.toArray 0),toks:=t,drawn:=dr }
 refine wpAny_bind (wpAny_holding (wpAny_call_entry slot_list_sort ⟨_,g,rfl⟩ entry_list_sort (list_sort_any g hI hz fun out ms i1 i2 i3=>⟨_,rfl,?_⟩) (args_list_sort _)))
 obtain ⟨c,gc⟩:=sortedHeap_at (vs:=vs) (out:=out) g
 exact wpAny_pure ⟨_,rfl,h h₁ _ t dr _ c out.toList ms hk (fun b o e=>sortedHeap_keep (Nat.ne_of_lt (Heap.lt_size e)) (Heap.get?_push_of_some _ e)) (Nat.le_refl _) (by simpa using gc) i1 (i2.trans hP) i3⟩
theorem sorted_seq {p:Addr} {T:String} {o:Obj} {vs:List Value} {n:Nat} {ns:List Int} {Q:Value→Shared→Prop} (hT:T = "list" ∨ T = "tuple") (ho:s.heap.get? p=some o) (hc:o.cls = .type T) (hd:o.data = .seq vs.toArray n) (hI:IntsAre vs ns) (hz:vs.length ≤ sizeLine)
  (h:∀ (h₁ h':Heap) (t:Nat) (dr:Drawn) (D:Addr) (c:Nat) (out:List Value) (ms:List Int),(∀ b o,s.heap.get? b=some o→h₁.get? b=some o)→(∀ b o,h₁.get? b=some o→h'.get? b=some o)→h₁.objs.size ≤ D→h'.get? D=some (seqObj "list" out.toArray c)→IntsAre out ms→ms.Perm ns→ms.Pairwise (·≤·)→Q (.ref D) { s with heap:=h',toks:=t,drawn:=dr }) :
  wpAny (model prog w) A (call (.builtin "sorted") [.ref p]) Q E s :=
 sorted_any (ns:=ns) (fun R k=>wpAny_collect_seq p hT ho hc hd (fun g e=>k _ g s.toks s.drawn ns (by simpa using hI) (List.Perm.refl _) (by simpa using hz) e) (by simpa using hz)) h
end
end MwSort
set_option maxHeartbeats 3200000
namespace MwSet
open PySem PySem.Spec PyProof.Rows
end MwSet
namespace L2
open PySem PySem.Spec PyProof.Rows
def sortI (ns:List Int):List Int:=ns.mergeSort fun a b=>decide (a≤b)
theorem sortI_perm (ns:List Int):(sortI ns).Perm ns:=List.mergeSort_perm _ _
theorem sortI_rise (ns:List Int):(sortI ns).Pairwise (·≤·):=by
 have:=List.pairwise_mergeSort (le:=fun a b:Int=>decide (a≤b)) (fun a b c h1 h2=>by simp at h1 h2 ⊢;omega) (fun a b=>by simp;omega) ns
 exact this.imp fun {a b} h=>by simpa using h
theorem sortI_len (ns:List Int):(sortI ns).length=ns.length:=(sortI_perm ns).length_eq
theorem rise_eq {a b:List Int}(hp:a.Perm b)(ha:a.Pairwise (·≤·))(hb:b.Pairwise (·≤·)):a=b:=PySem.W.ksm_same hp ha hb
theorem sortI_eq {ms ns:List Int}(hp:ms.Perm ns)(hs:ms.Pairwise (·≤·)):ms=sortI ns:=rise_eq (hp.trans (sortI_perm ns).symm) hs (sortI_rise ns)
theorem mem_sortI {ns:List Int}{x:Int}:x∈sortI ns↔x∈ns:=(sortI_perm ns).mem_iff
theorem are_ints:∀ {ns:List Int} {us:List Value},Vals (ns.map V.int) us→IntsAre us ns
 | [],_,.nil=>.nil
 | n :: ns,_,.cons r t=>by
  obtain ⟨tk,rfl⟩:=r
  exact .cons n tk (are_ints t)
theorem ints_vals:∀ {us:List Value} {ns:List Int},IntsAre us ns→Vals (ns.map V.int) us
 | _,_,.nil=>.nil
 | _,_,.cons n t h=>.cons ⟨t,rfl⟩ (ints_vals h)
section
variable {X:Cx}{pins:List (Addr × Obj)}{σ:St}{H:Hp}{s:Shared}
theorem Inv.drew {d:Drawn}(I:Inv X pins σ H s):Inv X pins σ H { s with drawn:=d }:=⟨I.ok,I.os,I.bare,I.base,I.loc,I.cell,I.free,I.freeC,I.pin,I.hok,I.len⟩
theorem Inv.sorted {ns:List Int}{Q:VK}(I:Inv X pins σ H s)(hz:ns.length ≤ sizeLine)(q:∀ l,H l=none→Q (.ref l) (upd H l (.lst ((sortI ns).map V.int)))) :
  ∀ (h₁ h':Heap) (t:Nat) (dr:Drawn) (D:Addr) (c:Nat) (out:List Value) (ms:List Int),(∀ b o,s.heap.get? b=some o→h₁.get? b=some o)→(∀ b o,h₁.get? b=some o→h'.get? b=some o)→h₁.objs.size ≤ D→h'.get? D=some (seqObj "list" out.toArray c)→IntsAre out ms→ms.Perm ns→ms.Pairwise (·≤·) →
   EP X pins σ Q (.ref D) { s with heap:=h',toks:=t,drawn:=dr }:=by
 intro h₁ h' t dr D c out ms k1 k2 hD hg hI hp hs
 have e:=sortI_eq hp hs
 subst e
 have I1:Inv X pins σ H { s with heap:=h₁,toks:=t,drawn:=dr }:=(I.kept (t':=t) k1).drew
 refine ⟨.ref D,_,I1.laid (t':=t) (o:=.lst ((sortI ns).map V.int)) k2 hD ⟨?_,out,c,ints_vals hI,hg⟩,rfl,q D (I1.hok.fresh hD)⟩
 rw [List.length_map,sortI_len]
 exact hz
end
theorem bt_sorted:bootBuiltins "sorted" = some (.builtin "sorted"):=by decide +kernel
section
variable {X:Cx}
def rSorted:List V→Hp→VK→Prop:=fun xs H Q=>∃ (p:Addr) (ns:List Int),xs=[.ref p]∧(H p=some (.tup (ns.map V.int)) ∨ H p=some (.lst (ns.map V.int)))∧∀ l,H l=none→Q (.ref l) (upd H l (.lst ((sortI ns).map V.int)))
theorem call_sorted:CallR X (.builtin "sorted") rSorted:=by
 intro pins s σ H xs us Q I r h
 obtain ⟨p,ns,rfl,hp,q⟩:=h
 obtain ⟨u,rfl,e⟩:=vals1 r
 obtain rfl:u=Value.ref p:=e
 rcases hp with hp | hp
 ·obtain ⟨z,its,rv,o,ho,hc,n,hd⟩:=(show ObjOk X.prog X.w H s.heap p (.tup (ns.map V.int)) from I.hok p _ hp)
  have hl:=rv.length
  rw [List.length_map] at z hl
  exact MwSort.sorted_seq (.inr rfl) ho hc hd (are_ints rv) (by omega) (I.sorted z q)
 ·obtain ⟨z,its,n,rv,hg⟩:=(show ObjOk X.prog X.w H s.heap p (.lst (ns.map V.int)) from I.hok p _ hp)
  have hl:=rv.length
  rw [List.length_map] at z hl
  exact MwSort.sorted_seq (.inl rfl) hg rfl rfl (are_ints rv) (by omega) (I.sorted z q)
end
end L2
namespace L2
open PySem PySem.Spec PyProof.Rows
end L2
namespace L2
open PySem PySem.Spec PyProof.Rows
end L2
namespace L2
open PySem PySem.Spec PyProof.Rows
end L2
namespace L2
open PySem PySem.Spec PyProof.Rows
end L2
namespace L2
open PySem PySem.Spec PyProof.Rows
end L2
namespace L2
open PySem PySem.Spec PyProof.Rows
end L2
namespace L2
open PySem PySem.Spec PyProof.Rows
end L2
namespace L2
open PySem PySem.Spec PyProof.Rows
end L2
namespace L2
open PySem PySem.Spec PyProof.Rows
end L2
namespace L2
open PySem PySem.Spec PyProof.Rows
end L2
namespace L2
open PySem PySem.Spec PyProof.Rows
section
variable {κ:Type}[DecidableEq κ]
def valV (kvs:List (κ × V))(k:κ):Option V:=(kvs.find? fun kv=>decide (kv.1=k)).map (·.2)
def putK (kvs:List (κ × V))(k:κ)(v:V):List (κ × V) :=
 if (kvs.any fun kv=>decide (kv.1=k))=true then kvs.map (fun kv=>if kv.1=k then (kv.1,v) else kv) else kvs ++ [(k,v)]
theorem KV.length {kvs:List (κ × V)}{vs:List (κ × Value)}(r:KV kvs vs):kvs.length=vs.length:=Paired.length r
end
def DGet (H:Hp)(a:Addr)(y:V)(r:Option V):Prop :=
 (∃ kvs k,Rd H a (.dK kvs)∧y=kV k∧r=valV kvs k) ∨ ∃ kvs k b,Rd H a (.dT kvs)∧y = .ref b∧H b=some (.tup (k.map kV))∧r=valV kvs k
def DPut (H:Hp)(a:Addr)(y v:V)(H':Hp):Prop :=
 (∃ kvs k,H a=some (.dK kvs)∧y=kV k∧kvs.length < sizeLine∧H'=upd H a (.dK (putK kvs k v))) ∨
 ∃ kvs k b,H a=some (.dT kvs)∧y = .ref b∧H b=some (.tup (k.map kV))∧kvs.length < sizeLine∧H'=upd H a (.dT (putK kvs k v))
theorem DGet.k {H:Hp}{a:Addr}{kvs:List (Key × V)}{k:Key}(e:H a=some (.dK kvs)):DGet H a (kV k) (valV kvs k):=.inl ⟨kvs,k,.inl e,rfl,rfl⟩
theorem DGet.t {H:Hp}{a b:Addr}{kvs:List (List Key × V)}{k:List Key}(e:H a=some (.dT kvs))(eb:H b=some (.tup (k.map kV))):DGet H a (.ref b) (valV kvs k):=.inr ⟨kvs,k,b,.inl e,rfl,eb,rfl⟩
theorem DPut.k {H:Hp}{a:Addr}{kvs:List (Key × V)}{k:Key}{v:V}(e:H a=some (.dK kvs))(hl:kvs.length < sizeLine):DPut H a (kV k) v (upd H a (.dK (putK kvs k v))):=.inl ⟨kvs,k,e,rfl,hl,rfl⟩
theorem DPut.t {H:Hp}{a b:Addr}{kvs:List (List Key × V)}{k:List Key}{v:V}(e:H a=some (.dT kvs))(eb:H b=some (.tup (k.map kV)))(hl:kvs.length < sizeLine) :
  DPut H a (.ref b) v (upd H a (.dT (putK kvs k v))):=.inr ⟨kvs,k,b,e,rfl,eb,hl,rfl⟩
end L2
namespace Att
open PySem PySem.W PySem.Calls PyProof.Rows
end Att
namespace L2
open PySem PySem.Spec PyProof.Rows
end L2
namespace L2
open PySem PySem.Spec PyProof.Rows
end L2
namespace L2
open PySem PySem.Spec PyProof.Rows
end L2
namespace L2
open PySem PySem.Spec PyProof.Rows
end L2
namespace L2
open PySem PySem.Spec PyProof.Rows MwSet
def placeOf (n:Nat)(a b:Int):Int:=a * ((n:Int) - 1) / b
def Share (a b:Int):Prop:=0≤a∧a≤b∧1≤b∧b≤1000000
theorem place_bounds {n:Nat}{a b:Int}(h:Share a b)(hn:1≤n):0≤placeOf n a b∧placeOf n a b < n:=by
 obtain ⟨h1,h2,h3,_⟩:=h
 unfold placeOf
 have m0:0≤a * ((n:Int) - 1):=Int.mul_nonneg h1 (by omega)
 refine ⟨Int.ediv_nonneg m0 (by omega),Int.ediv_lt_of_lt_mul (by omega) ?_⟩
 have:a * ((n:Int) - 1)≤b * ((n:Int) - 1):=Int.mul_le_mul_of_nonneg_right h2 (by omega)
 have e:(n:Int) * b=b * ((n:Int) - 1) + b:=by rw [Int.mul_sub,Int.mul_one,Int.mul_comm];omega
 omega
def manieth (ns:List Int)(a b:Int):Option Int:=(sortI ns)[(placeOf ns.length a b).toNat]?
theorem manieth_nil (a b:Int):manieth [] a b=none:=by unfold manieth;rw [show sortI []=[] from List.length_eq_zero_iff.mp (by rw [sortI_len];rfl)];rfl
theorem manieth_some {ns:List Int}{a b:Int}(h:Share a b)(hn:ns≠[]):∃ h':(placeOf ns.length a b).toNat < (sortI ns).length,manieth ns a b=some (sortI ns)[(placeOf ns.length a b).toNat]:=by
 have hl:1≤ns.length:=by
  cases ns with
  | nil=>exact absurd rfl hn
  | cons x l=>simp
 have:=place_bounds h hl
 have h':(placeOf ns.length a b).toNat < (sortI ns).length:=by rw [sortI_len];omega
 exact ⟨h',List.getElem?_eq_getElem h'⟩
theorem manieth_mem {ns:List Int}{a b x:Int}(h:manieth ns a b=some x):x∈ns:=mem_sortI.mp (List.mem_of_getElem? h)
theorem rise_count {S:List Int}(hS:S.Pairwise (·≤·)){i:Nat}(hi:i < S.length)(v:Int):S[i]≤v↔i < S.countP fun x=>decide (x≤v):=by
 have mono:∀ p q,(hp:p < S.length)→(hq:q < S.length)→p≤q→S[p]≤S[q]:=fun p q hp hq hpq=>by
  rcases Nat.lt_or_ge p q with z | z
  ·exact List.pairwise_iff_getElem.mp hS p q hp hq z
  ·have:p=q:=by omega
   subst this;exact Int.le_refl _
 have e:S=S.take i ++ S[i] :: S.drop (i + 1):=by rw [← List.drop_eq_getElem_cons hi,List.take_append_drop]
 constructor
 ·intro h
  have c1:(S.take (i + 1)).countP (fun x=>decide (x≤v))=(S.take (i + 1)).length:=by
   rw [List.countP_eq_length]
   intro x hx
   obtain ⟨m,hm,rfl⟩:=List.mem_iff_getElem.mp hx
   rw [List.length_take] at hm
   rw [List.getElem_take]
   exact decide_eq_true (Int.le_trans (mono m i (by omega) hi (by omega)) h)
  have c2:(S.take (i + 1)).countP (fun x=>decide (x≤v))≤S.countP fun x=>decide (x≤v):=List.Sublist.countP_le (List.take_sublist _ _)
  rw [c1,List.length_take] at c2
  omega
 ·intro h
  rcases Int.lt_or_le v S[i] with z | z
  ·exfalso
   have c1:(S.drop i).countP (fun x=>decide (x≤v))=0:=by
    rw [List.countP_eq_zero]
    intro x hx
    obtain ⟨m,hm,rfl⟩:=List.mem_iff_getElem.mp hx
    rw [List.length_drop] at hm
    rw [List.getElem_drop]
    have:=mono i (i + m) hi (by omega) (by omega)
    simp;omega
   have c2:S.countP (fun x=>decide (x≤v))=(S.take i).countP (fun x=>decide (x≤v)) + (S.drop i).countP (fun x=>decide (x≤v)):=by rw [← List.countP_append,List.take_append_drop]
   have c3:(S.take i).countP (fun x=>decide (x≤v))≤(S.take i).length:=List.countP_le_length
   rw [List.length_take] at c3
   omega
  ·exact z
end L2
namespace L2
open PySem PySem.Spec PyProof.Rows MwSet
def SeqV (H:Hp)(p:Addr)(xs:List V):Prop:=H p=some (.tup xs) ∨ H p=some (.lst xs)
theorem SeqV.same {H H':Hp}{p:Addr}{xs:List V}(h:SeqV H p xs)(s:Same H H'):SeqV H' p xs:=h.imp (s _ _) (s _ _)
theorem SeqV.len {K:PySem.W.Frag}{H:Hp}{p:Addr}{xs:List V}(h:SeqV H p xs):LenV K (.ref p) H xs.length:=h.elim (fun e=>.inr ⟨_,SqT.of e,rfl⟩) fun e=>.inl ⟨_,SqL.of e,rfl⟩
end L2
namespace L2
open PySem PySem.Spec PyProof.Rows
theorem comp_seqV {K:PySem.W.Frag}{a:Addr}{xs:List V}{tl:TE}{σ:St}{H H1:Hp}{one:V→Hp→(Option V→Hp→Prop)→Prop}{Q:List V→Hp→Prop}(htl:∀ k:VK,k (.ref a) H1→tl σ H k)(hp:SeqV H1 a xs)(Pv:Nat→List V→Hp→Prop)(h0:Pv 0 [] H1)(hn:xs.length ≤ sizeLine)
  (hl:∀ i ys H',i≤xs.length → Pv i ys H'→H' a=H1 a) (hs:∀ i x ys H',xs[i]? = some x→Pv i ys H'→one x H' fun o H2=>Pv (i + 1) (ys ++ o.toList) H2) (hd:∀ ys H',Pv xs.length ys H'→Q ys H') :
  iList K tl σ H (fun J H2=>CompW J H2 one Q) ∨ iTup K tl σ H (fun J H2=>CompW J H2 one Q):=by
 rcases hp with e | e
 ·exact Or.inr (htl _ ⟨a,rfl,⟨_,SqT.of e⟩,compW_tup (xs:=xs) Pv h0 hn (fun i ys H' hi p=>SqT.of (by rw [hl i ys H' hi p];exact e)) hs hd⟩)
 ·exact Or.inl (htl _ ⟨a,rfl,⟨_,SqL.of e⟩,compW_list (xs:=xs) Pv h0 hn (fun i ys H' hi p=>SqL.of (by rw [hl i ys H' hi p];exact e)) hs hd⟩)
theorem cell_at {r:List (Option Int)}{i:Nat}{x:V}(h:(r.map cellV)[i]? = some x):∃ c,r[i]? = some c∧x=cellV c:=by
 rw [List.getElem?_map] at h
 cases e:r[i]? with
 | none=>rw [e] at h;cases h
 | some c=>rw [e] at h;exact ⟨c,rfl,(Option.some.inj h).symm⟩
end L2
namespace L2
open PySem PySem.Spec PyProof.Rows
def numsAt (F:List (List (Option Int)))(ru:Rule)(u d l r:Nat)(i j:Int):List Int:=(wc F ru u d l r i j).filterMap id
def filAt (F:List (List (Option Int)))(ru:Rule)(u d l r:Nat)(a b:Int)(i j:Int):Option Int:=manieth (numsAt F ru u d l r i j) a b
def wideF (F:List (List (Option Int))):Nat:=(F.headD []).length
def fil (F:List (List (Option Int)))(ru:Rule)(u d l r:Nat)(a b:Int):List (List (Option Int)):=(List.range F.length).map fun i:Nat=>(List.range (wideF F)).map fun j:Nat=>filAt F ru u d l r a b (i:Int) (j:Int)
theorem fil_len (F:List (List (Option Int)))(ru:Rule)(u d l r:Nat)(a b:Int):(fil F ru u d l r a b).length=F.length:=by unfold fil;simp
theorem fil_row {F:List (List (Option Int))}{ru:Rule}{u d l r:Nat}{a b:Int}{i:Nat}(hi:i < F.length):(fil F ru u d l r a b)[i]? = some ((List.range (wideF F)).map fun j:Nat=>filAt F ru u d l r a b (i:Int) (j:Int)):=by
 unfold fil
 rw [List.getElem?_map,List.getElem?_range hi];rfl
theorem fil_rows {F:List (List (Option Int))}{ru:Rule}{u d l r:Nat}{a b:Int}:∀ x∈fil F ru u d l r a b,x.length=wideF F:=fun x hx=>by
 obtain ⟨i,_,rfl⟩:=List.mem_map.mp hx
 simp
theorem fil_wide {F:List (List (Option Int))}(R:Rect F){ru:Rule}{u d l r:Nat}{a b:Int}:wideF (fil F ru u d l r a b)=wideF F:=by
 have e:=fil_row (ru:=ru) (u:=u) (d:=d) (l:=l) (r:=r) (a:=a) (b:=b) (i:=0) R.h1
 unfold wideF
 have:(fil F ru u d l r a b).headD []=(List.range (wideF F)).map fun j:Nat=>filAt F ru u d l r a b ((0:Nat):Int) (j:Int):=by
  cases h:fil F ru u d l r a b with
  | nil=>rw [h] at e;cases e
  | cons x l=>rw [h] at e;exact Option.some.inj e
 rw [this]
 simp [wideF]
theorem Rect.fil {F:List (List (Option Int))}(R:Rect F)(ru:Rule)(u d l r:Nat)(a b:Int):Rect (fil F ru u d l r a b):=by
 have ew:=fil_wide R (ru:=ru) (u:=u) (d:=d) (l:=l) (r:=r) (a:=a) (b:=b)
 unfold wideF at ew
 refine ⟨by rw [fil_len];exact R.h1,by rw [fil_len];exact R.hs,by rw [ew];exact R.w1,by rw [ew];exact R.ws,fun x hx=>?_⟩
 rw [ew]
 exact fil_rows x hx
end L2
namespace L2
open PySem PySem.Spec PyProof.Rows
section
variable {X:Cx}{pins:List (Addr × Obj)}{σ:St}{H:Hp}{s:Shared}
theorem comp_name {scope:Scope}{cells:List (Str × Addr)}{C:Addr}{N:List Str}{s2:Shared}{H2:Hp}{fp:List Addr}{y:Str}{p:Pos}{i:Nat}(hN:N.Nodup)(hi:N[i]? = some y)(hx:scope.names.lookup y=some .local ∨ scope.names.lookup y=some .cell) :
  PG (X.comp scope cells C N s2 H2 fp) (.Name y p) (gName i):=by
 refine pg_name hN hi ?_ ?_
 ·show (relabel scope X.env).names.lookup y=some .local ∨ (relabel scope X.env).names.lookup y=some .cell
  rw [show (relabel scope X.env).names.lookup y=_ from kindOf_relabel scope.names y]
  rcases hx with z | z
  ·rw [z];exact .inl rfl
  ·rw [z];exact .inr rfl
 ·rcases hx with z | z
  ·refine .inr ?_
   show (relabel scope X.env).names.lookup y=some .local
   rw [show (relabel scope X.env).names.lookup y=_ from kindOf_relabel scope.names y,z]
   rfl
  ·refine .inl ?_
   show (scope.names.lookup y == some .cell)=true
   rw [z];rfl
def oneOf2 (K:PySem.W.Frag)(tc:TT)(te:TE)(σ:St)(x:V)(H:Hp)(k:Option V→Hp→Prop):Prop :=
 ∃ a v1 v2,x = .ref a∧SqT K H a [v1,v2]∧tc (some v1 :: some v2 :: σ) H fun b H1=>if b=true then te (some v1 :: some v2 :: σ) H1 fun v H2=>k (some v) H2 else k none H1
def tCompIf2 (K:PySem.W.Frag)(wi:TI)(idx:List Nat)(tc:TT)(te:TE):TE:=fun σ H Q=>wi σ H fun J H1=>CompW J H1 (oneOf2 K tc te (sel idx σ)) fun ys H'=>∀ p,H' p=none→Q (.ref p) (upd H' p (.lst ys))
theorem comp_start2 {scope:Scope}{M:List Str}{idx:List Nat}{fp:List Addr}{x x2:Str}(ok:CompOk X scope M idx)(hc:X.calm=true)(I:Inv X pins σ H s)(hf:∀ b∈fp,FpOk X pins H b)
  (ho:∀ b∈fp,∃ o,s.heap.get? b=some o) :
  Inv (X.comp scope (cellsFrom (s.heap.objs.size + 2) scope.names (clOf X.env.cells scope.names [])) (s.heap.objs.size + 1) (x :: x2 :: M) s H fp) [] (none :: none :: sel idx σ) H
   { s with heap:=pushCells ((s.heap.push { cls:=.type "list",dict:=none,data:=.seq ([]:List Value).toArray }).push { cls:=.type "dict",data:=.dict #[] }) scope.names }:=by
 have sz2:((s.heap.push { cls:=.type "list",dict:=none,data:=.seq ([]:List Value).toArray }).push { cls:=.type "dict",data:=.dict #[] }).objs.size=s.heap.objs.size + 2:=by rw [Heap.size_push,Heap.size_push]
 have keep:∀ b o,s.heap.get? b=some o→(pushCells ((s.heap.push { cls:=.type "list",dict:=none,data:=.seq ([]:List Value).toArray }).push { cls:=.type "dict",data:=.dict #[] }) scope.names).get? b=some o :=
  fun b o e=>pushCells_keeps _ _ _ _ (Heap.get?_push_of_some _ (Heap.get?_push_of_some _ e))
 have clLook:∀ n c,(clOf X.env.cells scope.names []).lookup n=some c→X.env.cells.lookup n=some c:=lookup_clOf fun n c e=>by simp at e
 have clLt:∀ n c,(clOf X.env.cells scope.names []).lookup n=some c→c < s.heap.objs.size:=fun n c e=>by
  obtain ⟨v,z⟩:=I.cell n c (clLook n c e)
  exact z.lt
 have look:∀ n c,(cellsFrom (s.heap.objs.size + 2) scope.names (clOf X.env.cells scope.names [])).lookup n=some c →
   (s.heap.objs.size + 2≤c∧(pushCells ((s.heap.push { cls:=.type "list",dict:=none,data:=.seq ([]:List Value).toArray }).push { cls:=.type "dict",data:=.dict #[] }) scope.names).IsCell c none) ∨ X.env.cells.lookup n=some c:=fun n c e=>by
  have e':(cellsFrom ((s.heap.push { cls:=.type "list",dict:=none,data:=.seq ([]:List Value).toArray }).push { cls:=.type "dict",data:=.dict #[] }).objs.size scope.names (clOf X.env.cells scope.names [])).lookup n=some c:=by rw [sz2];exact e
  rcases cellsFrom_new e' with ⟨q1,q2⟩ | q
  ·rw [sz2] at q1;exact .inl ⟨q1,q2⟩
  ·exact .inr (clLook n c q)
 have fresh:∀ a,s.heap.objs.size ≤ a→H a=none:=fun a h=>I.hok.fresh h
 have fpLt:∀ b∈fp,b < s.heap.objs.size:=fun b hb=>let ⟨_,e⟩:=ho b hb;Heap.lt_size e
 have fpStk:∀ b∈fp,b ∉ frs X.stack:=fun b hb z=>by
  obtain ⟨_,f1,f2,_⟩:=hf b hb
  exact (List.mem_cons.mp (I.stkSub b z)).elim f1 f2
 have hasFree:∀ y∈scope.names,y.2 = .free → ∃ c,X.env.cells.lookup y.1=some c:=fun y hy e=>I.ok.has y.1 (ok.fre y hy e)
 have kindR:∀ y,(compEnvC scope (cellsFrom (s.heap.objs.size + 2) scope.names (clOf X.env.cells scope.names [])) (s.heap.objs.size + 1) X.env).kindOf y =
   (scope.names.lookup y).map fun k=>if (k == NameKind.free && X.env.scope.kind == .function && X.env.kindOf y == some .cell) then NameKind.cell else k:=fun y=>kindOf_relabel scope.names y
 refine ⟨⟨I.ok.mod,ok.kind,I.ok.glob,I.ok.blt,Nat.le_succ _,?_,fun y hy=>?_,fun y c hfn e=>?_,I.ok.hd,I.ok.frames,.inl rfl,fun b hb=>⟨?_,fun y c e=>?_⟩,I.bs,Nat.le_trans I.ok.bsz I.sz,fun b o e hb=>?_,fun b hb=>fpStk b hb,I.stack,I.stkFree⟩,
  rfl,I.bare,Un.kept keep,⟨fun _=>none,?_,fun i y v h1 h2 h3=>?_⟩,fun y c e=>?_,fresh _ (Nat.le_succ _),fun y c e=>?_,fun p hp=>absurd (show p∈([]:List (Addr × Obj)) from hp) (by simp),I.hok.kept keep,?_⟩
 ·exact cellsFrom_inj (fun a b c h1 h2=>I.ok.inj a b c (clLook a c h1) (clLook b c h2)) fun a c h1=>Nat.lt_of_lt_of_le (clLt a c h1) (Nat.le_add_right _ _)
 ·-- has
  rw [show (X.comp scope (cellsFrom (s.heap.objs.size + 2) scope.names (clOf X.env.cells scope.names [])) (s.heap.objs.size + 1) (x :: x2 :: M) s H fp).env.kindOf y=_ from kindR y] at hy
  show ∃ c,(cellsFrom (s.heap.objs.size + 2) scope.names (clOf X.env.cells scope.names [])).lookup y=some c
  cases hk:scope.names.lookup y with
  | none=>rw [hk] at hy;rcases hy with z | z <;> cases z
  | some k =>
   have mem:=PySem.mem_of_lookup hk
   by_cases k1:k = .cell
   ·subst k1;exact cellsFrom_has mem
   by_cases k2:k = .free
   ·subst k2
    obtain ⟨c,ec⟩:=hasFree _ mem rfl
    exact cellsFrom_acc (clOf_has ec mem)
   ·rw [hk] at hy
    have hb:(k == NameKind.free)=false:=by simpa using k2
    rw [Option.map_some,hb,Bool.false_and,Bool.false_and,if_neg Bool.false_ne_true] at hy
    rcases hy with z | z
    ·exact absurd (Option.some.inj z) k1
    ·exact absurd (Option.some.inj z) k2
 ·-- cab
  have hl:scope.names.lookup y=some .cell:=by simpa [Cx.comp] using hfn
  exact cellsFrom_ge (lo:=s.heap.objs.size) (by omega) (.inl (PySem.mem_of_lookup hl)) e
 ·-- exf
  exact Nat.ne_of_lt (Nat.lt_succ_of_lt (fpLt b hb))
 ·rcases look y c e with ⟨q,_⟩ | q
  ·exact fun z=>absurd (fpLt b hb) (by rw [← z];exact Nat.not_lt.mpr (Nat.le_trans (Nat.le_add_right _ 2) q))
  ·exact (hf b hb).2.2.2.2.1 y c q
 ·-- noex
  rcases (hf b hb).2.2.2.1 with z | z
  ·exact I.ok.noex b o e z
  ·exact absurd (Nat.lt_of_lt_of_le (Heap.lt_size e) (Nat.le_trans I.ok.bsz z)) (Nat.lt_irrefl _)
 ·-- the new map
  have e0:(s.heap.push { cls:=.type "list",dict:=none,data:=.seq ([]:List Value).toArray }).objs.size=s.heap.objs.size + 1:=Heap.size_push ..
  have q:=(Heap.Ns.new (s.heap.push { cls:=.type "list",dict:=none,data:=.seq ([]:List Value).toArray }) (.type "dict")).keeps (pushCells_keeps scope.names _)
  rw [e0] at q
  exact q
 ·-- names
  cases i with
  | zero=>cases h2
  | succ i=>cases i with
  | zero=>cases h2
  | succ j =>
   have h2':(sel idx σ)[j]? = some (some v):=h2
   have h1':M[j]? = some y:=h1
   obtain ⟨k,ek,ev⟩:=sel_get h2'
   obtain ⟨hl,k',ek',eN⟩:=ok.cap j y h1'
   rw [ek] at ek';cases ek'
   have mem:=PySem.mem_of_lookup hl
   have hk:=ok.fre _ mem rfl
   obtain ⟨m,hn,hloc⟩:=I.loc
   have vis:Vis X.env.scope y:=hk.elim (fun z=>.inr (.inl z)) fun z=>.inr (.inr z)
   obtain ⟨u,r,l⟩:=hloc k y v eN ev vis
   refine ⟨u,r,?_⟩
   rcases l with ⟨z,_⟩ | ⟨_,c,ec,hcell⟩
   ·rw [z] at hk;rcases hk with z | z <;> cases z
   ·refine .inr ⟨?_,c,?_,hcell.keeps keep⟩
    ·rw [show (X.comp scope (cellsFrom (s.heap.objs.size + 2) scope.names (clOf X.env.cells scope.names [])) (s.heap.objs.size + 1) (x :: x2 :: M) s H fp).env.kindOf y=_ from kindR y,hl,Option.map_some]
     by_cases hcc:(NameKind.free == NameKind.free && X.env.scope.kind == .function && X.env.kindOf y == some .cell)=true
     ·rw [if_pos hcc];exact .inl rfl
     ·rw [if_neg hcc];exact .inr rfl
    ·show (cellsFrom (s.heap.objs.size + 2) scope.names (clOf X.env.cells scope.names [])).lookup y=some c
     rw [cellsFrom_not]
     ·obtain ⟨d,ed⟩:=clOf_has (acc:=[]) ec mem
      rw [ed,← clLook y d ed,ec]
     ·intro p hp hpc hpy
      have:=ok.cel p hp hpc
      rw [hpy,hl] at this
      cases this
 ·rcases look y c e with ⟨_,q⟩ | q
  ·exact ⟨_,q⟩
  ·obtain ⟨v,z⟩:=I.cell y c q
   exact ⟨v,z.keeps keep⟩
 ·rcases look y c e with ⟨q,_⟩ | q
  ·exact fresh _ (by omega)
  ·exact I.freeC y c q
 ·show (none :: none :: sel idx σ).length=(x :: x2 :: M).length
  unfold sel
  rw [List.length_cons,List.length_cons,List.length_cons,List.length_cons,List.length_map,ok.len]
theorem comp_block2 {elt iter:Expr}{ifs:List Expr}{scope:Scope}{pos:Pos}{x x2:Str}{px px2 pt:Pos}{kk:Nat}{K:PySem.W.Frag}{M:List Str}{idx:List Nat}{tc:TT}{te:TE}{itv:Value}{Q:List V→Hp→Prop}
  {RR:Value→Addr→Result→Shared→Prop}
  (hK:X.K=K) (hc:X.calm=true) (ok:CompOk X scope M idx) (hN:(x :: x2 :: M).Nodup) (hx:scope.names.lookup x=some .local ∨ scope.names.lookup x=some .cell) (hx2:scope.names.lookup x2=some .local ∨ scope.names.lookup x2=some .cell)
  (ht:∀ cells C s2 H2 fp,PTs (X.comp scope cells C (x :: x2 :: M) s2 H2 fp) ifs tc) (he:∀ cells C s2 H2 fp,PE (X.comp scope cells C (x :: x2 :: M) s2 H2 fp) elt te)
  (h:PIE X pins σ (.Tuple [.Name x px,.Name x2 px2] kk pt) (fun J H1=>CompW J H1 (oneOf2 K tc te (sel idx σ)) Q) itv s)
  (hR:∀ (D C:Addr) (ys:List V) (H':Hp) (s':Shared),s.heap.objs.size ≤ D→s.heap.objs.size ≤ C→D≠C→H' D=none→H' C=none→Q ys H'→(∃ m,s'.heap.Ns C m) →
   (∀ h' tk,Heap.SameBut C s'.heap h'→Inv X pins σ (upd H' D (.lst ys)) { s' with heap:=h',toks:=tk })→RR (.ref D) C (.ok .next) s') :
  wpAny (model X.prog X.w) X.A (newList []) (fun acc s₃=>wpAny (model X.prog X.w) X.A (newFunctionEnv scope X.env.globals (clOf X.env.cells scope.names []) [] X.env.qual none .none (some X.env)) (fun cenv s₄ =>
   codeAny (model X.prog X.w) X.A (.compStart (.ListComp elt [⟨.Tuple [.Name x px,.Name x2 px2] kk pt,iter,ifs,0⟩] scope pos) 0 itv acc { cenv with scope:=relabel scope X.env }) (RR acc cenv.locals) s₄) X.xe s₃) X.xe s:=by
 obtain ⟨it,fp,tn,J,H2,e,I2,T,st2,f2,n,W,w0,hn,turn⟩:=h
 subst e
 have ho:∀ b∈fp,∃ o,s.heap.get? b=some o:=fun b hb=>let ⟨o,e,_⟩:=T.obj 0 _ st2 b hb;⟨o,e⟩
 have I3:=comp_start2 (x:=x) (x2:=x2) ok hc I2 f2 ho
 have sz1:(s.heap.push { cls:=.type "list",dict:=none,data:=.seq ([]:List Value).toArray }).objs.size=s.heap.objs.size + 1:=Heap.size_push ..
 have keep0:∀ b o,s.heap.get? b=some o→(pushCells ((s.heap.push { cls:=.type "list",dict:=none,data:=.seq ([]:List Value).toArray }).push { cls:=.type "dict",data:=.dict #[] }) scope.names).get? b=some o :=
  fun b o e=>pushCells_keeps _ _ _ _ (Heap.get?_push_of_some _ (Heap.get?_push_of_some _ e))
 have acc0:(pushCells ((s.heap.push { cls:=.type "list",dict:=none,data:=.seq ([]:List Value).toArray }).push { cls:=.type "dict",data:=.dict #[] }) scope.names).PlainList s.heap.objs.size ([]:List Value).toArray :=
  ⟨_,pushCells_keeps _ _ _ _ (Heap.get?_push_of_some _ (Heap.get?_push_size _ rfl))⟩
 have fpLt:∀ b∈fp,b < s.heap.objs.size:=fun b hb=>let ⟨_,e⟩:=ho b hb;Heap.lt_size e
 refine wpAny_newList ?_
 refine newCompEnv ?_
 dsimp only
 rw [sz1]
 generalize hcells:cellsFrom (s.heap.objs.size + 1 + 1) scope.names (clOf X.env.cells scope.names [])=cells
 have hcells':cellsFrom (s.heap.objs.size + 2) scope.names (clOf X.env.cells scope.names [])=cells:=hcells
 rw [hcells'] at I3
 generalize hh:pushCells ((s.heap.push { cls:=.type "list",dict:=none,data:=.seq ([]:List Value).toArray }).push { cls:=.type "dict",data:=.dict #[] }) scope.names=h1 at I3 keep0 acc0 ⊢
 have ht:=ht cells (s.heap.objs.size + 1) s H2 fp
 have he:=he cells (s.heap.objs.size + 1) s H2 fp
 have st3:tn 0 h1:=T.keep 0 _ _ st2 fun b hb o e=>keep0 b o e
 have hg:PG (X.comp scope cells (s.heap.objs.size + 1) (x :: x2 :: M) s H2 fp) (.Tuple [.Name x px,.Name x2 px2] kk pt) (gTup K 2 (gCons (gName 0) (gCons (gName 1) gNil))) :=
  pg_tupK hK hc (pgs_cons (comp_name (i:=0) hN rfl hx) (pgs_cons (comp_name (i:=1) hN rfl hx2) pgs_nil))
 have stat:∀ {pins':List (Addr × Obj)} {H':Hp},(∀ p∈pins',p.1=s.heap.objs.size)→(∀ b∈fp,H' b=none)→∀ b∈fp,FpOk (X.comp scope cells (s.heap.objs.size + 1) (x :: x2 :: M) s H2 fp) pins' H' b:=fun {pins' H'} hp hn b hb =>
  ⟨hn b hb,(I3.ok.exf b hb).1,I3.ok.exfs b hb,.inl hb,(I3.ok.exf b hb).2,fun p hp'=>by
   have e:=hp p (show p∈pins' from by simpa [Cx.comp] using hp')
   rw [e];exact Nat.ne_of_gt (fpLt b hb)⟩
 have loop:∀ (s₄:Shared),s₄={ s with heap:=h1 }→codeAny (model X.prog X.w) X.A (.compLoop (.ListComp elt [⟨.Tuple [.Name x px,.Name x2 px2] kk pt,iter,ifs,0⟩] scope pos) 0 (.ref it) (.ref s.heap.objs.size) (compEnvC scope cells (s.heap.objs.size + 1) X.env))
   (RR (.ref s.heap.objs.size) (s.heap.objs.size + 1)) s₄:=by
  rintro s₄ rfl
  refine compLoop_any (fun k s'=>∃ (i:Nat) (ys:List V) (its:List Value) (H':Hp),Inv (X.comp scope cells (s.heap.objs.size + 1) (x :: x2 :: M) s H2 fp) [] (none :: none :: sel idx σ) H' s'∧tn i s'.heap ∧ (∀ b∈fp,H' b=none)∧H' s.heap.objs.size=none ∧
   s'.heap.PlainList s.heap.objs.size its.toArray ∧ Vals ys its∧ys.length ≤ i∧i≤n∧W i ys H'∧k=n - i) ?_ n ⟨0,[],[],H2,I3,st3,fun b hb=>(f2 b hb).1,I2.hok.fresh (Nat.le_refl _),acc0,.nil,Nat.le_refl _,Nat.zero_le _,w0,rfl⟩
  rintro k s' ⟨i,ys,its,H',I',st',fr',hD',hpl',hv',hlen,hlin,w',rfl⟩
  obtain ⟨nn,hobj⟩:=id hpl'
  have pinD:∀ {H5:Hp} {s5:Shared} {σ5:St} {P5:List (Addr × Obj)},Inv (X.comp scope cells (s.heap.objs.size + 1) (x :: x2 :: M) s H2 fp) P5 σ5 H5 s5→s5.heap.get? s.heap.objs.size=some { cls:=.type "list",data:=.seq its.toArray nn }→H5 s.heap.objs.size=none →
    ∀ p∈[(s.heap.objs.size,({ cls:=.type "list",data:=.seq its.toArray nn }:Obj))],s5.heap.get? p.1=some p.2 ∧ H5 p.1=none∧p.1 ≠ (X.comp scope cells (s.heap.objs.size + 1) (x :: x2 :: M) s H2 fp).env.locals ∧ p.1 ∉ (X.comp scope cells (s.heap.objs.size + 1) (x :: x2 :: M) s H2 fp).fs ∧ ∀ v,p.2.data ≠ .cell v :=
   fun {H5 s5 σ5 P5} I5 e5 n5 p hp=>by
    have ep:p=(s.heap.objs.size,({ cls:=.type "list",data:=.seq its.toArray nn }:Obj)):=by simpa using hp
    subst ep
    refine ⟨e5,n5,Nat.ne_of_lt (Nat.lt_succ_self _),fun z=>?_,fun v z=>by cases z⟩
    obtain ⟨_,o,ho,_⟩:=I5.ok.funs.mem z
    exact absurd (Heap.lt_size ho) (Nat.lt_irrefl _)
  have ID:=I'.pins_of (pinD I' hobj hD')
  have ndp:∀ p∈[(s.heap.objs.size,({ cls:=.type "list",data:=.seq its.toArray nn }:Obj))],p.1=s.heap.objs.size:=fun p hp=>by
   have ep:p=(s.heap.objs.size,({ cls:=.type "list",data:=.seq its.toArray nn }:Obj)):=by simpa using hp
   rw [ep]
  rcases turn i ys H' w' with ⟨stop,qn⟩ | ⟨go,hin,N,hNW,step⟩
  ·refine thn (T.done (X.comp scope cells (s.heap.objs.size + 1) (x :: x2 :: M) s H2 fp) rfl rfl rfl hc i _ s' _ H' (fun _ _=>False) ID (stat ndp fr') st' stop) fun r s4 ⟨hr,I4⟩=>?_
   subst hr
   have pin4:=I4.pin (s.heap.objs.size,({ cls:=.type "list",data:=.seq its.toArray nn }:Obj)) (by simp [Cx.comp])
   obtain ⟨m4,hm4,_⟩:=id I4.loc
   refine hR s.heap.objs.size (s.heap.objs.size + 1) ys H' s4 (Nat.le_refl _) (Nat.le_succ _) (Nat.ne_of_lt (Nat.lt_succ_self _)) pin4.2.1 I4.free qn ⟨m4,hm4⟩ fun h' tk hs'=>?_
   have neC:∀ b,b < s.heap.objs.size → b≠s.heap.objs.size + 1:=fun b hb=>Nat.ne_of_lt (Nat.lt_succ_of_lt hb)
   have neD:∀ b,b < s.heap.objs.size → b≠s.heap.objs.size:=fun b hb=>Nat.ne_of_lt hb
   have u4:=I4.base
   refine I2.call' (s':={ s4 with heap:=h',toks:=tk }) (ch:=fp) I4.os ?_ ?_ I4.bare fun b hb=>?_
   ·refine ⟨fun b o e1 e2 e3 e4=>?_,fun b o e1 e2 e3 e4=>?_,fun b o e1 e2 e3=>?_,fun b o e1 e2=>?_,fun b xs e1=>?_,fun b o u e1=>?_,fun b ps e1=>?_⟩
    ·exact (hs'.2 b (neC b (Heap.lt_size e1))).trans (u4.keep b o e1 e2 e3 e4)
    ·obtain ⟨sl,q⟩:=u4.slot b o e1 e2 e3 e4
     exact ⟨sl,(hs'.2 b (neC b (Heap.lt_size e1))).trans q⟩
    ·rw [upd_ne (neD b (Heap.lt_size e1))];exact u4.free b o e1 e2 e3
    ·obtain ⟨o',q⟩:=u4.there b o e1 e2
     exact ⟨o',(hs'.2 b (neC b (Heap.lt_size e1))).trans q⟩
    ·have q:=u4.tups b xs e1
     rw [upd_ne (ne_of_none q pin4.2.1)];exact q
    ·have q:=u4.frzs b o u e1
     rw [upd_ne (ne_of_none q pin4.2.1)];exact q
    ·obtain ⟨more,q⟩:=u4.tbls b ps e1
     exact ⟨more,by rw [upd_ne (ne_of_none q pin4.2.1)];exact q⟩
   ·intro b o e1
    by_cases hb:b=s.heap.objs.size
    ·subst hb
     rw [upd_same] at e1;cases e1
     exact ⟨Nat.le_trans hlen (Nat.le_trans hlin hn),its,nn,hv',(hs'.2 _ (Nat.ne_of_lt (Nat.lt_succ_self _))).trans pin4.1⟩
    ·rw [upd_ne hb] at e1
     refine (I4.hok b o e1).stay (fun c u hcu q=>(hs'.2 c ?_).trans q) (fun c q=>by rw [upd_ne (ne_of_none q pin4.2.1)];exact q) fun c xs q=>by rw [upd_ne (ne_of_none q pin4.2.1)];exact q
     rintro rfl
     rcases hcu with z | z
     ·rw [← z] at e1
      have z2:=I4.free
      rw [show (X.comp scope cells (s.heap.objs.size + 1) (x :: x2 :: M) s H2 fp).env.locals=s.heap.objs.size + 1 from rfl,e1] at z2
      cases z2
     ·have z2:=I4.free
      rw [show (X.comp scope cells (s.heap.objs.size + 1) (x :: x2 :: M) s H2 fp).env.locals=s.heap.objs.size + 1 from rfl,z] at z2
      cases z2
   ·obtain ⟨_,g1,g2,g3,g4,g5⟩:=f2 b hb
    exact ⟨g3,g1,g4,g5⟩
  ·refine thn (T.item (X.comp scope cells (s.heap.objs.size + 1) (x :: x2 :: M) s H2 fp) rfl rfl rfl hc i _ s' _ H' (fun _ _=>False) ID (stat ndp fr') st' go) fun r s4 ⟨u,hr,h4⟩=>?_
   subst hr
   refine thn h4 fun _ s5 ⟨y,H5,I5,r5,y5,st5,fr5⟩=>?_
   have I5':=I5.pinned (stat ndp fr5) (T.obj _ _ st5)
   obtain ⟨pa,v1,v2,ey,hq,q5⟩:=step y _ y5
   refine thn (hg _ s5 _ H5 y u (fun σ' H6=>σ'=some v1 :: some v2 :: sel idx σ∧H6=H5) I5' r5 ⟨pa,[v1,v2],ey,hq,rfl,v1,[v2],rfl,v2,[],rfl,rfl,rfl,rfl⟩) fun _ s6 ⟨σ6,H6,I6,e6,e6'⟩=>?_
   subst e6 e6'
   have fin:∀ {H8:Hp} {s8:Shared} {σ8:St},Inv (X.comp scope cells (s.heap.objs.size + 1) (x :: x2 :: M) s H2 fp) ([(s.heap.objs.size,({ cls:=.type "list",data:=.seq its.toArray nn }:Obj))] ++ pinsAt fp s5.heap) σ8 H8 s8 →
     s8.heap.PlainList s.heap.objs.size its.toArray ∧ H8 s.heap.objs.size=none∧tn (i + 1) s8.heap ∧ ∀ b∈fp,H8 b=none:=fun {H8 s8 σ8} I8=>by
    have p8:=I8.pin (s.heap.objs.size,({ cls:=.type "list",data:=.seq its.toArray nn }:Obj)) (by simp [Cx.comp])
    refine ⟨⟨nn,p8.1⟩,p8.2.1,T.keep _ _ _ st5 fun b hb o e=>(I8.pin (b,o) (List.mem_append_right _ (List.mem_append_right _ (mem_pinsAt hb e)))).1,fun b hb=>?_⟩
    obtain ⟨o,e,_⟩:=T.obj _ _ st5 b hb
    exact (I8.pin (b,o) (List.mem_append_right _ (List.mem_append_right _ (mem_pinsAt hb e)))).2.1
   have back:∀ {H8:Hp} {s8:Shared} {P8:List (Addr × Obj)},Inv (X.comp scope cells (s.heap.objs.size + 1) (x :: x2 :: M) s H2 fp) P8 (some v1 :: some v2 :: sel idx σ) H8 s8→Inv (X.comp scope cells (s.heap.objs.size + 1) (x :: x2 :: M) s H2 fp) [] (none :: none :: sel idx σ) H8 s8:=fun I8 =>
    (I8.pins_of fun p hp=>absurd hp (by simp)).weak rfl fun j v e=>by
     cases j with
     | zero=>cases e
     | succ j=>cases j with
     | zero=>cases e
     | succ j=>exact e
   refine thn (ht _ s6 _ _ _ I6 q5) fun b s7 ⟨H7,I7,q7⟩=>?_
   cases b with
   | false =>
    have q7':W (i + 1) (ys ++ []) H7:=hNW none H7 q7
    rw [List.append_nil] at q7'
    obtain ⟨g1,g2,g3,g4⟩:=fin I7
    refine show (if false=true then _ else _) from ?_
    rw [if_neg Bool.false_ne_true]
    exact ⟨n - (i + 1),by omega,i + 1,ys,its,H7,back I7,g3,g4,g2,g1,hv',Nat.le_succ_of_le hlen,hin,q7',rfl⟩
   | true =>
    refine show (if true=true then _ else _) from ?_
    rw [if_pos rfl]
    have q7':te (some v1 :: some v2 :: sel idx σ) H7 fun v H3=>N (some v) H3:=q7
    refine thn (he _ s7 _ _ _ I7 q7') fun u8 s8 ⟨v8,H8,I8,r8,w8⟩=>?_
    have w8:W (i + 1) (ys ++ [v8]) H8:=hNW (some v8) H8 w8
    obtain ⟨g1,g2,g3,g4⟩:=fin I8
    refine wpAny_list_append_plain g1 (fun h' hpl hs'=>?_) (by
     rw [List.size_toArray,← hv'.length]
     exact Nat.le_trans hlen (Nat.le_trans hlin hn))
    have I9:=back I8
    have hpl2:h'.PlainList s.heap.objs.size (its ++ [u8]).toArray:=by
     have e:(its ++ [u8]).toArray=its.toArray.push u8:=by simp
     rw [e];exact hpl
    refine ⟨n - (i + 1),by omega,i + 1,ys ++ [v8],its ++ [u8],H8,I9.turned (it:=s.heap.objs.size) (t':=s8.toks) (fun b o hb e=>(hs'.2 b hb).trans e) g2 (Nat.ne_of_lt (Nat.lt_succ_self _)) (.inr (Nat.le_refl _)) (fun z c ec hcz=>?_) (fun p hp=>absurd hp (by simp [Cx.comp])),
     T.keep _ _ _ g3 (fun b hb o e=>(hs'.2 b (Nat.ne_of_lt (fpLt b hb))).trans e),g4,g2,hpl2,hv'.append (.cons r8 .nil),by rw [List.length_append];exact Nat.succ_le_succ hlen,hin,w8,rfl⟩
    obtain ⟨v,o,ho,hd⟩:=I9.cell z c ec
    obtain ⟨n9,g9⟩:=g1
    rw [hcz,g9] at ho
    cases ho
    cases hd
 exact codeAny_compStart_list (loop _ rfl) (T.self _ 0 _ _ _ st3 (loop _ rfl))
theorem pe_compIf2 {elt iter:Expr}{ifs:List Expr}{scope:Scope}{pos:Pos}{x x2:Str}{px px2 pt:Pos}{kk:Nat}{K:PySem.W.Frag}{M:List Str}{idx:List Nat}{wi:TI}{tc:TT}{te:TE}
  (hK:X.K=K) (hc:X.calm=true) (hi:PI X (.Tuple [.Name x px,.Name x2 px2] kk pt) iter wi) (ok:CompOk X scope M idx) (hN:(x :: x2 :: M).Nodup) (hx:scope.names.lookup x=some .local ∨ scope.names.lookup x=some .cell) (hx2:scope.names.lookup x2=some .local ∨ scope.names.lookup x2=some .cell)
  (ht:∀ cells C s2 H2 fp,PTs (X.comp scope cells C (x :: x2 :: M) s2 H2 fp) ifs tc) (he:∀ cells C s2 H2 fp,PE (X.comp scope cells C (x :: x2 :: M) s2 H2 fp) elt te)
  (hs:∀ x,foldedSetIterable iter X.env x=pure x:=by intro _;rfl):PE X (.ListComp elt [⟨.Tuple [.Name x px,.Name x2 px2] kk pt,iter,ifs,0⟩] scope pos) (tCompIf2 K wi idx tc te):=by
 intro pins s σ H Q I h
 rw [eval_ListComp]
 refine wpAny_comprehension_free (use:=none) rfl hs (closureFor_cl fun y hy e=>I.ok.has y.1 (ok.fre y hy e)) ok.kind ok.loc (thn (hi pins s σ H _ I h) fun v s1 h1=>thn h1 fun itv s2 h2=>?_)
 refine comp_block2 (RR:=fun acc C=>compPost (model X.prog X.w) X.A X.xe none (EP X pins σ Q) acc C) hK hc ok hN hx hx2 ht he h2 fun D C ys H' s' hD hC hDC nD nC q hm hI=>?_
 obtain ⟨m,hm⟩:=hm
 exact ⟨m,hm,fun h' hs'=>⟨.ref D,upd H' D (.lst ys),hI h' s'.toks hs',rfl,q D nD⟩⟩
end
end L2
set_option maxHeartbeats 2000000
namespace MwZip
open PySem PySem.Spec PyProof.Rows
end MwZip
namespace L2
open PySem PySem.Spec PyProof.Rows
end L2
namespace L2
open PySem PySem.Spec PyProof.Rows
def LeC:Option Int→Option Int→Prop
 | none,none=>True
 | some x,some y=>x≤y
 | _,_=>False
theorem LeC.refl:∀ c,LeC c c
 | none=>trivial
 | some x=>Int.le_refl x
inductive LeN:List Int→List Int→Prop
 | nil:LeN [] []
 | cons {x y:Int} {xs ys:List Int}:x≤y→LeN xs ys→LeN (x :: xs) (y :: ys)
inductive LeO:List (Option Int)→List (Option Int)→Prop
 | nil:LeO [] []
 | cons {x y:Option Int} {xs ys:List (Option Int)}:LeC x y→LeO xs ys→LeO (x :: xs) (y :: ys)
theorem LeN.len:∀ {xs ys:List Int},LeN xs ys→xs.length=ys.length
 | _,_,.nil=>rfl
 | _,_,.cons _ t=>by simp [t.len]
theorem LeN.count {xs ys:List Int}(h:LeN xs ys)(v:Int):ys.countP (fun x=>decide (x≤v))≤xs.countP fun x=>decide (x≤v):=by
 induction h with
 | nil=>exact Nat.le_refl _
 | @cons x y xs ys e t ih =>
  rw [List.countP_cons,List.countP_cons]
  by_cases z:y≤v
  ·have z2:x≤v:=by omega
   rw [decide_eq_true z,decide_eq_true z2]
   simp only [if_true];omega
  ·rw [decide_eq_false z]
   simp only [Bool.false_eq_true,if_false]
   omega
theorem LeO.append {a b:List (Option Int)}(h:LeO a b):∀ {c d:List (Option Int)},LeO c d→LeO (a ++ c) (b ++ d):=by
 induction h with
 | nil=>exact fun h=>h
 | cons e t ih=>exact fun h=>.cons e (ih h)
theorem LeO.flat (f g:Nat→List (Option Int)):∀ l:List Nat,(∀ k∈l,LeO (f k) (g k))→LeO (l.flatMap f) (l.flatMap g)
 | [],_=>.nil
 | k :: l,h=>by
  rw [List.flatMap_cons,List.flatMap_cons]
  exact (h k List.mem_cons_self).append (LeO.flat f g l fun x hx=>h x (List.mem_cons_of_mem _ hx))
theorem LeO.nums {a b:List (Option Int)}(h:LeO a b):LeN (a.filterMap id) (b.filterMap id):=by
 induction h with
 | nil=>exact .nil
 | @cons x y xs ys e t ih =>
  cases x with
  | none =>
   cases y with
   | none=>exact ih
   | some y=>exact e.elim
  | some x =>
   cases y with
   | none=>exact e.elim
   | some y=>exact .cons e ih
theorem rise_le {xs ys:List Int}(h:LeN xs ys){i:Nat}(hi:i < (sortI xs).length)(hj:i < (sortI ys).length):(sortI xs)[i]≤(sortI ys)[i]:=by
 have a:=(rise_count (sortI_rise ys) hj ((sortI ys)[i])).mp (Int.le_refl _)
 refine (rise_count (sortI_rise xs) hi ((sortI ys)[i])).mpr (Nat.lt_of_lt_of_le a ?_)
 rw [(sortI_perm ys).countP_eq,(sortI_perm xs).countP_eq]
 exact h.count _
theorem manieth_le {xs ys:List Int}(h:LeN xs ys)(a b:Int):LeC (manieth xs a b) (manieth ys a b):=by
 unfold manieth
 rw [h.len]
 generalize (placeOf ys.length a b).toNat=k
 have l1:=sortI_len xs
 have l2:=sortI_len ys
 have l3:=h.len
 by_cases z:k < ys.length
 ·rw [List.getElem?_eq_getElem (show k < (sortI xs).length by omega),List.getElem?_eq_getElem (show k < (sortI ys).length by omega)]
  exact rise_le h _ _
 ·rw [List.getElem?_eq_none (by omega),List.getElem?_eq_none (by omega)]
  exact trivial
structure LeF (F G:List (List (Option Int))):Prop where
 len:F.length=G.length
 wide:(F.headD []).length=(G.headD []).length
 cell:∀ i j:Int,0≤i→i < F.length → 0≤j→j < (F.headD []).length → LeC (cellAt F i j) (cellAt G i j)
theorem LeF.stands {F G:List (List (Option Int))}(R:Rect F)(h:LeF F G)(ru:Rule)(i j:Int):LeO (stands F ru i j) (stands G ru i j):=by
 have hin:inF F i j=inF G i j:=by unfold inF;rw [h.len,h.wide]
 have h1:=R.h1;have w1:=R.w1
 unfold L2.stands
 rw [← hin]
 cases e:inF F i j with
 | true =>
  rw [if_pos rfl,if_pos rfl]
  unfold inF at e
  simp only [Bool.and_eq_true,decide_eq_true_eq] at e
  exact .cons (h.cell i j e.1.1 e.1.2 e.2.1 e.2.2) .nil
 | false =>
  rw [if_neg Bool.false_ne_true,if_neg Bool.false_ne_true]
  have go:∀ ru:Rule,LeO [cellAt F (led ru i F.length) (led ru j (F.headD []).length)] [cellAt G (led ru i G.length) (led ru j (G.headD []).length)]:=fun ru=>by
   rw [← h.len,← h.wide]
   have li:=led_in ru i (n:=F.length) (by omega)
   have lj:=led_in ru j (n:=(F.headD []).length) (by omega)
   exact .cons (h.cell _ _ li.1 li.2 lj.1 lj.2) .nil
  cases ru with
  | there=>exact .nil
  | told c=>exact .cons (LeC.refl c) .nil
  | near=>exact go .near
  | turned=>exact go .turned
  | round=>exact go .round
theorem LeF.nums {F G:List (List (Option Int))}(R:Rect F)(h:LeF F G)(ru:Rule)(u d l r:Nat)(i j:Int):LeN (numsAt F ru u d l r i j) (numsAt G ru u d l r i j):=by
 unfold numsAt
 refine LeO.nums ?_
 unfold wc rowCells
 exact LeO.flat _ _ _ fun a _=>LeO.flat _ _ _ fun b _=>h.stands R ru _ _
theorem fil_cell {F:List (List (Option Int))}{ru:Rule}{u d l r:Nat}{a b:Int}{i j:Int}(i0:0≤i)(i1:i < F.length)(j0:0≤j)(j1:j < (F.headD []).length):cellAt (fil F ru u d l r a b) i j=filAt F ru u d l r a b i j:=by
 unfold cellAt
 rw [fil_row (by omega)]
 show (((List.range (wideF F)).map fun j:Nat=>filAt F ru u d l r a b ((i.toNat:Nat):Int) (j:Int))[j.toNat]?).join=_
 rw [List.getElem?_map,List.getElem?_range (show j.toNat < wideF F by unfold wideF;omega)]
 show filAt F ru u d l r a b ((i.toNat:Nat):Int) ((j.toNat:Nat):Int)=_
 rw [Int.toNat_of_nonneg i0,Int.toNat_of_nonneg j0]
theorem LeF.fil {F G:List (List (Option Int))}(R:Rect F)(R':Rect G)(h:LeF F G)(ru:Rule)(u d l r:Nat)(a b:Int):LeF (fil F ru u d l r a b) (fil G ru u d l r a b):=by
 have e1:=fil_wide R (ru:=ru) (u:=u) (d:=d) (l:=l) (r:=r) (a:=a) (b:=b)
 have e2:=fil_wide R' (ru:=ru) (u:=u) (d:=d) (l:=l) (r:=r) (a:=a) (b:=b)
 unfold wideF at e1 e2
 refine ⟨by rw [fil_len,fil_len];exact h.len,by rw [e1,e2];exact h.wide,fun i j i0 i1 j0 j1=>?_⟩
 rw [fil_len] at i1
 rw [e1] at j1
 rw [fil_cell i0 i1 j0 j1,fil_cell i0 (by rw [← h.len];exact i1) j0 (by rw [← h.wide];exact j1)]
 exact manieth_le (h.nums R ru u d l r i j) a b
def putC (F:List (List (Option Int)))(i j:Nat)(c:Option Int):List (List (Option Int)):=F.take i ++ [((F[i]?.getD []).take j ++ [c] ++ (F[i]?.getD []).drop (j + 1))] ++ F.drop (i + 1)
theorem putC_get {α:Type}(l:List α)(j:Nat)(c:α)(hj:j < l.length)(k:Nat):(l.take j ++ [c] ++ l.drop (j + 1))[k]? = if k=j then some c else l[k]?:=by
 rcases Nat.lt_trichotomy k j with z | z | z
 ·rw [if_neg (by omega),List.append_assoc,List.getElem?_append_left (by rw [List.length_take];omega),List.getElem?_take,if_pos z]
 ·subst z
  rw [if_pos rfl,List.append_assoc,List.getElem?_append_right (by rw [List.length_take];omega),List.length_take,Nat.min_eq_left (by omega),Nat.sub_self]
  rfl
 ·rw [if_neg (by omega),List.getElem?_append_right (by rw [List.length_append,List.length_take];show min j l.length + 1≤k;omega),List.getElem?_drop,List.length_append,List.length_take]
  show l[j + 1 + (k - (min j l.length + 1))]? = _
  congr 1;omega
theorem putC_len {α:Type}(l:List α)(j:Nat)(c:α)(hj:j < l.length):(l.take j ++ [c] ++ l.drop (j + 1)).length=l.length:=by
 rw [List.length_append,List.length_append,List.length_take,List.length_drop]
 show min j l.length + 1 + _=_
 omega
theorem head_get (F:List (List (Option Int)))(h:1≤F.length):F[0]? = some (F.headD []):=by
 cases F with
 | nil=>simp at h
 | cons x l=>rfl
theorem putC_rect {F:List (List (Option Int))}(R:Rect F){i j:Nat}(hi:i < F.length)(hj:j < (F.headD []).length)(c:Option Int):Rect (putC F i j c)∧(putC F i j c).length=F.length ∧ ((putC F i j c).headD []).length=(F.headD []).length:=by
 have er:F[i]?.getD []=F[i]:=by rw [List.getElem?_eq_getElem hi];rfl
 have lr:F[i].length=(F.headD []).length:=R.row _ (List.getElem_mem _)
 have L:(putC F i j c).length=F.length:=putC_len F i _ hi
 have rows:∀ x∈putC F i j c,x.length=(F.headD []).length:=fun x hx=>by
  obtain ⟨k,hk⟩:=List.mem_iff_getElem?.mp hx
  have:=putC_get F i ((F[i]?.getD []).take j ++ [c] ++ (F[i]?.getD []).drop (j + 1)) hi k
  unfold putC at hk
  rw [this] at hk
  by_cases z:k=i
  ·rw [if_pos z] at hk
   rw [← Option.some.inj hk,er,putC_len _ _ _ (by omega)]
   exact lr
  ·rw [if_neg z] at hk
   exact R.row _ (List.mem_of_getElem? hk)
 have h1:=R.h1
 have W:((putC F i j c).headD []).length=(F.headD []).length:=rows _ (List.mem_of_getElem? (head_get _ (by omega)))
 exact ⟨⟨by rw [L];exact R.h1,by rw [L];exact R.hs,by rw [W];exact R.w1,by rw [W];exact R.ws,fun x hx=>by rw [W];exact rows x hx⟩,L,W⟩
end L2
namespace L2
open PySem PySem.Spec PyProof.Rows
section
variable {X:Cx}{pos:Pos}{K:PySem.W.Frag}
def gLst (K:PySem.W.Frag)(n:Nat)(t:TGs):TG:=fun v σ H Q=>∃ a xs,v = .ref a∧SqL K H a xs∧xs.length=n∧t xs σ H Q
theorem pg_lstK {es:List Expr}{k:Nat}{t:TGs}{n:Nat}(hK:X.K=K)(hc:X.calm=true)(h:PGs X es t)
  (hn:(assignEach es X.env).length=n:=by rfl) (hst:(assignEach es X.env).findIdx? (·.1)=none:=by rfl):PG X (.Tuple es k pos) (gLst K n t):=by
 subst hK
 intro pins s σ H v u Q I r hw
 obtain ⟨a,xs,e1,hq,hl,hw⟩:=hw
 subst e1
 cases r
 obtain ⟨its,rv,p,hz⟩:=I.list hq
 rw [assign_Tuple]
 refine wpAny_bind (wpAny_standAt ?_)
 unfold unpack
 rw [show (assignEach es X.env).length=(its.toArray).size by simp [hn,← hl,rv.length],hst]
 refine wpAny_bind (wpAny_holding (PySem.W.kun_itemsOf (I.ok.hd hc) p.isList fun h' hx=>?_))
 have I1:Inv X pins σ H { s with heap:=h' }:=I.kept (t':=s.toks) fun b o e=>hx b o (Nat.ne_of_lt (Heap.lt_size e)) e
 exact h pins _ σ H xs _ Q I1 (by simpa using rv) hw
end
end L2
namespace L2
open PySem PySem.Spec PyProof.Rows
end L2
namespace L2
open PySem PySem.Spec PyProof.Rows
end L2
namespace L2
open PySem PySem.Spec PyProof.Rows
end L2
namespace L2
open PySem PySem.Spec PyProof.Rows
end L2
namespace L2
open PySem PySem.Spec PyProof.Rows
def RawM (K:PySem.W.Frag)(C:Addr)(m qual:Str)(ps:List Str)(st:Stmt):Prop:=∃ f fd,Meth K C m f∧Fun K m qual st f fd∧Binds K fd ps []
def RawI (K:PySem.W.Frag) (C:Addr) (qual:Str) (ps:List Str) (st:Stmt):Prop:=∃ f fd,Mk K C f∧Fun K "__init__" qual st f fd∧Binds K fd ps []
def DfM (P:Program)(w:World)(K:PySem.W.Frag)(mg:Str→Option Value)(base:Heap)(k:Nat)(C:Addr)(m:Str)(ps:List Str)(sp:Sp):Prop :=
 ∃ (f:Addr) (fd:FuncData),FnOk P w K mg base CX0 k f fd ps sp∧Meth K C m f∧Binds K fd ps []∧∃ qual st,Fun K m qual st f fd
def DfI (P:Program)(w:World)(K:PySem.W.Frag)(mg:Str→Option Value)(base:Heap)(k:Nat)(C:Addr)(ps:List Str)(sp:Sp):Prop :=
 ∃ (f:Addr) (fd:FuncData),FnOk P w K mg base CX0 k f fd ps sp∧Mk K C f∧Binds K fd ps []∧∃ qual st,Fun K "__init__" qual st f fd
section
variable {P:Program}{w:World}{K:PySem.W.Frag}{mg:Str→Option Value}{base:Heap}
theorem RawM.ok {C:Addr}{m qual:Str}{ps N:List Str}{st:Stmt}{k:Nat}{sp:Sp}(R:RawM K C m qual ps st)(S:FnScope N ps (defScope st))(len:∀ vs H Q E,sp vs H Q E→vs.length=ps.length)
  (hbody:∀ (f:Addr) (cdv:Value) (A:Around) (outer:List Env) (s:Shared) (H:Hp) (vs:List V) (Q:VK) (E:XK),Room k (A.deeper (envOfC qual (defScope st) s.heap.objs.size f cdv))→sp vs H Q E →
   ∃ t,PSs (cxOf CX0 P w K mg base N qual (defScope st) f cdv A outer s H E).nox (defBody st) t∧t { nx:=fun _ H'=>Q .non H',rt:=Q } (start N vs) H):DfM P w K mg base (k + 1) C m ps sp:=by
 obtain ⟨f,fd,M,F,b⟩:=R
 exact ⟨f,fd,F.ok S len (fun cdv A outer s H vs Q E hr h=>hbody f cdv A outer s H vs Q E hr h),M,b,_,_,F⟩
theorem RawI.ok {C:Addr}{qual:Str}{ps N:List Str}{st:Stmt}{k:Nat}{sp:Sp}(R:RawI K C qual ps st)(S:FnScope N ps (defScope st))(len:∀ vs H Q E,sp vs H Q E→vs.length=ps.length)
  (hbody:∀ (f:Addr) (cdv:Value) (A:Around) (outer:List Env) (s:Shared) (H:Hp) (vs:List V) (Q:VK) (E:XK),Room k (A.deeper (envOfC qual (defScope st) s.heap.objs.size f cdv))→sp vs H Q E →
   ∃ t,PSs (cxOf CX0 P w K mg base N qual (defScope st) f cdv A outer s H E).nox (defBody st) t∧t { nx:=fun _ H'=>Q .non H',rt:=Q } (start N vs) H):DfI P w K mg base (k + 1) C ps sp:=by
 obtain ⟨f,fd,M,F,b⟩:=R
 exact ⟨f,fd,F.ok S len (fun cdv A outer s H vs Q E hr h=>hbody f cdv A outer s H vs Q E hr h),M,b,_,_,F⟩
end
section
variable {X:Cx}{k:Nat}{C:Addr}{m:Str}{ps:List Str}{sp:Sp}{o e:Expr}{es:List Expr}{ta:TE}{t:TA}{apos pos:Pos}
theorem pe_mt {pl:Sem Bool}(D:DfM X.prog X.w X.K X.mg X.base k C m ps sp)(c:Cls X.K C)(hr:Room k X.A)(he:PE X o ta)(ha:PA X (e :: es) t)
  (hst:starEach (e :: es) X.env=(false,eval e X.env) :: starEach es X.env:=by rfl) (hpl:(backTo pos (starEach es X.env)).any (·.1)=false:=by rfl)
  (ht:eval (.Call (.Attribute o m apos) (e :: es) [] pos) X.env=(do
   let ov ← eval o X.env
   standAt apos.atName
   let (f,first) ← holding [ov] (getMethod ov m pl)
   callWith pos f first (backTo pos (starEach (e :: es) X.env)) (backToKw pos (keywordEach [] X.env))):=by rfl) :
  PE X (.Call (.Attribute o m apos) (e :: es) [] pos) (tMeth C m sp [] E0 ta t):=by
 obtain ⟨f,fd,F,M,b,_⟩:=D
 exact pe_meth (pl:=pl) he c M F hr b .nil pass0 ha hst hpl ht
theorem pe_mt0 {pl:Sem Bool}(D:DfM X.prog X.w X.K X.mg X.base k C m ps sp)(c:Cls X.K C)(hr:Room k X.A)(he:PE X o ta)
  (ht:eval (.Call (.Attribute o m apos) [] [] pos) X.env=(do
   let ov ← eval o X.env
   standAt apos.atName
   let (f,first) ← holding [ov] (getMethod ov m pl)
   callWith pos f first (backTo pos (starEach [] X.env)) (backToKw pos (keywordEach [] X.env))):=by rfl) :
  PE X (.Call (.Attribute o m apos) [] [] pos) (tMeth C m sp [] E0 ta tNil):=by
 obtain ⟨f,fd,F,M,b,_⟩:=D
 exact pe_meth0 (pl:=pl) he c M F hr b .nil pass0 ht
theorem pe_fldK {K:PySem.W.Frag}{f:Str}(h:X.K=K)(he:PE X o ta)(hb:attributeBase o f X.env (eval o X.env)=eval o X.env):PE X (.Attribute o f pos) (tFld K ta f):=by subst h;exact pe_fld he hb
end
end L2
namespace L2
open PySem PySem.Spec PyProof.Rows
end L2
namespace L2
open PySem PySem.Spec PyProof.Rows
end L2
namespace L2
open PySem PySem.Spec PyProof.Rows
end L2
namespace L2
open PySem PySem.Spec PyProof.Rows
def TopT (K:PySem.W.Frag) (p:Addr) (xs:List V):Prop:=∃ (o:Obj) (its:Array Value) (n:Nat),K.lookup p=some o∧o.cls = .type "tuple"∧o.data = .seq its n∧its.size ≤ sizeLine∧Vals xs its.toList
theorem TopT.sq {K:PySem.W.Frag}{H:Hp}{p:Addr}{xs:List V}(h:TopT K p xs):SqT K H p xs:=.inr h
def tGK (K:PySem.W.Frag)(xs:List V):TE:=fun _ H Q=>∀ p,TopT K p xs→Q (.ref p) H
theorem pe_globK {X:Cx} {K:PySem.W.Frag} {x:Str} {xs:List V} {pos:Pos} (hK:X.K=K) (hg:Gl X x) (h:∃ p,X.mg x=some (.ref p)∧TopT K p xs) (hd:(x == ("__debug__" : Str))=false:=by decide):PE X (.Name x pos) (tGK K xs):=by
 obtain ⟨p,hm,hk⟩:=h
 intro pins s σ H Q I q
 exact pe_glob (v:=.ref p) hg hm rfl hd pins s σ H Q I (q p hk)
def Shr (K:PySem.W.Frag)(H:Hp)(sv:V)(a b:Int):Prop:=∃ p,sv = .ref p∧(H p=some (.tup [.int a,.int b]) ∨ TopT K p [.int a,.int b])
theorem Shr.keep {K:PySem.W.Frag}{H H':Hp}{sv:V}{a b:Int}(h:Shr K H sv a b)(k:KeepT H H'):Shr K H' sv a b:=by
 obtain ⟨p,e,h⟩:=h
 exact ⟨p,e,h.imp (k _ _) id⟩
theorem Shr.of {K:PySem.W.Frag}{H:Hp}{sv:V}{a b:Int}(h:IsD H sv (placeD (a,b))):Shr K H sv a b:=by
 obtain ⟨p,e,h⟩:=isPlace_inv h
 exact ⟨p,e,.inl h⟩
theorem shr_sq {K:PySem.W.Frag}{H:Hp}{p:Addr}{xs:List V}(h:H p=some (.tup xs) ∨ TopT K p xs):SqT K H p xs:=h.elim SqT.of TopT.sq
end L2
namespace L2
open PySem PySem.Spec PyProof.Rows
theorem share01:Share 0 1:=⟨by decide,by decide,by decide,by decide⟩
theorem least {ns:List Int}{M:Int}(h:manieth ns 0 1=some M):M∈ns∧∀ x∈ns,M≤x:=by
 refine ⟨manieth_mem h,fun x hx=>?_⟩
 have hn:ns≠[]:=fun e=>by rw [e] at hx;cases hx
 obtain ⟨hlt,em⟩:=manieth_some share01 hn
 rw [h] at em
 have hM:=Option.some.inj em
 have hx':=mem_sortI.mpr hx
 obtain ⟨k,hk,ek⟩:=List.getElem_of_mem hx'
 have hp:(placeOf ns.length 0 1).toNat=0:=by unfold placeOf;rw [Int.zero_mul];rfl
 rw [hM,← ek]
 by_cases z:k=(placeOf ns.length 0 1).toNat
 ·subst z;exact Int.le_refl _
 ·exact List.pairwise_iff_getElem.mp (sortI_rise ns) _ k hlt hk (by omega)
end L2
namespace L2
open PySem
variable {rest es:List Expr}{env:Env}{p:Pos}{a b c:Expr}
theorem star_tup {x}:starEach (Expr.Tuple es x p :: rest) env=(false,eval (.Tuple es x p) env) :: starEach rest env:=by rfl
theorem star_lst:starEach (Expr.List es p :: rest) env=(false,eval (.List es p) env) :: starEach rest env:=by rfl
theorem star_sub:starEach (Expr.Subscript a b p :: rest) env=(false,eval (.Subscript a b p) env) :: starEach rest env:=by rfl
theorem star_call {ks}:starEach (Expr.Call a es ks p :: rest) env=(false,eval (.Call a es ks p) env) :: starEach rest env:=by rfl
theorem star_bin {o}:starEach (Expr.BinOp a o b p :: rest) env=(false,eval (.BinOp a o b p) env) :: starEach rest env:=by rfl
theorem star_un {o}:starEach (Expr.UnaryOp o a p :: rest) env=(false,eval (.UnaryOp o a p) env) :: starEach rest env:=by rfl
theorem star_comp {g s}:starEach (Expr.ListComp a g s p :: rest) env=(false,eval (.ListComp a g s p) env) :: starEach rest env:=by rfl
theorem star_cmp {o}:starEach (Expr.Compare a o es p :: rest) env=(false,eval (.Compare a o es p) env) :: starEach rest env:=by rfl
end L2
namespace L2
open PySem PySem.Spec PyProof.Rows
end L2
namespace L2
open PySem PySem.Spec PyProof.Rows
section
variable {X:Cx}{K:PySem.W.Frag}
theorem sliceN (n k:Nat)(h:k≤n):Builtin.Str.strSliceIndices (some (k:Int)) none 1 n=(List.range (n - k)).map (fun j=>k + j):=by
 rw [← PySem.StrLaws.strSliceIndices_plain (a:=k) (b:=n) h (Nat.le_refl _)]
 have h2:¬ ((n:Int) < 0):=by omega
 have e1:max (0:Int) (min (n:Int) (n:Int))=n:=by omega
 simp only [Builtin.Str.strSliceIndices,sliceRange,h2,if_false,e1,show ((1:Int) > 0)=True from by simp,if_true]
def rSlN:V→Option Int→Option Int→Hp→VK→Prop:=fun x lo hi H Q=>∃ (z:Str) (k:Nat),x = .str z∧lo=some (k:Int)∧hi=none∧1≤k∧k≤z.length ∧ z.length ≤ sizeLine∧Q (.str ⟨(z.cps.toList.drop k).toArray⟩) H
theorem sl_strN:SlR X rSlN:=by
 intro pins s σ H x v vl vu lo hi sl Q I rx hs pl pu h
 obtain ⟨z,k,rfl,rfl,rfl,h0,h1,h2,q⟩:=h
 obtain ⟨t,rfl⟩:=rx
 obtain ⟨tl,rfl⟩:∃ tl,vl = .int (k:Int) tl:=by cases pl;exact ⟨_,rfl⟩
 obtain rfl:vu = .none:=by cases pu;rfl
 refine ⟨"str",_,PySem.F.slot_str_getitem.lookup,typeIs_str s z t,?_⟩
 obtain ⟨o,ho,hc,hd⟩:=hs
 refine wpAny_getItem_str_slice (l:=some ((k:Int),tl)) (u:=none) (st:=none) ⟨o,ho,hc,hd⟩ rfl ?_
 have e:slicePicked z (some ((k:Int),tl)) none none=(List.range (z.length - k)).map (fun j=>k + j):=sliceN _ _ h1
 have e3:((List.range (z.length - k)).map (fun j=>k + j)).filterMap (z.cps[·]?)=z.cps.toList.drop k:=by
  have:=PySem.StrLaws.picks z.cps.toList (z.length - k) k (by simp [Str.length] at h1 ⊢;omega)
  rw [List.take_of_length_le (by simp [Str.length])] at this
  simpa using this
 unfold sliceMade
 rw [e,if_neg (by rw [List.length_map,List.length_range,Bool.and_eq_true];intro z2;have:=z2.2;simp at this;omega),e3]
 refine ⟨?_,⟨.str _,H,I.tok _,⟨_,rfl⟩,q⟩⟩
 show (List.drop k z.cps.toList).toArray.size ≤ sizeLine
 rw [List.size_toArray,List.length_drop]
 have:z.cps.toList.length=z.length:=by simp [Str.length]
 omega
theorem pe_fstr1 {e:Expr}{te:TE}{pos:Pos}(h:PE X e te):PE X (.JoinedStr [e] pos) te:=fun pins s σ H Q I q=>wpAny_JoinedStr_one (h pins s σ H Q I q)
theorem pe_new0 {k:Nat}{C:Addr}{ps:List Str}{sp:Sp}{x:Str}{p pos:Pos}(D:DfI X.prog X.w X.K X.mg X.base k C ps sp)(hr:Room (k + 1) X.A)(hm:X.mg x=some (.ref C))(hg:Gl X x:=by rfl)
  (hdb:(x == ("__debug__" : Str))=false:=by decide):PE X (.Call (.Name x p) [] [] pos) (tMake C sp [] E0 tNil):=by
 obtain ⟨f,fd,F,M,b,_⟩:=D
 exact pe_make0 M F hr hg hm b .nil pass0 hdb
end
end L2
set_option maxHeartbeats 4000000
namespace Mw
open PySem L2
def top (i:Nat):Stmt:=PySem.Challenge.pw_midwindow_k34_desk_shows.main.body.getD i (.Pass ⟨0,0,0,0⟩)
abbrev s_is_number:Stmt:=top 10
theorem sc_is_number:FnScope ["word","figures"] ["word"] (defScope s_is_number):=⟨rfl,rfl,rfl,by decide +kernel,rfl,by decide +kernel,by decide +kernel⟩
abbrev s_is_cell:Stmt:=top 11
theorem sc_is_cell:FnScope ["word"] ["word"] (defScope s_is_cell):=⟨rfl,rfl,rfl,by decide +kernel,rfl,by decide +kernel,by decide +kernel⟩
abbrev s_cell_read:Stmt:=top 12
theorem sc_cell_read:FnScope ["word"] ["word"] (defScope s_cell_read):=⟨rfl,rfl,rfl,by decide +kernel,rfl,by decide +kernel,by decide +kernel⟩
abbrev s_cell_shown:Stmt:=top 13
theorem sc_cell_shown:FnScope ["cell"] ["cell"] (defScope s_cell_shown):=⟨rfl,rfl,rfl,by decide +kernel,rfl,by decide +kernel,by decide +kernel⟩
abbrev s_read_rows:Stmt:=top 14
theorem sc_read_rows:FnScope ["lines","rows","row","line","words"] ["lines"] (defScope s_read_rows):=⟨rfl,rfl,rfl,by decide +kernel,rfl,by decide +kernel,by decide +kernel⟩
abbrev s_row_shown:Stmt:=top 15
theorem sc_row_shown:FnScope ["row"] ["row"] (defScope s_row_shown):=⟨rfl,rfl,rfl,by decide +kernel,rfl,by decide +kernel,by decide +kernel⟩
abbrev s_is_inside:Stmt:=top 17
theorem sc_is_inside:FnScope ["field","i","j"] ["field","i","j"] (defScope s_is_inside):=⟨rfl,rfl,rfl,by decide +kernel,rfl,by decide +kernel,by decide +kernel⟩
abbrev s_brought_inside:Stmt:=top 18
theorem sc_brought_inside:FnScope ["rule","place","length","there"] ["rule","place","length"] (defScope s_brought_inside):=⟨rfl,rfl,rfl,by decide +kernel,rfl,by decide +kernel,by decide +kernel⟩
abbrev s_stands_at:Stmt:=top 19
theorem sc_stands_at:FnScope ["field","rule","i","j","row"] ["field","rule","i","j"] (defScope s_stands_at):=⟨rfl,rfl,rfl,by decide +kernel,rfl,by decide +kernel,by decide +kernel⟩
abbrev s_places_around:Stmt:=top 20
theorem sc_places_around:FnScope ["place","ahead","behind"] ["place","ahead","behind"] (defScope s_places_around):=⟨rfl,rfl,rfl,by decide +kernel,rfl,by decide +kernel,by decide +kernel⟩
abbrev s_window_cells:Stmt:=top 21
theorem sc_window_cells:FnScope ["field","window","rule","i","j","columns","cells","row","column"] ["field","window","rule","i","j"] (defScope s_window_cells):=⟨rfl,rfl,rfl,by decide +kernel,rfl,by decide +kernel,by decide +kernel⟩
abbrev s_place_by_share:Stmt:=top 23
theorem sc_place_by_share:FnScope ["how_many","share"] ["how_many","share"] (defScope s_place_by_share):=⟨rfl,rfl,rfl,by decide +kernel,rfl,by decide +kernel,by decide +kernel⟩
abbrev s_so_manieth:Stmt:=top 24
theorem sc_so_manieth:FnScope ["numbers","share"] ["numbers","share"] (defScope s_so_manieth):=⟨rfl,rfl,rfl,by decide +kernel,rfl,by decide +kernel,by decide +kernel⟩
abbrev s_without_holes:Stmt:=top 25
theorem sc_without_holes:FnScope ["cells"] ["cells"] (defScope s_without_holes):=⟨rfl,rfl,rfl,by decide +kernel,rfl,by decide +kernel,by decide +kernel⟩
abbrev s_told_of_cells:Stmt:=top 26
theorem sc_told_of_cells:FnScope ["cells","share"] ["cells","share"] (defScope s_told_of_cells):=⟨rfl,rfl,rfl,by decide +kernel,rfl,by decide +kernel,by decide +kernel⟩
abbrev s_filtered:Stmt:=top 27
theorem sc_filtered:FnScope ["field","window","rule","share","rows","i","row","j"] ["field","window","rule","share"] (defScope s_filtered):=⟨rfl,rfl,rfl,by decide +kernel,rfl,by decide +kernel,by decide +kernel⟩
abbrev s_refuse_outside:Stmt:=top 29
theorem sc_refuse_outside:FnScope ["field","i","j"] ["field","i","j"] (defScope s_refuse_outside):=⟨rfl,rfl,rfl,by decide +kernel,rfl,by decide +kernel,by decide +kernel⟩
abbrev s_row_with:Stmt:=top 30
theorem sc_row_with:FnScope ["row","j","cell"] ["row","j","cell"] (defScope s_row_with):=⟨rfl,rfl,rfl,by decide +kernel,rfl,by decide +kernel,by decide +kernel⟩
abbrev s_field_with:Stmt:=top 31
theorem sc_field_with:FnScope ["field","i","j","cell"] ["field","i","j","cell"] (defScope s_field_with):=⟨rfl,rfl,rfl,by decide +kernel,rfl,by decide +kernel,by decide +kernel⟩
abbrev s_are_within:Stmt:=top 54
theorem sc_are_within:FnScope ["numbers","least","most"] ["numbers","least","most"] (defScope s_are_within):=⟨rfl,rfl,rfl,by decide +kernel,rfl,by decide +kernel,by decide +kernel⟩
abbrev s_numbers_asked:Stmt:=top 55
theorem sc_numbers_asked:FnScope ["words","how_many"] ["words","how_many"] (defScope s_numbers_asked):=⟨rfl,rfl,rfl,by decide +kernel,rfl,by decide +kernel,by decide +kernel⟩
abbrev s_cell_asked:Stmt:=top 56
theorem sc_cell_asked:FnScope ["word","cell"] ["word"] (defScope s_cell_asked):=⟨rfl,rfl,rfl,by decide +kernel,rfl,by decide +kernel,by decide +kernel⟩
abbrev s_window_asked:Stmt:=top 57
theorem sc_window_asked:FnScope ["words","sides"] ["words"] (defScope s_window_asked):=⟨rfl,rfl,rfl,by decide +kernel,rfl,by decide +kernel,by decide +kernel⟩
abbrev s_rule_asked:Stmt:=top 58
theorem sc_rule_asked:FnScope ["words"] ["words"] (defScope s_rule_asked):=⟨rfl,rfl,rfl,by decide +kernel,rfl,by decide +kernel,by decide +kernel⟩
abbrev s_share_asked:Stmt:=top 59
theorem sc_share_asked:FnScope ["words","share"] ["words"] (defScope s_share_asked):=⟨rfl,rfl,rfl,by decide +kernel,rfl,by decide +kernel,by decide +kernel⟩
abbrev s_field_asked:Stmt:=top 61
theorem sc_field_asked:FnScope ["text","field","row"] ["text"] (defScope s_field_asked):=⟨rfl,rfl,rfl,by decide +kernel,rfl,by decide +kernel,by decide +kernel⟩
abbrev s_lines_of:Stmt:=top 65
theorem sc_lines_of:FnScope ["field"] ["field"] (defScope s_lines_of):=⟨rfl,rfl,rfl,by decide +kernel,rfl,by decide +kernel,by decide +kernel⟩
abbrev s_law_seed:Stmt:=top 68
theorem sc_law_seed:FnScope ["cell","number"] ["cell"] (defScope s_law_seed):=⟨rfl,rfl,rfl,by decide +kernel,rfl,by decide +kernel,by decide +kernel⟩
abbrev s_law_draw:Stmt:=top 69
theorem sc_law_draw:FnScope ["seed","most","found","number"] ["seed","most"] (defScope s_law_draw):=⟨rfl,rfl,rfl,by decide +kernel,rfl,by decide +kernel,by decide +kernel⟩
abbrev s_law_cells:Stmt:=top 70
theorem sc_law_cells:FnScope ["script","many"] ["script","many"] (defScope s_law_cells):=⟨rfl,rfl,rfl,by decide +kernel,rfl,by decide +kernel,by decide +kernel⟩
abbrev s_law_number:Stmt:=top 71
theorem sc_law_number:FnScope ["seed","kind"] ["seed","kind"] (defScope s_law_number):=⟨rfl,rfl,rfl,by decide +kernel,rfl,by decide +kernel,by decide +kernel⟩
abbrev s_law_field:Stmt:=top 72
theorem sc_law_field:FnScope ["seed","height","width","holes","kind","rows","i","row","j","cell"] ["seed","height","width","holes"] (defScope s_law_field):=⟨rfl,rfl,rfl,by decide +kernel,rfl,by decide +kernel,by decide +kernel⟩
abbrev s_law_sizes:Stmt:=top 73
theorem sc_law_sizes:FnScope ["seed","way"] ["seed"] (defScope s_law_sizes):=⟨rfl,rfl,rfl,by decide +kernel,rfl,by decide +kernel,by decide +kernel⟩
abbrev s_law_window:Stmt:=top 74
theorem sc_law_window:FnScope ["seed","most"] ["seed"] (defScope s_law_window):=⟨rfl,rfl,rfl,by decide +kernel,rfl,by decide +kernel,by decide +kernel⟩
abbrev s_law_rule:Stmt:=top 75
theorem sc_law_rule:FnScope ["seed","way"] ["seed"] (defScope s_law_rule):=⟨rfl,rfl,rfl,by decide +kernel,rfl,by decide +kernel,by decide +kernel⟩
abbrev s_law_share:Stmt:=top 76
theorem sc_law_share:FnScope ["seed","way","below"] ["seed"] (defScope s_law_share):=⟨rfl,rfl,rfl,by decide +kernel,rfl,by decide +kernel,by decide +kernel⟩
abbrev s_law_index:Stmt:=top 77
theorem sc_law_index:FnScope ["rule","k","size"] ["rule","k","size"] (defScope s_law_index):=⟨rfl,rfl,rfl,by decide +kernel,rfl,by decide +kernel,by decide +kernel⟩
abbrev s_law_window_at:Stmt:=top 78
theorem sc_law_window_at:FnScope ["field","window","rule","i","j","up","down","left","right","found","k","m","row","column"] ["field","window","rule","i","j"] (defScope s_law_window_at):=⟨rfl,rfl,rfl,by decide +kernel,rfl,by decide +kernel,by decide +kernel⟩
abbrev s_law_told:Stmt:=top 79
theorem sc_law_told:FnScope ["cells","share","some"] ["cells","share"] (defScope s_law_told):=⟨rfl,rfl,rfl,by decide +kernel,rfl,by decide +kernel,by decide +kernel⟩
abbrev s_law_filtered:Stmt:=top 80
theorem sc_law_filtered:FnScope ["field","window","rule","share","rows","i","row","j","some"] ["field","window","rule","share"] (defScope s_law_filtered):=⟨rfl,rfl,rfl,by decide +kernel,rfl,by decide +kernel,by decide +kernel⟩
abbrev s_law_word:Stmt:=top 81
theorem sc_law_word:FnScope ["cell"] ["cell"] (defScope s_law_word):=⟨rfl,rfl,rfl,by decide +kernel,rfl,by decide +kernel,by decide +kernel⟩
abbrev s_law_lines:Stmt:=top 82
theorem sc_law_lines:FnScope ["field"] ["field"] (defScope s_law_lines):=⟨rfl,rfl,rfl,by decide +kernel,rfl,by decide +kernel,by decide +kernel⟩
abbrev s_law_edge:Stmt:=top 83
theorem sc_law_edge:FnScope ["rule"] ["rule"] (defScope s_law_edge):=⟨rfl,rfl,rfl,by decide +kernel,rfl,by decide +kernel,by decide +kernel⟩
abbrev s_law_cut:Stmt:=top 84
theorem sc_law_cut:FnScope ["window","field"] ["window","field"] (defScope s_law_cut):=⟨rfl,rfl,rfl,by decide +kernel,rfl,by decide +kernel,by decide +kernel⟩
abbrev s_law_begun:Stmt:=top 85
theorem sc_law_begun:FnScope ["seed","height","width","field","window","rule","share","lines"] ["seed"] (defScope s_law_begun):=⟨rfl,rfl,rfl,by decide +kernel,rfl,by decide +kernel,by decide +kernel⟩
abbrev s_law_deed:Stmt:=top 86
theorem sc_law_deed:FnScope ["seed","state","field","window","rule","share","way","other","i","j","cell","row","changed"] ["seed","state"] (defScope s_law_deed):=⟨rfl,rfl,rfl,by decide +kernel,rfl,by decide +kernel,by decide +kernel⟩
abbrev s_law_right:Stmt:=top 87
theorem sc_law_right:FnScope ["seed","desk","state","field","window","rule","share","told","turn","i","j","some","due","line"] ["seed","desk","state"] (defScope s_law_right):=⟨rfl,rfl,rfl,by decide +kernel,rfl,by decide +kernel,by decide +kernel⟩
abbrev s_law_fresh_right:Stmt:=top 88
theorem sc_law_fresh_right:FnScope ["fresh"] [] (defScope s_law_fresh_right):=⟨rfl,rfl,rfl,by decide +kernel,rfl,by decide +kernel,by decide +kernel⟩
abbrev s_law:Stmt:=top 89
theorem sc_law:FnScope ["script","seed","state","lines","desk","line","held","cell","told"] ["script"] (defScope s_law):=⟨rfl,rfl,rfl,by decide +kernel,rfl,by decide +kernel,by decide +kernel⟩
abbrev s_Desk_init:Stmt:=inClass (top 66) 0
theorem sc_Desk_init:FnScope ["self"] ["self"] (defScope s_Desk_init):=⟨rfl,rfl,rfl,by decide +kernel,rfl,by decide +kernel,by decide +kernel⟩
abbrev s_Desk_ask:Stmt:=inClass (top 66) 1
theorem sc_Desk_ask:FnScope ["self","line","words"] ["self","line"] (defScope s_Desk_ask):=⟨rfl,rfl,rfl,by decide +kernel,rfl,by decide +kernel,by decide +kernel⟩
abbrev s_Desk_change_by:Stmt:=inClass (top 66) 2
theorem sc_Desk_change_by:FnScope ["self","word","words"] ["self","word","words"] (defScope s_Desk_change_by):=⟨rfl,rfl,rfl,by decide +kernel,rfl,by decide +kernel,by decide +kernel⟩
abbrev s_Desk_change_cell:Stmt:=inClass (top 66) 3
theorem sc_Desk_change_cell:FnScope ["self","words","place","cell"] ["self","words"] (defScope s_Desk_change_cell):=⟨rfl,rfl,rfl,by decide +kernel,rfl,by decide +kernel,by decide +kernel⟩
abbrev s_Desk_filtered_field:Stmt:=inClass (top 66) 4
theorem sc_Desk_filtered_field:FnScope ["self"] ["self"] (defScope s_Desk_filtered_field):=⟨rfl,rfl,rfl,by decide +kernel,rfl,by decide +kernel,by decide +kernel⟩
abbrev s_Desk_lines_told:Stmt:=inClass (top 66) 5
theorem sc_Desk_lines_told:FnScope ["self","word","words"] ["self","word","words"] (defScope s_Desk_lines_told):=⟨rfl,rfl,rfl,by decide +kernel,rfl,by decide +kernel,by decide +kernel⟩
abbrev s_Desk_lines_at:Stmt:=inClass (top 66) 6
theorem sc_Desk_lines_at:FnScope ["self","place","cells"] ["self","place"] (defScope s_Desk_lines_at):=⟨rfl,rfl,rfl,by decide +kernel,rfl,by decide +kernel,by decide +kernel⟩
structure Txt (K:PySem.W.Frag)(mg:Str→Option Value)(C:Addr):Prop where
 g_Desk:mg "Desk" = some (.ref C)
 cl_Desk:Cls K C
 a_field:NoAttr K C "field"
 a_rule:NoAttr K C "rule"
 a_share:NoAttr K C "share"
 a_window:NoAttr K C "window"
 m_Desk_init:RawI K C "Desk.__init__" ["self"] s_Desk_init
 m_Desk_ask:RawM K C "ask" "Desk.ask" ["self","line"] s_Desk_ask
 m_Desk_change_by:RawM K C "change_by" "Desk.change_by" ["self","word","words"] s_Desk_change_by
 m_Desk_change_cell:RawM K C "change_cell" "Desk.change_cell" ["self","words"] s_Desk_change_cell
 m_Desk_filtered_field:RawM K C "filtered_field" "Desk.filtered_field" ["self"] s_Desk_filtered_field
 m_Desk_lines_told:RawM K C "lines_told" "Desk.lines_told" ["self","word","words"] s_Desk_lines_told
 m_Desk_lines_at:RawM K C "lines_at" "Desk.lines_at" ["self","place"] s_Desk_lines_at
 d_is_number:Raw K mg "is_number" ["word"] s_is_number
 d_is_cell:Raw K mg "is_cell" ["word"] s_is_cell
 d_cell_read:Raw K mg "cell_read" ["word"] s_cell_read
 d_cell_shown:Raw K mg "cell_shown" ["cell"] s_cell_shown
 d_read_rows:Raw K mg "read_rows" ["lines"] s_read_rows
 d_row_shown:Raw K mg "row_shown" ["row"] s_row_shown
 d_is_inside:Raw K mg "is_inside" ["field","i","j"] s_is_inside
 d_brought_inside:Raw K mg "brought_inside" ["rule","place","length"] s_brought_inside
 d_stands_at:Raw K mg "stands_at" ["field","rule","i","j"] s_stands_at
 d_places_around:Raw K mg "places_around" ["place","ahead","behind"] s_places_around
 d_window_cells:Raw K mg "window_cells" ["field","window","rule","i","j"] s_window_cells
 d_place_by_share:Raw K mg "place_by_share" ["how_many","share"] s_place_by_share
 d_so_manieth:Raw K mg "so_manieth" ["numbers","share"] s_so_manieth
 d_without_holes:Raw K mg "without_holes" ["cells"] s_without_holes
 d_told_of_cells:Raw K mg "told_of_cells" ["cells","share"] s_told_of_cells
 d_filtered:Raw K mg "filtered" ["field","window","rule","share"] s_filtered
 d_refuse_outside:Raw K mg "refuse_outside" ["field","i","j"] s_refuse_outside
 d_row_with:Raw K mg "row_with" ["row","j","cell"] s_row_with
 d_field_with:Raw K mg "field_with" ["field","i","j","cell"] s_field_with
 d_are_within:Raw K mg "are_within" ["numbers","least","most"] s_are_within
 d_numbers_asked:Raw K mg "numbers_asked" ["words","how_many"] s_numbers_asked
 d_cell_asked:Raw K mg "cell_asked" ["word"] s_cell_asked
 d_window_asked:Raw K mg "window_asked" ["words"] s_window_asked
 d_rule_asked:Raw K mg "rule_asked" ["words"] s_rule_asked
 d_share_asked:Raw K mg "share_asked" ["words"] s_share_asked
 d_field_asked:Raw K mg "field_asked" ["text"] s_field_asked
 d_lines_of:Raw K mg "lines_of" ["field"] s_lines_of
 d_law_seed:Raw K mg "_law_seed" ["cell"] s_law_seed
 d_law_draw:Raw K mg "_law_draw" ["seed","most"] s_law_draw
 d_law_cells:Raw K mg "_law_cells" ["script","many"] s_law_cells
 d_law_number:Raw K mg "_law_number" ["seed","kind"] s_law_number
 d_law_field:Raw K mg "_law_field" ["seed","height","width","holes"] s_law_field
 d_law_sizes:Raw K mg "_law_sizes" ["seed"] s_law_sizes
 d_law_window:Raw K mg "_law_window" ["seed"] s_law_window
 d_law_rule:Raw K mg "_law_rule" ["seed"] s_law_rule
 d_law_share:Raw K mg "_law_share" ["seed"] s_law_share
 d_law_index:Raw K mg "_law_index" ["rule","k","size"] s_law_index
 d_law_window_at:Raw K mg "_law_window_at" ["field","window","rule","i","j"] s_law_window_at
 d_law_told:Raw K mg "_law_told" ["cells","share"] s_law_told
 d_law_filtered:Raw K mg "_law_filtered" ["field","window","rule","share"] s_law_filtered
 d_law_word:Raw K mg "_law_word" ["cell"] s_law_word
 d_law_lines:Raw K mg "_law_lines" ["field"] s_law_lines
 d_law_edge:Raw K mg "_law_edge" ["rule"] s_law_edge
 d_law_cut:Raw K mg "_law_cut" ["window","field"] s_law_cut
 d_law_begun:Raw K mg "_law_begun" ["seed"] s_law_begun
 d_law_deed:Raw K mg "_law_deed" ["seed","state"] s_law_deed
 d_law_right:Raw K mg "_law_right" ["seed","desk","state"] s_law_right
 d_law_fresh_right:Raw K mg "_law_fresh_right" [] s_law_fresh_right
 d_law:Raw K mg "law" ["script"] s_law
 g_PLAIN_RULES:∃ p,mg "PLAIN_RULES" = some (.ref p)∧TopT K p [.str "there",.str "near",.str "turned",.str "round"]
 g_CHANGES:∃ p,mg "CHANGES" = some (.ref p)∧TopT K p [.str "window",.str "edge",.str "share",.str "cell",.str "take"]
 g_HOLE:∃ u,mg "HOLE" = some u∧RelV (.str ".") u
 g_FIGURES:∃ u,mg "FIGURES" = some u∧RelV (.str "0123456789") u
 g_MOST_NUMBER:∃ u,mg "MOST_NUMBER" = some u∧RelV (.int 1000000000) u
 g_MOST_LENGTH:∃ u,mg "MOST_LENGTH" = some u∧RelV (.int 12) u
 g_MOST_SIDE:∃ u,mg "MOST_SIDE" = some u∧RelV (.int 6) u
 g_MOST_SHARE:∃ u,mg "MOST_SHARE" = some u∧RelV (.int 1000) u
 g_FIELD_AHEAD:∃ u,mg "FIELD_AHEAD" = some u∧RelV (.str "field ") u
 n_len:mg "len" = none
 n_all:mg "all" = none
 n_max:mg "max" = none
 n_min:mg "min" = none
 n_tuple:mg "tuple" = none
 n_list:mg "list" = none
 n_int:mg "int" = none
 n_str:mg "str" = none
 n_isinstance:mg "isinstance" = none
 n_range:mg "range" = none
 n_enumerate:mg "enumerate" = none
 n_sorted:mg "sorted" = none
section
variable {P:Program}{w:World}{K:PySem.W.Frag}{mg:Str→Option Value}{base:Heap}{C:Addr}
def spSeed:Sp:=fun vs H Q _=>∃ (c:Int),vs=[.int c]∧∀ (d:Addr) (H':Hp),H d=none→Seed H' d→Same H H'→Q (.ref d) H'
theorem df_law_seed (T:Txt K mg C):Df P w K mg base 1 "_law_seed" ["cell"] spSeed:=by
 refine T.d_law_seed.ok sc_law_seed (fun vs H Q E h=>?_) (fun f cdv A outer s H vs Q E hr h=>?_)
 ·obtain ⟨c,rfl,_⟩:=h
  rfl
 ·obtain ⟨c,rfl,q⟩:=h
  refine ⟨_,(@pss_cons _ _ _ _ _ (@ps_set _ _ 1 _ _ _ _ sc_law_seed.nd rfl (by first | exact Or.inl rfl | exact Or.inr rfl) (@pe_callB _ _ _ _ _ _ _ _ _ (call_max2 rfl) (by rfl) T.n_max bt_max (@pa_cons _ _ _ _ _ (pv 0) (@pa_cons _ _ _ _ _ (@pe_op _ _ _ _ _ _ _ _ op_sub pe_int (pv 0)) pa_nil star_bin) (by rfl)) (by decide) (by decide) (by rfl) (by rfl)) (by rfl) (by first | exact .inl rfl | exact .inr rfl))
   (@pss_one _ _ _ (@ps_ret _ _ _ _ (@pe_lst _ _ _ _ (@pa_cons _ _ _ _ _ (pv 1) (@pa_cons _ _ _ _ _ (@pe_callTy _ _ _ _ _ _ _ _ _ call_int1 (by rfl) T.n_int bt_int (@pa_cons _ _ _ _ _ (@pe_cmpR _ _ _ _ _ _ _ _ op_ge (pv 1) (@pe_op _ _ _ _ _ _ _ _ op_pow pe_int pe_int) (nomark _)) pa_nil star_cmp) (by decide) (by decide) (by rfl) (by rfl)) (@pa_cons _ _ _ _ _ pe_int (@pa_cons _ _ _ _ _ (@pe_op _ _ _ _ _ _ _ _ op_mod (pv 0) pe_int) pa_nil star_bin) (by rfl)) star_call) (by rfl)))))),?_⟩
  refine ⟨_,rfl,_,rfl,_,_,rfl,rfl,_,_,rfl,?_⟩
  refine ⟨_,rfl,_,rfl,_,_,rfl,rfl,⟨by decide,by decide,by decide⟩,_,_,rfl,rfl,Or.inr ⟨_,rfl,_,rfl,_,_,rfl,rfl,(by show (0:Int) < 1999999973;decide),(by show 4≤sizeLine;decide),fun d hd=>?_⟩⟩
  exact q d _ hd ⟨_,_,_,_,upd_same⟩ (same_upd hd)
def spDraw:Sp:=fun vs H Q _=>∃ (d:Addr) (most:Int),vs=[.ref d,.int most]∧Seed H d∧0 < most∧most < 2 ^ 40 ∧
 ∀ (x:Int) (H':Hp),0≤x→x < most→Seed H' d→KeepBut d H H'→Q (.int x) H'
theorem df_law_draw (T:Txt K mg C):Df P w K mg base 1 "_law_draw" ["seed","most"] spDraw:=by
 refine T.d_law_draw.ok sc_law_draw (fun vs H Q E h=>?_) (fun f cdv A outer s H vs Q E hr h=>?_)
 ·obtain ⟨d,most,rfl,_⟩:=h
  rfl
 ·obtain ⟨d,most,rfl,⟨a,b,n,c,hd⟩,m0,m1,q⟩:=h
  refine ⟨_,(@pss_cons _ _ _ _ _ (@ps_asg _ _ _ _ _ _ (@pe_op _ _ _ _ _ _ _ _ op_add (@pe_ix _ _ _ _ _ _ _ (ix_seqK (K:=K) rfl) (pv 0) pe_int (fun _ _=>rfl)) pe_int) (pg_sub (pv 0) pe_int set_list) (by rfl) (by rfl) (by rfl))
   (@pss_cons _ _ _ _ _ (@ps_if _ _ _ _ _ _ _ _ (pw_and (@pt_cmpR _ _ _ _ _ _ _ _ (op_eqA hr.units) (@pe_ix _ _ _ _ _ _ _ (ix_seqK (K:=K) rfl) (pv 0) pe_int (fun _ _=>rfl)) pe_int (nomark _)) (pw_and1 (@pt_cmpR _ _ _ _ _ _ _ _ op_gt (@pe_ix _ _ _ _ _ _ _ (ix_seqK (K:=K) rfl) (pv 0) pe_int (fun _ _=>rfl)) pe_int (nomark _)))).pt (@pss_cons _ _ _ _ _ (@ps_set _ _ 2 _ _ _ _ sc_law_draw.nd rfl (by first | exact Or.inl rfl | exact Or.inr rfl) (@pe_op _ _ _ _ _ _ _ _ op_mod (@pe_ix _ _ _ _ _ _ _ (ix_seqK (K:=K) rfl) (pv 0) pe_int (fun _ _=>rfl)) (pv 1)) (by rfl) (by first | exact .inl rfl | exact .inr rfl))
   (@pss_cons _ _ _ _ _ (@ps_asg _ _ _ _ _ _ (@pe_op _ _ _ _ _ _ _ _ op_fdivB (@pe_ix _ _ _ _ _ _ _ (ix_seqK (K:=K) rfl) (pv 0) pe_int (fun _ _=>rfl)) (pv 1)) (pg_sub (pv 0) pe_int set_list) (by rfl) (by rfl) (by rfl))
   (@pss_one _ _ _ (@ps_ret _ _ _ _ (pv 2))))) pss_nil)
   (@pss_cons _ _ _ _ _ (@ps_set _ _ 3 _ _ _ _ sc_law_draw.nd rfl (by first | exact Or.inl rfl | exact Or.inr rfl) (@pe_op _ _ _ _ _ _ _ _ op_mod (@pe_op _ _ _ _ _ _ _ _ op_mul (@pe_op _ _ _ _ _ _ _ _ op_add (@pe_op _ _ _ _ _ _ _ _ op_add (@pe_ix _ _ _ _ _ _ _ (ix_seqK (K:=K) rfl) (pv 0) pe_int (fun _ _=>rfl)) (@pe_op _ _ _ _ _ _ _ _ op_mul pe_int (@pe_ix _ _ _ _ _ _ _ (ix_seqK (K:=K) rfl) (pv 0) pe_int (fun _ _=>rfl)))) pe_int) pe_int) pe_int) (by rfl) (by first | exact .inl rfl | exact .inr rfl))
   (@pss_cons _ _ _ _ _ (@ps_set _ _ 3 _ _ _ _ sc_law_draw.nd rfl (by first | exact Or.inl rfl | exact Or.inr rfl) (@pe_op _ _ _ _ _ _ _ _ op_mod (@pe_op _ _ _ _ _ _ _ _ op_mul (@pe_op _ _ _ _ _ _ _ _ op_mod (@pe_op _ _ _ _ _ _ _ _ op_mul (pv 3) (pv 3)) pe_int) pe_int) pe_int) (by rfl) (by first | exact .inl rfl | exact .inr rfl))
   (@pss_one _ _ _ (@ps_ret _ _ _ _ (@pe_op _ _ _ _ _ _ _ _ op_mod (@pe_op _ _ _ _ _ _ _ _ op_fdivB (pv 3) pe_int) (pv 1)))))))),?_⟩
  refine ⟨_,rfl,Or.inl ⟨_,_,_,_,rfl,rfl,SqL.of hd,rfl,_,_,rfl,rfl,?_⟩⟩
  refine ⟨_,rfl,_,_,_,2,rfl,rfl,hd,rfl,?_⟩
  have h1:upd H d (.lst [.int a,.int b,.int (n + 1),.int c]) d=some (.lst [.int a,.int b,.int (n + 1),.int c]):=upd_same
  have k1:KeepBut d H (upd H d (.lst [.int a,.int b,.int (n + 1),.int c])):=fun b' o e hb=>by rw [upd_ne hb];exact e
  dsimp only [List.set]
  generalize upd H d (.lst [.int a,.int b,.int (n + 1),.int c])=H1 at h1 k1 ⊢
  refine tSeq_cut (fun σ' H'=>∃ fo:Option V,σ'=[some (.ref d),some (.int most),fo,none]∧H'=H1) ?_ (fun rest=>?_)
  ·rintro _ _ ⟨fo,rfl,rfl⟩
   refine ⟨_,rfl,Or.inl ⟨_,_,_,_,rfl,rfl,SqL.of h1,rfl,_,rfl,Or.inl ⟨_,_,_,_,rfl,rfl,SqL.of h1,rfl,_,_,rfl,rfl,Or.inl ⟨by decide,by decide⟩,_,_,rfl,rfl,_,_,rfl,rfl,_,_,rfl,rfl,Or.inr ⟨by decide,by decide⟩,_,_,rfl,rfl,(by show (0:Int) < 2147483647;decide),?_⟩⟩⟩
   have a1:(0:Int)≤((c + 7477 * (n + 1) + 29) * 48271) % 2147483647:=Int.emod_nonneg _ (by decide)
   have a2:((c + 7477 * (n + 1) + 29) * 48271) % 2147483647 < (2147483647:Int):=Int.emod_lt_of_pos _ (by decide)
   generalize ((c + 7477 * (n + 1) + 29) * 48271) % 2147483647=n1 at a1 a2
   refine ⟨_,rfl,_,rfl,_,_,rfl,rfl,Or.inl ⟨by omega,by omega⟩,_,_,rfl,rfl,(by show (0:Int) < 2147483629;decide),_,_,rfl,rfl,Or.inr ⟨by decide,by decide⟩,_,_,rfl,rfl,(by show (0:Int) < 2147483399;decide),?_⟩
   refine ⟨_,rfl,_,_,rfl,rfl,⟨(by show (0:Int) < 7;decide),by show (7:Int) < 2 ^ 62;decide⟩,_,rfl,_,_,rfl,rfl,m0,?_⟩
   exact q _ _ (Int.emod_nonneg _ (by omega)) (Int.emod_lt_of_pos _ m0) ⟨_,_,_,_,h1⟩ k1
  ·refine ⟨_,rfl,Or.inl ⟨_,_,_,_,rfl,rfl,SqL.of h1,rfl,Or.inl ⟨rfl,_,rfl,?_⟩⟩⟩
   refine ite2 (fun hz=>?_) (fun hz=>iteF (rest _ _ ⟨none,rfl,rfl⟩))
   refine ⟨_,rfl,Or.inl ⟨_,_,_,_,rfl,rfl,SqL.of h1,rfl,_,_,rfl,rfl,_,rfl,?_⟩⟩
   refine ite2 (fun hz=>?_) (fun hz=>rest _ _ ⟨none,rfl,rfl⟩)
   refine ⟨_,rfl,Or.inl ⟨_,_,_,_,rfl,rfl,SqL.of h1,rfl,_,rfl,_,_,rfl,rfl,m0,?_⟩⟩
   refine ⟨_,rfl,Or.inl ⟨_,_,_,_,rfl,rfl,SqL.of h1,rfl,_,rfl,_,_,rfl,rfl,⟨m0,by omega⟩,?_⟩⟩
   refine ⟨_,rfl,_,_,_,0,rfl,rfl,h1,rfl,_,rfl,?_⟩
   refine q _ _ (Int.emod_nonneg _ (by omega)) (Int.emod_lt_of_pos _ m0) ⟨_,_,_,_,upd_same⟩ fun b' o e hb=>?_
   rw [upd_ne hb]
   exact k1 b' o e hb
theorem cut_mem {xs:List V}{lo hi:Option Int}{x:V}(h:x∈cutV xs lo hi):x∈xs:=by
 unfold cutV at h
 exact List.mem_of_mem_drop (List.mem_of_mem_take h)
theorem cut_len (xs:List V)(lo hi:Option Int):(cutV xs lo hi).length ≤ xs.length:=by
 unfold cutV
 rw [List.length_take,List.length_drop]
 omega
theorem pickI {x:Int}{ms:List Int}(x0:0≤x)(x1:x < ms.length):∃ m:Int,atI (ms.map V.int) x=some (.int m)∧m∈ms:=by
 obtain ⟨v,e3,e4⟩:=atI_mem (xs:=ms.map V.int) x0 (by rw [List.length_map];exact x1)
 obtain ⟨m,hm,rfl⟩:=List.mem_map.mp e4
 exact ⟨m,e3,hm⟩
theorem cut_take (xs:List V)(k:Nat):cutV xs none (some (k:Int))=xs.take k:=by
 unfold cutV
 rw [HT.sIx_nat]
 show (xs.drop 0).take (min k xs.length - 0)=_
 rw [List.drop_zero,Nat.sub_zero]
 rcases Nat.le_total k xs.length with z | z
 ·rw [Nat.min_eq_left z]
 ·rw [Nat.min_eq_right z,List.take_of_length_le (Nat.le_refl _),List.take_of_length_le z]
theorem cut_drop (xs:List V)(k:Nat):cutV xs (some ((k:Int) + 1)) none=xs.drop (k + 1):=by
 unfold cutV
 rw [show ((k:Int) + 1)=((k + 1:Nat):Int) by omega,HT.sIx_nat]
 show (xs.drop (min (k + 1) xs.length)).take (xs.length - min (k + 1) xs.length)=_
 rw [List.take_of_length_le (by rw [List.length_drop];omega)]
 rcases Nat.le_total (k + 1) xs.length with z | z
 ·rw [Nat.min_eq_left z]
 ·rw [Nat.min_eq_right z,List.drop_of_length_le (Nat.le_refl _),List.drop_of_length_le z]
theorem isDs_take {H:Hp}{xs:List V}{ds:List PyData}(h:IsDs H xs ds):∀ k:Nat,IsDs H (xs.take k) (ds.take k):=by
 induction xs generalizing ds with
 | nil=>cases h;intro k;rw [List.take_nil,List.take_nil];exact .nil
 | cons x xs ih =>
  cases h with
  | cons h1 h2 =>
   intro k
   cases k with
   | zero=>exact .nil
   | succ k=>exact .cons h1 (ih h2 k)
theorem isDs_drop {H:Hp}{xs:List V}{ds:List PyData}(h:IsDs H xs ds):∀ k:Nat,IsDs H (xs.drop k) (ds.drop k):=by
 induction xs generalizing ds with
 | nil=>cases h;intro k;rw [List.drop_nil,List.drop_nil];exact .nil
 | cons x xs ih =>
  cases h with
  | cons h1 h2 =>
   intro k
   cases k with
   | zero=>exact .cons h1 h2
   | succ k=>exact ih h2 k
def spPlaceBy (K:PySem.W.Frag):Sp:=fun vs H Q _=>∃ (n:Nat) (sv:V) (a b:Int),vs=[.int n,sv]∧Shr K H sv a b∧Share a b∧Q (.int (placeOf n a b)) H
theorem df_place_by_share (T:Txt K mg C):Df P w K mg base 1 "place_by_share" ["how_many","share"] (spPlaceBy K):=by
 refine T.d_place_by_share.ok sc_place_by_share (fun vs H Q E h=>?_) (fun f cdv A outer s H vs Q E hr h=>?_)
 ·obtain ⟨n,sv,a,b,rfl,_⟩:=h
  rfl
 ·obtain ⟨n,sv,a,b,rfl,hs,⟨s1,s2,s3,s4⟩,q⟩:=h
  obtain ⟨sa,rfl,hsa⟩:=hs
  refine ⟨_,(@pss_one _ _ _ (@ps_ret _ _ _ _ (@pe_op _ _ _ _ _ _ _ _ op_fdivB (@pe_op _ _ _ _ _ _ _ _ op_mul (@pe_ix _ _ _ _ _ _ _ (ix_seqK (K:=K) rfl) (pv 1) pe_int (fun _ _=>rfl)) (@pe_op _ _ _ _ _ _ _ _ op_sub (pv 0) pe_int)) (@pe_ix _ _ _ _ _ _ _ (ix_seqK (K:=K) rfl) (pv 1) pe_int (fun _ _=>rfl))))),?_⟩
  refine ⟨_,rfl,Or.inr (Or.inl ⟨_,_,_,_,rfl,rfl,shr_sq hsa,rfl,_,rfl,_,_,rfl,rfl,_,_,rfl,rfl,Or.inl ⟨by show -(2 ^ 64) < a;omega,by show a < 2 ^ 64;omega⟩,?_⟩)⟩
  exact ⟨_,rfl,Or.inr (Or.inl ⟨_,_,_,_,rfl,rfl,shr_sq hsa,rfl,_,_,rfl,rfl,⟨by show 0 < b;omega,by show b < 2 ^ 62;omega⟩,q⟩)⟩
def spManieth (K:PySem.W.Frag):Sp:=fun vs H Q _=>∃ (p:Addr) (sv:V) (ns:List Int) (a b:Int),vs=[.ref p,sv]∧SeqV H p (ns.map V.int)∧Shr K H sv a b∧Share a b∧∀ H',Same H H'→Q (cellV (manieth ns a b)) H'
theorem df_so_manieth (T:Txt K mg C):Df P w K mg base 2 "so_manieth" ["numbers","share"] (spManieth K):=by
 refine T.d_so_manieth.ok sc_so_manieth (fun vs H Q E h=>?_) (fun f cdv A outer s H vs Q E hr h=>?_)
 ·obtain ⟨p,sv,ns,a,b,rfl,_⟩:=h
  rfl
 ·obtain ⟨p,sv,ns,a,b,rfl,hp,hs,hS,q⟩:=h
  refine ⟨_,(@pss_cons _ _ _ _ _ (@ps_if _ _ _ _ _ _ _ _ (@pt_cmpR _ _ _ _ _ _ _ _ (op_eqA hr.units) (@pe_callB _ _ _ _ _ _ _ _ _ (call_lenK (K:=K) rfl) (by rfl) T.n_len bt_len (@pa_cons _ _ _ _ _ (pv 0) pa_nil (by rfl)) (by decide) (by decide) (by rfl) (by rfl)) pe_int (nomark _)) (@pss_one _ _ _ (@ps_ret _ _ _ _ pe_non)) pss_nil)
   (@pss_one _ _ _ (@ps_ret _ _ _ _ (@pe_ix _ _ _ _ _ _ _ (ix_seqK (K:=K) rfl) (@pe_callB _ _ _ _ _ _ _ _ _ call_sorted (by rfl) T.n_sorted bt_sorted (@pa_cons _ _ _ _ _ (pv 0) pa_nil (by rfl)) (by decide) (by decide) (by rfl) (by rfl)) (@pe_df _ _ _ _ _ _ _ _ _ _ (df_place_by_share T) (hr.mono (by decide)) (@pa_cons _ _ _ _ _ (@pe_callB _ _ _ _ _ _ _ _ _ (call_lenK (K:=K) rfl) (by rfl) T.n_len bt_len (@pa_cons _ _ _ _ _ (pv 0) pa_nil (by rfl)) (by decide) (by decide) (by rfl) (by rfl)) (@pa_cons _ _ _ _ _ (pv 1) pa_nil (by rfl)) star_call) (by rfl) (by decide) (by rfl) (by rfl)) (fun _ _=>rfl))))),?_⟩
  refine ⟨_,rfl,_,_,rfl,hp.len,Or.inl ⟨rfl,_,rfl,?_⟩⟩
  refine ite2 (fun z=>?_) (fun z=>?_)
  ·have e:ns=[]:=by
    have z':V.int (((ns.map V.int).length:Nat):Int)=V.int 0:=of_decide_eq_true z
    have z2:(((ns.map V.int).length:Nat):Int)=0:=V.int.inj z'
    rw [List.length_map] at z2
    exact List.length_eq_zero_iff.mp (by omega)
   subst e
   have:=q H (Same.refl H)
   rw [manieth_nil] at this
   exact this
  ·have e:ns≠[]:=fun e=>by subst e;exact z (by decide)
   refine ⟨_,rfl,p,ns,rfl,hp,fun l hl=>?_⟩
   have sl:=same_upd (o:=.lst ((sortI ns).map V.int)) hl
   refine ⟨_,rfl,_,_,rfl,(hp.same sl).len,_,rfl,_,_,a,b,rfl,hs.keep sl.tups,hS,?_⟩
   obtain ⟨hlt,em⟩:=manieth_some hS e
   have hl1:1≤ns.length:=by
    cases ns with
    | nil=>exact absurd rfl e
    | cons x l=>simp
   have pb:=place_bounds hS hl1
   have el:(ns.map V.int).length=ns.length:=List.length_map ..
   rw [el]
   have en:(((placeOf ns.length a b).toNat:Nat):Int)=placeOf ns.length a b:=Int.toNat_of_nonneg pb.1
   generalize hx:(sortI ns)[(placeOf ns.length a b).toNat]=x at em
   refine Or.inl ⟨_,_,_,.int x,rfl,rfl,SqL.of upd_same,?_,?_⟩
   ·rw [← en]
    refine atI_nat ?_
    rw [List.getElem?_map,List.getElem?_eq_getElem hlt,hx]
    rfl
   ·have:=q _ sl
    rw [em] at this
    exact this
def spInside:Sp:=fun vs H Q _=>∃ (fv:V) (F:List (List (Option Int))) (i j:Int),vs=[fv,.int i,.int j]∧Rect F∧IsD H fv (fieldD F)∧Q (.bl (inF F i j)) H
theorem df_is_inside (T:Txt K mg C):Df P w K mg base 1 "is_inside" ["field","i","j"] spInside:=by
 refine T.d_is_inside.ok sc_is_inside (fun vs H Q E h=>?_) (fun f cdv A outer s H vs Q E hr h=>?_)
 ·obtain ⟨fv,F,i,j,rfl,_⟩:=h
  rfl
 ·obtain ⟨fv,F,i,j,rfl,R,hf,q⟩:=h
  obtain ⟨a,xs,b,ys,rfl,ha,la,hb0,hb,lb⟩:=field_sizes R hf
  refine ⟨_,(@pss_one _ _ _ (@ps_ret _ _ _ _ (pe_and (pe_chain op_le op_lt pe_int (pv 1) (@pe_callB _ _ _ _ _ _ _ _ _ (call_lenK (K:=K) rfl) (by rfl) T.n_len bt_len (@pa_cons _ _ _ _ _ (pv 0) pa_nil (by rfl)) (by decide) (by decide) (by rfl) (by rfl))) (pe_one (pe_chain op_le op_lt pe_int (pv 2) (@pe_callB _ _ _ _ _ _ _ _ _ (call_lenK (K:=K) rfl) (by rfl) T.n_len bt_len (@pa_cons _ _ _ _ _ (@pe_ix _ _ _ _ _ _ _ (ix_seqK (K:=K) rfl) (pv 0) pe_int (fun _ _=>rfl)) pa_nil star_sub) (by decide) (by decide) (by rfl) (by rfl))))))),?_⟩
  refine ⟨_,rfl,_,_,rfl,rfl,_,rfl,?_⟩
  unfold inF at q
  refine ite2 (fun z=>?_) (fun z=>?_)
  ·refine ⟨_,rfl,_,_,rfl,Or.inr ⟨_,SqT.of ha,rfl⟩,_,_,rfl,rfl,_,rfl,?_⟩
   refine ite2 (fun z2=>?_) (fun z2=>?_)
   ·refine ⟨_,rfl,_,_,rfl,rfl,_,rfl,?_⟩
    have e1:(decide (0≤i) && decide (i < (F.length:Int)))=true:=by rw [z,← la,z2];rfl
    rw [e1,Bool.true_and] at q
    refine ite2 (fun z3=>?_) (fun z3=>?_)
    ·refine ⟨_,rfl,Or.inr (Or.inl ⟨_,_,_,_,rfl,rfl,SqT.of ha,hb0,_,_,rfl,Or.inr ⟨_,SqT.of hb,rfl⟩,_,_,rfl,rfl,?_⟩)⟩
     rw [z3,← lb,Bool.true_and] at q
     exact q
    ·rw [Bool.eq_false_iff.mpr z3,Bool.false_and] at q
     exact q
   ·have e1:(decide (0≤i) && decide (i < (F.length:Int)))=false:=by rw [← la,Bool.eq_false_iff.mpr z2,Bool.and_false]
    rw [e1,Bool.false_and] at q
    exact q
  ·rw [Bool.eq_false_iff.mpr z,Bool.false_and,Bool.false_and] at q
   exact ⟨_,rfl,iteF q⟩
theorem minInt (i j:Int):(if j < i then j else i)=min i j:=by omega
theorem maxInt (i j:Int):(if j > i then j else i)=max i j:=by omega
theorem s_near_turned:¬ (("near" : Str) = "turned"):=by decide +kernel
theorem s_turned_near:¬ (("turned" : Str) = "near"):=by decide +kernel
theorem s_round_near:¬ (("round" : Str) = "near"):=by decide +kernel
theorem s_round_turned:¬ (("round" : Str) = "turned"):=by decide +kernel
theorem s_near_there:¬ (("near" : Str) = "there"):=by decide +kernel
theorem s_turned_there:¬ (("turned" : Str) = "there"):=by decide +kernel
theorem s_round_there:¬ (("round" : Str) = "there"):=by decide +kernel
theorem eqS {x y:Str}(h:x=y):decide (V.str x=V.str y)=true:=decide_eq_true (by rw [h])
theorem neS {x y:Str}(h:¬ x=y):decide (V.str x=V.str y)=false:=decide_eq_false fun e=>h (V.str.inj e)
def Led (r:Rule) (x:Str):Prop:=(r = .near ∧ x = "near") ∨ (r = .turned ∧ x = "turned") ∨ (r = .round ∧ x = "round")
def spBrought:Sp:=fun vs H Q _=>∃ (r:Rule) (x:Str) (p n:Int),vs=[.str x,.int p,.int n]∧Led r x∧1≤n∧n < 2 ^ 40∧Q (.int (led r p n)) H
theorem df_brought_inside (T:Txt K mg C):Df P w K mg base 1 "brought_inside" ["rule","place","length"] spBrought:=by
 refine T.d_brought_inside.ok sc_brought_inside (fun vs H Q E h=>?_) (fun f cdv A outer s H vs Q E hr h=>?_)
 ·obtain ⟨r,x,p,n,rfl,_⟩:=h
  rfl
 ·obtain ⟨r,x,p,n,rfl,hl,n1,n2,q⟩:=h
  refine ⟨_,(@pss_cons _ _ _ _ _ (@ps_if _ _ _ _ _ _ _ _ (@pt_cmpR _ _ _ _ _ _ _ _ (op_eqA hr.units) (pv 0) pe_str (nomark _)) (@pss_one _ _ _ (@ps_ret _ _ _ _ (@pe_callB _ _ _ _ _ _ _ _ _ (call_min2 rfl) (by rfl) T.n_min bt_min (@pa_cons _ _ _ _ _ (@pe_callB _ _ _ _ _ _ _ _ _ (call_max2 rfl) (by rfl) T.n_max bt_max (@pa_cons _ _ _ _ _ (pv 1) (@pa_cons _ _ _ _ _ pe_int pa_nil (by rfl)) (by rfl)) (by decide) (by decide) (by rfl) (by rfl)) (@pa_cons _ _ _ _ _ (@pe_op _ _ _ _ _ _ _ _ op_sub (pv 2) pe_int) pa_nil star_bin) star_call) (by decide) (by decide) (by rfl) (by rfl)))) pss_nil)
   (@pss_cons _ _ _ _ _ (@ps_if _ _ _ _ _ _ _ _ (@pt_cmpR _ _ _ _ _ _ _ _ (op_eqA hr.units) (pv 0) pe_str (nomark _)) (@pss_cons _ _ _ _ _ (@ps_set _ _ 3 _ _ _ _ sc_brought_inside.nd rfl (by first | exact Or.inl rfl | exact Or.inr rfl) (@pe_op _ _ _ _ _ _ _ _ op_mod (pv 1) (@pe_op _ _ _ _ _ _ _ _ op_mul pe_int (pv 2))) (by rfl) (by first | exact .inl rfl | exact .inr rfl))
   (@pss_one _ _ _ (@ps_ret _ _ _ _ (@pe_callB _ _ _ _ _ _ _ _ _ (call_min2 rfl) (by rfl) T.n_min bt_min (@pa_cons _ _ _ _ _ (pv 3) (@pa_cons _ _ _ _ _ (@pe_op _ _ _ _ _ _ _ _ op_sub (@pe_op _ _ _ _ _ _ _ _ op_sub (@pe_op _ _ _ _ _ _ _ _ op_mul pe_int (pv 2)) pe_int) (pv 3)) pa_nil star_bin) (by rfl)) (by decide) (by decide) (by rfl) (by rfl))))) pss_nil)
   (@pss_one _ _ _ (@ps_ret _ _ _ _ (@pe_op _ _ _ _ _ _ _ _ op_mod (pv 1) (pv 2)))))),?_⟩
  rcases hl with ⟨rfl,rfl⟩ | ⟨rfl,rfl⟩ | ⟨rfl,rfl⟩
  ·refine ⟨_,rfl,Or.inl ⟨rfl,_,rfl,?_⟩⟩
   rw [eqS rfl]
   refine iteT ?_
   refine ⟨_,rfl,_,_,rfl,_,rfl,_,_,rfl,rfl,_,_,rfl,?_⟩
   rw [minInt,maxInt]
   exact q
  ·refine ⟨_,rfl,Or.inl ⟨rfl,_,rfl,?_⟩⟩
   rw [neS s_turned_near]
   refine iteF ?_
   refine ⟨_,rfl,Or.inl ⟨rfl,_,rfl,?_⟩⟩
   rw [eqS rfl]
   refine iteT ?_
   refine ⟨_,rfl,_,rfl,_,_,rfl,rfl,Or.inl ⟨by decide,by decide⟩,_,_,rfl,rfl,(by show (0:Int) < 2 * n;omega),?_⟩
   refine ⟨_,rfl,_,rfl,_,_,rfl,rfl,Or.inl ⟨by decide,by decide⟩,_,_,rfl,rfl,_,rfl,_,_,rfl,rfl,_,_,rfl,?_⟩
   rw [minInt]
   exact q
  ·refine ⟨_,rfl,Or.inl ⟨rfl,_,rfl,?_⟩⟩
   rw [neS s_round_near]
   refine iteF ?_
   refine ⟨_,rfl,Or.inl ⟨rfl,_,rfl,?_⟩⟩
   rw [neS s_round_turned]
   refine iteF ?_
   refine ⟨_,rfl,_,rfl,_,_,rfl,rfl,(by show (0:Int) < n;omega),?_⟩
   exact q
def spStandsAt:Sp:=fun vs H Q _=>∃ (fv rv:V) (F:List (List (Option Int))) (r:Rule) (i j:Int),vs=[fv,rv,.int i,.int j]∧Rect F∧IsD H fv (fieldD F)∧IsD H rv (ruleD r) ∧
 ∀ (p:Addr),H p=none→Q (.ref p) (upd H p (.tup ((stands F r i j).map cellV)))
theorem df_stands_at (T:Txt K mg C):Df P w K mg base 2 "stands_at" ["field","rule","i","j"] spStandsAt:=by
 refine T.d_stands_at.ok sc_stands_at (fun vs H Q E h=>?_) (fun f cdv A outer s H vs Q E hr h=>?_)
 ·obtain ⟨fv,rv,F,r,i,j,rfl,_⟩:=h
  rfl
 ·obtain ⟨fv,rv,F,r,i,j,rfl,R,hf,hru,q⟩:=h
  refine ⟨_,(@pss_cons _ _ _ _ _ (@ps_if _ _ _ _ _ _ _ _ (@pt_val _ _ _ (@pe_df _ _ _ _ _ _ _ _ _ _ (df_is_inside T) (hr.mono (by decide)) (@pa_cons _ _ _ _ _ (pv 0) (@pa_cons _ _ _ _ _ (pv 2) (@pa_cons _ _ _ _ _ (pv 3) pa_nil (by rfl)) (by rfl)) (by rfl)) (by rfl) (by decide) (by rfl) (by rfl)) (by intro _;rfl)) (@pss_one _ _ _ (@ps_ret _ _ _ _ (@pe_tup _ _ _ _ _ (@pa_cons _ _ _ _ _ (@pe_ix _ _ _ _ _ _ _ (ix_seqK (K:=K) rfl) (@pe_ix _ _ _ _ _ _ _ (ix_seqK (K:=K) rfl) (pv 0) (pv 2) (fun _ _=>rfl)) (pv 3) (fun _ _=>rfl)) pa_nil star_sub)))) pss_nil)
   (@pss_cons _ _ _ _ _ (@ps_if _ _ _ _ _ _ _ _ (@pt_cmpR _ _ _ _ _ _ _ _ (op_eqA hr.units) (pv 1) pe_str (nomark _)) (@pss_one _ _ _ (@ps_ret _ _ _ _ (@pe_tup _ _ _ _ _ pa_nil))) pss_nil)
   (@pss_cons _ _ _ _ _ (@ps_if _ _ _ _ _ _ _ _ (@pt_val _ _ _ (@pe_callB _ _ _ _ _ _ _ _ _ (call_isinstK (K:=K) rfl) (by rfl) T.n_isinstance bt_isinstance (@pa_cons _ _ _ _ _ (pv 1) (@pa_cons _ _ _ _ _ (pe_bltn (v:=.ty "tuple") (by rfl) T.n_tuple bt_tuple rfl) pa_nil (by rfl)) (by rfl)) (by decide) (by decide) (by rfl) (by rfl)) (by intro _;rfl)) (@pss_one _ _ _ (@ps_ret _ _ _ _ (@pe_tup _ _ _ _ _ (@pa_cons _ _ _ _ _ (@pe_ix _ _ _ _ _ _ _ (ix_seqK (K:=K) rfl) (pv 1) pe_int (fun _ _=>rfl)) pa_nil star_sub)))) pss_nil)
   (@pss_cons _ _ _ _ _ (@ps_set _ _ 4 _ _ _ _ sc_stands_at.nd rfl (by first | exact Or.inl rfl | exact Or.inr rfl) (@pe_ix _ _ _ _ _ _ _ (ix_seqK (K:=K) rfl) (pv 0) (@pe_df _ _ _ _ _ _ _ _ _ _ (df_brought_inside T) (hr.mono (by decide)) (@pa_cons _ _ _ _ _ (pv 1) (@pa_cons _ _ _ _ _ (pv 2) (@pa_cons _ _ _ _ _ (@pe_callB _ _ _ _ _ _ _ _ _ (call_lenK (K:=K) rfl) (by rfl) T.n_len bt_len (@pa_cons _ _ _ _ _ (pv 0) pa_nil (by rfl)) (by decide) (by decide) (by rfl) (by rfl)) pa_nil star_call) (by rfl)) (by rfl)) (by rfl) (by decide) (by rfl) (by rfl)) (fun _ _=>rfl)) (by rfl) (by first | exact .inl rfl | exact .inr rfl))
   (@pss_one _ _ _ (@ps_ret _ _ _ _ (@pe_tup _ _ _ _ _ (@pa_cons _ _ _ _ _ (@pe_ix _ _ _ _ _ _ _ (ix_seqK (K:=K) rfl) (pv 4) (@pe_df _ _ _ _ _ _ _ _ _ _ (df_brought_inside T) (hr.mono (by decide)) (@pa_cons _ _ _ _ _ (pv 1) (@pa_cons _ _ _ _ _ (pv 3) (@pa_cons _ _ _ _ _ (@pe_callB _ _ _ _ _ _ _ _ _ (call_lenK (K:=K) rfl) (by rfl) T.n_len bt_len (@pa_cons _ _ _ _ _ (pv 4) pa_nil (by rfl)) (by decide) (by decide) (by rfl) (by rfl)) pa_nil star_call) (by rfl)) (by rfl)) (by rfl) (by decide) (by rfl) (by rfl)) (fun _ _=>rfl)) pa_nil star_sub)))))))),?_⟩
  refine ⟨_,rfl,_,rfl,_,rfl,_,F,i,j,rfl,R,hf,_,rfl,?_⟩
  unfold stands at q
  cases hin:inF F i j with
  | true =>
   refine iteT ?_
   rw [hin,if_pos rfl] at q
   unfold inF at hin
   simp only [Bool.and_eq_true,decide_eq_true_eq] at hin
   obtain ⟨a,xs,b,rr,rfl,ha,hab,hb,hbc,_⟩:=field_cell R hf hin.1.1 hin.1.2 hin.2.1 hin.2.2
   refine ⟨_,rfl,_,rfl,Or.inr (Or.inl ⟨_,_,_,_,rfl,rfl,SqT.of ha,hab,_,rfl,Or.inr (Or.inl ⟨_,_,_,_,rfl,rfl,SqT.of hb,hbc,(by show 1≤sizeLine;decide),fun p hp=>?_⟩)⟩)⟩
   exact q p hp
  | false =>
   refine iteF ?_
   rw [hin,if_neg Bool.false_ne_true] at q
   cases r with
   | there =>
    have e:=rule_str hru
    subst e
    refine ⟨_,rfl,Or.inl ⟨rfl,_,rfl,?_⟩⟩
    rw [eqS rfl]
    refine iteT ?_
    exact ⟨(by show 0≤sizeLine;decide),fun p hp=>q p hp⟩
   | told c =>
    obtain ⟨a,xs,rfl,ha,hxs⟩:=hru.tuple_inv
    refine ⟨_,rfl,Or.inr ⟨_,_,hru,.str _,⟨?_,by decide +kernel,?_⟩,_,rfl,?_⟩⟩
    ·show PyData.canLayAll0 [.str "told",cellD c]=true
     rw [PyData.canLayAll0,PyData.canLayAll0,canLay_cell]
     decide +kernel
    ·show PyData.depthAll [.str "told",cellD c] + 1≤20
     rw [PyData.depthAll,PyData.depthAll,depth_cell]
     decide
    refine iteF ?_
    refine ⟨_,rfl,_,_,_,_,rfl,Or.inl ⟨rfl,_,ha⟩,rfl,_,rfl,?_⟩
    refine iteT ?_
    cases hxs with
    | cons h1 h2 =>
     cases h2 with
     | cons h3 h4 =>
      cases h4
      rw [IsD.cell_inv h3] at ha
      refine ⟨_,rfl,Or.inr (Or.inl ⟨_,_,_,_,rfl,rfl,SqT.of ha,rfl,(by show 1≤sizeLine;decide),fun p hp=>q p hp⟩)⟩
   | near =>
    have e:=rule_str hru
    subst e
    obtain ⟨a,xs,b0,ys,e,ha,la,hb0,hb,lb⟩:=field_sizes R hf
    subst e
    have li:=led_in .near i (n:=F.length) (by have:=R.h1;omega)
    have lj:=led_in .near j (n:=(F.headD []).length) (by have:=R.w1;omega)
    obtain ⟨a',xs',b,rr,e,ha',hab,hb',hbc,lr⟩:=field_cell R hf li.1 li.2 lj.1 lj.2
    cases e
    rw [ha] at ha';cases ha'
    refine ⟨_,rfl,Or.inl ⟨rfl,_,rfl,?_⟩⟩
    rw [neS s_near_there]
    refine iteF ?_
    refine ⟨_,rfl,_,_,_,_,rfl,rfl,rfl,_,rfl,?_⟩
    refine iteF ?_
    refine ⟨_,rfl,_,rfl,_,rfl,_,rfl,_,_,rfl,Or.inr ⟨_,SqT.of ha,rfl⟩,.near,_,_,_,rfl,(by unfold Led;simp),(by have:=R.h1;omega),(by have:=R.hs;omega),?_⟩
    refine Or.inr (Or.inl ⟨_,_,_,_,rfl,rfl,SqT.of ha,(by rw [la];exact hab),?_⟩)
    refine ⟨_,rfl,_,rfl,_,rfl,_,rfl,_,_,rfl,Or.inr ⟨_,SqT.of hb',rfl⟩,.near,_,_,_,rfl,(by unfold Led;simp),(by rw [lr];have:=R.w1;omega),(by rw [lr];have:=R.ws;omega),?_⟩
    refine Or.inr (Or.inl ⟨_,_,_,_,rfl,rfl,SqT.of hb',(by rw [lr];exact hbc),(by show 1≤sizeLine;decide),fun p hp=>q p hp⟩)
   | turned =>
    have e:=rule_str hru
    subst e
    obtain ⟨a,xs,b0,ys,e,ha,la,hb0,hb,lb⟩:=field_sizes R hf
    subst e
    have li:=led_in .turned i (n:=F.length) (by have:=R.h1;omega)
    have lj:=led_in .turned j (n:=(F.headD []).length) (by have:=R.w1;omega)
    obtain ⟨a',xs',b,rr,e,ha',hab,hb',hbc,lr⟩:=field_cell R hf li.1 li.2 lj.1 lj.2
    cases e
    rw [ha] at ha';cases ha'
    refine ⟨_,rfl,Or.inl ⟨rfl,_,rfl,?_⟩⟩
    rw [neS s_turned_there]
    refine iteF ?_
    refine ⟨_,rfl,_,_,_,_,rfl,rfl,rfl,_,rfl,?_⟩
    refine iteF ?_
    refine ⟨_,rfl,_,rfl,_,rfl,_,rfl,_,_,rfl,Or.inr ⟨_,SqT.of ha,rfl⟩,.turned,_,_,_,rfl,(by unfold Led;simp),(by have:=R.h1;omega),(by have:=R.hs;omega),?_⟩
    refine Or.inr (Or.inl ⟨_,_,_,_,rfl,rfl,SqT.of ha,(by rw [la];exact hab),?_⟩)
    refine ⟨_,rfl,_,rfl,_,rfl,_,rfl,_,_,rfl,Or.inr ⟨_,SqT.of hb',rfl⟩,.turned,_,_,_,rfl,(by unfold Led;simp),(by rw [lr];have:=R.w1;omega),(by rw [lr];have:=R.ws;omega),?_⟩
    refine Or.inr (Or.inl ⟨_,_,_,_,rfl,rfl,SqT.of hb',(by rw [lr];exact hbc),(by show 1≤sizeLine;decide),fun p hp=>q p hp⟩)
   | round =>
    have e:=rule_str hru
    subst e
    obtain ⟨a,xs,b0,ys,e,ha,la,hb0,hb,lb⟩:=field_sizes R hf
    subst e
    have li:=led_in .round i (n:=F.length) (by have:=R.h1;omega)
    have lj:=led_in .round j (n:=(F.headD []).length) (by have:=R.w1;omega)
    obtain ⟨a',xs',b,rr,e,ha',hab,hb',hbc,lr⟩:=field_cell R hf li.1 li.2 lj.1 lj.2
    cases e
    rw [ha] at ha';cases ha'
    refine ⟨_,rfl,Or.inl ⟨rfl,_,rfl,?_⟩⟩
    rw [neS s_round_there]
    refine iteF ?_
    refine ⟨_,rfl,_,_,_,_,rfl,rfl,rfl,_,rfl,?_⟩
    refine iteF ?_
    refine ⟨_,rfl,_,rfl,_,rfl,_,rfl,_,_,rfl,Or.inr ⟨_,SqT.of ha,rfl⟩,.round,_,_,_,rfl,(by unfold Led;simp),(by have:=R.h1;omega),(by have:=R.hs;omega),?_⟩
    refine Or.inr (Or.inl ⟨_,_,_,_,rfl,rfl,SqT.of ha,(by rw [la];exact hab),?_⟩)
    refine ⟨_,rfl,_,rfl,_,rfl,_,rfl,_,_,rfl,Or.inr ⟨_,SqT.of hb',rfl⟩,.round,_,_,_,rfl,(by unfold Led;simp),(by rw [lr];have:=R.w1;omega),(by rw [lr];have:=R.ws;omega),?_⟩
    refine Or.inr (Or.inl ⟨_,_,_,_,rfl,rfl,SqT.of hb',(by rw [lr];exact hbc),(by show 1≤sizeLine;decide),fun p hp=>q p hp⟩)
def spPlaces:Sp:=fun vs H Q _=>∃ (p:Int) (a b:Nat),vs=[.int p,.int a,.int b]∧(-(2 ^ 60) < p∧p < 2 ^ 60)∧a≤100∧b≤100 ∧
 ∀ (l:Addr) (H':Hp),Same H H'→H' l=some (.lst (upInts (p - a) (a + b + 1)))→Q (.ref l) H'
theorem df_places_around (T:Txt K mg C):Df P w K mg base 1 "places_around" ["place","ahead","behind"] spPlaces:=by
 refine T.d_places_around.ok sc_places_around (fun vs H Q E h=>?_) (fun f cdv A outer s H vs Q E hr h=>?_)
 ·obtain ⟨p,a,b,rfl,_⟩:=h
  rfl
 ·obtain ⟨p,a,b,rfl,hp,ha,hb,q⟩:=h
  refine ⟨_,(@pss_one _ _ _ (@ps_ret _ _ _ _ (@pe_callTy _ _ _ _ _ _ _ _ _ (CallR.or (call_listK (K:=K) rfl) (call_list_rng rfl)) (by rfl) T.n_list bt_list (@pa_cons _ _ _ _ _ (@pe_callTy _ _ _ _ _ _ _ _ _ call_range2V (by rfl) T.n_range bt_range (@pa_cons _ _ _ _ _ (@pe_op _ _ _ _ _ _ _ _ op_sub (pv 0) (pv 1)) (@pa_cons _ _ _ _ _ (@pe_op _ _ _ _ _ _ _ _ op_add (@pe_op _ _ _ _ _ _ _ _ op_add (pv 0) (pv 2)) pe_int) pa_nil star_bin) star_bin) (by decide) (by decide) (by rfl) (by rfl)) pa_nil star_call) (by decide) (by decide) (by rfl) (by rfl)))),?_⟩
  refine ⟨_,rfl,_,rfl,_,_,rfl,rfl,_,rfl,_,rfl,_,_,rfl,rfl,_,_,rfl,rfl,?_⟩
  refine ⟨_,_,rfl,fun r hr=>?_⟩
  have e:(p + (b:Int) + 1 - (p - (a:Int))).toNat=a + b + 1:=by omega
  refine Or.inr ⟨_,_,_,rfl,upd_same,⟨by omega,by omega,by omega,by omega⟩,by rw [e];omega,fun l hl=>?_⟩
  rw [e]
  exact q l _ ((same_upd hr).trans (same_upd hl)) upd_same
def spCells:Sp:=fun vs H Q _=>∃ (fv wv rv:V) (F:List (List (Option Int))) (ru:Rule) (u d l r:Nat) (i j:Int),vs=[fv,wv,rv,.int i,.int j]∧Rect F∧IsD H fv (fieldD F)∧IsD H wv (winD u d l r)∧IsD H rv (ruleD ru) ∧
 (-(2 ^ 60) < i∧i < 2 ^ 60)∧(-(2 ^ 60) < j∧j < 2 ^ 60)∧(u≤100∧d≤100∧l≤100∧r≤100) ∧
 ∀ (p:Addr) (H':Hp),Same H H'→H' p=some (.tup ((wc F ru u d l r i j).map cellV))→Q (.ref p) H'
theorem df_window_cells (T:Txt K mg C):Df P w K mg base 3 "window_cells" ["field","window","rule","i","j"] spCells:=by
 refine T.d_window_cells.ok sc_window_cells (fun vs H Q E h=>?_) (fun f cdv A outer s H vs Q E hr h=>?_)
 ·obtain ⟨fv,wv,rv,F,ru,u,d,l,r,i,j,rfl,_⟩:=h
  rfl
 ·obtain ⟨fv,wv,rv,F,ru,u,d,l,r,i,j,rfl,R,hf,hw,hru,bi,bj,⟨bu,bd,bl,br⟩,q⟩:=h
  refine ⟨_,(@pss_cons _ _ _ _ _ (@ps_set _ _ 5 _ _ _ _ sc_window_cells.nd rfl (by first | exact Or.inl rfl | exact Or.inr rfl) (@pe_df _ _ _ _ _ _ _ _ _ _ (df_places_around T) (hr.mono (by decide)) (@pa_cons _ _ _ _ _ (pv 4) (@pa_cons _ _ _ _ _ (@pe_ix _ _ _ _ _ _ _ (ix_seqK (K:=K) rfl) (pv 1) pe_int (fun _ _=>rfl)) (@pa_cons _ _ _ _ _ (@pe_ix _ _ _ _ _ _ _ (ix_seqK (K:=K) rfl) (pv 1) pe_int (fun _ _=>rfl)) pa_nil star_sub) star_sub) (by rfl)) (by rfl) (by decide) (by rfl) (by rfl)) (by rfl) (by first | exact .inl rfl | exact .inr rfl))
   (@pss_cons _ _ _ _ _ (@ps_set _ _ 6 _ _ _ _ sc_window_cells.nd rfl (by first | exact Or.inl rfl | exact Or.inr rfl) (@pe_lst _ _ _ _ pa_nil) (by rfl) (by first | exact .inl rfl | exact .inr rfl))
   (@pss_cons _ _ _ _ _ (@ps_for _ _ _ _ _ _ _ _ PassesOwn.never rfl (pi_seqK (K:=K) rfl (@pe_df _ _ _ _ _ _ _ _ _ _ (df_places_around T) (hr.mono (by decide)) (@pa_cons _ _ _ _ _ (pv 3) (@pa_cons _ _ _ _ _ (@pe_ix _ _ _ _ _ _ _ (ix_seqK (K:=K) rfl) (pv 1) pe_int (fun _ _=>rfl)) (@pa_cons _ _ _ _ _ (@pe_ix _ _ _ _ _ _ _ (ix_seqK (K:=K) rfl) (pv 1) pe_int (fun _ _=>rfl)) pa_nil star_sub) star_sub) (by rfl)) (by rfl) (by decide) (by rfl) (by rfl))) (pg_name (i:=7) sc_window_cells.nd rfl (by first | exact Or.inl rfl | exact Or.inr rfl)) (@pss_one _ _ _ (@ps_for _ _ _ _ _ _ _ _ PassesOwn.never rfl (pi_seqK (K:=K) rfl (pv 5)) (pg_name (i:=8) sc_window_cells.nd rfl (by first | exact Or.inl rfl | exact Or.inr rfl)) (@pss_one _ _ _ (@ps_expr _ _ _ _ (@pe_bm _ _ _ _ _ _ _ _ _ _ _ _ PySem.F.plainAttrs_list PySem.F.slot_list_extend PySem.F.type_list_extend (MtR.or mt_extend mt_extendT) (pv 6) (@pa_cons _ _ _ _ _ (@pe_df _ _ _ _ _ _ _ _ _ _ (df_stands_at T) (hr.mono (by decide)) (@pa_cons _ _ _ _ _ (pv 0) (@pa_cons _ _ _ _ _ (pv 2) (@pa_cons _ _ _ _ _ (pv 7) (@pa_cons _ _ _ _ _ (pv 8) pa_nil (by rfl)) (by rfl)) (by rfl)) (by rfl)) (by rfl) (by decide) (by rfl) (by rfl)) pa_nil star_call) (by rfl) (by rfl) (by rfl) (by rfl) (by rfl)) (by rfl))) (by intro _;rfl))) (by intro _;rfl))
   (@pss_one _ _ _ (@ps_ret _ _ _ _ (@pe_callTy _ _ _ _ _ _ _ _ _ (call_tupleK (K:=K) rfl) (by rfl) T.n_tuple bt_tuple (@pa_cons _ _ _ _ _ (pv 6) pa_nil (by rfl)) (by decide) (by decide) (by rfl) (by rfl))))))),?_⟩
  obtain ⟨wa,rfl,hwa⟩:=isWin_inv hw
  refine ⟨_,rfl,_,rfl,Or.inr (Or.inl ⟨_,_,_,_,rfl,rfl,SqT.of hwa,rfl,_,rfl,Or.inr (Or.inl ⟨_,_,_,_,rfl,rfl,SqT.of hwa,rfl,?_⟩)⟩)⟩
  refine ⟨_,_,_,rfl,bj,bl,br,fun lc H1 s1 hlc=>?_⟩
  refine ⟨(by show 0≤sizeLine;decide),fun c hc=>?_⟩
  have s2:=same_upd (o:=.lst []) hc
  have S2:=s1.trans s2
  refine Or.inl ?_
  refine ⟨_,rfl,_,rfl,Or.inr (Or.inl ⟨_,_,_,_,rfl,rfl,SqT.of (S2 _ _ hwa),rfl,_,rfl,Or.inr (Or.inl ⟨_,_,_,_,rfl,rfl,SqT.of (S2 _ _ hwa),rfl,?_⟩)⟩)⟩
  refine ⟨_,_,_,rfl,bi,bu,bd,fun lr H3 s3 hlr=>?_⟩
  refine ⟨_,rfl,⟨_,SqL.of hlr⟩,?_⟩
  have hc3:H3 c=some (.lst []):=s3 _ _ upd_same
  have S3:=S2.trans s3
  have hlc3:=(s2.trans s3) _ _ hlc
  have nlc:lc≠c:=ne_of_none hlc hc
  have nlr:lr≠c:=by
   refine ne_of hlr hc3 fun z=>?_
   have:=congrArg (fun o=>match o with | HO.lst xs=>xs.length | _=>0) z
   simp only [upInts_len,List.length_nil] at this
   omega
  have oldne:∀ b o,H b=some o→b≠c:=fun b o e=>ne_of_none (s1 b o e) hc
  have keepH:∀ {H':Hp},KeepBut c H3 H'→Same H H':=fun k b o e=>k b o (S3 b o e) (oldne b o e)
  refine for_list (xs:=upInts (i - u) (u + d + 1)) (fun a σ H'=>∃ v7 v8,σ=[some fv,some (.ref wa),some rv,some (.int i),some (.int j),some (.ref lc),some (.ref c),v7,v8]∧KeepBut c H3 H' ∧
    H' c=some (.lst (((List.range a).flatMap fun a=>rowCells F ru l r (i - u + (a:Nat)) j).map cellV)))
   ⟨none,none,rfl,KeepBut.refl _ _,hc3⟩ (fun a σ H' _ ⟨_,_,_,k,_⟩=>SqL.of (k _ _ hlr nlr)) ?_ ?_
  ·rintro a y _ H4 ha ⟨v7,v8,rfl,k4,hc4⟩
   have ha':a < u + d + 1:=by
    have:=(List.getElem?_eq_some_iff.mp ha).1
    rw [upInts_len] at this;exact this
   have ey:y = .int (i - u + (a:Nat)):=by
    unfold upInts at ha
    rw [List.getElem?_map,List.getElem?_range ha'] at ha
    exact (Option.some.inj ha).symm
   subst ey
   refine Or.inl ?_
   refine ⟨_,rfl,_,rfl,⟨_,SqL.of (k4 _ _ hlc3 nlc)⟩,?_⟩
   refine for_list (xs:=upInts (j - l) (l + r + 1)) (fun b σ H'=>∃ v8,σ=[some fv,some (.ref wa),some rv,some (.int i),some (.int j),some (.ref lc),some (.ref c),some (.int (i - u + (a:Nat))),v8]∧KeepBut c H3 H' ∧
     H' c=some (.lst ((((List.range a).flatMap fun a=>rowCells F ru l r (i - u + (a:Nat)) j) ++ (List.range b).flatMap fun b=>stands F ru (i - u + (a:Nat)) (j - l + (b:Nat))).map cellV)))
    ⟨v8,rfl,k4,by rw [hc4];simp⟩ (fun b σ H' _ ⟨_,_,k,_⟩=>SqL.of (k _ _ hlc3 nlc)) ?_ ?_
   ·rintro b y _ H5 hb ⟨v8,rfl,k5,hc5⟩
    have hb':b < l + r + 1:=by
     have:=(List.getElem?_eq_some_iff.mp hb).1
     rw [upInts_len] at this;exact this
    have ey:y = .int (j - l + (b:Nat)):=by
     unfold upInts at hb
     rw [List.getElem?_map,List.getElem?_range hb'] at hb
     exact (Option.some.inj hb).symm
    subst ey
    have S5:=keepH k5
    refine ⟨_,rfl,Or.inl ⟨rfl,_,SqL.of hc5⟩,?_⟩
    refine ⟨_,rfl,_,rfl,_,rfl,_,rfl,_,_,F,ru,_,_,rfl,R,hf.keep S5.tups,hru.keep S5.tups,fun p hp=>?_⟩
    have s6:=same_upd (o:=.tup ((stands F ru (i - u + (a:Nat)) (j - l + (b:Nat))).map cellV)) hp
    have np:p≠c:=(ne_of_none hc5 hp).symm
    refine Or.inr ⟨_,_,_,_,rfl,rfl,s6 _ _ hc5,upd_same,?_,?_⟩
    ·have l1:=flatMap_len (fun a=>rowCells F ru l r (i - u + (a:Nat)) j) (m:=201) (fun k=>Nat.le_trans (rowCells_len _ _ _ _ _ _) (by omega)) a
     have l2:=flatMap_len (fun b=>stands F ru (i - u + (a:Nat)) (j - l + (b:Nat))) (m:=1) (fun k=>stands_len _ _ _ _) b
     have l3:=stands_len F ru (i - u + (a:Nat)) (j - l + (b:Nat))
     have l4:a * 201≤201 * 201:=Nat.mul_le_mul_right _ (by omega)
     rw [List.length_map,List.length_map,List.length_append]
     refine Nat.le_trans (m:=50000) ?_ (by decide)
     omega
    ·refine ⟨_,rfl,fun b' o e n=>?_,?_⟩
     ·rw [upd_ne n];exact s6 _ _ (k5 b' o e n)
     ·rw [upd_same,flatMap_succ,← List.map_append,List.append_assoc]
   ·rintro _ H5 ⟨v8,rfl,k5,hc5⟩
    refine ⟨_,_,rfl,k5,?_⟩
    rw [hc5,flatMap_succ,upInts_len]
    rfl
  ·rintro _ H4 ⟨v7,v8,rfl,k4,hc4⟩
   rw [upInts_len] at hc4
   refine ⟨_,rfl,_,_,rfl,Or.inl ⟨SqL.of hc4,fun p hp=>?_⟩⟩
   exact q p _ ((keepH k4).trans (same_upd hp)) upd_same
def spHoles:Sp:=fun vs H Q _=>∃ (p:Addr) (cs:List (Option Int)),vs=[.ref p]∧SeqV H p (cs.map cellV)∧cs.length ≤ 100000∧∀ (t:Addr) (H':Hp),Same H H'→H' t=some (.tup ((cs.filterMap id).map V.int))→Q (.ref t) H'
theorem df_without_holes (T:Txt K mg C):Df P w K mg base 1 "without_holes" ["cells"] spHoles:=by
 refine T.d_without_holes.ok sc_without_holes (fun vs H Q E h=>?_) (fun f cdv A outer s H vs Q E hr h=>?_)
 ·obtain ⟨p,cs,rfl,_⟩:=h
  rfl
 ·obtain ⟨p,cs,rfl,hp,hl,q⟩:=h
  refine ⟨_,(@pss_one _ _ _ (@ps_ret _ _ _ _ (@pe_callTy _ _ _ _ _ _ _ _ _ (call_tupleK (K:=K) rfl) (by rfl) T.n_tuple bt_tuple (@pa_cons _ _ _ _ _ (pe_compIf (M:=[]) (idx:=[]) rfl (pi_seqK (K:=K) rfl (pv 0)) (compOk (by kernel_rfl)) (by decide +kernel) (by first | exact Or.inl rfl | exact Or.inr rfl) (fun _ _ _ _ _=>pts_one (@pt_cmpR _ _ _ _ _ _ _ _ op_notN (pv 0) pe_non (nomark _))) (fun _ _ _ _ _=>(pv 0))) pa_nil star_comp) (by decide) (by decide) (by rfl) (by rfl)))),?_⟩
  refine comp_seqV (K:=K) (xs:=cs.map cellV) (fun k h=>⟨_,rfl,h⟩) hp (fun i ys H'=>H'=H∧ys=((cs.take i).filterMap id).map V.int) ⟨rfl,rfl⟩ (by rw [List.length_map];exact Nat.le_trans hl (by decide)) (fun i ys H' _ ⟨e,_⟩=>by rw [e]) ?_ ?_
  ·rintro i x ys _ hx ⟨rfl,rfl⟩
   obtain ⟨c,ec,rfl⟩:=cell_at hx
   rw [List.take_add_one,ec,List.filterMap_append,List.map_append]
   cases c with
   | none =>
    refine ⟨_,rfl,rfl,_,rfl,?_⟩
    refine iteF ?_
    exact ⟨rfl,by simp⟩
   | some n =>
    refine ⟨_,rfl,rfl,_,rfl,?_⟩
    refine iteT ?_
    exact ⟨_,rfl,rfl,rfl⟩
  ·rintro ys _ ⟨rfl,rfl⟩ l hl2
   rw [List.length_map,List.take_length]
   refine ⟨_,_,rfl,Or.inl ⟨SqL.of upd_same,fun t ht=>?_⟩⟩
   exact q t _ ((same_upd hl2).trans (same_upd ht)) upd_same
def spToldOf (K:PySem.W.Frag):Sp:=fun vs H Q _=>∃ (p:Addr) (sv:V) (cs:List (Option Int)) (a b:Int),vs=[.ref p,sv]∧SeqV H p (cs.map cellV)∧cs.length ≤ 100000∧Shr K H sv a b∧Share a b∧∀ H',Same H H'→Q (cellV (manieth (cs.filterMap id) a b)) H'
theorem df_told_of_cells (T:Txt K mg C):Df P w K mg base 3 "told_of_cells" ["cells","share"] (spToldOf K):=by
 refine T.d_told_of_cells.ok sc_told_of_cells (fun vs H Q E h=>?_) (fun f cdv A outer s H vs Q E hr h=>?_)
 ·obtain ⟨p,sv,cs,a,b,rfl,_⟩:=h
  rfl
 ·obtain ⟨p,sv,cs,a,b,rfl,hp,hl,hs,hS,q⟩:=h
  refine ⟨_,(@pss_one _ _ _ (@ps_ret _ _ _ _ (@pe_df _ _ _ _ _ _ _ _ _ _ (df_so_manieth T) (hr.mono (by decide)) (@pa_cons _ _ _ _ _ (@pe_df _ _ _ _ _ _ _ _ _ _ (df_without_holes T) (hr.mono (by decide)) (@pa_cons _ _ _ _ _ (pv 0) pa_nil (by rfl)) (by rfl) (by decide) (by rfl) (by rfl)) (@pa_cons _ _ _ _ _ (pv 1) pa_nil (by rfl)) star_call) (by rfl) (by decide) (by rfl) (by rfl)))),?_⟩
  refine ⟨_,rfl,p,cs,rfl,hp,hl,fun t H1 s1 ht=>?_⟩
  exact ⟨_,rfl,t,sv,_,a,b,rfl,.inl ht,hs.keep s1.tups,hS,fun H2 s2=>q H2 (s1.trans s2)⟩
def spFiltered (K:PySem.W.Frag):Sp:=fun vs H Q _=>∃ (fv wv rv sv:V) (F:List (List (Option Int))) (ru:Rule) (u d l r:Nat) (a b:Int),vs=[fv,wv,rv,sv]∧Rect F∧IsD H fv (fieldD F)∧IsD H wv (winD u d l r)∧IsD H rv (ruleD ru)∧Shr K H sv a b∧Share a b ∧
 (u≤100∧d≤100∧l≤100∧r≤100)∧∀ (v:V) (H':Hp),Same H H'→IsD H' v (fieldD (fil F ru u d l r a b))→Q v H'
theorem df_filtered (T:Txt K mg C):Df P w K mg base 4 "filtered" ["field","window","rule","share"] (spFiltered K):=by
 refine T.d_filtered.ok sc_filtered (fun vs H Q E h=>?_) (fun f cdv A outer s H vs Q E hr h=>?_)
 ·obtain ⟨fv,wv,rv,sv,F,ru,u,d,l,r,a,b,rfl,_⟩:=h
  rfl
 ·obtain ⟨fv,wv,rv,sv,F,ru,u,d,l,r,a,b,rfl,R,hf,hw,hru,hs,hS,bb,q⟩:=h
  obtain ⟨fa,xs,rfl,hfa,hxs⟩:=isField_inv hf
  have lxs:xs.length=F.length:=by rw [hxs.length,List.length_map]
  have hW:=R.ws
  have hH:=R.hs
  refine ⟨_,(@pss_cons _ _ _ _ _ (@ps_set _ _ 4 _ _ _ _ sc_filtered.nd rfl (by first | exact Or.inl rfl | exact Or.inr rfl) (@pe_lst _ _ _ _ pa_nil) (by rfl) (by first | exact .inl rfl | exact .inr rfl))
   (@pss_cons _ _ _ _ _ (@ps_for _ _ _ _ _ _ _ _ PassesOwn.never rfl (pi_range1 (by rfl) T.n_range (@pa_cons _ _ _ _ _ (@pe_callB _ _ _ _ _ _ _ _ _ (call_lenK (K:=K) rfl) (by rfl) T.n_len bt_len (@pa_cons _ _ _ _ _ (pv 0) pa_nil (by rfl)) (by decide) (by decide) (by rfl) (by rfl)) pa_nil star_call)) (pg_name (i:=5) sc_filtered.nd rfl (by first | exact Or.inl rfl | exact Or.inr rfl)) (@pss_cons _ _ _ _ _ (@ps_set _ _ 6 _ _ _ _ sc_filtered.nd rfl (by first | exact Or.inl rfl | exact Or.inr rfl) (@pe_lst _ _ _ _ pa_nil) (by rfl) (by first | exact .inl rfl | exact .inr rfl))
   (@pss_cons _ _ _ _ _ (@ps_for _ _ _ _ _ _ _ _ PassesOwn.never rfl (pi_range1 (by rfl) T.n_range (@pa_cons _ _ _ _ _ (@pe_callB _ _ _ _ _ _ _ _ _ (call_lenK (K:=K) rfl) (by rfl) T.n_len bt_len (@pa_cons _ _ _ _ _ (@pe_ix _ _ _ _ _ _ _ (ix_seqK (K:=K) rfl) (pv 0) (pv 5) (fun _ _=>rfl)) pa_nil star_sub) (by decide) (by decide) (by rfl) (by rfl)) pa_nil star_call)) (pg_name (i:=7) sc_filtered.nd rfl (by first | exact Or.inl rfl | exact Or.inr rfl)) (@pss_one _ _ _ (@ps_expr _ _ _ _ (@pe_bm _ _ _ _ _ _ _ _ _ _ _ _ PySem.F.plainAttrs_list PySem.F.slot_list_append PySem.F.type_list_append mt_append (pv 6) (@pa_cons _ _ _ _ _ (@pe_df _ _ _ _ _ _ _ _ _ _ (df_told_of_cells T) (hr.mono (by decide)) (@pa_cons _ _ _ _ _ (@pe_df _ _ _ _ _ _ _ _ _ _ (df_window_cells T) (hr.mono (by decide)) (@pa_cons _ _ _ _ _ (pv 0) (@pa_cons _ _ _ _ _ (pv 1) (@pa_cons _ _ _ _ _ (pv 2) (@pa_cons _ _ _ _ _ (pv 5) (@pa_cons _ _ _ _ _ (pv 7) pa_nil (by rfl)) (by rfl)) (by rfl)) (by rfl)) (by rfl)) (by rfl) (by decide) (by rfl) (by rfl)) (@pa_cons _ _ _ _ _ (pv 3) pa_nil (by rfl)) star_call) (by rfl) (by decide) (by rfl) (by rfl)) pa_nil star_call) (by rfl) (by rfl) (by rfl) (by rfl) (by rfl)) (by rfl))) (by intro _;rfl))
   (@pss_one _ _ _ (@ps_expr _ _ _ _ (@pe_bm _ _ _ _ _ _ _ _ _ _ _ _ PySem.F.plainAttrs_list PySem.F.slot_list_append PySem.F.type_list_append mt_append (pv 4) (@pa_cons _ _ _ _ _ (@pe_callTy _ _ _ _ _ _ _ _ _ (call_tupleK (K:=K) rfl) (by rfl) T.n_tuple bt_tuple (@pa_cons _ _ _ _ _ (pv 6) pa_nil (by rfl)) (by decide) (by decide) (by rfl) (by rfl)) pa_nil star_call) (by rfl) (by rfl) (by rfl) (by rfl) (by rfl)) (by rfl))))) (by intro _;rfl))
   (@pss_one _ _ _ (@ps_ret _ _ _ _ (@pe_callTy _ _ _ _ _ _ _ _ _ (call_tupleK (K:=K) rfl) (by rfl) T.n_tuple bt_tuple (@pa_cons _ _ _ _ _ (pv 4) pa_nil (by rfl)) (by decide) (by decide) (by rfl) (by rfl)))))),?_⟩
  refine ⟨(by show 0≤sizeLine;decide),fun c hc=>?_⟩
  have s1:=same_upd (o:=.lst []) hc
  have oldne:∀ b o,H b=some o→b≠c:=fun b o e=>ne_of_none e hc
  have keepH:∀ {H':Hp},KeepBut c (upd H c (.lst [])) H'→Same H H':=fun k b o e=>k b o (s1 b o e) (oldne b o e)
  refine ⟨_,rfl,_,_,rfl,Or.inr ⟨_,SqT.of (s1 _ _ hfa),rfl⟩,_,rfl,by omega,by omega,?_⟩
  have hc1:upd H c (.lst []) c=some (.lst []):=upd_same
  generalize upd H c (.lst [])=H1 at s1 hc1 keepH ⊢
  refine for_range (n:=((xs.length:Nat):Int).toNat) (fun i σ H'=>∃ (v5 v6 v7:Option V) (ys:List V),σ=[some (.ref fa),some wv,some rv,some sv,some (.ref c),v5,v6,v7]∧KeepBut c H1 H'∧H' c=some (.lst ys)∧IsDs H' ys (((fil F ru u d l r a b).take i).map rowD)) ⟨none,none,none,[],rfl,KeepBut.refl _ _,hc1,.nil⟩ ?_ ?_
  ·rintro i _ H2 hi ⟨v5,v6,v7,ys,rfl,k2,hc2,hys⟩
   have hi':i < F.length:=by
    have:i < ((xs.length:Nat):Int).toNat:=hi
    omega
   have S2:=keepH k2
   have e0:(0:Int) + (i:Int)=(i:Int):=by omega
   rw [e0]
   obtain ⟨ra,era,hra⟩:=isRows_get hxs hi'
   have eW:F[i].length=(F.headD []).length:=R.row _ (List.getElem_mem _)
   refine ⟨(by show 0≤sizeLine;decide),fun e he=>?_⟩
   have s3:=same_upd (o:=.lst []) he
   have ne:e≠c:=(ne_of_none hc2 he).symm
   refine ⟨_,rfl,_,rfl,Or.inr (Or.inl ⟨_,_,_,_,rfl,rfl,SqT.of (s3 _ _ (S2 _ _ hfa)),atI_nat era,_,_,rfl,Or.inr ⟨_,SqT.of (s3 _ _ (S2 _ _ hra)),rfl⟩,_,rfl,by rw [List.length_map];omega,by rw [List.length_map];omega,?_⟩)⟩
   have he3:upd H2 e (.lst []) e=some (.lst []):=upd_same
   have hc3:=s3 _ _ hc2
   have hys3:=hys.keep s3.tups
   have S3:=S2.trans s3
   have K3:KeepBut c H1 (upd H2 e (.lst [])):=fun b' o e' n=>s3 _ _ (k2 b' o e' n)
   have old3:∀ b' o,H2 b'=some o→b'≠e:=fun b' o e'=>ne_of_none e' he
   have el:(F[i].map cellV).length=wideF F:=by rw [List.length_map];exact eW
   generalize upd H2 e (.lst [])=H3 at s3 he3 hc3 hys3 S3 K3 ⊢
   refine for_range (n:=((((F[i].map cellV).length:Nat):Int).toNat)) (fun j σ H'=>∃ (v7:Option V),σ=[some (.ref fa),some wv,some rv,some sv,some (.ref c),some (.int i),some (.ref e),v7]∧KeepBut e H3 H'∧H' e=some (.lst (((List.range j).map fun j:Nat=>filAt F ru u d l r a b (i:Int) (j:Int)).map cellV))) ⟨v7,rfl,KeepBut.refl _ _,he3⟩ ?_ ?_
   ·rintro j _ H4 hj ⟨v7,rfl,k4,he4⟩
    have hj':j < wideF F:=by
     have:j < ((((F[i].map cellV).length:Nat):Int).toNat):=hj
     omega
    have e0:(0:Int) + (j:Int)=(j:Int):=by omega
    rw [e0]
    have S4:Same H H4:=fun b' o e'=>k4 b' o (S3 b' o e') (old3 b' o (S2 b' o e'))
    have hjw:j < (F.headD []).length:=hj'
    refine ⟨_,rfl,Or.inl ⟨rfl,_,SqL.of he4⟩,?_⟩
    refine ⟨_,rfl,_,rfl,_,rfl,_,rfl,_,rfl,_,_,_,F,ru,u,d,l,r,_,_,rfl,R,hf.keep S4.tups,hw.keep S4.tups,hru.keep S4.tups,⟨by omega,by omega⟩,⟨by omega,by omega⟩,bb,fun p H5 s5 hp=>?_⟩
    have wl:=wc_len F ru u d l r (i:Int) (j:Int)
    have wl2:(u + d + 1) * (l + r + 1)≤201 * 201:=Nat.mul_le_mul (by omega) (by omega)
    have S5:=S4.trans s5
    have he5:=s5 _ _ he4
    refine ⟨_,rfl,p,sv,wc F ru u d l r i j,a,b,rfl,.inl hp,by omega,hs.keep S5.tups,hS,fun H7 s7=>?_⟩
    have S6:=S5
    have he7:=s7 _ _ he5
    refine ⟨_,_,_,rfl,rfl,he7,?_,?_⟩
    ·rw [List.length_map,List.length_map,List.length_range]
     exact Nat.lt_of_lt_of_le (show j < 1001 by omega) (by decide)
    ·refine ⟨_,rfl,fun b' o e' n=>?_,?_⟩
     ·rw [upd_ne n];exact s7 _ _ (s5 _ _ (k4 b' o e' n))
     ·rw [upd_same,List.range_succ,List.map_append,List.map_append]
      rfl
   ·rintro _ H4 ⟨v7,rfl,k4,he4⟩
    rw [show ((((F[i].map cellV).length:Nat):Int).toNat)=wideF F by omega] at he4
    have hc4:=k4 _ _ hc3 ne.symm
    refine ⟨_,rfl,Or.inl ⟨rfl,_,SqL.of hc4⟩,_,rfl,_,_,rfl,Or.inl ⟨SqL.of he4,fun t ht=>?_⟩⟩
    have st:=same_upd (o:=.tup (((List.range (wideF F)).map fun j:Nat=>filAt F ru u d l r a b (i:Int) (j:Int)).map cellV)) ht
    have hct:=st _ _ hc4
    have ly:ys.length=i:=by rw [hys.length,List.length_map,List.length_take,fil_len];omega
    refine ⟨_,_,_,rfl,rfl,hct,(by rw [ly];exact Nat.lt_of_lt_of_le (show i < 1001 by omega) (by decide)),?_⟩
    refine ⟨_,_,_,ys ++ [.ref t],rfl,fun b' o e' n=>?_,upd_same,?_⟩
    ·rw [upd_ne n]
     exact st _ _ (k4 b' o (K3 b' o e' n) (old3 b' o (k2 b' o e' n)))
    ·rw [List.take_add_one,fil_row hi',List.map_append]
     have tt:t≠c:=(ne_of_none hc4 ht).symm
     have u1:upd (upd H4 t (.tup (((List.range (wideF F)).map fun j:Nat=>filAt F ru u d l r a b (i:Int) (j:Int)).map cellV))) c (.lst (ys ++ [.ref t])) t=some (.tup (((List.range (wideF F)).map fun j:Nat=>filAt F ru u d l r a b (i:Int) (j:Int)).map cellV)):=by rw [upd_ne tt];exact upd_same
     have kt:∀ b' zs,H3 b'=some (.tup zs)→upd (upd H4 t (.tup (((List.range (wideF F)).map fun j:Nat=>filAt F ru u d l r a b (i:Int) (j:Int)).map cellV))) c (.lst (ys ++ [.ref t])) b'=some (.tup zs):=fun b' zs e'=>by
      have n1:b'≠c:=ne_of e' hc3 fun z=>by cases z
      have n2:b'≠e:=ne_of e' he3 fun z=>by cases z
      rw [upd_ne n1]
      exact st _ _ (k4 _ _ e' n2)
     exact (hys3.keep kt).append (.cons (.tup u1 (isCells _)) .nil)
  ·rintro _ H2 ⟨v5,v6,v7,ys,rfl,k2,hc2,hys⟩
   refine ⟨_,rfl,_,_,rfl,Or.inl ⟨SqL.of hc2,fun t ht=>?_⟩⟩
   have st:=same_upd (o:=.tup ys) ht
   refine q (.ref t) _ ((keepH k2).trans st) (.tup upd_same ?_)
   have:(fil F ru u d l r a b).take ((xs.length:Nat):Int).toNat=fil F ru u d l r a b:=List.take_of_length_le (by rw [fil_len];omega)
   rw [this] at hys
   exact hys.keep st.tups
theorem cells_of (ns:List Int):ns.map V.int=(ns.map some).map cellV:=by rw [List.map_map];rfl
theorem eq_cellsNil {H:Hp}{p q:Addr}{cs:List (Option Int)}{Q:VK}(hp:H p=some (.lst (cs.map cellV)))(hq:H q=some (.lst []))(h:Q (.bl (decide (cs=[]))) H):rEqL (.ref p) (.ref q) H Q:=by
 refine ⟨p,q,_,_,cs.map cellD,[],rfl,rfl,hp,hq,isCells cs,.nil,⟨canLay_cells cs,rfl,?_⟩,?_⟩
 ·show PyData.depthAll (cs.map cellD) + 1≤20
  rw [depth_cells];decide
 ·have:=eqv_cells cs []
  rw [List.map_nil] at this
  rw [this];exact h
def ruleIs (ru:Rule)(x:Str):Bool:=match ru with
 | .there=>decide (("there" : Str)=x)
 | .near=>decide (("near" : Str)=x)
 | .turned=>decide (("turned" : Str)=x)
 | .round=>decide (("round" : Str)=x)
 | .told _=>false
theorem eq_rule {H:Hp}{rv:V}{ru:Rule}{x:Str}{Q:VK}(h:IsD H rv (ruleD ru))(hx:(PyData.str x).canLay0=true)(q:Q (.bl (ruleIs ru x)) H):rEq rv (.str x) H Q ∨ rEqD 0 rv (.str x) H Q:=by
 have st:∀ y:Str,rv = .str y→Q (.bl (decide (y=x))) H→rEq rv (.str x) H Q ∨ rEqD 0 rv (.str x) H Q:=fun y e q'=>by
  subst e
  refine Or.inl ⟨rfl,?_⟩
  have:decide (V.str y=V.str x)=decide (y=x):=by
   by_cases z:y=x
   ·subst z;simp
   ·rw [decide_eq_false (fun e=>z (V.str.inj e)),decide_eq_false z]
  rw [this];exact q'
 cases ru with
 | there=>exact st _ (rule_str h) q
 | near=>exact st _ (rule_str h) q
 | turned=>exact st _ (rule_str h) q
 | round=>exact st _ (rule_str h) q
 | told c =>
  refine Or.inr ⟨_,_,h,.str _,⟨?_,hx,?_⟩,q⟩
  ·show PyData.canLayAll0 [.str "told",cellD c]=true
   rw [PyData.canLayAll0,PyData.canLayAll0,canLay_cell]
   decide +kernel
  ·show PyData.depthAll [.str "told",cellD c] + 1≤20
   rw [PyData.depthAll,PyData.depthAll,depth_cell]
   decide
def spRowWith:Sp:=fun vs H Q _=>∃ (ra:Addr) (xs:List (Option Int)) (j:Nat) (c:Option Int),vs=[.ref ra,.int (j:Int),cellV c]∧H ra=some (.tup (xs.map cellV))∧j < xs.length ∧ xs.length ≤ 1000∧∀ (p:Addr) (H':Hp),Same H H'→H' p=some (.tup ((xs.take j ++ [c] ++ xs.drop (j + 1)).map cellV))→Q (.ref p) H'
theorem df_row_with (T:Txt K mg C):Df P w K mg base 1 "row_with" ["row","j","cell"] spRowWith:=by
 refine T.d_row_with.ok sc_row_with (fun vs H Q E h=>?_) (fun f cdv A outer s H vs Q E hr h=>?_)
 ·obtain ⟨ra,xs,j,c,rfl,_⟩:=h
  rfl
 ·obtain ⟨ra,xs,j,c,rfl,hra,hj,hl,q⟩:=h
  refine ⟨_,(@pss_one _ _ _ (@ps_ret _ _ _ _ (@pe_op _ _ _ _ _ _ _ _ op_catTA (@pe_op _ _ _ _ _ _ _ _ op_catTA (pe_slice (sl_X (K:=K) rfl) (pv 0) po_none (po_some (pv 1))) (@pe_tup _ _ _ _ _ (@pa_cons _ _ _ _ _ (pv 2) pa_nil (by rfl)))) (pe_slice (sl_X (K:=K) rfl) (pv 0) (po_some (@pe_op _ _ _ _ _ _ _ _ op_add (pv 1) pe_int)) po_none)))),?_⟩
  refine ⟨_,rfl,_,rfl,_,rfl,Or.inr ⟨_,_,rfl,hra,fun p1 H1 s1 hp1=>?_⟩⟩
  rw [cut_take] at hp1
  refine ⟨_,rfl,(by show 1≤sizeLine;decide),fun p2 hp2=>?_⟩
  have s2:=same_upd (o:=.tup [cellV c]) hp2
  refine ⟨_,_,_,_,rfl,rfl,s2 _ _ hp1,upd_same,(by rw [List.length_take,List.length_map];exact Nat.le_trans (show _≤2000 by simp;omega) (by decide)),fun p3 H3 s3 hp3=>?_⟩
  have S3:=(s1.trans s2).trans s3
  refine ⟨_,rfl,_,rfl,_,_,rfl,rfl,_,rfl,Or.inr ⟨_,_,rfl,S3 _ _ hra,fun p4 H4 s4 hp4=>?_⟩⟩
  rw [cut_drop] at hp4
  refine ⟨_,_,_,_,rfl,rfl,s4 _ _ hp3,hp4,(by rw [List.length_append,List.length_take,List.length_drop,List.length_map];exact Nat.le_trans (show _≤5000 by simp;omega) (by decide)),fun p5 H5 s5 hp5=>?_⟩
  refine q p5 H5 ((S3.trans s4).trans s5) ?_
  rw [hp5,List.map_append,List.map_append,List.map_take,List.map_drop]
  rfl
def spRefuse:Sp:=fun vs H Q _=>∃ (fv:V) (F:List (List (Option Int))) (i j:Int),vs=[fv,.int i,.int j]∧Rect F∧IsD H fv (fieldD F)∧inF F i j=true∧Q .non H
theorem df_refuse_outside (T:Txt K mg C):Df P w K mg base 2 "refuse_outside" ["field","i","j"] spRefuse:=by
 refine T.d_refuse_outside.ok sc_refuse_outside (fun vs H Q E h=>?_) (fun f cdv A outer s H vs Q E hr h=>?_)
 ·obtain ⟨fv,F,i,j,rfl,_⟩:=h
  rfl
 ·obtain ⟨fv,F,i,j,rfl,R,hf,hin,q⟩:=h
  refine ⟨_,(@pss_one _ _ _ (@ps_if _ _ _ _ _ _ _ _ (@pt_not _ _ _ _ (@pt_val _ _ _ (@pe_df _ _ _ _ _ _ _ _ _ _ (df_is_inside T) (hr.mono (by decide)) (@pa_cons _ _ _ _ _ (pv 0) (@pa_cons _ _ _ _ _ (pv 1) (@pa_cons _ _ _ _ _ (pv 2) pa_nil (by rfl)) (by rfl)) (by rfl)) (by rfl) (by decide) (by rfl) (by rfl)) (by intro _;rfl))) (@pss_one _ _ _ ps_never) pss_nil)),?_⟩
  refine ⟨_,rfl,_,rfl,_,rfl,_,F,_,_,rfl,R,hf,?_⟩
  rw [hin]
  refine ⟨_,rfl,iteF ?_⟩
  exact q
def spFieldWith:Sp:=fun vs H Q _=>∃ (fv:V) (F:List (List (Option Int))) (i j:Nat) (c:Option Int),vs=[fv,.int (i:Int),.int (j:Int),cellV c]∧Rect F∧IsD H fv (fieldD F)∧i < F.length ∧ j < (F.headD []).length ∧ ∀ (v:V) (H':Hp),Same H H'→IsD H' v (fieldD (putC F i j c))→Q v H'
theorem df_field_with (T:Txt K mg C):Df P w K mg base 3 "field_with" ["field","i","j","cell"] spFieldWith:=by
 refine T.d_field_with.ok sc_field_with (fun vs H Q E h=>?_) (fun f cdv A outer s H vs Q E hr h=>?_)
 ·obtain ⟨fv,F,i,j,c,rfl,_⟩:=h
  rfl
 ·obtain ⟨fv,F,i,j,c,rfl,R,hf,hi,hj,q⟩:=h
  refine ⟨_,(@pss_cons _ _ _ _ _ (@ps_expr _ _ _ _ (@pe_df _ _ _ _ _ _ _ _ _ _ (df_refuse_outside T) (hr.mono (by decide)) (@pa_cons _ _ _ _ _ (pv 0) (@pa_cons _ _ _ _ _ (pv 1) (@pa_cons _ _ _ _ _ (pv 2) pa_nil (by rfl)) (by rfl)) (by rfl)) (by rfl) (by decide) (by rfl) (by rfl)) (by rfl))
   (@pss_one _ _ _ (@ps_ret _ _ _ _ (@pe_op _ _ _ _ _ _ _ _ op_catTA (@pe_op _ _ _ _ _ _ _ _ op_catTA (pe_slice (sl_X (K:=K) rfl) (pv 0) po_none (po_some (pv 1))) (@pe_tup _ _ _ _ _ (@pa_cons _ _ _ _ _ (@pe_df _ _ _ _ _ _ _ _ _ _ (df_row_with T) (hr.mono (by decide)) (@pa_cons _ _ _ _ _ (@pe_ix _ _ _ _ _ _ _ (ix_seqK (K:=K) rfl) (pv 0) (pv 1) (fun _ _=>rfl)) (@pa_cons _ _ _ _ _ (pv 2) (@pa_cons _ _ _ _ _ (pv 3) pa_nil (by rfl)) (by rfl)) star_sub) (by rfl) (by decide) (by rfl) (by rfl)) pa_nil star_call))) (pe_slice (sl_X (K:=K) rfl) (pv 0) (po_some (@pe_op _ _ _ _ _ _ _ _ op_add (pv 1) pe_int)) po_none))))),?_⟩
  have hin:inF F (i:Int) (j:Int)=true:=by
   unfold inF
   rw [decide_eq_true (show (0:Int)≤(i:Int) by omega),decide_eq_true (show (i:Int) < F.length by omega),decide_eq_true (show (0:Int)≤(j:Int) by omega),decide_eq_true (show (j:Int) < (F.headD []).length by omega)]
   rfl
  refine ⟨_,rfl,_,rfl,_,rfl,_,F,_,_,rfl,R,hf,hin,?_⟩
  obtain ⟨fa,xs,rfl,hfa,hxs⟩:=isField_inv hf
  have lxs:xs.length=F.length:=by rw [hxs.length,List.length_map]
  have hs:=R.hs
  have ws:=R.ws
  obtain ⟨ra,era,hra⟩:=isRows_get hxs hi
  have lr:F[i].length=(F.headD []).length:=R.row _ (List.getElem_mem _)
  refine ⟨_,rfl,_,rfl,_,rfl,Or.inr ⟨_,_,rfl,hfa,fun p1 H1 s1 hp1=>?_⟩⟩
  rw [cut_take] at hp1
  refine ⟨_,rfl,_,rfl,Or.inr (Or.inl ⟨_,_,_,_,rfl,rfl,SqT.of (s1 _ _ hfa),atI_nat era,_,rfl,_,rfl,?_⟩)⟩
  refine ⟨ra,F[i],j,c,rfl,s1 _ _ hra,by omega,by omega,fun p2 H2 s2 hp2=>?_⟩
  refine ⟨(by show 1≤sizeLine;decide),fun p3 hp3=>?_⟩
  have s3:=same_upd (o:=.tup [.ref p2]) hp3
  have S3:=(s1.trans s2).trans s3
  refine ⟨_,_,_,_,rfl,rfl,(s2.trans s3) _ _ hp1,upd_same,(by rw [List.length_take];exact Nat.le_trans (show _≤2000 by simp;omega) (by decide)),fun p4 H4 s4 hp4=>?_⟩
  have S4:=S3.trans s4
  refine ⟨_,rfl,_,rfl,_,_,rfl,rfl,_,rfl,Or.inr ⟨_,_,rfl,S4 _ _ hfa,fun p5 H5 s5 hp5=>?_⟩⟩
  rw [cut_drop] at hp5
  refine ⟨_,_,_,_,rfl,rfl,s5 _ _ hp4,hp5,(by rw [List.length_append,List.length_take,List.length_drop];exact Nat.le_trans (show _≤5000 by simp;omega) (by decide)),fun p6 H6 s6 hp6=>?_⟩
  have S6:=(S4.trans s5).trans s6
  refine q (.ref p6) H6 S6 (.tup hp6 ?_)
  unfold putC
  rw [List.getElem?_eq_getElem hi]
  show IsDs H6 _ ((F.take i ++ [F[i].take j ++ [c] ++ F[i].drop (j + 1)] ++ F.drop (i + 1)).map rowD)
  rw [List.map_append,List.map_append,List.map_take,List.map_drop]
  have h6:=hxs.keep S6.tups
  exact ((isDs_take h6 i).append (.cons (.tup ((s3.trans (s4.trans (s5.trans s6))) _ _ hp2) (isCells _)) .nil)).append (isDs_drop h6 (i + 1))
theorem field_cell {H:Hp}{v:V}{F:List (List (Option Int))}{i j:Nat}(R:Rect F)(hf:IsD H v (fieldD F))(hi:i < F.length)(hj:j < (F.headD []).length) :
  ∃ (fa:Addr) (xs:List V) (ra:Addr) (ys:List V),v = .ref fa∧H fa=some (.tup xs)∧atI xs (i:Int)=some (.ref ra)∧H ra=some (.tup ys)∧atI ys (j:Int)=some (cellV (cellAt F (i:Int) (j:Int))):=by
 obtain ⟨fa,xs,rfl,hfa,hxs⟩:=isField_inv hf
 obtain ⟨ra,era,hra⟩:=isRows_get hxs hi
 have lr:F[i].length=(F.headD []).length:=R.row _ (List.getElem_mem _)
 have hj':j < F[i].length:=by omega
 refine ⟨fa,xs,ra,_,rfl,hfa,atI_nat era,hra,atI_nat ?_⟩
 rw [List.getElem?_map,List.getElem?_eq_getElem hj']
 unfold cellAt
 rw [Int.toNat_natCast,Int.toNat_natCast,List.getElem?_eq_getElem hi]
 show some (cellV F[i][j])=some (cellV (F[i][j]?).join)
 rw [List.getElem?_eq_getElem hj']
 rfl
def Wide (i:Int):Prop:=-10000000000 < i∧i < 10000000000
def CellW (c:Option Int):Prop:=∀ i,c=some i→Wide i
theorem wordL_neg {i:Int}(h:i < 0):wordL (some i)=45 :: dg i.natAbs:=by
 unfold wordL
 dsimp only
 rw [if_pos h]
 rfl
theorem wordL_nn {i:Int}(h:¬ i < 0):wordL (some i)=dg i.natAbs:=by
 unfold wordL
 dsimp only
 rw [if_neg h]
 rfl
theorem word_cps (c:Option Int):(wordOf c).cps.toList=wordL c:=by show (wordL c).toArray.toList=_;simp
theorem word_len {c:Option Int}(h:CellW c):(wordOf c).length ≤ 11:=by
 show (wordL c).toArray.size ≤ 11
 rw [List.size_toArray]
 exact wordL_len c fun i e=>h i e
theorem starts_minus (x:Str):(decide (0 + (("-" : Str)).length ≤ x.length) && Builtin.Str.subAt x ("-" : Str) 0)=decide (x.cps.toList.head? = some 45):=by
 rw [PySem.StrLaws.subAt_eq]
 have e1:(("-" : Str)).length=1:=by decide +kernel
 have e2:(("-" : Str)).cps.toList=[45]:=by decide +kernel
 rw [e1,e2,List.drop_zero]
 have e3:x.length=x.cps.toList.length:=by simp [Str.length]
 rw [e3]
 cases h:x.cps.toList with
 | nil=>simp
 | cons c r=>by_cases hc:c=45 <;> simp [hc]
def figOf (i:Int):Str:=⟨(dg i.natAbs).toArray⟩
theorem fig_cps (i:Int):(figOf i).cps.toList=dg i.natAbs:=by show (dg i.natAbs).toArray.toList=_;simp
theorem str_ext {a b:Str}(h:a.cps.toList=b.cps.toList):a=b:=by
 cases a
 cases b
 exact congrArg Str.mk (Array.toList_inj.mp h)
theorem fig_zero (i:Int):figOf i=("0" : Str)↔i=0:=by
 have e3:(("0" : Str)).cps.toList=[48]:=by decide +kernel
 constructor
 ·intro h
  have e:=congrArg (fun x:Str=>x.cps.toList) h
  simp only [fig_cps,e3] at e
  have:=dg_head i.natAbs (by rw [e];rfl)
  omega
 ·rintro rfl
  refine str_ext ?_
  rw [fig_cps,e3]
  decide +kernel
theorem in_figures {c:Nat} (h:48≤c∧c≤57):(!(Builtin.Str.occurrences ("0123456789" : Str) ⟨#[c]⟩ 0 (("0123456789" : Str)).length 1).isEmpty)=true:=by
 obtain ⟨h1,h2⟩:=h
 have:c=48 ∨ c=49 ∨ c=50 ∨ c=51 ∨ c=52 ∨ c=53 ∨ c=54 ∨ c=55 ∨ c=56 ∨ c=57:=by omega
 rcases this with rfl | rfl | rfl | rfl | rfl | rfl | rfl | rfl | rfl | rfl <;> decide +kernel
def spIsNumber:Sp:=fun vs H Q _=>∃ (i:Int),vs=[.str (wordOf (some i))]∧Wide i∧∀ H',Same H H'→Q (.bl true) H'
theorem df_is_number (T:Txt K mg C):Df P w K mg base 1 "is_number" ["word"] spIsNumber:=by
 refine T.d_is_number.ok sc_is_number (fun vs H Q E h=>?_) (fun f cdv A outer s H vs Q E hr h=>?_)
 ·obtain ⟨i,rfl,_⟩:=h
  rfl
 ·obtain ⟨i,rfl,hi,q⟩:=h
  refine ⟨_,(@pss_cons _ _ _ _ _ (@ps_set _ _ 1 _ _ _ _ sc_is_number.nd rfl (by first | exact Or.inl rfl | exact Or.inr rfl) (pe_ifExp (@pt_val _ _ _ (pe_bmK (K:=K) rfl PySem.F.plainAttrs_str PySem.F.slot_str_startswith PySem.F.type_str_startswith mt_startswith (pv 0) (@pa_cons _ _ _ _ _ pe_str pa_nil (by rfl))) (by intro _;rfl)) (pe_slice sl_str1 (pv 0) (po_some pe_int) po_none) (pv 0)) (by rfl) (by first | exact .inl rfl | exact .inr rfl))
   (@pss_cons _ _ _ _ _ (@ps_if _ _ _ _ _ _ _ _ (@pt_cmpR _ _ _ _ _ _ _ _ (op_eqA hr.units) (pv 1) pe_str (nomark _)) (@pss_one _ _ _ (@ps_ret _ _ _ _ (@pe_cmpR _ _ _ _ _ _ _ _ (op_eqA hr.units) (pv 0) pe_str (nomark _)))) pss_nil)
   (@pss_cons _ _ _ _ _ (@ps_if _ _ _ _ _ _ _ _ (pw_or (@pt_cmpR _ _ _ _ _ _ _ _ (op_eqA hr.units) (pv 1) pe_str (nomark _)) (pw_or1 (@pt_cmpR _ _ _ _ _ _ _ _ (op_eqA hr.units) (@pe_ix _ _ _ _ _ _ _ (ix_seqK (K:=K) rfl) (pv 1) pe_int (fun _ _=>rfl)) pe_str (nomark _)))).pt (@pss_one _ _ _ (@ps_ret _ _ _ _ pe_bl)) pss_nil)
   (@pss_one _ _ _ (@ps_ret _ _ _ _ (@pe_callB _ _ _ _ _ _ _ _ _ (call_allK (K:=K) rfl rfl) (by rfl) T.n_all bt_all (@pa_cons _ _ _ _ _ (pe_compIf (M:=[]) (idx:=[]) rfl (pi_str (pv 1)) (compOk (by kernel_rfl)) (by decide +kernel) (by first | exact Or.inl rfl | exact Or.inr rfl) (fun _ _ _ _ _=>pts_nil) (fun _ _ _ _ _=>(@pe_cmpR _ _ _ _ _ _ _ _ op_in_str (pv 0) (pe_globE (by rfl) T.g_FIGURES) (by rfl)))) pa_nil star_comp) (by decide) (by decide) (by rfl) (by rfl))))))),?_⟩
  have wl:=word_len (c:=some i) (fun j e=>by cases e;exact hi)
  have wc:=word_cps (some i)
  refine tSeq_cut (fun σ' H'=>σ'=[some (.str (wordOf (some i))),some (.str (figOf i))]∧H'=H) ?_ (fun rest=>?_)
  ·rintro _ H ⟨rfl,rfl⟩
   refine ⟨_,rfl,Or.inl ⟨rfl,_,rfl,?_⟩⟩
   refine ite2 (fun z=>?_) (fun z=>?_)
   ·have z0:=(fig_zero i).mp (V.str.inj (of_decide_eq_true z))
    refine ⟨_,rfl,Or.inl ⟨rfl,?_⟩⟩
    have e:wordOf (some i)=("0" : Str):=by subst z0;decide +kernel
    rw [eqS e]
    exact q _ (Same.refl _)
   ·have z0:¬ i=0:=fun e=>z (decide_eq_true (by rw [(fig_zero i).mpr e]))
    have n0:=dg_ne i.natAbs
    have a0:=dg_all i.natAbs
    obtain ⟨c,r,hd⟩:∃ c r,dg i.natAbs=c :: r:=by
     cases h:dg i.natAbs with
     | nil=>exact absurd h n0
     | cons c r=>exact ⟨c,r,rfl⟩
    refine ⟨_,rfl,Or.inl ⟨rfl,_,rfl,?_⟩⟩
    have ne1:¬ figOf i=("" : Str):=fun e=>by
     have e2:=congrArg (fun x:Str=>x.cps.toList) e
     have e3:(("" : Str)).cps.toList=[]:=by decide +kernel
     simp only [fig_cps,e3] at e2
     exact n0 e2
    rw [neS ne1]
    refine iteF ?_
    have at0:atI (figOf i).cps.toList 0=some c:=by rw [fig_cps,hd];show atI (c :: r) ((0:Nat):Int)=some c;exact atI_nat rfl
    refine ⟨_,rfl,Or.inr (Or.inr ⟨_,_,_,rfl,rfl,?_,at0,Or.inl ⟨rfl,_,rfl,?_⟩⟩)⟩
    ·have:=dg_len 9 i.natAbs (by show i.natAbs < 10000000000;unfold Wide at hi;omega)
     show (dg i.natAbs).toArray.size ≤ sizeLine
     rw [List.size_toArray]
     exact Nat.le_trans this (by decide)
    have ne2:¬ (⟨#[c]⟩:Str)=("0" : Str):=fun e=>by
     have e2:=congrArg (fun x:Str=>x.cps.toList) e
     have e3:(("0" : Str)).cps.toList=[48]:=by decide +kernel
     simp only [e3] at e2
     have e4:c=48:=by simpa using e2
     have:=dg_head i.natAbs (by rw [hd,e4];rfl)
     omega
    rw [neS ne2]
    refine iteF ?_
    refine ⟨_,rfl,_,rfl,?_,?_⟩
    ·show (dg i.natAbs).toArray.all (· < 128)=true
     rw [← Array.all_toList,List.all_eq_true]
     intro c hc
     have:=a0 c (by simpa using hc)
     simp;omega
    have sz:(figOf i).cps.size=(dg i.natAbs).length:=by show (dg i.natAbs).toArray.size=_;simp
    have ln:=dg_len 9 i.natAbs (by show i.natAbs < 10000000000;unfold Wide at hi;omega)
    refine compW_str (x:=figOf i) (fun k zs H'=>H'=H∧zs=(List.replicate k true).map V.bl) ⟨rfl,rfl⟩ (by rw [sz];exact Nat.le_trans ln (by decide)) ?_ ?_
    ·rintro k d zs _ hd' ⟨rfl,rfl⟩
     refine oneT ?_
     have hm:48≤d∧d≤57:=a0 d (by
      have:=Array.mem_of_getElem? hd'
      rw [← fig_cps]
      simpa using this)
     refine ⟨_,rfl,_,_,rfl,rfl,?_⟩
     rw [in_figures hm]
     refine ⟨rfl,?_⟩
     rw [List.replicate_succ',List.map_append]
     rfl
    ·rintro zs _ ⟨rfl,rfl⟩ l hl
     refine ⟨_,List.replicate _ true,rfl,SqL.of upd_same,?_⟩
     have:(List.replicate (figOf i).cps.size true).all id=true:=by simp
     rw [this]
     exact q _ (same_upd hl)
  ·refine ⟨_,rfl,rfl,_,_,rfl,rfl,_,rfl,?_⟩
   rw [starts_minus,wc]
   by_cases neg:i < 0
   ·have e:wordL (some i)=45 :: dg i.natAbs:=wordL_neg neg
    rw [e]
    refine iteT ?_
    refine ⟨_,rfl,_,rfl,_,rfl,rfl,rfl,?_,?_,?_⟩
    ·show 1≤(wordL (some i)).toArray.size
     rw [e];simp
    ·exact Nat.le_trans wl (by decide)
    ·rw [wc,e]
     exact rest _ _ ⟨rfl,rfl⟩
   ·have e:wordL (some i)=dg i.natAbs:=wordL_nn neg
    have h45:¬ (dg i.natAbs).head? = some 45:=by
     intro h
     have:=dg_all i.natAbs 45 (List.mem_of_mem_head? h)
     omega
    rw [e,decide_eq_false h45]
    refine iteF ?_
    refine ⟨_,rfl,?_⟩
    have ew:wordOf (some i)=figOf i:=str_ext (by rw [word_cps,fig_cps,e])
    refine rest _ _ ⟨?_,rfl⟩
    show [some (V.str (wordOf (some i))),some (V.str (wordOf (some i)))]=_
    rw [ew]
def spIsCell:Sp:=fun vs H Q _=>∃ (c:Option Int),vs=[.str (wordOf c)]∧CellW c∧∀ H',Same H H'→Q (.bl true) H'
theorem df_is_cell (T:Txt K mg C):Df P w K mg base 2 "is_cell" ["word"] spIsCell:=by
 refine T.d_is_cell.ok sc_is_cell (fun vs H Q E h=>?_) (fun f cdv A outer s H vs Q E hr h=>?_)
 ·obtain ⟨c,rfl,_⟩:=h
  rfl
 ·obtain ⟨c,rfl,hc,q⟩:=h
  refine ⟨_,(@pss_one _ _ _ (@ps_ret _ _ _ _ (pe_or (@pe_cmpR _ _ _ _ _ _ _ _ (op_eqA hr.units) (pv 0) (pe_globE (by rfl) T.g_HOLE) (nomark _)) (pe_one (@pe_df _ _ _ _ _ _ _ _ _ _ (df_is_number T) (hr.mono (by decide)) (@pa_cons _ _ _ _ _ (pv 0) pa_nil (by rfl)) (by rfl) (by decide) (by rfl) (by rfl)))))),?_⟩
  refine ⟨_,rfl,Or.inl ⟨rfl,?_⟩⟩
  cases c with
  | none =>
   rw [eqS word_none]
   exact ⟨_,rfl,iteT (q _ (Same.refl _))⟩
  | some i =>
   rw [neS (word_dot i)]
   exact ⟨_,rfl,iteF ⟨_,rfl,i,rfl,hc i rfl,q⟩⟩
def spCellRead:Sp:=fun vs H Q _=>∃ (c:Option Int),vs=[.str (wordOf c)]∧CellW c∧Q (cellV c) H
theorem df_cell_read (T:Txt K mg C):Df P w K mg base 1 "cell_read" ["word"] spCellRead:=by
 refine T.d_cell_read.ok sc_cell_read (fun vs H Q E h=>?_) (fun f cdv A outer s H vs Q E hr h=>?_)
 ·obtain ⟨c,rfl,_⟩:=h
  rfl
 ·obtain ⟨c,rfl,hc,q⟩:=h
  refine ⟨_,(@pss_one _ _ _ (@ps_ret _ _ _ _ (pe_ifExp (@pt_cmpR _ _ _ _ _ _ _ _ (op_eqA hr.units) (pv 0) (pe_globE (by rfl) T.g_HOLE) (nomark _)) pe_non (@pe_callTy _ _ _ _ _ _ _ _ _ call_int_text (by rfl) T.n_int bt_int (@pa_cons _ _ _ _ _ (pv 0) pa_nil (by rfl)) (by decide) (by decide) (by rfl) (by rfl))))),?_⟩
  refine ⟨_,rfl,Or.inl ⟨rfl,_,rfl,?_⟩⟩
  cases c with
  | none =>
   rw [eqS word_none]
   exact iteT q
  | some i =>
   rw [neS (word_dot i)]
   refine iteF ?_
   refine ⟨_,rfl,_,i,rfl,int_word (hc i rfl),Nat.le_trans (word_len (c:=some i) hc) (by decide),q⟩
theorem tjoin (a:Str)(ys:List Str):PySem.Txt.join a ys=Str.join a ys:=PySem.StrLaws.glued_eq_join a ys
def lineOf (r:List (Option Int)):Str:=Str.join ⟨#[32]⟩ (r.map wordOf)
def textOf (F:List (List (Option Int))):Str:=Str.join ⟨#[10]⟩ (F.map lineOf)
def RectW (F:List (List (Option Int))):Prop:=F≠[]∧F.length ≤ 100∧(∀ r∈F,r.length=(F.headD []).length)∧1≤(F.headD []).length ∧ (F.headD []).length ≤ 100∧∀ r∈F,∀ c∈r,CellW c
theorem str_blank:((" " : Str))=⟨#[32]⟩:=by decide +kernel
theorem line_split {r:List (Option Int)}(h:r≠[]):PySem.Txt.split (lineOf r) ⟨#[32]⟩=r.map wordOf:=by
 refine split_join 32 (by simpa using h) fun x hx=>?_
 obtain ⟨c,_,rfl⟩:=List.mem_map.mp hx
 rw [word_cps]
 exact (wordL_free c).1
theorem joinL_free {c d:Nat}(hcd:c≠d):∀ p:List (List Nat),(∀ x∈p,d ∉ x)→d ∉ joinL c p
 | [],_=>by simp [joinL]
 | [x],h=>h x (by simp)
 | x :: y :: r,h=>by
  show d ∉ x ++ c :: joinL c (y :: r)
  intro z
  rcases List.mem_append.mp z with z | z
  ·exact h x (by simp) z
  ·rcases List.mem_cons.mp z with z | z
   ·exact hcd z.symm
   ·exact joinL_free hcd (y :: r) (fun u hu=>h u (List.mem_cons_of_mem _ hu)) z
theorem joinL_len (c m:Nat):∀ p:List (List Nat),(∀ x∈p,x.length ≤ m)→(joinL c p).length ≤ p.length * (m + 1)
 | [],_=>by simp [joinL]
 | [x],h=>by have:=h x (by simp);simp [joinL];omega
 | x :: y :: r,h=>by
  have a:=h x (by simp)
  have b:=joinL_len c m (y :: r) fun u hu=>h u (List.mem_cons_of_mem _ hu)
  show (x ++ c :: joinL c (y :: r)).length ≤ _
  rw [List.length_append,List.length_cons,List.length_cons,Nat.succ_mul]
  omega
theorem line_len {r:List (Option Int)}(hr:r.length ≤ 100)(h:∀ c∈r,CellW c):(lineOf r).length ≤ 1200:=by
 have e:(lineOf r).length=(lineOf r).cps.toList.length:=by simp [Str.length]
 rw [e]
 unfold lineOf
 rw [join_cps]
 have:=joinL_len 32 11 ((r.map wordOf).map (·.cps.toList)) (fun x hx=>by
  obtain ⟨y,hy,rfl⟩:=List.mem_map.mp hx
  obtain ⟨c,hc,rfl⟩:=List.mem_map.mp hy
  show (wordOf c).cps.toList.length ≤ 11
  rw [word_cps]
  exact wordL_len c fun i e=>h c hc i e)
 rw [List.length_map,List.length_map] at this
 omega
theorem text_len {F:List (List (Option Int))}(R:RectW F):(textOf F).length ≤ 130000:=by
 obtain ⟨h0,h1,h2,h3,h4,h5⟩:=R
 have e:(textOf F).length=(textOf F).cps.toList.length:=by simp [Str.length]
 rw [e]
 unfold textOf
 rw [join_cps]
 have:=joinL_len 10 1200 ((F.map lineOf).map (·.cps.toList)) (fun x hx=>by
  obtain ⟨y,hy,rfl⟩:=List.mem_map.mp hx
  obtain ⟨r,hr,rfl⟩:=List.mem_map.mp hy
  show (lineOf r).cps.toList.length ≤ 1200
  have:=line_len (r:=r) (by rw [h2 r hr];exact h4) (h5 r hr)
  have e:(lineOf r).length=(lineOf r).cps.toList.length:=by simp [Str.length]
  omega)
 rw [List.length_map,List.length_map] at this
 omega
def spRows:Sp:=fun vs H Q _=>∃ (ll:Addr) (F:List (List (Option Int))),vs=[.ref ll]∧H ll=some (.lst (F.map (V.str ∘ lineOf)))∧RectW F∧∀ (v:V) (H':Hp),Same H H'→IsD H' v (fieldD F)→Q v H'
theorem df_read_rows (T:Txt K mg C):Df P w K mg base 3 "read_rows" ["lines"] spRows:=by
 refine T.d_read_rows.ok sc_read_rows (fun vs H Q E h=>?_) (fun f cdv A outer s H vs Q E hr h=>?_)
 ·obtain ⟨ll,F,rfl,_⟩:=h
  rfl
 ·obtain ⟨ll,F,rfl,hll,R,q⟩:=h
  obtain ⟨h0,h1,h2,h3,h4,h5⟩:=R
  refine ⟨_,(@pss_cons _ _ _ _ _ (@ps_set _ _ 1 _ _ _ _ sc_read_rows.nd rfl (by first | exact Or.inl rfl | exact Or.inr rfl) (@pe_lst _ _ _ _ pa_nil) (by rfl) (by first | exact .inl rfl | exact .inr rfl))
   (@pss_cons _ _ _ _ _ (@ps_for _ _ _ _ _ _ _ _ PassesOwn.never rfl (pi_enum (K:=K) rfl (by rfl) T.n_enumerate (@pa_cons _ _ _ _ _ (pv 0) pa_nil (by rfl))) (pg_tupK (K:=K) rfl rfl (pgs_cons (pg_name (i:=2) sc_read_rows.nd rfl (by first | exact Or.inl rfl | exact Or.inr rfl)) (pgs_cons (pg_name (i:=3) sc_read_rows.nd rfl (by first | exact Or.inl rfl | exact Or.inr rfl)) pgs_nil))) (@pss_cons _ _ _ _ _ (@ps_set _ _ 4 _ _ _ _ sc_read_rows.nd rfl (by first | exact Or.inl rfl | exact Or.inr rfl) (pe_bmK (K:=K) rfl PySem.F.plainAttrs_str PySem.F.slot_str_split PySem.F.type_str_split mt_split (pv 3) (@pa_cons _ _ _ _ _ pe_str pa_nil (by rfl))) (by rfl) (by first | exact .inl rfl | exact .inr rfl))
   (@pss_cons _ _ _ _ _ (@ps_if _ _ _ _ _ _ _ _ (@pt_not _ _ _ _ (@pt_val _ _ _ (@pe_callB _ _ _ _ _ _ _ _ _ (call_allK (K:=K) rfl rfl) (by rfl) T.n_all bt_all (@pa_cons _ _ _ _ _ (pe_compIf (M:=[]) (idx:=[]) rfl (pi_seqK (K:=K) rfl (pv 4)) (compOk (by kernel_rfl)) (by decide +kernel) (by first | exact Or.inl rfl | exact Or.inr rfl) (fun _ _ _ _ _=>pts_nil) (fun _ _ _ _ _=>(@pe_df _ _ _ _ _ _ _ _ _ _ (df_is_cell T) (hr.mono (by decide)) (@pa_cons _ _ _ _ _ (pv 0) pa_nil (by rfl)) (by rfl) (by decide) (by rfl) (by rfl)))) pa_nil star_comp) (by decide) (by decide) (by rfl) (by rfl)) (by intro _;rfl))) (@pss_one _ _ _ ps_never) pss_nil)
   (@pss_cons _ _ _ _ _ (@ps_if _ _ _ _ _ _ _ _ (pw_and (pt_truthK (K:=K) rfl (pv 1) (fun _=>rfl)) (pw_and1 (@pt_cmpR _ _ _ _ _ _ _ _ (op_neA hr.units) (@pe_callB _ _ _ _ _ _ _ _ _ (call_lenK (K:=K) rfl) (by rfl) T.n_len bt_len (@pa_cons _ _ _ _ _ (pv 4) pa_nil (by rfl)) (by decide) (by decide) (by rfl) (by rfl)) (@pe_callB _ _ _ _ _ _ _ _ _ (call_lenK (K:=K) rfl) (by rfl) T.n_len bt_len (@pa_cons _ _ _ _ _ (@pe_ix _ _ _ _ _ _ _ (ix_seqK (K:=K) rfl) (pv 1) pe_int (fun _ _=>rfl)) pa_nil star_sub) (by decide) (by decide) (by rfl) (by rfl)) (nomark _)))).pt (@pss_one _ _ _ ps_never) pss_nil)
   (@pss_one _ _ _ (@ps_expr _ _ _ _ (@pe_bm _ _ _ _ _ _ _ _ _ _ _ _ PySem.F.plainAttrs_list PySem.F.slot_list_append PySem.F.type_list_append mt_append (pv 1) (@pa_cons _ _ _ _ _ (@pe_callTy _ _ _ _ _ _ _ _ _ (call_tupleK (K:=K) rfl) (by rfl) T.n_tuple bt_tuple (@pa_cons _ _ _ _ _ (pe_compIf (M:=[]) (idx:=[]) rfl (pi_seqK (K:=K) rfl (pv 4)) (compOk (by kernel_rfl)) (by decide +kernel) (by first | exact Or.inl rfl | exact Or.inr rfl) (fun _ _ _ _ _=>pts_nil) (fun _ _ _ _ _=>(@pe_df _ _ _ _ _ _ _ _ _ _ (df_cell_read T) (hr.mono (by decide)) (@pa_cons _ _ _ _ _ (pv 0) pa_nil (by rfl)) (by rfl) (by decide) (by rfl) (by rfl)))) pa_nil star_comp) (by decide) (by decide) (by rfl) (by rfl)) pa_nil star_call) (by rfl) (by rfl) (by rfl) (by rfl) (by rfl)) (by rfl)))))) (by intro _;rfl))
   (@pss_one _ _ _ (@ps_ret _ _ _ _ (@pe_callTy _ _ _ _ _ _ _ _ _ (call_tupleK (K:=K) rfl) (by rfl) T.n_tuple bt_tuple (@pa_cons _ _ _ _ _ (pv 1) pa_nil (by rfl)) (by decide) (by decide) (by rfl) (by rfl)))))),?_⟩
  refine ⟨(by show 0≤sizeLine;decide),fun c hc=>?_⟩
  have hc1:upd H c (.lst []) c=some (.lst []):=upd_same
  have S1:Same H (upd H c (.lst [])):=same_upd hc
  have el:=S1 _ _ hll
  have nl:ll≠c:=ne_of_none hll hc
  generalize upd H c (.lst [])=H1 at hc1 el S1 ⊢
  have keepH:∀ {H':Hp},KeepBut c H1 H'→Same H H':=fun k b o e=>k b o (S1 b o e) (ne_of_none e hc)
  refine ⟨_,rfl,_,rfl,⟨_,SqL.of el⟩,?_⟩
  refine for_enum (xs:=F.map (V.str ∘ lineOf)) (fun k σ H'=>∃ (v2 v3 v4:Option V) (ys:List V),σ=[some (.ref ll),some (.ref c),v2,v3,v4]∧KeepBut c H1 H'∧H' c=some (.lst ys)∧IsDs H' ys ((F.take k).map rowD))
   ⟨none,none,none,[],rfl,KeepBut.refl _ _,hc1,.nil⟩ (fun k σ H' _ ⟨_,_,_,_,_,kb,_⟩=>SqL.of (kb _ _ el nl)) ?_ ?_
  ·rintro k x _ H2 t hx ⟨v2,v3,v4,ys,rfl,k2,hc2,iy⟩ ht
   obtain ⟨r,er,rfl⟩:∃ r,F[k]? = some r∧V.str (lineOf r)=x:=by
    rw [List.getElem?_map] at hx
    cases e:F[k]? with
    | none=>rw [e] at hx;cases hx
    | some r=>rw [e] at hx;exact ⟨r,rfl,Option.some.inj hx⟩
   have hr':=List.mem_of_getElem? er
   have kF:=(List.getElem?_eq_some_iff.mp er).1
   have lr:=h2 r hr'
   have r0:r≠[]:=fun e=>by rw [e] at lr;rw [← lr] at h3;exact absurd h3 (by decide)
   have st:=same_upd (o:=.tup [.int (k:Nat),.str (lineOf r)]) ht
   refine ⟨_,_,rfl,SqT.of upd_same,rfl,_,_,rfl,_,_,rfl,rfl,?_⟩
   have hc3:=st _ _ hc2
   have k3:KeepBut c H1 (upd H2 t (.tup [.int (k:Nat),.str (lineOf r)])):=k2.upd ht
   have iy3:=iy.keep st.tups
   generalize upd H2 t (.tup [.int (k:Nat),.str (lineOf r)])=H3 at hc3 k3 iy3 ⊢
   have ll4:=line_len (r:=r) (by rw [lr];exact h4) (h5 r hr')
   refine ⟨_,rfl,rfl,_,_,rfl,rfl,by decide +kernel,by omega,fun lw hlw=>?_⟩
   rw [str_blank,line_split r0,List.map_map]
   have ew:upd H3 lw (.lst (r.map (V.str ∘ wordOf))) lw=some (.lst (r.map (V.str ∘ wordOf))):=upd_same
   have hc4:=same_upd (o:=.lst (r.map (V.str ∘ wordOf))) hlw _ _ hc3
   have k4:KeepBut c H1 (upd H3 lw (.lst (r.map (V.str ∘ wordOf)))):=k3.upd hlw
   have iy4:=iy3.keep (same_upd (o:=.lst (r.map (V.str ∘ wordOf))) hlw).tups
   have nw:lw≠c:=(ne_of_none hc3 hlw).symm
   dsimp only [List.set]
   generalize upd H3 lw (.lst (r.map (V.str ∘ wordOf)))=H4 at ew hc4 k4 iy4 ⊢
   refine Or.inl ?_
   refine ⟨_,rfl,_,rfl,⟨_,SqL.of ew⟩,?_⟩
   refine compW_list (xs:=r.map (V.str ∘ wordOf)) (fun j zs H'=>Same H4 H'∧zs=(List.replicate j true).map V.bl) ⟨Same.refl _,rfl⟩ (by rw [List.length_map,lr];exact Nat.le_trans h4 (by decide)) (fun j zs H' _ ⟨s,_⟩=>SqL.of (s _ _ ew)) ?_ ?_
   ·rintro j y zs H5 hy ⟨s5,rfl⟩
    obtain ⟨cl,ec,rfl⟩:∃ cl,r[j]? = some cl∧V.str (wordOf cl)=y:=by
     rw [List.getElem?_map] at hy
     cases e:r[j]? with
     | none=>rw [e] at hy;cases hy
     | some cl=>rw [e] at hy;exact ⟨cl,rfl,Option.some.inj hy⟩
    refine oneT ?_
    refine ⟨_,rfl,cl,rfl,h5 r hr' cl (List.mem_of_getElem? ec),fun H6 s6=>⟨s5.trans s6,?_⟩⟩
    rw [List.replicate_succ',List.map_append]
    rfl
   ·rintro zs H5 ⟨s5,rfl⟩ l5 hl5
    have s6:=s5.trans (same_upd (o:=.lst ((List.replicate (r.map (V.str ∘ wordOf)).length true).map V.bl)) hl5)
    refine ⟨_,List.replicate _ true,rfl,SqL.of upd_same,_,rfl,?_⟩
    have eall:(List.replicate (r.map (V.str ∘ wordOf)).length true).all id=true:=by simp
    rw [eall]
    refine iteF ?_
    have hc6:=s6 _ _ hc4
    have ew6:=s6 _ _ ew
    have iy6:=iy4.keep s6.tups
    have k6:KeepBut c H1 (upd H5 l5 (.lst ((List.replicate (r.map (V.str ∘ wordOf)).length true).map V.bl))):=k4.trans (s6.but c)
    generalize upd H5 l5 (.lst ((List.replicate (r.map (V.str ∘ wordOf)).length true).map V.bl))=H6 at s6 hc6 ew6 iy6 k6 ⊢
    dsimp only [tNext]
    refine tSeq_cut (fun σ' H'=>σ'=[some (.ref ll),some (.ref c),some (.int (k:Nat)),some (.str (lineOf r)),some (.ref lw)]∧H'=H6) ?_ (fun rest=>?_)
    ·rintro _ H6 ⟨rfl,rfl⟩
     refine ⟨_,rfl,Or.inl ⟨rfl,_,SqL.of hc6⟩,?_⟩
     refine Or.inl ?_
     refine ⟨_,rfl,_,rfl,⟨_,SqL.of ew6⟩,?_⟩
     refine compW_list (xs:=r.map (V.str ∘ wordOf)) (fun j zs H'=>H'=H6∧zs=(r.take j).map cellV) ⟨rfl,rfl⟩ (by rw [List.length_map,lr];exact Nat.le_trans h4 (by decide)) (fun j zs H' _ ⟨e,_⟩=>by rw [e];exact SqL.of ew6) ?_ ?_
     ·rintro j y zs _ hy ⟨rfl,rfl⟩
      obtain ⟨cl,ec,rfl⟩:∃ cl,r[j]? = some cl∧V.str (wordOf cl)=y:=by
       rw [List.getElem?_map] at hy
       cases e:r[j]? with
       | none=>rw [e] at hy;cases hy
       | some cl=>rw [e] at hy;exact ⟨cl,rfl,Option.some.inj hy⟩
      refine oneT ?_
      refine ⟨_,rfl,cl,rfl,h5 r hr' cl (List.mem_of_getElem? ec),rfl,?_⟩
      rw [List.take_add_one,ec,List.map_append]
      rfl
     ·rintro zs H6 ⟨rfl,rfl⟩ l7 hl7
      rw [List.length_map,List.take_of_length_le (Nat.le_refl _)]
      refine ⟨_,_,rfl,Or.inl ⟨SqL.of upd_same,fun t8 ht8=>?_⟩⟩
      have s8:=(same_upd (o:=.lst (r.map cellV)) hl7).trans (same_upd (o:=.tup (r.map cellV)) ht8)
      have hc8:=s8 _ _ hc6
      have ly:ys.length=k:=by rw [iy.length,List.length_map,List.length_take];omega
      refine ⟨_,_,_,rfl,rfl,hc8,(by rw [ly];exact Nat.lt_of_lt_of_le (show k < 100 by omega) (by decide)),?_⟩
      have kc:KeepT (upd (upd H6 l7 (.lst (r.map cellV))) t8 (.tup (r.map cellV))) (upd (upd (upd H6 l7 (.lst (r.map cellV))) t8 (.tup (r.map cellV))) c (.lst (ys ++ [.ref t8]))):=fun a xs e=>by rw [upd_ne (ne_of e hc8 fun z=>by cases z)];exact e
      refine ⟨_,_,_,_,rfl,?_,upd_same,?_⟩
      ·intro b o e n
       rw [upd_ne n]
       exact s8 _ _ (k6 b o e n)
      ·rw [List.take_add_one,er,List.map_append]
       exact ((iy6.keep s8.tups).append (.cons (.tup upd_same (isCells r)) .nil)).keep kc
    ·refine ⟨_,rfl,_,Or.inl ⟨_,SqL.of hc6,rfl⟩,?_⟩
     cases ys with
     | nil=>exact iteF (iteF (rest _ _ ⟨rfl,rfl⟩))
     | cons y0 ys =>
      refine iteT ?_
      have F0:∃ r0,F.head? = some r0∧IsD H6 y0 (rowD r0):=by
       cases hF:F with
       | nil=>exact absurd hF h0
       | cons r0 F' =>
        refine ⟨r0,rfl,?_⟩
        rw [hF] at iy6
        cases k with
        | zero=>cases iy6
        | succ k =>
         cases iy6 with
         | cons a _=>exact a
      obtain ⟨r1,eF,i0⟩:=F0
      obtain ⟨a0,rfl,ha0⟩:=isRow_inv i0
      have l1:r1.length=r.length:=by
       have hm:r1∈F:=List.mem_of_mem_head? eF
       rw [h2 r1 hm,lr]
      refine ⟨_,rfl,_,_,rfl,Or.inl ⟨_,SqL.of ew6,rfl⟩,_,rfl,Or.inl ⟨_,_,_,_,rfl,rfl,SqL.of hc6,(show atI (V.ref a0 :: ys) ((0:Nat):Int)=some (V.ref a0) from atI_nat rfl),_,_,rfl,Or.inr ⟨_,SqT.of ha0,rfl⟩,?_⟩⟩
      rw [List.length_map,List.length_map,l1]
      refine Or.inl ⟨rfl,_,rfl,?_⟩
      rw [decide_eq_true rfl]
      exact iteF (rest _ _ ⟨rfl,rfl⟩)
  ·rintro _ H2 ⟨v2,v3,v4,ys,rfl,k2,hc2,iy⟩
   rw [List.length_map,List.take_of_length_le (Nat.le_refl _)] at iy
   refine ⟨_,rfl,_,_,rfl,Or.inl ⟨SqL.of hc2,fun t ht=>?_⟩⟩
   exact q (.ref t) _ ((keepH k2).trans (same_upd ht)) (.tup upd_same (iy.keep (same_upd ht).tups))
theorem log_small {i:Int}(h:Wide i):i.natAbs.log2 < 1920:=by
 by_cases z:i.natAbs=0
 ·rw [z];decide
 ·have:i.natAbs < 2 ^ 34:=by unfold Wide at h;omega
  have:=(Nat.log2_lt z).mpr this
  omega
def spCellShown:Sp:=fun vs H Q _=>∃ (c:Option Int),vs=[cellV c]∧CellW c∧Q (.str (wordOf c)) H
theorem df_cell_shown (T:Txt K mg C):Df P w K mg base 1 "cell_shown" ["cell"] spCellShown:=by
 refine T.d_cell_shown.ok sc_cell_shown (fun vs H Q E h=>?_) (fun f cdv A outer s H vs Q E hr h=>?_)
 ·obtain ⟨c,rfl,_⟩:=h
  rfl
 ·obtain ⟨c,rfl,hc,q⟩:=h
  refine ⟨_,(@pss_one _ _ _ (@ps_ret _ _ _ _ (pe_ifExp (@pt_cmpR _ _ _ _ _ _ _ _ op_isN (pv 0) pe_non (nomark _)) (pe_globE (by rfl) T.g_HOLE) (@pe_callTy _ _ _ _ _ _ _ _ _ call_str_int (by rfl) T.n_str bt_str (@pa_cons _ _ _ _ _ (pv 0) pa_nil (by rfl)) (by decide) (by decide) (by rfl) (by rfl))))),?_⟩
  cases c with
  | none =>
   refine ⟨_,rfl,rfl,_,rfl,?_⟩
   refine iteT ?_
   show Q (.str ".") H
   rw [← word_none]
   exact q
  | some i =>
   refine ⟨_,rfl,rfl,_,rfl,?_⟩
   refine iteF ?_
   refine ⟨_,rfl,i,rfl,log_small (hc i rfl),?_⟩
   have e:(Str.ofString (toString i))=wordOf (some i):=str_word i
   rw [← e] at q
   exact q
theorem sum_len {m:Nat}:∀ (ws:List Str),(∀ x∈ws,x.length ≤ m)→(ws.map (·.length)).sum ≤ ws.length * m
 | [],_=>by simp
 | x :: ws,h=>by
  have:=h x (by simp)
  have:=sum_len ws fun y hy=>h y (List.mem_cons_of_mem _ hy)
  rw [List.map_cons,List.sum_cons,List.length_cons,Nat.succ_mul]
  omega
def spRowShown:Sp:=fun vs H Q _=>∃ (a:Addr) (r:List (Option Int)),vs=[.ref a]∧H a=some (.tup (r.map cellV))∧r.length ≤ 1000∧(∀ c∈r,CellW c)∧∀ H',Same H H'→Q (.str (lineOf r)) H'
theorem df_row_shown (T:Txt K mg C):Df P w K mg base 2 "row_shown" ["row"] spRowShown:=by
 refine T.d_row_shown.ok sc_row_shown (fun vs H Q E h=>?_) (fun f cdv A outer s H vs Q E hr h=>?_)
 ·obtain ⟨a,r,rfl,_⟩:=h
  rfl
 ·obtain ⟨a,r,rfl,ha,hl,hw,q⟩:=h
  refine ⟨_,(@pss_one _ _ _ (@ps_ret _ _ _ _ (pe_bmK (K:=K) rfl PySem.F.plainAttrs_str PySem.F.slot_str_join PySem.F.type_str_join (mt_joinK (K:=K) rfl) pe_str (@pa_cons _ _ _ _ _ (pe_compIf (M:=[]) (idx:=[]) rfl (pi_seqK (K:=K) rfl (pv 0)) (compOk (by kernel_rfl)) (by decide +kernel) (by first | exact Or.inl rfl | exact Or.inr rfl) (fun _ _ _ _ _=>pts_nil) (fun _ _ _ _ _=>(@pe_df _ _ _ _ _ _ _ _ _ _ (df_cell_shown T) (hr.mono (by decide)) (@pa_cons _ _ _ _ _ (pv 0) pa_nil (by rfl)) (by rfl) (by decide) (by rfl) (by rfl)))) pa_nil star_comp)))),?_⟩
  refine ⟨rfl,?_⟩
  refine Or.inr ?_
  refine ⟨_,rfl,_,rfl,⟨_,SqT.of ha⟩,?_⟩
  refine compW_tup (xs:=r.map cellV) (fun j zs H'=>H'=H∧zs=((r.take j).map wordOf).map V.str) ⟨rfl,rfl⟩ (by rw [List.length_map];exact Nat.le_trans hl (by decide)) (fun j zs H' _ ⟨e,_⟩=>by rw [e];exact SqT.of ha) ?_ ?_
  ·rintro j y zs _ hy2 ⟨rfl,rfl⟩
   obtain ⟨cl,ec,rfl⟩:∃ cl,r[j]? = some cl∧cellV cl=y:=by
    rw [List.getElem?_map] at hy2
    cases e:r[j]? with
    | none=>rw [e] at hy2;cases hy2
    | some cl=>rw [e] at hy2;exact ⟨cl,rfl,Option.some.inj hy2⟩
   refine oneT ?_
   refine ⟨_,rfl,cl,rfl,hw cl (List.mem_of_getElem? ec),rfl,?_⟩
   rw [List.take_add_one,ec,List.map_append,List.map_append]
   rfl
  ·rintro zs _ ⟨rfl,rfl⟩ l2 hl2
   rw [List.length_map,List.take_of_length_le (Nat.le_refl _)]
   refine ⟨_,_,r.map wordOf,rfl,rfl,SqL.of upd_same,?_,?_⟩
   ·have:=sum_len (m:=11) (r.map wordOf) (fun x hx=>by
     obtain ⟨c,hc,rfl⟩:=List.mem_map.mp hx
     exact word_len (hw c hc))
    rw [List.length_map] at this ⊢
    have e1:((" " : Str)).length=1:=by decide +kernel
    rw [e1]
    omega
   ·rw [str_blank,tjoin]
    exact q _ (same_upd hl2)
def textS (F:List (List (Option Int))):Str:=Str.join ⟨#[59]⟩ (F.map lineOf)
theorem str_semi:((";" : Str))=⟨#[59]⟩:=by decide +kernel
theorem wordL_semi (c:Option Int):59 ∉ wordL c:=by
 cases c with
 | none=>simp [wordL]
 | some i =>
  have a:=dg_all i.natAbs
  unfold wordL
  intro h
  rcases List.mem_append.mp h with z | z
  ·split at z <;> simp at z
  ·have:=a _ z;omega
theorem line_semi (r:List (Option Int)):59 ∉ (lineOf r).cps.toList:=by
 unfold lineOf
 rw [join_cps]
 refine joinL_free (by decide) _ fun x hx=>?_
 obtain ⟨y,hy,rfl⟩:=List.mem_map.mp hx
 obtain ⟨c,_,rfl⟩:=List.mem_map.mp hy
 show 59 ∉ (wordOf c).cps.toList
 rw [word_cps]
 exact wordL_semi c
theorem textS_split {F:List (List (Option Int))}(h:F≠[]):PySem.Txt.split (textS F) ⟨#[59]⟩=F.map lineOf:=by
 refine split_join 59 (by simpa using h) fun x hx=>?_
 obtain ⟨r,_,rfl⟩:=List.mem_map.mp hx
 exact line_semi r
theorem textS_len {F:List (List (Option Int))}(R:RectW F):(textS F).length ≤ 130000:=by
 obtain ⟨h0,h1,h2,h3,h4,h5⟩:=R
 have e:(textS F).length=(textS F).cps.toList.length:=by simp [Str.length]
 rw [e]
 unfold textS
 rw [join_cps]
 have:=joinL_len 59 1200 ((F.map lineOf).map (·.cps.toList)) (fun x hx=>by
  obtain ⟨y,hy,rfl⟩:=List.mem_map.mp hx
  obtain ⟨r,hr,rfl⟩:=List.mem_map.mp hy
  show (lineOf r).cps.toList.length ≤ 1200
  have:=line_len (r:=r) (by rw [h2 r hr];exact h4) (h5 r hr)
  have e:(lineOf r).length=(lineOf r).cps.toList.length:=by simp [Str.length]
  omega)
 rw [List.length_map,List.length_map] at this
 omega
theorem ne_int0 {H:Hp}{i j:Int}{Q:VK}(e:i=j)(q:Q (.bl false) H):rNe (.int i) (.int j) H Q ∨ rNeD 0 (.int i) (.int j) H Q:=by
 subst e
 refine Or.inl ⟨rfl,?_⟩
 have:(!decide (V.int i=V.int i))=false:=by rw [decide_eq_true rfl];rfl
 rw [this]
 exact q
def spWithin:Sp:=fun vs H Q _=>∃ (t:Addr) (ns:List Int) (lo hi:Int),vs=[.ref t,.int lo,.int hi]∧H t=some (.tup (ns.map V.int))∧ns.length ≤ 1000∧(∀ n∈ns,lo≤n∧n≤hi)∧∀ H',Same H H'→Q (.bl true) H'
theorem df_are_within (T:Txt K mg C):Df P w K mg base 1 "are_within" ["numbers","least","most"] spWithin:=by
 refine T.d_are_within.ok sc_are_within (fun vs H Q E h=>?_) (fun f cdv A outer s H vs Q E hr h=>?_)
 ·obtain ⟨t,ns,lo,hi,rfl,_⟩:=h
  rfl
 ·obtain ⟨t,ns,lo,hi,rfl,ht,hl,hb,q⟩:=h
  refine ⟨_,(@pss_one _ _ _ (@ps_ret _ _ _ _ (@pe_callB _ _ _ _ _ _ _ _ _ (call_allK (K:=K) rfl rfl) (by rfl) T.n_all bt_all (@pa_cons _ _ _ _ _ (pe_compIf (M:=["least","most"]) (idx:=[1,2]) rfl (pi_seqK (K:=K) rfl (pv 0)) (compOk (by kernel_rfl)) (by decide +kernel) (by first | exact Or.inl rfl | exact Or.inr rfl) (fun _ _ _ _ _=>pts_nil) (fun _ _ _ _ _=>(pe_chain op_le op_le (pv 1) (pv 0) (pv 2)))) pa_nil star_comp) (by decide) (by decide) (by rfl) (by rfl)))),?_⟩
  refine Or.inr ?_
  refine ⟨_,rfl,_,rfl,⟨_,SqT.of ht⟩,?_⟩
  refine compW_tup (xs:=ns.map V.int) (fun j zs H'=>H'=H∧zs=(List.replicate j true).map V.bl) ⟨rfl,rfl⟩ (by rw [List.length_map];exact Nat.le_trans hl (by decide)) (fun j zs H' _ ⟨e,_⟩=>by rw [e];exact SqT.of ht) ?_ ?_
  ·rintro j y zs _ hy ⟨rfl,rfl⟩
   obtain ⟨n,en,rfl⟩:∃ n,ns[j]? = some n∧V.int n=y:=by
    rw [List.getElem?_map] at hy
    cases e:ns[j]? with
    | none=>rw [e] at hy;cases hy
    | some n=>rw [e] at hy;exact ⟨n,rfl,Option.some.inj hy⟩
   obtain ⟨b1,b2⟩:=hb n (List.mem_of_getElem? en)
   refine oneT ?_
   refine ⟨_,rfl,_,rfl,_,_,rfl,rfl,_,rfl,?_⟩
   refine ite2 (fun _=>?_) (fun z=>absurd (decide_eq_true b1) z)
   refine ⟨_,rfl,_,_,rfl,rfl,rfl,?_⟩
   rw [List.replicate_succ',List.map_append]
   show _ ++ [V.bl (decide (n≤hi))]=_
   rw [decide_eq_true b2]
   rfl
  ·rintro zs _ ⟨rfl,rfl⟩ l5 hl5
   refine ⟨_,List.replicate _ true,rfl,SqL.of upd_same,?_⟩
   have eall:(List.replicate (ns.map V.int).length true).all id=true:=by simp
   rw [eall]
   exact q _ (same_upd hl5)
def spNums:Sp:=fun vs H Q _=>∃ (l:Addr) (ks:List Int),vs=[.ref l,.int ks.length]∧H l=some (.lst (ks.map fun k=>V.str (wordOf (some k))))∧ks.length ≤ 100∧(∀ k∈ks,Wide k)∧∀ (t:Addr) (H':Hp),Same H H'→H' t=some (.tup (ks.map V.int))→Q (.ref t) H'
theorem df_numbers_asked (T:Txt K mg C):Df P w K mg base 2 "numbers_asked" ["words","how_many"] spNums:=by
 refine T.d_numbers_asked.ok sc_numbers_asked (fun vs H Q E h=>?_) (fun f cdv A outer s H vs Q E hr h=>?_)
 ·obtain ⟨l,ks,rfl,_⟩:=h
  rfl
 ·obtain ⟨l,ks,rfl,hl,few,hw,q⟩:=h
  refine ⟨_,(@pss_cons _ _ _ _ _ (@ps_if _ _ _ _ _ _ _ _ (@pt_cmpR _ _ _ _ _ _ _ _ (op_neA hr.units) (@pe_callB _ _ _ _ _ _ _ _ _ (call_lenK (K:=K) rfl) (by rfl) T.n_len bt_len (@pa_cons _ _ _ _ _ (pv 0) pa_nil (by rfl)) (by decide) (by decide) (by rfl) (by rfl)) (pv 1) (nomark _)) (@pss_one _ _ _ ps_never) pss_nil)
   (@pss_cons _ _ _ _ _ (@ps_if _ _ _ _ _ _ _ _ (@pt_not _ _ _ _ (@pt_val _ _ _ (@pe_callB _ _ _ _ _ _ _ _ _ (call_allK (K:=K) rfl rfl) (by rfl) T.n_all bt_all (@pa_cons _ _ _ _ _ (pe_compIf (M:=[]) (idx:=[]) rfl (pi_seqK (K:=K) rfl (pv 0)) (compOk (by kernel_rfl)) (by decide +kernel) (by first | exact Or.inl rfl | exact Or.inr rfl) (fun _ _ _ _ _=>pts_nil) (fun _ _ _ _ _=>(@pe_df _ _ _ _ _ _ _ _ _ _ (df_is_number T) (hr.mono (by decide)) (@pa_cons _ _ _ _ _ (pv 0) pa_nil (by rfl)) (by rfl) (by decide) (by rfl) (by rfl)))) pa_nil star_comp) (by decide) (by decide) (by rfl) (by rfl)) (by intro _;rfl))) (@pss_one _ _ _ ps_never) pss_nil)
   (@pss_one _ _ _ (@ps_ret _ _ _ _ (@pe_callTy _ _ _ _ _ _ _ _ _ (call_tupleK (K:=K) rfl) (by rfl) T.n_tuple bt_tuple (@pa_cons _ _ _ _ _ (pe_compIf (M:=[]) (idx:=[]) rfl (pi_seqK (K:=K) rfl (pv 0)) (compOk (by kernel_rfl)) (by decide +kernel) (by first | exact Or.inl rfl | exact Or.inr rfl) (fun _ _ _ _ _=>pts_nil) (fun _ _ _ _ _=>(@pe_callTy _ _ _ _ _ _ _ _ _ call_int_text (by rfl) T.n_int bt_int (@pa_cons _ _ _ _ _ (pv 0) pa_nil (by rfl)) (by decide) (by decide) (by rfl) (by rfl)))) pa_nil star_comp) (by decide) (by decide) (by rfl) (by rfl)))))),?_⟩
  have wat:∀ {j:Nat} {y:V},(ks.map fun k=>V.str (wordOf (some k)))[j]? = some y→∃ k,ks[j]? = some k∧V.str (wordOf (some k))=y:=fun {j y} hy=>by
   rw [List.getElem?_map] at hy
   cases e:ks[j]? with
   | none=>rw [e] at hy;cases hy
   | some n=>rw [e] at hy;exact ⟨n,rfl,Option.some.inj hy⟩
  refine ⟨_,rfl,_,_,rfl,Or.inl ⟨_,SqL.of hl,rfl⟩,_,rfl,ne_int0 (by rw [List.length_map]) ⟨_,rfl,iteF ?_⟩⟩
  dsimp only [tNext,tSeq]
  refine Or.inl ?_
  refine ⟨_,rfl,_,rfl,⟨_,SqL.of hl⟩,?_⟩
  refine compW_list (xs:=ks.map fun k=>V.str (wordOf (some k))) (fun j zs H'=>Same H H'∧zs=(List.replicate j true).map V.bl) ⟨Same.refl _,rfl⟩ (by rw [List.length_map];exact Nat.le_trans few (by decide)) (fun j zs H' _ ⟨s,_⟩=>SqL.of (s _ _ hl)) ?_ ?_
  ·rintro j y zs H5 hy ⟨s5,rfl⟩
   obtain ⟨k,ek,rfl⟩:=wat hy
   refine oneT ?_
   refine ⟨_,rfl,k,rfl,hw k (List.mem_of_getElem? ek),fun H6 s6=>⟨s5.trans s6,?_⟩⟩
   rw [List.replicate_succ',List.map_append]
   rfl
  ·rintro zs H5 ⟨s5,rfl⟩ l5 hl5
   have s6:=s5.trans (same_upd (o:=.lst ((List.replicate (ks.map fun k=>V.str (wordOf (some k))).length true).map V.bl)) hl5)
   refine ⟨_,List.replicate _ true,rfl,SqL.of upd_same,_,rfl,?_⟩
   have eall:(List.replicate (ks.map fun k=>V.str (wordOf (some k))).length true).all id=true:=by simp
   rw [eall]
   refine iteF ?_
   dsimp only [tNext,tSeq]
   generalize upd H5 l5 (.lst ((List.replicate (ks.map fun k=>V.str (wordOf (some k))).length true).map V.bl))=H6 at s6 ⊢
   have hl6:=s6 _ _ hl
   refine Or.inl ?_
   refine ⟨_,rfl,_,rfl,⟨_,SqL.of hl6⟩,?_⟩
   refine compW_list (xs:=ks.map fun k=>V.str (wordOf (some k))) (fun j zs H'=>H'=H6∧zs=(ks.take j).map V.int) ⟨rfl,rfl⟩ (by rw [List.length_map];exact Nat.le_trans few (by decide)) (fun j zs H' _ ⟨e,_⟩=>by rw [e];exact SqL.of hl6) ?_ ?_
   ·rintro j y zs _ hy ⟨rfl,rfl⟩
    obtain ⟨k,ek,rfl⟩:=wat hy
    have wk:=hw k (List.mem_of_getElem? ek)
    refine oneT ?_
    refine ⟨_,rfl,_,k,rfl,int_word wk,Nat.le_trans (word_len (c:=some k) fun i e=>by cases e;exact wk) (by decide),rfl,?_⟩
    rw [List.take_add_one,ek,List.map_append]
    rfl
   ·rintro zs _ ⟨rfl,rfl⟩ l7 hl7
    rw [List.length_map,List.take_length]
    refine ⟨_,_,rfl,Or.inl ⟨SqL.of upd_same,fun t ht=>?_⟩⟩
    exact q t _ ((s6.trans (same_upd hl7)).trans (same_upd ht)) upd_same
def spFieldAsked:Sp:=fun vs H Q _=>∃ (F:List (List (Option Int))),vs=[.str (textS F)]∧RectW F∧F.length ≤ 12∧(F.headD []).length ≤ 12∧(∀ r∈F,∀ c∈r,∀ i,c=some i→-1000000000≤i∧i≤1000000000)∧∀ (v:V) (H':Hp),Same H H'→IsD H' v (fieldD F)→Q v H'
theorem df_field_asked (T:Txt K mg C):Df P w K mg base 4 "field_asked" ["text"] spFieldAsked:=by
 refine T.d_field_asked.ok sc_field_asked (fun vs H Q E h=>?_) (fun f cdv A outer s H vs Q E hr h=>?_)
 ·obtain ⟨F,rfl,_⟩:=h
  rfl
 ·obtain ⟨F,rfl,R,hh,hw,hb,q⟩:=h
  have tl:=textS_len R
  obtain ⟨h0,h1,h2,h3,h4,h5⟩:=id R
  refine ⟨_,(@pss_cons _ _ _ _ _ (@ps_set _ _ 1 _ _ _ _ sc_field_asked.nd rfl (by first | exact Or.inl rfl | exact Or.inr rfl) (@pe_df _ _ _ _ _ _ _ _ _ _ (df_read_rows T) (hr.mono (by decide)) (@pa_cons _ _ _ _ _ (pe_bmK (K:=K) rfl PySem.F.plainAttrs_str PySem.F.slot_str_split PySem.F.type_str_split mt_split (pv 0) (@pa_cons _ _ _ _ _ pe_str pa_nil (by rfl))) pa_nil star_call) (by rfl) (by decide) (by rfl) (by rfl)) (by rfl) (by first | exact .inl rfl | exact .inr rfl))
   (@pss_cons _ _ _ _ _ (@ps_if _ _ _ _ _ _ _ _ (pw_or (@pt_cmpR _ _ _ _ _ _ _ _ op_gt (@pe_callB _ _ _ _ _ _ _ _ _ (call_lenK (K:=K) rfl) (by rfl) T.n_len bt_len (@pa_cons _ _ _ _ _ (pv 1) pa_nil (by rfl)) (by decide) (by decide) (by rfl) (by rfl)) (pe_globE (by rfl) T.g_MOST_LENGTH) (nomark _)) (pw_or1 (@pt_cmpR _ _ _ _ _ _ _ _ op_gt (@pe_callB _ _ _ _ _ _ _ _ _ (call_lenK (K:=K) rfl) (by rfl) T.n_len bt_len (@pa_cons _ _ _ _ _ (@pe_ix _ _ _ _ _ _ _ (ix_seqK (K:=K) rfl) (pv 1) pe_int (fun _ _=>rfl)) pa_nil star_sub) (by decide) (by decide) (by rfl) (by rfl)) (pe_globE (by rfl) T.g_MOST_LENGTH) (nomark _)))).pt (@pss_one _ _ _ ps_never) pss_nil)
   (@pss_cons _ _ _ _ _ (@ps_for _ _ _ _ _ _ _ _ PassesOwn.never rfl (pi_seqK (K:=K) rfl (pv 1)) (pg_name (i:=2) sc_field_asked.nd rfl (by first | exact Or.inl rfl | exact Or.inr rfl)) (@pss_one _ _ _ (@ps_if _ _ _ _ _ _ _ _ (@pt_not _ _ _ _ (@pt_val _ _ _ (@pe_df _ _ _ _ _ _ _ _ _ _ (df_are_within T) (hr.mono (by decide)) (@pa_cons _ _ _ _ _ (@pe_df _ _ _ _ _ _ _ _ _ _ (df_without_holes T) (hr.mono (by decide)) (@pa_cons _ _ _ _ _ (pv 2) pa_nil (by rfl)) (by rfl) (by decide) (by rfl) (by rfl)) (@pa_cons _ _ _ _ _ (@pe_un _ _ _ _ _ _ un_neg (pe_globE (by rfl) T.g_MOST_NUMBER)) (@pa_cons _ _ _ _ _ (pe_globE (by rfl) T.g_MOST_NUMBER) pa_nil (by rfl)) star_un) star_call) (by rfl) (by decide) (by rfl) (by rfl)) (by intro _;rfl))) (@pss_one _ _ _ ps_never) pss_nil)) (by intro _;rfl))
   (@pss_one _ _ _ (@ps_ret _ _ _ _ (pv 1)))))),?_⟩
  refine ⟨_,rfl,rfl,_,_,rfl,rfl,by decide +kernel,by omega,fun ll hll=>?_⟩
  rw [str_semi,textS_split h0,List.map_map]
  refine ⟨ll,F,rfl,upd_same,R,fun v H1 s1 hv=>?_⟩
  have S1:=(same_upd (o:=.lst (F.map (V.str ∘ lineOf))) hll).trans s1
  dsimp only [gName,List.set]
  obtain ⟨fa,xs,rfl,hfa,hxs⟩:=isField_inv hv
  have lxs:xs.length=F.length:=by rw [hxs.length,List.length_map]
  have hF:0 < F.length:=List.length_pos_iff.mpr h0
  obtain ⟨b0,eb0,hb0⟩:=isRows_get hxs hF
  have l0:F[0].length=(F.headD []).length:=h2 _ (List.getElem_mem _)
  refine ⟨_,rfl,_,_,rfl,Or.inr ⟨_,SqT.of hfa,rfl⟩,_,_,rfl,rfl,_,rfl,?_⟩
  refine ite2 (fun z=>absurd (of_decide_eq_true z) (by omega)) (fun _=>?_)
  refine ⟨_,rfl,Or.inr (Or.inl ⟨_,_,_,_,rfl,rfl,SqT.of hfa,atI_nat (j:=0) eb0,_,_,rfl,Or.inr ⟨_,SqT.of hb0,rfl⟩,_,_,rfl,rfl,_,rfl,?_⟩)⟩
  refine ite2 (fun z=>absurd (of_decide_eq_true z) (by rw [List.length_map];omega)) (fun _=>?_)
  dsimp only [tNext,tSeq]
  refine Or.inr ⟨_,rfl,fa,rfl,⟨_,SqT.of hfa⟩,?_⟩
  refine for_tup (K:=K) (xs:=xs) (fun t σ H'=>∃ (v2:Option V),σ=[some (.str (textS F)),some (.ref fa),v2]∧Same H1 H') ⟨none,rfl,Same.refl _⟩ (fun t σ H' _ ⟨_,_,s'⟩=>SqT.of (s' _ _ hfa)) ?_ ?_
  ·rintro t x _ H2 hx ⟨v2,rfl,s2⟩
   have ht:t < F.length:=by rw [← lxs];exact (List.getElem?_eq_some_iff.mp hx).1
   obtain ⟨ra,era,hra⟩:=isRows_get hxs ht
   obtain rfl:x = .ref ra:=by rw [hx] at era;exact Option.some.inj era
   have lr:F[t].length=(F.headD []).length:=h2 _ (List.getElem_mem _)
   refine ⟨_,rfl,?_⟩
   refine ⟨ra,F[t],rfl,.inl (s2 _ _ hra),by omega,fun t3 H3 s3 ht3=>?_⟩
   refine ⟨_,rfl,t3,F[t].filterMap id,-1000000000,1000000000,rfl,ht3,Nat.le_trans (List.length_filterMap_le _ _) (by omega),fun n hn=>?_,fun H4 s4=>?_⟩
   ·obtain ⟨c,hc,e⟩:=List.mem_filterMap.mp hn
    exact hb _ (List.getElem_mem ht) c hc n e
   ·refine ⟨_,rfl,iteF ?_⟩
    exact ⟨_,rfl,(s2.trans s3).trans s4⟩
  ·rintro _ H2 ⟨v2,rfl,s2⟩
   exact ⟨_,rfl,q _ _ (S1.trans s2) (hv.keep s2.tups)⟩
def spLinesOf:Sp:=fun vs H Q _=>∃ (fv:V) (F:List (List (Option Int))),vs=[fv]∧IsD H fv (fieldD F)∧RectW F∧∀ (l:Addr) (H':Hp),Same H H'→H l=none→H' l=some (.lst (F.map (V.str ∘ lineOf)))→Q (.ref l) H'
theorem df_lines_of (T:Txt K mg C):Df P w K mg base 3 "lines_of" ["field"] spLinesOf:=by
 refine T.d_lines_of.ok sc_lines_of (fun vs H Q E h=>?_) (fun f cdv A outer s H vs Q E hr h=>?_)
 ·obtain ⟨fv,F,rfl,_⟩:=h
  rfl
 ·obtain ⟨fv,F,rfl,hf,R,q⟩:=h
  obtain ⟨h0,h1,h2,h3,h4,h5⟩:=R
  refine ⟨_,(@pss_one _ _ _ (@ps_ret _ _ _ _ (pe_compIf (M:=[]) (idx:=[]) rfl (pi_seqK (K:=K) rfl (pv 0)) (compOk (by kernel_rfl)) (by decide +kernel) (by first | exact Or.inl rfl | exact Or.inr rfl) (fun _ _ _ _ _=>pts_nil) (fun _ _ _ _ _=>(@pe_df _ _ _ _ _ _ _ _ _ _ (df_row_shown T) (hr.mono (by decide)) (@pa_cons _ _ _ _ _ (pv 0) pa_nil (by rfl)) (by rfl) (by decide) (by rfl) (by rfl)))))),?_⟩
  obtain ⟨fa,xs,rfl,hfa,hxs⟩:=isField_inv hf
  have lxs:xs.length=F.length:=by rw [hxs.length,List.length_map]
  refine Or.inr ?_
  refine ⟨_,rfl,_,rfl,⟨_,SqT.of hfa⟩,?_⟩
  refine compW_tup (xs:=xs) (fun j zs H'=>Same H H'∧zs=(F.take j).map (V.str ∘ lineOf)) ⟨Same.refl _,rfl⟩ (by rw [lxs];exact Nat.le_trans h1 (by decide)) (fun j zs H' _ ⟨s,_⟩=>SqT.of (s _ _ hfa)) ?_ ?_
  ·rintro j y zs H2 hy ⟨s2,rfl⟩
   have hj:j < F.length:=by rw [← lxs];exact (List.getElem?_eq_some_iff.mp hy).1
   obtain ⟨ra,era,hra⟩:=isRows_get hxs hj
   obtain rfl:y = .ref ra:=by rw [hy] at era;exact Option.some.inj era
   have lr:F[j].length=(F.headD []).length:=h2 _ (List.getElem_mem _)
   refine oneT ?_
   refine ⟨_,rfl,ra,F[j],rfl,s2 _ _ hra,by omega,h5 _ (List.getElem_mem _),fun H3 s3=>⟨s2.trans s3,?_⟩⟩
   rw [List.take_add_one,List.getElem?_eq_getElem hj,List.map_append]
   rfl
  ·rintro zs H2 ⟨s2,rfl⟩ l hl
   rw [lxs,List.take_length]
   exact q l _ (s2.trans (same_upd hl)) (s2.free hl) upd_same
def In9 (c:Option Int):Prop:=∀ i,c=some i→-1000000000≤i∧i≤1000000000
theorem In9.wide {c:Option Int}(h:In9 c):CellW c:=fun i e=>by have:=h i e;unfold Wide;omega
def spCellAsked:Sp:=fun vs H Q _=>∃ (c:Option Int),vs=[.str (wordOf c)]∧In9 c∧∀ H',Same H H'→Q (cellV c) H'
theorem df_cell_asked (T:Txt K mg C):Df P w K mg base 3 "cell_asked" ["word"] spCellAsked:=by
 refine T.d_cell_asked.ok sc_cell_asked (fun vs H Q E h=>?_) (fun f cdv A outer s H vs Q E hr h=>?_)
 ·obtain ⟨c,rfl,_⟩:=h
  rfl
 ·obtain ⟨c,rfl,hc,q⟩:=h
  refine ⟨_,(@pss_cons _ _ _ _ _ (@ps_if _ _ _ _ _ _ _ _ (@pt_not _ _ _ _ (@pt_val _ _ _ (@pe_df _ _ _ _ _ _ _ _ _ _ (df_is_cell T) (hr.mono (by decide)) (@pa_cons _ _ _ _ _ (pv 0) pa_nil (by rfl)) (by rfl) (by decide) (by rfl) (by rfl)) (by intro _;rfl))) (@pss_one _ _ _ ps_never) pss_nil)
   (@pss_cons _ _ _ _ _ (@ps_set _ _ 1 _ _ _ _ sc_cell_asked.nd rfl (by first | exact Or.inl rfl | exact Or.inr rfl) (@pe_df _ _ _ _ _ _ _ _ _ _ (df_cell_read T) (hr.mono (by decide)) (@pa_cons _ _ _ _ _ (pv 0) pa_nil (by rfl)) (by rfl) (by decide) (by rfl) (by rfl)) (by rfl) (by first | exact .inl rfl | exact .inr rfl))
   (@pss_cons _ _ _ _ _ (@ps_if _ _ _ _ _ _ _ _ (@pt_not _ _ _ _ (@pt_val _ _ _ (@pe_df _ _ _ _ _ _ _ _ _ _ (df_are_within T) (hr.mono (by decide)) (@pa_cons _ _ _ _ _ (@pe_df _ _ _ _ _ _ _ _ _ _ (df_without_holes T) (hr.mono (by decide)) (@pa_cons _ _ _ _ _ (@pe_tup _ _ _ _ _ (@pa_cons _ _ _ _ _ (pv 1) pa_nil (by rfl))) pa_nil star_tup) (by rfl) (by decide) (by rfl) (by rfl)) (@pa_cons _ _ _ _ _ (@pe_un _ _ _ _ _ _ un_neg (pe_globE (by rfl) T.g_MOST_NUMBER)) (@pa_cons _ _ _ _ _ (pe_globE (by rfl) T.g_MOST_NUMBER) pa_nil (by rfl)) star_un) star_call) (by rfl) (by decide) (by rfl) (by rfl)) (by intro _;rfl))) (@pss_one _ _ _ ps_never) pss_nil)
   (@pss_one _ _ _ (@ps_ret _ _ _ _ (pv 1)))))),?_⟩
  refine ⟨_,rfl,c,rfl,hc.wide,fun H1 s1=>⟨_,rfl,iteF ?_⟩⟩
  dsimp only [tNext,tSeq]
  refine ⟨_,rfl,c,rfl,hc.wide,?_⟩
  dsimp only [gName,List.set]
  refine ⟨_,rfl,(by show 1≤sizeLine;decide),fun p2 hp2=>?_⟩
  have s2:=same_upd (o:=.tup [cellV c]) hp2
  refine ⟨p2,[c],rfl,.inl upd_same,(by show 1≤100000;decide),fun t3 H3 s3 ht3=>?_⟩
  refine ⟨_,rfl,t3,[c].filterMap id,-1000000000,1000000000,rfl,ht3,Nat.le_trans (List.length_filterMap_le _ _) (by show 1≤1000;decide),fun n hn=>?_,fun H4 s4=>?_⟩
  ·obtain ⟨c',hc',e⟩:=List.mem_filterMap.mp hn
   rw [List.mem_singleton.mp hc'] at e
   exact hc n e
  ·refine ⟨_,rfl,iteF ?_⟩
   exact ⟨_,rfl,q _ (((s1.trans s2).trans s3).trans s4)⟩
def spWindowAsked:Sp:=fun vs H Q _=>∃ (l:Addr) (ks:List Int),vs=[.ref l]∧H l=some (.lst (ks.map fun k=>V.str (wordOf (some k))))∧ks.length=4∧(∀ k∈ks,0≤k∧k≤6)∧∀ (t:Addr) (H':Hp),Same H H'→H' t=some (.tup (ks.map V.int))→Q (.ref t) H'
theorem df_window_asked (T:Txt K mg C):Df P w K mg base 3 "window_asked" ["words"] spWindowAsked:=by
 refine T.d_window_asked.ok sc_window_asked (fun vs H Q E h=>?_) (fun f cdv A outer s H vs Q E hr h=>?_)
 ·obtain ⟨l,ks,rfl,_⟩:=h
  rfl
 ·obtain ⟨l,ks,rfl,hl,l4,hk,q⟩:=h
  refine ⟨_,(@pss_cons _ _ _ _ _ (@ps_set _ _ 1 _ _ _ _ sc_window_asked.nd rfl (by first | exact Or.inl rfl | exact Or.inr rfl) (@pe_df _ _ _ _ _ _ _ _ _ _ (df_numbers_asked T) (hr.mono (by decide)) (@pa_cons _ _ _ _ _ (pv 0) (@pa_cons _ _ _ _ _ pe_int pa_nil (by rfl)) (by rfl)) (by rfl) (by decide) (by rfl) (by rfl)) (by rfl) (by first | exact .inl rfl | exact .inr rfl))
   (@pss_cons _ _ _ _ _ (@ps_if _ _ _ _ _ _ _ _ (@pt_not _ _ _ _ (@pt_val _ _ _ (@pe_df _ _ _ _ _ _ _ _ _ _ (df_are_within T) (hr.mono (by decide)) (@pa_cons _ _ _ _ _ (pv 1) (@pa_cons _ _ _ _ _ pe_int (@pa_cons _ _ _ _ _ (pe_globE (by rfl) T.g_MOST_SIDE) pa_nil (by rfl)) (by rfl)) (by rfl)) (by rfl) (by decide) (by rfl) (by rfl)) (by intro _;rfl))) (@pss_one _ _ _ ps_never) pss_nil)
   (@pss_one _ _ _ (@ps_ret _ _ _ _ (pv 1))))),?_⟩
  refine ⟨_,rfl,l,ks,(by rw [l4];rfl),hl,by omega,fun k h=>by have:=hk k h;unfold Wide;omega,fun t H1 s1 ht=>?_⟩
  dsimp only [gName,List.set]
  refine ⟨_,rfl,t,ks,0,6,rfl,ht,by omega,hk,fun H2 s2=>⟨_,rfl,iteF ?_⟩⟩
  exact ⟨_,rfl,q t _ (s1.trans s2) (s2 _ _ ht)⟩
def spShareAsked:Sp:=fun vs H Q _=>∃ (l:Addr) (a b:Int),vs=[.ref l]∧H l=some (.lst [.str (wordOf (some a)),.str (wordOf (some b))])∧1≤b∧b≤1000∧0≤a∧a≤b∧∀ (t:Addr) (H':Hp),Same H H'→H' t=some (.tup [.int a,.int b])→Q (.ref t) H'
theorem df_share_asked (T:Txt K mg C):Df P w K mg base 3 "share_asked" ["words"] spShareAsked:=by
 refine T.d_share_asked.ok sc_share_asked (fun vs H Q E h=>?_) (fun f cdv A outer s H vs Q E hr h=>?_)
 ·obtain ⟨l,a,b,rfl,_⟩:=h
  rfl
 ·obtain ⟨l,a,b,rfl,hl,b1,b2,a1,a2,q⟩:=h
  refine ⟨_,(@pss_cons _ _ _ _ _ (@ps_set _ _ 1 _ _ _ _ sc_share_asked.nd rfl (by first | exact Or.inl rfl | exact Or.inr rfl) (@pe_df _ _ _ _ _ _ _ _ _ _ (df_numbers_asked T) (hr.mono (by decide)) (@pa_cons _ _ _ _ _ (pv 0) (@pa_cons _ _ _ _ _ pe_int pa_nil (by rfl)) (by rfl)) (by rfl) (by decide) (by rfl) (by rfl)) (by rfl) (by first | exact .inl rfl | exact .inr rfl))
   (@pss_cons _ _ _ _ _ (@ps_if _ _ _ _ _ _ _ _ (pw_or (@pt_not _ _ _ _ (pt_chain op_le op_le pe_int (@pe_ix _ _ _ _ _ _ _ (ix_seqK (K:=K) rfl) (pv 1) pe_int (fun _ _=>rfl)) (pe_globE (by rfl) T.g_MOST_SHARE))) (pw_or1 (@pt_not _ _ _ _ (pt_chain op_le op_le pe_int (@pe_ix _ _ _ _ _ _ _ (ix_seqK (K:=K) rfl) (pv 1) pe_int (fun _ _=>rfl)) (@pe_ix _ _ _ _ _ _ _ (ix_seqK (K:=K) rfl) (pv 1) pe_int (fun _ _=>rfl)))))).pt (@pss_one _ _ _ ps_never) pss_nil)
   (@pss_one _ _ _ (@ps_ret _ _ _ _ (pv 1))))),?_⟩
  refine ⟨_,rfl,l,[a,b],rfl,hl,(by show 2≤100;decide),fun k h=>?_,fun t H1 s1 ht=>?_⟩
  ·simp only [List.mem_cons,List.not_mem_nil,or_false] at h
   unfold Wide
   omega
  dsimp only [gName,List.set]
  have nn:∀ {p:Prop} [Decidable p],p→¬ (!decide p)=true:=fun {p} _ h z=>by rw [decide_eq_true h] at z;cases z
  refine ⟨_,rfl,Or.inr (Or.inl ⟨_,_,_,_,rfl,rfl,SqT.of ht,rfl,_,_,rfl,rfl,_,rfl,?_⟩)⟩
  refine ite2 (fun _=>?_) (fun z=>absurd (decide_eq_true b1) z)
  refine ⟨_,_,rfl,rfl,_,rfl,ite2 (fun z=>absurd z (nn b2)) fun _=>?_⟩
  refine ⟨_,rfl,Or.inr (Or.inl ⟨_,_,_,_,rfl,rfl,SqT.of ht,rfl,_,_,rfl,rfl,_,rfl,?_⟩)⟩
  refine ite2 (fun _=>?_) (fun z=>absurd (decide_eq_true a1) z)
  refine ⟨_,rfl,Or.inr (Or.inl ⟨_,_,_,_,rfl,rfl,SqT.of ht,rfl,_,_,rfl,rfl,_,rfl,ite2 (fun z=>absurd z (nn a2)) fun _=>?_⟩)⟩
  exact ⟨_,rfl,q t _ s1 ht⟩
def ruleW:Rule→List Str
 | .there=>["there"]
 | .near=>["near"]
 | .turned=>["turned"]
 | .round=>["round"]
 | .told c=>["told",wordOf c]
def spRuleAsked:Sp:=fun vs H Q _=>∃ (l:Addr) (ru:Rule),vs=[.ref l]∧H l=some (.lst ((ruleW ru).map V.str))∧(∀ c,ru = .told c→In9 c)∧∀ (v:V) (H':Hp),Same H H'→IsD H' v (ruleD ru)→Q v H'
theorem df_rule_asked (T:Txt K mg C):Df P w K mg base 4 "rule_asked" ["words"] spRuleAsked:=by
 refine T.d_rule_asked.ok sc_rule_asked (fun vs H Q E h=>?_) (fun f cdv A outer s H vs Q E hr h=>?_)
 ·obtain ⟨l,ru,rfl,_⟩:=h
  rfl
 ·obtain ⟨l,ru,rfl,hl,hc,q⟩:=h
  have plain:∀ x:Str,H l=some (.lst [.str x])→inV (.str x) [V.str "there",V.str "near",V.str "turned",V.str "round"]=true→IsD H (.str x) (ruleD ru)→∃ t,PSs (cxOf CX0 P w K mg base ["words"] "rule_asked" (defScope s_rule_asked) f cdv A outer s H E).nox (defBody s_rule_asked) t∧t { nx:=fun _ H'=>Q .non H',rt:=Q } (start ["words"] [.ref l]) H:=fun x hl hx hd=>by
   refine ⟨_,(@pss_cons _ _ _ _ _ (@ps_if _ _ _ _ _ _ _ _ (pw_and (@pt_cmpR _ _ _ _ _ _ _ _ (op_eqA hr.units) (@pe_callB _ _ _ _ _ _ _ _ _ (call_lenK (K:=K) rfl) (by rfl) T.n_len bt_len (@pa_cons _ _ _ _ _ (pv 0) pa_nil (by rfl)) (by decide) (by decide) (by rfl) (by rfl)) pe_int (nomark _)) (pw_and1 (@pt_cmpR _ _ _ _ _ _ _ _ (op_in_seqK (K:=K) rfl) (@pe_ix _ _ _ _ _ _ _ (ix_seqK (K:=K) rfl) (pv 0) pe_int (fun _ _=>rfl)) (pe_globK (K:=K) rfl (by rfl) T.g_PLAIN_RULES) (by rfl)))).pt (@pss_one _ _ _ (@ps_ret _ _ _ _ (@pe_ix _ _ _ _ _ _ _ (ix_seqK (K:=K) rfl) (pv 0) pe_int (fun _ _=>rfl)))) pss_nil)
   (@pss_cons _ _ _ _ _ (@ps_if _ _ _ _ _ _ _ _ (pw_and (@pt_cmpR _ _ _ _ _ _ _ _ (op_eqA hr.units) (@pe_callB _ _ _ _ _ _ _ _ _ (call_lenK (K:=K) rfl) (by rfl) T.n_len bt_len (@pa_cons _ _ _ _ _ (pv 0) pa_nil (by rfl)) (by decide) (by decide) (by rfl) (by rfl)) pe_int (nomark _)) (pw_and1 (@pt_cmpR _ _ _ _ _ _ _ _ (op_eqA hr.units) (@pe_ix _ _ _ _ _ _ _ (ix_seqK (K:=K) rfl) (pv 0) pe_int (fun _ _=>rfl)) pe_str (nomark _)))).pt (@pss_one _ _ _ (@ps_ret _ _ _ _ (@pe_tup _ _ _ _ _ (@pa_cons _ _ _ _ _ pe_str (@pa_cons _ _ _ _ _ (@pe_df _ _ _ _ _ _ _ _ _ _ (df_cell_asked T) (hr.mono (by decide)) (@pa_cons _ _ _ _ _ (@pe_ix _ _ _ _ _ _ _ (ix_seqK (K:=K) rfl) (pv 0) pe_int (fun _ _=>rfl)) pa_nil star_sub) (by rfl) (by decide) (by rfl) (by rfl)) pa_nil star_call) (by rfl))))) pss_nil)
   (@pss_one _ _ _ ps_never))),?_⟩
   refine ⟨_,rfl,_,_,rfl,Or.inl ⟨_,SqL.of hl,rfl⟩,Or.inl ⟨rfl,_,rfl,?_⟩⟩
   refine ite2 (fun _=>?_) (fun z=>absurd (decide_eq_true rfl) z)
   refine ⟨_,rfl,Or.inl ⟨_,_,_,_,rfl,rfl,SqL.of hl,rfl,fun p hp=>⟨p,_,rfl,Or.inr hp.sq,rfl,rfl,_,rfl,ite2 (fun _=>?_) (fun z=>absurd hx z)⟩⟩⟩
   exact ⟨_,rfl,Or.inl ⟨_,_,_,_,rfl,rfl,SqL.of hl,rfl,q _ _ (Same.refl _) hd⟩⟩
  cases ru with
  | there=>exact plain "there" hl (by decide +kernel) (.str _)
  | near=>exact plain "near" hl (by decide +kernel) (.str _)
  | turned=>exact plain "turned" hl (by decide +kernel) (.str _)
  | round=>exact plain "round" hl (by decide +kernel) (.str _)
  | told c =>
   refine ⟨_,(@pss_cons _ _ _ _ _ (@ps_if _ _ _ _ _ _ _ _ (pw_and (@pt_cmpR _ _ _ _ _ _ _ _ (op_eqA hr.units) (@pe_callB _ _ _ _ _ _ _ _ _ (call_lenK (K:=K) rfl) (by rfl) T.n_len bt_len (@pa_cons _ _ _ _ _ (pv 0) pa_nil (by rfl)) (by decide) (by decide) (by rfl) (by rfl)) pe_int (nomark _)) (pw_and1 (@pt_cmpR _ _ _ _ _ _ _ _ (op_in_seqK (K:=K) rfl) (@pe_ix _ _ _ _ _ _ _ (ix_seqK (K:=K) rfl) (pv 0) pe_int (fun _ _=>rfl)) (pe_globK (K:=K) rfl (by rfl) T.g_PLAIN_RULES) (by rfl)))).pt (@pss_one _ _ _ (@ps_ret _ _ _ _ (@pe_ix _ _ _ _ _ _ _ (ix_seqK (K:=K) rfl) (pv 0) pe_int (fun _ _=>rfl)))) pss_nil)
   (@pss_cons _ _ _ _ _ (@ps_if _ _ _ _ _ _ _ _ (pw_and (@pt_cmpR _ _ _ _ _ _ _ _ (op_eqA hr.units) (@pe_callB _ _ _ _ _ _ _ _ _ (call_lenK (K:=K) rfl) (by rfl) T.n_len bt_len (@pa_cons _ _ _ _ _ (pv 0) pa_nil (by rfl)) (by decide) (by decide) (by rfl) (by rfl)) pe_int (nomark _)) (pw_and1 (@pt_cmpR _ _ _ _ _ _ _ _ (op_eqA hr.units) (@pe_ix _ _ _ _ _ _ _ (ix_seqK (K:=K) rfl) (pv 0) pe_int (fun _ _=>rfl)) pe_str (nomark _)))).pt (@pss_one _ _ _ (@ps_ret _ _ _ _ (@pe_tup _ _ _ _ _ (@pa_cons _ _ _ _ _ pe_str (@pa_cons _ _ _ _ _ (@pe_df _ _ _ _ _ _ _ _ _ _ (df_cell_asked T) (hr.mono (by decide)) (@pa_cons _ _ _ _ _ (@pe_ix _ _ _ _ _ _ _ (ix_seqK (K:=K) rfl) (pv 0) pe_int (fun _ _=>rfl)) pa_nil star_sub) (by rfl) (by decide) (by rfl) (by rfl)) pa_nil star_call) (by rfl))))) pss_nil)
   (@pss_one _ _ _ ps_never))),?_⟩
   have hl:H l=some (.lst [.str "told",.str (wordOf c)]):=hl
   refine ⟨_,rfl,_,_,rfl,Or.inl ⟨_,SqL.of hl,rfl⟩,Or.inl ⟨rfl,_,rfl,?_⟩⟩
   refine ite2 (fun z=>absurd (V.int.inj (of_decide_eq_true z)) (by show ¬ ((2:Nat):Int)=1;decide)) (fun _=>?_)
   refine iteF ?_
   dsimp only [tNext,tSeq]
   refine ⟨_,rfl,_,_,rfl,Or.inl ⟨_,SqL.of hl,rfl⟩,Or.inl ⟨rfl,_,rfl,?_⟩⟩
   refine ite2 (fun _=>?_) (fun z=>absurd (decide_eq_true rfl) z)
   refine ⟨_,rfl,Or.inl ⟨_,_,_,_,rfl,rfl,SqL.of hl,rfl,Or.inl ⟨rfl,_,rfl,ite2 (fun _=>?_) (fun z=>absurd (eqS rfl) z)⟩⟩⟩
   refine ⟨_,rfl,Or.inl ⟨_,_,_,_,rfl,rfl,SqL.of hl,rfl,?_⟩⟩
   refine ⟨c,rfl,hc c rfl,fun H1 s1=>?_⟩
   refine ⟨(by show 2≤sizeLine;decide),fun t ht=>?_⟩
   exact q (.ref t) _ (s1.trans (same_upd ht)) (.tup upd_same (.cons (.str _) (isCells [c])))
def dkF (fv wv rv sv:V):List (Str × V):=[("field",fv),("window",wv),("rule",rv),("share",sv)]
theorem putF_new (f:Str)(v:V):∀ (fs:List (Str × V)) (ns:List Str),fs.map (·.1)=ns→(ns.all fun g=>!decide (g=f))=true→putF f v fs=fs ++ [(f,v)]
 | [],_,_,_=>rfl
 | (g,x) :: r,ns,e,h=>by
  subst e
  rw [List.map_cons,List.all_cons,Bool.and_eq_true] at h
  have ng:¬ g=f:=fun e=>by
   have:=h.1
   rw [decide_eq_true (show g=f from e)] at this
   exact absurd this (by decide)
  show (if g=f then (g,v) :: r else (g,x) :: putF f v r)=_
  rw [if_neg ng,putF_new f v r _ rfl h.2]
  rfl
section
variable (fv wv rv sv gv:V)
theorem dk_field:(dkF fv wv rv sv).lookup ("field" : Str)=some fv:=rfl
theorem dk_window:(dkF fv wv rv sv).lookup ("window" : Str)=some wv:=rfl
theorem dk_rule:(dkF fv wv rv sv).lookup ("rule" : Str)=some rv:=rfl
theorem dk_share:(dkF fv wv rv sv).lookup ("share" : Str)=some sv:=rfl
theorem dk_put_field:putF "field" gv (dkF fv wv rv sv)=dkF gv wv rv sv:=rfl
theorem dk_put_window:putF "window" gv (dkF fv wv rv sv)=dkF fv gv rv sv:=rfl
theorem dk_put_rule:putF "rule" gv (dkF fv wv rv sv)=dkF fv wv gv sv:=rfl
theorem dk_put_share:putF "share" gv (dkF fv wv rv sv)=dkF fv wv rv gv:=rfl
theorem dk_no_lines_told:(dkF fv wv rv sv).lookup ("lines_told" : Str)=none:=rfl
theorem dk_no_lines_at:(dkF fv wv rv sv).lookup ("lines_at" : Str)=none:=rfl
theorem dk_no_change_by:(dkF fv wv rv sv).lookup ("change_by" : Str)=none:=rfl
theorem dk_no_change_cell:(dkF fv wv rv sv).lookup ("change_cell" : Str)=none:=rfl
theorem dk_no_filtered_field:(dkF fv wv rv sv).lookup ("filtered_field" : Str)=none:=rfl
theorem dk_no_ask:(dkF fv wv rv sv).lookup ("ask" : Str)=none:=rfl
end
theorem but_upd (H:Hp)(x:Addr)(o:HO):KeepBut x H (upd H x o):=fun b u e n=>by rw [upd_ne n];exact e
structure Dsk where
 F:List (List (Option Int))
 ru:Rule
 u:Nat
 d:Nat
 l:Nat
 r:Nat
 a:Int
 b:Int
structure DskOk (D:Dsk):Prop where
 rect:Rect D.F
 rc:∀ c,D.ru = .told c→In9 c
 fh:D.F.length ≤ 12
 fw:(D.F.headD []).length ≤ 12
 c9:∀ r∈D.F,∀ c∈r,In9 c
 sh:Share D.a D.b
 bb:D.u ≤ 6∧D.d ≤ 6∧D.l ≤ 6∧D.r ≤ 6
structure DkAt (C:Addr)(H:Hp)(x dy:Addr)(fv wv rv sv:V)(D:Dsk):Prop where
 at_:H x=some (.ins C dy (dkF fv wv rv sv))
 fd_:IsD H fv (fieldD D.F)
 wd_:IsD H wv (winD D.u D.d D.l D.r)
 rl_:IsD H rv (ruleD D.ru)
 sd_:IsD H sv (placeD (D.a,D.b))
 ok:DskOk D
theorem DkAt.keep {C x dy:Addr}{H H':Hp}{fv wv rv sv:V}{D:Dsk}(k:DkAt C H x dy fv wv rv sv D)(t:KeepT H H')(e:H' x=some (.ins C dy (dkF fv wv rv sv))):DkAt C H' x dy fv wv rv sv D :=
 ⟨e,k.fd_.keep t,k.wd_.keep t,k.rl_.keep t,k.sd_.keep t,k.ok⟩
theorem DkAt.same {C x dy:Addr}{H H':Hp}{fv wv rv sv:V}{D:Dsk}(k:DkAt C H x dy fv wv rv sv D)(s:Same H H'):DkAt C H' x dy fv wv rv sv D:=k.keep s.tups (s _ _ k.at_)
def filD (D:Dsk):List (List (Option Int)):=fil D.F D.ru D.u D.d D.l D.r D.a D.b
def spFFil (C:Addr):Sp:=fun vs H Q _=>∃ (x dy:Addr) (fv wv rv sv:V) (D:Dsk),vs=[.ref x]∧DkAt C H x dy fv wv rv sv D∧∀ (v:V) (H':Hp),Same H H'→IsD H' v (fieldD (filD D))→Q v H'
theorem df_Desk_filtered_field (T:Txt K mg C):DfM P w K mg base 5 C "filtered_field" ["self"] (spFFil C):=by
 refine T.m_Desk_filtered_field.ok sc_Desk_filtered_field (fun vs H Q E h=>?_) (fun f cdv A outer s H vs Q E hr h=>?_)
 ·obtain ⟨x,dy,fv,wv,rv,sv,D,rfl,_⟩:=h
  rfl
 ·obtain ⟨x,dy,fv,wv,rv,sv,D,rfl,k,q⟩:=h
  refine ⟨_,(@pss_one _ _ _ (@ps_ret _ _ _ _ (@pe_df _ _ _ _ _ _ _ _ _ _ (df_filtered T) (hr.mono (by decide)) (@pa_cons _ _ _ _ _ (pe_fldK (K:=K) rfl (pv 0) (by rfl)) (@pa_cons _ _ _ _ _ (pe_fldK (K:=K) rfl (pv 0) (by rfl)) (@pa_cons _ _ _ _ _ (pe_fldK (K:=K) rfl (pv 0) (by rfl)) (@pa_cons _ _ _ _ _ (pe_fldK (K:=K) rfl (pv 0) (by rfl)) pa_nil (by rfl)) (by rfl)) (by rfl)) (by rfl)) (by rfl) (by decide) (by rfl) (by rfl)))),?_⟩
  have bb:=k.ok.bb
  refine ⟨_,rfl,x,C,dy,_,_,rfl,k.at_,T.cl_Desk,T.a_field,dk_field ..,?_⟩
  refine ⟨_,rfl,x,C,dy,_,_,rfl,k.at_,T.cl_Desk,T.a_window,dk_window ..,?_⟩
  refine ⟨_,rfl,x,C,dy,_,_,rfl,k.at_,T.cl_Desk,T.a_rule,dk_rule ..,?_⟩
  refine ⟨_,rfl,x,C,dy,_,_,rfl,k.at_,T.cl_Desk,T.a_share,dk_share ..,?_⟩
  exact ⟨fv,wv,rv,sv,D.F,D.ru,D.u,D.d,D.l,D.r,D.a,D.b,rfl,k.ok.rect,k.fd_,k.wd_,k.rl_,Shr.of k.sd_,k.ok.sh,⟨by omega,by omega,by omega,by omega⟩,fun v H' s h=>q v H' s h⟩
def spChangeCell (C:Addr):Sp:=fun vs H Q _=>∃ (x dy lw:Addr) (fv wv rv sv:V) (D:Dsk) (i j:Nat) (c:Option Int),vs=[.ref x,.ref lw]∧DkAt C H x dy fv wv rv sv D∧H lw=some (.lst [.str (wordOf (some (i:Int))),.str (wordOf (some (j:Int))),.str (wordOf c)])∧i < D.F.length ∧ j < (D.F.headD []).length ∧ In9 c ∧
 ∀ (gv:V) (H':Hp),KeepBut x H H'→H' x=some (.ins C dy (dkF gv wv rv sv))→IsD H' gv (fieldD (putC D.F i j c))→Q .non H'
theorem df_Desk_change_cell (T:Txt K mg C):DfM P w K mg base 4 C "change_cell" ["self","words"] (spChangeCell C):=by
 refine T.m_Desk_change_cell.ok sc_Desk_change_cell (fun vs H Q E h=>?_) (fun f cdv A outer s H vs Q E hr h=>?_)
 ·obtain ⟨x,dy,lw,fv,wv,rv,sv,D,i,j,c,rfl,_⟩:=h
  rfl
 ·obtain ⟨x,dy,lw,fv,wv,rv,sv,D,i,j,c,rfl,k,hlw,hi,hj,hc,q⟩:=h
  refine ⟨_,(@pss_cons _ _ _ _ _ (@ps_set _ _ 2 _ _ _ _ sc_Desk_change_cell.nd rfl (by first | exact Or.inl rfl | exact Or.inr rfl) (@pe_df _ _ _ _ _ _ _ _ _ _ (df_numbers_asked T) (hr.mono (by decide)) (@pa_cons _ _ _ _ _ (pe_slice (sl_X (K:=K) rfl) (pv 1) po_none (po_some (@pe_un _ _ _ _ _ _ un_neg pe_int))) (@pa_cons _ _ _ _ _ pe_int pa_nil (by rfl)) star_sub) (by rfl) (by decide) (by rfl) (by rfl)) (by rfl) (by first | exact .inl rfl | exact .inr rfl))
   (@pss_cons _ _ _ _ _ (@ps_set _ _ 3 _ _ _ _ sc_Desk_change_cell.nd rfl (by first | exact Or.inl rfl | exact Or.inr rfl) (@pe_df _ _ _ _ _ _ _ _ _ _ (df_cell_asked T) (hr.mono (by decide)) (@pa_cons _ _ _ _ _ (@pe_ix _ _ _ _ _ _ _ (ix_seqK (K:=K) rfl) (pv 1) (@pe_un _ _ _ _ _ _ un_neg pe_int) (fun _ _=>rfl)) pa_nil star_sub) (by rfl) (by decide) (by rfl) (by rfl)) (by rfl) (by first | exact .inl rfl | exact .inr rfl))
   (@pss_one _ _ _ (ps_fld (pv 0) (@pe_df _ _ _ _ _ _ _ _ _ _ (df_field_with T) (hr.mono (by decide)) (@pa_cons _ _ _ _ _ (pe_fldK (K:=K) rfl (pv 0) (by rfl)) (@pa_cons _ _ _ _ _ (@pe_ix _ _ _ _ _ _ _ (ix_seqK (K:=K) rfl) (pv 2) pe_int (fun _ _=>rfl)) (@pa_cons _ _ _ _ _ (@pe_ix _ _ _ _ _ _ _ (ix_seqK (K:=K) rfl) (pv 2) pe_int (fun _ _=>rfl)) (@pa_cons _ _ _ _ _ (pv 3) pa_nil (by rfl)) star_sub) star_sub) (by rfl)) (by rfl) (by decide) (by rfl) (by rfl)) rfl)))),?_⟩
  have fh:=k.ok.fh;have fw:=k.ok.fw
  refine ⟨_,rfl,_,rfl,_,rfl,Or.inl ⟨_,_,rfl,SqL.of hlw,fun l1 hl1=>?_⟩⟩
  have s1:=same_upd (o:=.lst (cutV [V.str (wordOf (some (i:Int))),V.str (wordOf (some (j:Int))),V.str (wordOf c)] none (some (-1)))) hl1
  refine ⟨l1,[(i:Int),(j:Int)],rfl,upd_same,(by show 2≤100;decide),fun k hk=>?_,fun t2 H2 s2 ht2=>?_⟩
  ·simp only [List.mem_cons,List.not_mem_nil,or_false] at hk
   unfold Wide
   omega
  dsimp only [gName,List.set]
  have S2:=s1.trans s2
  refine ⟨_,rfl,_,rfl,Or.inl ⟨_,_,_,_,rfl,rfl,SqL.of (S2 _ _ hlw),rfl,?_⟩⟩
  refine ⟨c,rfl,hc,fun H3 s3=>?_⟩
  dsimp only [gName,List.set]
  have S3:=S2.trans s3
  refine ⟨_,rfl,x,C,dy,_,_,rfl,S3 _ _ k.at_,T.cl_Desk,T.a_field,dk_field ..,?_⟩
  refine ⟨_,rfl,Or.inr (Or.inl ⟨_,_,_,_,rfl,rfl,SqT.of (s3 _ _ ht2),rfl,?_⟩)⟩
  refine ⟨_,rfl,Or.inr (Or.inl ⟨_,_,_,_,rfl,rfl,SqT.of (s3 _ _ ht2),rfl,_,rfl,?_⟩)⟩
  refine ⟨fv,D.F,i,j,c,rfl,k.ok.rect,k.fd_.keep S3.tups,hi,hj,fun gv H4 s4 hg=>?_⟩
  have S4:=S3.trans s4
  refine ⟨_,rfl,x,C,dy,_,rfl,S4 _ _ k.at_,T.cl_Desk,T.a_field,(by show 4 < 1000;decide),?_⟩
  rw [dk_put_field]
  have b5:=but_upd H4 x (.ins C dy (dkF gv wv rv sv))
  have t5:KeepT H4 (upd H4 x (.ins C dy (dkF gv wv rv sv))):=fun b ws e=>b5 _ _ e (ne_of e (S4 _ _ k.at_) fun z=>by cases z)
  exact q gv _ ((S4.but x).trans b5) upd_same (hg.keep t5)
theorem DskOk.rectW {D:Dsk}(k:DskOk D):RectW D.F:=by
 have R:=k.rect
 have h1:=R.h1;have w1:=R.w1;have fh:=k.fh;have fw:=k.fw
 exact ⟨fun e=>by rw [e] at h1;simp at h1,by omega,R.row,w1,by omega,fun r hr c hc=>(k.c9 r hr c hc).wide⟩
theorem in9_none:In9 none:=fun i e=>by cases e
theorem cellAt_in9 {F:List (List (Option Int))}(h:∀ r∈F,∀ c∈r,In9 c)(i j:Int):In9 (cellAt F i j):=by
 unfold cellAt
 cases e1:F[i.toNat]? with
 | none=>exact in9_none
 | some r =>
  show In9 (r[j.toNat]?).join
  cases e2:r[j.toNat]? with
  | none=>exact in9_none
  | some c=>exact h r (List.mem_of_getElem? e1) c (List.mem_of_getElem? e2)
theorem stands_in9 {D:Dsk}(k:DskOk D){i j:Int}:∀ c∈stands D.F D.ru i j,In9 c:=fun c hc=>by
 have g:∀ a b:Int,In9 (cellAt D.F a b):=fun a b=>cellAt_in9 k.c9 a b
 have rc:=k.rc
 unfold stands at hc
 split at hc
 ·rw [List.mem_singleton.mp hc];exact g _ _
 ·cases e:D.ru with
  | there=>rw [e] at hc;cases hc
  | told x=>rw [e] at hc;rw [List.mem_singleton.mp hc];exact rc x e
  | near=>rw [e] at hc;rw [List.mem_singleton.mp hc];exact g _ _
  | turned=>rw [e] at hc;rw [List.mem_singleton.mp hc];exact g _ _
  | round=>rw [e] at hc;rw [List.mem_singleton.mp hc];exact g _ _
theorem wc_in9 {D:Dsk}(k:DskOk D){i j:Int}:∀ c∈wc D.F D.ru D.u D.d D.l D.r i j,In9 c:=fun c hc=>by
 unfold wc rowCells at hc
 obtain ⟨a,_,h2⟩:=List.mem_flatMap.mp hc
 obtain ⟨b,_,h3⟩:=List.mem_flatMap.mp h2
 exact stands_in9 k c h3
theorem filAt_in9 {D:Dsk}(k:DskOk D)(i j:Int):In9 (filAt D.F D.ru D.u D.d D.l D.r D.a D.b i j):=fun x e=>by
 unfold filAt at e
 have h:=manieth_mem e
 unfold numsAt at h
 obtain ⟨c,hc,e2⟩:=List.mem_filterMap.mp h
 exact wc_in9 k c hc x e2
theorem DskOk.fil {D:Dsk}(k:DskOk D):DskOk { D with F:=filD D }:=by
 have R:=k.rect
 have e1:(filD D).length=D.F.length:=fil_len ..
 have e2:wideF (filD D)=wideF D.F:=fil_wide R
 refine ⟨R.fil _ _ _ _ _ _ _,k.rc,by show (filD D).length ≤ 12;rw [e1];exact k.fh,by show wideF (filD D)≤12;rw [e2];exact k.fw,fun r hr c hc=>?_,k.sh,k.bb⟩
 have hr:r∈filD D:=hr
 unfold filD L2.fil at hr
 obtain ⟨i,_,rfl⟩:=List.mem_map.mp hr
 obtain ⟨j,_,rfl⟩:=List.mem_map.mp hc
 exact filAt_in9 k _ _
theorem DskOk.put {D:Dsk}(k:DskOk D){i j:Nat}{c:Option Int}(hi:i < D.F.length)(hj:j < (D.F.headD []).length)(hc:In9 c):DskOk { D with F:=putC D.F i j c }:=by
 obtain ⟨RP,LP,WP⟩:=putC_rect k.rect hi hj c
 refine ⟨RP,k.rc,by show (putC D.F i j c).length ≤ 12;rw [LP];exact k.fh,by show ((putC D.F i j c).headD []).length ≤ 12;rw [WP];exact k.fw,fun r hr x hx=>?_,k.sh,k.bb⟩
 have hr:r∈putC D.F i j c:=hr
 unfold putC at hr
 rw [List.getElem?_eq_getElem hi] at hr
 simp only [List.mem_append,List.mem_singleton,Option.getD_some] at hr
 rcases hr with (hr | rfl) | hr
 ·exact k.c9 r (List.mem_of_mem_take hr) x hx
 ·simp only [List.mem_append,List.mem_singleton] at hx
  rcases hx with (hx | rfl) | hx
  ·exact k.c9 _ (List.getElem_mem hi) x (List.mem_of_mem_take hx)
  ·exact hc
  ·exact k.c9 _ (List.getElem_mem hi) x (List.mem_of_mem_drop hx)
 ·exact k.c9 r (List.mem_of_mem_drop hr) x hx
inductive Deed where
 | window (u d l r:Nat)
 | edge (ru:Rule)
 | share (a b:Int)
 | cell (i j:Nat) (c:Option Int)
 | take
def deedW:Deed→Str × List Str
 | .window u d l r=>("window",[wordOf (some (u:Int)),wordOf (some (d:Int)),wordOf (some (l:Int)),wordOf (some (r:Int))])
 | .edge ru=>("edge",ruleW ru)
 | .share a b=>("share",[wordOf (some a),wordOf (some b)])
 | .cell i j c=>("cell",[wordOf (some (i:Int)),wordOf (some (j:Int)),wordOf c])
 | .take=>("take",[])
def deedOk (D:Dsk):Deed→Prop
 | .window u d l r=>u≤6∧d≤6∧l≤6∧r≤6
 | .edge ru=>∀ c,ru = .told c→In9 c
 | .share a b=>Share a b∧b≤1000
 | .cell i j c=>i < D.F.length ∧ j < (D.F.headD []).length ∧ In9 c
 | .take=>True
def deedTo (D:Dsk):Deed→Dsk
 | .window u d l r=>{ D with u:=u,d:=d,l:=l,r:=r }
 | .edge ru=>{ D with ru:=ru }
 | .share a b=>{ D with a:=a,b:=b }
 | .cell i j c=>{ D with F:=putC D.F i j c }
 | .take=>{ D with F:=filD D }
theorem deed_ok {D:Dsk}(k:DskOk D){δ:Deed}(h:deedOk D δ):DskOk (deedTo D δ):=by
 cases δ with
 | window u d l r=>exact ⟨k.rect,k.rc,k.fh,k.fw,k.c9,k.sh,h⟩
 | edge ru=>exact ⟨k.rect,h,k.fh,k.fw,k.c9,k.sh,k.bb⟩
 | share a b=>exact ⟨k.rect,k.rc,k.fh,k.fw,k.c9,h.1,k.bb⟩
 | cell i j c=>exact k.put h.1 h.2.1 h.2.2
 | take=>exact k.fil
theorem s_ew:¬ ("edge" : Str) = "window":=by decide +kernel
theorem s_sw:¬ ("share" : Str) = "window":=by decide +kernel
theorem s_se:¬ ("share" : Str) = "edge":=by decide +kernel
theorem s_cw:¬ ("cell" : Str) = "window":=by decide +kernel
theorem s_ce:¬ ("cell" : Str) = "edge":=by decide +kernel
theorem s_cs:¬ ("cell" : Str) = "share":=by decide +kernel
def spChangeBy (C:Addr):Sp:=fun vs H Q _=>∃ (x dy lw:Addr) (fv wv rv sv:V) (D:Dsk) (δ:Deed),vs=[.ref x,.str (deedW δ).1,.ref lw]∧DkAt C H x dy fv wv rv sv D∧H lw=some (.lst ((deedW δ).2.map V.str))∧deedOk D δ ∧
 ∀ (fv' wv' rv' sv':V) (H':Hp),KeepBut x H H'→DkAt C H' x dy fv' wv' rv' sv' (deedTo D δ)→Q .non H'
theorem df_Desk_change_by (T:Txt K mg C):DfM P w K mg base 6 C "change_by" ["self","word","words"] (spChangeBy C):=by
 refine T.m_Desk_change_by.ok sc_Desk_change_by (fun vs H Q E h=>?_) (fun f cdv A outer s H vs Q E hr h=>?_)
 ·obtain ⟨x,dy,lw,fv,wv,rv,sv,D,δ,rfl,_⟩:=h
  rfl
 ·obtain ⟨x,dy,lw,fv,wv,rv,sv,D,δ,rfl,k,hlw,hδ,q⟩:=h
  refine ⟨_,(@pss_one _ _ _ (@ps_if _ _ _ _ _ _ _ _ (@pt_cmpR _ _ _ _ _ _ _ _ (op_eqA hr.units) (pv 1) pe_str (nomark _)) (@pss_one _ _ _ (ps_fld (pv 0) (@pe_df _ _ _ _ _ _ _ _ _ _ (df_window_asked T) (hr.mono (by decide)) (@pa_cons _ _ _ _ _ (pv 2) pa_nil (by rfl)) (by rfl) (by decide) (by rfl) (by rfl)) rfl)) (@pss_one _ _ _ (@ps_if _ _ _ _ _ _ _ _ (@pt_cmpR _ _ _ _ _ _ _ _ (op_eqA hr.units) (pv 1) pe_str (nomark _)) (@pss_one _ _ _ (ps_fld (pv 0) (@pe_df _ _ _ _ _ _ _ _ _ _ (df_rule_asked T) (hr.mono (by decide)) (@pa_cons _ _ _ _ _ (pv 2) pa_nil (by rfl)) (by rfl) (by decide) (by rfl) (by rfl)) rfl)) (@pss_one _ _ _ (@ps_if _ _ _ _ _ _ _ _ (@pt_cmpR _ _ _ _ _ _ _ _ (op_eqA hr.units) (pv 1) pe_str (nomark _)) (@pss_one _ _ _ (ps_fld (pv 0) (@pe_df _ _ _ _ _ _ _ _ _ _ (df_share_asked T) (hr.mono (by decide)) (@pa_cons _ _ _ _ _ (pv 2) pa_nil (by rfl)) (by rfl) (by decide) (by rfl) (by rfl)) rfl)) (@pss_one _ _ _ (@ps_if _ _ _ _ _ _ _ _ (@pt_cmpR _ _ _ _ _ _ _ _ (op_eqA hr.units) (pv 1) pe_str (nomark _)) (@pss_one _ _ _ (@ps_expr _ _ _ _ (@pe_mt _ _ _ _ _ _ _ _ _ _ _ _ _ _ (df_Desk_change_cell T) T.cl_Desk (hr.mono (by decide)) (pv 0) (@pa_cons _ _ _ _ _ (pv 2) pa_nil (by rfl)) (by rfl) (by rfl) (by rfl)) (by rfl))) (@pss_cons _ _ _ _ _ (@ps_expr _ _ _ _ (@pe_df _ _ _ _ _ _ _ _ _ _ (df_numbers_asked T) (hr.mono (by decide)) (@pa_cons _ _ _ _ _ (pv 2) (@pa_cons _ _ _ _ _ pe_int pa_nil (by rfl)) (by rfl)) (by rfl) (by decide) (by rfl) (by rfl)) (by rfl))
   (@pss_one _ _ _ (ps_fld (pv 0) (@pe_mt0 _ _ _ _ _ _ _ _ _ _ _ (df_Desk_filtered_field T) T.cl_Desk (hr.mono (by decide)) (pv 0) (by rfl)) rfl))))))))))),?_⟩
  have ok':=deed_ok k.ok hδ
  have no:∀ {x y:Str},¬ x=y→¬ decide (V.str x=V.str y)=true:=fun h z=>h (V.str.inj (of_decide_eq_true z))
  cases δ with
  | window u d l r =>
   obtain ⟨b1,b2,b3,b4⟩:=hδ
   refine ⟨_,rfl,Or.inl ⟨rfl,_,rfl,ite2 (fun _=>?_) (fun z=>absurd (eqS rfl) z)⟩⟩
   refine ⟨_,rfl,lw,[(u:Int),(d:Int),(l:Int),(r:Int)],rfl,hlw,rfl,fun k hk=>?_,fun t H1 s1 ht=>?_⟩
   ·simp only [List.mem_cons,List.not_mem_nil,or_false] at hk
    omega
   have x1:=s1 _ _ k.at_
   refine ⟨_,rfl,x,C,dy,_,rfl,x1,T.cl_Desk,T.a_window,(by show 4 < 1000;decide),?_⟩
   rw [dk_put_window]
   have b5:=but_upd H1 x (.ins C dy (dkF fv (.ref t) rv sv))
   have t5:KeepT H1 (upd H1 x (.ins C dy (dkF fv (.ref t) rv sv))):=fun b ws e=>b5 _ _ e (ne_of e x1 fun z=>by cases z)
   exact q _ _ _ _ _ ((s1.but x).trans b5) ⟨upd_same,(k.fd_.keep s1.tups).keep t5,(isWin ht).keep t5,(k.rl_.keep s1.tups).keep t5,(k.sd_.keep s1.tups).keep t5,ok'⟩
  | edge ru =>
   refine ⟨_,rfl,Or.inl ⟨rfl,_,rfl,ite2 (fun z=>absurd z (no s_ew)) (fun _=>?_)⟩⟩
   refine ⟨_,rfl,Or.inl ⟨rfl,_,rfl,ite2 (fun _=>?_) (fun z=>absurd (eqS rfl) z)⟩⟩
   refine ⟨_,rfl,lw,ru,rfl,hlw,hδ,fun v H1 s1 hv=>?_⟩
   have x1:=s1 _ _ k.at_
   refine ⟨_,rfl,x,C,dy,_,rfl,x1,T.cl_Desk,T.a_rule,(by show 4 < 1000;decide),?_⟩
   rw [dk_put_rule]
   have b5:=but_upd H1 x (.ins C dy (dkF fv wv v sv))
   have t5:KeepT H1 (upd H1 x (.ins C dy (dkF fv wv v sv))):=fun b ws e=>b5 _ _ e (ne_of e x1 fun z=>by cases z)
   exact q _ _ _ _ _ ((s1.but x).trans b5) ⟨upd_same,(k.fd_.keep s1.tups).keep t5,(k.wd_.keep s1.tups).keep t5,hv.keep t5,(k.sd_.keep s1.tups).keep t5,ok'⟩
  | share a b =>
   obtain ⟨hS,hb⟩:=hδ
   refine ⟨_,rfl,Or.inl ⟨rfl,_,rfl,ite2 (fun z=>absurd z (no s_sw)) (fun _=>?_)⟩⟩
   refine ⟨_,rfl,Or.inl ⟨rfl,_,rfl,ite2 (fun z=>absurd z (no s_se)) (fun _=>?_)⟩⟩
   refine ⟨_,rfl,Or.inl ⟨rfl,_,rfl,ite2 (fun _=>?_) (fun z=>absurd (eqS rfl) z)⟩⟩
   refine ⟨_,rfl,lw,a,b,rfl,hlw,hS.2.2.1,hb,hS.1,hS.2.1,fun t H1 s1 ht=>?_⟩
   have x1:=s1 _ _ k.at_
   refine ⟨_,rfl,x,C,dy,_,rfl,x1,T.cl_Desk,T.a_share,(by show 4 < 1000;decide),?_⟩
   rw [dk_put_share]
   have b5:=but_upd H1 x (.ins C dy (dkF fv wv rv (.ref t)))
   have t5:KeepT H1 (upd H1 x (.ins C dy (dkF fv wv rv (.ref t)))):=fun b ws e=>b5 _ _ e (ne_of e x1 fun z=>by cases z)
   exact q _ _ _ _ _ ((s1.but x).trans b5) ⟨upd_same,(k.fd_.keep s1.tups).keep t5,(k.wd_.keep s1.tups).keep t5,(k.rl_.keep s1.tups).keep t5,.tup (t5 _ _ ht) (.cons (.int _) (.cons (.int _) .nil)),ok'⟩
  | cell i j c =>
   obtain ⟨hi,hj,hc⟩:=hδ
   refine ⟨_,rfl,Or.inl ⟨rfl,_,rfl,ite2 (fun z=>absurd z (no s_cw)) (fun _=>?_)⟩⟩
   refine ⟨_,rfl,Or.inl ⟨rfl,_,rfl,ite2 (fun z=>absurd z (no s_ce)) (fun _=>?_)⟩⟩
   refine ⟨_,rfl,Or.inl ⟨rfl,_,rfl,ite2 (fun z=>absurd z (no s_cs)) (fun _=>?_)⟩⟩
   refine ⟨_,rfl,Or.inl ⟨rfl,_,rfl,ite2 (fun _=>?_) (fun z=>absurd (eqS rfl) z)⟩⟩
   refine ⟨_,rfl,x,dy,_,rfl,k.at_,dk_no_change_cell ..,_,rfl,?_⟩
   refine ⟨x,dy,lw,fv,wv,rv,sv,D,i,j,c,rfl,k,hlw,hi,hj,hc,fun gv H1 kb e1 hg=>?_⟩
   have t1:KeepT H H1:=fun b ws e=>kb _ _ e (ne_of e k.at_ fun z=>by cases z)
   exact q _ _ _ _ _ kb ⟨e1,hg,k.wd_.keep t1,k.rl_.keep t1,k.sd_.keep t1,ok'⟩
  | take =>
   refine ⟨_,rfl,Or.inl ⟨rfl,_,rfl,ite2 (fun z=>absurd z (no (by decide +kernel))) (fun _=>?_)⟩⟩
   refine ⟨_,rfl,Or.inl ⟨rfl,_,rfl,ite2 (fun z=>absurd z (no (by decide +kernel))) (fun _=>?_)⟩⟩
   refine ⟨_,rfl,Or.inl ⟨rfl,_,rfl,ite2 (fun z=>absurd z (no (by decide +kernel))) (fun _=>?_)⟩⟩
   refine ⟨_,rfl,Or.inl ⟨rfl,_,rfl,ite2 (fun z=>absurd z (no (by decide +kernel))) (fun _=>?_)⟩⟩
   refine ⟨_,rfl,?_⟩
   refine ⟨lw,[],rfl,hlw,(by decide),(fun k hk=>by cases hk),fun t H1 s1 _=>?_⟩
   have k1:=k.same s1
   refine ⟨_,rfl,x,dy,_,rfl,k1.at_,dk_no_filtered_field ..,?_⟩
   dsimp only [tNil,List.nil_append,List.cons_append]
   refine ⟨x,dy,fv,wv,rv,sv,D,rfl,k1,fun v H2 s2 hv=>?_⟩
   have x2:=s2 _ _ k1.at_
   refine ⟨_,rfl,x,C,dy,_,rfl,x2,T.cl_Desk,T.a_field,(by show 4 < 1000;decide),?_⟩
   rw [dk_put_field]
   have b5:=but_upd H2 x (.ins C dy (dkF v wv rv sv))
   have t5:KeepT H2 (upd H2 x (.ins C dy (dkF v wv rv sv))):=fun b ws e=>b5 _ _ e (ne_of e x2 fun z=>by cases z)
   have S2:=s1.trans s2
   exact q _ _ _ _ _ ((S2.but x).trans b5) ⟨upd_same,hv.keep t5,(k.wd_.keep S2.tups).keep t5,(k.rl_.keep S2.tups).keep t5,(k.sd_.keep S2.tups).keep t5,ok'⟩
def spLinesAt (C:Addr):Sp:=fun vs H Q _=>∃ (x dy t:Addr) (fv wv rv sv:V) (D:Dsk) (i j:Nat),vs=[.ref x,.ref t]∧DkAt C H x dy fv wv rv sv D∧H t=some (.tup [.int (i:Int),.int (j:Int)])∧i < D.F.length ∧ j < (D.F.headD []).length ∧
 ∀ (l:Addr) (H':Hp),Same H H'→H l=none→H' l=some (.lst [.str (lineOf (wc D.F D.ru D.u D.d D.l D.r (i:Int) (j:Int))),.str (wordOf (filAt D.F D.ru D.u D.d D.l D.r D.a D.b (i:Int) (j:Int)))])→Q (.ref l) H'
theorem df_Desk_lines_at (T:Txt K mg C):DfM P w K mg base 4 C "lines_at" ["self","place"] (spLinesAt C):=by
 refine T.m_Desk_lines_at.ok sc_Desk_lines_at (fun vs H Q E h=>?_) (fun f cdv A outer s H vs Q E hr h=>?_)
 ·obtain ⟨x,dy,t,fv,wv,rv,sv,D,i,j,rfl,_⟩:=h
  rfl
 ·obtain ⟨x,dy,t,fv,wv,rv,sv,D,i,j,rfl,k,ht,hi,hj,q⟩:=h
  refine ⟨_,(@pss_cons _ _ _ _ _ (@ps_expr _ _ _ _ (@pe_df _ _ _ _ _ _ _ _ _ _ (df_refuse_outside T) (hr.mono (by decide)) (@pa_cons _ _ _ _ _ (pe_fldK (K:=K) rfl (pv 0) (by rfl)) (@pa_cons _ _ _ _ _ (@pe_ix _ _ _ _ _ _ _ (ix_seqK (K:=K) rfl) (pv 1) pe_int (fun _ _=>rfl)) (@pa_cons _ _ _ _ _ (@pe_ix _ _ _ _ _ _ _ (ix_seqK (K:=K) rfl) (pv 1) pe_int (fun _ _=>rfl)) pa_nil star_sub) star_sub) (by rfl)) (by rfl) (by decide) (by rfl) (by rfl)) (by rfl))
   (@pss_cons _ _ _ _ _ (@ps_set _ _ 2 _ _ _ _ sc_Desk_lines_at.nd rfl (by first | exact Or.inl rfl | exact Or.inr rfl) (@pe_df _ _ _ _ _ _ _ _ _ _ (df_window_cells T) (hr.mono (by decide)) (@pa_cons _ _ _ _ _ (pe_fldK (K:=K) rfl (pv 0) (by rfl)) (@pa_cons _ _ _ _ _ (pe_fldK (K:=K) rfl (pv 0) (by rfl)) (@pa_cons _ _ _ _ _ (pe_fldK (K:=K) rfl (pv 0) (by rfl)) (@pa_cons _ _ _ _ _ (@pe_ix _ _ _ _ _ _ _ (ix_seqK (K:=K) rfl) (pv 1) pe_int (fun _ _=>rfl)) (@pa_cons _ _ _ _ _ (@pe_ix _ _ _ _ _ _ _ (ix_seqK (K:=K) rfl) (pv 1) pe_int (fun _ _=>rfl)) pa_nil star_sub) star_sub) (by rfl)) (by rfl)) (by rfl)) (by rfl) (by decide) (by rfl) (by rfl)) (by rfl) (by first | exact .inl rfl | exact .inr rfl))
   (@pss_one _ _ _ (@ps_ret _ _ _ _ (@pe_lst _ _ _ _ (@pa_cons _ _ _ _ _ (@pe_df _ _ _ _ _ _ _ _ _ _ (df_row_shown T) (hr.mono (by decide)) (@pa_cons _ _ _ _ _ (pv 2) pa_nil (by rfl)) (by rfl) (by decide) (by rfl) (by rfl)) (@pa_cons _ _ _ _ _ (@pe_df _ _ _ _ _ _ _ _ _ _ (df_cell_shown T) (hr.mono (by decide)) (@pa_cons _ _ _ _ _ (@pe_df _ _ _ _ _ _ _ _ _ _ (df_told_of_cells T) (hr.mono (by decide)) (@pa_cons _ _ _ _ _ (pv 2) (@pa_cons _ _ _ _ _ (pe_fldK (K:=K) rfl (pv 0) (by rfl)) pa_nil (by rfl)) (by rfl)) (by rfl) (by decide) (by rfl) (by rfl)) pa_nil star_call) (by rfl) (by decide) (by rfl) (by rfl)) pa_nil star_call) star_call)))))),?_⟩
  have bb:=k.ok.bb
  have fh:=k.ok.fh;have fw:=k.ok.fw
  have hin:inF D.F (i:Int) (j:Int)=true:=by
   unfold inF
   rw [decide_eq_true (show (0:Int)≤(i:Int) by omega),decide_eq_true (show (i:Int) < D.F.length by omega),decide_eq_true (show (0:Int)≤(j:Int) by omega),decide_eq_true (show (j:Int) < (D.F.headD []).length by omega)]
   rfl
  refine ⟨_,rfl,x,C,dy,_,_,rfl,k.at_,T.cl_Desk,T.a_field,dk_field ..,?_⟩
  refine ⟨_,rfl,Or.inr (Or.inl ⟨_,_,_,_,rfl,rfl,SqT.of ht,rfl,?_⟩)⟩
  refine ⟨_,rfl,Or.inr (Or.inl ⟨_,_,_,_,rfl,rfl,SqT.of ht,rfl,?_⟩)⟩
  refine ⟨fv,D.F,_,_,rfl,k.ok.rect,k.fd_,hin,?_⟩
  refine ⟨_,rfl,x,C,dy,_,_,rfl,k.at_,T.cl_Desk,T.a_field,dk_field ..,?_⟩
  refine ⟨_,rfl,x,C,dy,_,_,rfl,k.at_,T.cl_Desk,T.a_window,dk_window ..,?_⟩
  refine ⟨_,rfl,x,C,dy,_,_,rfl,k.at_,T.cl_Desk,T.a_rule,dk_rule ..,?_⟩
  refine ⟨_,rfl,Or.inr (Or.inl ⟨_,_,_,_,rfl,rfl,SqT.of ht,rfl,?_⟩)⟩
  refine ⟨_,rfl,Or.inr (Or.inl ⟨_,_,_,_,rfl,rfl,SqT.of ht,rfl,?_⟩)⟩
  refine ⟨fv,wv,rv,D.F,D.ru,D.u,D.d,D.l,D.r,_,_,rfl,k.ok.rect,k.fd_,k.wd_,k.rl_,⟨by omega,by omega⟩,⟨by omega,by omega⟩,⟨by omega,by omega,by omega,by omega⟩,fun cw H1 s1 hcw=>?_⟩
  have wl:=wc_len D.F D.ru D.u D.d D.l D.r (i:Int) (j:Int)
  have wl2:(D.u + D.d + 1) * (D.l + D.r + 1)≤13 * 13:=Nat.mul_le_mul (by omega) (by omega)
  dsimp only [gName,List.set]
  refine ⟨_,rfl,cw,_,rfl,hcw,by omega,fun c hc=>(wc_in9 k.ok c hc).wide,fun H2 s2=>?_⟩
  have S2:=s1.trans s2
  refine ⟨_,rfl,_,rfl,x,C,dy,_,_,rfl,S2 _ _ k.at_,T.cl_Desk,T.a_share,dk_share ..,?_⟩
  refine ⟨cw,sv,_,D.a,D.b,rfl,.inl (s2 _ _ hcw),by omega,(Shr.of k.sd_).keep S2.tups,k.ok.sh,fun H3 s3=>?_⟩
  refine ⟨_,rfl,(filAt_in9 k.ok (i:Int) (j:Int)).wide,?_⟩
  refine ⟨(by show 2≤sizeLine;decide),fun l hl=>?_⟩
  exact q l _ ((S2.trans s3).trans (same_upd hl)) ((S2.trans s3).free hl) upd_same
inductive Ask where
 | show
 | filter
 | at (i j:Nat)
def askW:Ask→Str × List Str
 | .show=>("show",[])
 | .filter=>("filter",[])
 | .at i j=>("at",[wordOf (some (i:Int)),wordOf (some (j:Int))])
def askOk (D:Dsk):Ask→Prop
 | .at i j=>i < D.F.length ∧ j < (D.F.headD []).length
 | _=>True
def askL (D:Dsk):Ask→List Str
 | .show=>D.F.map lineOf
 | .filter=>(filD D).map lineOf
 | .at i j=>[lineOf (wc D.F D.ru D.u D.d D.l D.r (i:Int) (j:Int)),wordOf (filAt D.F D.ru D.u D.d D.l D.r D.a D.b (i:Int) (j:Int))]
def spLinesTold (C:Addr):Sp:=fun vs H Q _=>∃ (x dy lw:Addr) (fv wv rv sv:V) (D:Dsk) (α:Ask),vs=[.ref x,.str (askW α).1,.ref lw]∧DkAt C H x dy fv wv rv sv D∧H lw=some (.lst ((askW α).2.map V.str))∧askOk D α ∧
 ∀ (l:Addr) (H':Hp),Same H H'→H l=none→H' l=some (.lst ((askL D α).map V.str))→Q (.ref l) H'
theorem df_Desk_lines_told (T:Txt K mg C):DfM P w K mg base 6 C "lines_told" ["self","word","words"] (spLinesTold C):=by
 refine T.m_Desk_lines_told.ok sc_Desk_lines_told (fun vs H Q E h=>?_) (fun f cdv A outer s H vs Q E hr h=>?_)
 ·obtain ⟨x,dy,lw,fv,wv,rv,sv,D,α,rfl,_⟩:=h
  rfl
 ·obtain ⟨x,dy,lw,fv,wv,rv,sv,D,α,rfl,k,hlw,hα,q⟩:=h
  refine ⟨_,(@pss_cons _ _ _ _ _ (@ps_if _ _ _ _ _ _ _ _ (@pt_cmpR _ _ _ _ _ _ _ _ (op_eqA hr.units) (pv 1) pe_str (nomark _)) (@pss_one _ _ _ (@ps_ret _ _ _ _ (@pe_mt _ _ _ _ _ _ _ _ _ _ _ _ _ _ (df_Desk_lines_at T) T.cl_Desk (hr.mono (by decide)) (pv 0) (@pa_cons _ _ _ _ _ (@pe_df _ _ _ _ _ _ _ _ _ _ (df_numbers_asked T) (hr.mono (by decide)) (@pa_cons _ _ _ _ _ (pv 2) (@pa_cons _ _ _ _ _ pe_int pa_nil (by rfl)) (by rfl)) (by rfl) (by decide) (by rfl) (by rfl)) pa_nil star_call) (by rfl) (by rfl) (by rfl)))) pss_nil)
   (@pss_cons _ _ _ _ _ (@ps_if _ _ _ _ _ _ _ _ (@pt_cmpR _ _ _ _ _ _ _ _ (op_eqA hr.units) (pv 1) pe_str (nomark _)) (@pss_one _ _ _ ps_never) pss_nil)
   (@pss_cons _ _ _ _ _ (@ps_expr _ _ _ _ (@pe_df _ _ _ _ _ _ _ _ _ _ (df_numbers_asked T) (hr.mono (by decide)) (@pa_cons _ _ _ _ _ (pv 2) (@pa_cons _ _ _ _ _ pe_int pa_nil (by rfl)) (by rfl)) (by rfl) (by decide) (by rfl) (by rfl)) (by rfl))
   (@pss_cons _ _ _ _ _ (@ps_if _ _ _ _ _ _ _ _ (@pt_cmpR _ _ _ _ _ _ _ _ (op_eqA hr.units) (pv 1) pe_str (nomark _)) (@pss_one _ _ _ (@ps_ret _ _ _ _ (@pe_df _ _ _ _ _ _ _ _ _ _ (df_lines_of T) (hr.mono (by decide)) (@pa_cons _ _ _ _ _ (pe_fldK (K:=K) rfl (pv 0) (by rfl)) pa_nil (by rfl)) (by rfl) (by decide) (by rfl) (by rfl)))) pss_nil)
   (@pss_cons _ _ _ _ _ (@ps_if _ _ _ _ _ _ _ _ (@pt_cmpR _ _ _ _ _ _ _ _ (op_eqA hr.units) (pv 1) pe_str (nomark _)) (@pss_one _ _ _ (@ps_ret _ _ _ _ (@pe_df _ _ _ _ _ _ _ _ _ _ (df_lines_of T) (hr.mono (by decide)) (@pa_cons _ _ _ _ _ (@pe_mt0 _ _ _ _ _ _ _ _ _ _ _ (df_Desk_filtered_field T) T.cl_Desk (hr.mono (by decide)) (pv 0) (by rfl)) pa_nil star_call) (by rfl) (by decide) (by rfl) (by rfl)))) pss_nil)
   (@pss_cons _ _ _ _ _ (@ps_if _ _ _ _ _ _ _ _ (@pt_cmpR _ _ _ _ _ _ _ _ (op_eqA hr.units) (pv 1) pe_str (nomark _)) (@pss_one _ _ _ ps_never) pss_nil)
   (@pss_one _ _ _ ps_never))))))),?_⟩
  have no:∀ {x y:Str},¬ x=y→¬ decide (V.str x=V.str y)=true:=fun h z=>h (V.str.inj (of_decide_eq_true z))
  cases α with
  | «show» =>
   refine ⟨_,rfl,Or.inl ⟨rfl,_,rfl,ite2 (fun z=>absurd z (no (by decide +kernel))) (fun _=>?_)⟩⟩
   refine ⟨_,rfl,Or.inl ⟨rfl,_,rfl,ite2 (fun z=>absurd z (no (by decide +kernel))) (fun _=>?_)⟩⟩
   refine ⟨_,rfl,?_⟩
   refine ⟨lw,[],rfl,hlw,(by decide),(fun k hk=>by cases hk),fun t H1 s1 _=>?_⟩
   have k1:=k.same s1
   refine ⟨_,rfl,Or.inl ⟨rfl,_,rfl,ite2 (fun _=>?_) (fun z=>absurd (eqS rfl) z)⟩⟩
   refine ⟨_,rfl,x,C,dy,_,_,rfl,k1.at_,T.cl_Desk,T.a_field,dk_field ..,?_⟩
   exact ⟨fv,D.F,rfl,k1.fd_,k.ok.rectW,fun l H2 s2 f2 h2=>q l H2 (s1.trans s2) (s1.free f2) (by rw [h2];simp [askL])⟩
  | filter =>
   refine ⟨_,rfl,Or.inl ⟨rfl,_,rfl,ite2 (fun z=>absurd z (no (by decide +kernel))) (fun _=>?_)⟩⟩
   refine ⟨_,rfl,Or.inl ⟨rfl,_,rfl,ite2 (fun z=>absurd z (no (by decide +kernel))) (fun _=>?_)⟩⟩
   refine ⟨_,rfl,?_⟩
   refine ⟨lw,[],rfl,hlw,(by decide),(fun k hk=>by cases hk),fun t H1 s1 _=>?_⟩
   have k1:=k.same s1
   refine ⟨_,rfl,Or.inl ⟨rfl,_,rfl,ite2 (fun z=>absurd z (no (by decide +kernel))) (fun _=>?_)⟩⟩
   refine ⟨_,rfl,Or.inl ⟨rfl,_,rfl,ite2 (fun _=>?_) (fun z=>absurd (eqS rfl) z)⟩⟩
   refine ⟨_,rfl,x,dy,_,rfl,k1.at_,dk_no_filtered_field ..,?_⟩
   dsimp only [tNil,List.nil_append,List.cons_append]
   refine ⟨x,dy,fv,wv,rv,sv,D,rfl,k1,fun v H2 s2 hv=>?_⟩
   exact ⟨v,filD D,rfl,hv,k.ok.fil.rectW,fun l H3 s3 f3 h3=>q l H3 ((s1.trans s2).trans s3) ((s1.trans s2).free f3) (by rw [h3];simp [askL])⟩
  | «at» i j =>
   obtain ⟨hi,hj⟩:=hα
   have fh:=k.ok.fh;have fw:=k.ok.fw
   refine ⟨_,rfl,Or.inl ⟨rfl,_,rfl,ite2 (fun _=>?_) (fun z=>absurd (eqS rfl) z)⟩⟩
   refine ⟨_,rfl,x,dy,_,rfl,k.at_,dk_no_lines_at ..,_,rfl,?_⟩
   refine ⟨lw,[(i:Int),(j:Int)],rfl,hlw,(by show 2≤100;decide),fun k hk=>?_,fun t H1 s1 ht=>?_⟩
   ·simp only [List.mem_cons,List.not_mem_nil,or_false] at hk
    unfold Wide
    omega
   exact ⟨x,dy,t,fv,wv,rv,sv,D,i,j,rfl,k.same s1,ht,hi,hj,fun l H2 s2 f2 h2=>q l H2 (s1.trans s2) (s1.free f2) h2⟩
def lineF (F:List (List (Option Int))):Str:=⟨(("field " : Str).cps.toList ++ (textS F).cps.toList).toArray⟩
theorem fld_cps:("field " : Str).cps.toList=[102,105,101,108,100,32]:=by decide +kernel
theorem fld_len:("field " : Str).length=6:=by decide +kernel
theorem lineF_drop (F:List (List (Option Int))):(⟨((lineF F).cps.toList.drop 6).toArray⟩:Str)=textS F:=by
 refine str_ext ?_
 show (((("field " : Str).cps.toList ++ (textS F).cps.toList).toArray.toList.drop 6).toArray).toList=_
 rw [fld_cps]
 simp
theorem lineF_starts (F:List (List (Option Int))):(decide (0 + ("field " : Str).length ≤ (lineF F).length) && Builtin.Str.subAt (lineF F) ("field " : Str) 0)=true:=by
 rw [PySem.StrLaws.subAt_eq]
 have e:(lineF F).length=6 + (textS F).length:=by
  show ((("field " : Str).cps.toList ++ (textS F).cps.toList).toArray).size=_
  rw [List.size_toArray,List.length_append,fld_cps]
  show 6 + (textS F).cps.toList.length=_
  simp [Str.length]
 rw [fld_len,e,decide_eq_true (by omega),Bool.true_and]
 have e2:(lineF F).cps.toList=("field " : Str).cps.toList ++ (textS F).cps.toList:=by
  show (("field " : Str).cps.toList ++ (textS F).cps.toList).toArray.toList=_
  simp
 rw [e2,List.drop_zero,fld_cps]
 simp
theorem lineF_len {F:List (List (Option Int))}(R:RectW F):6≤(lineF F).length ∧ (lineF F).length ≤ 130006:=by
 have h:=textS_len R
 have e:(lineF F).length=6 + (textS F).length:=by
  show ((("field " : Str).cps.toList ++ (textS F).cps.toList).toArray).size=_
  rw [List.size_toArray,List.length_append,fld_cps]
  show 6 + (textS F).cps.toList.length=_
  simp [Str.length]
 omega
def joinW (ws:List Str):Str:=Str.join ⟨#[32]⟩ ws
theorem joinW_split {ws:List Str}(h:ws≠[])(hf:∀ w∈ws,32 ∉ w.cps.toList):PySem.Txt.split (joinW ws) ⟨#[32]⟩=ws:=split_join 32 h hf
theorem joinW_len {ws:List Str}(h:∀ w∈ws,w.length ≤ 11)(hl:ws.length ≤ 10):(joinW ws).length ≤ 1000:=by
 have e:(joinW ws).length=(joinW ws).cps.toList.length:=by simp [Str.length]
 rw [e]
 unfold joinW
 rw [join_cps]
 have:=joinL_len 32 11 (ws.map (·.cps.toList)) (fun x hx=>by
  obtain ⟨w,hw,rfl⟩:=List.mem_map.mp hx
  have:=h w hw
  have e:w.length=w.cps.toList.length:=by simp [Str.length]
  omega)
 rw [List.length_map] at this
 omega
theorem joinW_head {w0:Str}{ws:List Str}:∃ rest,(joinW (w0 :: ws)).cps.toList=w0.cps.toList ++ rest:=by
 unfold joinW
 rw [join_cps]
 cases ws with
 | nil=>exact ⟨[],by simp [joinL]⟩
 | cons w r=>exact ⟨_,by rw [List.map_cons,List.map_cons];rfl⟩
theorem starts_no {w0:Str} {ws:List Str} {c:Nat} {t:List Nat} (h:w0.cps.toList=c :: t) (hc:c≠102):(decide (0 + ("field " : Str).length ≤ (joinW (w0 :: ws)).length) && Builtin.Str.subAt (joinW (w0 :: ws)) ("field " : Str) 0)=false:=by
 rw [PySem.StrLaws.subAt_eq]
 obtain ⟨rest,e⟩:=joinW_head (w0:=w0) (ws:=ws)
 rw [e,h,List.drop_zero,fld_len,fld_cps]
 have:(List.take 6 (c :: t ++ rest) == [102,105,101,108,100,32])=false:=by
  rw [List.cons_append,List.take_succ_cons]
  refine Bool.eq_false_iff.mpr fun z=>?_
  have:=beq_iff_eq.mp z
  exact hc (List.cons.inj this).1
 rw [this,Bool.and_false]
theorem word_ok {c:Option Int}(h:CellW c):32 ∉ (wordOf c).cps.toList ∧ (wordOf c).length ≤ 11:=by
 refine ⟨?_,word_len h⟩
 rw [word_cps]
 exact (wordL_free c).1
theorem nat_ok {n:Nat}(h:n≤100):32 ∉ (wordOf (some (n:Int))).cps.toList ∧ (wordOf (some (n:Int))).length ≤ 11:=word_ok fun i e=>by cases e;unfold Wide;omega
theorem lit_ok:∀ w∈([("window" : Str),"edge","share","cell","take","show","filter","at","there","near","turned","round","told"]:List Str),32 ∉ w.cps.toList ∧ w.length ≤ 11:=by decide +kernel
def Fine (ws:List Str):Prop:=ws≠[]∧ws.length ≤ 10∧∀ w∈ws,32 ∉ w.cps.toList ∧ w.length ≤ 11
theorem deed_fine {D:Dsk}(k:DskOk D){δ:Deed}(h:deedOk D δ):Fine ((deedW δ).1 :: (deedW δ).2):=by
 have fh:=k.fh;have fw:=k.fw
 cases δ with
 | window u d l r =>
  obtain ⟨h1,h2,h3,h4⟩:=h
  refine ⟨by simp,by simp [deedW],fun w hw=>?_⟩
  simp only [deedW,List.mem_cons,List.not_mem_nil,or_false] at hw
  rcases hw with rfl | rfl | rfl | rfl | rfl
  ·exact lit_ok _ (by simp)
  all_goals exact nat_ok (by omega)
 | edge ru =>
  cases ru with
  | told c =>
   refine ⟨by simp,by simp [deedW,ruleW],fun w hw=>?_⟩
   simp only [deedW,ruleW,List.mem_cons,List.not_mem_nil,or_false] at hw
   rcases hw with rfl | rfl | rfl
   ·exact lit_ok _ (by simp)
   ·exact lit_ok _ (by simp)
   ·exact word_ok (h c rfl).wide
  | _ =>
   refine ⟨by simp,by simp [deedW,ruleW],fun w hw=>?_⟩
   simp only [deedW,ruleW,List.mem_cons,List.not_mem_nil,or_false] at hw
   rcases hw with rfl | rfl <;> exact lit_ok _ (by simp)
 | share a b =>
  obtain ⟨hS,hb⟩:=h
  obtain ⟨s1,s2,s3,_⟩:=hS
  refine ⟨by simp,by simp [deedW],fun w hw=>?_⟩
  simp only [deedW,List.mem_cons,List.not_mem_nil,or_false] at hw
  rcases hw with rfl | rfl | rfl
  ·exact lit_ok _ (by simp)
  all_goals exact word_ok fun i e=>by cases e;unfold Wide;omega
 | cell i j c =>
  obtain ⟨h1,h2,h3⟩:=h
  refine ⟨by simp,by simp [deedW],fun w hw=>?_⟩
  simp only [deedW,List.mem_cons,List.not_mem_nil,or_false] at hw
  rcases hw with rfl | rfl | rfl | rfl
  ·exact lit_ok _ (by simp)
  ·exact nat_ok (by omega)
  ·exact nat_ok (by omega)
  ·exact word_ok h3.wide
 | take=>exact ⟨by simp,by simp [deedW],fun w hw=>by
   simp only [deedW,List.mem_cons,List.not_mem_nil,or_false] at hw
   subst hw
   exact lit_ok _ (by simp)⟩
theorem ask_fine {D:Dsk}(k:DskOk D){α:Ask}(h:askOk D α):Fine ((askW α).1 :: (askW α).2):=by
 have fh:=k.fh;have fw:=k.fw
 cases α with
 | «at» i j =>
  obtain ⟨h1,h2⟩:=h
  refine ⟨by simp,by simp [askW],fun w hw=>?_⟩
  simp only [askW,List.mem_cons,List.not_mem_nil,or_false] at hw
  rcases hw with rfl | rfl | rfl
  ·exact lit_ok _ (by simp)
  ·exact nat_ok (by omega)
  ·exact nat_ok (by omega)
 | _ =>
  refine ⟨by simp,by simp [askW],fun w hw=>?_⟩
  simp only [askW,List.mem_cons,List.not_mem_nil,or_false] at hw
  subst hw
  exact lit_ok _ (by simp)
def spDInit (C:Addr):Sp:=fun vs H Q _=>∃ (x dy:Addr),vs=[.ref x]∧H x=some (.ins C dy []) ∧
 ∀ (fv wv rv sv:V) (H':Hp),KeepBut x H H'→H' x=some (.ins C dy (dkF fv wv rv sv))→IsD H' fv (fieldD [[none]])→IsD H' wv (winD 0 0 0 0)→IsD H' rv (ruleD .there)→IsD H' sv (placeD (1,2))→Q .non H'
theorem df_Desk_init (T:Txt K mg C):DfI P w K mg base 1 C ["self"] (spDInit C):=by
 refine T.m_Desk_init.ok sc_Desk_init (fun vs H Q E h=>?_) (fun f cdv A outer s H vs Q E hr h=>?_)
 ·obtain ⟨x,dy,rfl,_⟩:=h
  rfl
 ·obtain ⟨x,dy,rfl,hx,q⟩:=h
  refine ⟨_,(@pss_cons _ _ _ _ _ (ps_fld (pv 0) (@pe_tup _ _ _ _ _ (@pa_cons _ _ _ _ _ (@pe_tup _ _ _ _ _ (@pa_cons _ _ _ _ _ pe_non pa_nil (by rfl))) pa_nil star_tup)) rfl)
   (@pss_cons _ _ _ _ _ (ps_fld (pv 0) (@pe_tup _ _ _ _ _ (@pa_cons _ _ _ _ _ pe_int (@pa_cons _ _ _ _ _ pe_int (@pa_cons _ _ _ _ _ pe_int (@pa_cons _ _ _ _ _ pe_int pa_nil (by rfl)) (by rfl)) (by rfl)) (by rfl))) rfl)
   (@pss_cons _ _ _ _ _ (ps_fld (pv 0) pe_str rfl)
   (@pss_one _ _ _ (ps_fld (pv 0) (@pe_tup _ _ _ _ _ (@pa_cons _ _ _ _ _ pe_int (@pa_cons _ _ _ _ _ pe_int pa_nil (by rfl)) (by rfl))) rfl))))),?_⟩
  have put:∀ {H:Hp} {fs gs:List (Str × V)},H x=some (.ins C dy fs)→upd H x (.ins C dy gs) x=some (.ins C dy gs)∧KeepBut x H (upd H x (.ins C dy gs))∧KeepT H (upd H x (.ins C dy gs)):=fun {H fs gs} h=>⟨upd_same,fun b o e n=>by rw [upd_ne n];exact e,fun b ws e=>by rw [upd_ne (ne_of e h fun z=>by cases z)];exact e⟩
  refine ⟨(by show 1≤sizeLine;decide),fun p1 hp1=>⟨(by show 1≤sizeLine;decide),fun p2 hp2=>?_⟩⟩
  have s1:=same_upd (o:=.tup [.non]) hp1
  have s2:=same_upd (o:=.tup [.ref p1]) hp2
  have f2:IsD (upd (upd H p1 (.tup [.non])) p2 (.tup [.ref p1])) (.ref p2) (fieldD [[none]]):=.tup upd_same (.cons (.tup (s2 _ _ (show upd H p1 (.tup [.non]) p1=some (.tup [.non]) from upd_same)) (isCells [none])) .nil)
  have x2:=(s1.trans s2) _ _ hx
  have S2:=s1.trans s2
  generalize upd (upd H p1 (.tup [.non])) p2 (.tup [.ref p1])=H2 at f2 x2 S2 ⊢
  refine ⟨_,rfl,x,C,dy,_,rfl,x2,T.cl_Desk,T.a_field,(by show 0 < 1000;decide),?_⟩
  rw [show putF "field" (V.ref p2) []=[(("field" : Str),V.ref p2)] from rfl]
  obtain ⟨x3,k3,t3⟩:=put (gs:=[(("field" : Str),V.ref p2)]) x2
  generalize upd H2 x (.ins C dy [(("field" : Str),V.ref p2)])=H3 at x3 k3 t3 ⊢
  refine ⟨(by show 4≤sizeLine;decide),fun p4 hp4=>?_⟩
  have s4:=same_upd (o:=.tup [.int 0,.int 0,.int 0,.int 0]) hp4
  have x4:=s4 _ _ x3
  have w4:upd H3 p4 (.tup [.int 0,.int 0,.int 0,.int 0]) p4=some (.tup [.int 0,.int 0,.int 0,.int 0]):=upd_same
  generalize upd H3 p4 (.tup [.int 0,.int 0,.int 0,.int 0])=H4 at s4 x4 w4 ⊢
  refine ⟨_,rfl,x,C,dy,_,rfl,x4,T.cl_Desk,T.a_window,(by show 1 < 1000;decide),?_⟩
  rw [show putF "window" (V.ref p4) [(("field" : Str),V.ref p2)]=[(("field" : Str),V.ref p2),("window",V.ref p4)] from putF_new _ _ _ ["field"] rfl (by decide +kernel)]
  obtain ⟨x5,k5,t5⟩:=put (gs:=[(("field" : Str),V.ref p2),("window",V.ref p4)]) x4
  generalize upd H4 x (.ins C dy [(("field" : Str),V.ref p2),("window",V.ref p4)])=H5 at x5 k5 t5 ⊢
  refine ⟨_,rfl,x,C,dy,_,rfl,x5,T.cl_Desk,T.a_rule,(by show 2 < 1000;decide),?_⟩
  rw [show putF "rule" (V.str "there") [(("field" : Str),V.ref p2),("window",V.ref p4)]=[(("field" : Str),V.ref p2),("window",V.ref p4),("rule",V.str "there")] from putF_new _ _ _ ["field","window"] rfl (by decide +kernel)]
  obtain ⟨x6,k6,t6⟩:=put (gs:=[(("field" : Str),V.ref p2),("window",V.ref p4),("rule",V.str "there")]) x5
  generalize upd H5 x (.ins C dy [(("field" : Str),V.ref p2),("window",V.ref p4),("rule",V.str "there")])=H6 at x6 k6 t6 ⊢
  refine ⟨(by show 2≤sizeLine;decide),fun p7 hp7=>?_⟩
  have s7:=same_upd (o:=.tup [.int 1,.int 2]) hp7
  have x7:=s7 _ _ x6
  have v7:upd H6 p7 (.tup [.int 1,.int 2]) p7=some (.tup [.int 1,.int 2]):=upd_same
  generalize upd H6 p7 (.tup [.int 1,.int 2])=H7 at s7 x7 v7 ⊢
  refine ⟨_,rfl,x,C,dy,_,rfl,x7,T.cl_Desk,T.a_share,(by show 3 < 1000;decide),?_⟩
  rw [show putF "share" (V.ref p7) [(("field" : Str),V.ref p2),("window",V.ref p4),("rule",V.str "there")]=dkF (.ref p2) (.ref p4) (.str "there") (.ref p7) from putF_new _ _ _ ["field","window","rule"] rfl (by decide +kernel)]
  obtain ⟨x8,k8,t8⟩:=put (gs:=dkF (.ref p2) (.ref p4) (.str "there") (.ref p7)) x7
  refine q _ _ _ _ _ ((((((S2.but x).trans k3).trans (s4.but x)).trans k5).trans k6).trans ((s7.but x).trans k8)) x8 ?_ ?_ (.str _) ?_
  ·exact (((((f2.keep t3).keep s4.tups).keep t5).keep t6).keep s7.tups).keep t8
  ·exact isWin (u:=0) (d:=0) (l:=0) (r:=0) (t8 _ _ (s7 _ _ (t6 _ _ (t5 _ _ w4))))
  ·exact .tup (t8 _ _ v7) (.cons (.int _) (.cons (.int _) .nil))
def spAsk (C:Addr):Sp:=fun vs H Q _=>∃ (x dy:Addr) (fv wv rv sv:V) (D:Dsk),DkAt C H x dy fv wv rv sv D ∧
  ((∃ (F:List (List (Option Int))),vs=[.ref x,.str (lineF F)]∧DskOk { D with F:=F }∧∀ (gv:V) (l:Addr) (H':Hp),KeepBut x H H'→DkAt C H' x dy gv wv rv sv { D with F:=F }→H l=none→H' l=some (.lst [])→Q (.ref l) H') ∨
   (∃ (δ:Deed),vs=[.ref x,.str (joinW ((deedW δ).1 :: (deedW δ).2))]∧deedOk D δ∧∀ (fv' wv' rv' sv':V) (l:Addr) (H':Hp),KeepBut x H H'→DkAt C H' x dy fv' wv' rv' sv' (deedTo D δ)→H l=none→H' l=some (.lst [])→Q (.ref l) H') ∨
   (∃ (α:Ask),vs=[.ref x,.str (joinW ((askW α).1 :: (askW α).2))]∧askOk D α∧∀ (l:Addr) (H':Hp),Same H H'→H l=none→H' l=some (.lst ((askL D α).map V.str))→Q (.ref l) H'))
theorem deed_in (δ:Deed):inV (.str (deedW δ).1) [V.str "window",V.str "edge",V.str "share",V.str "cell",V.str "take"]=true:=by
 cases δ <;> (simp only [deedW];decide +kernel)
theorem ask_in (α:Ask):inV (.str (askW α).1) [V.str "window",V.str "edge",V.str "share",V.str "cell",V.str "take"]=false:=by
 cases α <;> (simp only [askW];decide +kernel)
theorem deed_starts (δ:Deed):(decide (0 + ("field " : Str).length ≤ (joinW ((deedW δ).1 :: (deedW δ).2)).length) && Builtin.Str.subAt (joinW ((deedW δ).1 :: (deedW δ).2)) ("field " : Str) 0)=false:=by
 cases δ with
 | window=>exact starts_no (c:=119) (t:=[105,110,100,111,119]) (by simp only [deedW];decide +kernel) (by decide)
 | edge=>exact starts_no (c:=101) (t:=[100,103,101]) (by simp only [deedW];decide +kernel) (by decide)
 | share=>exact starts_no (c:=115) (t:=[104,97,114,101]) (by simp only [deedW];decide +kernel) (by decide)
 | cell=>exact starts_no (c:=99) (t:=[101,108,108]) (by simp only [deedW];decide +kernel) (by decide)
 | take=>exact starts_no (c:=116) (t:=[97,107,101]) (by simp only [deedW];decide +kernel) (by decide)
theorem ask_starts (α:Ask):(decide (0 + ("field " : Str).length ≤ (joinW ((askW α).1 :: (askW α).2)).length) && Builtin.Str.subAt (joinW ((askW α).1 :: (askW α).2)) ("field " : Str) 0)=false:=by
 cases α with
 | «show»=>exact starts_no (c:=115) (t:=[104,111,119]) (by simp only [askW];decide +kernel) (by decide)
 | filter=>simp only [askW];decide +kernel
 | «at»=>exact starts_no (c:=97) (t:=[116]) (by simp only [askW];decide +kernel) (by decide)
theorem cut_one (y:V)(xs:List V):cutV (y :: xs) (some 1) none=xs:=cut_drop (y :: xs) 0
theorem df_Desk_ask (T:Txt K mg C):DfM P w K mg base 7 C "ask" ["self","line"] (spAsk C):=by
 refine T.m_Desk_ask.ok sc_Desk_ask (fun vs H Q E h=>?_) (fun f cdv A outer s H vs Q E hr h=>?_)
 ·obtain ⟨x,dy,fv,wv,rv,sv,D,_,⟨F,rfl,_⟩ | ⟨δ,rfl,_⟩ | ⟨α,rfl,_⟩⟩:=h <;> rfl
 ·obtain ⟨x,dy,fv,wv,rv,sv,D,k,⟨F,rfl,okF,q⟩ | ⟨δ,rfl,hδ,q⟩ | ⟨α,rfl,hα,q⟩⟩:=h
  ·refine ⟨_,(@pss_cons _ _ _ _ _ (@ps_if _ _ _ _ _ _ _ _ (@pt_val _ _ _ (pe_bmK (K:=K) rfl PySem.F.plainAttrs_str PySem.F.slot_str_startswith PySem.F.type_str_startswith mt_startswith (pv 1) (@pa_cons _ _ _ _ _ (pe_globE (by rfl) T.g_FIELD_AHEAD) pa_nil (by rfl))) (by intro _;rfl)) (@pss_cons _ _ _ _ _ (ps_fld (pv 0) (@pe_df _ _ _ _ _ _ _ _ _ _ (df_field_asked T) (hr.mono (by decide)) (@pa_cons _ _ _ _ _ (pe_slice sl_strN (pv 1) (po_some (@pe_callB _ _ _ _ _ _ _ _ _ (call_lenK (K:=K) rfl) (by rfl) T.n_len bt_len (@pa_cons _ _ _ _ _ (pe_globE (by rfl) T.g_FIELD_AHEAD) pa_nil (by rfl)) (by decide) (by decide) (by rfl) (by rfl))) po_none) pa_nil star_sub) (by rfl) (by decide) (by rfl) (by rfl)) rfl)
   (@pss_one _ _ _ (@ps_ret _ _ _ _ (@pe_lst _ _ _ _ pa_nil)))) pss_nil)
   (@pss_cons _ _ _ _ _ (@ps_set _ _ 2 _ _ _ _ sc_Desk_ask.nd rfl (by first | exact Or.inl rfl | exact Or.inr rfl) (pe_bmK (K:=K) rfl PySem.F.plainAttrs_str PySem.F.slot_str_split PySem.F.type_str_split mt_split (pv 1) (@pa_cons _ _ _ _ _ pe_str pa_nil (by rfl))) (by rfl) (by first | exact .inl rfl | exact .inr rfl))
   (@pss_cons _ _ _ _ _ (@ps_if _ _ _ _ _ _ _ _ (@pt_cmpR _ _ _ _ _ _ _ _ (op_in_seqK (K:=K) rfl) (@pe_ix _ _ _ _ _ _ _ (ix_seqK (K:=K) rfl) (pv 2) pe_int (fun _ _=>rfl)) (pe_globK (K:=K) rfl (by rfl) T.g_CHANGES) (by rfl)) (@pss_cons _ _ _ _ _ (@ps_expr _ _ _ _ (@pe_mt _ _ _ _ _ _ _ _ _ _ _ _ _ _ (df_Desk_change_by T) T.cl_Desk (hr.mono (by decide)) (pv 0) (@pa_cons _ _ _ _ _ (@pe_ix _ _ _ _ _ _ _ (ix_seqK (K:=K) rfl) (pv 2) pe_int (fun _ _=>rfl)) (@pa_cons _ _ _ _ _ (pe_slice (sl_X (K:=K) rfl) (pv 2) (po_some pe_int) po_none) pa_nil star_sub) star_sub) (by rfl) (by rfl) (by rfl)) (by rfl))
   (@pss_one _ _ _ (@ps_ret _ _ _ _ (@pe_lst _ _ _ _ pa_nil)))) pss_nil)
   (@pss_one _ _ _ (@ps_ret _ _ _ _ (@pe_mt _ _ _ _ _ _ _ _ _ _ _ _ _ _ (df_Desk_lines_told T) T.cl_Desk (hr.mono (by decide)) (pv 0) (@pa_cons _ _ _ _ _ (@pe_ix _ _ _ _ _ _ _ (ix_seqK (K:=K) rfl) (pv 2) pe_int (fun _ _=>rfl)) (@pa_cons _ _ _ _ _ (pe_slice (sl_X (K:=K) rfl) (pv 2) (po_some pe_int) po_none) pa_nil star_sub) star_sub) (by rfl) (by rfl) (by rfl))))))),?_⟩
   refine ⟨_,rfl,rfl,_,_,rfl,rfl,?_⟩
   rw [lineF_starts]
   refine ⟨_,rfl,iteT ?_⟩
   have R:RectW F:=okF.rectW
   obtain ⟨ll1,ll2⟩:=lineF_len R
   refine ⟨_,rfl,_,_,rfl,⟨(by rw [fld_len];decide),rfl⟩,_,rfl,lineF F,("field " : Str).length,rfl,rfl,rfl,(by rw [fld_len];decide),(by rw [fld_len];omega),Nat.le_trans (show (lineF F).length ≤ 1000000 by omega) (by decide),?_⟩
   rw [fld_len,lineF_drop]
   refine ⟨F,rfl,R,okF.fh,okF.fw,okF.c9,fun gv H1 s1 hg=>?_⟩
   have x1:=s1 _ _ k.at_
   refine ⟨_,rfl,x,C,dy,_,rfl,x1,T.cl_Desk,T.a_field,(by show 4 < 1000;decide),?_⟩
   rw [dk_put_field]
   refine ⟨(by show 0≤sizeLine;decide),fun l hl=>?_⟩
   have k2:=but_upd H1 x (.ins C dy (dkF gv wv rv sv))
   have t2:KeepT H1 (upd H1 x (.ins C dy (dkF gv wv rv sv))):=fun b ws e=>k2 _ _ e (ne_of e x1 fun z=>by cases z)
   have s3:=same_upd (o:=.lst []) hl
   have hln:H l=none:=by
    cases e:H l with
    | none=>rfl
    | some o =>
     have e1:=s1 _ _ e
     by_cases z:l=x
     ·rw [z,upd_same] at hl;cases hl
     ·rw [k2 _ _ e1 z] at hl;cases hl
   refine q gv l _ (((s1.but x).trans k2).trans (s3.but x)) ⟨s3 _ _ upd_same,(hg.keep t2).keep s3.tups,?_,?_,?_,okF⟩ hln upd_same
   ·exact ((k.wd_.keep s1.tups).keep t2).keep s3.tups
   ·exact ((k.rl_.keep s1.tups).keep t2).keep s3.tups
   ·exact ((k.sd_.keep s1.tups).keep t2).keep s3.tups
  ·refine ⟨_,(@pss_cons _ _ _ _ _ (@ps_if _ _ _ _ _ _ _ _ (@pt_val _ _ _ (pe_bmK (K:=K) rfl PySem.F.plainAttrs_str PySem.F.slot_str_startswith PySem.F.type_str_startswith mt_startswith (pv 1) (@pa_cons _ _ _ _ _ (pe_globE (by rfl) T.g_FIELD_AHEAD) pa_nil (by rfl))) (by intro _;rfl)) (@pss_cons _ _ _ _ _ (ps_fld (pv 0) (@pe_df _ _ _ _ _ _ _ _ _ _ (df_field_asked T) (hr.mono (by decide)) (@pa_cons _ _ _ _ _ (pe_slice sl_strN (pv 1) (po_some (@pe_callB _ _ _ _ _ _ _ _ _ (call_lenK (K:=K) rfl) (by rfl) T.n_len bt_len (@pa_cons _ _ _ _ _ (pe_globE (by rfl) T.g_FIELD_AHEAD) pa_nil (by rfl)) (by decide) (by decide) (by rfl) (by rfl))) po_none) pa_nil star_sub) (by rfl) (by decide) (by rfl) (by rfl)) rfl)
   (@pss_one _ _ _ (@ps_ret _ _ _ _ (@pe_lst _ _ _ _ pa_nil)))) pss_nil)
   (@pss_cons _ _ _ _ _ (@ps_set _ _ 2 _ _ _ _ sc_Desk_ask.nd rfl (by first | exact Or.inl rfl | exact Or.inr rfl) (pe_bmK (K:=K) rfl PySem.F.plainAttrs_str PySem.F.slot_str_split PySem.F.type_str_split mt_split (pv 1) (@pa_cons _ _ _ _ _ pe_str pa_nil (by rfl))) (by rfl) (by first | exact .inl rfl | exact .inr rfl))
   (@pss_cons _ _ _ _ _ (@ps_if _ _ _ _ _ _ _ _ (@pt_cmpR _ _ _ _ _ _ _ _ (op_in_seqK (K:=K) rfl) (@pe_ix _ _ _ _ _ _ _ (ix_seqK (K:=K) rfl) (pv 2) pe_int (fun _ _=>rfl)) (pe_globK (K:=K) rfl (by rfl) T.g_CHANGES) (by rfl)) (@pss_cons _ _ _ _ _ (@ps_expr _ _ _ _ (@pe_mt _ _ _ _ _ _ _ _ _ _ _ _ _ _ (df_Desk_change_by T) T.cl_Desk (hr.mono (by decide)) (pv 0) (@pa_cons _ _ _ _ _ (@pe_ix _ _ _ _ _ _ _ (ix_seqK (K:=K) rfl) (pv 2) pe_int (fun _ _=>rfl)) (@pa_cons _ _ _ _ _ (pe_slice (sl_X (K:=K) rfl) (pv 2) (po_some pe_int) po_none) pa_nil star_sub) star_sub) (by rfl) (by rfl) (by rfl)) (by rfl))
   (@pss_one _ _ _ (@ps_ret _ _ _ _ (@pe_lst _ _ _ _ pa_nil)))) pss_nil)
   (@pss_one _ _ _ (@ps_ret _ _ _ _ (@pe_mt _ _ _ _ _ _ _ _ _ _ _ _ _ _ (df_Desk_lines_told T) T.cl_Desk (hr.mono (by decide)) (pv 0) (@pa_cons _ _ _ _ _ (@pe_ix _ _ _ _ _ _ _ (ix_seqK (K:=K) rfl) (pv 2) pe_int (fun _ _=>rfl)) (@pa_cons _ _ _ _ _ (pe_slice (sl_X (K:=K) rfl) (pv 2) (po_some pe_int) po_none) pa_nil star_sub) star_sub) (by rfl) (by rfl) (by rfl))))))),?_⟩
   obtain ⟨n0,n10,fine⟩:=deed_fine k.ok hδ
   have ll:=joinW_len (fun w hw=>(fine w hw).2) n10
   refine ⟨_,rfl,rfl,_,_,rfl,rfl,?_⟩
   rw [deed_starts]
   refine ⟨_,rfl,iteF ?_⟩
   dsimp only [tNext,tSeq]
   refine ⟨_,rfl,rfl,_,_,rfl,rfl,by decide +kernel,by omega,fun lw hlw=>?_⟩
   rw [str_blank,joinW_split n0 (fun w hw=>(fine w hw).1)]
   have s1:=same_upd (o:=.lst (((deedW δ).1 :: (deedW δ).2).map V.str)) hlw
   have e1:upd H lw (.lst (((deedW δ).1 :: (deedW δ).2).map V.str)) lw=some (.lst (V.str (deedW δ).1 :: (deedW δ).2.map V.str)):=upd_same
   generalize upd H lw (.lst (((deedW δ).1 :: (deedW δ).2).map V.str))=H1 at s1 e1 ⊢
   dsimp only [gName,List.set]
   refine ⟨_,rfl,Or.inl ⟨_,_,_,.str (deedW δ).1,rfl,rfl,SqL.of e1,atI_nat (j:=0) rfl,fun p hp=>⟨p,_,rfl,Or.inr hp.sq,rfl,rfl,_,rfl,?_⟩⟩⟩
   refine ite2 (fun _=>?_) (fun z=>absurd (deed_in δ) z)
   refine ⟨_,rfl,x,dy,_,rfl,s1 _ _ k.at_,dk_no_change_by ..,?_⟩
   refine ⟨_,rfl,Or.inl ⟨_,_,_,_,rfl,rfl,SqL.of e1,atI_nat (j:=0) rfl,?_⟩⟩
   refine ⟨_,rfl,_,rfl,Or.inl ⟨_,_,rfl,SqL.of e1,fun l2 hl2=>?_⟩⟩
   rw [cut_one]
   have s2:=same_upd (o:=.lst ((deedW δ).2.map V.str)) hl2
   refine ⟨x,dy,l2,fv,wv,rv,sv,D,δ,rfl,k.same (s1.trans s2),upd_same,hδ,fun fv' wv' rv' sv' H3 kb k3=>?_⟩
   refine ⟨(by show 0≤sizeLine;decide),fun l hl=>?_⟩
   have s4:=same_upd (o:=.lst []) hl
   have hln:H l=none:=by
    cases e:H l with
    | none=>rfl
    | some o =>
     by_cases z:l=x
     ·rw [z,k3.at_] at hl;cases hl
     ·rw [kb _ _ ((s1.trans s2) _ _ e) z] at hl;cases hl
   exact q fv' wv' rv' sv' l _ ((((s1.trans s2).but x).trans kb).trans (s4.but x)) (k3.same s4) hln upd_same
  ·refine ⟨_,(@pss_cons _ _ _ _ _ (@ps_if _ _ _ _ _ _ _ _ (@pt_val _ _ _ (pe_bmK (K:=K) rfl PySem.F.plainAttrs_str PySem.F.slot_str_startswith PySem.F.type_str_startswith mt_startswith (pv 1) (@pa_cons _ _ _ _ _ (pe_globE (by rfl) T.g_FIELD_AHEAD) pa_nil (by rfl))) (by intro _;rfl)) (@pss_cons _ _ _ _ _ (ps_fld (pv 0) (@pe_df _ _ _ _ _ _ _ _ _ _ (df_field_asked T) (hr.mono (by decide)) (@pa_cons _ _ _ _ _ (pe_slice sl_strN (pv 1) (po_some (@pe_callB _ _ _ _ _ _ _ _ _ (call_lenK (K:=K) rfl) (by rfl) T.n_len bt_len (@pa_cons _ _ _ _ _ (pe_globE (by rfl) T.g_FIELD_AHEAD) pa_nil (by rfl)) (by decide) (by decide) (by rfl) (by rfl))) po_none) pa_nil star_sub) (by rfl) (by decide) (by rfl) (by rfl)) rfl)
   (@pss_one _ _ _ (@ps_ret _ _ _ _ (@pe_lst _ _ _ _ pa_nil)))) pss_nil)
   (@pss_cons _ _ _ _ _ (@ps_set _ _ 2 _ _ _ _ sc_Desk_ask.nd rfl (by first | exact Or.inl rfl | exact Or.inr rfl) (pe_bmK (K:=K) rfl PySem.F.plainAttrs_str PySem.F.slot_str_split PySem.F.type_str_split mt_split (pv 1) (@pa_cons _ _ _ _ _ pe_str pa_nil (by rfl))) (by rfl) (by first | exact .inl rfl | exact .inr rfl))
   (@pss_cons _ _ _ _ _ (@ps_if _ _ _ _ _ _ _ _ (@pt_cmpR _ _ _ _ _ _ _ _ (op_in_seqK (K:=K) rfl) (@pe_ix _ _ _ _ _ _ _ (ix_seqK (K:=K) rfl) (pv 2) pe_int (fun _ _=>rfl)) (pe_globK (K:=K) rfl (by rfl) T.g_CHANGES) (by rfl)) (@pss_cons _ _ _ _ _ (@ps_expr _ _ _ _ (@pe_mt _ _ _ _ _ _ _ _ _ _ _ _ _ _ (df_Desk_change_by T) T.cl_Desk (hr.mono (by decide)) (pv 0) (@pa_cons _ _ _ _ _ (@pe_ix _ _ _ _ _ _ _ (ix_seqK (K:=K) rfl) (pv 2) pe_int (fun _ _=>rfl)) (@pa_cons _ _ _ _ _ (pe_slice (sl_X (K:=K) rfl) (pv 2) (po_some pe_int) po_none) pa_nil star_sub) star_sub) (by rfl) (by rfl) (by rfl)) (by rfl))
   (@pss_one _ _ _ (@ps_ret _ _ _ _ (@pe_lst _ _ _ _ pa_nil)))) pss_nil)
   (@pss_one _ _ _ (@ps_ret _ _ _ _ (@pe_mt _ _ _ _ _ _ _ _ _ _ _ _ _ _ (df_Desk_lines_told T) T.cl_Desk (hr.mono (by decide)) (pv 0) (@pa_cons _ _ _ _ _ (@pe_ix _ _ _ _ _ _ _ (ix_seqK (K:=K) rfl) (pv 2) pe_int (fun _ _=>rfl)) (@pa_cons _ _ _ _ _ (pe_slice (sl_X (K:=K) rfl) (pv 2) (po_some pe_int) po_none) pa_nil star_sub) star_sub) (by rfl) (by rfl) (by rfl))))))),?_⟩
   obtain ⟨n0,n10,fine⟩:=ask_fine k.ok hα
   have ll:=joinW_len (fun w hw=>(fine w hw).2) n10
   refine ⟨_,rfl,rfl,_,_,rfl,rfl,?_⟩
   rw [ask_starts]
   refine ⟨_,rfl,iteF ?_⟩
   dsimp only [tNext,tSeq]
   refine ⟨_,rfl,rfl,_,_,rfl,rfl,by decide +kernel,by omega,fun lw hlw=>?_⟩
   rw [str_blank,joinW_split n0 (fun w hw=>(fine w hw).1)]
   have s1:=same_upd (o:=.lst (((askW α).1 :: (askW α).2).map V.str)) hlw
   have e1:upd H lw (.lst (((askW α).1 :: (askW α).2).map V.str)) lw=some (.lst (V.str (askW α).1 :: (askW α).2.map V.str)):=upd_same
   generalize upd H lw (.lst (((askW α).1 :: (askW α).2).map V.str))=H1 at s1 e1 ⊢
   dsimp only [gName,List.set]
   refine ⟨_,rfl,Or.inl ⟨_,_,_,.str (askW α).1,rfl,rfl,SqL.of e1,atI_nat (j:=0) rfl,fun p hp=>⟨p,_,rfl,Or.inr hp.sq,rfl,rfl,_,rfl,?_⟩⟩⟩
   refine ite2 (fun z=>absurd (show inV (.str (askW α).1) _=true from z) (by rw [ask_in];decide)) (fun _=>?_)
   dsimp only [tNext,tSeq]
   refine ⟨_,rfl,x,dy,_,rfl,s1 _ _ k.at_,dk_no_lines_told ..,?_⟩
   refine ⟨_,rfl,Or.inl ⟨_,_,_,_,rfl,rfl,SqL.of e1,atI_nat (j:=0) rfl,?_⟩⟩
   refine ⟨_,rfl,_,rfl,Or.inl ⟨_,_,rfl,SqL.of e1,fun l2 hl2=>?_⟩⟩
   rw [cut_one]
   have s2:=same_upd (o:=.lst ((askW α).2.map V.str)) hl2
   exact ⟨x,dy,l2,fv,wv,rv,sv,D,α,rfl,k.same (s1.trans s2),upd_same,hα,fun l H3 s3 f3 h3=>q l H3 ((s1.trans s2).trans s3) ((s1.trans s2).free f3) h3⟩
def idxR:Rule→Int→Int→Int
 | .near,p,n=>led .near p n
 | .turned,p,n=>led .turned p n
 | .round,p,n=>led .round p n
 | _,p,_=>p
theorem rj_near (ru:Rule):ruleIs ru "near" = true↔ru = .near:=by
 cases ru <;> simp [ruleIs] <;> decide +kernel
theorem rj_round (ru:Rule):ruleIs ru "round" = true↔ru = .round:=by
 cases ru <;> simp [ruleIs] <;> decide +kernel
theorem rj_turned (ru:Rule):ruleIs ru "turned" = true↔ru = .turned:=by
 cases ru <;> simp [ruleIs] <;> decide +kernel
def spIndex:Sp:=fun vs H Q _=>∃ (rv:V) (ru:Rule) (p n:Int),vs=[rv,.int p,.int n]∧IsD H rv (ruleD ru)∧1≤n∧n < 2 ^ 40∧Q (.int (idxR ru p n)) H
theorem df_law_index (T:Txt K mg C):Df P w K mg base 1 "_law_index" ["rule","k","size"] spIndex:=by
 refine T.d_law_index.ok sc_law_index (fun vs H Q E h=>?_) (fun f cdv A outer s H vs Q E hr h=>?_)
 ·obtain ⟨rv,ru,p,n,rfl,_⟩:=h
  rfl
 ·obtain ⟨rv,ru,p,n,rfl,hru,n1,n2,q⟩:=h
  refine ⟨_,(@pss_cons _ _ _ _ _ (@ps_if _ _ _ _ _ _ _ _ (@pt_cmpR _ _ _ _ _ _ _ _ (op_eqA hr.units) (pv 0) pe_str (nomark _)) (@pss_one _ _ _ (@ps_ret _ _ _ _ (@pe_callB _ _ _ _ _ _ _ _ _ (call_min2 rfl) (by rfl) T.n_min bt_min (@pa_cons _ _ _ _ _ (@pe_callB _ _ _ _ _ _ _ _ _ (call_max2 rfl) (by rfl) T.n_max bt_max (@pa_cons _ _ _ _ _ (pv 1) (@pa_cons _ _ _ _ _ pe_int pa_nil (by rfl)) (by rfl)) (by decide) (by decide) (by rfl) (by rfl)) (@pa_cons _ _ _ _ _ (@pe_op _ _ _ _ _ _ _ _ op_sub (pv 2) pe_int) pa_nil star_bin) star_call) (by decide) (by decide) (by rfl) (by rfl)))) pss_nil)
   (@pss_cons _ _ _ _ _ (@ps_if _ _ _ _ _ _ _ _ (@pt_cmpR _ _ _ _ _ _ _ _ (op_eqA hr.units) (pv 0) pe_str (nomark _)) (@pss_one _ _ _ (@ps_ret _ _ _ _ (@pe_op _ _ _ _ _ _ _ _ op_mod (pv 1) (pv 2)))) pss_nil)
   (@pss_cons _ _ _ _ _ (@ps_if _ _ _ _ _ _ _ _ (@pt_cmpR _ _ _ _ _ _ _ _ (op_eqA hr.units) (pv 0) pe_str (nomark _)) (@pss_cons _ _ _ _ _ (@ps_set _ _ 1 _ _ _ _ sc_law_index.nd rfl (by first | exact Or.inl rfl | exact Or.inr rfl) (@pe_op _ _ _ _ _ _ _ _ op_mod (pv 1) (@pe_op _ _ _ _ _ _ _ _ op_mul pe_int (pv 2))) (by rfl) (by first | exact .inl rfl | exact .inr rfl))
   (@pss_one _ _ _ (@ps_ret _ _ _ _ (@pe_callB _ _ _ _ _ _ _ _ _ (call_min2 rfl) (by rfl) T.n_min bt_min (@pa_cons _ _ _ _ _ (pv 1) (@pa_cons _ _ _ _ _ (@pe_op _ _ _ _ _ _ _ _ op_sub (@pe_op _ _ _ _ _ _ _ _ op_sub (@pe_op _ _ _ _ _ _ _ _ op_mul pe_int (pv 2)) pe_int) (pv 1)) pa_nil star_bin) (by rfl)) (by decide) (by decide) (by rfl) (by rfl))))) pss_nil)
   (@pss_one _ _ _ (@ps_ret _ _ _ _ (pv 1)))))),?_⟩
  refine ⟨_,rfl,eq_rule hru (by decide +kernel) ⟨_,rfl,ite2 (fun z=>?_) (fun z1=>?_)⟩⟩
  ·obtain rfl:=(rj_near ru).mp z
   refine ⟨_,rfl,_,_,rfl,_,rfl,_,_,rfl,rfl,_,_,rfl,?_⟩
   rw [minInt,maxInt]
   exact q
  refine ⟨_,rfl,eq_rule hru (by decide +kernel) ⟨_,rfl,ite2 (fun z=>?_) (fun z2=>?_)⟩⟩
  ·obtain rfl:=(rj_round ru).mp z
   exact ⟨_,rfl,_,rfl,_,_,rfl,rfl,(by show (0:Int) < n;omega),q⟩
  refine ⟨_,rfl,eq_rule hru (by decide +kernel) ⟨_,rfl,ite2 (fun z=>?_) (fun z3=>?_)⟩⟩
  ·obtain rfl:=(rj_turned ru).mp z
   refine ⟨_,rfl,_,rfl,_,_,rfl,rfl,Or.inl ⟨by decide,by decide⟩,_,_,rfl,rfl,(by show (0:Int) < 2 * n;omega),?_⟩
   refine ⟨_,rfl,_,rfl,_,_,rfl,rfl,Or.inl ⟨by decide,by decide⟩,_,_,rfl,rfl,_,rfl,_,_,rfl,rfl,_,_,rfl,?_⟩
   rw [minInt]
   exact q
  ·refine ⟨_,rfl,?_⟩
   have e:idxR ru p n=p:=by
    cases ru with
    | near=>exact absurd ((rj_near _).mpr rfl) z1
    | round=>exact absurd ((rj_round _).mpr rfl) z2
    | turned=>exact absurd ((rj_turned _).mpr rfl) z3
    | there=>rfl
    | told c=>rfl
   rw [e] at q
   exact q
theorem idx_cells {F:List (List (Option Int))}(R:Rect F)(ru:Rule)(i j:Int) :
  (inF F (idxR ru i F.length) (idxR ru j (F.headD []).length)=true→stands F ru i j=[cellAt F (idxR ru i F.length) (idxR ru j (F.headD []).length)]) ∧
  (inF F (idxR ru i F.length) (idxR ru j (F.headD []).length)=false→(ru = .there ∧ stands F ru i j=[]) ∨ ∃ c,ru = .told c∧stands F ru i j=[c]):=by
 have h1:=R.h1;have w1:=R.w1
 have led_ok:∀ r:Rule,(r = .near ∨ r = .turned ∨ r = .round)→inF F (led r i F.length) (led r j (F.headD []).length)=true∧stands F r i j=[cellAt F (led r i F.length) (led r j (F.headD []).length)]:=fun r hr=>by
  have li:=led_in r i (n:=F.length) (by omega)
  have lj:=led_in r j (n:=(F.headD []).length) (by omega)
  refine ⟨by unfold inF;rw [decide_eq_true li.1,decide_eq_true li.2,decide_eq_true lj.1,decide_eq_true lj.2];rfl,?_⟩
  unfold stands
  cases hin:inF F i j with
  | true =>
   rw [if_pos rfl]
   unfold inF at hin
   simp only [Bool.and_eq_true,decide_eq_true_eq] at hin
   rw [led_id r hin.1.1 hin.1.2,led_id r hin.2.1 hin.2.2]
  | false =>
   rw [if_neg Bool.false_ne_true]
   rcases hr with rfl | rfl | rfl <;> rfl
 cases ru with
 | near=>exact ⟨fun _=>(led_ok .near (by simp)).2,fun z=>by have:=(led_ok .near (by simp)).1;rw [show idxR .near i F.length=led .near i F.length from rfl,show idxR .near j (F.headD []).length=led .near j (F.headD []).length from rfl,this] at z;cases z⟩
 | turned=>exact ⟨fun _=>(led_ok .turned (by simp)).2,fun z=>by have:=(led_ok .turned (by simp)).1;rw [show idxR .turned i F.length=led .turned i F.length from rfl,show idxR .turned j (F.headD []).length=led .turned j (F.headD []).length from rfl,this] at z;cases z⟩
 | round=>exact ⟨fun _=>(led_ok .round (by simp)).2,fun z=>by have:=(led_ok .round (by simp)).1;rw [show idxR .round i F.length=led .round i F.length from rfl,show idxR .round j (F.headD []).length=led .round j (F.headD []).length from rfl,this] at z;cases z⟩
 | there =>
  refine ⟨fun z=>?_,fun z=>Or.inl ⟨rfl,?_⟩⟩
  ·unfold stands;rw [if_pos (show inF F i j=true from z)];rfl
  ·unfold stands;rw [if_neg (by rw [show inF F i j=false from z];decide)]
 | told c =>
  refine ⟨fun z=>?_,fun z=>Or.inr ⟨c,rfl,?_⟩⟩
  ·unfold stands;rw [if_pos (show inF F i j=true from z)];rfl
  ·unfold stands;rw [if_neg (by rw [show inF F i j=false from z];decide)]
theorem ne_rule {H:Hp}{rv:V}{ru:Rule}{x:Str}{Q:VK}(h:IsD H rv (ruleD ru))(hx:(PyData.str x).canLay0=true)(q:Q (.bl (!ruleIs ru x)) H):rNe rv (.str x) H Q ∨ rNeD 0 rv (.str x) H Q:=by
 have st:∀ y:Str,rv = .str y→Q (.bl (!decide (y=x))) H→rNe rv (.str x) H Q ∨ rNeD 0 rv (.str x) H Q:=fun y e q'=>by
  subst e
  refine Or.inl ⟨rfl,?_⟩
  have:decide (V.str y=V.str x)=decide (y=x):=by
   by_cases z:y=x
   ·subst z;simp
   ·rw [decide_eq_false (fun e=>z (V.str.inj e)),decide_eq_false z]
  rw [this];exact q'
 cases ru with
 | there=>exact st _ (rule_str h) q
 | near=>exact st _ (rule_str h) q
 | turned=>exact st _ (rule_str h) q
 | round=>exact st _ (rule_str h) q
 | told c =>
  refine Or.inr ⟨_,_,h,.str _,⟨?_,hx,?_⟩,q⟩
  ·show PyData.canLayAll0 [.str "told",cellD c]=true
   rw [PyData.canLayAll0,PyData.canLayAll0,canLay_cell]
   decide +kernel
  ·show PyData.depthAll [.str "told",cellD c] + 1≤20
   rw [PyData.depthAll,PyData.depthAll,depth_cell]
   decide
theorem tIfS_at {t:TT}{a b:TS}{D:Ends}{σ:St}{H:Hp}(P:Bool→Hp→Prop)(key:∀ c H1,P c H1→if c=true then a D σ H1 else b D σ H1)(test:∀ Q:Bool→Hp→Prop,(∀ c H1,P c H1→Q c H1)→t σ H Q):tIfS t a b D σ H:=test _ key
theorem isCell_inv' {H:Hp}{v:V}:∀ {c:Option Int},IsD H v (cellD c)→v=cellV c
 | none,h=>by cases h;rfl
 | some _,h=>by cases h;rfl
def spWinAt:Sp:=fun vs H Q _=>∃ (fv wv rv:V) (F:List (List (Option Int))) (ru:Rule) (u d l r:Nat) (i j:Int),vs=[fv,wv,rv,.int i,.int j]∧Rect F∧IsD H fv (fieldD F)∧IsD H wv (winD u d l r)∧IsD H rv (ruleD ru)∧(-(2 ^ 40) < i∧i < 2 ^ 40)∧(-(2 ^ 40) < j∧j < 2 ^ 40)∧(u≤100∧d≤100∧l≤100∧r≤100) ∧
 ∀ (p:Addr) (H':Hp),Same H H'→H' p=some (.lst ((wc F ru u d l r i j).map cellV))→Q (.ref p) H'
theorem df_law_window_at (T:Txt K mg C):Df P w K mg base 2 "_law_window_at" ["field","window","rule","i","j"] spWinAt:=by
 refine T.d_law_window_at.ok sc_law_window_at (fun vs H Q E h=>?_) (fun f cdv A outer s H vs Q E hr h=>?_)
 ·obtain ⟨fv,wv,rv,F,ru,u,d,l,r,i,j,rfl,_⟩:=h
  rfl
 ·obtain ⟨fv,wv,rv,F,ru,u,d,l,r,i,j,rfl,R,hf,hw,hru,bi,bj,⟨bu,bd,bl,br⟩,q⟩:=h
  refine ⟨_,(@pss_cons _ _ _ _ _ (@ps_asg _ _ _ _ _ _ (pv 1) (pg_tupK (K:=K) rfl rfl (pgs_cons (pg_name (i:=5) sc_law_window_at.nd rfl (by first | exact Or.inl rfl | exact Or.inr rfl)) (pgs_cons (pg_name (i:=6) sc_law_window_at.nd rfl (by first | exact Or.inl rfl | exact Or.inr rfl)) (pgs_cons (pg_name (i:=7) sc_law_window_at.nd rfl (by first | exact Or.inl rfl | exact Or.inr rfl)) (pgs_cons (pg_name (i:=8) sc_law_window_at.nd rfl (by first | exact Or.inl rfl | exact Or.inr rfl)) pgs_nil))))) (by rfl) (by rfl) (by rfl))
   (@pss_cons _ _ _ _ _ (@ps_set _ _ 9 _ _ _ _ sc_law_window_at.nd rfl (by first | exact Or.inl rfl | exact Or.inr rfl) (@pe_lst _ _ _ _ pa_nil) (by rfl) (by first | exact .inl rfl | exact .inr rfl))
   (@pss_cons _ _ _ _ _ (@ps_for _ _ _ _ _ _ _ _ PassesOwn.never rfl (pi_range2 (by rfl) T.n_range (@pa_cons _ _ _ _ _ (@pe_op _ _ _ _ _ _ _ _ op_sub (pv 3) (pv 5)) (@pa_cons _ _ _ _ _ (@pe_op _ _ _ _ _ _ _ _ op_add (@pe_op _ _ _ _ _ _ _ _ op_add (pv 3) (pv 6)) pe_int) pa_nil star_bin) star_bin)) (pg_name (i:=10) sc_law_window_at.nd rfl (by first | exact Or.inl rfl | exact Or.inr rfl)) (@pss_one _ _ _ (@ps_for _ _ _ _ _ _ _ _ PassesOwn.never rfl (pi_range2 (by rfl) T.n_range (@pa_cons _ _ _ _ _ (@pe_op _ _ _ _ _ _ _ _ op_sub (pv 4) (pv 7)) (@pa_cons _ _ _ _ _ (@pe_op _ _ _ _ _ _ _ _ op_add (@pe_op _ _ _ _ _ _ _ _ op_add (pv 4) (pv 8)) pe_int) pa_nil star_bin) star_bin)) (pg_name (i:=11) sc_law_window_at.nd rfl (by first | exact Or.inl rfl | exact Or.inr rfl)) (@pss_cons _ _ _ _ _ (@ps_set _ _ 12 _ _ _ _ sc_law_window_at.nd rfl (by first | exact Or.inl rfl | exact Or.inr rfl) (@pe_df _ _ _ _ _ _ _ _ _ _ (df_law_index T) (hr.mono (by decide)) (@pa_cons _ _ _ _ _ (pv 2) (@pa_cons _ _ _ _ _ (pv 10) (@pa_cons _ _ _ _ _ (@pe_callB _ _ _ _ _ _ _ _ _ (call_lenK (K:=K) rfl) (by rfl) T.n_len bt_len (@pa_cons _ _ _ _ _ (pv 0) pa_nil (by rfl)) (by decide) (by decide) (by rfl) (by rfl)) pa_nil star_call) (by rfl)) (by rfl)) (by rfl) (by decide) (by rfl) (by rfl)) (by rfl) (by first | exact .inl rfl | exact .inr rfl))
   (@pss_cons _ _ _ _ _ (@ps_set _ _ 13 _ _ _ _ sc_law_window_at.nd rfl (by first | exact Or.inl rfl | exact Or.inr rfl) (@pe_df _ _ _ _ _ _ _ _ _ _ (df_law_index T) (hr.mono (by decide)) (@pa_cons _ _ _ _ _ (pv 2) (@pa_cons _ _ _ _ _ (pv 11) (@pa_cons _ _ _ _ _ (@pe_callB _ _ _ _ _ _ _ _ _ (call_lenK (K:=K) rfl) (by rfl) T.n_len bt_len (@pa_cons _ _ _ _ _ (@pe_ix _ _ _ _ _ _ _ (ix_seqK (K:=K) rfl) (pv 0) pe_int (fun _ _=>rfl)) pa_nil star_sub) (by decide) (by decide) (by rfl) (by rfl)) pa_nil star_call) (by rfl)) (by rfl)) (by rfl) (by decide) (by rfl) (by rfl)) (by rfl) (by first | exact .inl rfl | exact .inr rfl))
   (@pss_one _ _ _ (@ps_if _ _ _ _ _ _ _ _ (pw_and (pt_chain op_le op_lt pe_int (pv 12) (@pe_callB _ _ _ _ _ _ _ _ _ (call_lenK (K:=K) rfl) (by rfl) T.n_len bt_len (@pa_cons _ _ _ _ _ (pv 0) pa_nil (by rfl)) (by decide) (by decide) (by rfl) (by rfl))) (pw_and1 (pt_chain op_le op_lt pe_int (pv 13) (@pe_callB _ _ _ _ _ _ _ _ _ (call_lenK (K:=K) rfl) (by rfl) T.n_len bt_len (@pa_cons _ _ _ _ _ (@pe_ix _ _ _ _ _ _ _ (ix_seqK (K:=K) rfl) (pv 0) pe_int (fun _ _=>rfl)) pa_nil star_sub) (by decide) (by decide) (by rfl) (by rfl))))).pt (@pss_one _ _ _ (@ps_expr _ _ _ _ (@pe_bm _ _ _ _ _ _ _ _ _ _ _ _ PySem.F.plainAttrs_list PySem.F.slot_list_append PySem.F.type_list_append mt_append (pv 9) (@pa_cons _ _ _ _ _ (@pe_ix _ _ _ _ _ _ _ (ix_seqK (K:=K) rfl) (@pe_ix _ _ _ _ _ _ _ (ix_seqK (K:=K) rfl) (pv 0) (pv 12) (fun _ _=>rfl)) (pv 13) (fun _ _=>rfl)) pa_nil star_sub) (by rfl) (by rfl) (by rfl) (by rfl) (by rfl)) (by rfl))) (@pss_one _ _ _ (@ps_if _ _ _ _ _ _ _ _ (@pt_cmpR _ _ _ _ _ _ _ _ (op_neA hr.units) (pv 2) pe_str (nomark _)) (@pss_one _ _ _ (@ps_expr _ _ _ _ (@pe_bm _ _ _ _ _ _ _ _ _ _ _ _ PySem.F.plainAttrs_list PySem.F.slot_list_append PySem.F.type_list_append mt_append (pv 9) (@pa_cons _ _ _ _ _ (@pe_ix _ _ _ _ _ _ _ (ix_seqK (K:=K) rfl) (pv 2) pe_int (fun _ _=>rfl)) pa_nil star_sub) (by rfl) (by rfl) (by rfl) (by rfl) (by rfl)) (by rfl))) pss_nil)))))) (by intro _;rfl))) (by intro _;rfl))
   (@pss_one _ _ _ (@ps_ret _ _ _ _ (pv 9)))))),?_⟩
  obtain ⟨wa,rfl,hwa⟩:=isWin_inv hw
  have h1:=R.h1;have hs:=R.hs;have w1:=R.w1;have ws:=R.ws
  obtain ⟨fa,xs,b0,ys0,rfl,hfa,la,hb0,hb,lb⟩:=field_sizes R hf
  refine ⟨_,rfl,_,_,rfl,SqT.of hwa,rfl,?_⟩
  refine ⟨_,_,rfl,_,_,rfl,_,_,rfl,_,_,rfl,rfl,?_⟩
  refine ⟨(by show 0≤sizeLine;decide),fun c hc=>?_⟩
  have s1:=same_upd (o:=.lst []) hc
  have hc1:upd H c (.lst []) c=some (.lst []):=upd_same
  have oldne:∀ b o,H b=some o→b≠c:=fun b o e=>ne_of_none e hc
  have keepH:∀ {H':Hp},KeepBut c (upd H c (.lst [])) H'→Same H H':=fun k b o e=>k b o (s1 b o e) (oldne b o e)
  generalize upd H c (.lst [])=H1 at s1 hc1 keepH ⊢
  refine ⟨_,rfl,_,rfl,_,_,rfl,rfl,_,rfl,_,rfl,_,_,rfl,rfl,_,_,rfl,rfl,?_⟩
  refine ⟨_,_,rfl,⟨by omega,by omega,by omega,by omega⟩,?_⟩
  have eu:(i + (d:Int) + 1 - (i - (u:Int))).toNat=u + d + 1:=by omega
  rw [eu]
  have len:∀ k m:Nat,k≤u + d + 1→m≤l + r + 1→∀ row:Int,(((List.range k).flatMap fun a=>rowCells F ru l r (i - u + (a:Nat)) j) ++ (List.range m).flatMap fun b=>stands F ru row (j - l + (b:Nat))).length ≤ 50000:=fun k m hk hm row=>by
   have l1:=flatMap_len (fun a=>rowCells F ru l r (i - u + (a:Nat)) j) (m:=201) (fun k=>Nat.le_trans (rowCells_len _ _ _ _ _ _) (by omega)) k
   have l2:=flatMap_len (fun b=>stands F ru row (j - l + (b:Nat))) (m:=1) (fun k=>stands_len _ _ _ _) m
   have l4:k * 201≤201 * 201:=Nat.mul_le_mul_right _ (by omega)
   rw [List.length_append]
   omega
  refine for_range (n:=u + d + 1) (fun a σ H'=>∃ (v10 v11 v12 v13:Option V),σ=[some (.ref fa),some (.ref wa),some rv,some (.int i),some (.int j),some (.int u),some (.int d),some (.int l),some (.int r),some (.ref c),v10,v11,v12,v13]∧KeepBut c H1 H' ∧
    H' c=some (.lst (((List.range a).flatMap fun a=>rowCells F ru l r (i - u + (a:Nat)) j).map cellV))) ⟨none,none,none,none,rfl,KeepBut.refl _ _,hc1⟩ ?_ ?_
  ·rintro a _ H4 ha ⟨v10,v11,v12,v13,rfl,k4,hc4⟩
   refine ⟨_,rfl,_,rfl,_,_,rfl,rfl,_,rfl,_,rfl,_,_,rfl,rfl,_,_,rfl,rfl,?_⟩
   refine ⟨_,_,rfl,⟨by omega,by omega,by omega,by omega⟩,?_⟩
   have ev:(j + (r:Int) + 1 - (j - (l:Int))).toNat=l + r + 1:=by omega
   rw [ev]
   refine for_range (n:=l + r + 1) (fun b σ H'=>∃ (v11 v12 v13:Option V),σ=[some (.ref fa),some (.ref wa),some rv,some (.int i),some (.int j),some (.int u),some (.int d),some (.int l),some (.int r),some (.ref c),some (.int (i - u + (a:Nat))),v11,v12,v13]∧KeepBut c H1 H' ∧
     H' c=some (.lst ((((List.range a).flatMap fun a=>rowCells F ru l r (i - u + (a:Nat)) j) ++ (List.range b).flatMap fun b=>stands F ru (i - u + (a:Nat)) (j - l + (b:Nat))).map cellV))) ⟨v11,v12,v13,rfl,k4,by rw [hc4];simp⟩ ?_ ?_
   ·rintro b _ H5 hb5 ⟨v11,v12,v13,rfl,k5,hc5⟩
    have S5:=keepH k5
    have hfa5:=S5 _ _ hfa
    have hb5':=S5 _ _ hb
    refine ⟨_,rfl,_,rfl,_,rfl,_,_,rfl,Or.inr ⟨_,SqT.of hfa5,rfl⟩,?_⟩
    refine ⟨rv,ru,_,_,rfl,hru.keep S5.tups,by omega,by omega,?_⟩
    dsimp only [gName,List.set]
    refine ⟨_,rfl,_,rfl,_,rfl,Or.inr (Or.inl ⟨_,_,_,_,rfl,rfl,SqT.of hfa5,hb0,_,_,rfl,Or.inr ⟨_,SqT.of hb5',rfl⟩,?_⟩)⟩
    refine ⟨rv,ru,_,_,rfl,hru.keep S5.tups,by omega,by omega,?_⟩
    dsimp only [gName,List.set]
    rw [la,lb]
    obtain ⟨in1,in2⟩:=idx_cells R ru (i - u + (a:Nat)) (j - l + (b:Nat))
    have e0:(0:Int)=0:=rfl
    generalize idxR ru (i - u + (a:Nat)) F.length=ro at in1 in2 ⊢
    generalize idxR ru (j - l + (b:Nat)) (F.headD []).length=co at in1 in2 ⊢
    have lenA:=len a b (by omega) (by omega) (i - u + (a:Nat))
    have grow:∀ x:Option Int,stands F ru (i - u + (a:Nat)) (j - l + (b:Nat))=[x]→KeepBut c H1 (upd H5 c (.lst ((((List.range a).flatMap fun a=>rowCells F ru l r (i - u + (a:Nat)) j) ++ (List.range b).flatMap fun b=>stands F ru (i - u + (a:Nat)) (j - l + (b:Nat))).map cellV ++ [cellV x])))∧upd H5 c (.lst ((((List.range a).flatMap fun a=>rowCells F ru l r (i - u + (a:Nat)) j) ++ (List.range b).flatMap fun b=>stands F ru (i - u + (a:Nat)) (j - l + (b:Nat))).map cellV ++ [cellV x])) c=some (.lst ((((List.range a).flatMap fun a=>rowCells F ru l r (i - u + (a:Nat)) j) ++ (List.range (b + 1)).flatMap fun b=>stands F ru (i - u + (a:Nat)) (j - l + (b:Nat))).map cellV)):=fun x hx=>by
     refine ⟨fun b' o e n=>by rw [upd_ne n];exact k5 b' o e n,?_⟩
     rw [upd_same,flatMap_succ,hx]
     simp only [List.map_append,List.append_assoc,List.map_cons,List.map_nil]
    have fits:((((List.range a).flatMap fun a=>rowCells F ru l r (i - u + (a:Nat)) j) ++ (List.range b).flatMap fun b=>stands F ru (i - u + (a:Nat)) (j - l + (b:Nat))).map cellV).length < sizeLine:=by
     rw [List.length_map]
     exact Nat.lt_of_lt_of_le (show _ < 60000 by omega) (by decide)
    refine tIfS_at (fun c' H'=>H'=H5∧c'=inF F ro co) (fun c' H' ⟨eh,ec⟩=>?_) (fun Q' hQ=>?_)
    ·subst eh
     cases c' with
     | true =>
      have hin:inF F ro co=true:=ec.symm
      have st:=in1 hin
      unfold inF at hin
      simp only [Bool.and_eq_true,decide_eq_true_eq] at hin
      obtain ⟨⟨r0,r1⟩,c0,c1⟩:=hin
      obtain ⟨rn,rfl⟩:∃ m:Nat,ro=(m:Int):=⟨ro.toNat,by omega⟩
      obtain ⟨cn,rfl⟩:∃ m:Nat,co=(m:Int):=⟨co.toNat,by omega⟩
      obtain ⟨fa',xs',ra,ys,ef,e1,e2,e3,e4⟩:=field_cell (i:=rn) (j:=cn) R (hf.keep S5.tups) (by omega) (by omega)
      cases ef
      rw [hfa5] at e1
      cases e1
      refine iteT ?_
      refine ⟨_,rfl,Or.inl ⟨rfl,_,SqL.of hc5⟩,?_⟩
      refine ⟨_,rfl,_,rfl,Or.inr (Or.inl ⟨_,_,_,_,rfl,rfl,SqT.of hfa5,e2,?_⟩)⟩
      refine ⟨_,rfl,Or.inr (Or.inl ⟨_,_,_,_,rfl,rfl,SqT.of e3,e4,?_⟩)⟩
      refine ⟨_,_,_,rfl,rfl,hc5,fits,?_⟩
      obtain ⟨g1,g2⟩:=grow _ st
      exact ⟨_,_,_,rfl,g1,g2⟩
     | false =>
      refine iteF ?_
      rcases in2 ec.symm with ⟨rfl,st⟩ | ⟨x,rfl,st⟩
      ·refine ⟨_,rfl,ne_rule (hru.keep S5.tups) (by decide +kernel) ⟨_,rfl,ite2 (fun z=>absurd z (by decide +kernel)) (fun _=>?_)⟩⟩
       refine ⟨_,_,_,rfl,k5,?_⟩
       rw [hc5,flatMap_succ,st,List.append_nil]
      ·obtain ⟨ra,zs,e1,e2,e3⟩:=(hru.keep S5.tups).tuple_inv
       cases e3 with | cons y1 e3=>cases e3 with | cons y2 e3=>cases e3 with
       | nil =>
        refine ⟨_,rfl,ne_rule (hru.keep S5.tups) (by decide +kernel) ⟨_,rfl,ite2 (fun _=>?_) (fun z=>absurd rfl z)⟩⟩
        have y3:=isCell_inv' y2
        subst e1 y3
        refine ⟨_,rfl,Or.inl ⟨rfl,_,SqL.of hc5⟩,?_⟩
        refine ⟨_,rfl,Or.inr (Or.inl ⟨_,_,_,_,rfl,rfl,SqT.of e2,rfl,?_⟩)⟩
        refine ⟨_,_,_,rfl,rfl,hc5,fits,?_⟩
        obtain ⟨g1,g2⟩:=grow _ st
        exact ⟨_,_,_,rfl,g1,g2⟩
    ·have no1:¬ (0≤ro∧ro < F.length)→inF F ro co=false:=fun h=>Bool.eq_false_iff.mpr fun z=>h (by unfold inF at z;simp only [Bool.and_eq_true,decide_eq_true_eq] at z;exact z.1)
     have no2:¬ (0≤co∧co < (F.headD []).length)→inF F ro co=false:=fun h=>Bool.eq_false_iff.mpr fun z=>h (by unfold inF at z;simp only [Bool.and_eq_true,decide_eq_true_eq] at z;exact z.2)
     have yes:0≤ro→ro < F.length → 0≤co→co < (F.headD []).length → inF F ro co=true:=fun h1 h2 h3 h4=>by unfold inF;rw [decide_eq_true h1,decide_eq_true h2,decide_eq_true h3,decide_eq_true h4];rfl
     refine ⟨_,rfl,_,_,rfl,rfl,_,rfl,ite2 (fun z1=>?_) (fun z1=>?_)⟩
     ·refine ⟨_,rfl,_,_,rfl,Or.inr ⟨_,SqT.of hfa5,rfl⟩,_,_,rfl,rfl,_,rfl,?_⟩
      rw [la]
      refine ite2 (fun z2=>?_) (fun z2=>?_)
      ·refine ⟨_,rfl,_,_,rfl,rfl,_,rfl,ite2 (fun z3=>?_) (fun z3=>?_)⟩
       ·refine ⟨_,rfl,Or.inr (Or.inl ⟨_,_,_,_,rfl,rfl,SqT.of hfa5,hb0,_,_,rfl,Or.inr ⟨_,SqT.of hb5',rfl⟩,_,_,rfl,rfl,_,rfl,?_⟩)⟩
        refine hQ _ _ ⟨rfl,?_⟩
        rw [lb]
        by_cases z4:co < (F.headD []).length
        ·rw [decide_eq_true z4,yes (of_decide_eq_true z1) (of_decide_eq_true z2) (of_decide_eq_true z3) z4]
        ·rw [decide_eq_false z4,no2 fun h=>z4 h.2]
       ·exact ⟨_,rfl,hQ _ _ ⟨rfl,(no2 fun h=>z3 (decide_eq_true h.1)).symm⟩⟩
      ·exact hQ _ _ ⟨rfl,(no1 fun h=>z2 (decide_eq_true h.2)).symm⟩
     ·exact ⟨_,rfl,iteF (hQ _ _ ⟨rfl,(no1 fun h=>z1 (decide_eq_true h.1)).symm⟩)⟩
   ·rintro _ H5 ⟨v11,v12,v13,rfl,k5,hc5⟩
    refine ⟨_,_,_,_,rfl,k5,?_⟩
    rw [hc5,flatMap_succ _ a]
    rfl
  ·rintro _ H4 ⟨v10,v11,v12,v13,rfl,k4,hc4⟩
   exact ⟨_,rfl,q c _ (keepH k4) hc4⟩
def spTold34:Sp:=fun vs H Q _=>∃ (p:Addr) (sv:V) (cs:List (Option Int)) (a b:Int),vs=[.ref p,sv]∧H p=some (.lst (cs.map cellV))∧cs.length ≤ 50000∧IsD H sv (placeD (a,b))∧Share a b∧∀ H',Same H H'→Q (cellV (manieth (cs.filterMap id) a b)) H'
theorem df_law_told (T:Txt K mg C):Df P w K mg base 1 "_law_told" ["cells","share"] spTold34:=by
 refine T.d_law_told.ok sc_law_told (fun vs H Q E h=>?_) (fun f cdv A outer s H vs Q E hr h=>?_)
 ·obtain ⟨p,sv,cs,a,b,rfl,_⟩:=h
  rfl
 ·obtain ⟨p,sv,cs,a',b',rfl,hp,hl,hs,hS,q⟩:=h
  refine ⟨_,(@pss_cons _ _ _ _ _ (@ps_set _ _ 2 _ _ _ _ sc_law_told.nd rfl (by first | exact Or.inl rfl | exact Or.inr rfl) (@pe_callB _ _ _ _ _ _ _ _ _ call_sorted (by rfl) T.n_sorted bt_sorted (@pa_cons _ _ _ _ _ (pe_compIf (M:=[]) (idx:=[]) rfl (pi_seqK (K:=K) rfl (pv 0)) (compOk (by kernel_rfl)) (by decide +kernel) (by first | exact Or.inl rfl | exact Or.inr rfl) (fun _ _ _ _ _=>pts_one (@pt_cmpR _ _ _ _ _ _ _ _ op_notN (pv 0) pe_non (nomark _))) (fun _ _ _ _ _=>(pv 0))) pa_nil star_comp) (by decide) (by decide) (by rfl) (by rfl)) (by rfl) (by first | exact .inl rfl | exact .inr rfl))
   (@pss_cons _ _ _ _ _ (@ps_if _ _ _ _ _ _ _ _ (@pt_cmpR _ _ _ _ _ _ _ _ (op_eqX hr.units) (pv 2) (@pe_lst _ _ _ _ pa_nil) (nomark _)) (@pss_one _ _ _ (@ps_ret _ _ _ _ pe_non)) pss_nil)
   (@pss_one _ _ _ (@ps_ret _ _ _ _ (@pe_ix _ _ _ _ _ _ _ (ix_seqK (K:=K) rfl) (pv 2) (@pe_op _ _ _ _ _ _ _ _ op_fdivB (@pe_op _ _ _ _ _ _ _ _ op_mul (@pe_ix _ _ _ _ _ _ _ (ix_seqK (K:=K) rfl) (pv 1) pe_int (fun _ _=>rfl)) (@pe_op _ _ _ _ _ _ _ _ op_sub (@pe_callB _ _ _ _ _ _ _ _ _ (call_lenK (K:=K) rfl) (by rfl) T.n_len bt_len (@pa_cons _ _ _ _ _ (pv 2) pa_nil (by rfl)) (by decide) (by decide) (by rfl) (by rfl)) pe_int)) (@pe_ix _ _ _ _ _ _ _ (ix_seqK (K:=K) rfl) (pv 1) pe_int (fun _ _=>rfl))) (fun _ _=>rfl)))))),?_⟩
  obtain ⟨sa,rfl,hsa⟩:=isPlace_inv hs
  refine comp_seqV (K:=K) (xs:=cs.map cellV) (fun k h=>⟨_,rfl,h⟩) (.inr hp) (fun i ys H'=>H'=H∧ys=((cs.take i).filterMap id).map V.int) ⟨rfl,rfl⟩ (by rw [List.length_map];exact Nat.le_trans hl (by decide)) (fun i ys H' _ ⟨e,_⟩=>by rw [e]) ?_ ?_
  ·rintro i x ys _ hx ⟨rfl,rfl⟩
   obtain ⟨c,ec,rfl⟩:=cell_at hx
   rw [List.take_add_one,ec,List.filterMap_append,List.map_append]
   cases c with
   | none =>
    refine ⟨_,rfl,rfl,_,rfl,?_⟩
    refine iteF ?_
    exact ⟨rfl,by simp⟩
   | some n =>
    refine ⟨_,rfl,rfl,_,rfl,?_⟩
    refine iteT ?_
    exact ⟨_,rfl,rfl,rfl⟩
  ·rintro ys H0 ⟨eH,rfl⟩ l2 hl2
   subst eH
   rw [List.length_map,List.take_length]
   have ln:(cs.filterMap id).length ≤ 50000:=Nat.le_trans (List.length_filterMap_le _ _) hl
   generalize cs.filterMap id=ns at q ln ⊢
   have s2:=same_upd (o:=.lst (ns.map V.int)) hl2
   have e2:upd H0 l2 (.lst (ns.map V.int)) l2=some (.lst (ns.map V.int)):=upd_same
   generalize upd H0 l2 (.lst (ns.map V.int))=H2 at s2 e2 ⊢
   refine ⟨l2,ns,rfl,Or.inr e2,fun l3 hl3=>?_⟩
   have s3:=same_upd (o:=.lst ((sortI ns).map V.int)) hl3
   have e3:upd H2 l3 (.lst ((sortI ns).map V.int)) l3=some (.lst ((sortI ns).map V.int)):=upd_same
   generalize upd H2 l3 (.lst ((sortI ns).map V.int))=H3 at s3 e3 ⊢
   dsimp only [gName,List.set]
   have S3:=s2.trans s3
   refine ⟨_,rfl,(by show 0≤sizeLine;decide),fun p5 hp5=>?_⟩
   have s5:=same_upd (o:=.lst []) hp5
   have e5:=s5 _ _ e3
   have S5:=S3.trans s5
   refine Or.inr (eq_cellsNil (cs:=(sortI ns).map some) (by rw [e5,cells_of]) upd_same ⟨_,rfl,?_⟩)
   generalize upd H3 p5 (.lst [])=H5 at s5 e5 S5 ⊢
   have ll:(sortI ns).length=ns.length:=sortI_len ns
   by_cases z:ns=[]
   ·subst z
    rw [manieth_nil] at q
    have en:sortI []=[]:=List.length_eq_zero_iff.mp (by rw [sortI_len];rfl)
    rw [decide_eq_true (show (sortI []).map some=[] by rw [en];rfl)]
    exact iteT (q _ S5)
   ·have z':¬ sortI ns=[]:=fun e=>z (List.length_eq_zero_iff.mp (by rw [← ll,e];rfl))
    rw [decide_eq_false (show ¬ (sortI ns).map some=[] from fun e=>z' (List.map_eq_nil_iff.mp e))]
    refine iteF ?_
    obtain ⟨h',em⟩:=manieth_some hS z
    rw [em] at q
    have lp:1≤ns.length:=List.length_pos_iff.mpr z
    obtain ⟨pb0,pb1⟩:=place_bounds (n:=ns.length) hS lp
    obtain ⟨q1,q2,q3,q4⟩:=hS
    refine ⟨_,rfl,_,rfl,Or.inr (Or.inl ⟨_,_,_,_,rfl,rfl,SqT.of (S5 _ _ hsa),rfl,?_⟩)⟩
    refine ⟨_,rfl,_,_,rfl,Or.inl ⟨_,SqL.of e5,rfl⟩,_,_,rfl,rfl,_,_,rfl,rfl,Or.inl ⟨by show -(2 ^ 64) < a';omega,by show a' < 2 ^ 64;omega⟩,?_⟩
    refine ⟨_,rfl,Or.inr (Or.inl ⟨_,_,_,_,rfl,rfl,SqT.of (S5 _ _ hsa),rfl,_,_,rfl,rfl,⟨by show 0 < b';omega,by show b' < 2 ^ 62;omega⟩,?_⟩)⟩
    refine Or.inl ⟨_,_,_,_,rfl,rfl,SqL.of e5,?_,q _ S5⟩
    have e1:a' * ((((sortI ns).map V.int).length:Int) - 1) / b'=(((placeOf ns.length a' b').toNat:Nat):Int):=by
     rw [List.length_map,ll,Int.toNat_of_nonneg pb0];rfl
    show atI ((sortI ns).map V.int) (a' * ((((sortI ns).map V.int).length:Int) - 1) / b')=_
    rw [e1]
    exact atI_nat (by rw [List.getElem?_map,List.getElem?_eq_getElem h'];rfl)
def spFilteredL34:Sp:=fun vs H Q _=>∃ (fv wv rv sv:V) (F:List (List (Option Int))) (ru:Rule) (u d l r:Nat) (a b:Int),vs=[fv,wv,rv,sv]∧Rect F∧IsD H fv (fieldD F)∧IsD H wv (winD u d l r)∧IsD H rv (ruleD ru)∧IsD H sv (placeD (a,b))∧Share a b ∧
 (u≤100∧d≤100∧l≤100∧r≤100)∧∀ (v:V) (H':Hp),Same H H'→IsD H' v (fieldD (fil F ru u d l r a b))→Q v H'
theorem df_law_filtered (T:Txt K mg C):Df P w K mg base 3 "_law_filtered" ["field","window","rule","share"] spFilteredL34:=by
 refine T.d_law_filtered.ok sc_law_filtered (fun vs H Q E h=>?_) (fun f cdv A outer s H vs Q E hr h=>?_)
 ·obtain ⟨fv,wv,rv,sv,F,ru,u,d,l,r,a,b,rfl,_⟩:=h
  rfl
 ·obtain ⟨fv,wv,rv,sv,F,ru,u,d,l,r,a,b,rfl,R,hf,hw,hru,hs,hS,bb,q⟩:=h
  obtain ⟨fa,xs,b0,ys0,rfl,hfa,la,hb0,hb,lb⟩:=field_sizes R hf
  have hW:=R.ws
  have hH:=R.hs
  refine ⟨_,(@pss_cons _ _ _ _ _ (@ps_set _ _ 4 _ _ _ _ sc_law_filtered.nd rfl (by first | exact Or.inl rfl | exact Or.inr rfl) (@pe_lst _ _ _ _ pa_nil) (by rfl) (by first | exact .inl rfl | exact .inr rfl))
   (@pss_cons _ _ _ _ _ (@ps_for _ _ _ _ _ _ _ _ PassesOwn.never rfl (pi_range1 (by rfl) T.n_range (@pa_cons _ _ _ _ _ (@pe_callB _ _ _ _ _ _ _ _ _ (call_lenK (K:=K) rfl) (by rfl) T.n_len bt_len (@pa_cons _ _ _ _ _ (pv 0) pa_nil (by rfl)) (by decide) (by decide) (by rfl) (by rfl)) pa_nil star_call)) (pg_name (i:=5) sc_law_filtered.nd rfl (by first | exact Or.inl rfl | exact Or.inr rfl)) (@pss_cons _ _ _ _ _ (@ps_set _ _ 6 _ _ _ _ sc_law_filtered.nd rfl (by first | exact Or.inl rfl | exact Or.inr rfl) (@pe_lst _ _ _ _ pa_nil) (by rfl) (by first | exact .inl rfl | exact .inr rfl))
   (@pss_cons _ _ _ _ _ (@ps_for _ _ _ _ _ _ _ _ PassesOwn.never rfl (pi_range1 (by rfl) T.n_range (@pa_cons _ _ _ _ _ (@pe_callB _ _ _ _ _ _ _ _ _ (call_lenK (K:=K) rfl) (by rfl) T.n_len bt_len (@pa_cons _ _ _ _ _ (@pe_ix _ _ _ _ _ _ _ (ix_seqK (K:=K) rfl) (pv 0) pe_int (fun _ _=>rfl)) pa_nil star_sub) (by decide) (by decide) (by rfl) (by rfl)) pa_nil star_call)) (pg_name (i:=7) sc_law_filtered.nd rfl (by first | exact Or.inl rfl | exact Or.inr rfl)) (@pss_cons _ _ _ _ _ (@ps_set _ _ 8 _ _ _ _ sc_law_filtered.nd rfl (by first | exact Or.inl rfl | exact Or.inr rfl) (@pe_df _ _ _ _ _ _ _ _ _ _ (df_law_window_at T) (hr.mono (by decide)) (@pa_cons _ _ _ _ _ (pv 0) (@pa_cons _ _ _ _ _ (pv 1) (@pa_cons _ _ _ _ _ (pv 2) (@pa_cons _ _ _ _ _ (pv 5) (@pa_cons _ _ _ _ _ (pv 7) pa_nil (by rfl)) (by rfl)) (by rfl)) (by rfl)) (by rfl)) (by rfl) (by decide) (by rfl) (by rfl)) (by rfl) (by first | exact .inl rfl | exact .inr rfl))
   (@pss_one _ _ _ (@ps_expr _ _ _ _ (@pe_bm _ _ _ _ _ _ _ _ _ _ _ _ PySem.F.plainAttrs_list PySem.F.slot_list_append PySem.F.type_list_append mt_append (pv 6) (@pa_cons _ _ _ _ _ (@pe_df _ _ _ _ _ _ _ _ _ _ (df_law_told T) (hr.mono (by decide)) (@pa_cons _ _ _ _ _ (pv 8) (@pa_cons _ _ _ _ _ (pv 3) pa_nil (by rfl)) (by rfl)) (by rfl) (by decide) (by rfl) (by rfl)) pa_nil star_call) (by rfl) (by rfl) (by rfl) (by rfl) (by rfl)) (by rfl)))) (by intro _;rfl))
   (@pss_one _ _ _ (@ps_expr _ _ _ _ (@pe_bm _ _ _ _ _ _ _ _ _ _ _ _ PySem.F.plainAttrs_list PySem.F.slot_list_append PySem.F.type_list_append mt_append (pv 4) (@pa_cons _ _ _ _ _ (@pe_callTy _ _ _ _ _ _ _ _ _ (call_tupleK (K:=K) rfl) (by rfl) T.n_tuple bt_tuple (@pa_cons _ _ _ _ _ (pv 6) pa_nil (by rfl)) (by decide) (by decide) (by rfl) (by rfl)) pa_nil star_call) (by rfl) (by rfl) (by rfl) (by rfl) (by rfl)) (by rfl))))) (by intro _;rfl))
   (@pss_one _ _ _ (@ps_ret _ _ _ _ (@pe_callTy _ _ _ _ _ _ _ _ _ (call_tupleK (K:=K) rfl) (by rfl) T.n_tuple bt_tuple (@pa_cons _ _ _ _ _ (pv 4) pa_nil (by rfl)) (by decide) (by decide) (by rfl) (by rfl)))))),?_⟩
  refine ⟨(by show 0≤sizeLine;decide),fun c hc=>?_⟩
  have s1:=same_upd (o:=.lst []) hc
  have oldne:∀ b o,H b=some o→b≠c:=fun b o e=>ne_of_none e hc
  have keepH:∀ {H':Hp},KeepBut c (upd H c (.lst [])) H'→Same H H':=fun k b o e=>k b o (s1 b o e) (oldne b o e)
  refine ⟨_,rfl,_,_,rfl,Or.inr ⟨_,SqT.of (s1 _ _ hfa),rfl⟩,_,rfl,by omega,by omega,?_⟩
  have hc1:upd H c (.lst []) c=some (.lst []):=upd_same
  generalize upd H c (.lst [])=H1 at s1 hc1 keepH ⊢
  refine for_range (n:=((xs.length:Nat):Int).toNat) (fun i σ H'=>∃ (v5 v6 v7 v8:Option V) (ys:List V),σ=[some (.ref fa),some wv,some rv,some sv,some (.ref c),v5,v6,v7,v8]∧KeepBut c H1 H'∧H' c=some (.lst ys)∧IsDs H' ys (((fil F ru u d l r a b).take i).map rowD)) ⟨none,none,none,none,[],rfl,KeepBut.refl _ _,hc1,.nil⟩ ?_ ?_
  ·rintro i _ H2 hi ⟨v5,v6,v7,v8,ys,rfl,k2,hc2,hys⟩
   have hi':i < F.length:=by
    have:i < ((xs.length:Nat):Int).toNat:=hi
    omega
   have S2:=keepH k2
   have e0:(0:Int) + (i:Int)=(i:Int):=by omega
   rw [e0]
   refine ⟨(by show 0≤sizeLine;decide),fun e he=>?_⟩
   have s3:=same_upd (o:=.lst []) he
   have ne:e≠c:=(ne_of_none hc2 he).symm
   have he3:upd H2 e (.lst []) e=some (.lst []):=upd_same
   have hc3:=s3 _ _ hc2
   have hys3:=hys.keep s3.tups
   have S3:=S2.trans s3
   have K3:KeepBut c H1 (upd H2 e (.lst [])):=fun b' o e' n=>s3 _ _ (k2 b' o e' n)
   have old3:∀ b' o,H2 b'=some o→b'≠e:=fun b' o e'=>ne_of_none e' he
   generalize upd H2 e (.lst [])=H3 at s3 he3 hc3 hys3 S3 K3 ⊢
   refine ⟨_,rfl,Or.inr (Or.inl ⟨_,_,_,_,rfl,rfl,SqT.of (S3 _ _ hfa),hb0,_,_,rfl,Or.inr ⟨_,SqT.of (S3 _ _ hb),rfl⟩,_,rfl,by omega,by omega,?_⟩)⟩
   have eW:((ys0.length:Nat):Int).toNat=wideF F:=by
    have:wideF F=(F.headD []).length:=rfl
    omega
   rw [eW]
   refine for_range (n:=wideF F) (fun j σ H'=>∃ (v7 v8:Option V),σ=[some (.ref fa),some wv,some rv,some sv,some (.ref c),some (.int i),some (.ref e),v7,v8]∧KeepBut e H3 H'∧H' e=some (.lst (((List.range j).map fun j:Nat=>filAt F ru u d l r a b (i:Int) (j:Int)).map cellV))) ⟨v7,v8,rfl,KeepBut.refl _ _,he3⟩ ?_ ?_
   ·rintro j _ H4 hj ⟨v7,v8,rfl,k4,he4⟩
    have hj':j < (F.headD []).length:=hj
    have S4:Same H H4:=fun b' o e'=>k4 b' o (S3 b' o e') (old3 _ _ (S2 _ _ e'))
    have e0:(0:Int) + (j:Int)=(j:Int):=by omega
    rw [e0]
    refine ⟨_,rfl,_,rfl,_,rfl,_,rfl,_,rfl,?_⟩
    refine ⟨_,wv,rv,F,ru,u,d,l,r,_,_,rfl,R,hf.keep S4.tups,hw.keep S4.tups,hru.keep S4.tups,⟨by omega,by omega⟩,⟨by omega,by omega⟩,bb,fun p H5 s5 hp=>?_⟩
    dsimp only [gName,List.set]
    have wl:=wc_len F ru u d l r (i:Int) (j:Int)
    have wl2:(u + d + 1) * (l + r + 1)≤201 * 201:=Nat.mul_le_mul (by omega) (by omega)
    refine ⟨_,rfl,Or.inl ⟨rfl,_,SqL.of (s5 _ _ he4)⟩,?_⟩
    refine ⟨_,rfl,_,rfl,p,sv,_,a,b,rfl,hp,by omega,(hs.keep S4.tups).keep s5.tups,hS,fun H6 s6=>?_⟩
    have he6:=s6 _ _ (s5 _ _ he4)
    refine ⟨_,_,_,rfl,rfl,he6,?_,?_⟩
    ·rw [List.length_map,List.length_map,List.length_range]
     exact Nat.lt_of_lt_of_le (show j < 1001 by omega) (by decide)
    ·refine ⟨_,_,rfl,fun b' o e' n=>?_,?_⟩
     ·rw [upd_ne n];exact s6 _ _ (s5 _ _ (k4 b' o e' n))
     ·rw [upd_same,List.range_succ,List.map_append,List.map_append]
      rfl
   ·rintro _ H4 ⟨v7,v8,rfl,k4,he4⟩
    have hc4:=k4 _ _ hc3 ne.symm
    refine ⟨_,rfl,Or.inl ⟨rfl,_,SqL.of hc4⟩,_,rfl,_,_,rfl,Or.inl ⟨SqL.of he4,fun t ht=>?_⟩⟩
    have st:=same_upd (o:=.tup (((List.range (wideF F)).map fun j:Nat=>filAt F ru u d l r a b (i:Int) (j:Int)).map cellV)) ht
    have hct:=st _ _ hc4
    have ly:ys.length=i:=by rw [hys.length,List.length_map,List.length_take,fil_len];omega
    refine ⟨_,_,_,rfl,rfl,hct,(by rw [ly];exact Nat.lt_of_lt_of_le (show i < 1001 by omega) (by decide)),?_⟩
    refine ⟨_,_,_,_,ys ++ [.ref t],rfl,fun b' o e' n=>?_,upd_same,?_⟩
    ·rw [upd_ne n]
     exact st _ _ (k4 b' o (K3 b' o e' n) (old3 b' o (k2 b' o e' n)))
    ·rw [List.take_add_one,fil_row hi',List.map_append]
     have tt:t≠c:=(ne_of_none hc4 ht).symm
     have u1:upd (upd H4 t (.tup (((List.range (wideF F)).map fun j:Nat=>filAt F ru u d l r a b (i:Int) (j:Int)).map cellV))) c (.lst (ys ++ [.ref t])) t=some (.tup (((List.range (wideF F)).map fun j:Nat=>filAt F ru u d l r a b (i:Int) (j:Int)).map cellV)):=by rw [upd_ne tt];exact upd_same
     have kt:∀ b' zs,H3 b'=some (.tup zs)→upd (upd H4 t (.tup (((List.range (wideF F)).map fun j:Nat=>filAt F ru u d l r a b (i:Int) (j:Int)).map cellV))) c (.lst (ys ++ [.ref t])) b'=some (.tup zs):=fun b' zs e'=>by
      have n1:b'≠c:=ne_of e' hc3 fun z=>by cases z
      have n2:b'≠e:=ne_of e' he3 fun z=>by cases z
      rw [upd_ne n1]
      exact st _ _ (k4 _ _ e' n2)
     exact (hys3.keep kt).append (.cons (.tup u1 (isCells _)) .nil)
  ·rintro _ H2 ⟨v5,v6,v7,v8,ys,rfl,k2,hc2,hys⟩
   refine ⟨_,rfl,_,_,rfl,Or.inl ⟨SqL.of hc2,fun t ht=>?_⟩⟩
   have st:=same_upd (o:=.tup ys) ht
   refine q (.ref t) _ ((keepH k2).trans st) (.tup upd_same ?_)
   have:(fil F ru u d l r a b).take ((xs.length:Nat):Int).toNat=fil F ru u d l r a b:=List.take_of_length_le (by rw [fil_len];omega)
   rw [this] at hys
   exact hys.keep st.tups
theorem word_none:wordOf none=("." : Str):=by decide +kernel
def spWord34:Sp:=fun vs H Q _=>∃ (c:Option Int),vs=[cellV c]∧CellW c∧Q (.str (wordOf c)) H
theorem df_law_word (T:Txt K mg C):Df P w K mg base 1 "_law_word" ["cell"] spWord34:=by
 refine T.d_law_word.ok sc_law_word (fun vs H Q E h=>?_) (fun f cdv A outer s H vs Q E hr h=>?_)
 ·obtain ⟨c,rfl,_⟩:=h
  rfl
 ·obtain ⟨c,rfl,hc,q⟩:=h
  refine ⟨_,(@pss_cons _ _ _ _ _ (@ps_if _ _ _ _ _ _ _ _ (@pt_cmpR _ _ _ _ _ _ _ _ op_isN (pv 0) pe_non (nomark _)) (@pss_one _ _ _ (@ps_ret _ _ _ _ pe_str)) pss_nil)
   (@pss_one _ _ _ (@ps_ret _ _ _ _ (pe_fstr1 (pe_fv (pv 0)))))),?_⟩
  cases c with
  | none =>
   refine ⟨_,rfl,rfl,_,rfl,iteT ?_⟩
   rw [word_none] at q
   exact q
  | some i =>
   refine ⟨_,rfl,rfl,_,rfl,iteF ?_⟩
   refine ⟨_,rfl,i,rfl,log_small (hc i rfl),?_⟩
   rw [str_word]
   exact q
theorem df_law_lines (T:Txt K mg C):Df P w K mg base 2 "_law_lines" ["field"] spLinesOf:=by
 refine T.d_law_lines.ok sc_law_lines (fun vs H Q E h=>?_) (fun f cdv A outer s H vs Q E hr h=>?_)
 ·obtain ⟨fv,F,rfl,_⟩:=h
  rfl
 ·obtain ⟨fv,F,rfl,hf,R,q⟩:=h
  obtain ⟨h0,h1,h2,h3,h4,h5⟩:=R
  refine ⟨_,(@pss_one _ _ _ (@ps_ret _ _ _ _ (pe_compIf (M:=[]) (idx:=[]) rfl (pi_seqK (K:=K) rfl (pv 0)) (compOk (by kernel_rfl)) (by decide +kernel) (by first | exact Or.inl rfl | exact Or.inr rfl) (fun _ _ _ _ _=>pts_nil) (fun _ _ _ _ _=>(pe_bmK (K:=K) rfl PySem.F.plainAttrs_str PySem.F.slot_str_join PySem.F.type_str_join (mt_joinK (K:=K) rfl) pe_str (@pa_cons _ _ _ _ _ (pe_compIf (M:=[]) (idx:=[]) rfl (pi_seqK (K:=K) rfl (pv 0)) (compOk (by kernel_rfl)) (by decide +kernel) (by first | exact Or.inl rfl | exact Or.inr rfl) (fun _ _ _ _ _=>pts_nil) (fun _ _ _ _ _=>(@pe_df _ _ _ _ _ _ _ _ _ _ (df_law_word T) (hr.mono (by decide)) (@pa_cons _ _ _ _ _ (pv 0) pa_nil (by rfl)) (by rfl) (by decide) (by rfl) (by rfl)))) pa_nil star_comp)))))),?_⟩
  obtain ⟨fa,xs,rfl,hfa,hxs⟩:=isField_inv hf
  have lxs:xs.length=F.length:=by rw [hxs.length,List.length_map]
  refine Or.inr ?_
  refine ⟨_,rfl,_,rfl,⟨_,SqT.of hfa⟩,?_⟩
  refine compW_tup (xs:=xs) (fun j zs H'=>Same H H'∧zs=(F.take j).map (V.str ∘ lineOf)) ⟨Same.refl _,rfl⟩ (by rw [lxs];exact Nat.le_trans h1 (by decide)) (fun j zs H' _ ⟨s,_⟩=>SqT.of (s _ _ hfa)) ?_ ?_
  ·rintro k y zs H1 hy ⟨s1,rfl⟩
   have kF:k < F.length:=by rw [← lxs];exact (List.getElem?_eq_some_iff.mp hy).1
   obtain ⟨ra,er,hra⟩:=isRows_get hxs kF
   rw [hy] at er
   cases er
   have eg:F[k]? = some F[k]:=List.getElem?_eq_getElem kF
   have hm:=List.getElem_mem kF
   generalize F[k]=r at hra eg hm
   have hra1:=s1 _ _ hra
   have lr:=h2 r hm
   refine oneT ?_
   refine ⟨rfl,?_⟩
   refine Or.inr ?_
   refine ⟨_,rfl,_,rfl,⟨_,SqT.of hra1⟩,?_⟩
   refine compW_tup (xs:=r.map cellV) (fun j zs H'=>H'=H1∧zs=((r.take j).map wordOf).map V.str) ⟨rfl,rfl⟩ (by rw [List.length_map,lr];exact Nat.le_trans h4 (by decide)) (fun j zs H' _ ⟨e,_⟩=>by rw [e];exact SqT.of hra1) ?_ ?_
   ·rintro j y zs _ hy2 ⟨rfl,rfl⟩
    obtain ⟨cl,ec,rfl⟩:∃ cl,r[j]? = some cl∧cellV cl=y:=by
     rw [List.getElem?_map] at hy2
     cases e:r[j]? with
     | none=>rw [e] at hy2;cases hy2
     | some cl=>rw [e] at hy2;exact ⟨cl,rfl,Option.some.inj hy2⟩
    refine oneT ?_
    refine ⟨_,rfl,cl,rfl,h5 r hm cl (List.mem_of_getElem? ec),rfl,?_⟩
    rw [List.take_add_one,ec,List.map_append,List.map_append]
    rfl
   ·rintro zs H2 ⟨e2,rfl⟩ l2 hl2
    subst e2
    rw [List.length_map,List.take_of_length_le (Nat.le_refl _)]
    refine ⟨_,_,r.map wordOf,rfl,rfl,SqL.of upd_same,?_,?_⟩
    ·have:=sum_len (m:=11) (r.map wordOf) (fun x hx=>by
      obtain ⟨c,hc,rfl⟩:=List.mem_map.mp hx
      exact word_len (h5 r hm c hc))
     rw [List.length_map] at this ⊢
     have e1:((" " : Str)).length=1:=by decide +kernel
     rw [e1]
     omega
    ·rw [str_blank,tjoin]
     refine ⟨s1.trans (same_upd hl2),?_⟩
     rw [List.take_add_one,eg,List.map_append]
     rfl
  ·rintro zs H2 ⟨s2,rfl⟩ l hl
   rw [lxs,List.take_length]
   exact q l _ (s2.trans (same_upd hl)) (s2.free hl) upd_same
def spCut34:Sp:=fun vs H Q _=>∃ (wv fv:V) (F:List (List (Option Int))) (u d l r:Nat),vs=[wv,fv]∧Rect F∧IsD H fv (fieldD F)∧IsD H wv (winD u d l r)∧(u≤6∧d≤6∧l≤6∧r≤6) ∧
 ∀ (v:V) (u' d' l' r':Nat) (H':Hp),Same H H'→IsD H' v (winD u' d' l' r')→u'≤6∧d'≤6∧l'≤6∧r'≤6→Q v H'
theorem edge_told (c:Option Int):("edge told " : Str) ++ wordOf c=joinW ["edge","told",wordOf c]:=by
 refine str_ext ?_
 unfold joinW
 rw [join_cps]
 simp only [List.map_cons,List.map_nil,joinL]
 have e1:("edge told " : Str).cps.toList=[101,100,103,101,32,116,111,108,100,32]:=by decide +kernel
 have e2:("edge" : Str).cps.toList=[101,100,103,101]:=by decide +kernel
 have e3:("told" : Str).cps.toList=[116,111,108,100]:=by decide +kernel
 rw [e2,e3]
 show (("edge told " : Str).cps ++ (wordOf c).cps).toList=_
 rw [Array.toList_append,e1]
 rfl
def spEdge:Sp:=fun vs H Q _=>∃ (rv:V) (ru:Rule),vs=[rv]∧IsD H rv (ruleD ru)∧(∀ c,ru = .told c→In9 c)∧Q (.str (joinW ("edge" :: ruleW ru))) H
theorem df_law_edge (T:Txt K mg C):Df P w K mg base 2 "_law_edge" ["rule"] spEdge:=by
 refine T.d_law_edge.ok sc_law_edge (fun vs H Q E h=>?_) (fun f cdv A outer s H vs Q E hr h=>?_)
 ·obtain ⟨rv,ru,rfl,_⟩:=h
  rfl
 ·obtain ⟨rv,ru,rfl,hru,hc,q⟩:=h
  refine ⟨_,(@pss_cons _ _ _ _ _ (@ps_if _ _ _ _ _ _ _ _ (@pt_val _ _ _ (@pe_callB _ _ _ _ _ _ _ _ _ (call_isinstK (K:=K) rfl) (by rfl) T.n_isinstance bt_isinstance (@pa_cons _ _ _ _ _ (pv 0) (@pa_cons _ _ _ _ _ (pe_bltn (v:=.ty "str") (by rfl) T.n_str bt_str rfl) pa_nil (by rfl)) (by rfl)) (by decide) (by decide) (by rfl) (by rfl)) (by intro _;rfl)) (@pss_one _ _ _ (@ps_ret _ _ _ _ (@pe_op _ _ _ _ _ _ _ _ op_add_str pe_str (pv 0)))) pss_nil)
   (@pss_one _ _ _ (@ps_ret _ _ _ _ (@pe_op _ _ _ _ _ _ _ _ op_add_str pe_str (@pe_df _ _ _ _ _ _ _ _ _ _ (df_law_word T) (hr.mono (by decide)) (@pa_cons _ _ _ _ _ (@pe_ix _ _ _ _ _ _ _ (ix_seqK (K:=K) rfl) (pv 0) pe_int (fun _ _=>rfl)) pa_nil star_sub) (by rfl) (by decide) (by rfl) (by rfl)))))),?_⟩
  have k1:PySem.W.kitOne K (.type "str") (.type "str")=some true:=by kernel_rfl
  have k2:PySem.W.kitOne K (.type "tuple") (.type "str")=some false:=by kernel_rfl
  cases ru with
  | there =>
   have e:=rule_str hru
   subst e
   refine ⟨_,rfl,_,"str","str",true,rfl,rfl,k1,_,rfl,iteT ?_⟩
   refine ⟨_,rfl,_,_,rfl,rfl,(by decide +kernel),?_⟩
   rw [show ("edge " : Str) ++ ("there" : Str)=joinW ["edge","there"] by decide +kernel]
   exact q
  | near =>
   have e:=rule_str hru
   subst e
   refine ⟨_,rfl,_,"str","str",true,rfl,rfl,k1,_,rfl,iteT ?_⟩
   refine ⟨_,rfl,_,_,rfl,rfl,(by decide +kernel),?_⟩
   rw [show ("edge " : Str) ++ ("near" : Str)=joinW ["edge","near"] by decide +kernel]
   exact q
  | turned =>
   have e:=rule_str hru
   subst e
   refine ⟨_,rfl,_,"str","str",true,rfl,rfl,k1,_,rfl,iteT ?_⟩
   refine ⟨_,rfl,_,_,rfl,rfl,(by decide +kernel),?_⟩
   rw [show ("edge " : Str) ++ ("turned" : Str)=joinW ["edge","turned"] by decide +kernel]
   exact q
  | round =>
   have e:=rule_str hru
   subst e
   refine ⟨_,rfl,_,"str","str",true,rfl,rfl,k1,_,rfl,iteT ?_⟩
   refine ⟨_,rfl,_,_,rfl,rfl,(by decide +kernel),?_⟩
   rw [show ("edge " : Str) ++ ("round" : Str)=joinW ["edge","round"] by decide +kernel]
   exact q
  | told c =>
   obtain ⟨ra,zs,rfl,e2,e3⟩:=hru.tuple_inv
   cases e3 with | cons y1 e3=>cases e3 with | cons y2 e3=>cases e3 with
   | nil =>
    have y3:=isCell_inv' y2
    subst y3
    refine ⟨_,rfl,_,"tuple","str",false,rfl,?_,k2,_,rfl,iteF ?_⟩
    ·exact .inl ⟨rfl,_,e2⟩
    ·refine ⟨_,rfl,Or.inr (Or.inl ⟨_,_,_,_,rfl,rfl,SqT.of e2,rfl,?_⟩)⟩
     refine ⟨c,rfl,(hc c rfl).wide,?_⟩
     refine ⟨_,_,rfl,rfl,?_,?_⟩
     ·have:=word_len (hc c rfl).wide
      have e1:("edge told " : Str).length=10:=by decide +kernel
      rw [e1]
      exact Nat.le_trans (show _≤100 by omega) (by decide)
     ·rw [edge_told]
      exact q
def m2 (n:Nat):Nat:=if 2 < n then 2 else n
theorem m2_int (n:Nat):(if (2:Int) < (n:Int) then (2:Int) else (n:Int))=((m2 n:Nat):Int):=by
 unfold m2
 by_cases h:2 < n
 ·rw [if_pos h,if_pos (by omega)];rfl
 ·rw [if_neg h,if_neg (by omega)]
theorem m2_le (n:Nat):m2 n≤2:=by unfold m2;split <;> omega
theorem df_law_cut (T:Txt K mg C):Df P w K mg base 1 "_law_cut" ["window","field"] spCut34:=by
 refine T.d_law_cut.ok sc_law_cut (fun vs H Q E h=>?_) (fun f cdv A outer s H vs Q E hr h=>?_)
 ·obtain ⟨wv,fv,F,u,d,l,r,rfl,_⟩:=h
  rfl
 ·obtain ⟨wv,fv,F,u,d,l,r,rfl,R,hf,hw,bb,q⟩:=h
  refine ⟨_,(@pss_cons _ _ _ _ _ (@ps_if _ _ _ _ _ _ _ _ (@pt_cmpR _ _ _ _ _ _ _ _ op_gt (@pe_op _ _ _ _ _ _ _ _ op_mul (@pe_callB _ _ _ _ _ _ _ _ _ (call_lenK (K:=K) rfl) (by rfl) T.n_len bt_len (@pa_cons _ _ _ _ _ (pv 1) pa_nil (by rfl)) (by decide) (by decide) (by rfl) (by rfl)) (@pe_callB _ _ _ _ _ _ _ _ _ (call_lenK (K:=K) rfl) (by rfl) T.n_len bt_len (@pa_cons _ _ _ _ _ (@pe_ix _ _ _ _ _ _ _ (ix_seqK (K:=K) rfl) (pv 1) pe_int (fun _ _=>rfl)) pa_nil star_sub) (by decide) (by decide) (by rfl) (by rfl))) pe_int (nomark _)) (@pss_one _ _ _ (@ps_ret _ _ _ _ (@pe_callTy _ _ _ _ _ _ _ _ _ (call_tupleK (K:=K) rfl) (by rfl) T.n_tuple bt_tuple (@pa_cons _ _ _ _ _ (pe_compIf (M:=[]) (idx:=[]) rfl (pi_seqK (K:=K) rfl (pv 0)) (compOk (by kernel_rfl)) (by decide +kernel) (by first | exact Or.inl rfl | exact Or.inr rfl) (fun _ _ _ _ _=>pts_nil) (fun _ _ _ _ _=>(@pe_callB _ _ _ _ _ _ _ _ _ (call_min2 rfl) (by rfl) T.n_min bt_min (@pa_cons _ _ _ _ _ (pv 0) (@pa_cons _ _ _ _ _ pe_int pa_nil (by rfl)) (by rfl)) (by decide) (by decide) (by rfl) (by rfl)))) pa_nil star_comp) (by decide) (by decide) (by rfl) (by rfl)))) pss_nil)
   (@pss_one _ _ _ (@ps_ret _ _ _ _ (pv 0)))),?_⟩
  have h1:=R.h1;have hs:=R.hs;have w1:=R.w1;have ws:=R.ws
  obtain ⟨fa,xs,b0,ys0,rfl,hfa,la,hb0,hb,lb⟩:=field_sizes R hf
  obtain ⟨wa,rfl,hwa⟩:=isWin_inv hw
  refine ⟨_,rfl,_,_,rfl,Or.inr ⟨_,SqT.of hfa,rfl⟩,?_⟩
  refine ⟨_,rfl,Or.inr (Or.inl ⟨_,_,_,_,rfl,rfl,SqT.of hfa,hb0,_,_,rfl,Or.inr ⟨_,SqT.of hb,rfl⟩,_,_,rfl,rfl,Or.inl ⟨by omega,by omega⟩,_,_,rfl,rfl,_,rfl,?_⟩)⟩
  refine ite2 (fun _=>?_) (fun _=>?_)
  ·refine Or.inr ?_
   refine ⟨_,rfl,_,rfl,⟨_,SqT.of hwa⟩,?_⟩
   refine compW_tup (xs:=[V.int u,V.int d,V.int l,V.int r]) (fun j zs H'=>H'=H∧zs=(([u,d,l,r].take j).map fun n=>V.int ((m2 n:Nat):Int))) ⟨rfl,rfl⟩ (by show 4≤sizeLine;decide) (fun j zs H' _ ⟨e,_⟩=>by rw [e];exact SqT.of hwa) ?_ ?_
   ·rintro j y zs _ hy ⟨rfl,rfl⟩
    obtain ⟨n,en,rfl⟩:∃ n:Nat,[u,d,l,r][j]? = some n∧V.int (n:Int)=y:=by
     match j,hy with
     | 0,hy=>cases hy;exact ⟨u,rfl,rfl⟩
     | 1,hy=>cases hy;exact ⟨d,rfl,rfl⟩
     | 2,hy=>cases hy;exact ⟨l,rfl,rfl⟩
     | 3,hy=>cases hy;exact ⟨r,rfl,rfl⟩
     | j + 4,hy=>cases hy
    refine oneT ?_
    refine ⟨_,rfl,_,_,rfl,rfl,?_⟩
    rw [List.take_add_one,en,List.map_append]
    show _ ++ [V.int (if (2:Int) < (n:Int) then 2 else (n:Int))]=_
    rw [m2_int]
    rfl
   ·rintro zs H0 ⟨eH,rfl⟩ l2 hl2
    subst eH
    refine ⟨_,_,rfl,Or.inl ⟨SqL.of upd_same,fun t ht=>?_⟩⟩
    have a1:=m2_le u;have a2:=m2_le d;have a3:=m2_le l;have a4:=m2_le r
    refine q (.ref t) (m2 u) (m2 d) (m2 l) (m2 r) _ ((same_upd hl2).trans (same_upd ht)) (isWin upd_same) ⟨by omega,by omega,by omega,by omega⟩
  ·exact ⟨_,rfl,q _ u d l r _ (Same.refl _) hw bb⟩
def spNum40:Sp:=fun vs H Q _=>∃ (d:Addr) (k:Int),vs=[.ref d,.int k]∧Seed H d∧∀ (x:Int) (H':Hp),(-1000000000≤x∧x≤1000000000)→Seed H' d→KeepBut d H H'→Q (.int x) H'
theorem df_law_number (T:Txt K mg C):Df P w K mg base 2 "_law_number" ["seed","kind"] spNum40:=by
 refine T.d_law_number.ok sc_law_number (fun vs H Q E h=>?_) (fun f cdv A outer s H vs Q E hr h=>?_)
 ·obtain ⟨d,sc,rfl,_⟩:=h
  rfl
 ·obtain ⟨d,sc,rfl,D,q⟩:=h
  refine ⟨_,(@pss_cons _ _ _ _ _ (@ps_if _ _ _ _ _ _ _ _ (@pt_cmpR _ _ _ _ _ _ _ _ (op_eqA hr.units) (pv 1) pe_int (nomark _)) (@pss_one _ _ _ (@ps_ret _ _ _ _ (@pe_df _ _ _ _ _ _ _ _ _ _ (df_law_draw T) (hr.mono (by decide)) (@pa_cons _ _ _ _ _ (pv 0) (@pa_cons _ _ _ _ _ pe_int pa_nil (by rfl)) (by rfl)) (by rfl) (by decide) (by rfl) (by rfl)))) pss_nil)
   (@pss_cons _ _ _ _ _ (@ps_if _ _ _ _ _ _ _ _ (@pt_cmpR _ _ _ _ _ _ _ _ (op_eqA hr.units) (pv 1) pe_int (nomark _)) (@pss_one _ _ _ (@ps_ret _ _ _ _ (@pe_op _ _ _ _ _ _ _ _ op_sub (@pe_df _ _ _ _ _ _ _ _ _ _ (df_law_draw T) (hr.mono (by decide)) (@pa_cons _ _ _ _ _ (pv 0) (@pa_cons _ _ _ _ _ pe_int pa_nil (by rfl)) (by rfl)) (by rfl) (by decide) (by rfl) (by rfl)) pe_int))) pss_nil)
   (@pss_one _ _ _ (@ps_ret _ _ _ _ (@pe_op _ _ _ _ _ _ _ _ op_sub (@pe_op _ _ _ _ _ _ _ _ op_mod (@pe_op _ _ _ _ _ _ _ _ op_add (@pe_op _ _ _ _ _ _ _ _ op_mul (@pe_df _ _ _ _ _ _ _ _ _ _ (df_law_draw T) (hr.mono (by decide)) (@pa_cons _ _ _ _ _ (pv 0) (@pa_cons _ _ _ _ _ (@pe_op _ _ _ _ _ _ _ _ op_pow pe_int pe_int) pa_nil star_bin) (by rfl)) (by rfl) (by decide) (by rfl) (by rfl)) pe_int) (@pe_df _ _ _ _ _ _ _ _ _ _ (df_law_draw T) (hr.mono (by decide)) (@pa_cons _ _ _ _ _ (pv 0) (@pa_cons _ _ _ _ _ pe_int pa_nil (by rfl)) (by rfl)) (by rfl) (by decide) (by rfl) (by rfl))) (@pe_op _ _ _ _ _ _ _ _ op_add (@pe_op _ _ _ _ _ _ _ _ op_mul pe_int (@pe_op _ _ _ _ _ _ _ _ op_pow pe_int pe_int)) pe_int)) (@pe_op _ _ _ _ _ _ _ _ op_pow pe_int pe_int)))))),?_⟩
  refine ⟨_,rfl,Or.inl ⟨rfl,_,rfl,?_⟩⟩
  refine ite2 (fun _=>?_) (fun _=>?_)
  ·exact ⟨_,rfl,_,_,rfl,D,(by decide),(by decide),fun x H1 x0 x1 D1 k1=>q x H1 ⟨by omega,by omega⟩ D1 k1⟩
  refine ⟨_,rfl,Or.inl ⟨rfl,_,rfl,?_⟩⟩
  refine ite2 (fun _=>?_) (fun _=>?_)
  ·exact ⟨_,rfl,_,_,rfl,D,(by decide),(by decide),fun x H1 x0 x1 D1 k1=>⟨_,_,rfl,rfl,q (x - 20) H1 ⟨by omega,by omega⟩ D1 k1⟩⟩
  refine ⟨_,rfl,_,_,rfl,rfl,⟨by decide,by decide,by decide⟩,?_⟩
  refine ⟨_,_,rfl,D,(by decide),(by decide),fun x H1 x0 x1 D1 k1=>?_⟩
  refine ⟨_,_,rfl,rfl,Or.inr ⟨by decide,by decide⟩,?_⟩
  refine ⟨_,rfl,_,_,rfl,D1,(by decide),(by decide),fun y H2 y0 y1 D2 k2=>?_⟩
  refine ⟨_,_,rfl,rfl,?_⟩
  refine ⟨_,_,rfl,rfl,⟨by decide,by decide,by decide⟩,_,_,rfl,rfl,Or.inl ⟨by decide,by decide⟩,_,_,rfl,rfl,?_⟩
  refine ⟨_,_,rfl,rfl,(by show (0:Int) < 2 * 10 ^ Int.toNat 9 + 1;decide),?_⟩
  refine ⟨_,_,rfl,rfl,⟨by decide,by decide,by decide⟩,_,_,rfl,rfl,?_⟩
  have e9:(10:Int) ^ Int.toNat 9=1000000000:=by decide
  refine q _ H2 ?_ D2 (k1.trans k2)
  show -1000000000≤(x * 2001 + y) % (2 * 10 ^ Int.toNat 9 + 1) - 10 ^ Int.toNat 9∧(x * 2001 + y) % (2 * 10 ^ Int.toNat 9 + 1) - 10 ^ Int.toNat 9≤1000000000
  rw [e9]
  have m0:=Int.emod_nonneg (x * 2001 + y) (show (2 * 1000000000 + 1:Int)≠0 by decide)
  have m1:=Int.emod_lt_of_pos (x * 2001 + y) (show (0:Int) < 2 * 1000000000 + 1 by decide)
  omega
def spRule40:Sp:=fun vs H Q _=>∃ (d:Addr),vs=[.ref d]∧Seed H d∧∀ (v:V) (r:Rule) (H':Hp),IsD H' v (ruleD r)→(∀ c,r = .told c→In9 c)→Seed H' d→KeepBut d H H'→Q v H'
theorem df_law_rule (T:Txt K mg C):Df P w K mg base 3 "_law_rule" ["seed"] spRule40:=by
 refine T.d_law_rule.ok sc_law_rule (fun vs H Q E h=>?_) (fun f cdv A outer s H vs Q E hr h=>?_)
 ·obtain ⟨d,rfl,_⟩:=h
  rfl
 ·obtain ⟨d,rfl,D,q⟩:=h
  refine ⟨_,(@pss_cons _ _ _ _ _ (@ps_set _ _ 1 _ _ _ _ sc_law_rule.nd rfl (by first | exact Or.inl rfl | exact Or.inr rfl) (@pe_df _ _ _ _ _ _ _ _ _ _ (df_law_draw T) (hr.mono (by decide)) (@pa_cons _ _ _ _ _ (pv 0) (@pa_cons _ _ _ _ _ pe_int pa_nil (by rfl)) (by rfl)) (by rfl) (by decide) (by rfl) (by rfl)) (by rfl) (by first | exact .inl rfl | exact .inr rfl))
   (@pss_cons _ _ _ _ _ (@ps_if _ _ _ _ _ _ _ _ (@pt_cmpR _ _ _ _ _ _ _ _ (op_eqA hr.units) (pv 1) pe_int (nomark _)) (@pss_one _ _ _ (@ps_ret _ _ _ _ (@pe_tup _ _ _ _ _ (@pa_cons _ _ _ _ _ pe_str (@pa_cons _ _ _ _ _ (@pe_df _ _ _ _ _ _ _ _ _ _ (df_law_number T) (hr.mono (by decide)) (@pa_cons _ _ _ _ _ (pv 0) (@pa_cons _ _ _ _ _ (@pe_df _ _ _ _ _ _ _ _ _ _ (df_law_draw T) (hr.mono (by decide)) (@pa_cons _ _ _ _ _ (pv 0) (@pa_cons _ _ _ _ _ pe_int pa_nil (by rfl)) (by rfl)) (by rfl) (by decide) (by rfl) (by rfl)) pa_nil star_call) (by rfl)) (by rfl) (by decide) (by rfl) (by rfl)) pa_nil star_call) (by rfl))))) pss_nil)
   (@pss_cons _ _ _ _ _ (@ps_if _ _ _ _ _ _ _ _ (@pt_cmpR _ _ _ _ _ _ _ _ (op_eqA hr.units) (pv 1) pe_int (nomark _)) (@pss_one _ _ _ (@ps_ret _ _ _ _ (@pe_tup _ _ _ _ _ (@pa_cons _ _ _ _ _ pe_str (@pa_cons _ _ _ _ _ pe_non pa_nil (by rfl)) (by rfl))))) pss_nil)
   (@pss_one _ _ _ (@ps_ret _ _ _ _ (@pe_ix _ _ _ _ _ _ _ (ix_seqK (K:=K) rfl) (@pe_lst _ _ _ _ (@pa_cons _ _ _ _ _ pe_str (@pa_cons _ _ _ _ _ pe_str (@pa_cons _ _ _ _ _ pe_str (@pa_cons _ _ _ _ _ pe_str pa_nil (by rfl)) (by rfl)) (by rfl)) (by rfl))) (pv 1) (fun _ _=>rfl))))))),?_⟩
  refine ⟨_,rfl,_,_,rfl,D,(by decide),(by decide),fun x H1 x0 x1 D1 k1=>?_⟩
  refine ⟨_,rfl,Or.inl ⟨rfl,_,rfl,?_⟩⟩
  by_cases z4:x=4
  ·rw [decide_eq_true (by rw [z4])]
   refine iteT ?_
   refine ⟨_,rfl,_,rfl,_,_,rfl,D1,(by decide),(by decide),fun y H2 y0 y1 D2 k2=>?_⟩
   refine ⟨_,_,rfl,D2,fun n H3 bn D3 k3=>?_⟩
   refine ⟨(by show 2≤sizeLine;decide),fun t ht=>?_⟩
   have st:=same_upd (o:=.tup [.str "told",.int n]) ht
   exact q (.ref t) (.told (some n)) _ (.tup upd_same (.cons (.str _) (.cons (isCell (some n)) .nil))) (fun c e i e2=>by cases e;cases e2;exact bn) (D3.keep st) (((k1.trans k2).trans k3).trans (st.but d))
  rw [decide_eq_false (fun z=>z4 (V.int.inj z))]
  refine iteF ?_
  refine ⟨_,rfl,Or.inl ⟨rfl,_,rfl,?_⟩⟩
  by_cases z5:x=5
  ·rw [decide_eq_true (by rw [z5])]
   refine iteT ?_
   refine ⟨(by show 2≤sizeLine;decide),fun t ht=>?_⟩
   have st:=same_upd (o:=.tup [.str "told",.non]) ht
   exact q (.ref t) (.told none) _ (.tup upd_same (.cons (.str _) (.cons (isCell none) .nil))) (fun c e i e2=>by cases e;cases e2) (D1.keep st) (k1.trans (st.but d))
  rw [decide_eq_false (fun z=>z5 (V.int.inj z))]
  refine iteF ?_
  refine ⟨(by show 4≤sizeLine;decide),fun p hp=>?_⟩
  have sp:=same_upd (o:=.lst [.str "there",.str "near",.str "turned",.str "round"]) hp
  obtain ⟨v,e3,e4⟩:=atI_mem (xs:=[V.str "there",V.str "near",V.str "turned",V.str "round"]) x0 (by show x < 4;omega)
  refine ⟨_,rfl,Or.inl ⟨_,_,_,_,rfl,rfl,SqL.of upd_same,e3,?_⟩⟩
  simp only [List.mem_cons,List.not_mem_nil,or_false] at e4
  rcases e4 with e | e | e | e
  ·subst e;exact q _ .there _ (.str _) (fun c e=>by cases e) (D1.keep sp) (k1.trans (sp.but d))
  ·subst e;exact q _ .near _ (.str _) (fun c e=>by cases e) (D1.keep sp) (k1.trans (sp.but d))
  ·subst e;exact q _ .turned _ (.str _) (fun c e=>by cases e) (D1.keep sp) (k1.trans (sp.but d))
  ·subst e;exact q _ .round _ (.str _) (fun c e=>by cases e) (D1.keep sp) (k1.trans (sp.but d))
def spShare40:Sp:=fun vs H Q _=>∃ (d:Addr),vs=[.ref d]∧Seed H d∧∀ (v:V) (a b:Int) (H':Hp),IsD H' v (placeD (a,b))→Share a b→b≤1000→Seed H' d→KeepBut d H H'→Q v H'
theorem df_law_share (T:Txt K mg C):Df P w K mg base 2 "_law_share" ["seed"] spShare40:=by
 refine T.d_law_share.ok sc_law_share (fun vs H Q E h=>?_) (fun f cdv A outer s H vs Q E hr h=>?_)
 ·obtain ⟨d,rfl,_⟩:=h
  rfl
 ·obtain ⟨d,rfl,D,q⟩:=h
  refine ⟨_,(@pss_cons _ _ _ _ _ (@ps_set _ _ 1 _ _ _ _ sc_law_share.nd rfl (by first | exact Or.inl rfl | exact Or.inr rfl) (@pe_df _ _ _ _ _ _ _ _ _ _ (df_law_draw T) (hr.mono (by decide)) (@pa_cons _ _ _ _ _ (pv 0) (@pa_cons _ _ _ _ _ pe_int pa_nil (by rfl)) (by rfl)) (by rfl) (by decide) (by rfl) (by rfl)) (by rfl) (by first | exact .inl rfl | exact .inr rfl))
   (@pss_cons _ _ _ _ _ (@ps_if _ _ _ _ _ _ _ _ (@pt_cmpR _ _ _ _ _ _ _ _ op_lt (pv 1) pe_int (nomark _)) (@pss_one _ _ _ (@ps_ret _ _ _ _ (@pe_ix _ _ _ _ _ _ _ (ix_seqK (K:=K) rfl) (@pe_lst _ _ _ _ (@pa_cons _ _ _ _ _ (@pe_tup _ _ _ _ _ (@pa_cons _ _ _ _ _ pe_int (@pa_cons _ _ _ _ _ pe_int pa_nil (by rfl)) (by rfl))) (@pa_cons _ _ _ _ _ (@pe_tup _ _ _ _ _ (@pa_cons _ _ _ _ _ pe_int (@pa_cons _ _ _ _ _ pe_int pa_nil (by rfl)) (by rfl))) (@pa_cons _ _ _ _ _ (@pe_tup _ _ _ _ _ (@pa_cons _ _ _ _ _ pe_int (@pa_cons _ _ _ _ _ pe_int pa_nil (by rfl)) (by rfl))) pa_nil star_tup) star_tup) star_tup)) (pv 1) (fun _ _=>rfl)))) pss_nil)
   (@pss_cons _ _ _ _ _ (@ps_set _ _ 2 _ _ _ _ sc_law_share.nd rfl (by first | exact Or.inl rfl | exact Or.inr rfl) (@pe_op _ _ _ _ _ _ _ _ op_add pe_int (@pe_df _ _ _ _ _ _ _ _ _ _ (df_law_draw T) (hr.mono (by decide)) (@pa_cons _ _ _ _ _ (pv 0) (@pa_cons _ _ _ _ _ (@pe_ix _ _ _ _ _ _ _ (ix_seqK (K:=K) rfl) (@pe_lst _ _ _ _ (@pa_cons _ _ _ _ _ pe_int (@pa_cons _ _ _ _ _ pe_int pa_nil (by rfl)) (by rfl))) (@pe_op _ _ _ _ _ _ _ _ op_mod (pv 1) pe_int) (fun _ _=>rfl)) pa_nil star_sub) (by rfl)) (by rfl) (by decide) (by rfl) (by rfl))) (by rfl) (by first | exact .inl rfl | exact .inr rfl))
   (@pss_one _ _ _ (@ps_ret _ _ _ _ (@pe_tup _ _ _ _ _ (@pa_cons _ _ _ _ _ (@pe_df _ _ _ _ _ _ _ _ _ _ (df_law_draw T) (hr.mono (by decide)) (@pa_cons _ _ _ _ _ (pv 0) (@pa_cons _ _ _ _ _ (@pe_op _ _ _ _ _ _ _ _ op_add (pv 2) pe_int) pa_nil star_bin) (by rfl)) (by rfl) (by decide) (by rfl) (by rfl)) (@pa_cons _ _ _ _ _ (pv 2) pa_nil (by rfl)) star_call))))))),?_⟩
  refine ⟨_,rfl,_,_,rfl,D,(by decide),(by decide),fun x H1 x0 x1 D1 k1=>?_⟩
  refine ⟨_,rfl,_,_,rfl,rfl,_,rfl,?_⟩
  by_cases z3:x < 3
  ·rw [decide_eq_true z3]
   refine iteT ?_
   refine ⟨(by show 2≤sizeLine;decide),fun t1 ht1=>?_⟩
   refine ⟨(by show 2≤sizeLine;decide),fun t2 ht2=>?_⟩
   refine ⟨(by show 2≤sizeLine;decide),fun t3 ht3=>?_⟩
   refine ⟨(by show 3≤sizeLine;decide),fun l1 hl1=>?_⟩
   have sa:=same_upd (o:=.tup [.int 0,.int 1]) ht1
   have sb:=same_upd (o:=.tup [.int 1,.int 2]) ht2
   have sc:=same_upd (o:=.tup [.int 1,.int 1]) ht3
   have sl:=same_upd (o:=.lst [.ref t1,.ref t2,.ref t3]) hl1
   have S4:=((sa.trans sb).trans sc).trans sl
   have g1:=sl _ _ (sc _ _ (sb _ _ (show upd H1 t1 (.tup [.int 0,.int 1]) t1=_ from upd_same)))
   have g2:=sl _ _ (sc _ _ (show upd (upd H1 t1 (.tup [.int 0,.int 1])) t2 (.tup [.int 1,.int 2]) t2=_ from upd_same))
   have g3:=sl _ _ (show upd (upd (upd H1 t1 (.tup [.int 0,.int 1])) t2 (.tup [.int 1,.int 2])) t3 (.tup [.int 1,.int 1]) t3=_ from upd_same)
   obtain ⟨sv,e3,e4⟩:=atI_mem (xs:=[V.ref t1,V.ref t2,V.ref t3]) (i:=x) (by omega) (by show _ < ((3:Nat):Int);omega)
   refine ⟨_,rfl,Or.inl ⟨_,_,_,_,rfl,rfl,SqL.of upd_same,e3,?_⟩⟩
   simp only [List.mem_cons,List.not_mem_nil,or_false] at e4
   rcases e4 with e | e | e
   ·subst e;exact q _ 0 1 _ (isPlace g1) ⟨by decide,by decide,by decide,by decide⟩ (by decide) (D1.keep S4) (k1.trans (S4.but d))
   ·subst e;exact q _ 1 2 _ (isPlace g2) ⟨by decide,by decide,by decide,by decide⟩ (by decide) (D1.keep S4) (k1.trans (S4.but d))
   ·subst e;exact q _ 1 1 _ (isPlace g3) ⟨by decide,by decide,by decide,by decide⟩ (by decide) (D1.keep S4) (k1.trans (S4.but d))
  ·rw [decide_eq_false z3]
   refine iteF ?_
   refine ⟨_,rfl,(by show 2≤sizeLine;decide),fun p hp=>?_⟩
   have sp:=same_upd (o:=.lst [.int 9,.int 1000]) hp
   refine ⟨_,rfl,_,_,rfl,rfl,(by show (0:Int) < 2;decide),?_⟩
   obtain ⟨m,em,hm⟩:=pickI (x:=x % 2) (ms:=[9,1000]) (by omega) (by show _ < ((2:Nat):Int);omega)
   refine Or.inl ⟨_,_,_,_,rfl,rfl,SqL.of upd_same,em,?_⟩
   have hm':1≤m∧m≤1000:=by
    simp only [List.mem_cons,List.not_mem_nil,or_false] at hm
    rcases hm with e | e <;> omega
   refine ⟨_,_,rfl,D1.keep sp,(by omega),(by omega),fun y H2 y0 y1 D2 k2=>?_⟩
   refine ⟨_,_,rfl,rfl,?_⟩
   refine ⟨_,rfl,_,rfl,_,_,rfl,rfl,?_⟩
   refine ⟨_,_,rfl,D2,(by omega),(by omega),fun a H3 a0 a1 D3 k3=>?_⟩
   refine ⟨_,rfl,(by show 2≤sizeLine;decide),fun t ht=>?_⟩
   have st:=same_upd (o:=.tup [.int a,.int (1 + y)]) ht
   exact q (.ref t) a (1 + y) _ (isPlace upd_same) ⟨a0,by omega,by omega,by omega⟩ (by omega) (D3.keep st) ((((k1.trans (sp.but d)).trans k2).trans k3).trans (st.but d))
def spField40:Sp:=fun vs H Q _=>∃ (d:Addr) (h wd holes:Int),vs=[.ref d,.int h,.int wd,.int holes]∧Seed H d∧1≤h∧h≤12∧1≤wd∧wd≤12 ∧
 ∀ (v:V) (F:List (List (Option Int))) (H':Hp),IsD H' v (fieldD F)→Rect F→(F.length:Int)=h→((F.headD []).length:Int)=wd→(∀ r∈F,∀ c∈r,In9 c)→Seed H' d→KeepBut d H H'→Q v H'
theorem df_law_field (T:Txt K mg C):Df P w K mg base 3 "_law_field" ["seed","height","width","holes"] spField40:=by
 refine T.d_law_field.ok sc_law_field (fun vs H Q E h=>?_) (fun f cdv A outer s H vs Q E hr h=>?_)
 ·obtain ⟨d,h,wd,holes,rfl,_⟩:=h
  rfl
 ·obtain ⟨d,h,wd,holes,rfl,D,h1,h12,w1,w12,q⟩:=h
  refine ⟨_,(@pss_cons _ _ _ _ _ (@ps_set _ _ 4 _ _ _ _ sc_law_field.nd rfl (by first | exact Or.inl rfl | exact Or.inr rfl) (@pe_df _ _ _ _ _ _ _ _ _ _ (df_law_draw T) (hr.mono (by decide)) (@pa_cons _ _ _ _ _ (pv 0) (@pa_cons _ _ _ _ _ pe_int pa_nil (by rfl)) (by rfl)) (by rfl) (by decide) (by rfl) (by rfl)) (by rfl) (by first | exact .inl rfl | exact .inr rfl))
   (@pss_cons _ _ _ _ _ (@ps_set _ _ 5 _ _ _ _ sc_law_field.nd rfl (by first | exact Or.inl rfl | exact Or.inr rfl) (@pe_lst _ _ _ _ pa_nil) (by rfl) (by first | exact .inl rfl | exact .inr rfl))
   (@pss_cons _ _ _ _ _ (@ps_for _ _ _ _ _ _ _ _ PassesOwn.never rfl (pi_range1 (by rfl) T.n_range (@pa_cons _ _ _ _ _ (pv 1) pa_nil (by rfl))) (pg_name (i:=6) sc_law_field.nd rfl (by first | exact Or.inl rfl | exact Or.inr rfl)) (@pss_cons _ _ _ _ _ (@ps_set _ _ 7 _ _ _ _ sc_law_field.nd rfl (by first | exact Or.inl rfl | exact Or.inr rfl) (@pe_lst _ _ _ _ pa_nil) (by rfl) (by first | exact .inl rfl | exact .inr rfl))
   (@pss_cons _ _ _ _ _ (@ps_for _ _ _ _ _ _ _ _ PassesOwn.never rfl (pi_range1 (by rfl) T.n_range (@pa_cons _ _ _ _ _ (pv 2) pa_nil (by rfl))) (pg_name (i:=8) sc_law_field.nd rfl (by first | exact Or.inl rfl | exact Or.inr rfl)) (@pss_cons _ _ _ _ _ (@ps_set _ _ 9 _ _ _ _ sc_law_field.nd rfl (by first | exact Or.inl rfl | exact Or.inr rfl) (@pe_df _ _ _ _ _ _ _ _ _ _ (df_law_number T) (hr.mono (by decide)) (@pa_cons _ _ _ _ _ (pv 0) (@pa_cons _ _ _ _ _ (pv 4) pa_nil (by rfl)) (by rfl)) (by rfl) (by decide) (by rfl) (by rfl)) (by rfl) (by first | exact .inl rfl | exact .inr rfl))
   (@pss_cons _ _ _ _ _ (@ps_if _ _ _ _ _ _ _ _ (pw_and (@pt_cmpR _ _ _ _ _ _ _ _ op_gt (pv 3) pe_int (nomark _)) (pw_and1 (@pt_cmpR _ _ _ _ _ _ _ _ op_lt (@pe_df _ _ _ _ _ _ _ _ _ _ (df_law_draw T) (hr.mono (by decide)) (@pa_cons _ _ _ _ _ (pv 0) (@pa_cons _ _ _ _ _ pe_int pa_nil (by rfl)) (by rfl)) (by rfl) (by decide) (by rfl) (by rfl)) (pv 3) (nomark _)))).pt (@pss_one _ _ _ (@ps_set _ _ 9 _ _ _ _ sc_law_field.nd rfl (by first | exact Or.inl rfl | exact Or.inr rfl) pe_non (by rfl) (by first | exact .inl rfl | exact .inr rfl))) pss_nil)
   (@pss_one _ _ _ (@ps_expr _ _ _ _ (@pe_bm _ _ _ _ _ _ _ _ _ _ _ _ PySem.F.plainAttrs_list PySem.F.slot_list_append PySem.F.type_list_append mt_append (pv 7) (@pa_cons _ _ _ _ _ (pv 9) pa_nil (by rfl)) (by rfl) (by rfl) (by rfl) (by rfl) (by rfl)) (by rfl))))) (by intro _;rfl))
   (@pss_one _ _ _ (@ps_expr _ _ _ _ (@pe_bm _ _ _ _ _ _ _ _ _ _ _ _ PySem.F.plainAttrs_list PySem.F.slot_list_append PySem.F.type_list_append mt_append (pv 5) (@pa_cons _ _ _ _ _ (@pe_callTy _ _ _ _ _ _ _ _ _ (call_tupleK (K:=K) rfl) (by rfl) T.n_tuple bt_tuple (@pa_cons _ _ _ _ _ (pv 7) pa_nil (by rfl)) (by decide) (by decide) (by rfl) (by rfl)) pa_nil star_call) (by rfl) (by rfl) (by rfl) (by rfl) (by rfl)) (by rfl))))) (by intro _;rfl))
   (@pss_one _ _ _ (@ps_ret _ _ _ _ (@pe_callTy _ _ _ _ _ _ _ _ _ (call_tupleK (K:=K) rfl) (by rfl) T.n_tuple bt_tuple (@pa_cons _ _ _ _ _ (pv 5) pa_nil (by rfl)) (by decide) (by decide) (by rfl) (by rfl))))))),?_⟩
  refine ⟨_,rfl,_,_,rfl,D,(by decide),(by decide),fun x5 H6 a5 b5 D6 K6=>?_⟩
  refine ⟨(by show 0≤sizeLine;decide),fun c hc=>?_⟩
  have hcd:c≠d:=D6.ne hc
  have K7:KeepBut d H (upd H6 c (.lst [])):=K6.upd hc
  have hc7:upd H6 c (.lst []) c=some (.lst []):=upd_same
  have D7:=D6.upd (o:=.lst []) hc
  have hcH:H c=none:=by
   cases e:H c with
   | none=>rfl
   | some o=>rw [K6 c o e hcd] at hc;cases hc
  generalize upd H6 c (.lst [])=H7 at K7 hc7 D7 ⊢
  refine ⟨_,rfl,_,rfl,by omega,by omega,?_⟩
  refine for_range (n:=h.toNat) (fun i σ H'=>∃ (v6 v7 v8 v9:Option V) (ys:List V) (G:List (List (Option Int))),σ=[some (.ref d),some (.int h),some (.int wd),some (.int holes),some (.int x5),some (.ref c),v6,v7,v8,v9]∧KeepBut d H H'∧Seed H' d∧H' c=some (.lst ys)∧IsDs H' ys (G.map rowD)∧G.length=i ∧
   (∀ r∈G,r.length=wd.toNat ∧ ∀ c∈r,In9 c)) ⟨none,none,none,none,[],[],rfl,K7,D7,hc7,.nil,rfl,fun r hr=>absurd hr (by simp)⟩ ?_ ?_
  ·rintro i _ H8 hi ⟨v6,v7,v8,v9,ys,G,rfl,K8,D8,hc8,hys,lG,hG⟩
   have ly:ys.length=i:=by rw [hys.length,List.length_map,lG]
   have hi':i < 12:=by
    have:i < h.toNat:=hi
    omega
   refine ⟨(by show 0≤sizeLine;decide),fun e he=>?_⟩
   have s9:=same_upd (o:=.lst []) he
   have hed:e≠d:=D8.ne he
   have hec:e≠c:=(ne_of_none hc8 he).symm
   have heH:H e=none:=by
    cases e':H e with
    | none=>rfl
    | some o=>rw [K8 e o e' hed] at he;cases he
   have K9:=K8.upd (o:=.lst []) he
   have he9:upd H8 e (.lst []) e=some (.lst []):=upd_same
   have D9:=D8.keep s9
   have hc9:=s9 _ _ hc8
   have hys9:=hys.keep s9.tups
   generalize upd H8 e (.lst [])=H9 at K9 he9 D9 hc9 hys9 ⊢
   refine ⟨_,rfl,_,rfl,by omega,by omega,?_⟩
   refine for_range (n:=wd.toNat) (fun j σ H'=>∃ (v8 v9:Option V) (r:List (Option Int)),σ=[some (.ref d),some (.int h),some (.int wd),some (.int holes),some (.int x5),some (.ref c),some (.int (0 + (i:Int))),some (.ref e),v8,v9]∧KeepBut d H H'∧Seed H' d∧H' c=some (.lst ys)∧IsDs H' ys (G.map rowD)∧H' e=some (.lst (r.map cellV))∧r.length=j∧∀ c∈r,In9 c) ⟨v8,v9,[],rfl,K9,D9,hc9,hys9,he9,rfl,fun c hc=>absurd hc (by simp)⟩ ?_ ?_
   ·rintro j _ H10 hj ⟨v8,v9,r,rfl,K10,D10,hc10,hys10,he10,lr,r9⟩
    have hj':j < 12:=by
     have:j < wd.toNat:=hj
     omega
    refine ⟨_,rfl,_,rfl,_,_,rfl,D10,fun y H11 y9 D11 k11=>?_⟩
    dsimp only [gName,List.set]
    refine tSeq_cut (fun σ' H'=>∃ cl:Option Int,σ'=[some (.ref d),some (.int h),some (.int wd),some (.int holes),some (.int x5),some (.ref c),some (.int (0 + (i:Int))),some (.ref e),some (.int (0 + (j:Int))),some (cellV cl)]∧In9 cl∧Seed H' d∧KeepBut d H10 H') ?_ (fun rest=>?_)
    ·rintro _ H12 ⟨cl,rfl,c9,D12,k12⟩
     have he12:=k12 _ _ he10 hed
     have hc12:=k12 _ _ hc10 hcd
     have K12:=K10.trans k12
     have t12:=k12.tups D10.lst.choose_spec
     refine ⟨_,rfl,Or.inl ⟨rfl,_,SqL.of he12⟩,?_⟩
     refine ⟨_,rfl,_,_,_,rfl,rfl,he12,(by rw [List.length_map,lr];exact Nat.lt_of_lt_of_le (show j < 1001 by omega) (by decide)),?_⟩
     refine ⟨_,_,r ++ [cl],rfl,fun b' o e' n=>?_,?_,?_,?_,?_,by rw [List.length_append,lr];rfl,fun c hc=>(List.mem_append.mp hc).elim (r9 c) fun z=>by rw [List.mem_singleton.mp z];exact c9⟩
     ·have n1:b'≠e:=ne_of_none e' heH
      rw [upd_ne n1]
      exact K12 b' o e' n
     ·obtain ⟨a,b,n,c',e'⟩:=D12
      exact ⟨a,b,n,c',by rw [upd_ne hed.symm];exact e'⟩
     ·rw [upd_ne hec.symm];exact hc12
     ·refine hys10.keep fun b' zs e'=>?_
      rw [upd_ne (ne_of e' he10 fun z=>by cases z)]
      exact t12 _ _ e'
     ·rw [upd_same,List.map_append];rfl
    ·refine ⟨_,rfl,_,_,rfl,rfl,_,rfl,?_⟩
     refine ite2 (fun z=>?_) (fun z=>?_)
     ·refine ⟨_,rfl,_,_,rfl,D11,(by decide),(by decide),fun z2 H12 z0 z1 D12 k12=>?_⟩
      refine ⟨_,rfl,_,_,rfl,rfl,_,rfl,?_⟩
      refine ite2 (fun z3=>?_) (fun z3=>?_)
      ·exact rest _ _ ⟨none,rfl,(fun i e=>by cases e),D12,k11.trans k12⟩
      ·exact rest _ _ ⟨some y,rfl,(fun i e=>by cases e;exact y9),D12,k11.trans k12⟩
     ·exact iteF (rest _ _ ⟨some y,rfl,(fun i e=>by cases e;exact y9),D11,k11⟩)
   ·rintro _ H10 ⟨v8,v9,r,rfl,K10,D10,hc10,hys10,he10,lr,r9⟩
    refine ⟨_,rfl,Or.inl ⟨rfl,_,SqL.of hc10⟩,_,rfl,_,_,rfl,Or.inl ⟨SqL.of he10,fun t ht=>?_⟩⟩
    have st:=same_upd (o:=.tup (r.map cellV)) ht
    have hct:=st _ _ hc10
    have htd:t≠d:=D10.ne ht
    have htc:t≠c:=(ne_of_none hc10 ht).symm
    have D11:=D10.keep st
    refine ⟨_,_,_,rfl,rfl,hct,(by rw [ly];exact Nat.lt_of_lt_of_le (show i < 1001 by omega) (by decide)),?_⟩
    refine ⟨_,_,_,_,ys ++ [.ref t],G ++ [r],rfl,fun b' o e' n=>?_,?_,upd_same,?_,by rw [List.length_append,lG];rfl,?_⟩
    ·have n1:b'≠c:=ne_of_none e' hcH
     rw [upd_ne n1]
     exact st _ _ (K10 b' o e' n)
    ·obtain ⟨a,b,n,c',e'⟩:=D11
     exact ⟨a,b,n,c',by rw [upd_ne hcd.symm];exact e'⟩
    ·have kt:∀ b' zs,H10 b'=some (.tup zs)→upd (upd H10 t (.tup (r.map cellV))) c (.lst (ys ++ [.ref t])) b'=some (.tup zs):=fun b' zs e'=>by
      have n1:b'≠c:=ne_of e' hc10 fun z=>by cases z
      rw [upd_ne n1]
      exact st _ _ e'
     rw [List.map_append]
     exact (hys10.keep kt).append (.cons (.tup (by rw [upd_ne htc];exact upd_same) (isCells _)) .nil)
    ·intro r' hr2
     rcases List.mem_append.mp hr2 with z | z
     ·exact hG r' z
     ·have:r'=r:=by simpa using z
      subst this
      exact ⟨lr,r9⟩
  ·rintro _ H8 ⟨v6,v7,v8,v9,ys,G,rfl,K8,D8,hc8,hys,lG,hG⟩
   refine ⟨_,rfl,_,_,rfl,Or.inl ⟨SqL.of hc8,fun t ht=>?_⟩⟩
   have st:=same_upd (o:=.tup ys) ht
   have lG':G.length=h.toNat:=lG
   have W:(G.headD []).length=wd.toNat:=(hG _ (List.mem_of_getElem? (head_get _ (by omega)))).1
   exact q (.ref t) G _ (.tup upd_same (hys.keep st.tups)) ⟨by omega,by omega,by omega,by omega,fun x hx=>by rw [W];exact (hG x hx).1⟩ (by omega) (by omega) (fun r hr=>(hG r hr).2) (D8.keep st) (K8.trans (st.but d))
def spSizes:Sp:=fun vs H Q _=>∃ (d:Addr),vs=[.ref d]∧Seed H d ∧
 ∀ (p:Addr) (x y:Int) (H':Hp),H' p=some (.lst [.int x,.int y])→1≤x→x≤12→1≤y→y≤12→Seed H' d→KeepBut d H H'→Q (.ref p) H'
theorem df_law_sizes (T:Txt K mg C):Df P w K mg base 2 "_law_sizes" ["seed"] spSizes:=by
 refine T.d_law_sizes.ok sc_law_sizes (fun vs H Q E h=>?_) (fun f cdv A outer s H vs Q E hr h=>?_)
 ·obtain ⟨d,rfl,_⟩:=h
  rfl
 ·obtain ⟨d,rfl,D,q⟩:=h
  refine ⟨_,(@pss_cons _ _ _ _ _ (@ps_set _ _ 1 _ _ _ _ sc_law_sizes.nd rfl (by first | exact Or.inl rfl | exact Or.inr rfl) (@pe_df _ _ _ _ _ _ _ _ _ _ (df_law_draw T) (hr.mono (by decide)) (@pa_cons _ _ _ _ _ (pv 0) (@pa_cons _ _ _ _ _ pe_int pa_nil (by rfl)) (by rfl)) (by rfl) (by decide) (by rfl) (by rfl)) (by rfl) (by first | exact .inl rfl | exact .inr rfl))
   (@pss_cons _ _ _ _ _ (@ps_if _ _ _ _ _ _ _ _ (@pt_cmpR _ _ _ _ _ _ _ _ (op_eqA hr.units) (pv 1) pe_int (nomark _)) (@pss_one _ _ _ (@ps_ret _ _ _ _ (@pe_lst _ _ _ _ (@pa_cons _ _ _ _ _ pe_int (@pa_cons _ _ _ _ _ (@pe_op _ _ _ _ _ _ _ _ op_add pe_int (@pe_df _ _ _ _ _ _ _ _ _ _ (df_law_draw T) (hr.mono (by decide)) (@pa_cons _ _ _ _ _ (pv 0) (@pa_cons _ _ _ _ _ pe_int pa_nil (by rfl)) (by rfl)) (by rfl) (by decide) (by rfl) (by rfl))) pa_nil star_bin) (by rfl))))) pss_nil)
   (@pss_cons _ _ _ _ _ (@ps_if _ _ _ _ _ _ _ _ (@pt_cmpR _ _ _ _ _ _ _ _ (op_eqA hr.units) (pv 1) pe_int (nomark _)) (@pss_one _ _ _ (@ps_ret _ _ _ _ (@pe_lst _ _ _ _ (@pa_cons _ _ _ _ _ (@pe_op _ _ _ _ _ _ _ _ op_add pe_int (@pe_df _ _ _ _ _ _ _ _ _ _ (df_law_draw T) (hr.mono (by decide)) (@pa_cons _ _ _ _ _ (pv 0) (@pa_cons _ _ _ _ _ pe_int pa_nil (by rfl)) (by rfl)) (by rfl) (by decide) (by rfl) (by rfl))) (@pa_cons _ _ _ _ _ (@pe_op _ _ _ _ _ _ _ _ op_add pe_int (@pe_df _ _ _ _ _ _ _ _ _ _ (df_law_draw T) (hr.mono (by decide)) (@pa_cons _ _ _ _ _ (pv 0) (@pa_cons _ _ _ _ _ pe_int pa_nil (by rfl)) (by rfl)) (by rfl) (by decide) (by rfl) (by rfl))) pa_nil star_bin) star_bin)))) pss_nil)
   (@pss_one _ _ _ (@ps_ret _ _ _ _ (@pe_lst _ _ _ _ (@pa_cons _ _ _ _ _ (@pe_op _ _ _ _ _ _ _ _ op_add pe_int (@pe_df _ _ _ _ _ _ _ _ _ _ (df_law_draw T) (hr.mono (by decide)) (@pa_cons _ _ _ _ _ (pv 0) (@pa_cons _ _ _ _ _ pe_int pa_nil (by rfl)) (by rfl)) (by rfl) (by decide) (by rfl) (by rfl))) (@pa_cons _ _ _ _ _ (@pe_op _ _ _ _ _ _ _ _ op_add pe_int (@pe_df _ _ _ _ _ _ _ _ _ _ (df_law_draw T) (hr.mono (by decide)) (@pa_cons _ _ _ _ _ (pv 0) (@pa_cons _ _ _ _ _ pe_int pa_nil (by rfl)) (by rfl)) (by rfl) (by decide) (by rfl) (by rfl))) pa_nil star_bin) star_bin))))))),?_⟩
  refine ⟨_,rfl,_,_,rfl,D,(by decide),(by decide),fun x H1 x0 x1 D1 k1=>?_⟩
  refine ⟨_,rfl,Or.inl ⟨rfl,_,rfl,?_⟩⟩
  refine ite2 (fun _=>?_) (fun _=>?_)
  ·refine ⟨_,rfl,_,_,rfl,D1,(by decide),(by decide),fun y H2 y0 y1 D2 k2=>?_⟩
   refine ⟨_,_,rfl,rfl,(by show 2≤sizeLine;decide),fun p hp=>?_⟩
   have sp:=same_upd (o:=.lst [.int 1,.int (1 + y)]) hp
   exact q p 1 (1 + y) _ upd_same (by omega) (by omega) (by omega) (by omega) (D2.keep sp) ((k1.trans k2).trans (sp.but d))
  refine ⟨_,rfl,Or.inl ⟨rfl,_,rfl,?_⟩⟩
  refine ite2 (fun _=>?_) (fun _=>?_)
  ·refine ⟨_,rfl,_,_,rfl,D1,(by decide),(by decide),fun y H2 y0 y1 D2 k2=>?_⟩
   refine ⟨_,_,rfl,rfl,_,rfl,_,_,rfl,D2,(by decide),(by decide),fun z H3 z0 z1 D3 k3=>?_⟩
   refine ⟨_,_,rfl,rfl,(by show 2≤sizeLine;decide),fun p hp=>?_⟩
   have sp:=same_upd (o:=.lst [.int (1 + y),.int (1 + z)]) hp
   exact q p (1 + y) (1 + z) _ upd_same (by omega) (by omega) (by omega) (by omega) (D3.keep sp) (((k1.trans k2).trans k3).trans (sp.but d))
  ·refine ⟨_,rfl,_,_,rfl,D1,(by decide),(by decide),fun y H2 y0 y1 D2 k2=>?_⟩
   refine ⟨_,_,rfl,rfl,_,rfl,_,_,rfl,D2,(by decide),(by decide),fun z H3 z0 z1 D3 k3=>?_⟩
   refine ⟨_,_,rfl,rfl,(by show 2≤sizeLine;decide),fun p hp=>?_⟩
   have sp:=same_upd (o:=.lst [.int (1 + y),.int (1 + z)]) hp
   exact q p (1 + y) (1 + z) _ upd_same (by omega) (by omega) (by omega) (by omega) (D3.keep sp) (((k1.trans k2).trans k3).trans (sp.but d))
def spSWindow:Sp:=fun vs H Q _=>∃ (d:Addr),vs=[.ref d]∧Seed H d ∧
 ∀ (t:Addr) (u dn l r:Nat) (H':Hp),u≤6→dn≤6→l≤6→r≤6→H' t=some (.tup [.int u,.int dn,.int l,.int r])→Seed H' d→KeepBut d H H'→Q (.ref t) H'
theorem most_of {z:Int}(z0:0≤z)(z1:z < 3):∃ m:Int,atI [V.int 3,V.int 3,V.int 7] z=some (.int m)∧0 < m∧m≤7:=by
 obtain ⟨v,e3,e4⟩:=atI_mem (xs:=[V.int 3,V.int 3,V.int 7]) z0 (by exact z1)
 simp only [List.mem_cons,List.not_mem_nil,or_false] at e4
 rcases e4 with e | e | e
 ·exact ⟨3,by rw [e3,e],by decide,by decide⟩
 ·exact ⟨3,by rw [e3,e],by decide,by decide⟩
 ·exact ⟨7,by rw [e3,e],by decide,by decide⟩
theorem four_nat {ys:List V}{ks:List Nat}(h:ys=ks.map fun k:Nat=>V.int (k:Int))(l:ks.length=4)(b:∀ k∈ks,k≤6):∃ a b c d:Nat,ys=[.int a,.int b,.int c,.int d]∧a≤6∧b≤6∧c≤6∧d≤6:=by
 match ks,l with
 | [a,b',c,d],_=>exact ⟨a,b',c,d,h,b a (by simp),b b' (by simp),b c (by simp),b d (by simp)⟩
theorem df_law_window (T:Txt K mg C):Df P w K mg base 2 "_law_window" ["seed"] spSWindow:=by
 refine T.d_law_window.ok sc_law_window (fun vs H Q E h=>?_) (fun f cdv A outer s H vs Q E hr h=>?_)
 ·obtain ⟨d,rfl,_⟩:=h
  rfl
 ·obtain ⟨d,rfl,D,q⟩:=h
  refine ⟨_,(@pss_cons _ _ _ _ _ (@ps_set _ _ 1 _ _ _ _ sc_law_window.nd rfl (by first | exact Or.inl rfl | exact Or.inr rfl) (@pe_ix _ _ _ _ _ _ _ (ix_seqK (K:=K) rfl) (@pe_lst _ _ _ _ (@pa_cons _ _ _ _ _ pe_int (@pa_cons _ _ _ _ _ pe_int (@pa_cons _ _ _ _ _ pe_int pa_nil (by rfl)) (by rfl)) (by rfl))) (@pe_df _ _ _ _ _ _ _ _ _ _ (df_law_draw T) (hr.mono (by decide)) (@pa_cons _ _ _ _ _ (pv 0) (@pa_cons _ _ _ _ _ pe_int pa_nil (by rfl)) (by rfl)) (by rfl) (by decide) (by rfl) (by rfl)) (fun _ _=>rfl)) (by rfl) (by first | exact .inl rfl | exact .inr rfl))
   (@pss_one _ _ _ (@ps_ret _ _ _ _ (@pe_callTy _ _ _ _ _ _ _ _ _ (call_tupleK (K:=K) rfl) (by rfl) T.n_tuple bt_tuple (@pa_cons _ _ _ _ _ (pe_compIf (M:=["seed","most"]) (idx:=[0,1]) rfl (pi_range1 (by rfl) T.n_range (@pa_cons _ _ _ _ _ pe_int pa_nil (by rfl))) (compOk (by kernel_rfl)) (by decide +kernel) (by first | exact Or.inl rfl | exact Or.inr rfl) (fun _ _ _ _ _=>pts_nil) (fun _ _ _ _ _=>(@pe_df _ _ _ _ _ _ _ _ _ _ (df_law_draw T) (hr.mono (by decide)) (@pa_cons _ _ _ _ _ (pv 1) (@pa_cons _ _ _ _ _ (pv 2) pa_nil (by rfl)) (by rfl)) (by rfl) (by decide) (by rfl) (by rfl)))) pa_nil star_comp) (by decide) (by decide) (by rfl) (by rfl))))),?_⟩
  refine ⟨(by show 3≤sizeLine;decide),fun p hp=>?_⟩
  have hpd:=D.ne hp
  refine ⟨_,rfl,_,_,rfl,D.upd hp,(by decide),(by decide),fun x H1 x0 x1 D1 k1=>?_⟩
  obtain ⟨m,em,m0,m7⟩:=most_of x0 x1
  refine Or.inl ⟨_,_,_,_,rfl,rfl,SqL.of (k1 p _ upd_same hpd),em,?_⟩
  have K1:KeepBut d H H1:=((KeepBut.refl d H).upd hp).trans k1
  refine ⟨4,rfl,(by decide),(by decide),?_⟩
  refine compW_range (fun i ys H'=>∃ ks:List Nat,ks.length=i∧ys=ks.map (fun k:Nat=>V.int (k:Int))∧(∀ k∈ks,k≤6)∧Seed H' d∧KeepBut d H H')
   ⟨[],rfl,rfl,fun k hk=>absurd hk (by simp),D1,K1⟩ (by decide) ?_ ?_
  ·rintro i ys H2 hi ⟨ks,lk,ek,bk,D2,K2⟩
   refine oneT ?_
   refine ⟨_,rfl,_,rfl,_,_,rfl,D2,m0,by omega,fun y H3 y0 y1 D3 k3=>?_⟩
   refine ⟨ks ++ [y.toNat],by rw [List.length_append,lk];rfl,?_,fun k hk=>?_,D3,K2.trans k3⟩
   ·rw [ek,List.map_append]
    show _ ++ [V.int y]=_ ++ [V.int ((y.toNat:Nat):Int)]
    rw [Int.toNat_of_nonneg y0]
   ·rcases List.mem_append.mp hk with z | z
    ·exact bk k z
    ·have:k=y.toNat:=by simpa using z
     omega
  ·rintro ys H2 ⟨ks,lk,ek,bk,D2,K2⟩ ls hls
   refine ⟨_,_,rfl,Or.inl ⟨SqL.of upd_same,fun t ht=>?_⟩⟩
   obtain ⟨a,b,c,e,ey,ha,hb,hc,he⟩:=four_nat ek lk bk
   have kk:=(same_upd (o:=.lst ys) hls).trans (same_upd (o:=.tup ys) ht)
   exact q t a b c e _ ha hb hc he (by rw [upd_same,ey]) (D2.keep kk) (K2.trans (kk.but d))
theorem pre_join {w0 ws0:Str}{ws:List Str}(h:ws0.cps.toList=w0.cps.toList ++ [32])(hn:ws≠[]):ws0 ++ joinW ws=joinW (w0 :: ws):=by
 refine str_ext ?_
 unfold joinW
 rw [join_cps]
 show (ws0.cps ++ (Str.join ⟨#[32]⟩ ws).cps).toList=_
 rw [Array.toList_append,join_cps,h]
 cases ws with
 | nil=>exact absurd rfl hn
 | cons x r =>
  simp only [List.map_cons,joinL]
  simp
theorem win_line (ws:List Str) (hn:ws≠[]):("window " : Str) ++ joinW ws=joinW ("window" :: ws):=pre_join (by decide +kernel) hn
theorem share_line (ws:List Str) (hn:ws≠[]):("share " : Str) ++ joinW ws=joinW ("share" :: ws):=pre_join (by decide +kernel) hn
theorem field_line (F:List (List (Option Int))):("field " : Str) ++ textS F=lineF F:=by
 refine str_ext ?_
 show (("field " : Str).cps ++ (textS F).cps).toList=(("field " : Str).cps.toList ++ (textS F).cps.toList).toArray.toList
 simp
theorem app_cps (a b:Str):(a ++ b).cps.toList=a.cps.toList ++ b.cps.toList:=by
 show (a.cps ++ b.cps).toList=_
 rw [Array.toList_append]
theorem blank_cps:(" " : Str).cps.toList=[32]:=by decide +kernel
theorem empty_cps:(Str.empty).cps.toList=[]:=rfl
theorem cell_line (a b c:Str):Str.empty ++ ("cell " : Str) ++ a ++ (" " : Str) ++ b ++ (" " : Str) ++ c=joinW ["cell",a,b,c]:=by
 refine str_ext ?_
 unfold joinW
 rw [join_cps]
 simp only [List.map_cons,List.map_nil,joinL,app_cps,blank_cps,empty_cps]
 have e1:("cell " : Str).cps.toList=[99,101,108,108,32]:=by decide +kernel
 have e2:("cell" : Str).cps.toList=[99,101,108,108]:=by decide +kernel
 rw [e1,e2]
 simp
theorem at_line (a b:Str):Str.empty ++ ("at " : Str) ++ a ++ (" " : Str) ++ b=joinW ["at",a,b]:=by
 refine str_ext ?_
 unfold joinW
 rw [join_cps]
 simp only [List.map_cons,List.map_nil,joinL,app_cps,blank_cps,empty_cps]
 have e1:("at " : Str).cps.toList=[97,116,32]:=by decide +kernel
 have e2:("at" : Str).cps.toList=[97,116]:=by decide +kernel
 rw [e1,e2]
 simp
theorem at00:("at 0 0" : Str)=joinW ["at",wordOf (some ((0:Nat):Int)),wordOf (some ((0:Nat):Int))]:=by decide +kernel
theorem showW:("show" : Str)=joinW ["show"]:=by decide +kernel
theorem filterW:("filter" : Str)=joinW ["filter"]:=by decide +kernel
theorem takeW:("take" : Str)=joinW ["take"]:=by decide +kernel
theorem line_ok (r:List (Option Int)):PyData.strOk (lineOf r)=true:=by
 have key:∀ c:Option Int,∀ x∈wordL c,x < 128:=fun c x hx=>by
  cases c with
  | none=>exact (by decide +kernel:∀ x∈wordL none,x < 128) x hx
  | some i =>
   unfold wordL at hx
   rcases List.mem_append.mp hx with z | z
   ·split at z <;> simp at z
    omega
   ·have:=dg_all i.natAbs _ z
    omega
 have kj:∀ ls:List (List Nat),(∀ l∈ls,∀ x∈l,x < 128)→∀ x∈joinL 32 ls,x < 128:=fun ls=>by
  induction ls with
  | nil=>intro _ x hx;cases hx
  | cons a r ih =>
   intro h x hx
   cases r with
   | nil=>exact h a (by simp) x hx
   | cons b r' =>
    simp only [joinL] at hx
    rcases List.mem_append.mp hx with z | z
    ·exact h a (by simp) x z
    ·rcases List.mem_cons.mp z with z | z
     ·omega
     ·exact ih (fun l hl=>h l (List.mem_cons_of_mem _ hl)) x z
 unfold PyData.strOk
 rw [← Array.all_toList,List.all_eq_true]
 unfold lineOf
 rw [join_cps]
 intro x hx
 have:=kj _ (fun l hl=>by
  obtain ⟨s,hs,rfl⟩:=List.mem_map.mp hl
  obtain ⟨c,hc,rfl⟩:=List.mem_map.mp hs
  rw [word_cps]
  exact key c) x hx
 exact decide_eq_true (by omega)
theorem word_line (c:Option Int):wordOf c=lineOf [c]:=by
 refine str_ext ?_
 unfold lineOf
 rw [join_cps]
 simp only [List.map_cons,List.map_nil,word_cps,joinL]
theorem word_okS (c:Option Int):PyData.strOk (wordOf c)=true:=by rw [word_line];exact line_ok _
def strsD (xs:List Str):List PyData:=xs.map PyData.str
theorem isStrs {H:Hp}:∀ xs:List Str,IsDs H (xs.map V.str) (strsD xs)
 | []=>.nil
 | _ :: xs=>.cons (.str _) (isStrs xs)
theorem strs_lay:∀ {xs:List Str},(∀ x∈xs,PyData.strOk x=true)→PyData.canLayAll0 (strsD xs)=true
 | [],_=>rfl
 | x :: xs,h=>by
  have h1:=h x (by simp)
  have h2:=strs_lay fun y hy=>h y (List.mem_cons_of_mem _ hy)
  unfold strsD at h2 ⊢
  rw [List.map_cons]
  simp [PyData.canLayAll0,PyData.canLay0,h1,h2]
theorem strs_depth:∀ xs:List Str,PyData.depthAll (strsD xs)≤1
 | []=>by simp [strsD,PyData.depthAll]
 | x :: xs=>by
  have:=strs_depth xs
  unfold strsD at this ⊢
  rw [List.map_cons]
  simp only [PyData.depthAll,PyData.depth]
  omega
theorem strs_eqv:∀ xs ys:List Str,PyData.eqvAll (strsD xs) (strsD ys)=decide (xs=ys)
 | [],[]=>rfl
 | [],_ :: _=>rfl
 | _ :: _,[]=>rfl
 | x :: xs,y :: ys=>by
  have:=strs_eqv xs ys
  unfold strsD at this ⊢
  rw [List.map_cons,List.map_cons]
  simp only [PyData.eqvAll,PyData.eqv,this]
  by_cases e:x=y
  ·subst e;simp
  ·simp [e]
theorem cmp_strs {xs ys:List Str}(hx:∀ x∈xs,PyData.strOk x=true)(hy:∀ y∈ys,PyData.strOk y=true):CmpD 0 (.list (strsD xs)) (.list (strsD ys)):=by
 refine ⟨by simp [PyData.canLay0,strs_lay hx],by simp [PyData.canLay0,strs_lay hy],?_⟩
 have:=strs_depth xs
 simp only [PyData.depth]
 omega
structure VsAt (H:Hp)(fv wv rv sv:V)(D:Dsk):Prop where
 f_:IsD H fv (fieldD D.F)
 w_:IsD H wv (winD D.u D.d D.l D.r)
 r_:IsD H rv (ruleD D.ru)
 s_:IsD H sv (placeD (D.a,D.b))
theorem VsAt.keep {H H':Hp}{fv wv rv sv:V}{D:Dsk}(k:VsAt H fv wv rv sv D)(t:KeepT H H'):VsAt H' fv wv rv sv D:=⟨k.f_.keep t,k.w_.keep t,k.r_.keep t,k.s_.keep t⟩
def spCells34 (K:PySem.W.Frag):Sp:=fun vs H Q _=>∃ (a:Addr) (ns:List Int) (m:Nat),vs=[.ref a,.int (m:Int)]∧SqL K H a (ns.map V.int)∧ns.length ≤ 63∧∀ (p:Addr) (zs:List V) (H':Hp),Same H H'→H' p=some (.lst zs)→zs≠[]→zs.length ≤ 64→(∀ x∈zs,∃ z:Int,x = .int z)→Q (.ref p) H'
theorem df_law_cells (T:Txt K mg C):Df P w K mg base 1 "_law_cells" ["script","many"] (spCells34 K):=by
 refine T.d_law_cells.ok sc_law_cells (fun vs H Q E h=>?_) (fun f cdv A outer s H vs Q E hr h=>?_)
 ·obtain ⟨a,ns,m,rfl,_⟩:=h
  rfl
 ·obtain ⟨a,ns,m,rfl,hS,hl,q⟩:=h
  refine ⟨_,(@pss_one _ _ _ (@ps_ret _ _ _ _ (@pe_op _ _ _ _ _ _ _ _ op_cat (pe_slice (sl_X (K:=K) rfl) (pv 0) po_none (po_some (pv 1))) (@pe_lst _ _ _ _ (@pa_cons _ _ _ _ _ (@pe_callB _ _ _ _ _ _ _ _ _ (call_lenK (K:=K) rfl) (by rfl) T.n_len bt_len (@pa_cons _ _ _ _ _ (pv 0) pa_nil (by rfl)) (by decide) (by decide) (by rfl) (by rfl)) pa_nil star_call))))),?_⟩
  refine ⟨_,rfl,_,rfl,_,rfl,Or.inl ⟨_,_,rfl,hS,fun p hp=>?_⟩⟩
  have s1:=same_upd (o:=.lst (cutV (ns.map V.int) none (some (m:Int)))) hp
  refine ⟨_,rfl,_,_,rfl,Or.inl ⟨_,s1.seq hS,rfl⟩,?_⟩
  refine ⟨(by show 1≤sizeLine;decide),fun p2 hp2=>?_⟩
  have lc:=cut_len (ns.map V.int) none (some (m:Int))
  rw [List.length_map] at lc ⊢
  have s2:=same_upd (o:=.lst [.int (ns.length:Int)]) hp2
  refine ⟨_,_,_,_,rfl,rfl,s2 _ _ upd_same,upd_same,(by exact Nat.le_trans (show _ + 1≤64 by omega) (by decide)),fun p3 hp3=>?_⟩
  refine q p3 _ _ ((s1.trans s2).trans (same_upd hp3)) upd_same (by simp) (by rw [List.length_append];show _ + 1≤64;omega) fun x hx=>?_
  rcases List.mem_append.mp hx with y | y
  ·obtain ⟨z,_,e⟩:=List.mem_map.mp (cut_mem y)
   exact ⟨z,e.symm⟩
  ·exact ⟨_,by simpa using y⟩
def beginsL (D:Dsk):List Str:=[lineF D.F,joinW ((deedW (.window D.u D.d D.l D.r)).1 :: (deedW (.window D.u D.d D.l D.r)).2),joinW ((deedW (.edge D.ru)).1 :: (deedW (.edge D.ru)).2),joinW ((deedW (.share D.a D.b)).1 :: (deedW (.share D.a D.b)).2)]
theorem words_len {ns:List Int}(h:∀ n∈ns,Wide n):((ns.map fun n=>wordOf (some n)).map (·.length)).sum ≤ ns.length * 11:=by
 have:=sum_len (m:=11) (ns.map fun n=>wordOf (some n)) (fun x hx=>by
  obtain ⟨n,hn,rfl⟩:=List.mem_map.mp hx
  exact word_len fun i e=>by cases e;exact h n hn)
 rw [List.length_map] at this
 exact this
theorem join_nums {K:PySem.W.Frag}{pre:Str}(k:Nat){σ:St}{H:Hp}{a:Addr}{ns:List Int}{Q:VK}(hv:σ[k]? = some (some (.ref a)))(ha:H a=some (.tup (ns.map V.int)))(hl:ns.length ≤ 4)(hp:pre.length ≤ 10)(hw:∀ n∈ns,Wide n)
  (q:∀ H',Same H H'→Q (.str (pre ++ joinW (ns.map fun n=>wordOf (some n)))) H') :
  tOp (fun x y H Q=>∃ i j,x=V.str i∧y=V.str j∧i.length + j.length ≤ sizeLine∧Q (V.str (i ++ j)) H) (tC (V.str pre)) (tBM K "str" (rJoin K) (tC (V.str (" " : Str))) (tCons (tCompIf (fun σ H R=>iList K (tVar k) σ H R ∨ iTup K (tVar k) σ H R) [] ttTrue (tFv (tVar 0))) tNil)) σ H Q:=by
 refine ⟨rfl,Or.inr ⟨_,hv,_,rfl,⟨_,SqT.of ha⟩,?_⟩⟩
 refine compW_tup (xs:=ns.map V.int) (fun j zs H'=>H'=H∧zs=((ns.take j).map fun n=>wordOf (some n)).map V.str) ⟨rfl,rfl⟩ (by rw [List.length_map];exact Nat.le_trans hl (by decide)) (fun j zs H' _ ⟨e,_⟩=>by rw [e];exact SqT.of ha) ?_ ?_
 ·rintro j y zs _ hy ⟨rfl,rfl⟩
  obtain ⟨n,en,rfl⟩:∃ n,ns[j]? = some n∧V.int n=y:=by
   rw [List.getElem?_map] at hy
   cases e:ns[j]? with
   | none=>rw [e] at hy;cases hy
   | some n=>rw [e] at hy;exact ⟨n,rfl,Option.some.inj hy⟩
  refine oneT ?_
  refine ⟨_,rfl,n,rfl,log_small (hw n (List.mem_of_getElem? en)),rfl,?_⟩
  rw [List.take_add_one,en,List.map_append,List.map_append,str_word]
  rfl
 ·rintro zs _ ⟨rfl,rfl⟩ l2 hl2
  rw [List.length_map,List.take_of_length_le (Nat.le_refl _)]
  have wl:=words_len hw
  have e1:((" " : Str)).length=1:=by decide +kernel
  refine ⟨_,_,ns.map fun n=>wordOf (some n),rfl,rfl,SqL.of upd_same,?_,?_⟩
  ·rw [List.length_map,e1]
   omega
  ·rw [str_blank,tjoin]
   refine ⟨_,_,rfl,rfl,?_,q _ (same_upd hl2)⟩
   have:=joinW_len (ws:=ns.map fun n=>wordOf (some n)) (fun x hx=>by
    obtain ⟨n,hn,rfl⟩:=List.mem_map.mp hx
    exact word_len fun i e=>by cases e;exact hw n hn) (by rw [List.length_map];omega)
   exact Nat.le_trans (show _≤1010 by show pre.length + (joinW _).length ≤ 1010;omega) (by decide)
theorem rows_len {F:List (List (Option Int))} (R:RectW F):((F.map lineOf).map fun x=>x.length).sum + (F.map lineOf).length * (";" : Str).length ≤ 1000000:=by
 obtain ⟨h0,h1,h2,h3,h4,h5⟩:=R
 have:=sum_len (m:=1200) (F.map lineOf) (fun x hx=>by
  obtain ⟨r,hr,rfl⟩:=List.mem_map.mp hx
  exact line_len (r:=r) (by rw [h2 r hr];exact h4) (h5 r hr))
 have e1:((";" : Str)).length=1:=by decide +kernel
 rw [e1]
 rw [List.length_map] at this ⊢
 omega
theorem lineF_fits {F:List (List (Option Int))} (R:RectW F):("field " : Str).length + (Str.join ⟨#[59]⟩ (F.map lineOf)).length ≤ sizeLine:=by
 have tl:=textS_len R
 rw [fld_len]
 exact Nat.le_trans (show 6 + (textS F).length ≤ 1000000 by omega) (by decide)
theorem lineF_is (F:List (List (Option Int))):("field " : Str) ++ Str.join ⟨#[59]⟩ (F.map lineOf)=lineF F:=field_line F
def spBegun:Sp:=fun vs H Q _=>∃ (d:Addr),vs=[.ref d]∧Seed H d ∧
 ∀ (fv wv rv sv:V) (D:Dsk) (p p1 p2:Addr) (H':Hp),DskOk D→D.b ≤ 1000→H' p=some (.lst [.ref p1,.ref p2])→H' p1=some (.lst [fv,wv,rv,sv])→H' p2=some (.lst ((beginsL D).map V.str))→VsAt H' fv wv rv sv D→Seed H' d→KeepBut d H H'→Q (.ref p) H'
theorem df_law_begun (T:Txt K mg C):Df P w K mg base 4 "_law_begun" ["seed"] spBegun:=by
 refine T.d_law_begun.ok sc_law_begun (fun vs H Q E h=>?_) (fun f cdv A outer s H vs Q E hr h=>?_)
 ·obtain ⟨d,rfl,_⟩:=h
  rfl
 ·obtain ⟨d,rfl,S,q⟩:=h
  refine ⟨_,(@pss_cons _ _ _ _ _ (@ps_asg _ _ _ _ _ _ (@pe_df _ _ _ _ _ _ _ _ _ _ (df_law_sizes T) (hr.mono (by decide)) (@pa_cons _ _ _ _ _ (pv 0) pa_nil (by rfl)) (by rfl) (by decide) (by rfl) (by rfl)) (pg_lstK (K:=K) rfl rfl (pgs_cons (pg_name (i:=1) sc_law_begun.nd rfl (by first | exact Or.inl rfl | exact Or.inr rfl)) (pgs_cons (pg_name (i:=2) sc_law_begun.nd rfl (by first | exact Or.inl rfl | exact Or.inr rfl)) pgs_nil))) (by rfl) (by rfl) (by rfl))
   (@pss_cons _ _ _ _ _ (@ps_set _ _ 3 _ _ _ _ sc_law_begun.nd rfl (by first | exact Or.inl rfl | exact Or.inr rfl) (@pe_df _ _ _ _ _ _ _ _ _ _ (df_law_field T) (hr.mono (by decide)) (@pa_cons _ _ _ _ _ (pv 0) (@pa_cons _ _ _ _ _ (pv 1) (@pa_cons _ _ _ _ _ (pv 2) (@pa_cons _ _ _ _ _ (@pe_df _ _ _ _ _ _ _ _ _ _ (df_law_draw T) (hr.mono (by decide)) (@pa_cons _ _ _ _ _ (pv 0) (@pa_cons _ _ _ _ _ pe_int pa_nil (by rfl)) (by rfl)) (by rfl) (by decide) (by rfl) (by rfl)) pa_nil star_call) (by rfl)) (by rfl)) (by rfl)) (by rfl) (by decide) (by rfl) (by rfl)) (by rfl) (by first | exact .inl rfl | exact .inr rfl))
   (@pss_cons _ _ _ _ _ (@ps_set _ _ 4 _ _ _ _ sc_law_begun.nd rfl (by first | exact Or.inl rfl | exact Or.inr rfl) (@pe_df _ _ _ _ _ _ _ _ _ _ (df_law_cut T) (hr.mono (by decide)) (@pa_cons _ _ _ _ _ (@pe_df _ _ _ _ _ _ _ _ _ _ (df_law_window T) (hr.mono (by decide)) (@pa_cons _ _ _ _ _ (pv 0) pa_nil (by rfl)) (by rfl) (by decide) (by rfl) (by rfl)) (@pa_cons _ _ _ _ _ (pv 3) pa_nil (by rfl)) star_call) (by rfl) (by decide) (by rfl) (by rfl)) (by rfl) (by first | exact .inl rfl | exact .inr rfl))
   (@pss_cons _ _ _ _ _ (@ps_set _ _ 5 _ _ _ _ sc_law_begun.nd rfl (by first | exact Or.inl rfl | exact Or.inr rfl) (@pe_df _ _ _ _ _ _ _ _ _ _ (df_law_rule T) (hr.mono (by decide)) (@pa_cons _ _ _ _ _ (pv 0) pa_nil (by rfl)) (by rfl) (by decide) (by rfl) (by rfl)) (by rfl) (by first | exact .inl rfl | exact .inr rfl))
   (@pss_cons _ _ _ _ _ (@ps_set _ _ 6 _ _ _ _ sc_law_begun.nd rfl (by first | exact Or.inl rfl | exact Or.inr rfl) (@pe_df _ _ _ _ _ _ _ _ _ _ (df_law_share T) (hr.mono (by decide)) (@pa_cons _ _ _ _ _ (pv 0) pa_nil (by rfl)) (by rfl) (by decide) (by rfl) (by rfl)) (by rfl) (by first | exact .inl rfl | exact .inr rfl))
   (@pss_cons _ _ _ _ _ (@ps_set _ _ 7 _ _ _ _ sc_law_begun.nd rfl (by first | exact Or.inl rfl | exact Or.inr rfl) (@pe_lst _ _ _ _ (@pa_cons _ _ _ _ _ (@pe_op _ _ _ _ _ _ _ _ op_add_str pe_str (pe_bmK (K:=K) rfl PySem.F.plainAttrs_str PySem.F.slot_str_join PySem.F.type_str_join (mt_joinK (K:=K) rfl) pe_str (@pa_cons _ _ _ _ _ (@pe_df _ _ _ _ _ _ _ _ _ _ (df_law_lines T) (hr.mono (by decide)) (@pa_cons _ _ _ _ _ (pv 3) pa_nil (by rfl)) (by rfl) (by decide) (by rfl) (by rfl)) pa_nil star_call))) (@pa_cons _ _ _ _ _ (@pe_op _ _ _ _ _ _ _ _ op_add_str pe_str (pe_bmK (K:=K) rfl PySem.F.plainAttrs_str PySem.F.slot_str_join PySem.F.type_str_join (mt_joinK (K:=K) rfl) pe_str (@pa_cons _ _ _ _ _ (pe_compIf (M:=[]) (idx:=[]) rfl (pi_seqK (K:=K) rfl (pv 4)) (compOk (by kernel_rfl)) (by decide +kernel) (by first | exact Or.inl rfl | exact Or.inr rfl) (fun _ _ _ _ _=>pts_nil) (fun _ _ _ _ _=>(pe_fstr1 (pe_fv (pv 0))))) pa_nil star_comp))) pa_nil star_bin) star_bin)) (by rfl) (by first | exact .inl rfl | exact .inr rfl))
   (@pss_cons _ _ _ _ _ (@ps_set _ _ 7 _ _ _ _ sc_law_begun.nd rfl (by first | exact Or.inl rfl | exact Or.inr rfl) (@pe_op _ _ _ _ _ _ _ _ op_cat (pv 7) (@pe_lst _ _ _ _ (@pa_cons _ _ _ _ _ (@pe_df _ _ _ _ _ _ _ _ _ _ (df_law_edge T) (hr.mono (by decide)) (@pa_cons _ _ _ _ _ (pv 5) pa_nil (by rfl)) (by rfl) (by decide) (by rfl) (by rfl)) (@pa_cons _ _ _ _ _ (@pe_op _ _ _ _ _ _ _ _ op_add_str pe_str (pe_bmK (K:=K) rfl PySem.F.plainAttrs_str PySem.F.slot_str_join PySem.F.type_str_join (mt_joinK (K:=K) rfl) pe_str (@pa_cons _ _ _ _ _ (pe_compIf (M:=[]) (idx:=[]) rfl (pi_seqK (K:=K) rfl (pv 6)) (compOk (by kernel_rfl)) (by decide +kernel) (by first | exact Or.inl rfl | exact Or.inr rfl) (fun _ _ _ _ _=>pts_nil) (fun _ _ _ _ _=>(pe_fstr1 (pe_fv (pv 0))))) pa_nil star_comp))) pa_nil star_bin) star_call))) (by rfl) (by first | exact .inl rfl | exact .inr rfl))
   (@pss_one _ _ _ (@ps_ret _ _ _ _ (@pe_lst _ _ _ _ (@pa_cons _ _ _ _ _ (@pe_lst _ _ _ _ (@pa_cons _ _ _ _ _ (pv 3) (@pa_cons _ _ _ _ _ (pv 4) (@pa_cons _ _ _ _ _ (pv 5) (@pa_cons _ _ _ _ _ (pv 6) pa_nil (by rfl)) (by rfl)) (by rfl)) (by rfl))) (@pa_cons _ _ _ _ _ (pv 7) pa_nil (by rfl)) star_lst))))))))))),?_⟩
  refine ⟨_,rfl,_,rfl,S,fun ps hh wd H1 hps h1 h12 w1 w12 S1 k1=>?_⟩
  refine ⟨_,_,rfl,SqL.of hps,rfl,_,_,rfl,_,_,rfl,rfl,?_⟩
  refine ⟨_,rfl,_,rfl,_,rfl,_,rfl,_,_,rfl,S1,(by decide),(by decide),fun ho H2 a1 b1 S2 k2=>?_⟩
  refine ⟨_,_,_,_,rfl,S2,h1,h12,w1,w12,fun fv F H3 hfv R lF lW c9 S3 k3=>?_⟩
  dsimp only [gName,List.set]
  refine ⟨_,rfl,_,rfl,S3,fun wt u dn l r H4 bu bd bl br hwt S4 k4=>?_⟩
  have kt4:KeepT H3 H4:=k4.tups S3.lst.choose_spec
  refine ⟨_,rfl,.ref wt,fv,F,u,dn,l,r,rfl,R,hfv.keep kt4,isWin hwt,⟨bu,bd,bl,br⟩,fun wv u dn l r H5 s5 hwv bb=>?_⟩
  have S5:=S4.keep s5
  refine ⟨_,rfl,_,rfl,S5,fun rv ru H6 hru rc S6 k6=>?_⟩
  have kt6:KeepT H5 H6:=k6.tups S5.lst.choose_spec
  refine ⟨_,rfl,_,rfl,S6,fun sv a b H7 hsv hSh hb S7 k7=>?_⟩
  have kt7:KeepT H6 H7:=k7.tups S6.lst.choose_spec
  have ok:DskOk ⟨F,ru,u,dn,l,r,a,b⟩:=⟨R,rc,by show F.length ≤ 12;omega,by show (F.headD []).length ≤ 12;omega,c9,hSh,bb⟩
  have at7:VsAt H7 fv wv rv sv ⟨F,ru,u,dn,l,r,a,b⟩:=⟨(((hfv.keep kt4).keep s5.tups).keep kt6).keep kt7,(hwv.keep kt6).keep kt7,hru.keep kt7,hsv⟩
  have K7:KeepBut d H H7:=(((((k1.trans k2).trans k3).trans k4).trans (s5.but d)).trans k6).trans k7
  dsimp only [gName,List.set]
  refine ⟨rfl,_,rfl,fv,F,rfl,at7.f_,ok.rectW,fun l8 H8 s8 f8 h8=>?_⟩
  refine ⟨_,_,F.map lineOf,rfl,rfl,SqL.of (by rw [h8,List.map_map]),rows_len ok.rectW,?_⟩
  rw [str_semi,tjoin]
  refine ⟨_,_,rfl,rfl,lineF_fits ok.rectW,?_⟩
  rw [lineF_is]
  have at8:=at7.keep s8.tups
  obtain ⟨wa,rfl,hwa⟩:=isWin_inv at8.w_
  have w4:∀ n∈[(u:Int),(dn:Int),(l:Int),(r:Int)],Wide n:=fun n hn=>by
   simp only [List.mem_cons,List.not_mem_nil,or_false] at hn
   unfold Wide
   omega
  refine join_nums 4 (ns:=[(u:Int),(dn:Int),(l:Int),(r:Int)]) rfl hwa (Nat.le_refl 4) (by decide +kernel) w4 fun H9 s9=>?_
  rw [win_line _ (by simp)]
  refine ⟨(by show 2≤sizeLine;decide),fun p10 hp10=>?_⟩
  have s10:=same_upd (o:=.lst [V.str (lineF F),V.str (joinW ("window" :: [(u:Int),(dn:Int),(l:Int),(r:Int)].map fun n=>wordOf (some n)))]) hp10
  have e10:upd H9 p10 (.lst [V.str (lineF F),V.str (joinW ("window" :: [(u:Int),(dn:Int),(l:Int),(r:Int)].map fun n=>wordOf (some n)))]) p10=_:=upd_same
  generalize upd H9 p10 (.lst [V.str (lineF F),V.str (joinW ("window" :: [(u:Int),(dn:Int),(l:Int),(r:Int)].map fun n=>wordOf (some n)))])=H10 at s10 e10 ⊢
  have at10:=at8.keep (s9.trans s10).tups
  dsimp only [gName,List.set]
  refine ⟨_,rfl,?_⟩
  refine ⟨_,rfl,_,ru,rfl,at10.r_,rc,?_⟩
  obtain ⟨sa,rfl,hsa⟩:=isPlace_inv at10.s_
  have w2:∀ n∈[a,b],Wide n:=fun n hn=>by
   obtain ⟨x1,x2,x3,x4⟩:=hSh
   simp only [List.mem_cons,List.not_mem_nil,or_false] at hn
   unfold Wide
   omega
  refine join_nums 6 (ns:=[a,b]) rfl hsa (by show 2≤4;decide) (by decide +kernel) w2 fun H11 s11=>?_
  rw [share_line _ (by simp)]
  refine ⟨(by show 2≤sizeLine;decide),fun p12 hp12=>?_⟩
  have s12:=same_upd (o:=.lst [V.str (joinW ("edge" :: ruleW ru)),V.str (joinW ("share" :: [a,b].map fun n=>wordOf (some n)))]) hp12
  refine ⟨_,_,_,_,rfl,rfl,s12 _ _ (s11 _ _ e10),upd_same,(by show 4≤sizeLine;decide),fun p13 hp13=>?_⟩
  have s13:=same_upd (o:=.lst ((beginsL ⟨F,ru,u,dn,l,r,a,b⟩).map V.str)) hp13
  have S13:=(((((s8.trans s9).trans s10).trans s11).trans s12).trans s13)
  dsimp only [gName,List.set]
  refine ⟨_,rfl,_,rfl,_,rfl,_,rfl,(by show 4≤sizeLine;decide),fun p14 hp14=>?_⟩
  have s14:=same_upd (o:=.lst [fv,V.ref wa,rv,V.ref sa]) hp14
  refine ⟨_,rfl,(by show 2≤sizeLine;decide),fun p15 hp15=>?_⟩
  have s15:=same_upd (o:=.lst [.ref p14,.ref p13]) hp15
  have S15:=(S13.trans s14).trans s15
  exact q _ _ _ _ _ _ p14 p13 _ ok hb upd_same (s15 _ _ upd_same) (s15 _ _ (s14 _ _ upd_same)) (at7.keep S15.tups) (S7.keep S15) (K7.trans (S15.but d))
theorem app_len (a b:Str):(a ++ b).length=a.length + b.length:=by
 show (a.cps ++ b.cps).size=a.cps.size + b.cps.size
 exact Array.size_append
def Deeds (D:Dsk)(line:Str)(D':Dsk):Prop:=(∃ F,line=lineF F∧D'={ D with F:=F }∧DskOk D') ∨ (∃ δ,line=joinW ((deedW δ).1 :: (deedW δ).2)∧deedOk D δ∧D'=deedTo D δ)
def spDeed:Sp:=fun vs H Q _=>∃ (d p1:Addr) (fv wv rv sv:V) (D:Dsk),vs=[.ref d,.ref p1]∧Seed H d∧H p1=some (.lst [fv,wv,rv,sv])∧VsAt H fv wv rv sv D∧DskOk D ∧
 ∀ (line:Str) (D':Dsk) (p p2:Addr) (fv' wv' rv' sv':V) (H':Hp),Deeds D line D'→DskOk D'→H' p=some (.lst [.str line,.ref p2])→H' p2=some (.lst [fv',wv',rv',sv'])→VsAt H' fv' wv' rv' sv' D'→Seed H' d→KeepBut d H H'→Q (.ref p) H'
theorem df_law_deed (T:Txt K mg C):Df P w K mg base 4 "_law_deed" ["seed","state"] spDeed:=by
 refine T.d_law_deed.ok sc_law_deed (fun vs H Q E h=>?_) (fun f cdv A outer s H vs Q E hr h=>?_)
 ·obtain ⟨d,p1,fv,wv,rv,sv,D,rfl,_⟩:=h
  rfl
 ·obtain ⟨d,p1,fv,wv,rv,sv,D,rfl,S,hp1,at0,ok,q⟩:=h
  refine ⟨_,(@pss_cons _ _ _ _ _ (@ps_asg _ _ _ _ _ _ (pv 1) (pg_lstK (K:=K) rfl rfl (pgs_cons (pg_name (i:=2) sc_law_deed.nd rfl (by first | exact Or.inl rfl | exact Or.inr rfl)) (pgs_cons (pg_name (i:=3) sc_law_deed.nd rfl (by first | exact Or.inl rfl | exact Or.inr rfl)) (pgs_cons (pg_name (i:=4) sc_law_deed.nd rfl (by first | exact Or.inl rfl | exact Or.inr rfl)) (pgs_cons (pg_name (i:=5) sc_law_deed.nd rfl (by first | exact Or.inl rfl | exact Or.inr rfl)) pgs_nil))))) (by rfl) (by rfl) (by rfl))
   (@pss_cons _ _ _ _ _ (@ps_set _ _ 6 _ _ _ _ sc_law_deed.nd rfl (by first | exact Or.inl rfl | exact Or.inr rfl) (@pe_df _ _ _ _ _ _ _ _ _ _ (df_law_draw T) (hr.mono (by decide)) (@pa_cons _ _ _ _ _ (pv 0) (@pa_cons _ _ _ _ _ pe_int pa_nil (by rfl)) (by rfl)) (by rfl) (by decide) (by rfl) (by rfl)) (by rfl) (by first | exact .inl rfl | exact .inr rfl))
   (@pss_cons _ _ _ _ _ (@ps_if _ _ _ _ _ _ _ _ (@pt_cmpR _ _ _ _ _ _ _ _ (op_eqA hr.units) (pv 6) pe_int (nomark _)) (@pss_cons _ _ _ _ _ (@ps_set _ _ 7 _ _ _ _ sc_law_deed.nd rfl (by first | exact Or.inl rfl | exact Or.inr rfl) (@pe_df _ _ _ _ _ _ _ _ _ _ (df_law_field T) (hr.mono (by decide)) (@pa_cons _ _ _ _ _ (pv 0) (@pa_cons _ _ _ _ _ (@pe_op _ _ _ _ _ _ _ _ op_add pe_int (@pe_df _ _ _ _ _ _ _ _ _ _ (df_law_draw T) (hr.mono (by decide)) (@pa_cons _ _ _ _ _ (pv 0) (@pa_cons _ _ _ _ _ pe_int pa_nil (by rfl)) (by rfl)) (by rfl) (by decide) (by rfl) (by rfl))) (@pa_cons _ _ _ _ _ (@pe_op _ _ _ _ _ _ _ _ op_add pe_int (@pe_df _ _ _ _ _ _ _ _ _ _ (df_law_draw T) (hr.mono (by decide)) (@pa_cons _ _ _ _ _ (pv 0) (@pa_cons _ _ _ _ _ pe_int pa_nil (by rfl)) (by rfl)) (by rfl) (by decide) (by rfl) (by rfl))) (@pa_cons _ _ _ _ _ (@pe_df _ _ _ _ _ _ _ _ _ _ (df_law_draw T) (hr.mono (by decide)) (@pa_cons _ _ _ _ _ (pv 0) (@pa_cons _ _ _ _ _ pe_int pa_nil (by rfl)) (by rfl)) (by rfl) (by decide) (by rfl) (by rfl)) pa_nil star_call) star_bin) star_bin) (by rfl)) (by rfl) (by decide) (by rfl) (by rfl)) (by rfl) (by first | exact .inl rfl | exact .inr rfl))
   (@pss_one _ _ _ (@ps_ret _ _ _ _ (@pe_lst _ _ _ _ (@pa_cons _ _ _ _ _ (@pe_op _ _ _ _ _ _ _ _ op_add_str pe_str (pe_bmK (K:=K) rfl PySem.F.plainAttrs_str PySem.F.slot_str_join PySem.F.type_str_join (mt_joinK (K:=K) rfl) pe_str (@pa_cons _ _ _ _ _ (@pe_df _ _ _ _ _ _ _ _ _ _ (df_law_lines T) (hr.mono (by decide)) (@pa_cons _ _ _ _ _ (pv 7) pa_nil (by rfl)) (by rfl) (by decide) (by rfl) (by rfl)) pa_nil star_call))) (@pa_cons _ _ _ _ _ (@pe_lst _ _ _ _ (@pa_cons _ _ _ _ _ (pv 7) (@pa_cons _ _ _ _ _ (pv 3) (@pa_cons _ _ _ _ _ (pv 4) (@pa_cons _ _ _ _ _ (pv 5) pa_nil (by rfl)) (by rfl)) (by rfl)) (by rfl))) pa_nil star_lst) star_bin))))) pss_nil)
   (@pss_cons _ _ _ _ _ (@ps_if _ _ _ _ _ _ _ _ (@pt_cmpR _ _ _ _ _ _ _ _ (op_eqA hr.units) (pv 6) pe_int (nomark _)) (@pss_cons _ _ _ _ _ (@ps_set _ _ 3 _ _ _ _ sc_law_deed.nd rfl (by first | exact Or.inl rfl | exact Or.inr rfl) (@pe_df _ _ _ _ _ _ _ _ _ _ (df_law_cut T) (hr.mono (by decide)) (@pa_cons _ _ _ _ _ (@pe_df _ _ _ _ _ _ _ _ _ _ (df_law_window T) (hr.mono (by decide)) (@pa_cons _ _ _ _ _ (pv 0) pa_nil (by rfl)) (by rfl) (by decide) (by rfl) (by rfl)) (@pa_cons _ _ _ _ _ (pv 2) pa_nil (by rfl)) star_call) (by rfl) (by decide) (by rfl) (by rfl)) (by rfl) (by first | exact .inl rfl | exact .inr rfl))
   (@pss_one _ _ _ (@ps_ret _ _ _ _ (@pe_lst _ _ _ _ (@pa_cons _ _ _ _ _ (@pe_op _ _ _ _ _ _ _ _ op_add_str pe_str (pe_bmK (K:=K) rfl PySem.F.plainAttrs_str PySem.F.slot_str_join PySem.F.type_str_join (mt_joinK (K:=K) rfl) pe_str (@pa_cons _ _ _ _ _ (pe_compIf (M:=[]) (idx:=[]) rfl (pi_seqK (K:=K) rfl (pv 3)) (compOk (by kernel_rfl)) (by decide +kernel) (by first | exact Or.inl rfl | exact Or.inr rfl) (fun _ _ _ _ _=>pts_nil) (fun _ _ _ _ _=>(pe_fstr1 (pe_fv (pv 0))))) pa_nil star_comp))) (@pa_cons _ _ _ _ _ (@pe_lst _ _ _ _ (@pa_cons _ _ _ _ _ (pv 2) (@pa_cons _ _ _ _ _ (pv 3) (@pa_cons _ _ _ _ _ (pv 4) (@pa_cons _ _ _ _ _ (pv 5) pa_nil (by rfl)) (by rfl)) (by rfl)) (by rfl))) pa_nil star_lst) star_bin))))) pss_nil)
   (@pss_cons _ _ _ _ _ (@ps_if _ _ _ _ _ _ _ _ (@pt_cmpR _ _ _ _ _ _ _ _ (op_eqA hr.units) (pv 6) pe_int (nomark _)) (@pss_cons _ _ _ _ _ (@ps_set _ _ 4 _ _ _ _ sc_law_deed.nd rfl (by first | exact Or.inl rfl | exact Or.inr rfl) (@pe_df _ _ _ _ _ _ _ _ _ _ (df_law_rule T) (hr.mono (by decide)) (@pa_cons _ _ _ _ _ (pv 0) pa_nil (by rfl)) (by rfl) (by decide) (by rfl) (by rfl)) (by rfl) (by first | exact .inl rfl | exact .inr rfl))
   (@pss_one _ _ _ (@ps_ret _ _ _ _ (@pe_lst _ _ _ _ (@pa_cons _ _ _ _ _ (@pe_df _ _ _ _ _ _ _ _ _ _ (df_law_edge T) (hr.mono (by decide)) (@pa_cons _ _ _ _ _ (pv 4) pa_nil (by rfl)) (by rfl) (by decide) (by rfl) (by rfl)) (@pa_cons _ _ _ _ _ (@pe_lst _ _ _ _ (@pa_cons _ _ _ _ _ (pv 2) (@pa_cons _ _ _ _ _ (pv 3) (@pa_cons _ _ _ _ _ (pv 4) (@pa_cons _ _ _ _ _ (pv 5) pa_nil (by rfl)) (by rfl)) (by rfl)) (by rfl))) pa_nil star_lst) star_call))))) pss_nil)
   (@pss_cons _ _ _ _ _ (@ps_if _ _ _ _ _ _ _ _ (@pt_cmpR _ _ _ _ _ _ _ _ (op_eqA hr.units) (pv 6) pe_int (nomark _)) (@pss_cons _ _ _ _ _ (@ps_set _ _ 5 _ _ _ _ sc_law_deed.nd rfl (by first | exact Or.inl rfl | exact Or.inr rfl) (@pe_df _ _ _ _ _ _ _ _ _ _ (df_law_share T) (hr.mono (by decide)) (@pa_cons _ _ _ _ _ (pv 0) pa_nil (by rfl)) (by rfl) (by decide) (by rfl) (by rfl)) (by rfl) (by first | exact .inl rfl | exact .inr rfl))
   (@pss_one _ _ _ (@ps_ret _ _ _ _ (@pe_lst _ _ _ _ (@pa_cons _ _ _ _ _ (@pe_op _ _ _ _ _ _ _ _ op_add_str pe_str (pe_bmK (K:=K) rfl PySem.F.plainAttrs_str PySem.F.slot_str_join PySem.F.type_str_join (mt_joinK (K:=K) rfl) pe_str (@pa_cons _ _ _ _ _ (pe_compIf (M:=[]) (idx:=[]) rfl (pi_seqK (K:=K) rfl (pv 5)) (compOk (by kernel_rfl)) (by decide +kernel) (by first | exact Or.inl rfl | exact Or.inr rfl) (fun _ _ _ _ _=>pts_nil) (fun _ _ _ _ _=>(pe_fstr1 (pe_fv (pv 0))))) pa_nil star_comp))) (@pa_cons _ _ _ _ _ (@pe_lst _ _ _ _ (@pa_cons _ _ _ _ _ (pv 2) (@pa_cons _ _ _ _ _ (pv 3) (@pa_cons _ _ _ _ _ (pv 4) (@pa_cons _ _ _ _ _ (pv 5) pa_nil (by rfl)) (by rfl)) (by rfl)) (by rfl))) pa_nil star_lst) star_bin))))) pss_nil)
   (@pss_cons _ _ _ _ _ (@ps_if _ _ _ _ _ _ _ _ (@pt_cmpR _ _ _ _ _ _ _ _ (op_eqA hr.units) (pv 6) pe_int (nomark _)) (@pss_one _ _ _ (@ps_ret _ _ _ _ (@pe_lst _ _ _ _ (@pa_cons _ _ _ _ _ pe_str (@pa_cons _ _ _ _ _ (@pe_lst _ _ _ _ (@pa_cons _ _ _ _ _ (@pe_df _ _ _ _ _ _ _ _ _ _ (df_law_filtered T) (hr.mono (by decide)) (@pa_cons _ _ _ _ _ (pv 2) (@pa_cons _ _ _ _ _ (pv 3) (@pa_cons _ _ _ _ _ (pv 4) (@pa_cons _ _ _ _ _ (pv 5) pa_nil (by rfl)) (by rfl)) (by rfl)) (by rfl)) (by rfl) (by decide) (by rfl) (by rfl)) (@pa_cons _ _ _ _ _ (pv 3) (@pa_cons _ _ _ _ _ (pv 4) (@pa_cons _ _ _ _ _ (pv 5) pa_nil (by rfl)) (by rfl)) (by rfl)) star_call)) pa_nil star_lst) (by rfl))))) pss_nil)
   (@pss_cons _ _ _ _ _ (@ps_set _ _ 8 _ _ _ _ sc_law_deed.nd rfl (by first | exact Or.inl rfl | exact Or.inr rfl) (@pe_df _ _ _ _ _ _ _ _ _ _ (df_law_draw T) (hr.mono (by decide)) (@pa_cons _ _ _ _ _ (pv 0) (@pa_cons _ _ _ _ _ (@pe_callB _ _ _ _ _ _ _ _ _ (call_lenK (K:=K) rfl) (by rfl) T.n_len bt_len (@pa_cons _ _ _ _ _ (pv 2) pa_nil (by rfl)) (by decide) (by decide) (by rfl) (by rfl)) pa_nil star_call) (by rfl)) (by rfl) (by decide) (by rfl) (by rfl)) (by rfl) (by first | exact .inl rfl | exact .inr rfl))
   (@pss_cons _ _ _ _ _ (@ps_set _ _ 9 _ _ _ _ sc_law_deed.nd rfl (by first | exact Or.inl rfl | exact Or.inr rfl) (@pe_df _ _ _ _ _ _ _ _ _ _ (df_law_draw T) (hr.mono (by decide)) (@pa_cons _ _ _ _ _ (pv 0) (@pa_cons _ _ _ _ _ (@pe_callB _ _ _ _ _ _ _ _ _ (call_lenK (K:=K) rfl) (by rfl) T.n_len bt_len (@pa_cons _ _ _ _ _ (@pe_ix _ _ _ _ _ _ _ (ix_seqK (K:=K) rfl) (pv 2) pe_int (fun _ _=>rfl)) pa_nil star_sub) (by decide) (by decide) (by rfl) (by rfl)) pa_nil star_call) (by rfl)) (by rfl) (by decide) (by rfl) (by rfl)) (by rfl) (by first | exact .inl rfl | exact .inr rfl))
   (@pss_cons _ _ _ _ _ (@ps_set _ _ 10 _ _ _ _ sc_law_deed.nd rfl (by first | exact Or.inl rfl | exact Or.inr rfl) (@pe_df _ _ _ _ _ _ _ _ _ _ (df_law_number T) (hr.mono (by decide)) (@pa_cons _ _ _ _ _ (pv 0) (@pa_cons _ _ _ _ _ (@pe_df _ _ _ _ _ _ _ _ _ _ (df_law_draw T) (hr.mono (by decide)) (@pa_cons _ _ _ _ _ (pv 0) (@pa_cons _ _ _ _ _ pe_int pa_nil (by rfl)) (by rfl)) (by rfl) (by decide) (by rfl) (by rfl)) pa_nil star_call) (by rfl)) (by rfl) (by decide) (by rfl) (by rfl)) (by rfl) (by first | exact .inl rfl | exact .inr rfl))
   (@pss_cons _ _ _ _ _ (@ps_if _ _ _ _ _ _ _ _ (@pt_cmpR _ _ _ _ _ _ _ _ (op_eqA hr.units) (@pe_df _ _ _ _ _ _ _ _ _ _ (df_law_draw T) (hr.mono (by decide)) (@pa_cons _ _ _ _ _ (pv 0) (@pa_cons _ _ _ _ _ pe_int pa_nil (by rfl)) (by rfl)) (by rfl) (by decide) (by rfl) (by rfl)) pe_int (nomark _)) (@pss_one _ _ _ (@ps_set _ _ 10 _ _ _ _ sc_law_deed.nd rfl (by first | exact Or.inl rfl | exact Or.inr rfl) pe_non (by rfl) (by first | exact .inl rfl | exact .inr rfl))) pss_nil)
   (@pss_cons _ _ _ _ _ (@ps_set _ _ 11 _ _ _ _ sc_law_deed.nd rfl (by first | exact Or.inl rfl | exact Or.inr rfl) (@pe_op _ _ _ _ _ _ _ _ op_catTA (@pe_op _ _ _ _ _ _ _ _ op_catTA (pe_slice (sl_X (K:=K) rfl) (@pe_ix _ _ _ _ _ _ _ (ix_seqK (K:=K) rfl) (pv 2) (pv 8) (fun _ _=>rfl)) po_none (po_some (pv 9))) (@pe_tup _ _ _ _ _ (@pa_cons _ _ _ _ _ (pv 10) pa_nil (by rfl)))) (pe_slice (sl_X (K:=K) rfl) (@pe_ix _ _ _ _ _ _ _ (ix_seqK (K:=K) rfl) (pv 2) (pv 8) (fun _ _=>rfl)) (po_some (@pe_op _ _ _ _ _ _ _ _ op_add (pv 9) pe_int)) po_none)) (by rfl) (by first | exact .inl rfl | exact .inr rfl))
   (@pss_cons _ _ _ _ _ (@ps_set _ _ 12 _ _ _ _ sc_law_deed.nd rfl (by first | exact Or.inl rfl | exact Or.inr rfl) (@pe_op _ _ _ _ _ _ _ _ op_catTA (@pe_op _ _ _ _ _ _ _ _ op_catTA (pe_slice (sl_X (K:=K) rfl) (pv 2) po_none (po_some (pv 8))) (@pe_tup _ _ _ _ _ (@pa_cons _ _ _ _ _ (pv 11) pa_nil (by rfl)))) (pe_slice (sl_X (K:=K) rfl) (pv 2) (po_some (@pe_op _ _ _ _ _ _ _ _ op_add (pv 8) pe_int)) po_none)) (by rfl) (by first | exact .inl rfl | exact .inr rfl))
   (@pss_one _ _ _ (@ps_ret _ _ _ _ (@pe_lst _ _ _ _ (@pa_cons _ _ _ _ _ (@pe_op _ _ _ _ _ _ _ _ op_add_str (pe_fstr (pj_cons pe_str (pj_cons (pe_fv (pv 8)) (pj_cons pe_str (pj_cons (pe_fv (pv 9)) (pj_cons pe_str pj_nil)))))) (@pe_df _ _ _ _ _ _ _ _ _ _ (df_law_word T) (hr.mono (by decide)) (@pa_cons _ _ _ _ _ (pv 10) pa_nil (by rfl)) (by rfl) (by decide) (by rfl) (by rfl))) (@pa_cons _ _ _ _ _ (@pe_lst _ _ _ _ (@pa_cons _ _ _ _ _ (pv 12) (@pa_cons _ _ _ _ _ (pv 3) (@pa_cons _ _ _ _ _ (pv 4) (@pa_cons _ _ _ _ _ (pv 5) pa_nil (by rfl)) (by rfl)) (by rfl)) (by rfl))) pa_nil star_lst) star_bin))))))))))))))))),?_⟩
  have fh:=ok.fh;have fw:=ok.fw;have Fh1:=ok.rect.h1;have Fw1:=ok.rect.w1
  refine ⟨_,rfl,_,_,rfl,SqL.of hp1,rfl,_,_,rfl,_,_,rfl,_,_,rfl,_,_,rfl,rfl,?_⟩
  refine ⟨_,rfl,_,_,rfl,S,(by decide),(by decide),fun way H1 y0 y1 S1 k1=>?_⟩
  have kt1:KeepT H H1:=k1.tups S.lst.choose_spec
  have at1:=at0.keep kt1
  dsimp only [gName,List.set]
  refine ⟨_,rfl,Or.inl ⟨rfl,_,rfl,ite2 (fun _=>?_) (fun _=>?_)⟩⟩
  ·-- another field
   refine ⟨_,rfl,_,rfl,_,_,rfl,S1,(by decide),(by decide),fun hh H2 a2 b2 S2 k2=>?_⟩
   refine ⟨_,_,rfl,rfl,_,rfl,_,_,rfl,S2,(by decide),(by decide),fun wd H3 a3 b3 S3 k3=>?_⟩
   refine ⟨_,_,rfl,rfl,_,rfl,_,_,rfl,S3,(by decide),(by decide),fun ho H4 a4 b4 S4 k4=>?_⟩
   refine ⟨_,_,_,_,rfl,S4,by omega,by omega,by omega,by omega,fun gv F H5 hgv R lF lW c9 S5 k5=>?_⟩
   have K5:KeepBut d H1 H5:=((k2.trans k3).trans k4).trans k5
   have at5:=at1.keep (K5.tups S1.lst.choose_spec)
   dsimp only [gName,List.set]
   have ok':DskOk { D with F:=F }:=⟨R,ok.rc,by show F.length ≤ 12;omega,by show (F.headD []).length ≤ 12;omega,c9,ok.sh,ok.bb⟩
   refine ⟨rfl,_,rfl,gv,F,rfl,hgv,ok'.rectW,fun l6 H6 s6 f6 h6=>?_⟩
   refine ⟨_,_,F.map lineOf,rfl,rfl,SqL.of (by rw [h6,List.map_map]),rows_len ok'.rectW,?_⟩
   rw [str_semi,tjoin]
   refine ⟨_,_,rfl,rfl,lineF_fits ok'.rectW,?_⟩
   rw [lineF_is]
   refine ⟨_,rfl,_,rfl,_,rfl,_,rfl,(by show 4≤sizeLine;decide),fun p7 hp7=>⟨(by show 2≤sizeLine;decide),fun p8 hp8=>?_⟩⟩
   have s7:=same_upd (o:=.lst [gv,wv,rv,sv]) hp7
   have s8:=same_upd (o:=.lst [.str (lineF F),.ref p7]) hp8
   have S8:=(s6.trans s7).trans s8
   have at8:=at5.keep S8.tups
   exact q _ _ p8 p7 _ _ _ _ _ (.inl ⟨F,rfl,rfl,ok'⟩) ok' upd_same (s8 _ _ upd_same) ⟨hgv.keep S8.tups,at8.w_,at8.r_,at8.s_⟩ (S5.keep S8) ((k1.trans K5).trans (S8.but d))
  refine ⟨_,rfl,Or.inl ⟨rfl,_,rfl,ite2 (fun _=>?_) (fun _=>?_)⟩⟩
  ·-- a window
   refine ⟨_,rfl,_,rfl,S1,fun wt u dn l r H4 bu bd bl br hwt S4 k4=>?_⟩
   have kt4:KeepT H1 H4:=k4.tups S1.lst.choose_spec
   have at4:=at1.keep kt4
   refine ⟨_,rfl,.ref wt,fv,D.F,u,dn,l,r,rfl,ok.rect,at4.f_,isWin hwt,⟨bu,bd,bl,br⟩,fun wv' u dn l r H5 s5 hwv bb=>?_⟩
   have at5:=at4.keep s5.tups
   dsimp only [gName,List.set]
   obtain ⟨wa,rfl,hwa⟩:=isWin_inv hwv
   have w4:∀ n∈[(u:Int),(dn:Int),(l:Int),(r:Int)],Wide n:=fun n hn=>by
    simp only [List.mem_cons,List.not_mem_nil,or_false] at hn
    unfold Wide
    omega
   dsimp only [tRet,tLst]
   refine join_nums 3 (ns:=[(u:Int),(dn:Int),(l:Int),(r:Int)]) rfl hwa (Nat.le_refl 4) (by decide +kernel) w4 fun H6 s6=>?_
   rw [win_line _ (by simp)]
   refine ⟨_,rfl,_,rfl,_,rfl,_,rfl,(by show 4≤sizeLine;decide),fun p7 hp7=>⟨(by show 2≤sizeLine;decide),fun p8 hp8=>?_⟩⟩
   have s7:=same_upd (o:=.lst [fv,.ref wa,rv,sv]) hp7
   have s8:=same_upd (o:=.lst [.str (joinW ("window" :: [(u:Int),(dn:Int),(l:Int),(r:Int)].map fun n=>wordOf (some n))),.ref p7]) hp8
   have S8:=(s6.trans s7).trans s8
   have at8:=at5.keep S8.tups
   have ok':=deed_ok ok (δ:=.window u dn l r) bb
   exact q _ _ p8 p7 _ _ _ _ _ (.inr ⟨.window u dn l r,rfl,bb,rfl⟩) ok' upd_same (s8 _ _ upd_same) ⟨at8.f_,hwv.keep S8.tups,at8.r_,at8.s_⟩ ((S4.keep s5).keep S8) (((k1.trans k4).trans (s5.but d)).trans (S8.but d))
  refine ⟨_,rfl,Or.inl ⟨rfl,_,rfl,ite2 (fun _=>?_) (fun _=>?_)⟩⟩
  ·-- a rule
   refine ⟨_,rfl,_,rfl,S1,fun rv' ru H6 hru rc S6 k6=>?_⟩
   have kt6:KeepT H1 H6:=k6.tups S1.lst.choose_spec
   dsimp only [gName,List.set]
   refine ⟨_,rfl,_,ru,rfl,hru,rc,?_⟩
   refine ⟨_,rfl,_,rfl,_,rfl,_,rfl,(by show 4≤sizeLine;decide),fun p7 hp7=>⟨(by show 2≤sizeLine;decide),fun p8 hp8=>?_⟩⟩
   have s7:=same_upd (o:=.lst [fv,wv,rv',sv]) hp7
   have s8:=same_upd (o:=.lst [.str (joinW ("edge" :: ruleW ru)),.ref p7]) hp8
   have S8:=s7.trans s8
   have at8:=(at1.keep kt6).keep S8.tups
   exact q _ _ p8 p7 _ _ _ _ _ (.inr ⟨.edge ru,rfl,rc,rfl⟩) (deed_ok ok (δ:=.edge ru) rc) upd_same (s8 _ _ upd_same) ⟨at8.f_,at8.w_,hru.keep S8.tups,at8.s_⟩ (S6.keep S8) ((k1.trans k6).trans (S8.but d))
  refine ⟨_,rfl,Or.inl ⟨rfl,_,rfl,ite2 (fun _=>?_) (fun _=>?_)⟩⟩
  ·-- a share
   refine ⟨_,rfl,_,rfl,S1,fun sv' a b H6 hsv hSh hb S6 k6=>?_⟩
   have kt6:KeepT H1 H6:=k6.tups S1.lst.choose_spec
   dsimp only [gName,List.set]
   obtain ⟨sa,rfl,hsa⟩:=isPlace_inv hsv
   have w2:∀ n∈[a,b],Wide n:=fun n hn=>by
    obtain ⟨x1,x2,x3,x4⟩:=hSh
    simp only [List.mem_cons,List.not_mem_nil,or_false] at hn
    unfold Wide
    omega
   dsimp only [tRet,tLst]
   refine join_nums 5 (ns:=[a,b]) rfl hsa (by show 2≤4;decide) (by decide +kernel) w2 fun H7 s6=>?_
   rw [share_line _ (by simp)]
   refine ⟨_,rfl,_,rfl,_,rfl,_,rfl,(by show 4≤sizeLine;decide),fun p7 hp7=>⟨(by show 2≤sizeLine;decide),fun p8 hp8=>?_⟩⟩
   have s7:=same_upd (o:=.lst [fv,wv,rv,.ref sa]) hp7
   have s8:=same_upd (o:=.lst [.str (joinW ("share" :: [a,b].map fun n=>wordOf (some n))),.ref p7]) hp8
   have S8:=(s6.trans s7).trans s8
   have at8:=(at1.keep kt6).keep S8.tups
   exact q _ _ p8 p7 _ _ _ _ _ (.inr ⟨.share a b,rfl,⟨hSh,hb⟩,rfl⟩) (deed_ok ok (δ:=.share a b) ⟨hSh,hb⟩) upd_same (s8 _ _ upd_same) ⟨at8.f_,at8.w_,at8.r_,hsv.keep S8.tups⟩ (S6.keep S8) ((k1.trans k6).trans (S8.but d))
  refine ⟨_,rfl,Or.inl ⟨rfl,_,rfl,ite2 (fun _=>?_) (fun _=>?_)⟩⟩
  ·-- the filtered field
   refine ⟨_,rfl,_,rfl,_,rfl,_,rfl,?_⟩
   refine ⟨_,_,_,_,D.F,D.ru,D.u,D.d,D.l,D.r,D.a,D.b,rfl,ok.rect,at1.f_,at1.w_,at1.r_,at1.s_,ok.sh,⟨by have:=ok.bb;omega,by have:=ok.bb;omega,by have:=ok.bb;omega,by have:=ok.bb;omega⟩,fun v H2 s2 hv=>?_⟩
   refine ⟨_,rfl,_,rfl,_,rfl,(by show 4≤sizeLine;decide),fun p7 hp7=>⟨(by show 2≤sizeLine;decide),fun p8 hp8=>?_⟩⟩
   have s7:=same_upd (o:=.lst [v,wv,rv,sv]) hp7
   have s8:=same_upd (o:=.lst [.str ("take" : Str),.ref p7]) hp8
   have S78:=s7.trans s8
   have S8:=s2.trans S78
   have at8:=at1.keep S8.tups
   exact q _ _ p8 p7 _ _ _ _ _ (.inr ⟨.take,takeW,trivial,rfl⟩) (deed_ok ok (δ:=.take) trivial) upd_same (s8 _ _ upd_same) ⟨hv.keep S78.tups,at8.w_,at8.r_,at8.s_⟩ (S1.keep S8) (k1.trans (S8.but d))
  obtain ⟨fa,xs,b0,ys0,rfl,hfa1,la,hb0,hb1,lb⟩:=field_sizes ok.rect at1.f_
  refine ⟨_,rfl,_,rfl,_,_,rfl,Or.inr ⟨_,SqT.of hfa1,rfl⟩,_,_,rfl,S1,(by omega),(by omega),fun xi H2 i0 i1 S2 k2=>?_⟩
  have kt2:KeepT H1 H2:=k2.tups S1.lst.choose_spec
  refine ⟨_,rfl,_,rfl,Or.inr (Or.inl ⟨_,_,_,_,rfl,rfl,SqT.of (kt2 _ _ hfa1),hb0,_,_,rfl,Or.inr ⟨_,SqT.of (kt2 _ _ hb1),rfl⟩,_,_,rfl,S2,(by omega),(by omega),fun xj H3 j0 j1 S3 k3=>?_⟩)⟩
  refine ⟨_,rfl,_,rfl,_,_,rfl,S3,(by decide),(by decide),fun kd H4 d0 d1 S4 k4=>?_⟩
  refine ⟨_,_,rfl,S4,fun n H5 bn S5 k5=>?_⟩
  have K5:KeepBut d H1 H5:=((k2.trans k3).trans k4).trans k5
  obtain ⟨i,rfl⟩:∃ i:Nat,xi=i:=⟨xi.toNat,by omega⟩
  obtain ⟨j,rfl⟩:∃ j:Nat,xj=j:=⟨xj.toNat,by omega⟩
  have hi:i < D.F.length:=by omega
  have hj:j < (D.F.headD []).length:=by omega
  dsimp only [gName,List.set]
  refine tSeq_cut (fun σ' H'=>∃ cl:Option Int,σ'=[some (.ref d),some (.ref p1),some (.ref fa),some wv,some rv,some sv,some (.int way),none,some (.int (i:Int)),some (.int (j:Int)),some (cellV cl),none,none]∧In9 cl∧Seed H' d∧KeepBut d H1 H') ?_ (fun rest=>?_)
  ·rintro _ H3 ⟨cl,rfl,c9,Sd,k6⟩
   have kt6:=k6.tups S1.lst.choose_spec
   have at6:=at1.keep kt6
   obtain ⟨fa',xs',e',hfa6,hxs6⟩:=isField_inv at6.f_
   cases e'
   have ex:xs'=xs:=by
    have:=kt6 _ _ hfa1
    rw [hfa6] at this
    cases this
    rfl
   subst ex
   obtain ⟨ra,era,hra6⟩:=isRows_get hxs6 hi
   have lr:D.F[i].length=(D.F.headD []).length:=ok.rect.row _ (List.getElem_mem _)
   have lxs:xs'.length=D.F.length:=by rw [hxs6.length,List.length_map]
   refine ⟨_,rfl,_,rfl,Or.inr (Or.inl ⟨_,_,_,_,rfl,rfl,SqT.of hfa6,atI_nat era,_,rfl,_,rfl,Or.inr ⟨_,_,rfl,hra6,fun p4 H4 s4 hp4=>?_⟩⟩)⟩
   rw [cut_take] at hp4
   refine ⟨_,rfl,(by show 1≤sizeLine;decide),fun p5 hp5=>?_⟩
   have s5:=same_upd (o:=.tup [cellV cl]) hp5
   refine ⟨_,_,_,_,rfl,rfl,s5 _ _ hp4,upd_same,?_,fun p6 H6 s6 hp6=>?_⟩
   ·rw [List.length_take,List.length_map]
    exact Nat.le_trans (show min j D.F[i].length + 1≤2000 by omega) (by decide)
   have S6:=(s4.trans s5).trans s6
   refine ⟨_,rfl,_,rfl,Or.inr (Or.inl ⟨_,_,_,_,rfl,rfl,SqT.of (S6 _ _ hfa6),atI_nat era,_,rfl,_,_,rfl,rfl,_,rfl,Or.inr ⟨_,_,rfl,S6 _ _ hra6,fun p7 H7 s7 hp7=>?_⟩⟩)⟩
   rw [cut_drop] at hp7
   refine ⟨_,_,_,_,rfl,rfl,s7 _ _ hp6,hp7,?_,fun p8 H8 s8 hp8=>?_⟩
   ·rw [List.length_append,List.length_take,List.length_drop,List.length_map]
    exact Nat.le_trans (show min j D.F[i].length + 1 + (D.F[i].length - (j + 1))≤3000 by omega) (by decide)
   have S8:=(S6.trans s7).trans s8
   have er8:H8 p8=some (.tup ((D.F[i].take j ++ [cl] ++ D.F[i].drop (j + 1)).map cellV)):=by
    rw [hp8]
    simp only [List.map_append,List.map_take,List.map_drop]
    rfl
   refine ⟨_,rfl,_,rfl,_,rfl,Or.inr ⟨_,_,rfl,S8 _ _ hfa6,fun p9 H9 s9 hp9=>?_⟩⟩
   rw [cut_take] at hp9
   refine ⟨_,rfl,(by show 1≤sizeLine;decide),fun p10 hp10=>?_⟩
   have s10:=same_upd (o:=.tup [.ref p8]) hp10
   refine ⟨_,_,_,_,rfl,rfl,s10 _ _ hp9,upd_same,?_,fun p11 H11 s11 hp11=>?_⟩
   ·rw [List.length_take]
    exact Nat.le_trans (show min i xs'.length + 1≤2000 by omega) (by decide)
   have S11:=((S8.trans s9).trans s10).trans s11
   refine ⟨_,rfl,_,rfl,_,_,rfl,rfl,_,rfl,Or.inr ⟨_,_,rfl,S11 _ _ hfa6,fun p12 H12 s12 hp12=>?_⟩⟩
   rw [cut_drop] at hp12
   refine ⟨_,_,_,_,rfl,rfl,s12 _ _ hp11,hp12,?_,fun p13 H13 s13 hp13=>?_⟩
   ·rw [List.length_append,List.length_take,List.length_drop]
    exact Nat.le_trans (show min i xs'.length + 1 + (xs'.length - (i + 1))≤3000 by omega) (by decide)
   have S13:=(S11.trans s12).trans s13
   have T13:=(((s9.trans s10).trans s11).trans s12).trans s13
   have hx13:=hxs6.keep S13.tups
   have er:D.F[i]?.getD []=D.F[i]:=by rw [List.getElem?_eq_getElem hi];rfl
   have e:(putC D.F i j cl).map rowD=(D.F.map rowD).take i ++ [rowD (D.F[i].take j ++ [cl] ++ D.F[i].drop (j + 1))] ++ (D.F.map rowD).drop (i + 1):=by
    unfold putC
    rw [er]
    simp only [List.map_append,List.map_take,List.map_drop]
    rfl
   have hv:IsD H13 (.ref p13) (fieldD (putC D.F i j cl)):=by
    refine .tup hp13 ?_
    rw [e]
    exact ((isDs_take hx13 i).append (.cons (.tup (T13 _ _ er8) (isCells _)) .nil)).append (isDs_drop hx13 (i + 1))
   dsimp only [gName,List.set]
   have at13:=at6.keep S13.tups
   have wi:Wide (i:Int):=by unfold Wide;omega
   have wj:Wide (j:Int):=by unfold Wide;omega
   have li:(Str.ofString (toString (i:Int))).length ≤ 11:=by rw [str_word];exact word_len fun x e=>by cases e;exact wi
   have lj:(Str.ofString (toString (j:Int))).length ≤ 11:=by rw [str_word];exact word_len fun x e=>by cases e;exact wj
   have lc:=word_len c9.wide
   have e5:("cell " : Str).length=5:=by decide +kernel
   have e1:(" " : Str).length=1:=by decide +kernel
   have e0:(Str.empty).length=0:=rfl
   have fits:∀ {n:Nat},n≤100→n≤sizeLine:=fun h=>Nat.le_trans h (by decide)
   dsimp only [tRet,tLst]
   refine ⟨_,rfl,fits (by simp only [app_len,e0,e5];omega),_,rfl,(i:Int),rfl,log_small wi,_,rfl,fits (by simp only [app_len,e0,e5];omega),_,rfl,fits (by simp only [app_len,e0,e1,e5];omega),_,rfl,(j:Int),rfl,log_small wj,_,rfl,fits (by simp only [app_len,e0,e1,e5];omega),_,rfl,fits (by simp only [app_len,e0,e1,e5];omega),fits (by simp only [app_len,e0,e1,e5];omega),?_⟩
   refine ⟨_,rfl,cl,rfl,c9.wide,_,_,rfl,rfl,fits (by simp only [app_len,e0,e1,e5];omega),?_⟩
   rw [cell_line,str_word,str_word]
   refine ⟨_,rfl,_,rfl,_,rfl,_,rfl,(by show 4≤sizeLine;decide),fun q7 hq7=>⟨(by show 2≤sizeLine;decide),fun q8 hq8=>?_⟩⟩
   have t7:=same_upd (o:=.lst [.ref p13,wv,rv,sv]) hq7
   have t8:=same_upd (o:=.lst [.str (joinW ["cell",wordOf (some (i:Int)),wordOf (some (j:Int)),wordOf cl]),.ref q7]) hq8
   have T8:=t7.trans t8
   have at8:=at13.keep T8.tups
   exact q _ _ q8 q7 _ _ _ _ _ (.inr ⟨.cell i j cl,rfl,⟨hi,hj,c9⟩,rfl⟩) (deed_ok ok (δ:=.cell i j cl) ⟨hi,hj,c9⟩) upd_same (t8 _ _ upd_same) ⟨hv.keep T8.tups,at8.w_,at8.r_,at8.s_⟩ (Sd.keep (S13.trans T8)) (((k1.trans k6).trans (S13.but d)).trans (T8.but d))
  ·refine ⟨_,rfl,_,_,rfl,S5,(by decide),(by decide),fun z H6 z0 z1 S6 k6=>?_⟩
   refine Or.inl ⟨rfl,_,rfl,ite2 (fun _=>?_) (fun _=>?_)⟩
   ·exact rest _ _ ⟨none,rfl,in9_none,S6,K5.trans k6⟩
   ·exact rest _ _ ⟨some n,rfl,(fun i e=>by cases e;exact bn),S6,K5.trans k6⟩
theorem kb_put {d l:Addr}{H H1:Hp}{o:HO}(a:KeepBut d H H1)(f:H l=none):KeepBut d H (upd H1 l o):=fun c u h n=>by
 rw [upd_ne (ne_of_none h f)]
 exact a c u h n
theorem kb_free {d l:Addr}{H H1:Hp}(a:KeepBut d H H1)(f:H1 l=none)(n:l≠d):H l=none:=by
 cases e:H l with
 | none=>rfl
 | some o=>rw [a l o e n] at f;cases f
theorem keepT_lst {H:Hp}{l:Addr}{xs:List V}{o:HO}(h:H l=some (.lst xs)):KeepT H (upd H l o):=fun b ws e=>by
 rw [upd_ne (ne_of e h fun z=>by cases z)]
 exact e
structure Rt (C d x dy:Addr)(fa wa ra sa fv wv rv sv:V)(D:Dsk)(H0 H:Hp):Prop where
 sd:Seed H d
 k:DkAt C H x dy fa wa ra sa D
 v:VsAt H fv wv rv sv D
 kb:KeepBut d H0 H
section
variable {d x dy:Addr}{fa wa ra sa fv wv rv sv:V}{D:Dsk}{H0 H:Hp}
theorem Rt.same {H':Hp}(r:Rt C d x dy fa wa ra sa fv wv rv sv D H0 H)(s:Same H H'):Rt C d x dy fa wa ra sa fv wv rv sv D H0 H' :=
 ⟨r.sd.keep s,r.k.same s,r.v.keep s.tups,r.kb.trans (s.but d)⟩
theorem Rt.draw {H':Hp}(r:Rt C d x dy fa wa ra sa fv wv rv sv D H0 H)(S:Seed H' d)(k:KeepBut d H H'):Rt C d x dy fa wa ra sa fv wv rv sv D H0 H':=by
 obtain ⟨ls,hls⟩:=r.sd.lst
 have t:=k.tups hls
 exact ⟨S,r.k.keep t (k _ _ r.k.at_ (ne_of r.k.at_ hls fun z=>by cases z)),r.v.keep t,r.kb.trans k⟩
theorem Rt.put {H1:Hp}{l:Addr}{xs ys:List V}(r:Rt C d x dy fa wa ra sa fv wv rv sv D H0 H)(s:Same H H1)(f:H l=none)(h:H1 l=some (.lst xs)):Rt C d x dy fa wa ra sa fv wv rv sv D H0 (upd H1 l (.lst ys)):=by
 have r1:=r.same s
 have nd:l≠d:=r.sd.ne f
 have t:=keepT_lst (o:=.lst ys) h
 refine ⟨?_,r1.k.keep t ?_,r1.v.keep t,kb_put r1.kb (kb_free r.kb f nd)⟩
 ·obtain ⟨a,b,n,c,e⟩:=r1.sd
  exact ⟨a,b,n,c,by rw [upd_ne (Ne.symm nd)];exact e⟩
 ·rw [upd_ne (ne_of r1.k.at_ h fun z=>by cases z)]
  exact r1.k.at_
end
theorem ne_strs {H:Hp}{p q:Addr}{xs ys:List Str}{Q:VK}(hp:H p=some (.lst (xs.map V.str)))(hq:H q=some (.lst (ys.map V.str)))(hx:∀ x∈xs,PyData.strOk x=true)(hy:∀ y∈ys,PyData.strOk y=true)(k:Q (.bl (!decide (xs=ys))) H):rNeL (.ref p) (.ref q) H Q :=
 ⟨p,q,_,_,strsD xs,strsD ys,rfl,rfl,hp,hq,isStrs xs,isStrs ys,cmp_strs hx hy,by rw [strs_eqv];exact k⟩
theorem eq_strs {H:Hp}{p q:Addr}{xs ys:List Str}{Q:VK}(hp:H p=some (.lst (xs.map V.str)))(hq:H q=some (.lst (ys.map V.str)))(hx:∀ x∈xs,PyData.strOk x=true)(hy:∀ y∈ys,PyData.strOk y=true)(k:Q (.bl (decide (xs=ys))) H):rEqL (.ref p) (.ref q) H Q :=
 ⟨p,q,_,_,strsD xs,strsD ys,rfl,rfl,hp,hq,isStrs xs,isStrs ys,cmp_strs hx hy,by rw [strs_eqv];exact k⟩
theorem lines_okS (F:List (List (Option Int))):∀ t∈F.map lineOf,PyData.strOk t=true:=fun t ht=>by
 obtain ⟨r,_,rfl⟩:=List.mem_map.mp ht
 exact line_ok r
theorem askL_ok (D:Dsk)(α:Ask):∀ t∈askL D α,PyData.strOk t=true:=by
 cases α with
 | «show»=>exact lines_okS _
 | filter=>exact lines_okS _
 | «at» i j =>
  intro t ht
  simp only [askL,List.mem_cons,List.not_mem_nil,or_false] at ht
  rcases ht with rfl | rfl
  ·exact line_ok _
  ·exact word_okS _
theorem askL_len {D:Dsk}(ok:DskOk D)(α:Ask):(askL D α).length ≤ 12:=by
 have fh:=ok.fh
 cases α with
 | «show»=>simp only [askL,List.length_map];exact fh
 | filter =>
  simp only [askL,List.length_map]
  exact ok.fil.fh
 | «at» i j=>simp [askL]
def spRight34 (C:Addr):Sp:=fun vs H Q _=>∃ (d x dy p1:Addr) (fa wa ra sa fv wv rv sv:V) (D:Dsk),vs=[.ref d,.ref x,.ref p1]∧Seed H d∧DkAt C H x dy fa wa ra sa D∧H p1=some (.lst [fv,wv,rv,sv])∧VsAt H fv wv rv sv D∧DskOk D ∧
 ∀ (H':Hp),Seed H' d→KeepBut d H H'→Q (.bl true) H'
theorem df_law_right (T:Txt K mg C):Df P w K mg base 8 "_law_right" ["seed","desk","state"] (spRight34 C):=by
 refine T.d_law_right.ok sc_law_right (fun vs H Q E h=>?_) (fun f cdv A outer s H vs Q E hr h=>?_)
 ·obtain ⟨d,x,dy,p1,fa,wa,ra,sa,fv,wv,rv,sv,D,rfl,_⟩:=h
  rfl
 ·obtain ⟨d,x,dy,p1,fa,wa,ra,sa,fv,wv,rv,sv,D,rfl,S,k,hp1,at0,ok,q⟩:=h
  refine ⟨_,(@pss_cons _ _ _ _ _ (@ps_asg _ _ _ _ _ _ (pv 2) (pg_lstK (K:=K) rfl rfl (pgs_cons (pg_name (i:=3) sc_law_right.nd rfl (by first | exact Or.inl rfl | exact Or.inr rfl)) (pgs_cons (pg_name (i:=4) sc_law_right.nd rfl (by first | exact Or.inl rfl | exact Or.inr rfl)) (pgs_cons (pg_name (i:=5) sc_law_right.nd rfl (by first | exact Or.inl rfl | exact Or.inr rfl)) (pgs_cons (pg_name (i:=6) sc_law_right.nd rfl (by first | exact Or.inl rfl | exact Or.inr rfl)) pgs_nil))))) (by rfl) (by rfl) (by rfl))
   (@pss_cons _ _ _ _ _ (@ps_set _ _ 7 _ _ _ _ sc_law_right.nd rfl (by first | exact Or.inl rfl | exact Or.inr rfl) (@pe_mt _ _ _ _ _ _ _ _ _ _ _ _ _ _ (df_Desk_ask T) T.cl_Desk (hr.mono (by decide)) (pv 1) (@pa_cons _ _ _ _ _ pe_str pa_nil (by rfl)) (by rfl) (by rfl) (by rfl)) (by rfl) (by first | exact .inl rfl | exact .inr rfl))
   (@pss_cons _ _ _ _ _ (@ps_if _ _ _ _ _ _ _ _ (pw_or (@pt_not _ _ _ _ (@pt_val _ _ _ (@pe_callB _ _ _ _ _ _ _ _ _ (call_isinstK (K:=K) rfl) (by rfl) T.n_isinstance bt_isinstance (@pa_cons _ _ _ _ _ (pv 7) (@pa_cons _ _ _ _ _ (pe_bltn (v:=.ty "list") (by rfl) T.n_list bt_list rfl) pa_nil (by rfl)) (by rfl)) (by decide) (by decide) (by rfl) (by rfl)) (by intro _;rfl))) (pw_or1 (@pt_cmpR _ _ _ _ _ _ _ _ (op_neX hr.units) (pv 7) (@pe_df _ _ _ _ _ _ _ _ _ _ (df_law_lines T) (hr.mono (by decide)) (@pa_cons _ _ _ _ _ (pv 3) pa_nil (by rfl)) (by rfl) (by decide) (by rfl) (by rfl)) (nomark _)))).pt (@pss_one _ _ _ (@ps_ret _ _ _ _ pe_bl)) pss_nil)
   (@pss_cons _ _ _ _ _ (@ps_expr _ _ _ _ (@pe_bm0 _ _ _ _ _ _ _ _ _ PySem.F.plainAttrs_list PySem.F.slot_list_clear PySem.F.type_list_clear mt_clear (pv 7) (by rfl) (by rfl)) (by rfl))
   (@pss_cons _ _ _ _ _ (@ps_set _ _ 7 _ _ _ _ sc_law_right.nd rfl (by first | exact Or.inl rfl | exact Or.inr rfl) (@pe_mt _ _ _ _ _ _ _ _ _ _ _ _ _ _ (df_Desk_ask T) T.cl_Desk (hr.mono (by decide)) (pv 1) (@pa_cons _ _ _ _ _ pe_str pa_nil (by rfl)) (by rfl) (by rfl) (by rfl)) (by rfl) (by first | exact .inl rfl | exact .inr rfl))
   (@pss_cons _ _ _ _ _ (@ps_if _ _ _ _ _ _ _ _ (@pt_cmpR _ _ _ _ _ _ _ _ (op_neX hr.units) (pv 7) (@pe_df _ _ _ _ _ _ _ _ _ _ (df_law_lines T) (hr.mono (by decide)) (@pa_cons _ _ _ _ _ (@pe_df _ _ _ _ _ _ _ _ _ _ (df_law_filtered T) (hr.mono (by decide)) (@pa_cons _ _ _ _ _ (pv 3) (@pa_cons _ _ _ _ _ (pv 4) (@pa_cons _ _ _ _ _ (pv 5) (@pa_cons _ _ _ _ _ (pv 6) pa_nil (by rfl)) (by rfl)) (by rfl)) (by rfl)) (by rfl) (by decide) (by rfl) (by rfl)) pa_nil star_call) (by rfl) (by decide) (by rfl) (by rfl)) (nomark _)) (@pss_one _ _ _ (@ps_ret _ _ _ _ pe_bl)) pss_nil)
   (@pss_cons _ _ _ _ _ (@ps_expr _ _ _ _ (@pe_bm0 _ _ _ _ _ _ _ _ _ PySem.F.plainAttrs_list PySem.F.slot_list_clear PySem.F.type_list_clear mt_clear (pv 7) (by rfl) (by rfl)) (by rfl))
   (@pss_cons _ _ _ _ _ (@ps_for _ _ _ _ _ _ _ _ PassesOwn.never rfl (pi_range1 (by rfl) T.n_range (@pa_cons _ _ _ _ _ pe_int pa_nil (by rfl))) (pg_name (i:=8) sc_law_right.nd rfl (by first | exact Or.inl rfl | exact Or.inr rfl)) (@pss_cons _ _ _ _ _ (@ps_set _ _ 9 _ _ _ _ sc_law_right.nd rfl (by first | exact Or.inl rfl | exact Or.inr rfl) (@pe_df _ _ _ _ _ _ _ _ _ _ (df_law_draw T) (hr.mono (by decide)) (@pa_cons _ _ _ _ _ (pv 0) (@pa_cons _ _ _ _ _ (@pe_callB _ _ _ _ _ _ _ _ _ (call_lenK (K:=K) rfl) (by rfl) T.n_len bt_len (@pa_cons _ _ _ _ _ (pv 3) pa_nil (by rfl)) (by decide) (by decide) (by rfl) (by rfl)) pa_nil star_call) (by rfl)) (by rfl) (by decide) (by rfl) (by rfl)) (by rfl) (by first | exact .inl rfl | exact .inr rfl))
   (@pss_cons _ _ _ _ _ (@ps_set _ _ 10 _ _ _ _ sc_law_right.nd rfl (by first | exact Or.inl rfl | exact Or.inr rfl) (@pe_df _ _ _ _ _ _ _ _ _ _ (df_law_draw T) (hr.mono (by decide)) (@pa_cons _ _ _ _ _ (pv 0) (@pa_cons _ _ _ _ _ (@pe_callB _ _ _ _ _ _ _ _ _ (call_lenK (K:=K) rfl) (by rfl) T.n_len bt_len (@pa_cons _ _ _ _ _ (@pe_ix _ _ _ _ _ _ _ (ix_seqK (K:=K) rfl) (pv 3) pe_int (fun _ _=>rfl)) pa_nil star_sub) (by decide) (by decide) (by rfl) (by rfl)) pa_nil star_call) (by rfl)) (by rfl) (by decide) (by rfl) (by rfl)) (by rfl) (by first | exact .inl rfl | exact .inr rfl))
   (@pss_cons _ _ _ _ _ (@ps_set _ _ 11 _ _ _ _ sc_law_right.nd rfl (by first | exact Or.inl rfl | exact Or.inr rfl) (@pe_df _ _ _ _ _ _ _ _ _ _ (df_law_window_at T) (hr.mono (by decide)) (@pa_cons _ _ _ _ _ (pv 3) (@pa_cons _ _ _ _ _ (pv 4) (@pa_cons _ _ _ _ _ (pv 5) (@pa_cons _ _ _ _ _ (pv 9) (@pa_cons _ _ _ _ _ (pv 10) pa_nil (by rfl)) (by rfl)) (by rfl)) (by rfl)) (by rfl)) (by rfl) (by decide) (by rfl) (by rfl)) (by rfl) (by first | exact .inl rfl | exact .inr rfl))
   (@pss_cons _ _ _ _ _ (@ps_set _ _ 12 _ _ _ _ sc_law_right.nd rfl (by first | exact Or.inl rfl | exact Or.inr rfl) (@pe_lst _ _ _ _ (@pa_cons _ _ _ _ _ (pe_bmK (K:=K) rfl PySem.F.plainAttrs_str PySem.F.slot_str_join PySem.F.type_str_join (mt_joinK (K:=K) rfl) pe_str (@pa_cons _ _ _ _ _ (pe_compIf (M:=[]) (idx:=[]) rfl (pi_seqK (K:=K) rfl (pv 11)) (compOk (by kernel_rfl)) (by decide +kernel) (by first | exact Or.inl rfl | exact Or.inr rfl) (fun _ _ _ _ _=>pts_nil) (fun _ _ _ _ _=>(@pe_df _ _ _ _ _ _ _ _ _ _ (df_law_word T) (hr.mono (by decide)) (@pa_cons _ _ _ _ _ (pv 0) pa_nil (by rfl)) (by rfl) (by decide) (by rfl) (by rfl)))) pa_nil star_comp)) (@pa_cons _ _ _ _ _ (@pe_df _ _ _ _ _ _ _ _ _ _ (df_law_word T) (hr.mono (by decide)) (@pa_cons _ _ _ _ _ (@pe_df _ _ _ _ _ _ _ _ _ _ (df_law_told T) (hr.mono (by decide)) (@pa_cons _ _ _ _ _ (pv 11) (@pa_cons _ _ _ _ _ (pv 6) pa_nil (by rfl)) (by rfl)) (by rfl) (by decide) (by rfl) (by rfl)) pa_nil star_call) (by rfl) (by decide) (by rfl) (by rfl)) pa_nil star_call) star_call)) (by rfl) (by first | exact .inl rfl | exact .inr rfl))
   (@pss_one _ _ _ (@ps_if _ _ _ _ _ _ _ _ (@pt_cmpR _ _ _ _ _ _ _ _ (op_neX hr.units) (@pe_mt _ _ _ _ _ _ _ _ _ _ _ _ _ _ (df_Desk_ask T) T.cl_Desk (hr.mono (by decide)) (pv 1) (@pa_cons _ _ _ _ _ (pe_fstr (pj_cons pe_str (pj_cons (pe_fv (pv 9)) (pj_cons pe_str (pj_cons (pe_fv (pv 10)) pj_nil))))) pa_nil (by rfl)) (by rfl) (by rfl) (by rfl)) (pv 12) (nomark _)) (@pss_one _ _ _ (@ps_ret _ _ _ _ pe_bl)) pss_nil)))))) (by intro _;rfl))
   (@pss_cons _ _ _ _ _ (@ps_for _ _ _ _ _ _ _ _ PassesOwn.never rfl (pi_seqK (K:=K) rfl (@pe_lst _ _ _ _ (@pa_cons _ _ _ _ _ pe_str (@pa_cons _ _ _ _ _ pe_str (@pa_cons _ _ _ _ _ pe_str pa_nil (by rfl)) (by rfl)) (by rfl)))) (pg_name (i:=13) sc_law_right.nd rfl (by first | exact Or.inl rfl | exact Or.inr rfl)) (@pss_cons _ _ _ _ _ (@ps_set _ _ 7 _ _ _ _ sc_law_right.nd rfl (by first | exact Or.inl rfl | exact Or.inr rfl) (@pe_mt _ _ _ _ _ _ _ _ _ _ _ _ _ _ (df_Desk_ask T) T.cl_Desk (hr.mono (by decide)) (pv 1) (@pa_cons _ _ _ _ _ (pv 13) pa_nil (by rfl)) (by rfl) (by rfl) (by rfl)) (by rfl) (by first | exact .inl rfl | exact .inr rfl))
   (@pss_cons _ _ _ _ _ (@ps_set _ _ 12 _ _ _ _ sc_law_right.nd rfl (by first | exact Or.inl rfl | exact Or.inr rfl) (@pe_callTy _ _ _ _ _ _ _ _ _ (CallR.or (call_listK (K:=K) rfl) (call_list_rng rfl)) (by rfl) T.n_list bt_list (@pa_cons _ _ _ _ _ (pv 7) pa_nil (by rfl)) (by decide) (by decide) (by rfl) (by rfl)) (by rfl) (by first | exact .inl rfl | exact .inr rfl))
   (@pss_cons _ _ _ _ _ (@ps_expr _ _ _ _ (@pe_bm _ _ _ _ _ _ _ _ _ _ _ _ PySem.F.plainAttrs_list PySem.F.slot_list_append PySem.F.type_list_append mt_append (pv 7) (@pa_cons _ _ _ _ _ pe_str pa_nil (by rfl)) (by rfl) (by rfl) (by rfl) (by rfl) (by rfl)) (by rfl))
   (@pss_one _ _ _ (@ps_if _ _ _ _ _ _ _ _ (@pt_cmpR _ _ _ _ _ _ _ _ (op_neX hr.units) (@pe_mt _ _ _ _ _ _ _ _ _ _ _ _ _ _ (df_Desk_ask T) T.cl_Desk (hr.mono (by decide)) (pv 1) (@pa_cons _ _ _ _ _ (pv 13) pa_nil (by rfl)) (by rfl) (by rfl) (by rfl)) (pv 12) (nomark _)) (@pss_one _ _ _ (@ps_ret _ _ _ _ pe_bl)) pss_nil))))) (by intro _;rfl))
   (@pss_one _ _ _ (@ps_ret _ _ _ _ (@pe_cmpR _ _ _ _ _ _ _ _ (op_eqX hr.units) (@pe_mt _ _ _ _ _ _ _ _ _ _ _ _ _ _ (df_Desk_ask T) T.cl_Desk (hr.mono (by decide)) (pv 1) (@pa_cons _ _ _ _ _ pe_str pa_nil (by rfl)) (by rfl) (by rfl) (by rfl)) (@pe_df _ _ _ _ _ _ _ _ _ _ (df_law_lines T) (hr.mono (by decide)) (@pa_cons _ _ _ _ _ (pv 3) pa_nil (by rfl)) (by rfl) (by decide) (by rfl) (by rfl)) (nomark _))))))))))))),?_⟩
  have fh:=ok.fh;have fw:=ok.fw;have Fh1:=ok.rect.h1;have Fw1:=ok.rect.w1
  have k1:PySem.W.kitOne K (.type "list") (.type "list")=some true:=by kernel_rfl
  refine ⟨_,rfl,_,_,rfl,SqL.of hp1,rfl,_,_,rfl,_,_,rfl,_,_,rfl,_,_,rfl,rfl,?_⟩
  have r0:Rt C d x dy fa wa ra sa fv wv rv sv D H H:=⟨S,k,at0,KeepBut.refl _ _⟩
  refine ⟨_,rfl,x,dy,_,rfl,k.at_,dk_no_ask ..,?_⟩
  refine ⟨x,dy,fa,wa,ra,sa,D,k,Or.inr (Or.inr ⟨.show,congrArg (fun z=>[V.ref x,V.str z]) showW,trivial,fun l1 H1 s1 f1 h1=>?_⟩)⟩
  have r1:=r0.same s1
  dsimp only [gName,List.set]
  refine ⟨_,rfl,_,"list","list",true,rfl,Or.inr ⟨rfl,_,h1⟩,k1,_,rfl,?_⟩
  refine iteF ?_
  refine ⟨_,rfl,_,rfl,fv,D.F,rfl,r1.v.f_,ok.rectW,fun l2 H2 s2 f2 h2=>?_⟩
  have r2:=r1.same s2
  refine Or.inr (ne_strs (xs:=askL D .show) (ys:=D.F.map lineOf) (s2 _ _ h1) (by rw [h2,List.map_map]) (askL_ok D .show) (lines_okS _) ⟨_,rfl,?_⟩)
  rw [show askL D .show=D.F.map lineOf from rfl,decide_eq_true rfl]
  refine iteF ?_
  dsimp only [tNext]
  refine ⟨_,rfl,Or.inl ⟨rfl,_,SqL.of (s2 _ _ h1)⟩,?_⟩
  refine ⟨l1,_,rfl,rfl,s2 _ _ h1,?_⟩
  have r3:=r0.put (ys:=[]) (s1.trans s2) f1 (s2 _ _ h1)
  generalize upd H2 l1 (.lst [])=H3 at r3 ⊢
  refine ⟨_,rfl,x,dy,_,rfl,r3.k.at_,dk_no_ask ..,?_⟩
  refine ⟨x,dy,fa,wa,ra,sa,D,r3.k,Or.inr (Or.inr ⟨.filter,congrArg (fun z=>[V.ref x,V.str z]) filterW,trivial,fun l4 H4 s4 f4 h4=>?_⟩)⟩
  have r4:=r3.same s4
  have bb:=ok.bb
  have b100:D.u ≤ 100∧D.d ≤ 100∧D.l ≤ 100∧D.r ≤ 100:=⟨by omega,by omega,by omega,by omega⟩
  refine ⟨_,rfl,_,rfl,_,rfl,_,rfl,_,rfl,fv,wv,rv,sv,D.F,D.ru,D.u,D.d,D.l,D.r,D.a,D.b,rfl,ok.rect,r4.v.f_,r4.v.w_,r4.v.r_,r4.v.s_,ok.sh,b100,fun gv H5 s5 hgv=>?_⟩
  refine ⟨gv,filD D,rfl,hgv,ok.fil.rectW,fun l6 H6 s6 f6 h6=>?_⟩
  have S6:=s5.trans s6
  refine Or.inr (ne_strs (xs:=askL D .filter) (ys:=(filD D).map lineOf) (S6 _ _ h4) (by rw [h6,List.map_map]) (askL_ok D .filter) (lines_okS _) ⟨_,rfl,?_⟩)
  rw [show askL D .filter=(filD D).map lineOf from rfl,decide_eq_true rfl]
  refine iteF ?_
  dsimp only [tNext]
  refine ⟨_,rfl,Or.inl ⟨rfl,_,SqL.of (S6 _ _ h4)⟩,?_⟩
  refine ⟨l4,_,rfl,rfl,S6 _ _ h4,?_⟩
  have r7:=r3.put (ys:=[]) (s4.trans S6) f4 (S6 _ _ h4)
  generalize upd H6 l4 (.lst [])=H7 at r7 ⊢
  dsimp only [gName,List.set]
  refine ⟨2,rfl,(by decide),(by decide),?_⟩
  refine for_range (n:=2) (fun t σ H'=>∃ (v8 v9 v10 v11 v12:Option V),σ=[some (.ref d),some (.ref x),some (.ref p1),some fv,some wv,some rv,some sv,some (.ref l4),v8,v9,v10,v11,v12,none]∧Rt C d x dy fa wa ra sa fv wv rv sv D H H') ⟨none,none,none,none,none,rfl,r7⟩ ?_ ?_
  ·rintro t _ H8 ht ⟨v8,v9,v10,v11,v12,rfl,r8⟩
   obtain ⟨ga,xs,b0,ys0,rfl,hga,la,hb0,hb1,lb⟩:=field_sizes ok.rect r8.v.f_
   refine ⟨_,rfl,_,rfl,_,_,rfl,Or.inr ⟨_,SqT.of hga,rfl⟩,_,_,rfl,r8.sd,(by omega),(by omega),fun xi H9 i0 i1 S9 k9=>?_⟩
   have kt9:KeepT H8 H9:=k9.tups r8.sd.lst.choose_spec
   have r9:=r8.draw S9 k9
   refine ⟨_,rfl,_,rfl,Or.inr (Or.inl ⟨_,_,_,_,rfl,rfl,SqT.of (kt9 _ _ hga),hb0,_,_,rfl,Or.inr ⟨_,SqT.of (kt9 _ _ hb1),rfl⟩,_,_,rfl,S9,(by omega),(by omega),fun xj H10 j0 j1 S10 k10=>?_⟩)⟩
   have r10:=r9.draw S10 k10
   obtain ⟨i,rfl⟩:∃ i:Nat,xi=i:=⟨xi.toNat,by omega⟩
   obtain ⟨j,rfl⟩:∃ j:Nat,xj=j:=⟨xj.toNat,by omega⟩
   have hi:i < D.F.length:=by omega
   have hj:j < (D.F.headD []).length:=by omega
   dsimp only [gName,List.set]
   refine ⟨_,rfl,_,rfl,_,rfl,_,rfl,_,rfl,.ref ga,wv,rv,D.F,D.ru,D.u,D.d,D.l,D.r,(i:Int),(j:Int),rfl,ok.rect,r10.v.f_,r10.v.w_,r10.v.r_,⟨by omega,by omega⟩,⟨by omega,by omega⟩,b100,fun cw H11 s11 hcw=>?_⟩
   have r11:=r10.same s11
   have wl:=wc_len D.F D.ru D.u D.d D.l D.r (i:Int) (j:Int)
   have wl2:(D.u + D.d + 1) * (D.l + D.r + 1)≤13 * 13:=Nat.mul_le_mul (by omega) (by omega)
   have w9:∀ c∈wc D.F D.ru D.u D.d D.l D.r (i:Int) (j:Int),CellW c:=fun c hc=>(wc_in9 ok c hc).wide
   dsimp only [gName,List.set]
   generalize hws:wc D.F D.ru D.u D.d D.l D.r (i:Int) (j:Int)=ws at hcw wl w9
   refine ⟨rfl,Or.inl ⟨_,rfl,_,rfl,⟨_,SqL.of hcw⟩,?_⟩⟩
   refine compW_list (xs:=ws.map cellV) (fun j zs H'=>H'=H11∧zs=((ws.take j).map wordOf).map V.str) ⟨rfl,rfl⟩ (by rw [List.length_map];exact Nat.le_trans (show _≤1000 by omega) (by decide)) (fun j zs H' _ ⟨e,_⟩=>by rw [e];exact SqL.of hcw) ?_ ?_
   ·rintro m y zs _ hy2 ⟨rfl,rfl⟩
    obtain ⟨cl,ec,rfl⟩:=cell_at hy2
    refine oneT ?_
    refine ⟨_,rfl,cl,rfl,w9 cl (List.mem_of_getElem? ec),rfl,?_⟩
    rw [List.take_add_one,ec,List.map_append,List.map_append]
    rfl
   ·rintro zs H11' ⟨e11,rfl⟩ l12 hl12
    subst e11
    rw [List.length_map,List.take_of_length_le (Nat.le_refl _)]
    refine ⟨_,_,ws.map wordOf,rfl,rfl,SqL.of upd_same,?_,?_⟩
    ·have:=sum_len (m:=11) (ws.map wordOf) (fun x hx=>by
      obtain ⟨c,hc,rfl⟩:=List.mem_map.mp hx
      exact word_len (w9 c hc))
     rw [List.length_map] at this ⊢
     have e1:((" " : Str)).length=1:=by decide +kernel
     rw [e1]
     omega
    rw [str_blank,tjoin]
    have s12:=same_upd (o:=.lst ((ws.map wordOf).map V.str)) hl12
    have r12:=r11.same s12
    have hcw12:=s12 _ _ hcw
    generalize upd H11' l12 (.lst ((ws.map wordOf).map V.str))=H12 at s12 r12 hcw12 ⊢
    refine ⟨_,rfl,_,rfl,cw,sv,ws,D.a,D.b,rfl,hcw12,by omega,r12.v.s_,ok.sh,fun H13 s13=>?_⟩
    have em:manieth (ws.filterMap id) D.a D.b=filAt D.F D.ru D.u D.d D.l D.r D.a D.b (i:Int) (j:Int):=by rw [← hws];rfl
    have r13:=r12.same s13
    rw [em]
    refine ⟨_,rfl,(filAt_in9 ok (i:Int) (j:Int)).wide,?_⟩
    refine ⟨(by show 2≤sizeLine;decide),fun p14 hp14=>?_⟩
    have e14:[V.str (Str.join ⟨#[32]⟩ (ws.map wordOf)),V.str (wordOf (filAt D.F D.ru D.u D.d D.l D.r D.a D.b (i:Int) (j:Int)))]=(askL D (.at i j)).map V.str:=by
     rw [← hws]
     rfl
    have s14:=same_upd (o:=.lst [V.str (Str.join ⟨#[32]⟩ (ws.map wordOf)),V.str (wordOf (filAt D.F D.ru D.u D.d D.l D.r D.a D.b (i:Int) (j:Int)))]) hp14
    have h14:upd H13 p14 (.lst [V.str (Str.join ⟨#[32]⟩ (ws.map wordOf)),V.str (wordOf (filAt D.F D.ru D.u D.d D.l D.r D.a D.b (i:Int) (j:Int)))]) p14=some (.lst ((askL D (.at i j)).map V.str)):=by rw [← e14];exact upd_same
    have r14:=r13.same s14
    generalize upd H13 p14 (.lst [V.str (Str.join ⟨#[32]⟩ (ws.map wordOf)),V.str (wordOf (filAt D.F D.ru D.u D.d D.l D.r D.a D.b (i:Int) (j:Int)))])=H14 at h14 r14 ⊢
    dsimp only [gName,List.set]
    have wi:Wide (i:Int):=by unfold Wide;omega
    have wj:Wide (j:Int):=by unfold Wide;omega
    have li:(Str.ofString (toString (i:Int))).length ≤ 11:=by rw [str_word];exact word_len fun x e=>by cases e;exact wi
    have lj:(Str.ofString (toString (j:Int))).length ≤ 11:=by rw [str_word];exact word_len fun x e=>by cases e;exact wj
    have e5:("at " : Str).length=3:=by decide +kernel
    have e1:(" " : Str).length=1:=by decide +kernel
    have e0:(Str.empty).length=0:=rfl
    have fits:∀ {n:Nat},n≤100→n≤sizeLine:=fun h=>Nat.le_trans h (by decide)
    rw [← str_blank]
    refine ⟨_,rfl,x,dy,_,rfl,r14.k.at_,dk_no_ask ..,?_⟩
    refine ⟨_,rfl,fits (by simp only [app_len,e0,e5];omega),_,rfl,(i:Int),rfl,log_small wi,_,rfl,fits (by simp only [app_len,e0,e5];omega),_,rfl,fits (by simp only [app_len,e0,e1,e5];omega),_,rfl,(j:Int),rfl,log_small wj,_,rfl,fits (by simp only [app_len,e0,e1,e5];omega),fits (by simp only [app_len,e0,e1,e5];omega),?_⟩
    rw [at_line,str_word,str_word]
    refine ⟨x,dy,fa,wa,ra,sa,D,r14.k,Or.inr (Or.inr ⟨.at i j,rfl,⟨hi,hj⟩,fun l15 H15 s15 f15 h15=>?_⟩)⟩
    refine ⟨_,rfl,Or.inr (ne_strs (xs:=askL D (.at i j)) (ys:=askL D (.at i j)) h15 (s15 _ _ h14) (askL_ok D _) (askL_ok D _) ⟨_,rfl,?_⟩)⟩
    rw [decide_eq_true rfl]
    refine iteF ?_
    exact ⟨_,_,_,_,_,rfl,r14.same s15⟩
  ·rintro _ H8 ⟨v8,v9,v10,v11,v12,rfl,r8⟩
   refine Or.inl ⟨(by show 3≤sizeLine;decide),fun p9 hp9=>?_⟩
   have s9:=same_upd (o:=.lst [V.str ("filter" : Str),V.str ("at 0 0" : Str),V.str ("show" : Str)]) hp9
   have h9:upd H8 p9 (.lst [V.str ("filter" : Str),V.str ("at 0 0" : Str),V.str ("show" : Str)]) p9=some (.lst [V.str ("filter" : Str),V.str ("at 0 0" : Str),V.str ("show" : Str)]):=upd_same
   have r9:=r8.same s9
   generalize upd H8 p9 (.lst [V.str ("filter" : Str),V.str ("at 0 0" : Str),V.str ("show" : Str)])=H9 at h9 r9 ⊢
   refine ⟨p9,rfl,⟨_,SqL.of h9⟩,?_⟩
   refine for_list (K:=K) (xs:=[V.str ("filter" : Str),V.str ("at 0 0" : Str),V.str ("show" : Str)]) (fun t σ H'=>∃ (v7 v8 v9 v10 v11 v12 v13:Option V),σ=[some (.ref d),some (.ref x),some (.ref p1),some fv,some wv,some rv,some sv,v7,v8,v9,v10,v11,v12,v13]∧Rt C d x dy fa wa ra sa fv wv rv sv D H H'∧H' p9=some (.lst [V.str ("filter" : Str),V.str ("at 0 0" : Str),V.str ("show" : Str)])) ⟨_,_,_,_,_,_,_,rfl,r9,h9⟩ (fun t σ H' _ ⟨_,_,_,_,_,_,_,_,_,h⟩=>SqL.of h) ?_ ?_
   ·rintro t y _ H10 hy ⟨v7,v8,v9,v10,v11,v12,v13,rfl,r10,h10⟩
    obtain ⟨α,hα,rfl⟩:∃ α,askOk D α∧V.str (joinW ((askW α).1 :: (askW α).2))=y:=by
     have hm:=List.mem_of_getElem? hy
     simp only [List.mem_cons,List.not_mem_nil,or_false] at hm
     rcases hm with rfl | rfl | rfl
     ·exact ⟨.filter,trivial,congrArg V.str filterW.symm⟩
     ·exact ⟨.at 0 0,⟨by omega,by omega⟩,congrArg V.str at00.symm⟩
     ·exact ⟨.show,trivial,congrArg V.str showW.symm⟩
    refine ⟨_,rfl,x,dy,_,rfl,r10.k.at_,dk_no_ask ..,_,rfl,?_⟩
    refine ⟨x,dy,fa,wa,ra,sa,D,r10.k,Or.inr (Or.inr ⟨α,rfl,hα,fun l11 H11 s11 f11 h11=>?_⟩)⟩
    dsimp only [gName,List.set]
    refine ⟨_,rfl,Or.inl ⟨l11,_,rfl,Or.inl (SqL.of h11),fun l12 hl12=>?_⟩⟩
    have s12:=same_upd (o:=.lst ((askL D α).map V.str)) hl12
    have h12:upd H11 l12 (.lst ((askL D α).map V.str)) l12=some (.lst ((askL D α).map V.str)):=upd_same
    have n12:l12≠l11:=(ne_of_none h11 hl12).symm
    generalize upd H11 l12 (.lst ((askL D α).map V.str))=H12 at s12 h12 ⊢
    dsimp only [gName,List.set]
    refine ⟨_,rfl,Or.inl ⟨rfl,_,SqL.of (s12 _ _ h11)⟩,?_⟩
    refine ⟨l11,_,_,rfl,rfl,s12 _ _ h11,?_,?_⟩
    ·have:=askL_len ok α
     rw [List.length_map]
     exact Nat.lt_of_le_of_lt this (by decide)
    have r13:=r10.put (ys:=(askL D α).map V.str ++ [V.str ("x" : Str)]) (s11.trans s12) f11 (s12 _ _ h11)
    have h13:upd H12 l11 (.lst ((askL D α).map V.str ++ [V.str ("x" : Str)])) l12=some (.lst ((askL D α).map V.str)):=by rw [upd_ne n12];exact h12
    have g13:upd H12 l11 (.lst ((askL D α).map V.str ++ [V.str ("x" : Str)])) p9=some (.lst [V.str ("filter" : Str),V.str ("at 0 0" : Str),V.str ("show" : Str)]):=by
     rw [upd_ne (ne_of_none h10 f11)]
     exact (s11.trans s12) _ _ h10
    generalize upd H12 l11 (.lst ((askL D α).map V.str ++ [V.str ("x" : Str)]))=H13 at r13 h13 g13 ⊢
    refine ⟨_,rfl,x,dy,_,rfl,r13.k.at_,dk_no_ask ..,_,rfl,?_⟩
    refine ⟨x,dy,fa,wa,ra,sa,D,r13.k,Or.inr (Or.inr ⟨α,rfl,hα,fun l14 H14 s14 f14 h14=>?_⟩)⟩
    refine ⟨_,rfl,Or.inr (ne_strs (xs:=askL D α) (ys:=askL D α) h14 (s14 _ _ h13) (askL_ok D _) (askL_ok D _) ⟨_,rfl,?_⟩)⟩
    rw [decide_eq_true rfl]
    refine iteF ?_
    exact ⟨_,_,_,_,_,_,_,rfl,r13.same s14,s14 _ _ g13⟩
   ·rintro _ H10 ⟨v7,v8,v9,v10,v11,v12,v13,rfl,r10,h10⟩
    refine ⟨_,rfl,x,dy,_,rfl,r10.k.at_,dk_no_ask ..,?_⟩
    refine ⟨x,dy,fa,wa,ra,sa,D,r10.k,Or.inr (Or.inr ⟨.show,congrArg (fun z=>[V.ref x,V.str z]) showW,trivial,fun l11 H11 s11 f11 h11=>?_⟩)⟩
    have r11:=r10.same s11
    refine ⟨_,rfl,fv,D.F,rfl,r11.v.f_,ok.rectW,fun l12 H12 s12 f12 h12=>?_⟩
    have r12:=r11.same s12
    refine Or.inr (eq_strs (xs:=askL D .show) (ys:=D.F.map lineOf) (s12 _ _ h11) (by rw [h12,List.map_map]) (askL_ok D .show) (lines_okS _) ?_)
    rw [show askL D .show=D.F.map lineOf from rfl,decide_eq_true rfl]
    exact q _ r12.sd r12.kb
def D00:Dsk:=⟨[[none]],.there,0,0,0,0,1,2⟩
def F16:List (List (Option Int)):=[[some 1,some 2,some 3],[some 4,some 5,some 6]]
theorem ok00:DskOk D00:=by
 refine ⟨⟨by decide,by decide,by decide,by decide,fun r hr=>?_⟩,fun c e=>(by cases e),by decide,by decide,fun r hr c hc=>?_,⟨by decide,by decide,by decide,by decide⟩,⟨by decide,by decide,by decide,by decide⟩⟩
 ·simp only [D00,List.mem_cons,List.not_mem_nil,or_false] at hr
  subst hr
  rfl
 ·simp only [D00,List.mem_cons,List.not_mem_nil,or_false] at hr
  subst hr
  simp only [List.mem_cons,List.not_mem_nil,or_false] at hc
  subst hc
  exact in9_none
theorem ok16:DskOk { D00 with F:=F16 }:=by
 refine ⟨⟨by decide,by decide,by decide,by decide,fun r hr=>?_⟩,fun c e=>(by cases e),by decide,by decide,fun r hr c hc=>?_,⟨by decide,by decide,by decide,by decide⟩,⟨by decide,by decide,by decide,by decide⟩⟩
 ·simp only [F16,List.mem_cons,List.not_mem_nil,or_false] at hr
  rcases hr with rfl | rfl <;> rfl
 ·intro i e
  simp only [F16,List.mem_cons,List.not_mem_nil,or_false] at hr
  rcases hr with rfl | rfl <;> (simp only [List.mem_cons,List.not_mem_nil,or_false] at hc;rcases hc with rfl | rfl | rfl <;> (cases e;omega))
theorem line16:("field 1 2 3;4 5 6" : Str)=lineF F16:=by decide +kernel
theorem fil16:askL { D00 with F:=F16 } .filter=[("1 2 3" : Str),("4 5 6" : Str)]:=by decide +kernel
theorem win16:("window 1 1 1 1" : Str)=joinW ((deedW (.window 1 1 1 1)).1 :: (deedW (.window 1 1 1 1)).2):=by decide +kernel
theorem wc16:wc F16 .there 1 1 1 1 ((0:Nat):Int) ((0:Nat):Int)=[some 1,some 2,some 4,some 5]:=by decide +kernel
theorem fa16:filAt F16 .there 1 1 1 1 1 2 ((0:Nat):Int) ((0:Nat):Int)=some 2:=by
 have e:numsAt F16 .there 1 1 1 1 ((0:Nat):Int) ((0:Nat):Int)=[1,2,4,5]:=by decide +kernel
 unfold filAt
 rw [e]
 unfold manieth
 have e2:sortI [1,2,4,5]=[1,2,4,5]:=List.mergeSort_of_pairwise (by simp)
 rw [e2]
 decide +kernel
theorem at16:askL (deedTo { D00 with F:=F16 } (.window 1 1 1 1)) (.at 0 0)=[("1 2 4 5" : Str),("2" : Str)]:=by
 show [lineOf (wc F16 .there 1 1 1 1 ((0:Nat):Int) ((0:Nat):Int)),wordOf (filAt F16 .there 1 1 1 1 1 2 ((0:Nat):Int) ((0:Nat):Int))]=_
 rw [wc16,fa16]
 decide +kernel
theorem lit16:∀ t∈(["1 2 3","4 5 6","1 2 4 5","2","."]:List Str),PyData.strOk t=true:=by decide +kernel
theorem show00:askL D00 .show=[("." : Str)]:=by decide +kernel
theorem filter00:askL D00 .filter=[("." : Str)]:=by decide +kernel
theorem at_00:askL D00 (.at 0 0)=[("." : Str),("." : Str)]:=by decide +kernel
theorem nil_lst {H:Hp}{p:Addr}(h:H p=some (.lst [])):H p=some (.lst (([]:List Str).map V.str)):=h
def spFresh:Sp:=fun vs H Q _=>vs=[]∧∀ (H':Hp),Same H H'→Q (.bl true) H'
theorem df_law_fresh_right (T:Txt K mg C):Df P w K mg base 8 "_law_fresh_right" [] spFresh:=by
 refine T.d_law_fresh_right.ok sc_law_fresh_right (fun vs H Q E h=>?_) (fun f cdv A outer s H vs Q E hr h=>?_)
 ·obtain ⟨rfl,_⟩:=h
  rfl
 ·obtain ⟨rfl,q⟩:=h
  refine ⟨_,(@pss_cons _ _ _ _ _ (@ps_set _ _ 0 _ _ _ _ sc_law_fresh_right.nd rfl (by first | exact Or.inl rfl | exact Or.inr rfl) (pe_new0 (df_Desk_init T) (hr.mono (by decide)) T.g_Desk) (by rfl) (by first | exact .inl rfl | exact .inr rfl))
   (@pss_cons _ _ _ _ _ (@ps_if _ _ _ _ _ _ _ _ (pw_or (@pt_cmpR _ _ _ _ _ _ _ _ (op_neX hr.units) (@pe_mt _ _ _ _ _ _ _ _ _ _ _ _ _ _ (df_Desk_ask T) T.cl_Desk (hr.mono (by decide)) (pv 0) (@pa_cons _ _ _ _ _ pe_str pa_nil (by rfl)) (by rfl) (by rfl) (by rfl)) (@pe_lst _ _ _ _ pa_nil) (nomark _)) (pw_or1 (@pt_cmpR _ _ _ _ _ _ _ _ (op_neX hr.units) (@pe_mt _ _ _ _ _ _ _ _ _ _ _ _ _ _ (df_Desk_ask T) T.cl_Desk (hr.mono (by decide)) (pv 0) (@pa_cons _ _ _ _ _ pe_str pa_nil (by rfl)) (by rfl) (by rfl) (by rfl)) (@pe_lst _ _ _ _ (@pa_cons _ _ _ _ _ pe_str (@pa_cons _ _ _ _ _ pe_str pa_nil (by rfl)) (by rfl))) (nomark _)))).pt (@pss_one _ _ _ (@ps_ret _ _ _ _ pe_bl)) pss_nil)
   (@pss_one _ _ _ (@ps_ret _ _ _ _ (pe_and (@pe_cmpR _ _ _ _ _ _ _ _ (op_eqX hr.units) (@pe_mt _ _ _ _ _ _ _ _ _ _ _ _ _ _ (df_Desk_ask T) T.cl_Desk (hr.mono (by decide)) (pv 0) (@pa_cons _ _ _ _ _ pe_str pa_nil (by rfl)) (by rfl) (by rfl) (by rfl)) (@pe_lst _ _ _ _ pa_nil) (nomark _)) (pe_one (@pe_cmpR _ _ _ _ _ _ _ _ (op_eqX hr.units) (@pe_mt _ _ _ _ _ _ _ _ _ _ _ _ _ _ (df_Desk_ask T) T.cl_Desk (hr.mono (by decide)) (pv 0) (@pa_cons _ _ _ _ _ pe_str pa_nil (by rfl)) (by rfl) (by rfl) (by rfl)) (@pe_lst _ _ _ _ (@pa_cons _ _ _ _ _ pe_str (@pa_cons _ _ _ _ _ pe_str pa_nil (by rfl)) (by rfl))) (nomark _)))))))),?_⟩
  refine fun x dx hx hdx ne=>⟨x,dx,rfl,upd_same,fun fv wv rv sv H1 k1 e1 f1 w1 r1 s1=>⟨rfl,?_⟩⟩
  have S1:Same H H1:=fun b o e=>k1 b o (by rw [upd_ne (ne_of_none e hx),upd_ne (ne_of_none e hdx)];exact e) (ne_of_none e hx)
  have d1:DkAt C H1 x dx fv wv rv sv D00:=⟨e1,f1,w1,r1,s1,ok00⟩
  dsimp only [gName,List.set]
  refine ⟨_,rfl,x,dx,_,rfl,d1.at_,dk_no_ask ..,?_⟩
  refine ⟨x,dx,fv,wv,rv,sv,D00,d1,Or.inl ⟨F16,congrArg (fun z=>[V.ref x,V.str z]) line16,ok16,fun gv l2 H2 k2 d2 n2 h2=>?_⟩⟩
  refine ⟨(by show 0≤sizeLine;decide),fun p3 hp3=>?_⟩
  have s3:=same_upd (o:=.lst []) hp3
  refine Or.inr (ne_strs (xs:=[]) (ys:=[]) (s3 _ _ h2) upd_same (by simp) (by simp) ⟨_,rfl,?_⟩)
  refine iteF ?_
  have d3:=d2.same s3
  have S3:Same H (upd H2 p3 (.lst [])):=fun b o e=>s3 _ _ (k2 _ _ (S1 _ _ e) (ne_of_none e hx))
  generalize upd H2 p3 (.lst [])=H3 at d3 S3 ⊢
  refine ⟨_,rfl,x,dx,_,rfl,d3.at_,dk_no_ask ..,?_⟩
  refine ⟨x,dx,gv,wv,rv,sv,_,d3,Or.inr (Or.inr ⟨.filter,congrArg (fun z=>[V.ref x,V.str z]) filterW,trivial,fun l4 H4 s4 f4 h4=>?_⟩)⟩
  refine ⟨(by show 2≤sizeLine;decide),fun p5 hp5=>?_⟩
  have s5:=same_upd (o:=.lst [V.str ("1 2 3" : Str),V.str ("4 5 6" : Str)]) hp5
  refine Or.inr (ne_strs (xs:=askL { D00 with F:=F16 } .filter) (ys:=[("1 2 3" : Str),("4 5 6" : Str)]) (s5 _ _ h4) upd_same (askL_ok _ _) (fun t ht=>lit16 t (by simp only [List.mem_cons,List.not_mem_nil,or_false] at ht ⊢;rcases ht with e | e <;> simp [e])) ⟨_,rfl,?_⟩)
  rw [fil16,decide_eq_true rfl]
  refine iteF ?_
  have d5:=d3.same (s4.trans s5)
  have S5:=S3.trans (s4.trans s5)
  generalize upd H4 p5 (.lst [V.str ("1 2 3" : Str),V.str ("4 5 6" : Str)])=H5 at d5 S5 ⊢
  dsimp only [tNext]
  refine ⟨_,rfl,x,dx,_,rfl,d5.at_,dk_no_ask ..,?_⟩
  refine ⟨x,dx,gv,wv,rv,sv,_,d5,Or.inr (Or.inl ⟨.window 1 1 1 1,congrArg (fun z=>[V.ref x,V.str z]) win16,⟨by decide,by decide,by decide,by decide⟩,fun fv' wv' rv' sv' l6 H6 k6 d6 n6 h6=>?_⟩)⟩
  refine ⟨(by show 0≤sizeLine;decide),fun p7 hp7=>?_⟩
  have s7:=same_upd (o:=.lst []) hp7
  refine Or.inr (eq_strs (xs:=[]) (ys:=[]) (s7 _ _ h6) upd_same (by simp) (by simp) ?_)
  have d7:=d6.same s7
  have S7:Same H (upd H6 p7 (.lst [])):=fun b o e=>s7 _ _ (k6 _ _ (S5 _ _ e) (ne_of_none e hx))
  generalize upd H6 p7 (.lst [])=H7 at d7 S7 ⊢
  refine ⟨_,rfl,iteT ?_⟩
  refine ⟨_,rfl,x,dx,_,rfl,d7.at_,dk_no_ask ..,?_⟩
  refine ⟨x,dx,fv',wv',rv',sv',_,d7,Or.inr (Or.inr ⟨.at 0 0,congrArg (fun z=>[V.ref x,V.str z]) at00,⟨by decide,by decide⟩,fun l8 H8 s8 f8 h8=>?_⟩)⟩
  refine ⟨(by show 2≤sizeLine;decide),fun p9 hp9=>?_⟩
  have s9:=same_upd (o:=.lst [V.str ("1 2 4 5" : Str),V.str ("2" : Str)]) hp9
  refine Or.inr (eq_strs (xs:=askL (deedTo { D00 with F:=F16 } (.window 1 1 1 1)) (.at 0 0)) (ys:=[("1 2 4 5" : Str),("2" : Str)]) (s9 _ _ h8) upd_same (askL_ok _ _) (fun t ht=>lit16 t (by simp only [List.mem_cons,List.not_mem_nil,or_false] at ht ⊢;rcases ht with e | e <;> simp [e])) ?_)
  rw [at16,decide_eq_true rfl]
  exact q _ (S7.trans (s8.trans s9))
theorem pe_df0 {X:Cx}{k:Nat}{x:Str}{ps:List Str}{sp:Sp}{p pos:Pos}(D:Df X.prog X.w X.K X.mg X.base k x ps sp)(hr:Room k X.A)(hg:Gl X x:=by rfl)
  (hdb:(x == ("__debug__" : Str))=false:=by decide):PE X (.Call (.Name x p) [] [] pos) (tCall sp [] E0 tNil):=by
 obtain ⟨f,fd,F,m,kp,b,_⟩:=D
 exact pe_call0 F hr hg m kp b .nil pass0 hdb
theorem ask_deeds {x dy:Addr}{fv wv rv sv:V}{D D':Dsk}{line:Str}{H:Hp}{Q:VK}{E:XK}(k:DkAt C H x dy fv wv rv sv D)(h:Deeds D line D')
  (q:∀ (fv' wv' rv' sv':V) (l:Addr) (H':Hp),KeepBut x H H'→DkAt C H' x dy fv' wv' rv' sv' D'→H l=none→H' l=some (.lst [])→Q (.ref l) H'):spAsk C [.ref x,.str line] H Q E:=by
 refine ⟨x,dy,fv,wv,rv,sv,D,k,?_⟩
 rcases h with ⟨F,rfl,rfl,ok⟩ | ⟨δ,rfl,hδ,rfl⟩
 ·exact Or.inl ⟨F,rfl,ok,fun gv l H' a b c d=>q _ _ _ _ l H' a b c d⟩
 ·exact Or.inr (Or.inl ⟨δ,rfl,hδ,fun fv' wv' rv' sv' l H' a b c d=>q _ _ _ _ l H' a b c d⟩)
def begD (D:Dsk):Nat→Dsk
 | 0=>D00
 | 1=>{ D00 with F:=D.F }
 | 2=>⟨D.F,.there,D.u,D.d,D.l,D.r,1,2⟩
 | 3=>⟨D.F,D.ru,D.u,D.d,D.l,D.r,1,2⟩
 | _=>D
theorem beg_deeds {D:Dsk}(ok:DskOk D)(hb:D.b ≤ 1000){t:Nat}{line:Str}(h:(beginsL D)[t]? = some line):Deeds (begD D t) line (begD D (t + 1)):=by
 unfold beginsL at h
 match t,h with
 | 0,h =>
  rw [List.getElem?_cons_zero] at h
  obtain rfl:=Option.some.inj h
  exact Or.inl ⟨D.F,rfl,rfl,⟨ok.rect,fun c e=>(by cases e),ok.fh,ok.fw,ok.c9,ok00.sh,ok00.bb⟩⟩
 | 1,h =>
  rw [List.getElem?_cons_succ,List.getElem?_cons_zero] at h
  obtain rfl:=Option.some.inj h
  exact Or.inr ⟨.window D.u D.d D.l D.r,rfl,ok.bb,rfl⟩
 | 2,h =>
  rw [List.getElem?_cons_succ,List.getElem?_cons_succ,List.getElem?_cons_zero] at h
  obtain rfl:=Option.some.inj h
  exact Or.inr ⟨.edge D.ru,rfl,ok.rc,rfl⟩
 | 3,h =>
  rw [List.getElem?_cons_succ,List.getElem?_cons_succ,List.getElem?_cons_succ,List.getElem?_cons_zero] at h
  obtain rfl:=Option.some.inj h
  exact Or.inr ⟨.share D.a D.b,rfl,⟨ok.sh,hb⟩,rfl⟩
 | t + 4,h =>
  rw [List.getElem?_cons_succ,List.getElem?_cons_succ,List.getElem?_cons_succ,List.getElem?_cons_succ,List.getElem?_nil] at h
  cases h
def Held (N:Addr→Prop)(H:Hp)(hs:List V):Prop:=∀ v∈hs,∃ (t a b:Addr) (xs:List Str),v = .ref t∧H t=some (.tup [.ref a,.ref b])∧H a=some (.lst (xs.map V.str))∧H b=some (.lst (xs.map V.str))∧(∀ y∈xs,PyData.strOk y=true)∧¬ N t∧¬ N a∧¬ N b
def Kn (N:Addr→Prop)(H H':Hp):Prop:=∀ b o,H b=some o→¬ N b→H' b=some o
section
variable {N:Addr→Prop}{H H1 H2:Hp}
theorem Kn.trans (a:Kn N H H1)(b:Kn N H1 H2):Kn N H H2:=fun c o e n=>b c o (a c o e n) n
theorem kn_same (s:Same H H1):Kn N H H1:=fun b o e _=>s b o e
theorem kn_but {d:Addr}(k:KeepBut d H H1)(h:N d):Kn N H H1:=fun b o e n=>k b o e fun z=>n (by rw [z];exact h)
theorem kn_upd {l:Addr}{o:HO}(h:N l):Kn N H (upd H l o):=fun b u e n=>by
 have z:b≠l:=fun z=>n (by rw [z];exact h)
 rw [upd_ne z]
 exact e
theorem kn_put {l:Addr}{o:HO}(k:Kn N H H1)(f:H l=none):Kn N H (upd H1 l o):=fun b u e n=>by rw [upd_ne (ne_of_none e f)];exact k b u e n
theorem Held.keep {hs:List V}(h:Held N H hs)(k:Kn N H H1):Held N H1 hs:=fun v hv=>by
 obtain ⟨t,a,b,xs,e,h1,h2,h3,h4,n1,n2,n3⟩:=h v hv
 exact ⟨t,a,b,xs,e,k _ _ h1 n1,k _ _ h2 n2,k _ _ h3 n3,h4,n1,n2,n3⟩
theorem Held.mono {M:Addr→Prop}{hs:List V}(h:Held N H hs)(k:∀ b o,H b=some o→¬ N b→¬ M b):Held M H hs:=fun v hv=>by
 obtain ⟨t,a,b,xs,e,h1,h2,h3,h4,n1,n2,n3⟩:=h v hv
 exact ⟨t,a,b,xs,e,h1,h2,h3,h4,k _ _ h1 n1,k _ _ h2 n2,k _ _ h3 n3⟩
theorem Held.add {hs:List V}{t a b:Addr}{xs:List Str}(h:Held N H hs)(h1:H t=some (.tup [.ref a,.ref b]))(h2:H a=some (.lst (xs.map V.str)))(h3:H b=some (.lst (xs.map V.str)))(h4:∀ y∈xs,PyData.strOk y=true)(n1:¬ N t)(n2:¬ N a)(n3:¬ N b):Held N H (hs ++ [.ref t]):=fun v hv=>by
 rcases List.mem_append.mp hv with z | z
 ·exact h v z
 ·exact ⟨t,a,b,xs,List.mem_singleton.mp z,h1,h2,h3,h4,n1,n2,n3⟩
end
structure Lw (C d x dy p1:Addr)(fa wa ra sa fv wv rv sv:V)(D:Dsk)(H:Hp):Prop where
 sd:Seed H d
 k:DkAt C H x dy fa wa ra sa D
 v:VsAt H fv wv rv sv D
 h1:H p1=some (.lst [fv,wv,rv,sv])
 n1:p1≠d
section
variable {d x dy p1:Addr}{fa wa ra sa fv wv rv sv:V}{D:Dsk}{H:Hp}
theorem Lw.same {H':Hp}(r:Lw C d x dy p1 fa wa ra sa fv wv rv sv D H)(s:Same H H'):Lw C d x dy p1 fa wa ra sa fv wv rv sv D H' :=
 ⟨r.sd.keep s,r.k.same s,r.v.keep s.tups,s _ _ r.h1,r.n1⟩
theorem Lw.draw {H':Hp}(r:Lw C d x dy p1 fa wa ra sa fv wv rv sv D H)(S:Seed H' d)(k:KeepBut d H H'):Lw C d x dy p1 fa wa ra sa fv wv rv sv D H':=by
 obtain ⟨ls,hls⟩:=r.sd.lst
 have t:=k.tups hls
 exact ⟨S,r.k.keep t (k _ _ r.k.at_ (ne_of r.k.at_ hls fun z=>by cases z)),r.v.keep t,k _ _ r.h1 r.n1,r.n1⟩
theorem Lw.hput {h:Addr}{xs ys:List V}(r:Lw C d x dy p1 fa wa ra sa fv wv rv sv D H)(e:H h=some (.lst xs))(nd:h≠d)(n1:h≠p1):Lw C d x dy p1 fa wa ra sa fv wv rv sv D (upd H h (.lst ys)):=by
 have t:=keepT_lst (o:=.lst ys) e
 refine ⟨?_,r.k.keep t ?_,r.v.keep t,by rw [upd_ne n1.symm];exact r.h1,r.n1⟩
 ·obtain ⟨a,b,n,c,e⟩:=r.sd
  exact ⟨a,b,n,c,by rw [upd_ne nd.symm];exact e⟩
 ·rw [upd_ne (ne_of r.k.at_ e fun z=>by cases z)]
  exact r.k.at_
end
theorem st_ne {H:Hp}{d p:Addr}{fv wv rv sv:V}{D:Dsk}(S:Seed H d)(v:VsAt H fv wv rv sv D)(h:H p=some (.lst [fv,wv,rv,sv])):p≠d:=fun z=>by
 obtain ⟨a',b',n',c',e'⟩:=S
 obtain ⟨g,xs',eg,_⟩:=isField_inv v.f_
 rw [z,e',eg] at h
 cases h
theorem df_law (T:Txt K mg C):Df P w K mg base 9 "law" ["script"] (SpLaw K):=by
 refine T.d_law.ok sc_law (fun vs H Q E h=>?_) (fun f cdv A outer s H vs Q E hr h=>?_)
 ·obtain ⟨a,ns,rfl,_⟩:=h
  rfl
 ·obtain ⟨a,ns,rfl,hS,hl,q⟩:=h
  refine ⟨_,(@pss_cons _ _ _ _ _ (@ps_set _ _ 1 _ _ _ _ sc_law.nd rfl (by first | exact Or.inl rfl | exact Or.inr rfl) (@pe_df _ _ _ _ _ _ _ _ _ _ (df_law_seed T) (hr.mono (by decide)) (@pa_cons _ _ _ _ _ (@pe_ix _ _ _ _ _ _ _ (ix_seqK (K:=K) rfl) (@pe_df _ _ _ _ _ _ _ _ _ _ (df_law_cells T) (hr.mono (by decide)) (@pa_cons _ _ _ _ _ (pv 0) (@pa_cons _ _ _ _ _ pe_int pa_nil (by rfl)) (by rfl)) (by rfl) (by decide) (by rfl) (by rfl)) pe_int (fun _ _=>rfl)) pa_nil star_sub) (by rfl) (by decide) (by rfl) (by rfl)) (by rfl) (by first | exact .inl rfl | exact .inr rfl))
   (@pss_cons _ _ _ _ _ (@ps_asg _ _ _ _ _ _ (@pe_df _ _ _ _ _ _ _ _ _ _ (df_law_begun T) (hr.mono (by decide)) (@pa_cons _ _ _ _ _ (pv 1) pa_nil (by rfl)) (by rfl) (by decide) (by rfl) (by rfl)) (pg_lstK (K:=K) rfl rfl (pgs_cons (pg_name (i:=2) sc_law.nd rfl (by first | exact Or.inl rfl | exact Or.inr rfl)) (pgs_cons (pg_name (i:=3) sc_law.nd rfl (by first | exact Or.inl rfl | exact Or.inr rfl)) pgs_nil))) (by rfl) (by rfl) (by rfl))
   (@pss_cons _ _ _ _ _ (@ps_set _ _ 4 _ _ _ _ sc_law.nd rfl (by first | exact Or.inl rfl | exact Or.inr rfl) (pe_new0 (df_Desk_init T) (hr.mono (by decide)) T.g_Desk) (by rfl) (by first | exact .inl rfl | exact .inr rfl))
   (@pss_cons _ _ _ _ _ (@ps_if _ _ _ _ _ _ _ _ (pw_or (@pt_not _ _ _ _ (@pt_val _ _ _ (pe_df0 (df_law_fresh_right T) (hr.mono (by decide))) (by intro _;rfl))) (pw_or (@pt_cmpR _ _ _ _ _ _ _ _ (op_neX hr.units) (@pe_mt _ _ _ _ _ _ _ _ _ _ _ _ _ _ (df_Desk_ask T) T.cl_Desk (hr.mono (by decide)) (pv 4) (@pa_cons _ _ _ _ _ pe_str pa_nil (by rfl)) (by rfl) (by rfl) (by rfl)) (@pe_lst _ _ _ _ (@pa_cons _ _ _ _ _ pe_str pa_nil (by rfl))) (nomark _)) (pw_or1 (@pt_cmpR _ _ _ _ _ _ _ _ (op_neX hr.units) (@pe_mt _ _ _ _ _ _ _ _ _ _ _ _ _ _ (df_Desk_ask T) T.cl_Desk (hr.mono (by decide)) (pv 4) (@pa_cons _ _ _ _ _ pe_str pa_nil (by rfl)) (by rfl) (by rfl) (by rfl)) (@pe_lst _ _ _ _ (@pa_cons _ _ _ _ _ pe_str pa_nil (by rfl))) (nomark _))))).pt (@pss_one _ _ _ (@ps_ret _ _ _ _ pe_bl)) pss_nil)
   (@pss_cons _ _ _ _ _ (@ps_if _ _ _ _ _ _ _ _ (@pt_cmpR _ _ _ _ _ _ _ _ (op_neX hr.units) (@pe_mt _ _ _ _ _ _ _ _ _ _ _ _ _ _ (df_Desk_ask T) T.cl_Desk (hr.mono (by decide)) (pv 4) (@pa_cons _ _ _ _ _ pe_str pa_nil (by rfl)) (by rfl) (by rfl) (by rfl)) (@pe_lst _ _ _ _ (@pa_cons _ _ _ _ _ pe_str (@pa_cons _ _ _ _ _ pe_str pa_nil (by rfl)) (by rfl))) (nomark _)) (@pss_one _ _ _ (@ps_ret _ _ _ _ pe_bl)) pss_nil)
   (@pss_cons _ _ _ _ _ (@ps_for _ _ _ _ _ _ _ _ PassesOwn.never rfl (pi_seqK (K:=K) rfl (pv 3)) (pg_name (i:=5) sc_law.nd rfl (by first | exact Or.inl rfl | exact Or.inr rfl)) (@pss_one _ _ _ (@ps_if _ _ _ _ _ _ _ _ (@pt_cmpR _ _ _ _ _ _ _ _ (op_neX hr.units) (@pe_mt _ _ _ _ _ _ _ _ _ _ _ _ _ _ (df_Desk_ask T) T.cl_Desk (hr.mono (by decide)) (pv 4) (@pa_cons _ _ _ _ _ (pv 5) pa_nil (by rfl)) (by rfl) (by rfl) (by rfl)) (@pe_lst _ _ _ _ pa_nil) (nomark _)) (@pss_one _ _ _ (@ps_ret _ _ _ _ pe_bl)) pss_nil)) (by intro _;rfl))
   (@pss_cons _ _ _ _ _ (@ps_if _ _ _ _ _ _ _ _ (@pt_not _ _ _ _ (@pt_val _ _ _ (@pe_df _ _ _ _ _ _ _ _ _ _ (df_law_right T) (hr.mono (by decide)) (@pa_cons _ _ _ _ _ (pv 1) (@pa_cons _ _ _ _ _ (pv 4) (@pa_cons _ _ _ _ _ (pv 2) pa_nil (by rfl)) (by rfl)) (by rfl)) (by rfl) (by decide) (by rfl) (by rfl)) (by intro _;rfl))) (@pss_one _ _ _ (@ps_ret _ _ _ _ pe_bl)) pss_nil)
   (@pss_cons _ _ _ _ _ (@ps_set _ _ 6 _ _ _ _ sc_law.nd rfl (by first | exact Or.inl rfl | exact Or.inr rfl) (@pe_lst _ _ _ _ pa_nil) (by rfl) (by first | exact .inl rfl | exact .inr rfl))
   (@pss_cons _ _ _ _ _ (@ps_for _ _ _ _ _ _ _ _ PassesOwn.never rfl (pi_seqK (K:=K) rfl (@pe_df _ _ _ _ _ _ _ _ _ _ (df_law_cells T) (hr.mono (by decide)) (@pa_cons _ _ _ _ _ (pv 0) (@pa_cons _ _ _ _ _ pe_int pa_nil (by rfl)) (by rfl)) (by rfl) (by decide) (by rfl) (by rfl))) (pg_name (i:=7) sc_law.nd rfl (by first | exact Or.inl rfl | exact Or.inr rfl)) (@pss_cons _ _ _ _ _ (@ps_set _ _ 1 _ _ _ _ sc_law.nd rfl (by first | exact Or.inl rfl | exact Or.inr rfl) (@pe_df _ _ _ _ _ _ _ _ _ _ (df_law_seed T) (hr.mono (by decide)) (@pa_cons _ _ _ _ _ (pv 7) pa_nil (by rfl)) (by rfl) (by decide) (by rfl) (by rfl)) (by rfl) (by first | exact .inl rfl | exact .inr rfl))
   (@pss_cons _ _ _ _ _ (@ps_expr _ _ _ _ (@pe_bm _ _ _ _ _ _ _ _ _ _ _ _ PySem.F.plainAttrs_list PySem.F.slot_list_append PySem.F.type_list_append mt_append (pv 6) (@pa_cons _ _ _ _ _ (@pe_tup _ _ _ _ _ (@pa_cons _ _ _ _ _ (@pe_mt _ _ _ _ _ _ _ _ _ _ _ _ _ _ (df_Desk_ask T) T.cl_Desk (hr.mono (by decide)) (pv 4) (@pa_cons _ _ _ _ _ pe_str pa_nil (by rfl)) (by rfl) (by rfl) (by rfl)) (@pa_cons _ _ _ _ _ (@pe_df _ _ _ _ _ _ _ _ _ _ (df_law_lines T) (hr.mono (by decide)) (@pa_cons _ _ _ _ _ (@pe_ix _ _ _ _ _ _ _ (ix_seqK (K:=K) rfl) (pv 2) pe_int (fun _ _=>rfl)) pa_nil star_sub) (by rfl) (by decide) (by rfl) (by rfl)) pa_nil star_call) star_call)) pa_nil star_tup) (by rfl) (by rfl) (by rfl) (by rfl) (by rfl)) (by rfl))
   (@pss_cons _ _ _ _ _ (@ps_set _ _ 8 _ _ _ _ sc_law.nd rfl (by first | exact Or.inl rfl | exact Or.inr rfl) (@pe_mt _ _ _ _ _ _ _ _ _ _ _ _ _ _ (df_Desk_ask T) T.cl_Desk (hr.mono (by decide)) (pv 4) (@pa_cons _ _ _ _ _ pe_str pa_nil (by rfl)) (by rfl) (by rfl) (by rfl)) (by rfl) (by first | exact .inl rfl | exact .inr rfl))
   (@pss_cons _ _ _ _ _ (@ps_expr _ _ _ _ (@pe_bm _ _ _ _ _ _ _ _ _ _ _ _ PySem.F.plainAttrs_list PySem.F.slot_list_append PySem.F.type_list_append mt_append (pv 6) (@pa_cons _ _ _ _ _ (@pe_tup _ _ _ _ _ (@pa_cons _ _ _ _ _ (pv 8) (@pa_cons _ _ _ _ _ (@pe_callTy _ _ _ _ _ _ _ _ _ (CallR.or (call_listK (K:=K) rfl) (call_list_rng rfl)) (by rfl) T.n_list bt_list (@pa_cons _ _ _ _ _ (pv 8) pa_nil (by rfl)) (by decide) (by decide) (by rfl) (by rfl)) pa_nil star_call) (by rfl))) pa_nil star_tup) (by rfl) (by rfl) (by rfl) (by rfl) (by rfl)) (by rfl))
   (@pss_cons _ _ _ _ _ (@ps_asg _ _ _ _ _ _ (@pe_df _ _ _ _ _ _ _ _ _ _ (df_law_deed T) (hr.mono (by decide)) (@pa_cons _ _ _ _ _ (pv 1) (@pa_cons _ _ _ _ _ (pv 2) pa_nil (by rfl)) (by rfl)) (by rfl) (by decide) (by rfl) (by rfl)) (pg_lstK (K:=K) rfl rfl (pgs_cons (pg_name (i:=5) sc_law.nd rfl (by first | exact Or.inl rfl | exact Or.inr rfl)) (pgs_cons (pg_name (i:=2) sc_law.nd rfl (by first | exact Or.inl rfl | exact Or.inr rfl)) pgs_nil))) (by rfl) (by rfl) (by rfl))
   (@pss_cons _ _ _ _ _ (@ps_set _ _ 8 _ _ _ _ sc_law.nd rfl (by first | exact Or.inl rfl | exact Or.inr rfl) (@pe_mt _ _ _ _ _ _ _ _ _ _ _ _ _ _ (df_Desk_ask T) T.cl_Desk (hr.mono (by decide)) (pv 4) (@pa_cons _ _ _ _ _ (pv 5) pa_nil (by rfl)) (by rfl) (by rfl) (by rfl)) (by rfl) (by first | exact .inl rfl | exact .inr rfl))
   (@pss_cons _ _ _ _ _ (@ps_if _ _ _ _ _ _ _ _ (@pt_cmpR _ _ _ _ _ _ _ _ (op_neX hr.units) (pv 8) (@pe_lst _ _ _ _ pa_nil) (nomark _)) (@pss_one _ _ _ (@ps_ret _ _ _ _ pe_bl)) pss_nil)
   (@pss_cons _ _ _ _ _ (@ps_expr _ _ _ _ (@pe_bm _ _ _ _ _ _ _ _ _ _ _ _ PySem.F.plainAttrs_list PySem.F.slot_list_append PySem.F.type_list_append mt_append (pv 8) (@pa_cons _ _ _ _ _ pe_str pa_nil (by rfl)) (by rfl) (by rfl) (by rfl) (by rfl) (by rfl)) (by rfl))
   (@pss_one _ _ _ (@ps_if _ _ _ _ _ _ _ _ (@pt_not _ _ _ _ (@pt_val _ _ _ (@pe_df _ _ _ _ _ _ _ _ _ _ (df_law_right T) (hr.mono (by decide)) (@pa_cons _ _ _ _ _ (pv 1) (@pa_cons _ _ _ _ _ (pv 4) (@pa_cons _ _ _ _ _ (pv 2) pa_nil (by rfl)) (by rfl)) (by rfl)) (by rfl) (by decide) (by rfl) (by rfl)) (by intro _;rfl))) (@pss_one _ _ _ (@ps_ret _ _ _ _ pe_bl)) pss_nil)))))))))) (by intro _;rfl))
   (@pss_one _ _ _ (@ps_ret _ _ _ _ (@pe_cmpR _ _ _ _ _ _ _ _ (op_eqX hr.units) (pe_compIf2 (K:=K) (M:=[]) (idx:=[]) rfl rfl (pi_seqK (K:=K) rfl (pv 6)) (compOk (by kernel_rfl)) (by decide +kernel) (by first | exact Or.inl rfl | exact Or.inr rfl) (by first | exact Or.inl rfl | exact Or.inr rfl) (fun _ _ _ _ _=>pts_one (@pt_cmpR _ _ _ _ _ _ _ _ (op_neX hr.units) (pv 0) (pv 1) (nomark _))) (fun _ _ _ _ _=>pe_int)) (@pe_lst _ _ _ _ pa_nil) (nomark _))))))))))))),?_⟩
  refine ⟨_,rfl,a,ns,1,rfl,hS,hl,fun p1 zs H1 s1 e1 nz lz hz=>?_⟩
  obtain ⟨z0,zr,rfl⟩:∃ z0 zr,zs=z0 :: zr:=by
   cases zs with
   | nil=>exact absurd rfl nz
   | cons z r=>exact ⟨z,r,rfl⟩
  obtain ⟨c0,rfl⟩:=hz z0 (by simp)
  refine Or.inl ⟨_,_,_,_,rfl,rfl,SqL.of e1,atI_nat (j:=0) rfl,?_⟩
  refine ⟨c0,rfl,fun d H2 fd S2 s2=>?_⟩
  dsimp only [gName,List.set]
  refine ⟨_,rfl,d,rfl,S2,fun fv wv rv sv D p3 ps pl H3 ok hb h3 hps hpl v3 S3 k3=>?_⟩
  refine ⟨_,_,rfl,SqL.of h3,rfl,_,_,rfl,_,_,rfl,rfl,?_⟩
  refine fun x dx hx hdx ne=>⟨x,dx,rfl,upd_same,fun fa wa ra sa H4 k4 e4 f4 w4 r4 sh4=>⟨rfl,?_⟩⟩
  have S34:Same H3 H4:=fun b o e=>k4 b o (by rw [upd_ne (ne_of_none e hx),upd_ne (ne_of_none e hdx)];exact e) (ne_of_none e hx)
  have d4:DkAt C H4 x dx fa wa ra sa D00:=⟨e4,f4,w4,r4,sh4,ok00⟩
  dsimp only [gName,List.set]
  refine ⟨rfl,fun H5 s5=>⟨_,rfl,iteF ?_⟩⟩
  have d5:=d4.same s5
  refine ⟨_,rfl,x,dx,_,rfl,d5.at_,dk_no_ask ..,?_⟩
  refine ⟨x,dx,fa,wa,ra,sa,_,d5,Or.inr (Or.inr ⟨.show,congrArg (fun z=>[V.ref x,V.str z]) showW,trivial,fun l6 H6 s6 f6 h6=>?_⟩)⟩
  refine ⟨(by show 1≤sizeLine;decide),fun p7 hp7=>?_⟩
  have s7:=same_upd (o:=.lst [V.str ("." : Str)]) hp7
  have dot:PyData.strOk ("." : Str)=true:=by decide +kernel
  refine Or.inr (ne_strs (xs:=askL D00 .show) (ys:=[("." : Str)]) (s7 _ _ h6) upd_same (askL_ok _ _) (fun t ht=>by rw [List.mem_singleton.mp ht];exact dot) ⟨_,rfl,?_⟩)
  rw [show00,decide_eq_true rfl]
  refine iteF ?_
  have d7:=d5.same (s6.trans s7)
  have S7:=s5.trans (s6.trans s7)
  generalize upd H6 p7 (.lst [V.str ("." : Str)])=H7 at d7 S7 ⊢
  refine ⟨_,rfl,x,dx,_,rfl,d7.at_,dk_no_ask ..,?_⟩
  refine ⟨x,dx,fa,wa,ra,sa,_,d7,Or.inr (Or.inr ⟨.filter,congrArg (fun z=>[V.ref x,V.str z]) filterW,trivial,fun l8 H8 s8 f8 h8=>?_⟩)⟩
  refine ⟨(by show 1≤sizeLine;decide),fun p9 hp9=>?_⟩
  have s9:=same_upd (o:=.lst [V.str ("." : Str)]) hp9
  refine Or.inr (ne_strs (xs:=askL D00 .filter) (ys:=[("." : Str)]) (s9 _ _ h8) upd_same (askL_ok _ _) (fun t ht=>by rw [List.mem_singleton.mp ht];exact dot) ⟨_,rfl,?_⟩)
  rw [filter00,decide_eq_true rfl]
  refine iteF ?_
  have d9:=d7.same (s8.trans s9)
  have S9:=S7.trans (s8.trans s9)
  generalize upd H8 p9 (.lst [V.str ("." : Str)])=H9 at d9 S9 ⊢
  dsimp only [tNext]
  refine ⟨_,rfl,x,dx,_,rfl,d9.at_,dk_no_ask ..,?_⟩
  refine ⟨x,dx,fa,wa,ra,sa,_,d9,Or.inr (Or.inr ⟨.at 0 0,congrArg (fun z=>[V.ref x,V.str z]) at00,⟨by decide,by decide⟩,fun l10 H10 s10 f10 h10=>?_⟩)⟩
  refine ⟨(by show 2≤sizeLine;decide),fun p11 hp11=>?_⟩
  have s11:=same_upd (o:=.lst [V.str ("." : Str),V.str ("." : Str)]) hp11
  refine Or.inr (ne_strs (xs:=askL D00 (.at 0 0)) (ys:=[("." : Str),("." : Str)]) (s11 _ _ h10) upd_same (askL_ok _ _) (fun t ht=>by
   simp only [List.mem_cons,List.not_mem_nil,or_false] at ht
   rcases ht with rfl | rfl <;> exact dot) ⟨_,rfl,?_⟩)
  rw [at_00,decide_eq_true rfl]
  refine iteF ?_
  have d11:=d9.same (s10.trans s11)
  have S11:=S34.trans (S9.trans (s10.trans s11))
  generalize upd H10 p11 (.lst [V.str ("." : Str),V.str ("." : Str)])=H11 at d11 S11 ⊢
  dsimp only [tNext]
  refine Or.inl ⟨_,rfl,pl,rfl,⟨_,SqL.of (S11 _ _ hpl)⟩,?_⟩
  refine for_list (K:=K) (xs:=(beginsL D).map V.str) (fun t σ H'=>∃ (v5:Option V) (fa wa ra sa:V),σ=[some (.ref a),some (.ref d),some (.ref ps),some (.ref pl),some (.ref x),v5,none,none,none]∧DkAt C H' x dx fa wa ra sa (begD D t)∧Same H3 H') ⟨none,fa,wa,ra,sa,rfl,d11,S11⟩ (fun t σ H' _ ⟨_,_,_,_,_,_,_,s⟩=>SqL.of (s _ _ hpl)) ?_ ?_
  ·rintro t y _ H12 hy ⟨v5,fa,wa,ra,sa,rfl,d12,S12⟩
   obtain ⟨line,el,rfl⟩:∃ line,(beginsL D)[t]? = some line∧V.str line=y:=by
    rw [List.getElem?_map] at hy
    cases e:(beginsL D)[t]? with
    | none=>rw [e] at hy;cases hy
    | some n=>rw [e] at hy;exact ⟨n,rfl,Option.some.inj hy⟩
   refine ⟨_,rfl,x,dx,_,rfl,d12.at_,dk_no_ask ..,_,rfl,?_⟩
   dsimp only [tNil,List.nil_append,List.cons_append]
   refine ask_deeds d12 (beg_deeds ok hb el) fun fa' wa' ra' sa' l13 H13 k13 d13 f13 h13=>?_
   refine ⟨(by show 0≤sizeLine;decide),fun p14 hp14=>?_⟩
   have s14:=same_upd (o:=.lst []) hp14
   refine Or.inr (ne_strs (xs:=[]) (ys:=[]) (s14 _ _ h13) upd_same (by simp) (by simp) ⟨_,rfl,?_⟩)
   refine iteF ?_
   exact ⟨_,_,_,_,_,rfl,d13.same s14,fun b o e=>s14 _ _ (k13 _ _ (S12 _ _ e) (ne_of_none e hx))⟩
  ·rintro _ H12 ⟨v5,fa,wa,ra,sa,rfl,d12,S12⟩
   rw [show begD D ((beginsL D).map V.str).length=D from rfl] at d12
   dsimp only
   have S12':Same H3 H12:=S12
   have v12:=v3.keep S12.tups
   refine ⟨_,rfl,_,rfl,_,rfl,?_⟩
   refine ⟨d,x,dx,ps,fa,wa,ra,sa,fv,wv,rv,sv,D,rfl,S3.keep S12,d12,S12 _ _ hps,v12,ok,fun H13 S13 k13=>⟨_,rfl,iteF ?_⟩⟩
   dsimp only [tNext]
   have nps:ps≠d:=st_ne S3 v3 hps
   have w13:Lw C d x dx ps fa wa ra sa fv wv rv sv D H13:=(Lw.mk (S3.keep S12) d12 v12 (S12 _ _ hps) nps).draw S13 k13
   refine ⟨(by show 0≤sizeLine;decide),fun hd hhd=>?_⟩
   have s14:=same_upd (o:=.lst []) hhd
   have e14:upd H13 hd (.lst []) hd=some (.lst []):=upd_same
   have w14:=w13.same s14
   generalize upd H13 hd (.lst [])=H14 at s14 e14 w14 ⊢
   have ndx:x≠hd:=ne_of_none w13.k.at_ hhd
   dsimp only [gName,List.set]
   have S14:Same H1 H14:=fun b o e=>s14 _ _ (k13 _ _ (S12 _ _ (k3 _ _ (s2 _ _ e) (ne_of_none e fd))) (ne_of_none e fd))
   refine Or.inl ⟨_,rfl,a,ns,6,rfl,(s1.trans S14).seq hS,hl,fun pc zs H15 s15 e15 nz15 lz15 hz15=>?_⟩
   refine ⟨_,rfl,⟨_,SqL.of e15⟩,?_⟩
   have w15:=w14.same s15
   have nph:ps≠hd:=ne_of_none w13.h1 hhd
   have npc:pc≠hd:=fun z=>by
    rw [z,s15 _ _ e14] at e15
    cases e15
    exact nz15 rfl
   refine for_list (K:=K) (xs:=zs) (fun t σ H'=>∃ (v1 v5 v7 v8:Option V) (ps:Addr) (fa wa ra sa fv wv rv sv:V) (D:Dsk) (hs:List V),σ=[some (.ref a),v1,some (.ref ps),some (.ref pl),some (.ref x),v5,some (.ref hd),v7,v8]∧DkAt C H' x dx fa wa ra sa D∧VsAt H' fv wv rv sv D∧H' ps=some (.lst [fv,wv,rv,sv])∧ps≠hd∧H' pc=some (.lst zs)∧H' hd=some (.lst hs)∧Held (fun b=>b=x ∨ b=hd) H' hs∧hs.length ≤ 2 * t)
    ⟨_,_,_,_,ps,fa,wa,ra,sa,fv,wv,rv,sv,D,[],rfl,w15.k,w15.v,w15.h1,nph,e15,s15 _ _ e14,(fun v hv=>by cases hv),Nat.zero_le _⟩
    (fun t σ H' _ ⟨_,_,_,_,_,_,_,_,_,_,_,_,_,_,_,_,_,_,_,_,h,_⟩=>SqL.of h) ?_ ?_
   ·clear w13 w14 w15 S3 v3 hps ok hb d12 S12 S12' v12 nps nph d11 S11 d9 d7 d5 d4 S9 S7 S34 S13 k13 k3 q
    rintro t y _ H16 hy ⟨v1,v5,v7,v8,ps,fa,wa,ra,sa,fv,wv,rv,sv,D,hs,rfl,d16,a16,hps,nph,hpc,hhs,held,lhs⟩
    obtain ⟨z,rfl⟩:=hz15 y (List.mem_of_getElem? hy)
    have t64:t < 64:=by
     have:=(List.getElem?_eq_some_iff.mp hy).1
     omega
    have ok:=d16.ok
    have Fh1:=ok.rect.h1;have Fw1:=ok.rect.w1
    refine ⟨_,rfl,z,rfl,fun d H17 fd S17 s17=>?_⟩
    have w17:Lw C d x dx ps fa wa ra sa fv wv rv sv D H17:=⟨S17,d16.same s17,a16.keep s17.tups,s17 _ _ hps,ne_of_none hps fd⟩
    have held17:Held (fun b=>b=x ∨ b=hd ∨ b=d) H17 hs:=(held.mono (M:=fun b=>b=x ∨ b=hd ∨ b=d) fun b o e n z=>z.elim (fun z=>n (Or.inl z)) fun z=>z.elim (fun z=>n (Or.inr z)) fun z=>ne_of_none e fd z).keep (kn_same s17)
    have nhd:hd≠d:=ne_of_none hhs fd
    have npd:pc≠d:=ne_of_none hpc fd
    have kp:∀ {H':Hp} {l:Addr},H' l=none→H' x=some (.ins C dx (dkF fa wa ra sa))→H' hd=some (.lst hs)→Seed H' d→¬ (l=x ∨ l=hd ∨ l=d):=fun f h1 h2 h3 z=>z.elim (fun z=>by rw [z,h1] at f;cases f) fun z=>z.elim (fun z=>by rw [z,h2] at f;cases f) fun z=>h3.ne f z
    have hhs17:=s17 _ _ hhs
    dsimp only [gName,List.set]
    refine ⟨_,rfl,Or.inl ⟨rfl,_,SqL.of hhs17⟩,?_⟩
    refine ⟨_,rfl,x,dx,_,rfl,w17.k.at_,dk_no_ask ..,?_⟩
    refine ⟨x,dx,fa,wa,ra,sa,D,w17.k,Or.inr (Or.inr ⟨.show,congrArg (fun z=>[V.ref x,V.str z]) showW,trivial,fun l18 H18 s18 f18 h18=>?_⟩)⟩
    have w18:=w17.same s18
    refine ⟨_,rfl,Or.inl ⟨_,_,_,_,rfl,rfl,SqL.of w18.h1,atI_nat (j:=0) rfl,?_⟩⟩
    refine ⟨fv,D.F,rfl,w18.v.f_,ok.rectW,fun l19 H19 s19 f19 h19=>?_⟩
    refine ⟨(by show 2≤sizeLine;decide),fun t20 ht20=>?_⟩
    have s20:=same_upd (o:=.tup [.ref l18,.ref l19]) ht20
    have e20:upd H19 t20 (.tup [.ref l18,.ref l19]) t20=some (.tup [.ref l18,.ref l19]):=upd_same
    have n18:=kp f18 w17.k.at_ hhs17 w17.sd
    have n19:=kp f19 w18.k.at_ (s18 _ _ hhs17) w18.sd
    have w19:=w18.same s19
    have n20:=kp ht20 w19.k.at_ ((s18.trans s19) _ _ hhs17) w19.sd
    have w20:=w19.same s20
    have S20:=(s18.trans s19).trans s20
    have held20:Held (fun b=>b=x ∨ b=hd ∨ b=d) (upd H19 t20 (.tup [.ref l18,.ref l19])) (hs ++ [.ref t20]):=(held17.keep (kn_same S20)).add (xs:=D.F.map lineOf) e20 ((s19.trans s20) _ _ h18) (s20 _ _ (by rw [h19,List.map_map])) (lines_okS _) n20 n18 n19
    have hhs20:=S20 _ _ hhs17
    have hpc20:=S20 _ _ (s17 _ _ hpc)
    generalize upd H19 t20 (.tup [.ref l18,.ref l19])=H20 at e20 w20 held20 hhs20 hpc20 ⊢
    refine ⟨hd,_,_,rfl,rfl,hhs20,Nat.lt_of_le_of_lt (show _≤200 by omega) (by decide),?_⟩
    have w21:=w20.hput (ys:=hs ++ [.ref t20]) hhs20 nhd nph.symm
    have held21:=held20.keep (kn_upd (o:=.lst (hs ++ [.ref t20])) (Or.inr (Or.inl rfl)))
    have hhs21:upd H20 hd (.lst (hs ++ [.ref t20])) hd=some (.lst (hs ++ [.ref t20])):=upd_same
    have hpc21:upd H20 hd (.lst (hs ++ [.ref t20])) pc=some (.lst zs):=by
     rw [upd_ne npc]
     exact hpc20
    generalize upd H20 hd (.lst (hs ++ [.ref t20]))=H21 at w21 held21 hhs21 hpc21 ⊢
    refine ⟨_,rfl,x,dx,_,rfl,w21.k.at_,dk_no_ask ..,?_⟩
    refine ⟨x,dx,fa,wa,ra,sa,D,w21.k,Or.inr (Or.inr ⟨.at 0 0,congrArg (fun z=>[V.ref x,V.str z]) at00,⟨by omega,by omega⟩,fun l22 H22 s22 f22 h22=>?_⟩)⟩
    have w22:=w21.same s22
    dsimp only [gName,List.set]
    refine ⟨_,rfl,Or.inl ⟨rfl,_,SqL.of (s22 _ _ hhs21)⟩,?_⟩
    refine ⟨_,rfl,_,rfl,Or.inl ⟨l22,_,rfl,Or.inl (SqL.of h22),fun l23 hl23=>?_⟩⟩
    refine ⟨(by show 2≤sizeLine;decide),fun t24 ht24=>?_⟩
    have kp2:∀ {H':Hp} {l:Addr},H' l=none→H' x=some (.ins C dx (dkF fa wa ra sa))→H' hd=some (.lst (hs ++ [.ref t20]))→Seed H' d→¬ (l=x ∨ l=hd ∨ l=d):=fun f h1 h2 h3 z=>z.elim (fun z=>by rw [z,h1] at f;cases f) fun z=>z.elim (fun z=>by rw [z,h2] at f;cases f) fun z=>h3.ne f z
    have s23:=same_upd (o:=.lst ((askL D (.at 0 0)).map V.str)) hl23
    have e23:upd H22 l23 (.lst ((askL D (.at 0 0)).map V.str)) l23=some (.lst ((askL D (.at 0 0)).map V.str)):=upd_same
    have s24:=same_upd (o:=.tup [.ref l22,.ref l23]) ht24
    have e24:upd (upd H22 l23 (.lst ((askL D (.at 0 0)).map V.str))) t24 (.tup [.ref l22,.ref l23]) t24=some (.tup [.ref l22,.ref l23]):=upd_same
    have w23:=w22.same s23
    have m22:=kp2 f22 w21.k.at_ hhs21 w21.sd
    have m23:=kp2 hl23 w22.k.at_ (s22 _ _ hhs21) w22.sd
    have m24:=kp2 ht24 w23.k.at_ ((s22.trans s23) _ _ hhs21) w23.sd
    have w24:=w23.same s24
    have S24:=(s22.trans s23).trans s24
    have held24:Held (fun b=>b=x ∨ b=hd ∨ b=d) (upd (upd H22 l23 (.lst ((askL D (.at 0 0)).map V.str))) t24 (.tup [.ref l22,.ref l23])) (hs ++ [.ref t20] ++ [.ref t24]):=(held21.keep (kn_same S24)).add (xs:=askL D (.at 0 0)) e24 ((s23.trans s24) _ _ h22) (s24 _ _ e23) (askL_ok _ _) m24 m22 m23
    have hhs24:=S24 _ _ hhs21
    have hpc24:=S24 _ _ hpc21
    generalize upd (upd H22 l23 (.lst ((askL D (.at 0 0)).map V.str))) t24 (.tup [.ref l22,.ref l23])=H24 at e24 w24 held24 hhs24 hpc24 ⊢
    refine ⟨hd,_,_,rfl,rfl,hhs24,Nat.lt_of_le_of_lt (show _≤200 by rw [List.length_append];show _ + 1≤200;omega) (by decide),?_⟩
    have w25:=w24.hput (ys:=hs ++ [.ref t20] ++ [.ref t24]) hhs24 nhd nph.symm
    have held25:=held24.keep (kn_upd (o:=.lst (hs ++ [.ref t20] ++ [.ref t24])) (Or.inr (Or.inl rfl)))
    have hhs25:upd H24 hd (.lst (hs ++ [.ref t20] ++ [.ref t24])) hd=some (.lst (hs ++ [.ref t20] ++ [.ref t24])):=upd_same
    have hpc25:upd H24 hd (.lst (hs ++ [.ref t20] ++ [.ref t24])) pc=some (.lst zs):=by
     rw [upd_ne npc]
     exact hpc24
    generalize upd H24 hd (.lst (hs ++ [.ref t20] ++ [.ref t24]))=H25 at w25 held25 hhs25 hpc25 ⊢
    have l25:(hs ++ [V.ref t20] ++ [V.ref t24]).length ≤ 2 * (t + 1):=by rw [List.length_append,List.length_append];show _ + 1 + 1≤_;omega
    generalize hs ++ [V.ref t20] ++ [V.ref t24]=hs' at w25 held25 hhs25 hpc25 l25 ⊢
    refine ⟨_,rfl,_,rfl,?_⟩
    refine ⟨d,ps,fv,wv,rv,sv,D,rfl,w25.sd,w25.h1,w25.v,ok,fun line D' p26 ps' fv' wv' rv' sv' H26 hdd ok' h26 hps' v26 S26 k26=>?_⟩
    refine ⟨_,_,rfl,SqL.of h26,rfl,_,_,rfl,_,_,rfl,rfl,?_⟩
    have w26:=w25.draw S26 k26
    have hhs26:=k26 _ _ hhs25 nhd
    have hpc26:=k26 _ _ hpc25 npd
    have held26:=held25.keep (kn_but k26 (Or.inr (Or.inr rfl)))
    have nph':ps'≠hd:=fun z=>by
     rw [z,hhs26] at hps'
     have eh:hs'=[fv',wv',rv',sv']:=HO.lst.inj (Option.some.inj hps')
     obtain ⟨t,la,lb,xs,e1,h1,h2,_⟩:=held26 fv' (by rw [eh];simp)
     obtain ⟨g,xs',eg,hg,hx⟩:=isField_inv v26.f_
     obtain ⟨rr,er,hr⟩:=isRows_get hx ok'.rect.h1
     rw [e1] at eg
     cases eg
     rw [h1] at hg
     cases hg
     cases er
     rw [h2] at hr
     cases hr
    dsimp only [gName,List.set]
    refine ⟨_,rfl,x,dx,_,rfl,w26.k.at_,dk_no_ask ..,_,rfl,?_⟩
    dsimp only [tNil,List.nil_append,List.cons_append]
    refine ask_deeds w26.k hdd fun fa' wa' ra' sa' l27 H27 k27 d27 f27 h27=>?_
    dsimp only [gName,List.set]
    have xl:∀ {b:Addr} {ls:List V},H26 b=some (.lst ls)→H27 b=some (.lst ls):=fun {b ls} e=>k27 _ _ e (ne_of e w26.k.at_ fun z=>by cases z)
    have kt27:KeepT H26 H27:=fun b ws e=>k27 _ _ e (ne_of e w26.k.at_ fun z=>by cases z)
    have S27:Seed H27 d:=by
     obtain ⟨a',b',n',c',e'⟩:=S26
     exact ⟨a',b',n',c',xl e'⟩
    have held27:=held26.keep (kn_but k27 (Or.inl rfl))
    refine ⟨_,rfl,(by show 0≤sizeLine;decide),fun p28 hp28=>?_⟩
    have s28:=same_upd (o:=.lst []) hp28
    refine Or.inr (ne_strs (xs:=[]) (ys:=[]) (s28 _ _ h27) upd_same (by simp) (by simp) ⟨_,rfl,?_⟩)
    refine iteF ?_
    have w28:Lw C d x dx ps' fa' wa' ra' sa' fv' wv' rv' sv' D' (upd H27 p28 (.lst [])):=(Lw.mk S27 d27 (v26.keep kt27) (xl hps') (st_ne S26 v26 hps')).same s28
    have n27:¬ (l27=x ∨ l27=hd ∨ l27=d):=fun z=>z.elim (fun z=>by rw [z,w26.k.at_] at f27;cases f27) fun z=>z.elim (fun z=>by rw [z,hhs26] at f27;cases f27) fun z=>S26.ne f27 z
    have np27:l27≠ps':=(ne_of_none hps' f27).symm
    have k28:Kn (fun b=>b=x ∨ b=hd ∨ b=d) H26 (upd H27 p28 (.lst [])):=Kn.trans (kn_but k27 (Or.inl rfl)) (kn_same s28)
    have h28:=s28 _ _ h27
    have hhs28:=s28 _ _ (xl hhs26)
    have hpc28:=s28 _ _ (xl hpc26)
    generalize upd H27 p28 (.lst [])=H28 at w28 h28 hhs28 hpc28 k28 ⊢
    dsimp only [tNext]
    refine ⟨_,rfl,Or.inl ⟨rfl,_,SqL.of h28⟩,?_⟩
    refine ⟨l27,_,_,rfl,rfl,h28,(by show 0 < sizeLine;decide),?_⟩
    have w29:=w28.hput (ys:=[] ++ [V.str ("x" : Str)]) h28 (fun z=>n27 (Or.inr (Or.inr z))) np27
    have held29:=held26.keep (kn_put (o:=.lst ([] ++ [V.str ("x" : Str)])) k28 f27)
    have hhs29:upd H28 l27 (.lst ([] ++ [V.str ("x" : Str)])) hd=some (.lst hs'):=by rw [upd_ne fun z=>n27 (Or.inr (Or.inl z.symm))];exact hhs28
    have hpc29:upd H28 l27 (.lst ([] ++ [V.str ("x" : Str)])) pc=some (.lst zs):=by rw [upd_ne (ne_of_none hpc26 f27)];exact hpc28
    generalize upd H28 l27 (.lst ([] ++ [V.str ("x" : Str)]))=H29 at w29 held29 hhs29 hpc29 ⊢
    refine ⟨_,rfl,_,rfl,_,rfl,?_⟩
    refine ⟨d,x,dx,ps',fa',wa',ra',sa',fv',wv',rv',sv',D',rfl,w29.sd,w29.k,w29.h1,w29.v,ok',fun H30 S30 k30=>⟨_,rfl,iteF ?_⟩⟩
    have w30:=w29.draw S30 k30
    exact ⟨_,_,_,_,ps',fa',wa',ra',sa',fv',wv',rv',sv',D',hs',rfl,w30.k,w30.v,w30.h1,nph',k30 _ _ hpc29 npd,k30 _ _ hhs29 nhd,(held29.keep (kn_but k30 (Or.inr (Or.inr rfl)))).mono fun b o e n z=>n (z.elim Or.inl fun z=>Or.inr (Or.inl z)),l25⟩
   ·rintro _ H16 ⟨v1,v5,v7,v8,ps,fa,wa,ra,sa,fv,wv,rv,sv,D,hs,rfl,d16,a16,hps,nph,hpc,hhs,held,lhs⟩
    have lh:hs.length ≤ 200:=by omega
    refine Or.inl ⟨_,rfl,_,rfl,⟨_,SqL.of hhs⟩,?_⟩
    refine compW_list (K:=K) (xs:=hs) (fun j zs H'=>H'=H16∧zs=[]) ⟨rfl,rfl⟩ (Nat.le_trans lh (by decide)) (fun j zs H' _ ⟨e,_⟩=>by rw [e];exact SqL.of hhs) ?_ ?_
    ·rintro j y zs _ hy ⟨rfl,rfl⟩
     obtain ⟨t,la,lb,xs,rfl,h1,h2,h3,h4,_⟩:=held y (List.mem_of_getElem? hy)
     refine ⟨t,.ref la,.ref lb,rfl,SqT.of h1,?_⟩
     refine ⟨_,rfl,_,rfl,Or.inr (ne_strs (xs:=xs) (ys:=xs) h2 h3 h4 h4 ⟨_,rfl,?_⟩)⟩
     rw [decide_eq_true rfl]
     refine iteF ?_
     exact ⟨rfl,rfl⟩
    ·rintro zs _ ⟨rfl,rfl⟩ l17 hl17
     refine ⟨(by show 0≤sizeLine;decide),fun p18 hp18=>?_⟩
     have s18:=same_upd (o:=.lst []) hp18
     refine Or.inr (eq_strs (xs:=[]) (ys:=[]) (s18 _ _ (nil_lst upd_same)) upd_same (by simp) (by simp) ?_)
     exact q _
end
def RawN (K:PySem.W.Frag)(mg:Str→Option Value)(x:Str)(st:Stmt):Prop:=∃ (f:Addr) (fd:FuncData),Fun K x x st f fd∧mg x=some (.ref f)
theorem rawn_of {K:PySem.W.Frag}{mg:Str→Option Value}{x:Str}{st:Stmt}{ps:List Str}(R:RawN K mg x st)(h:∀ (kV doc pm:Value) (an:Option Addr) (cdv ct:Value) (us:List Value),us.length=ps.length → bindArgs (PySem.W.fnOf x x (defArgs st) (defBody st) (defScope st) .none kV doc pm an cdv ct) ⟨us,[]⟩=pure (ps.zip us)):Raw K mg x ps st :=
 let ⟨f,fd,F,m⟩:=R
 ⟨f,fd,F,m,Fun.binds F h⟩
theorem raw_mk0 {K:PySem.W.Frag}{h:Heap}{mg:Str→Option Value}(X:K.In h)(G:h.Ns mainGlobals mg){x:Str}{st:Stmt}{f:Addr}{oc:Value}{od an:Option Addr}{osl:Array (Option Value)}{kV doc pm cdv ct:Value}(a:PySem.W.nsIn K mainGlobals x=some (some (.ref f)))(l:K.lookup f=some ⟨oc,od,.func (PySem.W.fnOf x x (defArgs st) (defBody st) (defScope st) .none kV doc pm an cdv ct),osl⟩)
  (c:PySem.W.codeIn K cdv x=true) (k:PySem.W.keepIn K (.ref f)=true):RawN K mg x st:=⟨_,_,fun_mk l c k,PySem.W.mg_of X G a⟩
def RawMN (K:PySem.W.Frag)(C:Addr)(m qual:Str)(st:Stmt):Prop:=∃ f fd,Meth K C m f∧Fun K m qual st f fd
theorem rawm_of {K:PySem.W.Frag}{C:Addr}{m qual:Str}{st:Stmt}{ps:List Str}(R:RawMN K C m qual st)(h:∀ (kV doc pm:Value) (an:Option Addr) (cdv ct:Value) (us:List Value),us.length=ps.length → bindArgs (PySem.W.fnOf m qual (defArgs st) (defBody st) (defScope st) .none kV doc pm an cdv ct) ⟨us,[]⟩=pure (ps.zip us)):RawM K C m qual ps st :=
 let ⟨f,fd,M,F⟩:=R
 ⟨f,fd,M,F,Fun.binds F h⟩
theorem rawm_mk0 {K:PySem.W.Frag}{C:Addr}{m qual:Str}{st:Stmt}{f:Addr}{oc:Value}{od an:Option Addr}{osl:Array (Option Value)}{kV doc pm cdv ct:Value}(a:PySem.W.findIn K (.ref C) m=some (some (.ref f)))(i:PySem.W.isFn K (.ref f)=true)(l:K.lookup f=some ⟨oc,od,.func (PySem.W.fnOf m qual (defArgs st) (defBody st) (defScope st) .none kV doc pm an cdv ct),osl⟩)
  (c:PySem.W.codeIn K cdv qual=true) (k:PySem.W.keepIn K (.ref f)=true):RawMN K C m qual st:=⟨_,_,⟨a,i,k⟩,fun_mk l c k⟩
def RawIN (K:PySem.W.Frag) (C:Addr) (qual:Str) (st:Stmt):Prop:=∃ f fd,Mk K C f∧Fun K "__init__" qual st f fd
theorem rawi_of {K:PySem.W.Frag} {C:Addr} {qual:Str} {st:Stmt} {ps:List Str} (R:RawIN K C qual st) (h:∀ (kV doc pm:Value) (an:Option Addr) (cdv ct:Value) (us:List Value),us.length=ps.length → bindArgs (PySem.W.fnOf "__init__" qual (defArgs st) (defBody st) (defScope st) .none kV doc pm an cdv ct) ⟨us,[]⟩=pure (ps.zip us)):RawI K C qual ps st :=
 let ⟨f,fd,M,F⟩:=R
 ⟨f,fd,M,F,Fun.binds F h⟩
theorem rawi_mk0 {K:PySem.W.Frag} {C:Addr} {qual:Str} {st:Stmt} {f:Addr} {oc:Value} {od an:Option Addr} {osl:Array (Option Value)} {kV doc pm cdv ct:Value} (mkC:PySem.W.makesIn K C=true) (kc:PySem.W.keepIn K (.ref C)=true) (a:PySem.W.findIn K (.ref C) "__init__" = some (some (.ref f))) (i:PySem.W.isFn K (.ref f)=true) (l:K.lookup f=some ⟨oc,od,.func (PySem.W.fnOf "__init__" qual (defArgs st) (defBody st) (defScope st) .none kV doc pm an cdv ct),osl⟩)
  (c:PySem.W.codeIn K cdv qual=true) (k:PySem.W.keepIn K (.ref f)=true):RawIN K C qual st:=⟨_,_,⟨mkC,a,i,kc⟩,fun_mk l c k⟩
theorem txt_mk {K:W.Frag}{h:Heap}{mg:Str→Option Value}(X:K.In h)(G:h.Ns mainGlobals mg){a0a:Value}{a1a:Value}{a2a:Value}{a3a:Value}{a4a:Value}{a5a:Value}{a6a:Value}{a7a:Addr}{a8a:Option Addr}{a9a:Array Value}{a0b:Nat}{a1b:Array (Option Value)}{a2b:Addr}{a3b:Option Addr}{a4b:Array Value}{a5b:Nat}{a6b:Array (Option Value)}{C:Addr}
  (a7b:RawN K mg "is_number" s_is_number)
  (a8b:RawN K mg "is_cell" s_is_cell)
  (a9b:RawN K mg "cell_read" s_cell_read)
  (a0c:RawN K mg "cell_shown" s_cell_shown)
  (a1c:RawN K mg "read_rows" s_read_rows)
  (a2c:RawN K mg "row_shown" s_row_shown)
  (a3c:RawN K mg "is_inside" s_is_inside)
  (a4c:RawN K mg "brought_inside" s_brought_inside)
  (a5c:RawN K mg "stands_at" s_stands_at)
  (a6c:RawN K mg "places_around" s_places_around)
  (a7c:RawN K mg "window_cells" s_window_cells)
  (a8c:RawN K mg "place_by_share" s_place_by_share)
  (a9c:RawN K mg "so_manieth" s_so_manieth)
  (a0d:RawN K mg "without_holes" s_without_holes)
  (a1d:RawN K mg "told_of_cells" s_told_of_cells)
  (a2d:RawN K mg "filtered" s_filtered)
  (a3d:RawN K mg "refuse_outside" s_refuse_outside)
  (a4d:RawN K mg "row_with" s_row_with)
  (a5d:RawN K mg "field_with" s_field_with)
  (a6d:RawN K mg "are_within" s_are_within)
  (a7d:RawN K mg "numbers_asked" s_numbers_asked)
  (a8d:RawN K mg "cell_asked" s_cell_asked)
  (a9d:RawN K mg "window_asked" s_window_asked)
  (a0e:RawN K mg "rule_asked" s_rule_asked)
  (a1e:RawN K mg "share_asked" s_share_asked)
  (a2e:RawN K mg "field_asked" s_field_asked)
  (a3e:RawN K mg "lines_of" s_lines_of)
  (a4e:RawN K mg "_law_seed" s_law_seed)
  (a5e:RawN K mg "_law_draw" s_law_draw)
  (a6e:RawN K mg "_law_cells" s_law_cells)
  (a7e:RawN K mg "_law_number" s_law_number)
  (a8e:RawN K mg "_law_field" s_law_field)
  (a9e:RawN K mg "_law_sizes" s_law_sizes)
  (a0f:RawN K mg "_law_window" s_law_window)
  (a1f:RawN K mg "_law_rule" s_law_rule)
  (a2f:RawN K mg "_law_share" s_law_share)
  (a3f:RawN K mg "_law_index" s_law_index)
  (a4f:RawN K mg "_law_window_at" s_law_window_at)
  (a5f:RawN K mg "_law_told" s_law_told)
  (a6f:RawN K mg "_law_filtered" s_law_filtered)
  (a7f:RawN K mg "_law_word" s_law_word)
  (a8f:RawN K mg "_law_lines" s_law_lines)
  (a9f:RawN K mg "_law_edge" s_law_edge)
  (a0g:RawN K mg "_law_cut" s_law_cut)
  (a1g:RawN K mg "_law_begun" s_law_begun)
  (a2g:RawN K mg "_law_deed" s_law_deed)
  (a3g:RawN K mg "_law_right" s_law_right)
  (a4g:RawN K mg "_law_fresh_right" s_law_fresh_right)
  (a5g:RawN K mg "law" s_law)
  (a6g:W.nsIn K mainGlobals "HOLE" = some (some a0a))
  (a7g:RelV (.str ".") a0a)
  (a8g:W.nsIn K mainGlobals "FIGURES" = some (some a1a))
  (a9g:RelV (.str "0123456789") a1a)
  (a0h:W.nsIn K mainGlobals "MOST_NUMBER" = some (some a2a))
  (a1h:RelV (.int 1000000000) a2a)
  (a2h:W.nsIn K mainGlobals "MOST_LENGTH" = some (some a3a))
  (a3h:RelV (.int 12) a3a)
  (a4h:W.nsIn K mainGlobals "MOST_SIDE" = some (some a4a))
  (a5h:RelV (.int 6) a4a)
  (a6h:W.nsIn K mainGlobals "MOST_SHARE" = some (some a5a))
  (a7h:RelV (.int 1000) a5a)
  (a8h:W.nsIn K mainGlobals "FIELD_AHEAD" = some (some a6a))
  (a9h:RelV (.str "field ") a6a)
  (a0i:W.nsIn K mainGlobals "PLAIN_RULES" = some (some (.ref a7a)))
  (a1i:K.lookup a7a=some ⟨.type "tuple",a8a,.seq a9a a0b,a1b⟩)
  (a2i:Vals [.str "there",.str "near",.str "turned",.str "round"] a9a.toList) (a3i:a9a.size ≤ sizeLine)
  (a4i:W.nsIn K mainGlobals "CHANGES" = some (some (.ref a2b)))
  (a5i:K.lookup a2b=some ⟨.type "tuple",a3b,.seq a4b a5b,a6b⟩)
  (a6i:Vals [.str "window",.str "edge",.str "share",.str "cell",.str "take"] a4b.toList) (a7i:a4b.size ≤ sizeLine)
  (aC:W.nsIn K mainGlobals "Desk" = some (some (.ref C)))
  (pg:W.plainGet K C Str.empty=true) (hd:W.hasDictIn K C=true) (po:W.plainOver K C=true) (sa:W.findIn K (.ref C) "__setattr__" = some (some (.builtin "object.__setattr__")))
  (a8i:W.findIn K (.ref C) "field" = some none)
  (a9i:W.findIn K (.ref C) "rule" = some none)
  (a0j:W.findIn K (.ref C) "share" = some none)
  (a1j:W.findIn K (.ref C) "window" = some none)
  (a2j:RawIN K C "Desk.__init__" s_Desk_init)
  (a3j:RawMN K C "ask" "Desk.ask" s_Desk_ask)
  (a4j:RawMN K C "change_by" "Desk.change_by" s_Desk_change_by)
  (a5j:RawMN K C "change_cell" "Desk.change_cell" s_Desk_change_cell)
  (a6j:RawMN K C "filtered_field" "Desk.filtered_field" s_Desk_filtered_field)
  (a7j:RawMN K C "lines_told" "Desk.lines_told" s_Desk_lines_told)
  (a8j:RawMN K C "lines_at" "Desk.lines_at" s_Desk_lines_at)
  (a9j:W.nsIn K mainGlobals "len" = some none)
  (a0k:W.nsIn K mainGlobals "all" = some none)
  (a1k:W.nsIn K mainGlobals "max" = some none)
  (a2k:W.nsIn K mainGlobals "min" = some none)
  (a3k:W.nsIn K mainGlobals "tuple" = some none)
  (a4k:W.nsIn K mainGlobals "list" = some none)
  (a5k:W.nsIn K mainGlobals "int" = some none)
  (a6k:W.nsIn K mainGlobals "str" = some none)
  (a7k:W.nsIn K mainGlobals "isinstance" = some none)
  (a8k:W.nsIn K mainGlobals "range" = some none)
  (a9k:W.nsIn K mainGlobals "enumerate" = some none)
  (a0l:W.nsIn K mainGlobals "sorted" = some none):Txt K mg C where
  d_is_number:=rawn_of a7b (ps:=["word"]) fun _ _ _ _ _ _ us hl=>match us,hl with | [_],_=>rfl
  d_is_cell:=rawn_of a8b (ps:=["word"]) fun _ _ _ _ _ _ us hl=>match us,hl with | [_],_=>rfl
  d_cell_read:=rawn_of a9b (ps:=["word"]) fun _ _ _ _ _ _ us hl=>match us,hl with | [_],_=>rfl
  d_cell_shown:=rawn_of a0c (ps:=["cell"]) fun _ _ _ _ _ _ us hl=>match us,hl with | [_],_=>rfl
  d_read_rows:=rawn_of a1c (ps:=["lines"]) fun _ _ _ _ _ _ us hl=>match us,hl with | [_],_=>rfl
  d_row_shown:=rawn_of a2c (ps:=["row"]) fun _ _ _ _ _ _ us hl=>match us,hl with | [_],_=>rfl
  d_is_inside:=rawn_of a3c (ps:=["field","i","j"]) fun _ _ _ _ _ _ us hl=>match us,hl with | [_,_,_],_=>rfl
  d_brought_inside:=rawn_of a4c (ps:=["rule","place","length"]) fun _ _ _ _ _ _ us hl=>match us,hl with | [_,_,_],_=>rfl
  d_stands_at:=rawn_of a5c (ps:=["field","rule","i","j"]) fun _ _ _ _ _ _ us hl=>match us,hl with | [_,_,_,_],_=>rfl
  d_places_around:=rawn_of a6c (ps:=["place","ahead","behind"]) fun _ _ _ _ _ _ us hl=>match us,hl with | [_,_,_],_=>rfl
  d_window_cells:=rawn_of a7c (ps:=["field","window","rule","i","j"]) fun _ _ _ _ _ _ us hl=>match us,hl with | [_,_,_,_,_],_=>rfl
  d_place_by_share:=rawn_of a8c (ps:=["how_many","share"]) fun _ _ _ _ _ _ us hl=>match us,hl with | [_,_],_=>rfl
  d_so_manieth:=rawn_of a9c (ps:=["numbers","share"]) fun _ _ _ _ _ _ us hl=>match us,hl with | [_,_],_=>rfl
  d_without_holes:=rawn_of a0d (ps:=["cells"]) fun _ _ _ _ _ _ us hl=>match us,hl with | [_],_=>rfl
  d_told_of_cells:=rawn_of a1d (ps:=["cells","share"]) fun _ _ _ _ _ _ us hl=>match us,hl with | [_,_],_=>rfl
  d_filtered:=rawn_of a2d (ps:=["field","window","rule","share"]) fun _ _ _ _ _ _ us hl=>match us,hl with | [_,_,_,_],_=>rfl
  d_refuse_outside:=rawn_of a3d (ps:=["field","i","j"]) fun _ _ _ _ _ _ us hl=>match us,hl with | [_,_,_],_=>rfl
  d_row_with:=rawn_of a4d (ps:=["row","j","cell"]) fun _ _ _ _ _ _ us hl=>match us,hl with | [_,_,_],_=>rfl
  d_field_with:=rawn_of a5d (ps:=["field","i","j","cell"]) fun _ _ _ _ _ _ us hl=>match us,hl with | [_,_,_,_],_=>rfl
  d_are_within:=rawn_of a6d (ps:=["numbers","least","most"]) fun _ _ _ _ _ _ us hl=>match us,hl with | [_,_,_],_=>rfl
  d_numbers_asked:=rawn_of a7d (ps:=["words","how_many"]) fun _ _ _ _ _ _ us hl=>match us,hl with | [_,_],_=>rfl
  d_cell_asked:=rawn_of a8d (ps:=["word"]) fun _ _ _ _ _ _ us hl=>match us,hl with | [_],_=>rfl
  d_window_asked:=rawn_of a9d (ps:=["words"]) fun _ _ _ _ _ _ us hl=>match us,hl with | [_],_=>rfl
  d_rule_asked:=rawn_of a0e (ps:=["words"]) fun _ _ _ _ _ _ us hl=>match us,hl with | [_],_=>rfl
  d_share_asked:=rawn_of a1e (ps:=["words"]) fun _ _ _ _ _ _ us hl=>match us,hl with | [_],_=>rfl
  d_field_asked:=rawn_of a2e (ps:=["text"]) fun _ _ _ _ _ _ us hl=>match us,hl with | [_],_=>rfl
  d_lines_of:=rawn_of a3e (ps:=["field"]) fun _ _ _ _ _ _ us hl=>match us,hl with | [_],_=>rfl
  d_law_seed:=rawn_of a4e (ps:=["cell"]) fun _ _ _ _ _ _ us hl=>match us,hl with | [_],_=>rfl
  d_law_draw:=rawn_of a5e (ps:=["seed","most"]) fun _ _ _ _ _ _ us hl=>match us,hl with | [_,_],_=>rfl
  d_law_cells:=rawn_of a6e (ps:=["script","many"]) fun _ _ _ _ _ _ us hl=>match us,hl with | [_,_],_=>rfl
  d_law_number:=rawn_of a7e (ps:=["seed","kind"]) fun _ _ _ _ _ _ us hl=>match us,hl with | [_,_],_=>rfl
  d_law_field:=rawn_of a8e (ps:=["seed","height","width","holes"]) fun _ _ _ _ _ _ us hl=>match us,hl with | [_,_,_,_],_=>rfl
  d_law_sizes:=rawn_of a9e (ps:=["seed"]) fun _ _ _ _ _ _ us hl=>match us,hl with | [_],_=>rfl
  d_law_window:=rawn_of a0f (ps:=["seed"]) fun _ _ _ _ _ _ us hl=>match us,hl with | [_],_=>rfl
  d_law_rule:=rawn_of a1f (ps:=["seed"]) fun _ _ _ _ _ _ us hl=>match us,hl with | [_],_=>rfl
  d_law_share:=rawn_of a2f (ps:=["seed"]) fun _ _ _ _ _ _ us hl=>match us,hl with | [_],_=>rfl
  d_law_index:=rawn_of a3f (ps:=["rule","k","size"]) fun _ _ _ _ _ _ us hl=>match us,hl with | [_,_,_],_=>rfl
  d_law_window_at:=rawn_of a4f (ps:=["field","window","rule","i","j"]) fun _ _ _ _ _ _ us hl=>match us,hl with | [_,_,_,_,_],_=>rfl
  d_law_told:=rawn_of a5f (ps:=["cells","share"]) fun _ _ _ _ _ _ us hl=>match us,hl with | [_,_],_=>rfl
  d_law_filtered:=rawn_of a6f (ps:=["field","window","rule","share"]) fun _ _ _ _ _ _ us hl=>match us,hl with | [_,_,_,_],_=>rfl
  d_law_word:=rawn_of a7f (ps:=["cell"]) fun _ _ _ _ _ _ us hl=>match us,hl with | [_],_=>rfl
  d_law_lines:=rawn_of a8f (ps:=["field"]) fun _ _ _ _ _ _ us hl=>match us,hl with | [_],_=>rfl
  d_law_edge:=rawn_of a9f (ps:=["rule"]) fun _ _ _ _ _ _ us hl=>match us,hl with | [_],_=>rfl
  d_law_cut:=rawn_of a0g (ps:=["window","field"]) fun _ _ _ _ _ _ us hl=>match us,hl with | [_,_],_=>rfl
  d_law_begun:=rawn_of a1g (ps:=["seed"]) fun _ _ _ _ _ _ us hl=>match us,hl with | [_],_=>rfl
  d_law_deed:=rawn_of a2g (ps:=["seed","state"]) fun _ _ _ _ _ _ us hl=>match us,hl with | [_,_],_=>rfl
  d_law_right:=rawn_of a3g (ps:=["seed","desk","state"]) fun _ _ _ _ _ _ us hl=>match us,hl with | [_,_,_],_=>rfl
  d_law_fresh_right:=rawn_of a4g (ps:=[]) fun _ _ _ _ _ _ us hl=>match us,hl with | [],_=>rfl
  d_law:=rawn_of a5g (ps:=["script"]) fun _ _ _ _ _ _ us hl=>match us,hl with | [_],_=>rfl
  g_HOLE:=⟨_,W.mg_of X G a6g,a7g⟩
  g_FIGURES:=⟨_,W.mg_of X G a8g,a9g⟩
  g_MOST_NUMBER:=⟨_,W.mg_of X G a0h,a1h⟩
  g_MOST_LENGTH:=⟨_,W.mg_of X G a2h,a3h⟩
  g_MOST_SIDE:=⟨_,W.mg_of X G a4h,a5h⟩
  g_MOST_SHARE:=⟨_,W.mg_of X G a6h,a7h⟩
  g_FIELD_AHEAD:=⟨_,W.mg_of X G a8h,a9h⟩
  g_PLAIN_RULES:=⟨_,W.mg_of X G a0i,_,_,_,a1i,rfl,rfl,a3i,a2i⟩
  g_CHANGES:=⟨_,W.mg_of X G a4i,_,_,_,a5i,rfl,rfl,a7i,a6i⟩
  g_Desk:=W.mg_of X G aC
  cl_Desk:=⟨pg,hd,po,sa⟩
  a_field:=a8i
  a_rule:=a9i
  a_share:=a0j
  a_window:=a1j
  m_Desk_init:=rawi_of a2j (ps:=["self"]) fun _ _ _ _ _ _ us hl=>match us,hl with | [_],_=>rfl
  m_Desk_ask:=rawm_of a3j (ps:=["self","line"]) fun _ _ _ _ _ _ us hl=>match us,hl with | [_,_],_=>rfl
  m_Desk_change_by:=rawm_of a4j (ps:=["self","word","words"]) fun _ _ _ _ _ _ us hl=>match us,hl with | [_,_,_],_=>rfl
  m_Desk_change_cell:=rawm_of a5j (ps:=["self","words"]) fun _ _ _ _ _ _ us hl=>match us,hl with | [_,_],_=>rfl
  m_Desk_filtered_field:=rawm_of a6j (ps:=["self"]) fun _ _ _ _ _ _ us hl=>match us,hl with | [_],_=>rfl
  m_Desk_lines_told:=rawm_of a7j (ps:=["self","word","words"]) fun _ _ _ _ _ _ us hl=>match us,hl with | [_,_,_],_=>rfl
  m_Desk_lines_at:=rawm_of a8j (ps:=["self","place"]) fun _ _ _ _ _ _ us hl=>match us,hl with | [_,_],_=>rfl
  n_len:=W.mg_none_of X G a9j
  n_all:=W.mg_none_of X G a0k
  n_max:=W.mg_none_of X G a1k
  n_min:=W.mg_none_of X G a2k
  n_tuple:=W.mg_none_of X G a3k
  n_list:=W.mg_none_of X G a4k
  n_int:=W.mg_none_of X G a5k
  n_str:=W.mg_none_of X G a6k
  n_isinstance:=W.mg_none_of X G a7k
  n_range:=W.mg_none_of X G a8k
  n_enumerate:=W.mg_none_of X G a9k
  n_sorted:=W.mg_none_of X G a0l
end Mw
namespace PySem.W.Fast
theorem tw10005562996324172488 : True := ⟨⟩
theorem tw10007563152449848872 : True := ⟨⟩
theorem tw1007842456273399236 : True := ⟨⟩
theorem tw10111392537675530041 : True := ⟨⟩
theorem tw10120498519267879253 : True := ⟨⟩
theorem tw10185076252260478982 : True := ⟨⟩
theorem tw1024500588601752670 : True := ⟨⟩
theorem tw10268031489950588615 : True := ⟨⟩
theorem tw1031956808018289966 : True := ⟨⟩
theorem tw10368599277216981719 : True := ⟨⟩
theorem tw10409873111557322850 : True := ⟨⟩
theorem tw10418650308540156448 : True := ⟨⟩
theorem tw10439955332874021698 : True := ⟨⟩
theorem tw10449265499432377927 : True := ⟨⟩
theorem tw10562461295821599549 : True := ⟨⟩
theorem tw10571297141300234802 : True := ⟨⟩
theorem tw10591928061041094968 : True := ⟨⟩
theorem tw10610538598022120782 : True := ⟨⟩
theorem tw10680527969521069685 : True := ⟨⟩
theorem tw10725509912322615086 : True := ⟨⟩
theorem tw10782640431749087609 : True := ⟨⟩
theorem tw10806046903443289781 : True := ⟨⟩
theorem tw10810894113707068329 : True := ⟨⟩
theorem tw10820938509567364285 : True := ⟨⟩
theorem tw10834806378657810804 : True := ⟨⟩
theorem tw1084085107204666280 : True := ⟨⟩
theorem tw108674297139804057 : True := ⟨⟩
theorem tw10872389298690535858 : True := ⟨⟩
theorem tw10906309351613893318 : True := ⟨⟩
theorem tw10922871269657719836 : True := ⟨⟩
theorem tw10969388993735555839 : True := ⟨⟩
theorem tw10976034026059735789 : True := ⟨⟩
theorem tw10985292537407127869 : True := ⟨⟩
theorem tw1099850771867972057 : True := ⟨⟩
theorem tw11039436067812681807 : True := ⟨⟩
theorem tw11042226080649982146 : True := ⟨⟩
theorem tw11058936275342531754 : True := ⟨⟩
theorem tw11060797906043799542 : True := ⟨⟩
theorem tw11097262554098812582 : True := ⟨⟩
theorem tw11159038501561152984 : True := ⟨⟩
theorem tw11160599950522142529 : True := ⟨⟩
theorem tw11183488227483086433 : True := ⟨⟩
theorem tw11183643102091691178 : True := ⟨⟩
theorem tw11195584343233234366 : True := ⟨⟩
theorem tw11217392103008947780 : True := ⟨⟩
theorem tw11246728033391964443 : True := ⟨⟩
theorem tw11250597752875176267 : True := ⟨⟩
theorem tw11274982003395466161 : True := ⟨⟩
theorem tw11406390718987533172 : True := ⟨⟩
theorem tw11422549900033447391 : True := ⟨⟩
theorem tw11478266557182133301 : True := ⟨⟩
theorem tw11561611674387888340 : True := ⟨⟩
theorem tw11563623746737043153 : True := ⟨⟩
theorem tw11598898540843413408 : True := ⟨⟩
theorem tw11611578618475134018 : True := ⟨⟩
theorem tw11651064704969953521 : True := ⟨⟩
theorem tw11678199206721254873 : True := ⟨⟩
theorem tw11684515111264450155 : True := ⟨⟩
theorem tw11694791591212163563 : True := ⟨⟩
theorem tw11749557558808499209 : True := ⟨⟩
theorem tw11770495913677062297 : True := ⟨⟩
theorem tw117804979464252840 : True := ⟨⟩
theorem tw11819817708936991939 : True := ⟨⟩
theorem tw11869369736039632927 : True := ⟨⟩
theorem tw11922888036784523039 : True := ⟨⟩
theorem tw11924502694906051105 : True := ⟨⟩
theorem tw11927685772451157065 : True := ⟨⟩
theorem tw11943691080844083713 : True := ⟨⟩
theorem tw1197548412944199764 : True := ⟨⟩
theorem tw12016015255331790533 : True := ⟨⟩
theorem tw12043895158209350775 : True := ⟨⟩
theorem tw12058802343313322761 : True := ⟨⟩
theorem tw12104866279273366836 : True := ⟨⟩
theorem tw12111072434836819293 : True := ⟨⟩
theorem tw12115927273550150008 : True := ⟨⟩
theorem tw1212075048943673398 : True := ⟨⟩
theorem tw12137851372975018414 : True := ⟨⟩
theorem tw12184031260033011273 : True := ⟨⟩
theorem tw12188850163011738717 : True := ⟨⟩
theorem tw12214819660924351381 : True := ⟨⟩
theorem tw12274008014998096689 : True := ⟨⟩
theorem tw12310370473080457759 : True := ⟨⟩
theorem tw1232689302517400190 : True := ⟨⟩
theorem tw12328002935622497250 : True := ⟨⟩
theorem tw12349803487374848375 : True := ⟨⟩
theorem tw12390778561399020248 : True := ⟨⟩
theorem tw12426044333357770334 : True := ⟨⟩
theorem tw1243129309416450801 : True := ⟨⟩
theorem tw12438900028925736630 : True := ⟨⟩
theorem tw12451744124256331372 : True := ⟨⟩
theorem tw12475011574905064290 : True := ⟨⟩
theorem tw12527810428199475801 : True := ⟨⟩
theorem tw1255872513161691834 : True := ⟨⟩
theorem tw12567935144287707191 : True := ⟨⟩
theorem tw12575953685719032282 : True := ⟨⟩
theorem tw12606230047473960797 : True := ⟨⟩
theorem tw12628109708758903645 : True := ⟨⟩
theorem tw12670051312330634187 : True := ⟨⟩
theorem tw12674646306657590602 : True := ⟨⟩
theorem tw12725940045221277782 : True := ⟨⟩
theorem tw12730108043612737919 : True := ⟨⟩
theorem tw12731244725501863546 : True := ⟨⟩
theorem tw12763010338244409690 : True := ⟨⟩
theorem tw12827772532160266435 : True := ⟨⟩
theorem tw12833101459589748127 : True := ⟨⟩
theorem tw128492491604087667 : True := ⟨⟩
theorem tw12955684805045111097 : True := ⟨⟩
theorem tw12976476262672797693 : True := ⟨⟩
theorem tw12979594006921377396 : True := ⟨⟩
theorem tw13009546320251733916 : True := ⟨⟩
theorem tw13030019412391641786 : True := ⟨⟩
theorem tw13066514127029221605 : True := ⟨⟩
theorem tw13089451111568122969 : True := ⟨⟩
theorem tw13090018516985212951 : True := ⟨⟩
theorem tw13162430202697393006 : True := ⟨⟩
theorem tw13167165978545765712 : True := ⟨⟩
theorem tw13197732917528229190 : True := ⟨⟩
theorem tw13242453533494590760 : True := ⟨⟩
theorem tw1324581755589610280 : True := ⟨⟩
theorem tw13268828558428921162 : True := ⟨⟩
theorem tw13296349665351396630 : True := ⟨⟩
theorem tw13301366331508128274 : True := ⟨⟩
theorem tw13367611608039220607 : True := ⟨⟩
theorem tw13389004330951567620 : True := ⟨⟩
theorem tw13423517167763887171 : True := ⟨⟩
theorem tw13495989991486877718 : True := ⟨⟩
theorem tw13497385508381240613 : True := ⟨⟩
theorem tw13504786351454637837 : True := ⟨⟩
theorem tw13547010059404378276 : True := ⟨⟩
theorem tw13574213060235479083 : True := ⟨⟩
theorem tw13593939648491491150 : True := ⟨⟩
theorem tw13604632989489706435 : True := ⟨⟩
theorem tw13604895112087009210 : True := ⟨⟩
theorem tw13614004487639439850 : True := ⟨⟩
theorem tw13629764092101401662 : True := ⟨⟩
theorem tw13691530819258945470 : True := ⟨⟩
theorem tw13726156226555231703 : True := ⟨⟩
theorem tw13831750216279463179 : True := ⟨⟩
theorem tw13838961279263919457 : True := ⟨⟩
theorem tw13849781546810831440 : True := ⟨⟩
theorem tw13858365466294384120 : True := ⟨⟩
theorem tw13891420023789254601 : True := ⟨⟩
theorem tw13908139345282860672 : True := ⟨⟩
theorem tw13908527452033193241 : True := ⟨⟩
theorem tw13937512959167934374 : True := ⟨⟩
theorem tw13950685162735277675 : True := ⟨⟩
theorem tw13985997128304297999 : True := ⟨⟩
theorem tw14010143134956005635 : True := ⟨⟩
theorem tw1401384089303784891 : True := ⟨⟩
theorem tw14024049766299439100 : True := ⟨⟩
theorem tw14043588751534196002 : True := ⟨⟩
theorem tw14078866812755760868 : True := ⟨⟩
theorem tw14080396474153957059 : True := ⟨⟩
theorem tw14127504298066511881 : True := ⟨⟩
theorem tw14167379000975727296 : True := ⟨⟩
theorem tw14176905417036454898 : True := ⟨⟩
theorem tw14205625267149295126 : True := ⟨⟩
theorem tw14217058284039857455 : True := ⟨⟩
theorem tw14248223598987224683 : True := ⟨⟩
theorem tw1426045300614159547 : True := ⟨⟩
theorem tw14282636552807052626 : True := ⟨⟩
theorem tw14302719147428085502 : True := ⟨⟩
theorem tw14327256047194217331 : True := ⟨⟩
theorem tw14344765509463579100 : True := ⟨⟩
theorem tw14350741155226711022 : True := ⟨⟩
theorem tw14427039038831495116 : True := ⟨⟩
theorem tw14443001853088736694 : True := ⟨⟩
theorem tw14447724291721104905 : True := ⟨⟩
theorem tw14456165587856182899 : True := ⟨⟩
theorem tw14496345164590468864 : True := ⟨⟩
theorem tw14501787734623307436 : True := ⟨⟩
theorem tw14565371862249453122 : True := ⟨⟩
theorem tw14654328824349750074 : True := ⟨⟩
theorem tw14739825261755770267 : True := ⟨⟩
theorem tw14754691225159194839 : True := ⟨⟩
theorem tw1477918253196343769 : True := ⟨⟩
theorem tw14785988637503854794 : True := ⟨⟩
theorem tw14827736987300087398 : True := ⟨⟩
theorem tw14885644522319441575 : True := ⟨⟩
theorem tw14955962840712408917 : True := ⟨⟩
theorem tw1499905258163911529 : True := ⟨⟩
theorem tw15035687717561862850 : True := ⟨⟩
theorem tw15068574526298599118 : True := ⟨⟩
theorem tw1507397834096868966 : True := ⟨⟩
theorem tw15081359271741568695 : True := ⟨⟩
theorem tw15087534372308220361 : True := ⟨⟩
theorem tw15114155124137740023 : True := ⟨⟩
theorem tw15114974237547709540 : True := ⟨⟩
theorem tw151482398882481351 : True := ⟨⟩
theorem tw15231797780916184994 : True := ⟨⟩
theorem tw15232190315489048472 : True := ⟨⟩
theorem tw15233347278719630298 : True := ⟨⟩
theorem tw15265210780973782285 : True := ⟨⟩
theorem tw1534555180160942238 : True := ⟨⟩
theorem tw1536114333495425115 : True := ⟨⟩
theorem tw15378412622121801167 : True := ⟨⟩
theorem tw15408083942614604816 : True := ⟨⟩
theorem tw15425843918121840739 : True := ⟨⟩
theorem tw15428339487545204968 : True := ⟨⟩
theorem tw15430155884069609699 : True := ⟨⟩
theorem tw15445146643806447861 : True := ⟨⟩
theorem tw15446815772765612411 : True := ⟨⟩
theorem tw15449429729934665304 : True := ⟨⟩
theorem tw15499162138258244313 : True := ⟨⟩
theorem tw15515832300422080990 : True := ⟨⟩
theorem tw15544112669513497398 : True := ⟨⟩
theorem tw15561524375756277501 : True := ⟨⟩
theorem tw15585303753335481289 : True := ⟨⟩
theorem tw15643868586710677282 : True := ⟨⟩
theorem tw15678465148644550814 : True := ⟨⟩
theorem tw15716787189932442300 : True := ⟨⟩
theorem tw1571709013550905000 : True := ⟨⟩
theorem tw15717668575610191542 : True := ⟨⟩
theorem tw15730911470007497494 : True := ⟨⟩
theorem tw15735343208999146307 : True := ⟨⟩
theorem tw15738193405268202673 : True := ⟨⟩
theorem tw15759803677018477155 : True := ⟨⟩
theorem tw1577817471161725891 : True := ⟨⟩
theorem tw15789086173296739560 : True := ⟨⟩
theorem tw15805665180727082473 : True := ⟨⟩
theorem tw15871990375503401046 : True := ⟨⟩
theorem tw15895119097414613559 : True := ⟨⟩
theorem tw15930163700116870797 : True := ⟨⟩
theorem tw15950854348823193829 : True := ⟨⟩
theorem tw15958496225006200794 : True := ⟨⟩
theorem tw15959594064915192604 : True := ⟨⟩
theorem tw15989421098992393351 : True := ⟨⟩
theorem tw1607044729048190528 : True := ⟨⟩
theorem tw16120310284237417716 : True := ⟨⟩
theorem tw16205263927762794754 : True := ⟨⟩
theorem tw16226446398758126973 : True := ⟨⟩
theorem tw1622645494610834408 : True := ⟨⟩
theorem tw16278148088981897931 : True := ⟨⟩
theorem tw1631490298040024220 : True := ⟨⟩
theorem tw16322596276679919363 : True := ⟨⟩
theorem tw16324165362165871937 : True := ⟨⟩
theorem tw16326350878511451771 : True := ⟨⟩
theorem tw16345937761049582319 : True := ⟨⟩
theorem tw16438571011289710992 : True := ⟨⟩
theorem tw16445234959678336027 : True := ⟨⟩
theorem tw16455571580859571870 : True := ⟨⟩
theorem tw16478986357762228205 : True := ⟨⟩
theorem tw16594401639114141080 : True := ⟨⟩
theorem tw16601578658219123496 : True := ⟨⟩
theorem tw1661747160683154001 : True := ⟨⟩
theorem tw16631930940803067723 : True := ⟨⟩
theorem tw16654605612325715769 : True := ⟨⟩
theorem tw16676472066288691838 : True := ⟨⟩
theorem tw16681569979602726123 : True := ⟨⟩
theorem tw16705482594213282075 : True := ⟨⟩
theorem tw16726768178014410812 : True := ⟨⟩
theorem tw1673070046894200009 : True := ⟨⟩
theorem tw16833583628754324408 : True := ⟨⟩
theorem tw16854607316612196136 : True := ⟨⟩
theorem tw16857121961006291708 : True := ⟨⟩
theorem tw16948283447581939054 : True := ⟨⟩
theorem tw16963160096545669974 : True := ⟨⟩
theorem tw16985149205697084881 : True := ⟨⟩
theorem tw1699563510708804461 : True := ⟨⟩
theorem tw17025826891560462836 : True := ⟨⟩
theorem tw17028443042737526472 : True := ⟨⟩
theorem tw17101318085650529704 : True := ⟨⟩
theorem tw17139656530114025037 : True := ⟨⟩
theorem tw171975347677802848 : True := ⟨⟩
theorem tw17224669135760540047 : True := ⟨⟩
theorem tw17246818824160989823 : True := ⟨⟩
theorem tw17281363691328152237 : True := ⟨⟩
theorem tw17283242199273321751 : True := ⟨⟩
theorem tw1730327000942379515 : True := ⟨⟩
theorem tw17353638196996343475 : True := ⟨⟩
theorem tw17411229159356229841 : True := ⟨⟩
theorem tw1742769929028210861 : True := ⟨⟩
theorem tw17448872665022891955 : True := ⟨⟩
theorem tw17465306400310210100 : True := ⟨⟩
theorem tw17486167522195292036 : True := ⟨⟩
theorem tw17574819106167569042 : True := ⟨⟩
theorem tw17631445263681226699 : True := ⟨⟩
theorem tw1763257629951418004 : True := ⟨⟩
theorem tw17650715427182259797 : True := ⟨⟩
theorem tw17652584958530010814 : True := ⟨⟩
theorem tw17684780006655340589 : True := ⟨⟩
theorem tw17718278482112904281 : True := ⟨⟩
theorem tw17736751903554295559 : True := ⟨⟩
theorem tw1774961267367094248 : True := ⟨⟩
theorem tw17786660710588280091 : True := ⟨⟩
theorem tw17873766991608882335 : True := ⟨⟩
theorem tw17876142924977134819 : True := ⟨⟩
theorem tw17916374399130730008 : True := ⟨⟩
theorem tw17937411482474188687 : True := ⟨⟩
theorem tw18083679771185238878 : True := ⟨⟩
theorem tw18090715149520674726 : True := ⟨⟩
theorem tw18102086011049863468 : True := ⟨⟩
theorem tw18216326933951814263 : True := ⟨⟩
theorem tw18236119428744892401 : True := ⟨⟩
theorem tw18382856322153666992 : True := ⟨⟩
theorem tw18440626588050872027 : True := ⟨⟩
theorem tw1875903620197885416 : True := ⟨⟩
theorem tw1895909077506907576 : True := ⟨⟩
theorem tw1901894094306443236 : True := ⟨⟩
theorem tw1920905135931385846 : True := ⟨⟩
theorem tw1939845354358841223 : True := ⟨⟩
theorem tw1959165247087281045 : True := ⟨⟩
theorem tw1959737319494071067 : True := ⟨⟩
theorem tw1997141061925348456 : True := ⟨⟩
theorem tw202409319212207072 : True := ⟨⟩
theorem tw2095496176396397357 : True := ⟨⟩
theorem tw2147154537908263680 : True := ⟨⟩
theorem tw2148774038541549270 : True := ⟨⟩
theorem tw2155033336749923684 : True := ⟨⟩
theorem tw2175331598069249480 : True := ⟨⟩
theorem tw2200280532906256822 : True := ⟨⟩
theorem tw2202063613877135432 : True := ⟨⟩
theorem tw2245851694628136888 : True := ⟨⟩
theorem tw2262306548821099853 : True := ⟨⟩
theorem tw2360246923465878384 : True := ⟨⟩
theorem tw2380289488855948467 : True := ⟨⟩
theorem tw2382031908881806891 : True := ⟨⟩
theorem tw2409458783763018166 : True := ⟨⟩
theorem tw2422357797492163161 : True := ⟨⟩
theorem tw2424962957520628709 : True := ⟨⟩
theorem tw2425036701340102698 : True := ⟨⟩
theorem tw2430123964518058554 : True := ⟨⟩
theorem tw2491138257651997088 : True := ⟨⟩
theorem tw2517939656437402941 : True := ⟨⟩
theorem tw264587502088577693 : True := ⟨⟩
theorem tw2653290458994426700 : True := ⟨⟩
theorem tw2689911626797766517 : True := ⟨⟩
theorem tw2729200880261622852 : True := ⟨⟩
theorem tw2738746420344120521 : True := ⟨⟩
theorem tw2773282176780470303 : True := ⟨⟩
theorem tw2788114446928768236 : True := ⟨⟩
theorem tw2801833097136259405 : True := ⟨⟩
theorem tw2841385827789662927 : True := ⟨⟩
theorem tw2906212425200426459 : True := ⟨⟩
theorem tw2931918381196406003 : True := ⟨⟩
theorem tw2936973816013170516 : True := ⟨⟩
theorem tw2947450656149231634 : True := ⟨⟩
theorem tw2962059115815918356 : True := ⟨⟩
theorem tw3048567167620546129 : True := ⟨⟩
theorem tw3061447909179908396 : True := ⟨⟩
theorem tw3128781462014497313 : True := ⟨⟩
theorem tw3199817986272831977 : True := ⟨⟩
theorem tw330992336172581724 : True := ⟨⟩
theorem tw3372462742318477804 : True := ⟨⟩
theorem tw3404975244221117673 : True := ⟨⟩
theorem tw3405699054204212783 : True := ⟨⟩
theorem tw3526032477166166029 : True := ⟨⟩
theorem tw3563611873909238961 : True := ⟨⟩
theorem tw3565027454234578411 : True := ⟨⟩
theorem tw365210358384708105 : True := ⟨⟩
theorem tw3663687093870557958 : True := ⟨⟩
theorem tw3668889764615329933 : True := ⟨⟩
theorem tw3749366307275126853 : True := ⟨⟩
theorem tw3780512897005316950 : True := ⟨⟩
theorem tw3798981677071961228 : True := ⟨⟩
theorem tw3812025864503342541 : True := ⟨⟩
theorem tw3831206304542304522 : True := ⟨⟩
theorem tw3861333731885517778 : True := ⟨⟩
theorem tw3881052350790675898 : True := ⟨⟩
theorem tw3886205347826449425 : True := ⟨⟩
theorem tw3919493973151649822 : True := ⟨⟩
theorem tw3925687955305320619 : True := ⟨⟩
theorem tw3933972941771953954 : True := ⟨⟩
theorem tw3948300304906323518 : True := ⟨⟩
theorem tw3959048794409045588 : True := ⟨⟩
theorem tw3993481619711103072 : True := ⟨⟩
theorem tw403116099811638053 : True := ⟨⟩
theorem tw4039557955963239996 : True := ⟨⟩
theorem tw404917503079292305 : True := ⟨⟩
theorem tw4068570361078211111 : True := ⟨⟩
theorem tw4081787312602431675 : True := ⟨⟩
theorem tw4151443016464414030 : True := ⟨⟩
theorem tw4198526605271590162 : True := ⟨⟩
theorem tw4284673610591763229 : True := ⟨⟩
theorem tw4288548135050890993 : True := ⟨⟩
theorem tw4299861171664380194 : True := ⟨⟩
theorem tw4352568051475071685 : True := ⟨⟩
theorem tw4357463009813811322 : True := ⟨⟩
theorem tw4395582098022052433 : True := ⟨⟩
theorem tw4407833540751241454 : True := ⟨⟩
theorem tw4410075487923486019 : True := ⟨⟩
theorem tw441372443504330271 : True := ⟨⟩
theorem tw4512052741295302683 : True := ⟨⟩
theorem tw451933962381448139 : True := ⟨⟩
theorem tw4529597880799158673 : True := ⟨⟩
theorem tw4535668315299930196 : True := ⟨⟩
theorem tw4556816583288436881 : True := ⟨⟩
theorem tw4597974718389646619 : True := ⟨⟩
theorem tw4605665521900575906 : True := ⟨⟩
theorem tw4694302699938811744 : True := ⟨⟩
theorem tw471969212632202209 : True := ⟨⟩
theorem tw4722971673654376524 : True := ⟨⟩
theorem tw4733375228689067952 : True := ⟨⟩
theorem tw4754927549659388591 : True := ⟨⟩
theorem tw477688591386243615 : True := ⟨⟩
theorem tw4781278898507734769 : True := ⟨⟩
theorem tw4795356456624339618 : True := ⟨⟩
theorem tw4805971482291655186 : True := ⟨⟩
theorem tw4914972778974229053 : True := ⟨⟩
theorem tw4942926109327513980 : True := ⟨⟩
theorem tw4964565705436859910 : True := ⟨⟩
theorem tw4984643799070125259 : True := ⟨⟩
theorem tw4997026763003621587 : True := ⟨⟩
theorem tw499946068133691242 : True := ⟨⟩
theorem tw5048041231389589209 : True := ⟨⟩
theorem tw5062693973444971215 : True := ⟨⟩
theorem tw5073307638382600991 : True := ⟨⟩
theorem tw5089699923012838695 : True := ⟨⟩
theorem tw5172992168669002899 : True := ⟨⟩
theorem tw5190181562740379865 : True := ⟨⟩
theorem tw5230631405615120207 : True := ⟨⟩
theorem tw5249371824568316061 : True := ⟨⟩
theorem tw5256263449595481545 : True := ⟨⟩
theorem tw5263257863415536356 : True := ⟨⟩
theorem tw528327086612702125 : True := ⟨⟩
theorem tw5303942132567486656 : True := ⟨⟩
theorem tw5325113326523876847 : True := ⟨⟩
theorem tw5419675489596009396 : True := ⟨⟩
theorem tw5459487267897572386 : True := ⟨⟩
theorem tw5480011522259041675 : True := ⟨⟩
theorem tw5499577551803298007 : True := ⟨⟩
theorem tw5508977267018243182 : True := ⟨⟩
theorem tw5526437269932188352 : True := ⟨⟩
theorem tw5542274396471581505 : True := ⟨⟩
theorem tw5581137190064969975 : True := ⟨⟩
theorem tw5611836305472618588 : True := ⟨⟩
theorem tw5615087769465856261 : True := ⟨⟩
theorem tw5646533893373429166 : True := ⟨⟩
theorem tw5673119553892716046 : True := ⟨⟩
theorem tw5686449026994148681 : True := ⟨⟩
theorem tw5711270015722576293 : True := ⟨⟩
theorem tw5735126234647124839 : True := ⟨⟩
theorem tw5784624550528795597 : True := ⟨⟩
theorem tw5821886387086624483 : True := ⟨⟩
theorem tw5835828338763809998 : True := ⟨⟩
theorem tw5853382488624274830 : True := ⟨⟩
theorem tw5873569364479367360 : True := ⟨⟩
theorem tw5910690108372911894 : True := ⟨⟩
theorem tw593266329181820405 : True := ⟨⟩
theorem tw5987765532858854951 : True := ⟨⟩
theorem tw6006588511023686439 : True := ⟨⟩
theorem tw604008199778813463 : True := ⟨⟩
theorem tw6056576771339455381 : True := ⟨⟩
theorem tw609936076484549482 : True := ⟨⟩
theorem tw6121250624450364910 : True := ⟨⟩
theorem tw6199644182994090274 : True := ⟨⟩
theorem tw621898281012115272 : True := ⟨⟩
theorem tw6235363408909642911 : True := ⟨⟩
theorem tw624024544599773034 : True := ⟨⟩
theorem tw6246457089538626256 : True := ⟨⟩
theorem tw6248146325472382327 : True := ⟨⟩
theorem tw6322705913720901868 : True := ⟨⟩
theorem tw6328337426582838312 : True := ⟨⟩
theorem tw6335660750438695312 : True := ⟨⟩
theorem tw6398026709477369735 : True := ⟨⟩
theorem tw645089629987447225 : True := ⟨⟩
theorem tw649805171783532696 : True := ⟨⟩
theorem tw6511985880208520054 : True := ⟨⟩
theorem tw6580096813450489744 : True := ⟨⟩
theorem tw6595647363720444776 : True := ⟨⟩
theorem tw6647090323742154686 : True := ⟨⟩
theorem tw6733707482313187431 : True := ⟨⟩
theorem tw6745712694578828631 : True := ⟨⟩
theorem tw6752466787273661631 : True := ⟨⟩
theorem tw675514698624385597 : True := ⟨⟩
theorem tw6775086946887678581 : True := ⟨⟩
theorem tw6805157799792091307 : True := ⟨⟩
theorem tw6940668814091622677 : True := ⟨⟩
theorem tw696252894690312830 : True := ⟨⟩
theorem tw6970732789696655379 : True := ⟨⟩
theorem tw6992068257633955796 : True := ⟨⟩
theorem tw7038355862064664129 : True := ⟨⟩
theorem tw7061630090334682862 : True := ⟨⟩
theorem tw7088420892317924757 : True := ⟨⟩
theorem tw7115779887903136510 : True := ⟨⟩
theorem tw7137052051425621802 : True := ⟨⟩
theorem tw7149557711500880030 : True := ⟨⟩
theorem tw7320377419770807439 : True := ⟨⟩
theorem tw7358599177731484563 : True := ⟨⟩
theorem tw7393536751974931071 : True := ⟨⟩
theorem tw7407936528931666967 : True := ⟨⟩
theorem tw7492821680024276119 : True := ⟨⟩
theorem tw7584527444692970246 : True := ⟨⟩
theorem tw760429209486658936 : True := ⟨⟩
theorem tw7604664069519726433 : True := ⟨⟩
theorem tw7670735474442792835 : True := ⟨⟩
theorem tw7691998068166841591 : True := ⟨⟩
theorem tw769587341788167237 : True := ⟨⟩
theorem tw7710349407697493574 : True := ⟨⟩
theorem tw7721280616952036370 : True := ⟨⟩
theorem tw7731596011259658764 : True := ⟨⟩
theorem tw7748670632389098096 : True := ⟨⟩
theorem tw780500754947158105 : True := ⟨⟩
theorem tw7811162659468352891 : True := ⟨⟩
theorem tw786169142862902789 : True := ⟨⟩
theorem tw792308902537013681 : True := ⟨⟩
theorem tw7923199813823537553 : True := ⟨⟩
theorem tw7931403873786866862 : True := ⟨⟩
theorem tw7939969077491950981 : True := ⟨⟩
theorem tw7948942780955890182 : True := ⟨⟩
theorem tw7950515571193331636 : True := ⟨⟩
theorem tw7955550751188942844 : True := ⟨⟩
theorem tw7964729810696429611 : True := ⟨⟩
theorem tw797167581637324346 : True := ⟨⟩
theorem tw8151090897950024846 : True := ⟨⟩
theorem tw8165966256783675643 : True := ⟨⟩
theorem tw8166714549546521782 : True := ⟨⟩
theorem tw8173567585838352043 : True := ⟨⟩
theorem tw821452041268580184 : True := ⟨⟩
theorem tw8225531909211092829 : True := ⟨⟩
theorem tw8227051940164729861 : True := ⟨⟩
theorem tw8285094573344697407 : True := ⟨⟩
theorem tw8299999124945736870 : True := ⟨⟩
theorem tw8305745382386904535 : True := ⟨⟩
theorem tw833239253608617976 : True := ⟨⟩
theorem tw8335278309006048613 : True := ⟨⟩
theorem tw8338950649603513332 : True := ⟨⟩
theorem tw8502823798563613542 : True := ⟨⟩
theorem tw8544846298273531353 : True := ⟨⟩
theorem tw8577502276147551051 : True := ⟨⟩
theorem tw8580594207404916115 : True := ⟨⟩
theorem tw8592690442900022752 : True := ⟨⟩
theorem tw859308479419571182 : True := ⟨⟩
theorem tw8714201336516884107 : True := ⟨⟩
theorem tw8718428968889710388 : True := ⟨⟩
theorem tw8721267537122758977 : True := ⟨⟩
theorem tw8761826629363258747 : True := ⟨⟩
theorem tw8779595228535856500 : True := ⟨⟩
theorem tw8893478621046412607 : True := ⟨⟩
theorem tw8917598896180774355 : True := ⟨⟩
theorem tw8920280706882615212 : True := ⟨⟩
theorem tw8973714633673108022 : True := ⟨⟩
theorem tw8990063630876824065 : True := ⟨⟩
theorem tw9043836000059978059 : True := ⟨⟩
theorem tw9082097674907100154 : True := ⟨⟩
theorem tw908465211291656847 : True := ⟨⟩
theorem tw9122257732979482192 : True := ⟨⟩
theorem tw9133326512517376721 : True := ⟨⟩
theorem tw9168183365294015033 : True := ⟨⟩
theorem tw919085804927763875 : True := ⟨⟩
theorem tw9191087930888094238 : True := ⟨⟩
theorem tw9234228973884094886 : True := ⟨⟩
theorem tw9258818333586322422 : True := ⟨⟩
theorem tw9259924419621122416 : True := ⟨⟩
theorem tw9301446822682920194 : True := ⟨⟩
theorem tw931288033526202466 : True := ⟨⟩
theorem tw9385934940288872971 : True := ⟨⟩
theorem tw9397164723711580632 : True := ⟨⟩
theorem tw9397560205600029588 : True := ⟨⟩
theorem tw9459253495628614840 : True := ⟨⟩
theorem tw9526403309195482472 : True := ⟨⟩
theorem tw9526775380389542267 : True := ⟨⟩
theorem tw9538874329962870170 : True := ⟨⟩
theorem tw9632795679027326356 : True := ⟨⟩
theorem tw9643407708711330183 : True := ⟨⟩
theorem tw9643819807261724709 : True := ⟨⟩
theorem tw9715020996015449266 : True := ⟨⟩
theorem tw973845923648305243 : True := ⟨⟩
theorem tw9738828108574498787 : True := ⟨⟩
theorem tw9797912248835329208 : True := ⟨⟩
theorem tw9812044005594224397 : True := ⟨⟩
theorem tw9815677686087765488 : True := ⟨⟩
theorem tw9830690809359624758 : True := ⟨⟩
theorem tw9862652119166147646 : True := ⟨⟩
theorem tw9878351700397186112 : True := ⟨⟩
theorem tw9901566717774053641 : True := ⟨⟩
theorem tw9915339530448936939 : True := ⟨⟩
theorem tw9971380416239676031 : True := ⟨⟩
end PySem.W.Fast
open PySem PySem.W PyProof.Rows
set_option maxHeartbeats 0 in
theorem PySem.Challenge.cw_midwindow_k34_desk_shows_holds : PySem.Challenge.rw_midwindow_k34_desk_shows.Holds := by
 w_on;o_law;k_head;(case hw=>w_witness2)
 k_fill
 refine L2.walk_df (l:=PySem.Challenge.rw_midwindow_k34_desk_shows) (k:=9) (st:=Mw.s_law) rfl rfl rfl ⟨rfl,by decide,by decide⟩ (fun w h Y=>W.kIn_of Y) (fun _ _ _ _ _ _ _=>rfl) ?F
 case F =>
  intro w mg h KX G
  have T:∃ C,Mw.Txt (L2.KOf KX) mg C:=by
   dsimp only [L2.KOf]
   refine' ⟨_,Mw.txt_mk KX G (Mw.raw_mk0 KX G ?h0 ?h1 ?h2 ?h3) (Mw.raw_mk0 KX G ?h4 ?h5 ?h6 ?h7) (Mw.raw_mk0 KX G ?h8 ?h9 ?h10 ?h11) (Mw.raw_mk0 KX G ?h12 ?h13 ?h14 ?h15) (Mw.raw_mk0 KX G ?h16 ?h17 ?h18 ?h19) (Mw.raw_mk0 KX G ?h20 ?h21 ?h22 ?h23) (Mw.raw_mk0 KX G ?h24 ?h25 ?h26 ?h27) (Mw.raw_mk0 KX G ?h28 ?h29 ?h30 ?h31) (Mw.raw_mk0 KX G ?h32 ?h33 ?h34 ?h35) (Mw.raw_mk0 KX G ?h36 ?h37 ?h38 ?h39) (Mw.raw_mk0 KX G ?h40 ?h41 ?h42 ?h43) (Mw.raw_mk0 KX G ?h44 ?h45 ?h46 ?h47) (Mw.raw_mk0 KX G ?h48 ?h49 ?h50 ?h51) (Mw.raw_mk0 KX G ?h52 ?h53 ?h54 ?h55) (Mw.raw_mk0 KX G ?h56 ?h57 ?h58 ?h59) (Mw.raw_mk0 KX G ?h60 ?h61 ?h62 ?h63) (Mw.raw_mk0 KX G ?h64 ?h65 ?h66 ?h67) (Mw.raw_mk0 KX G ?h68 ?h69 ?h70 ?h71) (Mw.raw_mk0 KX G ?h72 ?h73 ?h74 ?h75) (Mw.raw_mk0 KX G ?h76 ?h77 ?h78 ?h79) (Mw.raw_mk0 KX G ?h80 ?h81 ?h82 ?h83) (Mw.raw_mk0 KX G ?h84 ?h85 ?h86 ?h87) (Mw.raw_mk0 KX G ?h88 ?h89 ?h90 ?h91) (Mw.raw_mk0 KX G ?h92 ?h93 ?h94 ?h95) (Mw.raw_mk0 KX G ?h96 ?h97 ?h98 ?h99) (Mw.raw_mk0 KX G ?h100 ?h101 ?h102 ?h103) (Mw.raw_mk0 KX G ?h104 ?h105 ?h106 ?h107) (Mw.raw_mk0 KX G ?h108 ?h109 ?h110 ?h111) (Mw.raw_mk0 KX G ?h112 ?h113 ?h114 ?h115) (Mw.raw_mk0 KX G ?h116 ?h117 ?h118 ?h119) (Mw.raw_mk0 KX G ?h120 ?h121 ?h122 ?h123) (Mw.raw_mk0 KX G ?h124 ?h125 ?h126 ?h127) (Mw.raw_mk0 KX G ?h128 ?h129 ?h130 ?h131) (Mw.raw_mk0 KX G ?h132 ?h133 ?h134 ?h135) (Mw.raw_mk0 KX G ?h136 ?h137 ?h138 ?h139) (Mw.raw_mk0 KX G ?h140 ?h141 ?h142 ?h143) (Mw.raw_mk0 KX G ?h144 ?h145 ?h146 ?h147) (Mw.raw_mk0 KX G ?h148 ?h149 ?h150 ?h151) (Mw.raw_mk0 KX G ?h152 ?h153 ?h154 ?h155) (Mw.raw_mk0 KX G ?h156 ?h157 ?h158 ?h159) (Mw.raw_mk0 KX G ?h160 ?h161 ?h162 ?h163) (Mw.raw_mk0 KX G ?h164 ?h165 ?h166 ?h167) (Mw.raw_mk0 KX G ?h168 ?h169 ?h170 ?h171) (Mw.raw_mk0 KX G ?h172 ?h173 ?h174 ?h175) (Mw.raw_mk0 KX G ?h176 ?h177 ?h178 ?h179) (Mw.raw_mk0 KX G ?h180 ?h181 ?h182 ?h183) (Mw.raw_mk0 KX G ?h184 ?h185 ?h186 ?h187) (Mw.raw_mk0 KX G ?h188 ?h189 ?h190 ?h191) (Mw.raw_mk0 KX G ?h192 ?h193 ?h194 ?h195) ?a6g ?a7g ?a8g ?a9g ?a0h ?a1h ?a2h ?a3h ?a4h ?a5h ?a6h ?a7h ?a8h ?a9h ?a0i ?a1i ?a2i ?a3i ?a4i ?a5i ?a6i ?a7i ?aC ?pg ?hd ?po ?sa ?a8i ?a9i ?a0j ?a1j (Mw.rawi_mk0 ?h196 ?h197 ?h198 ?h199 ?h200 ?h201 ?h202) (Mw.rawm_mk0 ?h203 ?h204 ?h205 ?h206 ?h207) (Mw.rawm_mk0 ?h208 ?h209 ?h210 ?h211 ?h212) (Mw.rawm_mk0 ?h213 ?h214 ?h215 ?h216 ?h217) (Mw.rawm_mk0 ?h218 ?h219 ?h220 ?h221 ?h222) (Mw.rawm_mk0 ?h223 ?h224 ?h225 ?h226 ?h227) (Mw.rawm_mk0 ?h228 ?h229 ?h230 ?h231 ?h232) ?a9j ?a0k ?a1k ?a2k ?a3k ?a4k ?a5k ?a6k ?a7k ?a8k ?a9k ?a0l⟩
   (case h0=>k_is)
   (case h1=>k_is)
   (case h2=>k_is)
   (case h3=>k_is)
   (case h4=>k_is)
   (case h5=>k_is)
   (case h6=>k_is)
   (case h7=>k_is)
   (case h8=>k_is)
   (case h9=>k_is)
   (case h10=>k_is)
   (case h11=>k_is)
   (case h12=>k_is)
   (case h13=>k_is)
   (case h14=>k_is)
   (case h15=>k_is)
   (case h16=>k_is)
   (case h17=>k_is)
   (case h18=>k_is)
   (case h19=>k_is)
   (case h20=>k_is)
   (case h21=>k_is)
   (case h22=>k_is)
   (case h23=>k_is)
   (case h24=>k_is)
   (case h25=>k_is)
   (case h26=>k_is)
   (case h27=>k_is)
   (case h28=>k_is)
   (case h29=>k_is)
   (case h30=>k_is)
   (case h31=>k_is)
   (case h32=>k_is)
   (case h33=>k_is)
   (case h34=>k_is)
   (case h35=>k_is)
   (case h36=>k_is)
   (case h37=>k_is)
   (case h38=>k_is)
   (case h39=>k_is)
   (case h40=>k_is)
   (case h41=>k_is)
   (case h42=>k_is)
   (case h43=>k_is)
   (case h44=>k_is)
   (case h45=>k_is)
   (case h46=>k_is)
   (case h47=>k_is)
   (case h48=>k_is)
   (case h49=>k_is)
   (case h50=>k_is)
   (case h51=>k_is)
   (case h52=>k_is)
   (case h53=>k_is)
   (case h54=>k_is)
   (case h55=>k_is)
   (case h56=>k_is)
   (case h57=>k_is)
   (case h58=>k_is)
   (case h59=>k_is)
   (case h60=>k_is)
   (case h61=>k_is)
   (case h62=>k_is)
   (case h63=>k_is)
   (case h64=>k_is)
   (case h65=>k_is)
   (case h66=>k_is)
   (case h67=>k_is)
   (case h68=>k_is)
   (case h69=>k_is)
   (case h70=>k_is)
   (case h71=>k_is)
   (case h72=>k_is)
   (case h73=>k_is)
   (case h74=>k_is)
   (case h75=>k_is)
   (case h76=>k_is)
   (case h77=>k_is)
   (case h78=>k_is)
   (case h79=>k_is)
   (case h80=>k_is)
   (case h81=>k_is)
   (case h82=>k_is)
   (case h83=>k_is)
   (case h84=>k_is)
   (case h85=>k_is)
   (case h86=>k_is)
   (case h87=>k_is)
   (case h88=>k_is)
   (case h89=>k_is)
   (case h90=>k_is)
   (case h91=>k_is)
   (case h92=>k_is)
   (case h93=>k_is)
   (case h94=>k_is)
   (case h95=>k_is)
   (case h96=>k_is)
   (case h97=>k_is)
   (case h98=>k_is)
   (case h99=>k_is)
   (case h100=>k_is)
   (case h101=>k_is)
   (case h102=>k_is)
   (case h103=>k_is)
   (case h104=>k_is)
   (case h105=>k_is)
   (case h106=>k_is)
   (case h107=>k_is)
   (case h108=>k_is)
   (case h109=>k_is)
   (case h110=>k_is)
   (case h111=>k_is)
   (case h112=>k_is)
   (case h113=>k_is)
   (case h114=>k_is)
   (case h115=>k_is)
   (case h116=>k_is)
   (case h117=>k_is)
   (case h118=>k_is)
   (case h119=>k_is)
   (case h120=>k_is)
   (case h121=>k_is)
   (case h122=>k_is)
   (case h123=>k_is)
   (case h124=>k_is)
   (case h125=>k_is)
   (case h126=>k_is)
   (case h127=>k_is)
   (case h128=>k_is)
   (case h129=>k_is)
   (case h130=>k_is)
   (case h131=>k_is)
   (case h132=>k_is)
   (case h133=>k_is)
   (case h134=>k_is)
   (case h135=>k_is)
   (case h136=>k_is)
   (case h137=>k_is)
   (case h138=>k_is)
   (case h139=>k_is)
   (case h140=>k_is)
   (case h141=>k_is)
   (case h142=>k_is)
   (case h143=>k_is)
   (case h144=>k_is)
   (case h145=>k_is)
   (case h146=>k_is)
   (case h147=>k_is)
   (case h148=>k_is)
   (case h149=>k_is)
   (case h150=>k_is)
   (case h151=>k_is)
   (case h152=>k_is)
   (case h153=>k_is)
   (case h154=>k_is)
   (case h155=>k_is)
   (case h156=>k_is)
   (case h157=>k_is)
   (case h158=>k_is)
   (case h159=>k_is)
   (case h160=>k_is)
   (case h161=>k_is)
   (case h162=>k_is)
   (case h163=>k_is)
   (case h164=>k_is)
   (case h165=>k_is)
   (case h166=>k_is)
   (case h167=>k_is)
   (case h168=>k_is)
   (case h169=>k_is)
   (case h170=>k_is)
   (case h171=>k_is)
   (case h172=>k_is)
   (case h173=>k_is)
   (case h174=>k_is)
   (case h175=>k_is)
   (case h176=>k_is)
   (case h177=>k_is)
   (case h178=>k_is)
   (case h179=>k_is)
   (case h180=>k_is)
   (case h181=>k_is)
   (case h182=>k_is)
   (case h183=>k_is)
   (case h184=>k_is)
   (case h185=>k_is)
   (case h186=>k_is)
   (case h187=>k_is)
   (case h188=>k_is)
   (case h189=>k_is)
   (case h190=>k_is)
   (case h191=>k_is)
   (case h192=>k_is)
   (case h193=>k_is)
   (case h194=>k_is)
   (case h195=>k_is)
   (case a6g=>k_is)
   (case a7g=>exact ⟨_,rfl⟩)
   (case a8g=>k_is)
   (case a9g=>exact ⟨_,rfl⟩)
   (case a0h=>k_is)
   (case a1h=>exact ⟨_,rfl⟩)
   (case a2h=>k_is)
   (case a3h=>exact ⟨_,rfl⟩)
   (case a4h=>k_is)
   (case a5h=>exact ⟨_,rfl⟩)
   (case a6h=>k_is)
   (case a7h=>exact ⟨_,rfl⟩)
   (case a8h=>k_is)
   (case a9h=>exact ⟨_,rfl⟩)
   (case a0i=>k_is)
   (case a1i=>k_is)
   (case a2i=>exact .cons ⟨_,rfl⟩ (.cons ⟨_,rfl⟩ (.cons ⟨_,rfl⟩ (.cons ⟨_,rfl⟩ (.nil)))))
   (case a3i=>decide)
   (case a4i=>k_is)
   (case a5i=>k_is)
   (case a6i=>exact .cons ⟨_,rfl⟩ (.cons ⟨_,rfl⟩ (.cons ⟨_,rfl⟩ (.cons ⟨_,rfl⟩ (.cons ⟨_,rfl⟩ (.nil))))))
   (case a7i=>decide)
   (case aC=>k_is)
   (case pg=>k_is)
   (case hd=>k_is)
   (case po=>k_is)
   (case sa=>k_is)
   (case a8i=>k_is)
   (case a9i=>k_is)
   (case a0j=>k_is)
   (case a1j=>k_is)
   (case h196=>k_is)
   (case h197=>k_is)
   (case h198=>k_is)
   (case h199=>k_is)
   (case h200=>k_is)
   (case h201=>k_is)
   (case h202=>k_is)
   (case h203=>k_is)
   (case h204=>k_is)
   (case h205=>k_is)
   (case h206=>k_is)
   (case h207=>k_is)
   (case h208=>k_is)
   (case h209=>k_is)
   (case h210=>k_is)
   (case h211=>k_is)
   (case h212=>k_is)
   (case h213=>k_is)
   (case h214=>k_is)
   (case h215=>k_is)
   (case h216=>k_is)
   (case h217=>k_is)
   (case h218=>k_is)
   (case h219=>k_is)
   (case h220=>k_is)
   (case h221=>k_is)
   (case h222=>k_is)
   (case h223=>k_is)
   (case h224=>k_is)
   (case h225=>k_is)
   (case h226=>k_is)
   (case h227=>k_is)
   (case h228=>k_is)
   (case h229=>k_is)
   (case h230=>k_is)
   (case h231=>k_is)
   (case h232=>k_is)
   (case a9j=>k_is)
   (case a0k=>k_is)
   (case a1k=>k_is)
   (case a2k=>k_is)
   (case a3k=>k_is)
   (case a4k=>k_is)
   (case a5k=>k_is)
   (case a6k=>k_is)
   (case a7k=>k_is)
   (case a8k=>k_is)
   (case a9k=>k_is)
   (case a0l=>k_is)
  obtain ⟨C,T⟩:=T
  exact ⟨T.d_law,fun base=>Mw.df_law T⟩
