import PyProof.Rows.All
import Wide.All
import OpenK.AllK
import Wide.FinOn
import Lean
import PyProof.EqAt
import PyProof.EqKinds
import PyProof.TupleCall
import KE.LcSums
import PyProof.RulesAs
import PyProof.NsDelKeeps
import PyProof.Rows.Catch
import OpenK.KOwn
import KE.KTryMore
import PyProof.ExcArgs
import KE.KUnpack
import PyProof.P3In
import PyProof.Rows.SortRuns
import PyProof.Rows.SortShell
import PyProof.TupleOfSeq
import PyProof.SetKind
import PyProof.Rows.SetFrom
import PyProof.WalksMore
import PyProof.DictIter
import PyProof.SetRoads
import KE.KDictSum
import KE.KSortedM
import KE.KIntText
import PyProof.StrWalks
import PyProof.EnumMake
import PyProof.EnumStmt
import PyProof.SliceStr2
import PyProof.StrLawsTight
import PyProof.StrLawsChain
import PyProof.ZipIter
import KE.KPairComp
import PyProof.DictItems
import PyProof.DictWalks
import PyProof.SumAny
import KE.KFind
import PyProof.EnumIter
import PyProof.ListMulAny
import PyProof.FactsAll.tuple
import PyProof.P3Eq
import PyProof.TupleKey
import PyProof.FactsAll.NoneType
import PyProof.DictRoadsH
import PyProof.Rows.TupDisplay
import KE.KSortTup
import PyProof.InstStoreFacts
import PyProof.ExcInit
import PyProof.LayNew
import OpenK.KCls
import PySem.Challenge.RW_midwindow_k33_whole_changes_in_any_order
set_option Elab.async false
set_option linter.all false
set_option maxRecDepth 100000
set_option maxHeartbeats 4000000
namespace L2
open PySem PySem.Spec PyProof.Rows
abbrev Key:=Sum Int Str
def keyIs:Key→Value→Bool
  | .inl k,v=>Value.isInt k v
  | .inr x,v=>Value.isStrOf x v
def keyH (w:World):Key→Int
  | .inl k=>hashInt k
  | .inr x=>hashStr w x
theorem keyIs_shape:∀ {k:Key} {v:Value},keyIs k v=true→(∃ i t,k=Sum.inl i∧v=Value.int i t) ∨ (∃ x t,k=Sum.inr x∧v=Value.str x t)
  | .inl i,v,h=>by
    obtain ⟨t,e⟩:=Value.isInt_shape (k:=i) (v:=v) h
    exact .inl ⟨i,t,rfl,e⟩
  | .inr x,v,h=>by
    obtain ⟨t,e⟩:=Value.isStrOf_shape (x:=x) (v:=v) h
    exact .inr ⟨x,t,rfl,e⟩
theorem key_ll (a b:Int):decide ((Sum.inl a:Key)=Sum.inl b)=(a == b):=by
  by_cases e:a=b
  · subst e;simp
  · have h:¬ (Sum.inl a:Key)=Sum.inl b:=fun q=>e (Sum.inl.inj q)
    rw [decide_eq_false h]
    exact (beq_eq_false_iff_ne.mpr e).symm
theorem key_rr (a b:Str):decide ((Sum.inr a:Key)=Sum.inr b)=decide (a=b):=by
  by_cases e:a=b
  · subst e;simp
  · have h:¬ (Sum.inr a:Key)=Sum.inr b:=fun q=>e (Sum.inr.inj q)
    rw [decide_eq_false h,decide_eq_false e]
theorem key_lr (a:Int)(b:Str):decide ((Sum.inl a:Key)=Sum.inr b)=false:=decide_eq_false (fun q=>nomatch q)
theorem key_rl (a:Str)(b:Int):decide ((Sum.inr a:Key)=Sum.inl b)=false:=decide_eq_false (fun q=>nomatch q)
def mixKind (prog:Program)(w:World):PySem.KeyKind prog w Key where
  is:=keyIs
  hash:=keyH w
  inj:=fun v a b ha hb=>by
    rcases keyIs_shape ha with ⟨i,t,rfl,rfl⟩ | ⟨x,t,rfl,rfl⟩
    · rcases keyIs_shape hb with ⟨j,u,rfl,e⟩ | ⟨y,u,rfl,e⟩
      · injection e with e1 _;rw [e1]
      · exact nomatch e
    · rcases keyIs_shape hb with ⟨j,u,rfl,e⟩ | ⟨y,u,rfl,e⟩
      · exact nomatch e
      · injection e with e1 _;rw [e1]
  byValue:=fun k v h=>by
    rcases keyIs_shape h with ⟨i,t,rfl,rfl⟩ | ⟨x,t,rfl,rfl⟩ <;> rfl
  pyHash:=fun hv h=>by
    rcases keyIs_shape hv with ⟨i,t,rfl,rfl⟩ | ⟨x,t,rfl,rfl⟩
    · exact wpAny_pyHash_int h
    · exact wpAny_pyHash_str h
  eqBool:=fun hu hv h=>by
    rcases keyIs_shape hu with ⟨i,t,rfl,rfl⟩ | ⟨x,t,rfl,rfl⟩
    · rcases keyIs_shape hv with ⟨j,u,rfl,rfl⟩ | ⟨y,u,rfl,rfl⟩
      · rw [key_ll] at h;exact wpAny_eqBool_int h
      · rw [key_lr] at h;exact SeqAt.EqAt.int_str i t y u _ _ _ _ h
    · rcases keyIs_shape hv with ⟨j,u,rfl,rfl⟩ | ⟨y,u,rfl,rfl⟩
      · rw [key_rl] at h;exact SeqAt.EqAt.str_int x t j u _ _ _ _ h
      · rw [key_rr] at h;exact wpAny_eqBool_str h
  «strs»:=fun k x t v h=>by
    rcases keyIs_shape h with ⟨i,u,rfl,e⟩ | ⟨y,u,rfl,e⟩
    · exact nomatch e
    · injection e with e1 _
      subst e1
      cases v <;> rfl
end L2
namespace L2
open PySem PySem.Spec PyProof.Rows
inductive V where
  | non | bl (b:Bool) | int (i:Int) | str (x:Str) | byt (b:Array UInt8) | flt (b:UInt64) | ref (a:Addr) | ty (n:String)
  deriving DecidableEq
def RelV:V→Value→Prop
  | .non,u=>u=Value.none
  | .bl b,u=>u=Value.bool b
  | .int i,u=>∃ t,u=Value.int i t
  | .str x,u=>∃ t,u=Value.str x t
  | .byt b,u=>∃ t,u=Value.bytes b t
  | .flt b,u=>∃ t,u=Value.float b t
  | .ref a,u=>u=Value.ref a
  | .ty n,u=>u=Value.type n
abbrev Vals:List V→List Value→Prop:=Paired RelV
theorem Vals.length {xs:List V}{us:List Value}(r:Vals xs us):xs.length=us.length:=Paired.length r
theorem Vals.get:∀ {xs:List V} {us:List Value} {i:Nat} {x:V},Vals xs us→xs[i]? = some x→∃ u,us[i]? = some u∧RelV x u
  | _,_,_,_,.nil,e=>by simp at e
  | _,_,0,_,.cons r _,e=>by simp at e;subst e;exact ⟨_,rfl,r⟩
  | _,_,i + 1,x,.cons _ t,e=>by
    obtain ⟨u,h1,h2⟩:=Vals.get (i:=i) (x:=x) t (by simpa using e)
    exact ⟨u,by simpa using h1,h2⟩
theorem Vals.set {x:V}{u:Value}(r:RelV x u):∀ {xs:List V} {us:List Value} (i:Nat),Vals xs us→Vals (xs.set i x) (us.set i u)
  | _,_,_,.nil=>.nil
  | _,_,0,.cons _ t=>.cons r t
  | _,_,i + 1,.cons q t=>.cons q (Vals.set r i t)
theorem Vals.append:∀ {xs ys:List V} {us ws:List Value},Vals xs us→Vals ys ws→Vals (xs ++ ys) (us ++ ws)
  | _,_,_,_,.nil,s=>s
  | _,_,_,_,.cons r t,s=>.cons r (Vals.append t s)
theorem Vals.take:∀ {xs:List V} {us:List Value} (n:Nat),Vals xs us→Vals (xs.take n) (us.take n)
  | _,_,0,_=>.nil
  | _,_,_ + 1,.nil=>.nil
  | _,_,n + 1,.cons r t=>.cons r (Vals.take n t)
theorem Vals.drop:∀ {xs:List V} {us:List Value} (n:Nat),Vals xs us→Vals (xs.drop n) (us.drop n)
  | _,_,0,r=>r
  | _,_,_ + 1,.nil=>.nil
  | _,_,n + 1,.cons _ t=>Vals.drop n t
def RelO:Option V→Option Value→Prop
  | some v,some u=>RelV v u
  | none,none=>True
  | _,_=>False
def KV {κ:Type}:List (κ × V)→List (κ × Value)→Prop:=Paired fun (p:κ × V) (q:κ × Value)=>p.1=q.1 ∧ RelV p.2 q.2
def kV:Key→V
  | .inl i=>.int i
  | .inr x=>.str x
inductive HO where
  /-- a list -/
  | lst (xs:List V)
  /-- a tuple (never changes) -/
  | tup (xs:List V)
  /-- a dict whose keys are ints and texts;one whose keys are tuples of ints and texts (the empty one is both) -/
  | dK (kvs:List (Key × V)) | dT (kvs:List (List Key × V))
  /-- a set of ints: its members,its size -/
  | set (S:Int→Bool) (n:Nat)
  /-- an instance of the class at C,its dict at dx,its attributes -/
  | ins (C dx:Addr) (fs:List (Str × V))
  /-- the dict of the instance at x -/
  | own (x:Addr)
  /-- the dict of an exception -/
  | xd (fs:List (Str × V))
  /-- a bound method,f of x -/
  | met (f x:Addr)
  /-- a range object lo,lo + 1,.. below hi -/
  | rng (lo hi:Int)
  /-- a thing that is known to the object (the script;a dict while a loop walks it): read,never written while it is so -/
  | frz (o:Obj) (u:HO)
  /-- a code object's table -/
  | tbl (ps:Array Value)
  /-- any other thing,by what is true of its one object (a def of one's own: SetO a S n:=HO.ext fun h=>..) -/
  | ext (φ:Heap→Prop)
abbrev Hp:=Addr→Option HO
def upd (H:Hp)(a:Addr)(o:HO):Hp:=fun b=>if b=a then some o else H b
theorem upd_same {H:Hp}{a:Addr}{o:HO}:upd H a o a=some o:=by unfold upd;rw [if_pos rfl]
theorem upd_ne {H:Hp}{a b:Addr}{o:HO}(h:b≠a):upd H a o b=H b:=by unfold upd;rw [if_neg h]
theorem ne_of {H:Hp}{a b:Addr}{o u:HO}(h:H a=some o)(h':H b=some u)(d:o≠u):a≠b:=by
  intro e;subst e;rw [h] at h';exact d (Option.some.inj h')
theorem ne_of_none {H:Hp}{a b:Addr}{o:HO}(h:H a=some o)(h':H b=none):a≠b:=by
  intro e;subst e;rw [h] at h';cases h'
section
variable (P:Program)(w:World)
def ObjOk (H:Hp)(h:Heap)(a:Addr):HO→Prop
  | .lst xs=>xs.length ≤ sizeLine∧∃ (its:List Value) (n:Nat),Vals xs its∧h.get? a=some { cls:=.type "list",data:=.seq its.toArray n }
  | .tup xs=>xs.length ≤ sizeLine∧∃ its:List Value,Vals xs its∧IsTup h a its.toArray
  | .dK kvs=>kvs.length ≤ sizeLine∧(a == sysModules)=false∧∃ vs,KV kvs vs∧h.DictOf (mixKind P w) a vs
  | .dT kvs=>kvs.length ≤ sizeLine∧(a == sysModules)=false∧∃ xs:List (List Key × Addr × Value),
      Paired (fun (p:List Key × V) (q:List Key × Addr × Value)=>p.1=q.1 ∧ H q.2.1=some (.tup (p.1.map kV))∧RelV p.2 q.2.2) kvs xs ∧
      ∃ o es ep,h.get? a=some o∧o.ExactDict ∧ o.data = .dict es ep∧es.toList=xs.map (entryOfKey (tupleKind (mixKind P w)))∧(xs.map (·.1)).Nodup
  | .set S n=>h.SetOf (intKind P w) a S n
  | .ins C dx fs=>H dx=some (.own a)∧fs.length ≤ 1000∧dx≠a∧h.get? a=some (PySem.W.instObj C dx) ∧
      ∃ mA,h.Ns1 dx mA∧(∀ f,RelO (fs.lookup f) (mA f))∧PySem.Within mA (fs.map (·.1))
  | .own _=>∃ o,h.get? a=some o
  | .xd fs=>∃ mA,h.Ns1 a mA∧∀ f,RelO (fs.lookup f) (mA f)
  | .rng lo hi=>∃ t u v,h.get? a=some { cls:=.type "range",data:=.fields #[.int lo t,.int hi u,.int 1 v] }
  | .frz o u=>h.get? a=some o∧ObjOk H h a u
  | .tbl ps=>h.get? a=some { cls:=.none,data:=.fields ps }
  | .met f x=>h.get? a=some (PySem.W.methodObj (.ref f) (.ref x))
  | .ext φ=>φ h∧(∃ o,h.get? a=some o)∧∀ h1 h2:Heap,φ h1→(∀ o,h1.get? a=some o→h2.get? a=some o)→φ h2
def HOk (H:Hp)(h:Heap):Prop:=∀ a o,H a=some o→ObjOk P w H h a o
end
section
variable {P:Program}{w:World}{H H':Hp}{h h':Heap}{a:Addr}{o:HO}
theorem ObjOk.lt (x:ObjOk P w H h a o):a < h.objs.size:=by
  cases o with
  | lst xs=>obtain ⟨_,_,_,_,e⟩:=x;exact Heap.lt_size e
  | tup xs=>obtain ⟨_,_,_,p⟩:=x;exact p.lt
  | dK kvs=>obtain ⟨_,_,_,_,o,_,_,e,_⟩:=x;exact Heap.lt_size e
  | dT kvs=>obtain ⟨_,_,_,_,o,_,_,e,_⟩:=x;exact Heap.lt_size e
  | set S n=>obtain ⟨o,_,_,_,e,_⟩:=x;exact Heap.lt_size e
  | ins C dx fs=>obtain ⟨_,_,_,e,_⟩:=x;exact Heap.lt_size e
  | own y=>obtain ⟨_,e⟩:=x;exact Heap.lt_size e
  | xd fs=>obtain ⟨_,⟨_,_,_,e,_⟩,_⟩:=x;exact Heap.lt_size e
  | rng lo hi=>obtain ⟨_,_,_,e⟩:=x;exact Heap.lt_size e
  | frz ob u=>obtain ⟨e,_⟩:=x;exact Heap.lt_size e
  | tbl ps=>exact Heap.lt_size (show h.get? a=some _ from x)
  | met f y=>exact Heap.lt_size (show h.get? a=some _ from x)
  | ext φ=>obtain ⟨_,⟨_,e⟩,_⟩:=x;exact Heap.lt_size e
theorem Paired.mapP {α β:Type}{F G:α→β→Prop}:∀ {l₁:List α} {l₂:List β},Paired F l₁ l₂→(∀ a b,F a b→G a b)→Paired G l₁ l₂
  | _,_,.nil,_=>.nil
  | _,_,.cons r t,f=>.cons (f _ _ r) (Paired.mapP t f)
theorem ObjOk.stay (x:ObjOk P w H h a o)(k:∀ b u,(b=a ∨ H b=some (.own a))→h.get? b=some u→h'.get? b=some u)
    (ho:∀ b,H b=some (.own a)→H' b=some (.own a)) (ht:∀ b xs,H b=some (.tup xs)→H' b=some (.tup xs)):ObjOk P w H' h' a o:=by
  induction o with
  | lst xs=>obtain ⟨z,its,n,r,e⟩:=x;exact ⟨z,its,n,r,k _ _ (.inl rfl) e⟩
  | tup xs=>obtain ⟨z,its,r,ob,e,c⟩:=x;exact ⟨z,its,r,ob,k _ _ (.inl rfl) e,c⟩
  | dK kvs=>obtain ⟨z,y,vs,r,ob,es,ep,e,c⟩:=x;exact ⟨z,y,vs,r,ob,es,ep,k _ _ (.inl rfl) e,c⟩
  | dT kvs =>
    obtain ⟨z,y,xs,r,ob,es,ep,e,c⟩:=x
    exact ⟨z,y,xs,Paired.mapP r fun p q z=>⟨z.1,ht _ _ z.2.1,z.2.2⟩,ob,es,ep,k _ _ (.inl rfl) e,c⟩
  | set S n=>obtain ⟨ob,es,ep,t,e,c⟩:=x;exact ⟨ob,es,ep,t,k _ _ (.inl rfl) e,c⟩
  | ins C dx fs =>
    obtain ⟨d,z,ne,e,mA,⟨od,es,ep,e2,c⟩,r⟩:=x
    exact ⟨ho _ d,z,ne,k _ _ (.inl rfl) e,mA,⟨od,es,ep,k _ _ (.inr d) e2,c⟩,r⟩
  | own y=>obtain ⟨ob,e⟩:=x;exact ⟨ob,k _ _ (.inl rfl) e⟩
  | xd fs=>obtain ⟨mA,⟨od,es,ep,e,c⟩,r⟩:=x;exact ⟨mA,⟨od,es,ep,k _ _ (.inl rfl) e,c⟩,r⟩
  | rng lo hi=>obtain ⟨t,u,v,e⟩:=x;exact ⟨t,u,v,k _ _ (.inl rfl) e⟩
  | frz ob u ih=>obtain ⟨e,q⟩:=x;exact ⟨k _ _ (.inl rfl) e,ih q⟩
  | tbl ps =>
    have e:h.get? a=some { cls:=.none,data:=.fields ps }:=x
    show h'.get? a=some { cls:=.none,data:=.fields ps }
    exact k a _ (.inl rfl) e
  | met f y =>
    have e:h.get? a=some (PySem.W.methodObj (.ref f) (.ref y)):=x
    show h'.get? a=some (PySem.W.methodObj (.ref f) (.ref y))
    exact k a _ (.inl rfl) e
  | ext φ=>obtain ⟨p,⟨o,e⟩,st⟩:=x;exact ⟨st _ _ p fun o q=>k _ _ (.inl rfl) q,⟨o,k _ _ (.inl rfl) e⟩,st⟩
theorem HOk.lt (x:HOk P w H h)(e:H a=some o):a < h.objs.size:=(x a o e).lt
theorem HOk.fresh (x:HOk P w H h)(e:h.objs.size ≤ a):H a=none:=by
  cases q:H a with
  | none=>rfl
  | some u=>exact absurd (Nat.lt_of_lt_of_le (x.lt q) e) (Nat.lt_irrefl _)
theorem HOk.kept (x:HOk P w H h)(k:∀ b u,h.get? b=some u→h'.get? b=some u):HOk P w H h':=fun a o e =>
  (x a o e).stay (fun b u _ q=>k b u q) (fun _ q=>q) fun _ _ q=>q
theorem HOk.laid (x:HOk P w H h)(k:∀ b u,h.get? b=some u→h'.get? b=some u)(hp:h.objs.size ≤ a)(new:ObjOk P w (upd H a o) h' a o):HOk P w (upd H a o) h':=fun b u e=>by
  have hn:=x.fresh hp
  by_cases hb:b=a
  · subst hb;rw [upd_same] at e;cases e;exact new
  · rw [upd_ne hb] at e
    exact (x b u e).stay (fun c v _ q=>k c v q) (fun c q=>by rw [upd_ne (ne_of_none q hn)];exact q) fun c xs q=>by rw [upd_ne (ne_of_none q hn)];exact q
end
def Rd (H:Hp)(a:Addr)(u:HO):Prop:=H a=some u ∨ ∃ o,H a=some (.frz o u)
theorem Rd.ok {P:Program}{w:World}{H:Hp}{h:Heap}{a:Addr}{u:HO}(r:Rd H a u)(x:HOk P w H h):ObjOk P w H h a u:=by
  rcases r with r | ⟨o,r⟩
  · exact x a u r
  · obtain ⟨_,q⟩:=x a _ r
    exact q
def Mut:Option HO→Prop
  | some (.lst _)=>True
  | some (.dK _)=>True
  | some (.dT _)=>True
  | some (.set _ _)=>True
  | some (.ins _ _ _)=>True
  | some (.ext _)=>True
  | _=>False
section
variable {P:Program}{w:World}{H:Hp}{h h':Heap}{x e:Addr}{o':HO}
theorem HOk.write (ok:HOk P w H h)(mu:Mut (H x))(he:e=x ∨ H e=some (.own x))(k:∀ b u,b≠e→h.get? b=some u→h'.get? b=some u)(heo:∃ u,h'.get? e=some u)
    (new:ObjOk P w (upd H x o') h' x o'):HOk P w (upd H x o') h':=fun b u q=>by
  have nown:∀ c y,H c=some (.own y)→c≠x:=fun c y r z=>by subst z;rw [r] at mu;exact mu
  have ntup:∀ c xs,H c=some (.tup xs)→c≠x:=fun c xs r z=>by subst z;rw [r] at mu;exact mu
  by_cases hb:b=x
  · subst hb;rw [upd_same] at q;cases q;exact new
  · rw [upd_ne hb] at q
    by_cases hbe:b=e
    · have q':H b=some (.own x):=by
        rcases he with z | z
        · exact absurd (hbe.trans z) hb
        · rw [hbe];exact z
      rw [q] at q';cases q'
      obtain ⟨v,hv⟩:=heo
      exact ⟨v,by rw [hbe];exact hv⟩
    · refine (ok b u q).stay (fun c v hc r=>k c v ?_ r) (fun c r=>by rw [upd_ne (nown c b r)];exact r) fun c xs r=>by rw [upd_ne (ntup c xs r)];exact r
      rcases hc with rfl | hc
      · exact hbe
      · rintro rfl
        rcases he with z | z
        · exact nown c b hc z
        · rw [hc] at z;cases z;exact hb rfl
end
structure Un (fs ex:List Addr)(H H':Hp)(h h':Heap):Prop where
  keep:∀ b o,h.get? b=some o→H b=none→b ∉ fs→b ∉ ex→h'.get? b=some o
  slot:∀ b o,h.get? b=some o→H b=none→b∈fs→b ∉ ex→∃ sl,h'.get? b=some { o with slots:=sl }
  free:∀ b o,h.get? b=some o→H b=none→b ∉ ex→H' b=none
  there:∀ b o,h.get? b=some o→b ∉ ex→∃ o',h'.get? b=some o'
  tups:∀ b xs,H b=some (.tup xs)→H' b=some (.tup xs)
  frzs:∀ b o u,H b=some (.frz o u)→H' b=some (.frz o u)
  tbls:∀ b ps,H b=some (.tbl ps)→∃ more,H' b=some (.tbl (ps ++ more))
section
variable {fs fs' ex ex':List Addr}{H H1 H2:Hp}{h h1 h2 h':Heap}{a x e:Addr}{o:HO}
theorem Un.any (u:Un fs ex H H1 h h1){b:Addr}{ob:Obj}(q:h.get? b=some ob)(n:H b=none)(hx:b ∉ ex):∃ sl,h1.get? b=some { ob with slots:=sl }:=by
  by_cases hb:b∈fs
  · exact u.slot b ob q n hb hx
  · exact ⟨ob.slots,u.keep b ob q n hb hx⟩
theorem Un.kept (k:∀ b u,h.get? b=some u→h'.get? b=some u):Un fs ex H H h h' :=
  ⟨fun b ob q _ _ _=>k b ob q,fun b ob q _ _ _=>⟨ob.slots,k b ob q⟩,fun _ _ _ n _=>n,fun b ob q _=>⟨ob,k b ob q⟩,fun _ _ q=>q,fun _ _ _ q=>q,fun _ ps q=>⟨#[],by rw [q];simp⟩⟩
theorem Un.refl:Un fs ex H H h h:=Un.kept fun _ _ q=>q
theorem Un.laid (k:∀ b u,h.get? b=some u→h'.get? b=some u)(hp:h.objs.size ≤ a)(hn:H a=none):Un fs ex H (upd H a o) h h' where
  keep:=fun b u q _ _ _=>k b u q
  slot:=fun b u q _ _ _=>⟨u.slots,k b u q⟩
  free:=fun b u q n _=>by rw [upd_ne (Nat.ne_of_lt (Nat.lt_of_lt_of_le (Heap.lt_size q) hp))];exact n
  there:=fun b u q _=>⟨u,k b u q⟩
  tups:=fun b xs q=>by rw [upd_ne (ne_of_none q hn)];exact q
  frzs:=fun b u xs q=>by rw [upd_ne (ne_of_none q hn)];exact q
  tbls:=fun b ps q=>⟨#[],by rw [upd_ne (ne_of_none q hn),q];simp⟩
theorem Un.write (mu:Mut (H x))(he:e=x ∨ H e=some (.own x))(k:∀ b u,b≠e→h.get? b=some u→h'.get? b=some u)(heo:∃ u,h'.get? e=some u):Un fs ex H (upd H x o) h h':=by
  have hx:∀ b,H b=none→b≠x:=fun b n z=>by subst z;rw [n] at mu;exact mu
  have hb:∀ b,H b=none→b≠e:=fun b n z=>by
    subst z
    rcases he with r | r
    · exact hx b n r
    · rw [n] at r;cases r
  have hm:∀ b u,H b=some u→¬ Mut (some u)→b≠x:=fun b u q nm z=>by subst z;rw [q] at mu;exact nm mu
  refine ⟨fun b u q n _ _=>k b u (hb b n) q,fun b u q n _ _=>⟨u.slots,k b u (hb b n) q⟩,fun b u q n _=>by rw [upd_ne (hx b n)];exact n,fun b u q _=>?_,
    fun b xs q=>by rw [upd_ne (hm b _ q fun z=>z)];exact q,fun b u xs q=>by rw [upd_ne (hm b _ q fun z=>z)];exact q,fun b ps q=>⟨#[],by rw [upd_ne (hm b _ q fun z=>z),q];simp⟩⟩
  by_cases hbe:b=e
  · subst hbe;exact heo
  · exact ⟨u,k b u hbe q⟩
end
def trk (h:Heap)(H:Hp):List Addr:=(List.range h.objs.size).filter fun a=>(H a).isSome
def hidT (h:Heap)(H:Hp):Heap:=PySem.W.hideAll h (trk h H)
theorem hidT_size (h:Heap)(H:Hp):(hidT h H).objs.size=h.objs.size:=PySem.W.hideAll_size _ _
theorem hidT_get {h:Heap}{H:Hp}{b:Addr}{o:Obj}(e:h.get? b=some o)(n:H b=none):(hidT h H).get? b=some o :=
  PySem.W.hideAll_get _ e fun hm=>by
    have q:(H b).isSome=true:=(List.mem_filter.mp hm).2
    rw [n] at q;simp at q
theorem of_hidT {h:Heap}{H:Hp}{b:Addr}{o:Obj}(e:(hidT h H).get? b=some o):h.get? b=some o∧H b=none:=by
  have e':h.get? b=some o:=PySem.W.of_hideAll (trk h H) e
  refine ⟨e',?_⟩
  cases q:H b with
  | none=>rfl
  | some x =>
    have hm:b∈trk h H:=List.mem_filter.mpr ⟨List.mem_range.mpr (Heap.lt_size e'),by simp [q]⟩
    have z:(hidT h H).get? b=none:=PySem.W.hideAll_none (trk h H) hm
    rw [z] at e;cases e
end L2
namespace L2
open PySem PySem.Spec PyProof.Rows
structure Mod (K:PySem.W.Frag)(mg:Str→Option Value)(base:Heap):Prop where
  kin:K.In base
  glob:base.Ns mainGlobals mg
  blt:∃ mb,base.Ns builtinsNs mb∧∀ x:Str,x ≠ "__name__"→mb x=bootBuiltins x
  nolimit:base.NoLimit
structure Cx where
  prog:Program
  w:World
  K:PySem.W.Frag
  mg:Str→Option Value
  base:Heap
  A:Around
  N:List Str
  sZ:Shared
  HZ:Hp
  env:Env
  outer:List Env
  stack:List Env
  ex:List Addr
  fn:Str→Bool
  calm:Bool
  pn:List (Addr × Obj)
  xe:Value→Shared→Prop
def frs (l:List Env):List Addr:=l.filterMap (·.frame)
abbrev Cx.fs (X:Cx):List Addr:=frs X.outer
def Vis (sc:Scope)(x:Str):Prop:=sc.names.lookup x=some .local ∨ sc.names.lookup x=some .cell ∨ sc.names.lookup x=some .free
def Loc (sc:Scope)(x:Str):Prop:=sc.names.lookup x=some .local ∨ sc.names.lookup x=some .cell
def Look (env:Env)(h:Heap)(m:Str→Option Value)(x:Str)(u:Value):Prop :=
  (env.kindOf x=some .local ∧ m x=some u) ∨ ((env.kindOf x=some .cell ∨ env.kindOf x=some .free)∧∃ c,env.cells.lookup x=some c∧h.IsCell c (some u))
structure Cx.Ok (X:Cx):Prop where
  mod:Mod X.K X.mg X.base
  kind:X.env.scope.kind = .function
  glob:X.env.globals=mainGlobals
  blt:X.env.builtins=builtinsNs
  above:X.sZ.heap.objs.size ≤ X.env.locals
  inj:∀ x y c,X.env.cells.lookup x=some c→X.env.cells.lookup y=some c→x=y
  has:∀ x,(X.env.kindOf x=some .cell ∨ X.env.kindOf x=some .free)→∃ c,X.env.cells.lookup x=some c
  cab:∀ x c,X.fn x=true→X.env.cells.lookup x=some c→X.sZ.heap.objs.size ≤ c
  hd:X.calm=true→X.A.handled=none
  frames:X.A.frames=some X.stack
  stk:X.stack=X.outer ∨ (X.stack=X.env :: X.outer ∧ X.env.frame=some X.env.locals)
  exf:∀ b∈X.ex,b≠X.env.locals ∧ ∀ x c,X.env.cells.lookup x=some c→c≠b
  bs:∀ b o,X.base.get? b=some o→X.sZ.heap.get? b=some o∧X.HZ b=none
  bsz:X.base.objs.size ≤ X.sZ.heap.objs.size
  noex:∀ b o,X.base.get? b=some o→b ∉ X.ex
  exfs:∀ b∈X.ex,b ∉ X.fs
  funs:X.sZ.heap.FunFrames X.base X.outer
  frf:∀ b∈X.fs,X.HZ b=none
structure Inv (X:Cx)(pins:List (Addr × Obj))(σ:List (Option V))(H:Hp)(s:Shared):Prop where
  ok:X.Ok
  os:s.os=X.sZ.os
  bare:AllBare s.gens
  base:Un X.fs X.ex X.HZ H X.sZ.heap s.heap
  loc:∃ m,s.heap.Ns X.env.locals m∧∀ (i:Nat) (x:Str) (v:V),X.N[i]? = some x→σ[i]? = some (some v)→Vis X.env.scope x→∃ u,RelV v u∧Look X.env s.heap m x u
  cell:∀ x c,X.env.cells.lookup x=some c→∃ v,s.heap.IsCell c v
  free:H X.env.locals=none
  freeC:∀ x c,X.env.cells.lookup x=some c→H c=none
  pin:∀ p∈X.pn ++ pins,s.heap.get? p.1=some p.2 ∧ H p.1=none∧p.1 ≠ X.env.locals ∧ p.1 ∉ X.fs ∧ ∀ v,p.2.data ≠ .cell v
  hok:HOk X.prog X.w H s.heap
  len:σ.length=X.N.length
section
variable {X:Cx}{pins:List (Addr × Obj)}{σ:List (Option V)}{H H':Hp}{s:Shared}{h':Heap}
theorem Cx.Ok.nofr (ok:X.Ok){b:Addr}{o:Obj}(e:X.base.get? b=some o):b ∉ X.fs:=fun hb=>by
  have:=(ok.funs.mem hb).1
  rw [e] at this;cases this
theorem Inv.bs (I:Inv X pins σ H s):∀ b o,X.base.get? b=some o→s.heap.get? b=some o∧H b=none:=fun b o e =>
  ⟨I.base.keep b o (I.ok.bs b o e).1 (I.ok.bs b o e).2 (I.ok.nofr e) (I.ok.noex b o e),I.base.free b o (I.ok.bs b o e).1 (I.ok.bs b o e).2 (I.ok.noex b o e)⟩
theorem Inv.bk (I:Inv X pins σ H s):∀ b o,X.base.get? b=some o→s.heap.get? b=some o:=fun b o e=>(I.bs b o e).1
theorem Inv.mod (I:Inv X pins σ H s):Mod X.K X.mg X.base:=I.ok.mod
theorem Inv.kIn (I:Inv X pins σ H s):X.K.In s.heap:=I.ok.mod.kin.keeps I.bk
theorem Inv.fr (I:Inv X pins σ H s):∃ m,Fr X.base X.env.locals s.heap m :=
  let ⟨m,hn,_⟩:=I.loc
  ⟨m,hn,I.bk,Nat.le_trans I.ok.bsz I.ok.above⟩
theorem Inv.lt (I:Inv X pins σ H s):X.env.locals < s.heap.objs.size:=let ⟨_,hn,_⟩:=I.loc;hn.lt
theorem Inv.sz (I:Inv X pins σ H s):X.sZ.heap.objs.size ≤ s.heap.objs.size:=Nat.le_trans I.ok.above (Nat.le_of_lt I.lt)
theorem Inv.nofs (I:Inv X pins σ H s){a:Addr}(h:s.heap.objs.size ≤ a):a ∉ X.fs:=fun hb=>by
  obtain ⟨_,o,ho,_⟩:=I.ok.funs.mem hb
  exact absurd (Nat.lt_of_lt_of_le (Heap.lt_size ho) (Nat.le_trans I.sz h)) (Nat.lt_irrefl _)
theorem Inv.cne (I:Inv X pins σ H s):∀ x c,X.env.cells.lookup x=some c→c≠X.env.locals:=fun x c e z=>by
  obtain ⟨v,o,ho,hd⟩:=I.cell x c e
  obtain ⟨m,⟨o',es,ep,ho',hd',_⟩,_⟩:=I.loc
  rw [z,ho'] at ho;cases ho;rw [hd'] at hd;cases hd
theorem Inv.funs (I:Inv X pins σ H s):s.heap.FunFrames X.base X.outer:=by
  have all:∀ (l:List Env),(∀ b∈frs l,b∈X.fs)→X.sZ.heap.FunFrames X.base l→s.heap.FunFrames X.base l:=by
    intro l
    induction l with
    | nil=>intro _ _;trivial
    | cons env r ih =>
      intro hs hl
      obtain ⟨hk,⟨L,o,hf,hn,ho,hd⟩,hr⟩:=hl
      have hL:L∈X.fs:=hs L (by unfold frs;rw [List.filterMap_cons,hf];exact List.mem_cons_self)
      obtain ⟨sl,e⟩:=I.base.slot L o ho (I.ok.frf L hL) hL fun z=>I.ok.exfs L z hL
      exact ⟨hk,⟨L,_,hf,hn,e,hd⟩,ih (fun b hb=>hs b (by unfold frs;rw [List.filterMap_cons,hf];exact List.mem_cons_of_mem _ hb)) hr⟩
  exact all X.outer (fun _ hb=>hb) I.ok.funs
theorem Inv.stack (I:Inv X pins σ H s):s.heap.FunFrames X.base X.stack:=by
  rcases I.ok.stk with e | ⟨e,hf⟩
  · rw [e];exact I.funs
  · rw [e]
    obtain ⟨m,hn,_⟩:=I.loc
    refine .cons (by rw [I.ok.kind];decide) hf hn ?_ I.funs
    exact Heap.get?_none_of_le (Nat.le_trans I.ok.bsz I.ok.above)
theorem Inv.stkSub (I:Inv X pins σ H s):∀ b∈frs X.stack,b∈X.env.locals :: X.fs:=fun b hb=>by
  rcases I.ok.stk with e | ⟨e,hf⟩
  · rw [e] at hb;exact List.mem_cons_of_mem _ hb
  · rw [e] at hb
    unfold frs at hb
    rw [List.filterMap_cons,hf] at hb
    exact hb
theorem Inv.stkFree (I:Inv X pins σ H s):∀ b∈frs X.stack,H b=none:=fun b hb=>by
  rcases List.mem_cons.mp (I.stkSub b hb) with e | hb
  · rw [e];exact I.free
  · obtain ⟨_,o,ho,_⟩:=I.ok.funs.mem hb
    exact I.base.free b o ho (I.ok.frf b hb) fun z=>I.ok.exfs b z hb
theorem Inv.step {g':Array GenState}{t':Nat}{d':Drawn}{ch:List Addr}(I:Inv X pins σ H s)
    (hch:∀ b∈ch,(b∈X.ex ∨ X.sZ.heap.objs.size ≤ b)∧b≠X.env.locals ∧ (∀ x c,X.env.cells.lookup x=some c→c≠b)∧∀ p∈X.pn ++ pins,p.1 ≠ b)
    (keep:∀ b o,b≠X.env.locals → b ∉ X.fs → b ∉ ch→s.heap.get? b=some o→H b=none→h'.get? b=some o)
    (slot:∀ b o,b≠X.env.locals → b∈X.fs → b ∉ ch→s.heap.get? b=some o→H b=none→∃ sl,h'.get? b=some { o with slots:=sl }) (free:∀ b o,b ∉ ch→s.heap.get? b=some o→H b=none→H' b=none)
    (there:∀ b o,b ∉ ch→s.heap.get? b=some o→∃ o',h'.get? b=some o')
    (tups:∀ b xs,H b=some (.tup xs)→H' b=some (.tup xs)) (frzs:∀ b o u,H b=some (.frz o u)→H' b=some (.frz o u)) (tbls:∀ b ps,H b=some (.tbl ps)→∃ more,H' b=some (.tbl (ps ++ more)))
    (ns:∀ m,s.heap.Ns X.env.locals m→h'.Ns X.env.locals m) (hok:HOk X.prog X.w H' h') (hg:AllBare g') :
    Inv X pins σ H' { s with heap:=h',gens:=g',drawn:=d',toks:=t' }:=by
  have neL:∀ b o,X.sZ.heap.get? b=some o→b≠X.env.locals:=fun b o e=>Nat.ne_of_lt (Nat.lt_of_lt_of_le (Heap.lt_size e) I.ok.above)
  have neC:∀ b o,X.sZ.heap.get? b=some o→b ∉ X.ex → b ∉ ch:=fun b o e hx hb=>by
    rcases (hch b hb).1 with z | z
    · exact hx z
    · exact absurd (Nat.lt_of_lt_of_le (Heap.lt_size e) z) (Nat.lt_irrefl _)
  have cellK:∀ x c,X.env.cells.lookup x=some c→∀ v,s.heap.IsCell c v→h'.IsCell c v:=fun x c e v ⟨o,ho,hd⟩=>by
    have nch:c ∉ ch:=fun z=>(hch c z).2.2.1 x c e rfl
    by_cases hc:c∈X.fs
    · obtain ⟨sl,q⟩:=slot c o (I.cne x c e) hc nch ho (I.freeC x c e)
      exact ⟨_,q,hd⟩
    · exact ⟨o,keep c o (I.cne x c e) hc nch ho (I.freeC x c e),hd⟩
  refine ⟨I.ok,I.os,hg,⟨fun b o e n hb hx=>?_,fun b o e n hb hx=>?_,fun b o e n hx=>?_,fun b o e hx=>?_,fun b xs e=>tups b xs (I.base.tups b xs e),fun b o xs e=>frzs b o xs (I.base.frzs b o xs e),fun b ps e=>?_⟩,?_,fun x c e=>?_,?_,fun x c e=>?_,fun p hp=>?_,hok,I.len⟩
  · exact keep b o (neL b o e) hb (neC b o e hx) (I.base.keep b o e n hb hx) (I.base.free b o e n hx)
  · obtain ⟨sl,e1⟩:=I.base.slot b o e n hb hx
    obtain ⟨sl',e2⟩:=slot b _ (neL b o e) hb (neC b o e hx) e1 (I.base.free b o e n hx)
    exact ⟨sl',e2⟩
  · obtain ⟨o',e1⟩:=I.base.there b o e hx
    exact free b o' (neC b o e hx) e1 (I.base.free b o e n hx)
  · obtain ⟨o',e1⟩:=I.base.there b o e hx
    exact there b o' (neC b o e hx) e1
  · obtain ⟨m1,e1⟩:=I.base.tbls b ps e
    obtain ⟨m2,e2⟩:=tbls b _ e1
    exact ⟨m1 ++ m2,by rw [e2,Array.append_assoc]⟩
  · obtain ⟨m,hn,hl⟩:=I.loc
    refine ⟨m,ns m hn,fun i x v e1 e2 e3=>?_⟩
    obtain ⟨u,r,l⟩:=hl i x v e1 e2 e3
    refine ⟨u,r,?_⟩
    rcases l with l | ⟨k,c,e,z⟩
    · exact .inl l
    · exact .inr ⟨k,c,e,cellK x c e _ z⟩
  · obtain ⟨v,z⟩:=I.cell x c e
    exact ⟨v,cellK x c e v z⟩
  · obtain ⟨m,⟨o,_,_,ho,_⟩,_⟩:=I.loc
    exact free _ o (fun z=>(hch _ z).2.1 rfl) ho I.free
  · obtain ⟨v,o,ho,hd⟩:=I.cell x c e
    exact free c o (fun z=>(hch c z).2.2.1 x c e rfl) ho (I.freeC x c e)
  · obtain ⟨e,n,ne,nf,d⟩:=I.pin p hp
    have nch:p.1 ∉ ch:=fun z=>(hch p.1 z).2.2.2 p hp rfl
    exact ⟨keep p.1 p.2 ne nf nch e n,free p.1 p.2 nch e n,ne,nf,d⟩
theorem Inv.un {t':Nat}(I:Inv X pins σ H s)(u:Un X.fs [] H H' s.heap h')(hok:HOk X.prog X.w H' h'):Inv X pins σ H' { s with heap:=h',toks:=t' }:=by
  obtain ⟨m,⟨o,es,ep,ho,r⟩,_⟩:=id I.loc
  obtain ⟨sl,hL⟩:=u.any ho I.free (by simp)
  exact I.step (g':=s.gens) (d':=s.drawn) (ch:=[]) (fun _ z=>nomatch z) (fun b o _ hb _ e n=>u.keep b o e n hb (by simp)) (fun b o _ hb _ e n=>u.slot b o e n hb (by simp)) (fun b o _ e n=>u.free b o e n (by simp)) (fun b o _ e=>u.there b o e (by simp)) u.tups u.frzs u.tbls (fun m' hm=>by
    obtain ⟨o',es',ep',ho',r'⟩:=hm
    rw [ho] at ho';cases ho'
    exact ⟨_,es',ep',hL,r'⟩) hok I.bare
theorem Inv.call {g':Array GenState}{t':Nat}{d':Drawn}{ch:List Addr}(I:Inv X pins σ H s)(u:Un (frs X.stack) ch H H' s.heap h')(hok:HOk X.prog X.w H' h')(hg:AllBare g')
    (hch:∀ b∈ch,(b∈X.ex ∨ X.sZ.heap.objs.size ≤ b)∧b≠X.env.locals ∧ (∀ x c,X.env.cells.lookup x=some c→c≠b)∧∀ p∈X.pn ++ pins,p.1 ≠ b) :
    Inv X pins σ H' { s with heap:=h',gens:=g',drawn:=d',toks:=t' }:=by
  obtain ⟨m,⟨o,es,ep,ho,r⟩,_⟩:=id I.loc
  obtain ⟨sl,hL⟩:=u.any ho I.free fun z=>(hch _ z).2.1 rfl
  exact I.step (ch:=ch) hch (fun b o hL hb hc e n=>u.keep b o e n (fun z=>(List.mem_cons.mp (I.stkSub b z)).elim hL hb) hc) (fun b o _ _ hc e n=>u.any e n hc) (fun b o hc e n=>u.free b o e n hc) (fun b o hc e=>u.there b o e hc) u.tups u.frzs u.tbls (fun m' hm=>by
    obtain ⟨o',es',ep',ho',r'⟩:=hm
    rw [ho] at ho';cases ho'
    exact ⟨_,es',ep',hL,r'⟩) hok hg
theorem Inv.turned {t':Nat}{it:Addr}(I:Inv X pins σ H s)(k:∀ b o,b≠it→s.heap.get? b=some o→h'.get? b=some o)(hn:H it=none)(hL:it≠X.env.locals)
    (h1:it∈X.ex ∨ X.sZ.heap.objs.size ≤ it) (h2:∀ x c,X.env.cells.lookup x=some c→c≠it) (h3:∀ p∈X.pn ++ pins,p.1 ≠ it):Inv X pins σ H { s with heap:=h',toks:=t' }:=by
  have nit:∀ b u,H b=some u→b≠it:=fun b u e z=>by rw [z,hn] at e;cases e
  refine I.step (g':=s.gens) (d':=s.drawn) (ch:=[it]) (fun b hb=>?_) (fun b o _ _ hc e _=>k b o (fun z=>hc (by simp [z])) e) (fun b o _ _ hc e _=>⟨o.slots,k b o (fun z=>hc (by simp [z])) e⟩) (fun _ _ _ _ n=>n)
    (fun b o hc e=>⟨o,k b o (fun z=>hc (by simp [z])) e⟩) (fun _ _ e=>e) (fun _ _ _ e=>e) (fun b ps e=>⟨#[],by rw [e];simp⟩) (fun m hm=>?_) (fun b u e=>?_) I.bare
  · have e:b=it:=by simpa using hb
    subst e
    exact ⟨h1,hL,h2,h3⟩
  · obtain ⟨o,es,ep,ho,r⟩:=hm
    exact ⟨o,es,ep,k _ o (Ne.symm hL) ho,r⟩
  · refine (I.hok b u e).stay (fun c v hc q=>k c v ?_ q) (fun _ q=>q) fun _ _ q=>q
    rcases hc with z | z
    · rw [z];exact nit b u e
    · exact nit c _ z
theorem Inv.tok (I:Inv X pins σ H s)(t:Nat):Inv X pins σ H { s with toks:=t }:=I.un (h':=s.heap) (t':=t) Un.refl I.hok
theorem Inv.kept {t':Nat}(I:Inv X pins σ H s)(k:∀ b u,s.heap.get? b=some u→h'.get? b=some u):Inv X pins σ H { s with heap:=h',toks:=t' }:=I.un (Un.kept k) (I.hok.kept k)
theorem Inv.laid {a:Addr}{o:HO}{t':Nat}(I:Inv X pins σ H s)(k:∀ b u,s.heap.get? b=some u→h'.get? b=some u)(hp:s.heap.objs.size ≤ a)(new:ObjOk X.prog X.w (upd H a o) h' a o) :
    Inv X pins σ (upd H a o) { s with heap:=h',toks:=t' }:=I.un (Un.laid k hp (I.hok.fresh hp)) (I.hok.laid k hp new)
theorem Inv.write {x e:Addr}{o:HO}{t':Nat}(I:Inv X pins σ H s)(mu:Mut (H x))(he:e=x ∨ H e=some (.own x))(k:∀ b u,b≠e→s.heap.get? b=some u→h'.get? b=some u)(heo:∃ u,h'.get? e=some u)
    (new:ObjOk X.prog X.w (upd H x o) h' x o):Inv X pins σ (upd H x o) { s with heap:=h',toks:=t' }:=I.un (Un.write mu he k heo) (I.hok.write mu he k heo new)
theorem Inv.weak {σ':List (Option V)}(I:Inv X pins σ H s)(hl:σ'.length=σ.length)(w:∀ (i:Nat) v,σ'[i]? = some (some v)→σ[i]? = some (some v)):Inv X pins σ' H s :=
  ⟨I.ok,I.os,I.bare,I.base,let ⟨m,hn,hl'⟩:=I.loc;⟨m,hn,fun i x v e1 e2 e3=>hl' i x v e1 (w i v e2) e3⟩,I.cell,I.free,I.freeC,I.pin,I.hok,hl.trans I.len⟩
theorem Inv.pins_of {pins':List (Addr × Obj)}(I:Inv X pins σ H s)(h:∀ p∈pins',s.heap.get? p.1=some p.2 ∧ H p.1=none∧p.1 ≠ X.env.locals ∧ p.1 ∉ X.fs ∧ ∀ v,p.2.data ≠ .cell v):Inv X pins' σ H s :=
  ⟨I.ok,I.os,I.bare,I.base,I.loc,I.cell,I.free,I.freeC,fun p hp=>(List.mem_append.mp hp).elim (fun z=>I.pin p (List.mem_append_left _ z)) (h p),I.hok,I.len⟩
theorem nodup_ix {N:List Str}(hN:N.Nodup){i j:Nat}{x:Str}(a:N[i]? = some x)(b:N[j]? = some x):i=j:=by
  obtain ⟨h1,e1⟩:=List.getElem?_eq_some_iff.mp a
  obtain ⟨h2,e2⟩:=List.getElem?_eq_some_iff.mp b
  exact (List.getElem_inj hN).mp (e1.trans e2.symm)
theorem store_ok2 {M:Model}{A:Around}{E:Value→Shared→Prop}{i:Nat}{x:Str}{v:V}{u:Value}{Q:Unit→Shared→Prop}(I:Inv X pins σ H s)(hN:X.N.Nodup)(hi:X.N[i]? = some x)(hx:Loc X.env.scope x)(r:RelV v u)
    (h:∀ s',Inv X pins (σ.set i (some v)) H s'→(∃ a,Heap.SameBut a s.heap s'.heap ∧ (a=X.env.locals ∨ X.env.cells.lookup x=some a))→Q () s') (hf:X.fn x=true ∨ X.env.scope.names.lookup x=some .local:=by first | exact .inl rfl | exact .inr rfl | assumption):wpAny M A (storeName X.env x u) Q E s:=by
  obtain ⟨m,hn,hl⟩:=id I.loc
  have hcls:(X.env.scope.kind == .class || (X.env.scope.kind == .module && X.env.locals != X.env.globals))=false:=by rw [I.ok.kind];rfl
  have hiσ:i < σ.length:=by rw [I.len];exact (List.getElem?_eq_some_iff.mp hi).1
  have cne:=I.cne
  have tracked:∀ {a:Addr} {h':Heap},(∃ o,s.heap.get? a=some o∧H a=none)→Heap.SameBut a s.heap h'→HOk X.prog X.w H h':=fun {a h'} ha hs b ob e=>by
    obtain ⟨_,_,hfree⟩:=ha
    refine (I.hok b ob e).stay (fun c w' hc q=>(hs.2 c ?_).trans q) (fun _ q=>q) fun _ _ q=>q
    rintro rfl
    rcases hc with rfl | hc
    · rw [hfree] at e;cases e
    · rw [hfree] at hc;cases hc
  rcases hx with hk | hk
  · refine wpAny_storeName_local hk hn (fun h' hn' hs=>?_) hcls
    obtain ⟨oL,_,_,hoL,_⟩:=id hn
    refine h _ ⟨I.ok,I.os,I.bare,⟨fun b o e n hb hx=>?_,fun b o e n hb hx=>?_,I.base.free,fun b o e hx=>?_,I.base.tups,I.base.frzs,I.base.tbls⟩,⟨_,hn',fun j y v' e1 e2 e3=>?_⟩,fun y c e=>?_,I.free,I.freeC,fun p hp=>?_,tracked ⟨oL,hoL,I.free⟩ hs,by simpa using I.len⟩ ⟨_,hs,.inl rfl⟩
    · exact (hs.2 b (Nat.ne_of_lt (Nat.lt_of_lt_of_le (Heap.lt_size e) I.ok.above))).trans (I.base.keep b o e n hb hx)
    · obtain ⟨sl,e1⟩:=I.base.slot b o e n hb hx
      exact ⟨sl,(hs.2 b (Nat.ne_of_lt (Nat.lt_of_lt_of_le (Heap.lt_size e) I.ok.above))).trans e1⟩
    · obtain ⟨o',e1⟩:=I.base.there b o e hx
      exact ⟨o',(hs.2 b (Nat.ne_of_lt (Nat.lt_of_lt_of_le (Heap.lt_size e) I.ok.above))).trans e1⟩
    · by_cases hj:j=i
      · subst hj
        rw [hi] at e1;cases e1
        rw [List.getElem?_set_self hiσ] at e2
        cases e2
        exact ⟨u,r,.inl ⟨hk,by simp⟩⟩
      · rw [List.getElem?_set_ne (Ne.symm hj)] at e2
        obtain ⟨u',r',q⟩:=hl j y v' e1 e2 e3
        refine ⟨u',r',?_⟩
        rcases q with ⟨k,e⟩ | ⟨k,c,e,z⟩
        · refine .inl ⟨k,?_⟩
          have:y≠x:=fun e=>hj (nodup_ix hN e1 (e ▸ hi))
          simp [this,e]
        · exact .inr ⟨k,c,e,z.sameBut hs (cne y c e)⟩
    · obtain ⟨w',z⟩:=I.cell y c e
      exact ⟨w',z.sameBut hs (cne y c e)⟩
    · obtain ⟨e,n,ne,nf,d⟩:=I.pin p hp
      exact ⟨(hs.2 p.1 ne).trans e,n,ne,nf,d⟩
  · have hfn:X.fn x=true:=by
      rcases hf with z | z
      · exact z
      · rw [z] at hk;cases hk
    obtain ⟨c,hc⟩:=I.ok.has x (.inl hk)
    obtain ⟨w',z⟩:=I.cell x c hc
    refine wpAny_storeName_cell I.ok.kind hk hc z (fun h' hc' hs=>?_)
    obtain ⟨oc,hoc,hocd⟩:=id z
    refine h { s with heap:=h' } ⟨I.ok,I.os,I.bare,⟨fun b o e n hb hx=>?_,fun b o e n hb hx=>?_,I.base.free,fun b o e hx=>?_,I.base.tups,I.base.frzs,I.base.tbls⟩,⟨m,hn.sameBut hs (Ne.symm (cne x c hc)),fun j y v' e1 e2 e3=>?_⟩,fun y c' e=>?_,I.free,I.freeC,fun p hp=>?_,tracked ⟨oc,hoc,I.freeC x c hc⟩ hs,by simpa using I.len⟩ ⟨c,hs,.inr hc⟩
    · exact (hs.2 b (Nat.ne_of_lt (Nat.lt_of_lt_of_le (Heap.lt_size e) (I.ok.cab x c hfn hc)))).trans (I.base.keep b o e n hb hx)
    · obtain ⟨sl,e1⟩:=I.base.slot b o e n hb hx
      exact ⟨sl,(hs.2 b (Nat.ne_of_lt (Nat.lt_of_lt_of_le (Heap.lt_size e) (I.ok.cab x c hfn hc)))).trans e1⟩
    · obtain ⟨o',e1⟩:=I.base.there b o e hx
      exact ⟨o',(hs.2 b (Nat.ne_of_lt (Nat.lt_of_lt_of_le (Heap.lt_size e) (I.ok.cab x c hfn hc)))).trans e1⟩
    · by_cases hj:j=i
      · subst hj
        rw [hi] at e1;cases e1
        rw [List.getElem?_set_self hiσ] at e2
        cases e2
        exact ⟨u,r,.inr ⟨.inl hk,c,hc,hc'⟩⟩
      · rw [List.getElem?_set_ne (Ne.symm hj)] at e2
        obtain ⟨u',r',q⟩:=hl j y v' e1 e2 e3
        refine ⟨u',r',?_⟩
        rcases q with q | ⟨k,c',e,z'⟩
        · exact .inl q
        · refine .inr ⟨k,c',e,z'.sameBut hs ?_⟩
          rintro rfl
          exact hj (nodup_ix hN e1 (I.ok.inj _ _ _ e hc ▸ hi))
    · by_cases hcc:c'=c
      · subst hcc;exact ⟨_,hc'⟩
      · obtain ⟨w2,z2⟩:=I.cell y c' e
        exact ⟨w2,z2.sameBut hs hcc⟩
    · obtain ⟨e,n,ne,nf,d⟩:=I.pin p hp
      refine ⟨(hs.2 p.1 ?_).trans e,n,ne,nf,d⟩
      intro q
      rw [q,hoc] at e
      have q':oc=p.2:=Option.some.inj e
      exact d w' (by rw [← q'];exact hocd)
theorem store_ok {M:Model}{A:Around}{E:Value→Shared→Prop}{i:Nat}{x:Str}{v:V}{u:Value}{Q:Unit→Shared→Prop}(I:Inv X pins σ H s)(hN:X.N.Nodup)(hi:X.N[i]? = some x)(hx:Loc X.env.scope x)(r:RelV v u)
    (h:∀ s',Inv X pins (σ.set i (some v)) H s'→Q () s') (hf:X.fn x=true ∨ X.env.scope.names.lookup x=some .local:=by first | exact .inl rfl | exact .inr rfl | assumption):wpAny M A (storeName X.env x u) Q E s :=
  store_ok2 I hN hi hx r (fun s' I' _=>h s' I') hf
theorem Inv.call' {s':Shared}{ch:List Addr}(I:Inv X pins σ H s)(ho:s'.os=s.os)(u:Un (frs X.stack) ch H H' s.heap s'.heap)(hok:HOk X.prog X.w H' s'.heap)(hg:AllBare s'.gens)
    (hch:∀ b∈ch,(b∈X.ex ∨ X.sZ.heap.objs.size ≤ b)∧b≠X.env.locals ∧ (∀ x c,X.env.cells.lookup x=some c→c≠b)∧∀ p∈X.pn ++ pins,p.1 ≠ b):Inv X pins σ H' s':=by
  obtain ⟨h',g',d',t',o'⟩:=s'
  have e:o'=s.os:=ho
  subst e
  exact I.call (g':=g') (t':=t') (d':=d') u hok hg hch
end
abbrev XK:=Value→Option Addr→Hp→Prop
abbrev St:=List (Option V)
abbrev VK:=V→Hp→Prop
abbrev TE:=St→Hp→VK→Prop
abbrev TT:=St→Hp→(Bool→Hp→Prop)→Prop
abbrev TA:=St→Hp→(List V→Hp→Prop)→Prop
structure Ends where
  nx:St→Hp→Prop
  rt:VK
  bk:St→Hp→Prop:=fun _ _=>False
  ct:St→Hp→Prop:=fun _ _=>False
abbrev TS:=Ends→St→Hp→Prop
def EP (X:Cx)(pins:List (Addr × Obj))(σ:St)(Q:VK)(u:Value)(s':Shared):Prop:=∃ v H',Inv X pins σ H' s'∧RelV v u∧Q v H'
def TP (X:Cx)(pins:List (Addr × Obj))(σ:St)(Q:Bool→Hp→Prop)(b:Bool)(s':Shared):Prop:=∃ H',Inv X pins σ H' s'∧Q b H'
def AP (X:Cx)(pins:List (Addr × Obj))(σ:St)(Q:List V→Hp→Prop)(us:List Value)(s':Shared):Prop:=∃ vs H',Inv X pins σ H' s'∧Vals vs us∧Q vs H'
def SP (X:Cx)(pins:List (Addr × Obj))(D:Ends)(f:Flow)(s':Shared):Prop :=
  match f with
  | .next=>∃ σ' H',Inv X pins σ' H' s'∧D.nx σ' H'
  | .brk=>∃ σ' H',Inv X pins σ' H' s'∧D.bk σ' H'
  | .cont=>∃ σ' H',Inv X pins σ' H' s'∧D.ct σ' H'
  | .ret u=>∃ v σ' H',Inv X pins σ' H' s'∧RelV v u∧D.rt v H'
def PE (X:Cx)(e:Expr)(t:TE):Prop :=
  ∀ (pins:List (Addr × Obj)) (s:Shared) (σ:St) (H:Hp) (Q:VK),Inv X pins σ H s→t σ H Q→wpAny (model X.prog X.w) X.A (eval e X.env) (EP X pins σ Q) X.xe s
def PT (X:Cx)(e:Expr)(t:TT):Prop :=
  ∀ (pins:List (Addr × Obj)) (s:Shared) (σ:St) (H:Hp) (Q:Bool→Hp→Prop),Inv X pins σ H s→t σ H Q→wpAny (model X.prog X.w) X.A (isTrue e X.env (eval e X.env)) (TP X pins σ Q) X.xe s
def PW (X:Cx)(e:Expr)(t:TT):Prop :=
  ∀ (whole:Sem Value) (pins:List (Addr × Obj)) (s:Shared) (σ:St) (H:Hp) (Q:Bool→Hp→Prop),Inv X pins σ H s→t σ H Q→wpAny (model X.prog X.w) X.A (isTrue e X.env whole) (TP X pins σ Q) X.xe s
theorem PW.pt {X:Cx}{e:Expr}{t:TT}(h:PW X e t):PT X e t:=h _
def PA (X:Cx)(es:List Expr)(t:TA):Prop :=
  ∀ (pos:Pos) (pins:List (Addr × Obj)) (s:Shared) (σ:St) (H:Hp) (Q:List V→Hp→Prop),Inv X pins σ H s→t σ H Q→wpAny (model X.prog X.w) X.A (spliced (backTo pos (starEach es X.env))) (AP X pins σ Q) X.xe s
def PS (X:Cx)(st:Stmt)(t:TS):Prop :=
  ∀ (pins:List (Addr × Obj)) (s:Shared) (σ:St) (H:Hp) (D:Ends),Inv X pins σ H s→t D σ H→wpAny (model X.prog X.w) X.A (exec st X.env) (SP X pins D) X.xe s
def PSs (X:Cx)(st:List Stmt)(t:TS):Prop :=
  ∀ (pins:List (Addr × Obj)) (s:Shared) (σ:St) (H:Hp) (D:Ends),Inv X pins σ H s→t D σ H→wpAny (model X.prog X.w) X.A (execs st X.env) (SP X pins D) X.xe s
theorem thn {α:Type}{t:Sem α}{Q Q':α→Shared→Prop}{M:Model}{A:Around}{E:Value→Shared→Prop}{s:Shared}(h:wpAny M A t Q E s)(hQ:∀ a s,Q a s→Q' a s):wpAny M A t Q' E s:=wpAny_mono h hQ fun _ _ x=>x
end L2
namespace L2
open PySem PySem.Spec PyProof.Rows
section
variable {X:Cx}
theorem bin {a b:Expr}{ta tb:TE}(ha:PE X a ta)(hb:PE X b tb){pins:List (Addr × Obj)}{s:Shared}{σ:St}{H:Hp}{R:V→V→Hp→Prop}(I:Inv X pins σ H s)(h:ta σ H fun x H1=>tb σ H1 fun y H2=>R x y H2)
    {α:Type} {Q:α→Shared→Prop} {f:Value→Value→Sem α}
    (hf:∀ v u s2 x y H2,Inv X pins σ H2 s2→RelV x v→RelV y u→R x y H2→wpAny (model X.prog X.w) X.A (f v u) Q X.xe s2) :
    wpAny (model X.prog X.w) X.A (eval a X.env) (fun v s₁=>wpAny (model X.prog X.w) X.A (eval b X.env) (fun u s₂=>wpAny (model X.prog X.w) X.A (f v u) Q X.xe s₂) X.xe s₁) X.xe s:=by
  refine thn (ha pins s σ H _ I h) fun v s1 ⟨x,H1,I1,r1,q1⟩=>?_
  refine thn (hb pins s1 σ H1 _ I1 q1) fun u s2 ⟨y,H2,I2,r2,q2⟩=>?_
  exact hf v u s2 x y H2 I2 r1 r2 q2
def tVar (i:Nat):TE:=fun σ H Q=>∃ v,σ[i]? = some (some v)∧Q v H
def tC (v:V):TE:=fun _ H Q=>Q v H
theorem pe_var {i:Nat} {x:Str} {pos:Pos} (hN:X.N[i]? = some x) (hv:Vis X.env.scope x) (hd:(x == ("__debug__" : Str))=false:=by decide) (hcd:(x == ("__classdict__" : Str))=false:=by decide):PE X (.Name x pos) (tVar i):=by
  intro pins s σ H Q I h
  obtain ⟨v,e,h⟩:=h
  obtain ⟨m,hn,hl⟩:=I.loc
  obtain ⟨u,r,l⟩:=hl i x v hN e hv
  have fin:EP X pins σ Q u s:=⟨v,H,I,r,h⟩
  rcases l with ⟨hk,hm⟩ | ⟨hk,c,hc,hcell⟩
  · exact wpAny_Name (wpAny_loadName_local I.ok.kind hk hn hm fin) hd
  · rcases hk with hk | hk
    · exact wpAny_Name (wpAny_loadName_cell I.ok.kind hk hc hcell fin) hd
    · exact wpAny_Name (wpAny_loadName_free I.ok.kind hk hc hcell fin hcd) hd
theorem pe_int {i j pos}:PE X (.Constant (.int i) j pos) (tC (.int i)):=fun _ _ _ H _ I h=>wpAny_Constant_int ⟨.int i,H,I.tok _,⟨_,rfl⟩,h⟩
theorem pe_bl {b j pos}:PE X (.Constant (.bool b) j pos) (tC (.bl b)):=fun _ _ _ H _ I h=>Constant_bool ⟨.bl b,H,I,rfl,h⟩
theorem pe_non {j pos}:PE X (.Constant .none j pos) (tC .non):=fun _ _ _ H _ I h=>Constant_none ⟨.non,H,I,rfl,h⟩
theorem pe_str {x j pos}:PE X (.Constant (.str x) j pos) (tC (.str x)):=fun _ _ _ H _ I h=>Calls.Constant_str ⟨.str x,H,I.tok _,⟨_,rfl⟩,h⟩
def Gl (X:Cx)(x:Str):Prop:=X.env.kindOf x=some .globalImplicit
theorem ld_glob {E:Value→Shared→Prop}{pins:List (Addr × Obj)}{s:Shared}{σ:St}{H:Hp}{x:Str}{u:Value}{pos:Pos}{Q:Value→Shared→Prop}(I:Inv X pins σ H s)(hg:Gl X x)(hm:X.mg x=some u)(h:Q u s)
    (hd:(x == ("__debug__" : Str))=false:=by decide):wpAny (model X.prog X.w) X.A (eval (.Name x pos) X.env) Q E s :=
  Calls.Name_function_global I.ok.kind hg (Calls.loadGlobal_global (by rw [I.ok.glob];exact I.mod.glob.keeps I.bk) hm h) hd
theorem ld_blt {E:Value→Shared→Prop}{pins:List (Addr × Obj)}{s:Shared}{σ:St}{H:Hp}{x:Str}{u:Value}{pos:Pos}{Q:Value→Shared→Prop}(I:Inv X pins σ H s)(hg:Gl X x)(hm:X.mg x=none)(hv:bootBuiltins x=some u)(h:Q u s)
    (hn:x ≠ "__name__":=by decide) (hd:(x == ("__debug__" : Str))=false:=by decide):wpAny (model X.prog X.w) X.A (eval (.Name x pos) X.env) Q E s:=by
  obtain ⟨mb,h1,h2⟩:=I.mod.blt
  exact Calls.Name_function_global I.ok.kind hg (Calls.loadGlobal_builtin (by rw [I.ok.glob];exact I.mod.glob.keeps I.bk) hm (by rw [I.ok.blt];exact h1.keeps I.bk) ((h2 x hn).trans hv) h) hd
theorem pe_glob {x:Str} {v:V} {u:Value} {pos:Pos} (hg:Gl X x) (hm:X.mg x=some u) (r:RelV v u) (hd:(x == ("__debug__" : Str))=false:=by decide):PE X (.Name x pos) (tC v) :=
  fun _ _ _ H _ I h=>ld_glob I hg hm ⟨v,H,I,r,h⟩ hd
theorem pe_bltn {x:Str} {v:V} {u:Value} {pos:Pos} (hg:Gl X x) (hm:X.mg x=none) (hv:bootBuiltins x=some u) (r:RelV v u) (hn:x ≠ "__name__":=by decide) (hd:(x == ("__debug__" : Str))=false:=by decide):PE X (.Name x pos) (tC v) :=
  fun _ _ _ H _ I h=>ld_blt I hg hm hv ⟨v,H,I,r,h⟩ hn hd
variable {a b:Expr}{ta tb:TE}{pos:Pos}
def PC (X:Cx)(op:CmpOp)(a b:Expr)(t:TE):Prop :=
  ∀ (pins:List (Addr × Obj)) (s:Shared) (σ:St) (H:Hp) (Q:VK),Inv X pins σ H s→t σ H Q →
    wpAny (model X.prog X.w) X.A (eval a X.env) (fun v s₁=>wpAny (model X.prog X.w) X.A (eval b X.env) (fun u s₂=>wpAny (model X.prog X.w) X.A (compareOp op v u) (EP X pins σ Q) X.xe s₂) X.xe s₁) X.xe s
def tB (t:TE):TT:=fun σ H Q=>t σ H fun x H1=>∃ c,x = .bl c∧Q c H1
theorem pt_cmp {op:CmpOp}{t:TE}(h:PC X op a b t)(h1:behindInMarks op b=false:=by first | exact nobehind _ (by decide) (by decide) | rfl):PT X (.Compare a [op] [b] pos) (tB t):=by
  intro pins s σ H Q I hw
  refine wpAny_isTrue_Compare1 (thn (h pins s σ H _ I hw) fun v s1 h1=>thn h1 fun u s2 h2=>thn h2 fun c s3 ⟨x,H1,I1,r1,q1⟩=>?_) h1
  obtain ⟨d,rfl,q⟩:=q1
  cases r1
  exact wpAny_truthy_bool ⟨H1,I1,q⟩
theorem pt_val {e:Expr}{t:TE}(h:PE X e t)(he:∀ whole,isTrue e X.env whole=(do let v ← whole;standAt e.pos;holding [v] (truthy v)):=by intro _;rfl):PT X e (tB t):=by
  intro pins s σ H Q I hw
  refine isTrue_plain (thn (h pins s σ H _ I hw) fun v s1 ⟨x,H1,I1,r1,q1⟩=>?_) (he _)
  obtain ⟨d,rfl,q⟩:=q1
  cases r1
  exact wpAny_truthy_bool ⟨H1,I1,q⟩
variable {tA tB':TT}{rest:List Expr}
def tAnd (t u:TT):TT:=fun σ H Q=>t σ H fun c H1=>if c=true then u σ H1 Q else Q false H1
def tOr (t u:TT):TT:=fun σ H Q=>t σ H fun c H1=>if c=true then Q true H1 else u σ H1 Q
def tNot (t:TT):TT:=fun σ H Q=>t σ H fun c H1=>Q (!c) H1
theorem pw_and1 (ha:PT X a tA):PW X (.BoolOp .And [a] pos) tA:=by
  intro wh pins s σ H Q I h
  refine isTrue_and (thn (ha pins s σ H Q I h) fun c s1 e=>?_)
  cases c with
  | true=>exact isTrue_and_nil e
  | false=>exact e
theorem pw_or1 (ha:PT X a tA):PW X (.BoolOp .Or [a] pos) tA:=by
  intro wh pins s σ H Q I h
  refine isTrue_or (thn (ha pins s σ H Q I h) fun c s1 e=>?_)
  cases c with
  | false=>exact isTrue_or_nil e
  | true=>exact e
theorem pw_and (ha:PT X a tA)(hb:PW X (.BoolOp .And (b :: rest) pos) tB'):PW X (.BoolOp .And (a :: b :: rest) pos) (tAnd tA tB'):=by
  intro wh pins s σ H Q I h
  refine isTrue_and (thn (ha pins s σ H _ I h) fun c s1 ⟨H1,I1,q1⟩=>?_)
  cases c with
  | true=>exact hb wh pins s1 σ H1 Q I1 q1
  | false=>exact ⟨H1,I1,q1⟩
theorem pw_or (ha:PT X a tA)(hb:PW X (.BoolOp .Or (b :: rest) pos) tB'):PW X (.BoolOp .Or (a :: b :: rest) pos) (tOr tA tB'):=by
  intro wh pins s σ H Q I h
  refine isTrue_or (thn (ha pins s σ H _ I h) fun c s1 ⟨H1,I1,q1⟩=>?_)
  cases c with
  | true=>exact ⟨H1,I1,q1⟩
  | false=>exact hb wh pins s1 σ H1 Q I1 q1
theorem pt_not (ha:PT X a tA):PT X (.UnaryOp .Not a pos) (tNot tA):=by
  intro pins s σ H Q I h
  exact isTrue_not (ha pins s σ H (fun c H1=>Q (!c) H1) I h)
def tAndV (ta tb:TE):TE:=fun σ H Q=>ta σ H fun x H1=>∃ c,x = .bl c∧if c=true then tb σ H1 Q else Q (.bl false) H1
theorem pe_one {op}{t:TE}(h:PE X a t):PE X (.BoolOp op [a] pos) t:=fun pins s σ H Q I hw=>BoolOp_one (h pins s σ H Q I hw)
theorem pe_and (ha:PE X a ta)(hb:PE X (.BoolOp .And (b :: rest) pos) tb):PE X (.BoolOp .And (a :: b :: rest) pos) (tAndV ta tb):=by
  intro pins s σ H Q I h
  refine BoolOp_and (thn (ha pins s σ H _ I h) fun v s1 ⟨x,H1,I1,r1,q1⟩=>?_)
  obtain ⟨c,rfl,q1⟩:=q1
  cases r1
  refine wpAny_truthy_bool ?_
  cases c with
  | true=>exact hb pins s1 σ H1 Q I1 q1
  | false=>exact ⟨.bl false,H1,I1,rfl,q1⟩
def tIf (t:TT)(ta tb:TE):TE:=fun σ H Q=>t σ H fun c H1=>if c=true then ta σ H1 Q else tb σ H1 Q
theorem pe_ifExp {c:Expr}(hc:PT X c tA)(ha:PE X a ta)(hb:PE X b tb):PE X (.IfExp c a b pos) (tIf tA ta tb):=by
  intro pins s σ H Q I h
  refine wpAny_IfExp (thn (hc pins s σ H _ I h) fun d s1 ⟨H1,I1,q1⟩=>?_)
  cases d with
  | true=>exact ha pins s1 σ H1 Q I1 q1
  | false=>exact hb pins s1 σ H1 Q I1 q1
end
end L2
namespace L2
open PySem PySem.Spec PyProof.Rows
def SqL (K:PySem.W.Frag)(H:Hp)(a:Addr)(xs:List V):Prop :=
  Rd H a (.lst xs) ∨
    ∃ (o:Obj) (its:Array Value) (n:Nat),K.lookup a=some o∧o.cls = .type "list"∧o.dict=none∧o.data = .seq its n∧its.size ≤ sizeLine∧Vals xs its.toList
def SqT (K:PySem.W.Frag)(H:Hp)(a:Addr)(xs:List V):Prop :=
  Rd H a (.tup xs) ∨
    ∃ (o:Obj) (its:Array Value) (n:Nat),K.lookup a=some o∧o.cls = .type "tuple"∧o.data = .seq its n∧its.size ≤ sizeLine∧Vals xs its.toList
def absV:Value→Option V
  | .none=>some .non
  | .bool b=>some (.bl b)
  | .int i _=>some (.int i)
  | .str x _=>some (.str x)
  | .bytes b _=>some (.byt b)
  | .float b _=>some (.flt b)
  | .ref a=>some (.ref a)
  | .type n=>some (.ty n)
  | _=>none
theorem RelV.abs {x:V}{u:Value}(r:RelV x u):absV u=some x:=by
  cases x with
  | non=>cases r;rfl
  | bl _=>cases r;rfl
  | int _=>obtain ⟨t,rfl⟩:=r;rfl
  | str _=>obtain ⟨t,rfl⟩:=r;rfl
  | byt _=>obtain ⟨t,rfl⟩:=r;rfl
  | flt _=>obtain ⟨t,rfl⟩:=r;rfl
  | ref _=>cases r;rfl
  | ty _=>cases r;rfl
theorem RelV.inj {x y:V}{u:Value}(r:RelV x u)(q:RelV y u):x=y:=Option.some.inj (r.abs.symm.trans q.abs)
theorem Vals.inj:∀ {xs ys:List V} {us:List Value},Vals xs us→Vals ys us→xs=ys
  | _,_,_,.nil,.nil=>rfl
  | _,_,_,.cons r t,.cons r' t'=>by rw [r.inj r',Vals.inj t t']
section
variable {X:Cx}{pins:List (Addr × Obj)}{σ:St}{H:Hp}{s:Shared}{a:Addr}{xs ys:List V}
theorem SqL.of {K:PySem.W.Frag}(h:H a=some (.lst xs)):SqL K H a xs:=.inl (.inl h)
theorem SqT.of {K:PySem.W.Frag}(h:H a=some (.tup xs)):SqT K H a xs:=.inl (.inl h)
theorem Inv.list (I:Inv X pins σ H s)(h:SqL X.K H a xs):∃ its:List Value,Vals xs its∧PlainL s.heap a its.toArray ∧ xs.length ≤ sizeLine:=by
  rcases h with h | ⟨o,its,n,hk,hc,hd,hs,hz,r⟩
  · obtain ⟨z,its,n,r,e⟩:=h.ok I.hok
    exact ⟨its,r,⟨_,n,e,rfl,rfl,rfl⟩,z⟩
  · refine ⟨its.toList,r,⟨o,n,I.kIn a o hk,hc,hd,by simpa using hs⟩,?_⟩
    have e:=r.length
    simp only [Array.length_toList] at e
    omega
theorem Inv.tuple (I:Inv X pins σ H s)(h:SqT X.K H a xs):∃ its:List Value,Vals xs its∧IsTup s.heap a its.toArray ∧ xs.length ≤ sizeLine:=by
  rcases h with h | ⟨o,its,n,hk,hc,hs,hz,r⟩
  · obtain ⟨z,its,r,p⟩:=h.ok I.hok
    exact ⟨its,r,p,z⟩
  · refine ⟨its.toList,r,⟨o,I.kIn a o hk,hc,n,by simpa using hs⟩,?_⟩
    have e:=r.length
    simp only [Array.length_toList] at e
    omega
theorem Inv.list_inj (I:Inv X pins σ H s)(h:SqL X.K H a xs)(h':SqL X.K H a ys):xs=ys:=by
  obtain ⟨its,r,⟨o,n,e,_,_,d⟩,_⟩:=I.list h
  obtain ⟨its',r',⟨o',n',e',_,_,d'⟩,_⟩:=I.list h'
  rw [e] at e';cases e'
  rw [d] at d'
  injection d' with d1 _
  have:its=its':=by simpa using congrArg Array.toList d1
  subst this
  exact r.inj r'
theorem Inv.tuple_inj (I:Inv X pins σ H s)(h:SqT X.K H a xs)(h':SqT X.K H a ys):xs=ys:=by
  obtain ⟨its,r,⟨o,e,_,n,d⟩,_⟩:=I.tuple h
  obtain ⟨its',r',⟨o',e',_,n',d'⟩,_⟩:=I.tuple h'
  rw [e] at e';cases e'
  rw [d] at d'
  injection d' with d1 _
  have:its=its':=by simpa using congrArg Array.toList d1
  subst this
  exact r.inj r'
end
abbrev Cx.wish (X:Cx)(E:Value→Shared→Prop):Cx:={ X with xe:=E }
abbrev Cx.nox (X:Cx):Cx:=X.wish fun _ _=>False
theorem Cx.Ok.wish {X:Cx}(ok:X.Ok)(E:Value→Shared→Prop):(X.wish E).Ok :=
  ⟨ok.mod,ok.kind,ok.glob,ok.blt,ok.above,ok.inj,ok.has,ok.cab,ok.hd,ok.frames,ok.stk,ok.exf,ok.bs,ok.bsz,ok.noex,ok.exfs,ok.funs,ok.frf⟩
theorem Cx.Ok.unwish {X:Cx}{E:Value→Shared→Prop}(ok:(X.wish E).Ok):X.Ok :=
  ⟨ok.mod,ok.kind,ok.glob,ok.blt,ok.above,ok.inj,ok.has,ok.cab,ok.hd,ok.frames,ok.stk,ok.exf,ok.bs,ok.bsz,ok.noex,ok.exfs,ok.funs,ok.frf⟩
section
variable {X:Cx}{pins:List (Addr × Obj)}{σ:St}{H:Hp}{s:Shared}{E:Value→Shared→Prop}
theorem Inv.wish (I:Inv X pins σ H s)(E:Value→Shared→Prop):Inv (X.wish E) pins σ H s:=⟨I.ok.wish E,I.os,I.bare,I.base,I.loc,I.cell,I.free,I.freeC,I.pin,I.hok,I.len⟩
theorem Inv.unwish (I:Inv (X.wish E) pins σ H s):Inv X pins σ H s:=⟨I.ok.unwish,I.os,I.bare,I.base,I.loc,I.cell,I.free,I.freeC,I.pin,I.hok,I.len⟩
theorem SP.unwish {D:Ends}{f:Flow}{s':Shared}(h:SP (X.wish E) pins D f s'):SP X pins D f s':=by
  cases f with
  | next=>obtain ⟨σ',H',I,q⟩:=h;exact ⟨σ',H',I.unwish,q⟩
  | brk=>obtain ⟨σ',H',I,q⟩:=h;exact ⟨σ',H',I.unwish,q⟩
  | cont=>obtain ⟨σ',H',I,q⟩:=h;exact ⟨σ',H',I.unwish,q⟩
  | ret u=>obtain ⟨v,σ',H',I,r,q⟩:=h;exact ⟨v,σ',H',I.unwish,r,q⟩
theorem PSs.nox {st:List Stmt}{t:TS}(h:PSs X.nox st t):PSs X st t:=fun pins s σ H D I hw =>
  wpAny_mono (h pins s σ H D (I.wish _) hw) (fun _ _ q=>q.unwish) fun _ _ z=>False.elim z
end
section
variable {X:Cx}{st:Stmt}{rest:List Stmt}{t u:TS}{e:Expr}{te:TE}{pos:Pos}
def tNext:TS:=fun D σ H=>D.nx σ H
def tSeq (t u:TS):TS:=fun D σ H=>t { D with nx:=u D } σ H
theorem pss_nil:PSs X [] tNext:=fun _ _ σ H _ I h=>wpAny_execs_nil ⟨σ,H,I,h⟩
theorem pss_cons (h1:PS X st t)(h2:PSs X rest u):PSs X (st :: rest) (tSeq t u):=by
  intro pins s σ H D I h
  refine wpAny_execs_cons (thn (h1 pins s σ H { D with nx:=u D } I h) fun f s1 q=>?_)
  cases f with
  | next =>
    obtain ⟨σ',H',I',q⟩:=q
    exact h2 pins s1 σ' H' D I' q
  | ret v=>exact q
  | brk=>exact q
  | cont=>exact q
theorem pss_one (h1:PS X st t):PSs X [st] t:=by
  intro pins s σ H D I h
  refine wpAny_execs_cons (thn (h1 pins s σ H D I h) fun f s1 q=>?_)
  cases f with
  | next=>exact wpAny_execs_nil q
  | ret v=>exact q
  | brk=>exact q
  | cont=>exact q
theorem Inv.quiet {pins:List (Addr × Obj)}{σ:St}{H:Hp}{s:Shared}(I:Inv X pins σ H s):interactive X.env=false:=by simp [interactive,I.ok.kind]
def tDrop (te:TE):TS:=fun D σ H=>te σ H fun _ H1=>D.nx σ H1
theorem ps_expr (he:PE X e te)(hs:swapsWith e none pos.line X.env=pure false:=by rfl):PS X (.Expr e pos) (tDrop te):=by
  intro pins s σ H D I h
  exact wpAny_Expr_any (thn (he pins s σ H _ I h) fun v s1 ⟨x,H1,I1,r1,q1⟩=>⟨σ,H1,I1,q1⟩) I.quiet hs
def tRet (te:TE):TS:=fun D σ H=>te σ H D.rt
theorem ps_ret (he:PE X e te):PS X (.Return (some e) pos) (tRet te):=by
  intro pins s σ H D I h
  exact wpAny_Return_some (thn (he pins s σ H _ I h) fun v s1 ⟨x,H1,I1,r1,q1⟩=>⟨x,σ,H1,I1,r1,q1⟩)
def tIfS (c:TT)(t u:TS):TS:=fun D σ H=>c σ H fun b H1=>if b=true then t D σ H1 else u D σ H1
theorem ps_if {c:Expr}{a b:List Stmt}{tc:TT}(hc:PT X c tc)(ha:PSs X a t)(hb:PSs X b u):PS X (.If c a b pos) (tIfS tc t u):=by
  intro pins s σ H D I h
  refine wpAny_If (thn (hc pins s σ H _ I h) fun d s1 ⟨H1,I1,q1⟩=>?_)
  cases d with
  | true=>exact ha pins s1 σ H1 D I1 q1
  | false=>exact hb pins s1 σ H1 D I1 q1
def tNever:TS:=fun _ _ _=>False
theorem ps_never:PS X st tNever:=fun _ _ _ _ _ _ h=>h.elim
end
abbrev TG:=V→St→Hp→(St→Hp→Prop)→Prop
abbrev TGs:=List V→St→Hp→(St→Hp→Prop)→Prop
def PG (X:Cx)(target:Expr)(t:TG):Prop :=
  ∀ (pins:List (Addr × Obj)) (s:Shared) (σ:St) (H:Hp) (v:V) (u:Value) (Q:St→Hp→Prop),Inv X pins σ H s→RelV v u→t v σ H Q →
    wpAny (model X.prog X.w) X.A (assign target X.env u) (fun _ s'=>∃ σ' H',Inv X pins σ' H' s'∧Q σ' H') X.xe s
def PGs (X:Cx)(ts:List Expr)(t:TGs):Prop :=
  ∀ (pins:List (Addr × Obj)) (s:Shared) (σ:St) (H:Hp) (vs:List V) (us:List Value) (Q:St→Hp→Prop),Inv X pins σ H s→Vals vs us→t vs σ H Q →
    wpAny (model X.prog X.w) X.A (assignInOrder ((assignEach ts X.env).map (·.2)) us) (fun _ s'=>∃ σ' H',Inv X pins σ' H' s'∧Q σ' H') X.xe s
abbrev TSet:=V→V→V→Hp→(Hp→Prop)→Prop
def PSet (X:Cx)(t:TSet):Prop :=
  ∀ (pins:List (Addr × Obj)) (s:Shared) (σ:St) (H:Hp) (o i v:V) (ov iv u:Value) (Q:Hp→Prop),Inv X pins σ H s→RelV o ov→RelV i iv→RelV v u→t o i v H Q →
    wpAny (model X.prog X.w) X.A (setItem ov iv u) (fun _ s'=>∃ H',Inv X pins σ H' s'∧Q H') X.xe s
section
variable {X:Cx}{pos:Pos}
def gName (i:Nat):TG:=fun v σ H Q=>Q (σ.set i (some v)) H
theorem pg_name {i:Nat}{x:Str}(hN:X.N.Nodup)(hi:X.N[i]? = some x)(hx:Loc X.env.scope x)(hf:X.fn x=true ∨ X.env.scope.names.lookup x=some .local:=by first | exact .inl rfl | exact .inr rfl | assumption):PG X (.Name x pos) (gName i):=by
  intro pins s σ H v u Q I r h
  exact wpAny_assign_Name (store_ok I hN hi hx r (fun s' I'=>⟨_,H,I',h⟩) hf)
def gNil:TGs:=fun vs σ H Q=>vs=[]∧Q σ H
def gCons (t:TG)(u:TGs):TGs:=fun vs σ H Q=>∃ v r,vs=v :: r∧t v σ H fun σ' H'=>u r σ' H' Q
theorem pgs_nil:PGs X [] gNil:=by
  intro pins s σ H vs us Q I r h
  obtain ⟨e,h⟩:=h
  subst e
  cases r
  exact assignInOrder_nil ⟨σ,H,I,h⟩
theorem pgs_cons {e:Expr}{es:List Expr}{t:TG}{u:TGs}(h1:PG X e t)(h2:PGs X es u)
    (hs:(assignEach (e :: es) X.env).map (·.2)=assign e X.env :: (assignEach es X.env).map (·.2):=by rfl):PGs X (e :: es) (gCons t u):=by
  intro pins s σ H vs us Q I r h
  obtain ⟨v,vr,e1,h⟩:=h
  subst e1
  cases r with
  | cons r rr =>
    rw [hs]
    refine assignInOrder_cons (thn (h1 pins s σ H _ _ _ I r h) fun _ s1 ⟨σ1,H1,I1,q1⟩=>?_)
    exact h2 pins s1 σ1 H1 _ _ Q I1 rr q1
def gTup (K:PySem.W.Frag)(n:Nat)(t:TGs):TG:=fun v σ H Q=>∃ a xs,v = .ref a∧SqT K H a xs∧xs.length=n∧t xs σ H Q
theorem pg_tup {es:List Expr}{k:Nat}{t:TGs}{n:Nat}(hc:X.calm=true)(h:PGs X es t)
    (hn:(assignEach es X.env).length=n:=by rfl) (hst:(assignEach es X.env).findIdx? (·.1)=none:=by rfl):PG X (.Tuple es k pos) (gTup X.K n t):=by
  intro pins s σ H v u Q I r hw
  obtain ⟨a,xs,e1,hq,hl,hw⟩:=hw
  subst e1
  cases r
  obtain ⟨its,rv,ht,hz⟩:=I.tuple hq
  refine assign_Tuple_tuple (I.ok.hd hc) ht (by simp [hn,← hl,rv.length]) hst fun h' hx=>?_
  have I1:Inv X pins σ H { s with heap:=h' }:=I.kept (t':=s.toks) fun b o e=>hx b o (Nat.ne_of_lt (Heap.lt_size e)) e
  exact h pins _ σ H xs _ Q I1 (by simpa using rv) hw
def gSub (to ti:TE)(t:TSet):TG:=fun v σ H Q=>to σ H fun o H1=>ti σ H1 fun i H2=>t o i v H2 fun H3=>Q σ H3
theorem pg_sub {o i:Expr}{to ti:TE}{t:TSet}(ho:PE X o to)(hi:PE X i ti)(hs:PSet X t)
    (ha:∀ v,assign (.Subscript o i pos) X.env v=(do
      let ov ← holding [v] (eval o X.env)
      let iv ← holding [v,ov] (eval i X.env)
      standAt pos
      holding [v,ov,iv] (setItem ov iv v)
      release [v,ov,iv] []):=by intro _;rfl):PG X (.Subscript o i pos) (gSub to ti t):=by
  intro pins s σ H v u Q I r h
  rw [ha]
  refine wpAny_bind (wpAny_holding (thn (ho pins s σ H _ I h) fun ov s1 ⟨x,H1,I1,r1,q1⟩=>?_))
  refine wpAny_bind (wpAny_holding (thn (hi pins s1 σ H1 _ I1 q1) fun iv s2 ⟨y,H2,I2,r2,q2⟩=>?_))
  refine wpAny_bind (wpAny_standAt (wpAny_bind (wpAny_holding (thn (hs pins s2 σ H2 x y v ov iv u _ I2 r1 r2 r q2) fun _ s3 ⟨H3,I3,q3⟩=>?_))))
  exact wpAny_release ⟨σ,H3,I3,q3⟩
def tAsg (te:TE)(g:TG):TS:=fun D σ H=>te σ H fun x H1=>g x σ H1 D.nx
theorem ps_asg {tg e:Expr}{te:TE}{g:TG}(he:PE X e te)(hg:PG X tg g)(hs:swapsWithSole [tg] e pos.line X.env=pure false:=by rfl)(hw:swappedStores [tg] e X.env=pure none:=by rfl)
    (h1:(assignEach [tg] X.env).map (·.2)=[assign tg X.env]:=by rfl):PS X (.Assign [tg] e pos) (tAsg te g):=by
  intro pins s σ H D I h
  refine wpAny_Assign_stores (thn (he pins s σ H _ I h) fun v s1 ⟨x,H1,I1,r1,q1⟩=>?_) hs hw
  rw [h1]
  exact thn (hg pins s1 σ H1 x v _ I1 r1 q1) fun _ s2 q=>q
theorem ps_set {i:Nat}{x:Str}{e:Expr}{te:TE}{pos':Pos}(hN:X.N.Nodup)(hi:X.N[i]? = some x)(hx:Loc X.env.scope x)(he:PE X e te)(hs:swapsWith e (some (.Name x pos')) pos.line X.env=pure false:=by rfl)(hf:X.fn x=true ∨ X.env.scope.names.lookup x=some .local:=by first | exact .inl rfl | exact .inr rfl | assumption) :
    PS X (.Assign [.Name x pos'] e pos) (tAsg te (gName i)):=by
  intro pins s σ H D I h
  refine wpAny_Assign_Name (thn (he pins s σ H _ I h) fun v s1 ⟨y,H1,I1,r1,q1⟩=>?_) hs
  exact store_ok I1 hN hi hx r1 (fun s2 I2=>⟨_,H1,I2,q1⟩) hf
end
structure It where
  go:Nat→Hp→Prop
  yld:Nat→Hp→V→Hp→Prop
  stop:Nat→Hp→Prop
def FpOk (X:Cx)(pins:List (Addr × Obj))(H:Hp)(b:Addr):Prop :=
  H b=none∧b≠X.env.locals ∧ b ∉ X.fs ∧ (b∈X.ex ∨ X.sZ.heap.objs.size ≤ b)∧(∀ x c,X.env.cells.lookup x=some c→c≠b)∧∀ p∈X.pn ++ pins,p.1 ≠ b
theorem Inv.fpOk {X:Cx}{pins:List (Addr × Obj)}{σ:St}{H H':Hp}{s:Shared}{b:Addr}(I:Inv X pins σ H s)(hb:s.heap.objs.size ≤ b)(hn:H' b=none):FpOk X pins H' b:=by
  refine ⟨hn,Nat.ne_of_gt (Nat.lt_of_lt_of_le I.lt hb),I.nofs hb,.inr (Nat.le_trans I.sz hb),fun x c e z=>?_,fun p hp z=>?_⟩
  · obtain ⟨v,q⟩:=I.cell x c e
    exact absurd (Nat.lt_of_lt_of_le q.lt (by rw [z];exact hb)) (Nat.lt_irrefl _)
  · exact absurd (Nat.lt_of_lt_of_le (Heap.lt_size (I.pin p hp).1) (by rw [z];exact hb)) (Nat.lt_irrefl _)
structure Turn (P:Program)(w:World)(K:PySem.W.Frag)(tg:Expr)(J:It)(fp:List Addr)(it:Addr)(tn:Nat→Heap→Prop):Prop where
  mem:it∈fp
  obj:∀ i h,tn i h→∀ b∈fp,∃ o,h.get? b=some o∧∀ v,o.data ≠ .cell v
  keep:∀ i h h',tn i h→(∀ b∈fp,∀ o,h.get? b=some o→h'.get? b=some o)→tn i h'
  item:∀ (X:Cx),X.prog=P→X.w=w→X.K=K→X.calm=true→∀ (i:Nat) (pins:List (Addr × Obj)) (s:Shared) (σ:St) (H:Hp) (E:Value→Shared→Prop),Inv X pins σ H s→(∀ b∈fp,FpOk X pins H b)→tn i s.heap → J.go i H →
    wpAny (model P w) X.A (pyNext (.ref it)) (fun r s1=>∃ u,r=some u ∧
      wpAny (model P w) X.A (letOwnedTupleGo tg (.ref it) u) (fun _ s2=>∃ x H',Inv X pins σ H' s2∧RelV x u∧J.yld i H x H'∧tn (i + 1) s2.heap ∧ ∀ b∈fp,H' b=none) E s1) E s
  done:∀ (X:Cx),X.prog=P→X.w=w→X.K=K→X.calm=true→∀ (i:Nat) (pins:List (Addr × Obj)) (s:Shared) (σ:St) (H:Hp) (E:Value→Shared→Prop),Inv X pins σ H s→(∀ b∈fp,FpOk X pins H b)→tn i s.heap → J.stop i H →
    wpAny (model P w) X.A (pyNext (.ref it)) (fun r s1=>r=none∧Inv X pins σ H s1) E s
  self:∀ (A:Around) (i:Nat) (s:Shared) (Q:Value→Shared→Prop) (E:Value→Shared→Prop),tn i s.heap → Q (.ref it) s→wpAny (model P w) A (pyIter (.ref it)) Q E s
abbrev TI:=St→Hp→(It→Hp→Prop)→Prop
def PIE (X:Cx)(pins:List (Addr × Obj))(σ:St)(tg:Expr)(R:It→Hp→Prop)(itv:Value)(s2:Shared):Prop :=
  ∃ (it:Addr) (fp:List Addr) (tn:Nat→Heap→Prop) (J:It) (H':Hp),itv = .ref it∧Inv X pins σ H' s2∧Turn X.prog X.w X.K tg J fp it tn∧tn 0 s2.heap ∧ (∀ b∈fp,FpOk X pins H' b)∧R J H'
def PI (X:Cx)(tg iter:Expr)(wi:TI):Prop :=
  ∀ (pins:List (Addr × Obj)) (s:Shared) (σ:St) (H:Hp) (R:It→Hp→Prop),Inv X pins σ H s→wi σ H R →
    wpAny (model X.prog X.w) X.A (eval iter X.env) (fun v s1=>wpAny (model X.prog X.w) X.A (pyIter v) (PIE X pins σ tg R) X.xe s1) X.xe s
theorem go_of {M:Model}{A:Around}{E:Value→Shared→Prop}{s:Shared}{tg:Expr}{it:Addr}{u:Value}{o:Obj}{n:String}{vs:Array Value}{Q:Unit→Shared→Prop}(ho:s.heap.get? it=some o)(hc:o.cls = .type n)(hd:o.data = .fields vs)
    (hn:["enumerate","zip","dict_itemiterator","dict_reverseitemiterator","odict_iterator","itertools.zip_longest","itertools.pairwise"].contains n=false) (hQ:Q () s):wpAny M A (letOwnedTupleGo tg (.ref it) u) Q E s:=by
  unfold letOwnedTupleGo
  cases tg <;> first
    | exact wpAny_pure hQ
    | (cases u <;> first
        | exact wpAny_pure hQ
        | (refine wpAny_bind (wpAny_load ho ?_)
           rw [hc,hd]
           show wpAny M A (if (["enumerate","zip","dict_itemiterator","dict_reverseitemiterator","odict_iterator","itertools.zip_longest","itertools.pairwise"].contains n && vs[0]? == some (rawInt _))=true then _ else _) Q E s
           rw [if_neg (by intro h;rw [hn,Bool.false_and] at h;cases h)]
           exact wpAny_pure hQ))
def Itl (K:PySem.W.Frag)(a:Addr):It :=
  ⟨fun i H=>∃ xs x,SqL K H a xs∧xs[i]? = some x,fun i H x H'=>H'=H∧∀ xs,SqL K H a xs→xs[i]? = some x,fun i H=>∃ xs,SqL K H a xs∧xs.length ≤ i⟩
def Itt (K:PySem.W.Frag)(a:Addr):It :=
  ⟨fun i H=>∃ xs x,SqT K H a xs∧xs[i]? = some x,fun i H x H'=>H'=H∧∀ xs,SqT K H a xs→xs[i]? = some x,fun i H=>∃ xs,SqT K H a xs∧xs.length ≤ i⟩
def Itr (lo:Int)(n:Nat):It:=⟨fun i _=>i < n,fun i H x H'=>H'=H∧x = .int (lo + i),fun i _=>n≤i⟩
theorem turn_list {P:Program}{w:World}{K:PySem.W.Frag}{tg:Expr}(a it:Addr):Turn P w K tg (Itl K a) [it] it (fun i h=>h.IsListIter it a i) where
  mem:=by simp
  obj:=fun i h st b hb=>by
    have e:b=it:=by simpa using hb
    subst e
    obtain ⟨o,e,c,d⟩:=st
    exact ⟨o,e,fun v z=>by rw [d] at z;cases z⟩
  keep:=fun i h h' st k=>st.at fun o e=>k it (by simp) o e
  item:=by
    intro X hP hw hK hc i pins s σ H E I hf st hg
    subst hP hw hK
    obtain ⟨xs,x,hq,hx⟩:=hg
    obtain ⟨its,rv,p,hz⟩:=I.list hq
    obtain ⟨u,hu,ru⟩:=rv.get hx
    obtain ⟨f0,f1,f2,f3,f4,f5⟩:=hf it (by simp)
    refine wpAny_pyNext_list_item st p.isList (x:=u) (by simpa using hu) fun h' st' sb=>?_
    have I1:Inv X pins σ H { s with heap:=h' }:=I.turned (t':=s.toks) (fun b o hb e=>(sb.2 b hb).trans e) f0 f1 f3 f4 f5
    obtain ⟨o,e,c,d⟩:=id st'
    exact ⟨u,rfl,go_of (s:={ s with heap:=h' }) e c d (by decide) ⟨x,H,I1,ru,⟨rfl,fun ys hy=>by rw [I.list_inj hy hq];exact hx⟩,st',fun b hb=>(hf b hb).1⟩⟩
  done:=by
    intro X hP hw hK hc i pins s σ H E I hf st hg
    subst hP hw hK
    obtain ⟨xs,hq,hx⟩:=hg
    obtain ⟨its,rv,p,hz⟩:=I.list hq
    obtain ⟨f0,f1,f2,f3,f4,f5⟩:=hf it (by simp)
    have hl:=rv.length
    exact wpAny_pyNext_list_end (I.ok.hd hc) st p.isList (by simp;omega) fun h' eb=>⟨rfl,I.turned (t':=s.toks) (fun b o hb e=>eb b o hb e) f0 f1 f3 f4 f5⟩
  self:=fun _ _ _ _ _ st h=>wpAny_pyIter_listiter st h
theorem turn_tuple {P:Program}{w:World}{K:PySem.W.Frag}{tg:Expr}(a it:Addr):Turn P w K tg (Itt K a) [it] it (fun i h=>h.IsTupleIter it a i) where
  mem:=by simp
  obj:=fun i h st b hb=>by
    have e:b=it:=by simpa using hb
    subst e
    obtain ⟨o,e,c,d⟩:=st
    exact ⟨o,e,fun v z=>by rw [d] at z;cases z⟩
  keep:=fun i h h' st k=>st.at fun o e=>k it (by simp) o e
  item:=by
    intro X hP hw hK hc i pins s σ H E I hf st hg
    subst hP hw hK
    obtain ⟨xs,x,hq,hx⟩:=hg
    obtain ⟨its,rv,p,hz⟩:=I.tuple hq
    obtain ⟨u,hu,ru⟩:=rv.get hx
    obtain ⟨f0,f1,f2,f3,f4,f5⟩:=hf it (by simp)
    refine wpAny_pyNext_tuple_item st (show s.heap.IsTuple a its.toArray from p) (x:=u) (by simpa using hu) fun h' st' sb=>?_
    have I1:Inv X pins σ H { s with heap:=h' }:=I.turned (t':=s.toks) (fun b o hb e=>(sb.2 b hb).trans e) f0 f1 f3 f4 f5
    obtain ⟨o,e,c,d⟩:=id st'
    exact ⟨u,rfl,go_of (s:={ s with heap:=h' }) e c d (by decide) ⟨x,H,I1,ru,⟨rfl,fun ys hy=>by rw [I.tuple_inj hy hq];exact hx⟩,st',fun b hb=>(hf b hb).1⟩⟩
  done:=by
    intro X hP hw hK hc i pins s σ H E I hf st hg
    subst hP hw hK
    obtain ⟨xs,hq,hx⟩:=hg
    obtain ⟨its,rv,p,hz⟩:=I.tuple hq
    obtain ⟨f0,f1,f2,f3,f4,f5⟩:=hf it (by simp)
    have hl:=rv.length
    exact wpAny_pyNext_tuple_end (I.ok.hd hc) st (show s.heap.IsTuple a its.toArray from p) (by simp;omega) fun h' eb=>⟨rfl,I.turned (t':=s.toks) (fun b o hb e=>eb b o hb e) f0 f1 f3 f4 f5⟩
  self:=fun _ _ _ _ _ st h=>wpAny_pyIter_tupleiter st h
theorem turn_range {P:Program}{w:World}{K:PySem.W.Frag}{tg:Expr}(it:Addr)(lo:Int)(n:Nat):Turn P w K tg (Itr lo n) [it] it (fun i h=>IsRangeIter h it (lo + (i:Nat) * 1) ((n:Int) - (i:Nat)) 1) where
  mem:=by simp
  obj:=fun i h st b hb=>by
    have e:b=it:=by simpa using hb
    subst e
    exact ⟨_,st,fun v z=>by
      have z':Data.fields _=Data.cell v:=z
      cases z'⟩
  keep:=fun i h h' st k=>k it (by simp) _ st
  item:=by
    intro X hP hw hK hc i pins s σ H E I hf st hg
    subst hP hw hK
    obtain ⟨f0,f1,f2,f3,f4,f5⟩:=hf it (by simp)
    have W:=Walks.range (prog:=X.prog) (w:=X.w) (I.ok.hd hc) it lo 1 n
    refine W.item i s _ _ hg st fun v h' tk hv st' kk=>?_
    obtain ⟨t,rfl⟩:=hv
    have I1:Inv X pins σ H { s with heap:=h',toks:=tk }:=I.turned (fun b o hb e=>kk b o (by simpa using hb) e) f0 f1 f3 f4 f5
    refine ⟨_,rfl,go_of (s:={ s with heap:=h',toks:=tk }) (n := "range_iterator") st' rfl rfl (by decide) ⟨.int (lo + i),H,I1,⟨t,?_⟩,⟨rfl,rfl⟩,st',fun b hb=>(hf b hb).1⟩⟩
    rw [Int.mul_one]
  done:=by
    intro X hP hw hK hc i pins s σ H E I hf st hg
    subst hP hw hK
    obtain ⟨f0,f1,f2,f3,f4,f5⟩:=hf it (by simp)
    exact wpAny_pyNext_range_end (I.ok.hd hc) st (by have:n≤i:=hg;omega) fun h' eb=>⟨rfl,I.turned (t':=s.toks) (fun b o hb e=>eb b o hb e) f0 f1 f3 f4 f5⟩
  self:=fun _ _ _ _ _ st h=>wpAny_pyIter_rangeiter st h
end L2
namespace L2
open PySem PySem.Spec PyProof.Rows
section
variable {X:Cx}{tg:Expr}
def iList (K:PySem.W.Frag)(tl:TE):TI:=fun σ H R=>tl σ H fun x H1=>∃ a,x = .ref a∧(∃ xs,SqL K H1 a xs)∧R (Itl K a) H1
def iTup (K:PySem.W.Frag)(tl:TE):TI:=fun σ H R=>tl σ H fun x H1=>∃ a,x = .ref a∧(∃ xs,SqT K H1 a xs)∧R (Itt K a) H1
theorem pi_list {l:Expr}{tl:TE}(hl:PE X l tl):PI X tg l (iList X.K tl):=by
  intro pins s σ H R I h
  refine thn (hl pins s σ H _ I h) fun v s1 ⟨x,H1,I1,r1,q1⟩=>?_
  obtain ⟨a,e,⟨xs,hq⟩,q⟩:=q1
  subst e
  cases r1
  obtain ⟨its,rv,p,hz⟩:=I1.list hq
  refine wpAny_pyIter_list p.isList ?_
  refine ⟨s1.heap.objs.size,[s1.heap.objs.size],_,_,H1,rfl,I1.kept (t':=s1.toks) fun b o e=>Heap.get?_push_of_some _ e,turn_list a _,⟨_,Heap.get?_push_size _ rfl,rfl,rfl⟩,fun b hb=>?_,q⟩
  have e:b=s1.heap.objs.size:=by simpa using hb
  subst e
  exact I1.fpOk (Nat.le_refl _) (I1.hok.fresh (Nat.le_refl _))
theorem pi_tup {l:Expr}{tl:TE}(hl:PE X l tl):PI X tg l (iTup X.K tl):=by
  intro pins s σ H R I h
  refine thn (hl pins s σ H _ I h) fun v s1 ⟨x,H1,I1,r1,q1⟩=>?_
  obtain ⟨a,e,⟨xs,hq⟩,q⟩:=q1
  subst e
  cases r1
  obtain ⟨its,rv,p,hz⟩:=I1.tuple hq
  refine wpAny_pyIter_tuple (show s1.heap.IsTuple a its.toArray from p) ?_
  refine ⟨s1.heap.objs.size,[s1.heap.objs.size],_,_,H1,rfl,I1.kept (t':=s1.toks) fun b o e=>Heap.get?_push_of_some _ e,turn_tuple a _,⟨_,Heap.get?_push_size _ rfl,rfl,rfl⟩,fun b hb=>?_,q⟩
  have e:b=s1.heap.objs.size:=by simpa using hb
  subst e
  exact I1.fpOk (Nat.le_refl _) (I1.hok.fresh (Nat.le_refl _))
theorem range_it {pins:List (Addr × Obj)}{σ:St}{H:Hp}{s:Shared}{R:It→Hp→Prop}{E:Value→Shared→Prop}{lo hi:Int}{t u v:Tok}{tk:Nat}(I:Inv X pins σ H s)(h1:-(2 ^ 62)≤lo)(h2:lo < 2 ^ 62)(h3:-(2 ^ 62)≤hi)(h4:hi < 2 ^ 62)
    (q:R (Itr lo (hi - lo).toNat) H):wpAny (model X.prog X.w) X.A (pyIter (.ref s.heap.objs.size)) (PIE X pins σ tg R) E { s with heap:=s.heap.push { cls:=.type "range",data:=.fields #[.int lo t,.int hi u,.int 1 v] },toks:=tk }:=by
  refine wpAny_pyIter_range (IsRange.new ..) (small_one h1 h2 h3 h4) ?_
  have I1:Inv X pins σ H { s with heap:=s.heap.push { cls:=.type "range",data:=.fields #[.int lo t,.int hi u,.int 1 v] },toks:=tk }:=I.kept fun b o e=>Heap.get?_push_of_some _ e
  refine ⟨(s.heap.push { cls:=.type "range",data:=.fields #[.int lo t,.int hi u,.int 1 v] }).objs.size,[(s.heap.push { cls:=.type "range",data:=.fields #[.int lo t,.int hi u,.int 1 v] }).objs.size],_,_,H,rfl,
    I1.kept (t':=tk) fun b o e=>Heap.get?_push_of_some _ e,turn_range _ lo (hi - lo).toNat,?_,fun b hb=>?_,q⟩
  · have e1:lo + ((0:Nat):Int) * 1=lo:=by simp
    have e2:(((hi - lo).toNat:Nat):Int) - ((0:Nat):Int)=Builtin.Range.rangeSize lo hi 1:=by rw [rangeSize_one];split <;> omega
    show IsRangeIter _ _ (lo + ((0:Nat):Int) * 1) ((((hi - lo).toNat:Nat):Int) - ((0:Nat):Int)) 1
    rw [e1,e2]
    exact Heap.get?_push_size _ rfl
  · have e:b=(s.heap.push { cls:=.type "range",data:=.fields #[.int lo t,.int hi u,.int 1 v] }).objs.size:=by simpa using hb
    subst e
    exact I1.fpOk (Nat.le_refl _) (I1.hok.fresh (Nat.le_refl _))
def iRng1 (ta:TA):TI:=fun σ H R=>ta σ H fun vs H1=>∃ j:Int,vs=[.int j]∧-(2 ^ 62)≤j∧j < 2 ^ 62∧R (Itr 0 j.toNat) H1
theorem pi_range1 {a:Expr} {ta:TA} {p pos:Pos} (hg:Gl X "range") (hm:X.mg "range" = none) (ha:PA X [a] ta) (hs:starEach [a] X.env=[(false,eval a X.env)]:=by rfl):PI X tg (.Call (.Name "range" p) [a] [] pos) (iRng1 ta):=by
  intro pins s σ H R I h
  refine Call_ (ld_blt I hg hm boot_range (PyProof.Rows.callWith_type1 (thn (ha pos pins s σ H _ I h) fun us s1 ⟨vs,H1,I1,r1,q1⟩=>?_) hs rfl))
  obtain ⟨j,e,q1,q2,q⟩:=q1
  subst e
  cases r1 with
  | cons r rr =>
    cases rr
    obtain ⟨t,rfl⟩:=r
    exact call_range_1 (range_it I1 (by omega) (by omega) q1 q2 (by simpa using q))
def tFor (wi:TI)(g:TG)(tb:TS):TS:=fun D σ H=>wi σ H fun J H1=>∃ W:Nat→Nat→St→Hp→Prop,(∃ m,W 0 m σ H1)∧∀ i m σ H,W i m σ H →
  (J.stop i H∧D.nx σ H) ∨ (J.go i H∧∃ N:St→Hp→Prop,(∀ σ' H',N σ' H'→∃ m',m' < m∧W (i + 1) m' σ' H')∧∀ x H',J.yld i H x H'→g x σ H' fun σ2 H2=>tb { D with nx:=N,ct:=N,bk:=D.nx } σ2 H2)
def pinsAt (fp:List Addr)(h:Heap):List (Addr × Obj):=fp.filterMap fun b=>(h.get? b).map fun o=>(b,o)
theorem mem_pinsAt {fp:List Addr}{h:Heap}{b:Addr}{o:Obj}(hb:b∈fp)(e:h.get? b=some o):(b,o)∈pinsAt fp h:=List.mem_filterMap.mpr ⟨b,hb,by rw [e];rfl⟩
theorem of_pinsAt {fp:List Addr}{h:Heap}{p:Addr × Obj}(hp:p∈pinsAt fp h):p.1 ∈ fp∧h.get? p.1=some p.2:=by
  obtain ⟨b,hb,e⟩:=List.mem_filterMap.mp hp
  cases q:h.get? b with
  | none=>rw [q] at e;cases e
  | some o =>
    rw [q] at e
    have e':(b,o)=p:=Option.some.inj e
    subst e'
    exact ⟨hb,q⟩
theorem Inv.pinned {pins:List (Addr × Obj)}{σ:St}{H:Hp}{s:Shared}{fp:List Addr}(I:Inv X pins σ H s)(hf:∀ b∈fp,FpOk X pins H b)(ho:∀ b∈fp,∃ o,s.heap.get? b=some o∧∀ v,o.data ≠ .cell v):Inv X (pins ++ pinsAt fp s.heap) σ H s :=
  I.pins_of fun p hp=>(List.mem_append.mp hp).elim (fun z=>I.pin p (List.mem_append_right _ z)) fun z=>by
    obtain ⟨hb,e⟩:=of_pinsAt z
    obtain ⟨f0,f1,f2,_⟩:=hf p.1 hb
    obtain ⟨o,e',d⟩:=ho p.1 hb
    rw [e] at e';cases e'
    exact ⟨e,f0,f1,f2,d⟩
theorem Inv.unpinned {pins pl:List (Addr × Obj)}{σ:St}{H:Hp}{s:Shared}(I:Inv X (pins ++ pl) σ H s):Inv X pins σ H s:=I.pins_of fun p hp=>I.pin p (List.mem_append_right _ (List.mem_append_left _ hp))
theorem ps_for {iter:Expr}{body:List Stmt}{wi:TI}{g:TG}{tb:TS}{pos:Pos}(hp:PassesOwn (model X.prog X.w) X.A X.env X.xe)(hc:X.calm=true)(hi:PI X tg iter wi)(hg:PG X tg g)(hb:PSs X body tb)
    (hs:∀ x,foldedSetIterable iter X.env x=pure x:=by intro _;rfl):PS X (.For tg iter body [] pos) (tFor wi g tb):=by
  intro pins s σ H D I h
  refine wpAny_For (thn (hi pins s σ H _ I h) fun v s1 h1=>thn h1 fun itv s2 h2=>?_) hs
  obtain ⟨it,fp,tn,J,H2,e,I2,T,st2,f2,W,⟨m0,w0⟩,turn⟩:=h2
  subst e
  have stat:∀ {H':Hp},(∀ b∈fp,H' b=none)→∀ b∈fp,FpOk X pins H' b:=fun hn b hb=>⟨hn b hb,(f2 b hb).2⟩
  refine codeAny_forLoop_any (fun n s'=>∃ i σ' H',Inv X pins σ' H' s'∧tn i s'.heap ∧ (∀ b∈fp,H' b=none)∧W i n σ' H') ?_ m0 ⟨0,σ,H2,I2,st2,fun b hb=>(f2 b hb).1,w0⟩
  rintro n s3 ⟨i,σ3,H3,I3,st3,fr3,w3⟩
  rcases turn i n σ3 H3 w3 with ⟨stop,qn⟩ | ⟨go,N,hN,step⟩
  · refine wpAny_passesOwn hp (thn (T.done X rfl rfl rfl hc i pins s3 σ3 H3 X.xe I3 (stat fr3) st3 stop) fun r s4 ⟨hr,I4⟩=>?_)
    subst hr
    exact wpAny_execs_nil ⟨σ3,H3,I4,qn⟩
  · refine wpAny_passesOwn hp (thn (T.item X rfl rfl rfl hc i pins s3 σ3 H3 X.xe I3 (stat fr3) st3 go) fun r s4 ⟨u,hr,h4⟩=>?_)
    subst hr
    refine wpAny_passesOwn hp (thn h4 fun _ s5 ⟨x,H5,I5,r5,y5,st5,fr5⟩=>?_)
    have I5':=I5.pinned (stat fr5) (T.obj _ _ st5)
    refine wpAny_passesOwn hp (thn (hg _ s5 σ3 H5 x u _ I5' r5 (step x H5 y5)) fun _ s6 ⟨σ6,H6,I6,q6⟩=>?_)
    refine wpAny_passesOwn hp (thn (hb _ s6 σ6 H6 _ I6 q6) fun f s7 q7=>?_)
    have again:∀ {σ7:St} {H7:Hp},Inv X (pins ++ pinsAt fp s5.heap) σ7 H7 s7→N σ7 H7→∃ m,m < n∧∃ i σ' H',Inv X pins σ' H' s7∧tn i s7.heap ∧ (∀ b∈fp,H' b=none)∧W i m σ' H':=fun {σ7 H7} I7 n7=>by
      obtain ⟨m',hm,w7⟩:=hN σ7 H7 n7
      refine ⟨m',hm,i + 1,σ7,H7,I7.unpinned,T.keep _ _ _ st5 fun b hb o e=>(I7.pin (b,o) (List.mem_append_right _ (List.mem_append_right _ (mem_pinsAt hb e)))).1,fun b hb=>?_,w7⟩
      obtain ⟨o,e,d⟩:=T.obj _ _ st5 b hb
      exact (I7.pin (b,o) (List.mem_append_right _ (List.mem_append_right _ (mem_pinsAt hb e)))).2.1
    cases f with
    | next=>obtain ⟨σ7,H7,I7,n7⟩:=q7;exact again I7 n7
    | cont=>obtain ⟨σ7,H7,I7,n7⟩:=q7;exact again I7 n7
    | brk=>obtain ⟨σ7,H7,I7,q7⟩:=q7;exact ⟨σ7,H7,I7.unpinned,q7⟩
    | ret v=>obtain ⟨x7,σ7,H7,I7,r7,q7⟩:=q7;exact ⟨x7,σ7,H7,I7.unpinned,r7,q7⟩
end
theorem for_list {K:PySem.W.Frag}{a:Addr}{xs:List V}{g:TG}{tb:TS}{D:Ends}{σ:St}{H:Hp}(Pv:Nat→St→Hp→Prop)(h0:Pv 0 σ H)(hl:∀ i σ H,i≤xs.length → Pv i σ H→SqL K H a xs)
    (hs:∀ i x σ H,xs[i]? = some x→Pv i σ H→g x σ H fun σ2 H2=>tb { D with nx:=Pv (i + 1),ct:=Pv (i + 1),bk:=D.nx } σ2 H2) (hd:∀ σ H,Pv xs.length σ H→D.nx σ H) :
    ∃ W:Nat→Nat→St→Hp→Prop,(∃ m,W 0 m σ H)∧∀ i m σ H,W i m σ H →
      ((Itl K a).stop i H∧D.nx σ H) ∨ ((Itl K a).go i H∧∃ N:St→Hp→Prop,(∀ σ' H',N σ' H'→∃ m',m' < m∧W (i + 1) m' σ' H')∧∀ x H',(Itl K a).yld i H x H'→g x σ H' fun σ2 H2=>tb { D with nx:=N,ct:=N,bk:=D.nx } σ2 H2):=by
  refine ⟨fun i m σ H=>m=xs.length - i∧i≤xs.length ∧ Pv i σ H,⟨xs.length,by simp,Nat.zero_le _,h0⟩,?_⟩
  rintro i m σ H ⟨rfl,hi,p⟩
  have q:=hl i σ H hi p
  by_cases hlt:i < xs.length
  · refine .inr ⟨⟨xs,xs[i],q,by simp [hlt]⟩,Pv (i + 1),fun σ' H' p'=>⟨xs.length - (i + 1),by omega,rfl,hlt,p'⟩,fun x H' y=>?_⟩
    obtain ⟨e,y⟩:=y
    subst e
    exact hs i x σ _ (y xs q) p
  · have e:i=xs.length:=by omega
    subst e
    exact .inl ⟨⟨xs,q,Nat.le_refl _⟩,hd σ H p⟩
theorem for_tup {K:PySem.W.Frag}{a:Addr}{xs:List V}{g:TG}{tb:TS}{D:Ends}{σ:St}{H:Hp}(Pv:Nat→St→Hp→Prop)(h0:Pv 0 σ H)(hl:∀ i σ H,i≤xs.length → Pv i σ H→SqT K H a xs)
    (hs:∀ i x σ H,xs[i]? = some x→Pv i σ H→g x σ H fun σ2 H2=>tb { D with nx:=Pv (i + 1),ct:=Pv (i + 1),bk:=D.nx } σ2 H2) (hd:∀ σ H,Pv xs.length σ H→D.nx σ H) :
    ∃ W:Nat→Nat→St→Hp→Prop,(∃ m,W 0 m σ H)∧∀ i m σ H,W i m σ H →
      ((Itt K a).stop i H∧D.nx σ H) ∨ ((Itt K a).go i H∧∃ N:St→Hp→Prop,(∀ σ' H',N σ' H'→∃ m',m' < m∧W (i + 1) m' σ' H')∧∀ x H',(Itt K a).yld i H x H'→g x σ H' fun σ2 H2=>tb { D with nx:=N,ct:=N,bk:=D.nx } σ2 H2):=by
  refine ⟨fun i m σ H=>m=xs.length - i∧i≤xs.length ∧ Pv i σ H,⟨xs.length,by simp,Nat.zero_le _,h0⟩,?_⟩
  rintro i m σ H ⟨rfl,hi,p⟩
  have q:=hl i σ H hi p
  by_cases hlt:i < xs.length
  · refine .inr ⟨⟨xs,xs[i],q,by simp [hlt]⟩,Pv (i + 1),fun σ' H' p'=>⟨xs.length - (i + 1),by omega,rfl,hlt,p'⟩,fun x H' y=>?_⟩
    obtain ⟨e,y⟩:=y
    subst e
    exact hs i x σ _ (y xs q) p
  · have e:i=xs.length:=by omega
    subst e
    exact .inl ⟨⟨xs,q,Nat.le_refl _⟩,hd σ H p⟩
theorem for_range {lo:Int}{n:Nat}{g:TG}{tb:TS}{D:Ends}{σ:St}{H:Hp}(Pv:Nat→St→Hp→Prop)(h0:Pv 0 σ H)
    (hs:∀ i σ H,i < n→Pv i σ H→g (.int (lo + i)) σ H fun σ2 H2=>tb { D with nx:=Pv (i + 1),ct:=Pv (i + 1),bk:=D.nx } σ2 H2) (hd:∀ σ H,Pv n σ H→D.nx σ H) :
    ∃ W:Nat→Nat→St→Hp→Prop,(∃ m,W 0 m σ H)∧∀ i m σ H,W i m σ H →
      ((Itr lo n).stop i H∧D.nx σ H) ∨ ((Itr lo n).go i H∧∃ N:St→Hp→Prop,(∀ σ' H',N σ' H'→∃ m',m' < m∧W (i + 1) m' σ' H')∧∀ x H',(Itr lo n).yld i H x H'→g x σ H' fun σ2 H2=>tb { D with nx:=N,ct:=N,bk:=D.nx } σ2 H2):=by
  refine ⟨fun i m σ H=>m=n - i∧i≤n∧Pv i σ H,⟨n,by simp,Nat.zero_le _,h0⟩,?_⟩
  rintro i m σ H ⟨rfl,hi,p⟩
  by_cases hlt:i < n
  · refine .inr ⟨hlt,Pv (i + 1),fun σ' H' p'=>⟨n - (i + 1),by omega,rfl,hlt,p'⟩,fun x H' y=>?_⟩
    obtain ⟨e,y⟩:=y
    subst e y
    exact hs i σ _ hlt p
  · have e:i=n:=by omega
    subst e
    exact .inl ⟨Nat.le_refl _,hd σ H p⟩
end L2
namespace L2
open PySem PySem.Spec PyProof.Rows
abbrev R2:=V→V→Hp→VK→Prop
def OpR (X:Cx)(f:Value→Value→Sem Value)(r:R2):Prop :=
  ∀ (pins:List (Addr × Obj)) (s:Shared) (σ:St) (H:Hp) (x y:V) (v u:Value) (Q:VK),Inv X pins σ H s→RelV x v→RelV y u→r x y H Q →
    wpAny (model X.prog X.w) X.A (f v u) (EP X pins σ Q) X.xe s
def UnR (X:Cx)(f:Value→Sem Value)(r:V→Hp→VK→Prop):Prop :=
  ∀ (pins:List (Addr × Obj)) (s:Shared) (σ:St) (H:Hp) (x:V) (v:Value) (Q:VK),Inv X pins σ H s→RelV x v→r x H Q →
    wpAny (model X.prog X.w) X.A (f v) (EP X pins σ Q) X.xe s
def CallR (X:Cx)(f:Value)(r:List V→Hp→VK→Prop):Prop :=
  ∀ (pins:List (Addr × Obj)) (s:Shared) (σ:St) (H:Hp) (xs:List V) (us:List Value) (Q:VK),Inv X pins σ H s→Vals xs us→r xs H Q →
    wpAny (model X.prog X.w) X.A (call f us) (EP X pins σ Q) X.xe s
def TruR (X:Cx)(r:V→Hp→(Bool→Hp→Prop)→Prop):Prop :=
  ∀ (pins:List (Addr × Obj)) (s:Shared) (σ:St) (H:Hp) (x:V) (v:Value) (Q:Bool→Hp→Prop),Inv X pins σ H s→RelV x v→r x H Q →
    wpAny (model X.prog X.w) X.A (truthy v) (TP X pins σ Q) X.xe s
def tOp (r:R2)(ta tb:TE):TE:=fun σ H Q=>ta σ H fun x H1=>tb σ H1 fun y H2=>r x y H2 Q
def tUn (r:V→Hp→VK→Prop)(ta:TE):TE:=fun σ H Q=>ta σ H fun x H1=>r x H1 Q
def rI (C:Int→Int→Prop)(g:Int→Int→V):R2:=fun x y H Q=>∃ i j,x = .int i∧y = .int j∧C i j∧Q (g i j) H
def rI0 (g:Int→Int→V):R2:=fun x y H Q=>∃ i j,x = .int i∧y = .int j∧Q (g i j) H
def rU (g:Int→V):V→Hp→VK→Prop:=fun x H Q=>∃ i,x = .int i∧Q (g i) H
section
variable {X:Cx}{a b c:Expr}{ta tb tc:TE}{pos:Pos}
theorem binT (ha:PE X a ta)(hb:PE X b tb){pins:List (Addr × Obj)}{s:Shared}{σ:St}{H:Hp}{R:V→V→Hp→Prop}(I:Inv X pins σ H s)
    (h:ta σ H fun x H1=>tb σ H1 fun y H2=>R x y H2) {Q:Value→Shared→Prop} {f:Value→Value→Sem Value}
    (hf:∀ v u s2 x y H2,Inv X pins σ H2 s2→RelV x v→RelV y u→R x y H2→wpAny (model X.prog X.w) X.A (f v u) Q X.xe s2) :
    wpAny (model X.prog X.w) X.A (eval a X.env) (fun v s₁=>wpAny (model X.prog X.w) X.A (eval b X.env) (fun u s₂=>wpAny (model X.prog X.w) X.A (f v u) Q X.xe s₂) X.xe s₁) X.xe s:=by
  refine thn (ha pins s σ H _ I h) fun v s1 ⟨x,H1,I1,r1,q1⟩=>?_
  refine thn (hb pins s1 σ H1 _ I1 q1) fun u s2 ⟨y,H2,I2,r2,q2⟩=>?_
  exact hf v u s2 x y H2 I2 r1 r2 q2
theorem pe_op {op:Operator}{r:R2}(ho:OpR X (binaryOp op) r)(ha:PE X a ta)(hb:PE X b tb):PE X (.BinOp a op b pos) (tOp r ta tb):=by
  intro pins s σ H Q I h
  exact wpAny_BinOp (binT ha hb I h fun v u s2 x y H2 I2 rx ry q=>ho pins s2 σ H2 x y v u Q I2 rx ry q)
theorem pe_un {op:UnaryOp}{r:V→Hp→VK→Prop}(ho:UnR X (unaryOp op) r)(ha:PE X a ta):PE X (.UnaryOp op a pos) (tUn r ta):=by
  intro pins s σ H Q I h
  exact UnaryOp_ (thn (ha pins s σ H _ I h) fun v s1 ⟨x,H1,I1,r1,q1⟩=>ho pins s1 σ H1 x v Q I1 r1 q1)
theorem opI {f:Value→Value→Sem Value}{C:Int→Int→Prop}{g:Int→Int→Int}
    (rule:∀ (i j:Int) (t u:Tok) (s:Shared) (Q:Value→Shared→Prop) (E:Value→Shared→Prop),C i j→Q (.int (g i j) s.toks) { s with toks:=s.toks + 1 }→wpAny (model X.prog X.w) X.A (f (.int i t) (.int j u)) Q E s) :
    OpR X f (rI C fun i j=>.int (g i j)):=by
  intro pins s σ H x y v u Q I rx ry h
  obtain ⟨i,j,rfl,rfl,hc,q⟩:=h
  obtain ⟨t,rfl⟩:=rx
  obtain ⟨t',rfl⟩:=ry
  exact rule i j t t' s _ _ hc ⟨.int (g i j),H,I.tok _,⟨_,rfl⟩,q⟩
theorem opI0 {f:Value→Value→Sem Value}{g:Int→Int→Int}
    (rule:∀ (i j:Int) (t u:Tok) (s:Shared) (Q:Value→Shared→Prop) (E:Value→Shared→Prop),Q (.int (g i j) s.toks) { s with toks:=s.toks + 1 }→wpAny (model X.prog X.w) X.A (f (.int i t) (.int j u)) Q E s) :
    OpR X f (rI0 fun i j=>.int (g i j)):=by
  intro pins s σ H x y v u Q I rx ry h
  obtain ⟨i,j,rfl,rfl,q⟩:=h
  obtain ⟨t,rfl⟩:=rx
  obtain ⟨t',rfl⟩:=ry
  exact rule i j t t' s _ _ ⟨.int (g i j),H,I.tok _,⟨_,rfl⟩,q⟩
theorem opB0 {f:Value→Value→Sem Value}{g:Int→Int→Bool}
    (rule:∀ (i j:Int) (t u:Tok) (s:Shared) (Q:Value→Shared→Prop) (E:Value→Shared→Prop),Q (.bool (g i j)) s→wpAny (model X.prog X.w) X.A (f (.int i t) (.int j u)) Q E s) :
    OpR X f (rI0 fun i j=>.bl (g i j)):=by
  intro pins s σ H x y v u Q I rx ry h
  obtain ⟨i,j,rfl,rfl,q⟩:=h
  obtain ⟨t,rfl⟩:=rx
  obtain ⟨t',rfl⟩:=ry
  exact rule i j t t' s _ _ ⟨.bl (g i j),H,I,rfl,q⟩
def CPow (i j:Int):Prop:=0≤j∧j≤1000000∧i.natAbs < 2 ^ 64
def CMul (i j:Int):Prop:=(-(2 ^ 64) < i∧i < 2 ^ 64) ∨ (-(2 ^ 64) < j∧j < 2 ^ 64)
theorem CMul.ok {i j:Int}(h:CMul i j):IntMulOk i j:=by
  rcases h with ⟨h1,h2⟩ | ⟨h1,h2⟩
  · exact .of_left (intBits_le_64 h1 h2)
  · exact .of_right (intBits_le_64 h1 h2)
theorem op_add:OpR X (binaryOp .Add) (rI0 fun i j=>.int (i + j)):=opI0 fun _ _ _ _ _ _ _ q=>add_int q
theorem op_sub:OpR X (binaryOp .Sub) (rI0 fun i j=>.int (i - j)):=opI0 fun _ _ _ _ _ _ _ q=>sub_int q
theorem op_mul:OpR X (binaryOp .Mult) (rI CMul fun i j=>.int (i * j)):=opI fun _ _ _ _ _ _ _ hc q=>mul_int q hc.ok
theorem op_mod:OpR X (binaryOp .Mod) (rI (fun _ j=>0 < j) fun i j=>.int (i % j)):=opI fun i j _ _ _ _ _ hc q=>by
  have h1:(0:Int) < j:=hc
  exact mod_int' (by omega) (by rw [Int.fmod_eq_emod_of_nonneg i (by omega)];exact q)
theorem op_pow:OpR X (binaryOp .Pow) (rI CPow fun i j=>.int (i ^ j.toNat)):=opI fun _ _ _ _ _ _ _ hc q=>pow_int_small hc.1 hc.2.1 hc.2.2 q
theorem unI {f:Value→Sem Value}{g:Int→Int}
    (rule:∀ (i:Int) (t:Tok) (s:Shared) (Q:Value→Shared→Prop) (E:Value→Shared→Prop),Q (.int (g i) s.toks) { s with toks:=s.toks + 1 }→wpAny (model X.prog X.w) X.A (f (.int i t)) Q E s) :
    UnR X f (rU fun i=>.int (g i)):=by
  intro pins s σ H x v Q I rx h
  obtain ⟨i,rfl,q⟩:=h
  obtain ⟨t,rfl⟩:=rx
  exact rule i t s _ _ ⟨.int (g i),H,I.tok _,⟨_,rfl⟩,q⟩
theorem un_neg:UnR X (unaryOp .USub) (rU fun i=>.int (-i)):=unI fun _ _ _ _ _ q=>neg_int q
end
def scal:V→V→Bool
  | .non,.non=>true | .non,.int _=>true | .int _,.non=>true | .non,.bl _=>true | .bl _,.non=>true | .non,.str _=>true | .str _,.non=>true
  | .int _,.int _=>true | .bl _,.bl _=>true | .str _,.str _=>true | .byt _,.byt _=>true
  | .int _,.str _=>true | .str _,.int _=>true | .bl _,.str _=>true | .str _,.bl _=>true
  | _,_=>false
def rEq:R2:=fun x y H Q=>scal x y=true∧Q (.bl (decide (x=y))) H
def rNe:R2:=fun x y H Q=>scal x y=true∧Q (.bl (!decide (x=y))) H
theorem dec_int {i j:Int}:decide (V.int i=V.int j)=(i == j):=by
  rw [Bool.eq_iff_iff]
  simp
theorem dec_bl {i j:Bool}:decide (V.bl i=V.bl j)=(i == j):=by
  rw [Bool.eq_iff_iff]
  simp
theorem dec_str {i j:Str}:decide (V.str i=V.str j)=(i == j):=by
  rw [Bool.eq_iff_iff]
  simp
theorem dec_byt {i j:Array UInt8}:decide (V.byt i=V.byt j)=(i.toList == j.toList):=by
  rw [Bool.eq_iff_iff]
  cases i
  cases j
  simp
section
variable {X:Cx}{a b c:Expr}{ta tb tc:TE}{pos:Pos}
theorem fin_bl {pins:List (Addr × Obj)}{σ:St}{H:Hp}{s:Shared}{Q:VK}{k k':Bool}(I:Inv X pins σ H s)(q:Q (.bl k) H)(e:k=k'):EP X pins σ Q (.bool k') s:=by
  subst e
  exact ⟨.bl k,H,I,rfl,q⟩
theorem op_eq:OpR X (compareOp .Eq) rEq:=by
  intro pins s σ H x y v u Q I rx ry h
  obtain ⟨hs,q⟩:=h
  cases x with
  | non =>
    cases rx
    cases y with
    | non=>cases ry;exact PySem.EqNone.eq_none_none (fin_bl I q (by simp))
    | bl j=>cases ry;exact PySem.EqNone.eq_none_bool (fin_bl I q (by simp))
    | int j=>obtain ⟨t',rfl⟩:=ry;exact PySem.EqNone.eq_none_int (fin_bl I q (by simp))
    | str j=>obtain ⟨t',rfl⟩:=ry;exact PySem.EqNone.eq_none_str (fin_bl I q (by simp))
    | _=>exact absurd (show false=true from hs) Bool.false_ne_true
  | bl i =>
    cases rx
    cases y with
    | non=>cases ry;exact PySem.EqNone.eq_bool_none (fin_bl I q (by simp))
    | bl j=>cases ry;exact eq_bool (fin_bl I q dec_bl)
    | str j=>obtain ⟨t',rfl⟩:=ry;exact PySem.EqMixed.eq_bool_str (fin_bl I q (by simp))
    | _=>exact absurd (show false=true from hs) Bool.false_ne_true
  | int i =>
    obtain ⟨t,rfl⟩:=rx
    cases y with
    | non=>cases ry;exact PySem.EqNone.eq_int_none (fin_bl I q (by simp))
    | int j=>obtain ⟨t',rfl⟩:=ry;exact eq_int (fin_bl I q dec_int)
    | str j=>obtain ⟨t',rfl⟩:=ry;exact PySem.EqMixed.eq_int_str (fin_bl I q (by simp))
    | _=>exact absurd (show false=true from hs) Bool.false_ne_true
  | str i =>
    obtain ⟨t,rfl⟩:=rx
    cases y with
    | non=>cases ry;exact PySem.EqNone.eq_str_none (fin_bl I q (by simp))
    | bl j=>cases ry;exact PySem.EqMixed.eq_str_bool (fin_bl I q (by simp))
    | int j=>obtain ⟨t',rfl⟩:=ry;exact PySem.EqMixed.eq_str_int (fin_bl I q (by simp))
    | str j=>obtain ⟨t',rfl⟩:=ry;exact eq_str (fin_bl I q dec_str)
    | _=>exact absurd (show false=true from hs) Bool.false_ne_true
  | byt i =>
    obtain ⟨t,rfl⟩:=rx
    cases y with
    | byt j=>obtain ⟨t',rfl⟩:=ry;exact PySem.W.eq_bytes (fin_bl I q dec_byt)
    | _=>exact absurd (show false=true from hs) Bool.false_ne_true
  | _=>cases y <;> exact absurd (show false=true from hs) Bool.false_ne_true
theorem op_ne:OpR X (compareOp .NotEq) rNe:=by
  intro pins s σ H x y v u Q I rx ry h
  obtain ⟨hs,q⟩:=h
  cases x with
  | non =>
    cases rx
    cases y with
    | non=>cases ry;exact PySem.EqNone.ne_none_none (fin_bl I q (by simp))
    | bl j=>cases ry;exact PySem.EqNone.ne_none_bool (fin_bl I q (by simp))
    | int j=>obtain ⟨t',rfl⟩:=ry;exact PySem.EqNone.ne_none_int (fin_bl I q (by simp))
    | str j=>obtain ⟨t',rfl⟩:=ry;exact PySem.EqNone.ne_none_str (fin_bl I q (by simp))
    | _=>exact absurd (show false=true from hs) Bool.false_ne_true
  | bl i =>
    cases rx
    cases y with
    | non=>cases ry;exact PySem.EqNone.ne_bool_none (fin_bl I q (by simp))
    | bl j=>cases ry;exact ne_bool (fin_bl I q (congrArg not dec_bl))
    | str j=>obtain ⟨t',rfl⟩:=ry;exact PySem.EqMixed.ne_bool_str (fin_bl I q (by simp))
    | _=>exact absurd (show false=true from hs) Bool.false_ne_true
  | int i =>
    obtain ⟨t,rfl⟩:=rx
    cases y with
    | non=>cases ry;exact PySem.EqNone.ne_int_none (fin_bl I q (by simp))
    | int j=>obtain ⟨t',rfl⟩:=ry;exact ne_int (fin_bl I q (congrArg not dec_int))
    | str j=>obtain ⟨t',rfl⟩:=ry;exact PySem.EqMixed.ne_int_str (fin_bl I q (by simp))
    | _=>exact absurd (show false=true from hs) Bool.false_ne_true
  | str i =>
    obtain ⟨t,rfl⟩:=rx
    cases y with
    | non=>cases ry;exact PySem.EqNone.ne_str_none (fin_bl I q (by simp))
    | bl j=>cases ry;exact PySem.EqMixed.ne_str_bool (fin_bl I q (by simp))
    | int j=>obtain ⟨t',rfl⟩:=ry;exact PySem.EqMixed.ne_str_int (fin_bl I q (by simp))
    | str j=>obtain ⟨t',rfl⟩:=ry;exact ne_str (fin_bl I q (congrArg not dec_str))
    | _=>exact absurd (show false=true from hs) Bool.false_ne_true
  | byt i =>
    obtain ⟨t,rfl⟩:=rx
    cases y with
    | byt j=>obtain ⟨t',rfl⟩:=ry;exact PySem.W.ne_bytes (fin_bl I q (congrArg not dec_byt))
    | _=>exact absurd (show false=true from hs) Bool.false_ne_true
  | _=>cases y <;> exact absurd (show false=true from hs) Bool.false_ne_true
theorem op_lt:OpR X (compareOp .Lt) (rI0 fun i j=>.bl (decide (i < j))):=opB0 fun _ _ _ _ _ _ _ q=>lt_int q
theorem op_le:OpR X (compareOp .LtE) (rI0 fun i j=>.bl (decide (i≤j))):=opB0 fun _ _ _ _ _ _ _ q=>le_int q
theorem op_gt:OpR X (compareOp .Gt) (rI0 fun i j=>.bl (decide (j < i))):=opB0 fun _ _ _ _ _ _ _ q=>gt_int q
theorem op_ge:OpR X (compareOp .GtE) (rI0 fun i j=>.bl (decide (j≤i))):=opB0 fun _ _ _ _ _ _ _ q=>ge_int q
theorem op_notN:OpR X (compareOp .IsNot) (fun x y H Q=>y = .non ∧ Q (.bl (!decide (x = .non))) H):=by
  intro pins s σ H x y v u Q I rx ry h
  obtain ⟨rfl,q⟩:=h
  cases ry
  refine isnot_none_gen (fin_bl I q ?_)
  cases x <;> first
    | (cases rx;rfl)
    | (obtain ⟨t,rfl⟩:=rx;rfl)
theorem OpR.or {f:Value→Value→Sem Value}{r r':R2}(h:OpR X f r)(h':OpR X f r'):OpR X f (fun x y H Q=>r x y H Q ∨ r' x y H Q):=by
  intro pins s σ H x y v u Q I rx ry q
  rcases q with q | q
  · exact h pins s σ H x y v u Q I rx ry q
  · exact h' pins s σ H x y v u Q I rx ry q
theorem nomark (b:Expr){op:CmpOp}(h:op≠.In:=by decide)(h2:op≠.NotIn:=by decide):behindInMarks op b=false:=by
  have e1:(op == CmpOp.In)=false:=by cases op <;> first | rfl | exact absurd rfl h
  have e2:(op == CmpOp.NotIn)=false:=by cases op <;> first | rfl | exact absurd rfl h2
  cases b <;> simp [behindInMarks,e1,e2]
theorem pe_cmpR {op:CmpOp}{r:R2}(ho:OpR X (compareOp op) r)(ha:PE X a ta)(hb:PE X b tb)(hm:behindInMarks op b=false):PE X (.Compare a [op] [b] pos) (tOp r ta tb):=by
  intro pins s σ H Q I h
  exact wpAny_Compare1 (binT ha hb I h fun v u s2 x y H2 I2 rx ry q=>ho pins s2 σ H2 x y v u Q I2 rx ry q) hm
def tTest (t:TE):TT:=fun σ H Q=>t σ H fun x H'=>∃ k,x = .bl k∧Q k H'
theorem pt_cmpR {op:CmpOp}{r:R2}(ho:OpR X (compareOp op) r)(ha:PE X a ta)(hb:PE X b tb)(hm:behindInMarks op b=false):PT X (.Compare a [op] [b] pos) (tTest (tOp r ta tb)):=by
  intro pins s σ H Q I h
  refine wpAny_isTrue_Compare1 (thn (ha pins s σ H _ I h) fun v s1 ⟨x,H1,I1,r1,q1⟩=>thn (hb pins s1 σ H1 _ I1 q1) fun u s2 ⟨y,H2,I2,r2,q2⟩ =>
    thn (ho pins s2 σ H2 x y v u _ I2 r1 r2 q2) fun c s3 ⟨z,H3,I3,r3,k,e,q3⟩=>?_) hm
  subst e
  cases r3
  exact wpAny_truthy_bool ⟨H3,I3,q3⟩
def tChain (r r':R2)(ta tb tc:TE):TE:=fun σ H Q=>ta σ H fun x H1=>tb σ H1 fun y H2=>r x y H2 fun z H3=>∃ k,z = .bl k ∧
  (if k=true then tc σ H3 fun w' H4=>r' y w' H4 Q else Q (.bl false) H3)
theorem pe_chain {op op':CmpOp}{r r':R2}(ho:OpR X (compareOp op) r)(ho':OpR X (compareOp op') r')(ha:PE X a ta)(hb:PE X b tb)(hc:PE X c tc)
    (hm:lastMarks [op,op'] [b,c]=false:=by with_unfolding_all rfl):PE X (.Compare a [op,op'] [b,c] pos) (tChain r r' ta tb tc):=by
  intro pins s σ H Q I h
  refine Compare_chain (thn (ha pins s σ H _ I h) fun v s1 ⟨x,H1,I1,r1,q1⟩=>chain_link (thn (hb pins s1 σ H1 _ I1 q1) fun u s2 ⟨y,H2,I2,r2,q2⟩ =>
    thn (ho pins s2 σ H2 x y v u _ I2 r1 r2 q2) fun d s3 ⟨z,H3,I3,r3,k,e,q3⟩=>?_)) hm
  subst e
  cases r3
  refine wpAny_truthy_bool ?_
  cases k with
  | false=>exact ite_ff ⟨.bl false,H3,I3,rfl,q3⟩
  | true=>exact ite_tt (chain_last (thn (hc pins s3 σ H3 _ I3 q3) fun w' s4 ⟨z',H4,I4,r4,q4⟩=>ho' pins s4 σ H4 y z' u w' Q I4 r2 r4 q4))
theorem pt_chain {op op':CmpOp}{r r':R2}(ho:OpR X (compareOp op) r)(ho':OpR X (compareOp op') r')(ha:PE X a ta)(hb:PE X b tb)(hc:PE X c tc)
    (hm:lastMarks [op,op'] [b,c]=false:=by with_unfolding_all rfl):PT X (.Compare a [op,op'] [b,c] pos) (tTest (tChain r r' ta tb tc)):=by
  intro pins s σ H Q I h
  refine isTrue_chain (thn (ha pins s σ H _ I h) fun v s1 ⟨x,H1,I1,r1,q1⟩=>test_link (thn (hb pins s1 σ H1 _ I1 q1) fun u s2 ⟨y,H2,I2,r2,q2⟩ =>
    thn (ho pins s2 σ H2 x y v u _ I2 r1 r2 q2) fun d s3 ⟨z,H3,I3,r3,k,e,q3⟩=>?_)) hm
  subst e
  cases r3
  refine wpAny_truthy_bool ?_
  cases k with
  | false =>
    obtain ⟨k',e',q'⟩:=q3
    cases e'
    exact ite_ff ⟨H3,I3,q'⟩
  | true =>
    refine ite_tt (test_last (thn (hc pins s3 σ H3 _ I3 q3) fun w' s4 ⟨z',H4,I4,r4,q4⟩=>thn (ho' pins s4 σ H4 y z' u w' _ I4 r2 r4 q4) fun d' s5 ⟨z2,H5,I5,r5,k2,e2,q5⟩=>?_))
    subst e2
    cases r5
    exact wpAny_truthy_bool ⟨H5,I5,q5⟩
def TruV (K:PySem.W.Frag)(x:V)(H:Hp)(k:Bool):Prop :=
  match x with
  | .non=>k=false
  | .bl b=>k=b
  | .int i=>k=(i != 0)
  | .str y=>y.length ≤ sizeLine∧k=((y.length:Int) != 0)
  | .byt y=>y.size ≤ sizeLine∧k=((y.size:Int) != 0)
  | .ref p=>(∃ xs,SqL K H p xs∧k = !xs.isEmpty) ∨ (∃ xs,SqT K H p xs∧k = !xs.isEmpty) ∨ ∃ kvs,H p=some (.dK kvs)∧k = !kvs.isEmpty
  | _=>False
theorem isEmpty_kv {κ:Type}{kvs:List (κ × V)}{vs:List (κ × Value)}(r:KV kvs vs):(!vs.isEmpty) = !kvs.isEmpty:=by
  cases r <;> rfl
theorem isEmpty_of {xs:List V}{its:List Value}(r:Vals xs its):(!its.toArray.isEmpty) = !xs.isEmpty:=by
  cases r <;> simp
theorem line63:(sizeLine:Nat) < 2 ^ 63:=by rw [sizeLine_eq];decide
theorem tru_ok:TruR X (fun x H Q=>∃ k,TruV X.K x H k∧Q k H):=by
  intro pins s σ H x v Q I rx h
  obtain ⟨k,e,q⟩:=h
  have hl:=line63
  have hs:sizeLine=16777216:=sizeLine_eq
  cases x with
  | non =>
    cases rx
    have e':k=false:=e
    subst e'
    exact truthy_none ⟨H,I,q⟩
  | bl b =>
    cases rx
    have e':k=b:=e
    subst e'
    exact wpAny_truthy_bool ⟨H,I,q⟩
  | int i =>
    obtain ⟨t,rfl⟩:=rx
    have e':k=(i != 0):=e
    subst e'
    exact PySem.P.truthy_int ⟨H,I,q⟩
  | str y =>
    obtain ⟨t,rfl⟩:=rx
    obtain ⟨hy,e'⟩:y.length ≤ sizeLine∧k=((y.length:Int) != 0):=e
    subst e'
    exact PySem.P.truthy_str (by omega) ⟨H,I.tok _,q⟩
  | byt y =>
    obtain ⟨t,rfl⟩:=rx
    obtain ⟨hy,e'⟩:y.size ≤ sizeLine∧k=((y.size:Int) != 0):=e
    subst e'
    exact PySem.W.truthy_bytes (by omega) ⟨H,I.tok _,q⟩
  | ref p =>
    cases rx
    have e':(∃ xs,SqL X.K H p xs∧k = !xs.isEmpty) ∨ (∃ xs,SqT X.K H p xs∧k = !xs.isEmpty) ∨ ∃ kvs,H p=some (.dK kvs)∧k = !kvs.isEmpty:=e
    rcases e' with ⟨xs,hx,e'⟩ | ⟨xs,hx,e'⟩ | ⟨kvs,hx,e'⟩
    · subst e'
      obtain ⟨its,r,pl,hz⟩:=I.list hx
      have hlen:=r.length
      exact wpAny_truthy_list pl.isList (by simp only [List.size_toArray];omega) ⟨H,I.tok _,by rw [isEmpty_of r];exact q⟩
    · subst e'
      obtain ⟨its,r,pl,hz⟩:=I.tuple hx
      have hlen:=r.length
      exact truthy_tuple pl (by simp only [List.size_toArray];omega) ⟨H,I.tok _,by rw [isEmpty_of r];exact q⟩
    · subst e'
      obtain ⟨hz,hS,vs,r,m⟩:kvs.length ≤ sizeLine∧(p == sysModules)=false∧∃ vs,KV kvs vs∧s.heap.DictOf (mixKind X.prog X.w) p vs:=I.hok p _ hx
      have hlen:kvs.length=vs.length:=Paired.length r
      exact wpAny_truthy_dict hS m (by omega) ⟨H,I.tok _,by rw [isEmpty_kv r];exact q⟩
  | _=>exact (show False from e).elim
theorem vals1 {x:V}{us:List Value}(r:Vals [x] us):∃ u,us=[u]∧RelV x u:=by
  cases r with
  | cons r1 r2=>cases r2;exact ⟨_,rfl,r1⟩
theorem vals2 {x y:V}{us:List Value}(r:Vals [x,y] us):∃ u w',us=[u,w']∧RelV x u∧RelV y w':=by
  cases r with
  | cons r1 r2 =>
    cases r2 with
    | cons r3 r4=>cases r4;exact ⟨_,_,rfl,r1,r3⟩
theorem call_abs:CallR X (.builtin "abs") (fun xs H Q=>∃ i,xs=[.int i]∧Q (.int (if i < 0 then -i else i)) H):=by
  intro pins s σ H xs us Q I r h
  obtain ⟨i,rfl,q⟩:=h
  obtain ⟨u,rfl,t,rfl⟩:=vals1 r
  exact call_abs_int fun u tk=>⟨.int (if i < 0 then -i else i),H,I.tok _,⟨_,rfl⟩,q⟩
theorem call_max2 (hc:X.calm=true):CallR X (.builtin "max") (fun xs H Q=>∃ i j,xs=[.int i,.int j]∧Q (.int (if j > i then j else i)) H):=by
  intro pins s σ H xs us Q I r h
  obtain ⟨i,j,rfl,q⟩:=h
  obtain ⟨u,w',rfl,⟨t,rfl⟩,⟨t',rfl⟩⟩:=vals2 r
  refine max_two_ints (I.ok.hd hc) fun h' tk k=>⟨_,H,I.kept k,?_,q⟩
  by_cases hj:j > i
  · rw [if_pos hj,if_pos hj];exact ⟨_,rfl⟩
  · rw [if_neg hj,if_neg hj];exact ⟨_,rfl⟩
theorem call_min2 (hc:X.calm=true):CallR X (.builtin "min") (fun xs H Q=>∃ i j,xs=[.int i,.int j]∧Q (.int (if j < i then j else i)) H):=by
  intro pins s σ H xs us Q I r h
  obtain ⟨i,j,rfl,q⟩:=h
  obtain ⟨u,w',rfl,⟨t,rfl⟩,⟨t',rfl⟩⟩:=vals2 r
  refine min_two_ints (I.ok.hd hc) fun h' tk k=>⟨_,H,I.kept k,?_,q⟩
  by_cases hj:j < i
  · rw [if_pos hj,if_pos hj];exact ⟨_,rfl⟩
  · rw [if_neg hj,if_neg hj];exact ⟨_,rfl⟩
def LenV (K:PySem.W.Frag)(x:V)(H:Hp)(n:Nat):Prop :=
  match x with
  | .str y=>y.length ≤ sizeLine∧n=y.length
  | .byt y=>y.size ≤ sizeLine∧n=y.size
  | .ref p=>(∃ xs,SqL K H p xs∧n=xs.length) ∨ ∃ xs,SqT K H p xs∧n=xs.length
  | _=>False
theorem call_len:CallR X (.builtin "len") (fun xs H Q=>∃ x n,xs=[x]∧LenV X.K x H n∧Q (.int n) H):=by
  intro pins s σ H xs us Q I r h
  obtain ⟨x,n,rfl,e,q⟩:=h
  obtain ⟨u,rfl,rx⟩:=vals1 r
  have hl:=line63
  have hs:sizeLine=16777216:=sizeLine_eq
  cases x with
  | str y =>
    obtain ⟨t,rfl⟩:=rx
    obtain ⟨hy,e'⟩:y.length ≤ sizeLine∧n=y.length:=e
    subst e'
    exact len_str (by omega) ⟨.int _,H,I.tok _,⟨_,rfl⟩,q⟩
  | byt y =>
    obtain ⟨t,rfl⟩:=rx
    obtain ⟨hy,e'⟩:y.size ≤ sizeLine∧n=y.size:=e
    subst e'
    exact PySem.W.len_bytes (by omega) ⟨.int _,H,I.tok _,⟨_,rfl⟩,q⟩
  | ref p =>
    cases rx
    have e':(∃ xs,SqL X.K H p xs∧n=xs.length) ∨ ∃ xs,SqT X.K H p xs∧n=xs.length:=e
    rcases e' with ⟨xs,hx,e'⟩ | ⟨xs,hx,e'⟩
    · subst e'
      obtain ⟨its,r',pl,hz⟩:=I.list hx
      have hlen:=r'.length
      exact Calls.call_len_list pl.isList (by simp only [List.size_toArray];omega) ⟨.int xs.length,H,I.tok _,⟨_,by simp only [List.size_toArray];rw [hlen]⟩,q⟩
    · subst e'
      obtain ⟨its,r',pl,hz⟩:=I.tuple hx
      have hlen:=r'.length
      exact len_tuple pl (by simp only [List.size_toArray];omega) ⟨.int xs.length,H,I.tok _,⟨_,by simp only [List.size_toArray];rw [hlen]⟩,q⟩
  | _=>exact (show False from e).elim
end
end L2
namespace L2
open PySem PySem.Spec PyProof.Rows
structure ObjM (h:Heap)(x dx C:Addr)(mA:Str→Option Value):Prop where
  obj:h.get? x=some (PySem.W.instObj C dx)
  ns:h.Ns1 dx mA
  ne:dx≠x
theorem lookIn_ns {h:Heap}{dx:Addr}{mA:Str→Option Value}(n:h.Ns1 dx mA):∃ od,h.get? dx=some od∧∀ name,PySem.W.lookIn name od=some (mA name):=by
  obtain ⟨o,es,ep,ho,hd,hk,_,hm⟩:=n
  refine ⟨o,ho,fun name=>?_⟩
  have e:=hm name
  unfold nsFind findBy at e
  rw [← Array.find?_toList] at e
  unfold PySem.W.lookIn
  rw [hd]
  dsimp only
  split
  · rename_i y q
    rw [q] at e
    exact congrArg some e
  · rename_i q
    rw [q] at e
    have a:es.toList.any (·.refKey)=false:=by
      rw [List.any_eq_false]
      intro y hy
      obtain ⟨z,t,hkey⟩:=hk y (Array.mem_toList_iff.mp hy)
      simp [DictEntry.refKey,hkey]
    have a':¬ es.toList.any (·.refKey)=true:=by rw [a];exact Bool.false_ne_true
    rw [if_neg a']
    exact congrArg some e
theorem ObjM.look {h:Heap}{x dx C:Addr}{mA:Str→Option Value}(I:ObjM h x dx C mA):∃ od,PySem.W.InstAt h x (PySem.W.instObj C dx) C (some od)∧∀ name,PySem.W.lookIn name od=some (mA name) :=
  let ⟨od,ho,hl⟩:=lookIn_ns I.ns
  ⟨od,⟨I.obj,rfl,rfl,ho⟩,hl⟩
section
variable {prog:Program}{w:World}{A:Around}{E:Value→Shared→Prop}{s:Shared}{K:PySem.W.Frag}{x dx C f:Addr}{mA:Str→Option Value}{name:Str}{v:Value}
theorem get_map {expr:Bool}{Q:Value→Shared→Prop}(X:K.In s.heap)(I:ObjM s.heap x dx C mA)(hg:PySem.W.plainGet K C name=true)(hh:PySem.W.hasDictIn K C=true)
    (ha:PySem.W.findIn K (.ref C) name=some none) (hv:mA name=some v) (hv':PySem.W.handedIn v=true) (h:Q v { s with toks:=s.toks + 1 }) :
    wpAny (model prog w) A (getAttr (.ref x) name expr) Q E s:=by
  obtain ⟨od,J,hl⟩:=I.look
  exact PySem.W.get_value X J (PySem.W.plainGet_of hg).1 (PySem.W.findObj_own hh ha rfl (by rw [hl,hv])) hv' h
theorem get_meth {pl:Sem Bool}{Q:Value × List Value→Shared→Prop}(X:K.In s.heap)(I:ObjM s.heap x dx C mA)(hg:PySem.W.plainGet K C name=true)
    (hf:PySem.W.findIn K (.ref C) name=some (some (.ref f))) (ht:PySem.W.isFn K (.ref f)=true) (hv:mA name=none) (h:Q (.ref f,[.ref x]) s) :
    wpAny (model prog w) A (getMethod (.ref x) name pl) Q E s:=by
  obtain ⟨od,J,hl⟩:=I.look
  exact PySem.W.method_fn X J (PySem.W.plainGet_of hg).1 (PySem.W.plainGet_of hg).2 hf (beq_iff_eq.mp ht) (by show (PySem.W.lookIn name od).map (·.isSome)=some false;rw [hl,hv];rfl) h
theorem set_map {ns:List Str}{Q:Unit→Shared→Prop}(X:K.In s.heap)(I:ObjM s.heap x dx C mA)
    (hs:PySem.W.findIn K (.ref C) "__setattr__" = some (some (.builtin "object.__setattr__"))) (hp:PySem.W.plainOver K C=true) (ht:PySem.W.takerIn K C name=some none) (hh:PySem.W.hasDictIn K C=true)
    (hw:PySem.Within mA ns) (hsz:ns.length ≤ sizeLine)
    (h:∀ h',ObjM h' x dx C (fun y=>if y=name then some v else mA y)→Heap.SameBut dx s.heap h'→Q () { s with heap:=h',toks:=s.toks + 2 }) :
    wpAny (model prog w) A (setAttr (.ref x) name v) Q E s:=by
  obtain ⟨od,J,hl⟩:=I.look
  refine PySem.W.set_plain X J hs (PySem.W.osa_open (s:={ s with toks:=s.toks + 1 }) (r:=none) X J hp ht fun b=>?_)
  obtain ⟨cd,hc,hd'⟩:=PySem.W.any_some hh
  have hx:s.heap.get? x=some ⟨.ref C,some dx,.plain,#[]⟩:=I.obj
  refine wpAny_bind (wpAny_pure (wpAny_bind (wpAny_bind (wpAny_loadPart hx (wpAny_bind (PySem.W.Looks.here (s:={ s with toks:=s.toks + 1 }) (PySem.W.looks_clsIn X hc) ?_))))))
  rw [hd']
  refine wpAny_pure (a:=some dx) (wpAny_bind (wpAny_pure (wpAny_bind ?_)))
  refine wpAny_nsSet1 (s:={ s with toks:=s.toks + 1 }) I.ns fun h' hn2 hs2=>?_
  obtain ⟨oD,esD,epD,hoD,hdD,hcD⟩:=hn2.count (PySem.Within.cons name v hw)
  refine wpAny_bind (wpAny_lookBehind hoD (by rw [hdD];exact pastItsLine_dict (Nat.le_trans hcD (by rw [List.length_cons];omega))) ?_)
  exact wpAny_pure (h _ ⟨(hs2.2 _ (Ne.symm I.ne)).trans I.obj,hn2,I.ne⟩ hs2)
theorem make_map {R:Result→Shared→Prop}{vs:List Value}{kw:List (Str × Value)}(X:K.In s.heap)(hm:PySem.W.makesIn K C=true)
    (hi:PySem.W.findIn K (.ref C) "__init__" = some (some (.ref f))) (hf:PySem.W.typeIn K (.ref f)=some (.type "function"))
    (h:codeAny (model prog w) (A.under (.builtin "type.__call__" ⟨.ref C :: vs,kw⟩)) (.call (.ref f) ⟨.ref (s.heap.objs.size + 1) :: vs,kw⟩) (PySem.W.InitBack (s.heap.objs.size + 1) R)
      { s with heap:=(s.heap.push PySem.W.emptyDict).push (PySem.W.instObj C s.heap.objs.size) }) :
    codeAny (model prog w) A (.call (.ref C) ⟨vs,kw⟩) R s:=by
  obtain ⟨hh,g,d,t,os⟩:=s
  exact PySem.W.make_core (PySem.W.makes_of X hm) (PySem.W.looks_findIn X hi) (fun self=>PySem.W.bind_fn X self hf) (.inl rfl) h
end
def putF (f:Str)(v:V):List (Str × V)→List (Str × V)
  | []=>[(f,v)]
  | (g,x) :: r=>if g=f then (g,v) :: r else (g,x) :: putF f v r
theorem lookup_putF (f g:Str)(v:V):∀ fs:List (Str × V),(putF f v fs).lookup g=if g=f then some v else fs.lookup g
  | []=>by
    show List.lookup g [(f,v)]=_
    by_cases h:g=f
    · have hb:(g == f)=true:=beq_iff_eq.mpr h
      simp only [List.lookup,hb,if_pos h]
    · have hb:(g == f)=false:=beq_eq_false_iff_ne.mpr h
      simp only [List.lookup,hb,if_neg h]
  | (k,x) :: r=>by
    have ih:=lookup_putF f g v r
    rw [show putF f v ((k,x) :: r)=(if k=f then (k,v) :: r else (k,x) :: putF f v r) from rfl]
    by_cases hk:k=f
    · rw [if_pos hk]
      by_cases h:g=k
      · have hb:(g == k)=true:=beq_iff_eq.mpr h
        simp only [List.lookup,hb,if_pos (h.trans hk)]
      · have hb:(g == k)=false:=beq_eq_false_iff_ne.mpr h
        simp only [List.lookup,hb,if_neg (fun e:g=f=>h (e.trans hk.symm))]
    · rw [if_neg hk]
      by_cases h:g=k
      · have hb:(g == k)=true:=beq_iff_eq.mpr h
        simp only [List.lookup,hb,if_neg (fun e:g=f=>hk (h.symm.trans e))]
      · have hb:(g == k)=false:=beq_eq_false_iff_ne.mpr h
        simp only [List.lookup,hb]
        exact ih
theorem keys_putF (f:Str)(v:V):∀ fs:List (Str × V),f∈(putF f v fs).map (·.1)∧∀ g,g∈fs.map (·.1)→g∈(putF f v fs).map (·.1)
  | []=>⟨by simp [putF],fun g h=>by simp at h⟩
  | (k,x) :: r=>by
    obtain ⟨i1,i2⟩:=keys_putF f v r
    rw [show putF f v ((k,x) :: r)=(if k=f then (k,v) :: r else (k,x) :: putF f v r) from rfl]
    by_cases hk:k=f
    · rw [if_pos hk]
      subst hk
      exact ⟨by simp,fun g h=>by simpa using h⟩
    · rw [if_neg hk]
      refine ⟨?_,fun g h=>?_⟩
      · rw [List.map_cons]
        exact List.mem_cons_of_mem _ i1
      · rw [List.map_cons] at h ⊢
        rcases List.mem_cons.mp h with e | e
        · exact List.mem_cons.mpr (.inl e)
        · exact List.mem_cons_of_mem _ (i2 g e)
theorem length_putF (f:Str)(v:V):∀ fs:List (Str × V),(putF f v fs).length ≤ fs.length + 1
  | []=>by simp [putF]
  | (k,x) :: r=>by
    have ih:=length_putF f v r
    rw [show putF f v ((k,x) :: r)=(if k=f then (k,v) :: r else (k,x) :: putF f v r) from rfl]
    by_cases hk:k=f
    · rw [if_pos hk,List.length_cons,List.length_cons];omega
    · rw [if_neg hk,List.length_cons,List.length_cons];omega
theorem RelO.some_of {v:V}{o:Option Value}(r:RelO (some v) o):∃ u,o=some u∧RelV v u:=by
  cases o with
  | none=>exact (show False from r).elim
  | some u=>exact ⟨u,rfl,r⟩
theorem RelO.none_of {o:Option Value}(r:RelO none o):o=none:=by
  cases o with
  | none=>rfl
  | some u=>exact (show False from r).elim
theorem handed_of {v:V}{u:Value}(r:RelV v u):PySem.W.handedIn u=true:=by
  cases v with
  | non=>cases (show u=Value.none from r);rfl
  | bl b=>cases (show u=Value.bool b from r);rfl
  | int i=>obtain ⟨t,e⟩:=(show ∃ t,u=Value.int i t from r);cases e;rfl
  | str x=>obtain ⟨t,e⟩:=(show ∃ t,u=Value.str x t from r);cases e;rfl
  | byt b=>obtain ⟨t,e⟩:=(show ∃ t,u=Value.bytes b t from r);cases e;rfl
  | flt b=>obtain ⟨t,e⟩:=(show ∃ t,u=Value.float b t from r);cases e;rfl
  | ref a=>cases (show u=Value.ref a from r);rfl
  | ty n=>cases (show u=Value.type n from r);rfl
section
variable {P:Program}{w:World}{H H':Hp}{h h':Heap}{a C dx:Addr}{fs fs':List (Str × V)}
theorem ins_get (hok:HOk P w H h)(e:H a=some (.ins C dx fs)):∃ mA,ObjM h a dx C mA∧(∀ f,RelO (fs.lookup f) (mA f))∧PySem.Within mA (fs.map (·.1))∧fs.length ≤ 1000∧H dx=some (.own a):=by
  obtain ⟨d,z,ne,ob,mA,n,r,q⟩:=(show ObjOk P w H h a (.ins C dx fs) from hok a _ e)
  exact ⟨mA,⟨ob,n,ne⟩,r,q,z,d⟩
end
structure Cls (K:PySem.W.Frag)(C:Addr):Prop where
  pg:PySem.W.plainGet K C Str.empty=true
  hd:PySem.W.hasDictIn K C=true
  po:PySem.W.plainOver K C=true
  sa:PySem.W.findIn K (.ref C) "__setattr__" = some (some (.builtin "object.__setattr__"))
theorem Cls.get {K:PySem.W.Frag}{C:Addr}(c:Cls K C)(f:Str):PySem.W.plainGet K C f=true:=c.pg
def NoAttr (K:PySem.W.Frag)(C:Addr)(f:Str):Prop:=PySem.W.findIn K (.ref C) f=some none
theorem NoAttr.taker {K:PySem.W.Frag}{C:Addr}{f:Str}(n:NoAttr K C f):PySem.W.takerIn K C f=some none:=by
  unfold PySem.W.takerIn
  rw [show PySem.W.findIn K (.ref C) f=some none from n]
  rfl
structure Meth (K:PySem.W.Frag)(C:Addr)(m:Str)(f:Addr):Prop where
  at_:PySem.W.findIn K (.ref C) m=some (some (.ref f))
  fn:PySem.W.isFn K (.ref f)=true
  kp:PySem.W.keepIn K (.ref f)=true
section
variable {X:Cx}{pins:List (Addr × Obj)}{σ:St}{H:Hp}{s:Shared}{a C dx:Addr}{fs:List (Str × V)}{f:Str}{v:V}{A:Around}{E:Value→Shared→Prop}
theorem getattr_ok {b:Bool}{Q:Value→Shared→Prop}(I:Inv X pins σ H s)(e:H a=some (.ins C dx fs))(c:Cls X.K C)(n:NoAttr X.K C f)(l:fs.lookup f=some v)
    (h:∀ u s',Inv X pins σ H s'→RelV v u→Q u s'):wpAny (model X.prog X.w) A (getAttr (.ref a) f b) Q E s:=by
  obtain ⟨mA,O,r,_,_,_⟩:=ins_get I.hok e
  obtain ⟨u,hu,ru⟩:=RelO.some_of (v:=v) (o:=mA f) (by rw [← l];exact r f)
  exact get_map I.kIn O (c.get f) c.hd n hu (handed_of ru) (h u _ (I.tok _) ru)
theorem getmeth_ok {m:Str}{g:Addr}{pl:Sem Bool}{Q:Value × List Value→Shared→Prop}(I:Inv X pins σ H s)(e:H a=some (.ins C dx fs))(c:Cls X.K C)(k:Meth X.K C m g)(l:fs.lookup m=none)
    (h:Q (.ref g,[.ref a]) s):wpAny (model X.prog X.w) A (getMethod (.ref a) m pl) Q E s:=by
  obtain ⟨mA,O,r,_,_,_⟩:=ins_get I.hok e
  have hn:mA m=none:=RelO.none_of (by rw [← l];exact r m)
  exact get_meth I.kIn O (c.get m) k.at_ k.fn hn h
theorem setattr_ok {y:V}{u:Value}{Q:Unit→Shared→Prop}(I:Inv X pins σ H s)(e:H a=some (.ins C dx fs))(c:Cls X.K C)(n:NoAttr X.K C f)(hl:fs.length < 1000)(ry:RelV y u)
    (h:∀ s',Inv X pins σ (upd H a (.ins C dx (putF f y fs))) s'→Q () s'):wpAny (model X.prog X.w) A (setAttr (.ref a) f u) Q E s:=by
  obtain ⟨mA,O,r,wi,_,ho⟩:=ins_get I.hok e
  have hz:(fs.map (·.1)).length ≤ sizeLine:=by rw [List.length_map,sizeLine_eq];omega
  refine set_map I.kIn O c.sa c.po n.taker c.hd wi hz fun h' O' sb=>h _ ?_
  have hd:∃ o,h'.get? dx=some o:=let ⟨o,_,_,e',_⟩:=O'.ns;⟨o,e'⟩
  refine I.write (x:=a) (e:=dx) (by rw [e];exact True.intro) (.inr ho) (fun b q hb z=>(sb.2 b hb).trans z) hd ?_
  refine ⟨by rw [upd_ne O.ne];exact ho,?_,O.ne,O'.obj,_,O'.ns,fun g=>?_,fun g hg=>?_⟩
  · have:=length_putF f y fs;omega
  · show RelO ((putF f y fs).lookup g) (if g=f then some u else mA g)
    rw [lookup_putF]
    by_cases q:g=f
    · rw [if_pos q,if_pos q];exact ry
    · rw [if_neg q,if_neg q];exact r g
  · by_cases q:g=f
    · rw [q];exact (keys_putF f y fs).1
    · refine (keys_putF f y fs).2 g (wi g fun z=>hg ?_)
      show (if g=f then some u else mA g)=none
      rw [if_neg q];exact z
theorem Inv.made (I:Inv X pins σ H s):Inv X pins σ (upd (upd H s.heap.objs.size (.own (s.heap.objs.size + 1))) (s.heap.objs.size + 1) (.ins C s.heap.objs.size []))
    { s with heap:=(s.heap.push PySem.W.emptyDict).push (PySem.W.instObj C s.heap.objs.size) }:=by
  have e1:(s.heap.push PySem.W.emptyDict).get? s.heap.objs.size=some PySem.W.emptyDict:=Heap.get?_push_size s.heap rfl
  have e2:((s.heap.push PySem.W.emptyDict).push (PySem.W.instObj C s.heap.objs.size)).get? (s.heap.objs.size + 1)=some (PySem.W.instObj C s.heap.objs.size):=by
    have:=Heap.get?_push_size (s.heap.push PySem.W.emptyDict) (o:=PySem.W.instObj C s.heap.objs.size) rfl
    rwa [Heap.size_push] at this
  have e3:(s.heap.push PySem.W.emptyDict).Ns s.heap.objs.size (fun _=>none):=⟨PySem.W.emptyDict,#[],_,e1,rfl,(fun e he=>absurd he (by simp)),fun _=>rfl⟩
  have I1:=I.laid (a:=s.heap.objs.size) (o:=.own (s.heap.objs.size + 1)) (h':=s.heap.push PySem.W.emptyDict) (t':=s.toks) (fun b u q=>Heap.get?_push_of_some _ q) (Nat.le_refl _) ⟨_,e1⟩
  refine I1.laid (a:=s.heap.objs.size + 1) (o:=.ins C s.heap.objs.size []) (t':=s.toks) (fun b u q=>Heap.get?_push_of_some _ q) (Nat.le_of_eq (Heap.size_push _ _)) ?_
  have ne:s.heap.objs.size ≠ s.heap.objs.size + 1:=Nat.ne_of_lt (Nat.lt_succ_self _)
  refine ⟨by rw [upd_ne ne,upd_same],Nat.zero_le _,ne,e2,fun _=>none,(Heap.Ns1.of_empty e3).at fun o q=>Heap.get?_push_of_some _ q,fun _=>True.intro,fun y hy=>absurd rfl hy⟩
theorem attr_of {prog:Program}{w:World}{env:Env}{e:Expr}{f:Str}{pos:Pos}{s:Shared}{Q:Value→Shared→Prop}(hb:attributeBase e f env (eval e env)=eval e env)
    (h:wpAny (model prog w) A (eval e env) (fun o s₁=>wpAny (model prog w) A (getAttr o f true) Q E s₁) E s):wpAny (model prog w) A (eval (.Attribute e f pos) env) Q E s :=
  Attribute_any_ h (by rw [arm_eval_Attribute,hb])
end
def tFld (K:PySem.W.Frag)(ta:TE)(f:Str):TE:=fun σ H Q=>ta σ H fun x H1=>∃ a C dx fs v,x = .ref a∧H1 a=some (.ins C dx fs)∧Cls K C∧NoAttr K C f∧fs.lookup f=some v∧Q v H1
def sFld (K:PySem.W.Frag)(ta tv:TE)(f:Str):TS:=fun D σ H=>tv σ H fun y H1=>ta σ H1 fun x H2=>∃ a C dx fs,x = .ref a∧H2 a=some (.ins C dx fs)∧Cls K C∧NoAttr K C f∧fs.length < 1000 ∧
  D.nx σ (upd H2 a (.ins C dx (putF f y fs)))
section
variable {X:Cx}{o e value:Expr}{f:Str}{pos pos' tpos:Pos}{ta tv:TE}
theorem pe_fld (he:PE X e ta)(hb:attributeBase e f X.env (eval e X.env)=eval e X.env):PE X (.Attribute e f pos) (tFld X.K ta f):=by
  intro pins s σ H Q I h
  refine attr_of hb (thn (he pins s σ H _ I h) fun u s1 ⟨x,H1,I1,rx,a,C,dx,fs,v,ex,ea,c,n,l,q⟩=>?_)
  subst ex
  obtain rfl:u=Value.ref a:=rx
  exact getattr_ok I1 ea c n l fun u' s2 I2 ru=>⟨v,H1,I2,ru,q⟩
theorem ps_fld (ha:PE X o ta)(hv:PE X value tv)(hs:swapsWith value (some (.Attribute o f pos')) pos.line X.env=pure false):PS X (.Assign [.Attribute o f pos'] value pos) (sFld X.K ta tv f):=by
  intro pins s σ H D I h
  refine plainObj_wpAny_Assign_Attribute (thn (hv pins s σ H _ I h) fun u s1 ⟨y,H1,I1,ry,q⟩=>thn (ha pins s1 σ H1 _ I1 q) fun ov s2 ⟨x,H2,I2,rx,a,C,dx,fs,ex,ea,c,n,l,q2⟩=>?_) hs
  subst ex
  obtain rfl:ov=Value.ref a:=rx
  exact setattr_ok I2 ea c n l ry fun s3 I3=>⟨σ,_,I3,q2⟩
theorem methcall_of {pl:Sem Bool}{m:Str}{apos:Pos}{args:List Expr}{pins:List (Addr × Obj)}{s:Shared}{σ:St}{H:Hp}{Q:Value→Shared→Prop}{te:TE}(he:PE X e te)(I:Inv X pins σ H s)
    (h:te σ H fun x H1=>∃ a C dx fs g,x = .ref a∧H1 a=some (.ins C dx fs)∧Cls X.K C∧Meth X.K C m g∧fs.lookup m=none ∧
      ∀ s1,Inv X pins σ H1 s1→wpAny (model X.prog X.w) X.A (callWith pos (.ref g) [.ref a] (backTo pos (starEach args X.env)) (backToKw pos (keywordEach [] X.env))) Q X.xe s1)
    (ht:eval (.Call (.Attribute e m apos) args [] pos) X.env=(do
      let ov ← eval e X.env
      standAt apos.atName
      let (f,first) ← holding [ov] (getMethod ov m pl)
      callWith pos f first (backTo pos (starEach args X.env)) (backToKw pos (keywordEach [] X.env)))) :
    wpAny (model X.prog X.w) X.A (eval (.Call (.Attribute e m apos) args [] pos) X.env) Q X.xe s:=by
  refine PySem.W.methodCall_KW (pl:=pl) (thn (he pins s σ H _ I h) fun u s1 ⟨x,H1,I1,rx,a,C,dx,fs,g,ex,ea,c,k,l,q⟩=>?_) ht
  subst ex
  obtain rfl:u=Value.ref a:=rx
  exact getmeth_ok I1 ea c k l (q s1 I1)
end
section
variable {X:Cx}{pins:List (Addr × Obj)}{σ:St}{H:Hp}{s:Shared}{A:Around}{E:Value→Shared→Prop}{Q:Value→Shared→Prop}{c:Value}{b:Bool}
inductive TyOf (K:PySem.W.Frag)(H:Hp):V→Value→Prop where
  | non:TyOf K H .non (.type "NoneType")
  | bl (x:Bool):TyOf K H (.bl x) (.type "bool")
  | int (i:Int):TyOf K H (.int i) (.type "int")
  | str (x:Str):TyOf K H (.str x) (.type "str")
  | flt (x:UInt64):TyOf K H (.flt x) (.type "float")
  | lst {a:Addr} {xs:List V} (e:H a=some (.lst xs)):TyOf K H (.ref a) (.type "list")
  | frz {a:Addr} {o:Obj} {xs:List V} (e:H a=some (.frz o (.lst xs))):TyOf K H (.ref a) (.type "list")
  | tup {a:Addr} {xs:List V} (e:H a=some (.tup xs)):TyOf K H (.ref a) (.type "tuple")
  | dK {a:Addr} {kvs:List (Key × V)} (e:H a=some (.dK kvs)):TyOf K H (.ref a) (.type "dict")
  | dT {a:Addr} {kvs:List (List Key × V)} (e:H a=some (.dT kvs)):TyOf K H (.ref a) (.type "dict")
  | ins {a C dx:Addr} {fs:List (Str × V)} (e:H a=some (.ins C dx fs)) (cl:Cls K C) (ha:PySem.W.findIn K (.ref C) "__class__" = some (some (.builtin "object.__class__")))
      (hn:PySem.W.specialIn K (.builtin "object.__class__") "__get__" = some (some (.builtin "getset_descriptor.__get__"))) (htk:PySem.W.takesIn K (.builtin "object.__class__")=some true)
      (hm:PySem.W.mroIn K C (.type "object")=some true):TyOf K H (.ref a) (.ref C)
theorem isinst_ok {x:V}{u t:Value}(I:Inv X pins σ H s)(rx:RelV x u)(ty:TyOf X.K H x t)(e:PySem.W.kitOne X.K t c=some b)(h:∀ tk,Q (.bool b) { s with toks:=tk }) :
    wpAny (model X.prog X.w) A (call (.builtin "isinstance") [u,c]) Q E s:=by
  cases ty with
  | non=>cases (show u=Value.none from rx);exact PySem.W.kia_one PySem.W.kitx_none I.kIn True.intro e (fun z=>nomatch z) h
  | bl y=>cases (show u=Value.bool y from rx);exact PySem.W.kia_one PySem.W.kitx_bool I.kIn True.intro e (fun z=>nomatch z) h
  | int i=>obtain ⟨t,q⟩:=(show ∃ t,u=Value.int i t from rx);cases q;exact PySem.W.kia_one PySem.W.kitx_int I.kIn True.intro e (fun z=>nomatch z) h
  | str y=>obtain ⟨t,q⟩:=(show ∃ t,u=Value.str y t from rx);cases q;exact PySem.W.kia_one PySem.W.kitx_str I.kIn True.intro e (fun z=>nomatch z) h
  | flt y=>obtain ⟨t,q⟩:=(show ∃ t,u=Value.float y t from rx);cases q;exact PySem.W.kia_one PySem.W.kitx_float I.kIn True.intro e (fun z=>nomatch z) h
  | @lst a xs ea =>
    cases (show u=Value.ref a from rx)
    obtain ⟨_,_,n,_,h1⟩:=(show ObjOk X.prog X.w H s.heap a (.lst xs) from I.hok a _ ea)
    exact PySem.W.kia_one PySem.W.kitx_list I.kIn ⟨_,h1,rfl⟩ e (fun z=>nomatch z) h
  | @frz a ob xs ea =>
    cases (show u=Value.ref a from rx)
    obtain ⟨_,_,_,n,_,h1⟩:=(show ObjOk X.prog X.w H s.heap a (.frz ob (.lst xs)) from I.hok a _ ea)
    exact PySem.W.kia_one PySem.W.kitx_list I.kIn ⟨_,h1,rfl⟩ e (fun z=>nomatch z) h
  | @tup a xs ea =>
    cases (show u=Value.ref a from rx)
    obtain ⟨_,_,_,p⟩:=(show ObjOk X.prog X.w H s.heap a (.tup xs) from I.hok a _ ea)
    obtain ⟨o,h1,h2,_⟩:=p
    exact PySem.W.kia_one PySem.W.kitx_tuple I.kIn ⟨o,h1,h2⟩ e (fun z=>nomatch z) h
  | @dK a kvs ea =>
    cases (show u=Value.ref a from rx)
    obtain ⟨_,_,vs,_,p⟩:=(show ObjOk X.prog X.w H s.heap a (.dK kvs) from I.hok a _ ea)
    obtain ⟨o,es,ep,h1,h2,_⟩:=p
    exact PySem.W.kia_one PySem.W.kitx_dict I.kIn ⟨o,h1,h2.1⟩ e (fun z=>nomatch z) h
  | @dT a kvs ea =>
    cases (show u=Value.ref a from rx)
    obtain ⟨_,_,xs,_,o,es,ep,h1,h2,_⟩:=(show ObjOk X.prog X.w H s.heap a (.dT kvs) from I.hok a _ ea)
    exact PySem.W.kia_one PySem.W.kitx_dict I.kIn ⟨o,h1,h2.1⟩ e (fun z=>nomatch z) h
  | @ins a C dx fs ea cl ha hn htk hm =>
    cases (show u=Value.ref a from rx)
    obtain ⟨mA,O,_⟩:=ins_get I.hok ea
    obtain ⟨od,J,_⟩:=O.look
    exact PySem.W.kia_one (PySem.W.kitx_own (cl.get _) cl.hd ha hn htk hm) I.kIn J e (fun z=>nomatch z) h
end
end L2
namespace L2
open PySem PySem.Spec PyProof.Rows
structure Room (k:Nat)(A:Around):Prop where
  hd:A.handled=none
  dp:A.depth + 3 * k + 5 < recursionLimit
  un:A.units + 16 * k + 200 < cLine
theorem Room.mono {j k:Nat}{A:Around}(r:Room k A)(h:j≤k):Room j A:=⟨r.hd,by have:=r.dp;omega,by have:=r.un;omega⟩
theorem Room.deeper {k:Nat}{A:Around}(r:Room (k + 1) A)(env:Env):Room k (A.deeper env) :=
  ⟨r.hd,by have:=r.dp;show A.depth + 1 + 3 * k + 5 < _;omega,by have:=r.un;show A.units + 3 + 16 * k + 200 < _;omega⟩
theorem make_depth {A:Around} {C:Addr} {us:List Value} {kw:List (Str × Value)}:(A.under (.builtin "type.__call__" ⟨.ref C :: us,kw⟩)).depth=A.depth + 1:=by
  first | rfl | simp [Around.under,Code.weight,Code.isCreation,Code.isGuard,Code.isCaller,Code.frames,Code.isFrame,guardIds]
theorem make_units {A:Around} {C:Addr} {us:List Value} {kw:List (Str × Value)}:(A.under (.builtin "type.__call__" ⟨.ref C :: us,kw⟩)).units=A.units + 1:=by
  first | rfl | simp [Around.under,Code.cUnits,Code.frames,Code.isFrame]
theorem Room.make {k:Nat} {A:Around} (r:Room (k + 1) A) (C:Addr) (us:List Value) (kw:List (Str × Value)):Room k (A.under (.builtin "type.__call__" ⟨.ref C :: us,kw⟩)) :=
  ⟨r.hd,by have:=r.dp;rw [make_depth];omega,by have:=r.un;rw [make_units];omega⟩
theorem Room.depth {k:Nat}{A:Around}(r:Room k A):A.depth < recursionLimit:=by have:=r.dp;omega
theorem Room.units {k:Nat}{A:Around}(r:Room k A):A.units + 64 < cLine:=by have:=r.un;omega
def tNil:TA:=fun _ H Q=>Q [] H
def tCons (ta:TE)(tr:TA):TA:=fun σ H Q=>ta σ H fun x H1=>tr σ H1 fun xs H2=>Q (x :: xs) H2
section
variable {X:Cx}{e:Expr}{es:List Expr}{te:TE}{t:TA}{pos:Pos}
theorem pa_nil:PA X [] tNil:=fun _ _ _ _ H Q I h=>Calls.spliced_nil ⟨[],H,I,.nil,h⟩
theorem pa_cons (ha:PE X e te)(hr:PA X es t)(hs:starEach (e :: es) X.env=(false,eval e X.env) :: starEach es X.env:=by rfl):PA X (e :: es) (tCons te t):=by
  intro pos pins s σ H Q I h
  rw [hs]
  show wpAny _ _ (spliced ((false,eval e X.env) :: backTo pos (starEach es X.env))) _ _ s
  refine Calls.spliced_cons (thn (ha pins s σ H _ I h) fun u s1 ⟨x,H1,I1,r1,q1⟩=>?_)
  exact thn (hr pos pins s1 σ H1 _ I1 q1) fun us s2 ⟨xs,H2,I2,r2,q2⟩=>⟨x :: xs,H2,I2,.cons r1 r2,q2⟩
def tTup (t:TA):TE:=fun σ H Q=>t σ H fun xs H1=>xs.length ≤ sizeLine∧∀ p,H1 p=none→Q (.ref p) (upd H1 p (.tup xs))
def tLst (t:TA):TE:=fun σ H Q=>t σ H fun xs H1=>xs.length ≤ sizeLine∧∀ p,H1 p=none→Q (.ref p) (upd H1 p (.lst xs))
theorem pe_tup {x1}(h:PA X es t):PE X (.Tuple es x1 pos) (tTup t):=by
  intro pins s σ H Q I hq
  refine wpAny_Tuple_spliced (thn (h pos pins s σ H _ I hq) fun us s1 ⟨xs,H1,I1,r,z,q⟩=>⟨by rw [← r.length];exact z,?_⟩)
  have hf:H1 s1.heap.objs.size=none:=I1.hok.fresh (Nat.le_refl _)
  refine ⟨.ref s1.heap.objs.size,upd H1 s1.heap.objs.size (.tup xs),I1.laid (t':=s1.toks) (fun b u e=>Heap.get?_push_of_some _ e) (Nat.le_refl _) ?_,rfl,q _ hf⟩
  exact ⟨z,us,r,⟨_,Heap.get?_push_size _ rfl,rfl,_,rfl⟩⟩
theorem pe_lst (h:PA X es t):PE X (.List es pos) (tLst t):=by
  intro pins s σ H Q I hq
  refine wpAny_List_spliced (thn (h pos pins s σ H _ I hq) fun us s1 ⟨xs,H1,I1,r,z,q⟩=>⟨by rw [← r.length];exact z,?_⟩)
  have hf:H1 s1.heap.objs.size=none:=I1.hok.fresh (Nat.le_refl _)
  refine ⟨.ref s1.heap.objs.size,upd H1 s1.heap.objs.size (.lst xs),I1.laid (t':=s1.toks) (fun b u e=>Heap.get?_push_of_some _ e) (Nat.le_refl _) ?_,rfl,q _ hf⟩
  exact ⟨z,us,0,r,Heap.get?_push_size _ rfl⟩
end
abbrev Sp:=List V→Hp→VK→XK→Prop
abbrev CXT:=List Env→Hp→Shared→XK→Value→Shared→Prop
structure Env0 (P:Program)(w:World)(K:PySem.W.Frag)(mg:Str→Option Value)(base:Heap)(A:Around)(outer:List Env)(s:Shared)(H:Hp):Prop where
  frames:A.frames=some outer
  mod:Mod K mg base
  bs:∀ b o,base.get? b=some o→s.heap.get? b=some o∧H b=none
  bsz:base.objs.size ≤ s.heap.objs.size
  funs:s.heap.FunFrames base outer
  frf:∀ b∈frs outer,H b=none
  hok:HOk P w H s.heap
  bare:AllBare s.gens
def CE (outer:List Env)(P:Program)(w:World)(H:Hp)(s:Shared)(Q:VK)(u:Value)(s':Shared):Prop :=
  ∃ v H',s'.os=s.os ∧ AllBare s'.gens ∧ Un (frs outer) [] H H' s.heap s'.heap ∧ HOk P w H' s'.heap ∧ RelV v u∧Q v H'
def CR (CX:CXT)(outer:List Env)(P:Program)(w:World)(H:Hp)(s:Shared)(Q:VK)(E:XK)(r:Result)(s':Shared):Prop :=
  match r with
  | .ok (.ret u)=>CE outer P w H s Q u s'
  | .ok _=>False
  | .error e=>CX outer H s E e s'
structure FnOk (P:Program)(w:World)(K:PySem.W.Frag)(mg:Str→Option Value)(base:Heap)(CX:CXT)(k:Nat)(f:Addr)(fd:FuncData)(ps:List Str)(sp:Sp):Prop where
  len:∀ vs H Q E,sp vs H Q E→vs.length=ps.length
  run:∀ (A:Around) (outer:List Env) (s:Shared) (H:Hp) (args:Args) (us:List Value) (vs:List V) (Q:VK) (E:XK),Room k A→Env0 P w K mg base A outer s H→BindsTo s fd args (ps.zip us)→Vals vs us→sp vs H Q E →
    codeAny (model P w) A (.call (.ref f) args) (CR CX outer P w H s Q E) s
theorem Env0.make {P:Program}{w:World}{K:PySem.W.Frag}{mg:Str→Option Value}{base:Heap}{A:Around}{outer:List Env}{s:Shared}{H:Hp}(e:Env0 P w K mg base A outer s H)(C:Addr)(us:List Value)(kw:List (Str × Value)) :
    Env0 P w K mg base (A.under (.builtin "type.__call__" ⟨.ref C :: us,kw⟩)) outer s H:=⟨by first | exact e.frames | (simpa [Around.under,Code.envs,Code.isFrame,pushEnvs] using e.frames),e.mod,e.bs,e.bsz,e.funs,e.frf,e.hok,e.bare⟩
section
variable {X:Cx}{pins:List (Addr × Obj)}{σ:St}{H:Hp}{s s':Shared}
theorem Inv.env0 (I:Inv X pins σ H s):Env0 X.prog X.w X.K X.mg X.base X.A X.stack s H :=
  ⟨I.ok.frames,I.ok.mod,I.bs,Nat.le_trans I.ok.bsz I.sz,I.stack,I.stkFree,I.hok,I.bare⟩
theorem Inv.after {Q:VK}{u:Value}(I:Inv X pins σ H s)(h:CE X.stack X.prog X.w H s Q u s'):EP X pins σ Q u s':=by
  obtain ⟨v,H',os,bare,un,hok,r,q⟩:=h
  obtain ⟨hh,g,d,t,os'⟩:=s'
  obtain rfl:os'=s.os:=os
  exact ⟨v,H',I.call (h':=hh) (g':=g) (d':=d) (t':=t) (ch:=[]) un hok bare (fun b z=>absurd z (by simp)),r,q⟩
end
def tCall (sp:Sp)(dvs:List V)(E:XK)(t:TA):TE:=fun σ H Q=>t σ H fun vs H1=>sp (vs ++ dvs) H1 Q E
def tMeth (C:Addr)(m:Str)(sp:Sp)(dvs:List V)(E:XK)(ta:TE)(t:TA):TE:=fun σ H Q=>ta σ H fun x H1=>∃ a dx fs,x = .ref a∧H1 a=some (.ins C dx fs)∧fs.lookup m=none ∧
  t σ H1 fun vs H2=>sp (x :: (vs ++ dvs)) H2 Q E
def tMake (C:Addr)(sp:Sp)(dvs:List V)(E:XK)(t:TA):TE:=fun σ H Q=>t σ H fun vs H1=>∀ x dx,H1 x=none→H1 dx=none→dx≠x →
  sp (.ref x :: (vs ++ dvs)) (upd (upd H1 dx (.own x)) x (.ins C dx [])) (fun v H2=>v = .non ∧ Q (.ref x) H2) E
def Binds (K:PySem.W.Frag)(fd:FuncData)(ps:List Str)(ds:List Value):Prop :=
  ∀ (s:Shared) (us:List Value),K.In s.heap → (us ++ ds).length=ps.length → BindsTo s fd ⟨us,[]⟩ (ps.zip (us ++ ds))
theorem Binds.all {K:PySem.W.Frag}{fd:FuncData}{ps:List Str}(h:∀ us:List Value,us.length=ps.length → bindArgs fd ⟨us,[]⟩=pure (ps.zip us)):Binds K fd ps []:=fun s us _ hl=>by
  rw [List.append_nil] at hl ⊢
  exact .of_eq (h us hl)
def Passes (CX:CXT)(X:Cx)(E:XK):Prop:=∀ (pins:List (Addr × Obj)) (σ:St) (H:Hp) (s:Shared) (e:Value) (s':Shared),Inv X pins σ H s→CX X.stack H s E e s'→X.xe e s'
section
variable {X:Cx}{CX:CXT}{k:Nat}{f C:Addr}{fd:FuncData}{ps:List Str}{sp:Sp}{dvs:List V}{ds:List Value}{E:XK}{x m:Str}{p pos apos:Pos}{e o:Expr}{es:List Expr}{ta:TE}{t:TA}
theorem run_fn {pins:List (Addr × Obj)}{σ:St}{H:Hp}{s:Shared}{Q:VK}{us:List Value}{vs:List V}(F:FnOk X.prog X.w X.K X.mg X.base CX k f fd ps sp)(hr:Room k X.A)(hb:Binds X.K fd ps ds)(hd:Vals dvs ds)(hx:Passes CX X E)
    (I:Inv X pins σ H s) (r:Vals vs us) (h:sp (vs ++ dvs) H Q E):wpAny (model X.prog X.w) X.A (call (.ref f) us) (EP X pins σ Q) X.xe s:=by
  have r2:Vals (vs ++ dvs) (us ++ ds):=r.append hd
  have hl:(us ++ ds).length=ps.length:=by rw [← r2.length];exact F.len _ _ _ _ h
  refine wpAny_call (codeAny_mono (F.run X.A X.stack s H ⟨us,[]⟩ (us ++ ds) (vs ++ dvs) Q E hr I.env0 (hb s us I.kIn hl) r2 h) fun r s' hq=>?_)
  cases r with
  | error e=>exact hx pins σ H s e s' I hq
  | ok fl =>
    cases fl with
    | ret u=>exact I.after hq
    | next=>exact False.elim hq
    | brk=>exact False.elim hq
    | cont=>exact False.elim hq
theorem pe_call (F:FnOk X.prog X.w X.K X.mg X.base CX k f fd ps sp)(hr:Room k X.A)(hg:Gl X x)(hm:X.mg x=some (.ref f))(hk:PySem.W.keepIn X.K (.ref f)=true)(hb:Binds X.K fd ps ds)(hd:Vals dvs ds)(hx:Passes CX X E)
    (ha:PA X (e :: es) t) (hdb:(x == ("__debug__" : Str))=false:=by decide) (he:starEach (e :: es) X.env=(false,eval e X.env) :: starEach es X.env:=by rfl) (hpl:(backTo pos (starEach es X.env)).any (·.1)=false:=by rfl) :
    PE X (.Call (.Name x p) (e :: es) [] pos) (tCall sp dvs E t):=by
  intro pins s σ H Q I h
  refine wpAny_Call_Name_kw (ld_glob I hg hm ?_ hdb)
  refine PySem.W.callWith_K (h₀:=X.base) I.ok.mod.kin hk (thn (ha pos pins s σ H _ I h) fun us s1 ⟨vs,H1,I1,r,q⟩=>⟨I1.kIn,?_⟩) he hpl
  exact run_fn F hr hb hd hx I1 r q
theorem pe_meth {pl:Sem Bool}(he:PE X o ta)(c:Cls X.K C)(hm:Meth X.K C m f)(F:FnOk X.prog X.w X.K X.mg X.base CX k f fd ps sp)(hr:Room k X.A)(hb:Binds X.K fd ps ds)(hd:Vals dvs ds)(hx:Passes CX X E)(ha:PA X (e :: es) t)
    (hst:starEach (e :: es) X.env=(false,eval e X.env) :: starEach es X.env:=by rfl) (hpl:(backTo pos (starEach es X.env)).any (·.1)=false:=by rfl)
    (ht:eval (.Call (.Attribute o m apos) (e :: es) [] pos) X.env=(do
      let ov ← eval o X.env
      standAt apos.atName
      let (f,first) ← holding [ov] (getMethod ov m pl)
      callWith pos f first (backTo pos (starEach (e :: es) X.env)) (backToKw pos (keywordEach [] X.env))):=by rfl) :
    PE X (.Call (.Attribute o m apos) (e :: es) [] pos) (tMeth C m sp dvs E ta t):=by
  intro pins s σ H Q I h
  refine PySem.W.methodCall_KW (pl:=pl) (thn (he pins s σ H _ I h) fun u s1 ⟨x,H1,I1,rx,a,dx,fs,ex,ea,l,q⟩=>?_) ht
  subst ex
  obtain rfl:u=Value.ref a:=rx
  refine getmeth_ok I1 ea c hm l ?_
  refine PySem.W.callWith_K (first:=[.ref a]) (h₀:=X.base) I.ok.mod.kin hm.kp (thn (ha pos pins s1 σ H1 _ I1 q) fun us s2 ⟨vs,H2,I2,r,q2⟩=>⟨I2.kIn,?_⟩) hst hpl
  exact run_fn (us:=.ref a :: us) (vs:=.ref a :: vs) F hr hb hd hx I2 (.cons rfl r) q2
theorem pe_meth0 {pl:Sem Bool}(he:PE X o ta)(c:Cls X.K C)(hm:Meth X.K C m f)(F:FnOk X.prog X.w X.K X.mg X.base CX k f fd ps sp)(hr:Room k X.A)(hb:Binds X.K fd ps ds)(hd:Vals dvs ds)(hx:Passes CX X E)
    (ht:eval (.Call (.Attribute o m apos) [] [] pos) X.env=(do
      let ov ← eval o X.env
      standAt apos.atName
      let (f,first) ← holding [ov] (getMethod ov m pl)
      callWith pos f first (backTo pos (starEach [] X.env)) (backToKw pos (keywordEach [] X.env))):=by rfl) :
    PE X (.Call (.Attribute o m apos) [] [] pos) (tMeth C m sp dvs E ta tNil):=by
  intro pins s σ H Q I h
  refine PySem.W.methodCall_KW (pl:=pl) (thn (he pins s σ H _ I h) fun u s1 ⟨x,H1,I1,rx,a,dx,fs,ex,ea,l,q⟩=>?_) ht
  subst ex
  obtain rfl:u=Value.ref a:=rx
  refine getmeth_ok I1 ea c hm l ?_
  exact PySem.W.callWith_K0 (first:=[.ref a]) I1.kIn hm.kp (run_fn (us:=[.ref a]) (vs:=[.ref a]) F hr hb hd hx I1 (.cons rfl .nil) q)
structure Mk (K:PySem.W.Frag)(C f:Addr):Prop where
  makes:PySem.W.makesIn K C=true
  init:PySem.W.findIn K (.ref C) "__init__" = some (some (.ref f))
  fn:PySem.W.isFn K (.ref f)=true
  kp:PySem.W.keepIn K (.ref C)=true
theorem run_make {pins:List (Addr × Obj)}{σ:St}{H:Hp}{s:Shared}{Q:VK}{us:List Value}{vs:List V}(M:Mk X.K C f)(F:FnOk X.prog X.w X.K X.mg X.base CX k f fd ps sp)(hr:Room (k + 1) X.A)(hb:Binds X.K fd ps ds)(hd:Vals dvs ds)
    (hx:Passes CX X E) (I:Inv X pins σ H s) (r:Vals vs us)
    (h:∀ x dx,H x=none→H dx=none→dx≠x→sp (.ref x :: (vs ++ dvs)) (upd (upd H dx (.own x)) x (.ins C dx [])) (fun v H2=>v = .non ∧ Q (.ref x) H2) E) :
    wpAny (model X.prog X.w) X.A (call (.ref C) us) (EP X pins σ Q) X.xe s:=by
  have hq:=h (s.heap.objs.size + 1) s.heap.objs.size (I.hok.fresh (Nat.le_succ _)) (I.hok.fresh (Nat.le_refl _)) (Nat.ne_of_lt (Nat.lt_succ_self _))
  have I2:=Inv.made (C:=C) I
  have r2:Vals (V.ref (s.heap.objs.size + 1) :: (vs ++ dvs)) (Value.ref (s.heap.objs.size + 1) :: (us ++ ds)):=.cons rfl (r.append hd)
  have hl:(Value.ref (s.heap.objs.size + 1) :: us ++ ds).length=ps.length:=by
    have e:=r2.length
    rw [F.len _ _ _ _ hq] at e
    exact e.symm
  refine wpAny_call (make_map (f:=f) I.kIn M.makes M.init (beq_iff_eq.mp M.fn) (codeAny_mono (F.run _ X.stack _ _ ⟨Value.ref (s.heap.objs.size + 1) :: us,[]⟩ (Value.ref (s.heap.objs.size + 1) :: (us ++ ds)) _ _ E (hr.make C us [])
    (I2.env0.make C us []) (hb _ (Value.ref (s.heap.objs.size + 1) :: us) I2.kIn hl) r2 hq) fun r s' hq'=>?_))
  cases r with
  | error e=>exact hx pins σ _ _ e s' I2 hq'
  | ok fl =>
    cases fl with
    | ret u =>
      obtain ⟨v,H',I3,rv,ev,q3⟩:=I2.after hq'
      subst ev
      exact ⟨rv,⟨V.ref (s.heap.objs.size + 1),H',I3,rfl,q3⟩⟩
    | next=>exact False.elim hq'
    | brk=>exact False.elim hq'
    | cont=>exact False.elim hq'
theorem pe_make (M:Mk X.K C f)(F:FnOk X.prog X.w X.K X.mg X.base CX k f fd ps sp)(hr:Room (k + 1) X.A)(hg:Gl X x)(hm:X.mg x=some (.ref C))(hb:Binds X.K fd ps ds)(hd:Vals dvs ds)(hx:Passes CX X E)
    (ha:PA X (e :: es) t) (hdb:(x == ("__debug__" : Str))=false:=by decide) (he:starEach (e :: es) X.env=(false,eval e X.env) :: starEach es X.env:=by rfl) (hpl:(backTo pos (starEach es X.env)).any (·.1)=false:=by rfl) :
    PE X (.Call (.Name x p) (e :: es) [] pos) (tMake C sp dvs E t):=by
  intro pins s σ H Q I h
  refine wpAny_Call_Name_kw (ld_glob I hg hm ?_ hdb)
  refine PySem.W.callWith_K (h₀:=X.base) I.ok.mod.kin M.kp (thn (ha pos pins s σ H _ I h) fun us s1 ⟨vs,H1,I1,r,q⟩=>⟨I1.kIn,?_⟩) he hpl
  exact run_make M F hr hb hd hx I1 r q
end
structure FnScope (N P:List Str)(sc:Scope):Prop where
  kind:sc.kind = .function
  co:sc.isCoroutine=false
  gen:sc.isGenerator=false
  nd:N.Nodup
  pre:N.take P.length=P
  par:∀ x∈P,sc.names.lookup x=some .local ∨ sc.names.lookup x=some .cell
  nofree:∀ y∈sc.names,y.2 ≠ .free
theorem bindL_out {kindOf:Str→Option NameKind}{x:Str}:∀ {binds:List (Str × Value)} {m:Str→Option Value},(∀ v,(x,v) ∉ binds)→bindL kindOf binds m x=m x
  | [],_,_=>rfl
  | (n,v) :: r,m,h=>by
    unfold bindL
    rw [bindL_out fun w hw=>h w (List.mem_cons_of_mem _ hw)]
    split
    · have:x≠n:=by rintro rfl;exact h v List.mem_cons_self
      simp [this]
    · rfl
theorem bindC_out {kindOf:Str→Option NameKind}{x:Str}:∀ {binds:List (Str × Value)} {m:Str→Option Value},(∀ v,(x,v) ∉ binds)→bindC kindOf binds m x=m x
  | [],_,_=>rfl
  | (n,v) :: r,m,h=>by
    unfold bindC
    rw [bindC_out fun w hw=>h w (List.mem_cons_of_mem _ hw)]
    split
    · rfl
    · have:x≠n:=by rintro rfl;exact h v List.mem_cons_self
      simp [this]
theorem bindL_get {kindOf:Str→Option NameKind}{x:Str}{v:Value}:∀ {P:List Str} {vs:List Value} {i:Nat} {m:Str→Option Value},P.Nodup → P[i]? = some x→vs[i]? = some v→kindOf x=some .local →
    bindL kindOf (P.zip vs) m x=some v
  | [],_,_,_,_,h,_,_=>by simp at h
  | _ :: _,[],_,_,_,_,h,_=>by simp at h
  | p :: P,w :: vs,0,m,nd,h1,h2,hk=>by
    simp at h1 h2;subst h1;subst h2
    show bindL kindOf ((p,w) :: P.zip vs) m p=_
    unfold bindL
    rw [bindL_out fun v hv=>(List.nodup_cons.mp nd).1 (List.of_mem_zip hv).1,if_pos hk]
    simp
  | p :: P,w :: vs,i + 1,m,nd,h1,h2,hk=>by
    show bindL kindOf ((p,w) :: P.zip vs) m x=_
    unfold bindL
    exact bindL_get (i:=i) (List.nodup_cons.mp nd).2 (by simpa using h1) (by simpa using h2) hk
theorem bindC_get {kindOf:Str→Option NameKind}{x:Str}{v:Value}:∀ {P:List Str} {vs:List Value} {i:Nat} {m:Str→Option Value},P.Nodup → P[i]? = some x→vs[i]? = some v→kindOf x≠some .local →
    bindC kindOf (P.zip vs) m x=some v
  | [],_,_,_,_,h,_,_=>by simp at h
  | _ :: _,[],_,_,_,_,h,_=>by simp at h
  | p :: P,w :: vs,0,m,nd,h1,h2,hk=>by
    simp at h1 h2;subst h1;subst h2
    show bindC kindOf ((p,w) :: P.zip vs) m p=_
    unfold bindC
    rw [bindC_out fun v hv=>(List.nodup_cons.mp nd).1 (List.of_mem_zip hv).1,if_neg hk]
    simp
  | p :: P,w :: vs,i + 1,m,nd,h1,h2,hk=>by
    show bindC kindOf ((p,w) :: P.zip vs) m x=_
    unfold bindC
    exact bindC_get (i:=i) (List.nodup_cons.mp nd).2 (by simpa using h1) (by simpa using h2) hk
def start (N:List Str)(vs:List V):St:=vs.map some ++ List.replicate (N.length - vs.length) none
def cxOf (CX:CXT)(P:Program)(w:World)(K:PySem.W.Frag)(mg:Str→Option Value)(base:Heap)(N:List Str)(qual:Str)(scope:Scope)(f:Addr)(cd:Value)(A:Around)(outer:List Env)(s:Shared)(H:Hp)(E:XK):Cx where
  prog:=P
  w:=w
  K:=K
  mg:=mg
  base:=base
  A:=A.deeper (envOfC qual scope s.heap.objs.size f cd)
  N:=N
  sZ:=s
  HZ:=H
  env:=envOfC qual scope s.heap.objs.size f cd
  outer:=outer
  stack:=envOfC qual scope s.heap.objs.size f cd :: outer
  ex:=[]
  calm:=true
  fn:=fun _=>true
  pn:=[]
  xe:=fun e s'=>wpAny (model P w) (A.deeper (envOfC qual scope s.heap.objs.size f cd)) (leaving (envOfC qual scope s.heap.objs.size f cd) e) (fun _ s''=>CX outer H s E e s'') (fun e' s''=>CX outer H s E e' s'') s'
theorem cell_has {sc:Scope}{n:Nat}{x:Str}(h:sc.names.lookup x=some .cell):∃ c,(cellsFrom n sc.names []).lookup x=some c:=by
  have q:=PySem.W.cellsFrom_some sc.names n [] (.inl h)
  exact Option.isSome_iff_exists.mp q
theorem inv_start {CX:CXT}{P:Program}{w:World}{K:PySem.W.Frag}{mg:Str→Option Value}{base:Heap}{N ps:List Str}{qual:Str}{scope:Scope}{f:Addr}{cd:Value}{A:Around}{outer:List Env}{s s1:Shared}{H:Hp}{E:XK}{us:List Value}{vs:List V}
    (S:FnScope N ps scope) (hd:A.handled=none) (e0:Env0 P w K mg base A outer s H) (hl:vs.length=ps.length) (r:Vals vs us)
    (x:InCallC s s.heap.objs.size (bindL (envOfC qual scope s.heap.objs.size f cd).kindOf (ps.zip us) fun _=>none) (cellsFrom (s.heap.objs.size + 1) scope.names []) (bindC (envOfC qual scope s.heap.objs.size f cd).kindOf (ps.zip us) fun _=>none) s1) :
    Inv (cxOf CX P w K mg base N qual scope f cd A outer s H E) [] (start N vs) H s1:=by
  have hpl:ps.length ≤ N.length:=by have:=congrArg List.length S.pre;rw [List.length_take] at this;omega
  obtain ⟨h1,tk,rfl,hk⟩:=x.done
  have noA:∀ b:Addr,b ∉ (cxOf CX P w K mg base N qual scope f cd A outer s H E).ex:=fun b z=>absurd (show b∈([]:List Addr) from z) (by simp)
  refine ⟨⟨e0.mod,S.kind,rfl,rfl,Nat.le_refl _,fun y z c h1 h2=>?_,fun y hy=>?_,fun y c _ h=>?_,fun _=>hd,Around.frames_deeper e0.frames,.inr ⟨rfl,rfl⟩,fun b z=>absurd z (noA b),e0.bs,e0.bsz,fun b _ _=>noA b,fun b z=>absurd z (noA b),e0.funs,e0.frf⟩,
    rfl,e0.bare,Un.kept hk,⟨_,x.toInCall.ns,fun i y v h1 h2 h3=>?_⟩,fun y c h=>⟨_,x.cell y c h⟩,e0.hok.fresh (Nat.le_refl _),fun y c h=>?_,fun p hp=>absurd (show p∈([]:List (Addr × Obj)) from hp) (by simp),e0.hok.kept hk,?_⟩
  · exact name_of_addr x.apart (PySem.mem_of_lookup h1) (PySem.mem_of_lookup h2)
  · have hy:scope.names.lookup y=some .cell ∨ scope.names.lookup y=some .free:=hy
    rcases hy with hy | hy
    · exact cell_has hy
    · exact absurd rfl (S.nofree _ (PySem.mem_of_lookup hy))
  · exact Nat.le_of_lt (x.above y c (PySem.mem_of_lookup h))
  · have hi:i < vs.length:=by
      unfold start at h2
      by_cases hi:i < vs.length
      · exact hi
      · rw [List.getElem?_append_right (by simpa using hi)] at h2
        rw [List.getElem?_replicate] at h2
        split at h2 <;> cases h2
    have ha:vs[i]? = some v:=by
      unfold start at h2
      rw [List.getElem?_append_left (by simpa using hi),List.getElem?_map] at h2
      cases e:vs[i]? with
      | none=>rw [e] at h2;cases h2
      | some a=>rw [e] at h2;cases h2;rfl
    obtain ⟨u,hu,rv⟩:=r.get ha
    have hp:ps[i]? = some y:=by
      rw [← S.pre,List.getElem?_take_of_lt (by omega)];exact h1
    have ndP:ps.Nodup:=by rw [← S.pre];exact S.nd.sublist (List.take_sublist _ _)
    refine ⟨u,rv,?_⟩
    rcases S.par y (List.mem_of_getElem? hp) with k | k
    · exact .inl ⟨k,bindL_get ndP hp hu k⟩
    · obtain ⟨c,e⟩:=cell_has (n:=s.heap.objs.size + 1) k
      refine .inr ⟨.inl k,c,e,?_⟩
      have q:=x.cell y c e
      rw [bindC_get ndP hp hu (by show scope.names.lookup y≠_;rw [k];decide)] at q
      exact q
  · exact e0.hok.fresh (Nat.le_of_lt (x.above y c (PySem.mem_of_lookup h)))
  · unfold start
    show _=N.length
    rw [List.length_append,List.length_map,List.length_replicate]
    omega
theorem fn_of {CX:CXT}{P:Program}{w:World}{K:PySem.W.Frag}{mg:Str→Option Value}{base:Heap}{k:Nat}{f:Addr}{name qual:Str}{params:Arguments}{body:List Stmt}{scope:Scope}{dV kV doc pm cdv ct oc:Value}{an od:Option Addr}
    {osl:Array (Option Value)} {N ps:List Str} {sp:Sp} (lk:K.lookup f=some ⟨oc,od,.func (PySem.W.fnOf name qual params body scope dV kV doc pm an cdv ct),osl⟩) (hcd:PySem.W.codeIn K cdv qual=true) (S:FnScope N ps scope)
    (len:∀ vs H Q E,sp vs H Q E→vs.length=ps.length)
    (hbody:∀ (A:Around) (outer:List Env) (s:Shared) (H:Hp) (vs:List V) (Q:VK) (E:XK),Room k (A.deeper (envOfC qual scope s.heap.objs.size f cdv))→sp vs H Q E →
      ∃ t,PSs (cxOf CX P w K mg base N qual scope f cdv A outer s H E) body t∧t { nx:=fun _ H'=>Q .non H',rt:=Q } (start N vs) H) :
    FnOk P w K mg base CX (k + 1) f (PySem.W.fnOf name qual params body scope dV kV doc pm an cdv ct) ps sp:=by
  refine ⟨len,fun A outer s H args us vs Q E hr e0 hb r hsp=>?_⟩
  have hl:=len _ _ _ _ hsp
  have KX:K.In s.heap:=e0.mod.kin.keeps fun b o e=>(e0.bs b o e).1
  have lim:s.heap.NoLimit:=e0.mod.nolimit.keeps fun b o e=>(e0.bs b o e).1
  have hkind:∀ y∈ps.zip us,scope.names.lookup y.1=some .local ∨ (scope.names.lookup y.1=some .cell ∧ ((cellsFrom (s.heap.objs.size + 1) scope.names []).lookup y.1).isSome=true):=fun ⟨n,v⟩ hy=>by
    rcases S.par n (List.of_mem_zip hy).1 with q | q
    · exact .inl q
    · exact .inr ⟨q,PySem.W.cellsFrom_some _ _ _ (.inl q)⟩
  refine codeAny_call_function hr.depth (KX _ _ lk) rfl S.co S.gen rfl (PySem.W.codeRec_of KX hcd) (hb _ _ _ _ ?_)
  refine wpAny_newFunctionEnv_cells S.kind hkind fun env he s1 x=>?_
  subst he
  refine ⟨lim.keeps x.toInCall.keep,codeAny_func ?_⟩
  obtain ⟨t,ht,hq⟩:=hbody A outer s H vs Q E (hr.deeper _) hsp
  have I:Inv (cxOf CX P w K mg base N qual scope f cdv A outer s H E) [] (start N vs) H s1:=inv_start S hr.hd e0 hl r x
  refine wpAny_mono (ht [] s1 (start N vs) H _ I hq) (fun fl s' hs=>?_) fun e s' hs=>hs
  have fin:∀ {σ':St} {H':Hp} {v:V} {u:Value},Inv (cxOf CX P w K mg base N qual scope f cdv A outer s H E) [] σ' H' s'→RelV v u→Q v H'→CE outer P w H s Q u s' :=
    fun {σ' H' v u} J rv q=>⟨v,H',J.os,J.bare,J.base,J.hok,rv,q⟩
  cases fl with
  | ret u =>
    obtain ⟨v,σ',H',J,rv,q⟩:=hs
    exact fin J rv q
  | next =>
    obtain ⟨σ',H',J,q⟩:=hs
    exact fin (v:=V.non) (u:=Value.none) J rfl q
  | brk =>
    obtain ⟨_,_,_,q⟩:=hs
    exact False.elim q
  | cont =>
    obtain ⟨_,_,_,q⟩:=hs
    exact False.elim q
end L2
namespace L2
open PySem PySem.Spec PyProof.Rows
section
variable {X:Cx}{x:Str}{p pos:Pos}{e:Expr}{es:List Expr}{t:TA}{id T:String}{r:List V→Hp→VK→Prop}
def tCB (r:List V→Hp→VK→Prop)(t:TA):TE:=fun σ H Q=>t σ H fun vs H1=>r vs H1 Q
theorem pe_callB (hc:CallR X (.builtin id) r) (hg:Gl X x) (hm:X.mg x=none) (hv:bootBuiltins x=some (.builtin id)) (ha:PA X (e :: es) t) (hn:x ≠ "__name__":=by decide) (hdb:(x == ("__debug__" : Str))=false:=by decide)
    (he:starEach (e :: es) X.env=(false,eval e X.env) :: starEach es X.env:=by rfl) (hpl:(backTo pos (starEach es X.env)).any (·.1)=false:=by rfl):PE X (.Call (.Name x p) (e :: es) [] pos) (tCB r t):=by
  intro pins s σ H Q I h
  refine wpAny_Call_Name_kw (ld_blt I hg hm hv ?_ hn hdb)
  exact PyProof.Rows.callWith_builtin1 (thn (ha pos pins s σ H _ I h) fun us s1 ⟨vs,H1,I1,r1,q1⟩=>hc pins s1 σ H1 vs us Q I1 r1 q1) he hpl
theorem pe_callTy (hc:CallR X (.type T) r) (hg:Gl X x) (hm:X.mg x=none) (hv:bootBuiltins x=some (.type T)) (ha:PA X (e :: es) t) (hn:x ≠ "__name__":=by decide) (hdb:(x == ("__debug__" : Str))=false:=by decide)
    (he:starEach (e :: es) X.env=(false,eval e X.env) :: starEach es X.env:=by rfl) (hpl:(backTo pos (starEach es X.env)).any (·.1)=false:=by rfl):PE X (.Call (.Name x p) (e :: es) [] pos) (tCB r t):=by
  intro pins s σ H Q I h
  refine wpAny_Call_Name_kw (ld_blt I hg hm hv ?_ hn hdb)
  exact PyProof.Rows.callWith_type1 (thn (ha pos pins s σ H _ I h) fun us s1 ⟨vs,H1,I1,r1,q1⟩=>hc pins s1 σ H1 vs us Q I1 r1 q1) he hpl
end
end L2
namespace HT
open PySem PyProof.Rows
section
variable {prog:Program}{w:World}{A:Around}{E:Value→Shared→Prop}{s:Shared}
theorem cat_tup {t b:Addr}{vs ws:List Value}{Q:Value→Shared→Prop}(ht:IsTup s.heap t vs.toArray)(hb:IsTup s.heap b ws.toArray)(hv:vs≠[])
    (h1:ws=[]→Q (.ref t) s) (h2:ws≠[]→Q (.ref s.heap.objs.size) { s with heap:=s.heap.push { cls:=.type "tuple",data:=.seq (vs ++ ws).toArray } })
    (hsz:vs.length + ws.length ≤ sizeLine):wpAny (model prog w) A (binaryOp .Add (.ref t) (.ref b)) Q E s:=by
  obtain ⟨⟨cls,dd,data,sl⟩,ho,hc,n,hd⟩:=id ht
  obtain ⟨⟨cls2,dd2,data2,sl2⟩,ho2,hc2,n2,hd2⟩:=id hb
  simp only at hc hd hc2 hd2
  subst hc hd hc2 hd2
  have e:vs.toArray ++ ws.toArray=(vs ++ ws).toArray:=by simp
  by_cases hw:ws=[]
  · exact concat_meets ⟨_,ho,rfl⟩ ⟨_,ho2,rfl⟩ noFill_tuple_add seq_tuple_add PySem.F.slot_tuple_add PySem.F.entry_tuple_add (PySem.F.args_tuple_add_2 _ _)
      (tuple_addW1 t b vs.toArray ws.toArray n n2 dd dd2 sl sl2 (by simpa using hv) (by simp [hw])) ⟨ho,ho2,h1 hw⟩
  · refine concat_meets ⟨_,ho,rfl⟩ ⟨_,ho2,rfl⟩ noFill_tuple_add seq_tuple_add PySem.F.slot_tuple_add PySem.F.entry_tuple_add (PySem.F.args_tuple_add_2 _ _)
      (tuple_addW2 t b vs.toArray ws.toArray n n2 dd dd2 sl sl2 (by simpa using hv) (by simpa using hw) (by rw [List.size_toArray,List.size_toArray];exact hsz)) ⟨ho,ho2,?_⟩
    rw [e]
    exact h2 hw
def sIx (n d:Nat):Option Int→Nat
  | none=>d
  | some v=>if v < 0 then (v + (n:Int)).toNat else min v.toNat n
theorem sIx_nat (n d k:Nat):sIx n d (some (k:Int))=min k n:=by
  show (if (k:Int) < 0 then ((k:Int) + (n:Int)).toNat else min (k:Int).toNat n)=min k n
  rw [if_neg (by omega),Int.toNat_natCast]
theorem sIx_le (n d:Nat)(hd:d≤n)(o:Option Int):sIx n d o≤n:=by
  cases o with
  | none=>exact hd
  | some v =>
    show (if v < 0 then (v + (n:Int)).toNat else min v.toNat n)≤n
    by_cases hv:v < 0
    · rw [if_pos hv];omega
    · rw [if_neg hv];exact Nat.min_le_right _ _
theorem clip_eq (v:Int)(n d:Nat):(if v < 0 then max (v + (n:Int)) 0 else min v (n:Int))=((sIx n d (some v):Nat):Int):=by
  show (if v < 0 then max (v + (n:Int)) 0 else min v (n:Int))=(((if v < 0 then (v + (n:Int)).toNat else min v.toNat n):Nat):Int)
  by_cases hv:v < 0
  · simp only [if_pos hv];omega
  · simp only [if_neg hv];omega
theorem adjust_gen (lo hi:Option Int)(n:Nat):Builtin.Slice.sliceAdjust lo hi 1 (n:Int)=(((sIx n 0 lo:Nat):Int),((sIx n n hi:Nat):Int)):=by
  have h1:¬ ((1:Int) < 0):=by omega
  unfold Builtin.Slice.sliceAdjust
  simp only [h1,if_false]
  refine Prod.ext ?_ ?_
  · cases lo with
    | none=>rfl
    | some v=>exact clip_eq v n 0
  · cases hi with
    | none=>rfl
    | some v=>exact clip_eq v n n
theorem places_gen (i j:Nat):Builtin.Slice.slicePlaces (i:Int) (j:Int) 1=j - i:=by
  unfold Builtin.Slice.slicePlaces
  have h1:(1:Int) > 0:=by omega
  simp only [h1,if_true,Int.ediv_one]
  split <;> omega
theorem slicePart_ {v:Value}{o:Option Int}{Q:Option Int→Shared→Prop}(p:IsPart v o)(h:Q o s):wpAny (model prog w) A (Builtin.Slice.slicePartIndex v) Q E s:=by
  cases p with
  | none=>exact slicePart_none h
  | int i t=>exact slicePart_int h
theorem sliceApplied_gen {sl:Addr}{vl vu:Value}{lo hi:Option Int}{n:Nat}{Q:Int × Int × Nat→Shared→Prop}(hs:s.heap.IsSliceOf sl vl vu .none)(pl:IsPart vl lo)(pu:IsPart vu hi)
    (h:Q (((sIx n 0 lo:Nat):Int),1,sIx n n hi - sIx n 0 lo) s):wpAny (model prog w) A (Builtin.Slice.sliceApplied (.ref sl) (pure (n:Int))) Q E s:=by
  obtain ⟨os,hos,hcs,hds⟩:=id hs
  unfold Builtin.Slice.sliceApplied Builtin.Slice.sliceFields
  refine wpAny_bind (wpAny_bind (wpAny_field hos hds (x:=vl) rfl (wpAny_bind (wpAny_field hos hds (x:=vu) rfl (wpAny_bind (wpAny_field hos hds (x:=.none) rfl (wpAny_pure ?_)))))))
  refine wpAny_bind (slicePart_none ?_)
  show wpAny _ _ (if ((1:Int) == 0)=true then _ else _) _ _ s
  rw [if_neg (by decide)]
  refine wpAny_bind (slicePart_ pl (wpAny_bind (slicePart_ pu (wpAny_bind (wpAny_pure ?_)))))
  show wpAny _ _ (match Builtin.Slice.sliceAdjust lo hi 1 (n:Int) with | (lo,hi)=>pure (lo,(1:Int),Builtin.Slice.slicePlaces lo hi 1)) _ _ s
  rw [adjust_gen lo hi n]
  show wpAny _ _ (pure (((sIx n 0 lo:Nat):Int),(1:Int),Builtin.Slice.slicePlaces ((sIx n 0 lo:Nat):Int) ((sIx n n hi:Nat):Int) 1)) _ _ s
  rw [places_gen]
  exact wpAny_pure h
theorem pick_gen (xs:Array Value)(i k:Nat):((List.range k).filterMap fun (m:Nat)=>xs[((i:Int) + (m:Int) * 1).toNat]?).toArray=((xs.toList.drop i).take k).toArray:=by
  have e:(fun (m:Nat)=>xs[((i:Int) + (m:Int) * 1).toNat]?)=fun m=>xs[i + m]?:=by
    funext m
    have:((i:Int) + (m:Int) * 1).toNat=i + m:=by omega
    rw [this]
  rw [e]
  have:=pick_run xs i k
  rw [List.filterMap_map] at this
  have e2:((fun x=>xs[x]?) ∘ fun x=>i + x)=fun m=>xs[i + m]?:=rfl
  rw [e2] at this
  rw [this]
theorem getItem_tuple_cut {t sl:Addr}{items:Array Value}{vl vu:Value}{lo hi:Option Int}{Q:Value→Shared→Prop}(ht:IsTup s.heap t items)(hs:s.heap.IsSliceOf sl vl vu .none)(pl:IsPart vl lo)(pu:IsPart vu hi)
    (hw:¬ (sIx items.size 0 lo=0∧sIx items.size items.size hi=items.size))
    (h:Q (.ref s.heap.objs.size) { s with heap:=s.heap.push { cls:=.type "tuple",data:=.seq ((items.toList.drop (sIx items.size 0 lo)).take (sIx items.size items.size hi - sIx items.size 0 lo)).toArray } })
    (hsz:items.size ≤ sizeLine):wpAny (model prog w) A (getItem (.ref t) (.ref sl)) Q E s:=by
  have htake:sizeOk (.seq ((items.toList.drop (sIx items.size 0 lo)).take (sIx items.size items.size hi - sIx items.size 0 lo)).toArray):=by
    show ((items.toList.drop (sIx items.size 0 lo)).take (sIx items.size items.size hi - sIx items.size 0 lo)).toArray.size ≤ sizeLine
    rw [List.size_toArray,List.length_take,List.length_drop,Array.length_toList]
    omega
  have hj:sIx items.size items.size hi≤items.size:=sIx_le _ _ (Nat.le_refl _) hi
  obtain ⟨os,hos,hcs,hds⟩:=id hs
  have hTs:s.TypeIs (.ref sl) "slice":=⟨os,hos,hcs⟩
  unfold getItem
  try with_reducible refine wpAny_holding ?_
  first | refine wpAny_bind (wpAny_pure ?_) | skip
  refine wpAny_bind (wpAny_sequenceKey ht.typeIs (by decide) ?_)
  refine wpAny_bind (wpAny_callSpecial?_slot (name:=Str.ofString "__getitem__") ht.typeIs PyProof.Rows.slot_tuple_getitem
    (wpAny_call_entry PyProof.Rows.slot_tuple_getitem ht.typeIs entry_tuple_getitem ?_ (args_tuple_getitem _ _)))
  show wpAny _ _ (Builtin.Tuple.tupleItemsOf (.ref t) >>= _) _ _ s
  refine wpAny_bind (tupleItemsOf_ ht ?_)
  refine wpAny_bind (wpAny_typeOf hTs ?_)
  rw [if_pos (by decide)]
  refine wpAny_bind (sliceApplied_gen hs pl pu ?_)
  have hno:¬ ((((sIx items.size 0 lo:Nat):Int) == 0 && (1:Int) == 1 && (sIx items.size items.size hi - sIx items.size 0 lo) == items.size)=true):=by
    intro q
    rw [Bool.and_eq_true,Bool.and_eq_true] at q
    have q1:((sIx items.size 0 lo:Nat):Int)=0:=eq_of_beq q.1.1
    have q2:sIx items.size items.size hi - sIx items.size 0 lo=items.size:=eq_of_beq q.2
    exact hw ⟨by omega,by omega⟩
  show wpAny _ _ (if (((sIx items.size 0 lo:Nat):Int) == 0 && (1:Int) == 1 && (sIx items.size items.size hi - sIx items.size 0 lo) == items.size)=true then _ else _) _ _ s
  rw [if_neg hno,pick_gen]
  first
    | exact wpAny_bind (m:=Builtin.Tuple.tupleExact _) (wpAny_newObj_type (wpAny_pure ⟨_,rfl,wpAny_pure h⟩) htake)
    | exact wpAny_bind (m:=Builtin.Tuple.tupleExact _) (wpAny_newObj_type (wpAny_bind (wpAny_pure (wpAny_pure ⟨_,rfl,wpAny_pure h⟩))) htake)
    | exact wpAny_bind (wpAny_bind (m:=Builtin.Tuple.tupleExact _) (wpAny_newObj_type (wpAny_pure (wpAny_pure ⟨_,rfl,wpAny_pure h⟩)) htake))
    | exact wpAny_bind (wpAny_bind (m:=Builtin.Tuple.tupleExact _) (wpAny_newObj_type (wpAny_pure ⟨_,rfl,wpAny_pure h⟩) htake))
end
end HT
namespace L2
open PySem PySem.Spec PyProof.Rows
abbrev TO:=St→Hp→(Option Int→Hp→Prop)→Prop
def PO (X:Cx)(e:Option Expr)(t:TO):Prop :=
  ∀ (pins:List (Addr × Obj)) (s:Shared) (σ:St) (H:Hp) (Q:Option Int→Hp→Prop),Inv X pins σ H s→t σ H Q →
    wpAny (model X.prog X.w) X.A (evalPart e X.env) (fun u s'=>∃ o H',Inv X pins σ H' s'∧IsPart u o∧Q o H') X.xe s
def tNoPart:TO:=fun _ H Q=>Q none H
def tPart (t:TE):TO:=fun σ H Q=>t σ H fun x H1=>∃ i,x = .int i∧Q (some i) H1
theorem intsAre_of {ns:List Int}:∀ {us:List Value},Vals (ns.map V.int) us→IntsAre us ns:=by
  induction ns with
  | nil=>intro us r;rw [List.map_nil] at r;cases r;exact .nil
  | cons n ns ih =>
    intro us r
    rw [List.map_cons] at r
    cases r with
    | cons r1 r2 =>
      obtain ⟨t,e⟩:=r1
      subst e
      exact .cons n t (ih r2)
section
variable {X:Cx}{e:Expr}{te:TE}{lo hi:Option Expr}{tl th:TO}{pos p2:Pos}
theorem po_none:PO X none tNoPart:=by
  intro pins s σ H Q I h
  rw [evalPart_none]
  exact wpAny_pure ⟨none,H,I,.none,h⟩
theorem po_some (h:PE X e te):PO X (some e) (tPart te):=by
  intro pins s σ H Q I hw
  rw [evalPart_some]
  refine thn (h pins s σ H _ I hw) fun u s1 ⟨x,H1,I1,r1,q1⟩=>?_
  obtain ⟨i,rfl,q⟩:=q1
  obtain ⟨t,rfl⟩:=r1
  exact ⟨some i,H1,I1,.int i t,q⟩
def SlR (X:Cx)(r:V→Option Int→Option Int→Hp→VK→Prop):Prop :=
  ∀ (pins:List (Addr × Obj)) (s:Shared) (σ:St) (H:Hp) (x:V) (v vl vu:Value) (lo hi:Option Int) (sl:Addr) (Q:VK),Inv X pins σ H s→RelV x v→s.heap.IsSliceOf sl vl vu .none → IsPart vl lo→IsPart vu hi→r x lo hi H Q →
    ∃ T id,typeLookup (.type T) "__getitem__" = pure (some (.builtin id))∧s.TypeIs v T∧wpAny (model X.prog X.w) X.A (getItem v (.ref sl)) (EP X pins σ Q) X.xe s
theorem SlR.or {r r':V→Option Int→Option Int→Hp→VK→Prop}(h:SlR X r)(h':SlR X r'):SlR X (fun x lo hi H Q=>r x lo hi H Q ∨ r' x lo hi H Q):=by
  intro pins s σ H x v vl vu lo hi sl Q I rx hs pl pu q
  rcases q with q | q
  · exact h pins s σ H x v vl vu lo hi sl Q I rx hs pl pu q
  · exact h' pins s σ H x v vl vu lo hi sl Q I rx hs pl pu q
def tSl (r:V→Option Int→Option Int→Hp→VK→Prop)(te:TE)(tl th:TO):TE:=fun σ H Q=>te σ H fun x H1=>tl σ H1 fun l H2=>th σ H2 fun u H3=>r x l u H3 Q
theorem pe_slice {r:V→Option Int→Option Int→Hp→VK→Prop}(hr:SlR X r)(he:PE X e te)(hl:PO X lo tl)(hu:PO X hi th):PE X (.Subscript e (.Slice lo hi none p2) pos) (tSl r te tl th):=by
  intro pins s σ H Q I h
  refine Subscript_ (thn (he pins s σ H _ I h) fun v s1 ⟨x,H1,I1,r1,q1⟩=>?_)
  refine wpAny_Slice (thn (hl pins s1 σ H1 _ I1 q1) fun vl s2 ⟨l,H2,I2,pl,q2⟩=>thn (hu pins s2 σ H2 _ I2 q2) fun vu s3 ⟨u,H3,I3,pu,q3⟩=>?_)
  rw [evalPart_none]
  refine wpAny_pure ?_
  have I4:Inv X pins σ H3 { s3 with heap:=s3.heap.push { cls:=.type "slice",data:=.fields #[vl,vu,.none] } }:=I3.kept (t':=s3.toks) fun b ob q=>Heap.get?_push_of_some _ q
  obtain ⟨T,id,hT,ht,hg⟩:=hr pins { s3 with heap:=s3.heap.push { cls:=.type "slice",data:=.fields #[vl,vu,.none] } } σ H3 x v vl vu l u s3.heap.objs.size Q I4 r1 (Heap.IsSliceOf.new ..) pl pu q3
  show wpAny (model X.prog X.w) X.A (subscriptTail e (.Slice lo hi none p2) v (.ref s3.heap.objs.size)) (EP X pins σ Q) X.xe { s3 with heap:=s3.heap.push { cls:=.type "slice",data:=.fields #[vl,vu,.none] } }
  exact tail_any (ops:=[.ref s3.heap.objs.size,v]) ht hT hg (by with_unfolding_all rfl)
def cutV (xs:List V)(lo hi:Option Int):List V:=(xs.drop (HT.sIx xs.length 0 lo)).take (HT.sIx xs.length xs.length hi - HT.sIx xs.length 0 lo)
theorem cutV_length (xs:List V)(lo hi:Option Int):(cutV xs lo hi).length ≤ xs.length:=by
  unfold cutV
  rw [List.length_take,List.length_drop]
  omega
def rSlT (K:PySem.W.Frag):V→Option Int→Option Int→Hp→VK→Prop:=fun x lo hi H Q=>∃ a xs,x = .ref a∧SqT K H a xs ∧
  ¬ (HT.sIx xs.length 0 lo=0∧HT.sIx xs.length xs.length hi=xs.length)∧∀ p,H p=none→Q (.ref p) (upd H p (.tup (cutV xs lo hi)))
theorem sl_tup:SlR X (rSlT X.K):=by
  intro pins s σ H x v vl vu lo hi sl Q I rx hs pl pu h
  obtain ⟨a,xs,rfl,hx,hw,q⟩:=h
  cases rx
  obtain ⟨its,r,ht,hz⟩:=I.tuple hx
  have hlen:its.toArray.size=xs.length:=by rw [List.size_toArray];exact r.length.symm
  refine ⟨"tuple",_,PyProof.Rows.slot_tuple_getitem.lookup,ht.typeIs,?_⟩
  refine HT.getItem_tuple_cut ht hs pl pu (by rw [hlen];exact hw) ?_ (by rw [hlen];exact hz)
  rw [hlen]
  refine ⟨.ref s.heap.objs.size,_,I.laid (t':=s.toks) (o:=.tup (cutV xs lo hi)) (fun b ob q=>Heap.get?_push_of_some _ q) (Nat.le_refl _) ?_,rfl,q _ (I.hok.fresh (Nat.le_refl _))⟩
  exact ⟨Nat.le_trans (cutV_length xs lo hi) hz,_,(r.drop (HT.sIx xs.length 0 lo)).take (HT.sIx xs.length xs.length hi - HT.sIx xs.length 0 lo),IsTup.new _ _⟩
def rCatT (K:PySem.W.Frag):R2:=fun x y H Q=>∃ a b xs ys,x = .ref a∧y = .ref b∧SqT K H a xs∧SqT K H b ys∧xs≠[]∧xs.length + ys.length ≤ sizeLine ∧
  (ys=[]→Q (.ref a) H)∧(ys≠[]→∀ p,H p=none→Q (.ref p) (upd H p (.tup (xs ++ ys))))
theorem Vals.nil_iff {xs:List V}{us:List Value}(r:Vals xs us):us=[]↔xs=[]:=by
  cases r with
  | nil=>simp
  | cons _ _=>simp
theorem op_catT:OpR X (binaryOp .Add) (rCatT X.K):=by
  intro pins s σ H x y v u Q I rx ry h
  obtain ⟨a,b,xs,ys,rfl,rfl,ha,hb,hx,hz,q1,q2⟩:=h
  cases rx
  cases ry
  obtain ⟨its,r1,p1,_⟩:=I.tuple ha
  obtain ⟨its2,r2,p2,_⟩:=I.tuple hb
  refine HT.cat_tup p1 p2 (fun z=>hx (r1.nil_iff.mp z)) (fun z=>⟨.ref a,H,I,rfl,q1 (r2.nil_iff.mp z)⟩) (fun z=>?_) (by rw [← r1.length,← r2.length];exact hz)
  refine ⟨.ref s.heap.objs.size,_,I.laid (t':=s.toks) (o:=.tup (xs ++ ys)) (fun b ob q=>Heap.get?_push_of_some _ q) (Nat.le_refl _) ?_,rfl,q2 (fun w=>z (r2.nil_iff.mpr w)) _ (I.hok.fresh (Nat.le_refl _))⟩
  exact ⟨by rw [List.length_append];exact hz,_,r1.append r2,IsTup.new _ _⟩
end
end L2
namespace L2
open PySem PySem.Spec PyProof.Rows
def ixN (n:Nat)(i:Int):Option Nat:=if 0≤i then (if i < n then some i.toNat else none) else if -(n:Int)≤i then some (i + n).toNat else none
def atI {α:Type}(xs:List α)(i:Int):Option α:=(ixN xs.length i).bind fun j=>xs[j]?
theorem ixN_seq {n:Nat}{i:Int}{j:Nat}(h:ixN n i=some j):seqIndex? i n=some j∧j < n∧-(n:Int)≤i∧i < n:=by
  unfold ixN at h
  by_cases h0:0≤i
  · rw [if_pos h0] at h
    by_cases h1:i < n
    · rw [if_pos h1] at h
      have e:i.toNat=j:=Option.some.inj h
      exact ⟨by rw [seqIndex_of h0 h1,e],by omega,by omega,h1⟩
    · rw [if_neg h1] at h;cases h
  · rw [if_neg h0] at h
    by_cases h1:-(n:Int)≤i
    · rw [if_pos h1] at h
      have e:(i + n).toNat=j:=Option.some.inj h
      exact ⟨by rw [seqIndex_neg (by omega) h1,e],by omega,h1,by omega⟩
    · rw [if_neg h1] at h;cases h
theorem atI_get {α:Type}{xs:List α}{i:Int}{v:α}(h:atI xs i=some v):∃ j,seqIndex? i xs.length=some j∧xs[j]? = some v∧j < xs.length ∧ -(xs.length:Int)≤i∧i < xs.length:=by
  unfold atI at h
  cases e:ixN xs.length i with
  | none=>rw [e] at h;cases h
  | some j =>
    rw [e] at h
    obtain ⟨h1,h2,h3,h4⟩:=ixN_seq e
    exact ⟨j,h1,h,h2,h3,h4⟩
theorem atI_nat {α:Type}{xs:List α}{j:Nat}{v:α}(h:xs[j]? = some v):atI xs (j:Int)=some v:=by
  have hj:j < xs.length:=(List.getElem?_eq_some_iff.mp h).1
  have e:ixN xs.length (j:Int)=some j:=by
    unfold ixN
    rw [if_pos (by omega),if_pos (by omega)];simp
  unfold atI;rw [e];exact h
def PlainIx (b:Expr):Prop:=∀ o i,subscripted b false o i=operate [o,i] (getItem o i)
def IxR (X:Cx)(r:R2):Prop :=
  ∀ (value slice:Expr) (pins:List (Addr × Obj)) (s:Shared) (σ:St) (H:Hp) (x y:V) (v u:Value) (Q:VK),Inv X pins σ H s→RelV x v→RelV y u→r x y H Q →
    subscripted slice false v u=operate [v,u] (getItem v u)→wpAny (model X.prog X.w) X.A (subscriptTail value slice v u) (EP X pins σ Q) X.xe s
def MtR (X:Cx)(id:String)(r:V→List V→Hp→VK→Prop):Prop :=
  ∀ (pins:List (Addr × Obj)) (s:Shared) (σ:St) (H:Hp) (x:V) (xs:List V) (v:Value) (us:List Value) (Q:VK),Inv X pins σ H s→RelV x v→Vals xs us→r x xs H Q →
    wpAny (model X.prog X.w) X.A (call (.builtin id) (v :: us)) (EP X pins σ Q) X.xe s
section
variable {X:Cx}{a b:Expr}{ta tb:TE}{pos:Pos}
theorem IxR.or {r r':R2}(h:IxR X r)(h':IxR X r'):IxR X (fun x y H Q=>r x y H Q ∨ r' x y H Q):=by
  intro value slice pins s σ H x y v u Q I rx ry q hs
  rcases q with q | q
  · exact h value slice pins s σ H x y v u Q I rx ry q hs
  · exact h' value slice pins s σ H x y v u Q I rx ry q hs
theorem MtR.or {id:String}{r r':V→List V→Hp→VK→Prop}(h:MtR X id r)(h':MtR X id r'):MtR X id (fun x xs H Q=>r x xs H Q ∨ r' x xs H Q):=by
  intro pins s σ H x xs v us Q I rx rs q
  rcases q with q | q
  · exact h pins s σ H x xs v us Q I rx rs q
  · exact h' pins s σ H x xs v us Q I rx rs q
theorem pe_ix {r:R2}(hr:IxR X r)(ha:PE X a ta)(hb:PE X b tb)(hs:PlainIx b):PE X (.Subscript a b pos) (tOp r ta tb):=by
  intro pins s σ H Q I h
  exact Subscript_ (binT ha hb I h fun v u s2 x y H2 I2 rx ry q=>hr a b pins s2 σ H2 x y v u Q I2 rx ry q (hs _ _))
def rIxL (K:PySem.W.Frag):R2:=fun x y H Q=>∃ p xs i v,x = .ref p∧y = .int i∧SqL K H p xs∧atI xs i=some v∧Q v H
def rIxT (K:PySem.W.Frag):R2:=fun x y H Q=>∃ p xs i v,x = .ref p∧y = .int i∧SqT K H p xs∧atI xs i=some v∧Q v H
def rIxS:R2:=fun x y H Q=>∃ z i c,x = .str z∧y = .int i∧z.length ≤ sizeLine∧atI z.cps.toList i=some c∧Q (.str ⟨#[c]⟩) H
theorem ix_list:IxR X (rIxL X.K):=by
  intro value slice pins s σ H x y v u Q I rx ry h hs
  obtain ⟨p,xs,i,z,rfl,rfl,hq,he,q⟩:=h
  cases rx
  obtain ⟨t,rfl⟩:=ry
  obtain ⟨its,r,pl,hz⟩:=I.list hq
  obtain ⟨j,h1,h2,h3,h4,h5⟩:=atI_get he
  obtain ⟨w,ew,rw'⟩:=r.get h2
  have hl:=r.length
  have hn:=line63
  have fin:EP X pins σ Q w s:=⟨z,H,I,rw',q⟩
  by_cases h0:0≤i
  · have hj:i.toNat=j:=by
      rw [seqIndex_of h0 h5] at h1
      exact Option.some.inj h1
    exact item_listR pl.isList h0 (by omega) (by rw [hj];simpa using ew) fin hs
  · have hj:(i + (its.toArray.size:Int)).toNat=j:=by
      rw [seqIndex_neg (by omega) h4] at h1
      rw [List.size_toArray,← hl]
      exact Option.some.inj h1
    exact subscriptTail_builtinR (x:=w) pl.isList.typeIs slot_list_getitem.lookup
      (wpAny_getItem_list_neg (Q:=fun r s'=>r=w∧EP X pins σ Q r s') pl.isList (by omega) (by rw [List.size_toArray] <;> omega) (by omega) (by rw [hj];simpa using ew) ⟨rfl,fin⟩) hs
theorem ix_tup:IxR X (rIxT X.K):=by
  intro value slice pins s σ H x y v u Q I rx ry h hs
  obtain ⟨p,xs,i,z,rfl,rfl,hq,he,q⟩:=h
  cases rx
  obtain ⟨t,rfl⟩:=ry
  obtain ⟨its,r,pl,hz⟩:=I.tuple hq
  obtain ⟨j,h1,h2,h3,h4,h5⟩:=atI_get he
  obtain ⟨w,ew,rw'⟩:=r.get h2
  have hl:=r.length
  have hn:=line63
  have fin:EP X pins σ Q w s:=⟨z,H,I,rw',q⟩
  exact subscriptTail_builtinR (x:=w) pl.typeIs slot_tuple_getitem.lookup
    (getItem_tuple (j:=j) (Q:=fun r s'=>r=w∧EP X pins σ Q r s') pl (by omega) (by omega) (by rw [List.size_toArray,← hl];exact h1) (by simpa using ew) ⟨rfl,fin⟩) hs
theorem ix_str:IxR X rIxS:=by
  intro value slice pins s σ H x y v u Q I rx ry h hs
  obtain ⟨z,i,c,rfl,rfl,hz,he,q⟩:=h
  obtain ⟨t,rfl⟩:=rx
  obtain ⟨t',rfl⟩:=ry
  obtain ⟨j,h1,h2,h3,h4,h5⟩:=atI_get he
  have hl:z.cps.toList.length=z.length:=by simp [Str.length]
  rw [hl] at h1 h4 h5
  have hn:=line63
  exact tail_any (typeIs_str s z t) slot_str_getitem.lookup (getItem_str (c:=c) (by
    have e1:decide (i < -(2 ^ 63:Int))=false:=decide_eq_false (by omega)
    have e2:decide (i ≥ 2 ^ 63)=false:=decide_eq_false (by omega)
    rw [e1,e2,Bool.or_false]) (by rw [h1];simpa using h2) ⟨.str ⟨#[c]⟩,H,I.tok _,⟨_,rfl⟩,q⟩) hs
def rIx (K:PySem.W.Frag):R2:=fun x y H Q=>rIxL K x y H Q ∨ rIxT K x y H Q ∨ rIxS x y H Q
theorem ix_seq:IxR X (rIx X.K):=ix_list.or (ix_tup.or ix_str)
theorem mapSeq_set (its:List Value) (n j:Nat) (u:Value):Obj.mapSeq (·.setIfInBounds j u) { cls:=.type "list",data:=.seq its.toArray n }={ cls:=.type "list",data:=.seq (its.set j u).toArray n }:=by
  simp [Obj.mapSeq]
theorem Inv.lst {pins:List (Addr × Obj)}{σ:St}{H:Hp}{s:Shared}{p:Addr}{xs:List V}(I:Inv X pins σ H s)(h:H p=some (.lst xs)) :
    ∃ (its:List Value) (n:Nat),Vals xs its∧s.heap.get? p=some { cls:=.type "list",data:=.seq its.toArray n }∧xs.length ≤ sizeLine:=by
  obtain ⟨z,its,n,r,e⟩:=I.hok p _ h
  exact ⟨its,n,r,e,z⟩
theorem Inv.lstUpd {pins:List (Addr × Obj)}{σ:St}{H:Hp}{s:Shared}{p:Addr}{xs ys:List V}{its its':List Value}{n n':Nat}{f:Obj→Obj}(I:Inv X pins σ H s)(h:H p=some (.lst xs))
    (ho:s.heap.get? p=some { cls:=.type "list",data:=.seq its.toArray n }) (hf:f { cls:=.type "list",data:=.seq its.toArray n }={ cls:=.type "list",data:=.seq its'.toArray n' }) (r:Vals ys its') (hz:ys.length ≤ sizeLine) (t:Nat) :
    Inv X pins σ (upd H p (.lst ys)) { s with heap:=s.heap.update p f,toks:=t }:=by
  have e:(s.heap.update p f).get? p=some { cls:=.type "list",data:=.seq its'.toArray n' }:=by
    rw [Heap.get?_update_self f ho (by rw [hf] <;> rfl),hf]
  refine I.write (x:=p) (e:=p) (by rw [h];trivial) (.inl rfl) (fun b u hb q=>(Heap.get?_update_other _ _ (Ne.symm hb)).trans q) ⟨_,e⟩ ?_
  exact ⟨hz,its',n',r,e⟩
def rSetL:V→V→V→Hp→(Hp→Prop)→Prop:=fun o i v H Q=>∃ p xs k j,o = .ref p∧i = .int k∧H p=some (.lst xs)∧ixN xs.length k=some j∧Q (upd H p (.lst (xs.set j v)))
theorem set_list:PSet X rSetL:=by
  intro pins s σ H o i v ov iv u Q I ro ri rv h
  obtain ⟨p,xs,k,j,rfl,rfl,hp,hj,q⟩:=h
  cases ro
  obtain ⟨t,rfl⟩:=ri
  obtain ⟨its,n,r,ho,hz⟩:=I.lst hp
  obtain ⟨h1,h2,h3,h4⟩:=ixN_seq hj
  have hl:=r.length
  have hn:=line63
  have I':Inv X pins σ (upd H p (.lst (xs.set j v))) { s with heap:=s.heap.update p (Obj.mapSeq (·.setIfInBounds j u)) } :=
    I.lstUpd hp ho (mapSeq_set its n j u) (r.set rv j) (by rw [List.length_set];exact hz) s.toks
  by_cases h0:0≤k
  · have hk:k.toNat=j:=by
      rw [seqIndex_of h0 h4] at h1
      exact Option.some.inj h1
    exact PySem.W.ki_setAt ho h0 (by omega) (by rw [List.size_toArray,← hl];exact h4) (by rw [hk];exact ⟨_,I',q⟩)
  · have hk:(k + (its.toArray.size:Int)).toNat=j:=by
      rw [seqIndex_neg (by omega) h3] at h1
      rw [List.size_toArray,← hl]
      exact Option.some.inj h1
    exact PySem.W.ki_setBack ho (by omega) (by rw [List.size_toArray,← hl];exact h3) (by omega) (by rw [hk];exact ⟨_,I',q⟩)
theorem slice_bounds (lo hi:Option Int)(n:Nat):(sliceBounds lo hi none n).1=((HT.sIx n 0 lo:Nat):Int)∧(sliceBounds lo hi none n).2.1=((HT.sIx n n hi:Nat):Int)∧(sliceBounds lo hi none n).2.2=1:=by
  refine ⟨?_,?_,rfl⟩
  · cases lo with
    | none=>simp [sliceBounds,HT.sIx]
    | some i =>
      simp only [sliceBounds,HT.sIx,Option.getD_none,show (1:Int) > 0 by decide,if_true]
      by_cases h:i < 0
      · simp only [h,if_true] <;> omega
      · simp only [h,if_false] <;> omega
  · cases hi with
    | none=>simp [sliceBounds,HT.sIx]
    | some i =>
      simp only [sliceBounds,HT.sIx,Option.getD_none,show (1:Int) > 0 by decide,if_true]
      by_cases h:i < 0
      · simp only [h,if_true] <;> omega
      · simp only [h,if_false] <;> omega
theorem slicePick_cut (its:List Value)(lo hi:Option Int):slicePick its.toArray lo hi none=((its.drop (HT.sIx its.length 0 lo)).take (HT.sIx its.length its.length hi - HT.sIx its.length 0 lo)).toArray:=by
  obtain ⟨h1,h2,h3⟩:=slice_bounds lo hi its.toArray.size
  unfold slicePick
  rw [h1,h2,h3]
  simp only [sliceRange_one,pick_run,List.size_toArray] <;> rfl
def rSlL (K:PySem.W.Frag):V→Option Int→Option Int→Hp→VK→Prop:=fun x lo hi H Q=>∃ a xs,x = .ref a∧SqL K H a xs∧∀ p,H p=none→Q (.ref p) (upd H p (.lst (cutV xs lo hi)))
theorem sl_list:SlR X (rSlL X.K):=by
  intro pins s σ H x v vl vu lo hi sl Q I rx hs pl pu h
  obtain ⟨a,xs,rfl,hx,q⟩:=h
  cases rx
  obtain ⟨its,r,ht,hz⟩:=I.list hx
  have hlen:=r.length
  refine ⟨"list",_,slot_list_getitem.lookup,ht.isList.typeIs,?_⟩
  refine wpAny_getItem_list_slice ht.isList hs pl pu .none (by simp) ?_ (by rw [List.size_toArray] <;> omega)
  rw [slicePick_cut,← hlen]
  refine ⟨.ref s.heap.objs.size,_,I.laid (t':=s.toks) (o:=.lst (cutV xs lo hi)) (fun b ob q=>Heap.get?_push_of_some _ q) (Nat.le_refl _) ?_,rfl,q _ (I.hok.fresh (Nat.le_refl _))⟩
  exact ⟨Nat.le_trans (cutV_length xs lo hi) hz,_,0,(r.drop (HT.sIx xs.length 0 lo)).take (HT.sIx xs.length xs.length hi - HT.sIx xs.length 0 lo),Heap.get?_push_size _ rfl⟩
def flatV:V→Bool
  | .non=>true
  | .bl _=>true
  | .int _=>true
  | .str _=>true
  | _=>false
def eqV:V→V→Bool
  | .non,.non=>true
  | .bl a,.bl b=>a == b
  | .bl a,.int b=>(if a then 1 else 0) == b
  | .int a,.bl b=>a == (if b then 1 else 0)
  | .int a,.int b=>a == b
  | .str a,.str b=>a == b
  | _,_=>false
theorem eqAt_V {A:Around}{s:Shared}{y x:V}{u v:Value}(ry:RelV y u)(rx:RelV x v)(fy:flatV y=true)(fx:flatV x=true):SeqAt.EqAt A s u v (eqV y x):=by
  cases y with
  | non =>
    cases ry
    cases x with
    | non=>cases rx;exact SeqAt.EqAt.same _
    | bl b=>cases rx;exact SeqAt.EqAt.none_bool b
    | int b=>obtain ⟨t,rfl⟩:=rx;exact SeqAt.EqAt.none_int b t
    | str b=>obtain ⟨t,rfl⟩:=rx;exact SeqAt.EqAt.none_str b t
    | _=>exact absurd (show false=true from fx) Bool.false_ne_true
  | bl a =>
    cases ry
    cases x with
    | non=>cases rx;exact SeqAt.EqAt.bool_none a
    | bl b=>cases rx;exact SeqAt.EqAt.bool_bool a b
    | int b=>obtain ⟨t,rfl⟩:=rx;exact SeqAt.EqAt.bool_int a b t
    | str b=>obtain ⟨t,rfl⟩:=rx;exact SeqAt.EqAt.bool_str a b t
    | _=>exact absurd (show false=true from fx) Bool.false_ne_true
  | int a =>
    obtain ⟨t',rfl⟩:=ry
    cases x with
    | non=>cases rx;exact SeqAt.EqAt.int_none a t'
    | bl b=>cases rx;exact SeqAt.EqAt.int_bool a t' b
    | int b=>obtain ⟨t,rfl⟩:=rx;exact SeqAt.EqAt.int_int a t' b t
    | str b=>obtain ⟨t,rfl⟩:=rx;exact SeqAt.EqAt.int_str a t' b t
    | _=>exact absurd (show false=true from fx) Bool.false_ne_true
  | str a =>
    obtain ⟨t',rfl⟩:=ry
    cases x with
    | non=>cases rx;exact SeqAt.EqAt.str_none a t'
    | bl b=>cases rx;exact SeqAt.EqAt.str_bool a t' b
    | int b=>obtain ⟨t,rfl⟩:=rx;exact SeqAt.EqAt.str_int a t' b t
    | str b=>obtain ⟨t,rfl⟩:=rx;exact SeqAt.EqAt.str_str a t' b t
    | _=>exact absurd (show false=true from fx) Bool.false_ne_true
  | _=>exact absurd (show false=true from fy) Bool.false_ne_true
def eqU (x:V)(u:Value):Bool:=match u with
  | .none=>eqV .non x
  | .bool b=>eqV (.bl b) x
  | .int i _=>eqV (.int i) x
  | .str z _=>eqV (.str z) x
  | _=>false
theorem eqU_of {x y:V}{u:Value}(r:RelV y u)(f:flatV y=true):eqU x u=eqV y x:=by
  cases y with
  | non=>cases r;rfl
  | bl b=>cases r;rfl
  | int i=>obtain ⟨t,rfl⟩:=r;rfl
  | str z=>obtain ⟨t,rfl⟩:=r;rfl
  | _=>exact absurd (show false=true from f) Bool.false_ne_true
theorem any_eqU {x:V}:∀ {xs:List V} {us:List Value},Vals xs us→xs.all flatV=true→us.any (eqU x)=xs.any fun y=>eqV y x
  | _,_,.nil,_=>rfl
  | y :: xs,u :: us,.cons r t,f=>by
    rw [List.all_cons,Bool.and_eq_true] at f
    rw [List.any_cons,List.any_cons,eqU_of r f.1,any_eqU t f.2]
theorem mem_eqAt {A:Around}{s:Shared}{x:V}{v:Value}(rx:RelV x v)(fx:flatV x=true):∀ {xs:List V} {us:List Value},Vals xs us→xs.all flatV=true→∀ u∈us,SeqAt.EqAt A s u v (eqU x u)
  | _,_,.nil,_=>fun u hu=>by cases hu
  | y :: xs,u :: us,.cons r t,f=>fun u' hu=>by
    rw [List.all_cons,Bool.and_eq_true] at f
    rcases List.mem_cons.mp hu with rfl | hu
    · rw [eqU_of r f.1];exact eqAt_V r rx f.1 fx
    · exact mem_eqAt rx fx t f.2 u' hu
def inV (x:V)(xs:List V):Bool:=xs.any fun y=>eqV y x
def rIn (K:PySem.W.Frag)(neg:Bool):R2:=fun x y H Q=>∃ p xs,y = .ref p∧(SqL K H p xs ∨ SqT K H p xs)∧flatV x=true∧xs.all flatV=true∧Q (.bl (if neg then !inV x xs else inV x xs)) H
theorem op_in_seq:OpR X (compareOp .In) (rIn X.K false):=by
  intro pins s σ H x y v u Q I rx ry h
  obtain ⟨p,xs,rfl,hq,fx,fs,q⟩:=h
  cases ry
  rcases hq with hq | hq
  · obtain ⟨its,r,pl,hz⟩:=I.list hq
    refine SeqAt.in_listAt (eqU x) pl.isList (fun w hw=>mem_eqAt rx fx r fs w (by simpa using hw)) ⟨.bl _,H,I,rfl,?_⟩
    rw [show its.toArray.any (eqU x)=its.any (eqU x) by simp,any_eqU r fs]
    exact q
  · obtain ⟨its,r,pl,hz⟩:=I.tuple hq
    refine SeqAt.in_tupleAt (eqU x) pl (fun w hw=>mem_eqAt rx fx r fs w (by simpa using hw)) ⟨.bl _,H,I,rfl,?_⟩
    rw [show its.toArray.any (eqU x)=its.any (eqU x) by simp,any_eqU r fs]
    exact q
theorem CallR.or {f:Value}{r r':List V→Hp→VK→Prop}(h:CallR X f r)(h':CallR X f r'):CallR X f (fun xs H Q=>r xs H Q ∨ r' xs H Q):=by
  intro pins s σ H xs us Q I rs q
  rcases q with q | q
  · exact h pins s σ H xs us Q I rs q
  · exact h' pins s σ H xs us Q I rs q
theorem call_list_of:CallR X (.type "list") (fun xs H Q=>∃ p ys,xs=[.ref p]∧(SqL X.K H p ys ∨ SqT X.K H p ys)∧∀ l,H l=none→Q (.ref l) (upd H l (.lst ys))):=by
  intro pins s σ H xs us Q I r h
  obtain ⟨p,ys,rfl,hq,q⟩:=h
  obtain ⟨u,rfl,rx⟩:=vals1 r
  cases rx
  have fin:∀ (its:List Value),Vals ys its→ys.length ≤ sizeLine→∀ (h':Heap) (c':Nat),(∀ b o',s.heap.get? b=some o'→h'.get? b=some o') →
      h'.get? s.heap.objs.size=some { cls:=.type "list",dict:=none,data:=.seq its.toArray c',slots:=#[] }→EP X pins σ Q (.ref s.heap.objs.size) { s with heap:=h' }:=fun its r' hz h' c' kp e =>
    ⟨.ref s.heap.objs.size,_,I.laid (t':=s.toks) kp (Nat.le_refl _) (show ObjOk X.prog X.w _ h' _ (.lst ys) from ⟨hz,its,c',r',e⟩),rfl,q _ (I.hok.fresh (Nat.le_refl _))⟩
  rcases hq with hq | hq
  · obtain ⟨its,r',pl,hz⟩:=I.list hq
    have hlen:=r'.length
    obtain ⟨o,ho,hc,n,hd⟩:=pl.isList
    exact call_list_seq p (.inl rfl) ho hc hd (fun h' c' kp e=>fin its r' hz h' c' kp e) (by simp only [List.size_toArray] <;> omega)
  · obtain ⟨its,r',pl,hz⟩:=I.tuple hq
    have hlen:=r'.length
    obtain ⟨o,ho,hc,n,hd⟩:=pl
    exact call_list_seq p (.inr rfl) ho hc hd (fun h' c' kp e=>fin its r' hz h' c' kp e) (by simp only [List.size_toArray] <;> omega)
theorem call_tuple_of:CallR X (.type "tuple") (fun xs H Q=>∃ p ys,xs=[.ref p]∧((SqL X.K H p ys∧∀ l,H l=none→Q (.ref l) (upd H l (.tup ys))) ∨ (SqT X.K H p ys∧Q (.ref p) H))):=by
  intro pins s σ H xs us Q I r h
  obtain ⟨p,ys,rfl,h⟩:=h
  obtain ⟨u,rfl,rx⟩:=vals1 r
  cases rx
  rcases h with ⟨hq,q⟩ | ⟨hq,q⟩
  · obtain ⟨its,r',pl,hz⟩:=I.list hq
    have hlen:=r'.length
    refine call_tuple_list pl.isList (fun h' kp=>?_) (by simp only [List.size_toArray] <;> omega)
    have I1:Inv X pins σ H { s with heap:=h' }:=I.kept (t':=s.toks) kp
    have I2:Inv X pins σ (upd H h'.objs.size (.tup ys)) { s with heap:=h'.push { cls:=.type "tuple",data:=.seq its.toArray } } :=
      I1.laid (t':=s.toks) (fun b o e=>Heap.get?_push_of_some _ e) (Nat.le_refl _) (show ObjOk X.prog X.w _ _ _ (.tup ys) from ⟨hz,its,r',IsTup.new _ _⟩)
    exact ⟨.ref h'.objs.size,_,I2,rfl,q _ (I1.hok.fresh (Nat.le_refl _))⟩
  · obtain ⟨its,r',pl,hz⟩:=I.tuple hq
    exact call_tuple_same pl ⟨.ref p,H,I,rfl,q⟩
def tyV (K:PySem.W.Frag)(T:String)(x:V)(H:Hp):Prop:=match x with
  | .str _=>T = "str"
  | .int _=>T = "int"
  | .ref p=>(T = "list"∧∃ xs,SqL K H p xs) ∨ (T = "tuple"∧∃ o,K.lookup p=some o∧o.cls = .type "tuple"∧o.dict=none) ∨
      (T = "dict"∧((∃ kvs,H p=some (.dK kvs)) ∨ ∃ kvs,H p=some (.dT kvs))) ∨ (T = "set"∧∃ S n,H p=some (.set S n))
  | _=>False
theorem tyV_is {pins:List (Addr × Obj)}{σ:St}{H:Hp}{s:Shared}{T:String}{x:V}{v:Value}(I:Inv X pins σ H s)(r:RelV x v)(ty:tyV X.K T x H) :
    s.TypeIs v T∧∀ a,v = .ref a→∃ ob,s.heap.get? a=some ob∧ob.dict=none:=by
  cases x with
  | str z =>
    obtain ⟨t,rfl⟩:=r
    cases (show T = "str" from ty)
    exact ⟨typeIs_str s z t,fun _ e=>nomatch e⟩
  | int i =>
    obtain ⟨t,rfl⟩:=r
    cases (show T = "int" from ty)
    exact ⟨typeIs_int s i t,fun _ e=>nomatch e⟩
  | ref p =>
    cases r
    rcases ty with ⟨rfl,xs,hq⟩ | ⟨rfl,o,hk,hc,hd⟩ | ⟨rfl,hk⟩ | ⟨rfl,S,n,hk⟩
    · obtain ⟨its,_,pl,_⟩:=I.list hq
      refine ⟨pl.isList.typeIs,fun a e=>?_⟩
      cases e
      obtain ⟨o,n,e,c,hd,_⟩:=pl
      exact ⟨o,e,hd⟩
    · refine ⟨⟨o,I.kIn p o hk,hc⟩,fun a e=>?_⟩
      cases e
      exact ⟨o,I.kIn _ o hk,hd⟩
    · have z:∃ o,s.heap.get? p=some o∧o.ExactDict:=by
        rcases hk with ⟨kvs,hk⟩ | ⟨kvs,hk⟩
        · obtain ⟨_,_,_,_,o,_,_,e,ex,_⟩:=I.hok p _ hk
          exact ⟨o,e,ex⟩
        · obtain ⟨_,_,_,_,o,_,_,e,ex,_⟩:=I.hok p _ hk
          exact ⟨o,e,ex⟩
      obtain ⟨o,e,ex⟩:=z
      refine ⟨⟨o,e,ex.1⟩,fun a e2=>?_⟩
      cases e2
      exact ⟨o,e,ex.2.1⟩
    · obtain ⟨o,_,_,_,e,ex,_⟩:=I.hok p _ hk
      refine ⟨⟨o,e,ex.1⟩,fun a e2=>?_⟩
      cases e2
      exact ⟨o,e,ex.2.1⟩
  | _=>exact False.elim ty
def tBM (K:PySem.W.Frag)(T:String)(r:V→List V→Hp→VK→Prop)(to:TE)(t:TA):TE:=fun σ H Q=>to σ H fun x H1=>tyV K T x H1∧t σ H1 fun xs H2=>r x xs H2 Q
variable {o e:Expr}{es:List Expr}{to:TE}{t:TA}{name:Str}{apos cpos:Pos}{T id:String}{r:V→List V→Hp→VK→Prop}
theorem pe_bm (pa:PlainAttrs T) (slot:Slot T name id) (hty:typeOf (.builtin id)=pure (.type "method_descriptor")) (hm:MtR X id r) (ho:PE X o to) (ha:PA X (e :: es) t)
    (hbase:attributeBase o name X.env (eval o X.env)=eval o X.env:=by rfl)
    (hfew:((backTo cpos (starEach (e :: es) X.env)).all (fun x=>!x.1) && (backToKw cpos (keywordEach [] X.env)).all (fun x=>x.1.isSome)
      && decide ((e :: es).length + ([]:List Keyword).length + (if ([]:List Keyword).isEmpty then 0 else 1) < 30))=true:=by rfl)
    (hline:(apos.endLine == cpos.line)=true:=by rfl) (hs:starEach (e :: es) X.env=(false,eval e X.env) :: starEach es X.env:=by rfl) (hplain:(backTo cpos (starEach es X.env)).any (·.1)=false:=by rfl) :
    PE X (.Call (.Attribute o name apos) (e :: es) [] cpos) (tBM X.K T r to t):=by
  intro pins s σ H Q I h
  refine wpAny_Call_method_late hbase hfew hline rfl (thn (ho pins s σ H _ I h) fun v s1 ⟨x,H1,I1,r1,ty,q1⟩=>?_)
  obtain ⟨h1,h2⟩:=tyV_is I1 r1 ty
  refine ⟨T,id,pa,slot,hty,h1,h2,?_⟩
  have hA:=ha cpos pins s1 σ H1 _ I1 q1
  rw [hs] at hA ⊢
  refine Calls.callWith_builtin (by show (false || (backTo cpos (starEach es X.env)).any (·.1))=false;rw [hplain] <;> rfl) (Calls.evalArgs_plain ?_)
  exact thn hA fun us s2 ⟨vs,H2,I2,r2,q2⟩=>hm pins s2 σ H2 x vs v us Q I2 r1 r2 q2
end
end L2
namespace L2
open PySem PySem.Spec PyProof.Rows
def MtM (X:Cx)(id:String)(r:V→List V→Hp→VK→Prop):Prop :=
  ∀ (pins:List (Addr × Obj)) (s:Shared) (σ:St) (H:Hp) (x:V) (xs:List V) (v:Value) (us:List Value) (Q:VK),Inv X pins σ H s→RelV x v→Vals xs us→r x xs H Q →
    wpAny (model X.prog X.w) X.A (call (.builtin id) (v :: us)) (EP X pins σ Q) X.xe s
theorem Vals.one:∀ {x:V} {us:List Value},Vals [x] us→∃ u,us=[u]∧RelV x u
  | _,_,.cons r .nil=>⟨_,rfl,r⟩
theorem Vals.two:∀ {x y:V} {us:List Value},Vals [x,y] us→∃ u v,us=[u,v]∧RelV x u∧RelV y v
  | _,_,_,.cons r (.cons q .nil)=>⟨_,_,rfl,r,q⟩
theorem Vals.eraseIdx:∀ {xs:List V} {us:List Value} (i:Nat),Vals xs us→Vals (xs.eraseIdx i) (us.eraseIdx i)
  | _,_,_,.nil=>.nil
  | _,_,0,.cons _ t=>t
  | _,_,i + 1,.cons r t=>.cons r (Vals.eraseIdx i t)
theorem len_erase {α:Type}:∀ (l:List α) (i:Nat),(l.eraseIdx i).length ≤ l.length
  | [],_=>Nat.le_refl _
  | _ :: _,0=>Nat.le_succ _
  | _ :: r,i + 1=>Nat.succ_le_succ (len_erase r i)
section
variable {X:Cx}{pins:List (Addr × Obj)}{σ:St}{H:Hp}{s:Shared}{l b:Addr}{xs ys zs:List V}
theorem Inv.lset {its its':List Value}{n:Nat}{f:Array Value→Array Value}{t':Nat}(I:Inv X pins σ H s)(hH:H l=some (.lst xs))
    (e:s.heap.get? l=some { cls:=.type "list",data:=.seq its.toArray n }) (hf:f its.toArray=its'.toArray) (hv:Vals ys its') (hz:ys.length ≤ sizeLine) :
    Inv X pins σ (upd H l (.lst ys)) { s with heap:=s.heap.update l (Obj.mapSeq f),toks:=t' }:=by
  have q:=PySem.IsL.update e f
  rw [hf] at q
  refine I.write (x:=l) (e:=l) (by rw [hH];exact trivial) (.inl rfl) (fun b' u hb hu=>(Heap.get?_update_other s.heap (Obj.mapSeq f) (Ne.symm hb)).trans hu) ⟨_,q⟩ ?_
  exact ⟨hz,its',_,hv,q⟩
theorem Inv.lnew {its:List Value}{t':Nat}(I:Inv X pins σ H s)(hv:Vals ys its)(hz:ys.length ≤ sizeLine) :
    Inv X pins σ (upd H s.heap.objs.size (.lst ys)) { s with heap:=s.heap.push { cls:=.type "list",data:=.seq its.toArray },toks:=t' } :=
  I.laid (fun _ _ q=>Heap.get?_push_of_some _ q) (Nat.le_refl _) ⟨hz,its,0,hv,Heap.get?_push_size _ rfl⟩
theorem Inv.fresh (I:Inv X pins σ H s):H s.heap.objs.size=none:=I.hok.fresh (Nat.le_refl _)
theorem Inv.lstM (I:Inv X pins σ H s) (hH:H l=some (.lst xs)):xs.length ≤ sizeLine∧∃ (its:List Value) (n:Nat),Vals xs its∧xs.length=its.length ∧ s.heap.get? l=some { cls:=.type "list",data:=.seq its.toArray n }:=by
  obtain ⟨z,its,n,r,e⟩:=I.hok l _ hH
  exact ⟨z,its,n,r,r.length,e⟩
theorem notLongL {n:Nat}(h:n≤sizeLine):Builtin.List.listTooLong n=false:=by
  unfold Builtin.List.listTooLong
  exact decide_eq_false (by omega)
end
section
variable {X:Cx}
def rAppend:V→List V→Hp→VK→Prop:=fun x vs H Q=>∃ l xs y,x = .ref l∧vs=[y]∧H l=some (.lst xs)∧xs.length < sizeLine∧Q .non (upd H l (.lst (xs ++ [y])))
theorem mt_append:MtM X "list.append" rAppend:=by
  intro pins s σ H x vs v us Q I rx rv h
  obtain ⟨l,xs,y,rfl,rfl,hH,hz,q⟩:=h
  cases rx
  obtain ⟨u,rfl,ru⟩:=rv.one
  obtain ⟨z,its,n,r,hl,e⟩:=I.lstM hH
  refine call_meets F.slot_list_append ⟨_,e,rfl⟩ F.entry_list_append (F.args_list_append_2 _ _) (PySem.list_append l its.toArray n u (by rw [List.size_toArray];omega)) ⟨e,?_⟩
  refine ⟨.non,_,I.lset (its':=its ++ [u]) hH e (by simp) (r.append (.cons ru .nil)) ?_,rfl,q⟩
  rw [List.length_append,List.length_singleton]
  omega
def rExtend:V→List V→Hp→VK→Prop:=fun x vs H Q=>∃ l b xs zs,x = .ref l∧vs=[.ref b]∧H l=some (.lst xs)∧H b=some (.lst zs)∧xs.length + zs.length ≤ sizeLine∧Q .non (upd H l (.lst (xs ++ zs)))
theorem mt_extend:MtM X "list.extend" rExtend:=by
  intro pins s σ H x vs v us Q I rx rv h
  obtain ⟨l,b,xs,zs,rfl,rfl,hH,hB,hz,q⟩:=h
  cases rx
  obtain ⟨u,rfl,ru⟩:=rv.one
  cases ru
  obtain ⟨z,its,n,r,hl,e⟩:=I.lstM hH
  obtain ⟨z2,its2,n2,r2,hl2,e2⟩:=I.lstM hB
  have hsz:its.toArray.size + its2.toArray.size ≤ sizeLine:=by rw [List.size_toArray,List.size_toArray];omega
  have hlong:¬ (!its.toArray.isEmpty && Builtin.List.listTooLong (its.toArray.size + its2.toArray.size))=true:=by
    rw [notLongL hsz,Bool.and_false]
    exact Bool.false_ne_true
  refine call_meets F.slot_list_extend ⟨_,e,rfl⟩ F.entry_list_extend (F.args_list_extend_2 _ _)
    (AutoSeq1.list_extend_list_list_0 l its.toArray n b its2.toArray n2 hlong (by rw [List.size_toArray];omega) (by omega)) ⟨e,e2,?_⟩
  refine ⟨.non,_,I.lset (its':=its ++ its2) hH e (by simp) (r.append r2) ?_,rfl,q⟩
  rw [List.length_append]
  omega
def rPopAt:V→List V→Hp→VK→Prop:=fun x vs H Q=>∃ l xs i k y,x = .ref l∧vs=[.int i]∧H l=some (.lst xs)∧-(2 ^ 63)≤i∧i < 2 ^ 63∧seqIndex? i xs.length=some k∧xs[k]? = some y∧Q y (upd H l (.lst (xs.eraseIdx k)))
theorem mt_popAt:MtM X "list.pop" rPopAt:=by
  intro pins s σ H x vs v us Q I rx rv h
  obtain ⟨l,xs,i,k,y,rfl,rfl,hH,h1,h2,hk,hy,q⟩:=h
  cases rx
  obtain ⟨u,rfl,ru⟩:=rv.one
  obtain ⟨t,rfl⟩:=ru
  obtain ⟨z,its,n,r,hl,e⟩:=I.lstM hH
  obtain ⟨w,hw,rw'⟩:=r.get hy
  refine call_meets F.slot_list_pop ⟨_,e,rfl⟩ F.entry_list_pop (F.args_list_pop_2 _ _)
    (MeetsSeq.list_pop_at l its.toArray n i t k w (fitsIndex_both h1 h2) (by rw [List.size_toArray,← hl];exact hk) (by rw [← Array.getElem?_toList];exact hw) (by rw [List.size_toArray];omega)) ⟨e,?_⟩
  refine ⟨y,_,I.lset (its':=its.eraseIdx k) hH e ?_ (r.eraseIdx k) ?_,rw',q⟩
  · show its.toArray.eraseIdxIfInBounds k=(its.eraseIdx k).toArray
    rw [List.eraseIdxIfInBounds_toArray]
  · have:=len_erase xs k
    omega
def rCat:R2:=fun x y H Q=>∃ l b xs zs,x = .ref l∧y = .ref b∧H l=some (.lst xs)∧H b=some (.lst zs)∧xs.length + zs.length ≤ sizeLine∧∀ p,H p=none→Q (.ref p) (upd H p (.lst (xs ++ zs)))
theorem op_cat:OpR X (binaryOp .Add) rCat:=by
  intro pins s σ H x y v u Q I rx ry h
  obtain ⟨l,b,xs,zs,rfl,rfl,hH,hB,hz,q⟩:=h
  cases rx
  cases ry
  obtain ⟨z,its,n,r,hl,e⟩:=I.lstM hH
  obtain ⟨z2,its2,n2,r2,hl2,e2⟩:=I.lstM hB
  refine PySem.P.add_list e e2 ?_ (by rw [List.size_toArray,List.size_toArray];omega)
  have ea:its.toArray ++ its2.toArray=(its ++ its2).toArray:=by simp
  rw [ea]
  exact ⟨.ref _,_,I.lnew (t':=s.toks) (r.append r2) (by rw [List.length_append];omega),rfl,q _ I.fresh⟩
end
end L2
namespace Att
open PySem PySem.W PySem.Calls PyProof.Rows
theorem ints_of_wellAll {P:Params}{h:Heap}:∀ (ns:List Int) (vs:List Value),WellAll P h vs (ns.map WData.int)→IntsAre vs ns:=by
  intro ns
  induction ns with
  | nil =>
    intro vs w
    rw [List.map_nil] at w
    cases w
    exact .nil
  | cons n ns ih =>
    intro vs w
    rw [List.map_cons] at w
    cases w with
    | cons a b =>
      cases a
      exact .cons _ _ (ih _ b)
theorem script_of {l:OpenLaw}{n:Nat}(hn:l.most=some n){P:Params}{h:Heap}{args:List WData}{vals:List Value}
    (hpre:l.row.toRowW.claim.pre args=true) (hwl:WellAll P h vals args) :
    ∃ a vs ns,vals=[Value.ref a]∧args=[WData.list (ns.map WData.int)]∧h.get? a=some { cls:=.type "list",data:=.seq vs.toArray }∧IntsAre vs ns∧ns.length ≤ n:=by
  have hsh:WShape.hasAll [] args [.list .int]=true:=(pre_splitW hpre).1
  have hc:l.pre.holds [] { args:=args }=true:=(pre_splitW hpre).2
  obtain ⟨d,r,rfl,h1,h2⟩:=hasAllW_cons hsh
  obtain rfl:=hasAllW_nil h2
  obtain ⟨xs,rfl,h3⟩:=hasW_list h1
  obtain ⟨ns,rfl⟩:=items_int h3
  have hlen:ns.length ≤ n:=by
    unfold OpenLaw.pre at hc
    have h4:(WTm.not (.lt (.lit (.int (n:Int))) (.len (.arg 0)))).holds [] { args:=[.list (ns.map .int)] }=true:=by
      have h4:=(holds_andW hc).1
      rw [hn] at h4
      exact h4
    have h5:=condW_of h4 (w_not (w_lt w_lit (w_len_list (w_arg rfl))))
    rw [List.length_map] at h5
    refine Nat.le_of_not_lt fun q=>?_
    have q':(n:Int) < ((ns.length:Nat):Int):=by omega
    first
      | (rw [decide_eq_true q'] at h5;exact absurd h5 (by decide))
      | (simp at h5;omega)
  cases hwl with
  | cons w1 w2 =>
    cases w2
    cases w1 with
    | list ho hall=>exact ⟨_,_,ns,rfl,rfl,ho,ints_of_wellAll ns _ hall,hlen⟩
theorem post_true (l:OpenLaw)(args:List WData):l.row.toRowW.claim.post args (.bool true) args=true :=
  postW_of (r:=l.row.toRowW) (X:=(true == true))
    (show WShape.has [] (.bool true) .bool=true by first | rfl | decide | simp [WShape.has,WShape.arms,WShape.armsAll])
    (show (WTm.eq .res (.lit (.bool true))).value [] { args:=args,res:=some (.bool true),after:=args }=some (.bool (true == true)) from w_eq_bool (w_res rfl) w_lit) rfl
theorem attach_call {l:OpenLaw}{n:Nat}{q:Program}{loose:List Str}{XP:(Str→Option Value)→Heap→Prop}{YP:World→Heap→Prop}{d:DefRec}
    (hn:l.most=some n) (hdf:d.params.defaults=[])
    (call:∀ (w:World) (sZ s₁:Shared) (mg mb:Str→Option Value) (fa:Addr) (o:Obj) (pm cd doc:Value) (a:Addr) (vs:List Value) (ns:List Int),
      Ground q loose [] XP w sZ mg mb s₁.heap → YP w s₁.heap →
      s₁.heap.get? fa=some o→o.data = .func (docDef d.name d.params d.body d.scope pm cd doc)→s₁.heap.CodeRec cd d.name → mg d.name=some (.ref fa) →
      s₁.heap.get? a=some { cls:=.type "list",data:=.seq vs.toArray }→IntsAre vs ns→ns.length ≤ n→s₁.gens = #[] →
      codeAny (model l.prog w) callerA (.call (.ref fa) ⟨[.ref a],[]⟩) (fun r s'=>r = .ok (.ret (.bool true))∧OldK s₁.heap s'.heap ∧ s'.os=s₁.os ∧ AllBare s'.gens) s₁) :
    WalkO q loose XP YP l.row.toRowW d [] (fun f vs=>PySem.call f vs):=by
  intro w sZ s₁ mg mb G Y fa o pm cd doc dV kV ho hd hcd hD hmg hg args vals as hpre hlay hrd hwl hlo
  obtain rfl:dV = .none:=Dflts.none hD hdf
  obtain rfl:kV = .none:=Dflts.noKw hD
  obtain ⟨a,vs,ns,rfl,rfl,hobj,hints,hlen⟩:=script_of hn hpre hwl
  refine enter_call (codeAny_mono (call w sZ s₁ mg mb fa o pm cd doc a vs ns G Y ho (fd_plain hd) hcd hmg hobj hints hlen hg) fun r s' hq=>?_)
  obtain ⟨rfl,h2,h3,h4⟩:=hq
  exact ⟨.inl ⟨.bool true,.bool true,[],rfl,fun _=>rfl,.bool true,post_true l _,fun _=>⟨List.Pairwise.nil,fun _ hm=>(nomatch hm)⟩⟩,h2,h3,h4⟩
end Att
namespace L2
open PySem PySem.Spec PyProof.Rows
theorem vals_ints:∀ {vs:List Value} {ns:List Int},IntsAre vs ns→Vals (ns.map V.int) vs
  | _,_,.nil=>.nil
  | _,_,.cons n t h=>.cons ⟨t,rfl⟩ (vals_ints h)
def Only (H:Hp):Prop:=∀ b,H b=none ∨ ∃ o xs,H b=some (.frz o (.lst xs))
theorem law_call {P:Program}{w:World}{K:PySem.W.Frag}{mg mb:Str→Option Value}{CX:CXT}{k:Nat}{fa a:Addr}{fd:FuncData}{x:Str}{sp:Sp}{s₁:Shared}{vs:List Value}{ns:List Int}
    (KX:K.In s₁.heap) (hns:s₁.heap.Ns mainGlobals mg) (hb:s₁.heap.Ns builtinsNs mb) (hbb:∀ x:Str,x ≠ "__name__"→mb x=bootBuiltins x) (hlim:s₁.heap.NoLimit) (hg:s₁.gens = #[])
    (ha:s₁.heap.get? a=some { cls:=.type "list",data:=.seq vs.toArray }) (hi:IntsAre vs ns) (hl:ns.length ≤ sizeLine) (hr:Room k callerA)
    (F:∀ base:Heap,K.In base→base.Ns mainGlobals mg→FnOk P w K mg base CX k fa fd [x] sp) (hbind:∀ (s:Shared) (u:Value),BindsTo s fd ⟨[u],[]⟩ [(x,u)])
    (hsp:∀ H:Hp,Only H→SqL K H a (ns.map V.int)→sp [.ref a] H (fun v _=>v = .bl true) fun _ _ _=>False)
    (hCX:∀ H e s',CX [] H s₁ (fun _ _ _=>False) e s'→False) :
    codeAny (model P w) callerA (.call (.ref fa) ⟨[.ref a],[]⟩) (fun r s'=>r = .ok (.ret (.bool true))∧OldK s₁.heap s'.heap ∧ s'.os=s₁.os ∧ AllBare s'.gens) s₁:=by
  have rv:=vals_ints hi
  have lenV:=hi.length
  have core:∀ H:Hp,Only H→SqL K H a (ns.map V.int)→HOk P w H s₁.heap → (∀ b,H b≠none→b=a)→(H a≠none→K.lookup a=none) →
      codeAny (model P w) callerA (.call (.ref fa) ⟨[.ref a],[]⟩) (fun r s'=>r = .ok (.ret (.bool true))∧OldK s₁.heap s'.heap ∧ s'.os=s₁.os ∧ AllBare s'.gens) s₁:=by
    intro H hO hS hok hA hK
    have base_of:∀ {b:Addr} {o:Obj},s₁.heap.get? b=some o→H b=none→(hidT s₁.heap H).get? b=some o:=fun e n=>hidT_get e n
    have noA:∀ {b:Addr} {o:Obj} {es:Array DictEntry} {ep:Nat},s₁.heap.get? b=some o→o.data = .dict es ep→H b=none:=fun {b o es ep} e d=>by
      cases q:H b with
      | none=>rfl
      | some u =>
        have e':b=a:=hA b (by rw [q];simp)
        subst e'
        rw [ha] at e;cases e
        have d':Data.seq vs.toArray _=Data.dict es ep:=d
        cases d'
    have nsK:∀ {b:Addr} {m:Str→Option Value},s₁.heap.Ns b m→(hidT s₁.heap H).Ns b m:=fun {b m} ⟨o,es,ep,e,d,r⟩=>⟨o,es,ep,base_of e (noA e d),d,r⟩
    have hKb:K.In (hidT s₁.heap H):=fun b o e=>base_of (KX b o e) (by
      cases q:H b with
      | none=>rfl
      | some u =>
        have e':b=a:=hA b (by rw [q];simp)
        subst e'
        rw [hK (by rw [q];simp)] at e;cases e)
    have hM:Mod K mg (hidT s₁.heap H):=⟨hKb,nsK hns,⟨mb,nsK hb,hbb⟩,let ⟨mc,h1,h2⟩:=hlim;⟨mc,nsK h1,h2⟩⟩
    have e0:Env0 P w K mg (hidT s₁.heap H) callerA [] s₁ H:=⟨rfl,hM,fun b o e=>of_hidT e,Nat.le_of_eq (hidT_size _ _),trivial,fun b hb=>absurd (show b∈([]:List Addr) from hb) (by simp),hok,.of_eq hg⟩
    refine codeAny_mono ((F _ hKb (nsK hns)).run callerA [] s₁ H ⟨[.ref a],[]⟩ [.ref a] [.ref a] _ _ hr e0 (hbind s₁ (.ref a)) (.cons rfl .nil) (hsp H hO hS)) fun r s' h=>?_
    cases r with
    | error e=>exact (hCX H e s' h).elim
    | ok fl =>
      cases fl with
      | next=>exact False.elim h
      | brk=>exact False.elim h
      | cont=>exact False.elim h
      | ret u =>
        obtain ⟨v,H',os,bare,un,hok',r',q⟩:=h
        have q':v = .bl true:=q
        subst q'
        obtain rfl:u=Value.bool true:=r'
        refine ⟨rfl,OldK.of_keep fun b o e=>?_,os,bare⟩
        cases q:H b with
        | none=>exact un.keep b o e q (by intro z;exact absurd (show b∈([]:List Addr) from z) (by simp)) (by simp)
        | some u =>
          rcases hO b with z | ⟨ob,xs,z⟩
          · rw [q] at z;cases z
          · have z2:=un.frzs b ob _ z
            obtain ⟨e1,_⟩:=hok b _ z
            obtain ⟨e2,_⟩:=hok' b _ z2
            rw [e] at e1;cases e1
            exact e2
  cases hk:K.lookup a with
  | some o =>
    have e:=KX a o hk
    rw [ha] at e
    cases e
    refine core (fun _=>none) (fun _=>.inl rfl) (.inr ⟨_,vs.toArray,_,hk,rfl,rfl,rfl,by rw [List.size_toArray,lenV];exact hl,by simpa using rv⟩) (fun b u z=>by have z':(none:Option HO)=some u:=z;cases z') (fun b z=>absurd rfl z) fun z=>absurd rfl z
  | none =>
    refine core (fun b=>if b=a then some (.frz { cls:=.type "list",data:=.seq vs.toArray } (.lst (ns.map V.int))) else none) (fun b=>?_) (.inl (.inr ⟨{ cls:=.type "list",data:=.seq vs.toArray },if_pos rfl⟩)) (fun b u z=>?_) (fun b z=>?_) fun _=>hk
    · by_cases hb:b=a
      · exact .inr ⟨_,_,if_pos hb⟩
      · exact .inl (if_neg hb)
    · by_cases hb:b=a
      · have z':=(if_pos hb).symm.trans z
        cases z'
        subst hb
        exact ⟨ha,by rw [List.length_map];exact hl,vs,_,rv,ha⟩
      · have z':=(if_neg hb).symm.trans z
        cases z'
    · by_cases hb:b=a
      · exact hb
      · exact absurd (if_neg hb) z
end L2
namespace L2
open PySem PySem.Spec PyProof.Rows
abbrev KOf {K:PySem.W.Frag}{h:Heap}(_:K.In h):PySem.W.Frag:=K
theorem walk_of {l:PySem.W.OpenLaw}{n k:Nat}{q:Program}{loose:List Str}{XP:(Str→Option Value)→Heap→Prop}{YP:World→Heap→Prop}{d:DefRec}{K:Params→PySem.W.Frag}{CX:World→CXT}{sp:World→Sp}{x:Str}
    (hn:l.most=some n) (hn2:n≤sizeLine) (hdf:d.params.defaults=[]) (hr:Room k callerA)
    (hY:∀ (w:World) (h:Heap),YP w h→(K w.params).In h)
    (F:∀ (w:World) (mg:Str→Option Value) (fa:Addr) (h:Heap),(K w.params).In h→h.Ns mainGlobals mg→mg d.name=some (.ref fa) →
      ∃ fd:FuncData,(∀ (s:Shared) (u:Value),BindsTo s fd ⟨[u],[]⟩ [(x,u)]) ∧
        ∀ base:Heap,(K w.params).In base→base.Ns mainGlobals mg→FnOk l.prog w (K w.params) mg base (CX w) k fa fd [x] (sp w))
    (hsp:∀ (w:World) (H:Hp) (a:Addr) (ns:List Int),ns.length ≤ n→Only H→SqL (K w.params) H a (ns.map V.int)→sp w [.ref a] H (fun v _=>v = .bl true) fun _ _ _=>False)
    (hCX:∀ (w:World) (H:Hp) (s:Shared) (e:Value) (s':Shared),CX w [] H s (fun _ _ _=>False) e s'→False) :
    PySem.W.WalkO q loose XP YP l.row.toRowW d [] (fun f vs=>PySem.call f vs):=by
  refine Att.attach_call hn hdf fun w sZ s₁ mg mb fa o pm cd doc a vs ns G Y ho hd hcd hmg hobj hints hlen hg=>?_
  have KX:=hY w _ Y
  obtain ⟨fd,hb,hF⟩:=F w mg fa _ KX G.T.g hmg
  exact law_call KX G.T.g G.T.b G.T.builtins G.T.nolimit hg hobj hints (Nat.le_trans hlen hn2) hr hF hb (fun H hO hS=>hsp w H a ns hlen hO hS) fun H e s'=>hCX w H s₁ e s'
end L2
namespace L2
open PySem PySem.Spec PyProof.Rows
def inClass (s:Stmt)(j:Nat):Stmt:=match s with
  | .ClassDef _ _ _ body _ _ _ _ _ _ _=>body.getD j (.Pass ⟨0,0,0,0⟩)
  | _=>.Pass ⟨0,0,0,0⟩
def defArgs (s:Stmt):Arguments:=match s with
  | .FunctionDef _ a _ _ _ _ _ _ _ _=>a
  | _=>{ posonlyargs:=[],args:=[],vararg:=none,kwonlyargs:=[],kw_defaults:=[],kwarg:=none,defaults:=[] }
def defBody (s:Stmt):List Stmt:=match s with
  | .FunctionDef _ _ b _ _ _ _ _ _ _=>b
  | _=>[]
def defScope (s:Stmt):Scope:=match s with
  | .FunctionDef _ _ _ _ _ _ sc _ _ _=>sc
  | _=>{ kind:=.function,names:=[],isGenerator:=false,isCoroutine:=false }
abbrev CX0:CXT:=fun _ _ _ _ _ _=>False
abbrev E0:XK:=fun _ _ _=>False
theorem pass0 {X:Cx}:Passes CX0 X E0:=fun _ _ _ _ _ _ _ h=>h.elim
structure Fun (K:PySem.W.Frag)(x qual:Str)(st:Stmt)(f:Addr)(fd:FuncData):Prop where
  ex:∃ (oc:Value) (od:Option Addr) (kV doc pm:Value) (an:Option Addr) (cdv ct:Value) (osl:Array (Option Value)),
    fd=PySem.W.fnOf x qual (defArgs st) (defBody st) (defScope st) .none kV doc pm an cdv ct∧K.lookup f=some ⟨oc,od,.func fd,osl⟩∧PySem.W.codeIn K cdv qual=true
  kp:PySem.W.keepIn K (.ref f)=true
section
variable {P:Program}{w:World}{K:PySem.W.Frag}{mg:Str→Option Value}{base:Heap}
theorem Fun.ok {x qual:Str}{st:Stmt}{f:Addr}{fd:FuncData}{N ps:List Str}{k:Nat}{sp:Sp}(F:Fun K x qual st f fd)(S:FnScope N ps (defScope st))(len:∀ vs H Q E,sp vs H Q E→vs.length=ps.length)
    (hbody:∀ (cdv:Value) (A:Around) (outer:List Env) (s:Shared) (H:Hp) (vs:List V) (Q:VK) (E:XK),Room k (A.deeper (envOfC qual (defScope st) s.heap.objs.size f cdv))→sp vs H Q E →
      ∃ t,PSs (cxOf CX0 P w K mg base N qual (defScope st) f cdv A outer s H E).nox (defBody st) t∧t { nx:=fun _ H'=>Q .non H',rt:=Q } (start N vs) H):FnOk P w K mg base CX0 (k + 1) f fd ps sp:=by
  obtain ⟨oc,od,kV,doc,pm,an,cdv,ct,osl,rfl,lk,hcd⟩:=F.ex
  refine fn_of lk hcd S len fun A outer s H vs Q E hr hsp=>?_
  obtain ⟨t,h,q⟩:=hbody cdv A outer s H vs Q E hr hsp
  exact ⟨t,h.nox,q⟩
theorem Fun.binds {x qual:Str}{st:Stmt}{f:Addr}{fd:FuncData}{ps:List Str}(F:Fun K x qual st f fd)
    (h:∀ (kV doc pm:Value) (an:Option Addr) (cdv ct:Value) (us:List Value),us.length=ps.length → bindArgs (PySem.W.fnOf x qual (defArgs st) (defBody st) (defScope st) .none kV doc pm an cdv ct) ⟨us,[]⟩=pure (ps.zip us)):Binds K fd ps []:=by
  obtain ⟨oc,od,kV,doc,pm,an,cdv,ct,osl,rfl,lk,hcd⟩:=F.ex
  exact .all (h kV doc pm an cdv ct)
theorem fun_mk {x qual:Str}{st:Stmt}{f:Addr}{oc:Value}{od an:Option Addr}{osl:Array (Option Value)}{kV doc pm cdv ct:Value}(l:K.lookup f=some ⟨oc,od,.func (PySem.W.fnOf x qual (defArgs st) (defBody st) (defScope st) .none kV doc pm an cdv ct),osl⟩)
    (c:PySem.W.codeIn K cdv qual=true) (k:PySem.W.keepIn K (.ref f)=true):Fun K x qual st f (PySem.W.fnOf x qual (defArgs st) (defBody st) (defScope st) .none kV doc pm an cdv ct):=⟨⟨oc,od,kV,doc,pm,an,cdv,ct,osl,rfl,l,c⟩,k⟩
end
section
variable {X:Cx}
theorem pv (i:Nat) {x:Str} {pos:Pos} (hN:X.N[i]? = some x:=by rfl) (hv:Vis X.env.scope x:=by first | exact Or.inl rfl | exact Or.inr (Or.inl rfl) | exact Or.inr (Or.inr rfl)) (hd:(x == ("__debug__" : Str))=false:=by decide)
    (hcd:(x == ("__classdict__" : Str))=false:=by decide):PE X (.Name x pos) (tVar i):=pe_var hN hv hd hcd
end
theorem iteF {A B:Prop}(h:B):if false=true then A else B:=by
  rw [if_neg Bool.false_ne_true]
  exact h
theorem iteT {A B:Prop}(h:A):if true=true then A else B:=by
  rw [if_pos rfl]
  exact h
theorem ite2 {c A B:Prop}[Decidable c](h1:c→A)(h2:¬ c→B):if c then A else B:=by
  by_cases h:c
  · rw [if_pos h]
    exact h1 h
  · rw [if_neg h]
    exact h2 h
def Same (H H':Hp):Prop:=∀ b o,H b=some o→H' b=some o
theorem Same.refl (H:Hp):Same H H:=fun _ _ h=>h
theorem Same.trans {H H1 H2:Hp}(a:Same H H1)(b:Same H1 H2):Same H H2:=fun c o h=>b c o (a c o h)
theorem Same.free {H H':Hp}(e:Same H H'){l:Addr}(h:H' l=Option.none):H l=Option.none:=by
  cases q:H l with
  | none=>rfl
  | some o =>
    rw [e l o q] at h
    cases h
theorem Same.seq {K:PySem.W.Frag}{H H':Hp}{a:Addr}{xs:List V}(e:Same H H')(h:SqL K H a xs):SqL K H' a xs:=by
  rcases h with (h | ⟨o,h⟩) | h
  · exact .inl (.inl (e _ _ h))
  · exact .inl (.inr ⟨o,e _ _ h⟩)
  · exact .inr h
end L2
namespace L2
open PySem PySem.Spec PyProof.Rows
def clOf (cells:List (Str × Addr)):List (Str × NameKind)→List (Str × Addr)→List (Str × Addr)
  | [],acc=>acc
  | (n,k) :: r,acc=>if k == .free then (match cells.lookup n with | some a=>clOf cells r ((n,a) :: acc) | none=>clOf cells r acc) else clOf cells r acc
theorem clOf_for {env:Env}(f:Str × NameKind→List (Str × Addr)→Sem (ForInStep (List (Str × Addr))))
    (hf:∀ n k cs,f (n,k) cs=if k == .free then (do let a ← cellOf env n;pure (.yield ((n,a) :: cs))) else pure (.yield cs)) :
    ∀ (names:List (Str × NameKind)) (acc:List (Str × Addr)),(∀ y∈names,y.2 = .free → ∃ c,env.cells.lookup y.1=some c)→forIn names acc f=pure (clOf env.cells names acc)
  | [],acc,_=>by rw [List.forIn_nil];rfl
  | (n,k) :: r,acc,h=>by
    have hr:∀ y∈r,y.2 = .free → ∃ c,env.cells.lookup y.1=some c:=fun y hy=>h y (List.mem_cons_of_mem _ hy)
    rw [List.forIn_cons,hf]
    unfold clOf
    by_cases hk:k = .free
    · subst hk
      obtain ⟨c,hc⟩:=h (n,.free) List.mem_cons_self rfl
      have hc':env.cells.lookup n=some c:=hc
      have e1:cellOf env n=pure c:=by unfold cellOf;rw [hc']
      have ef:(NameKind.free == NameKind.free)=true:=rfl
      rw [if_pos ef,if_pos ef,e1,hc']
      exact clOf_for f hf r ((n,c) :: acc) hr
    · have hb:(k == NameKind.free)=false:=by simpa using hk
      rw [hb,if_neg Bool.false_ne_true,if_neg Bool.false_ne_true]
      exact clOf_for f hf r acc hr
theorem closureFor_cl {scope:Scope}{env:Env}(h:∀ y∈scope.names,y.2 = .free → ∃ c,env.cells.lookup y.1=some c):closureFor scope env=pure (clOf env.cells scope.names []):=by
  have e:=clOf_for (env:=env) (fun x cs=>match x with | (n,k)=>if k == .free then (do let a ← cellOf env n;pure (.yield ((n,a) :: cs))) else pure (.yield cs)) (fun _ _ _=>rfl) scope.names [] h
  show (forIn scope.names [] _ >>= fun cs=>pure cs)=_
  refine Eq.trans (congrArg (· >>= fun cs=>pure cs) (Eq.trans ?_ e)) rfl
  refine congrArg _ (funext fun x=>funext fun cs=>?_)
  obtain ⟨n,k⟩:=x
  cases hk:k == NameKind.free <;> simp [hk]
theorem lookup_clOf {cells:List (Str × Addr)}:∀ {names:List (Str × NameKind)} {acc:List (Str × Addr)},(∀ n c,acc.lookup n=some c→cells.lookup n=some c)→∀ n c,(clOf cells names acc).lookup n=some c→cells.lookup n=some c
  | [],_,h,n,c,e=>h n c e
  | (m,k) :: r,acc,h,n,c,e=>by
    unfold clOf at e
    split at e
    · split at e
      · rename_i a ha
        refine lookup_clOf (names:=r) (acc:=(m,a) :: acc) (fun x d q=>?_) n c e
        rw [List.lookup_cons] at q
        cases hb:x == m with
        | true=>rw [hb] at q;cases q;rw [beq_iff_eq.mp hb];exact ha
        | false=>rw [hb] at q;exact h x d q
      · exact lookup_clOf (names:=r) h n c e
    · exact lookup_clOf (names:=r) h n c e
theorem clOf_acc {cells:List (Str × Addr)}{n:Str}:∀ {names:List (Str × NameKind)} {acc:List (Str × Addr)},(∃ c,acc.lookup n=some c)→∃ c,(clOf cells names acc).lookup n=some c
  | [],_,h=>h
  | (m,k) :: r,acc,h=>by
    unfold clOf
    split
    · split
      · rename_i a ha
        refine clOf_acc (names:=r) ?_
        rw [List.lookup_cons]
        cases hb:n == m with
        | true=>exact ⟨a,rfl⟩
        | false=>exact h
      · exact clOf_acc (names:=r) h
    · exact clOf_acc (names:=r) h
theorem clOf_has {cells:List (Str × Addr)}{n:Str}{c:Addr}(hc:cells.lookup n=some c):∀ {names:List (Str × NameKind)} {acc:List (Str × Addr)},(n,NameKind.free)∈names→∃ d,(clOf cells names acc).lookup n=some d
  | (m,k) :: r,acc,h=>by
    unfold clOf
    rcases List.mem_cons.mp h with e | h
    · cases e
      rw [if_pos (show (NameKind.free == NameKind.free)=true from rfl),hc]
      exact clOf_acc (names:=r) ⟨c,by rw [List.lookup_cons,beq_self_eq_true]⟩
    · split
      · split
        · exact clOf_has hc h
        · exact clOf_has hc h
      · exact clOf_has hc h
theorem cellsFrom_not {y:Str}:∀ {names:List (Str × NameKind)} {n:Nat} {acc:List (Str × Addr)},(∀ p∈names,p.2 = .cell → p.1 ≠ y)→(cellsFrom n names acc).lookup y=acc.lookup y
  | [],_,_,_=>rfl
  | (m,k) :: r,n,acc,h=>by
    have hr:∀ p∈r,p.2 = .cell → p.1 ≠ y:=fun p hp=>h p (List.mem_cons_of_mem _ hp)
    unfold cellsFrom
    by_cases hk:k = .cell
    · subst hk
      rw [if_pos (show (NameKind.cell == NameKind.cell)=true from rfl),cellsFrom_not hr,List.lookup_cons]
      have:(y == m)=false:=by simpa using Ne.symm (h (m,.cell) List.mem_cons_self rfl)
      rw [this]
    · rw [if_neg (by simpa using hk)]
      exact cellsFrom_not hr
theorem cellsFrom_new:∀ {names:List (Str × NameKind)} {h:Heap} {acc:List (Str × Addr)} {y:Str} {c:Addr},(cellsFrom h.objs.size names acc).lookup y=some c →
    (h.objs.size ≤ c∧(pushCells h names).IsCell c none) ∨ acc.lookup y=some c
  | [],_,_,_,_,e=>.inr e
  | (m,k) :: r,h,acc,y,c,e=>by
    unfold cellsFrom at e
    unfold pushCells
    by_cases hk:(k == NameKind.cell)=true
    · rw [if_pos hk] at e ⊢
      have e':(cellsFrom (h.push { cls:=.type "cell",data:=.cell none }).objs.size r ((m,h.objs.size) :: acc)).lookup y=some c:=by rw [Heap.size_push];exact e
      rcases cellsFrom_new e' with ⟨q1,q2⟩ | q
      · rw [Heap.size_push] at q1
        exact .inl ⟨Nat.le_of_succ_le q1,q2⟩
      · rw [List.lookup_cons] at q
        cases hb:y == m with
        | true =>
          rw [hb] at q;cases q
          exact .inl ⟨Nat.le_refl _,Heap.IsCell.keeps ⟨_,Heap.get?_push_size _ rfl,rfl⟩ (pushCells_keeps _ _)⟩
        | false=>rw [hb] at q;exact .inr q
    · rw [if_neg hk] at e ⊢
      exact cellsFrom_new e
theorem cellsFrom_inj:∀ {names:List (Str × NameKind)} {n:Nat} {acc:List (Str × Addr)},(∀ x y c,acc.lookup x=some c→acc.lookup y=some c→x=y)→(∀ x c,acc.lookup x=some c→c < n) →
    ∀ x y c,(cellsFrom n names acc).lookup x=some c→(cellsFrom n names acc).lookup y=some c→x=y
  | [],_,_,h,_=>h
  | (m,k) :: r,n,acc,h,lt=>by
    unfold cellsFrom
    by_cases hk:(k == NameKind.cell)=true
    · rw [if_pos hk]
      have one:∀ x c,((m,n) :: acc).lookup x=some c→(x=m∧c=n) ∨ acc.lookup x=some c:=fun x c e=>by
        rw [List.lookup_cons] at e
        cases hb:x == m with
        | true=>rw [hb] at e;cases e;exact .inl ⟨beq_iff_eq.mp hb,rfl⟩
        | false=>rw [hb] at e;exact .inr e
      refine cellsFrom_inj (fun x y c ex ey=>?_) fun x c e=>?_
      · rcases one x c ex with ⟨a1,a2⟩ | a <;> rcases one y c ey with ⟨b1,b2⟩ | b
        · rw [a1,b1]
        · exact absurd (lt y c b) (by rw [a2];exact Nat.lt_irrefl _)
        · exact absurd (lt x c a) (by rw [b2];exact Nat.lt_irrefl _)
        · exact h x y c a b
      · rcases one x c e with ⟨_,a2⟩ | a
        · rw [a2];exact Nat.lt_succ_self _
        · exact Nat.lt_succ_of_lt (lt x c a)
    · rw [if_neg hk]
      exact cellsFrom_inj h lt
theorem cellsFrom_acc {y:Str}:∀ {names:List (Str × NameKind)} {n:Nat} {acc:List (Str × Addr)},(∃ c,acc.lookup y=some c)→∃ c,(cellsFrom n names acc).lookup y=some c
  | [],_,_,h=>h
  | (m,k) :: r,n,acc,h=>by
    unfold cellsFrom
    split
    · refine cellsFrom_acc ?_
      rw [List.lookup_cons]
      cases y == m with
      | true=>exact ⟨_,rfl⟩
      | false=>exact h
    · exact cellsFrom_acc h
theorem cellsFrom_has {y:Str}:∀ {names:List (Str × NameKind)} {n:Nat} {acc:List (Str × Addr)},(y,NameKind.cell)∈names→∃ c,(cellsFrom n names acc).lookup y=some c
  | (m,k) :: r,n,acc,h=>by
    unfold cellsFrom
    rcases List.mem_cons.mp h with e | h
    · cases e
      rw [if_pos (show (NameKind.cell == NameKind.cell)=true from rfl)]
      exact cellsFrom_acc ⟨n,by rw [List.lookup_cons,beq_self_eq_true]⟩
    · split
      · exact cellsFrom_has h
      · exact cellsFrom_has h
theorem cellsFrom_ge {y:Str}{lo:Nat}:∀ {names:List (Str × NameKind)} {n:Nat} {acc:List (Str × Addr)} {c:Addr},lo≤n→((y,NameKind.cell)∈names ∨ ∀ d,acc.lookup y=some d→lo≤d)→(cellsFrom n names acc).lookup y=some c→lo≤c
  | [],n,acc,c,hn,h,e=>h.elim (fun z=>nomatch z) fun z=>z c e
  | (m,k) :: r,n,acc,c,hn,h,e=>by
    unfold cellsFrom at e
    by_cases hk:(k == NameKind.cell)=true
    · rw [if_pos hk] at e
      have k':k = .cell:=beq_iff_eq.mp hk
      subst k'
      refine cellsFrom_ge (names:=r) (Nat.le_succ_of_le hn) ?_ e
      by_cases hm:(y,NameKind.cell)∈r
      · exact .inl hm
      · refine .inr fun d q=>?_
        rw [List.lookup_cons] at q
        cases hb:y == m with
        | true=>rw [hb] at q;cases q;exact hn
        | false =>
          rw [hb] at q
          rcases h with z | z
          · rcases List.mem_cons.mp z with z | z
            · cases z;simp at hb
            · exact absurd z hm
          · exact z d q
    · rw [if_neg hk] at e
      refine cellsFrom_ge (names:=r) hn ?_ e
      rcases h with z | z
      · rcases List.mem_cons.mp z with z | z
        · cases z;exact absurd rfl hk
        · exact .inl z
      · exact .inr z
section
variable {M:Model}{A:Around}{E:Value→Shared→Prop}{s:Shared}
theorem newCompEnv {scope:Scope}{globals:Addr}{cl:List (Str × Addr)}{qual:Str}{env:Env}{Q:Env→Shared→Prop}
    (h:Q { scope:=scope,locals:=s.heap.objs.size,globals:=globals,cells:=cellsFrom (s.heap.objs.size + 1) scope.names cl,qual:=qual,func:=none,code:=env.code,frame:=env.frame,builtins:=env.builtins }
      { s with heap:=pushCells (s.heap.push { cls:=.type "dict",data:=.dict #[] }) scope.names }) :
    wpAny M A (newFunctionEnv scope globals cl [] qual none .none (some env)) Q E s:=by
  simp only [newFunctionEnv,Option.isSome_some,if_true]
  refine wpAny_bind (wpAny_alloc ?_)
  refine wpAny_bind (wpAny_layCells _ (fun name kind cells=>by cases hkc:kind == NameKind.cell <;> simp [hkc]) _ _ _ _ ?_)
  rw [show ({ s with heap:=s.heap.push { cls:=.type "dict",data:=.dict #[] } }:Shared).heap.objs.size=s.heap.objs.size + 1 from Heap.size_push ..]
  refine wpAny_bind ?_
  rw [List.forIn_nil]
  exact wpAny_pure (wpAny_pure h)
end
theorem kindOf_relabel {env:Env}:∀ (names:List (Str × NameKind)) (x:Str),
    (names.map fun (n,k)=>if (k == NameKind.free && env.scope.kind == .function && env.kindOf n == some .cell) then (n,NameKind.cell) else (n,k)).lookup x =
      (names.lookup x).map fun k=>if (k == NameKind.free && env.scope.kind == .function && env.kindOf x == some .cell) then NameKind.cell else k
  | [],_=>rfl
  | (n,k) :: r,x=>by
    rw [List.map_cons]
    show List.lookup x ((if (k == NameKind.free && env.scope.kind == .function && env.kindOf n == some .cell)=true then (n,NameKind.cell) else (n,k)) :: _)=_
    cases hx:x == n with
    | true =>
      have e:=beq_iff_eq.mp hx
      subst e
      by_cases hc:(k == NameKind.free && env.scope.kind == .function && env.kindOf x == some .cell)=true
      · rw [if_pos hc,List.lookup_cons,List.lookup_cons,beq_self_eq_true]
        show _=some (if (k == NameKind.free && env.scope.kind == .function && env.kindOf x == some .cell)=true then NameKind.cell else k)
        rw [if_pos hc]
      · rw [if_neg hc,List.lookup_cons,List.lookup_cons,beq_self_eq_true]
        show _=some (if (k == NameKind.free && env.scope.kind == .function && env.kindOf x == some .cell)=true then NameKind.cell else k)
        rw [if_neg hc]
    | false =>
      have ih:=kindOf_relabel (env:=env) r x
      by_cases hc:(k == NameKind.free && env.scope.kind == .function && env.kindOf n == some .cell)=true
      · rw [if_pos hc,List.lookup_cons,List.lookup_cons,hx];exact ih
      · rw [if_neg hc,List.lookup_cons,List.lookup_cons,hx];exact ih
def sel (idx:List Nat)(σ:St):St:=idx.map fun j=>(σ[j]?).join
def Cx.comp (X:Cx)(scope:Scope)(cells:List (Str × Addr))(C:Addr)(N':List Str)(s2:Shared)(H2:Hp)(fp:List Addr):Cx where
  prog:=X.prog
  w:=X.w
  K:=X.K
  mg:=X.mg
  base:=X.base
  A:=X.A
  N:=N'
  sZ:=s2
  HZ:=H2
  env:=compEnvC scope cells C X.env
  outer:=X.stack
  stack:=X.stack
  ex:=fp
  fn:=fun y=>scope.names.lookup y == some .cell
  calm:=X.calm
  pn:=[]
  xe:=fun _ _=>False
structure CompOk (X:Cx)(scope:Scope)(M:List Str)(idx:List Nat):Prop where
  kind:scope.kind = .function
  loc:∀ y∈scope.names,y.2 = .local → scope.names.lookup y.1=some .local
  cel:∀ y∈scope.names,y.2 = .cell → scope.names.lookup y.1=some .cell
  fre:∀ y∈scope.names,y.2 = .free → X.env.kindOf y.1=some .cell ∨ X.env.kindOf y.1=some .free
  len:idx.length=M.length
  cap:∀ (j:Nat) (y:Str),M[j]? = some y→scope.names.lookup y=some .free ∧ ∃ k,idx[j]? = some k∧X.N[k]? = some y
theorem sel_get {idx:List Nat}{σ:St}{j:Nat}{v:V}(h:(sel idx σ)[j]? = some (some v)):∃ k,idx[j]? = some k∧σ[k]? = some (some v):=by
  unfold sel at h
  rw [List.getElem?_map] at h
  cases e:idx[j]? with
  | none=>rw [e] at h;cases h
  | some k =>
    rw [e] at h
    refine ⟨k,rfl,?_⟩
    have h':(σ[k]?).join=some v:=Option.some.inj h
    cases q:σ[k]? with
    | none=>rw [q] at h';cases h'
    | some o =>
      rw [q] at h'
      have h'':o=some v:=h'
      rw [h'']
section
variable {X:Cx}{pins:List (Addr × Obj)}{σ:St}{H:Hp}{s:Shared}
theorem comp_start {scope:Scope}{M:List Str}{idx:List Nat}{fp:List Addr}{x:Str}(ok:CompOk X scope M idx)(hc:X.calm=true)(I:Inv X pins σ H s)(hf:∀ b∈fp,FpOk X pins H b)
    (ho:∀ b∈fp,∃ o,s.heap.get? b=some o) :
    Inv (X.comp scope (cellsFrom (s.heap.objs.size + 2) scope.names (clOf X.env.cells scope.names [])) (s.heap.objs.size + 1) (x :: M) s H fp) [] (none :: sel idx σ) H
      { s with heap:=pushCells ((s.heap.push { cls:=.type "list",dict:=none,data:=.seq ([]:List Value).toArray }).push { cls:=.type "dict",data:=.dict #[] }) scope.names }:=by
  have sz2:((s.heap.push { cls:=.type "list",dict:=none,data:=.seq ([]:List Value).toArray }).push { cls:=.type "dict",data:=.dict #[] }).objs.size=s.heap.objs.size + 2:=by rw [Heap.size_push,Heap.size_push]
  have keep:∀ b o,s.heap.get? b=some o→(pushCells ((s.heap.push { cls:=.type "list",dict:=none,data:=.seq ([]:List Value).toArray }).push { cls:=.type "dict",data:=.dict #[] }) scope.names).get? b=some o :=
    fun b o e=>pushCells_keeps _ _ _ _ (Heap.get?_push_of_some _ (Heap.get?_push_of_some _ e))
  have clLook:∀ n c,(clOf X.env.cells scope.names []).lookup n=some c→X.env.cells.lookup n=some c:=lookup_clOf fun n c e=>by simp at e
  have clLt:∀ n c,(clOf X.env.cells scope.names []).lookup n=some c→c < s.heap.objs.size:=fun n c e=>by
    obtain ⟨v,z⟩:=I.cell n c (clLook n c e)
    exact z.lt
  have look:∀ n c,(cellsFrom (s.heap.objs.size + 2) scope.names (clOf X.env.cells scope.names [])).lookup n=some c →
      (s.heap.objs.size + 2≤c∧(pushCells ((s.heap.push { cls:=.type "list",dict:=none,data:=.seq ([]:List Value).toArray }).push { cls:=.type "dict",data:=.dict #[] }) scope.names).IsCell c none) ∨ X.env.cells.lookup n=some c:=fun n c e=>by
    have e':(cellsFrom ((s.heap.push { cls:=.type "list",dict:=none,data:=.seq ([]:List Value).toArray }).push { cls:=.type "dict",data:=.dict #[] }).objs.size scope.names (clOf X.env.cells scope.names [])).lookup n=some c:=by rw [sz2];exact e
    rcases cellsFrom_new e' with ⟨q1,q2⟩ | q
    · rw [sz2] at q1;exact .inl ⟨q1,q2⟩
    · exact .inr (clLook n c q)
  have fresh:∀ a,s.heap.objs.size ≤ a→H a=none:=fun a h=>I.hok.fresh h
  have fpLt:∀ b∈fp,b < s.heap.objs.size:=fun b hb=>let ⟨_,e⟩:=ho b hb;Heap.lt_size e
  have fpStk:∀ b∈fp,b ∉ frs X.stack:=fun b hb z=>by
    obtain ⟨_,f1,f2,_⟩:=hf b hb
    exact (List.mem_cons.mp (I.stkSub b z)).elim f1 f2
  have hasFree:∀ y∈scope.names,y.2 = .free → ∃ c,X.env.cells.lookup y.1=some c:=fun y hy e=>I.ok.has y.1 (ok.fre y hy e)
  have kindR:∀ y,(compEnvC scope (cellsFrom (s.heap.objs.size + 2) scope.names (clOf X.env.cells scope.names [])) (s.heap.objs.size + 1) X.env).kindOf y =
      (scope.names.lookup y).map fun k=>if (k == NameKind.free && X.env.scope.kind == .function && X.env.kindOf y == some .cell) then NameKind.cell else k:=fun y=>kindOf_relabel scope.names y
  refine ⟨⟨I.ok.mod,ok.kind,I.ok.glob,I.ok.blt,Nat.le_succ _,?_,fun y hy=>?_,fun y c hfn e=>?_,I.ok.hd,I.ok.frames,.inl rfl,fun b hb=>⟨?_,fun y c e=>?_⟩,I.bs,Nat.le_trans I.ok.bsz I.sz,fun b o e hb=>?_,fun b hb=>fpStk b hb,I.stack,I.stkFree⟩,
    rfl,I.bare,Un.kept keep,⟨fun _=>none,?_,fun i y v h1 h2 h3=>?_⟩,fun y c e=>?_,fresh _ (Nat.le_succ _),fun y c e=>?_,fun p hp=>absurd (show p∈([]:List (Addr × Obj)) from hp) (by simp),I.hok.kept keep,?_⟩
  · exact cellsFrom_inj (fun a b c h1 h2=>I.ok.inj a b c (clLook a c h1) (clLook b c h2)) fun a c h1=>Nat.lt_of_lt_of_le (clLt a c h1) (Nat.le_add_right _ _)
  · -- has
    rw [show (X.comp scope (cellsFrom (s.heap.objs.size + 2) scope.names (clOf X.env.cells scope.names [])) (s.heap.objs.size + 1) (x :: M) s H fp).env.kindOf y=_ from kindR y] at hy
    show ∃ c,(cellsFrom (s.heap.objs.size + 2) scope.names (clOf X.env.cells scope.names [])).lookup y=some c
    cases hk:scope.names.lookup y with
    | none=>rw [hk] at hy;rcases hy with z | z <;> cases z
    | some k =>
      have mem:=PySem.mem_of_lookup hk
      by_cases k1:k = .cell
      · subst k1;exact cellsFrom_has mem
      by_cases k2:k = .free
      · subst k2
        obtain ⟨c,ec⟩:=hasFree _ mem rfl
        exact cellsFrom_acc (clOf_has ec mem)
      · rw [hk] at hy
        have hb:(k == NameKind.free)=false:=by simpa using k2
        rw [Option.map_some,hb,Bool.false_and,Bool.false_and,if_neg Bool.false_ne_true] at hy
        rcases hy with z | z
        · exact absurd (Option.some.inj z) k1
        · exact absurd (Option.some.inj z) k2
  · -- cab
    have hl:scope.names.lookup y=some .cell:=by simpa [Cx.comp] using hfn
    exact cellsFrom_ge (lo:=s.heap.objs.size) (by omega) (.inl (PySem.mem_of_lookup hl)) e
  · -- exf
    exact Nat.ne_of_lt (Nat.lt_succ_of_lt (fpLt b hb))
  · rcases look y c e with ⟨q,_⟩ | q
    · exact fun z=>absurd (fpLt b hb) (by rw [← z];exact Nat.not_lt.mpr (Nat.le_trans (Nat.le_add_right _ 2) q))
    · exact (hf b hb).2.2.2.2.1 y c q
  · -- noex
    rcases (hf b hb).2.2.2.1 with z | z
    · exact I.ok.noex b o e z
    · exact absurd (Nat.lt_of_lt_of_le (Heap.lt_size e) (Nat.le_trans I.ok.bsz z)) (Nat.lt_irrefl _)
  · -- the new map
    have e0:(s.heap.push { cls:=.type "list",dict:=none,data:=.seq ([]:List Value).toArray }).objs.size=s.heap.objs.size + 1:=Heap.size_push ..
    have q:=(Heap.Ns.new (s.heap.push { cls:=.type "list",dict:=none,data:=.seq ([]:List Value).toArray }) (.type "dict")).keeps (pushCells_keeps scope.names _)
    rw [e0] at q
    exact q
  · -- names
    cases i with
    | zero=>cases h2
    | succ j =>
      have h2':(sel idx σ)[j]? = some (some v):=h2
      have h1':M[j]? = some y:=h1
      obtain ⟨k,ek,ev⟩:=sel_get h2'
      obtain ⟨hl,k',ek',eN⟩:=ok.cap j y h1'
      rw [ek] at ek';cases ek'
      have mem:=PySem.mem_of_lookup hl
      have hk:=ok.fre _ mem rfl
      obtain ⟨m,hn,hloc⟩:=I.loc
      have vis:Vis X.env.scope y:=hk.elim (fun z=>.inr (.inl z)) fun z=>.inr (.inr z)
      obtain ⟨u,r,l⟩:=hloc k y v eN ev vis
      refine ⟨u,r,?_⟩
      rcases l with ⟨z,_⟩ | ⟨_,c,ec,hcell⟩
      · rw [z] at hk;rcases hk with z | z <;> cases z
      · refine .inr ⟨?_,c,?_,hcell.keeps keep⟩
        · rw [show (X.comp scope (cellsFrom (s.heap.objs.size + 2) scope.names (clOf X.env.cells scope.names [])) (s.heap.objs.size + 1) (x :: M) s H fp).env.kindOf y=_ from kindR y,hl,Option.map_some]
          by_cases hcc:(NameKind.free == NameKind.free && X.env.scope.kind == .function && X.env.kindOf y == some .cell)=true
          · rw [if_pos hcc];exact .inl rfl
          · rw [if_neg hcc];exact .inr rfl
        · show (cellsFrom (s.heap.objs.size + 2) scope.names (clOf X.env.cells scope.names [])).lookup y=some c
          rw [cellsFrom_not]
          · obtain ⟨d,ed⟩:=clOf_has (acc:=[]) ec mem
            rw [ed,← clLook y d ed,ec]
          · intro p hp hpc hpy
            have:=ok.cel p hp hpc
            rw [hpy,hl] at this
            cases this
  · rcases look y c e with ⟨_,q⟩ | q
    · exact ⟨_,q⟩
    · obtain ⟨v,z⟩:=I.cell y c q
      exact ⟨v,z.keeps keep⟩
  · rcases look y c e with ⟨q,_⟩ | q
    · exact fresh _ (by omega)
    · exact I.freeC y c q
  · show (none :: sel idx σ).length=(x :: M).length
    unfold sel
    rw [List.length_cons,List.length_cons,List.length_map,ok.len]
theorem compLoop_any {prog:Program}{w:World}{A:Around}{R:Result→Shared→Prop}{s:Shared}{elt target iter:Expr}{ifs:List Expr}{scope:Scope}{pos:Pos}{it acc:Value}{env:Env}(I:Nat→Shared→Prop)
    (turn:∀ n s,I n s→wpAny (model prog w) A (pyNext it) (fun r s₁=>match r with
      | none=>R (.ok .next) s₁
      | some v=>wpAny (model prog w) A (letOwnedTupleGo target it v) (fun _ s₁'=>wpAny (model prog w) A (assign target env v) (fun _ s₂ =>
          wpAny (model prog w) A (forIn ifs true fun c r=>if r=true then do let ok ← isTrue c env (eval c env);pure (ForInStep.yield ok) else pure (ForInStep.yield r)) (fun ok s₃ =>
            if ok=true then wpAny (model prog w) A (eval elt env) (fun x s₄ =>
              wpAny (model prog w) A (call (.builtin "list.append") [acc,x]) (fun _ s₅=>∃ m,m < n∧I m s₅) (fun _ _=>False) s₄) (fun _ _=>False) s₃
            else ∃ m,m < n∧I m s₃) (fun _ _=>False) s₂) (fun _ _=>False) s₁') (fun _ _=>False) s₁) (fun _ _=>False) s)
    (n:Nat) (h:I n s) :
    codeAny (model prog w) A (.compLoop (.ListComp elt [⟨target,iter,ifs,0⟩] scope pos) 0 it acc env) R s:=by
  refine codeAny_loop rfl I (fun n s hI=>?_) n h
  show wpAny _ A ((compTurn (.ListComp elt [⟨target,iter,ifs,0⟩] scope pos) 0 it acc env).onRaise (fun x=>do noteFrame x env;theTreesLotGoes x)) _ _ s
  refine wpAny_noted ?_
  rw [compTurn_list]
  refine wpAny_bind (wpAny_standAt (wpAny_bind (wpAny_mono (turn n s hI) (fun r s₁ h₁=>?_) fun _ _ h'=>h'.elim)))
  cases r with
  | none=>exact wpAny_pure h₁
  | some v =>
    refine wpAny_bind (wpAny_mono h₁ (fun _ s₁' h₁'=>?_) fun _ _ h'=>h'.elim)
    refine wpAny_bind (wpAny_mono h₁' (fun _ s₂ h₂=>wpAny_bind (wpAny_mono h₂ (fun ok s₃ h₃=>?_) fun _ _ h'=>h'.elim)) fun _ _ h'=>h'.elim)
    cases ok with
    | false=>exact wpAny_pure ⟨rfl,h₃⟩
    | true =>
      exact wpAny_bind (wpAny_bind (wpAny_mono h₃ (fun x s₄ h₄=>wpAny_bind (wpAny_mono h₄ (fun _ s₅ h₅=>wpAny_pure (wpAny_pure ⟨rfl,h₅⟩)) fun _ _ h'=>h'.elim)) fun _ _ h'=>h'.elim))
def PTs (X:Cx)(cs:List Expr)(t:TT):Prop :=
  ∀ (pins:List (Addr × Obj)) (s:Shared) (σ:St) (H:Hp) (Q:Bool→Hp→Prop),Inv X pins σ H s→t σ H Q →
    wpAny (model X.prog X.w) X.A (forIn cs true fun c r=>if r=true then do let ok ← isTrue c X.env (eval c X.env);pure (ForInStep.yield ok) else pure (ForInStep.yield r)) (TP X pins σ Q) X.xe s
def ttTrue:TT:=fun _ H Q=>Q true H
theorem pts_nil:PTs X [] ttTrue:=fun _ _ _ H _ I h=>wpAny_tests_nil ⟨H,I,h⟩
theorem pts_one {c:Expr}{t:TT}(h:PT X c t):PTs X [c] t:=fun pins s σ H Q I hq=>wpAny_tests_one (h pins s σ H Q I hq)
def CompW (J:It)(H1:Hp)(one:V→Hp→(Option V→Hp→Prop)→Prop)(Q:List V→Hp→Prop):Prop :=
  ∃ (n:Nat) (W:Nat→List V→Hp→Prop),W 0 [] H1∧n≤sizeLine∧∀ i ys H',W i ys H'→(J.stop i H'∧Q ys H') ∨
    (J.go i H'∧i < n∧∃ N:Option V→Hp→Prop,(∀ o H3,N o H3→W (i + 1) (ys ++ o.toList) H3)∧∀ x H2,J.yld i H' x H2→one x H2 N)
def oneOf (tc:TT)(te:TE)(σ:St)(x:V)(H:Hp)(k:Option V→Hp→Prop):Prop :=
  tc (some x :: σ) H fun b H1=>if b=true then te (some x :: σ) H1 fun v H2=>k (some v) H2 else k none H1
def tCompIf (wi:TI)(idx:List Nat)(tc:TT)(te:TE):TE:=fun σ H Q=>wi σ H fun J H1=>CompW J H1 (oneOf tc te (sel idx σ)) fun ys H'=>∀ p,H' p=none→Q (.ref p) (upd H' p (.lst ys))
theorem comp_block {elt iter:Expr}{ifs:List Expr}{scope:Scope}{pos:Pos}{x:Str}{px:Pos}{M:List Str}{idx:List Nat}{tc:TT}{te:TE}{itv:Value}{Q:List V→Hp→Prop}
    {RR:Value→Addr→Result→Shared→Prop}
    (hc:X.calm=true) (ok:CompOk X scope M idx) (hN:(x :: M).Nodup) (hx:scope.names.lookup x=some .local ∨ scope.names.lookup x=some .cell)
    (ht:∀ cells C s2 H2 fp,PTs (X.comp scope cells C (x :: M) s2 H2 fp) ifs tc) (he:∀ cells C s2 H2 fp,PE (X.comp scope cells C (x :: M) s2 H2 fp) elt te)
    (h:PIE X pins σ (.Name x px) (fun J H1=>CompW J H1 (oneOf tc te (sel idx σ)) Q) itv s)
    (hR:∀ (D C:Addr) (ys:List V) (H':Hp) (s':Shared),s.heap.objs.size ≤ D→s.heap.objs.size ≤ C→D≠C→H' D=none→H' C=none→Q ys H'→(∃ m,s'.heap.Ns C m) →
      (∀ h' tk,Heap.SameBut C s'.heap h'→Inv X pins σ (upd H' D (.lst ys)) { s' with heap:=h',toks:=tk })→RR (.ref D) C (.ok .next) s') :
    wpAny (model X.prog X.w) X.A (newList []) (fun acc s₃=>wpAny (model X.prog X.w) X.A (newFunctionEnv scope X.env.globals (clOf X.env.cells scope.names []) [] X.env.qual none .none (some X.env)) (fun cenv s₄ =>
      codeAny (model X.prog X.w) X.A (.compStart (.ListComp elt [⟨.Name x px,iter,ifs,0⟩] scope pos) 0 itv acc { cenv with scope:=relabel scope X.env }) (RR acc cenv.locals) s₄) X.xe s₃) X.xe s:=by
  obtain ⟨it,fp,tn,J,H2,e,I2,T,st2,f2,n,W,w0,hn,turn⟩:=h
  subst e
  have ho:∀ b∈fp,∃ o,s.heap.get? b=some o:=fun b hb=>let ⟨o,e,_⟩:=T.obj 0 _ st2 b hb;⟨o,e⟩
  have I3:=comp_start (x:=x) ok hc I2 f2 ho
  have sz1:(s.heap.push { cls:=.type "list",dict:=none,data:=.seq ([]:List Value).toArray }).objs.size=s.heap.objs.size + 1:=Heap.size_push ..
  have keep0:∀ b o,s.heap.get? b=some o→(pushCells ((s.heap.push { cls:=.type "list",dict:=none,data:=.seq ([]:List Value).toArray }).push { cls:=.type "dict",data:=.dict #[] }) scope.names).get? b=some o :=
    fun b o e=>pushCells_keeps _ _ _ _ (Heap.get?_push_of_some _ (Heap.get?_push_of_some _ e))
  have acc0:(pushCells ((s.heap.push { cls:=.type "list",dict:=none,data:=.seq ([]:List Value).toArray }).push { cls:=.type "dict",data:=.dict #[] }) scope.names).PlainList s.heap.objs.size ([]:List Value).toArray :=
    ⟨_,pushCells_keeps _ _ _ _ (Heap.get?_push_of_some _ (Heap.get?_push_size _ rfl))⟩
  have fpLt:∀ b∈fp,b < s.heap.objs.size:=fun b hb=>let ⟨_,e⟩:=ho b hb;Heap.lt_size e
  refine wpAny_newList ?_
  refine newCompEnv ?_
  dsimp only
  rw [sz1]
  generalize hcells:cellsFrom (s.heap.objs.size + 1 + 1) scope.names (clOf X.env.cells scope.names [])=cells
  have hcells':cellsFrom (s.heap.objs.size + 2) scope.names (clOf X.env.cells scope.names [])=cells:=hcells
  rw [hcells'] at I3
  generalize hh:pushCells ((s.heap.push { cls:=.type "list",dict:=none,data:=.seq ([]:List Value).toArray }).push { cls:=.type "dict",data:=.dict #[] }) scope.names=h1 at I3 keep0 acc0 ⊢
  have ht:=ht cells (s.heap.objs.size + 1) s H2 fp
  have he:=he cells (s.heap.objs.size + 1) s H2 fp
  have st3:tn 0 h1:=T.keep 0 _ _ st2 fun b hb o e=>keep0 b o e
  have hg:PG (X.comp scope cells (s.heap.objs.size + 1) (x :: M) s H2 fp) (.Name x px) (gName 0):=by
    refine pg_name hN rfl ?_ ?_
    · show (relabel scope X.env).names.lookup x=some .local ∨ (relabel scope X.env).names.lookup x=some .cell
      rw [show (relabel scope X.env).names.lookup x=_ from kindOf_relabel scope.names x]
      rcases hx with z | z
      · rw [z];exact .inl rfl
      · rw [z];exact .inr rfl
    · rcases hx with z | z
      · refine .inr ?_
        show (relabel scope X.env).names.lookup x=some .local
        rw [show (relabel scope X.env).names.lookup x=_ from kindOf_relabel scope.names x,z]
        rfl
      · refine .inl ?_
        show (scope.names.lookup x == some .cell)=true
        rw [z];rfl
  have stat:∀ {pins':List (Addr × Obj)} {H':Hp},(∀ p∈pins',p.1=s.heap.objs.size)→(∀ b∈fp,H' b=none)→∀ b∈fp,FpOk (X.comp scope cells (s.heap.objs.size + 1) (x :: M) s H2 fp) pins' H' b:=fun {pins' H'} hp hn b hb =>
    ⟨hn b hb,(I3.ok.exf b hb).1,I3.ok.exfs b hb,.inl hb,(I3.ok.exf b hb).2,fun p hp'=>by
      have e:=hp p (show p∈pins' from by simpa [Cx.comp] using hp')
      rw [e];exact Nat.ne_of_gt (fpLt b hb)⟩
  have loop:∀ (s₄:Shared),s₄={ s with heap:=h1 }→codeAny (model X.prog X.w) X.A (.compLoop (.ListComp elt [⟨.Name x px,iter,ifs,0⟩] scope pos) 0 (.ref it) (.ref s.heap.objs.size) (compEnvC scope cells (s.heap.objs.size + 1) X.env))
      (RR (.ref s.heap.objs.size) (s.heap.objs.size + 1)) s₄:=by
    rintro s₄ rfl
    refine compLoop_any (fun k s'=>∃ (i:Nat) (ys:List V) (its:List Value) (H':Hp),Inv (X.comp scope cells (s.heap.objs.size + 1) (x :: M) s H2 fp) [] (none :: sel idx σ) H' s'∧tn i s'.heap ∧ (∀ b∈fp,H' b=none)∧H' s.heap.objs.size=none ∧
      s'.heap.PlainList s.heap.objs.size its.toArray ∧ Vals ys its∧ys.length ≤ i∧i≤n∧W i ys H'∧k=n - i) ?_ n ⟨0,[],[],H2,I3,st3,fun b hb=>(f2 b hb).1,I2.hok.fresh (Nat.le_refl _),acc0,.nil,Nat.le_refl _,Nat.zero_le _,w0,rfl⟩
    rintro k s' ⟨i,ys,its,H',I',st',fr',hD',hpl',hv',hlen,hlin,w',rfl⟩
    obtain ⟨nn,hobj⟩:=id hpl'
    have pinD:∀ {H5:Hp} {s5:Shared} {σ5:St} {P5:List (Addr × Obj)},Inv (X.comp scope cells (s.heap.objs.size + 1) (x :: M) s H2 fp) P5 σ5 H5 s5→s5.heap.get? s.heap.objs.size=some { cls:=.type "list",data:=.seq its.toArray nn }→H5 s.heap.objs.size=none →
        ∀ p∈[(s.heap.objs.size,({ cls:=.type "list",data:=.seq its.toArray nn }:Obj))],s5.heap.get? p.1=some p.2 ∧ H5 p.1=none∧p.1 ≠ (X.comp scope cells (s.heap.objs.size + 1) (x :: M) s H2 fp).env.locals ∧ p.1 ∉ (X.comp scope cells (s.heap.objs.size + 1) (x :: M) s H2 fp).fs ∧ ∀ v,p.2.data ≠ .cell v :=
      fun {H5 s5 σ5 P5} I5 e5 n5 p hp=>by
        have ep:p=(s.heap.objs.size,({ cls:=.type "list",data:=.seq its.toArray nn }:Obj)):=by simpa using hp
        subst ep
        refine ⟨e5,n5,Nat.ne_of_lt (Nat.lt_succ_self _),fun z=>?_,fun v z=>by cases z⟩
        obtain ⟨_,o,ho,_⟩:=I5.ok.funs.mem z
        exact absurd (Heap.lt_size ho) (Nat.lt_irrefl _)
    have ID:=I'.pins_of (pinD I' hobj hD')
    have ndp:∀ p∈[(s.heap.objs.size,({ cls:=.type "list",data:=.seq its.toArray nn }:Obj))],p.1=s.heap.objs.size:=fun p hp=>by
      have ep:p=(s.heap.objs.size,({ cls:=.type "list",data:=.seq its.toArray nn }:Obj)):=by simpa using hp
      rw [ep]
    rcases turn i ys H' w' with ⟨stop,qn⟩ | ⟨go,hin,N,hNW,step⟩
    · refine thn (T.done (X.comp scope cells (s.heap.objs.size + 1) (x :: M) s H2 fp) rfl rfl rfl hc i _ s' _ H' (fun _ _=>False) ID (stat ndp fr') st' stop) fun r s4 ⟨hr,I4⟩=>?_
      subst hr
      have pin4:=I4.pin (s.heap.objs.size,({ cls:=.type "list",data:=.seq its.toArray nn }:Obj)) (by simp [Cx.comp])
      obtain ⟨m4,hm4,_⟩:=id I4.loc
      refine hR s.heap.objs.size (s.heap.objs.size + 1) ys H' s4 (Nat.le_refl _) (Nat.le_succ _) (Nat.ne_of_lt (Nat.lt_succ_self _)) pin4.2.1 I4.free qn ⟨m4,hm4⟩ fun h' tk hs'=>?_
      have neC:∀ b,b < s.heap.objs.size → b≠s.heap.objs.size + 1:=fun b hb=>Nat.ne_of_lt (Nat.lt_succ_of_lt hb)
      have neD:∀ b,b < s.heap.objs.size → b≠s.heap.objs.size:=fun b hb=>Nat.ne_of_lt hb
      have u4:=I4.base
      refine I2.call' (s':={ s4 with heap:=h',toks:=tk }) (ch:=fp) I4.os ?_ ?_ I4.bare fun b hb=>?_
      · refine ⟨fun b o e1 e2 e3 e4=>?_,fun b o e1 e2 e3 e4=>?_,fun b o e1 e2 e3=>?_,fun b o e1 e2=>?_,fun b xs e1=>?_,fun b o u e1=>?_,fun b ps e1=>?_⟩
        · exact (hs'.2 b (neC b (Heap.lt_size e1))).trans (u4.keep b o e1 e2 e3 e4)
        · obtain ⟨sl,q⟩:=u4.slot b o e1 e2 e3 e4
          exact ⟨sl,(hs'.2 b (neC b (Heap.lt_size e1))).trans q⟩
        · rw [upd_ne (neD b (Heap.lt_size e1))];exact u4.free b o e1 e2 e3
        · obtain ⟨o',q⟩:=u4.there b o e1 e2
          exact ⟨o',(hs'.2 b (neC b (Heap.lt_size e1))).trans q⟩
        · have q:=u4.tups b xs e1
          rw [upd_ne (ne_of_none q pin4.2.1)];exact q
        · have q:=u4.frzs b o u e1
          rw [upd_ne (ne_of_none q pin4.2.1)];exact q
        · obtain ⟨more,q⟩:=u4.tbls b ps e1
          exact ⟨more,by rw [upd_ne (ne_of_none q pin4.2.1)];exact q⟩
      · intro b o e1
        by_cases hb:b=s.heap.objs.size
        · subst hb
          rw [upd_same] at e1;cases e1
          exact ⟨Nat.le_trans hlen (Nat.le_trans hlin hn),its,nn,hv',(hs'.2 _ (Nat.ne_of_lt (Nat.lt_succ_self _))).trans pin4.1⟩
        · rw [upd_ne hb] at e1
          refine (I4.hok b o e1).stay (fun c u hcu q=>(hs'.2 c ?_).trans q) (fun c q=>by rw [upd_ne (ne_of_none q pin4.2.1)];exact q) fun c xs q=>by rw [upd_ne (ne_of_none q pin4.2.1)];exact q
          rintro rfl
          rcases hcu with z | z
          · rw [← z] at e1
            have z2:=I4.free
            rw [show (X.comp scope cells (s.heap.objs.size + 1) (x :: M) s H2 fp).env.locals=s.heap.objs.size + 1 from rfl,e1] at z2
            cases z2
          · have z2:=I4.free
            rw [show (X.comp scope cells (s.heap.objs.size + 1) (x :: M) s H2 fp).env.locals=s.heap.objs.size + 1 from rfl,z] at z2
            cases z2
      · obtain ⟨_,g1,g2,g3,g4,g5⟩:=f2 b hb
        exact ⟨g3,g1,g4,g5⟩
    · refine thn (T.item (X.comp scope cells (s.heap.objs.size + 1) (x :: M) s H2 fp) rfl rfl rfl hc i _ s' _ H' (fun _ _=>False) ID (stat ndp fr') st' go) fun r s4 ⟨u,hr,h4⟩=>?_
      subst hr
      refine thn h4 fun _ s5 ⟨y,H5,I5,r5,y5,st5,fr5⟩=>?_
      have I5':=I5.pinned (stat ndp fr5) (T.obj _ _ st5)
      refine thn (hg _ s5 _ H5 y u (fun σ' H6=>σ'=some y :: sel idx σ∧H6=H5) I5' r5 ⟨rfl,rfl⟩) fun _ s6 ⟨σ6,H6,I6,e6,e6'⟩=>?_
      subst e6 e6'
      have fin:∀ {H8:Hp} {s8:Shared} {σ8:St},Inv (X.comp scope cells (s.heap.objs.size + 1) (x :: M) s H2 fp) ([(s.heap.objs.size,({ cls:=.type "list",data:=.seq its.toArray nn }:Obj))] ++ pinsAt fp s5.heap) σ8 H8 s8 →
          s8.heap.PlainList s.heap.objs.size its.toArray ∧ H8 s.heap.objs.size=none∧tn (i + 1) s8.heap ∧ ∀ b∈fp,H8 b=none:=fun {H8 s8 σ8} I8=>by
        have p8:=I8.pin (s.heap.objs.size,({ cls:=.type "list",data:=.seq its.toArray nn }:Obj)) (by simp [Cx.comp])
        refine ⟨⟨nn,p8.1⟩,p8.2.1,T.keep _ _ _ st5 fun b hb o e=>(I8.pin (b,o) (List.mem_append_right _ (List.mem_append_right _ (mem_pinsAt hb e)))).1,fun b hb=>?_⟩
        obtain ⟨o,e,_⟩:=T.obj _ _ st5 b hb
        exact (I8.pin (b,o) (List.mem_append_right _ (List.mem_append_right _ (mem_pinsAt hb e)))).2.1
      have back:∀ {H8:Hp} {s8:Shared} {P8:List (Addr × Obj)},Inv (X.comp scope cells (s.heap.objs.size + 1) (x :: M) s H2 fp) P8 (some y :: sel idx σ) H8 s8→Inv (X.comp scope cells (s.heap.objs.size + 1) (x :: M) s H2 fp) [] (none :: sel idx σ) H8 s8:=fun I8 =>
        (I8.pins_of fun p hp=>absurd hp (by simp)).weak rfl fun j v e=>by
          cases j with
          | zero=>cases e
          | succ j=>exact e
      refine thn (ht _ s6 _ _ _ I6 (step y _ y5)) fun b s7 ⟨H7,I7,q7⟩=>?_
      cases b with
      | false =>
        have q7':W (i + 1) (ys ++ []) H7:=hNW none H7 q7
        rw [List.append_nil] at q7'
        obtain ⟨g1,g2,g3,g4⟩:=fin I7
        refine show (if false=true then _ else _) from ?_
        rw [if_neg Bool.false_ne_true]
        exact ⟨n - (i + 1),by omega,i + 1,ys,its,H7,back I7,g3,g4,g2,g1,hv',Nat.le_succ_of_le hlen,hin,q7',rfl⟩
      | true =>
        refine show (if true=true then _ else _) from ?_
        rw [if_pos rfl]
        have q7':te (some y :: sel idx σ) H7 fun v H3=>N (some v) H3:=q7
        refine thn (he _ s7 _ _ _ I7 q7') fun u8 s8 ⟨v8,H8,I8,r8,w8⟩=>?_
        have w8:W (i + 1) (ys ++ [v8]) H8:=hNW (some v8) H8 w8
        obtain ⟨g1,g2,g3,g4⟩:=fin I8
        refine wpAny_list_append_plain g1 (fun h' hpl hs'=>?_) (by
          rw [List.size_toArray,← hv'.length]
          exact Nat.le_trans hlen (Nat.le_trans hlin hn))
        have I9:=back I8
        have hpl2:h'.PlainList s.heap.objs.size (its ++ [u8]).toArray:=by
          have e:(its ++ [u8]).toArray=its.toArray.push u8:=by simp
          rw [e];exact hpl
        refine ⟨n - (i + 1),by omega,i + 1,ys ++ [v8],its ++ [u8],H8,I9.turned (it:=s.heap.objs.size) (t':=s8.toks) (fun b o hb e=>(hs'.2 b hb).trans e) g2 (Nat.ne_of_lt (Nat.lt_succ_self _)) (.inr (Nat.le_refl _)) (fun z c ec hcz=>?_) (fun p hp=>absurd hp (by simp [Cx.comp])),
          T.keep _ _ _ g3 (fun b hb o e=>(hs'.2 b (Nat.ne_of_lt (fpLt b hb))).trans e),g4,g2,hpl2,hv'.append (.cons r8 .nil),by rw [List.length_append];exact Nat.succ_le_succ hlen,hin,w8,rfl⟩
        obtain ⟨v,o,ho,hd⟩:=I9.cell z c ec
        obtain ⟨n9,g9⟩:=g1
        rw [hcz,g9] at ho
        cases ho
        cases hd
  exact codeAny_compStart_list (loop _ rfl) (T.self _ 0 _ _ _ st3 (loop _ rfl))
theorem pe_compIf {elt iter:Expr}{ifs:List Expr}{scope:Scope}{pos:Pos}{x:Str}{px:Pos}{M:List Str}{idx:List Nat}{wi:TI}{tc:TT}{te:TE}
    (hc:X.calm=true) (hi:PI X (.Name x px) iter wi) (ok:CompOk X scope M idx) (hN:(x :: M).Nodup) (hx:scope.names.lookup x=some .local ∨ scope.names.lookup x=some .cell)
    (ht:∀ cells C s2 H2 fp,PTs (X.comp scope cells C (x :: M) s2 H2 fp) ifs tc) (he:∀ cells C s2 H2 fp,PE (X.comp scope cells C (x :: M) s2 H2 fp) elt te)
    (hs:∀ x,foldedSetIterable iter X.env x=pure x:=by intro _;rfl):PE X (.ListComp elt [⟨.Name x px,iter,ifs,0⟩] scope pos) (tCompIf wi idx tc te):=by
  intro pins s σ H Q I h
  rw [eval_ListComp]
  refine wpAny_comprehension_free (use:=none) rfl hs (closureFor_cl fun y hy e=>I.ok.has y.1 (ok.fre y hy e)) ok.kind ok.loc (thn (hi pins s σ H _ I h) fun v s1 h1=>thn h1 fun itv s2 h2=>?_)
  refine comp_block (RR:=fun acc C=>compPost (model X.prog X.w) X.A X.xe none (EP X pins σ Q) acc C) hc ok hN hx ht he h2 fun D C ys H' s' hD hC hDC nD nC q hm hI=>?_
  obtain ⟨m,hm⟩:=hm
  exact ⟨m,hm,fun h' hs'=>⟨.ref D,upd H' D (.lst ys),hI h' s'.toks hs',rfl,q D nD⟩⟩
def tSetComp (i:Nat)(t:TE):TS:=fun D σ H=>t σ H fun v H1=>D.nx (σ.set i (some v)) H1
theorem ps_setComp {elt iter:Expr}{ifs:List Expr}{scope:Scope}{pos spos py:Pos}{x y:Str}{px:Pos}{M:List Str}{idx:List Nat}{wi:TI}{tc:TT}{te:TE}{i:Nat}
    (hNd:X.N.Nodup) (hi':X.N[i]? = some y) (hy:Loc X.env.scope y)
    (hc:X.calm=true) (hi:PI X (.Name x px) iter wi) (ok:CompOk X scope M idx) (hN:(x :: M).Nodup) (hx:scope.names.lookup x=some .local ∨ scope.names.lookup x=some .cell)
    (ht:∀ cells C s2 H2 fp,PTs (X.comp scope cells C (x :: M) s2 H2 fp) ifs tc) (he:∀ cells C s2 H2 fp,PE (X.comp scope cells C (x :: M) s2 H2 fp) elt te)
    (hs:∀ x,foldedSetIterable iter X.env x=pure x:=by intro _;rfl)
    (hsw:swapsWith (.ListComp elt [⟨.Name x px,iter,ifs,0⟩] scope pos) (some (.Name y py)) spos.line X.env=pure true:=by rfl)
    (hf:X.fn y=true ∨ X.env.scope.names.lookup y=some .local:=by first | exact .inl rfl | exact .inr rfl | assumption) :
    PS X (.Assign [.Name y py] (.ListComp elt [⟨.Name x px,iter,ifs,0⟩] scope pos) spos) (tSetComp i (tCompIf wi idx tc te)):=by
  intro pins s σ H D I h
  rw [exec_Assign_Name_used _ _ _ _ hsw]
  refine wpAny_bind (wpAny_standAt (wpAny_bind ?_))
  show wpAny _ X.A (do let _ ← comprehension (.ListComp elt [⟨.Name x px,iter,ifs,0⟩] scope pos) scope X.env _ (newList []) false (eval iter X.env) (some (assign (.Name y py) X.env))) _ _ s
  refine wpAny_bind (wpAny_mono (wpAny_comprehension_free (use:=some (assign (.Name y py) X.env)) (Q:=fun _ s'=>SP X pins D .next s') rfl hs (closureFor_cl fun y hy e=>I.ok.has y.1 (ok.fre y hy e)) ok.kind ok.loc
    (thn (hi pins s σ H _ I h) fun v s1 h1=>thn h1 fun itv s2 h2=>?_)) (fun _ s' hq=>wpAny_pure (wpAny_pure hq)) fun _ _ e=>e)
  have I2:∃ H',Inv X pins σ H' s2:=let ⟨_,_,_,_,H',_,I2,_⟩:=h2;⟨H',I2⟩
  refine comp_block (RR:=fun acc C=>compPost (model X.prog X.w) X.A X.xe (some (assign (.Name y py) X.env)) (fun _ s'=>SP X pins D .next s') acc C) hc ok hN hx ht he h2 fun L C ys H' s' hD hC hDC nD nC q hm hI=>?_
  obtain ⟨H2,I2⟩:=I2
  obtain ⟨m,hm⟩:=hm
  have I5:Inv X pins σ (upd H' L (.lst ys)) s':=hI s'.heap s'.toks (Heap.SameBut.refl ..)
  obtain ⟨mL,hmL,_⟩:=id I2.loc
  have ltL:X.env.locals < s2.heap.objs.size:=hmL.lt
  have neL:C≠X.env.locals:=Nat.ne_of_gt (Nat.lt_of_lt_of_le ltL hC)
  have neCell:∀ z c,X.env.cells.lookup z=some c→c≠C:=fun z c e=>by
    obtain ⟨v,q⟩:=I2.cell z c e
    exact Nat.ne_of_lt (Nat.lt_of_lt_of_le q.lt hC)
  show wpAny _ X.A (assign (.Name y py) X.env (.ref L)) _ _ _
  refine wpAny_assign_Name (store_ok2 (v:=.ref L) I5 hNd hi' hy rfl (fun s6 I6 hch=>?_) hf)
  obtain ⟨a,hsa,ha⟩:=hch
  have neA:C≠a:=by
    rcases ha with e | e
    · rw [e];exact neL
    · exact Ne.symm (neCell y a e)
  refine ⟨m,hm.sameBut hsa neA,fun h' hs'=>?_⟩
  refine ⟨_,_,I6.turned (it:=C) (t':=s6.toks) (fun b o hb e=>(hs'.2 b hb).trans e) (by rw [upd_ne (Ne.symm hDC)];exact nC) neL (.inr (Nat.le_trans I2.sz hC)) neCell (fun p hp z=>?_),q L nD⟩
  have e2:=(I2.pin p hp).1
  exact absurd (Nat.lt_of_lt_of_le (Heap.lt_size e2) hC) (by rw [z];exact Nat.lt_irrefl _)
end
theorem compW_list {K:PySem.W.Frag}{a:Addr}{xs:List V}{H:Hp}{one:V→Hp→(Option V→Hp→Prop)→Prop}{Q:List V→Hp→Prop}(Pv:Nat→List V→Hp→Prop)(h0:Pv 0 [] H)(hn:xs.length ≤ sizeLine)
    (hl:∀ i ys H,i≤xs.length → Pv i ys H→SqL K H a xs) (hs:∀ i x ys H,xs[i]? = some x→Pv i ys H→one x H fun o H2=>Pv (i + 1) (ys ++ o.toList) H2) (hd:∀ ys H,Pv xs.length ys H→Q ys H):CompW (Itl K a) H one Q:=by
  refine ⟨xs.length,fun i ys H=>i≤xs.length ∧ Pv i ys H,⟨Nat.zero_le _,h0⟩,hn,?_⟩
  rintro i ys H ⟨hi,p⟩
  have q:=hl i ys H hi p
  by_cases hlt:i < xs.length
  · refine .inr ⟨⟨xs,xs[i],q,by simp [hlt]⟩,hlt,fun o H3=>Pv (i + 1) (ys ++ o.toList) H3,fun o H3 z=>⟨hlt,z⟩,fun x H2 y=>?_⟩
    obtain ⟨e,y⟩:=y
    subst e
    exact hs i x ys _ (y xs q) p
  · have e:i=xs.length:=by omega
    subst e
    exact .inl ⟨⟨xs,q,Nat.le_refl _⟩,hd ys H p⟩
theorem compW_tup {K:PySem.W.Frag}{a:Addr}{xs:List V}{H:Hp}{one:V→Hp→(Option V→Hp→Prop)→Prop}{Q:List V→Hp→Prop}(Pv:Nat→List V→Hp→Prop)(h0:Pv 0 [] H)(hn:xs.length ≤ sizeLine)
    (hl:∀ i ys H,i≤xs.length → Pv i ys H→SqT K H a xs) (hs:∀ i x ys H,xs[i]? = some x→Pv i ys H→one x H fun o H2=>Pv (i + 1) (ys ++ o.toList) H2) (hd:∀ ys H,Pv xs.length ys H→Q ys H):CompW (Itt K a) H one Q:=by
  refine ⟨xs.length,fun i ys H=>i≤xs.length ∧ Pv i ys H,⟨Nat.zero_le _,h0⟩,hn,?_⟩
  rintro i ys H ⟨hi,p⟩
  have q:=hl i ys H hi p
  by_cases hlt:i < xs.length
  · refine .inr ⟨⟨xs,xs[i],q,by simp [hlt]⟩,hlt,fun o H3=>Pv (i + 1) (ys ++ o.toList) H3,fun o H3 z=>⟨hlt,z⟩,fun x H2 y=>?_⟩
    obtain ⟨e,y⟩:=y
    subst e
    exact hs i x ys _ (y xs q) p
  · have e:i=xs.length:=by omega
    subst e
    exact .inl ⟨⟨xs,q,Nat.le_refl _⟩,hd ys H p⟩
theorem compW_range {lo:Int}{n:Nat}{H:Hp}{one:V→Hp→(Option V→Hp→Prop)→Prop}{Q:List V→Hp→Prop}(Pv:Nat→List V→Hp→Prop)(h0:Pv 0 [] H)(hn:n≤sizeLine)
    (hs:∀ i ys H,i < n→Pv i ys H→one (.int (lo + i)) H fun o H2=>Pv (i + 1) (ys ++ o.toList) H2) (hd:∀ ys H,Pv n ys H→Q ys H):CompW (Itr lo n) H one Q:=by
  refine ⟨n,fun i ys H=>i≤n∧Pv i ys H,⟨Nat.zero_le _,h0⟩,hn,?_⟩
  rintro i ys H ⟨hi,p⟩
  by_cases hlt:i < n
  · refine .inr ⟨hlt,hlt,fun o H3=>Pv (i + 1) (ys ++ o.toList) H3,fun o H3 z=>⟨hlt,z⟩,fun x H2 y=>?_⟩
    obtain ⟨e,y⟩:=y
    subst e y
    exact hs i ys _ hlt p
  · have e:i=n:=by omega
    subst e
    exact .inl ⟨Nat.le_refl _,hd ys H p⟩
end L2
namespace L2
open PySem PySem.Spec PyProof.Rows
mutual
inductive IsD (H:Hp):V→PyData→Prop
  | non:IsD H .non .none
  | bl (b:Bool):IsD H (.bl b) (.bool b)
  | int (i:Int):IsD H (.int i) (.int i)
  | str (x:Str):IsD H (.str x) (.str x)
  | tup {a:Addr} {xs:List V} {ds:List PyData}:H a=some (.tup xs)→IsDs H xs ds→IsD H (.ref a) (.tuple ds)
inductive IsDs (H:Hp):List V→List PyData→Prop
  | nil:IsDs H [] []
  | cons {x:V} {xs:List V} {d:PyData} {ds:List PyData}:IsD H x d→IsDs H xs ds→IsDs H (x :: xs) (d :: ds)
end
def KeepT (H H':Hp):Prop:=∀ a xs,H a=some (.tup xs)→H' a=some (.tup xs)
mutual
theorem IsD.keep {H H':Hp}(k:KeepT H H'):∀ {v:V} {d:PyData},IsD H v d→IsD H' v d
  | _,_,.non=>.non
  | _,_,.bl b=>.bl b
  | _,_,.int i=>.int i
  | _,_,.str x=>.str x
  | _,_,.tup h r=>.tup (k _ _ h) (IsDs.keep k r)
theorem IsDs.keep {H H':Hp}(k:KeepT H H'):∀ {xs:List V} {ds:List PyData},IsDs H xs ds→IsDs H' xs ds
  | _,_,.nil=>.nil
  | _,_,.cons h r=>.cons (IsD.keep k h) (IsDs.keep k r)
end
theorem IsDs.length {H:Hp}:∀ {xs:List V} {ds:List PyData},IsDs H xs ds→xs.length=ds.length
  | _,_,.nil=>rfl
  | _,_,.cons _ r=>by rw [List.length_cons,List.length_cons,IsDs.length r]
theorem IsDs.get {H:Hp}:∀ {xs:List V} {ds:List PyData} {i:Nat} {d:PyData},IsDs H xs ds→ds[i]? = some d→∃ x,xs[i]? = some x∧IsD H x d
  | _,_,i,d,.nil,e=>by simp at e
  | _,_,0,d,.cons h _,e=>by simp at e;subst e;exact ⟨_,rfl,h⟩
  | _,_,i + 1,d,.cons _ r,e=>by
    obtain ⟨x,e1,h⟩:=IsDs.get (i:=i) (d:=d) r (by simpa using e)
    exact ⟨x,by simpa using e1,h⟩
theorem IsDs.append {H:Hp}:∀ {xs ys:List V} {ds es:List PyData},IsDs H xs ds→IsDs H ys es→IsDs H (xs ++ ys) (ds ++ es)
  | _,_,_,_,.nil,s=>s
  | _,_,_,_,.cons h r,s=>.cons h (IsDs.append r s)
theorem IsD.tuple_inv {H:Hp}{v:V}{ds:List PyData}(h:IsD H v (.tuple ds)):∃ a xs,v = .ref a∧H a=some (.tup xs)∧IsDs H xs ds:=by
  cases h with
  | tup e r=>exact ⟨_,_,rfl,e,r⟩
section
variable {X:Cx}{pins:List (Addr × Obj)}{σ:St}{H:Hp}{s:Shared}
mutual
theorem IsD.reads {P:Program}{w:World}{h:Heap}{H:Hp}(I:HOk P w H h):∀ {v:V} {d:PyData} {u:Value},IsD H v d→RelV v u→∃ as,Reads h u d as
  | _,_,u,.non,r=>by cases (show u=Value.none from r);exact ⟨_,.none⟩
  | _,_,u,.bl b,r=>by cases (show u=Value.bool b from r);exact ⟨_,.bool b⟩
  | _,_,u,.int i,r=>by obtain ⟨t,rfl⟩:=(show ∃ t,u=Value.int i t from r);exact ⟨_,.int i t⟩
  | _,_,u,.str x,r=>by obtain ⟨t,rfl⟩:=(show ∃ t,u=Value.str x t from r);exact ⟨_,.str x t⟩
  | _,_,u,.tup (a:=a) (xs:=xs) e rs,r=>by
    cases (show u=Value.ref a from r)
    obtain ⟨_,its,rv,o,h1,h2,n,h3⟩:=(show ObjOk P w H h a (.tup xs) from I a _ e)
    obtain ⟨as,hr⟩:=IsDs.reads I rs rv
    exact ⟨as,.tuple h1 h2 h3 (by simpa using hr)⟩
theorem IsDs.reads {P:Program}{w:World}{h:Heap}{H:Hp}(I:HOk P w H h):∀ {xs:List V} {ds:List PyData} {us:List Value},IsDs H xs ds→Vals xs us→∃ as,ReadsAll h us ds as
  | _,_,_,.nil,.nil=>⟨_,.nil⟩
  | _,_,_,.cons h r,.cons v vs=>by
    obtain ⟨as,h1⟩:=IsD.reads I h v
    obtain ⟨bs,h2⟩:=IsDs.reads I r vs
    exact ⟨_,.cons h1 h2⟩
end
def CmpD (u:Nat)(dx dy:PyData):Prop:=dx.canLay0=true∧dy.canLay0=true∧dx.depth ≤ 20
def rEqD (u:Nat):R2:=fun x y H Q=>∃ dx dy,IsD H x dx∧IsD H y dy∧CmpD u dx dy∧Q (.bl (PyData.eqv dx dy)) H
def rNeD (u:Nat):R2:=fun x y H Q=>∃ dx dy,IsD H x dx∧IsD H y dy∧CmpD u dx dy∧Q (.bl (!PyData.eqv dx dy)) H
theorem unitsD {A:Around}{a b:Nat}(hu:A.units + 64 < cLine)(h:a≤20):A.units + min a b < cLine:=by
  have:min a b≤a:=Nat.min_le_left _ _
  omega
theorem op_eqD (hu:X.A.units + 64 < cLine):OpR X (compareOp .Eq) (rEqD 0):=by
  intro pins s σ H x y v u Q I rx ry h
  obtain ⟨dx,dy,hx,hy,⟨c1,c2,c3⟩,q⟩:=h
  obtain ⟨as,r1⟩:=hx.reads I.hok rx
  obtain ⟨bs,r2⟩:=hy.reads I.hok ry
  exact PySem.SeqAt.compareEq_reads r1 r2 c1 c2 (unitsD hu c3) ⟨.bl _,H,I,rfl,q⟩
theorem op_neD (hu:X.A.units + 64 < cLine):OpR X (compareOp .NotEq) (rNeD 0):=by
  intro pins s σ H x y v u Q I rx ry h
  obtain ⟨dx,dy,hx,hy,⟨c1,c2,c3⟩,q⟩:=h
  obtain ⟨as,r1⟩:=hx.reads I.hok rx
  obtain ⟨bs,r2⟩:=hy.reads I.hok ry
  exact PySem.SeqAt.compareNe_reads r1 r2 c1 c2 (unitsD hu c3) ⟨.bl _,H,I,rfl,q⟩
theorem call_sum (hc:X.calm=true):CallR X (.builtin "sum") (fun xs H Q=>∃ (p:Addr) (ns:List Int),xs=[.ref p]∧SqL X.K H p (ns.map V.int)∧Q (.int ns.sum) H):=by
  intro pins s σ H xs us Q I r h
  obtain ⟨p,ns,rfl,hS,q⟩:=h
  obtain ⟨u,rfl,e⟩:=vals1 r
  obtain rfl:u=Value.ref p:=e
  obtain ⟨its,hv,⟨o,n,h1,h2,h3,h4⟩,_⟩:=I.list hS
  have hi:IntsAre its ns:=intsAre_of hv
  obtain ⟨xs,hx⟩:=hi.allInts.items
  have hl:s.heap.IsList p its.toArray:=⟨o,h1,h2,n,h4⟩
  refine sum_intListG (I.ok.hd hc) (hx ▸ hl) fun h' tk t' hk=>⟨.int ns.sum,H,I.kept hk,⟨t',?_⟩,q⟩
  have e1:ns=xs.toList.map (·.1):=by
    rw [← nums_intItems,← hx]
    exact (show numsOf its.toArray.toList=ns from hi.numsOf).symm
  rw [preSum_eq,List.take_of_length_le (by simp),e1]
def kindV (K:PySem.W.Frag)(H:Hp)(x:V)(T:String):Prop:=match x with
  | .non=>T = "NoneType"
  | .bl _=>T = "bool"
  | .int _=>T = "int"
  | .str _=>T = "str"
  | .ref a=>(T = "tuple"∧∃ xs,H a=some (.tup xs)) ∨ (T = "list"∧∃ xs,H a=some (.lst xs))
  | _=>False
theorem kind_ty {K:PySem.W.Frag}{H:Hp}{x:V}{T:String}(h:kindV K H x T):TyOf K H x (.type T):=by
  cases x with
  | non=>cases (show T=_ from h);exact .non
  | bl b=>cases (show T=_ from h);exact .bl b
  | int i=>cases (show T=_ from h);exact .int i
  | str i=>cases (show T=_ from h);exact .str i
  | ref a =>
    rcases h with ⟨rfl,xs,e⟩ | ⟨rfl,xs,e⟩
    · exact .tup e
    · exact .lst e
  | byt b=>exact h.elim
  | flt b=>exact h.elim
  | ty n=>exact h.elim
theorem call_isinst:CallR X (.builtin "isinstance") (fun xs H Q=>∃ (x:V) (T C:String) (b:Bool),xs=[x,.ty C]∧kindV X.K H x T∧PySem.W.kitOne X.K (.type T) (.type C)=some b∧Q (.bl b) H):=by
  intro pins s σ H xs us Q I r h
  obtain ⟨x,T,C,b,rfl,ty,e,q⟩:=h
  obtain ⟨u,c,rfl,rx,rc⟩:=vals2 r
  cases (show c=Value.type C from rc)
  exact isinst_ok I rx (kind_ty ty) e fun tk=>⟨.bl b,H,I.tok tk,rfl,q⟩
theorem op_fdivB:OpR X (binaryOp .FloorDiv) (rI (fun _ j=>0 < j∧j < 2 ^ 62) fun i j=>.int (i / j)):=opI fun i j _ _ _ _ _ hc q=>by
  rw [← Int.fdiv_eq_ediv_of_nonneg i (Int.le_of_lt hc.1)] at q
  refine floordiv_int (by omega) q (.inl (PyProof.noPylong_of_log2 ?_))
  have h1:j.natAbs < 2 ^ 62:=by omega
  have h2:j.natAbs ≠ 0:=by omega
  have:=(Nat.log2_lt h2).mpr h1
  omega
end
end L2
namespace L2
open PySem PySem.Spec PyProof.Rows
def Raw (K:PySem.W.Frag)(mg:Str→Option Value)(x:Str)(ps:List Str)(st:Stmt):Prop :=
  ∃ (f:Addr) (fd:FuncData),Fun K x x st f fd∧mg x=some (.ref f)∧Binds K fd ps []
def Df (P:Program)(w:World)(K:PySem.W.Frag)(mg:Str→Option Value)(base:Heap)(k:Nat)(x:Str)(ps:List Str)(sp:Sp):Prop :=
  ∃ (f:Addr) (fd:FuncData),FnOk P w K mg base CX0 k f fd ps sp∧mg x=some (.ref f)∧PySem.W.keepIn K (.ref f)=true∧Binds K fd ps []∧∃ st,Fun K x x st f fd
section
variable {P:Program}{w:World}{K:PySem.W.Frag}{mg:Str→Option Value}{base:Heap}
theorem Raw.ok {x:Str}{ps N:List Str}{st:Stmt}{k:Nat}{sp:Sp}(R:Raw K mg x ps st)(S:FnScope N ps (defScope st))(len:∀ vs H Q E,sp vs H Q E→vs.length=ps.length)
    (hbody:∀ (f:Addr) (cdv:Value) (A:Around) (outer:List Env) (s:Shared) (H:Hp) (vs:List V) (Q:VK) (E:XK),Room k (A.deeper (envOfC x (defScope st) s.heap.objs.size f cdv))→sp vs H Q E →
      ∃ t,PSs (cxOf CX0 P w K mg base N x (defScope st) f cdv A outer s H E).nox (defBody st) t∧t { nx:=fun _ H'=>Q .non H',rt:=Q } (start N vs) H):Df P w K mg base (k + 1) x ps sp:=by
  obtain ⟨f,fd,F,m,b⟩:=R
  exact ⟨f,fd,F.ok S len (fun cdv A outer s H vs Q E hr h=>hbody f cdv A outer s H vs Q E hr h),m,F.kp,b,st,F⟩
end
theorem pe_df {X:Cx}{k:Nat}{x:Str}{ps:List Str}{sp:Sp}{p pos:Pos}{e:Expr}{es:List Expr}{t:TA}(D:Df X.prog X.w X.K X.mg X.base k x ps sp)(hr:Room k X.A)(ha:PA X (e :: es) t)(hg:Gl X x:=by rfl)
    (hdb:(x == ("__debug__" : Str))=false:=by decide) (he:starEach (e :: es) X.env=(false,eval e X.env) :: starEach es X.env:=by rfl) (hpl:(backTo pos (starEach es X.env)).any (·.1)=false:=by rfl) :
    PE X (.Call (.Name x p) (e :: es) [] pos) (tCall sp [] E0 t):=by
  obtain ⟨f,fd,F,m,kp,b,_⟩:=D
  exact pe_call F hr hg m kp b .nil pass0 ha hdb he hpl
def KeepBut (d:Addr)(H H':Hp):Prop:=∀ b o,H b=some o→b≠d→H' b=some o
theorem KeepBut.refl (d:Addr)(H:Hp):KeepBut d H H:=fun _ _ h _=>h
theorem KeepBut.trans {d:Addr}{H H1 H2:Hp}(a:KeepBut d H H1)(b:KeepBut d H1 H2):KeepBut d H H2:=fun c o h n=>b c o (a c o h n) n
theorem KeepBut.upd {d p:Addr}{H H1:Hp}{o:HO}(a:KeepBut d H H1)(hp:H1 p=none):KeepBut d H (upd H1 p o):=fun c u h n=>by
  rw [upd_ne (ne_of_none (a c u h n) hp)];exact a c u h n
structure DeckAt (H:Hp)(d c:Addr)(ns:List Int)(k:Nat)(r:Int)(m:Nat)(t:Int):Prop where
  deck:H d=some (.lst [.ref c,.int k,.int r,.int m,.int t])
  cut:H c=some (.lst (ns.map V.int))
  kle:k≤ns.length
  few:ns.length ≤ 63
  rnn:0≤r
def Deck (H:Hp)(d:Addr)(n:Nat):Prop:=∃ c ns k r m t,DeckAt H d c ns k r m t∧m≤n
theorem Deck.more {H:Hp}{d:Addr}{n m:Nat}(D:Deck H d n)(h:n≤m):Deck H d m:=let ⟨c,ns,k,r,j,t,D,hj⟩:=D;⟨c,ns,k,r,j,t,D,Nat.le_trans hj h⟩
theorem Deck.keep {H H':Hp}{d:Addr}{n:Nat}(D:Deck H d n)(h:Same H H'):Deck H' d n :=
  let ⟨c,ns,k,r,m,t,D,hm⟩:=D;⟨c,ns,k,r,m,t,⟨h _ _ D.deck,h _ _ D.cut,D.kle,D.few,D.rnn⟩,hm⟩
theorem Deck.upd {H:Hp}{d p:Addr}{n:Nat}{o:HO}(D:Deck H d n)(hp:H p=none):Deck (upd H p o) d n:=D.keep fun b u e=>by rw [upd_ne (ne_of_none e hp)];exact e
theorem same_upd {H:Hp}{p:Addr}{o:HO}(hp:H p=none):Same H (upd H p o):=fun b u e=>by rw [upd_ne (ne_of_none e hp)];exact e
theorem Same.tups {H H':Hp}(s:Same H H'):KeepT H H':=fun a xs e=>s a _ e
theorem Same.but {H H':Hp}(s:Same H H')(d:Addr):KeepBut d H H':=fun a o e _=>s a o e
end L2
namespace L2
open PySem PySem.Spec PyProof.Rows
section
variable {X:Cx}{tg l:Expr}
theorem op_eqA (hu:X.A.units + 64 < cLine):OpR X (compareOp .Eq) (fun x y H Q=>rEq x y H Q ∨ rEqD 0 x y H Q):=op_eq.or (op_eqD hu)
theorem op_neA (hu:X.A.units + 64 < cLine):OpR X (compareOp .NotEq) (fun x y H Q=>rNe x y H Q ∨ rNeD 0 x y H Q):=op_ne.or (op_neD hu)
theorem pi_or {w1 w2:TI}(h1:PI X tg l w1)(h2:PI X tg l w2):PI X tg l (fun σ H R=>w1 σ H R ∨ w2 σ H R):=fun pins s σ H R I h=>h.elim (h1 pins s σ H R I) (h2 pins s σ H R I)
theorem pi_seq {tl:TE}(hl:PE X l tl):PI X tg l (fun σ H R=>iList X.K tl σ H R ∨ iTup X.K tl σ H R):=pi_or (pi_list hl) (pi_tup hl)
end
theorem bt_tuple:bootBuiltins "tuple" = some (.type "tuple"):=by decide +kernel
theorem bt_list:bootBuiltins "list" = some (.type "list"):=by decide +kernel
theorem bt_range:bootBuiltins "range" = some (.type "range"):=by decide +kernel
theorem bt_len:bootBuiltins "len" = some (.builtin "len"):=by decide +kernel
theorem bt_sum:bootBuiltins "sum" = some (.builtin "sum"):=by decide +kernel
theorem bt_max:bootBuiltins "max" = some (.builtin "max"):=by decide +kernel
theorem bt_min:bootBuiltins "min" = some (.builtin "min"):=by decide +kernel
theorem bt_abs:bootBuiltins "abs" = some (.builtin "abs"):=by decide +kernel
theorem bt_isinstance:bootBuiltins "isinstance" = some (.builtin "isinstance"):=by decide +kernel
end L2
namespace L2
open PySem PySem.Spec PyProof.Rows
def compB (outer:List (Str × NameKind))(scope:Scope)(M:List Str)(idx:List Nat)(N:List Str):Bool :=
  scope.kind == .function && (scope.names.all fun y=>(y.2 != .local || scope.names.lookup y.1 == some .local) && (y.2 != .cell || scope.names.lookup y.1 == some .cell) && (y.2 != .free || (outer.lookup y.1 == some .cell || outer.lookup y.1 == some .free)))
    && idx.length == M.length && (M.zip idx).all fun p=>scope.names.lookup p.1 == some .free && N[p.2]? == some p.1
theorem compOk {X:Cx}{scope:Scope}{M:List Str}{idx:List Nat}(h:compB X.env.scope.names scope M idx X.N=true):CompOk X scope M idx:=by
  unfold compB at h
  simp only [Bool.and_eq_true] at h
  obtain ⟨⟨⟨h1,h2⟩,h3⟩,h4⟩:=h
  have h2':=List.all_eq_true.mp h2
  refine ⟨by simpa using h1,fun y hy e=>?_,fun y hy e=>?_,fun y hy e=>?_,by simpa using h3,fun j y ej=>?_⟩
  · have:=h2' y hy
    simp [e] at this
    exact this
  · have:=h2' y hy
    simp [e] at this
    exact this
  · have:=h2' y hy
    simp [e] at this
    exact this
  · have hl:idx.length=M.length:=by simpa using h3
    have hj:j < M.length:=(List.getElem?_eq_some_iff.mp ej).1
    have hk:idx[j]? = some (idx[j]'(by omega)):=by simp [hl,hj]
    have hz:(M.zip idx)[j]? = some (y,idx[j]'(by omega)):=by
      rw [List.getElem?_zip_eq_some]
      exact ⟨ej,hk⟩
    have:=List.all_eq_true.mp h4 _ (List.mem_of_getElem? hz)
    simp only [Bool.and_eq_true,beq_iff_eq] at this
    exact ⟨this.1,_,hk,this.2⟩
end L2
namespace L2
open PySem PySem.Spec PyProof.Rows
def SpLaw (K:PySem.W.Frag):Sp:=fun vs H Q _=>∃ (a:Addr) (ns:List Int),vs=[.ref a]∧SqL K H a (ns.map V.int)∧ns.length ≤ 63∧∀ H',Q (.bl true) H'
theorem walk_df {l:PySem.W.OpenLaw}{k:Nat}{q:Program}{loose:List Str}{XP:(Str→Option Value)→Heap→Prop}{YP:World→Heap→Prop}{d:DefRec}{K:Params→PySem.W.Frag}{st:Stmt}
    (hn:l.most=some 63) (hdf:d.params.defaults=[]) (hdn:d.name = "law") (hr:Room k callerA)
    (hY:∀ (w:World) (h:Heap),YP w h→(K w.params).In h)
    (hbind:∀ (kV doc pm:Value) (an:Option Addr) (cdv ct v:Value),bindArgs (PySem.W.fnOf "law" "law" (defArgs st) (defBody st) (defScope st) .none kV doc pm an cdv ct) ⟨[v],[]⟩=pure [(("script" : Str),v)])
    (F:∀ (w:World) (mg:Str→Option Value) (h:Heap),(K w.params).In h→h.Ns mainGlobals mg→Raw (K w.params) mg "law" ["script"] st∧∀ base:Heap,Df l.prog w (K w.params) mg base k "law" ["script"] (SpLaw (K w.params))) :
    PySem.W.WalkO q loose XP YP l.row.toRowW d [] (fun f vs=>PySem.call f vs):=by
  refine L2.walk_of (n:=63) (k:=k) (x := "script") (CX:=fun _=>CX0) (sp:=fun w=>SpLaw (K w.params)) hn (by decide) hdf hr hY (fun w mg fa h KX G hmg=>?_) (fun w H a ns hl _ hS=>⟨a,ns,rfl,hS,hl,fun _=>rfl⟩) fun _ _ _ _ _ z=>z
  obtain ⟨⟨f,fd,R,m,b⟩,D⟩:=F w mg h KX G
  rw [hdn] at hmg
  have e:=hmg.symm.trans m
  cases e
  obtain ⟨oc,od,kV,doc,pm,an,cdv,ct,osl,e1,e2,_⟩:=R.ex
  refine ⟨fd,fun s v=>.of_eq (by rw [e1];exact hbind kV doc pm an cdv ct v),fun base _ _=>?_⟩
  obtain ⟨f',fd',G',m',_,_,st',R'⟩:=D base
  have e:=hmg.symm.trans m'
  cases e
  obtain ⟨oc',od',kV',doc',pm',an',cdv',ct',osl',e1',e2',_⟩:=R'.ex
  rw [e2] at e2'
  cases e2'
  exact G'
end L2
namespace L2
open PySem PySem.Spec PyProof.Rows
end L2
namespace L2
theorem tSeq_cut {t u:TS}{D:Ends}{σ:St}{H:Hp}(R:St→Hp→Prop)(hu:∀ σ H,R σ H→u D σ H)(ht:(∀ σ H,R σ H→u D σ H)→t { D with nx:=u D } σ H):tSeq t u D σ H:=ht hu
end L2
namespace L2
open PySem PySem.Spec PyProof.Rows
section
variable {X:Cx}{K:PySem.W.Frag}{tg l a b:Expr}{ta tb tl:TE}{pos:Pos}
theorem call_lenK (h:X.K=K):CallR X (.builtin "len") (fun xs H Q=>∃ x n,xs=[x]∧LenV K x H n∧Q (.int n) H):=by subst h;exact call_len
theorem call_tupleK (h:X.K=K):CallR X (.type "tuple") (fun xs H Q=>∃ p ys,xs=[.ref p]∧((SqL K H p ys∧∀ l,H l=none→Q (.ref l) (upd H l (.tup ys))) ∨ (SqT K H p ys∧Q (.ref p) H))):=by subst h;exact call_tuple_of
theorem call_listK (h:X.K=K):CallR X (.type "list") (fun xs H Q=>∃ p ys,xs=[.ref p]∧(SqL K H p ys ∨ SqT K H p ys)∧∀ l,H l=none→Q (.ref l) (upd H l (.lst ys))):=by subst h;exact call_list_of
theorem call_sumK (h:X.K=K) (hc:X.calm=true):CallR X (.builtin "sum") (fun xs H Q=>∃ (p:Addr) (ns:List Int),xs=[.ref p]∧SqL K H p (ns.map V.int)∧Q (.int ns.sum) H):=by subst h;exact call_sum hc
theorem call_isinstK (h:X.K=K):CallR X (.builtin "isinstance") (fun xs H Q=>∃ (x:V) (T C:String) (b:Bool),xs=[x,.ty C]∧kindV K H x T∧PySem.W.kitOne K (.type T) (.type C)=some b∧Q (.bl b) H):=by subst h;exact call_isinst
theorem ix_seqK (h:X.K=K):IxR X (rIx K):=by subst h;exact ix_seq
theorem pi_seqK (h:X.K=K)(hl:PE X l tl):PI X tg l (fun σ H R=>iList K tl σ H R ∨ iTup K tl σ H R):=by subst h;exact pi_seq hl
theorem pg_tupK {es:List Expr}{k:Nat}{t:TGs}{n:Nat}(h:X.K=K)(hc:X.calm=true)(hg:PGs X es t)
    (hn:(assignEach es X.env).length=n:=by rfl) (hst:(assignEach es X.env).findIdx? (·.1)=none:=by rfl):PG X (.Tuple es k pos) (gTup K n t):=by subst h;exact pg_tup hc hg hn hst
end
end L2
namespace L2
theorem oneT {te:TE}{σ:St}{x:V}{H:Hp}{k:Option V→Hp→Prop}(h:te (some x :: σ) H fun v H2=>k (some v) H2):oneOf ttTrue te σ x H k:=by
  show if true=true then (te (some x :: σ) H fun v H2=>k (some v) H2) else k none H
  rw [if_pos rfl]
  exact h
end L2
namespace L2
open PySem PySem.Spec PyProof.Rows
end L2
namespace L2
end L2
namespace L2
end L2
namespace L2
open PySem PySem.Spec PyProof.Rows
def cellV:Option Int→V
  | none=>.non
  | some i=>.int i
def cellD:Option Int→PyData
  | none=>.none
  | some i=>.int i
def rowD (r:List (Option Int)):PyData:=.tuple (r.map cellD)
def fieldD (F:List (List (Option Int))):PyData:=.tuple (F.map rowD)
theorem isCell {H:Hp}:∀ c:Option Int,IsD H (cellV c) (cellD c)
  | none=>.non
  | some i=>.int i
theorem isCells {H:Hp}:∀ r:List (Option Int),IsDs H (r.map cellV) (r.map cellD)
  | []=>.nil
  | c :: r=>.cons (isCell c) (isCells r)
theorem IsD.cell_inv {H:Hp}{v:V}:∀ {c:Option Int},IsD H v (cellD c)→v=cellV c
  | none,h=>by cases h;rfl
  | some i,h=>by cases h;rfl
theorem IsDs.cells_inv {H:Hp}:∀ {xs:List V} {r:List (Option Int)},IsDs H xs (r.map cellD)→xs=r.map cellV
  | _,[],h=>by cases h;rfl
  | _,c :: r,h=>by
    cases h with
    | cons h1 h2=>rw [IsD.cell_inv h1,IsDs.cells_inv h2];rfl
theorem isRow_inv {H:Hp}{v:V}{r:List (Option Int)}(h:IsD H v (rowD r)):∃ a,v = .ref a∧H a=some (.tup (r.map cellV)):=by
  obtain ⟨a,xs,e,h1,h2⟩:=h.tuple_inv
  rw [IsDs.cells_inv h2] at h1
  exact ⟨a,e,h1⟩
theorem isField_inv {H:Hp}{v:V}{F:List (List (Option Int))}(h:IsD H v (fieldD F)):∃ a xs,v = .ref a∧H a=some (.tup xs)∧IsDs H xs (F.map rowD):=h.tuple_inv
theorem isRows_get {H:Hp}{xs:List V}{F:List (List (Option Int))}{i:Nat}(h:IsDs H xs (F.map rowD))(hi:i < F.length):∃ a,xs[i]? = some (.ref a)∧H a=some (.tup (F[i].map cellV)):=by
  obtain ⟨x,e1,e2⟩:=h.get (i:=i) (d:=rowD F[i]) (by simp [hi])
  obtain ⟨a,e3,e4⟩:=isRow_inv e2
  exact ⟨a,by rw [e1,e3],e4⟩
def CellOk (c:Option Int):Prop:=∀ i,c=some i→-1000000000≤i∧i≤1000000000
structure FieldOk (F:List (List (Option Int)))(h w:Nat):Prop where
  len:F.length=h
  h1:1≤h
  h12:h≤12
  w1:1≤w
  w12:w≤12
  row:∀ r∈F,r.length=w
  cell:∀ r∈F,∀ c∈r,CellOk c
theorem atI_mem {α:Type}{xs:List α}{i:Int}(h0:0≤i)(h1:i < xs.length):∃ v,atI xs i=some v∧v∈xs:=by
  obtain ⟨j,rfl⟩:=Int.eq_ofNat_of_zero_le h0
  have hj:j < xs.length:=by omega
  exact ⟨xs[j],atI_nat (by simp [hj]),List.getElem_mem hj⟩
theorem canLay_cell (c:Option Int):(cellD c).canLay0=true:=by cases c <;> rfl
theorem canLay_cells:∀ r:List (Option Int),PyData.canLayAll0 (r.map cellD)=true
  | []=>rfl
  | c :: r=>by rw [List.map_cons,PyData.canLayAll0,canLay_cell,canLay_cells r];rfl
theorem canLay_row (r:List (Option Int)):(rowD r).canLay0=true:=canLay_cells r
theorem canLay_rows:∀ F:List (List (Option Int)),PyData.canLayAll0 (F.map rowD)=true
  | []=>rfl
  | c :: r=>by rw [List.map_cons,PyData.canLayAll0,canLay_row,canLay_rows r];rfl
theorem canLay_field (F:List (List (Option Int))):(fieldD F).canLay0=true:=canLay_rows F
theorem depth_cell (c:Option Int):(cellD c).depth=0:=by cases c <;> rfl
theorem depth_cells:∀ r:List (Option Int),PyData.depthAll (r.map cellD)=0
  | []=>rfl
  | c :: r=>by rw [List.map_cons,PyData.depthAll,depth_cell,depth_cells r];rfl
theorem depth_row (r:List (Option Int)):(rowD r).depth=1:=by
  show PyData.depthAll (r.map cellD) + 1=1
  rw [depth_cells]
theorem depth_rows:∀ F:List (List (Option Int)),PyData.depthAll (F.map rowD)≤1
  | []=>Nat.zero_le _
  | c :: r=>by rw [List.map_cons,PyData.depthAll,depth_row];exact Nat.max_le.mpr ⟨Nat.le_refl _,depth_rows r⟩
theorem depth_field (F:List (List (Option Int))):(fieldD F).depth ≤ 20:=by
  have:=depth_rows F
  show PyData.depthAll (F.map rowD) + 1≤20
  omega
theorem eqv_cell (a b:Option Int):PyData.eqv (cellD a) (cellD b)=decide (a=b):=by
  cases a with
  | none=>cases b <;> rfl
  | some i =>
    cases b with
    | none=>rfl
    | some j =>
      show (i == j)=decide (some i=some j)
      by_cases h:i=j
      · subst h;simp
      · have:¬ (some i=some j):=fun e=>h (Option.some.inj e)
        rw [decide_eq_false this];simpa using h
theorem eqv_cells:∀ a b:List (Option Int),PyData.eqvAll (a.map cellD) (b.map cellD)=decide (a=b)
  | [],[]=>rfl
  | [],_ :: _=>rfl
  | _ :: _,[]=>rfl
  | x :: a,y :: b=>by
    rw [List.map_cons,List.map_cons,PyData.eqvAll,eqv_cell,eqv_cells a b]
    by_cases h1:x=y
    · by_cases h2:a=b
      · simp [h1,h2]
      · simp [h1,h2]
    · simp [h1]
theorem eqv_row (a b:List (Option Int)):PyData.eqv (rowD a) (rowD b)=decide (a=b):=by
  show PyData.eqv (.tuple _) (.tuple _)=_
  rw [PyData.eqv];exact eqv_cells a b
theorem eqv_rows:∀ a b:List (List (Option Int)),PyData.eqvAll (a.map rowD) (b.map rowD)=decide (a=b)
  | [],[]=>rfl
  | [],_ :: _=>rfl
  | _ :: _,[]=>rfl
  | x :: a,y :: b=>by
    rw [List.map_cons,List.map_cons,PyData.eqvAll,eqv_row,eqv_rows a b]
    by_cases h1:x=y
    · by_cases h2:a=b
      · simp [h1,h2]
      · simp [h1,h2]
    · simp [h1]
theorem eqv_field (a b:List (List (Option Int))):PyData.eqv (fieldD a) (fieldD b)=decide (a=b):=by
  show PyData.eqv (.tuple _) (.tuple _)=_
  rw [PyData.eqv];exact eqv_rows a b
theorem cmp_field {u:Nat}(a b:List (List (Option Int))):CmpD u (fieldD a) (fieldD b):=⟨canLay_field a,canLay_field b,depth_field a⟩
end L2
namespace L2
open PySem PySem.Spec PyProof.Rows
end L2
namespace L2
open PySem PySem.Spec PyProof.Rows
inductive Rule where
  | there | near | turned | round | told (c:Option Int)
def ruleD:Rule→PyData
  | .there=>.str "there"
  | .near=>.str "near"
  | .turned=>.str "turned"
  | .round=>.str "round"
  | .told c=>.tuple [.str "told",cellD c]
def led:Rule→Int→Int→Int
  | .near,p,n=>min (max p 0) (n - 1)
  | .turned,p,n=>min (p % (2 * n)) (2 * n - 1 - p % (2 * n))
  | _,p,n=>p % n
theorem led_in (r:Rule)(p:Int){n:Int}(h:1≤n):0≤led r p n∧led r p n < n:=by
  have a:=Int.emod_nonneg p (show n≠0 by omega)
  have b:=Int.emod_lt_of_pos p (show 0 < n by omega)
  have c:=Int.emod_nonneg p (show 2 * n≠0 by omega)
  have d:=Int.emod_lt_of_pos p (show 0 < 2 * n by omega)
  cases r <;> simp only [led] <;> omega
theorem led_id (r:Rule){p n:Int}(h0:0≤p)(h1:p < n):led r p n=p:=by
  have a:=Int.emod_eq_of_lt h0 h1
  have b:=Int.emod_eq_of_lt h0 (show p < 2 * n by omega)
  cases r <;> simp only [led] <;> omega
def cellAt (F:List (List (Option Int)))(i j:Int):Option Int:=((F[i.toNat]?).bind fun r=>r[j.toNat]?).join
def inF (F:List (List (Option Int)))(i j:Int):Bool:=decide (0≤i) && decide (i < F.length) && (decide (0≤j) && decide (j < (F.headD []).length))
def stands (F:List (List (Option Int)))(r:Rule)(i j:Int):List (Option Int) :=
  if inF F i j then [cellAt F i j] else match r with
    | .there=>[]
    | .told c=>[c]
    | r=>[cellAt F (led r i F.length) (led r j (F.headD []).length)]
structure Rect (F:List (List (Option Int))):Prop where
  h1:1≤F.length
  hs:F.length ≤ 1000
  w1:1≤(F.headD []).length
  ws:(F.headD []).length ≤ 1000
  row:∀ r∈F,r.length=(F.headD []).length
theorem FieldOk.rect {F:List (List (Option Int))}{h w:Nat}(o:FieldOk F h w):Rect F∧(F.headD []).length=w∧F.length=h:=by
  obtain ⟨len,h1,h12,w1,w12,row,cell⟩:=o
  cases F with
  | nil=>simp at len;omega
  | cons r F =>
    have e:r.length=w:=row r List.mem_cons_self
    refine ⟨⟨by omega,by omega,?_,?_,?_⟩,e,len⟩
    · show 1≤r.length;omega
    · show r.length ≤ 1000;omega
    · intro r' hr'
      show r'.length=r.length
      rw [row r' hr',e]
theorem field_cell {H:Hp}{v:V}{F:List (List (Option Int))}(R:Rect F)(h:IsD H v (fieldD F)){i j:Int}(i0:0≤i)(i1:i < F.length)(j0:0≤j)(j1:j < (F.headD []).length) :
    ∃ (a:Addr) (xs:List V) (b:Addr) (r:List (Option Int)),v = .ref a∧H a=some (.tup xs)∧atI xs i=some (.ref b)∧H b=some (.tup (r.map cellV))∧atI (r.map cellV) j=some (cellV (cellAt F i j))∧(r.map cellV).length=(F.headD []).length:=by
  obtain ⟨a,xs,e,h1,h2⟩:=isField_inv h
  obtain ⟨i',rfl⟩:=Int.eq_ofNat_of_zero_le i0
  obtain ⟨j',rfl⟩:=Int.eq_ofNat_of_zero_le j0
  have hi:i' < F.length:=by omega
  obtain ⟨b,e2,h3⟩:=isRows_get h2 hi
  have hw:=R.row F[i'] (List.getElem_mem hi)
  have hj:j' < F[i'].length:=by omega
  refine ⟨a,xs,b,F[i'],e,h1,atI_nat e2,h3,?_,by rw [List.length_map];exact hw⟩
  have e3:cellAt F (i':Int) (j':Int)=F[i'][j']:=by
    unfold cellAt
    simp [hi,hj]
  rw [e3]
  exact atI_nat (by simp [hj])
theorem field_sizes {H:Hp}{v:V}{F:List (List (Option Int))}(R:Rect F)(h:IsD H v (fieldD F)) :
    ∃ (a:Addr) (xs:List V) (b:Addr) (ys:List V),v = .ref a∧H a=some (.tup xs)∧xs.length=F.length ∧ atI xs 0=some (.ref b)∧H b=some (.tup ys)∧ys.length=(F.headD []).length:=by
  obtain ⟨a,xs,e,h1,h2⟩:=isField_inv h
  have hi:0 < F.length:=R.h1
  obtain ⟨b,e2,h3⟩:=isRows_get h2 hi
  refine ⟨a,xs,b,_,e,h1,by rw [h2.length,List.length_map],atI_nat e2,h3,?_⟩
  rw [List.length_map]
  exact R.row _ (List.getElem_mem hi)
theorem rule_str {H:Hp}{v:V}{x:Str}(h:IsD H v (.str x)):v = .str x:=by cases h;rfl
end L2
namespace L2
open PySem PySem.Spec PyProof.Rows
theorem stands_len (F:List (List (Option Int)))(r:Rule)(i j:Int):(stands F r i j).length ≤ 1:=by
  unfold stands
  split
  · exact Nat.le_refl _
  · split <;> simp
end L2
namespace L2
open PySem PySem.Spec PyProof.Rows
end L2
namespace L2
open PySem PySem.Spec PyProof.Rows
section
open PySem.AutoSeq1 PySem.MeetsSeq PySem.MeetsSeq2 PySem.MeetsSeq3
set_option maxHeartbeats 4000000 in
theorem extend_tuple_meets (l:Addr)(items:Array Value)(n:Nat)(b:Addr)(items2:Array Value)(n2:Nat)(dd:Option Addr)(sl:Array (Option Value))(hs0:¬(!items.isEmpty && Builtin.List.listTooLong (items.size + items2.size))=true)(hs1:items.size ≤ sizeLine)(hs2:items.size + items2.size ≤ sizeLine + 1) :
    Meets (Builtin.«list.extend» ⟨[.ref l,.ref b],[]⟩) (fun _ R s=>s.heap.get? l=some { cls:=.type "list",dict:=none,data:=.seq items n,slots:=#[] }∧s.heap.get? b=some { cls:=.type "tuple",dict:=dd,data:=.seq items2 n2,slots:=sl }∧R (.ok (.ret Value.none)) { s with heap:=s.heap.update l (Obj.mapSeq fun x=>x ++ items2),toks:=s.toks }) :=
  .of_wp fun prog w A R s h=>by
    obtain ⟨hp,g,d,tk,os⟩:=s;obtain ⟨hl,hb,h⟩:=h;have f1:=idx_int;have f2:=PySem.AutoSeq1.sub_tuple_tuple;have f3:=PySem.AutoSeq1.sub_list_list;have f4:=PySem.AutoSeq1.sub_tuple_list;have f5:=PySem.AutoSeq1.sub_list_tuple;
    have hz':(items ++ items2).size ≤ sizeLine + 1:=by rw [Array.size_append];exact hs2
    wp_walk using (wpAny_updateSeq hl rfl (hz:=hs1) (_hz':=hz')),wpAny_loadPart' hl,wpAny_loadPart' hb;exact ⟨_,rfl,h⟩
end
section
variable {X:Cx}
def rExtendT:V→List V→Hp→VK→Prop:=fun x vs H Q=>∃ l b xs zs,x = .ref l∧vs=[.ref b]∧H l=some (.lst xs)∧H b=some (.tup zs)∧xs.length + zs.length ≤ sizeLine∧Q .non (upd H l (.lst (xs ++ zs)))
theorem mt_extendT:MtM X "list.extend" rExtendT:=by
  intro pins s σ H x vs v us Q I rx rv h
  obtain ⟨l,b,xs,zs,rfl,rfl,hH,hB,hz,q⟩:=h
  cases rx
  obtain ⟨u,rfl,ru⟩:=rv.one
  cases ru
  obtain ⟨z,its,n,r,hl,e⟩:=I.lstM hH
  obtain ⟨z2,its2,r2,⟨oc,od,odt,osl⟩,e2,c2,n2,d2⟩:=(show ObjOk X.prog X.w H s.heap b (.tup zs) from I.hok b _ hB)
  simp only at c2 d2
  subst c2 d2
  have hl2:=r2.length
  have hsz:its.toArray.size + its2.toArray.size ≤ sizeLine:=by rw [List.size_toArray,List.size_toArray];omega
  have hlong:¬ (!its.toArray.isEmpty && Builtin.List.listTooLong (its.toArray.size + its2.toArray.size))=true:=by
    rw [notLongL hsz,Bool.and_false]
    exact Bool.false_ne_true
  refine call_meets F.slot_list_extend ⟨_,e,rfl⟩ F.entry_list_extend (F.args_list_extend_2 _ _)
    (extend_tuple_meets l its.toArray n b its2.toArray n2 od osl hlong (by rw [List.size_toArray];omega) (by omega)) ⟨e,e2,?_⟩
  refine ⟨.non,_,I.lset (its':=its ++ its2) hH e (by simp) (r.append r2) ?_,rfl,q⟩
  rw [List.length_append]
  omega
def upInts (lo:Int)(n:Nat):List V:=(List.range n).map fun i=>V.int (lo + (i:Nat))
theorem call_range2V:CallR X (.type "range") (fun xs H Q=>∃ i j:Int,xs=[.int i,.int j]∧∀ p,H p=none→Q (.ref p) (upd H p (.rng i j))):=by
  intro pins s σ H xs us Q I r h
  obtain ⟨i,j,rfl,q⟩:=h
  obtain ⟨u,w',rfl,⟨t,rfl⟩,⟨t',rfl⟩⟩:=vals2 r
  refine call_range_2 ?_
  exact ⟨.ref s.heap.objs.size,_,I.laid (o:=.rng i j) (fun b u e=>Heap.get?_push_of_some _ e) (Nat.le_refl _) ⟨t,t',s.toks,Heap.get?_push_size _ rfl⟩,rfl,q _ (I.hok.fresh (Nat.le_refl _))⟩
theorem vals_up {lo:Int}:∀ {n:Nat} {acc:List Value},acc.length=n→(∀ (j:Nat) v,acc[j]? = some v→∃ t,v=Value.int (lo + j * 1) t)→Vals (upInts lo n) acc:=by
  intro n
  induction n with
  | zero=>intro acc hl _;have e:=List.length_eq_zero_iff.mp hl;subst e;exact .nil
  | succ n ih =>
    intro acc hl h
    obtain ⟨init,x,rfl⟩:∃ init x,acc=init ++ [x]:=by
      have hne:acc≠[]:=by intro e;rw [e] at hl;cases hl
      exact ⟨acc.dropLast,acc.getLast hne,(List.dropLast_concat_getLast hne).symm⟩
    have hli:init.length=n:=by rw [List.length_append] at hl;simpa using hl
    have e1:upInts lo (n + 1)=upInts lo n ++ [.int (lo + (n:Nat))]:=by
      unfold upInts
      rw [List.range_succ,List.map_append]
      rfl
    rw [e1]
    refine (ih hli fun j v e=>h j v ?_).append (.cons ?_ .nil)
    · rw [List.getElem?_append_left (List.getElem?_eq_some_iff.mp e).1];exact e
    · obtain ⟨t,e⟩:=h n x (by rw [← hli];simp)
      exact ⟨t,by rw [e,Int.mul_one]⟩
theorem upInts_len (lo:Int)(n:Nat):(upInts lo n).length=n:=by unfold upInts;rw [List.length_map,List.length_range]
theorem call_list_rng (hc:X.calm=true):CallR X (.type "list") (fun xs H Q=>∃ (p:Addr) (i j:Int),xs=[.ref p]∧H p=some (.rng i j)∧(-(2 ^ 62)≤i∧i < 2 ^ 62∧-(2 ^ 62)≤j∧j < 2 ^ 62)∧(j - i).toNat ≤ 2 ^ 20 ∧
    ∀ l,H l=none→Q (.ref l) (upd H l (.lst (upInts i (j - i).toNat)))):=by
  intro pins s σ H xs us Q I r h
  obtain ⟨p,i,j,rfl,hp,⟨b1,b2,b3,b4⟩,hn,q⟩:=h
  obtain ⟨u,rfl,e⟩:=vals1 r
  obtain rfl:u=Value.ref p:=e
  obtain ⟨t,u,v,hr⟩:=(show ObjOk X.prog X.w H s.heap p (.rng i j) from I.hok p _ hp)
  refine call_list_range (n:=(j - i).toNat) (I.ok.hd hc) hr (small_one b1 b2 b3 b4) (by rw [rangeSize_one];split <;> omega) (Nat.le_trans hn (by decide)) fun h' tk acc' c' hk hS hacc=>?_
  have hv:Vals (upInts i (j - i).toNat) acc'.toList:=vals_up (by simpa using hacc.1) fun k v e=>hacc.2 k v (by simpa using e)
  refine ⟨.ref s.heap.objs.size,_,I.laid (o:=.lst (upInts i (j - i).toNat)) hk (Nat.le_refl _) ⟨by rw [upInts_len];exact Nat.le_trans hn (by decide),acc'.toList,c',hv,by simpa using hS⟩,rfl,q _ (I.hok.fresh (Nat.le_refl _))⟩
end
end L2
namespace L2
open PySem PySem.Spec PyProof.Rows
def winD (u d l r:Nat):PyData:=.tuple [.int u,.int d,.int l,.int r]
theorem isWin_inv {H:Hp}{v:V}{u d l r:Nat}(h:IsD H v (winD u d l r)):∃ a,v = .ref a∧H a=some (.tup [.int u,.int d,.int l,.int r]):=by
  obtain ⟨a,xs,e,h1,h2⟩:=h.tuple_inv
  cases h2 with
  | cons a1 h2=>cases a1;cases h2 with
    | cons a2 h2=>cases a2;cases h2 with
      | cons a3 h2=>cases a3;cases h2 with
        | cons a4 h2=>cases a4;cases h2;exact ⟨a,e,h1⟩
theorem isWin {H:Hp}{a:Addr}{u d l r:Nat}(h:H a=some (.tup [.int u,.int d,.int l,.int r])):IsD H (.ref a) (winD u d l r):=.tup h (.cons (.int _) (.cons (.int _) (.cons (.int _) (.cons (.int _) .nil))))
def rowCells (F:List (List (Option Int)))(ru:Rule)(l r:Nat)(row j:Int):List (Option Int):=(List.range (l + r + 1)).flatMap fun b=>stands F ru row (j - l + (b:Nat))
def wc (F:List (List (Option Int)))(ru:Rule)(u d l r:Nat)(i j:Int):List (Option Int):=(List.range (u + d + 1)).flatMap fun a=>rowCells F ru l r (i - u + (a:Nat)) j
theorem flatMap_succ {α:Type}(f:Nat→List α)(n:Nat):(List.range (n + 1)).flatMap f=(List.range n).flatMap f ++ f n:=by
  rw [List.range_succ,List.flatMap_append]
  simp
theorem flatMap_len {α:Type}(f:Nat→List α){m:Nat}(h:∀ k,(f k).length ≤ m):∀ n,((List.range n).flatMap f).length ≤ n * m
  | 0=>by simp
  | n + 1=>by
    rw [flatMap_succ,List.length_append,Nat.succ_mul]
    exact Nat.add_le_add (flatMap_len f h n) (h n)
theorem rowCells_len (F:List (List (Option Int)))(ru:Rule)(l r:Nat)(row j:Int):(rowCells F ru l r row j).length ≤ l + r + 1:=by
  have:=flatMap_len (fun b=>stands F ru row (j - l + (b:Nat))) (m:=1) (fun k=>stands_len _ _ _ _) (l + r + 1)
  rw [Nat.mul_one] at this
  exact this
theorem wc_len (F:List (List (Option Int)))(ru:Rule)(u d l r:Nat)(i j:Int):(wc F ru u d l r i j).length ≤ (u + d + 1) * (l + r + 1) :=
  flatMap_len _ (fun k=>rowCells_len _ _ _ _ _ _) _
end L2
namespace L2
end L2
namespace HT
open PySem PyProof.Rows
section
variable {prog:Program}{w:World}{A:Around}{E:Value→Shared→Prop}{s:Shared}
set_option maxHeartbeats 4000000 in
theorem getItem_tuple_whole {t sl:Addr}{items:Array Value}{vl vu:Value}{lo hi:Option Int}{Q:Value→Shared→Prop}(ht:IsTup s.heap t items)(hs:s.heap.IsSliceOf sl vl vu .none)(pl:IsPart vl lo)(pu:IsPart vu hi)
    (hw:sIx items.size 0 lo=0∧sIx items.size items.size hi=items.size) (h:Q (.ref t) s):wpAny (model prog w) A (getItem (.ref t) (.ref sl)) Q E s:=by
  obtain ⟨os,hos,hcs,hds⟩:=id hs
  have hTs:s.TypeIs (.ref sl) "slice":=⟨os,hos,hcs⟩
  unfold getItem
  try with_reducible refine wpAny_holding ?_
  first | refine wpAny_bind (wpAny_pure ?_) | skip
  refine wpAny_bind (wpAny_sequenceKey ht.typeIs (by decide) ?_)
  refine wpAny_bind (wpAny_callSpecial?_slot (name:=Str.ofString "__getitem__") ht.typeIs PyProof.Rows.slot_tuple_getitem
    (wpAny_call_entry PyProof.Rows.slot_tuple_getitem ht.typeIs entry_tuple_getitem ?_ (args_tuple_getitem _ _)))
  show wpAny _ _ (Builtin.Tuple.tupleItemsOf (.ref t) >>= _) _ _ s
  refine wpAny_bind (tupleItemsOf_ ht ?_)
  refine wpAny_bind (wpAny_typeOf hTs ?_)
  rw [if_pos (by decide)]
  refine wpAny_bind (sliceApplied_gen hs pl pu ?_)
  rw [hw.1,hw.2]
  show wpAny _ _ (if ((((0:Nat):Int) == 0 && (1:Int) == 1 && (items.size - 0) == items.size)=true) then _ else _) _ _ s
  rw [if_pos (by simp)]
  refine wpAny_bind ?_
  unfold Builtin.Tuple.tupleIsExact
  refine wpAny_bind (wpAny_typeOf ht.typeIs (wpAny_pure ?_))
  rw [if_pos (by decide)]
  first
    | exact wpAny_bind (wpAny_rule (wpAny_bind (wpAny_pure (wpAny_pure ⟨_,rfl,wpAny_pure h⟩))))
    | exact wpAny_bind (wpAny_rule (wpAny_pure ⟨_,rfl,wpAny_pure h⟩))
    | exact wpAny_rule (wpAny_bind (wpAny_pure (wpAny_pure ⟨_,rfl,wpAny_pure h⟩)))
end
end HT
namespace L2
open PySem PySem.Spec PyProof.Rows
section
variable {X:Cx}
def rSlTA:V→Option Int→Option Int→Hp→VK→Prop:=fun x lo hi H Q=>∃ a xs,x = .ref a∧H a=some (.tup xs)∧∀ p H',Same H H'→H' p=some (.tup (cutV xs lo hi))→Q (.ref p) H'
theorem sl_tupA:SlR X rSlTA:=by
  intro pins s σ H x v vl vu lo hi sl Q I rx hs pl pu h
  obtain ⟨a,xs,rfl,hx,q⟩:=h
  by_cases hw:HT.sIx xs.length 0 lo=0∧HT.sIx xs.length xs.length hi=xs.length
  · cases rx
    obtain ⟨its,r,ht,hz⟩:=I.tuple (SqT.of hx)
    have hlen:its.toArray.size=xs.length:=by rw [List.size_toArray];exact r.length.symm
    refine ⟨"tuple",_,PyProof.Rows.slot_tuple_getitem.lookup,ht.typeIs,?_⟩
    refine HT.getItem_tuple_whole ht hs pl pu (by rw [hlen];exact hw) ⟨.ref a,H,I,rfl,q a H (Same.refl H) ?_⟩
    rw [hx]
    unfold cutV
    rw [hw.1,hw.2,List.drop_zero,Nat.sub_zero,List.take_of_length_le (Nat.le_refl _)]
  · exact sl_tup pins s σ H _ v vl vu lo hi sl Q I rx hs pl pu ⟨a,xs,rfl,SqT.of hx,hw,fun p hp=>q p _ (same_upd hp) upd_same⟩
def rCatTA:R2:=fun x y H Q=>∃ a b xs ys,x = .ref a∧y = .ref b∧H a=some (.tup xs)∧H b=some (.tup ys)∧xs.length + ys.length ≤ sizeLine∧∀ p H',Same H H'→H' p=some (.tup (xs ++ ys))→Q (.ref p) H'
theorem op_catTA:OpR X (binaryOp .Add) rCatTA:=by
  intro pins s σ H x y v u Q I rx ry h
  obtain ⟨a,b,xs,ys,rfl,rfl,ha,hb,hz,q⟩:=h
  by_cases hx:xs=[]
  · subst hx
    cases rx
    cases ry
    obtain ⟨its,r1,⟨⟨cls,dd,data,sl⟩,ho,hc,n,hd⟩,_⟩:=I.tuple (SqT.of ha)
    obtain ⟨its2,r2,⟨⟨cls2,dd2,data2,sl2⟩,ho2,hc2,n2,hd2⟩,_⟩:=I.tuple (SqT.of hb)
    simp only at hc hd hc2 hd2
    subst hc hd hc2 hd2
    have e:its=[]:=r1.nil_iff.mpr rfl
    exact concat_meets ⟨_,ho,rfl⟩ ⟨_,ho2,rfl⟩ noFill_tuple_add seq_tuple_add PySem.F.slot_tuple_add PySem.F.entry_tuple_add (PySem.F.args_tuple_add_2 _ _)
      (tuple_addW0 a b its.toArray its2.toArray n n2 dd dd2 sl sl2 (by simp [e])) ⟨ho,ho2,⟨.ref b,H,I,rfl,q b H (Same.refl H) (by rw [hb];rfl)⟩⟩
  · refine op_catT pins s σ H _ _ v u Q I rx ry ⟨a,b,xs,ys,rfl,rfl,SqT.of ha,SqT.of hb,hx,hz,fun e=>q a H (Same.refl H) (by rw [ha,e,List.append_nil]),fun _ p hp=>q p _ (same_upd hp) upd_same⟩
def rEqL:R2:=fun x y H Q=>∃ p q xs ys dx dy,x = .ref p∧y = .ref q∧H p=some (.lst xs)∧H q=some (.lst ys)∧IsDs H xs dx∧IsDs H ys dy∧CmpD 0 (.list dx) (.list dy)∧Q (.bl (PyData.eqvAll dx dy)) H
theorem list_reads {P:Program}{w:World}{H:Hp}{h:Heap}(I:HOk P w H h){p:Addr}{xs:List V}{dx:List PyData}(hp:H p=some (.lst xs))(hd:IsDs H xs dx):∃ as,Reads h (.ref p) (.list dx) as:=by
  obtain ⟨_,its,n,r,e⟩:=(show ObjOk P w H h p (.lst xs) from I p _ hp)
  obtain ⟨as,hr⟩:=hd.reads I r
  exact ⟨_,.list e rfl rfl (by simpa using hr)⟩
theorem op_eqL (hu:X.A.units + 64 < cLine):OpR X (compareOp .Eq) rEqL:=by
  intro pins s σ H x y v u Q I rx ry h
  obtain ⟨p,q,xs,ys,dx,dy,rfl,rfl,hp,hq,hx,hy,⟨c1,c2,c3⟩,qq⟩:=h
  cases rx
  cases ry
  obtain ⟨as,r1⟩:=list_reads I.hok hp hx
  obtain ⟨bs,r2⟩:=list_reads I.hok hq hy
  exact PySem.SeqAt.compareEq_reads r1 r2 c1 c2 (unitsD hu c3) ⟨.bl _,H,I,rfl,qq⟩
theorem op_eqX (hu:X.A.units + 64 < cLine):OpR X (compareOp .Eq) (fun x y H Q=>(rEq x y H Q ∨ rEqD 0 x y H Q) ∨ rEqL x y H Q):=(op_eqA hu).or (op_eqL hu)
theorem sl_X {K:PySem.W.Frag}(h:X.K=K):SlR X (fun x lo hi H Q=>rSlL K x lo hi H Q ∨ rSlTA x lo hi H Q):=by subst h;exact sl_list.or sl_tupA
end
end L2
namespace L2
open PySem PySem.Spec PyProof.Rows
def laidRow (F:List (List (Option Int)))(ru:Rule)(m:Nat)(n:Nat)(i:Int):List (Option Int):=(List.range n).flatMap fun b=>stands F ru i (0 - m + (b:Nat))
def laid (F:List (List (Option Int)))(ru:Rule)(m:Nat)(n:Nat):List (List (Option Int)):=(List.range n).map fun a=>laidRow F ru m ((F.headD []).length + 2 * m) (0 - m + (a:Nat))
end L2
namespace L2
open PySem PySem.Spec PyProof.Rows
end L2
namespace HT
open PySem PyProof.Rows
end HT
namespace L2
open PySem PySem.Spec PyProof.Rows
end L2
namespace L2
open PySem PySem.Spec PyProof.Rows
end L2
namespace L2
def many (lo hi:Int):Int:=max 0 (hi - lo + 1)
end L2
namespace L2
open PySem PySem.Spec PyProof.Rows
def Seed (H:Hp)(d:Addr):Prop:=∃ a b n c:Int,H d=some (.lst [.int a,.int b,.int n,.int c])
theorem Seed.keep {H H':Hp}{d:Addr}(D:Seed H d)(h:Same H H'):Seed H' d:=let ⟨a,b,n,c,e⟩:=D;⟨a,b,n,c,h _ _ e⟩
theorem Seed.upd {H:Hp}{d p:Addr}{o:HO}(D:Seed H d)(hp:H p=none):Seed (upd H p o) d:=D.keep (same_upd hp)
section
variable {X:Cx}{K:PySem.W.Frag}
theorem op_in_seqK (h:X.K=K):OpR X (compareOp .In) (rIn K false):=by subst h;exact op_in_seq
def rInD:R2:=fun x y H Q=>∃ dx ds,IsD H x dx∧IsD H y (.tuple ds)∧dx.canLay0=true∧PyData.canLayAll0 ds=true∧dx.depth ≤ 20∧Q (.bl (ds.any fun d=>PyData.eqv d dx)) H
theorem op_inD (hu:X.A.units + 64 < cLine):OpR X (compareOp .In) rInD:=by
  intro pins s σ H x y v u Q I rx ry h
  obtain ⟨dx,ds,hx,hy,c1,c2,c3,q⟩:=h
  obtain ⟨as,r1⟩:=hx.reads I.hok rx
  obtain ⟨bs,r2⟩:=hy.reads I.hok ry
  refine PySem.SeqAt.in_tuple_reads r2 r1 c2 c1 ?_ ⟨.bl _,H,I,rfl,q⟩
  have:min (PyData.depthAll ds) dx.depth ≤ dx.depth:=Nat.min_le_right _ _
  omega
end
def placeD (p:Int × Int):PyData:=.tuple [.int p.1,.int p.2]
theorem isPlace_inv {H:Hp}{v:V}{p:Int × Int}(h:IsD H v (placeD p)):∃ a,v = .ref a∧H a=some (.tup [.int p.1,.int p.2]):=by
  obtain ⟨a,xs,e,h1,h2⟩:=h.tuple_inv
  cases h2 with
  | cons a1 h2=>cases a1;cases h2 with
    | cons a2 h2=>cases a2;cases h2;exact ⟨a,e,h1⟩
theorem isPlace {H:Hp}{a:Addr}{i j:Int}(h:H a=some (.tup [.int i,.int j])):IsD H (.ref a) (placeD (i,j)):=.tup h (.cons (.int _) (.cons (.int _) .nil))
end L2
namespace L2
open PySem PySem.Spec PyProof.Rows PySem.Builtin PySem.Builtin.Str
end L2
namespace L2
open PySem
end L2
namespace L2
open PySem PySem.Spec PyProof.Rows
section
variable {X:Cx}{K:PySem.W.Frag}
theorem pe_bmK {o e:Expr} {es:List Expr} {to:TE} {t:TA} {name:Str} {apos cpos:Pos} {T id:String} {r:V→List V→Hp→VK→Prop} (hK:X.K=K) (pa:PlainAttrs T) (slot:Slot T name id) (hty:typeOf (.builtin id)=pure (.type "method_descriptor")) (hm:MtR X id r) (ho:PE X o to) (ha:PA X (e :: es) t)
    (hbase:attributeBase o name X.env (eval o X.env)=eval o X.env:=by rfl)
    (hfew:((backTo cpos (starEach (e :: es) X.env)).all (fun x=>!x.1) && (backToKw cpos (keywordEach [] X.env)).all (fun x=>x.1.isSome)
      && decide ((e :: es).length + ([]:List Keyword).length + (if ([]:List Keyword).isEmpty then 0 else 1) < 30))=true:=by rfl)
    (hline:(apos.endLine == cpos.line)=true:=by rfl) (hs:starEach (e :: es) X.env=(false,eval e X.env) :: starEach es X.env:=by rfl) (hplain:(backTo cpos (starEach es X.env)).any (·.1)=false:=by rfl) :
    PE X (.Call (.Attribute o name apos) (e :: es) [] cpos) (tBM K T r to t):=by
  subst hK
  exact pe_bm pa slot hty hm ho ha hbase hfew hline hs hplain
end
end L2
namespace L2
open PySem PySem.Spec PyProof.Rows
end L2
set_option maxHeartbeats 2000000
namespace MwZip
open PySem PySem.Spec PyProof.Rows
end MwZip
namespace L2
open PySem PySem.Spec PyProof.Rows
end L2
set_option maxHeartbeats 2000000
namespace MwSet
open PySem
def Rs (xs:Array Nat):Prop:=xs.toList.Pairwise (· < ·)
theorem Rs.lt {xs:Array Nat}(h:Rs xs){i k j:Nat}(hik:i < k)(hk:k < xs.size):xs.getD i j < xs.getD k j:=by
  have:=(List.pairwise_iff_getElem.mp h) i k (by simp;omega) (by simpa using hk) hik
  have hi:i < xs.size:=by omega
  simpa [Array.getD,hi,hk] using this
theorem Rs.le {xs:Array Nat}(h:Rs xs){i k j:Nat}(hik:i≤k)(hk:k < xs.size):xs.getD i j≤xs.getD k j:=by
  rcases Nat.lt_or_ge i k with z | z
  · exact Nat.le_of_lt (h.lt z hk)
  · have:i=k:=by omega
    rw [this];exact Nat.le_refl _
theorem below_go {xs:Array Nat}{j:Nat}(h:Rs xs):∀ (fuel lo hi:Nat),lo≤hi→hi≤xs.size → hi - lo≤fuel→(∀ i,i < lo→xs.getD i j < j)→(∀ i,hi≤i→i < xs.size → j≤xs.getD i j) →
    (∀ i,i < SetTable.below.go xs j fuel lo hi→xs.getD i j < j)∧(∀ i,SetTable.below.go xs j fuel lo hi≤i→i < xs.size → j≤xs.getD i j)∧SetTable.below.go xs j fuel lo hi≤xs.size
  | 0,lo,hi,h1,h2,h3,h4,h5=>by
    have:lo=hi:=by omega
    subst this
    exact ⟨h4,h5,h2⟩
  | fuel + 1,lo,hi,h1,h2,h3,h4,h5=>by
    unfold SetTable.below.go
    by_cases hl:lo < hi
    · rw [if_pos hl]
      dsimp only
      by_cases hm:xs.getD ((lo + hi) / 2) j < j
      · rw [if_pos hm]
        exact below_go h fuel _ _ (by omega) h2 (by omega) (fun i hi'=>Nat.lt_of_le_of_lt (h.le (show i≤(lo + hi) / 2 by omega) (by omega)) hm) h5
      · rw [if_neg hm]
        exact below_go h fuel _ _ (by omega) (by omega) (by omega) h4 fun i a b=>Nat.le_trans (Nat.not_lt.mp hm) (h.le a b)
    · rw [if_neg hl]
      have:lo=hi:=by omega
      subst this
      exact ⟨h4,h5,h2⟩
theorem below_ok {xs:Array Nat}(h:Rs xs)(j:Nat):(∀ i,i < SetTable.below xs j→xs.getD i j < j)∧(∀ i,SetTable.below xs j≤i→i < xs.size → j≤xs.getD i j)∧SetTable.below xs j≤xs.size :=
  below_go h xs.size 0 xs.size (Nat.zero_le _) (Nat.le_refl _) (by omega) (fun i hi=>by omega) fun i a b=>by omega
theorem below_is {xs:Array Nat}(h:Rs xs){i j:Nat}(hi:i≤xs.size)(h1:∀ k,k < i→xs.getD k j < j)(h2:i < xs.size → j≤xs.getD i j):SetTable.below xs j=i:=by
  obtain ⟨a,b,c⟩:=below_ok h j
  rcases Nat.lt_trichotomy (SetTable.below xs j) i with z | z | z
  · have q:=b _ (Nat.le_refl _) (by omega)
    have r:=h1 _ z
    omega
  · exact z
  · have q:=a i z
    have r:=h2 (by omega)
    omega
theorem rs_put {xs:Array Nat}(h:Rs xs){j:Nat}(hj:xs[SetTable.below xs j]?≠some j):Rs (SetTable.insertAt xs (SetTable.below xs j) j):=by
  obtain ⟨a,b,c⟩:=below_ok h j
  unfold Rs
  rw [SetTable.toList_insertAt]
  have e:xs.toList=xs.toList.take (SetTable.below xs j) ++ xs.toList.drop (SetTable.below xs j):=(List.take_append_drop _ _).symm
  have h':(xs.toList.take (SetTable.below xs j) ++ xs.toList.drop (SetTable.below xs j)).Pairwise (· < ·):=by rw [← e];exact h
  obtain ⟨p1,p2,p3⟩:=List.pairwise_append.mp h'
  have lo:∀ x∈xs.toList.take (SetTable.below xs j),x < j:=fun x hx=>by
    obtain ⟨m,hm,rfl⟩:=List.mem_iff_getElem.mp hx
    rw [List.length_take] at hm
    have:=a m (by omega)
    have hms:m < xs.size:=by simp at hm;omega
    simp [Array.getD,hms] at this
    simpa using this
  have hi:∀ x∈xs.toList.drop (SetTable.below xs j),j < x:=fun x hx=>by
    obtain ⟨m,hm,rfl⟩:=List.mem_iff_getElem.mp hx
    rw [List.length_drop] at hm
    simp only [List.getElem_drop,Array.getElem_toList]
    have hms:SetTable.below xs j + m < xs.size:=by simp at hm;omega
    have hb0:SetTable.below xs j < xs.size:=by omega
    have q0:=b _ (Nat.le_refl _) hb0
    have q:xs.getD (SetTable.below xs j) j≤xs.getD (SetTable.below xs j + m) j:=h.le (by omega) hms
    simp [Array.getD,hms,hb0] at q0 q
    have:xs[SetTable.below xs j]≠j:=fun z=>hj (by rw [getElem?_pos xs _ hb0,z])
    omega
  refine List.pairwise_append.mpr ⟨p1,List.pairwise_cons.mpr ⟨hi,p2⟩,fun x hx y hy=>?_⟩
  rcases List.mem_cons.mp hy with z | z
  · rw [z];exact lo x hx
  · exact p3 x hx y z
structure TabOk (byText:Bool)(t:SetTable):Prop where
  led:t.led = !byText
  rs:t.plain=true→Rs t.place
end MwSet
set_option maxHeartbeats 2000000
namespace MwSet
open PySem PyProof.Rows
def byT (w:World):Bool:=w.params.followText "set-order"
abbrev setObj (es:Array (Int × Value)) (ep:Nat) (t:SetTable):Obj:={ cls:=.type "set",dict:=none,data:=.set es ep t,slots:=#[] }
def nums (es:Array (Int × Value)):List Int:=es.toList.map fun e=>numOf e.2
def IntEl (es:Array (Int × Value)):Prop:=∀ e∈es.toList,∃ k u,e=(hashInt k,Value.int k u)
def SetG (w:World)(h:Heap)(a:Addr)(ks:List Int):Prop :=
  ∃ es ep t,h.get? a=some (setObj es ep t)∧IntEl es∧(nums es).Perm ks∧ks.Nodup ∧ es.size < scanBound∧t.fits es.size=true∧TabOk (byT w) t
theorem SetG.at {w:World}{h h':Heap}{a:Addr}{ks:List Int}(S:SetG w h a ks)(k:∀ o,h.get? a=some o→h'.get? a=some o):SetG w h' a ks:=let ⟨es,ep,t,e,r⟩:=S;⟨es,ep,t,k _ e,r⟩
section
variable {prog:Program}{w:World}{A:Around}{E:Value→Shared→Prop}{s:Shared}
theorem setG_store {h:Heap}{a:Addr}{es:Array (Int × Value)}{ep:Nat}{t:SetTable}(ho:h.get? a=some (setObj es ep t))(es':Array (Int × Value))(t':SetTable):(h.update a (Obj.putSet es' t')).get? a=some (setObj es' (ep + 1) t'):=by
  have:=Heap.get?_update_self (Obj.putSet es' t') ho (by rw [putSet_of es' t' rfl];rfl)
  rw [putSet_of es' t' rfl] at this;exact this
end
end MwSet
set_option maxHeartbeats 3200000
namespace MwSet
open PySem PySem.Spec PyProof.Rows
theorem sub_tuple_set:isSubtype (.type "tuple") (.type "set")=pure false:=by rw [isSubtype_type];kernel_rfl
theorem sub_tuple_frozenset:isSubtype (.type "tuple") (.type "frozenset")=pure false:=by rw [isSubtype_type];kernel_rfl
section
variable {prog:Program}{w:World}{A:Around}{E:Value→Shared→Prop}{s:Shared}
theorem set_newG (a:Value) {Q:Value→Shared→Prop} (h:Q (.ref s.heap.objs.size) { s with heap:=s.heap.push (setObj #[] 0 (.fresh 0 0 (!byT w))) }):codeAny (model prog w) A (.call (.builtin "set.__new__") ⟨[.type "set",a],[]⟩) (wants Q E) s:=by
  refine codeAny_of_tree ?_
  show wpAny _ A.in1 (do checkBuiltinCall "set.__new__" ⟨[.type "set",a],[]⟩;again (.builtin "set.__new__" ⟨[.type "set",a],[]⟩)) _ _ s
  refine wpAny_bind (wpAny_of_eq (PySem.F.newCall_set_1 a) (wpAny_pure ⟨plainId_quiet PySem.F.plain_set_new _,codeAny_builtin PySem.F.entry_set_new ?_⟩))
  rw [Around.under_plainId PySem.F.plain_set_new _]
  unfold Builtin.«set.__new__» Builtin.Frozenset.newClass
  have su:=sub_set_self
  obtain ⟨hp,g,d,tk,os⟩:=s
  dsimp only
  wp_walk
  refine wpAny_askSetting (wpAny_pure ?_)
  dsimp only
  simp only [newObj]
  exact wpAny_bind (wpAny_alloc (wpAny_pure (wpAny_pure h)))
end
end MwSet
set_option maxHeartbeats 3200000
namespace MwSet
open PySem PySem.Spec PyProof.Rows
theorem entry_set_iter:entryFor table "set.__iter__" = some Builtin.«frozenset.__iter__»:=entryFor_alias (id' := "frozenset.__iter__") (by kernel_rfl) rfl (by decide +kernel) (by kernel_rfl)
theorem slot_si_next:Slot "set_iterator" "__next__" "set_iterator.__next__" :=
  .of (owner := "set_iterator") (n := "__next__") (by rw [typeLookup_type,builtinLookup_eq_fast];kernel_rfl) (by decide +kernel) (by decide +kernel) (by decide +kernel) (by first | exact .inl (by decide +kernel) | exact .inr (by decide +kernel)) (by rw [isSubtype_type];kernel_rfl)
theorem slot_si_iter:Slot "set_iterator" "__iter__" "set_iterator.__iter__" :=
  .of (owner := "set_iterator") (n := "__iter__") (by rw [typeLookup_type,builtinLookup_eq_fast];kernel_rfl) (by decide +kernel) (by decide +kernel) (by decide +kernel) (by first | exact .inl (by decide +kernel) | exact .inr (by decide +kernel)) (by rw [isSubtype_type];kernel_rfl)
theorem entry_si_next:entryFor table "set_iterator.__next__" = some Builtin.«set_iterator.__next__»:=entryFor_of_tree (by kernel_rfl)
theorem entry_si_iter:entryFor table "set_iterator.__iter__" = some Builtin.«dict_keyiterator.__iter__» :=
  entryFor_alias (id' := "dict_keyiterator.__iter__") (by kernel_rfl) (by first | rfl | decide +kernel | (unfold String.splitOn;simp +decide [String.splitOnAux])) (by decide +kernel) (by kernel_rfl)
theorem owner_si:Manifest.owners.lookup (String.ofList ['r','o','t','a','r','e','t','i','_','t','e','s'].reverse)=some Manifest.sig_set_iterator:=by kernel_rfl
theorem args_si_next (a:Value):argsOk "set_iterator.__next__" ⟨[a],[]⟩:=by
  unfold argsOk
  rw [signature?_of (id := "set_iterator.__next__") (n := "__next__".toList.reverse) (o:=['r','o','t','a','r','e','t','i','_','t','e','s']) (by kernel_rfl) owner_si]
  kernel_rfl
theorem args_si_iter (a:Value):argsOk "set_iterator.__iter__" ⟨[a],[]⟩:=by
  unfold argsOk
  rw [signature?_of (id := "set_iterator.__iter__") (n := "__iter__".toList.reverse) (o:=['r','o','t','a','r','e','t','i','_','t','e','s']) (by kernel_rfl) owner_si]
  kernel_rfl
abbrev itObj (first:Value) (i:Nat) (a:Addr) (n ep:Nat):Obj:={ cls:=.type "set_iterator",data:=.fields #[first,.int i 0,.ref a,.int n 0,.int ep 0] }
section
variable {prog:Program}{w:World}{A:Around}{E:Value→Shared→Prop}{s:Shared}
theorem si_self {I a:Addr}{first:Value}{i n ep:Nat}{Q:Value→Shared→Prop}(e:s.heap.get? I=some (itObj first i a n ep))(h:Q (.ref I) s):wpAny (model prog w) A (pyIter (.ref I)) Q E s:=by
  have hT:s.TypeIs (.ref I) "set_iterator":=⟨_,e,rfl⟩
  refine wpAny_pyIter_slot hT slot_si_iter (wpAny_call_entry slot_si_iter hT entry_si_iter ?_ (args_si_iter _))
  show wpAny _ _ (ret (.ref I)) _ _ s
  exact wpAny_pure ⟨_,rfl,"set_iterator",_,hT,slot_si_next.lookup,h⟩
theorem si_item {I a:Addr}{slot i n ep:Nat}{es:Array (Int × Value)}{t:SetTable}{x:Value}{nx:Nat}{Q:Option Value→Shared→Prop}(e:s.heap.get? I=some (itObj (.int slot 0) i a n ep))(ea:s.heap.get? a=some (setObj es ep t))(hf:t.fits es.size=true)(hn:n=es.size)
    (hx:∀ (A':Around) (E':Value→Shared→Prop) (Q':Option (Value × Nat)→Shared→Prop),Q' (some (x,nx)) s→wpAny (model prog w) A' (setNext a slot i ep) Q' E' s)
    (hQ:∀ h',h'.get? I=some (itObj (.int nx 0) (i + 1) a n ep)→Heap.SameBut I s.heap h'→Q (some x) { s with heap:=h' }):wpAny (model prog w) A (pyNext (.ref I)) Q E s:=by
  have hT:s.TypeIs (.ref I) "set_iterator":=⟨_,e,rfl⟩
  subst hn
  unfold pyNext
  refine wpAny_bind (wpAny_attempt (wpAny_callSpecial?_slot (name:=Str.ofString "__next__") hT slot_si_next (wpAny_call_entry slot_si_next hT entry_si_next ?_ (args_si_next _))))
  unfold Builtin.«set_iterator.__next__»
  refine wpAny_bind (m:=slotArgs "__next__" 0 _) (wpAny_pure (wpAny_bind (wpAny_fieldsOf e rfl ?_)))
  dsimp only
  refine wpAny_bind (wpAny_setEntries_of ea rfl hf ?_)
  rw [if_neg (by simp)]
  show wpAny _ _ (setNext a slot i ep >>= _) _ _ s
  refine wpAny_bind (hx _ _ _ ?_)
  dsimp only
  refine wpAny_bind (wpAny_setField e rfl (by simp) ?_)
  have e1:(s.heap.update I (Obj.mapFields (·.setIfInBounds 0 (rawInt nx)))).get? I=some (itObj (.int nx 0) i a es.size ep):=by
    have:=Heap.get?_update_self (Obj.mapFields (·.setIfInBounds 0 (rawInt nx))) e rfl
    rw [this];rfl
  refine wpAny_bind (wpAny_setField e1 rfl (by simp) ?_)
  have e2:((s.heap.update I (Obj.mapFields (·.setIfInBounds 0 (rawInt nx)))).update I (Obj.mapFields (·.setIfInBounds 1 (rawInt ((i:Int) + 1))))).get? I=some (itObj (.int nx 0) (i + 1) a es.size ep):=by
    have:=Heap.get?_update_self (Obj.mapFields (·.setIfInBounds 1 (rawInt ((i:Int) + 1)))) e1 rfl
    rw [this];rfl
  exact wpAny_pure ⟨_,rfl,wpAny_pure (hQ _ e2 ((Heap.SameBut.update ..).trans (Heap.SameBut.update ..)))⟩
theorem raise_stop {B:Around} {Q:Fin→Shared→Prop} {F:Value→Shared→Prop} (hh:B.handled=none) (h:∀ (v:Value) (h':Heap),(∀ b o,s.heap.get? b=some o→h'.get? b=some o)→Shared.TypeIs { s with heap:=h' } v "StopIteration"→F v { s with heap:=h' }) :
    wpAny (model prog w) B (do raiseNew (← newExc (.type "StopIteration") [])) Q F s:=by
  refine wpAny_bind ?_
  simp only [newExc,newTuple]
  refine wpAny_bind (wpAny_newObj_type ?_ (by size_fits))
  refine wpAny_bind (m:=firstArgMember _ _) (wpAny_of_eq (a:=Value.none) (by first | rfl | (simp only [firstArgMember];rfl)) ?_)
  refine wpAny_newObj_type ?_ (by size_fits)
  simp only [raiseNew]
  refine wpAny_bind (wpAny_handled ?_)
  rw [hh]
  refine wpAny_bind (wpAny_pure (wpAny_throw ?_))
  exact h _ _ (fun b o e=>Heap.get?_push_of_some _ (Heap.get?_push_of_some _ e)) ⟨_,Heap.get?_push_size _ rfl,rfl⟩
theorem si_end {I a:Addr}{slot i n ep:Nat}{es:Array (Int × Value)}{t:SetTable}{Q:Option Value→Shared→Prop}(hh:A.handled=none)(e:s.heap.get? I=some (itObj (.int slot 0) i a n ep))(ea:s.heap.get? a=some (setObj es ep t))(hf:t.fits es.size=true)(hn:n=es.size)
    (hx:∀ (A':Around) (E':Value→Shared→Prop) (Q':Option (Value × Nat)→Shared→Prop),Q' none s→wpAny (model prog w) A' (setNext a slot i ep) Q' E' s)
    (hQ:∀ h',Heap.ExtBut I s.heap h'→Q none { s with heap:=h' }):wpAny (model prog w) A (pyNext (.ref I)) Q E s:=by
  have hT:s.TypeIs (.ref I) "set_iterator":=⟨_,e,rfl⟩
  subst hn
  unfold pyNext
  refine wpAny_bind (wpAny_attempt (wpAny_callSpecial?_slot (name:=Str.ofString "__next__") hT slot_si_next (wpAny_call_entry slot_si_next hT entry_si_next ?_ (args_si_next _))))
  unfold Builtin.«set_iterator.__next__»
  refine wpAny_bind (m:=slotArgs "__next__" 0 _) (wpAny_pure (wpAny_bind (wpAny_fieldsOf e rfl ?_)))
  dsimp only
  refine wpAny_bind (wpAny_setEntries_of ea rfl hf ?_)
  rw [if_neg (by simp)]
  show wpAny _ _ (setNext a slot i ep >>= _) _ _ s
  refine wpAny_bind (hx _ _ _ ?_)
  dsimp only
  refine wpAny_bind (wpAny_setField e rfl (by simp) ?_)
  refine raise_stop (s:={ s with heap:=s.heap.update I (Obj.mapFields (·.setIfInBounds 2 .none)) }) (by simp [hh]) fun v h' hk hv=>?_
  refine wpAny_bind (wpAny_isInstance (T := "StopIteration") (b:=true) hv isSubtype_stop ?_)
  exact wpAny_pure (hQ h' fun b o hb g=>hk b o ((Heap.get?_update_other _ _ hb.symm).trans g))
theorem next_byText {a:Addr}{slot i ep:Nat}{es:Array (Int × Value)}{t:SetTable}{Q:Option (Value × Nat)→Shared→Prop}(ea:s.heap.get? a=some (setObj es ep t))(hf:t.fits es.size=true)(hb:byT w=true)
    (h:Q (((pickOrder (w.params.setOrder a ep) es)[i]?).map fun e=>(e.2,slot)) s):wpAny (model prog w) A (setNext a slot i ep) Q E s:=by
  unfold setNext
  refine wpAny_bind (wpAny_setState_of ea rfl hf ?_)
  dsimp only
  unfold setsByText
  refine wpAny_bind (wpAny_bind (wpAny_askSetting (wpAny_pure ?_)))
  have hb':(model prog w).w.params.followText "set-order" = true:=hb
  dsimp only
  rw [hb',if_pos rfl,if_neg (by simp)]
  unfold setWalk setsByText
  refine wpAny_bind (wpAny_bind (wpAny_setState_of ea rfl hf ?_))
  dsimp only
  refine wpAny_bind (wpAny_bind (wpAny_askSetting (wpAny_pure ?_)))
  dsimp only
  rw [hb',if_pos rfl]
  exact wpAny_bind (wpAny_askSetting (wpAny_pure (wpAny_pure h)))
theorem next_plain {a:Addr}{slot i ep:Nat}{es:Array (Int × Value)}{t:SetTable}{Q:Option (Value × Nat)→Shared→Prop}(ea:s.heap.get? a=some (setObj es ep t))(hf:t.fits es.size=true)(hb:byT w=false)(hl:t.led=true)(hd:t.plain=true ∨ es.size ≤ 1)
    (h:Q (match es[SetTable.below t.place slot]?,t.place[SetTable.below t.place slot]? with | some (_,x),some j=>some (x,j + 1) | _,_=>none) s):wpAny (model prog w) A (setNext a slot i ep) Q E s:=by
  unfold setNext
  refine wpAny_bind (wpAny_setState_of ea rfl hf ?_)
  dsimp only
  unfold setsByText
  refine wpAny_bind (wpAny_bind (wpAny_askSetting (wpAny_pure ?_)))
  have hb':(model prog w).w.params.followText "set-order" = false:=hb
  dsimp only
  rw [hb',if_neg Bool.false_ne_true]
  refine wpAny_ite_split (fun z=>?_) (fun _=>wpAny_bind ?_)
  · have z':(!t.plain && decide (es.size > 1))=true:=z
    rcases hd with q | q
    · rw [q] at z';cases z'
    · rw [show decide (es.size > 1)=false from decide_eq_false (by omega),Bool.and_false] at z';cases z'
  · show wpAny _ _ (if (!t.led && !es.isEmpty)=true then unsupported "set:maker-not-led" else pure ()) _ _ s
    rw [hl,if_neg (by simp)]
    exact wpAny_pure (wpAny_pure h)
theorem erase_perm {α:Type}{l:List α}{i:Nat}(h:i < l.length):(l[i] :: l.eraseIdx i).Perm l:=by
  have e:l=l.take i ++ l[i] :: l.drop (i + 1):=by rw [← List.drop_eq_getElem_cons h,List.take_append_drop]
  rw [List.eraseIdx_eq_take_drop_succ]
  have p:=(List.perm_middle (a:=l[i]) (l₁:=l.take i) (l₂:=l.drop (i + 1))).symm
  exact p.trans (by rw [← e])
theorem pick_go {α:Type}(next:Nat→Nat):∀ (fuel k:Nat) (left:List α) (out:Array α),left.length ≤ fuel→(pickOrder.go next fuel k left out).toList.Perm (out.toList ++ left)
  | 0,k,left,out,h=>by
    have:left=[]:=List.length_eq_zero_iff.mp (by omega)
    subst this
    unfold pickOrder.go
    simp
  | fuel + 1,k,left,out,h=>by
    unfold pickOrder.go
    cases e:left[next k % left.length]? with
    | none =>
      dsimp only
      have:left=[]:=by
        cases left with
        | nil=>rfl
        | cons x l =>
          have hlt:next k % (x :: l).length < (x :: l).length:=Nat.mod_lt _ (by simp)
          rw [List.getElem?_eq_getElem hlt] at e
          cases e
      subst this
      simp
    | some x =>
      dsimp only
      obtain ⟨hlt,hx⟩:=List.getElem?_eq_some_iff.mp e
      have ih:=pick_go next fuel (k + 1) (left.eraseIdx (next k % left.length)) (out.push x) (by rw [List.length_eraseIdx,if_pos hlt];omega)
      refine ih.trans ?_
      rw [Array.toList_push,List.append_assoc]
      refine List.Perm.append_left _ ?_
      rw [← hx]
      exact erase_perm hlt
theorem pick_perm {α:Type}(next:Nat→Nat)(xs:Array α):(pickOrder next xs).toList.Perm xs.toList:=by
  unfold pickOrder
  have:=pick_go next xs.size 0 xs.toList #[] (by simp)
  simpa using this
end
section
variable {prog:Program}{w:World}{A:Around}
theorem walk_byText (hh:A.handled=none){I a:Addr}(hne:a≠I){es:Array (Int × Value)}{ep:Nat}{t:SetTable}(hf:t.fits es.size=true)(hb:byT w=true) :
    Walks prog w A I [I,a] [I] es.size (fun i v=>((pickOrder (w.params.setOrder a ep) es).toList.map (·.2))[i]? = some v) (fun i h=>h.get? I=some (itObj (.int 0 0) i a es.size ep)∧h.get? a=some (setObj es ep t)) where
  sub:=fun b hb=>by simp at hb;simp [hb]
  frame:=fun _ _ _ st hk=>⟨hk I (by simp) _ st.1,hk a (by simp) _ st.2⟩
  item:=fun i s Q E hi st hQ=>by
    have hl:(pickOrder (w.params.setOrder a ep) es).size=es.size:=by have:=(pick_perm (w.params.setOrder a ep) es).length_eq;simpa using this
    have hi':i < (pickOrder (w.params.setOrder a ep) es).size:=by omega
    have ex:(pickOrder (w.params.setOrder a ep) es)[i]? = some (pickOrder (w.params.setOrder a ep) es)[i]:=Array.getElem?_eq_getElem hi'
    refine si_item (slot:=0) (nx:=0) (x:=(pickOrder (w.params.setOrder a ep) es)[i].2) st.1 st.2 hf rfl (fun A' E' Q' q=>next_byText st.2 hf hb ?_) fun h' e1 e2=>hQ _ h' s.toks ?_ ⟨e1,?_⟩ ?_
    · rw [ex];exact q
    · rw [List.getElem?_map,Array.getElem?_toList,ex];rfl
    · rw [e2.2 a hne];exact st.2
    · intro b o hb e
      rw [e2.2 b (by simpa using hb)];exact e
  done:=fun s Q E st hQ=>by
    have hl:(pickOrder (w.params.setOrder a ep) es).size=es.size:=by have:=(pick_perm (w.params.setOrder a ep) es).length_eq;simpa using this
    refine si_end (slot:=0) hh st.1 st.2 hf rfl (fun A' E' Q' q=>next_byText st.2 hf hb ?_) fun h' e=>hQ h' s.toks fun b o hb g=>e b o (by simpa using hb) g
    rw [Array.getElem?_eq_none (by omega)];exact q
  self:=fun i s Q E st h=>si_self st.1 h
def slotAt (t:SetTable)(i:Nat):Nat:=if i=0 then 0 else t.place.getD (i - 1) 0 + 1
theorem below_slot {t:SetTable}(hr:Rs t.place){i:Nat}(hi:i≤t.place.size):SetTable.below t.place (slotAt t i)=i:=by
  unfold slotAt
  refine below_is hr hi (fun k hk=>?_) fun hi'=>?_
  · rw [if_neg (by omega)]
    have hk':k < t.place.size:=by omega
    have hi1:i - 1 < t.place.size:=by omega
    have:t.place.getD k 0≤t.place.getD (i - 1) 0:=hr.le (by omega) hi1
    simp [Array.getD,hk',hi1] at this ⊢
    omega
  · split
    · omega
    · have hi1:i - 1 < t.place.size:=by omega
      have:t.place.getD (i - 1) 0 < t.place.getD i 0:=hr.lt (by omega) hi'
      simp [Array.getD,hi',hi1] at this ⊢
      omega
theorem walk_plain (hh:A.handled=none){I a:Addr}(hne:a≠I){es:Array (Int × Value)}{ep:Nat}{t:SetTable}(hf:t.fits es.size=true)(hb:byT w=false)(hl:t.led=true)(hd:t.plain=true ∨ es.size ≤ 1)(hr:Rs t.place) :
    Walks prog w A I [I,a] [I] es.size (fun i v=>(es.toList.map (·.2))[i]? = some v) (fun i h=>h.get? I=some (itObj (.int (slotAt t i) 0) i a es.size ep)∧h.get? a=some (setObj es ep t)) where
  sub:=fun b hb=>by simp at hb;simp [hb]
  frame:=fun _ _ _ st hk=>⟨hk I (by simp) _ st.1,hk a (by simp) _ st.2⟩
  item:=fun i s Q E hi st hQ=>by
    have hp:t.place.size=es.size:=by simp only [SetTable.fits,Bool.and_eq_true,beq_iff_eq] at hf;exact hf.1
    have hi':i < t.place.size:=by omega
    refine si_item (nx:=slotAt t (i + 1)) (x:=es[i].2) st.1 st.2 hf rfl (fun A' E' Q' q=>next_plain st.2 hf hb hl hd ?_) fun h' e1 e2=>hQ _ h' s.toks ?_ ⟨e1,?_⟩ ?_
    · rw [below_slot hr (by omega),getElem?_pos es i hi,getElem?_pos t.place i hi']
      have:slotAt t (i + 1)=t.place[i] + 1:=by simp [slotAt,Array.getD,hi']
      rw [this] at q
      exact q
    · simp [hi]
    · rw [e2.2 a hne];exact st.2
    · intro b o hb e
      rw [e2.2 b (by simpa using hb)];exact e
  done:=fun s Q E st hQ=>by
    have hp:t.place.size=es.size:=by simp only [SetTable.fits,Bool.and_eq_true,beq_iff_eq] at hf;exact hf.1
    refine si_end hh st.1 st.2 hf rfl (fun A' E' Q' q=>next_plain st.2 hf hb hl hd ?_) fun h' e=>hQ h' s.toks fun b o hb g=>e b o (by simpa using hb) g
    rw [below_slot hr (by omega),Array.getElem?_eq_none (Nat.le_refl es.size)]
    exact q
  self:=fun i s Q E st h=>si_self st.1 h
end
end MwSet
set_option maxHeartbeats 2000000
namespace MwSortR
open PySem PyProof.Rows
class Ranks where
  ρ:Value→Int
  κ:SortKind
  V:Value→Prop
class CmpOk [Ranks] (prog:Program) (w:World) (A:Around) (s:Shared):Prop where
  lt:∀ (x y:Value) (Q:Bool→Shared→Prop) (E:Value→Shared→Prop),Ranks.V x→Ranks.V y→Q (decide (Ranks.ρ x < Ranks.ρ y)) s→wpAny (model prog w) A (keyLt' Ranks.κ x y) Q E s
variable [Ranks]
def K (xs:Array Keyed)(i:Nat):Int:=match xs[i]? with
  | some p=>Ranks.ρ p.1
  | none=>0
def SortedTo (xs:Array Keyed)(k:Nat):Prop:=∀ i j,i≤j→j < k→K xs i≤K xs j
def KeysIn (xs:Array Keyed):Prop:=∀ p,p∈xs.toList → Ranks.V p.1
def IsK (v:Value)(a:Int):Prop:=Ranks.V v∧Ranks.ρ v=a
theorem K_congr {xs ys:Array Keyed}{i j:Nat}(h:xs[i]? = ys[j]?):K xs i=K ys j:=congrArg (fun z:Option Keyed=>match z with | some p=>Ranks.ρ p.1 | none=>0) h
theorem K_ite {xs ys:Array Keyed}{k m n:Nat}{c:Prop}[Decidable c](e:xs[k]? = if c then ys[m]? else ys[n]?):K xs k=if c then K ys m else K ys n:=by
  by_cases z:c
  · rw [if_pos z] at e ⊢
    exact K_congr e
  · rw [if_neg z] at e ⊢
    exact K_congr e
theorem K_bubble {xs:Array Keyed}{src d:Nat}(hs:src < xs.size)(hd:d≤src)(k:Nat):K (bubble xs src d) k=if k=src - d then K xs src else if src - d < k∧k≤src then K xs (k - 1) else K xs k:=by
  have e:=getElem?_bubble hs d hd k
  by_cases z:k=src - d
  · rw [if_pos z] at e ⊢
    exact K_congr e
  · rw [if_neg z] at e ⊢
    exact K_ite e
theorem K_mirror {xs:Array Keyed}{i j:Nat}(hj:j≤xs.size)(k:Nat):K (mirror xs i j ((j - i) / 2)) k=if i≤k∧k < j then K xs (i + j - 1 - k) else K xs k:=K_ite (getElem?_mirror_all (i:=i) hj k)
theorem K_mirror_equal {xs:Array Keyed}{i j:Nat}(hj:j≤xs.size)(heq:∀ k,i≤k→k < j→K xs k=K xs (j - 1))(k:Nat):K (mirror xs i j ((j - i) / 2)) k=K xs k:=by
  rw [K_mirror hj]
  by_cases z:i≤k∧k < j
  · rw [if_pos z,heq k z.1 z.2]
    exact heq _ (by omega) (by omega)
  · rw [if_neg z]
def gallop':Bool→Keyed→Array Keyed→Nat→Nat→Nat→StateT SortSt Sem (Option Nat):=sortPriv% PySem.Builtin.gallop
theorem gallop'_eq (lf:Bool)(ky:Keyed)(ar:Array Keyed)(bs n hint:Nat):gallop' lf ky ar bs n hint=(do
  let ask (i:Nat):StateT SortSt Sem (Option Bool):=do
    let y ← elem' ar (bs + i)
    if lf then lt' y ky else return (← lt' ky y).map (!·)
  let mut l:=0
  let mut o:=1
  let mut lw:=0
  let mut up:=0
  let some fw ← ask hint | return none
  if fw then
    let far:=n - hint
    for _ in [0:n] do
      if o ≥ far then break
      let some go ← ask (hint + o) | return none
      if !go then break
      l:=o
      o:=2 * o + 1
    lw:=hint + l + 1
    up:=hint + min o far
  else
    let far:=hint + 1
    for _ in [0:n] do
      if o ≥ far then break
      let some go ← ask (hint - o) | return none
      if go then break
      l:=o
      o:=2 * o + 1
    lw:=hint + 1 - min o far
    up:=hint - l
  for _ in [0:n] do
    if lw ≥ up then break
    let mid:=lw + (up - lw) / 2
    let some go ← ask mid | return none
    if go then lw:=mid + 1 else up:=mid
  return some up):=rfl
section
variable {prog:Program}{w:World}{A:Around}{E:Value→Shared→Prop}{s:Shared}[CmpOk prog w A s]
theorem wpS_lt2 {st:SortSt}{x y:Keyed}{a b:Int}{Q:Option Bool→SortSt→Prop}(hk:kindOf st=Ranks.κ)(hx:IsK x.1 a)(hy:IsK y.1 b)(h:Q (some (decide (a < b))) st) :
    wpS (model prog w) A E s (lt' x y) Q st:=by
  rw [lt'_eq]
  refine wpS_bind (wpS_get ?_)
  rw [hk]
  refine wpS_bind (wpS_lift (wpAny_attempt (CmpOk.lt _ _ _ _ hx.1 hy.1 ⟨rfl,?_⟩)))
  rw [hx.2,hy.2]
  exact wpS_pure h
theorem wpS_elem {st:SortSt}{arr:Array Keyed}{i:Nat}{p:Keyed}{Q:Keyed→SortSt→Prop}(h:arr[i]? = some p)(q:Q p st):wpS (model prog w) A E s (elem' arr i) Q st:=by
  rw [elem'_eq,h]
  exact wpS_pure q
def Turns (B:Nat→Bool)(n k:Nat):Prop:=k≤n∧(∀ i,i < k→B i=true)∧∀ i,k≤i→i < n→B i=false
def Fwd (left:Bool)(kk:Int)(arr:Array Keyed)(b:Nat)(i:Nat):Bool:=if left=true then decide (K arr (b + i) < kk) else !decide (kk < K arr (b + i))
theorem at_int {arr:Array Keyed}(hI:KeysIn arr){i:Nat}(h:i < arr.size):∃ (p:Keyed) (t:Tok),arr[i]? = some p∧IsK p.1 (K arr i):=by
  have e:arr[i]? = some arr[i]:=getElem?_pos arr i h
  refine ⟨arr[i],0,e,hI arr[i] (by simp),?_⟩
  unfold K
  rw [e]
theorem fwd_mono {left:Bool}{kk:Int}{arr:Array Keyed}{b n:Nat}(hs:∀ i j,i≤j→j < n→K arr (b + i)≤K arr (b + j)){i j:Nat}(hij:i≤j)(hj:j < n)(h:Fwd left kk arr b j=true):Fwd left kk arr b i=true:=by
  have:=hs i j hij hj
  unfold Fwd at h ⊢
  cases left
  · simp at h ⊢
    omega
  · simp at h ⊢
    omega
theorem wpS_fwd {st:SortSt}{left:Bool}{key:Keyed}{arr:Array Keyed}{b i:Nat}{kk:Int}{Q:Option Bool→SortSt→Prop}(hk:kindOf st=Ranks.κ)(hkey:IsK key.1 kk)(hI:KeysIn arr)(hi:b + i < arr.size)
    (h:Q (some (Fwd left kk arr b i)) st) :
    wpS (model prog w) A E s (do let x ← (sortPriv% PySem.Builtin.elem) arr (b + i);if left=true then (sortPriv% PySem.Builtin.lt) x key else do let r ← (sortPriv% PySem.Builtin.lt) key x;pure (Option.map (fun x=>!x) r)) Q st:=by
  obtain ⟨p,t,e,hp⟩:=at_int hI hi
  refine wpS_bind (wpS_elem (arr:=arr) e ?_)
  unfold Fwd at h
  cases left with
  | true =>
    rw [if_pos rfl]
    exact wpS_lt2 hk hp hkey (by simpa using h)
  | false =>
    rw [if_neg Bool.false_ne_true]
    exact wpS_bind (wpS_lt2 hk hkey hp (wpS_pure (by simpa using h)))
theorem wpS_gallop {st:SortSt}{left:Bool}{key:Keyed}{arr:Array Keyed}{b n hint:Nat}{kk:Int}{Q:Option Nat→SortSt→Prop}(hk:kindOf st=Ranks.κ)(hkey:IsK key.1 kk)
    (hI:KeysIn arr) (hb:b + n≤arr.size) (hh:hint < n) (hs:∀ i j,i≤j→j < n→K arr (b + i)≤K arr (b + j))
    (h:∀ k,Turns (Fwd left kk arr b) n k→Q (some k) st):wpS (model prog w) A E s (gallop' left key arr b n hint) Q st:=by
  have mono:∀ {i j:Nat},i≤j→j < n→Fwd left kk arr b j=true→Fwd left kk arr b i=true:=fun a b c=>fwd_mono hs a b c
  have anti:∀ {i j:Nat},i≤j→j < n→Fwd left kk arr b i=false→Fwd left kk arr b j=false:=fun {i j} a b c=>by
    cases e:Fwd left kk arr _ j with
    | false=>rfl
    | true=>rw [mono a b e] at c;cases c
  have half:∀ (lo hi:Nat),lo≤hi→hi≤n→(∀ i,i < lo→Fwd left kk arr b i=true)→(∀ i,hi≤i→i < n→Fwd left kk arr b i=false) →
      ∀ (f:Nat→(Option (Option Nat) × Nat × Nat)→StateT SortSt Sem (ForInStep (Option (Option Nat) × Nat × Nat))),
      (∀ x c,f x c=(if c.snd.fst ≥ c.snd.snd then pure (ForInStep.done (none,c.snd.fst,c.snd.snd)) else do
        let r ← (do let x ← (sortPriv% PySem.Builtin.elem) arr (b + (c.snd.fst + (c.snd.snd - c.snd.fst) / 2));if left=true then (sortPriv% PySem.Builtin.lt) x key else do let r ← (sortPriv% PySem.Builtin.lt) key x;pure (Option.map (fun x=>!x) r))
        match r with
        | some more=>if more=true then pure (ForInStep.yield (none,c.snd.fst + (c.snd.snd - c.snd.fst) / 2 + 1,c.snd.snd)) else pure (ForInStep.yield (none,c.snd.fst,c.snd.fst + (c.snd.snd - c.snd.fst) / 2))
        | x=>pure (ForInStep.done (some none,c.snd.fst,c.snd.snd)))) →
      wpS (model prog w) A E s (forIn [:n] (none,lo,hi) f) (fun c st'=>st'=st∧c.fst=none∧Turns (Fwd left kk arr b) n c.snd.snd) st:=by
    intro lo hi h1 h2 h3 h4 f hf
    refine wpS_forRange (a:=0) (I:=fun (x:Nat) (c:Option (Option Nat) × Nat × Nat) (st':SortSt)=>st'=st∧c.fst=none∧c.snd.fst ≤ c.snd.snd ∧ c.snd.snd ≤ n∧(∀ i,i < c.snd.fst → Fwd left kk arr b i=true)∧(∀ i,c.snd.snd ≤ i→i < n→Fwd left kk arr b i=false)∧c.snd.snd - c.snd.fst ≤ n - x) ?_ ?_ ⟨rfl,rfl,h1,h2,h3,h4,by show hi - lo≤n - 0;omega⟩
    · rintro x ⟨c0,l,r⟩ st' _ hx ⟨rfl,rfl,i1,i2,i3,i4,i5⟩
      dsimp only at i1 i2 i3 i4 i5
      rw [hf]
      dsimp only
      by_cases hlr:l ≥ r
      · rw [if_pos hlr]
        have:l=r:=by omega
        subst this
        exact wpS_pure ⟨rfl,rfl,i2,i3,i4⟩
      · rw [if_neg hlr]
        refine wpS_bind (wpS_fwd hk hkey hI (by omega) ?_)
        cases e:Fwd left kk arr b (l + (r - l) / 2) with
        | true =>
          dsimp only
          rw [if_pos rfl]
          exact wpS_pure ⟨rfl,rfl,by dsimp only;omega,i2,fun i hi=>mono (show i≤l + (r - l) / 2 by dsimp only at hi;omega) (by omega) e,i4,by dsimp only;omega⟩
        | false =>
          dsimp only
          rw [if_neg Bool.false_ne_true]
          exact wpS_pure ⟨rfl,rfl,by dsimp only;omega,by dsimp only;omega,i3,fun i hi hn=>anti hi hn e,by dsimp only;omega⟩
    · rintro ⟨c0,l,r⟩ st' ⟨rfl,rfl,i1,i2,i3,i4,i5⟩
      dsimp only at i1 i2 i3 i4 i5 ⊢
      have:l=r:=by omega
      subst this
      exact ⟨rfl,rfl,i2,i3,i4⟩
  rw [gallop'_eq]
  dsimp only
  refine wpS_bind (wpS_fwd hk hkey hI (by omega) ?_)
  cases e0:Fwd left kk arr b hint with
  | true =>
    dsimp only
    rw [if_pos rfl]
    refine wpS_bind (wpS_mono (wpS_forRange (a:=0) (I:=fun (x:Nat) (c:Option (Option Nat) × Nat × Nat) (st':SortSt)=>st'=st∧c.fst=none∧c.snd.fst < c.snd.snd ∧ hint + c.snd.fst < n∧Fwd left kk arr b (hint + c.snd.fst)=true∧x + 1≤c.snd.snd)
      (Q:=fun (c:Option (Option Nat) × Nat × Nat) (st':SortSt)=>st'=st∧c.fst=none∧c.snd.fst < c.snd.snd ∧ hint + c.snd.fst < n∧Fwd left kk arr b (hint + c.snd.fst)=true∧(n - hint≤c.snd.snd ∨ (hint + c.snd.snd < n∧Fwd left kk arr b (hint + c.snd.snd)=false))) ?_ ?_ ⟨rfl,rfl,by decide,hh,(show Fwd left kk arr b (hint + 0)=true from e0),by decide⟩) ?_)
    · rintro x ⟨c0,l,r⟩ st' _ hx ⟨rfl,rfl,i1,i2,i3,i4⟩
      dsimp only at i1 i2 i3 i4 ⊢
      by_cases hlr:r ≥ n - hint
      · rw [if_pos hlr]
        exact wpS_pure ⟨rfl,rfl,i1,i2,i3,.inl hlr⟩
      · rw [if_neg hlr]
        refine wpS_bind (wpS_fwd hk hkey hI (by omega) ?_)
        cases e:Fwd left kk arr b (hint + r) with
        | true =>
          dsimp only
          rw [if_neg (by simp)]
          exact wpS_pure ⟨rfl,rfl,by dsimp only;omega,by dsimp only;omega,e,by dsimp only;omega⟩
        | false =>
          dsimp only
          rw [if_pos (show (!false)=true from rfl)]
          exact wpS_pure ⟨rfl,rfl,i1,i2,i3,.inr ⟨by dsimp only;omega,e⟩⟩
    · rintro ⟨c0,l,r⟩ st' ⟨rfl,rfl,i1,i2,i3,i4⟩
      dsimp only at i1 i2 i3 i4 ⊢
      exact ⟨rfl,rfl,i1,i2,i3,.inl (by omega)⟩
    · rintro ⟨c0,l,r⟩ st' ⟨rfl,rfl,i1,i2,i3,i4⟩
      dsimp only at i1 i2 i3 i4 ⊢
      refine wpS_bind (wpS_mono (half (hint + l + 1) (hint + min r (n - hint)) (by omega) (by omega) (fun i hi=>mono (show i≤hint + l by omega) i2 i3) (fun i hi hn=>?_) _ (fun x c=>rfl)) ?_)
      · rcases i4 with z | ⟨z1,z2⟩
        · omega
        · exact anti (show hint + r≤i by omega) hn z2
      · rintro ⟨c0,l2,r2⟩ st' ⟨rfl,rfl,t⟩
        exact wpS_pure (h _ t)
  | false =>
    dsimp only
    rw [if_neg Bool.false_ne_true]
    refine wpS_bind (wpS_mono (wpS_forRange (a:=0) (I:=fun (x:Nat) (c:Option (Option Nat) × Nat × Nat) (st':SortSt)=>st'=st∧c.fst=none∧c.snd.fst < c.snd.snd ∧ c.snd.fst ≤ hint∧Fwd left kk arr b (hint - c.snd.fst)=false∧x + 1≤c.snd.snd)
      (Q:=fun (c:Option (Option Nat) × Nat × Nat) (st':SortSt)=>st'=st∧c.fst=none∧c.snd.fst < c.snd.snd ∧ c.snd.fst ≤ hint∧Fwd left kk arr b (hint - c.snd.fst)=false∧(hint + 1≤c.snd.snd ∨ (c.snd.snd ≤ hint∧Fwd left kk arr b (hint - c.snd.snd)=true))) ?_ ?_ ⟨rfl,rfl,by decide,Nat.zero_le _,(show Fwd left kk arr b (hint - 0)=false from e0),by decide⟩) ?_)
    · rintro x ⟨c0,l,r⟩ st' _ hx ⟨rfl,rfl,i1,i2,i3,i4⟩
      dsimp only at i1 i2 i3 i4 ⊢
      by_cases hlr:r ≥ hint + 1
      · rw [if_pos hlr]
        exact wpS_pure ⟨rfl,rfl,i1,i2,i3,.inl hlr⟩
      · rw [if_neg hlr]
        refine wpS_bind (wpS_fwd hk hkey hI (by omega) ?_)
        cases e:Fwd left kk arr b (hint - r) with
        | true =>
          dsimp only
          rw [if_pos rfl]
          exact wpS_pure ⟨rfl,rfl,i1,i2,i3,.inr ⟨by dsimp only;omega,e⟩⟩
        | false =>
          dsimp only
          rw [if_neg Bool.false_ne_true]
          exact wpS_pure ⟨rfl,rfl,by dsimp only;omega,by dsimp only;omega,e,by dsimp only;omega⟩
    · rintro ⟨c0,l,r⟩ st' ⟨rfl,rfl,i1,i2,i3,i4⟩
      dsimp only at i1 i2 i3 i4 ⊢
      exact ⟨rfl,rfl,i1,i2,i3,.inl (by omega)⟩
    · rintro ⟨c0,l,r⟩ st' ⟨rfl,rfl,i1,i2,i3,i4⟩
      dsimp only at i1 i2 i3 i4 ⊢
      refine wpS_bind (wpS_mono (half (hint + 1 - min r (hint + 1)) (hint - l) (by omega) (by omega) (fun i hi=>?_) (fun i hi hn=>anti hi hn i3) _ (fun x c=>rfl)) ?_)
      · rcases i4 with z | ⟨z1,z2⟩
        · omega
        · exact mono (show i≤hint - r by omega) (by omega) z2
      · rintro ⟨c0,l2,r2⟩ st' ⟨rfl,rfl,t⟩
        exact wpS_pure (h _ t)
end
end MwSortR
namespace MwSortR
open PySem PyProof.Rows
variable [Ranks]
def kf (p:Keyed):Int:=Ranks.ρ p.1
def Rise (l:List Keyed):Prop:=l.Pairwise (fun x y=>kf x≤kf y)
def Ahead (l r:List Keyed):Prop:=∀ x∈l,∀ y∈r,kf x≤kf y
theorem Rise.append {l r:List Keyed}(h1:Rise l)(h2:Rise r)(h:Ahead l r):Rise (l ++ r):=List.pairwise_append.mpr ⟨h1,h2,h⟩
theorem Rise.sub {l r:List Keyed}(h:Rise r)(s:l.Sublist r):Rise l:=h.sublist s
structure MI (a b out:List Keyed)(ia ib:Nat):Prop where
  perm:out.Perm (a.take ia ++ b.take ib)
  rise:Rise out
  ahA:Ahead out (a.drop ia)
  ahB:Ahead out (b.drop ib)
theorem MI.moreB {a b out:List Keyed}{ia ib k:Nat}(h:MI a b out ia ib)(hb:Rise b)(hk:ib + k≤b.length)(hx:Ahead ((b.drop ib).take k) (a.drop ia)):MI a b (out ++ (b.drop ib).take k) ia (ib + k):=by
  have e:b.drop ib=(b.drop ib).take k ++ b.drop (ib + k):=by rw [← List.drop_drop,List.take_append_drop]
  have r:Rise ((b.drop ib).take k ++ b.drop (ib + k)):=by rw [← e];exact hb.sub (List.drop_sublist _ _)
  have c:=List.pairwise_append.mp r
  refine ⟨?_,h.rise.append c.1 fun x hx y hy=>h.ahB x hx y (List.mem_of_mem_take hy),fun x hx' y hy=>?_,fun x hx' y hy=>?_⟩
  · rw [List.take_add]
    have:=h.perm.append_right ((b.drop ib).take k)
    rwa [List.append_assoc] at this
  · rcases List.mem_append.mp hx' with z | z
    · exact h.ahA x z y hy
    · exact hx x z y hy
  · rcases List.mem_append.mp hx' with z | z
    · exact h.ahB x z y (by rw [e];exact List.mem_append_right _ hy)
    · exact c.2.2 x z y hy
theorem MI.swap {a b out:List Keyed}{ia ib:Nat}(h:MI a b out ia ib):MI b a out ib ia:=⟨h.perm.trans List.perm_append_comm,h.rise,h.ahB,h.ahA⟩
theorem MI.moreA {a b out:List Keyed}{ia ib k:Nat}(h:MI a b out ia ib)(ha:Rise a)(hk:ia + k≤a.length)(hx:Ahead ((a.drop ia).take k) (b.drop ib)):MI a b (out ++ (a.drop ia).take k) (ia + k) ib:=(h.swap.moreB ha hk hx).swap
theorem MI.fin {a b out:List Keyed}(h:MI a b out a.length b.length):out.Perm (a ++ b)∧Rise out:=by
  refine ⟨?_,h.rise⟩
  have:=h.perm
  rwa [List.take_length,List.take_length] at this
theorem MI.restA {a b out:List Keyed}{ia:Nat}(h:MI a b out ia b.length)(ha:Rise a)(hi:ia≤a.length):(out ++ a.drop ia).Perm (a ++ b)∧Rise (out ++ a.drop ia):=by
  have m:=h.moreA (k:=a.length - ia) ha (by omega) (by rw [List.drop_length];exact fun x _ y hy=>absurd hy (by simp))
  have e:(a.drop ia).take (a.length - ia)=a.drop ia:=List.take_of_length_le (by rw [List.length_drop];exact Nat.le_refl _)
  rw [e,show ia + (a.length - ia)=a.length by omega] at m
  exact m.fin
theorem MI.lastA {a b out:List Keyed}{ia ib:Nat}(h:MI a b out ia ib)(ha:Rise a)(hb:Rise b)(hi:ia≤a.length)(hj:ib≤b.length)(hx:Ahead (b.drop ib) (a.drop ia)) :
    (out ++ b.drop ib ++ a.drop ia).Perm (a ++ b)∧Rise (out ++ b.drop ib ++ a.drop ia):=by
  have e:(b.drop ib).take (b.length - ib)=b.drop ib:=List.take_of_length_le (by rw [List.length_drop];exact Nat.le_refl _)
  have m:=h.moreB (k:=b.length - ib) hb (by omega) (by rw [e];exact hx)
  rw [e,show ib + (b.length - ib)=b.length by omega] at m
  exact m.restA ha hi
theorem MI.restB {a b out:List Keyed}{ib:Nat}(h:MI a b out a.length ib)(hb:Rise b)(hi:ib≤b.length):(out ++ b.drop ib).Perm (a ++ b)∧Rise (out ++ b.drop ib):=by
  have:=h.swap.restA hb hi
  exact ⟨this.1.trans List.perm_append_comm,this.2⟩
theorem MI.nil {a b:List Keyed}:MI a b [] 0 0:=⟨by simp,List.Pairwise.nil,fun x hx=>absurd hx (by simp),fun x hx=>absurd hx (by simp)⟩
theorem MI.len {a b out:List Keyed}{ia ib:Nat}(h:MI a b out ia ib)(h1:ia≤a.length)(h2:ib≤b.length):out.length=ia + ib:=by
  have:=h.perm.length_eq
  rw [List.length_append,List.length_take,List.length_take] at this
  omega
theorem mem_seg {l:List Keyed}{x:Keyed}{i k:Nat}(h:x∈(l.drop i).take k):∃ n,∃ _:n < l.length,i≤n∧n < i + k∧l[n]=x:=by
  obtain ⟨m,hm,e⟩:=List.mem_iff_getElem.mp h
  rw [List.length_take,List.length_drop] at hm
  refine ⟨i + m,by omega,by omega,by omega,?_⟩
  rw [List.getElem_take,List.getElem_drop] at e
  exact e
theorem mem_rest {l:List Keyed}{x:Keyed}{i:Nat}(h:x∈l.drop i):∃ n,∃ _:n < l.length,i≤n∧l[n]=x:=by
  obtain ⟨m,hm,e⟩:=List.mem_iff_getElem.mp h
  rw [List.length_drop] at hm
  refine ⟨i + m,by omega,by omega,?_⟩
  rw [List.getElem_drop] at e
  exact e
theorem mem_first {l:List Keyed}{x:Keyed}{i:Nat}(h:x∈l.take i):∃ n,∃ _:n < l.length,n < i∧l[n]=x:=by
  obtain ⟨m,hm,e⟩:=List.mem_iff_getElem.mp h
  rw [List.length_take] at hm
  refine ⟨m,by omega,by omega,?_⟩
  rw [List.getElem_take] at e
  exact e
theorem kf_at {a:Array Keyed}{n:Nat}(h:n < a.toList.length):kf a.toList[n]=K a n:=by
  unfold kf K
  rw [getElem?_pos a n (by simpa using h)]
  simp
theorem riseK {a:Array Keyed}(h:Rise a.toList){i j:Nat}(hij:i≤j)(hj:j < a.size):K a i≤K a j:=by
  rcases Nat.lt_or_ge i j with z | z
  · have:=(List.pairwise_iff_getElem.mp h) i j (by simp;omega) (by simpa using hj) z
    rwa [kf_at,kf_at] at this
  · have:i=j:=by omega
    rw [this];exact Int.le_refl _
theorem rise_of {a:Array Keyed}(h:∀ i j,i≤j→j < a.size → K a i≤K a j):Rise a.toList:=by
  refine List.pairwise_iff_getElem.mpr fun i j hi hj hij=>?_
  rw [kf_at,kf_at]
  exact h i j (by omega) (by simpa using hj)
structure MH (a b out:List Keyed)(na nb:Nat):Prop where
  perm:out.Perm (a.drop na ++ b.drop nb)
  rise:Rise out.reverse
  ahA:Ahead (a.take na) out
  ahB:Ahead (b.take nb) out
theorem MH.swap {a b out:List Keyed}{na nb:Nat}(h:MH a b out na nb):MH b a out nb na:=⟨h.perm.trans List.perm_append_comm,h.rise,h.ahB,h.ahA⟩
theorem MH.nil {a b:List Keyed}:MH a b [] a.length b.length:=⟨by simp,List.Pairwise.nil,fun x _ y hy=>absurd hy (by simp),fun x _ y hy=>absurd hy (by simp)⟩
theorem seg_split {l:List Keyed}{i j:Nat}(h:i≤j):l.drop i=(l.drop i).take (j - i) ++ l.drop j:=by
  have e:l.drop j=(l.drop i).drop (j - i):=by rw [List.drop_drop];congr 1;omega
  rw [e,List.take_append_drop]
theorem first_split {l:List Keyed}{i j:Nat}(h:i≤j):l.take j=l.take i ++ (l.drop i).take (j - i):=by
  have:j=i + (j - i):=by omega
  rw [this,List.take_add]
  congr 3
theorem MH.moreA {a b out:List Keyed}{na nb p:Nat}(h:MH a b out na nb)(ha:Rise a)(hp:p≤na)(hx:Ahead (b.take nb) ((a.drop p).take (na - p))):MH a b (out ++ ((a.drop p).take (na - p)).reverse) p nb:=by
  have e1:=seg_split (l:=a) hp
  have e2:=first_split (l:=a) hp
  have r1:Rise (a.take p ++ (a.drop p).take (na - p)):=by rw [← e2];exact ha.sub (List.take_sublist _ _)
  have c:=List.pairwise_append.mp r1
  have hA:Ahead ((a.drop p).take (na - p)) out:=fun x hx' y hy=>h.ahA x (by rw [e2];exact List.mem_append_right _ hx') y hy
  refine ⟨?_,?_,fun x hx' y hy=>?_,fun x hx' y hy=>?_⟩
  · have e3:a.drop p ++ b.drop nb=(a.drop p).take (na - p) ++ (a.drop na ++ b.drop nb):=by rw [← List.append_assoc,← e1]
    rw [e3]
    refine (h.perm.append_right _).trans ?_
    refine ((List.reverse_perm _).append_left _).trans ?_
    exact List.perm_append_comm
  · rw [List.reverse_append,List.reverse_reverse]
    refine Rise.append c.2.1 h.rise fun x hx' y hy=>hA x hx' y (List.mem_reverse.mp hy)
  · rcases List.mem_append.mp hy with z | z
    · exact h.ahA x (by rw [e2];exact List.mem_append_left _ hx') y z
    · exact c.2.2 x hx' y (List.mem_reverse.mp z)
  · rcases List.mem_append.mp hy with z | z
    · exact h.ahB x hx' y z
    · exact hx x hx' y (List.mem_reverse.mp z)
theorem MH.moreB {a b out:List Keyed}{na nb p:Nat}(h:MH a b out na nb)(hb:Rise b)(hp:p≤nb)(hx:Ahead (a.take na) ((b.drop p).take (nb - p))):MH a b (out ++ ((b.drop p).take (nb - p)).reverse) na p:=(h.swap.moreA hb hp hx).swap
theorem MH.fin {a b out:List Keyed}(h:MH a b out 0 0):out.reverse.Perm (a ++ b)∧Rise out.reverse:=⟨(List.reverse_perm _).trans (by simpa using h.perm),h.rise⟩
theorem MH.restB {a b out:List Keyed}{nb:Nat}(h:MH a b out 0 nb)(hb:Rise b)(hi:nb≤b.length):(b.take nb ++ out.reverse).Perm (a ++ b)∧Rise (b.take nb ++ out.reverse):=by
  have m:=h.moreB (p:=0) hb (by omega) (fun x hx=>absurd hx (by simp))
  have:=m.fin
  simpa using this
theorem MH.restA {a b out:List Keyed}{na:Nat}(h:MH a b out na 0)(ha:Rise a)(hi:na≤a.length):(a.take na ++ out.reverse).Perm (a ++ b)∧Rise (a.take na ++ out.reverse):=by
  have m:=h.moreA (p:=0) ha (by omega) (fun x hx=>absurd hx (by simp))
  have:=m.fin
  simpa using this
theorem MH.firstB {a b out:List Keyed}{na nb:Nat}(h:MH a b out na nb)(ha:Rise a)(hb:Rise b)(hi:na≤a.length)(hj:nb≤b.length)(hx:Ahead (b.take nb) (a.take na)) :
    (b.take nb ++ a.take na ++ out.reverse).Perm (a ++ b)∧Rise (b.take nb ++ a.take na ++ out.reverse):=by
  have m:=h.moreA (p:=0) ha (by omega) (by simpa using hx)
  have:=m.restB hb hj
  simpa using this
end MwSortR
set_option maxHeartbeats 2000000
namespace MwSortR
open PySem PyProof.Rows
variable [Ranks]
def mergeLo':Array Keyed→Array Keyed→StateT SortSt Sem (Array Keyed):=sortPriv% PySem.Builtin.mergeLo
def setG':Nat→StateT SortSt Sem Unit:=sortPriv% PySem.Builtin.setMinGallop
theorem setG'_eq (g:Nat):setG' g=modify fun z=>SortSt.mk' (kindOf z) (arrOf z) (pendingOf z) g (failedOf z):=rfl
abbrev LoR:=Option (Array Keyed) × Array Keyed × Nat × Nat × Nat × Nat
abbrev LoG:=Option (Array Keyed) × Array Keyed × Nat × Nat × Nat × Nat × Nat
abbrev LoO:=Option (Array Keyed) × Array Keyed × Nat × Nat × Nat
def fDone (a b out:Array Keyed)(ia ib:Nat):Array Keyed:=out ++ a.extract ia a.size ++ b.extract ib b.size
def fLast (a b out:Array Keyed)(ia ib:Nat):Array Keyed:=out ++ b.extract ib b.size ++ a.extract ia a.size
def loR (a b:Array Keyed)(mg:Nat)(out:Array Keyed)(ia ib ac bc:Nat):StateT SortSt Sem (ForInStep LoR):=do
  let p ← elem' b ib
  let q ← elem' a ia
  let r ← lt' p q
  match r with
  | some t =>
    if t=true then do
      let z ← elem' b ib
      if (ib + 1 == b.size)=true then pure (.done (some (fDone a b (out.push z) ia (ib + 1)),out.push z,ia,ib + 1,0,bc + 1))
      else if bc + 1 ≥ mg then pure (.done (none,out.push z,ia,ib + 1,0,bc + 1))
      else pure (.yield (none,out.push z,ia,ib + 1,0,bc + 1))
    else do
      let z ← elem' a ia
      if (ia + 1 + 1 == a.size)=true then pure (.done (some (fLast a b (out.push z) (ia + 1) ib),out.push z,ia + 1,ib,ac + 1,0))
      else if ac + 1 ≥ mg then pure (.done (none,out.push z,ia + 1,ib,ac + 1,0))
      else pure (.yield (none,out.push z,ia + 1,ib,ac + 1,0))
  | _=>pure (.done (some (fDone a b out ia ib),out,ia,ib,ac,bc))
def loG3 (a b:Array Keyed)(out:Array Keyed)(ia ib mg ac bc:Nat):StateT SortSt Sem (ForInStep LoG):=do
  let z ← elem' a ia
  if (ia + 1 + 1 == a.size)=true then pure (.done (some (fLast a b (out.push z) (ia + 1) ib),out.push z,ia + 1,ib,mg,ac,bc))
  else if (decide (ac < 7) && decide (bc < 7))=true then pure (.done (none,out.push z,ia + 1,ib,mg,ac,bc))
  else pure (.yield (none,out.push z,ia + 1,ib,mg,ac,bc))
def loG2 (a b:Array Keyed)(out:Array Keyed)(ia ib mg ac bc:Nat):StateT SortSt Sem (ForInStep LoG):=do
  let z ← elem' b ib
  if (ib + 1 == b.size)=true then pure (.done (some (fDone a b (out.push z) ia (ib + 1)),out.push z,ia,ib + 1,mg,ac,bc))
  else do
    let y ← elem' a ia
    let r ← gallop' true y b (ib + 1) (b.size - (ib + 1)) 0
    match r with
    | some k =>
      if k > 0 then
        if (ib + 1 + k == b.size)=true then pure (.done (some (fDone a b (out.push z ++ b.extract (ib + 1) (ib + 1 + k)) ia (ib + 1 + k)),out.push z ++ b.extract (ib + 1) (ib + 1 + k),ia,ib + 1 + k,mg,ac,k))
        else loG3 a b (out.push z ++ b.extract (ib + 1) (ib + 1 + k)) ia (ib + 1 + k) mg ac k
      else loG3 a b (out.push z) ia (ib + 1) mg ac k
    | _=>pure (.done (some (fDone a b (out.push z) ia (ib + 1)),out.push z,ia,ib + 1,mg,ac,bc))
def loG1 (a b:Array Keyed)(out:Array Keyed)(ia ib mg ac bc:Nat):StateT SortSt Sem (ForInStep LoG):=do
  setG' mg
  let y ← elem' b ib
  let r ← gallop' false y a ia (a.size - ia) 0
  match r with
  | some k =>
    if k > 0 then
      if (ia + k + 1 == a.size)=true then pure (.done (some (fLast a b (out ++ a.extract ia (ia + k)) (ia + k) ib),out ++ a.extract ia (ia + k),ia + k,ib,mg,k,bc))
      else if (ia + k == a.size)=true then pure (.done (some (fDone a b (out ++ a.extract ia (ia + k)) (ia + k) ib),out ++ a.extract ia (ia + k),ia + k,ib,mg,k,bc))
      else loG2 a b (out ++ a.extract ia (ia + k)) (ia + k) ib mg k bc
    else loG2 a b out ia ib mg k bc
  | _=>pure (.done (some (fDone a b out ia ib),out,ia,ib,mg,ac,bc))
def loG (a b:Array Keyed)(out:Array Keyed)(ia ib mg ac bc:Nat):StateT SortSt Sem (ForInStep LoG) :=
  if mg > 1 then loG1 a b out ia ib (mg - 1) ac bc else loG1 a b out ia ib mg ac bc
def loO (a b:Array Keyed)(out:Array Keyed)(ia ib mg:Nat):StateT SortSt Sem (ForInStep LoO):=do
  let c ← forIn [:a.size + b.size] ((none,out,ia,ib,0,0):LoR) fun _ c=>loR a b mg c.2.1 c.2.2.1 c.2.2.2.1 c.2.2.2.2.1 c.2.2.2.2.2
  match c.1 with
  | some r=>pure (.done (some r,c.2.1,c.2.2.1,c.2.2.2.1,mg))
  | none=>do
    liftM (rule "list.sort.gallop")
    let d ← forIn [:a.size + b.size] ((none,c.2.1,c.2.2.1,c.2.2.2.1,mg + 1,c.2.2.2.2.1,c.2.2.2.2.2):LoG) fun _ d=>loG a b d.2.1 d.2.2.1 d.2.2.2.1 d.2.2.2.2.1 d.2.2.2.2.2.1 d.2.2.2.2.2.2
    match d.1 with
    | some r=>pure (.done (some r,d.2.1,d.2.2.1,d.2.2.2.1,d.2.2.2.2.1))
    | none=>do
      setG' (d.2.2.2.2.1 + 1)
      pure (.yield (none,d.2.1,d.2.2.1,d.2.2.2.1,d.2.2.2.2.1 + 1))
theorem bindC {α β:Type}{x y:StateT SortSt Sem α}{f g:α→StateT SortSt Sem β}(h1:x=y)(h2:∀ c,f c=g c):(x >>= f)=(y >>= g):=by rw [h1,funext h2]
theorem forC {β:Type}{r:Std.Legacy.Range}{i:β}{f g:Nat→β→StateT SortSt Sem (ForInStep β)}(h:∀ x c,f x c=g x c):forIn r i f=forIn r i g:=by rw [funext fun x=>funext fun c=>h x c]
theorem mergeLo'_eq (a b:Array Keyed):mergeLo' a b=(do
    liftM (rule "list.sort.merge-lo")
    let z ← elem' b 0
    if (1 == b.size)=true then pure (fDone a b #[z] 0 1)
    else if (0 + 1 == a.size)=true then pure (fLast a b #[z] 0 1)
    else do
      let g ← get
      let c ← forIn [:a.size + b.size] ((none,#[z],0,1,gallopOf g):LoO) fun _ c=>loO a b c.2.1 c.2.2.1 c.2.2.2.1 c.2.2.2.2
      match c.1 with
      | some r=>pure r
      | none=>liftM (unsupported "internal:list.sort.merge-bound" : Sem (Array Keyed))):=by
  refine bindC rfl fun u=>bindC rfl fun z=>ite_congr rfl (fun _=>rfl) fun _=>ite_congr rfl (fun _=>rfl) fun _=>bindC rfl fun g=>bindC (forC fun x c=>bindC rfl fun d=>?_) fun c=>?_
  · obtain ⟨d1,d2⟩:=d
    cases d1 with
    | some r=>rfl
    | none =>
      refine bindC rfl fun v=>bindC rfl fun d=>?_
      obtain ⟨d1,d2⟩:=d
      cases d1 with
      | some r=>rfl
      | none=>rfl
  · obtain ⟨c1,c2⟩:=c
    cases c1 with
    | some r=>rfl
    | none=>rfl
structure Two (a b:Array Keyed):Prop where
  ia:KeysIn a
  ib:KeysIn b
  ra:Rise a.toList
  rb:Rise b.toList
  na:1≤a.size
  nb:1≤b.size
  h0:K b 0 < K a 0
  hl:K b (b.size - 1) < K a (a.size - 1)
def Stay (st st':SortSt):Prop:=kindOf st'=kindOf st∧arrOf st'=arrOf st∧pendingOf st'=pendingOf st∧failedOf st'=failedOf st
theorem Stay.rfl {st:SortSt}:Stay st st:=⟨_root_.rfl,_root_.rfl,_root_.rfl,_root_.rfl⟩
theorem Stay.kind {st st':SortSt}(h:Stay st st')(k:kindOf st=Ranks.κ):kindOf st'=Ranks.κ:=h.1.trans k
def Merged (a b r:Array Keyed):Prop:=r.toList.Perm (a.toList ++ b.toList)∧Rise r.toList
abbrev MA (a b out:Array Keyed)(ia ib:Nat):Prop:=MI a.toList b.toList out.toList ia ib
theorem Two.last {a b:Array Keyed}(T:Two a b){j:Nat}(hj:j < b.size):K b j < K a (a.size - 1):=Int.lt_of_le_of_lt (riseK T.rb (show j≤b.size - 1 by omega) (by omega)) T.hl
theorem Two.first {a b:Array Keyed}(T:Two a b){i:Nat}(hi:i < a.size):K b 0 < K a i:=Int.lt_of_lt_of_le T.h0 (riseK T.ra (Nat.zero_le i) hi)
theorem MA.addA {a b out:Array Keyed}{ia ib k:Nat}(h:MA a b out ia ib)(ra:Rise a.toList)(hk:ia + k≤a.size)(hx:∀ i j,ia≤i→i < ia + k→ib≤j→j < b.size → K a i≤K b j):MA a b (out ++ a.extract ia (ia + k)) (ia + k) ib:=by
  have:=MI.moreA (k:=k) h ra (by simpa using hk) (fun x hx' y hy=>by
    obtain ⟨n,hn,n1,n2,rfl⟩:=mem_seg hx'
    obtain ⟨m,hm,m1,rfl⟩:=mem_rest hy
    rw [kf_at,kf_at]
    exact hx n m n1 n2 m1 (by simpa using hm))
  show MI _ _ _ _ _
  rw [Array.toList_append,Array.toList_extract,List.extract_eq_take_drop,Nat.add_sub_cancel_left]
  exact this
theorem MA.swap {a b out:Array Keyed}{ia ib:Nat}(h:MA a b out ia ib):MA b a out ib ia:=MI.swap h
theorem MA.addB {a b out:Array Keyed}{ia ib k:Nat}(h:MA a b out ia ib)(rb:Rise b.toList)(hk:ib + k≤b.size)(hx:∀ i j,ib≤i→i < ib + k→ia≤j→j < a.size → K b i≤K a j):MA a b (out ++ b.extract ib (ib + k)) ia (ib + k):=(h.swap.addA rb hk hx).swap
theorem push_ext {a out:Array Keyed}{i:Nat}{z:Keyed}(h:a[i]? = some z):out.push z=out ++ a.extract i (i + 1):=by
  obtain ⟨hi,rfl⟩:=Array.getElem?_eq_some_iff.mp h
  apply Array.ext'
  simp [List.extract_eq_take_drop,List.take_one,List.head?_drop,hi]
theorem MA.pushA {a b out:Array Keyed}{ia ib:Nat}{z:Keyed}(h:MA a b out ia ib)(ra:Rise a.toList)(hz:a[ia]? = some z)(hx:∀ j,ib≤j→j < b.size → K a ia≤K b j):MA a b (out.push z) (ia + 1) ib:=by
  rw [push_ext hz]
  obtain ⟨hi,_⟩:=Array.getElem?_eq_some_iff.mp hz
  exact h.addA ra (by omega) fun i j h1 h2 h3 h4=>by
    have:i=ia:=by omega
    rw [this];exact hx j h3 h4
theorem MA.pushB {a b out:Array Keyed}{ia ib:Nat}{z:Keyed}(h:MA a b out ia ib)(rb:Rise b.toList)(hz:b[ib]? = some z)(hx:∀ j,ia≤j→j < a.size → K b ib≤K a j):MA a b (out.push z) ia (ib + 1):=(h.swap.pushA rb hz hx).swap
theorem ext_rest (a:Array Keyed)(i:Nat):(a.extract i a.size).toList=a.toList.drop i:=by
  rw [Array.toList_extract,List.extract_eq_take_drop]
  exact List.take_of_length_le (by simp)
theorem MA.doneB {a b out:Array Keyed}{ia ib:Nat}(T:Two a b)(h:MA a b out ia ib)(e:ib=b.size)(hi:ia≤a.size):Merged a b (fDone a b out ia ib):=by
  subst e
  unfold Merged fDone
  have e2:(b.extract b.size b.size).toList=[]:=by rw [ext_rest];simp
  rw [Array.toList_append,Array.toList_append,ext_rest,e2,List.append_nil]
  exact MI.restA (by simpa using h) T.ra (by simpa using hi)
theorem MA.doneA {a b out:Array Keyed}{ia ib:Nat}(T:Two a b)(h:MA a b out ia ib)(e:ia=a.size)(hi:ib≤b.size):Merged a b (fDone a b out ia ib):=by
  subst e
  unfold Merged fDone
  have e2:(a.extract a.size a.size).toList=[]:=by rw [ext_rest];simp
  rw [Array.toList_append,Array.toList_append,ext_rest b,e2,List.append_nil]
  exact MI.restB (by simpa using h) T.rb (by simpa using hi)
theorem MA.last {a b out:Array Keyed}{ia ib:Nat}(T:Two a b)(h:MA a b out ia ib)(e:ia + 1=a.size)(hi:ib≤b.size):Merged a b (fLast a b out ia ib):=by
  unfold Merged fLast
  rw [Array.toList_append,Array.toList_append,ext_rest,ext_rest]
  refine MI.lastA h T.ra T.rb (by simp;omega) (by simpa using hi) fun x hx y hy=>?_
  obtain ⟨n,hn,n1,rfl⟩:=mem_rest hx
  obtain ⟨m,hm,m1,rfl⟩:=mem_rest hy
  rw [kf_at,kf_at]
  have hm':m < a.size:=by simpa using hm
  have:m=a.size - 1:=by omega
  rw [this]
  exact Int.le_of_lt (T.last (by simpa using hn))
section
variable {prog:Program}{w:World}{A:Around}{E:Value→Shared→Prop}{s:Shared}[CmpOk prog w A s]
theorem at_some {arr:Array Keyed}(hI:KeysIn arr){i:Nat}(h:i < arr.size):∃ p,arr[i]? = some p∧∃ t:Tok,IsK p.1 (K arr i):=by
  obtain ⟨p,t,e,k⟩:=at_int hI h
  exact ⟨p,e,t,k⟩
theorem wpS_setG {st₀ st:SortSt}{g:Nat}{Q:Unit→SortSt→Prop}(hS:Stay st₀ st)(h:∀ st',Stay st₀ st'→Q () st'):wpS (model prog w) A E s (setG' g) Q st:=by
  rw [setG'_eq]
  exact wpS_modify (h _ ⟨hS.1,hS.2.1,hS.2.2.1,hS.2.2.2⟩)
theorem turns_false {kk:Int}{arr:Array Keyed}{b n k:Nat}(h:Turns (Fwd false kk arr b) n k):k≤n∧(∀ i,i < k→K arr (b + i)≤kk)∧∀ i,k≤i→i < n→kk < K arr (b + i):=by
  refine ⟨h.1,fun i hi=>?_,fun i hi hn=>?_⟩
  · have:=h.2.1 i hi
    simp [Fwd] at this
    exact this
  · have:=h.2.2 i hi hn
    simp [Fwd] at this
    exact this
theorem turns_true {kk:Int}{arr:Array Keyed}{b n k:Nat}(h:Turns (Fwd true kk arr b) n k):k≤n∧(∀ i,i < k→K arr (b + i) < kk)∧∀ i,k≤i→i < n→kk≤K arr (b + i):=by
  refine ⟨h.1,fun i hi=>?_,fun i hi hn=>?_⟩
  · have:=h.2.1 i hi
    simp [Fwd] at this
    exact this
  · have:=h.2.2 i hi hn
    simp [Fwd] at this
    exact this
def OkR (a b:Array Keyed)(n:Nat)(st₀:SortSt)(c:LoR)(st:SortSt):Prop:=Stay st₀ st∧((∃ r,c.1=some r∧Merged a b r) ∨ (c.1=none∧MA a b c.2.1 c.2.2.1 c.2.2.2.1 ∧ c.2.2.1 + 1 < a.size ∧ c.2.2.2.1 < b.size ∧ n≤c.2.2.1 + c.2.2.2.1))
def OkG (a b:Array Keyed)(n:Nat)(st₀:SortSt)(c:LoG)(st:SortSt):Prop:=Stay st₀ st∧((∃ r,c.1=some r∧Merged a b r) ∨ (c.1=none∧MA a b c.2.1 c.2.2.1 c.2.2.2.1 ∧ c.2.2.1 + 1 < a.size ∧ c.2.2.2.1 < b.size ∧ n≤c.2.2.1 + c.2.2.2.1))
theorem loR_ok {st₀ st:SortSt}{a b out:Array Keyed}{mg ia ib ac bc n:Nat}(T:Two a b)(hk:kindOf st₀=Ranks.κ)(hS:Stay st₀ st)(hM:MA a b out ia ib)(hA:ia + 1 < a.size)(hB:ib < b.size)(hn:n≤ia + ib) :
    wpS (model prog w) A E s (loR a b mg out ia ib ac bc) (fun r st'=>match r with | .done c=>OkR a b (n + 1) st₀ c st' | .yield c=>c.1=none∧OkR a b (n + 1) st₀ c st') st:=by
  obtain ⟨p,ep,t,hp⟩:=at_some T.ib hB
  obtain ⟨q,eq,u,hq⟩:=at_some T.ia (show ia < a.size by omega)
  unfold loR
  refine wpS_bind (wpS_elem ep (wpS_bind (wpS_elem eq (wpS_bind (wpS_lt2 (hS.kind hk) hp hq ?_)))))
  dsimp only
  by_cases hlt:K b ib < K a ia
  · rw [if_pos (by simpa using hlt)]
    refine wpS_bind (wpS_elem ep ?_)
    have M:MA a b (out.push p) ia (ib + 1):=hM.pushB T.rb ep fun j h1 h2=>Int.le_of_lt (Int.lt_of_lt_of_le hlt (riseK T.ra h1 h2))
    by_cases e:ib + 1=b.size
    · rw [if_pos (by simpa using e)]
      exact wpS_pure ⟨hS,.inl ⟨_,rfl,M.doneB T e (by omega)⟩⟩
    · rw [if_neg (by simpa using e)]
      have R:OkR a b (n + 1) st₀ (none,out.push p,ia,ib + 1,0,bc + 1) st:=⟨hS,.inr ⟨rfl,M,hA,by dsimp only;omega,by dsimp only;omega⟩⟩
      by_cases g:bc + 1 ≥ mg
      · rw [if_pos g];exact wpS_pure R
      · rw [if_neg g];exact wpS_pure ⟨rfl,R⟩
  · rw [if_neg (by simpa using hlt)]
    refine wpS_bind (wpS_elem eq ?_)
    have M:MA a b (out.push q) (ia + 1) ib:=hM.pushA T.ra eq fun j h1 h2=>Int.le_trans (Int.not_lt.mp hlt) (riseK T.rb h1 h2)
    by_cases e:ia + 1 + 1=a.size
    · rw [if_pos (by simpa using e)]
      exact wpS_pure ⟨hS,.inl ⟨_,rfl,M.last T e (by omega)⟩⟩
    · rw [if_neg (by simpa using e)]
      have R:OkR a b (n + 1) st₀ (none,out.push q,ia + 1,ib,ac + 1,0) st:=⟨hS,.inr ⟨rfl,M,by dsimp only;omega,hB,by dsimp only;omega⟩⟩
      by_cases g:ac + 1 ≥ mg
      · rw [if_pos g];exact wpS_pure R
      · rw [if_neg g];exact wpS_pure ⟨rfl,R⟩
abbrev PG (a b:Array Keyed)(n:Nat)(st₀:SortSt)(r:ForInStep LoG)(st':SortSt):Prop:=match r with | .done c=>OkG a b n st₀ c st' | .yield c=>c.1=none∧OkG a b n st₀ c st'
theorem loG3_ok {st₀ st:SortSt}{a b out:Array Keyed}{mg ia ib ac bc n:Nat}(T:Two a b)(hS:Stay st₀ st)(hM:MA a b out ia ib)(hA:ia + 1 < a.size)(hB:ib < b.size)(hn:n≤ia + ib)(hx:∀ j,ib≤j→j < b.size → K a ia≤K b j) :
    wpS (model prog w) A E s (loG3 a b out ia ib mg ac bc) (PG a b n st₀) st:=by
  obtain ⟨q,eq,u,hq⟩:=at_some T.ia (show ia < a.size by omega)
  unfold loG3
  refine wpS_bind (wpS_elem eq ?_)
  have M:MA a b (out.push q) (ia + 1) ib:=hM.pushA T.ra eq hx
  by_cases e:ia + 1 + 1=a.size
  · rw [if_pos (by simpa using e)]
    exact wpS_pure ⟨hS,.inl ⟨_,rfl,M.last T e (by omega)⟩⟩
  · rw [if_neg (by simpa using e)]
    have R:OkG a b n st₀ (none,out.push q,ia + 1,ib,mg,ac,bc) st:=⟨hS,.inr ⟨rfl,M,by dsimp only;omega,hB,by dsimp only;omega⟩⟩
    by_cases g:(decide (ac < 7) && decide (bc < 7))=true
    · rw [if_pos g];exact wpS_pure R
    · rw [if_neg g];exact wpS_pure ⟨rfl,R⟩
theorem loG2_ok {st₀ st:SortSt}{a b out:Array Keyed}{mg ia ib ac bc n:Nat}(T:Two a b)(hk:kindOf st₀=Ranks.κ)(hS:Stay st₀ st)(hM:MA a b out ia ib)(hA:ia + 1 < a.size)(hB:ib < b.size)(hn:n≤ia + ib)(hx:∀ j,ia≤j→j < a.size → K b ib≤K a j) :
    wpS (model prog w) A E s (loG2 a b out ia ib mg ac bc) (PG a b n st₀) st:=by
  obtain ⟨p,ep,t,hp⟩:=at_some T.ib hB
  obtain ⟨q,eq,u,hq⟩:=at_some T.ia (show ia < a.size by omega)
  unfold loG2
  refine wpS_bind (wpS_elem ep ?_)
  have M:MA a b (out.push p) ia (ib + 1):=hM.pushB T.rb ep hx
  by_cases e:ib + 1=b.size
  · rw [if_pos (by simpa using e)]
    exact wpS_pure ⟨hS,.inl ⟨_,rfl,M.doneB T e (by omega)⟩⟩
  · rw [if_neg (by simpa using e)]
    refine wpS_bind (wpS_elem eq (wpS_bind (wpS_gallop (hS.kind hk) hq T.ib (by omega) (by omega) (fun i j h1 h2=>riseK T.rb (by omega) (by omega)) fun k hT=>?_)))
    obtain ⟨k1,k2,k3⟩:=turns_true hT
    dsimp only
    by_cases hk0:k > 0
    · rw [if_pos hk0]
      have M2:=M.addB (k:=k) T.rb (by omega) fun i j h1 h2 h3 h4=>Int.le_of_lt (Int.lt_of_lt_of_le (by
        have:=k2 (i - (ib + 1)) (by omega)
        rwa [show ib + 1 + (i - (ib + 1))=i by omega] at this) (riseK T.ra h3 h4))
      by_cases e2:ib + 1 + k=b.size
      · rw [if_pos (by simpa using e2)]
        exact wpS_pure ⟨hS,.inl ⟨_,rfl,M2.doneB T e2 (by omega)⟩⟩
      · rw [if_neg (by simpa using e2)]
        exact loG3_ok T hS M2 hA (by omega) (by omega) fun j h1 h2=>by
          have:=k3 (j - (ib + 1)) (by omega) (by omega)
          rwa [show ib + 1 + (j - (ib + 1))=j by omega] at this
    · rw [if_neg hk0]
      exact loG3_ok T hS M hA (by omega) (by omega) fun j h1 h2=>by
        have:=k3 (j - (ib + 1)) (by omega) (by omega)
        rwa [show ib + 1 + (j - (ib + 1))=j by omega] at this
theorem loG1_ok {st₀ st:SortSt}{a b out:Array Keyed}{mg ia ib ac bc n:Nat}(T:Two a b)(hk:kindOf st₀=Ranks.κ)(hS:Stay st₀ st)(hM:MA a b out ia ib)(hA:ia + 1 < a.size)(hB:ib < b.size)(hn:n≤ia + ib) :
    wpS (model prog w) A E s (loG1 a b out ia ib mg ac bc) (PG a b n st₀) st:=by
  obtain ⟨p,ep,t,hp⟩:=at_some T.ib hB
  unfold loG1
  refine wpS_bind (wpS_setG hS fun st' hS'=>wpS_bind (wpS_elem ep (wpS_bind (wpS_gallop (hS'.kind hk) hp T.ia (by omega) (by omega) (fun i j h1 h2=>riseK T.ra (by omega) (by omega)) fun k hT=>?_))))
  obtain ⟨k1,k2,k3⟩:=turns_false hT
  dsimp only
  by_cases hk0:k > 0
  · rw [if_pos hk0]
    have M2:=hM.addA (k:=k) T.ra (by omega) fun i j h1 h2 h3 h4=>Int.le_trans (by
      have:=k2 (i - ia) (by omega)
      rwa [show ia + (i - ia)=i by omega] at this) (riseK T.rb h3 h4)
    by_cases e:ia + k + 1=a.size
    · rw [if_pos (by simpa using e)]
      exact wpS_pure ⟨hS',.inl ⟨_,rfl,M2.last T e (by omega)⟩⟩
    · rw [if_neg (by simpa using e)]
      by_cases e2:ia + k=a.size
      · rw [if_pos (by simpa using e2)]
        exact wpS_pure ⟨hS',.inl ⟨_,rfl,M2.doneA T e2 (by omega)⟩⟩
      · rw [if_neg (by simpa using e2)]
        exact loG2_ok T hk hS' M2 (by omega) hB (by omega) fun j h1 h2=>by
          have:=k3 (j - ia) (by omega) (by omega)
          rw [show ia + (j - ia)=j by omega] at this
          exact Int.le_of_lt this
  · rw [if_neg hk0]
    exact loG2_ok T hk hS' hM hA hB hn fun j h1 h2=>by
      have:=k3 (j - ia) (by omega) (by omega)
      rw [show ia + (j - ia)=j by omega] at this
      exact Int.le_of_lt this
theorem loG_ok {st₀ st:SortSt}{a b out:Array Keyed}{mg ia ib ac bc n:Nat}(T:Two a b)(hk:kindOf st₀=Ranks.κ)(hS:Stay st₀ st)(hM:MA a b out ia ib)(hA:ia + 1 < a.size)(hB:ib < b.size)(hn:n≤ia + ib) :
    wpS (model prog w) A E s (loG a b out ia ib mg ac bc) (PG a b n st₀) st:=by
  unfold loG
  by_cases h:mg > 1
  · rw [if_pos h];exact loG1_ok T hk hS hM hA hB hn
  · rw [if_neg h];exact loG1_ok T hk hS hM hA hB hn
def OkO (a b:Array Keyed)(n:Nat)(st₀:SortSt)(c:LoO)(st:SortSt):Prop:=Stay st₀ st∧((∃ r,c.1=some r∧Merged a b r) ∨ (c.1=none∧MA a b c.2.1 c.2.2.1 c.2.2.2.1 ∧ c.2.2.1 + 1 < a.size ∧ c.2.2.2.1 < b.size ∧ n≤c.2.2.1 + c.2.2.2.1))
theorem loO_ok {st₀ st:SortSt}{a b out:Array Keyed}{mg ia ib n:Nat}(T:Two a b)(hk:kindOf st₀=Ranks.κ)(hS:Stay st₀ st)(hM:MA a b out ia ib)(hA:ia + 1 < a.size)(hB:ib < b.size)(hn:n≤ia + ib) :
    wpS (model prog w) A E s (loO a b out ia ib mg) (fun r st'=>match r with | .done c=>OkO a b (n + 1) st₀ c st'∧c.1 ≠ none | .yield c=>c.1=none∧OkO a b (n + 1) st₀ c st') st:=by
  unfold loO
  refine wpS_bind (wpS_mono (wpS_forRange (I:=fun x c st'=>c.1=none∧OkR a b (n + x) st₀ c st') (Q:=fun c st'=>OkR a b (n + 1) st₀ c st') ?_ ?_ ⟨rfl,hS,.inr ⟨rfl,hM,hA,hB,by dsimp only;omega⟩⟩) ?_)
  · rintro x ⟨c0,o,i,j,ac,bc⟩ st' _ hx ⟨e,hS',z⟩
    rcases z with ⟨r,e',_⟩ | ⟨_,m,h1,h2,h3⟩
    · rw [e'] at e;cases e
    · refine wpS_mono (loR_ok T hk hS' m h1 h2 h3) fun r st2 hr=>?_
      have le:∀ c,OkR a b (n + x + 1) st₀ c st2→OkR a b (n + 1) st₀ c st2:=fun c hc=>⟨hc.1,hc.2.imp id fun ⟨q1,q2,q3,q4,q5⟩=>⟨q1,q2,q3,q4,by omega⟩⟩
      cases r with
      | done c=>exact le c hr
      | yield c=>exact hr
  · rintro c st' ⟨e,hc⟩
    exact ⟨hc.1,hc.2.imp id fun ⟨q1,q2,q3,q4,q5⟩=>⟨q1,q2,q3,q4,by omega⟩⟩
  · rintro ⟨c0,o,i,j,ac,bc⟩ st' ⟨hS',z⟩
    rcases z with ⟨r,e,hr⟩ | ⟨e,m,h1,h2,h3⟩
    · dsimp only at e
      subst e
      exact wpS_pure ⟨⟨hS',.inl ⟨r,rfl,hr⟩⟩,by simp⟩
    · dsimp only at e
      subst e
      dsimp only
      refine wpS_bind (wpS_lift (wpAny_rule ⟨rfl,?_⟩))
      refine wpS_bind (wpS_mono (wpS_forRange (I:=fun x c st'=>c.1=none∧OkG a b (n + 1) st₀ c st') (Q:=fun c st'=>OkG a b (n + 1) st₀ c st') ?_ ?_ ⟨rfl,hS',.inr ⟨rfl,m,h1,h2,h3⟩⟩) ?_)
      · rintro x ⟨c0,o,i,j,mg,ac,bc⟩ st' _ hx ⟨e,hS',z⟩
        rcases z with ⟨r,e',_⟩ | ⟨_,m,h1,h2,h3⟩
        · rw [e'] at e;cases e
        · refine wpS_mono (loG_ok T hk hS' m h1 h2 h3) fun r st2 hr=>?_
          cases r with
          | done c=>exact hr
          | yield c=>exact hr
      · exact fun c st' hc=>hc.2
      · rintro ⟨c0,o,i,j,mg,ac,bc⟩ st' ⟨hS',z⟩
        rcases z with ⟨r,e,hr⟩ | ⟨e,m,h1,h2,h3⟩
        · dsimp only at e
          subst e
          exact wpS_pure ⟨⟨hS',.inl ⟨r,rfl,hr⟩⟩,by simp⟩
        · dsimp only at e
          subst e
          dsimp only
          exact wpS_bind (wpS_setG hS' fun st2 hS2=>wpS_pure ⟨rfl,hS2,.inr ⟨rfl,m,h1,h2,h3⟩⟩)
theorem wpS_mergeLo {st:SortSt}{a b:Array Keyed}{Q:Array Keyed→SortSt→Prop}(T:Two a b)(hk:kindOf st=Ranks.κ)(h:∀ r st',Stay st st'→Merged a b r→Q r st'):wpS (model prog w) A E s (mergeLo' a b) Q st:=by
  rw [mergeLo'_eq]
  obtain ⟨p,ep,t,hp⟩:=at_some T.ib (show 0 < b.size by have:=T.nb;omega)
  have hna:=T.na
  have hnb:=T.nb
  refine wpS_bind (wpS_lift (wpAny_rule ⟨rfl,wpS_bind (wpS_elem ep ?_)⟩))
  have M:MA a b #[p] 0 1:=(show MA a b #[] 0 0 from MI.nil).pushB T.rb ep fun j _ hj=>Int.le_of_lt (T.first hj)
  by_cases e1:1=b.size
  · rw [if_pos (by simpa using e1)]
    exact wpS_pure (h _ _ Stay.rfl (M.doneB T e1 (by omega)))
  · rw [if_neg (by simpa using e1)]
    by_cases e2:0 + 1=a.size
    · rw [if_pos (by simpa using e2)]
      exact wpS_pure (h _ _ Stay.rfl (M.last T e2 (by omega)))
    · rw [if_neg (by simpa using e2)]
      refine wpS_bind (wpS_get ?_)
      refine wpS_bind (wpS_mono (wpS_forRange (I:=fun x c st'=>c.1=none∧OkO a b (x + 1) st c st') (Q:=fun c st'=>OkO a b 0 st c st'∧c.1 ≠ none) ?_ ?_ ⟨rfl,Stay.rfl,.inr ⟨rfl,M,by dsimp only;omega,by dsimp only;omega,by dsimp only;omega⟩⟩) ?_)
      · rintro x ⟨c0,o,i,j,mg⟩ st' _ hx ⟨e,hS',z⟩
        rcases z with ⟨r,e',_⟩ | ⟨_,m,h1,h2,h3⟩
        · rw [e'] at e;cases e
        · refine wpS_mono (loO_ok T hk hS' m h1 h2 h3) fun r st2 hr=>?_
          cases r with
          | done c=>exact ⟨⟨hr.1.1,hr.1.2.imp id fun ⟨q1,q2,q3,q4,q5⟩=>⟨q1,q2,q3,q4,by omega⟩⟩,hr.2⟩
          | yield c=>exact hr
      · rintro ⟨c0,o,i,j,mg⟩ st' ⟨e,hS',z⟩
        rcases z with ⟨r,e',_⟩ | ⟨_,m,h1,h2,h3⟩
        · rw [e'] at e;cases e
        · dsimp only at h1 h2 h3
          exfalso;omega
      · rintro ⟨c0,o,i,j,mg⟩ st' ⟨⟨hS',z⟩,hne⟩
        rcases z with ⟨r,e,hr⟩ | ⟨e,_⟩
        · dsimp only at e
          subst e
          exact wpS_pure (h _ _ hS' hr)
        · exact absurd e hne
end
end MwSortR
set_option maxHeartbeats 2000000
namespace MwSortR
open PySem PyProof.Rows
variable [Ranks]
def mergeHi':Array Keyed→Array Keyed→StateT SortSt Sem (Array Keyed):=sortPriv% PySem.Builtin.mergeHi
abbrev HiR:=Option (Array Keyed) × Nat × Nat × Array Keyed × Nat × Nat
abbrev HiG:=Option (Array Keyed) × Nat × Nat × Array Keyed × Nat × Nat × Nat
abbrev HiO:=Option (Array Keyed) × Nat × Nat × Array Keyed × Nat
def gDone (a b out:Array Keyed)(na nb:Nat):Array Keyed:=a.extract 0 na ++ b.extract 0 nb ++ out.reverse
def gFirst (a b out:Array Keyed)(na nb:Nat):Array Keyed:=b.extract 0 nb ++ a.extract 0 na ++ out.reverse
def hiR (a b:Array Keyed)(mg:Nat)(out:Array Keyed)(na nb ac bc:Nat):StateT SortSt Sem (ForInStep HiR):=do
  let p ← elem' b (nb - 1)
  let q ← elem' a (na - 1)
  let r ← lt' p q
  match r with
  | some t =>
    if t=true then do
      let z ← elem' a (na - 1)
      if (na - 1 == 0)=true then pure (.done (some (gDone a b (out.push z) (na - 1) nb),na - 1,nb,out.push z,ac + 1,0))
      else if ac + 1 ≥ mg then pure (.done (none,na - 1,nb,out.push z,ac + 1,0))
      else pure (.yield (none,na - 1,nb,out.push z,ac + 1,0))
    else do
      let z ← elem' b (nb - 1)
      if (nb - 1 == 1)=true then pure (.done (some (gFirst a b (out.push z) na (nb - 1)),na,nb - 1,out.push z,0,bc + 1))
      else if bc + 1 ≥ mg then pure (.done (none,na,nb - 1,out.push z,0,bc + 1))
      else pure (.yield (none,na,nb - 1,out.push z,0,bc + 1))
  | _=>pure (.done (some (gDone a b out na nb),na,nb,out,ac,bc))
def hiG3 (a b:Array Keyed)(out:Array Keyed)(na nb mg ac bc:Nat):StateT SortSt Sem (ForInStep HiG):=do
  let z ← elem' a (na - 1)
  if (na - 1 == 0)=true then pure (.done (some (gDone a b (out.push z) (na - 1) nb),na - 1,nb,out.push z,mg,ac,bc))
  else if (decide (ac < 7) && decide (bc < 7))=true then pure (.done (none,na - 1,nb,out.push z,mg,ac,bc))
  else pure (.yield (none,na - 1,nb,out.push z,mg,ac,bc))
def hiG2 (a b:Array Keyed)(out:Array Keyed)(na nb mg ac bc:Nat):StateT SortSt Sem (ForInStep HiG):=do
  let z ← elem' b (nb - 1)
  if (nb - 1 == 1)=true then pure (.done (some (gFirst a b (out.push z) na (nb - 1)),na,nb - 1,out.push z,mg,ac,bc))
  else do
    let y ← elem' a (na - 1)
    let r ← gallop' true y b 0 (nb - 1) (nb - 1 - 1)
    match r with
    | some p =>
      if nb - 1 - p > 0 then
        if (p == 1)=true then pure (.done (some (gFirst a b (out.push z ++ (b.extract p (nb - 1)).reverse) na p),na,p,out.push z ++ (b.extract p (nb - 1)).reverse,mg,ac,nb - 1 - p))
        else if (p == 0)=true then pure (.done (some (gDone a b (out.push z ++ (b.extract p (nb - 1)).reverse) na p),na,p,out.push z ++ (b.extract p (nb - 1)).reverse,mg,ac,nb - 1 - p))
        else hiG3 a b (out.push z ++ (b.extract p (nb - 1)).reverse) na p mg ac (nb - 1 - p)
      else hiG3 a b (out.push z) na (nb - 1) mg ac (nb - 1 - p)
    | _=>pure (.done (some (gDone a b (out.push z) na (nb - 1)),na,nb - 1,out.push z,mg,ac,bc))
def hiG1 (a b:Array Keyed)(out:Array Keyed)(na nb mg ac bc:Nat):StateT SortSt Sem (ForInStep HiG):=do
  setG' mg
  let y ← elem' b (nb - 1)
  let r ← gallop' false y a 0 na (na - 1)
  match r with
  | some p =>
    if na - p > 0 then
      if (p == 0)=true then pure (.done (some (gDone a b (out ++ (a.extract p na).reverse) p nb),p,nb,out ++ (a.extract p na).reverse,mg,na - p,bc))
      else hiG2 a b (out ++ (a.extract p na).reverse) p nb mg (na - p) bc
    else hiG2 a b out na nb mg (na - p) bc
  | _=>pure (.done (some (gDone a b out na nb),na,nb,out,mg,ac,bc))
def hiG (a b:Array Keyed)(out:Array Keyed)(na nb mg ac bc:Nat):StateT SortSt Sem (ForInStep HiG) :=
  if mg > 1 then hiG1 a b out na nb (mg - 1) ac bc else hiG1 a b out na nb mg ac bc
def hiO (a b:Array Keyed)(na nb:Nat)(out:Array Keyed)(mg:Nat):StateT SortSt Sem (ForInStep HiO):=do
  let c ← forIn [:a.size + b.size] ((none,na,nb,out,0,0):HiR) fun _ c=>hiR a b mg c.2.2.2.1 c.2.1 c.2.2.1 c.2.2.2.2.1 c.2.2.2.2.2
  match c.1 with
  | some r=>pure (.done (some r,c.2.1,c.2.2.1,c.2.2.2.1,mg))
  | none=>do
    liftM (rule "list.sort.gallop")
    let d ← forIn [:a.size + b.size] ((none,c.2.1,c.2.2.1,c.2.2.2.1,mg + 1,c.2.2.2.2.1,c.2.2.2.2.2):HiG) fun _ d=>hiG a b d.2.2.2.1 d.2.1 d.2.2.1 d.2.2.2.2.1 d.2.2.2.2.2.1 d.2.2.2.2.2.2
    match d.1 with
    | some r=>pure (.done (some r,d.2.1,d.2.2.1,d.2.2.2.1,d.2.2.2.2.1))
    | none=>do
      setG' (d.2.2.2.2.1 + 1)
      pure (.yield (none,d.2.1,d.2.2.1,d.2.2.2.1,d.2.2.2.2.1 + 1))
theorem mergeHi'_eq (a b:Array Keyed):mergeHi' a b=(do
    liftM (rule "list.sort.merge-hi")
    let z ← elem' a (a.size - 1)
    if (a.size - 1 == 0)=true then pure (gDone a b #[z] (a.size - 1) b.size)
    else if (b.size == 1)=true then pure (gFirst a b #[z] (a.size - 1) b.size)
    else do
      let g ← get
      let c ← forIn [:a.size + b.size] ((none,a.size - 1,b.size,#[z],gallopOf g):HiO) fun _ c=>hiO a b c.2.1 c.2.2.1 c.2.2.2.1 c.2.2.2.2
      match c.1 with
      | some r=>pure r
      | none=>liftM (unsupported "internal:list.sort.merge-bound" : Sem (Array Keyed))):=by
  refine bindC rfl fun u=>bindC rfl fun z=>ite_congr rfl (fun _=>rfl) fun _=>ite_congr rfl (fun _=>rfl) fun _=>bindC rfl fun g=>bindC (forC fun x c=>bindC rfl fun d=>?_) fun c=>?_
  · obtain ⟨d1,d2⟩:=d
    cases d1 with
    | some r=>rfl
    | none =>
      refine bindC rfl fun v=>bindC rfl fun d=>?_
      obtain ⟨d1,d2⟩:=d
      cases d1 with
      | some r=>rfl
      | none=>rfl
  · obtain ⟨c1,c2⟩:=c
    cases c1 with
    | some r=>rfl
    | none=>rfl
abbrev MB (a b out:Array Keyed)(na nb:Nat):Prop:=MH a.toList b.toList out.toList na nb
theorem MB.swap {a b out:Array Keyed}{na nb:Nat}(h:MB a b out na nb):MB b a out nb na:=MH.swap h
theorem MB.addA {a b out:Array Keyed}{na nb p:Nat}(h:MB a b out na nb)(ra:Rise a.toList)(hp:p≤na)(hx:∀ i j,p≤i→i < na→j < nb→i < a.size → j < b.size → K b j≤K a i):MB a b (out ++ (a.extract p na).reverse) p nb:=by
  have:=MH.moreA (p:=p) h ra hp (fun x hx' y hy=>by
    obtain ⟨n,hn,n1,n2,rfl⟩:=mem_seg hy
    obtain ⟨m,hm,m1,rfl⟩:=mem_first hx'
    rw [kf_at,kf_at]
    exact hx n m n1 (by omega) m1 (by simpa using hn) (by simpa using hm))
  show MH _ _ _ _ _
  rw [Array.toList_append,Array.toList_reverse,Array.toList_extract,List.extract_eq_take_drop]
  exact this
theorem MB.addB {a b out:Array Keyed}{na nb p:Nat}(h:MB a b out na nb)(rb:Rise b.toList)(hp:p≤nb)(hx:∀ i j,p≤i→i < nb→j < na→i < b.size → j < a.size → K a j≤K b i):MB a b (out ++ (b.extract p nb).reverse) na p:=(h.swap.addA rb hp hx).swap
theorem push_rev {a out:Array Keyed}{n:Nat}{z:Keyed}(h1:1≤n)(h:a[n - 1]? = some z):out.push z=out ++ (a.extract (n - 1) n).reverse:=by
  have e:=push_ext (out:=#[]) h
  rw [show n - 1 + 1=n by omega] at e
  have e2:a.extract (n - 1) n = #[z]:=by
    rw [Array.empty_append] at e
    exact e.symm
  rw [e2]
  rfl
theorem MB.pushA {a b out:Array Keyed}{na nb:Nat}{z:Keyed}(h:MB a b out na nb)(ra:Rise a.toList)(h1:1≤na)(hz:a[na - 1]? = some z)(hx:∀ j,j < nb→j < b.size → K b j≤K a (na - 1)):MB a b (out.push z) (na - 1) nb:=by
  rw [push_rev h1 hz]
  exact h.addA ra (by omega) fun i j g1 g2 g3 g4 g5=>by
    have:i=na - 1:=by omega
    rw [this];exact hx j g3 g5
theorem MB.pushB {a b out:Array Keyed}{na nb:Nat}{z:Keyed}(h:MB a b out na nb)(rb:Rise b.toList)(h1:1≤nb)(hz:b[nb - 1]? = some z)(hx:∀ j,j < na→j < a.size → K a j≤K b (nb - 1)):MB a b (out.push z) na (nb - 1):=(h.swap.pushA rb h1 hz hx).swap
theorem ext_first (a:Array Keyed)(i:Nat):(a.extract 0 i).toList=a.toList.take i:=by
  rw [Array.toList_extract,List.extract_eq_take_drop]
  simp
theorem MB.doneA {a b out:Array Keyed}{na nb:Nat}(T:Two a b)(h:MB a b out na nb)(e:na=0)(hi:nb≤b.size):Merged a b (gDone a b out na nb):=by
  subst e
  unfold Merged gDone
  rw [Array.toList_append,Array.toList_append,ext_first,ext_first,Array.toList_reverse,List.take_zero,List.nil_append]
  exact MH.restB h T.rb (by simpa using hi)
theorem MB.doneB {a b out:Array Keyed}{na nb:Nat}(T:Two a b)(h:MB a b out na nb)(e:nb=0)(hi:na≤a.size):Merged a b (gDone a b out na nb):=by
  subst e
  unfold Merged gDone
  rw [Array.toList_append,Array.toList_append,ext_first,ext_first,Array.toList_reverse,List.take_zero,List.append_nil]
  exact MH.restA h T.ra (by simpa using hi)
theorem MB.first {a b out:Array Keyed}{na nb:Nat}(T:Two a b)(h:MB a b out na nb)(e:nb=1)(hi:na≤a.size):Merged a b (gFirst a b out na nb):=by
  unfold Merged gFirst
  rw [Array.toList_append,Array.toList_append,ext_first,ext_first,Array.toList_reverse]
  have hnb:=T.nb
  refine MH.firstB h T.ra T.rb (by simpa using hi) (by simp;omega) fun x hx y hy=>?_
  obtain ⟨n,hn,n1,rfl⟩:=mem_first hx
  obtain ⟨m,hm,m1,rfl⟩:=mem_first hy
  rw [kf_at,kf_at]
  have:n=0:=by omega
  rw [this]
  exact Int.le_of_lt (T.first (by simpa using hm))
section
variable {prog:Program}{w:World}{A:Around}{E:Value→Shared→Prop}{s:Shared}[CmpOk prog w A s]
def Left (a b:Array Keyed)(n:Nat)(out:Array Keyed)(na nb:Nat):Prop:=MB a b out na nb∧1≤na∧na≤a.size ∧ 2≤nb∧nb≤b.size ∧ na + nb + n≤a.size + b.size
theorem Left.le {a b:Array Keyed}{n m:Nat}{out:Array Keyed}{na nb:Nat}(h:Left a b n out na nb)(hm:m≤n):Left a b m out na nb:=⟨h.1,h.2.1,h.2.2.1,h.2.2.2.1,h.2.2.2.2.1,by have:=h.2.2.2.2.2;omega⟩
def HkR (a b:Array Keyed)(n:Nat)(st₀:SortSt)(c:HiR)(st:SortSt):Prop:=Stay st₀ st∧((∃ r,c.1=some r∧Merged a b r) ∨ (c.1=none∧Left a b n c.2.2.2.1 c.2.1 c.2.2.1))
def HkG (a b:Array Keyed)(n:Nat)(st₀:SortSt)(c:HiG)(st:SortSt):Prop:=Stay st₀ st∧((∃ r,c.1=some r∧Merged a b r) ∨ (c.1=none∧Left a b n c.2.2.2.1 c.2.1 c.2.2.1))
def HkO (a b:Array Keyed)(n:Nat)(st₀:SortSt)(c:HiO)(st:SortSt):Prop:=Stay st₀ st∧((∃ r,c.1=some r∧Merged a b r) ∨ (c.1=none∧Left a b n c.2.2.2.1 c.2.1 c.2.2.1))
theorem hiR_ok {st₀ st:SortSt}{a b out:Array Keyed}{mg na nb ac bc n:Nat}(T:Two a b)(hk:kindOf st₀=Ranks.κ)(hS:Stay st₀ st)(hL:Left a b n out na nb) :
    wpS (model prog w) A E s (hiR a b mg out na nb ac bc) (fun r st'=>match r with | .done c=>HkR a b (n + 1) st₀ c st' | .yield c=>c.1=none∧HkR a b (n + 1) st₀ c st') st:=by
  obtain ⟨hM,a1,a2,b1,b2,hn⟩:=hL
  obtain ⟨p,ep,t,hp⟩:=at_some T.ib (show nb - 1 < b.size by omega)
  obtain ⟨q,eq,u,hq⟩:=at_some T.ia (show na - 1 < a.size by omega)
  unfold hiR
  refine wpS_bind (wpS_elem ep (wpS_bind (wpS_elem eq (wpS_bind (wpS_lt2 (hS.kind hk) hp hq ?_)))))
  dsimp only
  by_cases hlt:K b (nb - 1) < K a (na - 1)
  · rw [if_pos (by simpa using hlt)]
    refine wpS_bind (wpS_elem eq ?_)
    have M:MB a b (out.push q) (na - 1) nb:=hM.pushA T.ra a1 eq fun j h1 h2=>Int.le_of_lt (Int.lt_of_le_of_lt (riseK T.rb (show j≤nb - 1 by omega) (by omega)) hlt)
    by_cases e:na - 1=0
    · rw [if_pos (by simpa using e)]
      exact wpS_pure ⟨hS,.inl ⟨_,rfl,M.doneA T e (by omega)⟩⟩
    · rw [if_neg (by simpa using e)]
      have R:HkR a b (n + 1) st₀ (none,na - 1,nb,out.push q,ac + 1,0) st:=⟨hS,.inr ⟨rfl,M,by dsimp only;omega,by dsimp only;omega,b1,b2,by dsimp only;omega⟩⟩
      by_cases g:ac + 1 ≥ mg
      · rw [if_pos g];exact wpS_pure R
      · rw [if_neg g];exact wpS_pure ⟨rfl,R⟩
  · rw [if_neg (by simpa using hlt)]
    refine wpS_bind (wpS_elem ep ?_)
    have M:MB a b (out.push p) na (nb - 1):=hM.pushB T.rb (by omega) ep fun j h1 h2=>Int.le_trans (riseK T.ra (show j≤na - 1 by omega) (by omega)) (Int.not_lt.mp hlt)
    by_cases e:nb - 1=1
    · rw [if_pos (by simpa using e)]
      exact wpS_pure ⟨hS,.inl ⟨_,rfl,M.first T e (by omega)⟩⟩
    · rw [if_neg (by simpa using e)]
      have R:HkR a b (n + 1) st₀ (none,na,nb - 1,out.push p,0,bc + 1) st:=⟨hS,.inr ⟨rfl,M,a1,a2,by dsimp only;omega,by dsimp only;omega,by dsimp only;omega⟩⟩
      by_cases g:bc + 1 ≥ mg
      · rw [if_pos g];exact wpS_pure R
      · rw [if_neg g];exact wpS_pure ⟨rfl,R⟩
abbrev PH (a b:Array Keyed)(n:Nat)(st₀:SortSt)(r:ForInStep HiG)(st':SortSt):Prop:=match r with | .done c=>HkG a b n st₀ c st' | .yield c=>c.1=none∧HkG a b n st₀ c st'
theorem hiG3_ok {st₀ st:SortSt}{a b out:Array Keyed}{mg na nb ac bc n:Nat}(T:Two a b)(hS:Stay st₀ st)(hL:Left a b n out na nb)(hx:∀ j,j < nb→j < b.size → K b j≤K a (na - 1)) :
    wpS (model prog w) A E s (hiG3 a b out na nb mg ac bc) (PH a b n st₀) st:=by
  obtain ⟨hM,a1,a2,b1,b2,hn⟩:=hL
  obtain ⟨q,eq,u,hq⟩:=at_some T.ia (show na - 1 < a.size by omega)
  unfold hiG3
  refine wpS_bind (wpS_elem eq ?_)
  have M:MB a b (out.push q) (na - 1) nb:=hM.pushA T.ra a1 eq hx
  by_cases e:na - 1=0
  · rw [if_pos (by simpa using e)]
    exact wpS_pure ⟨hS,.inl ⟨_,rfl,M.doneA T e (by omega)⟩⟩
  · rw [if_neg (by simpa using e)]
    have R:HkG a b n st₀ (none,na - 1,nb,out.push q,mg,ac,bc) st:=⟨hS,.inr ⟨rfl,M,by dsimp only;omega,by dsimp only;omega,b1,b2,by dsimp only;omega⟩⟩
    by_cases g:(decide (ac < 7) && decide (bc < 7))=true
    · rw [if_pos g];exact wpS_pure R
    · rw [if_neg g];exact wpS_pure ⟨rfl,R⟩
theorem hiG2_ok {st₀ st:SortSt}{a b out:Array Keyed}{mg na nb ac bc n:Nat}(T:Two a b)(hk:kindOf st₀=Ranks.κ)(hS:Stay st₀ st)(hL:Left a b n out na nb)(hx:∀ j,j < na→j < a.size → K a j≤K b (nb - 1)) :
    wpS (model prog w) A E s (hiG2 a b out na nb mg ac bc) (PH a b n st₀) st:=by
  obtain ⟨hM,a1,a2,b1,b2,hn⟩:=hL
  obtain ⟨p,ep,t,hp⟩:=at_some T.ib (show nb - 1 < b.size by omega)
  obtain ⟨q,eq,u,hq⟩:=at_some T.ia (show na - 1 < a.size by omega)
  unfold hiG2
  refine wpS_bind (wpS_elem ep ?_)
  have M:MB a b (out.push p) na (nb - 1):=hM.pushB T.rb (by omega) ep hx
  by_cases e:nb - 1=1
  · rw [if_pos (by simpa using e)]
    exact wpS_pure ⟨hS,.inl ⟨_,rfl,M.first T e (by omega)⟩⟩
  · rw [if_neg (by simpa using e)]
    refine wpS_bind (wpS_elem eq (wpS_bind (wpS_gallop (hS.kind hk) hq T.ib (by omega) (by omega) (fun i j h1 h2=>riseK T.rb (by omega) (by omega)) fun k hT=>?_)))
    obtain ⟨k1,k2,k3⟩:=turns_true hT
    simp only [Nat.zero_add] at k2 k3
    dsimp only
    by_cases hk0:nb - 1 - k > 0
    · rw [if_pos hk0]
      have M2:=M.addB (p:=k) T.rb (by omega) fun i j h1 h2 h3 h4 h5=>Int.le_trans (riseK T.ra (show j≤na - 1 by omega) (by omega)) (k3 i h1 h2)
      by_cases e1:k=1
      · rw [if_pos (by simpa using e1)]
        exact wpS_pure ⟨hS,.inl ⟨_,rfl,M2.first T e1 (by omega)⟩⟩
      · rw [if_neg (by simpa using e1)]
        by_cases e2:k=0
        · rw [if_pos (by simpa using e2)]
          exact wpS_pure ⟨hS,.inl ⟨_,rfl,M2.doneB T e2 (by omega)⟩⟩
        · rw [if_neg (by simpa using e2)]
          exact hiG3_ok T hS ⟨M2,a1,a2,by omega,by omega,by omega⟩ fun j h1 h2=>Int.le_of_lt (k2 j h1)
    · rw [if_neg hk0]
      exact hiG3_ok T hS ⟨M,a1,a2,by omega,by omega,by omega⟩ fun j h1 h2=>Int.le_of_lt (k2 j (by omega))
theorem hiG1_ok {st₀ st:SortSt}{a b out:Array Keyed}{mg na nb ac bc n:Nat}(T:Two a b)(hk:kindOf st₀=Ranks.κ)(hS:Stay st₀ st)(hL:Left a b n out na nb) :
    wpS (model prog w) A E s (hiG1 a b out na nb mg ac bc) (PH a b n st₀) st:=by
  obtain ⟨hM,a1,a2,b1,b2,hn⟩:=id hL
  obtain ⟨p,ep,t,hp⟩:=at_some T.ib (show nb - 1 < b.size by omega)
  unfold hiG1
  refine wpS_bind (wpS_setG hS fun st' hS'=>wpS_bind (wpS_elem ep (wpS_bind (wpS_gallop (hS'.kind hk) hp T.ia (by omega) (by omega) (fun i j h1 h2=>riseK T.ra (by omega) (by omega)) fun k hT=>?_))))
  obtain ⟨k1,k2,k3⟩:=turns_false hT
  simp only [Nat.zero_add] at k2 k3
  dsimp only
  by_cases hk0:na - k > 0
  · rw [if_pos hk0]
    have M2:=hM.addA (p:=k) T.ra (by omega) fun i j h1 h2 h3 h4 h5=>Int.le_of_lt (Int.lt_of_le_of_lt (riseK T.rb (show j≤nb - 1 by omega) (by omega)) (k3 i h1 h2))
    by_cases e:k=0
    · rw [if_pos (by simpa using e)]
      exact wpS_pure ⟨hS',.inl ⟨_,rfl,M2.doneA T e (by omega)⟩⟩
    · rw [if_neg (by simpa using e)]
      exact hiG2_ok T hk hS' ⟨M2,by omega,by omega,b1,b2,by omega⟩ fun j h1 h2=>k2 j h1
  · rw [if_neg hk0]
    exact hiG2_ok T hk hS' hL fun j h1 h2=>k2 j (by omega)
theorem hiG_ok {st₀ st:SortSt}{a b out:Array Keyed}{mg na nb ac bc n:Nat}(T:Two a b)(hk:kindOf st₀=Ranks.κ)(hS:Stay st₀ st)(hL:Left a b n out na nb) :
    wpS (model prog w) A E s (hiG a b out na nb mg ac bc) (PH a b n st₀) st:=by
  unfold hiG
  by_cases h:mg > 1
  · rw [if_pos h];exact hiG1_ok T hk hS hL
  · rw [if_neg h];exact hiG1_ok T hk hS hL
theorem hiO_ok {st₀ st:SortSt}{a b out:Array Keyed}{mg na nb n:Nat}(T:Two a b)(hk:kindOf st₀=Ranks.κ)(hS:Stay st₀ st)(hL:Left a b n out na nb) :
    wpS (model prog w) A E s (hiO a b na nb out mg) (fun r st'=>match r with | .done c=>HkO a b (n + 1) st₀ c st'∧c.1 ≠ none | .yield c=>c.1=none∧HkO a b (n + 1) st₀ c st') st:=by
  have hna:=T.na
  unfold hiO
  refine wpS_bind (wpS_mono (wpS_forRange (I:=fun x c st'=>c.1=none∧HkR a b (n + x) st₀ c st') (Q:=fun c st'=>HkR a b (n + 1) st₀ c st') ?_ ?_ ⟨rfl,hS,.inr ⟨rfl,hL⟩⟩) ?_)
  · rintro x ⟨c0,i,j,o,ac,bc⟩ st' _ hx ⟨e,hS',z⟩
    rcases z with ⟨r,e',_⟩ | ⟨_,l⟩
    · rw [e'] at e;cases e
    · refine wpS_mono (hiR_ok T hk hS' l) fun r st2 hr=>?_
      cases r with
      | done c=>exact ⟨hr.1,hr.2.imp id fun ⟨q1,q2⟩=>⟨q1,q2.le (by omega)⟩⟩
      | yield c=>exact hr
  · rintro c st' ⟨e,hc⟩
    exact ⟨hc.1,hc.2.imp id fun ⟨q1,q2⟩=>⟨q1,q2.le (by omega)⟩⟩
  · rintro ⟨c0,i,j,o,ac,bc⟩ st' ⟨hS',z⟩
    rcases z with ⟨r,e,hr⟩ | ⟨e,l⟩
    · dsimp only at e
      subst e
      exact wpS_pure ⟨⟨hS',.inl ⟨r,rfl,hr⟩⟩,by simp⟩
    · dsimp only at e
      subst e
      dsimp only
      refine wpS_bind (wpS_lift (wpAny_rule ⟨rfl,?_⟩))
      refine wpS_bind (wpS_mono (wpS_forRange (I:=fun x c st'=>c.1=none∧HkG a b (n + 1) st₀ c st') (Q:=fun c st'=>HkG a b (n + 1) st₀ c st') ?_ ?_ ⟨rfl,hS',.inr ⟨rfl,l⟩⟩) ?_)
      · rintro x ⟨c0,i,j,o,mg,ac,bc⟩ st' _ hx ⟨e,hS',z⟩
        rcases z with ⟨r,e',_⟩ | ⟨_,l⟩
        · rw [e'] at e;cases e
        · refine wpS_mono (hiG_ok T hk hS' l) fun r st2 hr=>?_
          cases r with
          | done c=>exact hr
          | yield c=>exact hr
      · exact fun c st' hc=>hc.2
      · rintro ⟨c0,i,j,o,mg,ac,bc⟩ st' ⟨hS',z⟩
        rcases z with ⟨r,e,hr⟩ | ⟨e,l⟩
        · dsimp only at e
          subst e
          exact wpS_pure ⟨⟨hS',.inl ⟨r,rfl,hr⟩⟩,by simp⟩
        · dsimp only at e
          subst e
          dsimp only
          exact wpS_bind (wpS_setG hS' fun st2 hS2=>wpS_pure ⟨rfl,hS2,.inr ⟨rfl,l⟩⟩)
theorem wpS_mergeHi {st:SortSt}{a b:Array Keyed}{Q:Array Keyed→SortSt→Prop}(T:Two a b)(hk:kindOf st=Ranks.κ)(h:∀ r st',Stay st st'→Merged a b r→Q r st'):wpS (model prog w) A E s (mergeHi' a b) Q st:=by
  rw [mergeHi'_eq]
  have hna:=T.na
  have hnb:=T.nb
  obtain ⟨p,ep,t,hp⟩:=at_some T.ia (show a.size - 1 < a.size by omega)
  refine wpS_bind (wpS_lift (wpAny_rule ⟨rfl,wpS_bind (wpS_elem ep ?_)⟩))
  have M0:MB a b #[] a.size b.size:=by
    have:=MH.nil (a:=a.toList) (b:=b.toList)
    simpa using this
  have M:MB a b #[p] (a.size - 1) b.size:=M0.pushA T.ra hna ep fun j _ hj=>Int.le_of_lt (T.last hj)
  by_cases e1:a.size - 1=0
  · rw [if_pos (by simpa using e1)]
    exact wpS_pure (h _ _ Stay.rfl (M.doneA T e1 (by omega)))
  · rw [if_neg (by simpa using e1)]
    by_cases e2:b.size=1
    · rw [if_pos (by simpa using e2)]
      exact wpS_pure (h _ _ Stay.rfl (M.first T e2 (by omega)))
    · rw [if_neg (by simpa using e2)]
      refine wpS_bind (wpS_get ?_)
      refine wpS_bind (wpS_mono (wpS_forRange (I:=fun x c st'=>c.1=none∧HkO a b (x + 1) st c st') (Q:=fun c st'=>HkO a b 0 st c st'∧c.1 ≠ none) ?_ ?_ ⟨rfl,Stay.rfl,.inr ⟨rfl,M,by dsimp only;omega,by dsimp only;omega,by dsimp only;omega,by dsimp only;omega,by dsimp only;omega⟩⟩) ?_)
      · rintro x ⟨c0,i,j,o,mg⟩ st' _ hx ⟨e,hS',z⟩
        rcases z with ⟨r,e',_⟩ | ⟨_,l⟩
        · rw [e'] at e;cases e
        · refine wpS_mono (hiO_ok T hk hS' l) fun r st2 hr=>?_
          cases r with
          | done c=>exact ⟨⟨hr.1.1,hr.1.2.imp id fun ⟨q1,q2⟩=>⟨q1,q2.le (by omega)⟩⟩,hr.2⟩
          | yield c=>exact hr
      · rintro ⟨c0,i,j,o,mg⟩ st' ⟨e,hS',z⟩
        rcases z with ⟨r,e',_⟩ | ⟨_,l⟩
        · rw [e'] at e;cases e
        · obtain ⟨_,l1,l2,l3,l4,l5⟩:=l
          dsimp only at l1 l2 l3 l4 l5
          exfalso;omega
      · rintro ⟨c0,i,j,o,mg⟩ st' ⟨⟨hS',z⟩,hne⟩
        rcases z with ⟨r,e,hr⟩ | ⟨e,_⟩
        · dsimp only at e
          subst e
          exact wpS_pure (h _ _ hS' hr)
        · exact absurd e hne
end
end MwSortR
set_option maxHeartbeats 2000000
namespace MwSortR
open PySem PyProof.Rows
variable [Ranks]
def lay (at_:Nat)(l:List (Keyed × Nat))(xs:Array Keyed):Array Keyed:=l.foldl (fun z (p,j)=>z.setIfInBounds (at_ + j) p) xs
theorem lay_cons (at_:Nat)(p:Keyed)(j:Nat)(l:List (Keyed × Nat))(xs:Array Keyed):lay at_ ((p,j) :: l) xs=lay at_ l (xs.setIfInBounds (at_ + j) p):=rfl
theorem lay_get {at_:Nat}:∀ (l:List Keyed) (n:Nat) (xs:Array Keyed),at_ + n + l.length ≤ xs.size → ∀ k,(lay at_ (l.zipIdx n) xs)[k]? = if at_ + n≤k∧k < at_ + n + l.length then l[k - (at_ + n)]? else xs[k]?
  | [],n,xs,h,k=>by
    rw [if_neg (by simp only [List.length_nil];omega)];rfl
  | p :: l,n,xs,h,k=>by
    rw [List.zipIdx_cons,lay_cons,lay_get l (n + 1) _ (by rw [Array.size_setIfInBounds];simp only [List.length_cons] at h;omega) k]
    simp only [List.length_cons] at h ⊢
    by_cases h1:at_ + (n + 1)≤k∧k < at_ + (n + 1) + l.length
    · rw [if_pos h1,if_pos (by omega),show k - (at_ + n)=(k - (at_ + (n + 1))) + 1 by omega,List.getElem?_cons_succ]
    · rw [if_neg h1]
      by_cases h2:at_ + n=k
      · subst h2
        rw [if_pos (by omega),Nat.sub_self]
        rw [Array.getElem?_setIfInBounds_self_of_lt (by omega)]
        rfl
      · rw [if_neg (by omega),Array.getElem?_setIfInBounds_ne h2]
theorem lay_list {at_:Nat}{m xs:Array Keyed}(h:at_ + m.size ≤ xs.size):(lay at_ m.toList.zipIdx xs).toList=xs.toList.take at_ ++ m.toList ++ xs.toList.drop (at_ + m.size):=by
  apply List.ext_getElem?
  intro k
  rw [Array.getElem?_toList,lay_get m.toList 0 xs (by simpa using h) k]
  simp only [Nat.add_zero,Array.length_toList]
  rw [List.append_assoc,List.getElem?_append,List.getElem?_append]
  have e1:(xs.toList.take at_).length=at_:=by simp;omega
  rw [e1]
  by_cases h1:k < at_
  · rw [if_neg (by omega),if_pos h1,List.getElem?_take_of_lt h1,Array.getElem?_toList]
  · rw [if_neg h1]
    simp only [Array.length_toList]
    by_cases h2:k < at_ + m.size
    · rw [if_pos ⟨by omega,h2⟩,if_pos (by omega)]
    · rw [if_neg (by omega),if_neg (by omega),List.getElem?_drop,Array.getElem?_toList]
      congr 1
      omega
def Up (xs:Array Keyed)(i j:Nat):Prop:=∀ p q,i≤p→p≤q→q < j→K xs p≤K xs q
theorem K_ext {xs:Array Keyed}{i j k:Nat}(hj:j≤xs.size)(hk:i + k < j):K (xs.extract i j) k=K xs (i + k):=by
  apply K_congr
  rw [Array.getElem?_extract]
  rw [if_pos (by omega)]
theorem ext_rise {xs:Array Keyed}{i j:Nat}(hj:j≤xs.size)(h:Up xs i j):Rise (xs.extract i j).toList:=rise_of fun p q hpq hq=>by
  have hs:(xs.extract i j).size=j - i:=by rw [Array.size_extract];omega
  rw [hs] at hq
  rw [K_ext hj (by omega),K_ext hj (by omega)]
  exact h _ _ (by omega) (by omega) (by omega)
theorem ext_int {xs:Array Keyed}{i j:Nat}(h:KeysIn xs):KeysIn (xs.extract i j):=fun p hp=>h p (by
  rw [Array.toList_extract,List.extract_eq_take_drop] at hp
  exact List.mem_of_mem_drop (List.mem_of_mem_take hp))
theorem joined {xs m:Array Keyed}{sa sb e c d:Nat}(h1:sa≤c)(h2:c≤sb)(h3:sb≤d)(h4:d≤e)(h5:e≤xs.size)(ua:Up xs sa sb)(ub:Up xs sb e)
    (hlo:∀ i,sa≤i→i < c→K xs i≤K xs sb) (hhi:∀ i,d≤i→i < e→K xs (sb - 1)≤K xs i) (hc:c < sb) (hd:sb < d) (hM:Merged (xs.extract c sb) (xs.extract sb d) m) :
    (lay c m.toList.zipIdx xs).toList.Perm xs.toList ∧ (∀ k,k < c ∨ d≤k→K (lay c m.toList.zipIdx xs) k=K xs k)∧Up (lay c m.toList.zipIdx xs) sa e:=by
  have hm:m.size=d - c:=by
    have:=hM.1.length_eq
    simp at this
    omega
  have hfit:c + m.size ≤ xs.size:=by omega
  have hg:∀ k,(lay c m.toList.zipIdx xs)[k]? = if c≤k∧k < d then m[k - c]? else xs[k]?:=fun k=>by
    rw [lay_get m.toList 0 xs (by simpa using hfit) k]
    simp only [Nat.add_zero,Array.length_toList,hm,Array.getElem?_toList]
    rw [show c + (d - c)=d by omega]
  have kout:∀ k,k < c ∨ d≤k→K (lay c m.toList.zipIdx xs) k=K xs k:=fun k hk=>K_congr (by rw [hg,if_neg (by omega)])
  have kin:∀ k,c≤k→k < d→K (lay c m.toList.zipIdx xs) k=K m (k - c):=fun k a b=>K_congr (by rw [hg,if_pos ⟨a,b⟩])
  have mid:∀ k,k < m.size → ∃ n,c≤n∧n < d∧K m k=K xs n:=fun k hk=>by
    have hmem:m.toList[k]'(by simpa using hk)∈(xs.extract c sb).toList ++ (xs.extract sb d).toList:=hM.1.mem_iff.mp (List.getElem_mem _)
    have ek:=kf_at (a:=m) (n:=k) (by simpa using hk)
    rcases List.mem_append.mp hmem with z | z
    · rw [Array.toList_extract,List.extract_eq_take_drop] at z
      obtain ⟨n,hn,n1,n2,e⟩:=mem_seg z
      refine ⟨n,n1,by omega,?_⟩
      rw [← ek,← e,kf_at]
    · rw [Array.toList_extract,List.extract_eq_take_drop] at z
      obtain ⟨n,hn,n1,n2,e⟩:=mem_seg z
      refine ⟨n,by omega,by omega,?_⟩
      rw [← ek,← e,kf_at]
  refine ⟨?_,kout,?_⟩
  · rw [lay_list hfit,hm,show c + (d - c)=d by omega]
    have e1:xs.toList=xs.toList.take c ++ ((xs.extract c sb).toList ++ (xs.extract sb d).toList) ++ xs.toList.drop d:=by
      rw [Array.toList_extract,Array.toList_extract,List.extract_eq_take_drop,List.extract_eq_take_drop]
      have q1:=seg_split (l:=xs.toList) h3
      have q2:=seg_split (l:=xs.toList) h2
      have q3:=List.take_append_drop c xs.toList
      rw [List.append_assoc,List.append_assoc,← q1,← q2,q3]
    have p:=(hM.1.append_left (xs.toList.take c)).append_right (xs.toList.drop d)
    rwa [← e1] at p
  · intro p q hp hpq hq
    rcases Nat.lt_or_ge p c with p1 | p1
    · rw [kout p (.inl p1)]
      rcases Nat.lt_or_ge q c with q1 | q1
      · rw [kout q (.inl q1)]
        exact ua p q hp hpq (by omega)
      · have low:∀ n,c≤n→n < e→K xs p≤K xs n:=fun n n1 n2=>by
          rcases Nat.lt_or_ge n sb with z | z
          · exact ua p n hp (by omega) z
          · exact Int.le_trans (hlo p hp p1) (ub sb n (by omega) z n2)
        rcases Nat.lt_or_ge q d with q2 | q2
        · rw [kin q q1 q2]
          obtain ⟨n,n1,n2,e⟩:=mid (q - c) (by omega)
          rw [e]
          exact low n n1 (by omega)
        · rw [kout q (.inr q2)]
          exact low q q1 hq
    · rcases Nat.lt_or_ge p d with p2 | p2
      · rw [kin p p1 p2]
        rcases Nat.lt_or_ge q d with q2 | q2
        · rw [kin q (by omega) q2]
          exact riseK hM.2 (by omega) (by omega)
        · rw [kout q (.inr q2)]
          obtain ⟨n,n1,n2,e⟩:=mid (p - c) (by omega)
          rw [e]
          rcases Nat.lt_or_ge n sb with z | z
          · exact Int.le_trans (ua n (sb - 1) (by omega) (by omega) (by omega)) (hhi q q2 hq)
          · exact ub n q z (by omega) hq
      · rw [kout p (.inr p2),kout q (.inr (by omega))]
        exact ub p q (by omega) hpq hq
theorem mergeAt'_eq (i:Nat):mergeAt' i=(do
  let g ← get
  let (some (p,m,pw),some (q,n,_)):=((pendingOf g)[i]?,(pendingOf g)[i + 1]?) | unsupported "internal:list.sort.pending"
  set (setPending g (((pendingOf g).setIfInBounds i (p,m + n,pw)).eraseIdxIfInBounds (i + 1)))
  let some k ← gallop' false (← elem' (arrOf g) q) (arrOf g) p m 0 | return false
  let (p,m):=(p + k,m - k)
  if m == 0 then return true
  let some n ← gallop' true (← elem' (arrOf g) (p + m - 1)) (arrOf g) q n (n - 1) | return false
  if n == 0 then return true
  let x:=(arrOf g).extract p q
  let y:=(arrOf g).extract q (q + n)
  let r ← if m≤n then mergeLo' x y else mergeHi' x y
  modify fun z=>setArr z (lay p r.toList.zipIdx (arrOf z))
  return (failedOf (← get)).isNone):=rfl
section
variable {prog:Program}{w:World}{A:Around}{E:Value→Shared→Prop}{s:Shared}[CmpOk prog w A s]
theorem wpS_set {st st':SortSt}{Q:PUnit→SortSt→Prop}(h:Q ⟨⟩ st'):wpS (model prog w) A E s (set st':StateT SortSt Sem PUnit) Q st:=by
  unfold wpS;rw [StateT.run_set];exact wpAny_pure ⟨rfl,h⟩
structure Joined (st st':SortSt)(p e:Nat):Prop where
  kind:kindOf st'=kindOf st
  failed:failedOf st'=failedOf st
  perm:(arrOf st').toList.Perm (arrOf st).toList
  out:∀ k,k < p ∨ e≤k→K (arrOf st') k=K (arrOf st) k
  up:Up (arrOf st') p e
theorem wpS_mergeAt {st:SortSt}{i p m pw n pw2:Nat}{Q:Bool→SortSt→Prop}(hk:kindOf st=Ranks.κ)(hf:failedOf st=none)(hI:KeysIn (arrOf st))
    (hp:(pendingOf st)[i]? = some (p,m,pw)) (hq:(pendingOf st)[i + 1]? = some (p + m,n,pw2)) (m1:1≤m) (n1:1≤n) (he:p + m + n≤(arrOf st).size) (ua:Up (arrOf st) p (p + m)) (ub:Up (arrOf st) (p + m) (p + m + n))
    (h:∀ st',Joined st st' p (p + m + n)→pendingOf st'=((pendingOf st).setIfInBounds i (p,m + n,pw)).eraseIdxIfInBounds (i + 1)→Q true st'):wpS (model prog w) A E s (mergeAt' i) Q st:=by
  rw [mergeAt'_eq]
  refine wpS_bind (wpS_get ?_)
  rw [hp,hq]
  dsimp only
  refine wpS_bind (wpS_set ?_)
  obtain ⟨b0,eb,tb,hb⟩:=at_some hI (show p + m < (arrOf st).size by omega)
  refine wpS_bind (wpS_elem eb (wpS_bind (wpS_gallop hk hb hI (by omega) (by omega) (fun i j h1 h2=>ua _ _ (by omega) (by omega) (by omega)) fun k hT=>?_)))
  obtain ⟨k1,k2,k3⟩:=turns_false hT
  have hlo:∀ i,p≤i→i < p + k→K (arrOf st) i≤K (arrOf st) (p + m):=fun i h1 h2=>by
    have:=k2 (i - p) (by omega)
    rwa [show p + (i - p)=i by omega] at this
  dsimp only
  by_cases e0:m - k=0
  · rw [if_pos (by simpa using e0)]
    refine wpS_pure (h _ ⟨rfl,rfl,List.Perm.refl _,fun _ _=>rfl,fun x y hx hxy hy=>?_⟩ rfl)
    show K (arrOf st) x≤K (arrOf st) y
    rcases Nat.lt_or_ge y (p + m) with z | z
    · exact ua x y hx hxy z
    · rcases Nat.lt_or_ge x (p + m) with z2 | z2
      · exact Int.le_trans (hlo x hx (by omega)) (ub _ y (by omega) z hy)
      · exact ub x y z2 hxy hy
  · rw [if_neg (by simpa using e0)]
    have hlast:p + k + (m - k) - 1=p + m - 1:=by omega
    obtain ⟨a1,ea,ta,ha⟩:=at_some hI (show p + k + (m - k) - 1 < (arrOf st).size by omega)
    refine wpS_bind (wpS_elem ea (wpS_bind (wpS_gallop hk ha hI (by omega) (by omega) (fun i j h1 h2=>ub _ _ (by omega) (by omega) (by omega)) fun k' hT'=>?_)))
    obtain ⟨j1,j2,j3⟩:=turns_true hT'
    rw [hlast] at j2 j3
    have hhi:∀ i,p + m + k'≤i→i < p + m + n→K (arrOf st) (p + m - 1)≤K (arrOf st) i:=fun i h1 h2=>by
      have:=j3 (i - (p + m)) (by omega) (by omega)
      rwa [show p + m + (i - (p + m))=i by omega] at this
    dsimp only
    by_cases e1:k'=0
    · rw [if_pos (by simpa using e1)]
      refine wpS_pure (h _ ⟨rfl,rfl,List.Perm.refl _,fun _ _=>rfl,fun x y hx hxy hy=>?_⟩ rfl)
      show K (arrOf st) x≤K (arrOf st) y
      rcases Nat.lt_or_ge y (p + m) with z | z
      · exact ua x y hx hxy z
      · rcases Nat.lt_or_ge x (p + m) with z2 | z2
        · exact Int.le_trans (ua x (p + m - 1) hx (by omega) (by omega)) (hhi y (by omega) hy)
        · exact ub x y z2 hxy hy
    · rw [if_neg (by simpa using e1)]
      have sx:((arrOf st).extract (p + k) (p + m)).size=m - k:=by rw [Array.size_extract];omega
      have sy:((arrOf st).extract (p + m) (p + m + k')).size=k':=by rw [Array.size_extract];omega
      have T:Two ((arrOf st).extract (p + k) (p + m)) ((arrOf st).extract (p + m) (p + m + k')):={
        ia:=ext_int hI
        ib:=ext_int hI
        ra:=ext_rise (by omega) fun x y h1 h2 h3=>ua x y (by omega) h2 h3
        rb:=ext_rise (by omega) fun x y h1 h2 h3=>ub x y (by omega) h2 (by omega)
        na:=by rw [sx];omega
        nb:=by rw [sy];omega
        h0:=by
          rw [K_ext (by omega) (by omega),K_ext (by omega) (by omega)]
          have:=k3 k (by omega) (by omega)
          simpa using this
        hl:=by
          rw [sx,sy,K_ext (by omega) (by omega),K_ext (by omega) (by omega)]
          have:=j2 (k' - 1) (by omega)
          rwa [show p + k + (m - k - 1)=p + m - 1 by omega] }
      have fin:∀ (r:Array Keyed) (st':SortSt),Stay (setPending st (((pendingOf st).setIfInBounds i (p,m + n,pw)).eraseIdxIfInBounds (i + 1))) st'→Merged ((arrOf st).extract (p + k) (p + m)) ((arrOf st).extract (p + m) (p + m + k')) r →
          wpS (model prog w) A E s (do modify fun z=>setArr z (lay (p + k) r.toList.zipIdx (arrOf z));return (failedOf (← get)).isNone) Q st':=fun r st' hS hM=>by
        refine wpS_bind (wpS_modify (wpS_bind (wpS_get (wpS_pure ?_))))
        have hj:=joined (sa:=p) (e:=p + m + n) (by omega) (by omega) (by omega) (by omega) he ua ub hlo hhi (by omega) (by omega) hM
        have ef:failedOf st'=none:=hS.2.2.2.trans hf
        have ex:arrOf st'=arrOf st:=hS.2.1
        have:(failedOf (setArr st' (lay (p + k) r.toList.zipIdx (arrOf st')))).isNone=true:=by show (failedOf st').isNone=true;rw [ef];rfl
        rw [this]
        refine h _ ⟨hS.1,hS.2.2.2,?_,?_,?_⟩ hS.2.2.1
        · show (lay (p + k) r.toList.zipIdx (arrOf st')).toList.Perm _
          rw [ex];exact hj.1
        · intro x hx
          show K (lay (p + k) r.toList.zipIdx (arrOf st')) x=_
          rw [ex];exact hj.2.1 x (by omega)
        · show Up (lay (p + k) r.toList.zipIdx (arrOf st')) _ _
          rw [ex];exact hj.2.2
      by_cases hc:m - k≤k'
      · rw [if_pos hc]
        exact wpS_bind (wpS_mergeLo T hk fun r st' hS hM=>fin r st' hS hM)
      · rw [if_neg hc]
        exact wpS_bind (wpS_mergeHi T hk fun r st' hS hM=>fin r st' hS hM)
end
end MwSortR
set_option maxHeartbeats 2000000
namespace MwSortR
open PySem PyProof.Rows
variable [Ranks]
def ascL (lo a nr:Nat):StateT SortSt Sem (Option (Option Nat) × Nat):=forIn [a:nr] ((none,a):Option (Option Nat) × Nat) fun _ c=>do
  let r ← ltAt' (lo + c.2) (lo + c.2 - 1)
  match r with
  | some t=>if t=true then pure (.done (none,c.2)) else pure (.yield (none,c.2 + 1))
  | _=>pure (.done (some none,c.2))
def tailL (lo n nr:Nat):StateT SortSt Sem (Option Nat):=do
  reverseSlice' lo (lo + n)
  let c ← ascL lo n nr
  match c.1 with
  | some r=>pure r
  | none=>pure (some c.2)
def dscL (lo n nr:Nat):StateT SortSt Sem (Option (Option Nat) × Nat × Nat):=forIn [n:nr] ((none,n,0):Option (Option Nat) × Nat × Nat) fun _ c=>do
  let r ← ltAt' (lo + c.2.1) (lo + c.2.1 - 1)
  match r with
  | some t =>
    if t=true then
      if c.2.2 > 0 then do
        reverseSlice' (lo + c.2.1 - (c.2.2 + 1)) (lo + c.2.1)
        pure (.yield (none,c.2.1 + 1,0))
      else pure (.yield (none,c.2.1 + 1,0))
    else do
      let r ← ltAt' (lo + c.2.1 - 1) (lo + c.2.1)
      match r with
      | some g=>if g=true then pure (.done (none,c.2.1,c.2.2)) else pure (.yield (none,c.2.1 + 1,c.2.2 + 1))
      | _=>pure (.done (some none,c.2.1,c.2.2))
  | _=>pure (.done (some none,c.2.1,c.2.2))
def partL (lo n nr:Nat):StateT SortSt Sem (Option Nat):=do
  liftM (rule "list.sort.descending-run")
  let c ← dscL lo (n + 1) nr
  match c.1 with
  | some r=>pure r
  | none =>
    if c.2.2 > 0 then do
      reverseSlice' (lo + c.2.1 - (c.2.2 + 1)) (lo + c.2.1)
      tailL lo c.2.1 nr
    else tailL lo c.2.1 nr
theorem countL_eq (lo nr:Nat):countRun' lo nr=(do
    let c ← ascL lo 1 nr
    match c.1 with
    | some r=>pure r
    | none =>
      if (c.2 == nr)=true then pure (some c.2)
      else if c.2 > 1 then do
        let r ← ltAt' lo (lo + c.2 - 1)
        match r with
        | some g=>if g=true then pure (some c.2) else do
            reverseSlice' lo (lo + c.2)
            partL lo c.2 nr
        | _=>pure none
      else partL lo c.2 nr):=by
  refine bindC rfl fun c=>?_
  obtain ⟨c1,n⟩:=c
  cases c1 with
  | some r=>rfl
  | none =>
    refine ite_congr rfl (fun _=>rfl) fun _=>ite_congr rfl (fun _=>bindC rfl fun r=>?_) fun _=>bindC rfl fun _=>bindC rfl fun c=>?_
    · cases r with
      | none=>rfl
      | some g =>
        refine ite_congr rfl (fun _=>rfl) fun _=>bindC rfl fun _=>bindC rfl fun _=>bindC rfl fun c=>?_
        obtain ⟨c1,n2,q⟩:=c
        cases c1 with
        | some r=>rfl
        | none =>
          refine ite_congr rfl (fun _=>bindC rfl fun _=>bindC rfl fun _=>bindC rfl fun c=>?_) fun _=>bindC rfl fun _=>bindC rfl fun c=>?_
          all_goals (obtain ⟨c1,n3⟩:=c;cases c1 <;> rfl)
    · obtain ⟨c1,n2,q⟩:=c
      cases c1 with
      | some r=>rfl
      | none =>
        refine ite_congr rfl (fun _=>bindC rfl fun _=>bindC rfl fun _=>bindC rfl fun c=>?_) fun _=>bindC rfl fun _=>bindC rfl fun c=>?_
        all_goals (obtain ⟨c1,n3⟩:=c;cases c1 <;> rfl)
structure Moved (lo:Nat)(st st':SortSt):Prop where
  kind:kindOf st'=kindOf st
  failed:failedOf st'=failedOf st
  pend:pendingOf st'=pendingOf st
  perm:(arrOf st').Perm (arrOf st)
  out:∀ k,k < lo→K (arrOf st') k=K (arrOf st) k
theorem Moved.rfl {lo:Nat}{st:SortSt}:Moved lo st st:=⟨_root_.rfl,_root_.rfl,_root_.rfl,Array.Perm.refl _,fun _ _=>_root_.rfl⟩
theorem Moved.trans {lo:Nat}{a b c:SortSt}(h:Moved lo a b)(g:Moved lo b c):Moved lo a c:=⟨g.kind.trans h.kind,g.failed.trans h.failed,g.pend.trans h.pend,g.perm.trans h.perm,fun k hk=>(g.out k hk).trans (h.out k hk)⟩
theorem Moved.size {lo:Nat}{st st':SortSt}(h:Moved lo st st'):(arrOf st').size=(arrOf st).size:=h.perm.size_eq
theorem int_perm {xs ys:Array Keyed}(hI:KeysIn xs)(h:ys.Perm xs):KeysIn ys:=fun p hp=>hI p ((Array.perm_iff_toList_perm.mp h).mem_iff.mp hp)
theorem moved_mirror {lo i j:Nat}{st:SortSt}(hi:lo≤i)(hj:j≤(arrOf st).size):Moved lo st (setArr st (mirror (arrOf st) i j ((j - i) / 2))) :=
  ⟨rfl,rfl,rfl,mirror_perm _ _ _ _,fun k hk=>by show K (mirror (arrOf st) i j ((j - i) / 2)) k=_;rw [K_mirror hj,if_neg (by omega)]⟩
def Dn (xs:Array Keyed)(i j:Nat):Prop:=∀ p q,i≤p→p≤q→q < j→K xs q≤K xs p
theorem Up.more {xs:Array Keyed}{i j:Nat}(h:Up xs i j)(hj:i < j)(hx:K xs (j - 1)≤K xs j):Up xs i (j + 1):=fun p q h1 h2 h3=>by
  rcases Nat.lt_or_ge q j with z | z
  · exact h p q h1 h2 z
  · have:q=j:=by omega
    subst this
    rcases Nat.lt_or_ge p q with z2 | z2
    · exact Int.le_trans (h p (q - 1) h1 (by omega) (by omega)) hx
    · have:p=q:=by omega
      rw [this];exact Int.le_refl _
theorem Dn.more {xs:Array Keyed}{i j:Nat}(h:Dn xs i j)(hj:i < j)(hx:K xs j≤K xs (j - 1)):Dn xs i (j + 1):=fun p q h1 h2 h3=>by
  rcases Nat.lt_or_ge q j with z | z
  · exact h p q h1 h2 z
  · have:q=j:=by omega
    subst this
    rcases Nat.lt_or_ge p q with z2 | z2
    · exact Int.le_trans hx (h p (q - 1) h1 (by omega) (by omega))
    · have:p=q:=by omega
      rw [this];exact Int.le_refl _
theorem Up.one (xs:Array Keyed)(i:Nat):Up xs i (i + 1):=fun p q h1 h2 h3=>by
  have:p=q:=by omega
  rw [this];exact Int.le_refl _
section
variable {prog:Program}{w:World}{A:Around}{E:Value→Shared→Prop}{s:Shared}[CmpOk prog w A s]
theorem wpS_ltI {st:SortSt}{i j:Nat}{Q:Option Bool→SortSt→Prop}(hk:kindOf st=Ranks.κ)(hI:KeysIn (arrOf st))(hi:i < (arrOf st).size)(hj:j < (arrOf st).size)(h:Q (some (decide (K (arrOf st) i < K (arrOf st) j))) st) :
    wpS (model prog w) A E s (ltAt' i j) Q st:=by
  obtain ⟨p,t1,e1,h1⟩:=at_int hI hi
  obtain ⟨q,t2,e2,h2⟩:=at_int hI hj
  rw [ltAt'_eq]
  refine wpS_bind (wpS_get ?_)
  show wpS _ _ _ _ (elem' (arrOf st) i >>= fun x=>elem' (arrOf st) j >>= fun y=>lt' x y) Q st
  exact wpS_bind (wpS_elem e1 (wpS_bind (wpS_elem e2 (wpS_lt2 hk h1 h2 h))))
theorem ascL_ok {st:SortSt}{lo a nr:Nat}{Q:Option (Option Nat) × Nat→SortSt→Prop}(hk:kindOf st=Ranks.κ)(hI:KeysIn (arrOf st))(h1:1≤a)(h2:a≤nr)(h3:lo + nr≤(arrOf st).size)(hu:Up (arrOf st) lo (lo + a))
    (h:∀ n,a≤n→n≤nr→Up (arrOf st) lo (lo + n)→(n=nr ∨ K (arrOf st) (lo + n) < K (arrOf st) (lo + n - 1))→Q (none,n) st):wpS (model prog w) A E s (ascL lo a nr) Q st:=by
  unfold ascL
  refine wpS_forRange (I:=fun x c z=>z=st∧c=(none,x)∧Up (arrOf st) lo (lo + x)) ?_ ?_ ⟨rfl,rfl,hu⟩
  · rintro x c z hx1 hx2 ⟨rfl,rfl,u⟩
    dsimp only
    refine wpS_bind (wpS_ltI hk hI (by omega) (by omega) ?_)
    by_cases hl:K (arrOf z) (lo + x) < K (arrOf z) (lo + x - 1)
    · rw [decide_eq_true hl]
      exact wpS_pure (h x hx1 (by omega) u (.inr hl))
    · rw [decide_eq_false hl]
      exact wpS_pure ⟨rfl,rfl,u.more (by omega) (Int.not_lt.mp hl)⟩
  · rintro c z ⟨rfl,rfl,u⟩
    rw [show max a nr=nr by omega] at u ⊢
    exact h nr h2 (Nat.le_refl _) u (.inl rfl)
theorem tailL_ok {st₀ st:SortSt}{lo n nr:Nat}{Q:Option Nat→SortSt→Prop}(hk:kindOf st₀=Ranks.κ)(hI:KeysIn (arrOf st₀))(hm:Moved lo st₀ st)(h1:1≤n)(h2:n≤nr)(h3:lo + nr≤(arrOf st₀).size)(hd:Dn (arrOf st) lo (lo + n))
    (h:∀ m st',Moved lo st₀ st'→1≤m→m≤nr→Up (arrOf st') lo (lo + m)→Q (some m) st'):wpS (model prog w) A E s (tailL lo n nr) Q st:=by
  have hsz:=hm.size
  unfold tailL
  refine wpS_bind (wpS_reverse ?_)
  have hm2:=hm.trans (moved_mirror (lo:=lo) (i:=lo) (j:=lo + n) (Nat.le_refl _) (by omega))
  have hsz2:=hm2.size
  refine wpS_bind (ascL_ok (hm2.kind.trans hk) (int_perm hI hm2.perm) h1 h2 (by omega) (fun p q g1 g2 g3=>?_) fun m m1 m2 m3 m4=>wpS_pure (h m _ hm2 (by omega) m2 m3))
  show K (mirror (arrOf st) lo (lo + n) _) p≤K (mirror (arrOf st) lo (lo + n) _) q
  rw [K_mirror (by omega),K_mirror (by omega),if_pos (by omega),if_pos (by omega)]
  exact hd _ _ (by omega) (by omega) (by omega)
theorem mirror_alike {xs:Array Keyed}{i j k:Nat}(hj:j≤xs.size)(h:∀ p,i≤p→p < j→K xs p=K xs (j - 1)):K (mirror xs i j ((j - i) / 2)) k=K xs k:=K_mirror_equal hj h k
theorem dscL_ok {st₀ st:SortSt}{lo n nr:Nat}{Q:Option (Option Nat) × Nat × Nat→SortSt→Prop}(hk:kindOf st₀=Ranks.κ)(hI:KeysIn (arrOf st₀))(hm:Moved lo st₀ st)(h1:1≤n)(h2:n≤nr)(h3:lo + nr≤(arrOf st₀).size)(hd:Dn (arrOf st) lo (lo + n))
    (h:∀ m e st',Moved lo st₀ st'→n≤m→m≤nr→Dn (arrOf st') lo (lo + m)→e + 1≤m→(∀ i,lo + m - (e + 1)≤i→i < lo + m→K (arrOf st') i=K (arrOf st') (lo + m - 1))→Q (none,m,e) st'):wpS (model prog w) A E s (dscL lo n nr) Q st:=by
  unfold dscL
  refine wpS_forRange (I:=fun x c z=>∃ e,c=(none,x,e)∧Moved lo st₀ z∧Dn (arrOf z) lo (lo + x)∧e + 1≤x∧(∀ i,lo + x - (e + 1)≤i→i < lo + x→K (arrOf z) i=K (arrOf z) (lo + x - 1))) ?_ ?_ ⟨0,rfl,hm,hd,by omega,fun i g1 g2=>by congr 1;omega⟩
  · rintro x c z hx1 hx2 ⟨e,rfl,hm,hd,he,ha⟩
    have hsz:=hm.size
    have hk':=hm.kind.trans hk
    have hI':=int_perm hI hm.perm
    dsimp only
    refine wpS_bind (wpS_ltI hk' hI' (by omega) (by omega) ?_)
    by_cases hl:K (arrOf z) (lo + x) < K (arrOf z) (lo + x - 1)
    · rw [decide_eq_true hl]
      dsimp only
      rw [if_pos rfl]
      by_cases h0:e > 0
      · rw [if_pos h0]
        refine wpS_bind (wpS_reverse (wpS_pure ⟨0,rfl,hm.trans (moved_mirror (by omega) (by omega)),?_,by omega,fun i g1 g2=>by congr 1;omega⟩))
        intro p q g1 g2 g3
        show K (mirror (arrOf z) _ _ _) q≤K (mirror (arrOf z) _ _ _) p
        rw [mirror_alike (by omega) ha,mirror_alike (by omega) ha]
        exact (hd.more (by omega) (Int.le_of_lt hl)) p q g1 g2 (by omega)
      · rw [if_neg h0]
        exact wpS_pure ⟨0,rfl,hm,hd.more (by omega) (Int.le_of_lt hl),by omega,fun i g1 g2=>by congr 1;omega⟩
    · rw [decide_eq_false hl]
      dsimp only
      rw [if_neg Bool.false_ne_true]
      refine wpS_bind (wpS_ltI hk' hI' (by omega) (by omega) ?_)
      by_cases hg:K (arrOf z) (lo + x - 1) < K (arrOf z) (lo + x)
      · rw [decide_eq_true hg]
        exact wpS_pure (h x e z hm hx1 (by omega) hd he ha)
      · rw [decide_eq_false hg]
        have eq:K (arrOf z) (lo + x)=K (arrOf z) (lo + x - 1):=by omega
        refine wpS_pure ⟨e + 1,rfl,hm,hd.more (by omega) (by omega),by omega,fun i g1 g2=>?_⟩
        rw [show lo + (x + 1) - 1=lo + x by omega]
        rcases Nat.lt_or_ge i (lo + x) with z1 | z1
        · rw [eq];exact ha i (by omega) z1
        · have:i=lo + x:=by omega
          rw [this]
  · rintro c z ⟨e,rfl,hm,hd,he,ha⟩
    rw [show max n nr=nr by omega] at hd he ha ⊢
    exact h nr e z hm h2 (Nat.le_refl _) hd he ha
theorem partL_ok {st₀ st:SortSt}{lo n nr:Nat}{Q:Option Nat→SortSt→Prop}(hk:kindOf st₀=Ranks.κ)(hI:KeysIn (arrOf st₀))(hm:Moved lo st₀ st)(h2:n + 1≤nr)(h3:lo + nr≤(arrOf st₀).size)(hd:Dn (arrOf st) lo (lo + (n + 1)))
    (h:∀ m st',Moved lo st₀ st'→1≤m→m≤nr→Up (arrOf st') lo (lo + m)→Q (some m) st'):wpS (model prog w) A E s (partL lo n nr) Q st:=by
  unfold partL
  refine wpS_bind (wpS_lift (wpAny_rule ⟨rfl,?_⟩))
  refine wpS_bind (dscL_ok hk hI hm (by omega) h2 h3 hd fun m e z hm hx1 hx2 hd he ha=>?_)
  have hsz:=hm.size
  dsimp only
  by_cases h0:e > 0
  · rw [if_pos h0]
    refine wpS_bind (wpS_reverse (tailL_ok hk hI (hm.trans (moved_mirror (by omega) (by omega))) (by omega) hx2 h3 ?_ h))
    intro p q g1 g2 g3
    show K (mirror (arrOf z) _ _ _) q≤K (mirror (arrOf z) _ _ _) p
    rw [mirror_alike (by omega) ha,mirror_alike (by omega) ha]
    exact hd p q g1 g2 g3
  · rw [if_neg h0]
    exact tailL_ok hk hI hm (by omega) hx2 h3 hd h
theorem wpS_countL {st:SortSt}{lo nr:Nat}{Q:Option Nat→SortSt→Prop}(hk:kindOf st=Ranks.κ)(hI:KeysIn (arrOf st))(h1:1≤nr)(h3:lo + nr≤(arrOf st).size)
    (h:∀ m st',Moved lo st st'→1≤m→m≤nr→Up (arrOf st') lo (lo + m)→Q (some m) st'):wpS (model prog w) A E s (countRun' lo nr) Q st:=by
  rw [countL_eq]
  refine wpS_bind (ascL_ok hk hI (Nat.le_refl 1) h1 h3 (Up.one _ _) fun n n1 n2 hu ho=>?_)
  dsimp only
  by_cases e:n=nr
  · rw [if_pos (by simpa using e)]
    exact wpS_pure (h n st Moved.rfl n1 n2 hu)
  · rw [if_neg (by simpa using e)]
    have hl:=ho.resolve_left e
    by_cases g:n > 1
    · rw [if_pos g]
      refine wpS_bind (wpS_ltI hk hI (by omega) (by omega) ?_)
      by_cases hr:K (arrOf st) lo < K (arrOf st) (lo + n - 1)
      · rw [decide_eq_true hr]
        exact wpS_pure (h n st Moved.rfl n1 n2 hu)
      · rw [decide_eq_false hr]
        dsimp only
        rw [if_neg Bool.false_ne_true]
        have ha:∀ p,lo≤p→p < lo + n→K (arrOf st) p=K (arrOf st) (lo + n - 1):=fun p p1 p2=>by
          have a1:=hu lo p (by omega) p1 p2
          have a2:=hu p (lo + n - 1) p1 (by omega) (by omega)
          omega
        refine wpS_bind (wpS_reverse (partL_ok hk hI (moved_mirror (Nat.le_refl _) (by omega)) (by omega) h3 ?_ h))
        intro p q g1 g2 g3
        show K (mirror (arrOf st) _ _ _) q≤K (mirror (arrOf st) _ _ _) p
        rw [mirror_alike (by omega) ha,mirror_alike (by omega) ha]
        have d0:Dn (arrOf st) lo (lo + n):=fun p q g1 g2 g3=>by rw [ha p g1 (by omega),ha q (by omega) g3];exact Int.le_refl _
        exact (d0.more (by omega) (Int.le_of_lt hl)) p q g1 g2 (by omega)
    · rw [if_neg g]
      have:n=1:=by omega
      subst this
      refine partL_ok hk hI Moved.rfl (by omega) h3 ?_ h
      have d0:Dn (arrOf st) lo (lo + 1):=fun p q g1 g2 g3=>by
        have:p=q:=by omega
        rw [this];exact Int.le_refl _
      exact d0.more (by omega) (Int.le_of_lt hl)
theorem wpS_binL {st:SortSt}{lo n ok:Nat}{Q:Bool→SortSt→Prop}(hk:kindOf st=Ranks.κ)(hI:KeysIn (arrOf st))(h1:1≤ok)(h2:ok≤n)(h3:lo + n≤(arrOf st).size)(hu:Up (arrOf st) lo (lo + ok))
    (h:∀ st',Moved lo st st'→Up (arrOf st') lo (lo + n)→Q true st'):wpS (model prog w) A E s (binarySort' lo n ok) Q st:=by
  rw [binarySort'_eq]
  refine wpS_bind (wpS_mono (wpS_forRange (I:=fun x c z=>c=(none,())∧Moved lo st z∧Up (arrOf z) lo (lo + x)) (Q:=fun c z=>c=(none,())∧Moved lo st z∧Up (arrOf z) lo (lo + n)) ?_ ?_ ⟨rfl,Moved.rfl,by rw [show max ok 1=ok by omega];exact hu⟩) ?_)
  · rintro x c z hx1 hx2 ⟨rfl,hm,u⟩
    have hsz:=hm.size
    have hk':=hm.kind.trans hk
    have hI':=int_perm hI hm.perm
    refine wpS_bind (wpS_mono (wpS_forRange (I:=fun y c z'=>z'=z∧∃ l r,c=(none,l,r)∧l≤r∧r≤x∧r - l≤x - y∧(∀ i,lo≤i→i < lo + l→K (arrOf z) i≤K (arrOf z) (lo + x))∧(∀ i,lo + r≤i→i < lo + x→K (arrOf z) (lo + x) < K (arrOf z) i))
      (Q:=fun c z'=>z'=z∧∃ l r,c=(none,l,r)∧l≤x∧(∀ i,lo≤i→i < lo + l→K (arrOf z) i≤K (arrOf z) (lo + x))∧(∀ i,lo + l≤i→i < lo + x→K (arrOf z) (lo + x) < K (arrOf z) i)) ?_ ?_ ⟨rfl,0,x,rfl,by omega,by omega,by omega,fun i _ _=>by omega,fun i _ _=>by omega⟩) ?_)
    · rintro y c z' _ hy ⟨rfl,l,r,rfl,i1,i2,i3,i4,i5⟩
      dsimp only
      by_cases hlr:l ≥ r
      · rw [if_pos hlr]
        have:l=r:=by omega
        subst this
        exact wpS_pure ⟨rfl,l,l,rfl,i2,i4,i5⟩
      · rw [if_neg hlr]
        refine wpS_bind (wpS_ltI hk' hI' (by omega) (by omega) ?_)
        by_cases hl:K (arrOf z') (lo + x) < K (arrOf z') (lo + (l + r) / 2)
        · rw [decide_eq_true hl]
          exact wpS_pure ⟨rfl,l,(l + r) / 2,rfl,by omega,by omega,by omega,i4,fun i g1 g2=>Int.lt_of_lt_of_le hl (u _ i (by omega) g1 g2)⟩
        · rw [decide_eq_false hl]
          exact wpS_pure ⟨rfl,(l + r) / 2 + 1,r,rfl,by omega,by omega,by omega,fun i g1 g2=>Int.le_trans (u i (lo + (l + r) / 2) g1 (by omega) (by omega)) (Int.not_lt.mp hl),i5⟩
    · rintro c z' ⟨rfl,l,r,rfl,i1,i2,i3,i4,i5⟩
      have:l=r:=by omega
      subst this
      exact ⟨rfl,l,l,rfl,i2,i4,i5⟩
    · rintro c z' ⟨rfl,l,r,rfl,i2,i4,i5⟩
      show wpS _ _ _ _ (do moveDown' (lo + x) (lo + l);pure (ForInStep.yield (none,()))) _ _
      rw [moveDown'_eq]
      have hx:lo + x < (arrOf z').size:=by omega
      have kb:∀ k,K (bubble (arrOf z') (lo + x) (lo + x - (lo + l))) k=if k=lo + l then K (arrOf z') (lo + x) else if lo + l < k∧k≤lo + x then K (arrOf z') (k - 1) else K (arrOf z') k:=fun k=>by
        rw [K_bubble hx (by omega),show lo + x - (lo + x - (lo + l))=lo + l by omega]
      refine wpS_bind (wpS_modify (wpS_pure ⟨rfl,hm.trans ⟨rfl,rfl,rfl,bubble_perm _ _ _,fun k hk=>?_⟩,fun p q g1 g2 g3=>?_⟩))
      · show K (bubble _ _ _) k=_
        rw [kb,if_neg (by omega),if_neg (by omega)]
      · show K (bubble _ _ _) p≤K (bubble _ _ _) q
        rw [kb,kb]
        repeat' split
        all_goals first
          | (exfalso;omega)
          | exact Int.le_refl _
          | exact i4 _ (by omega) (by omega)
          | exact Int.le_of_lt (i5 _ (by omega) (by omega))
          | exact u _ _ (by omega) (by omega) (by omega)
  · rintro c z ⟨rfl,hm,u⟩
    rw [show max (max ok 1) n=n by omega] at u
    exact ⟨rfl,hm,u⟩
  · rintro c z ⟨rfl,hm,u⟩
    exact wpS_pure (h z hm u)
end
end MwSortR
set_option maxHeartbeats 2000000
namespace MwSortR
open PySem PyProof.Rows
variable [Ranks]
def Runs (xs:Array Keyed):Nat→List (Nat × Nat × Nat)→Nat→Prop
  | s,[],e=>s=e
  | s,c :: l,e=>c.1=s∧1≤c.2.1 ∧ Up xs s (s + c.2.1)∧Runs xs (s + c.2.1) l e
theorem Runs.le {xs:Array Keyed}:∀ {l:List (Nat × Nat × Nat)} {s e:Nat},Runs xs s l e→s + l.length ≤ e
  | [],s,e,h=>by have:s=e:=h;simp [this]
  | c :: l,s,e,h=>by
    have:=Runs.le h.2.2.2
    have h1:=h.2.1
    rw [List.length_cons]
    omega
theorem Up.congr {xs ys:Array Keyed}{i j:Nat}(h:∀ k,i≤k→k < j→K ys k=K xs k)(u:Up xs i j):Up ys i j:=fun p q h1 h2 h3=>by
  rw [h p h1 (by omega),h q (by omega) h3];exact u p q h1 h2 h3
theorem Runs.congr {xs ys:Array Keyed}:∀ {l:List (Nat × Nat × Nat)} {s e:Nat},(∀ k,s≤k→k < e→K ys k=K xs k)→Runs xs s l e→Runs ys s l e
  | [],s,e,_,r=>r
  | c :: l,s,e,h,r=>by
    have:=Runs.le r.2.2.2
    exact ⟨r.1,r.2.1,r.2.2.1.congr fun k h1 h2=>h k h1 (by omega),Runs.congr (fun k h1 h2=>h k (by omega) h2) r.2.2.2⟩
theorem Runs.push {xs:Array Keyed}{n q:Nat}:∀ {l:List (Nat × Nat × Nat)} {s e:Nat},Runs xs s l e→1≤n→Up xs e (e + n)→Runs xs s (l ++ [(e,n,q)]) (e + n)
  | [],s,e,r,h,u=>by
    have:s=e:=r
    subst this
    exact ⟨rfl,h,u,rfl⟩
  | c :: l,s,e,r,h,u=>⟨r.1,r.2.1,r.2.2.1,Runs.push r.2.2.2 h u⟩
theorem Runs.mod {xs:Array Keyed}(f:Nat × Nat × Nat→Nat × Nat × Nat)(hf:∀ c,(f c).1=c.1 ∧ (f c).2.1=c.2.1):∀ {l:List (Nat × Nat × Nat)} {i s e:Nat},Runs xs s l e→Runs xs s (l.modify i f) e
  | [],i,s,e,r=>by cases i <;> exact r
  | c :: l,0,s,e,r=>by
    show (f c).1=s∧1≤(f c).2.1 ∧ Up xs s (s + (f c).2.1)∧Runs xs (s + (f c).2.1) l e
    rw [(hf c).1,(hf c).2]
    exact r
  | c :: l,i + 1,s,e,r=>⟨r.1,r.2.1,r.2.2.1,Runs.mod f hf r.2.2.2⟩
theorem Runs.two {xs:Array Keyed}:∀ {l:List (Nat × Nat × Nat)} {i s e:Nat},Runs xs s l e→i + 1 < l.length →
    ∃ p m pw n pw2,l[i]? = some (p,m,pw)∧l[i + 1]? = some (p + m,n,pw2)∧1≤m∧1≤n∧s≤p∧p + m + n≤e∧Up xs p (p + m)∧Up xs (p + m) (p + m + n) ∧
      ∀ ys,(∀ k,k < p ∨ p + m + n≤k→K ys k=K xs k)→Up ys p (p + m + n)→Runs ys s ((l.set i (p,m + n,pw)).eraseIdx (i + 1)) e
  | [],i,s,e,r,h=>by simp at h
  | [c],0,s,e,r,h=>by simp at h
  | (p,m,pw) :: (q,n,pw2) :: l,0,s,e,r,h=>by
    obtain ⟨h1,h2,h3,h4,h5,h6,h7⟩:=r
    dsimp only at h1 h2 h3 h4 h5 h6 h7
    subst h1
    have:=Runs.le h7
    refine ⟨p,m,pw,n,pw2,rfl,by rw [← h4];rfl,h2,h5,Nat.le_refl _,by omega,h3,h6,fun ys hy hu=>?_⟩
    show p=p∧1≤m + n∧Up ys p (p + (m + n))∧Runs ys (p + (m + n)) l e
    rw [← Nat.add_assoc]
    exact ⟨rfl,by omega,hu,h7.congr fun k a b=>hy k (.inr a)⟩
  | c :: l,i + 1,s,e,r,h=>by
    obtain ⟨p,m,pw,n,pw2,g1,g2,g3,g4,g5,g6,g7,g8,g9⟩:=Runs.two (i:=i) r.2.2.2 (by simpa using h)
    refine ⟨p,m,pw,n,pw2,by simpa using g1,by simpa using g2,g3,g4,by omega,g6,g7,g8,fun ys hy hu=>?_⟩
    exact ⟨r.1,r.2.1,r.2.2.1.congr fun k a b=>hy k (.inl (by omega)),g9 ys hy hu⟩
section
variable {prog:Program}{w:World}{A:Around}{E:Value→Shared→Prop}{s:Shared}[CmpOk prog w A s]
structure SInv (a₀:Array Keyed)(lo:Nat)(st:SortSt):Prop where
  kind:kindOf st=Ranks.κ
  failed:failedOf st=none
  perm:(arrOf st).Perm a₀
  runs:Runs (arrOf st) 0 (pendingOf st).toList lo
theorem SInv.merge {a₀:Array Keyed}{lo i:Nat}{st:SortSt}{Q:Bool→SortSt→Prop}(hI:KeysIn a₀)(h:SInv a₀ lo st)(hlo:lo≤a₀.size)(hi:i + 1 < (pendingOf st).size)
    (hq:∀ st',SInv a₀ lo st'→(pendingOf st').size + 1=(pendingOf st).size → (∀ k,lo≤k→K (arrOf st') k=K (arrOf st) k)→Q true st'):wpS (model prog w) A E s (mergeAt' i) Q st:=by
  obtain ⟨p,m,pw,n,pw2,g1,g2,g3,g4,g5,g6,g7,g8,g9⟩:=h.runs.two (i:=i) (by simpa using hi)
  have hsz:=h.perm.size_eq
  refine wpS_mergeAt h.kind h.failed (int_perm hI h.perm) (by simpa using g1) (by simpa using g2) g3 g4 (by omega) g7 g8 fun st' hJ hp=>hq st' ⟨hJ.kind.trans h.kind,hJ.failed.trans h.failed,?_,?_⟩ ?_ fun k hk=>hJ.out k (.inr (by omega))
  · exact (Array.perm_iff_toList_perm.mpr hJ.perm).trans h.perm
  · rw [hp]
    have e:(((pendingOf st).setIfInBounds i (p,m + n,pw)).eraseIdxIfInBounds (i + 1)).toList=((pendingOf st).toList.set i (p,m + n,pw)).eraseIdx (i + 1):=by simp
    rw [e]
    exact g9 _ hJ.out hJ.up
  · have e:(((pendingOf st).setIfInBounds i (p,m + n,pw)).eraseIdxIfInBounds (i + 1)).toList=((pendingOf st).toList.set i (p,m + n,pw)).eraseIdx (i + 1):=by simp
    rw [hp,← Array.length_toList,e,List.length_eraseIdx,List.length_set,if_pos (by simpa using hi),Array.length_toList]
    omega
theorem wpS_sortAll {st:SortSt}{a₀:Array Keyed}{Q:Unit→SortSt→Prop}(hI:KeysIn a₀)(hp:(arrOf st).Perm a₀)(hk:kindOf st=Ranks.κ)(hf:failedOf st=none)(hpe:pendingOf st = #[])
    (h:∀ st',(arrOf st').Perm a₀→failedOf st'=none→SortedTo (arrOf st') a₀.size → Q () st'):wpS (model prog w) A E s sortRuns' Q st:=by
  rw [sortRuns'_eq]
  refine wpS_bind (wpS_get ?_)
  dsimp only
  have hsz:=hp.size_eq
  rw [hsz]
  generalize minRun' a₀.size a₀.size 0=mr
  refine wpS_bind (wpS_mono (wpS_forRange (I:=fun x c z=>∃ lo,c=(none,lo)∧x≤lo∧lo≤a₀.size ∧ SInv a₀ lo z) (Q:=fun c z=>c.1=none∧SInv a₀ a₀.size z) ?_ ?_ ⟨0,rfl,Nat.le_refl _,Nat.zero_le _,hk,hf,hp,by rw [hpe];rfl⟩) ?_)
  · rintro x c z _ hx ⟨lo,rfl,i1,i2,i3⟩
    dsimp only
    by_cases hlo:lo ≥ a₀.size
    · rw [if_pos hlo]
      have:lo=a₀.size:=by omega
      subst this
      exact wpS_pure ⟨rfl,i3⟩
    · rw [if_neg hlo]
      have hz:=i3.perm.size_eq
      refine wpS_bind (wpS_countL i3.kind (int_perm hI i3.perm) (by omega) (by omega) fun m z1 hm m1 m2 mu=>?_)
      dsimp only
      have keep:∀ z2:SortSt,Moved lo z z2→SInv a₀ lo z2:=fun z2 hm=>⟨hm.kind.trans i3.kind,hm.failed.trans i3.failed,hm.perm.trans i3.perm,by rw [hm.pend];exact i3.runs.congr fun k _ hk=>hm.out k hk⟩
      have fin:∀ (n:Nat) (z2:SortSt),1≤n→lo + n≤a₀.size → SInv a₀ lo z2→Up (arrOf z2) lo (lo + n)→wpS (model prog w) A E s (do
            modify fun y=>setPending y ((pendingOf y).push (lo,n,0))
            (pure (ForInStep.yield ((none,lo + n):Option Unit × Nat)):StateT SortSt Sem (ForInStep (Option Unit × Nat)))) (fun r st'=>match r with | .done c'=>c'.1=none∧SInv a₀ a₀.size st' | .yield c'=>∃ lo,c'=(none,lo)∧x + 1≤lo∧lo≤a₀.size ∧ SInv a₀ lo st') z2:=fun n z2 n1 n2 hi hu=>by
        refine wpS_bind (wpS_modify (wpS_pure ⟨lo + n,rfl,by omega,n2,hi.kind,hi.failed,hi.perm,?_⟩))
        show Runs (arrOf z2) 0 ((pendingOf z2).push (lo,n,0)).toList (lo + n)
        rw [Array.toList_push]
        exact hi.runs.push n1 hu
      have back:∀ (n:Nat) (z2:SortSt),1≤n→lo + n≤a₀.size → SInv a₀ lo z2→Up (arrOf z2) lo (lo + n)→∀ (pw:Nat) (f:Nat→Option Unit × Unit→StateT SortSt Sem (ForInStep (Option Unit × Unit))),
          (∀ y c,f y c=do
            let g ← get
            match (if (pendingOf g).size > 1 then (pendingOf g)[(pendingOf g).size - 2]? else none) with
            | some (_,_,older)=>if older≤pw then pure (.done (none,())) else do
                let r ← mergeAt' ((pendingOf g).size - 2)
                if (!r)=true then pure (.done (some (),())) else pure (.yield (none,()))
            | _=>pure (.done (none,()))) →
          wpS (model prog w) A E s (forIn [:a₀.size] (none,()) f) (fun c z3=>c=(none,())∧SInv a₀ lo z3∧Up (arrOf z3) lo (lo + n)) z2:=fun n z2 n1 n2 hi hu pw f hf=>by
        refine wpS_forRange (I:=fun _ c z3=>c=(none,())∧SInv a₀ lo z3∧Up (arrOf z3) lo (lo + n)) ?_ (fun c z3 hc=>hc) ⟨rfl,hi,hu⟩
        rintro y c z3 _ hy ⟨rfl,hi,hu⟩
        rw [hf]
        refine wpS_bind (wpS_get ?_)
        by_cases h1:(pendingOf z3).size > 1
        · rw [if_pos h1]
          have e:(pendingOf z3)[(pendingOf z3).size - 2]? = some (pendingOf z3)[(pendingOf z3).size - 2]:=getElem?_pos _ _ (by omega)
          rw [e]
          dsimp only
          by_cases ho:(pendingOf z3)[(pendingOf z3).size - 2].2.2 ≤ pw
          · rw [if_pos ho]
            exact wpS_pure ⟨rfl,hi,hu⟩
          · rw [if_neg ho]
            refine wpS_bind (hi.merge hI i2 (by omega) fun z4 hi4 _ hk4=>?_)
            exact wpS_pure ⟨rfl,hi4,hu.congr fun k a b=>hk4 k a⟩
        · rw [if_neg h1]
          exact wpS_pure ⟨rfl,hi,hu⟩
      by_cases hn:m < mr
      · rw [if_pos hn]
        refine wpS_bind (wpS_lift (wpAny_rule ⟨rfl,?_⟩))
        have hz1:=hm.size
        refine wpS_bind (wpS_binL (hm.kind.trans i3.kind) (int_perm hI (hm.perm.trans i3.perm)) m1 (by omega) (by omega) mu fun z2 hm2 mu2=>?_)
        simp only [Bool.not_true,Bool.false_eq_true,if_false]
        refine wpS_bind (wpS_get ?_)
        have hi2:=keep z2 (hm.trans hm2)
        cases eb:(pendingOf z2).back? with
        | none=>exact fin _ z2 (by omega) (by omega) hi2 mu2
        | some t =>
          obtain ⟨s1,n1,t1⟩:=t
          dsimp only
          refine wpS_bind (wpS_mono (back _ z2 (by omega) (by omega) hi2 mu2 _ _ (fun y c=>rfl)) ?_)
          rintro c z3 ⟨rfl,hi3,mu3⟩
          dsimp only
          refine wpS_bind (wpS_modify ?_)
          refine fin _ _ (by omega) (by omega) ⟨hi3.kind,hi3.failed,hi3.perm,?_⟩ mu3
          show Runs (arrOf z3) 0 ((pendingOf z3).modify _ _).toList lo
          rw [Array.toList_modify]
          refine hi3.runs.mod _ ?_
          exact fun c=>⟨rfl,rfl⟩
      · rw [if_neg hn]
        refine wpS_bind (wpS_get ?_)
        have hi2:=keep z1 hm
        cases eb:(pendingOf z1).back? with
        | none=>exact fin _ z1 (by omega) (by omega) hi2 mu
        | some t =>
          obtain ⟨s1,n1,t1⟩:=t
          dsimp only
          refine wpS_bind (wpS_mono (back _ z1 (by omega) (by omega) hi2 mu _ _ (fun y c=>rfl)) ?_)
          rintro c z3 ⟨rfl,hi3,mu3⟩
          dsimp only
          refine wpS_bind (wpS_modify ?_)
          refine fin _ _ (by omega) (by omega) ⟨hi3.kind,hi3.failed,hi3.perm,?_⟩ mu3
          show Runs (arrOf z3) 0 ((pendingOf z3).modify _ _).toList lo
          rw [Array.toList_modify]
          refine hi3.runs.mod _ ?_
          exact fun c=>⟨rfl,rfl⟩
  · rintro c z ⟨lo,rfl,i1,i2,i3⟩
    have:lo=a₀.size:=by omega
    subst this
    exact ⟨rfl,i3⟩
  · rintro ⟨c1,c2⟩ z ⟨e,hi⟩
    dsimp only at e
    subst e
    dsimp only
    have hle:=hi.runs.le
    simp only [Array.length_toList,Nat.zero_add] at hle
    refine wpS_bind (wpS_mono (wpS_forRange (I:=fun x c z=>c=(none,())∧SInv a₀ a₀.size z∧(pendingOf z).size + x≤a₀.size) (Q:=fun c z=>c=(none,())∧SInv a₀ a₀.size z∧(pendingOf z).size ≤ 1) ?_ ?_ ⟨rfl,hi,hle⟩) ?_)
    · rintro x c z _ hx ⟨rfl,hi,hs⟩
      refine wpS_bind (wpS_get ?_)
      by_cases h1:(pendingOf z).size ≤ 1
      · rw [if_pos h1]
        exact wpS_pure ⟨rfl,hi,h1⟩
      · rw [if_neg h1]
        refine wpS_bind (hi.merge hI (Nat.le_refl _) ?_ fun z4 hi4 hs4 _=>wpS_pure ⟨rfl,hi4,by omega⟩)
        repeat' split
        all_goals omega
    · rintro c z ⟨rfl,hi,hs⟩
      exact ⟨rfl,hi,by omega⟩
    · rintro c z ⟨rfl,hi,hs⟩
      refine wpS_pure (h z hi.perm hi.failed ?_)
      have hr:=hi.runs
      match e:(pendingOf z).toList,hr with
      | [],hr =>
        have:0=a₀.size:=hr
        intro i j _ hj
        omega
      | [c],hr =>
        obtain ⟨h1,h2,h3,h4⟩:=hr
        have h4':0 + c.2.1=a₀.size:=h4
        rw [h4'] at h3
        exact fun i j hij hj=>h3 i j (Nat.zero_le _) hij hj
      | c :: d :: l,hr =>
        have:(pendingOf z).toList.length=(c :: d :: l).length:=by rw [e]
        simp at this
        omega
end
end MwSortR
set_option maxHeartbeats 2000000
namespace MwSort
open PySem PyProof.Rows
section
variable {prog:Program}{w:World}{A:Around}{E:Value→Shared→Prop}{s:Shared}
def intRanks:MwSortR.Ranks:=⟨numOf,oneType',fun v=>∃ n t,v = .int n t⟩
theorem int_cmp:@MwSortR.CmpOk intRanks prog w A s:=by
  letI:=intRanks
  refine ⟨fun x y Q E hx hy q=>?_⟩
  obtain ⟨n,t,rfl⟩:=hx
  obtain ⟨m,u,rfl⟩:=hy
  show wpAny _ _ (keyLt' oneType' (.int n t) (.int m u)) Q E s
  rw [keyLt'_oneType]
  exact oneLt_int q
theorem wpS_sortAll {st:SortSt}{a₀:Array Keyed}{Q:Unit→SortSt→Prop}(hI:IntKeys a₀)(hp:(arrOf st).Perm a₀)(hk:kindOf st=oneType')(hf:failedOf st=none)(hpe:pendingOf st = #[])
    (h:∀ st',(arrOf st').Perm a₀→failedOf st'=none→SortedTo (arrOf st') a₀.size → Q () st'):wpS (model prog w) A E s sortRuns' Q st:=by
  letI:=intRanks
  haveI:MwSortR.CmpOk prog w A s:=int_cmp
  exact MwSortR.wpS_sortAll (fun p hp=>hI p hp) hp hk hf hpe h
theorem sortedHeap_keep {h:Heap}{a:Addr}{vs:List Value}{out:Array Value}{b:Addr}{o:Obj}(hb:b≠a)(e:h.get? b=some o):(sortedHeap h a vs out).get? b=some o:=by
  unfold sortedHeap
  rw [Heap.get?_update_other _ _ hb.symm]
  refine Heap.get?_push_of_some _ (Heap.get?_push_of_some _ ?_)
  rw [Heap.get?_update_other _ _ hb.symm]
  exact e
theorem sortedHeap_at {h:Heap} {a:Addr} {vs xs:List Value} {n:Nat} {out:Array Value} (e:h.get? a=some (seqObj "list" xs.toArray n)):∃ c,(sortedHeap h a vs out).get? a=some (seqObj "list" out c):=by
  have hlt:a < h.objs.size:=Heap.lt_size e
  have e1:=get?_update_seq e fun _=>#[]
  have e2:=Heap.get?_push_of_some (seqObj "list" #[] 0) (Heap.get?_push_of_some (seqObj "tuple" vs.toArray 0) e1)
  exact ⟨_,get?_update_seq e2 fun _=>out⟩
theorem list_sort_any {a:Addr} {vs:List Value} {ns:List Int} {n:Nat} {P:Fin→Shared→Prop} (ho:s.heap.get? a=some (seqObj "list" vs.toArray n)) (hI:IntsAre vs ns) (hz:vs.length ≤ sizeLine)
    (h:∀ (out:Array Value) (ms:List Int),IntsAre out.toList ms→ms.Perm ns→ms.Pairwise (·≤·)→P (.done (.ret .none)) { s with heap:=sortedHeap s.heap a vs out }):wpAny (model prog w) A (Builtin.«list.sort» ⟨[.ref a],[]⟩) P E s:=by
  rw [list_sort_plain]
  have ha:a < s.heap.objs.size:=Heap.lt_size ho
  have hzA:vs.toArray.size ≤ sizeLine:=by rw [List.size_toArray];exact hz
  refine wpAny_bind (listItems_at ho rfl (wpAny_bind (listUpdate_at ho rfl ?_ (hsz:=hzA) (hsz2:=Nat.zero_le _))))
  obtain ⟨c1,g1⟩:∃ c,(s.heap.update a (Obj.mapSeq fun _=>#[])).get? a=some (seqObj "list" #[] c):=⟨_,get?_update_seq ho fun _=>#[]⟩
  refine wpAny_bind (seqEpoch_at g1 rfl (wpAny_bind (wpAny_newTuple (wpAny_bind (wpAny_newList (wpAny_holding ?_))))))
  have g2:=Heap.get?_push_of_some (seqObj "list" #[] 0) (Heap.get?_push_of_some (seqObj "tuple" vs.toArray 0) g1)
  show wpAny (model prog w) A _ P E { s with heap:=((s.heap.update a (Obj.mapSeq fun _=>#[])).push (seqObj "tuple" vs.toArray 0)).push (seqObj "list" #[] 0) }
  dsimp only
  have hl:vs.toArray.size=vs.length:=by simp
  have fin:∀ z:SortSt,(arrOf z).Perm (pairsOf vs)→SortedTo (arrOf z) (pairsOf vs).size → P (.done (.ret .none)) { s with heap:=sortedHeap s.heap a vs ((arrOf z).map (·.2)) }:=fun z p q=>by
    obtain ⟨ms,i1,i2,i3⟩:=sorted_out hI p q
    exact h _ ms i1 i2 i3
  by_cases few:vs.toArray.size < 2
  · rw [if_pos few,if_pos few]
    refine wpAny_bind (wpAny_pure ?_)
    rw [StateT.run_pure]
    refine wpAny_bind (wpAny_pure ?_)
    dsimp only
    refine wpAny_bind (seqEpoch_at g2 rfl (wpAny_bind (listUpdate_at g2 rfl ?_ (hsz:=Nat.zero_le _) (hsz2:=?_))))
    · simp only [bne_self_eq_false,Bool.false_eq_true,if_false]
      refine wpAny_pure (fin (SortSt.mk' general' (vs.toArray.zip vs.toArray) #[] 7 none) (Array.Perm.refl _) fun i j hij hj=>?_)
      rw [pairsOf_size] at hj
      have:i=j:=by omega
      rw [this];exact Int.le_refl _
    · rw [Array.size_map]
      show (pairsOf vs).size ≤ _
      rw [pairsOf_size];omega
  · rw [if_neg few,if_neg few]
    obtain ⟨x,y,r,rfl⟩:∃ x y r,vs=x :: y :: r:=by
      rcases vs with _ | ⟨x,_ | ⟨y,r⟩⟩
      · exact absurd (by simp) few
      · exact absurd (by simp) few
      · exact ⟨x,y,r,rfl⟩
    rw [keyKind_ints hI]
    refine wpAny_bind (wpAny_pure ?_)
    refine wpAny_bind (wpAny_mono (wpS_sortAll (a₀:=pairsOf (x :: y :: r)) (st:=SortSt.mk' oneType' ((x :: y :: r).toArray.zip (x :: y :: r).toArray) #[] 7 none) (Q:=fun _ z=>(arrOf z).Perm (pairsOf (x :: y :: r))∧failedOf z=none∧SortedTo (arrOf z) (pairsOf (x :: y :: r)).size)
      hI.intKeys (Array.Perm.refl _) rfl rfl rfl fun z b1 b2 b3=>⟨b1,b2,b3⟩) ?_ fun _ _ e=>e)
    rintro ⟨⟨⟩,z⟩ s' ⟨rfl,p,f,q⟩
    dsimp only
    refine wpAny_bind (seqEpoch_at g2 rfl (wpAny_bind (listUpdate_at g2 rfl ?_ (hsz:=Nat.zero_le _) (hsz2:=?_))))
    · rw [f]
      simp only [bne_self_eq_false,Bool.false_eq_true,if_false]
      exact wpAny_pure (fin z p q)
    · have:=(Array.size_map (f:=(·.2)) (xs:=arrOf z)).trans (p.size_eq.trans (pairsOf_size _))
      rw [this];omega
theorem sorted_any {v:Value}{ns:List Int}{Q:Value→Shared→Prop}
    (hc:∀ R:List Value→Shared→Prop,(∀ (vs:List Value) (h₁:Heap) (t:Nat) (dr:Drawn) (ks:List Int),IntsAre vs ks→ks.Perm ns→vs.length ≤ sizeLine→(∀ b o,s.heap.get? b=some o→h₁.get? b=some o)→R vs { s with heap:=h₁,toks:=t,drawn:=dr })→wpAny (model prog w) A.in1 (collect v) R E s)
    (h:∀ (h₁ h':Heap) (t:Nat) (dr:Drawn) (D:Addr) (c:Nat) (out:List Value) (ms:List Int),(∀ b o,s.heap.get? b=some o→h₁.get? b=some o)→(∀ b o,h₁.get? b=some o→h'.get? b=some o)→h₁.objs.size ≤ D→h'.get? D=some (seqObj "list" out.toArray c)→IntsAre out ms→ms.Perm ns→ms.Pairwise (·≤·)→Q (.ref D) { s with heap:=h',toks:=t,drawn:=dr }) :
    wpAny (model prog w) A (call (.builtin "sorted") [v]) Q E s:=by
  refine Calls.call_function_entry kind_sorted plain_sorted entry_sorted (args_sorted1 _) ?_
  unfold Builtin.«sorted»
  refine wpAny_bind (m:=checkCount "sorted" 1 1 _) (wpAny_pure (wpAny_bind (hc _ fun vs h₁ t dr ks hI hP hz hk=>wpAny_bind (wpAny_newList ?_))))
  have g:(h₁.push (seqObj "list" vs.toArray 0)).get? h₁.objs.size=some (seqObj "list" vs.toArray 0):=Heap.get?_push_size _ rfl
  show wpAny _ _ _ _ _ { s with heap:=h₁.push (seqObj "list" vs.toArray 0),toks:=t,drawn:=dr }
  refine wpAny_bind (wpAny_holding (wpAny_call_entry slot_list_sort ⟨_,g,rfl⟩ entry_list_sort (list_sort_any g hI hz fun out ms i1 i2 i3=>⟨_,rfl,?_⟩) (args_list_sort _)))
  obtain ⟨c,gc⟩:=sortedHeap_at (vs:=vs) (out:=out) g
  exact wpAny_pure ⟨_,rfl,h h₁ _ t dr _ c out.toList ms hk (fun b o e=>sortedHeap_keep (Nat.ne_of_lt (Heap.lt_size e)) (Heap.get?_push_of_some _ e)) (Nat.le_refl _) (by simpa using gc) i1 (i2.trans hP) i3⟩
theorem sorted_seq {p:Addr} {T:String} {o:Obj} {vs:List Value} {n:Nat} {ns:List Int} {Q:Value→Shared→Prop} (hT:T = "list" ∨ T = "tuple") (ho:s.heap.get? p=some o) (hc:o.cls = .type T) (hd:o.data = .seq vs.toArray n) (hI:IntsAre vs ns) (hz:vs.length ≤ sizeLine)
    (h:∀ (h₁ h':Heap) (t:Nat) (dr:Drawn) (D:Addr) (c:Nat) (out:List Value) (ms:List Int),(∀ b o,s.heap.get? b=some o→h₁.get? b=some o)→(∀ b o,h₁.get? b=some o→h'.get? b=some o)→h₁.objs.size ≤ D→h'.get? D=some (seqObj "list" out.toArray c)→IntsAre out ms→ms.Perm ns→ms.Pairwise (·≤·)→Q (.ref D) { s with heap:=h',toks:=t,drawn:=dr }) :
    wpAny (model prog w) A (call (.builtin "sorted") [.ref p]) Q E s :=
  sorted_any (ns:=ns) (fun R k=>wpAny_collect_seq p hT ho hc hd (fun g e=>k _ g s.toks s.drawn ns (by simpa using hI) (List.Perm.refl _) (by simpa using hz) e) (by simpa using hz)) h
end
end MwSort
set_option maxHeartbeats 3200000
namespace MwSet
open PySem PySem.Spec PyProof.Rows
section
variable {prog:Program}{w:World}{A:Around}{E:Value→Shared→Prop}{s:Shared}
theorem sizeOf_set {a:Addr}{es:Array (Int × Value)}{ep:Nat}{t:SetTable}{Q:Nat→Shared→Prop}(ea:s.heap.get? a=some (setObj es ep t))(hf:t.fits es.size=true)(h:Q es.size s):wpAny (model prog w) A (Builtin.Frozenset.sizeOf a) Q E s:=by
  unfold Builtin.Frozenset.sizeOf
  exact wpAny_bind (wpAny_setEntries_of ea rfl hf (wpAny_pure h))
theorem drawn_set {a:Addr}{es:Array (Int × Value)}{ep:Nat}{t:SetTable}{Q:Bool→Shared→Prop}(ea:s.heap.get? a=some (setObj es ep t))(hf:t.fits es.size=true)(h:Q (!byT w && (!t.plain && decide (es.size > 1))) s):wpAny (model prog w) A (setDrawn a) Q E s:=by
  unfold setDrawn setsByText
  refine wpAny_bind (wpAny_setState_of ea rfl hf ?_)
  dsimp only
  exact wpAny_bind (wpAny_bind (wpAny_askSetting (wpAny_pure (wpAny_pure h))))
theorem hint_set {r:Addr} {Q:Bool→Shared→Prop} (hT:s.TypeIs (.ref r) "set") (h:Q false s):wpAny (model prog w) A (Builtin.List.listLengthHint (.ref r)) Q E s:=by
  unfold Builtin.List.listLengthHint
  refine wpAny_bind (wpAny_specialOf hT PySem.F.slot_set_len.lookup ?_)
  generalize hid:("set.__len__" : String)=id0
  wp_delta
  rw [show splitId id0=some ("set","__len__") from by subst hid;decide +kernel]
  subst hid
  refine wpAny_bind (wpAny_isInstance (T := "set") (b:=true) hT (by rw [isSubtype_type];kernel_rfl) ?_)
  refine wpAny_ite_split (fun z=>absurd z (by decide)) (fun _=>?_)
  refine wpAny_ite_split (fun _=>?_) (fun z=>absurd (by decide +kernel) z)
  exact wpAny_bind (wpAny_typeOf hT (wpAny_pure h))
end
end MwSet
namespace L2
open PySem PySem.Spec PyProof.Rows
def sortI (ns:List Int):List Int:=ns.mergeSort fun a b=>decide (a≤b)
theorem sortI_perm (ns:List Int):(sortI ns).Perm ns:=List.mergeSort_perm _ _
theorem sortI_rise (ns:List Int):(sortI ns).Pairwise (·≤·):=by
  have:=List.pairwise_mergeSort (le:=fun a b:Int=>decide (a≤b)) (fun a b c h1 h2=>by simp at h1 h2 ⊢;omega) (fun a b=>by simp;omega) ns
  exact this.imp fun {a b} h=>by simpa using h
theorem sortI_len (ns:List Int):(sortI ns).length=ns.length:=(sortI_perm ns).length_eq
theorem rise_eq {a b:List Int}(hp:a.Perm b)(ha:a.Pairwise (·≤·))(hb:b.Pairwise (·≤·)):a=b:=PySem.W.ksm_same hp ha hb
theorem sortI_eq {ms ns:List Int}(hp:ms.Perm ns)(hs:ms.Pairwise (·≤·)):ms=sortI ns:=rise_eq (hp.trans (sortI_perm ns).symm) hs (sortI_rise ns)
theorem mem_sortI {ns:List Int}{x:Int}:x∈sortI ns↔x∈ns:=(sortI_perm ns).mem_iff
theorem are_ints:∀ {ns:List Int} {us:List Value},Vals (ns.map V.int) us→IntsAre us ns
  | [],_,.nil=>.nil
  | n :: ns,_,.cons r t=>by
    obtain ⟨tk,rfl⟩:=r
    exact .cons n tk (are_ints t)
theorem ints_vals:∀ {us:List Value} {ns:List Int},IntsAre us ns→Vals (ns.map V.int) us
  | _,_,.nil=>.nil
  | _,_,.cons n t h=>.cons ⟨t,rfl⟩ (ints_vals h)
section
variable {X:Cx}{pins:List (Addr × Obj)}{σ:St}{H:Hp}{s:Shared}
theorem Inv.drew {d:Drawn}(I:Inv X pins σ H s):Inv X pins σ H { s with drawn:=d }:=⟨I.ok,I.os,I.bare,I.base,I.loc,I.cell,I.free,I.freeC,I.pin,I.hok,I.len⟩
theorem Inv.sorted {ns:List Int}{Q:VK}(I:Inv X pins σ H s)(hz:ns.length ≤ sizeLine)(q:∀ l,H l=none→Q (.ref l) (upd H l (.lst ((sortI ns).map V.int)))) :
    ∀ (h₁ h':Heap) (t:Nat) (dr:Drawn) (D:Addr) (c:Nat) (out:List Value) (ms:List Int),(∀ b o,s.heap.get? b=some o→h₁.get? b=some o)→(∀ b o,h₁.get? b=some o→h'.get? b=some o)→h₁.objs.size ≤ D→h'.get? D=some (seqObj "list" out.toArray c)→IntsAre out ms→ms.Perm ns→ms.Pairwise (·≤·) →
      EP X pins σ Q (.ref D) { s with heap:=h',toks:=t,drawn:=dr }:=by
  intro h₁ h' t dr D c out ms k1 k2 hD hg hI hp hs
  have e:=sortI_eq hp hs
  subst e
  have I1:Inv X pins σ H { s with heap:=h₁,toks:=t,drawn:=dr }:=(I.kept (t':=t) k1).drew
  refine ⟨.ref D,_,I1.laid (t':=t) (o:=.lst ((sortI ns).map V.int)) k2 hD ⟨?_,out,c,ints_vals hI,hg⟩,rfl,q D (I1.hok.fresh hD)⟩
  rw [List.length_map,sortI_len]
  exact hz
end
theorem bt_sorted:bootBuiltins "sorted" = some (.builtin "sorted"):=by decide +kernel
theorem bt_set:bootBuiltins "set" = some (.type "set"):=by decide +kernel
section
variable {X:Cx}
def rSorted:List V→Hp→VK→Prop:=fun xs H Q=>∃ (p:Addr) (ns:List Int),xs=[.ref p]∧(H p=some (.tup (ns.map V.int)) ∨ H p=some (.lst (ns.map V.int)))∧∀ l,H l=none→Q (.ref l) (upd H l (.lst ((sortI ns).map V.int)))
theorem call_sorted:CallR X (.builtin "sorted") rSorted:=by
  intro pins s σ H xs us Q I r h
  obtain ⟨p,ns,rfl,hp,q⟩:=h
  obtain ⟨u,rfl,e⟩:=vals1 r
  obtain rfl:u=Value.ref p:=e
  rcases hp with hp | hp
  · obtain ⟨z,its,rv,o,ho,hc,n,hd⟩:=(show ObjOk X.prog X.w H s.heap p (.tup (ns.map V.int)) from I.hok p _ hp)
    have hl:=rv.length
    rw [List.length_map] at z hl
    exact MwSort.sorted_seq (.inr rfl) ho hc hd (are_ints rv) (by omega) (I.sorted z q)
  · obtain ⟨z,its,n,rv,hg⟩:=(show ObjOk X.prog X.w H s.heap p (.lst (ns.map V.int)) from I.hok p _ hp)
    have hl:=rv.length
    rw [List.length_map] at z hl
    exact MwSort.sorted_seq (.inl rfl) hg rfl rfl (are_ints rv) (by omega) (I.sorted z q)
end
end L2
namespace L2
open PySem PySem.Spec PyProof.Rows
end L2
namespace L2
open PySem PySem.Spec PyProof.Rows
end L2
namespace L2
open PySem PySem.Spec PyProof.Rows
end L2
namespace L2
open PySem PySem.Spec PyProof.Rows
end L2
namespace L2
open PySem PySem.Spec PyProof.Rows
end L2
namespace L2
open PySem PySem.Spec PyProof.Rows
end L2
namespace L2
open PySem PySem.Spec PyProof.Rows
end L2
namespace L2
open PySem PySem.Spec PyProof.Rows
end L2
namespace L2
open PySem PySem.Spec PyProof.Rows
end L2
namespace L2
open PySem PySem.Spec PyProof.Rows
end L2
namespace L2
open PySem PySem.Spec PyProof.Rows
section
variable {κ:Type}[DecidableEq κ]
def valV (kvs:List (κ × V))(k:κ):Option V:=(kvs.find? fun kv=>decide (kv.1=k)).map (·.2)
def putK (kvs:List (κ × V))(k:κ)(v:V):List (κ × V) :=
  if (kvs.any fun kv=>decide (kv.1=k))=true then kvs.map (fun kv=>if kv.1=k then (kv.1,v) else kv) else kvs ++ [(k,v)]
theorem KV.length {kvs:List (κ × V)}{vs:List (κ × Value)}(r:KV kvs vs):kvs.length=vs.length:=Paired.length r
end
def DGet (H:Hp)(a:Addr)(y:V)(r:Option V):Prop :=
  (∃ kvs k,Rd H a (.dK kvs)∧y=kV k∧r=valV kvs k) ∨ ∃ kvs k b,Rd H a (.dT kvs)∧y = .ref b∧H b=some (.tup (k.map kV))∧r=valV kvs k
def DPut (H:Hp)(a:Addr)(y v:V)(H':Hp):Prop :=
  (∃ kvs k,H a=some (.dK kvs)∧y=kV k∧kvs.length < sizeLine∧H'=upd H a (.dK (putK kvs k v))) ∨
  ∃ kvs k b,H a=some (.dT kvs)∧y = .ref b∧H b=some (.tup (k.map kV))∧kvs.length < sizeLine∧H'=upd H a (.dT (putK kvs k v))
theorem DGet.k {H:Hp}{a:Addr}{kvs:List (Key × V)}{k:Key}(e:H a=some (.dK kvs)):DGet H a (kV k) (valV kvs k):=.inl ⟨kvs,k,.inl e,rfl,rfl⟩
theorem DGet.t {H:Hp}{a b:Addr}{kvs:List (List Key × V)}{k:List Key}(e:H a=some (.dT kvs))(eb:H b=some (.tup (k.map kV))):DGet H a (.ref b) (valV kvs k):=.inr ⟨kvs,k,b,.inl e,rfl,eb,rfl⟩
theorem DPut.k {H:Hp}{a:Addr}{kvs:List (Key × V)}{k:Key}{v:V}(e:H a=some (.dK kvs))(hl:kvs.length < sizeLine):DPut H a (kV k) v (upd H a (.dK (putK kvs k v))):=.inl ⟨kvs,k,e,rfl,hl,rfl⟩
theorem DPut.t {H:Hp}{a b:Addr}{kvs:List (List Key × V)}{k:List Key}{v:V}(e:H a=some (.dT kvs))(eb:H b=some (.tup (k.map kV)))(hl:kvs.length < sizeLine) :
    DPut H a (.ref b) v (upd H a (.dT (putK kvs k v))):=.inr ⟨kvs,k,b,e,rfl,eb,hl,rfl⟩
end L2
namespace Att
open PySem PySem.W PySem.Calls PyProof.Rows
end Att
namespace L2
open PySem PySem.Spec PyProof.Rows
end L2
namespace L2
open PySem PySem.Spec PyProof.Rows
end L2
namespace L2
open PySem PySem.Spec PyProof.Rows
end L2
namespace L2
open PySem PySem.Spec PyProof.Rows
end L2
namespace L2
open PySem PySem.Spec PyProof.Rows MwSet
def placeOf (n:Nat)(a b:Int):Int:=a * ((n:Int) - 1) / b
def Share (a b:Int):Prop:=0≤a∧a≤b∧1≤b∧b≤1000000
theorem place_bounds {n:Nat}{a b:Int}(h:Share a b)(hn:1≤n):0≤placeOf n a b∧placeOf n a b < n:=by
  obtain ⟨h1,h2,h3,_⟩:=h
  unfold placeOf
  have m0:0≤a * ((n:Int) - 1):=Int.mul_nonneg h1 (by omega)
  refine ⟨Int.ediv_nonneg m0 (by omega),Int.ediv_lt_of_lt_mul (by omega) ?_⟩
  have:a * ((n:Int) - 1)≤b * ((n:Int) - 1):=Int.mul_le_mul_of_nonneg_right h2 (by omega)
  have e:(n:Int) * b=b * ((n:Int) - 1) + b:=by rw [Int.mul_sub,Int.mul_one,Int.mul_comm];omega
  omega
def manieth (ns:List Int)(a b:Int):Option Int:=(sortI ns)[(placeOf ns.length a b).toNat]?
theorem manieth_nil (a b:Int):manieth [] a b=none:=by unfold manieth;rw [show sortI []=[] from List.length_eq_zero_iff.mp (by rw [sortI_len];rfl)];rfl
theorem manieth_some {ns:List Int}{a b:Int}(h:Share a b)(hn:ns≠[]):∃ h':(placeOf ns.length a b).toNat < (sortI ns).length,manieth ns a b=some (sortI ns)[(placeOf ns.length a b).toNat]:=by
  have hl:1≤ns.length:=by
    cases ns with
    | nil=>exact absurd rfl hn
    | cons x l=>simp
  have:=place_bounds h hl
  have h':(placeOf ns.length a b).toNat < (sortI ns).length:=by rw [sortI_len];omega
  exact ⟨h',List.getElem?_eq_getElem h'⟩
theorem rise_count {S:List Int}(hS:S.Pairwise (·≤·)){i:Nat}(hi:i < S.length)(v:Int):S[i]≤v↔i < S.countP fun x=>decide (x≤v):=by
  have mono:∀ p q,(hp:p < S.length)→(hq:q < S.length)→p≤q→S[p]≤S[q]:=fun p q hp hq hpq=>by
    rcases Nat.lt_or_ge p q with z | z
    · exact List.pairwise_iff_getElem.mp hS p q hp hq z
    · have:p=q:=by omega
      subst this;exact Int.le_refl _
  have e:S=S.take i ++ S[i] :: S.drop (i + 1):=by rw [← List.drop_eq_getElem_cons hi,List.take_append_drop]
  constructor
  · intro h
    have c1:(S.take (i + 1)).countP (fun x=>decide (x≤v))=(S.take (i + 1)).length:=by
      rw [List.countP_eq_length]
      intro x hx
      obtain ⟨m,hm,rfl⟩:=List.mem_iff_getElem.mp hx
      rw [List.length_take] at hm
      rw [List.getElem_take]
      exact decide_eq_true (Int.le_trans (mono m i (by omega) hi (by omega)) h)
    have c2:(S.take (i + 1)).countP (fun x=>decide (x≤v))≤S.countP fun x=>decide (x≤v):=List.Sublist.countP_le (List.take_sublist _ _)
    rw [c1,List.length_take] at c2
    omega
  · intro h
    rcases Int.lt_or_le v S[i] with z | z
    · exfalso
      have c1:(S.drop i).countP (fun x=>decide (x≤v))=0:=by
        rw [List.countP_eq_zero]
        intro x hx
        obtain ⟨m,hm,rfl⟩:=List.mem_iff_getElem.mp hx
        rw [List.length_drop] at hm
        rw [List.getElem_drop]
        have:=mono i (i + m) hi (by omega) (by omega)
        simp;omega
      have c2:S.countP (fun x=>decide (x≤v))=(S.take i).countP (fun x=>decide (x≤v)) + (S.drop i).countP (fun x=>decide (x≤v)):=by rw [← List.countP_append,List.take_append_drop]
      have c3:(S.take i).countP (fun x=>decide (x≤v))≤(S.take i).length:=List.countP_le_length
      rw [List.length_take] at c3
      omega
    · exact z
end L2
namespace L2
open PySem PySem.Spec PyProof.Rows MwSet
def SeqV (H:Hp)(p:Addr)(xs:List V):Prop:=H p=some (.tup xs) ∨ H p=some (.lst xs)
theorem SeqV.same {H H':Hp}{p:Addr}{xs:List V}(h:SeqV H p xs)(s:Same H H'):SeqV H' p xs:=h.imp (s _ _) (s _ _)
theorem SeqV.len {K:PySem.W.Frag}{H:Hp}{p:Addr}{xs:List V}(h:SeqV H p xs):LenV K (.ref p) H xs.length:=h.elim (fun e=>.inr ⟨_,SqT.of e,rfl⟩) fun e=>.inl ⟨_,SqL.of e,rfl⟩
theorem for_seqV {K:PySem.W.Frag}{a:Addr}{xs:List V}{tl:TE}{g:TG}{tb:TS}{D:Ends}{σ:St}{H H1:Hp}(htl:∀ k:VK,k (.ref a) H1→tl σ H k)(hp:SeqV H1 a xs)(Pv:Nat→St→Hp→Prop)(h0:Pv 0 σ H1)(hl:∀ i σ' H',i≤xs.length → Pv i σ' H'→SeqV H1 a xs→H' a=H1 a)
    (hs:∀ i x σ' H',xs[i]? = some x→Pv i σ' H'→g x σ' H' fun σ2 H2=>tb { D with nx:=Pv (i + 1),ct:=Pv (i + 1),bk:=D.nx } σ2 H2) (hd:∀ σ' H',Pv xs.length σ' H'→D.nx σ' H') :
    tFor (fun σ H R=>iList K tl σ H R ∨ iTup K tl σ H R) g tb D σ H:=by
  rcases hp with e | e
  · exact Or.inr (htl _ ⟨a,rfl,⟨_,SqT.of e⟩,for_tup (xs:=xs) Pv h0 (fun i σ' H' hi p=>SqT.of (by rw [hl i σ' H' hi p (.inl e)];exact e)) hs hd⟩)
  · exact Or.inl (htl _ ⟨a,rfl,⟨_,SqL.of e⟩,for_list (xs:=xs) Pv h0 (fun i σ' H' hi p=>SqL.of (by rw [hl i σ' H' hi p (.inr e)];exact e)) hs hd⟩)
theorem int_at {ns:List Int}{i:Nat}{x:V}(h:(ns.map V.int)[i]? = some x):∃ n,ns[i]? = some n∧x = .int n:=by
  rw [List.getElem?_map] at h
  cases e:ns[i]? with
  | none=>rw [e] at h;cases h
  | some n=>rw [e] at h;exact ⟨n,rfl,(Option.some.inj h).symm⟩
end L2
namespace L2
open PySem PySem.Spec PyProof.Rows
theorem comp_seqV {K:PySem.W.Frag}{a:Addr}{xs:List V}{tl:TE}{σ:St}{H H1:Hp}{one:V→Hp→(Option V→Hp→Prop)→Prop}{Q:List V→Hp→Prop}(htl:∀ k:VK,k (.ref a) H1→tl σ H k)(hp:SeqV H1 a xs)(Pv:Nat→List V→Hp→Prop)(h0:Pv 0 [] H1)(hn:xs.length ≤ sizeLine)
    (hl:∀ i ys H',i≤xs.length → Pv i ys H'→H' a=H1 a) (hs:∀ i x ys H',xs[i]? = some x→Pv i ys H'→one x H' fun o H2=>Pv (i + 1) (ys ++ o.toList) H2) (hd:∀ ys H',Pv xs.length ys H'→Q ys H') :
    iList K tl σ H (fun J H2=>CompW J H2 one Q) ∨ iTup K tl σ H (fun J H2=>CompW J H2 one Q):=by
  rcases hp with e | e
  · exact Or.inr (htl _ ⟨a,rfl,⟨_,SqT.of e⟩,compW_tup (xs:=xs) Pv h0 hn (fun i ys H' hi p=>SqT.of (by rw [hl i ys H' hi p];exact e)) hs hd⟩)
  · exact Or.inl (htl _ ⟨a,rfl,⟨_,SqL.of e⟩,compW_list (xs:=xs) Pv h0 hn (fun i ys H' hi p=>SqL.of (by rw [hl i ys H' hi p];exact e)) hs hd⟩)
theorem cell_at {r:List (Option Int)}{i:Nat}{x:V}(h:(r.map cellV)[i]? = some x):∃ c,r[i]? = some c∧x=cellV c:=by
  rw [List.getElem?_map] at h
  cases e:r[i]? with
  | none=>rw [e] at h;cases h
  | some c=>rw [e] at h;exact ⟨c,rfl,(Option.some.inj h).symm⟩
end L2
namespace L2
open PySem PySem.Spec PyProof.Rows
def numsAt (F:List (List (Option Int)))(ru:Rule)(u d l r:Nat)(i j:Int):List Int:=(wc F ru u d l r i j).filterMap id
def filAt (F:List (List (Option Int)))(ru:Rule)(u d l r:Nat)(a b:Int)(i j:Int):Option Int:=manieth (numsAt F ru u d l r i j) a b
def wideF (F:List (List (Option Int))):Nat:=(F.headD []).length
def fil (F:List (List (Option Int)))(ru:Rule)(u d l r:Nat)(a b:Int):List (List (Option Int)):=(List.range F.length).map fun i:Nat=>(List.range (wideF F)).map fun j:Nat=>filAt F ru u d l r a b (i:Int) (j:Int)
theorem fil_len (F:List (List (Option Int)))(ru:Rule)(u d l r:Nat)(a b:Int):(fil F ru u d l r a b).length=F.length:=by unfold fil;simp
theorem fil_row {F:List (List (Option Int))}{ru:Rule}{u d l r:Nat}{a b:Int}{i:Nat}(hi:i < F.length):(fil F ru u d l r a b)[i]? = some ((List.range (wideF F)).map fun j:Nat=>filAt F ru u d l r a b (i:Int) (j:Int)):=by
  unfold fil
  rw [List.getElem?_map,List.getElem?_range hi];rfl
theorem fil_rows {F:List (List (Option Int))}{ru:Rule}{u d l r:Nat}{a b:Int}:∀ x∈fil F ru u d l r a b,x.length=wideF F:=fun x hx=>by
  obtain ⟨i,_,rfl⟩:=List.mem_map.mp hx
  simp
theorem fil_wide {F:List (List (Option Int))}(R:Rect F){ru:Rule}{u d l r:Nat}{a b:Int}:wideF (fil F ru u d l r a b)=wideF F:=by
  have e:=fil_row (ru:=ru) (u:=u) (d:=d) (l:=l) (r:=r) (a:=a) (b:=b) (i:=0) R.h1
  unfold wideF
  have:(fil F ru u d l r a b).headD []=(List.range (wideF F)).map fun j:Nat=>filAt F ru u d l r a b ((0:Nat):Int) (j:Int):=by
    cases h:fil F ru u d l r a b with
    | nil=>rw [h] at e;cases e
    | cons x l=>rw [h] at e;exact Option.some.inj e
  rw [this]
  simp [wideF]
theorem Rect.fil {F:List (List (Option Int))}(R:Rect F)(ru:Rule)(u d l r:Nat)(a b:Int):Rect (fil F ru u d l r a b):=by
  have ew:=fil_wide R (ru:=ru) (u:=u) (d:=d) (l:=l) (r:=r) (a:=a) (b:=b)
  unfold wideF at ew
  refine ⟨by rw [fil_len];exact R.h1,by rw [fil_len];exact R.hs,by rw [ew];exact R.w1,by rw [ew];exact R.ws,fun x hx=>?_⟩
  rw [ew]
  exact fil_rows x hx
end L2
namespace L2
open PySem PySem.Spec PyProof.Rows
def LeC:Option Int→Option Int→Prop
  | none,none=>True
  | some x,some y=>x≤y
  | _,_=>False
theorem LeC.refl:∀ c,LeC c c
  | none=>trivial
  | some x=>Int.le_refl x
inductive LeN:List Int→List Int→Prop
  | nil:LeN [] []
  | cons {x y:Int} {xs ys:List Int}:x≤y→LeN xs ys→LeN (x :: xs) (y :: ys)
inductive LeO:List (Option Int)→List (Option Int)→Prop
  | nil:LeO [] []
  | cons {x y:Option Int} {xs ys:List (Option Int)}:LeC x y→LeO xs ys→LeO (x :: xs) (y :: ys)
theorem LeN.len:∀ {xs ys:List Int},LeN xs ys→xs.length=ys.length
  | _,_,.nil=>rfl
  | _,_,.cons _ t=>by simp [t.len]
theorem LeN.count {xs ys:List Int}(h:LeN xs ys)(v:Int):ys.countP (fun x=>decide (x≤v))≤xs.countP fun x=>decide (x≤v):=by
  induction h with
  | nil=>exact Nat.le_refl _
  | @cons x y xs ys e t ih =>
    rw [List.countP_cons,List.countP_cons]
    by_cases z:y≤v
    · have z2:x≤v:=by omega
      rw [decide_eq_true z,decide_eq_true z2]
      simp only [if_true];omega
    · rw [decide_eq_false z]
      simp only [Bool.false_eq_true,if_false]
      omega
theorem LeO.append {a b:List (Option Int)}(h:LeO a b):∀ {c d:List (Option Int)},LeO c d→LeO (a ++ c) (b ++ d):=by
  induction h with
  | nil=>exact fun h=>h
  | cons e t ih=>exact fun h=>.cons e (ih h)
theorem LeO.flat (f g:Nat→List (Option Int)):∀ l:List Nat,(∀ k∈l,LeO (f k) (g k))→LeO (l.flatMap f) (l.flatMap g)
  | [],_=>.nil
  | k :: l,h=>by
    rw [List.flatMap_cons,List.flatMap_cons]
    exact (h k List.mem_cons_self).append (LeO.flat f g l fun x hx=>h x (List.mem_cons_of_mem _ hx))
theorem LeO.nums {a b:List (Option Int)}(h:LeO a b):LeN (a.filterMap id) (b.filterMap id):=by
  induction h with
  | nil=>exact .nil
  | @cons x y xs ys e t ih =>
    cases x with
    | none =>
      cases y with
      | none=>exact ih
      | some y=>exact e.elim
    | some x =>
      cases y with
      | none=>exact e.elim
      | some y=>exact .cons e ih
theorem rise_le {xs ys:List Int}(h:LeN xs ys){i:Nat}(hi:i < (sortI xs).length)(hj:i < (sortI ys).length):(sortI xs)[i]≤(sortI ys)[i]:=by
  have a:=(rise_count (sortI_rise ys) hj ((sortI ys)[i])).mp (Int.le_refl _)
  refine (rise_count (sortI_rise xs) hi ((sortI ys)[i])).mpr (Nat.lt_of_lt_of_le a ?_)
  rw [(sortI_perm ys).countP_eq,(sortI_perm xs).countP_eq]
  exact h.count _
theorem manieth_le {xs ys:List Int}(h:LeN xs ys)(a b:Int):LeC (manieth xs a b) (manieth ys a b):=by
  unfold manieth
  rw [h.len]
  generalize (placeOf ys.length a b).toNat=k
  have l1:=sortI_len xs
  have l2:=sortI_len ys
  have l3:=h.len
  by_cases z:k < ys.length
  · rw [List.getElem?_eq_getElem (show k < (sortI xs).length by omega),List.getElem?_eq_getElem (show k < (sortI ys).length by omega)]
    exact rise_le h _ _
  · rw [List.getElem?_eq_none (by omega),List.getElem?_eq_none (by omega)]
    exact trivial
structure LeF (F G:List (List (Option Int))):Prop where
  len:F.length=G.length
  wide:(F.headD []).length=(G.headD []).length
  cell:∀ i j:Int,0≤i→i < F.length → 0≤j→j < (F.headD []).length → LeC (cellAt F i j) (cellAt G i j)
theorem LeF.stands {F G:List (List (Option Int))}(R:Rect F)(h:LeF F G)(ru:Rule)(i j:Int):LeO (stands F ru i j) (stands G ru i j):=by
  have hin:inF F i j=inF G i j:=by unfold inF;rw [h.len,h.wide]
  have h1:=R.h1;have w1:=R.w1
  unfold L2.stands
  rw [← hin]
  cases e:inF F i j with
  | true =>
    rw [if_pos rfl,if_pos rfl]
    unfold inF at e
    simp only [Bool.and_eq_true,decide_eq_true_eq] at e
    exact .cons (h.cell i j e.1.1 e.1.2 e.2.1 e.2.2) .nil
  | false =>
    rw [if_neg Bool.false_ne_true,if_neg Bool.false_ne_true]
    have go:∀ ru:Rule,LeO [cellAt F (led ru i F.length) (led ru j (F.headD []).length)] [cellAt G (led ru i G.length) (led ru j (G.headD []).length)]:=fun ru=>by
      rw [← h.len,← h.wide]
      have li:=led_in ru i (n:=F.length) (by omega)
      have lj:=led_in ru j (n:=(F.headD []).length) (by omega)
      exact .cons (h.cell _ _ li.1 li.2 lj.1 lj.2) .nil
    cases ru with
    | there=>exact .nil
    | told c=>exact .cons (LeC.refl c) .nil
    | near=>exact go .near
    | turned=>exact go .turned
    | round=>exact go .round
theorem LeF.nums {F G:List (List (Option Int))}(R:Rect F)(h:LeF F G)(ru:Rule)(u d l r:Nat)(i j:Int):LeN (numsAt F ru u d l r i j) (numsAt G ru u d l r i j):=by
  unfold numsAt
  refine LeO.nums ?_
  unfold wc rowCells
  exact LeO.flat _ _ _ fun a _=>LeO.flat _ _ _ fun b _=>h.stands R ru _ _
theorem fil_cell {F:List (List (Option Int))}{ru:Rule}{u d l r:Nat}{a b:Int}{i j:Int}(i0:0≤i)(i1:i < F.length)(j0:0≤j)(j1:j < (F.headD []).length):cellAt (fil F ru u d l r a b) i j=filAt F ru u d l r a b i j:=by
  unfold cellAt
  rw [fil_row (by omega)]
  show (((List.range (wideF F)).map fun j:Nat=>filAt F ru u d l r a b ((i.toNat:Nat):Int) (j:Int))[j.toNat]?).join=_
  rw [List.getElem?_map,List.getElem?_range (show j.toNat < wideF F by unfold wideF;omega)]
  show filAt F ru u d l r a b ((i.toNat:Nat):Int) ((j.toNat:Nat):Int)=_
  rw [Int.toNat_of_nonneg i0,Int.toNat_of_nonneg j0]
theorem LeF.fil {F G:List (List (Option Int))}(R:Rect F)(R':Rect G)(h:LeF F G)(ru:Rule)(u d l r:Nat)(a b:Int):LeF (fil F ru u d l r a b) (fil G ru u d l r a b):=by
  have e1:=fil_wide R (ru:=ru) (u:=u) (d:=d) (l:=l) (r:=r) (a:=a) (b:=b)
  have e2:=fil_wide R' (ru:=ru) (u:=u) (d:=d) (l:=l) (r:=r) (a:=a) (b:=b)
  unfold wideF at e1 e2
  refine ⟨by rw [fil_len,fil_len];exact h.len,by rw [e1,e2];exact h.wide,fun i j i0 i1 j0 j1=>?_⟩
  rw [fil_len] at i1
  rw [e1] at j1
  rw [fil_cell i0 i1 j0 j1,fil_cell i0 (by rw [← h.len];exact i1) j0 (by rw [← h.wide];exact j1)]
  exact manieth_le (h.nums R ru u d l r i j) a b
theorem manieth_one (x a b:Int):manieth [x] a b=some x:=by
  unfold manieth
  have e:placeOf [x].length a b=0:=by unfold placeOf;simp
  rw [e]
  have l:=sortI_len [x]
  have m:(sortI [x])[0]'(by rw [l];exact Nat.one_pos)∈sortI [x]:=List.getElem_mem _
  rw [List.getElem?_eq_getElem (by rw [l];exact Nat.one_pos)]
  have:=mem_sortI.mp m
  rw [List.mem_singleton] at this
  show some ((sortI [x])[0]'_)=_
  rw [this]
theorem fil_one {F:List (List (Option Int))}(R:Rect F)(ru:Rule)(a b:Int):fil F ru 0 0 0 0 a b=F:=by
  refine List.ext_getElem (by rw [fil_len]) fun i h1 h2=>?_
  have e:=fil_row (F:=F) (ru:=ru) (u:=0) (d:=0) (l:=0) (r:=0) (a:=a) (b:=b) h2
  rw [List.getElem?_eq_getElem h1] at e
  rw [Option.some.inj e]
  have lr:F[i].length=wideF F:=R.row _ (List.getElem_mem _)
  refine List.ext_getElem (by simp [lr]) fun j h3 h4=>?_
  rw [List.getElem_map,List.getElem_range]
  have c:cellAt F (i:Int) (j:Int)=F[i][j]:=by
    unfold cellAt
    rw [Int.toNat_natCast,Int.toNat_natCast,List.getElem?_eq_getElem h2]
    show (F[i][j]?).join=_
    rw [List.getElem?_eq_getElem h4];rfl
  have w:wc F ru 0 0 0 0 (i:Int) (j:Int)=[F[i][j]]:=by
    unfold wc rowCells
    simp only [Nat.zero_add,List.range_one,List.flatMap_cons,List.flatMap_nil,List.append_nil]
    unfold stands
    have hj:j < wideF F:=by rw [← lr];exact h4
    unfold wideF at hj
    have e1:((i:Int) - ((0:Nat):Int) + ((0:Nat):Int))=i:=by omega
    have e2:((j:Int) - ((0:Nat):Int) + ((0:Nat):Int))=j:=by omega
    rw [e1,e2]
    have hin:inF F (i:Int) (j:Int)=true:=by
      unfold inF
      rw [decide_eq_true (by omega),decide_eq_true (by omega),decide_eq_true (by omega),decide_eq_true (by omega)];rfl
    rw [if_pos hin,c]
  unfold filAt numsAt
  rw [w]
  cases F[i][j] with
  | none=>exact manieth_nil a b
  | some x=>exact manieth_one x a b
theorem cellAt_nat {F:List (List (Option Int))}{i j:Nat}{x:List (Option Int)}{c:Option Int}(h:F[i]? = some x)(h2:x[j]? = some c):cellAt F (i:Int) (j:Int)=c:=by
  unfold cellAt
  rw [Int.toNat_natCast,Int.toNat_natCast,h]
  show (x[j]?).join=c
  rw [h2];rfl
def putC (F:List (List (Option Int)))(i j:Nat)(c:Option Int):List (List (Option Int)):=F.take i ++ [((F[i]?.getD []).take j ++ [c] ++ (F[i]?.getD []).drop (j + 1))] ++ F.drop (i + 1)
theorem putC_get {α:Type}(l:List α)(j:Nat)(c:α)(hj:j < l.length)(k:Nat):(l.take j ++ [c] ++ l.drop (j + 1))[k]? = if k=j then some c else l[k]?:=by
  rcases Nat.lt_trichotomy k j with z | z | z
  · rw [if_neg (by omega),List.append_assoc,List.getElem?_append_left (by rw [List.length_take];omega),List.getElem?_take,if_pos z]
  · subst z
    rw [if_pos rfl,List.append_assoc,List.getElem?_append_right (by rw [List.length_take];omega),List.length_take,Nat.min_eq_left (by omega),Nat.sub_self]
    rfl
  · rw [if_neg (by omega),List.getElem?_append_right (by rw [List.length_append,List.length_take];show min j l.length + 1≤k;omega),List.getElem?_drop,List.length_append,List.length_take]
    show l[j + 1 + (k - (min j l.length + 1))]? = _
    congr 1;omega
theorem putC_len {α:Type}(l:List α)(j:Nat)(c:α)(hj:j < l.length):(l.take j ++ [c] ++ l.drop (j + 1)).length=l.length:=by
  rw [List.length_append,List.length_append,List.length_take,List.length_drop]
  show min j l.length + 1 + _=_
  omega
theorem head_get (F:List (List (Option Int)))(h:1≤F.length):F[0]? = some (F.headD []):=by
  cases F with
  | nil=>simp at h
  | cons x l=>rfl
theorem putC_rect {F:List (List (Option Int))}(R:Rect F){i j:Nat}(hi:i < F.length)(hj:j < (F.headD []).length)(c:Option Int):Rect (putC F i j c)∧(putC F i j c).length=F.length ∧ ((putC F i j c).headD []).length=(F.headD []).length:=by
  have er:F[i]?.getD []=F[i]:=by rw [List.getElem?_eq_getElem hi];rfl
  have lr:F[i].length=(F.headD []).length:=R.row _ (List.getElem_mem _)
  have L:(putC F i j c).length=F.length:=putC_len F i _ hi
  have rows:∀ x∈putC F i j c,x.length=(F.headD []).length:=fun x hx=>by
    obtain ⟨k,hk⟩:=List.mem_iff_getElem?.mp hx
    have:=putC_get F i ((F[i]?.getD []).take j ++ [c] ++ (F[i]?.getD []).drop (j + 1)) hi k
    unfold putC at hk
    rw [this] at hk
    by_cases z:k=i
    · rw [if_pos z] at hk
      rw [← Option.some.inj hk,er,putC_len _ _ _ (by omega)]
      exact lr
    · rw [if_neg z] at hk
      exact R.row _ (List.mem_of_getElem? hk)
  have h1:=R.h1
  have W:((putC F i j c).headD []).length=(F.headD []).length:=rows _ (List.mem_of_getElem? (head_get _ (by omega)))
  exact ⟨⟨by rw [L];exact R.h1,by rw [L];exact R.hs,by rw [W];exact R.w1,by rw [W];exact R.ws,fun x hx=>by rw [W];exact rows x hx⟩,L,W⟩
end L2
namespace L2
open PySem PySem.Spec PyProof.Rows
end L2
namespace L2
open PySem PySem.Spec PyProof.Rows
end L2
namespace L2
open PySem PySem.Spec PyProof.Rows
end L2
namespace L2
open PySem PySem.Spec PyProof.Rows
end L2
namespace L2
open PySem PySem.Spec PyProof.Rows
end L2
namespace L2
open PySem PySem.Spec PyProof.Rows
def RawM (K:PySem.W.Frag)(C:Addr)(m qual:Str)(ps:List Str)(st:Stmt):Prop:=∃ f fd,Meth K C m f∧Fun K m qual st f fd∧Binds K fd ps []
def RawI (K:PySem.W.Frag) (C:Addr) (qual:Str) (ps:List Str) (st:Stmt):Prop:=∃ f fd,Mk K C f∧Fun K "__init__" qual st f fd∧Binds K fd ps []
def DfM (P:Program)(w:World)(K:PySem.W.Frag)(mg:Str→Option Value)(base:Heap)(k:Nat)(C:Addr)(m:Str)(ps:List Str)(sp:Sp):Prop :=
  ∃ (f:Addr) (fd:FuncData),FnOk P w K mg base CX0 k f fd ps sp∧Meth K C m f∧Binds K fd ps []∧∃ qual st,Fun K m qual st f fd
def DfI (P:Program)(w:World)(K:PySem.W.Frag)(mg:Str→Option Value)(base:Heap)(k:Nat)(C:Addr)(ps:List Str)(sp:Sp):Prop :=
  ∃ (f:Addr) (fd:FuncData),FnOk P w K mg base CX0 k f fd ps sp∧Mk K C f∧Binds K fd ps []∧∃ qual st,Fun K "__init__" qual st f fd
section
variable {P:Program}{w:World}{K:PySem.W.Frag}{mg:Str→Option Value}{base:Heap}
theorem RawM.ok {C:Addr}{m qual:Str}{ps N:List Str}{st:Stmt}{k:Nat}{sp:Sp}(R:RawM K C m qual ps st)(S:FnScope N ps (defScope st))(len:∀ vs H Q E,sp vs H Q E→vs.length=ps.length)
    (hbody:∀ (f:Addr) (cdv:Value) (A:Around) (outer:List Env) (s:Shared) (H:Hp) (vs:List V) (Q:VK) (E:XK),Room k (A.deeper (envOfC qual (defScope st) s.heap.objs.size f cdv))→sp vs H Q E →
      ∃ t,PSs (cxOf CX0 P w K mg base N qual (defScope st) f cdv A outer s H E).nox (defBody st) t∧t { nx:=fun _ H'=>Q .non H',rt:=Q } (start N vs) H):DfM P w K mg base (k + 1) C m ps sp:=by
  obtain ⟨f,fd,M,F,b⟩:=R
  exact ⟨f,fd,F.ok S len (fun cdv A outer s H vs Q E hr h=>hbody f cdv A outer s H vs Q E hr h),M,b,_,_,F⟩
theorem RawI.ok {C:Addr}{qual:Str}{ps N:List Str}{st:Stmt}{k:Nat}{sp:Sp}(R:RawI K C qual ps st)(S:FnScope N ps (defScope st))(len:∀ vs H Q E,sp vs H Q E→vs.length=ps.length)
    (hbody:∀ (f:Addr) (cdv:Value) (A:Around) (outer:List Env) (s:Shared) (H:Hp) (vs:List V) (Q:VK) (E:XK),Room k (A.deeper (envOfC qual (defScope st) s.heap.objs.size f cdv))→sp vs H Q E →
      ∃ t,PSs (cxOf CX0 P w K mg base N qual (defScope st) f cdv A outer s H E).nox (defBody st) t∧t { nx:=fun _ H'=>Q .non H',rt:=Q } (start N vs) H):DfI P w K mg base (k + 1) C ps sp:=by
  obtain ⟨f,fd,M,F,b⟩:=R
  exact ⟨f,fd,F.ok S len (fun cdv A outer s H vs Q E hr h=>hbody f cdv A outer s H vs Q E hr h),M,b,_,_,F⟩
end
section
variable {X:Cx}{k:Nat}{C:Addr}{m:Str}{ps:List Str}{sp:Sp}{o e:Expr}{es:List Expr}{ta:TE}{t:TA}{apos pos:Pos}
theorem pe_mt {pl:Sem Bool}(D:DfM X.prog X.w X.K X.mg X.base k C m ps sp)(c:Cls X.K C)(hr:Room k X.A)(he:PE X o ta)(ha:PA X (e :: es) t)
    (hst:starEach (e :: es) X.env=(false,eval e X.env) :: starEach es X.env:=by rfl) (hpl:(backTo pos (starEach es X.env)).any (·.1)=false:=by rfl)
    (ht:eval (.Call (.Attribute o m apos) (e :: es) [] pos) X.env=(do
      let ov ← eval o X.env
      standAt apos.atName
      let (f,first) ← holding [ov] (getMethod ov m pl)
      callWith pos f first (backTo pos (starEach (e :: es) X.env)) (backToKw pos (keywordEach [] X.env))):=by rfl) :
    PE X (.Call (.Attribute o m apos) (e :: es) [] pos) (tMeth C m sp [] E0 ta t):=by
  obtain ⟨f,fd,F,M,b,_⟩:=D
  exact pe_meth (pl:=pl) he c M F hr b .nil pass0 ha hst hpl ht
theorem pe_mt0 {pl:Sem Bool}(D:DfM X.prog X.w X.K X.mg X.base k C m ps sp)(c:Cls X.K C)(hr:Room k X.A)(he:PE X o ta)
    (ht:eval (.Call (.Attribute o m apos) [] [] pos) X.env=(do
      let ov ← eval o X.env
      standAt apos.atName
      let (f,first) ← holding [ov] (getMethod ov m pl)
      callWith pos f first (backTo pos (starEach [] X.env)) (backToKw pos (keywordEach [] X.env))):=by rfl) :
    PE X (.Call (.Attribute o m apos) [] [] pos) (tMeth C m sp [] E0 ta tNil):=by
  obtain ⟨f,fd,F,M,b,_⟩:=D
  exact pe_meth0 (pl:=pl) he c M F hr b .nil pass0 ht
theorem pe_new {x:Str}{p:Pos}(D:DfI X.prog X.w X.K X.mg X.base k C ps sp)(hr:Room (k + 1) X.A)(hm:X.mg x=some (.ref C))(ha:PA X (e :: es) t)(hg:Gl X x:=by rfl)
    (hdb:(x == ("__debug__" : Str))=false:=by decide) (he:starEach (e :: es) X.env=(false,eval e X.env) :: starEach es X.env:=by rfl) (hpl:(backTo pos (starEach es X.env)).any (·.1)=false:=by rfl) :
    PE X (.Call (.Name x p) (e :: es) [] pos) (tMake C sp [] E0 t):=by
  obtain ⟨f,fd,F,M,b,_⟩:=D
  exact pe_make M F hr hg hm b .nil pass0 ha hdb he hpl
theorem pe_fldK {K:PySem.W.Frag}{f:Str}(h:X.K=K)(he:PE X o ta)(hb:attributeBase o f X.env (eval o X.env)=eval o X.env):PE X (.Attribute o f pos) (tFld K ta f):=by subst h;exact pe_fld he hb
end
end L2
namespace L2
open PySem PySem.Spec PyProof.Rows
end L2
namespace L2
open PySem PySem.Spec PyProof.Rows
theorem inF_iffW {F:List (List (Option Int))}{i j:Int}:inF F i j=true↔(0≤i∧i < F.length)∧(0≤j∧j < wideF F):=by
  unfold inF wideF
  simp [Bool.and_eq_true,and_assoc]
end L2
namespace L2
open PySem PySem.Spec PyProof.Rows
theorem putC_cell {F:List (List (Option Int))}(R:Rect F){i j:Nat}(hi:i < F.length)(hj:j < (F.headD []).length)(c:Option Int){x y:Int}(h:inF F x y=true):cellAt (putC F i j c) x y=if x=i∧y=j then c else cellAt F x y:=by
  obtain ⟨⟨x0,x1⟩,y0,y1⟩:=inF_iffW.mp h
  have er:F[i]?.getD []=F[i]:=by rw [List.getElem?_eq_getElem hi];rfl
  have lr:F[i].length=(F.headD []).length:=R.row _ (List.getElem_mem _)
  have y1':y < (F.headD []).length:=y1
  obtain ⟨x,rfl⟩:∃ n:Nat,x=n:=⟨x.toNat,by omega⟩
  obtain ⟨y,rfl⟩:∃ n:Nat,y=n:=⟨y.toNat,by omega⟩
  have hx:x < F.length:=by omega
  have g:=putC_get F i ((F[i]?.getD []).take j ++ [c] ++ (F[i]?.getD []).drop (j + 1)) hi x
  by_cases z:x=i
  · subst z
    rw [if_pos rfl,er] at g
    have g2:=putC_get F[x] j c (by omega) y
    by_cases z2:y=j
    · subst z2
      rw [if_pos rfl] at g2
      rw [if_pos ⟨rfl,rfl⟩]
      exact cellAt_nat (by unfold putC;rw [er];exact g) g2
    · rw [if_neg z2,List.getElem?_eq_getElem (show y < F[x].length by omega)] at g2
      rw [if_neg (by omega)]
      have e1:cellAt (putC F x j c) (x:Int) (y:Int)=F[x][y]'(by omega):=cellAt_nat (by unfold putC;rw [er];exact g) g2
      have e2:cellAt F (x:Int) (y:Int)=F[x][y]'(by omega):=cellAt_nat (List.getElem?_eq_getElem hx) (List.getElem?_eq_getElem (by omega))
      rw [e1,e2]
  · rw [if_neg z,List.getElem?_eq_getElem hx] at g
    rw [if_neg (by omega)]
    have lx:F[x].length=(F.headD []).length:=R.row _ (List.getElem_mem _)
    have e1:cellAt (putC F i j c) (x:Int) (y:Int)=F[x][y]'(by omega):=cellAt_nat (by unfold putC;exact g) (List.getElem?_eq_getElem (by omega))
    have e2:cellAt F (x:Int) (y:Int)=F[x][y]'(by omega):=cellAt_nat (List.getElem?_eq_getElem hx) (List.getElem?_eq_getElem (by omega))
    rw [e1,e2]
end L2
namespace L2
open PySem PySem.Spec PyProof.Rows
def TopT (K:PySem.W.Frag) (p:Addr) (xs:List V):Prop:=∃ (o:Obj) (its:Array Value) (n:Nat),K.lookup p=some o∧o.cls = .type "tuple"∧o.data = .seq its n∧its.size ≤ sizeLine∧Vals xs its.toList
theorem TopT.sq {K:PySem.W.Frag}{H:Hp}{p:Addr}{xs:List V}(h:TopT K p xs):SqT K H p xs:=.inr h
def Shr (K:PySem.W.Frag)(H:Hp)(sv:V)(a b:Int):Prop:=∃ p,sv = .ref p∧(H p=some (.tup [.int a,.int b]) ∨ TopT K p [.int a,.int b])
theorem Shr.keep {K:PySem.W.Frag}{H H':Hp}{sv:V}{a b:Int}(h:Shr K H sv a b)(k:KeepT H H'):Shr K H' sv a b:=by
  obtain ⟨p,e,h⟩:=h
  exact ⟨p,e,h.imp (k _ _) id⟩
theorem Shr.of {K:PySem.W.Frag}{H:Hp}{sv:V}{a b:Int}(h:IsD H sv (placeD (a,b))):Shr K H sv a b:=by
  obtain ⟨p,e,h⟩:=isPlace_inv h
  exact ⟨p,e,.inl h⟩
theorem shr_sq {K:PySem.W.Frag}{H:Hp}{p:Addr}{xs:List V}(h:H p=some (.tup xs) ∨ TopT K p xs):SqT K H p xs:=h.elim SqT.of TopT.sq
end L2
namespace L2
open PySem PySem.Spec PyProof.Rows
structure Dk (H:Hp)(d c:Addr)(n:Nat):Prop where
  ne:d≠c
  at_:∃ (ns:List Int) (a t:Int),H d=some (.lst [.ref c,.int a,.int t])∧H c=some (.lst (ns.map V.int))∧1≤ns.length ∧ ns.length ≤ 64∧0≤t∧t≤n
theorem Dk.mono {H:Hp}{d c:Addr}{n m:Nat}(D:Dk H d c n)(h:n≤m):Dk H d c m:=by
  obtain ⟨ne,ns,a,t,h1,h2,h3,h4,h5,h6⟩:=D
  exact ⟨ne,ns,a,t,h1,h2,h3,h4,h5,by omega⟩
theorem Dk.keep {H H':Hp}{d c:Addr}{n:Nat}(D:Dk H d c n)(s:Same H H'):Dk H' d c n:=by
  obtain ⟨ne,ns,a,t,h1,h2,h3⟩:=D
  exact ⟨ne,ns,a,t,s _ _ h1,s _ _ h2,h3⟩
theorem Dk.upd {H:Hp}{d c p:Addr}{n:Nat}{o:HO}(D:Dk H d c n)(hp:H p=none):Dk (upd H p o) d c n:=D.keep (same_upd hp)
theorem Dk.nd {H:Hp}{d c p:Addr}{n:Nat}(D:Dk H d c n)(hp:H p=none):p≠d∧p≠c:=by
  obtain ⟨_,ns,a,t,h1,h2,_⟩:=D
  exact ⟨(ne_of_none h1 hp).symm,(ne_of_none h2 hp).symm⟩
def K2 (d c:Addr)(H H':Hp):Prop:=∀ b o,H b=some o→b≠d→b≠c→H' b=some o
theorem K2.refl (d c:Addr)(H:Hp):K2 d c H H:=fun _ _ e _ _=>e
theorem K2.trans {d c:Addr}{H H1 H2:Hp}(a:K2 d c H H1)(b:K2 d c H1 H2):K2 d c H H2:=fun x o e n m=>b x o (a x o e n m) n m
theorem Same.k2 {H H':Hp}(s:Same H H')(d c:Addr):K2 d c H H':=fun b o e _ _=>s b o e
theorem K2.upd {d c p:Addr}{H H1:Hp}{o:HO}(a:K2 d c H H1)(hp:H1 p=none):K2 d c H (upd H1 p o):=a.trans ((same_upd hp).k2 d c)
theorem K2.tups {d c:Addr}{H H':Hp}{n:Nat}(k:K2 d c H H')(D:Dk H d c n):KeepT H H':=fun b xs e=>by
  obtain ⟨_,ns,a,t,h1,h2,_⟩:=D
  exact k b _ e (ne_of e h1 fun z=>by cases z) (ne_of e h2 fun z=>by cases z)
theorem K2.old {d c:Addr}{H H0 H':Hp}(k:K2 d c H0 H')(s:Same H H0)(nd:H d=none)(nc:H c=none):Same H H':=fun b o e=>k b o (s b o e) (ne_of_none e nd) (ne_of_none e nc)
end L2
namespace L2
open PySem PySem.Spec PyProof.Rows
theorem share01:Share 0 1:=⟨by decide,by decide,by decide,by decide⟩
theorem share11:Share 1 1:=⟨by decide,by decide,by decide,by decide⟩
end L2
namespace L2
open PySem
variable {rest es:List Expr}{env:Env}{p:Pos}{a b c:Expr}
theorem star_tup {x}:starEach (Expr.Tuple es x p :: rest) env=(false,eval (.Tuple es x p) env) :: starEach rest env:=by rfl
theorem star_sub:starEach (Expr.Subscript a b p :: rest) env=(false,eval (.Subscript a b p) env) :: starEach rest env:=by rfl
theorem star_call {ks}:starEach (Expr.Call a es ks p :: rest) env=(false,eval (.Call a es ks p) env) :: starEach rest env:=by rfl
theorem star_bin {o}:starEach (Expr.BinOp a o b p :: rest) env=(false,eval (.BinOp a o b p) env) :: starEach rest env:=by rfl
theorem star_comp {g s}:starEach (Expr.ListComp a g s p :: rest) env=(false,eval (.ListComp a g s p) env) :: starEach rest env:=by rfl
end L2
set_option maxHeartbeats 2000000
namespace MwSet
open PySem PyProof.Rows
def Mk3 (m:Nat):Prop:=m=7 ∨ m=31 ∨ m=127
def lcg (m:Nat):Nat→Nat→Nat
  | 0,i=>i
  | n + 1,i=>lcg m n ((i * 5 + 1) % (m + 1))
theorem lcg_add (m:Nat):∀ (a b i:Nat),lcg m (a + b) i=lcg m b (lcg m a i)
  | 0,b,i=>by rw [Nat.zero_add];rfl
  | a + 1,b,i=>by rw [Nat.succ_add];exact lcg_add m a b _
def lcgHas (m:Nat)(e:Nat):Nat→Nat→Bool
  | 0,_=>false
  | n + 1,i=>(i == e) || lcgHas m e n ((i * 5 + 1) % (m + 1))
theorem lcgHas_ok {m e:Nat}:∀ {n i:Nat},lcgHas m e n i=true→∃ k,k < n∧lcg m k i=e
  | 0,i,h=>by cases h
  | n + 1,i,h=>by
    unfold lcgHas at h
    rcases Bool.or_eq_true _ _ |>.mp h with h | h
    · exact ⟨0,Nat.succ_pos n,by simpa [lcg] using h⟩
    · obtain ⟨k,hk,e⟩:=lcgHas_ok h
      exact ⟨k + 1,Nat.succ_lt_succ hk,e⟩
theorem lcg_all:((List.range 8).all fun e=>lcgHas 7 e 8 0)=true∧((List.range 32).all fun e=>lcgHas 31 e 32 0)=true∧((List.range 128).all fun e=>lcgHas 127 e 128 0)=true:=by decide +kernel
theorem lcg_back {m:Nat}(hm:Mk3 m):lcg m (m + 1) 0=0:=by rcases hm with rfl | rfl | rfl <;> decide +kernel
theorem lcg_from {m e:Nat}(hm:Mk3 m)(he:e≤m):∃ k,k < m + 1∧lcg m k 0=e:=by
  obtain ⟨a,b,c⟩:=lcg_all
  rcases hm with rfl | rfl | rfl
  · exact lcgHas_ok (List.all_eq_true.mp a e (List.mem_range.mpr (by omega)))
  · exact lcgHas_ok (List.all_eq_true.mp b e (List.mem_range.mpr (by omega)))
  · exact lcgHas_ok (List.all_eq_true.mp c e (List.mem_range.mpr (by omega)))
theorem lcg_to {m i e:Nat}(hm:Mk3 m)(hi:i≤m)(he:e≤m):∃ k,k≤m∧lcg m k i=e:=by
  obtain ⟨a,ha,ea⟩:=lcg_from hm hi
  obtain ⟨b,hb,eb⟩:=lcg_from hm he
  rcases Nat.lt_or_ge b a with z | z
  · refine ⟨b + (m + 1) - a,by omega,?_⟩
    rw [← ea,← lcg_add,show a + (b + (m + 1) - a)=(m + 1) + b by omega,lcg_add,lcg_back hm]
    exact eb
  · refine ⟨b - a,by omega,?_⟩
    rw [← ea,← lcg_add,show a + (b - a)=b by omega]
    exact eb
def lps (m:Nat):Nat→Nat→Nat→Nat
  | 0,i,_=>i
  | n + 1,i,p=>lps m n ((i * 5 + 1 + p / 32) % (m + 1)) (p / 32)
theorem lps_zero (m:Nat):∀ (n i:Nat),lps m n i 0=lcg m n i
  | 0,i=>rfl
  | n + 1,i=>by
    show lps m n ((i * 5 + 1 + 0 / 32) % (m + 1)) (0 / 32)=lcg m n ((i * 5 + 1) % (m + 1))
    rw [Nat.zero_div,Nat.add_zero]
    exact lps_zero m n _
theorem lps_add (m:Nat):∀ (a b i p:Nat),lps m (a + b) i p=lps m b (lps m a i p) (p / 32 ^ a)
  | 0,b,i,p=>by rw [Nat.zero_add,Nat.pow_zero,Nat.div_one];rfl
  | a + 1,b,i,p=>by
    rw [Nat.succ_add]
    show lps m (a + b) _ (p / 32)=lps m b (lps m a _ (p / 32)) _
    rw [lps_add m a b,Nat.div_div_eq_div_mul,← Nat.pow_succ']
theorem lps_le {m:Nat}:∀ (n i p:Nat),i≤m→lps m n i p≤m
  | 0,i,p,h=>h
  | n + 1,i,p,h=>lps_le n _ _ (Nat.le_of_lt_succ (Nat.mod_lt _ (Nat.succ_pos m)))
theorem lps_to {m i e p:Nat}(hm:Mk3 m)(hi:i≤m)(he:e≤m)(hp:p < 2 ^ 64):∃ k,k≤m + 13∧lps m k i p=e:=by
  obtain ⟨k,hk,ek⟩:=lcg_to hm (lps_le 13 i p hi) he
  refine ⟨13 + k,by omega,?_⟩
  rw [lps_add,Nat.div_eq_of_lt (Nat.lt_trans hp (by decide)),lps_zero]
  exact ek
theorem bits_lt (h:Int):SetTable.bits h < 2 ^ 64:=by
  unfold SetTable.bits
  have h1:=Int.emod_lt_of_pos h (show (0:Int) < 2 ^ 64 by decide)
  have h2:=Int.emod_nonneg h (show (2 ^ 64:Int)≠0 by decide)
  omega
theorem runEnd_le (m i:Nat):SetTable.runEnd m i - i≤9∧i≤SetTable.runEnd m i:=by
  unfold SetTable.runEnd
  split <;> omega
theorem go_finds {t:SetTable}{f:Nat→Int}{h:Int}(hd:∀ j,t.slot j≠.dummy)(hl:∀ j i,t.slot j = .live i→f i≠h) :
    ∀ (fuel n:Nat) (p:SetTable.Probe),p.dummy=none→p.more ≤ 9→t.slot (lps t.mask n p.i p.perturb) = .empty → (n=0→p.j=p.i ∧ 1≤fuel)→(1≤n→p.more + 10 * n≤fuel + 8) →
    ∃ j,SetTable.probe.go t f h fuel p=some (.empty j none)∧t.slot j = .empty
  | 0,n,p,h1,h2,h3,h4,h5=>by
    rcases Nat.eq_zero_or_pos n with z | z
    · have:=(h4 z).2;omega
    · have:=h5 z;omega
  | fuel + 1,n,p,h1,h2,h3,h4,h5=>by
    unfold SetTable.probe.go
    cases e:t.slot p.j with
    | empty=>exact ⟨p.j,by rw [h1],e⟩
    | dummy=>exact absurd e (hd _)
    | live i =>
      dsimp only
      rw [if_neg (by simpa using hl _ _ e)]
      have hn:1≤n:=by
        rcases Nat.eq_zero_or_pos n with z | z
        · subst z
          have q:t.slot p.i = .empty:=h3
          rw [← (h4 rfl).1,e] at q
          cases q
        · exact z
      have h5':=h5 hn
      unfold SetTable.advance
      by_cases hm:p.more > 0
      · rw [if_pos hm]
        exact go_finds hd hl fuel n _ h1 (by show p.more - 1≤9;omega) h3 (fun z=>by omega) fun _=>by show p.more - 1 + 10 * n≤fuel + 8;omega
      · rw [if_neg hm]
        obtain ⟨k,rfl⟩:∃ k,n=k + 1:=⟨n - 1,by omega⟩
        have hr:=(runEnd_le t.mask ((p.i * 5 + 1 + p.perturb / 32) % (t.mask + 1))).1
        refine go_finds hd hl fuel k _ h1 hr h3 (fun z=>⟨rfl,by omega⟩) fun z=>?_
        show SetTable.runEnd t.mask ((p.i * 5 + 1 + p.perturb / 32) % (t.mask + 1)) - (p.i * 5 + 1 + p.perturb / 32) % (t.mask + 1) + 10 * k≤fuel + 8
        omega
theorem pig:∀ (n:Nat) (l:List Nat),l.length < n→∃ e,e < n∧e ∉ l
  | 0,l,h=>absurd h (Nat.not_lt_zero _)
  | n + 1,l,h=>by
    by_cases z:n∈l
    · obtain ⟨e,he,hl⟩:=pig n (l.erase n) (by rw [List.length_erase_of_mem z];have:=List.length_pos_of_mem z;omega)
      exact ⟨e,by omega,fun y=>hl ((List.mem_erase_of_ne (by omega)).mpr y)⟩
    · exact ⟨n,Nat.lt_succ_self n,z⟩
theorem slot_cases {t:SetTable}(hd:t.dummies = #[])(j:Nat):(t.slot j = .live (SetTable.below t.place j)∧t.place[SetTable.below t.place j]? = some j) ∨ (t.slot j = .empty ∧ t.place[SetTable.below t.place j]?≠some j):=by
  unfold SetTable.slot
  dsimp only
  by_cases z:t.place[SetTable.below t.place j]? = some j
  · left
    rw [z]
    exact ⟨by simp,rfl⟩
  · right
    refine ⟨?_,z⟩
    have e:(t.place[SetTable.below t.place j]? == some j)=false:=by simpa using z
    have e2:SetTable.has t.dummies j=false:=by rw [hd];simp [SetTable.has]
    rw [e,e2]
    rfl
structure GoodT (b:Bool)(t:SetTable)(n:Nat):Prop where
  mk3:Mk3 t.mask
  dm:t.dummies = #[]
  rs:Rs t.place
  sz:t.place.size=n
  room:n * 5 < t.mask * 3
  led:t.led = !b
  plain:t.plain=true
theorem GoodT.fits {b:Bool}{t:SetTable}{n:Nat}(g:GoodT b t n):t.fits n=true:=by
  have:=g.room
  unfold SetTable.fits SetTable.fill
  rw [g.dm,g.sz]
  simp
  omega
theorem GoodT.odd {b:Bool}{t:SetTable}{n:Nat}(g:GoodT b t n):t.gaveWay=false:=by
  unfold SetTable.gaveWay
  rcases g.mk3 with e | e | e <;> rw [e] <;> rfl
theorem GoodT.finds {b:Bool}{t:SetTable}{n:Nat}(g:GoodT b t n){f:Nat→Int}{h:Int}(hl:∀ i,i < n→f i≠h):∃ j,t.probe f h (t.probeStart h)=some (.empty j none)∧t.place[SetTable.below t.place j]?≠some j:=by
  have hr:=g.room
  obtain ⟨e,he,hn⟩:=pig (t.mask + 1) t.place.toList (by rw [Array.length_toList,g.sz];omega)
  have se:t.slot e = .empty:=by
    rcases slot_cases g.dm e with ⟨_,z⟩ | ⟨z,_⟩
    · exact absurd (List.mem_of_getElem? (by rw [Array.getElem?_toList];exact z)) hn
    · exact z
  have hi:SetTable.bits h % (t.mask + 1)≤t.mask:=Nat.le_of_lt_succ (Nat.mod_lt _ (Nat.succ_pos _))
  obtain ⟨k,hk,ek⟩:=lps_to g.mk3 hi (Nat.le_of_lt_succ he) (bits_lt h)
  have hm:=(runEnd_le t.mask (SetTable.bits h % (t.mask + 1))).1
  obtain ⟨j,ej,sj⟩:=go_finds (t:=t) (f:=f) (h:=h) (fun j=>by rcases slot_cases g.dm j with ⟨z,_⟩ | ⟨z,_⟩ <;> rw [z] <;> exact nofun)
    (fun j i z=>by
      rcases slot_cases g.dm j with ⟨y,q⟩ | ⟨y,_⟩
      · rw [y] at z
        cases z
        refine hl _ ?_
        rw [← g.sz]
        exact (Array.getElem?_eq_some_iff.mp q).1
      · rw [y] at z;cases z) (10 * SetTable.turns t.mask) k (t.probeStart h) rfl hm (by show t.slot (lps t.mask k (SetTable.bits h % (t.mask + 1)) (SetTable.bits h)) = .empty;rw [ek];exact se) (fun _=>⟨rfl,by unfold SetTable.turns;omega⟩) fun _=>by
      show SetTable.runEnd t.mask (SetTable.bits h % (t.mask + 1)) - SetTable.bits h % (t.mask + 1) + 10 * k≤10 * SetTable.turns t.mask + 8
      unfold SetTable.turns
      omega
  refine ⟨j,ej,?_⟩
  rcases slot_cases g.dm j with ⟨y,_⟩ | ⟨_,q⟩
  · rw [y] at sj;cases sj
  · exact q
theorem free_finds {m:Nat}{o:Array (Option Nat)}:∀ (fuel n i p:Nat),o.getD (lps m n i p) (some 0)=none→n < fuel→∃ j,SetTable.layClean.free m o fuel i p=some j∧o.getD j (some 0)=none
  | 0,n,i,p,h,hn=>absurd hn (Nat.not_lt_zero _)
  | fuel + 1,n,i,p,h,hn=>by
    unfold SetTable.layClean.free
    cases e:(List.range (SetTable.runEnd m i + 1 - i)).find? fun k=>(o.getD (i + k) (some 0)).isNone with
    | some k =>
      have:=List.find?_some e
      exact ⟨i + k,rfl,by simpa using this⟩
    | none =>
      dsimp only
      cases n with
      | zero =>
        have hr:=(runEnd_le m i).2
        have:=List.find?_eq_none.mp e 0 (List.mem_range.mpr (by omega))
        have h':o.getD i (some 0)=none:=h
        rw [Nat.add_zero,h'] at this
        exact absurd rfl this
      | succ n=>exact free_finds fuel n _ _ h (Nat.lt_of_succ_lt_succ hn)
theorem set_perm {α:Type}{x:α}:∀ (l:List (Option α)) (j:Nat),l[j]? = some none→((l.set j (some x)).filterMap id).Perm (l.filterMap id ++ [x])
  | [],j,h=>by cases h
  | c :: l,0,h=>by
    have:c=none:=by simpa using h
    subst this
    show (x :: l.filterMap id).Perm (l.filterMap id ++ [x])
    exact (List.perm_append_singleton x _).symm
  | none :: l,j + 1,h=>set_perm l j h
  | some c :: l,j + 1,h=>(set_perm l j h).cons c
theorem getD_none {o:Array (Option Nat)}{j:Nat}(h:o.getD j (some 0)=none):o.toList[j]? = some none:=by
  rw [Array.getElem?_toList]
  by_cases z:j < o.size
  · rw [Array.getElem?_eq_getElem z]
    simp only [Array.getD,z,↓reduceDIte] at h
    exact congrArg some h
  · simp only [Array.getD,z,↓reduceDIte] at h
    cases h
theorem none_in {α:Type}:∀ {l:List (Option α)},(l.filterMap id).length < l.length → ∃ j,j < l.length ∧ l[j]? = some none
  | [],h=>absurd h (Nat.not_lt_zero _)
  | none :: l,h=>⟨0,Nat.succ_pos _,rfl⟩
  | some x :: l,h=>by
    obtain ⟨j,hj,e⟩:=none_in (l:=l) (Nat.lt_of_succ_lt_succ h)
    exact ⟨j + 1,Nat.succ_lt_succ hj,e⟩
theorem lay_go {m:Nat}(hm:Mk3 m):∀ (hs:List Int) (o:Array (Option Nat)) (k:Nat),o.size=m + 1→(o.toList.filterMap id).Perm (List.range k)→k + hs.length ≤ m →
    ∃ o',hs.foldl (fun (acc:Option (Array (Option Nat) × Nat)) h=>do
      let (owner,k) ← acc
      let j ← SetTable.layClean.free m owner (SetTable.turns m) (SetTable.bits h % (m + 1)) (SetTable.bits h)
      pure (owner.setIfInBounds j (some k),k + 1)) (some (o,k))=some (o',k + hs.length)∧o'.size=m + 1∧(o'.toList.filterMap id).Perm (List.range (k + hs.length))
  | [],o,k,h1,h2,h3=>⟨o,rfl,h1,h2⟩
  | h :: hs,o,k,h1,h2,h3=>by
    rw [List.length_cons] at h3
    obtain ⟨e,he,hn⟩:=none_in (l:=o.toList) (by rw [h2.length_eq,List.length_range,Array.length_toList,h1];omega)
    rw [Array.length_toList,h1] at he
    have hi:SetTable.bits h % (m + 1)≤m:=Nat.le_of_lt_succ (Nat.mod_lt _ (Nat.succ_pos _))
    obtain ⟨n,hk,ek⟩:=lps_to hm hi (Nat.le_of_lt_succ he) (bits_lt h)
    obtain ⟨j,ej,gj⟩:=free_finds (m:=m) (o:=o) (SetTable.turns m) n (SetTable.bits h % (m + 1)) (SetTable.bits h) (by
      rw [ek]
      have z:e < o.size:=by omega
      rw [Array.getElem?_toList,Array.getElem?_eq_getElem z] at hn
      simp only [Array.getD,z,↓reduceDIte]
      exact Option.some.inj hn) (by unfold SetTable.turns;omega)
    have ge:=getD_none gj
    have hj:j < o.size:=by have:=(List.getElem?_eq_some_iff.mp ge).1;rwa [Array.length_toList] at this
    obtain ⟨o',e1,e2,e3⟩:=lay_go hm hs (o.setIfInBounds j (some k)) (k + 1) (by rw [Array.size_setIfInBounds,h1]) (by
      rw [Array.toList_setIfInBounds]
      refine (set_perm _ _ ge).trans ?_
      rw [List.range_succ]
      exact h2.append_right _) (by omega)
    rw [show k + (h :: hs).length=k + 1 + hs.length by rw [List.length_cons];omega]
    refine ⟨o',?_,e2,e3⟩
    rw [List.foldl_cons]
    rw [← e1]
    congr 1
    show (SetTable.layClean.free m o (SetTable.turns m) (SetTable.bits h % (m + 1)) (SetTable.bits h)).bind _=_
    rw [ej]
    rfl
theorem laid_ok {m f mv:Nat}{ld pl:Bool}{hs:Array Int}(hm:Mk3 m)(hl:hs.size ≤ m):∃ (pc od:List Nat),SetTable.laid m f mv ld pl hs=some ({ mask:=m,place:=pc.toArray,dummies:=#[],finger:=f,led:=ld,moves:=mv,plain:=pl },od.toArray)∧pc.Pairwise (· < ·)∧pc.length=od.length ∧ od.Perm (List.range hs.size):=by
  have hf:((Array.replicate (m + 1) (none:Option Nat)).toList.filterMap id)=[]:=by
    rw [Array.toList_replicate]
    generalize m + 1=n
    induction n with
    | zero=>rfl
    | succ n ih=>rw [List.replicate_succ,List.filterMap_cons_none rfl];exact ih
  obtain ⟨o,e1,e2,e3⟩:=lay_go hm hs.toList (Array.replicate (m + 1) none) 0 (by simp) (by rw [hf];exact List.Perm.refl _) (by rw [Array.length_toList];omega)
  rw [Nat.zero_add,Array.length_toList] at e1 e3
  have ec:SetTable.layClean m hs=some o:=by
    unfold SetTable.layClean
    rw [← Array.foldl_toList,e1]
    rfl
  have eo:∀ j,j < m + 1→o.getD j none=o.toList.getD j none:=fun j hj=>by
    have z:j < o.size:=by omega
    simp [Array.getD,z]
  refine ⟨((List.range (m + 1)).filterMap fun j=>(o.getD j none).map (j,·)).map (·.1),((List.range (m + 1)).filterMap fun j=>(o.getD j none).map (j,·)).map (·.2),?_,?_,?_,?_⟩
  · unfold SetTable.laid
    rw [ec]
    rfl
  · rw [List.pairwise_map,List.pairwise_filterMap]
    refine List.Pairwise.imp ?_ List.pairwise_lt_range
    intro a b hab x hx y hy
    obtain ⟨_,_,rfl⟩:=Option.map_eq_some_iff.mp hx
    obtain ⟨_,_,rfl⟩:=Option.map_eq_some_iff.mp hy
    exact hab
  · rw [List.length_map,List.length_map]
  · rw [List.map_filterMap]
    have e4:(List.range (m + 1)).filterMap (fun j=>Option.map (fun p:Nat × Nat=>p.2) ((o.getD j none).map (j,·)))=o.toList.filterMap id:=by
      have e5:o.toList=(List.range (m + 1)).map fun j=>o.getD j none:=by
        apply List.ext_getElem
        · simp [e2]
        · intro i h1 h2
          have hi:i < o.size:=by simpa using h1
          simp [Array.getD,hi]
      rw [e5,List.filterMap_map]
      congr 1
      funext j
      show _=o.getD j none
      cases o.getD j none <;> rfl
    rw [e4]
    exact e3
end MwSet
set_option maxHeartbeats 2000000
namespace MwSortR
open PySem PyProof.Rows PySem.W
section
abbrev Pr:=Addr × Int × Int
def rk (t:Pr):Int:=t.2.1 * 1000 + t.2.2
def PrAt (h:Heap) (t:Pr):Prop:=∃ o n u v,h.get? t.1=some o∧o.cls = .type "tuple"∧o.data = .seq #[.int t.2.1 u,.int t.2.2 v] n
def rhoOf (ps:List Pr):Value→Int
  | .ref a=>((ps.find? fun t=>t.1 == a).map rk).getD 0
  | _=>0
def prRanks (ps:List Pr):Ranks:=⟨rhoOf ps,tuples' true,fun v=>∃ t∈ps,v = .ref t.1⟩
theorem PrAt.uniq {h:Heap}{t t':Pr}(a:PrAt h t)(b:PrAt h t')(e:t.1=t'.1):t=t':=by
  obtain ⟨o,n,u,v,a1,_,a3⟩:=a
  obtain ⟨o',n',u',v',b1,_,b3⟩:=b
  rw [e,b1] at a1
  obtain rfl:=Option.some.inj a1
  rw [a3] at b3
  injection b3 with e1 _
  have e2:=congrArg (fun z:Array Value=>z[0]?) e1
  have e3:=congrArg (fun z:Array Value=>z[1]?) e1
  simp at e2 e3
  obtain ⟨x,y,z⟩:=t
  obtain ⟨x',y',z'⟩:=t'
  simp at e e2 e3
  rw [e,e2.1,e3.1]
theorem rho_at {h:Heap}{ps:List Pr}(hp:∀ t∈ps,PrAt h t){t:Pr}(ht:t∈ps):rhoOf ps (.ref t.1)=rk t:=by
  show ((ps.find? fun x=>x.1 == t.1).map rk).getD 0=rk t
  cases e:ps.find? fun x=>x.1 == t.1 with
  | none =>
    rw [List.find?_eq_none] at e
    exact absurd (e t ht) (by simp)
  | some t' =>
    have m:=List.mem_of_find?_eq_some e
    have e1:t'.1=t.1:=by have:=List.find?_some e;simpa using this
    rw [(hp t' m).uniq (hp t ht) e1]
    rfl
variable {prog:Program}{w:World}{A:Around}{E:Value→Shared→Prop}{s:Shared}
theorem pr_cmp {ps:List Pr}{h:Heap}(hp:∀ t∈ps,PrAt h t∧0≤t.2.2 ∧ t.2.2 < 1000)(hk:∀ t∈ps,PrAt s.heap t):@CmpOk (prRanks ps) prog w A s:=by
  letI:=prRanks ps
  refine ⟨fun x y Q E hx hy q=>?_⟩
  obtain ⟨t1,m1,rfl⟩:=hx
  obtain ⟨t2,m2,rfl⟩:=hy
  have r1:Ranks.ρ (.ref t1.1)=rk t1:=rho_at (fun t ht=>(hp t ht).1) m1
  have r2:Ranks.ρ (.ref t2.1)=rk t2:=rho_at (fun t ht=>(hp t ht).1) m2
  rw [r1,r2] at q
  have b1:=(hp t1 m1).2
  have b2:=(hp t2 m2).2
  obtain ⟨o1,n1,u1,v1,a1,_,a3⟩:=hk t1 m1
  obtain ⟨o2,n2,u2,v2,c1,_,c3⟩:=hk t2 m2
  refine kat_lt (b:=true) a1 a3 c1 c3 ?_
  refine kat_cons (wpAny_eqBool_int ?_)
  unfold rk at q
  by_cases z:t1.2.1=t2.2.1
  · rw [show (t1.2.1 == t2.2.1)=true from beq_iff_eq.mpr z]
    refine kat_yes (kat_cons (wpAny_eqBool_int ?_))
    by_cases y:t1.2.2=t2.2.2
    · rw [show (t1.2.2 == t2.2.2)=true from beq_iff_eq.mpr y]
      refine kat_yes (kat_nil ?_)
      rw [decide_eq_false (by omega)] at q
      exact q
    · rw [show (t1.2.2 == t2.2.2)=false from beq_eq_false_iff_ne.mpr y]
      refine kat_no ?_
      rw [show decide (t1.2.1 * 1000 + t1.2.2 < t2.2.1 * 1000 + t2.2.2)=decide (t1.2.2 < t2.2.2) by rw [z];simp] at q
      show wpAny _ _ (oneLt' false _ _) _ _ _
      exact kat_one _ _ (show wpAny _ _ (richCompare .Lt _ _) _ _ _ from CmpOf.ints_lt (P:=fun k v=>(k=0∧v = .int t1.2.2 v1) ∨ (k=1∧v = .int t2.2.2 v2)) (fun k=>if k=0 then t1.2.2 else t2.2.2) (fun k v hk=>hk.elim (fun e=>⟨v1,by rw [e.2,if_pos e.1]⟩) (fun e=>⟨v2,by rw [e.2,if_neg (by omega)]⟩)) 0 1 _ _ _ _ _ (Or.inl ⟨rfl,rfl⟩) (Or.inr ⟨rfl,rfl⟩) q)
  · rw [show (t1.2.1 == t2.2.1)=false from beq_eq_false_iff_ne.mpr z]
    refine kat_no ?_
    rw [show decide (t1.2.1 * 1000 + t1.2.2 < t2.2.1 * 1000 + t2.2.2)=decide (t1.2.1 < t2.2.1) by
      by_cases y:t1.2.1 < t2.2.1
      · rw [decide_eq_true y,decide_eq_true (by omega)]
      · rw [decide_eq_false y,decide_eq_false (by omega)]] at q
    exact oneLt_int q
theorem perm_map_back {α β:Type}{f:α→β}{l:List β}:∀ {m:List α},l.Perm (m.map f)→∃ m':List α,m'.Perm m∧l=m'.map f:=by
  intro m h
  generalize e:m.map f=k at h
  induction h generalizing m with
  | nil =>
    rw [List.map_eq_nil_iff] at e
    exact ⟨[],by rw [e],rfl⟩
  | cons x _ ih =>
    obtain ⟨y,ys,rfl,rfl,e2⟩:=List.map_eq_cons_iff.mp e
    obtain ⟨m',p,rfl⟩:=ih e2
    exact ⟨y :: m',p.cons y,rfl⟩
  | swap x y l =>
    obtain ⟨a,as,rfl,rfl,e2⟩:=List.map_eq_cons_iff.mp e
    obtain ⟨b,bs,rfl,rfl,rfl⟩:=List.map_eq_cons_iff.mp e2
    exact ⟨b :: a :: bs,List.Perm.swap _ _ _,rfl⟩
  | trans _ _ ih1 ih2 =>
    obtain ⟨m2,p2,rfl⟩:=ih2 e
    obtain ⟨m1,p1,rfl⟩:=ih1 rfl
    exact ⟨m1,p1.trans p2,rfl⟩
def prV (t:Pr):Value:=.ref t.1
theorem pr_firsts {h:Heap}:∀ (ps:List Pr),(∀ t∈ps,PrAt h t)→∃ fs:List Value,KatTups h (ps.map prV) fs∧fs.length=ps.length ∧ ∀ v∈fs,∃ x t,v = .int x t
  | [],_=>⟨[],.nil,rfl,fun v hv=>absurd hv (by simp)⟩
  | t :: ps,hp=>by
    obtain ⟨fs,f1,f2,f3⟩:=pr_firsts ps fun x hx=>hp x (List.mem_cons_of_mem _ hx)
    obtain ⟨o,n,u,v,e1,e2,e3⟩:=hp t List.mem_cons_self
    refine ⟨.int t.2.1 u :: fs,.cons e1 e2 e3 (by simp) f1,by rw [List.length_cons,List.length_cons,f2],fun x hx=>?_⟩
    rcases List.mem_cons.mp hx with rfl | hx
    · exact ⟨_,_,rfl⟩
    · exact f3 x hx
theorem list_sort_pairs {a:Addr} {ps:List Pr} {n:Nat} {P:Fin→Shared→Prop} (ho:s.heap.get? a=some (seqObj "list" (ps.map prV).toArray n)) (hp:∀ t∈ps,PrAt s.heap t∧0≤t.2.2 ∧ t.2.2 < 1000) (hz:ps.length ≤ sizeLine)
    (h:∀ (out:List Pr),out.Perm ps→out.Pairwise (fun x y=>rk x≤rk y)→P (.done (.ret .none)) { s with heap:=sortedHeap s.heap a (ps.map prV) (out.map prV).toArray }):wpAny (model prog w) A (Builtin.«list.sort» ⟨[.ref a],[]⟩) P E s:=by
  rw [list_sort_plain]
  generalize hv:ps.map prV=vs at ho h
  have lv:vs.length=ps.length:=by rw [← hv,List.length_map]
  have hzA:vs.toArray.size ≤ sizeLine:=by rw [List.size_toArray,lv];exact hz
  refine wpAny_bind (listItems_at ho rfl (wpAny_bind (listUpdate_at ho rfl ?_ (hsz:=hzA) (hsz2:=Nat.zero_le _))))
  obtain ⟨c1,g1⟩:∃ c,(s.heap.update a (Obj.mapSeq fun _=>#[])).get? a=some (seqObj "list" #[] c):=⟨_,get?_update_seq ho fun _=>#[]⟩
  refine wpAny_bind (seqEpoch_at g1 rfl (wpAny_bind (wpAny_newTuple (wpAny_bind (wpAny_newList (wpAny_holding ?_))))))
  have g2:=Heap.get?_push_of_some (seqObj "list" #[] 0) (Heap.get?_push_of_some (seqObj "tuple" vs.toArray 0) g1)
  show wpAny (model prog w) A _ P E { s with heap:=((s.heap.update a (Obj.mapSeq fun _=>#[])).push (seqObj "tuple" vs.toArray 0)).push (seqObj "list" #[] 0) }
  dsimp only
  have keep:∀ t∈ps,PrAt (((s.heap.update a (Obj.mapSeq fun _=>#[])).push (seqObj "tuple" vs.toArray 0)).push (seqObj "list" #[] 0)) t:=fun t ht=>by
    obtain ⟨o,m,u,v,e1,e2,e3⟩:=(hp t ht).1
    refine ⟨o,m,u,v,Heap.get?_push_of_some _ (Heap.get?_push_of_some _ ?_),e2,e3⟩
    rw [Heap.get?_update_other _ _ fun ee:a=t.1=>?_]
    · exact e1
    · rw [← ee,ho] at e1
      obtain rfl:=Option.some.inj e1
      exact absurd (show Value.type "list" = .type "tuple" from e2) (by decide)
  have ko:∀ z:Array Keyed,z.Perm (pairsOf vs)→∃ out:List Pr,out.Perm ps∧z.toList=out.map fun t=>(prV t,prV t):=fun z pz=>by
    have e:(pairsOf vs).toList=ps.map fun t=>(prV t,prV t):=by
      rw [← hv]
      unfold pairsOf
      rw [Array.toList_zip]
      simp [List.zip_map']
    refine perm_map_back (f:=fun t=>(prV t,prV t)) ?_
    rw [← e]
    exact Array.perm_iff_toList_perm.mp pz
  have km:∀ (z:Array Keyed) (out:List Pr),z.toList=out.map (fun t=>(prV t,prV t))→z.map (·.2)=(out.map prV).toArray:=fun z out e=>by
    apply Array.toList_inj.mp
    rw [Array.toList_map,e,List.map_map]
    rfl
  letI:=prRanks ps
  have fin:∀ z:SortSt,(arrOf z).Perm (pairsOf vs)→SortedTo (arrOf z) (pairsOf vs).size → P (.done (.ret .none)) { s with heap:=sortedHeap s.heap a vs ((arrOf z).map (·.2)) }:=fun z pz qz=>by
    obtain ⟨out,o1,o2⟩:=ko _ pz
    rw [km _ _ o2]
    refine h out o1 ?_
    rw [List.pairwise_iff_getElem]
    intro i j hi hj hij
    have sz:(arrOf z).size=out.length:=by rw [← Array.length_toList,o2,List.length_map]
    have kk:∀ m (hm:m < out.length),K (arrOf z) m=rk out[m]:=fun m hm=>by
      have e:(arrOf z)[m]? = some (prV out[m],prV out[m]):=by rw [← Array.getElem?_toList,o2,List.getElem?_map,List.getElem?_eq_getElem hm];rfl
      unfold K
      rw [e]
      exact rho_at (fun t ht=>(hp t ht).1) (o1.mem_iff.mp (List.getElem_mem hm))
    have:=qz i j (by omega) (by rw [← pz.size_eq,sz];exact hj)
    rw [kk i hi,kk j hj] at this
    exact this
  have hcmp:CmpOk prog w A { s with heap:=((s.heap.update a (Obj.mapSeq fun _=>#[])).push (seqObj "tuple" vs.toArray 0)).push (seqObj "list" #[] 0) }:=pr_cmp (h:=s.heap) hp keep
  by_cases few:vs.toArray.size < 2
  · rw [if_pos few,if_pos few]
    refine wpAny_bind (wpAny_pure ?_)
    rw [StateT.run_pure]
    refine wpAny_bind (wpAny_pure ?_)
    dsimp only
    refine wpAny_bind (seqEpoch_at g2 rfl (wpAny_bind (listUpdate_at g2 rfl ?_ (hsz:=Nat.zero_le _) (hsz2:=?_))))
    · simp only [bne_self_eq_false,Bool.false_eq_true,if_false]
      refine wpAny_pure (fin (SortSt.mk' general' (vs.toArray.zip vs.toArray) #[] 7 none) (Array.Perm.refl _) fun i j hij hj=>?_)
      rw [pairsOf_size] at hj
      rw [List.size_toArray] at few
      have:i=j:=by omega
      rw [this];exact Int.le_refl _
    · rw [Array.size_map]
      show (pairsOf vs).size ≤ _
      rw [pairsOf_size,lv];omega
  · rw [if_neg few,if_neg few]
    rw [List.size_toArray] at few
    obtain ⟨fs,f1,f2,f3⟩:=pr_firsts ps keep
    rw [hv] at f1
    refine wpAny_bind (kat_kind (T:=.type "int") f1 (by omega) (fun v hv'=>?_) (by decide) ?_)
    · obtain ⟨x,tk,rfl⟩:=f3 v hv'
      exact .now
    have e1:tuples' ((Value.type "int") != Value.type "tuple")=Ranks.κ:=rfl
    rw [e1]
    have hI:KeysIn (pairsOf vs):=fun p hp'=>by
      rw [pairsOf_toList,← hv] at hp'
      obtain ⟨t,ht,e⟩:=List.mem_map.mp (List.of_mem_zip hp').1
      exact ⟨t,ht,e.symm⟩
    refine wpAny_bind (wpAny_mono (wpS_sortAll (a₀:=pairsOf vs) (st:=SortSt.mk' Ranks.κ (vs.toArray.zip vs.toArray) #[] 7 none) (Q:=fun _ z=>(arrOf z).Perm (pairsOf vs)∧failedOf z=none∧SortedTo (arrOf z) (pairsOf vs).size)
      hI (Array.Perm.refl _) rfl rfl rfl fun z b1 b2 b3=>⟨b1,b2,b3⟩) ?_ fun _ _ e=>e)
    rintro ⟨⟨⟩,z⟩ s' ⟨rfl,p,f,q⟩
    dsimp only
    refine wpAny_bind (seqEpoch_at g2 rfl (wpAny_bind (listUpdate_at g2 rfl ?_ (hsz:=Nat.zero_le _) (hsz2:=?_))))
    · rw [f]
      simp only [bne_self_eq_false,Bool.false_eq_true,if_false]
      exact wpAny_pure (fin z p q)
    · have:=(Array.size_map (f:=(·.2)) (xs:=arrOf z)).trans (p.size_eq.trans (pairsOf_size _))
      rw [this,lv];omega
end
end MwSortR
set_option maxHeartbeats 2000000
namespace MwRep
open PySem Builtin
end MwRep
namespace L2
open PySem PySem.Spec PyProof.Rows
end L2
set_option maxHeartbeats 2000000
namespace MwFk
open PySem PySem.Spec
section
variable {prog:Program}{w:World}
def hashC:Option Int→Int
  | none=>0xFCA86420
  | some i=>hashInt i
def hashT (hs:List Int):Int:=reduceHash (Builtin.Tuple.tupleHashOf hs)
def Hashes (prog:Program)(w:World)(hp:Heap)(m:Nat)(v:Value)(h:Int)(k:Nat):Prop :=
  ∀ (A:Around) (E:Value→Shared→Prop) (s:Shared) (Q:Int→Shared→Prop),s.heap=hp→A.units ≤ m→Q h { s with toks:=s.toks + k }→wpAny (model prog w) A (pyHash v) Q E s
theorem hash_int (hp:Heap)(m:Nat)(i:Int)(t:Tok):Hashes prog w hp m (.int i t) (hashC (some i)) 1:=fun A E s Q _ _ h=>wpAny_pyHash_int h
inductive HAll (prog:Program)(w:World)(hp:Heap)(m:Nat):List Value→List Int→Nat→Prop
  | nil:HAll prog w hp m [] [] 0
  | cons {v:Value} {h:Int} {k:Nat} {vs:List Value} {hs:List Int} {n:Nat}:Hashes prog w hp m v h k→HAll prog w hp m vs hs n→HAll prog w hp m (v :: vs) (h :: hs) (k + n)
theorem hash_tuple {hp:Heap} {m:Nat} {a:Addr} {o:Obj} {items:Array Value} {n:Nat} {hs:List Int} {k:Nat} (hm:m < cLine) (ho:hp.get? a=some o) (hc:o.cls = .type "tuple") (hd:o.data = .seq items n) (hi:HAll prog w hp (m + 3) items.toList hs k) :
    Hashes prog w hp m (.ref a) (hashT hs) (k + 1):=by
  intro A E s Q hs' hu h
  subst hs'
  have hT:s.TypeIs (.ref a) "tuple":=⟨o,ho,hc⟩
  have hu':A.units < cLine:=by omega
  unfold pyHash
  first | unfold pyHashByItsType | skip
  first | refine wpAny_bind (wpAny_cRoomFor_or (.inr hu') ?_) | skip
  refine wpAny_bind (wpAny_specialOf hT F.slot_tuple_hash.lookup ?_)
  show wpAny _ _ (if (some (Value.builtin "tuple.__hash__") == some Value.none)=true then _ else _) Q E s
  rw [if_neg (by rw [beq_builtin_none];exact Bool.false_ne_true)]
  refine wpAny_bind (wpAny_specialOf hT F.slot_tuple_hash.lookup ?_)
  show wpAny _ _ (callSpecialIfBoundUnlessNone? (.ref a) "__hash__" _ >>= _) Q E s
  refine wpAny_bind (wpAny_callSpecialIfBoundUnlessNone?_slot hT F.slot_tuple_hash (wpAny_call_entry F.slot_tuple_hash hT F.entry_tuple_hash ?_ (F.args_tuple_hash_1 _)))
  show wpAny _ _ (Builtin.Tuple.tupleItemsOf (.ref a) >>= _) _ _ s
  refine wpAny_bind (wpAny_tupleItemsOf ho hd ?_)
  refine wpAny_bind ?_
  rw [← Array.forIn_toList]
  refine wpAny_forIn_list _
    (fun rest (b:Array Int) s'=>∃ done left d e,hs=done ++ left∧HAll prog w s.heap (m + 3) rest left e∧b.toList=done∧d + e=k∧s'={ s with toks:=s.toks + d })
    _ ?_ ?_ _ _ ⟨[],hs,0,k,rfl,hi,rfl,by omega,rfl⟩
  · rintro x rest b s' ⟨done,left,d,e,rfl,hl,hb,hde,rfl⟩
    cases hl with
    | @cons v h1 k1 vs hs1 n1 hv hl' =>
      refine wpAny_bind (hv _ _ _ _ rfl ?_ ?_)
      · first | (simp;omega) | omega
      first
        | exact wpAny_pure ⟨done ++ [h1],hs1,d + k1,n1,by simp,hl',by simp [hb],by omega,by simp [Nat.add_assoc]⟩
        | exact wpAny_bind (wpAny_pure (wpAny_pure ⟨done ++ [h1],hs1,d + k1,n1,by simp,hl',by simp [hb],by omega,by simp [Nat.add_assoc]⟩))
  · rintro b s' ⟨done,left,d,e,rfl,hl,hb,hde,rfl⟩
    cases hl
    rw [List.append_nil] at h
    have hk:d=k:=by omega
    subst hk
    show wpAny _ _ (retInt (Builtin.Tuple.tupleHashOf b.toList)) _ _ _
    rw [hb]
    refine wpAny_ret_mkInt ?_
    show wpAny _ _ (if (decide (-(2:Int) ^ 63≤Builtin.Tuple.tupleHashOf done) && decide (Builtin.Tuple.tupleHashOf done < 2 ^ 63))=true then _ else _) Q E _
    unfold hashT reduceHash at h
    by_cases hr:(decide (-(2:Int) ^ 63≤Builtin.Tuple.tupleHashOf done) && decide (Builtin.Tuple.tupleHashOf done < 2 ^ 63))=true
    · rw [if_pos hr]
      rw [if_pos hr] at h
      exact wpAny_pure (by simpa [Nat.add_assoc] using h)
    · rw [if_neg hr]
      rw [if_neg hr] at h
      exact wpAny_bind (wpAny_rule (wpAny_pure (by simpa [Nat.add_assoc] using h)))
end
end MwFk
set_option maxHeartbeats 2000000
namespace MwSet
open PySem PySem.Spec PyProof.Rows MwSortR
def hashP (i j:Int):Int:=MwFk.hashT [MwFk.hashC (some i),MwFk.hashC (some j)]
def hp6 (n:Nat):Int:=hashP (n / 6:Nat) (n % 6:Nat)
theorem hp6_nodup:((List.range 36).map hp6).Nodup:=by decide +kernel
theorem hashP_inj {i j k l:Nat}(hi:i < 6)(hj:j < 6)(hk:k < 6)(hl:l < 6)(h:hashP i j=hashP k l):i=k∧j=l:=by
  have e1:hp6 (6 * i + j)=hashP i j:=by unfold hp6;rw [show (6 * i + j) / 6=i by omega,show (6 * i + j) % 6=j by omega]
  have e2:hp6 (6 * k + l)=hashP k l:=by unfold hp6;rw [show (6 * k + l) / 6=k by omega,show (6 * k + l) % 6=l by omega]
  rw [← e1,← e2] at h
  have nd:=hp6_nodup
  have g:∀ n (hn:n < 36),((List.range 36).map hp6)[n]'(by simpa using hn)=hp6 n:=fun n hn=>by simp
  have:6 * i + j=6 * k + l:=by
    rcases Nat.lt_trichotomy (6 * i + j) (6 * k + l) with z | z | z
    · exact absurd (by rw [g _ (by omega),g _ (by omega)];exact h) (List.pairwise_iff_getElem.mp nd _ _ (by simp;omega) (by simp;omega) z)
    · exact z
    · exact absurd (by rw [g _ (by omega),g _ (by omega)];exact h.symm) (List.pairwise_iff_getElem.mp nd _ _ (by simp;omega) (by simp;omega) z)
  omega
def elP (p:Pr):Int × Value:=(hashP p.2.1 p.2.2,prV p)
def SetP (w:World)(h:Heap)(a:Addr)(ps:List Pr):Prop:=∃ es ep t,h.get? a=some (setObj es ep t)∧es.toList.Perm (ps.map elP)∧GoodT (byT w) t es.size
theorem SetP.at {w:World}{h h':Heap}{a:Addr}{ps:List Pr}(S:SetP w h a ps)(k:∀ o,h.get? a=some o→h'.get? a=some o):SetP w h' a ps:=let ⟨es,ep,t,e,r⟩:=S;⟨es,ep,t,k _ e,r⟩
section
variable {prog:Program}{w:World}{A:Around}{E:Value→Shared→Prop}{s:Shared}
theorem byValue_pair {p:Pr}{n:Nat}{Q:Bool→Shared→Prop}(hp:PrAt s.heap p)(h:Q true s):wpAny (model prog w) A (hashByValue (n + 1) (prV p)) Q E s:=by
  obtain ⟨o,m,u,v,ho,hc,hd⟩:=hp
  have hT:s.TypeIs (.ref p.1) "tuple":=⟨o,ho,hc⟩
  unfold hashByValue prV
  refine wpAny_bind (wpAny_specialOf hT F.slot_tuple_hash.lookup ?_)
  dsimp only
  refine wpAny_bind (wpAny_seqItems ho hd ?_)
  refine wpAny_bind ?_
  rw [Option.getD_some,← Array.forIn_toList]
  show wpAny _ _ (forIn [Value.int p.2.1 u,Value.int p.2.2 v] _ _) _ _ s
  refine wpAny_forIn_list _ (fun rest r s'=>r.1=none∧s'=s∧∀ x∈rest,∃ i t,x=Value.int i t) _ ?_ ?_ _ _ ⟨rfl,rfl,fun x hx=>?_⟩
  · rintro x rest r s' ⟨hr,rfl,hall⟩
    obtain ⟨i,t,rfl⟩:=hall x List.mem_cons_self
    refine wpAny_bind ?_
    rw [hashByValue_scannable n rfl]
    refine wpAny_pure ?_
    simp only [plainKind,Bool.not_true,Bool.false_eq_true,if_false]
    exact wpAny_pure ⟨rfl,rfl,fun u hu'=>hall u (List.mem_cons_of_mem _ hu')⟩
  · rintro ⟨r1,r2⟩ s' ⟨hr,rfl,_⟩
    simp only at hr
    subst hr
    exact wpAny_pure h
  · simp only [List.mem_cons,List.not_mem_nil,or_false] at hx
    rcases hx with rfl | rfl
    · exact ⟨_,_,rfl⟩
    · exact ⟨_,_,rfl⟩
theorem add_pair {a:Addr}{ps:List Pr}{p:Pr}{Q:Bool→Shared→Prop}(S:SetP w s.heap a ps)(hp:PrAt s.heap p)(hn:∀ q∈ps,hashP q.2.1 q.2.2 ≠ hashP p.2.1 p.2.2)(hl:ps.length < 40)
    (h:∀ b h',Heap.SameBut a s.heap h'→SetP w h' a (ps ++ [p])→Q b { s with heap:=h' }):wpAny (model prog w) A (setAddHashed a (prV p) (hashP p.2.1 p.2.2)) Q E s:=by
  obtain ⟨es,ep,t,ho,hes,g⟩:=S
  have hlen:es.size=ps.length:=by have:=hes.length_eq;simpa using this
  unfold setAddHashed setAddHashedIn
  refine wpAny_holding (wpAny_bind (wpAny_setState_of ho rfl g.fits ?_))
  dsimp only
  have hb:byScan (prV p) es=false:=rfl
  rw [hb]
  simp only [Bool.false_eq_true,↓reduceIte]
  obtain ⟨j,ej,fj⟩:=g.finds (f:=fun i=>(es[i]?.map (·.1)).getD 0) (h:=hashP p.2.1 p.2.2) fun i hi=>by
    rw [Array.getElem?_eq_getElem hi]
    have hm:es[i]∈ps.map elP:=hes.mem_iff.mp (by rw [← Array.getElem_toList hi];exact List.getElem_mem _)
    obtain ⟨q,hq,e⟩:=List.mem_map.mp hm
    show es[i].1 ≠ _
    rw [← e]
    exact hn q hq
  refine wpAny_bind ?_
  unfold setSearch setSearchFrom
  refine wpAny_bind (wpAny_setState_of ho rfl g.fits ?_)
  dsimp only
  rw [g.odd]
  simp only [Bool.false_eq_true,↓reduceIte,Option.getD_none]
  split
  rotate_left
  · rename_i hx
    exact absurd ej (fun z=>hx _ z)
  · rename_i met hx
    obtain rfl:met = .empty j none:=Option.some.inj (hx.symm.trans ej)
    refine wpAny_pure ?_
    dsimp only
    refine wpAny_bind (wpAny_setState_of ho rfl g.fits ?_)
    dsimp only
    have hpl:(t.put j).1.plain=true:=g.plain
    rw [if_pos hpl]
    refine wpAny_bind (byValue_pair hp ?_)
    simp only [↓reduceIte,Bool.not_false,Bool.true_and]
    have hr:=g.room
    have e2:(t.put j).2=SetTable.below t.place j:=rfl
    have hd1:(t.put j).1.dummies = #[]:=by
      show (if SetTable.has t.dummies j then _ else t.dummies)=_
      rw [g.dm]
      rfl
    have hpc:(t.put j).1.place=SetTable.insertAt t.place (SetTable.below t.place j) j:=rfl
    have hmk:(t.put j).1.mask=t.mask:=rfl
    have hrs:Rs (t.put j).1.place:=by rw [hpc];exact rs_put g.rs fj
    have pn:∀ {α:Type} (xs:Array α) (k:Nat) (x:α),(SetTable.insertAt xs k x).toList.Perm (xs.toList ++ [x]):=fun xs k x=>by
      rw [SetTable.toList_insertAt]
      refine List.perm_middle.trans ?_
      rw [List.take_append_drop]
      exact (List.perm_append_singleton _ _).symm
    have hsz:(t.put j).1.place.size=es.size + 1:=by
      have:=(pn t.place (SetTable.below t.place j) j).length_eq
      rw [List.length_append,Array.length_toList,Array.length_toList,g.sz] at this
      exact this
    have hled:(t.put j).1.led = !byT w:=g.led
    generalize hx1:(hashP p.2.1 p.2.2,prV p)=x at *
    have hp1:=pn es (t.put j).2 x
    generalize SetTable.insertAt es (t.put j).2 x=es1 at hp1 ⊢
    generalize (t.put j).1=t1 at *
    have hl1:es1.size=es.size + 1:=by have:=hp1.length_eq;simpa using this
    have hp2:es1.toList.Perm ((ps ++ [p]).map elP):=by
      rw [List.map_append]
      refine hp1.trans ?_
      rw [← hx1]
      exact hes.append_right _
    have hz1:es1.size ≤ sizeLine:=by rw [sizeLine_eq];omega
    refine wpAny_bind (wpAny_storeSet_of ho rfl ?_ hz1)
    have g1:=setG_store ho es1 t1
    have mk:=g.mk3
    have hfit:t1.fits es1.size=true:=by
      unfold SetTable.fits SetTable.fill
      rw [hd1,hsz,hl1,hmk]
      simp
      rcases mk with e | e | e <;> omega
    by_cases full:t1.tooFull=true
    · rw [if_pos full]
      have hfull:t.mask * 3≤(es.size + 1) * 5:=by
        unfold SetTable.tooFull SetTable.fill at full
        rw [hd1,hsz,hmk] at full
        simpa using full
      obtain ⟨m2,em,hm2,hr2⟩:∃ m2,SetTable.sizeAbove (SetTable.grown (es.size + 1))=m2 + 1∧Mk3 m2∧(es.size + 1) * 5 < m2 * 3:=by
        rcases mk with e | e | e
        · have:es.size=4:=by omega
          rw [this]
          exact ⟨31,by decide +kernel,.inr (.inl rfl),by decide⟩
        · have:es.size=18:=by omega
          rw [this]
          exact ⟨127,by decide +kernel,.inr (.inr rfl),by decide⟩
        · omega
      refine wpAny_bind ?_
      unfold setRelay
      refine wpAny_bind (wpAny_setState_of g1 rfl hfit ?_)
      dsimp only
      have hsl:¬ SetTable.sizeAbove (SetTable.grown (es.size + 1)) > sizeLine:=by
        rw [em,sizeLine_eq]
        rcases hm2 with e | e | e <;> omega
      rw [if_neg hsl]
      obtain ⟨pc,od,el,pl1,pl2,pl3⟩:=laid_ok (m:=m2) (f:=t1.finger) (mv:=t1.movedTo m2) (ld:=t1.led) (pl:=t1.plain) (hs:=es1.map (·.1)) hm2 (by rw [Array.size_map,hl1];rcases hm2 with e | e | e <;> omega)
      have er:t1.relaid (es1.map (·.1)) (SetTable.grown (es.size + 1))=some (({ mask:=m2,place:=pc.toArray,dummies:=#[],finger:=t1.finger,led:=t1.led,moves:=t1.movedTo m2,plain:=t1.plain }:SetTable),od.toArray):=by
        unfold SetTable.relaid
        rw [em]
        exact el
      rw [er]
      rw [Array.size_map] at pl3
      have fm:od.filterMap (es1[·]?)=od.map fun k=>es1.getD k (0,.none):=by
        have hm:∀ k∈od,k < es1.size:=fun k hk=>List.mem_range.mp (pl3.mem_iff.mp hk)
        clear el er pl1 pl2 pl3
        induction od with
        | nil=>rfl
        | cons k od ih =>
          have:=hm k List.mem_cons_self
          rw [List.filterMap_cons_some (b:=es1[k]) (by simp [this]),List.map_cons,ih fun q hq=>hm q (List.mem_cons_of_mem _ hq)]
          simp [Array.getD,this]
      have fp:(od.toArray.filterMap (es1[·]?)).toList.Perm es1.toList:=by
        rw [List.filterMap_toArray,List.toList_toArray,fm]
        refine (pl3.map _).trans ?_
        have e3:(List.range es1.size).map (fun k=>es1.getD k (0,.none))=es1.toList:=by
          apply List.ext_getElem
          · simp
          · intro i h1 h2
            have hi:i < es1.size:=by simpa using h2
            simp [Array.getD,hi]
        rw [e3]
      have fl:(od.toArray.filterMap (es1[·]?)).size=es1.size:=by have:=fp.length_eq;simpa using this
      refine wpAny_bind (show wpAny (model prog w) A (if ((od.toArray.filterMap (es1[·]?)).size != es1.size)=true then unsupported "internal:set-table-lost-an-element" >>= _ else _) _ _ _ from ?_)
      rw [if_neg (by rw [fl];simp)]
      refine wpAny_pure ?_
      have fp2:=fp.trans hp2
      generalize Array.filterMap (fun x=>es1[x]?) od.toArray=es2 at fp fl fp2 ⊢
      refine wpAny_storeSet_of g1 rfl ?_ (by rw [fl];exact hz1)
      refine wpAny_pure (h true _ ((Heap.SameBut.update _ a _).trans (Heap.SameBut.update _ a _)) ⟨es2,_,_,setG_store g1 es2 _,fp2,?_⟩)
      have:od.length=es1.size:=by have:=pl3.length_eq;simpa using this
      exact ⟨hm2,rfl,pl1,by show pc.toArray.size=_;rw [List.size_toArray];omega,by show es2.size * 5 < m2 * 3;omega,hled,hpl⟩
    · rw [if_neg full]
      refine wpAny_pure (h true _ (Heap.SameBut.update _ a _) ⟨es1,_,t1,g1,hp2,?_⟩)
      refine ⟨by rw [hmk];exact mk,hd1,hrs,by omega,?_,hled,hpl⟩
      unfold SetTable.tooFull SetTable.fill at full
      rw [hd1,hsz,hmk] at full
      rw [hl1,hmk]
      simpa using full
theorem hashes_pair {p:Pr}{hp:Heap}{m:Nat}(hm:m < cLine)(h:PrAt hp p):MwFk.Hashes prog w hp m (prV p) (hashP p.2.1 p.2.2) 3:=by
  obtain ⟨o,n,u,v,ho,hc,hd⟩:=h
  exact MwFk.hash_tuple (k:=2) hm ho hc hd (.cons (MwFk.hash_int _ _ _ _) (.cons (MwFk.hash_int _ _ _ _) .nil))
theorem setP_fresh (w:World){h:Heap}{a:Addr}(e:h.get? a=some (setObj #[] 0 (.fresh 0 0 (!byT w)))):SetP w h a [] :=
  ⟨#[],0,_,e,List.Perm.refl _,⟨.inl rfl,rfl,List.Pairwise.nil,rfl,by show 0 * 5 < 7 * 3;decide,rfl,rfl⟩⟩
end
section
variable {prog:Program}{w:World}{A:Around}{R:Result→Shared→Prop}{I:Addr}{fp wr:List Addr}{G:Array GenState→Array GenState→Prop}{P:Nat→Value→Prop}{St:Nat→Shared→Prop}
theorem set_loopP {ps:List Pr}(W:WalksS prog w A.in1 I fp wr G ps.length P St)(S:Addr)(hSf:S ∉ fp)(hval:∀ i v,P i v→∃ p,ps[i]? = some p∧v=prV p)(hb:ps.length < 40)(hu:A.units + 64 < cLine)
    (hd:(ps.map fun p=>hashP p.2.1 p.2.2).Nodup) :
    ∀ (d i:Nat) (s:Shared),ps.length - i=d→i≤ps.length → St i s→SetP w s.heap S (ps.take i)→(∀ p∈ps,PrAt s.heap p∧p.1 ≠ S∧p.1 ∉ wr)→(∀ s',Moved (S :: wr) G s s'→SetP w s'.heap S ps→R (.ok (.ret .none)) s') →
      codeAny (model prog w) A (.builtin "set.update.loop" ⟨[.ref S,.ref I],[]⟩) R s:=by
  have nS:S ∉ wr:=fun z=>hSf (W.sub _ z)
  have up:∀ b∈wr,b∈S :: wr:=fun b hb=>List.mem_cons_of_mem _ hb
  intro d
  induction d with
  | zero =>
    intro i s hd hi st hS hpp hR
    have:i=ps.length:=by omega
    subst this
    refine codeAny_builtin F.entry_set_update_loop ?_
    rw [Around.under_plainId F.plain_set_update_loop _]
    show wpAny _ A.in1 (pyNext (.ref I) >>= _) _ _ s
    refine wpAny_bind (W.done s _ _ st fun s' hm=>?_)
    show wpAny _ A.in1 (ret Value.none) _ _ s'
    refine wpAny_pure (hR s' (hm.mono up) ?_)
    rw [List.take_length] at hS
    exact hS.at fun o e=>hm.heap S o nS e
  | succ d ih =>
    intro i s hdd hi st hS hpp hR
    have lt:i < ps.length:=by omega
    refine codeAny_builtin F.entry_set_update_loop ?_
    rw [Around.under_plainId F.plain_set_update_loop _]
    show wpAny _ A.in1 (pyNext (.ref I) >>= _) _ _ s
    refine wpAny_bind (W.item i s _ _ lt st fun v s' hP st' hm=>?_)
    obtain ⟨p,ep,rfl⟩:=hval i v hP
    obtain rfl:ps[i]=p:=by rw [List.getElem?_eq_getElem lt] at ep;exact Option.some.inj ep
    have hS':=hS.at (h':=s'.heap) fun o e=>hm.heap S o nS e
    have hpp':∀ p∈ps,PrAt s'.heap p∧p.1 ≠ S∧p.1 ∉ wr:=fun p hp=>by
      obtain ⟨⟨o,n,u,v,e1,e2,e3⟩,b,c⟩:=hpp p hp
      exact ⟨⟨o,n,u,v,hm.heap _ _ c e1,e2,e3⟩,b,c⟩
    have hmem:ps[i]∈ps:=List.getElem_mem lt
    show wpAny _ A.in1 (holding [prV ps[i]] (setAdd S (prV ps[i])) >>= _) _ _ s'
    refine wpAny_bind (wpAny_holding ?_)
    unfold setAdd
    refine wpAny_holding (wpAny_bind (hashes_pair (m:=A.in1.units) (by show A.units + 1 < cLine;omega) (hpp' _ hmem).1 A.in1 _ s' _ rfl (Nat.le_refl _) ?_))
    refine add_pair (s:={ s' with toks:=s'.toks + 3 }) hS' (hpp' _ hmem).1 (fun q hq e=>?_) (by rw [List.length_take];omega) fun b h' hsb hS2=>?_
    · obtain ⟨k,hk,rfl⟩:=List.getElem_of_mem hq
      rw [List.length_take] at hk
      have hk':k < i:=by omega
      rw [List.getElem_take] at e
      have:=List.pairwise_iff_getElem.mp hd k i (by rw [List.length_map];omega) (by rw [List.length_map];exact lt) hk'
      rw [List.getElem_map,List.getElem_map] at this
      exact this e
    have en:ps.take (i + 1)=ps.take i ++ [ps[i]]:=List.take_succ_eq_append_getElem lt
    rw [← en] at hS2
    refine wpAny_pure ⟨plainId_quiet F.plain_set_update_loop _,ih (i + 1) _ (by omega) lt (W.frame _ s' _ _ st' (Nat.le_add_right _ 3) fun b hb o e=>?_) hS2 (fun p hp=>?_) fun s'' hm'' hS''=>?_⟩
    · rw [hsb.2 b fun z:b=S=>hSf (z ▸ hb)];exact e
    · obtain ⟨⟨o,n,u,v,e1,e2,e3⟩,b,c⟩:=hpp' p hp
      exact ⟨⟨o,n,u,v,by rw [hsb.2 _ b];exact e1,e2,e3⟩,b,c⟩
    · refine hR s'' (Moved.trans W.gtrans ((hm.mono up).then_heap (Nat.le_add_right _ 3) fun b o hb e=>?_) hm'') hS''
      rw [hsb.2 b fun z:b=S=>hb (by rw [z];exact List.mem_cons_self)];exact e
end
section
variable {prog:Program}{w:World}{A:Around}{E:Value→Shared→Prop}{s:Shared}
theorem call_set_tupP {l:Addr}{ps:List Pr}{Q:Value→Shared→Prop}(hh:A.handled=none)(hu:A.units + 100 < cLine)(hl:s.heap.IsTuple l (ps.map prV).toArray)(hp:∀ p∈ps,PrAt s.heap p)(hd:(ps.map fun p=>hashP p.2.1 p.2.2).Nodup)(hb:ps.length < 40)
    (h:∀ (h':Heap) (tk:Nat),SetP w h' s.heap.objs.size ps→(∀ b o,s.heap.get? b=some o→h'.get? b=some o)→Q (.ref s.heap.objs.size) { s with heap:=h',toks:=tk }):wpAny (model prog w) A (call (.type "set") [.ref l]) Q E s:=by
  obtain ⟨c,tl,hmro⟩:=PySem.F.called_set.mro
  have k1:=PySem.F.called_set.made
  have k2:=PySem.F.called_set.sub
  refine wpAny_call (codeAny_of_tree ?_)
  show wpAny _ _ (callAny (.type "set") _) _ _ _
  refine wpAny_pure ⟨Code.quiet_builtin _ (by decide +kernel),codeAny_builtin PySem.F.entry_type_call ?_⟩
  rw [Around.under_plain (weight_type_call_type "set" [.ref l] []) rfl]
  have k3:=PySem.F.called_set.notType
  have k4:=PySem.F.called_set.canCreate
  have k5:=PySem.F.typeCall_set_1 (.ref l)
  repeat (any_goals (first | assumption | wp_step))
  refine codeAny_mono (set_newG (.ref l) (E:=E) (Q:=fun obj z=>obj = .ref s.heap.objs.size ∧ z={ s with heap:=s.heap.push (setObj #[] 0 (.fresh 0 0 (!byT w))) }) ⟨rfl,rfl⟩) fun r z hr=>?_
  cases r with
  | error e=>exact hr
  | ok fl =>
    cases fl with
    | ret obj =>
      obtain ⟨rfl,rfl⟩:=hr
      have gS:(s.heap.push (setObj #[] 0 (.fresh 0 0 (!byT w)))).get? s.heap.objs.size=some (setObj #[] 0 (.fresh 0 0 (!byT w))):=Heap.get?_push_size _ rfl
      have hT:Shared.TypeIs { s with heap:=s.heap.push (setObj #[] 0 (.fresh 0 0 (!byT w))) } (.ref s.heap.objs.size) "set":=⟨_,gS,rfl⟩
      have k6:=PySem.F.called_set.init.lookup
      have k7:=PySem.F.called_set.init.bind (.ref s.heap.objs.size)
      repeat (any_goals (first | assumption | wp_step))
      refine codeAny_mono (codeAny_call_builtin (R:=wants (fun r z=>r = .none ∧ ∃ h' tk,z={ s with heap:=h',toks:=tk }∧SetP w h' s.heap.objs.size ps∧(∀ b o,s.heap.get? b=some o→h'.get? b=some o)) E) PySem.F.called_set.init.plain PySem.F.entry_set_init (check_set_init_1 hT ?_)) fun r z hr=>?_
      · obtain ⟨ol,gl,cl,nl,dl⟩:=hl
        obtain ⟨o1,o2,o3,o4⟩:=ol
        simp only at cl dl
        subst cl dl
        have gl':(s.heap.push (setObj #[] 0 (.fresh 0 0 (!byT w)))).get? l=some { cls:=.type "tuple",dict:=o2,data:=.seq (ps.map prV).toArray nl,slots:=o4 }:=Heap.get?_push_of_some _ gl
        have t1:=sub_tuple_set
        have t2:=sub_tuple_frozenset
        have t3:(Value.type "tuple" == Value.type "dict")=false:=by decide
        have hl1:(s.heap.push (setObj #[] 0 (.fresh 0 0 (!byT w)))).IsTuple l (ps.map prV).toArray:=⟨_,gl',rfl,nl,rfl⟩
        unfold Builtin.«set.__init__» noKeywords Builtin.Frozenset.updateFrom
        generalize hPI:pyIter=PI
        wp_walk
        subst hPI
        refine wpAny_pyIter_tuple hl1 (wpAny_bind (wpAny_runValue ?_))
        have lt:l < s.heap.objs.size:=Heap.lt_size gl
        have h3:A.in1.in1.in1.handled=none:=by simp [hh]
        have ne:l≠(s.heap.push (setObj #[] 0 (.fresh 0 0 (!byT w)))).objs.size:=by rw [Heap.size_push];exact Nat.ne_of_lt (Nat.lt_succ_of_lt lt)
        have hSf:s.heap.objs.size ∉ [(s.heap.push (setObj #[] 0 (.fresh 0 0 (!byT w)))).objs.size,l]:=by
          rw [Heap.size_push];simp only [List.mem_cons,List.mem_singleton,List.not_mem_nil,or_false,not_or]
          exact ⟨Nat.ne_of_lt (Nat.lt_succ_self _),Nat.ne_of_gt lt⟩
        have hval:∀ (i:Nat) (v:Value),(ps.map prV).toArray[i]? = some v→∃ p,ps[i]? = some p∧v=prV p:=fun i v hv=>by
          rw [List.getElem?_toArray,List.getElem?_map] at hv
          obtain ⟨p,h1,h2⟩:=Option.map_eq_some_iff.mp hv
          exact ⟨p,h1,h2.symm⟩
        have hlen:(ps.map prV).toArray.size=ps.length:=by rw [List.size_toArray,List.length_map]
        have W:=(Walks.tuple h3 (prog:=prog) (w:=w) _ l ne (ps.map prV).toArray).toS
        rw [hlen] at W
        refine set_loopP W s.heap.objs.size hSf hval hb (by have e:A.in1.in1.units=A.units + 2:=rfl;omega) hd (ps.length - 0) 0 _ (by omega) (Nat.zero_le _) ⟨⟨_,Heap.get?_push_size _ rfl,rfl,rfl⟩,?_⟩ ?_ (fun p hpm=>?_) ?_
        · exact ⟨_,Heap.get?_push_of_some _ gl',rfl,nl,rfl⟩
        · exact setP_fresh w (Heap.get?_push_of_some _ gS)
        · obtain ⟨o,n,u,v,e1,e2,e3⟩:=hp p hpm
          have hlp:p.1 < s.heap.objs.size:=Heap.lt_size e1
          refine ⟨⟨o,n,u,v,Heap.get?_push_of_some _ (Heap.get?_push_of_some _ e1),e2,e3⟩,Nat.ne_of_lt hlp,?_⟩
          rw [Heap.size_push]
          simp only [List.mem_cons,List.not_mem_nil,or_false]
          exact Nat.ne_of_lt (Nat.lt_succ_of_lt hlp)
        · intro z hm hS'
          obtain ⟨h',g',d',tk',os'⟩:=z
          have eg:g'=s.gens:=hm.gens
          have ed:d'=s.drawn:=hm.drawn
          have eo:os'=s.os:=hm.os
          subst eg ed eo
          show wpAny _ _ _ _ _ _
          refine wpAny_pure ?_
          show wpAny _ _ (ret Value.none) _ _ _
          refine wpAny_pure ⟨rfl,h',tk',rfl,hS',fun b o e=>?_⟩
          have hb0:b < s.heap.objs.size:=Heap.lt_size e
          have hb2:b≠(s.heap.push (setObj #[] 0 (.fresh 0 0 (!byT w)))).objs.size:=by rw [Heap.size_push];exact Nat.ne_of_lt (Nat.lt_succ_of_lt hb0)
          exact hm.heap b o (by simp only [List.mem_cons,List.mem_singleton,List.not_mem_nil,or_false,not_or];exact ⟨Nat.ne_of_lt hb0,hb2⟩) (Heap.get?_push_of_some _ (Heap.get?_push_of_some _ e))
      · cases r with
        | error e=>exact hr
        | ok fl =>
          cases fl with
          | ret r =>
            obtain ⟨rfl,h',tk,rfl,hS',hk'⟩:=hr
            repeat (any_goals (first | assumption | wp_step))
            exact h _ _ hS' hk'
          | _=>exact hr.elim
    | _=>exact hr.elim
end
end MwSet
namespace L2
open PySem PySem.Spec PyProof.Rows
end L2
namespace L2
open PySem PySem.Spec PyProof.Rows
section
variable {prog:Program}{w:World}{A:Around}{E:Value→Shared→Prop}{s:Shared}
def PairO (s:Shared) (a:Addr) (x c:Int):Prop:=∃ o n t u,s.heap.get? a=some o∧o.cls = .type "tuple"∧o.data = .seq #[.int x t,.int c u] n
theorem pairO {X:Cx}{pins:List (Addr × Obj)}{σ:St}{H:Hp}{s:Shared}(I:Inv X pins σ H s){a:Addr}{x c:Int}(h:H a=some (.tup [.int x,.int c])):PairO s a x c:=by
  obtain ⟨z,its,rv,o,ho,hc,n,hd⟩:=(show ObjOk X.prog X.w H s.heap a (.tup [.int x,.int c]) from I.hok a _ h)
  cases rv with
  | cons e1 rv=>cases rv with
    | cons e2 rv =>
      cases rv
      obtain ⟨t,rfl⟩:=e1
      obtain ⟨u,rfl⟩:=e2
      exact ⟨o,n,t,u,ho,hc,hd⟩
end
end L2
namespace MwSortR
open PySem PyProof.Rows
end MwSortR
namespace L2
open PySem PySem.Spec PyProof.Rows MwSortR
section
variable {X:Cx}
theorem refs_vals:∀ {ps:List Pr} {us:List Value},Vals (ps.map fun t=>V.ref t.1) us→us=ps.map prV
  | [],_,.nil=>rfl
  | t :: ps,_,.cons r q=>by
    cases r
    rw [refs_vals q]
    rfl
theorem vals_refs:∀ (ps:List Pr),Vals (ps.map fun t=>V.ref t.1) (ps.map prV)
  | []=>.nil
  | t :: ps=>.cons rfl (vals_refs ps)
end
end L2
set_option maxHeartbeats 3200000
namespace MwSet
open PySem PySem.Spec PyProof.Rows MwSortR
section
variable {prog:Program}{w:World}{A:Around}{E:Value→Shared→Prop}{s:Shared}
def SetWalkP (prog:Program)(w:World)(A:Around)(lo:Nat)(I a:Addr)(h:Heap)(us:List Value):Prop :=
  ∃ (fp:List Addr) (St:Nat→Heap→Prop) (L:List Value),I∈fp∧(∀ b∈fp,b=a ∨ lo≤b)∧L.Perm us∧Walks prog w A I fp [I] L.length (fun i v=>L[i]? = some v) St∧St 0 h
theorem set_iterP {a:Addr}{ps:List Pr}{Q:Value→Shared→Prop}(S:SetP w s.heap a ps)
    (hQ:∀ (h':Heap) (I:Addr),(∀ b o,s.heap.get? b=some o→h'.get? b=some o)→s.heap.objs.size ≤ I→(∀ B:Around,B.handled=none→SetWalkP prog w B s.heap.objs.size I a h' (ps.map prV))→Q (.ref I) { s with heap:=h' }):wpAny (model prog w) A (pyIter (.ref a)) Q E s:=by
  obtain ⟨es,ep,t,ea,hes,g⟩:=S
  have hf:=g.fits
  have hT:s.TypeIs (.ref a) "set":=⟨_,ea,rfl⟩
  have ha:a < s.heap.objs.size:=Heap.lt_size ea
  have hpv:(es.toList.map (·.2)).Perm (ps.map prV):=by
    have:=hes.map (·.2)
    rw [List.map_map] at this
    exact this
  refine wpAny_pyIter_slot hT PySem.F.slot_set_iter (wpAny_call_entry PySem.F.slot_set_iter hT entry_set_iter ?_ (PySem.F.args_set_iter_1 _))
  unfold Builtin.«frozenset.__iter__»
  refine wpAny_bind (m:=Builtin.Frozenset.slot0 "__iter__" _) ?_
  show wpAny _ _ (pure a) _ _ s
  refine wpAny_pure (wpAny_bind (sizeOf_set ea hf (wpAny_bind (drawn_set ea hf ?_))))
  have hdr:(!byT w && (!t.plain && decide (es.size > 1)))=false:=by rw [g.plain];simp
  rw [hdr,if_neg Bool.false_ne_true]
  refine wpAny_bind (wpAny_pure (wpAny_bind (wpAny_setEpoch_of ea rfl hf ?_)))
  refine wpAny_bind (wpAny_newObj_type (wpAny_pure ⟨_,rfl,"set_iterator",_,⟨_,Heap.get?_push_size _ rfl,rfl⟩,slot_si_next.lookup,?_⟩))
  refine hQ _ _ (fun b o e=>Heap.get?_push_of_some _ e) (Nat.le_refl _) fun B hB=>?_
  have st1:(s.heap.push (itObj (rawInt 0) 0 a es.size ep)).get? s.heap.objs.size=some (itObj (rawInt 0) 0 a es.size ep):=Heap.get?_push_size _ rfl
  have st2:(s.heap.push (itObj (rawInt 0) 0 a es.size ep)).get? a=some (setObj es ep t):=Heap.get?_push_of_some _ ea
  have mem:∀ b∈[s.heap.objs.size,a],b=a ∨ s.heap.objs.size ≤ b:=fun b hb'=>by
    simp only [List.mem_cons,List.not_mem_nil,or_false] at hb'
    rcases hb' with e | e
    · rw [e];exact .inr (Nat.le_refl _)
    · exact .inl e
  cases hby:byT w with
  | true =>
    have W:=walk_byText (prog:=prog) (w:=w) hB (I:=s.heap.objs.size) (a:=a) (ep:=ep) (Nat.ne_of_lt ha) hf hby
    have pp:=pick_perm (w.params.setOrder a ep) es
    refine ⟨[s.heap.objs.size,a],(fun i h=>h.get? s.heap.objs.size=some (itObj (.int 0 0) i a es.size ep)∧h.get? a=some (setObj es ep t)),_,List.mem_cons_self,mem,(pp.map (·.2)).trans hpv,?_,?_⟩
    · rw [show ((pickOrder (w.params.setOrder a ep) es).toList.map (·.2)).length=es.size by have:=pp.length_eq;simpa using this]
      exact W
    · exact ⟨st1,st2⟩
  | false =>
    have hl:t.led=true:=by rw [g.led,hby];rfl
    have W:=walk_plain (prog:=prog) (w:=w) hB (I:=s.heap.objs.size) (a:=a) (ep:=ep) (Nat.ne_of_lt ha) hf hby hl (.inl g.plain) g.rs
    refine ⟨[s.heap.objs.size,a],(fun i h=>h.get? s.heap.objs.size=some (itObj (.int (slotAt t i) 0) i a es.size ep)∧h.get? a=some (setObj es ep t)),_,List.mem_cons_self,mem,hpv,?_,?_⟩
    · rw [show (es.toList.map (·.2)).length=es.size by simp]
      exact W
    · exact ⟨st1,st2⟩
theorem collect_setP {a:Addr}{ps:List Pr}{R:List Value→Shared→Prop}(hh:A.handled=none)(S:SetP w s.heap a ps)(hz:ps.length ≤ sizeLine)
    (h:∀ (vs:List Value) (h₁:Heap) (t:Nat),vs.Perm (ps.map prV)→vs.length ≤ sizeLine→(∀ b o,s.heap.get? b=some o→h₁.get? b=some o)→R vs { s with heap:=h₁,toks:=t }):wpAny (model prog w) A (collect (.ref a)) R E s:=by
  have ha:a < s.heap.objs.size:=by obtain ⟨es,ep,t,ea,_⟩:=S;exact Heap.lt_size ea
  unfold collect
  refine wpAny_bind (wpAny_runValue (codeAny_builtin entry_proto_collect' ?_))
  rw [Around.under_plainId PySem.F.plain_proto_collect _]
  show wpAny _ A.in1 (newList [] >>= fun l=>again (.builtin "list.__iadd__" ⟨[l,.ref a],[]⟩)) _ _ s
  refine wpAny_bind (wpAny_newObj_type (wpAny_pure ⟨plainId_quiet PySem.F.plain_list_iadd _,codeAny_builtin entry_list_iadd' ?_⟩))
  rw [Around.under_plainId PySem.F.plain_list_iadd _]
  have gS:(s.heap.push { cls:=.type "list",data:=.seq ([]:List Value).toArray }).get? s.heap.objs.size=some { cls:=.type "list",data:=.seq #[] }:=Heap.get?_push_size _ rfl
  have S1:SetP w (s.heap.push { cls:=.type "list",data:=.seq ([]:List Value).toArray }) a ps:=S.at fun o e=>Heap.get?_push_of_some _ e
  have hT1:Shared.TypeIs { s with heap:=s.heap.push { cls:=.type "list",data:=.seq ([]:List Value).toArray } } (.ref a) "set":=by obtain ⟨es,ep,t,ea,_⟩:=S1;exact ⟨_,ea,rfl⟩
  show wpAny _ A.in1 (Builtin.List.listExtendWith (.ref s.heap.objs.size) (.ref a) (.ref s.heap.objs.size)) _ _ _
  unfold Builtin.List.listExtendWith
  refine wpAny_bind (wpAny_typeOf (T := "set") hT1 ?_)
  have n1:Builtin.List.listSameRef (.ref s.heap.objs.size) (.ref a)=false:=by simp [Builtin.List.listSameRef];exact Nat.ne_of_gt ha
  have n2:(Value.type "set" == Value.type "list")=false:=by decide
  have n3:(Value.type "set" == Value.type "tuple")=false:=by decide
  simp only [n1,n2,n3,Bool.or_false,Bool.false_eq_true,if_false]
  refine wpAny_bind (set_iterP S1 fun h' I hk hle hW=>?_)
  obtain ⟨fp,St,L,hIf,hlt,hP,W,st⟩:=hW A.in1 (by simp [hh])
  have e1:=hk _ _ gS
  have hT2:Shared.TypeIs { s with heap:=h' } (.ref a) "set":=by obtain ⟨es,ep,t,ea,_⟩:=S1;exact ⟨_,hk _ _ ea,rfl⟩
  refine wpAny_bind (wpAny_holding (hint_set hT2 ?_))
  have hml:L.length ≤ sizeLine:=by rw [hP.length_eq,List.length_map];exact hz
  have sz1:(s.heap.push { cls:=.type "list",data:=.seq ([]:List Value).toArray }).objs.size=s.heap.objs.size + 1:=Heap.size_push _ _
  have hSf:s.heap.objs.size ∉ fp:=fun z=>by
    rcases hlt _ z with e | e
    · exact absurd e.symm (Nat.ne_of_lt ha)
    · rw [sz1] at e;exact absurd e (Nat.not_succ_le_self _)
  have hSI:s.heap.objs.size ≠ I:=fun z=>hSf (z ▸ hIf)
  have key:∀ (g:Heap) (c tk:Nat),St 0 g→(∀ b o,s.heap.get? b=some o→g.get? b=some o)→g.get? s.heap.objs.size=some { cls:=.type "list",data:=.seq #[] c } →
      codeAny (model prog w) A (.builtin "list.extend.loop" ⟨[.ref s.heap.objs.size,.ref I,.ref s.heap.objs.size],[]⟩)
        (fun (q:Result) (z:Shared)=>∃ (h₁:Heap) (tk:Nat) (acc:Array Value) (c:Nat),q = .ok (.ret (.ref s.heap.objs.size))∧z={ s with heap:=h₁,toks:=tk }∧(∀ b o,s.heap.get? b=some o→h₁.get? b=some o)∧h₁.get? s.heap.objs.size=some { cls:=.type "list",dict:=none,data:=.seq acc c,slots:=#[] }∧ItemsOf (fun i v=>L[i]? = some v) acc L.length)
        { s with heap:=g,toks:=tk }:=fun g c tk st' hk' hS'=>by
    refine codeAny_extend_loopS W.toS hml s.heap.objs.size hSf _ L.length 0 _ #[] c rfl (Nat.zero_le _) st' hS' (ItemsOf.nil _) fun z acc c' hm hz' hacc=>?_
    rw [Moved.eq_with hm]
    refine ⟨z.heap,z.toks,acc,c',rfl,rfl,fun b o e=>hm.heap b o (fun hmem=>?_) (hk' b o e),hz',hacc⟩
    have hlt':b < s.heap.objs.size:=Heap.lt_size e
    rcases List.mem_cons.mp hmem with q | q
    · exact absurd q (Nat.ne_of_lt hlt')
    · have:b=I:=by simpa using q
      rw [this] at hlt'
      have hle':(s.heap.push { cls:=.type "list",data:=.seq ([]:List Value).toArray }).objs.size ≤ I:=hle
      rw [sz1] at hle'
      exact absurd (Nat.lt_of_lt_of_le hlt' (Nat.le_of_succ_le hle')) (Nat.lt_irrefl _)
  have fin:∀ (q:Result) (z:Shared),(∃ (h₁:Heap) (tk:Nat) (acc:Array Value) (c:Nat),q = .ok (.ret (.ref s.heap.objs.size))∧z={ s with heap:=h₁,toks:=tk }∧(∀ b o,s.heap.get? b=some o→h₁.get? b=some o)∧h₁.get? s.heap.objs.size=some { cls:=.type "list",dict:=none,data:=.seq acc c,slots:=#[] }∧ItemsOf (fun i v=>L[i]? = some v) acc L.length) →
      ∃ (acc:Array Value) (h₁:Heap) (tk c:Nat),q = .ok (.ret (.ref s.heap.objs.size))∧z={ s with heap:=h₁,toks:=tk }∧h₁.get? s.heap.objs.size=some { cls:=.type "list",dict:=none,data:=.seq acc c,slots:=#[] }∧R acc.toList { s with heap:=h₁,toks:=tk }:=fun q z ⟨h₁,tk,acc,c,e1,e2,hk',hg,hacc⟩=>by
    refine ⟨acc,h₁,tk,c,e1,e2,hg,?_⟩
    have eL:acc.toList=L:=by
      apply List.ext_getElem?
      intro k
      have hl1:acc.size=L.length:=hacc.1
      by_cases hk0:k < L.length
      · have hk1:k < acc.size:=by omega
        have:=hacc.2 k acc[k] (Array.getElem?_eq_getElem hk1)
        rw [this,Array.getElem?_toList,Array.getElem?_eq_getElem hk1]
      · rw [List.getElem?_eq_none (by simp;omega),List.getElem?_eq_none (by omega)]
    rw [eL]
    exact h L h₁ tk hP hml hk'
  have keep:∀ b o,s.heap.get? b=some o→h'.get? b=some o:=fun b o e=>hk b o (Heap.get?_push_of_some _ e)
  refine wpAny_ite_split (fun _=>?_) (fun _=>wpAny_pure ⟨plainId_quiet PySem.F.plain_extend_loop _,codeAny_mono (key h' 0 s.toks st keep e1) fun q z y=>?_⟩)
  · refine wpAny_bind (wpAny_rule (wpAny_bind ?_))
    show wpAny _ _ (updateSeq s.heap.objs.size (·.push .none) >>= fun _=>updateSeq s.heap.objs.size (·.pop)) _ _ _
    refine wpAny_bind (wpAny_updateSeq e1 rfl ?_)
    have e2:=Heap.get?_update_self (Obj.mapSeq (·.push Value.none)) e1 rfl
    refine wpAny_updateSeq (hz:=by seq_fits) e2 rfl ?_
    have e3:=Heap.get?_update_self (Obj.mapSeq (·.pop)) e2 rfl
    refine wpAny_pure ⟨plainId_quiet PySem.F.plain_extend_loop _,codeAny_mono (key _ _ s.toks ?_ ?_ e3) fun q z y=>?_⟩
    · refine W.frame 0 _ _ st fun b hb o e=>?_
      have hbS:s.heap.objs.size ≠ b:=fun z=>hSf (z ▸ hb)
      exact (Heap.get?_update_other _ _ hbS).trans ((Heap.get?_update_other _ _ hbS).trans e)
    · intro b o e
      have hbS:s.heap.objs.size ≠ b:=Nat.ne_of_gt (Heap.lt_size e)
      exact (Heap.get?_update_other _ _ hbS).trans ((Heap.get?_update_other _ _ hbS).trans (keep b o e))
    · obtain ⟨acc,h₁,tk,c,rfl,rfl,hg,hR⟩:=fin q z y
      show wpAny _ A (load s.heap.objs.size >>= _) _ _ _
      exact wpAny_bind (wpAny_load hg (wpAny_pure hR))
  · obtain ⟨acc,h₁,tk,c,rfl,rfl,hg,hR⟩:=fin q z y
    show wpAny _ A (load s.heap.objs.size >>= _) _ _ _
    exact wpAny_bind (wpAny_load hg (wpAny_pure hR))
theorem sorted_setP {a:Addr}{ps:List Pr}{Q:Value→Shared→Prop}(hh:A.handled=none)(S:SetP w s.heap a ps)(hz:ps.length ≤ sizeLine)(hp:∀ t∈ps,PrAt s.heap t∧0≤t.2.2 ∧ t.2.2 < 1000)
    (h:∀ (h₁ h':Heap) (tk:Nat) (D:Addr) (c:Nat) (out:List Pr),(∀ b o,s.heap.get? b=some o→h₁.get? b=some o)→(∀ b o,h₁.get? b=some o→h'.get? b=some o)→h₁.objs.size ≤ D→h'.get? D=some (seqObj "list" (out.map prV).toArray c)→out.Perm ps→out.Pairwise (fun x y=>rk x≤rk y)→Q (.ref D) { s with heap:=h',toks:=tk }) :
    wpAny (model prog w) A (call (.builtin "sorted") [.ref a]) Q E s:=by
  refine Calls.call_function_entry kind_sorted plain_sorted entry_sorted (args_sorted1 _) ?_
  unfold Builtin.«sorted»
  refine wpAny_bind (m:=checkCount "sorted" 1 1 _) (wpAny_pure (wpAny_bind (collect_setP (by simp [hh]) S hz fun vs h₁ t hP hl hk=>?_)))
  obtain ⟨qs,pq,rfl⟩:=perm_map_back hP
  have hzq:qs.length ≤ sizeLine:=by rw [pq.length_eq];exact hz
  refine wpAny_bind (wpAny_newList ?_)
  have g:(h₁.push (seqObj "list" (qs.map prV).toArray 0)).get? h₁.objs.size=some (seqObj "list" (qs.map prV).toArray 0):=Heap.get?_push_size _ rfl
  show wpAny _ _ _ _ _ { s with heap:=h₁.push (seqObj "list" (qs.map prV).toArray 0),toks:=t }
  have hp1:∀ t∈qs,PrAt (h₁.push (seqObj "list" (qs.map prV).toArray 0)) t∧0≤t.2.2 ∧ t.2.2 < 1000:=fun t ht=>by
    obtain ⟨⟨o,m,u,v,e1,e2,e3⟩,b⟩:=hp t (pq.mem_iff.mp ht)
    exact ⟨⟨o,m,u,v,Heap.get?_push_of_some _ (hk _ _ e1),e2,e3⟩,b⟩
  refine wpAny_bind (wpAny_holding (wpAny_call_entry slot_list_sort ⟨_,g,rfl⟩ entry_list_sort (list_sort_pairs g hp1 hzq fun out i2 i3=>⟨_,rfl,?_⟩) (args_list_sort _)))
  obtain ⟨c,gc⟩:=MwSort.sortedHeap_at (vs:=qs.map prV) (out:=(out.map prV).toArray) g
  exact wpAny_pure ⟨_,rfl,h h₁ _ t _ c out hk (fun b o e=>MwSort.sortedHeap_keep (Nat.ne_of_lt (Heap.lt_size e)) (Heap.get?_push_of_some _ e)) (Nat.le_refl _) gc (i2.trans pq) i3⟩
end
end MwSet
namespace L2
open PySem PySem.Spec PyProof.Rows MwSortR
theorem hu100 {A:Around}{k:Nat}(hr:Room k A):A.units + 100 < cLine:=by have:=hr.un;omega
section
variable {X:Cx}
def SetPO (w:World)(a:Addr)(ps:List Pr):HO:=.ext fun h=>MwSet.SetP w h a ps
theorem hash_nodup {ps:List Pr}(hb:∀ t∈ps,(0≤t.2.1 ∧ t.2.1 < 6)∧0≤t.2.2 ∧ t.2.2 < 6)(hd:(ps.map (·.2)).Nodup):(ps.map fun p=>MwSet.hashP p.2.1 p.2.2).Nodup:=by
  unfold List.Nodup at hd ⊢
  rw [List.pairwise_map] at hd ⊢
  refine List.Pairwise.imp_of_mem ?_ hd
  rintro ⟨a,i,j⟩ ⟨b,k,l⟩ ha hb' hne e
  obtain ⟨⟨i0,i6⟩,j0,j6⟩:=hb _ ha
  obtain ⟨⟨k0,k6⟩,l0,l6⟩:=hb _ hb'
  dsimp only at *
  obtain ⟨i',rfl⟩:=Int.eq_ofNat_of_zero_le i0
  obtain ⟨j',rfl⟩:=Int.eq_ofNat_of_zero_le j0
  obtain ⟨k',rfl⟩:=Int.eq_ofNat_of_zero_le k0
  obtain ⟨l',rfl⟩:=Int.eq_ofNat_of_zero_le l0
  obtain ⟨rfl,rfl⟩:=MwSet.hashP_inj (by omega) (by omega) (by omega) (by omega) e
  exact hne rfl
theorem call_setP (hc:X.calm=true) (hu:X.A.units + 100 < cLine):CallR X (.type "set") (fun xs H Q=>∃ (p:Addr) (ps:List Pr),xs=[.ref p]∧H p=some (.tup (ps.map fun t=>V.ref t.1))∧(∀ t∈ps,H t.1=some (.tup [.int t.2.1,.int t.2.2]))∧(∀ t∈ps,(0≤t.2.1 ∧ t.2.1 < 6)∧0≤t.2.2 ∧ t.2.2 < 6)∧(ps.map (·.2)).Nodup ∧ ps.length < 40∧∀ l,H l=none→Q (.ref l) (upd H l (SetPO X.w l ps))):=by
  intro pins s σ H xs us Q I r h
  obtain ⟨p,ps,rfl,hp,ht,hb,hd,hl,q⟩:=h
  obtain ⟨u,rfl,e⟩:=vals1 r
  obtain rfl:u=Value.ref p:=e
  obtain ⟨z,its,rv,hT⟩:=(show ObjOk X.prog X.w H s.heap p (.tup (ps.map fun t=>V.ref t.1)) from I.hok p _ hp)
  obtain rfl:=refs_vals rv
  refine MwSet.call_set_tupP (I.ok.hd hc) hu hT (fun t m=>?_) (hash_nodup hb hd) hl fun h' tk hS hk=>?_
  · obtain ⟨o,n,u,v,h1,h2,h3⟩:=pairO I (ht t m)
    exact ⟨o,n,u,v,h1,h2,h3⟩
  refine ⟨.ref s.heap.objs.size,_,I.laid (o:=SetPO X.w s.heap.objs.size ps) hk (Nat.le_refl _) ⟨hS,?_,fun h1 h2 hS1 hk1=>hS1.at fun o e=>hk1 o e⟩,rfl,q _ (I.hok.fresh (Nat.le_refl _))⟩
  obtain ⟨es,ep,t,e,_⟩:=hS
  exact ⟨_,e⟩
theorem call_sorted_setP (hc:X.calm=true) {w:World} (hw:X.w=w):CallR X (.builtin "sorted") (fun xs H Q=>∃ (p:Addr) (ps:List Pr),xs=[.ref p]∧H p=some (SetPO w p ps)∧ps.length ≤ 4096∧(∀ t∈ps,H t.1=some (.tup [.int t.2.1,.int t.2.2])∧0≤t.2.2 ∧ t.2.2 < 1000)∧∀ (l:Addr) (out:List Pr),H l=none→out.Perm ps→out.Pairwise (fun x y=>rk x≤rk y)→Q (.ref l) (upd H l (.lst (out.map fun t=>V.ref t.1)))):=by
  subst hw
  intro pins s σ H xs us Q I r h
  obtain ⟨p,ps,rfl,hp,hb,ht,q⟩:=h
  obtain ⟨u,rfl,e⟩:=vals1 r
  obtain rfl:u=Value.ref p:=e
  obtain ⟨hS,_⟩:=(show ObjOk X.prog X.w H s.heap p (SetPO X.w p ps) from I.hok p _ hp)
  have hz:ps.length ≤ sizeLine:=Nat.le_trans hb (by decide)
  refine MwSet.sorted_setP (I.ok.hd hc) hS hz (fun t m=>⟨?_,(ht t m).2⟩) fun h₁ h' tk D c out k1 k2 hD hgd i2 i3=>?_
  · obtain ⟨o,n,u,v,h1,h2,h3⟩:=pairO I (ht t m).1
    exact ⟨o,n,u,v,h1,h2,h3⟩
  · have I1:Inv X pins σ H { s with heap:=h₁,toks:=s.toks }:=I.kept (t':=s.toks) k1
    refine ⟨.ref D,_,I1.laid (t':=tk) (o:=.lst (out.map fun t=>V.ref t.1)) k2 hD ⟨?_,_,c,vals_refs out,hgd⟩,rfl,q D out (I1.hok.fresh hD) i2 i3⟩
    rw [List.length_map,i2.length_eq]
    exact hz
end
end L2
namespace L2
open PySem PySem.Spec PyProof.Rows
end L2
namespace L2
open PySem PySem.Spec PyProof.Rows
structure FlyB (P:Program)(w:World)(outer:List Env)(H H':Hp)(hA B:Heap):Prop where
  hok:HOk P w H' B
  keep:∀ b o,hA.get? b=some o→H b=none→b ∉ frs outer→B.get? b=some o
  free:∀ b o,hA.get? b=some o→H b=none→H' b=none
  there:∀ b o,hA.get? b=some o→b ∉ frs outer→∃ u,B.get? b=some u
  tups:∀ b xs,H b=some (.tup xs)→H' b=some (.tup xs)
  frzs:∀ b o u,H b=some (.frz o u)→H' b=some (.frz o u)
  tbls:∀ b ps,H b=some (.tbl ps)→∃ more,H' b=some (.tbl (ps ++ more))
def Fly (P:Program)(w:World)(outer:List Env)(H H':Hp)(hA h:Heap)(x:Addr)(C:Value):Prop :=
  ∃ B arg,FlyB P w outer H H' hA B∧Heap.FlyingW B outer x C arg h∧∀ b o,hA.get? b=some o→b∈frs outer→∃ sl,h.get? b=some { o with slots:=sl }
def CXE (P:Program)(w:World):CXT:=fun outer H s E e s'=>∃ (x:Addr) (C:Value) (H':Hp),e = .ref x∧s'.os=s.os ∧ AllBare s'.gens ∧ Fly P w outer H H' s.heap s'.heap x C∧E C none H'
section
variable {P:Program}{w:World}{outer:List Env}{H H':Hp}{hA h:Heap}{x:Addr}{C:Value}
theorem Fly.un (F:Fly P w outer H H' hA h x C):Un (frs outer) [] H H' hA h∧HOk P w H' h:=by
  obtain ⟨B,arg,b,f,fr⟩:=F
  exact ⟨⟨fun c o e n hc _=>f.1 _ _ (b.keep c o e n hc),fun c o e n hc _=>fr c o e hc,fun c o e n _=>b.free c o e n,fun c o e _=>by
    by_cases hc:c∈frs outer
    · obtain ⟨sl,e2⟩:=fr c o e hc
      exact ⟨_,e2⟩
    · obtain ⟨u,e2⟩:=b.there c o e hc
      exact ⟨u,f.1 _ _ e2⟩,b.tups,b.frzs,b.tbls⟩,b.hok.kept f.1⟩
end
section
variable {P:Program}{w:World}{K:PySem.W.Frag}{mg:Str→Option Value}{base:Heap}{N:List Str}{qual:Str}{scope:Scope}{f:Addr}{cd:Value}{A:Around}{outer:List Env}{s:Shared}{H:Hp}{E:XK}
theorem raise_out {pins:List (Addr × Obj)}{σ:St}{H1:Hp}{s1:Shared}{h2:Heap}{e:Addr}{cls:Value}{args:List Value}(I:Inv (cxOf (CXE P w) P w K mg base N qual scope f cd A outer s H E) pins σ H1 s1)
    (hm:Heap.MadeExcOf s1.heap h2 e cls args) (hE:E cls none H1):(cxOf (CXE P w) P w K mg base N qual scope f cd A outer s H E).xe (.ref e) { s1 with heap:=h2 }:=by
  have hst:frs (envOfC qual scope s.heap.objs.size f cd :: outer)=s.heap.objs.size :: frs outer:=rfl
  have hfr:(A.deeper (envOfC qual scope s.heap.objs.size f cd)).frames=some (envOfC qual scope s.heap.objs.size f cd :: outer):=I.ok.frames
  have hfun:s1.heap.FunFrames base (envOfC qual scope s.heap.objs.size f cd :: outer):=I.stack
  have hin:∀ env∈(envOfC qual scope s.heap.objs.size f cd :: outer),∀ b,env.frame=some b→b∈frs (envOfC qual scope s.heap.objs.size f cd :: outer):=fun env he b hb=>List.mem_filterMap.mpr ⟨env,he,hb⟩
  have free:∀ b∈frs (envOfC qual scope s.heap.objs.size f cd :: outer),H1 b=none:=I.stkFree
  show wpAny (model P w) (A.deeper (envOfC qual scope s.heap.objs.size f cd)) (leaving (envOfC qual scope s.heap.objs.size f cd) (.ref e)) (fun _ s''=>CXE P w outer H s E (.ref e) s'') (fun e' s''=>CXE P w outer H s E e' s'') { s1 with heap:=h2 }
  generalize hB:PySem.W.hideAll s1.heap (frs (envOfC qual scope s.heap.objs.size f cd :: outer))=B
  have hkb:B.StaysIn s1.heap:=fun b o q=>by rw [← hB] at q;exact PySem.W.of_hideAll _ q
  have inB:∀ b o,s1.heap.get? b=some o→b ∉ frs (envOfC qual scope s.heap.objs.size f cd :: outer)→B.get? b=some o:=fun b o q n=>by rw [← hB];exact PySem.W.hideAll_get _ q n
  have hl:s1.heap.FunFrames B (envOfC qual scope s.heap.objs.size f cd :: outer):=by rw [← hB];exact PySem.W.funFrames_hide hfun hin
  refine wpAny_leaves_madeW (base:=B) (s:={ s1 with heap:=h2 }) hfr rfl hkb hl hm fun h' t hfl htup htn hup=>?_
  have nL:∀ b o,s.heap.get? b=some o→b ∉ frs outer→b ∉ frs (envOfC qual scope s.heap.objs.size f cd :: outer):=fun b o e n z=>by
    rw [hst] at z
    rcases List.mem_cons.mp z with q | q
    · exact absurd (Heap.lt_size e) (by rw [q];exact Nat.lt_irrefl _)
    · exact n q
  have ub:Un (frs outer) [] H H1 s.heap s1.heap:=I.base
  have noE:∀ b:Addr,b ∉ ([]:List Addr):=fun b z=>by cases z
  refine ⟨e,cls,H1,rfl,I.os,I.bare,⟨B,_,⟨fun a o ea=>?_,fun b o q n hb=>inB b o (ub.keep b o q n hb (noE b)) (nL b o q hb),fun b o q n=>ub.free b o q n (noE b),fun b o q hb=>?_,ub.tups,ub.frzs,ub.tbls⟩,hfl,fun b o q hb=>?_⟩,hE⟩
  · refine (I.hok a o ea).stay (fun b u hb q=>inB b u q fun z=>?_) (fun _ q=>q) fun _ _ q=>q
    rcases hb with rfl | hb
    · rw [free _ z] at ea;cases ea
    · rw [free _ z] at hb;cases hb
  · obtain ⟨u,eu⟩:=ub.there b o q (noE b)
    exact ⟨u,inB b u eu (nL b o q hb)⟩
  · have hz:H b=none:=I.ok.frf b hb
    obtain ⟨sl,e1⟩:=ub.slot b o q hz hb (noE b)
    have e2:=hm.keeps b _ e1
    have hd:∀ vs,o.data ≠ .fields vs:=fun vs z=>by
      obtain ⟨_,o',ho',hnd⟩:=hfun.mem (b:=b) (List.mem_cons_of_mem _ hb)
      rw [e1] at ho'
      cases ho'
      exact hnd vs z
    obtain ⟨sl2,e3⟩:=hup b _ e2 hd
    exact ⟨sl2,e3⟩
theorem pass_out:Passes (CXE P w) (cxOf (CXE P w) P w K mg base N qual scope f cd A outer s H E) E:=by
  intro pins σ H1 s1 e s2 I hc
  obtain ⟨x,C,H2,rfl,os,bare,⟨B,arg,b,hfl,fr⟩,hE⟩:=hc
  have hst:frs (envOfC qual scope s.heap.objs.size f cd :: outer)=s.heap.objs.size :: frs outer:=rfl
  have hfr:(A.deeper (envOfC qual scope s.heap.objs.size f cd)).frames=some (envOfC qual scope s.heap.objs.size f cd :: outer):=I.ok.frames
  have hfun:s1.heap.FunFrames base (envOfC qual scope s.heap.objs.size f cd :: outer):=I.stack
  show wpAny (model P w) (A.deeper (envOfC qual scope s.heap.objs.size f cd)) (leaving (envOfC qual scope s.heap.objs.size f cd) (.ref x)) (fun _ s''=>CXE P w outer H s E (.ref x) s'') (fun e' s''=>CXE P w outer H s E e' s'') s2
  have nL:∀ b o,s.heap.get? b=some o→b ∉ frs outer→b ∉ frs (envOfC qual scope s.heap.objs.size f cd :: outer):=fun b o e n z=>by
    rw [hst] at z
    rcases List.mem_cons.mp z with q | q
    · exact absurd (Heap.lt_size e) (by rw [q];exact Nat.lt_irrefl _)
    · exact n q
  have ub:Un (frs outer) [] H H1 s.heap s1.heap:=I.base
  have noE:∀ b:Addr,b ∉ ([]:List Addr):=fun b z=>by cases z
  refine wpAny_leaves_onW (base:=B) hfr rfl hfl fun h' hfl' hup=>?_
  refine ⟨x,C,H2,rfl,os.trans I.os,bare,⟨B,arg,⟨b.hok,fun c o q n hc=>b.keep c o (ub.keep c o q n hc (noE c)) (ub.free c o q n (noE c)) (nL c o q hc),fun c o q n=>?_,fun c o q hc=>?_,fun c xs q=>b.tups c xs (ub.tups c xs q),fun c o u q=>b.frzs c o u (ub.frzs c o u q),fun c ps q=>?_⟩,hfl',fun c o q hc=>?_⟩,hE⟩
  · obtain ⟨u,eu⟩:=ub.there c o q (noE c)
    exact b.free c u eu (ub.free c o q n (noE c))
  · obtain ⟨u,eu⟩:=ub.there c o q (noE c)
    exact b.there c u eu (nL c o q hc)
  · obtain ⟨m1,e1⟩:=ub.tbls c ps q
    obtain ⟨m2,e2⟩:=b.tbls c _ e1
    exact ⟨m1 ++ m2,by rw [← Array.append_assoc];exact e2⟩
  · have hz:H c=none:=I.ok.frf c hc
    obtain ⟨sl,e1⟩:=ub.slot c o q hz hc (noE c)
    obtain ⟨sl1,e2⟩:=fr c _ e1 (List.mem_cons_of_mem _ hc)
    have hd:∀ vs,o.data ≠ .fields vs:=fun vs z=>by
      obtain ⟨_,o',ho',hnd⟩:=hfun.mem (b:=c) (List.mem_cons_of_mem _ hc)
      rw [e1] at ho'
      cases ho'
      exact hnd vs z
    obtain ⟨sl2,e3⟩:=hup c _ e2 hd
    exact ⟨sl2,e3⟩
end
def DfX (P:Program)(w:World)(K:PySem.W.Frag)(mg:Str→Option Value)(base:Heap)(k:Nat)(x:Str)(ps:List Str)(sp:Sp):Prop :=
  ∃ (f:Addr) (fd:FuncData),FnOk P w K mg base (CXE P w) k f fd ps sp∧mg x=some (.ref f)∧PySem.W.keepIn K (.ref f)=true∧Binds K fd ps []
def DfMX (P:Program)(w:World)(K:PySem.W.Frag)(mg:Str→Option Value)(base:Heap)(k:Nat)(C:Addr)(m:Str)(ps:List Str)(sp:Sp):Prop :=
  ∃ (f:Addr) (fd:FuncData),FnOk P w K mg base (CXE P w) k f fd ps sp∧Meth K C m f∧Binds K fd ps []
section
variable {P:Program}{w:World}{K:PySem.W.Frag}{mg:Str→Option Value}{base:Heap}
theorem Raw.okX {x:Str}{ps N:List Str}{st:Stmt}{k:Nat}{sp:Sp}(R:Raw K mg x ps st)(S:FnScope N ps (defScope st))(len:∀ vs H Q E,sp vs H Q E→vs.length=ps.length)
    (hbody:∀ (f:Addr) (cdv:Value) (A:Around) (outer:List Env) (s:Shared) (H:Hp) (vs:List V) (Q:VK) (E:XK),Room k (A.deeper (envOfC x (defScope st) s.heap.objs.size f cdv))→sp vs H Q E →
      ∃ t,PSs (cxOf (CXE P w) P w K mg base N x (defScope st) f cdv A outer s H E) (defBody st) t∧t { nx:=fun _ H'=>Q .non H',rt:=Q } (start N vs) H):DfX P w K mg base (k + 1) x ps sp:=by
  obtain ⟨f,fd,F,m,b⟩:=R
  have kp:=F.kp
  obtain ⟨oc,od,kV,doc,pm,an,cdv,ct,osl,rfl,lk,hcd⟩:=F.ex
  exact ⟨f,_,fn_of lk hcd S len fun A outer s H vs Q E hr hsp=>hbody f cdv A outer s H vs Q E hr hsp,m,kp,b⟩
theorem RawM.okX {C:Addr}{m qual:Str}{ps N:List Str}{st:Stmt}{k:Nat}{sp:Sp}(R:RawM K C m qual ps st)(S:FnScope N ps (defScope st))(len:∀ vs H Q E,sp vs H Q E→vs.length=ps.length)
    (hbody:∀ (f:Addr) (cdv:Value) (A:Around) (outer:List Env) (s:Shared) (H:Hp) (vs:List V) (Q:VK) (E:XK),Room k (A.deeper (envOfC qual (defScope st) s.heap.objs.size f cdv))→sp vs H Q E →
      ∃ t,PSs (cxOf (CXE P w) P w K mg base N qual (defScope st) f cdv A outer s H E) (defBody st) t∧t { nx:=fun _ H'=>Q .non H',rt:=Q } (start N vs) H):DfMX P w K mg base (k + 1) C m ps sp:=by
  obtain ⟨f,fd,M,F,b⟩:=R
  obtain ⟨oc,od,kV,doc,pm,an,cdv,ct,osl,rfl,lk,hcd⟩:=F.ex
  exact ⟨f,_,fn_of lk hcd S len fun A outer s H vs Q E hr hsp=>hbody f cdv A outer s H vs Q E hr hsp,M,b⟩
end
section
variable {X:Cx}{k:Nat}{C:Addr}{m x:Str}{ps:List Str}{sp:Sp}{o e:Expr}{es:List Expr}{ta:TE}{t:TA}{p apos pos:Pos}{E:XK}
theorem pe_dfX (D:DfX X.prog X.w X.K X.mg X.base k x ps sp)(hr:Room k X.A)(hx:Passes (CXE X.prog X.w) X E)(ha:PA X (e :: es) t)(hg:Gl X x:=by rfl)
    (hdb:(x == ("__debug__" : Str))=false:=by decide) (he:starEach (e :: es) X.env=(false,eval e X.env) :: starEach es X.env:=by rfl) (hpl:(backTo pos (starEach es X.env)).any (·.1)=false:=by rfl) :
    PE X (.Call (.Name x p) (e :: es) [] pos) (tCall sp [] E t):=by
  obtain ⟨f,fd,F,m,kp,b⟩:=D
  exact pe_call F hr hg m kp b .nil hx ha hdb he hpl
end
abbrev bmV:List Value:=[.type "ValueError",.type "Exception",.type "BaseException",.type "object"]
abbrev nidV:String := "ValueError.__new__"
theorem exc_at {K:PySem.W.Frag}{h:Heap}{C:Addr}(kin:K.In h)(q:PySem.W.excIn K C bmV nidV=true) :
    ∃ bm N nm qn bs hdc sn sub ab col dd k0 k1 k2 k3 k5 mN,h.get? C=some (excClassObj nm qn C N bs bm hdc sn sub ab col dd k0 k1 k2 k3 k5 nidV)∧h.Ns N mN∧mN "__init__" = none∧OwnTail h bmV bm:=by
  unfold PySem.W.excIn at q
  split at q
  · rename_i dd data sl look
    split at q
    · rename_i C1 bm k0 k1 k2 k3 n k5 hmro hslots
      simp only [beq_iff_eq,Bool.and_eq_true,Bool.not_eq_true'] at q
      obtain ⟨⟨⟨⟨⟨e1,e2⟩,e3⟩,e4⟩,e5⟩,e6⟩:=q
      subst e1 e2
      obtain ⟨nm,bs,mro,ns,qn,hdc,sn,sub,ab,col,del⟩:=data
      dsimp only at hmro e3 e5 e6
      subst hmro e3
      obtain ⟨ls⟩:=sl
      have e7:ls=[k0,k1,k2,k3,some (.builtin nidV),k5]:=hslots
      subst e7
      exact ⟨bm,ns,nm,qn,bs,hdc,sn,sub,ab,col,dd,k0,k1,k2,k3,k5,_,kin _ _ look,.of_isNs (PySem.W.isNs_of_in kin e5),PySem.W.nsMap_none_of_in kin e5 e6,PySem.W.tail_of_in kin e4⟩
    · cases q
  · cases q
def tRaise (C:Addr)(E:XK)(t:TA):TS:=fun _ σ H=>t σ H fun vs H1=>vs.length ≤ sizeLine∧E (.ref C) none H1
section
variable {X:Cx}{x:Str}{C:Addr}{E:XK}{e:Expr}{es:List Expr}{t:TA}{np cpos pos:Pos}
def Throws (X:Cx)(E:XK):Prop:=∀ (pins:List (Addr × Obj)) (σ:St) (H1:Hp) (s1:Shared) (h2:Heap) (y:Addr) (cls:Value) (args:List Value),Inv X pins σ H1 s1→Heap.MadeExcOf s1.heap h2 y cls args→E cls none H1→X.xe (.ref y) { s1 with heap:=h2 }
theorem throws_out {P:Program}{w:World}{K:PySem.W.Frag}{mg:Str→Option Value}{base:Heap}{N:List Str}{qual:Str}{scope:Scope}{f:Addr}{cd:Value}{A:Around}{outer:List Env}{s:Shared}{H:Hp}{E:XK} :
    Throws (cxOf (CXE P w) P w K mg base N qual scope f cd A outer s H E) E:=fun _ _ _ _ _ _ _ _ I hm hE=>raise_out I hm hE
theorem ps_raise (hc:X.calm=true) (hx:Throws X E) (hm:X.mg x=some (.ref C)) (q:PySem.W.excIn X.K C bmV nidV=true) (ha:PA X (e :: es) t) (hg:Gl X x:=by rfl) (hdb:(x == ("__debug__" : Str))=false:=by decide)
    (he:starEach (e :: es) X.env=(false,eval e X.env) :: starEach es X.env:=by rfl) (hpl:(backTo cpos (starEach (e :: es) X.env)).any (·.1)=false:=by rfl) :
    PS X (.Raise (some (.Call (.Name x np) (e :: es) [] cpos)) none pos) (tRaise C E t):=by
  intro pins s σ H D I h
  obtain ⟨bm,N,nm,qn,bs,hdc,sn,sub,ab,col,dd,k0,k1,k2,k3,k5,mN,hC,hN,hni,tl⟩:=exc_at I.ok.mod.kin q
  refine wpAny_Raise_call_subT (C:=C) (nm:=nm) (q:=qn) (N:=N) (bs:=bs) (bm:=bm) (hdct:=hdc) (sn:=sn) (sub:=sub) (ab:=ab) (col:=col) (dd:=dd) (k0:=k0) (k1:=k1) (k2:=k2) (k3:=k3) (k5:=k5) PySem.F.excBase_ValueError (mN:=mN) (tl.hasType (by decide +kernel)) (I.ok.hd hc) hpl hni ?_
  refine ld_glob I hg hm ⟨rfl,?_⟩ hdb
  have hA:=ha cpos pins s σ H _ I h
  rw [he] at hA ⊢
  refine Calls.evalArgs_plain (thn hA fun us s2 ⟨vs,H2,I2,r,q2,q3⟩=>⟨rfl,?_,I2.bk _ _ hC,hN.keeps I2.bk,tl.keeps I2.bk,fun h' y hm=>hx pins σ H2 s2 h' y _ _ I2 hm q3⟩)
  · rw [Vals.length r] at q2;exact q2
end
end L2
namespace L2
open PySem PySem.Spec PyProof.Rows
def ExAt (x:Addr)(C:Value)(h:Heap):Prop:=∃ o,h.get? x=some o∧o.cls=C
def excKit (K:PySem.W.Frag)(D:Addr):Bool :=
  PySem.W.findIn K (.ref D) "__getattribute__" == some (some (.builtin "BaseException.__getattribute__")) && PySem.W.findIn K (.ref D) "__getattr__" == some none && PySem.W.mroIn K D (.type "BaseException") == some true && (PySem.W.clsIn K D).isSome && PySem.W.findIn K (.ref D) "__class__" == some (some (.builtin "object.__class__")) &&
    PySem.W.specialIn K (.builtin "object.__class__") "__get__" == some (some (.builtin "getset_descriptor.__get__")) && PySem.W.takesIn K (.builtin "object.__class__") == some true && PySem.W.mroIn K D (.type "object") == some true
section
open PySem.W PySem.Calls PySem.Builtin PySem.Builtin.ObjectAttr PySem.Builtin.Getset_descriptor
variable {K:PySem.W.Frag}{x D:Addr}
theorem exAt_ty {M:Model}{h:Heap}{C:Value}(p:ExAt x C h):Looks M h (typeOf (.ref x)) C:=by
  obtain ⟨o,h1,h2⟩:=p
  exact h2 ▸ (Looks.ld h1).andThen .now
theorem kitx_exc (q:excKit K D=true):KitX K (.ref x) (.ref D) (ExAt x (.ref D)):=by
  unfold excKit at q
  simp only [Bool.and_eq_true,beq_iff_eq] at q
  obtain ⟨⟨⟨⟨⟨⟨⟨hga,hgn⟩,hmb⟩,hc⟩,ha⟩,hn⟩,htk⟩,hm⟩:=q
  have there:∀ h:Heap,K.In h→∃ c d cd sl,h.get? D=some ⟨c,d,.cls cd,sl⟩:=fun h X=>by
    unfold clsIn at hc
    split at hc
    · rename_i c' d' cd' sl' ho
      exact ⟨c',d',cd',sl',X _ _ ho⟩
    · cases hc
  refine ⟨fun _ _ _ p=>exAt_ty p,fun M h X _=>?_,fun h tp dd its n sl X htp=>?_,fun {prog w A E Q s} X p k=>?_⟩
  · obtain ⟨c,d,cd,sl,ho⟩:=there h X
    intro A' Q' E' s' k q
    unfold isType loadHead
    exact wpAny_bind (wpAny_loadPart (k _ _ ho) (wpAny_pure q))
  · obtain ⟨c,d,cd,sl',ho⟩:=there h X
    refine Bool.eq_false_iff.mpr fun q=>?_
    have e:D=tp:=Value.ref.inj (beq_iff_eq.mp q)
    subst e
    have z:=ho.symm.trans htp
    cases z
  · obtain ⟨hh,g,dr,t,os⟩:=s
    have L0:=exAt_ty (M:=model prog w) p
    have L1:=looks_findIn (M:=model prog w) X hga
    have L3:=looks_mroIn (M:=model prog w) X hm
    have LB:=looks_mroIn (M:=model prog w) X hmb
    have LF:Looks (model prog w) hh (find (.ref x) (.ref D) "__class__") (.bind (.builtin "getset_descriptor.__get__") (.builtin "object.__class__")):=by
      refine (looks_findIn X ha).andThen ((looks_specialIn X hn).andThen ?_)
      exact (show Looks _ hh (dataDescriptor? (some (.builtin "object.__class__")) (some (.builtin "getset_descriptor.__get__"))) _ from (looks_takesIn X htk).andThen .now).andThen (Looks.tag .now)
    unfold getAttr? getAttrBy? getAttrBy
    refine wpAny_bind (wpAny_mkText (wpAny_bind (wpAny_attempt (wpAny_holding (wpAny_bind (L0.at (wpAny_bind (L1.at ?_))))))))
    show wpAny _ _ (getAttrByItsOwn (.ref x) (.str "__class__" t) (.ref D) (.builtin "BaseException.__getattribute__") false false) _ _ _
    unfold getAttrByItsOwn callGetattribute boundAndCalled
    refine wpAny_bind ((looks_hook X (show (if onTheHeap (.ref D) then findIn K (.ref D) "__getattr__" else some none)=some none from hgn)).at ?_)
    refine wpAny_bind (wpAny_attempt (wpAny_holding ?_))
    show wpAny _ _ (bindSpecial (.builtin "BaseException.__getattribute__") (.ref x) >>= _) _ _ _
    refine wpAny_bind (wpAny_of_eq (F.excAttr_ValueError.ga.bind _) ?_)
    show wpAny _ _ (call (.builtin "BaseException.__getattribute__") [.ref x,.str "__class__" t]) _ _ _
    refine wpAny_call (codeAny_call_builtin F.excAttr_ValueError.ga.plain F.entry_bexc_ga (check_slot (i := "BaseException.__getattribute__") (owner := "BaseException") (n := "__getattribute__") (by decide +kernel) (by decide +kernel) (L0.andThen LB) (F.args_bexc_ga _ _) ?_))
    unfold Builtin.«object.__getattribute__»
    refine wpAny_bind (wpAny_pure (wpAny_bind (wpAny_pure (wpAny_bind (L0.at (wpAny_bind (LF.at ?_)))))))
    refine wpAny_bind (wpAny_holding (wpAny_call ?_))
    refine codeAny_call_builtin KF.slot_gs.plain KF.entry_gs (KF.slot_gs.check _ _ _ _ _ _ _ _ KF.type_class (KF.args_gs _ _ _) ?_)
    unfold Builtin.«getset_descriptor.__get__» descrGet
    rw [dga_obj]
    refine wpAny_bind (wpAny_pure ?_)
    unfold descrGetter descrCheckInstance descrNameAndClass isInstance
    simp only [KF.owner_class]
    repeat lk
    refine ⟨Code.quiet_builtin _ (by decide +kernel),codeAny_builtin KF.entry_class ?_⟩
    unfold Builtin.«object.__class__» shownTypeOf
    repeat lk
    exact k
end
section
variable {P:Program}{w:World}{H:Hp}{h:Heap}{a:Addr}{o:HO}
theorem ObjOk.there (x:ObjOk P w H h a o):∃ u,h.get? a=some u:=by
  cases o with
  | lst xs=>obtain ⟨_,_,_,_,e⟩:=x;exact ⟨_,e⟩
  | tup xs=>obtain ⟨_,_,_,p⟩:=x;obtain ⟨u,e,_⟩:=p;exact ⟨u,e⟩
  | dK kvs=>obtain ⟨_,_,_,_,o,_,_,e,_⟩:=x;exact ⟨_,e⟩
  | dT kvs=>obtain ⟨_,_,_,_,o,_,_,e,_⟩:=x;exact ⟨_,e⟩
  | set S n=>obtain ⟨o,_,_,_,e,_⟩:=x;exact ⟨_,e⟩
  | ins C dx fs=>obtain ⟨_,_,_,e,_⟩:=x;exact ⟨_,e⟩
  | own y=>exact x
  | xd fs=>obtain ⟨_,⟨_,_,_,e,_⟩,_⟩:=x;exact ⟨_,e⟩
  | rng lo hi=>obtain ⟨_,_,_,e⟩:=x;exact ⟨_,e⟩
  | frz ob u=>obtain ⟨e,_⟩:=x;exact ⟨_,e⟩
  | tbl ps=>exact ⟨_,show h.get? a=some _ from x⟩
  | met f y=>exact ⟨_,show h.get? a=some _ from x⟩
  | ext φ=>exact x.2.1
end
def Cx.tryX (X:Cx)(pins:List (Addr × Obj))(W:St→XK):Cx :=
  { X with pn:=X.pn ++ pins,xe:=fun e s'=>∃ (σ:St) (H0 H':Hp) (s0:Shared) (x:Addr) (C:Value),e = .ref x∧Inv X pins σ H0 s0∧s'.os=s0.os ∧ AllBare s'.gens ∧ Fly X.prog X.w X.stack H0 H' s0.heap s'.heap x C∧W σ C none H' }
def Cx.markX (X:Cx)(v:Value):Cx:={ X with A:=X.A.mark (some v),calm:=false,xe:=fun _ _=>False }
def PassesS (CX:CXT)(X:Cx)(W:St→XK):Prop:=∀ (pins:List (Addr × Obj)) (σ:St) (H:Hp) (s:Shared) (e:Value) (s':Shared),Inv X pins σ H s→CX X.stack H s (W σ) e s'→X.xe e s'
section
variable {X:Cx}{pins:List (Addr × Obj)}{σ:St}{H:Hp}{s:Shared}{W:St→XK}
theorem Cx.Ok.tryIn (o:X.Ok):(X.tryX pins W).Ok:=⟨o.mod,o.kind,o.glob,o.blt,o.above,o.inj,o.has,o.cab,o.hd,o.frames,o.stk,o.exf,o.bs,o.bsz,o.noex,o.exfs,o.funs,o.frf⟩
theorem Cx.Ok.tryOut (o:(X.tryX pins W).Ok):X.Ok:=⟨o.mod,o.kind,o.glob,o.blt,o.above,o.inj,o.has,o.cab,o.hd,o.frames,o.stk,o.exf,o.bs,o.bsz,o.noex,o.exfs,o.funs,o.frf⟩
theorem Cx.Ok.mark {v:Value}(o:X.Ok):(X.markX v).Ok:=⟨o.mod,o.kind,o.glob,o.blt,o.above,o.inj,o.has,o.cab,(fun z=>by cases z),o.frames,o.stk,o.exf,o.bs,o.bsz,o.noex,o.exfs,o.funs,o.frf⟩
theorem Inv.tryIn (I:Inv X pins σ H s):Inv (X.tryX pins W) [] σ H s:=⟨I.ok.tryIn,I.os,I.bare,I.base,I.loc,I.cell,I.free,I.freeC,fun p hp=>I.pin p (by rw [List.append_nil] at hp;exact hp),I.hok,I.len⟩
theorem Inv.tryOut {pins':List (Addr × Obj)}(I:Inv (X.tryX pins W) pins' σ H s):Inv X pins σ H s:=⟨I.ok.tryOut,I.os,I.bare,I.base,I.loc,I.cell,I.free,I.freeC,fun p hp=>I.pin p (List.mem_append_left _ hp),I.hok,I.len⟩
theorem Inv.markIn {v:Value}(I:Inv X pins σ H s):Inv (X.markX v) pins σ H s:=⟨I.ok.mark,I.os,I.bare,I.base,I.loc,I.cell,I.free,I.freeC,I.pin,I.hok,I.len⟩
theorem Inv.markOut {v:Value}(I:Inv (X.markX v) pins σ H s)(o:X.Ok):Inv X pins σ H s:=⟨o,I.os,I.bare,I.base,I.loc,I.cell,I.free,I.freeC,I.pin,I.hok,I.len⟩
theorem passS:PassesS (CXE X.prog X.w) (X.tryX pins W) W:=fun _ σ H s _ _ I ⟨x,C,H',q,os,bare,F,hE⟩=>⟨σ,H,H',s,x,C,q,I.tryOut,os,bare,F,hE⟩
theorem caught {H0 H':Hp}{s0 s1:Shared}{B h:Heap}{x:Addr}{C arg:Value}(I0:Inv X pins σ H0 s0)(hex:X.ex=[])(os:s1.os=s0.os)(bare:AllBare s1.gens)(b:FlyB X.prog X.w X.stack H0 H' s0.heap B)
    (fl0:Heap.FlyingW B X.stack x C arg s1.heap) (fr:∀ b o,s0.heap.get? b=some o→b∈frs X.stack → ∃ sl,s1.heap.get? b=some { o with slots:=sl }) (fl:Heap.FlyingW B X.stack x C arg h) (up:s1.heap.UpToSlots h) :
    Inv X pins σ (upd H' x (.ext (ExAt x C))) { s1 with heap:=h }∧H' x=none:=by
  have F:Fly X.prog X.w X.stack H0 H' s0.heap h x C:=⟨B,arg,b,fl,fun c o e hc=>by
    obtain ⟨sl,e1⟩:=fr c o e hc
    have hd:∀ vs,o.data ≠ .fields vs:=fun vs z=>by
      obtain ⟨_,o',ho',hnd⟩:=fl0.2.2.1.mem (b:=c) hc
      rw [e1] at ho'
      cases ho'
      exact hnd vs z
    obtain ⟨sl2,e2⟩:=up c _ e1 hd
    exact ⟨sl2,e2⟩⟩
  obtain ⟨un,hok⟩:=F.un
  have I1:Inv X pins σ H' { s1 with heap:=h }:=I0.call' os un hok bare (fun b z=>by cases z)
  have hn:H' x=none:=by
    cases e:H' x with
    | none=>rfl
    | some o =>
      obtain ⟨u,hu⟩:=(b.hok x o e).there
      rw [fl.2.1] at hu
      cases hu
  have new0:∀ o,s0.heap.get? x≠some o:=fun o e=>by
    by_cases hc:x∈frs X.stack
    · obtain ⟨_,o',ho',hnd⟩:=fl.2.2.1.mem (b:=x) hc
      obtain ⟨oe,vs,_,_,_,he,_,hd,_⟩:=fl.2.2.2
      rw [he] at ho'
      cases ho'
      exact hnd vs hd
    · obtain ⟨u,hu⟩:=b.there x o e hc
      rw [fl.2.1] at hu
      cases hu
  have noE:∀ b:Addr,b ∉ X.ex:=fun b z=>by rw [hex] at z;cases z
  refine ⟨⟨I1.ok,I1.os,I1.bare,⟨I1.base.keep,I1.base.slot,fun c o e n hx=>?_,I1.base.there,fun c xs q=>?_,fun c o u q=>?_,fun c ps q=>?_⟩,I1.loc,I1.cell,?_,fun y c e=>?_,fun p hp=>?_,fun c o q=>?_,I1.len⟩,hn⟩
  · have q:=I1.base.free c o e n hx
    rw [upd_ne ?_]
    · exact q
    · rintro rfl
      obtain ⟨o',e'⟩:=I0.base.there _ o e hx
      exact new0 o' e'
  · have q:=I1.base.tups c xs q
    rw [upd_ne (ne_of_none q hn)];exact q
  · have q:=I1.base.frzs c o u q
    rw [upd_ne (ne_of_none q hn)];exact q
  · obtain ⟨more,q⟩:=I1.base.tbls c ps q
    exact ⟨more,by rw [upd_ne (ne_of_none q hn)];exact q⟩
  · obtain ⟨m,⟨o,es,ep,ho,_⟩,_⟩:=I0.loc
    rw [upd_ne (fun z=>new0 o (by rw [← z];exact ho))]
    exact I1.free
  · obtain ⟨v,o,ho,_⟩:=I0.cell y c e
    rw [upd_ne (fun z=>new0 o (by rw [← z];exact ho))]
    exact I1.freeC y c e
  · obtain ⟨e,n,ne,nf,d⟩:=I1.pin p hp
    obtain ⟨e0,_⟩:=I0.pin p hp
    exact ⟨e,by rw [upd_ne (fun z=>new0 p.2 (by rw [← z];exact e0))];exact n,ne,nf,d⟩
  · by_cases hc:c=x
    · subst hc
      rw [upd_same] at q
      cases q
      have ex:ExAt c C h:=fl.there
      obtain ⟨o,ho,hcl⟩:=ex
      exact ⟨⟨o,ho,hcl⟩,⟨o,ho⟩,fun h1 h2 ⟨o1,e1,c1⟩ k=>⟨o1,k o1 e1,c1⟩⟩
    · rw [upd_ne hc] at q
      exact (I1.hok c o q).stay (fun _ _ _ z=>z) (fun d z=>by rw [upd_ne (ne_of_none z hn)];exact z) fun d xs z=>by rw [upd_ne (ne_of_none z hn)];exact z
theorem gone_ok {M:Model}{A:Around}{E:Value→Shared→Prop}{i:Nat}{n:Str}{pos:Pos}{Q:Unit→Shared→Prop}(I:Inv X pins σ H s)(hN:X.N.Nodup)(hi:X.N[i]? = some n)(hk:X.env.kindOf n=some .local)
    (h:∀ s',Inv X pins (σ.set i none) H s'→Q () s'):wpAny M A (do bindName X.env n .none;unbindBehindTheSuite X.env n pos) Q E s:=by
  obtain ⟨m,hn,hl⟩:=id I.loc
  have hcls:(X.env.scope.kind == .class || (X.env.scope.kind == .module && X.env.locals != X.env.globals))=false:=by rw [I.ok.kind];rfl
  have hiσ:i < σ.length:=by rw [I.len];exact (List.getElem?_eq_some_iff.mp hi).1
  have cne:=I.cne
  obtain ⟨oL,_,_,hoL,_⟩:=id hn
  refine wpAny_nameGoes_keeps hk hn hcls fun h' v hn' hs=>h _ ⟨I.ok,I.os,I.bare,⟨fun b o e n hb hx=>?_,fun b o e n hb hx=>?_,I.base.free,fun b o e hx=>?_,I.base.tups,I.base.frzs,I.base.tbls⟩,⟨_,hn',fun j y v' e1 e2 e3=>?_⟩,fun y c e=>?_,I.free,I.freeC,fun p hp=>?_,fun b ob e=>?_,by simpa using I.len⟩
  · exact (hs.2 b (Nat.ne_of_lt (Nat.lt_of_lt_of_le (Heap.lt_size e) I.ok.above))).trans (I.base.keep b o e n hb hx)
  · obtain ⟨sl,e1⟩:=I.base.slot b o e n hb hx
    exact ⟨sl,(hs.2 b (Nat.ne_of_lt (Nat.lt_of_lt_of_le (Heap.lt_size e) I.ok.above))).trans e1⟩
  · obtain ⟨o',e1⟩:=I.base.there b o e hx
    exact ⟨o',(hs.2 b (Nat.ne_of_lt (Nat.lt_of_lt_of_le (Heap.lt_size e) I.ok.above))).trans e1⟩
  · by_cases hj:j=i
    · subst hj
      rw [List.getElem?_set_self hiσ] at e2
      cases e2
    · rw [List.getElem?_set_ne (Ne.symm hj)] at e2
      obtain ⟨u',r',q⟩:=hl j y v' e1 e2 e3
      refine ⟨u',r',?_⟩
      rcases q with ⟨k,e⟩ | ⟨k,c,e,z⟩
      · refine .inl ⟨k,?_⟩
        have:y≠n:=fun e=>hj (nodup_ix hN e1 (e ▸ hi))
        simp [this,e]
      · exact .inr ⟨k,c,e,z.sameBut hs (cne y c e)⟩
  · obtain ⟨w',z⟩:=I.cell y c e
    exact ⟨w',z.sameBut hs (cne y c e)⟩
  · obtain ⟨e,n,ne,nf,d⟩:=I.pin p hp
    exact ⟨(hs.2 p.1 ne).trans e,n,ne,nf,d⟩
  · refine (I.hok b ob e).stay (fun c w' hc q=>(hs.2 c ?_).trans q) (fun _ q=>q) fun _ _ q=>q
    have hfree:=I.free
    rintro rfl
    rcases hc with rfl | hc
    · rw [hfree] at e;cases e
    · rw [hfree] at hc;cases hc
end
def tMethS (C:Addr)(m:Str)(sp:Sp)(dvs:List V)(W:St→XK)(ta:TE)(t:TA):TE:=fun σ=>tMeth C m sp dvs (W σ) ta t σ
section
variable {X:Cx}{CX:CXT}{k:Nat}{f C:Addr}{fd:FuncData}{ps:List Str}{sp:Sp}{dvs:List V}{ds:List Value}{E:XK}{W:St→XK}{x m:Str}{p pos apos:Pos}{e o:Expr}{es:List Expr}{ta:TE}{t:TA}
theorem run_fnS {pins:List (Addr × Obj)}{σ:St}{H:Hp}{s:Shared}{Q:VK}{us:List Value}{vs:List V}(F:FnOk X.prog X.w X.K X.mg X.base CX k f fd ps sp)(hr:Room k X.A)(hb:Binds X.K fd ps ds)(hd:Vals dvs ds)(hx:∀ e s',CX X.stack H s E e s'→X.xe e s')
    (I:Inv X pins σ H s) (r:Vals vs us) (h:sp (vs ++ dvs) H Q E):wpAny (model X.prog X.w) X.A (call (.ref f) us) (EP X pins σ Q) X.xe s:=by
  have r2:Vals (vs ++ dvs) (us ++ ds):=r.append hd
  have hl:(us ++ ds).length=ps.length:=by rw [← r2.length];exact F.len _ _ _ _ h
  refine wpAny_call (codeAny_mono (F.run X.A X.stack s H ⟨us,[]⟩ (us ++ ds) (vs ++ dvs) Q E hr I.env0 (hb s us I.kIn hl) r2 h) fun r s' hq=>?_)
  cases r with
  | error e=>exact hx e s' hq
  | ok fl =>
    cases fl with
    | ret u=>exact I.after hq
    | next=>exact False.elim hq
    | brk=>exact False.elim hq
    | cont=>exact False.elim hq
theorem pe_mtS {pl:Sem Bool}(D:DfMX X.prog X.w X.K X.mg X.base k C m ps sp)(c:Cls X.K C)(hr:Room k X.A)(hx:PassesS (CXE X.prog X.w) X W)(he:PE X o ta)(ha:PA X (e :: es) t)
    (hst:starEach (e :: es) X.env=(false,eval e X.env) :: starEach es X.env:=by rfl) (hpl:(backTo pos (starEach es X.env)).any (·.1)=false:=by rfl)
    (ht:eval (.Call (.Attribute o m apos) (e :: es) [] pos) X.env=(do
      let ov ← eval o X.env
      standAt apos.atName
      let (f,first) ← holding [ov] (getMethod ov m pl)
      callWith pos f first (backTo pos (starEach (e :: es) X.env)) (backToKw pos (keywordEach [] X.env))):=by rfl) :
    PE X (.Call (.Attribute o m apos) (e :: es) [] pos) (tMethS C m sp [] W ta t):=by
  obtain ⟨f,fd,F,M,b⟩:=D
  intro pins s σ H Q I h
  refine PySem.W.methodCall_KW (pl:=pl) (thn (he pins s σ H _ I h) fun u s1 ⟨x,H1,I1,rx,a,dx,fs,ex,ea,l,q⟩=>?_) ht
  subst ex
  obtain rfl:u=Value.ref a:=rx
  refine getmeth_ok I1 ea c M l ?_
  refine PySem.W.callWith_K (first:=[.ref a]) (h₀:=X.base) I.ok.mod.kin M.kp (thn (ha pos pins s1 σ H1 _ I1 q) fun us s2 ⟨vs,H2,I2,r,q2⟩=>⟨I2.kIn,?_⟩) hst hpl
  exact run_fnS (us:=.ref a :: us) (vs:=.ref a :: vs) F hr b .nil (fun e s' z=>hx pins σ H2 s2 e s' I2 z) I2 (.cons rfl r) q2
end
def wTry (K:PySem.W.Frag)(Wc:Addr)(ie:Nat)(th:TS)(D:Ends):St→XK:=fun σ C _ H=>PySem.W.exmOne K C (.ref Wc)=some true ∧
  ∀ x,H x=none→th { nx:=fun σ2 H2=>D.nx (σ2.set ie none) H2,rt:=D.rt,bk:=fun σ2 H2=>D.bk (σ2.set ie none) H2,ct:=fun σ2 H2=>D.ct (σ2.set ie none) H2 } (σ.set ie (some (.ref x))) (upd H x (.ext (ExAt x C)))
def tTryAs (K:PySem.W.Frag)(Wc:Addr)(ie:Nat)(t:(St→XK)→TS)(th:TS):TS:=fun D σ H=>t (wTry K Wc ie th D) D σ H
section
variable {X:Cx}{K:PySem.W.Frag}{Wc:Addr}{wn n:Str}{ie:Nat}{body suite:List Stmt}{b0:Stmt}{t:(St→XK)→TS}{th:TS}{np hp pos:Pos}
theorem ps_tryAs (hK:X.K=K)(hex:X.ex=[])(hst:X.stack=X.env :: X.outer)(hfr:X.env.frame=some X.env.locals)(hN:X.N.Nodup)(hi:X.N[ie]? = some n)(hk:X.env.kindOf n=some .local)(hm:X.mg wn=some (.ref Wc))
    (hb:∀ pins W,PSs (X.tryX pins W) body (t W)) (hh:∀ v,PSs (X.markX v) (b0 :: suite) th) (hg:Gl X wn:=by rfl) (hd:(wn == ("__debug__" : Str))=false:=by decide) :
    PS X (.Try body [.ExceptHandler (some (.Name wn np)) (some n) (b0 :: suite) hp] [] [] pos) (tTryAs K Wc ie t th):=by
  subst hK
  intro pins s σ H D I h
  refine wpAny_Try_except (wpAny_mono (hb pins _ [] s σ H D I.tryIn h) (fun f s1 q=>?_) fun e s1 q=>?_)
  · cases f with
    | next =>
      obtain ⟨σ',H',I',q⟩:=q
      exact wpAny_execs_nil ⟨σ',H',I'.tryOut,q⟩
    | brk=>obtain ⟨σ',H',I',q⟩:=q;exact ⟨σ',H',I'.tryOut,q⟩
    | cont=>obtain ⟨σ',H',I',q⟩:=q;exact ⟨σ',H',I'.tryOut,q⟩
    | ret u=>obtain ⟨v,σ',H',I',q⟩:=q;exact ⟨v,σ',H',I'.tryOut,q⟩
  · obtain ⟨σ',H0,H',s0,x,C,rfl,I0,os,bare,⟨B,arg,b,fl,fr⟩,hm1,hW⟩:=q
    have frames:X.A.frames=some (X.env :: X.outer):=by rw [← hst];exact I0.ok.frames
    refine wpAny_looks_onW (base:=B) frames hfr (by rw [← hst];exact fl) fun h1 held up1=>?_
    refine wpAny_landsW (s:={ s1 with heap:=h1 }) held fun h2 fl2 up2=>?_
    rw [← hst] at fl2
    obtain ⟨I2,hn⟩:=caught (s1:=s1) (h:=h2) I0 hex os bare b fl fr fl2 (up1.trans up2)
    refine wpAny_handleBy_cons (s:={ s1 with heap:=h2 }) (codeAny_handlers_test ?_) (by intro z;cases z)
    refine Calls.Name_function_global I2.ok.kind hg (Calls.loadGlobal_global (by rw [I2.ok.glob];exact I2.mod.glob.keeps I2.bk) hm ?_) hd
    have L:PySem.W.Looks (model X.prog X.w) h2 (excMatches (.ref x) (.ref Wc)) true:=PySem.W.exm_one I2.kIn (exAt_ty fl2.there) hm1
    refine L.at ?_
    refine codeAny_handlers_suite_as (s:={ s1 with heap:=h2 }) (lands_againW fl2 fun h3 fl3 up3=>?_)
    obtain ⟨I3,_⟩:=caught (s1:=s1) (h:=h3) I0 hex os bare b fl fr fl3 ((up1.trans up2).trans up3)
    refine store_ok (s:={ s1 with heap:=h3 }) I3 hN hi (.inl hk) (v:=.ref x) rfl (fun s4 I4=>?_) (.inr hk)
    refine wpAny_mono (hh (.ref x) pins s4 _ _ _ I4.markIn (hW x hn)) (fun f s5 q=>?_) fun e' s5 q=>q.elim
    cases f with
    | next=>obtain ⟨σ5,H5,I5,q⟩:=q;exact gone_ok (I5.markOut I0.ok) hN hi hk fun s6 I6=>⟨_,H5,I6,q⟩
    | brk=>obtain ⟨σ5,H5,I5,q⟩:=q;exact gone_ok (I5.markOut I0.ok) hN hi hk fun s6 I6=>⟨_,H5,I6,q⟩
    | cont=>obtain ⟨σ5,H5,I5,q⟩:=q;exact gone_ok (I5.markOut I0.ok) hN hi hk fun s6 I6=>⟨_,H5,I6,q⟩
    | ret u=>obtain ⟨v,σ5,H5,I5,r,q⟩:=q;exact gone_ok (I5.markOut I0.ok) hN hi hk fun s6 I6=>⟨v,_,H5,I6,r,q⟩
end
def cV:V→Value
  | .ref a=>.ref a
  | .ty n=>.type n
  | _=>.none
def isCls:V→Bool
  | .ref _=>true
  | .ty _=>true
  | _=>false
theorem cV_of {c:V}{u:Value}(r:RelV c u)(h:isCls c=true):u=cV c:=by
  cases c <;> first | exact r | cases h
theorem cV_all:∀ {cs:List V} {us:List Value},Vals cs us→cs.all isCls=true→us=cs.map cV
  | _,_,.nil,_=>rfl
  | _,_,.cons r t,h=>by
    rw [List.all_cons,Bool.and_eq_true] at h
    rw [List.map_cons,cV_of r h.1,cV_all t h.2]
section
variable {X:Cx}{K:PySem.W.Frag}
theorem call_isinstX (h:X.K=K):CallR X (.builtin "isinstance") (fun xs H Q=>∃ (x D:Addr) (c:V) (b:Bool),xs=[.ref x,c]∧H x=some (.ext (ExAt x (.ref D)))∧excKit K D=true ∧
    ((isCls c=true∧PySem.W.kitOne K (.ref D) (cV c)=some b) ∨ ∃ p cs,c = .ref p∧H p=some (.tup cs)∧cs.all isCls=true∧PySem.W.kitAny K (.ref D) (cs.map cV)=some b)∧Q (.bl b) H):=by
  subst h
  intro pins s σ H xs us Q I r ⟨x,D,c,b,e,hx,kit,how,q⟩
  subst e
  obtain ⟨u,v,rfl,r1,r2⟩:=r.two
  obtain rfl:u=Value.ref x:=r1
  have p:ExAt x (.ref D) s.heap:=(I.hok x _ hx).1
  rcases how with ⟨hc,hb⟩ | ⟨p',cs,rfl,hp,hall,hb⟩
  · rw [cV_of r2 hc]
    exact PySem.W.kia_one (kitx_exc kit) I.kIn p hb (by intro z;cases z) fun tk=>⟨.bl b,H,I.tok _,rfl,q⟩
  · obtain rfl:v=Value.ref p':=r2
    obtain ⟨_,its,rv,o,ho,hcl,n,hd⟩:=I.hok p' _ hp
    obtain ⟨oc,od,odt,osl⟩:=o
    have e1:oc = .type "tuple":=hcl
    have e2:odt = .seq its.toArray n:=hd
    subst e1 e2
    have e3:=cV_all rv hall
    subst e3
    exact PySem.W.kia_tup (kitx_exc kit) I.kIn p ho hb (by intro z;cases z) fun tk=>⟨.bl b,H,I.tok _,rfl,q⟩
end
theorem bt_ValueError:bootBuiltins "ValueError" = some (.type "ValueError"):=by decide +kernel
def excAll (K:PySem.W.Frag) (aN aF aM aP aW:Addr):Bool:=[excKit K aN,PySem.W.exmOne K (.ref aN) (.ref aW) == some true,PySem.W.kitOne K (.ref aN) (.type "ValueError") == some true,excKit K aF,PySem.W.exmOne K (.ref aF) (.ref aW) == some true,PySem.W.kitOne K (.ref aF) (.type "ValueError") == some true,excKit K aM,PySem.W.exmOne K (.ref aM) (.ref aW) == some true,PySem.W.kitOne K (.ref aM) (.type "ValueError") == some true,excKit K aP,PySem.W.exmOne K (.ref aP) (.ref aW) == some true,PySem.W.kitOne K (.ref aP) (.type "ValueError") == some true,PySem.W.kitOne K (.ref aN) (.ref aN) == some true,PySem.W.kitOne K (.ref aN) (.ref aF) == some false,PySem.W.kitOne K (.ref aN) (.ref aM) == some false,PySem.W.kitOne K (.ref aN) (.ref aP) == some false,PySem.W.kitOne K (.ref aF) (.ref aN) == some false,PySem.W.kitOne K (.ref aF) (.ref aF) == some true,PySem.W.kitOne K (.ref aF) (.ref aM) == some false,PySem.W.kitOne K (.ref aF) (.ref aP) == some false,PySem.W.kitOne K (.ref aM) (.ref aN) == some false,PySem.W.kitOne K (.ref aM) (.ref aF) == some false,PySem.W.kitOne K (.ref aM) (.ref aM) == some true,PySem.W.kitOne K (.ref aM) (.ref aP) == some false,PySem.W.kitOne K (.ref aP) (.ref aN) == some false,PySem.W.kitOne K (.ref aP) (.ref aF) == some false,PySem.W.kitOne K (.ref aP) (.ref aM) == some false,PySem.W.kitOne K (.ref aP) (.ref aP) == some true,PySem.W.excIn K aN bmV nidV,PySem.W.excIn K aP bmV nidV].all id
structure ExcAll (K:PySem.W.Frag)(mg:Str→Option Value)(aN aF aM aP aW:Addr):Prop where
  ask:mg "NoAsk" = some (.ref aN)
  field:mg "NoField" = some (.ref aF)
  number:mg "NoNumber" = some (.ref aM)
  place:mg "NoPlace" = some (.ref aP)
  win:mg "WindowError" = some (.ref aW)
  kitN:excKit K aN=true
  exmN:PySem.W.exmOne K (.ref aN) (.ref aW)=some true
  veN:PySem.W.kitOne K (.ref aN) (.type "ValueError")=some true
  kitF:excKit K aF=true
  exmF:PySem.W.exmOne K (.ref aF) (.ref aW)=some true
  veF:PySem.W.kitOne K (.ref aF) (.type "ValueError")=some true
  kitM:excKit K aM=true
  exmM:PySem.W.exmOne K (.ref aM) (.ref aW)=some true
  veM:PySem.W.kitOne K (.ref aM) (.type "ValueError")=some true
  kitP:excKit K aP=true
  exmP:PySem.W.exmOne K (.ref aP) (.ref aW)=some true
  veP:PySem.W.kitOne K (.ref aP) (.type "ValueError")=some true
  kNN:PySem.W.kitOne K (.ref aN) (.ref aN)=some true
  kNF:PySem.W.kitOne K (.ref aN) (.ref aF)=some false
  kNM:PySem.W.kitOne K (.ref aN) (.ref aM)=some false
  kNP:PySem.W.kitOne K (.ref aN) (.ref aP)=some false
  kFN:PySem.W.kitOne K (.ref aF) (.ref aN)=some false
  kFF:PySem.W.kitOne K (.ref aF) (.ref aF)=some true
  kFM:PySem.W.kitOne K (.ref aF) (.ref aM)=some false
  kFP:PySem.W.kitOne K (.ref aF) (.ref aP)=some false
  kMN:PySem.W.kitOne K (.ref aM) (.ref aN)=some false
  kMF:PySem.W.kitOne K (.ref aM) (.ref aF)=some false
  kMM:PySem.W.kitOne K (.ref aM) (.ref aM)=some true
  kMP:PySem.W.kitOne K (.ref aM) (.ref aP)=some false
  kPN:PySem.W.kitOne K (.ref aP) (.ref aN)=some false
  kPF:PySem.W.kitOne K (.ref aP) (.ref aF)=some false
  kPM:PySem.W.kitOne K (.ref aP) (.ref aM)=some false
  kPP:PySem.W.kitOne K (.ref aP) (.ref aP)=some true
  inN:PySem.W.excIn K aN bmV nidV=true
  inP:PySem.W.excIn K aP bmV nidV=true
theorem ExcAll.of {K:PySem.W.Frag} {mg:Str→Option Value} {aN aF aM aP aW:Addr} (h1:mg "NoAsk" = some (.ref aN)) (h2:mg "NoField" = some (.ref aF)) (h3:mg "NoNumber" = some (.ref aM)) (h4:mg "NoPlace" = some (.ref aP)) (h5:mg "WindowError" = some (.ref aW))
    (h:excAll K aN aF aM aP aW=true):ExcAll K mg aN aF aM aP aW:=by
  unfold excAll at h
  simp only [List.all_cons,List.all_nil,id,Bool.and_eq_true,beq_iff_eq] at h
  obtain ⟨z0,z1,z2,z3,z4,z5,z6,z7,z8,z9,z10,z11,z12,z13,z14,z15,z16,z17,z18,z19,z20,z21,z22,z23,z24,z25,z26,z27,z28,z29,_⟩:=h
  exact ⟨h1,h2,h3,h4,h5,z0,z1,z2,z3,z4,z5,z6,z7,z8,z9,z10,z11,z12,z13,z14,z15,z16,z17,z18,z19,z20,z21,z22,z23,z24,z25,z26,z27,z28,z29⟩
theorem kitAny_no {K:PySem.W.Frag}{t c:Value}{r:List Value}{b:Bool}(h:PySem.W.kitOne K t c=some false)(hr:PySem.W.kitAny K t r=some b):PySem.W.kitAny K t (c :: r)=some b:=by
  unfold PySem.W.kitAny
  rw [h]
  exact hr
end L2
namespace L2
open PySem PySem.Spec PyProof.Rows
end L2
set_option maxHeartbeats 4000000
namespace Mw
open PySem L2
def top (i:Nat):Stmt:=PySem.Challenge.pw_midwindow_k33_whole_changes_in_any_order.main.body.getD i (.Pass ⟨0,0,0,0⟩)
abbrev s_is_inside:Stmt:=top 1
theorem sc_is_inside:FnScope ["field","i","j"] ["field","i","j"] (defScope s_is_inside):=⟨rfl,rfl,rfl,by decide +kernel,rfl,by decide +kernel,by decide +kernel⟩
abbrev s_brought_inside:Stmt:=top 2
theorem sc_brought_inside:FnScope ["rule","place","length","there"] ["rule","place","length"] (defScope s_brought_inside):=⟨rfl,rfl,rfl,by decide +kernel,rfl,by decide +kernel,by decide +kernel⟩
abbrev s_stands_at:Stmt:=top 3
theorem sc_stands_at:FnScope ["field","rule","i","j","row"] ["field","rule","i","j"] (defScope s_stands_at):=⟨rfl,rfl,rfl,by decide +kernel,rfl,by decide +kernel,by decide +kernel⟩
abbrev s_places_around:Stmt:=top 4
theorem sc_places_around:FnScope ["place","ahead","behind"] ["place","ahead","behind"] (defScope s_places_around):=⟨rfl,rfl,rfl,by decide +kernel,rfl,by decide +kernel,by decide +kernel⟩
abbrev s_window_cells:Stmt:=top 5
theorem sc_window_cells:FnScope ["field","window","rule","i","j","columns","cells","row","column"] ["field","window","rule","i","j"] (defScope s_window_cells):=⟨rfl,rfl,rfl,by decide +kernel,rfl,by decide +kernel,by decide +kernel⟩
abbrev s_place_by_share:Stmt:=top 13
theorem sc_place_by_share:FnScope ["how_many","share"] ["how_many","share"] (defScope s_place_by_share):=⟨rfl,rfl,rfl,by decide +kernel,rfl,by decide +kernel,by decide +kernel⟩
abbrev s_so_manieth:Stmt:=top 14
theorem sc_so_manieth:FnScope ["numbers","share"] ["numbers","share"] (defScope s_so_manieth):=⟨rfl,rfl,rfl,by decide +kernel,rfl,by decide +kernel,by decide +kernel⟩
abbrev s_without_holes:Stmt:=top 15
theorem sc_without_holes:FnScope ["cells"] ["cells"] (defScope s_without_holes):=⟨rfl,rfl,rfl,by decide +kernel,rfl,by decide +kernel,by decide +kernel⟩
abbrev s_told_of_cells:Stmt:=top 16
theorem sc_told_of_cells:FnScope ["cells","share"] ["cells","share"] (defScope s_told_of_cells):=⟨rfl,rfl,rfl,by decide +kernel,rfl,by decide +kernel,by decide +kernel⟩
abbrev s_filtered:Stmt:=top 17
theorem sc_filtered:FnScope ["field","window","rule","share","rows","i","row","j"] ["field","window","rule","share"] (defScope s_filtered):=⟨rfl,rfl,rfl,by decide +kernel,rfl,by decide +kernel,by decide +kernel⟩
abbrev s_refuse_outside:Stmt:=top 19
theorem sc_refuse_outside:FnScope ["field","i","j"] ["field","i","j"] (defScope s_refuse_outside):=⟨rfl,rfl,rfl,by decide +kernel,rfl,by decide +kernel,by decide +kernel⟩
abbrev s_row_with:Stmt:=top 20
theorem sc_row_with:FnScope ["row","j","cell"] ["row","j","cell"] (defScope s_row_with):=⟨rfl,rfl,rfl,by decide +kernel,rfl,by decide +kernel,by decide +kernel⟩
abbrev s_field_with:Stmt:=top 21
theorem sc_field_with:FnScope ["field","i","j","cell"] ["field","i","j","cell"] (defScope s_field_with):=⟨rfl,rfl,rfl,by decide +kernel,rfl,by decide +kernel,by decide +kernel⟩
abbrev s_laid_from:Stmt:=top 22
theorem sc_laid_from:FnScope ["rule","place","length"] ["rule","place","length"] (defScope s_laid_from):=⟨rfl,rfl,rfl,by decide +kernel,rfl,by decide +kernel,by decide +kernel⟩
abbrev s_places_holding:Stmt:=top 23
theorem sc_places_holding:FnScope ["rule","place","length","ahead","behind","holding","other"] ["rule","place","length","ahead","behind"] (defScope s_places_holding):=⟨rfl,rfl,rfl,by decide +kernel,rfl,by decide +kernel,by decide +kernel⟩
abbrev s_places_touched:Stmt:=top 24
theorem sc_places_touched:FnScope ["field","window","rule","i","j","columns","places","row"] ["field","window","rule","i","j"] (defScope s_places_touched):=⟨rfl,rfl,rfl,by decide +kernel,rfl,by decide +kernel,by decide +kernel⟩
abbrev s_law_deck:Stmt:=top 27
theorem sc_law_deck:FnScope ["script"] ["script"] (defScope s_law_deck):=⟨rfl,rfl,rfl,by decide +kernel,rfl,by decide +kernel,by decide +kernel⟩
abbrev s_law_draw:Stmt:=top 28
theorem sc_law_draw:FnScope ["deck","most","cells","at","found","turn","number","one"] ["deck","most"] (defScope s_law_draw):=⟨rfl,rfl,rfl,by decide +kernel,rfl,by decide +kernel,by decide +kernel⟩
abbrev s_law_number:Stmt:=top 29
theorem sc_law_number:FnScope ["deck","kind"] ["deck","kind"] (defScope s_law_number):=⟨rfl,rfl,rfl,by decide +kernel,rfl,by decide +kernel,by decide +kernel⟩
abbrev s_law_field:Stmt:=top 30
theorem sc_law_field:FnScope ["deck","most","holes","kind","many","width","rows","i","row","j","number"] ["deck","most","holes"] (defScope s_law_field):=⟨rfl,rfl,rfl,by decide +kernel,rfl,by decide +kernel,by decide +kernel⟩
abbrev s_law_sides:Stmt:=top 31
theorem sc_law_sides:FnScope ["deck","most"] ["deck","most"] (defScope s_law_sides):=⟨rfl,rfl,rfl,by decide +kernel,rfl,by decide +kernel,by decide +kernel⟩
abbrev s_law_rule:Stmt:=top 32
theorem sc_law_rule:FnScope ["deck","kind","told"] ["deck","kind"] (defScope s_law_rule):=⟨rfl,rfl,rfl,by decide +kernel,rfl,by decide +kernel,by decide +kernel⟩
abbrev s_law_share:Stmt:=top 33
theorem sc_law_share:FnScope ["deck","below"] ["deck"] (defScope s_law_share):=⟨rfl,rfl,rfl,by decide +kernel,rfl,by decide +kernel,by decide +kernel⟩
abbrev s_law_cell:Stmt:=top 35
theorem sc_law_cell:FnScope ["deck","field","way","row"] ["deck","field"] (defScope s_law_cell):=⟨rfl,rfl,rfl,by decide +kernel,rfl,by decide +kernel,by decide +kernel⟩
abbrev s_law_refused:Stmt:=top 36
theorem sc_law_refused:FnScope ["deck","kept","field","height","width","far","outs","i","j","error","e"] ["deck","kept","field"] (defScope s_law_refused):=⟨rfl,rfl,rfl,by decide +kernel,rfl,by decide +kernel,by decide +kernel⟩
abbrev s_law_cells:Stmt:=top 37
theorem sc_law_cells:FnScope ["deck","field","many","places","i","found","turn","j"] ["deck","field","many"] (defScope s_law_cells):=⟨rfl,rfl,rfl,by decide +kernel,rfl,by decide +kernel,by decide +kernel⟩
abbrev s_law_shuffled:Stmt:=top 38
theorem sc_law_shuffled:FnScope ["deck","some","left"] ["deck","some"] (defScope s_law_shuffled):=⟨rfl,rfl,rfl,by decide +kernel,rfl,by decide +kernel,by decide +kernel⟩
abbrev s_law_is_rising:Stmt:=top 39
theorem sc_law_is_rising:FnScope ["places","i","j"] ["places","i","j"] (defScope s_law_is_rising):=⟨rfl,rfl,rfl,by decide +kernel,rfl,by decide +kernel,by decide +kernel⟩
abbrev s_law:Stmt:=top 40
theorem sc_law:FnScope ["script","deck","field","window","rule","share","kepts","alone","beside","cells","kept","order","i","j","cell","ahead"] ["script"] (defScope s_law):=⟨rfl,rfl,rfl,by decide +kernel,rfl,by decide +kernel,by decide +kernel⟩
abbrev s_KeptField_init:Stmt:=inClass (top 25) 0
theorem sc_KeptField_init:FnScope ["self","field","window","rule","share"] ["self","field","window","rule","share"] (defScope s_KeptField_init):=⟨rfl,rfl,rfl,by decide +kernel,rfl,by decide +kernel,by decide +kernel⟩
abbrev s_KeptField_change:Stmt:=inClass (top 25) 1
theorem sc_KeptField_change:FnScope ["self","i","j","cell","row","column","cells"] ["self","i","j","cell"] (defScope s_KeptField_change):=⟨rfl,rfl,rfl,by decide +kernel,rfl,by decide +kernel,by decide +kernel⟩
abbrev s_KeptField_field_now:Stmt:=inClass (top 25) 2
theorem sc_KeptField_field_now:FnScope ["self"] ["self"] (defScope s_KeptField_field_now):=⟨rfl,rfl,rfl,by decide +kernel,rfl,by decide +kernel,by decide +kernel⟩
abbrev s_KeptField_told_now:Stmt:=inClass (top 25) 3
theorem sc_KeptField_told_now:FnScope ["self"] ["self"] (defScope s_KeptField_told_now):=⟨rfl,rfl,rfl,by decide +kernel,rfl,by decide +kernel,by decide +kernel⟩
abbrev s_KeptField_touched_last:Stmt:=inClass (top 25) 4
theorem sc_KeptField_touched_last:FnScope ["self"] ["self"] (defScope s_KeptField_touched_last):=⟨rfl,rfl,rfl,by decide +kernel,rfl,by decide +kernel,by decide +kernel⟩
structure Txt (K:PySem.W.Frag)(mg:Str→Option Value)(C:Addr):Prop where
  g_KeptField:mg "KeptField" = some (.ref C)
  cl_KeptField:Cls K C
  a_field:NoAttr K C "field"
  a_rule:NoAttr K C "rule"
  a_share:NoAttr K C "share"
  a_told:NoAttr K C "told"
  a_touched:NoAttr K C "touched"
  a_window:NoAttr K C "window"
  m_KeptField_init:RawI K C "KeptField.__init__" ["self","field","window","rule","share"] s_KeptField_init
  m_KeptField_change:RawM K C "change" "KeptField.change" ["self","i","j","cell"] s_KeptField_change
  m_KeptField_field_now:RawM K C "field_now" "KeptField.field_now" ["self"] s_KeptField_field_now
  m_KeptField_told_now:RawM K C "told_now" "KeptField.told_now" ["self"] s_KeptField_told_now
  m_KeptField_touched_last:RawM K C "touched_last" "KeptField.touched_last" ["self"] s_KeptField_touched_last
  d_is_inside:Raw K mg "is_inside" ["field","i","j"] s_is_inside
  d_brought_inside:Raw K mg "brought_inside" ["rule","place","length"] s_brought_inside
  d_stands_at:Raw K mg "stands_at" ["field","rule","i","j"] s_stands_at
  d_places_around:Raw K mg "places_around" ["place","ahead","behind"] s_places_around
  d_window_cells:Raw K mg "window_cells" ["field","window","rule","i","j"] s_window_cells
  d_place_by_share:Raw K mg "place_by_share" ["how_many","share"] s_place_by_share
  d_so_manieth:Raw K mg "so_manieth" ["numbers","share"] s_so_manieth
  d_without_holes:Raw K mg "without_holes" ["cells"] s_without_holes
  d_told_of_cells:Raw K mg "told_of_cells" ["cells","share"] s_told_of_cells
  d_filtered:Raw K mg "filtered" ["field","window","rule","share"] s_filtered
  d_refuse_outside:Raw K mg "refuse_outside" ["field","i","j"] s_refuse_outside
  d_row_with:Raw K mg "row_with" ["row","j","cell"] s_row_with
  d_field_with:Raw K mg "field_with" ["field","i","j","cell"] s_field_with
  d_laid_from:Raw K mg "laid_from" ["rule","place","length"] s_laid_from
  d_places_holding:Raw K mg "places_holding" ["rule","place","length","ahead","behind"] s_places_holding
  d_places_touched:Raw K mg "places_touched" ["field","window","rule","i","j"] s_places_touched
  d_law_deck:Raw K mg "_law_deck" ["script"] s_law_deck
  d_law_draw:Raw K mg "_law_draw" ["deck","most"] s_law_draw
  d_law_number:Raw K mg "_law_number" ["deck","kind"] s_law_number
  d_law_field:Raw K mg "_law_field" ["deck","most","holes"] s_law_field
  d_law_sides:Raw K mg "_law_sides" ["deck","most"] s_law_sides
  d_law_rule:Raw K mg "_law_rule" ["deck","kind"] s_law_rule
  d_law_share:Raw K mg "_law_share" ["deck"] s_law_share
  d_law_cell:Raw K mg "_law_cell" ["deck","field"] s_law_cell
  d_law_refused:Raw K mg "_law_refused" ["deck","kept","field"] s_law_refused
  d_law_cells:Raw K mg "_law_cells" ["deck","field","many"] s_law_cells
  d_law_shuffled:Raw K mg "_law_shuffled" ["deck","some"] s_law_shuffled
  d_law_is_rising:Raw K mg "_law_is_rising" ["places","i","j"] s_law_is_rising
  d_law:Raw K mg "law" ["script"] s_law
  x_exc:∃ aN aF aM aP aW,ExcAll K mg aN aF aM aP aW
  n_len:mg "len" = none
  n_sum:mg "sum" = none
  n_max:mg "max" = none
  n_min:mg "min" = none
  n_abs:mg "abs" = none
  n_tuple:mg "tuple" = none
  n_list:mg "list" = none
  n_isinstance:mg "isinstance" = none
  n_range:mg "range" = none
  n_sorted:mg "sorted" = none
  n_set:mg "set" = none
  n_ValueError:mg "ValueError" = none
section
variable {P:Program}{w:World}{K:PySem.W.Frag}{mg:Str→Option Value}{base:Heap}{C:Addr}
theorem pickI {x:Int}{ms:List Int}(x0:0≤x)(x1:x < ms.length):∃ m:Int,atI (ms.map V.int) x=some (.int m)∧m∈ms:=by
  obtain ⟨v,e3,e4⟩:=atI_mem (xs:=ms.map V.int) x0 (by rw [List.length_map];exact x1)
  obtain ⟨m,hm,rfl⟩:=List.mem_map.mp e4
  exact ⟨m,e3,hm⟩
theorem cut_take (xs:List V)(k:Nat):cutV xs none (some (k:Int))=xs.take k:=by
  unfold cutV
  rw [HT.sIx_nat]
  show (xs.drop 0).take (min k xs.length - 0)=_
  rw [List.drop_zero,Nat.sub_zero]
  rcases Nat.le_total k xs.length with z | z
  · rw [Nat.min_eq_left z]
  · rw [Nat.min_eq_right z,List.take_of_length_le (Nat.le_refl _),List.take_of_length_le z]
theorem cut_drop (xs:List V)(k:Nat):cutV xs (some ((k:Int) + 1)) none=xs.drop (k + 1):=by
  unfold cutV
  rw [show ((k:Int) + 1)=((k + 1:Nat):Int) by omega,HT.sIx_nat]
  show (xs.drop (min (k + 1) xs.length)).take (xs.length - min (k + 1) xs.length)=_
  rw [List.take_of_length_le (by rw [List.length_drop];omega)]
  rcases Nat.le_total (k + 1) xs.length with z | z
  · rw [Nat.min_eq_left z]
  · rw [Nat.min_eq_right z,List.drop_of_length_le (Nat.le_refl _),List.drop_of_length_le z]
theorem isDs_take {H:Hp}{xs:List V}{ds:List PyData}(h:IsDs H xs ds):∀ k:Nat,IsDs H (xs.take k) (ds.take k):=by
  induction xs generalizing ds with
  | nil=>cases h;intro k;rw [List.take_nil,List.take_nil];exact .nil
  | cons x xs ih =>
    cases h with
    | cons h1 h2 =>
      intro k
      cases k with
      | zero=>exact .nil
      | succ k=>exact .cons h1 (ih h2 k)
theorem isDs_drop {H:Hp}{xs:List V}{ds:List PyData}(h:IsDs H xs ds):∀ k:Nat,IsDs H (xs.drop k) (ds.drop k):=by
  induction xs generalizing ds with
  | nil=>cases h;intro k;rw [List.drop_nil,List.drop_nil];exact .nil
  | cons x xs ih =>
    cases h with
    | cons h1 h2 =>
      intro k
      cases k with
      | zero=>exact .cons h1 h2
      | succ k=>exact ih h2 k
def spPlaceBy (K:PySem.W.Frag):Sp:=fun vs H Q _=>∃ (n:Nat) (sv:V) (a b:Int),vs=[.int n,sv]∧Shr K H sv a b∧Share a b∧Q (.int (placeOf n a b)) H
theorem df_place_by_share (T:Txt K mg C):Df P w K mg base 1 "place_by_share" ["how_many","share"] (spPlaceBy K):=by
  refine T.d_place_by_share.ok sc_place_by_share (fun vs H Q E h=>?_) (fun f cdv A outer s H vs Q E hr h=>?_)
  · obtain ⟨n,sv,a,b,rfl,_⟩:=h
    rfl
  · obtain ⟨n,sv,a,b,rfl,hs,⟨s1,s2,s3,s4⟩,q⟩:=h
    obtain ⟨sa,rfl,hsa⟩:=hs
    refine ⟨_,(@pss_one _ _ _ (@ps_ret _ _ _ _ (@pe_op _ _ _ _ _ _ _ _ op_fdivB (@pe_op _ _ _ _ _ _ _ _ op_mul (@pe_ix _ _ _ _ _ _ _ (ix_seqK (K:=K) rfl) (pv 1) pe_int (fun _ _=>rfl)) (@pe_op _ _ _ _ _ _ _ _ op_sub (pv 0) pe_int)) (@pe_ix _ _ _ _ _ _ _ (ix_seqK (K:=K) rfl) (pv 1) pe_int (fun _ _=>rfl))))),?_⟩
    refine ⟨_,rfl,Or.inr (Or.inl ⟨_,_,_,_,rfl,rfl,shr_sq hsa,rfl,_,rfl,_,_,rfl,rfl,_,_,rfl,rfl,Or.inl ⟨by show -(2 ^ 64) < a;omega,by show a < 2 ^ 64;omega⟩,?_⟩)⟩
    exact ⟨_,rfl,Or.inr (Or.inl ⟨_,_,_,_,rfl,rfl,shr_sq hsa,rfl,_,_,rfl,rfl,⟨by show 0 < b;omega,by show b < 2 ^ 62;omega⟩,q⟩)⟩
def spManieth (K:PySem.W.Frag):Sp:=fun vs H Q _=>∃ (p:Addr) (sv:V) (ns:List Int) (a b:Int),vs=[.ref p,sv]∧SeqV H p (ns.map V.int)∧Shr K H sv a b∧Share a b∧∀ H',Same H H'→Q (cellV (manieth ns a b)) H'
theorem df_so_manieth (T:Txt K mg C):Df P w K mg base 2 "so_manieth" ["numbers","share"] (spManieth K):=by
  refine T.d_so_manieth.ok sc_so_manieth (fun vs H Q E h=>?_) (fun f cdv A outer s H vs Q E hr h=>?_)
  · obtain ⟨p,sv,ns,a,b,rfl,_⟩:=h
    rfl
  · obtain ⟨p,sv,ns,a,b,rfl,hp,hs,hS,q⟩:=h
    refine ⟨_,(@pss_cons _ _ _ _ _ (@ps_if _ _ _ _ _ _ _ _ (@pt_cmpR _ _ _ _ _ _ _ _ (op_eqA hr.units) (@pe_callB _ _ _ _ _ _ _ _ _ (call_lenK (K:=K) rfl) (by rfl) T.n_len bt_len (@pa_cons _ _ _ _ _ (pv 0) pa_nil (by rfl)) (by decide) (by decide) (by rfl) (by rfl)) pe_int (nomark _)) (@pss_one _ _ _ (@ps_ret _ _ _ _ pe_non)) pss_nil)
      (@pss_one _ _ _ (@ps_ret _ _ _ _ (@pe_ix _ _ _ _ _ _ _ (ix_seqK (K:=K) rfl) (@pe_callB _ _ _ _ _ _ _ _ _ call_sorted (by rfl) T.n_sorted bt_sorted (@pa_cons _ _ _ _ _ (pv 0) pa_nil (by rfl)) (by decide) (by decide) (by rfl) (by rfl)) (@pe_df _ _ _ _ _ _ _ _ _ _ (df_place_by_share T) (hr.mono (by decide)) (@pa_cons _ _ _ _ _ (@pe_callB _ _ _ _ _ _ _ _ _ (call_lenK (K:=K) rfl) (by rfl) T.n_len bt_len (@pa_cons _ _ _ _ _ (pv 0) pa_nil (by rfl)) (by decide) (by decide) (by rfl) (by rfl)) (@pa_cons _ _ _ _ _ (pv 1) pa_nil (by rfl)) star_call) (by rfl) (by decide) (by rfl) (by rfl)) (fun _ _=>rfl))))),?_⟩
    refine ⟨_,rfl,_,_,rfl,hp.len,Or.inl ⟨rfl,_,rfl,?_⟩⟩
    refine ite2 (fun z=>?_) (fun z=>?_)
    · have e:ns=[]:=by
        have z':V.int (((ns.map V.int).length:Nat):Int)=V.int 0:=of_decide_eq_true z
        have z2:(((ns.map V.int).length:Nat):Int)=0:=V.int.inj z'
        rw [List.length_map] at z2
        exact List.length_eq_zero_iff.mp (by omega)
      subst e
      have:=q H (Same.refl H)
      rw [manieth_nil] at this
      exact this
    · have e:ns≠[]:=fun e=>by subst e;exact z (by decide)
      refine ⟨_,rfl,p,ns,rfl,hp,fun l hl=>?_⟩
      have sl:=same_upd (o:=.lst ((sortI ns).map V.int)) hl
      refine ⟨_,rfl,_,_,rfl,(hp.same sl).len,_,rfl,_,_,a,b,rfl,hs.keep sl.tups,hS,?_⟩
      obtain ⟨hlt,em⟩:=manieth_some hS e
      have hl1:1≤ns.length:=by
        cases ns with
        | nil=>exact absurd rfl e
        | cons x l=>simp
      have pb:=place_bounds hS hl1
      have el:(ns.map V.int).length=ns.length:=List.length_map ..
      rw [el]
      have en:(((placeOf ns.length a b).toNat:Nat):Int)=placeOf ns.length a b:=Int.toNat_of_nonneg pb.1
      generalize hx:(sortI ns)[(placeOf ns.length a b).toNat]=x at em
      refine Or.inl ⟨_,_,_,.int x,rfl,rfl,SqL.of upd_same,?_,?_⟩
      · rw [← en]
        refine atI_nat ?_
        rw [List.getElem?_map,List.getElem?_eq_getElem hlt,hx]
        rfl
      · have:=q _ sl
        rw [em] at this
        exact this
def spInside:Sp:=fun vs H Q _=>∃ (fv:V) (F:List (List (Option Int))) (i j:Int),vs=[fv,.int i,.int j]∧Rect F∧IsD H fv (fieldD F)∧Q (.bl (inF F i j)) H
theorem df_is_inside (T:Txt K mg C):Df P w K mg base 1 "is_inside" ["field","i","j"] spInside:=by
  refine T.d_is_inside.ok sc_is_inside (fun vs H Q E h=>?_) (fun f cdv A outer s H vs Q E hr h=>?_)
  · obtain ⟨fv,F,i,j,rfl,_⟩:=h
    rfl
  · obtain ⟨fv,F,i,j,rfl,R,hf,q⟩:=h
    obtain ⟨a,xs,b,ys,rfl,ha,la,hb0,hb,lb⟩:=field_sizes R hf
    refine ⟨_,(@pss_one _ _ _ (@ps_ret _ _ _ _ (pe_and (pe_chain op_le op_lt pe_int (pv 1) (@pe_callB _ _ _ _ _ _ _ _ _ (call_lenK (K:=K) rfl) (by rfl) T.n_len bt_len (@pa_cons _ _ _ _ _ (pv 0) pa_nil (by rfl)) (by decide) (by decide) (by rfl) (by rfl))) (pe_one (pe_chain op_le op_lt pe_int (pv 2) (@pe_callB _ _ _ _ _ _ _ _ _ (call_lenK (K:=K) rfl) (by rfl) T.n_len bt_len (@pa_cons _ _ _ _ _ (@pe_ix _ _ _ _ _ _ _ (ix_seqK (K:=K) rfl) (pv 0) pe_int (fun _ _=>rfl)) pa_nil star_sub) (by decide) (by decide) (by rfl) (by rfl))))))),?_⟩
    refine ⟨_,rfl,_,_,rfl,rfl,_,rfl,?_⟩
    unfold inF at q
    refine ite2 (fun z=>?_) (fun z=>?_)
    · refine ⟨_,rfl,_,_,rfl,Or.inr ⟨_,SqT.of ha,rfl⟩,_,_,rfl,rfl,_,rfl,?_⟩
      refine ite2 (fun z2=>?_) (fun z2=>?_)
      · refine ⟨_,rfl,_,_,rfl,rfl,_,rfl,?_⟩
        have e1:(decide (0≤i) && decide (i < (F.length:Int)))=true:=by rw [z,← la,z2];rfl
        rw [e1,Bool.true_and] at q
        refine ite2 (fun z3=>?_) (fun z3=>?_)
        · refine ⟨_,rfl,Or.inr (Or.inl ⟨_,_,_,_,rfl,rfl,SqT.of ha,hb0,_,_,rfl,Or.inr ⟨_,SqT.of hb,rfl⟩,_,_,rfl,rfl,?_⟩)⟩
          rw [z3,← lb,Bool.true_and] at q
          exact q
        · rw [Bool.eq_false_iff.mpr z3,Bool.false_and] at q
          exact q
      · have e1:(decide (0≤i) && decide (i < (F.length:Int)))=false:=by rw [← la,Bool.eq_false_iff.mpr z2,Bool.and_false]
        rw [e1,Bool.false_and] at q
        exact q
    · rw [Bool.eq_false_iff.mpr z,Bool.false_and,Bool.false_and] at q
      exact ⟨_,rfl,iteF q⟩
theorem minInt (i j:Int):(if j < i then j else i)=min i j:=by omega
theorem maxInt (i j:Int):(if j > i then j else i)=max i j:=by omega
theorem s_turned_near:¬ (("turned" : Str) = "near"):=by decide +kernel
theorem s_round_near:¬ (("round" : Str) = "near"):=by decide +kernel
theorem s_round_turned:¬ (("round" : Str) = "turned"):=by decide +kernel
theorem s_near_there:¬ (("near" : Str) = "there"):=by decide +kernel
theorem s_turned_there:¬ (("turned" : Str) = "there"):=by decide +kernel
theorem s_round_there:¬ (("round" : Str) = "there"):=by decide +kernel
theorem eqS {x y:Str}(h:x=y):decide (V.str x=V.str y)=true:=decide_eq_true (by rw [h])
theorem neS {x y:Str}(h:¬ x=y):decide (V.str x=V.str y)=false:=decide_eq_false fun e=>h (V.str.inj e)
def Led (r:Rule) (x:Str):Prop:=(r = .near ∧ x = "near") ∨ (r = .turned ∧ x = "turned") ∨ (r = .round ∧ x = "round")
def spBrought:Sp:=fun vs H Q _=>∃ (r:Rule) (x:Str) (p n:Int),vs=[.str x,.int p,.int n]∧Led r x∧1≤n∧n < 2 ^ 40∧Q (.int (led r p n)) H
theorem df_brought_inside (T:Txt K mg C):Df P w K mg base 1 "brought_inside" ["rule","place","length"] spBrought:=by
  refine T.d_brought_inside.ok sc_brought_inside (fun vs H Q E h=>?_) (fun f cdv A outer s H vs Q E hr h=>?_)
  · obtain ⟨r,x,p,n,rfl,_⟩:=h
    rfl
  · obtain ⟨r,x,p,n,rfl,hl,n1,n2,q⟩:=h
    refine ⟨_,(@pss_cons _ _ _ _ _ (@ps_if _ _ _ _ _ _ _ _ (@pt_cmpR _ _ _ _ _ _ _ _ (op_eqA hr.units) (pv 0) pe_str (nomark _)) (@pss_one _ _ _ (@ps_ret _ _ _ _ (@pe_callB _ _ _ _ _ _ _ _ _ (call_min2 rfl) (by rfl) T.n_min bt_min (@pa_cons _ _ _ _ _ (@pe_callB _ _ _ _ _ _ _ _ _ (call_max2 rfl) (by rfl) T.n_max bt_max (@pa_cons _ _ _ _ _ (pv 1) (@pa_cons _ _ _ _ _ pe_int pa_nil (by rfl)) (by rfl)) (by decide) (by decide) (by rfl) (by rfl)) (@pa_cons _ _ _ _ _ (@pe_op _ _ _ _ _ _ _ _ op_sub (pv 2) pe_int) pa_nil star_bin) star_call) (by decide) (by decide) (by rfl) (by rfl)))) pss_nil)
      (@pss_cons _ _ _ _ _ (@ps_if _ _ _ _ _ _ _ _ (@pt_cmpR _ _ _ _ _ _ _ _ (op_eqA hr.units) (pv 0) pe_str (nomark _)) (@pss_cons _ _ _ _ _ (@ps_set _ _ 3 _ _ _ _ sc_brought_inside.nd rfl (by first | exact Or.inl rfl | exact Or.inr rfl) (@pe_op _ _ _ _ _ _ _ _ op_mod (pv 1) (@pe_op _ _ _ _ _ _ _ _ op_mul pe_int (pv 2))) (by rfl) (by first | exact .inl rfl | exact .inr rfl))
      (@pss_one _ _ _ (@ps_ret _ _ _ _ (@pe_callB _ _ _ _ _ _ _ _ _ (call_min2 rfl) (by rfl) T.n_min bt_min (@pa_cons _ _ _ _ _ (pv 3) (@pa_cons _ _ _ _ _ (@pe_op _ _ _ _ _ _ _ _ op_sub (@pe_op _ _ _ _ _ _ _ _ op_sub (@pe_op _ _ _ _ _ _ _ _ op_mul pe_int (pv 2)) pe_int) (pv 3)) pa_nil star_bin) (by rfl)) (by decide) (by decide) (by rfl) (by rfl))))) pss_nil)
      (@pss_one _ _ _ (@ps_ret _ _ _ _ (@pe_op _ _ _ _ _ _ _ _ op_mod (pv 1) (pv 2)))))),?_⟩
    rcases hl with ⟨rfl,rfl⟩ | ⟨rfl,rfl⟩ | ⟨rfl,rfl⟩
    · refine ⟨_,rfl,Or.inl ⟨rfl,_,rfl,?_⟩⟩
      rw [eqS rfl]
      refine iteT ?_
      refine ⟨_,rfl,_,_,rfl,_,rfl,_,_,rfl,rfl,_,_,rfl,?_⟩
      rw [minInt,maxInt]
      exact q
    · refine ⟨_,rfl,Or.inl ⟨rfl,_,rfl,?_⟩⟩
      rw [neS s_turned_near]
      refine iteF ?_
      refine ⟨_,rfl,Or.inl ⟨rfl,_,rfl,?_⟩⟩
      rw [eqS rfl]
      refine iteT ?_
      refine ⟨_,rfl,_,rfl,_,_,rfl,rfl,Or.inl ⟨by decide,by decide⟩,_,_,rfl,rfl,(by show (0:Int) < 2 * n;omega),?_⟩
      refine ⟨_,rfl,_,rfl,_,_,rfl,rfl,Or.inl ⟨by decide,by decide⟩,_,_,rfl,rfl,_,rfl,_,_,rfl,rfl,_,_,rfl,?_⟩
      rw [minInt]
      exact q
    · refine ⟨_,rfl,Or.inl ⟨rfl,_,rfl,?_⟩⟩
      rw [neS s_round_near]
      refine iteF ?_
      refine ⟨_,rfl,Or.inl ⟨rfl,_,rfl,?_⟩⟩
      rw [neS s_round_turned]
      refine iteF ?_
      refine ⟨_,rfl,_,rfl,_,_,rfl,rfl,(by show (0:Int) < n;omega),?_⟩
      exact q
def spStandsAt:Sp:=fun vs H Q _=>∃ (fv rv:V) (F:List (List (Option Int))) (r:Rule) (i j:Int),vs=[fv,rv,.int i,.int j]∧Rect F∧IsD H fv (fieldD F)∧IsD H rv (ruleD r) ∧
  ∀ (p:Addr),H p=none→Q (.ref p) (upd H p (.tup ((stands F r i j).map cellV)))
theorem df_stands_at (T:Txt K mg C):Df P w K mg base 2 "stands_at" ["field","rule","i","j"] spStandsAt:=by
  refine T.d_stands_at.ok sc_stands_at (fun vs H Q E h=>?_) (fun f cdv A outer s H vs Q E hr h=>?_)
  · obtain ⟨fv,rv,F,r,i,j,rfl,_⟩:=h
    rfl
  · obtain ⟨fv,rv,F,r,i,j,rfl,R,hf,hru,q⟩:=h
    refine ⟨_,(@pss_cons _ _ _ _ _ (@ps_if _ _ _ _ _ _ _ _ (@pt_val _ _ _ (@pe_df _ _ _ _ _ _ _ _ _ _ (df_is_inside T) (hr.mono (by decide)) (@pa_cons _ _ _ _ _ (pv 0) (@pa_cons _ _ _ _ _ (pv 2) (@pa_cons _ _ _ _ _ (pv 3) pa_nil (by rfl)) (by rfl)) (by rfl)) (by rfl) (by decide) (by rfl) (by rfl)) (by intro _;rfl)) (@pss_one _ _ _ (@ps_ret _ _ _ _ (@pe_tup _ _ _ _ _ (@pa_cons _ _ _ _ _ (@pe_ix _ _ _ _ _ _ _ (ix_seqK (K:=K) rfl) (@pe_ix _ _ _ _ _ _ _ (ix_seqK (K:=K) rfl) (pv 0) (pv 2) (fun _ _=>rfl)) (pv 3) (fun _ _=>rfl)) pa_nil star_sub)))) pss_nil)
      (@pss_cons _ _ _ _ _ (@ps_if _ _ _ _ _ _ _ _ (@pt_cmpR _ _ _ _ _ _ _ _ (op_eqA hr.units) (pv 1) pe_str (nomark _)) (@pss_one _ _ _ (@ps_ret _ _ _ _ (@pe_tup _ _ _ _ _ pa_nil))) pss_nil)
      (@pss_cons _ _ _ _ _ (@ps_if _ _ _ _ _ _ _ _ (@pt_val _ _ _ (@pe_callB _ _ _ _ _ _ _ _ _ (call_isinstK (K:=K) rfl) (by rfl) T.n_isinstance bt_isinstance (@pa_cons _ _ _ _ _ (pv 1) (@pa_cons _ _ _ _ _ (pe_bltn (v:=.ty "tuple") (by rfl) T.n_tuple bt_tuple rfl) pa_nil (by rfl)) (by rfl)) (by decide) (by decide) (by rfl) (by rfl)) (by intro _;rfl)) (@pss_one _ _ _ (@ps_ret _ _ _ _ (@pe_tup _ _ _ _ _ (@pa_cons _ _ _ _ _ (@pe_ix _ _ _ _ _ _ _ (ix_seqK (K:=K) rfl) (pv 1) pe_int (fun _ _=>rfl)) pa_nil star_sub)))) pss_nil)
      (@pss_cons _ _ _ _ _ (@ps_set _ _ 4 _ _ _ _ sc_stands_at.nd rfl (by first | exact Or.inl rfl | exact Or.inr rfl) (@pe_ix _ _ _ _ _ _ _ (ix_seqK (K:=K) rfl) (pv 0) (@pe_df _ _ _ _ _ _ _ _ _ _ (df_brought_inside T) (hr.mono (by decide)) (@pa_cons _ _ _ _ _ (pv 1) (@pa_cons _ _ _ _ _ (pv 2) (@pa_cons _ _ _ _ _ (@pe_callB _ _ _ _ _ _ _ _ _ (call_lenK (K:=K) rfl) (by rfl) T.n_len bt_len (@pa_cons _ _ _ _ _ (pv 0) pa_nil (by rfl)) (by decide) (by decide) (by rfl) (by rfl)) pa_nil star_call) (by rfl)) (by rfl)) (by rfl) (by decide) (by rfl) (by rfl)) (fun _ _=>rfl)) (by rfl) (by first | exact .inl rfl | exact .inr rfl))
      (@pss_one _ _ _ (@ps_ret _ _ _ _ (@pe_tup _ _ _ _ _ (@pa_cons _ _ _ _ _ (@pe_ix _ _ _ _ _ _ _ (ix_seqK (K:=K) rfl) (pv 4) (@pe_df _ _ _ _ _ _ _ _ _ _ (df_brought_inside T) (hr.mono (by decide)) (@pa_cons _ _ _ _ _ (pv 1) (@pa_cons _ _ _ _ _ (pv 3) (@pa_cons _ _ _ _ _ (@pe_callB _ _ _ _ _ _ _ _ _ (call_lenK (K:=K) rfl) (by rfl) T.n_len bt_len (@pa_cons _ _ _ _ _ (pv 4) pa_nil (by rfl)) (by decide) (by decide) (by rfl) (by rfl)) pa_nil star_call) (by rfl)) (by rfl)) (by rfl) (by decide) (by rfl) (by rfl)) (fun _ _=>rfl)) pa_nil star_sub)))))))),?_⟩
    refine ⟨_,rfl,_,rfl,_,rfl,_,F,i,j,rfl,R,hf,_,rfl,?_⟩
    unfold stands at q
    cases hin:inF F i j with
    | true =>
      refine iteT ?_
      rw [hin,if_pos rfl] at q
      unfold inF at hin
      simp only [Bool.and_eq_true,decide_eq_true_eq] at hin
      obtain ⟨a,xs,b,rr,rfl,ha,hab,hb,hbc,_⟩:=field_cell R hf hin.1.1 hin.1.2 hin.2.1 hin.2.2
      refine ⟨_,rfl,_,rfl,Or.inr (Or.inl ⟨_,_,_,_,rfl,rfl,SqT.of ha,hab,_,rfl,Or.inr (Or.inl ⟨_,_,_,_,rfl,rfl,SqT.of hb,hbc,(by show 1≤sizeLine;decide),fun p hp=>?_⟩)⟩)⟩
      exact q p hp
    | false =>
      refine iteF ?_
      rw [hin,if_neg Bool.false_ne_true] at q
      cases r with
      | there =>
        have e:=rule_str hru
        subst e
        refine ⟨_,rfl,Or.inl ⟨rfl,_,rfl,?_⟩⟩
        rw [eqS rfl]
        refine iteT ?_
        exact ⟨(by show 0≤sizeLine;decide),fun p hp=>q p hp⟩
      | told c =>
        obtain ⟨a,xs,rfl,ha,hxs⟩:=hru.tuple_inv
        refine ⟨_,rfl,Or.inr ⟨_,_,hru,.str _,⟨?_,by decide +kernel,?_⟩,_,rfl,?_⟩⟩
        · show PyData.canLayAll0 [.str "told",cellD c]=true
          rw [PyData.canLayAll0,PyData.canLayAll0,canLay_cell]
          decide +kernel
        · show PyData.depthAll [.str "told",cellD c] + 1≤20
          rw [PyData.depthAll,PyData.depthAll,depth_cell]
          decide
        refine iteF ?_
        refine ⟨_,rfl,_,_,_,_,rfl,Or.inl ⟨rfl,_,ha⟩,rfl,_,rfl,?_⟩
        refine iteT ?_
        cases hxs with
        | cons h1 h2 =>
          cases h2 with
          | cons h3 h4 =>
            cases h4
            rw [IsD.cell_inv h3] at ha
            refine ⟨_,rfl,Or.inr (Or.inl ⟨_,_,_,_,rfl,rfl,SqT.of ha,rfl,(by show 1≤sizeLine;decide),fun p hp=>q p hp⟩)⟩
      | near =>
        have e:=rule_str hru
        subst e
        obtain ⟨a,xs,b0,ys,e,ha,la,hb0,hb,lb⟩:=field_sizes R hf
        subst e
        have li:=led_in .near i (n:=F.length) (by have:=R.h1;omega)
        have lj:=led_in .near j (n:=(F.headD []).length) (by have:=R.w1;omega)
        obtain ⟨a',xs',b,rr,e,ha',hab,hb',hbc,lr⟩:=field_cell R hf li.1 li.2 lj.1 lj.2
        cases e
        rw [ha] at ha';cases ha'
        refine ⟨_,rfl,Or.inl ⟨rfl,_,rfl,?_⟩⟩
        rw [neS s_near_there]
        refine iteF ?_
        refine ⟨_,rfl,_,_,_,_,rfl,rfl,rfl,_,rfl,?_⟩
        refine iteF ?_
        refine ⟨_,rfl,_,rfl,_,rfl,_,rfl,_,_,rfl,Or.inr ⟨_,SqT.of ha,rfl⟩,.near,_,_,_,rfl,(by unfold Led;simp),(by have:=R.h1;omega),(by have:=R.hs;omega),?_⟩
        refine Or.inr (Or.inl ⟨_,_,_,_,rfl,rfl,SqT.of ha,(by rw [la];exact hab),?_⟩)
        refine ⟨_,rfl,_,rfl,_,rfl,_,rfl,_,_,rfl,Or.inr ⟨_,SqT.of hb',rfl⟩,.near,_,_,_,rfl,(by unfold Led;simp),(by rw [lr];have:=R.w1;omega),(by rw [lr];have:=R.ws;omega),?_⟩
        refine Or.inr (Or.inl ⟨_,_,_,_,rfl,rfl,SqT.of hb',(by rw [lr];exact hbc),(by show 1≤sizeLine;decide),fun p hp=>q p hp⟩)
      | turned =>
        have e:=rule_str hru
        subst e
        obtain ⟨a,xs,b0,ys,e,ha,la,hb0,hb,lb⟩:=field_sizes R hf
        subst e
        have li:=led_in .turned i (n:=F.length) (by have:=R.h1;omega)
        have lj:=led_in .turned j (n:=(F.headD []).length) (by have:=R.w1;omega)
        obtain ⟨a',xs',b,rr,e,ha',hab,hb',hbc,lr⟩:=field_cell R hf li.1 li.2 lj.1 lj.2
        cases e
        rw [ha] at ha';cases ha'
        refine ⟨_,rfl,Or.inl ⟨rfl,_,rfl,?_⟩⟩
        rw [neS s_turned_there]
        refine iteF ?_
        refine ⟨_,rfl,_,_,_,_,rfl,rfl,rfl,_,rfl,?_⟩
        refine iteF ?_
        refine ⟨_,rfl,_,rfl,_,rfl,_,rfl,_,_,rfl,Or.inr ⟨_,SqT.of ha,rfl⟩,.turned,_,_,_,rfl,(by unfold Led;simp),(by have:=R.h1;omega),(by have:=R.hs;omega),?_⟩
        refine Or.inr (Or.inl ⟨_,_,_,_,rfl,rfl,SqT.of ha,(by rw [la];exact hab),?_⟩)
        refine ⟨_,rfl,_,rfl,_,rfl,_,rfl,_,_,rfl,Or.inr ⟨_,SqT.of hb',rfl⟩,.turned,_,_,_,rfl,(by unfold Led;simp),(by rw [lr];have:=R.w1;omega),(by rw [lr];have:=R.ws;omega),?_⟩
        refine Or.inr (Or.inl ⟨_,_,_,_,rfl,rfl,SqT.of hb',(by rw [lr];exact hbc),(by show 1≤sizeLine;decide),fun p hp=>q p hp⟩)
      | round =>
        have e:=rule_str hru
        subst e
        obtain ⟨a,xs,b0,ys,e,ha,la,hb0,hb,lb⟩:=field_sizes R hf
        subst e
        have li:=led_in .round i (n:=F.length) (by have:=R.h1;omega)
        have lj:=led_in .round j (n:=(F.headD []).length) (by have:=R.w1;omega)
        obtain ⟨a',xs',b,rr,e,ha',hab,hb',hbc,lr⟩:=field_cell R hf li.1 li.2 lj.1 lj.2
        cases e
        rw [ha] at ha';cases ha'
        refine ⟨_,rfl,Or.inl ⟨rfl,_,rfl,?_⟩⟩
        rw [neS s_round_there]
        refine iteF ?_
        refine ⟨_,rfl,_,_,_,_,rfl,rfl,rfl,_,rfl,?_⟩
        refine iteF ?_
        refine ⟨_,rfl,_,rfl,_,rfl,_,rfl,_,_,rfl,Or.inr ⟨_,SqT.of ha,rfl⟩,.round,_,_,_,rfl,(by unfold Led;simp),(by have:=R.h1;omega),(by have:=R.hs;omega),?_⟩
        refine Or.inr (Or.inl ⟨_,_,_,_,rfl,rfl,SqT.of ha,(by rw [la];exact hab),?_⟩)
        refine ⟨_,rfl,_,rfl,_,rfl,_,rfl,_,_,rfl,Or.inr ⟨_,SqT.of hb',rfl⟩,.round,_,_,_,rfl,(by unfold Led;simp),(by rw [lr];have:=R.w1;omega),(by rw [lr];have:=R.ws;omega),?_⟩
        refine Or.inr (Or.inl ⟨_,_,_,_,rfl,rfl,SqT.of hb',(by rw [lr];exact hbc),(by show 1≤sizeLine;decide),fun p hp=>q p hp⟩)
def spPlaces:Sp:=fun vs H Q _=>∃ (p:Int) (a b:Nat),vs=[.int p,.int a,.int b]∧(-(2 ^ 60) < p∧p < 2 ^ 60)∧a≤100∧b≤100 ∧
  ∀ (l:Addr) (H':Hp),Same H H'→H' l=some (.lst (upInts (p - a) (a + b + 1)))→Q (.ref l) H'
theorem df_places_around (T:Txt K mg C):Df P w K mg base 1 "places_around" ["place","ahead","behind"] spPlaces:=by
  refine T.d_places_around.ok sc_places_around (fun vs H Q E h=>?_) (fun f cdv A outer s H vs Q E hr h=>?_)
  · obtain ⟨p,a,b,rfl,_⟩:=h
    rfl
  · obtain ⟨p,a,b,rfl,hp,ha,hb,q⟩:=h
    refine ⟨_,(@pss_one _ _ _ (@ps_ret _ _ _ _ (@pe_callTy _ _ _ _ _ _ _ _ _ (CallR.or (call_listK (K:=K) rfl) (call_list_rng rfl)) (by rfl) T.n_list bt_list (@pa_cons _ _ _ _ _ (@pe_callTy _ _ _ _ _ _ _ _ _ call_range2V (by rfl) T.n_range bt_range (@pa_cons _ _ _ _ _ (@pe_op _ _ _ _ _ _ _ _ op_sub (pv 0) (pv 1)) (@pa_cons _ _ _ _ _ (@pe_op _ _ _ _ _ _ _ _ op_add (@pe_op _ _ _ _ _ _ _ _ op_add (pv 0) (pv 2)) pe_int) pa_nil star_bin) star_bin) (by decide) (by decide) (by rfl) (by rfl)) pa_nil star_call) (by decide) (by decide) (by rfl) (by rfl)))),?_⟩
    refine ⟨_,rfl,_,rfl,_,_,rfl,rfl,_,rfl,_,rfl,_,_,rfl,rfl,_,_,rfl,rfl,?_⟩
    refine ⟨_,_,rfl,fun r hr=>?_⟩
    have e:(p + (b:Int) + 1 - (p - (a:Int))).toNat=a + b + 1:=by omega
    refine Or.inr ⟨_,_,_,rfl,upd_same,⟨by omega,by omega,by omega,by omega⟩,by rw [e];omega,fun l hl=>?_⟩
    rw [e]
    exact q l _ ((same_upd hr).trans (same_upd hl)) upd_same
def spCells:Sp:=fun vs H Q _=>∃ (fv wv rv:V) (F:List (List (Option Int))) (ru:Rule) (u d l r:Nat) (i j:Int),vs=[fv,wv,rv,.int i,.int j]∧Rect F∧IsD H fv (fieldD F)∧IsD H wv (winD u d l r)∧IsD H rv (ruleD ru) ∧
  (-(2 ^ 60) < i∧i < 2 ^ 60)∧(-(2 ^ 60) < j∧j < 2 ^ 60)∧(u≤100∧d≤100∧l≤100∧r≤100) ∧
  ∀ (p:Addr) (H':Hp),Same H H'→H' p=some (.tup ((wc F ru u d l r i j).map cellV))→Q (.ref p) H'
theorem df_window_cells (T:Txt K mg C):Df P w K mg base 3 "window_cells" ["field","window","rule","i","j"] spCells:=by
  refine T.d_window_cells.ok sc_window_cells (fun vs H Q E h=>?_) (fun f cdv A outer s H vs Q E hr h=>?_)
  · obtain ⟨fv,wv,rv,F,ru,u,d,l,r,i,j,rfl,_⟩:=h
    rfl
  · obtain ⟨fv,wv,rv,F,ru,u,d,l,r,i,j,rfl,R,hf,hw,hru,bi,bj,⟨bu,bd,bl,br⟩,q⟩:=h
    refine ⟨_,(@pss_cons _ _ _ _ _ (@ps_set _ _ 5 _ _ _ _ sc_window_cells.nd rfl (by first | exact Or.inl rfl | exact Or.inr rfl) (@pe_df _ _ _ _ _ _ _ _ _ _ (df_places_around T) (hr.mono (by decide)) (@pa_cons _ _ _ _ _ (pv 4) (@pa_cons _ _ _ _ _ (@pe_ix _ _ _ _ _ _ _ (ix_seqK (K:=K) rfl) (pv 1) pe_int (fun _ _=>rfl)) (@pa_cons _ _ _ _ _ (@pe_ix _ _ _ _ _ _ _ (ix_seqK (K:=K) rfl) (pv 1) pe_int (fun _ _=>rfl)) pa_nil star_sub) star_sub) (by rfl)) (by rfl) (by decide) (by rfl) (by rfl)) (by rfl) (by first | exact .inl rfl | exact .inr rfl))
      (@pss_cons _ _ _ _ _ (@ps_set _ _ 6 _ _ _ _ sc_window_cells.nd rfl (by first | exact Or.inl rfl | exact Or.inr rfl) (@pe_lst _ _ _ _ pa_nil) (by rfl) (by first | exact .inl rfl | exact .inr rfl))
      (@pss_cons _ _ _ _ _ (@ps_for _ _ _ _ _ _ _ _ PassesOwn.never rfl (pi_seqK (K:=K) rfl (@pe_df _ _ _ _ _ _ _ _ _ _ (df_places_around T) (hr.mono (by decide)) (@pa_cons _ _ _ _ _ (pv 3) (@pa_cons _ _ _ _ _ (@pe_ix _ _ _ _ _ _ _ (ix_seqK (K:=K) rfl) (pv 1) pe_int (fun _ _=>rfl)) (@pa_cons _ _ _ _ _ (@pe_ix _ _ _ _ _ _ _ (ix_seqK (K:=K) rfl) (pv 1) pe_int (fun _ _=>rfl)) pa_nil star_sub) star_sub) (by rfl)) (by rfl) (by decide) (by rfl) (by rfl))) (pg_name (i:=7) sc_window_cells.nd rfl (by first | exact Or.inl rfl | exact Or.inr rfl)) (@pss_one _ _ _ (@ps_for _ _ _ _ _ _ _ _ PassesOwn.never rfl (pi_seqK (K:=K) rfl (pv 5)) (pg_name (i:=8) sc_window_cells.nd rfl (by first | exact Or.inl rfl | exact Or.inr rfl)) (@pss_one _ _ _ (@ps_expr _ _ _ _ (pe_bm PySem.F.plainAttrs_list PySem.F.slot_list_extend PySem.F.type_list_extend (MtR.or mt_extend mt_extendT) (pv 6) (@pa_cons _ _ _ _ _ (@pe_df _ _ _ _ _ _ _ _ _ _ (df_stands_at T) (hr.mono (by decide)) (@pa_cons _ _ _ _ _ (pv 0) (@pa_cons _ _ _ _ _ (pv 2) (@pa_cons _ _ _ _ _ (pv 7) (@pa_cons _ _ _ _ _ (pv 8) pa_nil (by rfl)) (by rfl)) (by rfl)) (by rfl)) (by rfl) (by decide) (by rfl) (by rfl)) pa_nil star_call)) (by rfl))) (by intro _;rfl))) (by intro _;rfl))
      (@pss_one _ _ _ (@ps_ret _ _ _ _ (@pe_callTy _ _ _ _ _ _ _ _ _ (call_tupleK (K:=K) rfl) (by rfl) T.n_tuple bt_tuple (@pa_cons _ _ _ _ _ (pv 6) pa_nil (by rfl)) (by decide) (by decide) (by rfl) (by rfl))))))),?_⟩
    obtain ⟨wa,rfl,hwa⟩:=isWin_inv hw
    refine ⟨_,rfl,_,rfl,Or.inr (Or.inl ⟨_,_,_,_,rfl,rfl,SqT.of hwa,rfl,_,rfl,Or.inr (Or.inl ⟨_,_,_,_,rfl,rfl,SqT.of hwa,rfl,?_⟩)⟩)⟩
    refine ⟨_,_,_,rfl,bj,bl,br,fun lc H1 s1 hlc=>?_⟩
    refine ⟨(by show 0≤sizeLine;decide),fun c hc=>?_⟩
    have s2:=same_upd (o:=.lst []) hc
    have S2:=s1.trans s2
    refine Or.inl ?_
    refine ⟨_,rfl,_,rfl,Or.inr (Or.inl ⟨_,_,_,_,rfl,rfl,SqT.of (S2 _ _ hwa),rfl,_,rfl,Or.inr (Or.inl ⟨_,_,_,_,rfl,rfl,SqT.of (S2 _ _ hwa),rfl,?_⟩)⟩)⟩
    refine ⟨_,_,_,rfl,bi,bu,bd,fun lr H3 s3 hlr=>?_⟩
    refine ⟨_,rfl,⟨_,SqL.of hlr⟩,?_⟩
    have hc3:H3 c=some (.lst []):=s3 _ _ upd_same
    have S3:=S2.trans s3
    have hlc3:=(s2.trans s3) _ _ hlc
    have nlc:lc≠c:=ne_of_none hlc hc
    have nlr:lr≠c:=by
      refine ne_of hlr hc3 fun z=>?_
      have:=congrArg (fun o=>match o with | HO.lst xs=>xs.length | _=>0) z
      simp only [upInts_len,List.length_nil] at this
      omega
    have oldne:∀ b o,H b=some o→b≠c:=fun b o e=>ne_of_none (s1 b o e) hc
    have keepH:∀ {H':Hp},KeepBut c H3 H'→Same H H':=fun k b o e=>k b o (S3 b o e) (oldne b o e)
    refine for_list (xs:=upInts (i - u) (u + d + 1)) (fun a σ H'=>∃ v7 v8,σ=[some fv,some (.ref wa),some rv,some (.int i),some (.int j),some (.ref lc),some (.ref c),v7,v8]∧KeepBut c H3 H' ∧
        H' c=some (.lst (((List.range a).flatMap fun a=>rowCells F ru l r (i - u + (a:Nat)) j).map cellV)))
      ⟨none,none,rfl,KeepBut.refl _ _,hc3⟩ (fun a σ H' _ ⟨_,_,_,k,_⟩=>SqL.of (k _ _ hlr nlr)) ?_ ?_
    · rintro a y _ H4 ha ⟨v7,v8,rfl,k4,hc4⟩
      have ha':a < u + d + 1:=by
        have:=(List.getElem?_eq_some_iff.mp ha).1
        rw [upInts_len] at this;exact this
      have ey:y = .int (i - u + (a:Nat)):=by
        unfold upInts at ha
        rw [List.getElem?_map,List.getElem?_range ha'] at ha
        exact (Option.some.inj ha).symm
      subst ey
      refine Or.inl ?_
      refine ⟨_,rfl,_,rfl,⟨_,SqL.of (k4 _ _ hlc3 nlc)⟩,?_⟩
      refine for_list (xs:=upInts (j - l) (l + r + 1)) (fun b σ H'=>∃ v8,σ=[some fv,some (.ref wa),some rv,some (.int i),some (.int j),some (.ref lc),some (.ref c),some (.int (i - u + (a:Nat))),v8]∧KeepBut c H3 H' ∧
          H' c=some (.lst ((((List.range a).flatMap fun a=>rowCells F ru l r (i - u + (a:Nat)) j) ++ (List.range b).flatMap fun b=>stands F ru (i - u + (a:Nat)) (j - l + (b:Nat))).map cellV)))
        ⟨v8,rfl,k4,by rw [hc4];simp⟩ (fun b σ H' _ ⟨_,_,k,_⟩=>SqL.of (k _ _ hlc3 nlc)) ?_ ?_
      · rintro b y _ H5 hb ⟨v8,rfl,k5,hc5⟩
        have hb':b < l + r + 1:=by
          have:=(List.getElem?_eq_some_iff.mp hb).1
          rw [upInts_len] at this;exact this
        have ey:y = .int (j - l + (b:Nat)):=by
          unfold upInts at hb
          rw [List.getElem?_map,List.getElem?_range hb'] at hb
          exact (Option.some.inj hb).symm
        subst ey
        have S5:=keepH k5
        refine ⟨_,rfl,Or.inl ⟨rfl,_,SqL.of hc5⟩,?_⟩
        refine ⟨_,rfl,_,rfl,_,rfl,_,rfl,_,_,F,ru,_,_,rfl,R,hf.keep S5.tups,hru.keep S5.tups,fun p hp=>?_⟩
        have s6:=same_upd (o:=.tup ((stands F ru (i - u + (a:Nat)) (j - l + (b:Nat))).map cellV)) hp
        have np:p≠c:=(ne_of_none hc5 hp).symm
        refine Or.inr ⟨_,_,_,_,rfl,rfl,s6 _ _ hc5,upd_same,?_,?_⟩
        · have l1:=flatMap_len (fun a=>rowCells F ru l r (i - u + (a:Nat)) j) (m:=201) (fun k=>Nat.le_trans (rowCells_len _ _ _ _ _ _) (by omega)) a
          have l2:=flatMap_len (fun b=>stands F ru (i - u + (a:Nat)) (j - l + (b:Nat))) (m:=1) (fun k=>stands_len _ _ _ _) b
          have l3:=stands_len F ru (i - u + (a:Nat)) (j - l + (b:Nat))
          have l4:a * 201≤201 * 201:=Nat.mul_le_mul_right _ (by omega)
          rw [List.length_map,List.length_map,List.length_append]
          refine Nat.le_trans (m:=50000) ?_ (by decide)
          omega
        · refine ⟨_,rfl,fun b' o e n=>?_,?_⟩
          · rw [upd_ne n];exact s6 _ _ (k5 b' o e n)
          · rw [upd_same,flatMap_succ,← List.map_append,List.append_assoc]
      · rintro _ H5 ⟨v8,rfl,k5,hc5⟩
        refine ⟨_,_,rfl,k5,?_⟩
        rw [hc5,flatMap_succ,upInts_len]
        rfl
    · rintro _ H4 ⟨v7,v8,rfl,k4,hc4⟩
      rw [upInts_len] at hc4
      refine ⟨_,rfl,_,_,rfl,Or.inl ⟨SqL.of hc4,fun p hp=>?_⟩⟩
      exact q p _ ((keepH k4).trans (same_upd hp)) upd_same
def spHoles:Sp:=fun vs H Q _=>∃ (p:Addr) (cs:List (Option Int)),vs=[.ref p]∧SeqV H p (cs.map cellV)∧cs.length ≤ 100000∧∀ (t:Addr) (H':Hp),Same H H'→H' t=some (.tup ((cs.filterMap id).map V.int))→Q (.ref t) H'
theorem df_without_holes (T:Txt K mg C):Df P w K mg base 1 "without_holes" ["cells"] spHoles:=by
  refine T.d_without_holes.ok sc_without_holes (fun vs H Q E h=>?_) (fun f cdv A outer s H vs Q E hr h=>?_)
  · obtain ⟨p,cs,rfl,_⟩:=h
    rfl
  · obtain ⟨p,cs,rfl,hp,hl,q⟩:=h
    refine ⟨_,(@pss_one _ _ _ (@ps_ret _ _ _ _ (@pe_callTy _ _ _ _ _ _ _ _ _ (call_tupleK (K:=K) rfl) (by rfl) T.n_tuple bt_tuple (@pa_cons _ _ _ _ _ (pe_compIf (M:=[]) (idx:=[]) rfl (pi_seqK (K:=K) rfl (pv 0)) (compOk (by kernel_rfl)) (by decide +kernel) (by first | exact Or.inl rfl | exact Or.inr rfl) (fun _ _ _ _ _=>pts_one (@pt_cmpR _ _ _ _ _ _ _ _ op_notN (pv 0) pe_non (nomark _))) (fun _ _ _ _ _=>(pv 0))) pa_nil star_comp) (by decide) (by decide) (by rfl) (by rfl)))),?_⟩
    refine comp_seqV (K:=K) (xs:=cs.map cellV) (fun k h=>⟨_,rfl,h⟩) hp (fun i ys H'=>H'=H∧ys=((cs.take i).filterMap id).map V.int) ⟨rfl,rfl⟩ (by rw [List.length_map];exact Nat.le_trans hl (by decide)) (fun i ys H' _ ⟨e,_⟩=>by rw [e]) ?_ ?_
    · rintro i x ys _ hx ⟨rfl,rfl⟩
      obtain ⟨c,ec,rfl⟩:=cell_at hx
      rw [List.take_add_one,ec,List.filterMap_append,List.map_append]
      cases c with
      | none =>
        refine ⟨_,rfl,rfl,_,rfl,?_⟩
        refine iteF ?_
        exact ⟨rfl,by simp⟩
      | some n =>
        refine ⟨_,rfl,rfl,_,rfl,?_⟩
        refine iteT ?_
        exact ⟨_,rfl,rfl,rfl⟩
    · rintro ys _ ⟨rfl,rfl⟩ l hl2
      rw [List.length_map,List.take_length]
      refine ⟨_,_,rfl,Or.inl ⟨SqL.of upd_same,fun t ht=>?_⟩⟩
      exact q t _ ((same_upd hl2).trans (same_upd ht)) upd_same
def spToldOf (K:PySem.W.Frag):Sp:=fun vs H Q _=>∃ (p:Addr) (sv:V) (cs:List (Option Int)) (a b:Int),vs=[.ref p,sv]∧SeqV H p (cs.map cellV)∧cs.length ≤ 100000∧Shr K H sv a b∧Share a b∧∀ H',Same H H'→Q (cellV (manieth (cs.filterMap id) a b)) H'
theorem df_told_of_cells (T:Txt K mg C):Df P w K mg base 3 "told_of_cells" ["cells","share"] (spToldOf K):=by
  refine T.d_told_of_cells.ok sc_told_of_cells (fun vs H Q E h=>?_) (fun f cdv A outer s H vs Q E hr h=>?_)
  · obtain ⟨p,sv,cs,a,b,rfl,_⟩:=h
    rfl
  · obtain ⟨p,sv,cs,a,b,rfl,hp,hl,hs,hS,q⟩:=h
    refine ⟨_,(@pss_one _ _ _ (@ps_ret _ _ _ _ (@pe_df _ _ _ _ _ _ _ _ _ _ (df_so_manieth T) (hr.mono (by decide)) (@pa_cons _ _ _ _ _ (@pe_df _ _ _ _ _ _ _ _ _ _ (df_without_holes T) (hr.mono (by decide)) (@pa_cons _ _ _ _ _ (pv 0) pa_nil (by rfl)) (by rfl) (by decide) (by rfl) (by rfl)) (@pa_cons _ _ _ _ _ (pv 1) pa_nil (by rfl)) star_call) (by rfl) (by decide) (by rfl) (by rfl)))),?_⟩
    refine ⟨_,rfl,p,cs,rfl,hp,hl,fun t H1 s1 ht=>?_⟩
    exact ⟨_,rfl,t,sv,_,a,b,rfl,.inl ht,hs.keep s1.tups,hS,fun H2 s2=>q H2 (s1.trans s2)⟩
def spFiltered (K:PySem.W.Frag):Sp:=fun vs H Q _=>∃ (fv wv rv sv:V) (F:List (List (Option Int))) (ru:Rule) (u d l r:Nat) (a b:Int),vs=[fv,wv,rv,sv]∧Rect F∧IsD H fv (fieldD F)∧IsD H wv (winD u d l r)∧IsD H rv (ruleD ru)∧Shr K H sv a b∧Share a b ∧
  (u≤100∧d≤100∧l≤100∧r≤100)∧∀ (v:V) (H':Hp),Same H H'→IsD H' v (fieldD (fil F ru u d l r a b))→Q v H'
theorem df_filtered (T:Txt K mg C):Df P w K mg base 4 "filtered" ["field","window","rule","share"] (spFiltered K):=by
  refine T.d_filtered.ok sc_filtered (fun vs H Q E h=>?_) (fun f cdv A outer s H vs Q E hr h=>?_)
  · obtain ⟨fv,wv,rv,sv,F,ru,u,d,l,r,a,b,rfl,_⟩:=h
    rfl
  · obtain ⟨fv,wv,rv,sv,F,ru,u,d,l,r,a,b,rfl,R,hf,hw,hru,hs,hS,bb,q⟩:=h
    obtain ⟨fa,xs,rfl,hfa,hxs⟩:=isField_inv hf
    have lxs:xs.length=F.length:=by rw [hxs.length,List.length_map]
    have hW:=R.ws
    have hH:=R.hs
    refine ⟨_,(@pss_cons _ _ _ _ _ (@ps_set _ _ 4 _ _ _ _ sc_filtered.nd rfl (by first | exact Or.inl rfl | exact Or.inr rfl) (@pe_lst _ _ _ _ pa_nil) (by rfl) (by first | exact .inl rfl | exact .inr rfl))
      (@pss_cons _ _ _ _ _ (@ps_for _ _ _ _ _ _ _ _ PassesOwn.never rfl (pi_range1 (by rfl) T.n_range (@pa_cons _ _ _ _ _ (@pe_callB _ _ _ _ _ _ _ _ _ (call_lenK (K:=K) rfl) (by rfl) T.n_len bt_len (@pa_cons _ _ _ _ _ (pv 0) pa_nil (by rfl)) (by decide) (by decide) (by rfl) (by rfl)) pa_nil star_call)) (pg_name (i:=5) sc_filtered.nd rfl (by first | exact Or.inl rfl | exact Or.inr rfl)) (@pss_cons _ _ _ _ _ (@ps_set _ _ 6 _ _ _ _ sc_filtered.nd rfl (by first | exact Or.inl rfl | exact Or.inr rfl) (@pe_lst _ _ _ _ pa_nil) (by rfl) (by first | exact .inl rfl | exact .inr rfl))
      (@pss_cons _ _ _ _ _ (@ps_for _ _ _ _ _ _ _ _ PassesOwn.never rfl (pi_range1 (by rfl) T.n_range (@pa_cons _ _ _ _ _ (@pe_callB _ _ _ _ _ _ _ _ _ (call_lenK (K:=K) rfl) (by rfl) T.n_len bt_len (@pa_cons _ _ _ _ _ (@pe_ix _ _ _ _ _ _ _ (ix_seqK (K:=K) rfl) (pv 0) (pv 5) (fun _ _=>rfl)) pa_nil star_sub) (by decide) (by decide) (by rfl) (by rfl)) pa_nil star_call)) (pg_name (i:=7) sc_filtered.nd rfl (by first | exact Or.inl rfl | exact Or.inr rfl)) (@pss_one _ _ _ (@ps_expr _ _ _ _ (pe_bm PySem.F.plainAttrs_list PySem.F.slot_list_append PySem.F.type_list_append mt_append (pv 6) (@pa_cons _ _ _ _ _ (@pe_df _ _ _ _ _ _ _ _ _ _ (df_told_of_cells T) (hr.mono (by decide)) (@pa_cons _ _ _ _ _ (@pe_df _ _ _ _ _ _ _ _ _ _ (df_window_cells T) (hr.mono (by decide)) (@pa_cons _ _ _ _ _ (pv 0) (@pa_cons _ _ _ _ _ (pv 1) (@pa_cons _ _ _ _ _ (pv 2) (@pa_cons _ _ _ _ _ (pv 5) (@pa_cons _ _ _ _ _ (pv 7) pa_nil (by rfl)) (by rfl)) (by rfl)) (by rfl)) (by rfl)) (by rfl) (by decide) (by rfl) (by rfl)) (@pa_cons _ _ _ _ _ (pv 3) pa_nil (by rfl)) star_call) (by rfl) (by decide) (by rfl) (by rfl)) pa_nil star_call)) (by rfl))) (by intro _;rfl))
      (@pss_one _ _ _ (@ps_expr _ _ _ _ (pe_bm PySem.F.plainAttrs_list PySem.F.slot_list_append PySem.F.type_list_append mt_append (pv 4) (@pa_cons _ _ _ _ _ (@pe_callTy _ _ _ _ _ _ _ _ _ (call_tupleK (K:=K) rfl) (by rfl) T.n_tuple bt_tuple (@pa_cons _ _ _ _ _ (pv 6) pa_nil (by rfl)) (by decide) (by decide) (by rfl) (by rfl)) pa_nil star_call)) (by rfl))))) (by intro _;rfl))
      (@pss_one _ _ _ (@ps_ret _ _ _ _ (@pe_callTy _ _ _ _ _ _ _ _ _ (call_tupleK (K:=K) rfl) (by rfl) T.n_tuple bt_tuple (@pa_cons _ _ _ _ _ (pv 4) pa_nil (by rfl)) (by decide) (by decide) (by rfl) (by rfl)))))),?_⟩
    refine ⟨(by show 0≤sizeLine;decide),fun c hc=>?_⟩
    have s1:=same_upd (o:=.lst []) hc
    have oldne:∀ b o,H b=some o→b≠c:=fun b o e=>ne_of_none e hc
    have keepH:∀ {H':Hp},KeepBut c (upd H c (.lst [])) H'→Same H H':=fun k b o e=>k b o (s1 b o e) (oldne b o e)
    refine ⟨_,rfl,_,_,rfl,Or.inr ⟨_,SqT.of (s1 _ _ hfa),rfl⟩,_,rfl,by omega,by omega,?_⟩
    have hc1:upd H c (.lst []) c=some (.lst []):=upd_same
    generalize upd H c (.lst [])=H1 at s1 hc1 keepH ⊢
    refine for_range (n:=((xs.length:Nat):Int).toNat) (fun i σ H'=>∃ (v5 v6 v7:Option V) (ys:List V),σ=[some (.ref fa),some wv,some rv,some sv,some (.ref c),v5,v6,v7]∧KeepBut c H1 H'∧H' c=some (.lst ys)∧IsDs H' ys (((fil F ru u d l r a b).take i).map rowD)) ⟨none,none,none,[],rfl,KeepBut.refl _ _,hc1,.nil⟩ ?_ ?_
    · rintro i _ H2 hi ⟨v5,v6,v7,ys,rfl,k2,hc2,hys⟩
      have hi':i < F.length:=by
        have:i < ((xs.length:Nat):Int).toNat:=hi
        omega
      have S2:=keepH k2
      have e0:(0:Int) + (i:Int)=(i:Int):=by omega
      rw [e0]
      obtain ⟨ra,era,hra⟩:=isRows_get hxs hi'
      have eW:F[i].length=(F.headD []).length:=R.row _ (List.getElem_mem _)
      refine ⟨(by show 0≤sizeLine;decide),fun e he=>?_⟩
      have s3:=same_upd (o:=.lst []) he
      have ne:e≠c:=(ne_of_none hc2 he).symm
      refine ⟨_,rfl,_,rfl,Or.inr (Or.inl ⟨_,_,_,_,rfl,rfl,SqT.of (s3 _ _ (S2 _ _ hfa)),atI_nat era,_,_,rfl,Or.inr ⟨_,SqT.of (s3 _ _ (S2 _ _ hra)),rfl⟩,_,rfl,by rw [List.length_map];omega,by rw [List.length_map];omega,?_⟩)⟩
      have he3:upd H2 e (.lst []) e=some (.lst []):=upd_same
      have hc3:=s3 _ _ hc2
      have hys3:=hys.keep s3.tups
      have S3:=S2.trans s3
      have K3:KeepBut c H1 (upd H2 e (.lst [])):=fun b' o e' n=>s3 _ _ (k2 b' o e' n)
      have old3:∀ b' o,H2 b'=some o→b'≠e:=fun b' o e'=>ne_of_none e' he
      have el:(F[i].map cellV).length=wideF F:=by rw [List.length_map];exact eW
      generalize upd H2 e (.lst [])=H3 at s3 he3 hc3 hys3 S3 K3 ⊢
      refine for_range (n:=((((F[i].map cellV).length:Nat):Int).toNat)) (fun j σ H'=>∃ (v7:Option V),σ=[some (.ref fa),some wv,some rv,some sv,some (.ref c),some (.int i),some (.ref e),v7]∧KeepBut e H3 H'∧H' e=some (.lst (((List.range j).map fun j:Nat=>filAt F ru u d l r a b (i:Int) (j:Int)).map cellV))) ⟨v7,rfl,KeepBut.refl _ _,he3⟩ ?_ ?_
      · rintro j _ H4 hj ⟨v7,rfl,k4,he4⟩
        have hj':j < wideF F:=by
          have:j < ((((F[i].map cellV).length:Nat):Int).toNat):=hj
          omega
        have e0:(0:Int) + (j:Int)=(j:Int):=by omega
        rw [e0]
        have S4:Same H H4:=fun b' o e'=>k4 b' o (S3 b' o e') (old3 b' o (S2 b' o e'))
        have hjw:j < (F.headD []).length:=hj'
        refine ⟨_,rfl,Or.inl ⟨rfl,_,SqL.of he4⟩,?_⟩
        refine ⟨_,rfl,_,rfl,_,rfl,_,rfl,_,rfl,_,_,_,F,ru,u,d,l,r,_,_,rfl,R,hf.keep S4.tups,hw.keep S4.tups,hru.keep S4.tups,⟨by omega,by omega⟩,⟨by omega,by omega⟩,bb,fun p H5 s5 hp=>?_⟩
        have wl:=wc_len F ru u d l r (i:Int) (j:Int)
        have wl2:(u + d + 1) * (l + r + 1)≤201 * 201:=Nat.mul_le_mul (by omega) (by omega)
        have S5:=S4.trans s5
        have he5:=s5 _ _ he4
        refine ⟨_,rfl,p,sv,wc F ru u d l r i j,a,b,rfl,.inl hp,by omega,hs.keep S5.tups,hS,fun H7 s7=>?_⟩
        have S6:=S5
        have he7:=s7 _ _ he5
        refine ⟨_,_,_,rfl,rfl,he7,?_,?_⟩
        · rw [List.length_map,List.length_map,List.length_range]
          exact Nat.lt_of_lt_of_le (show j < 1001 by omega) (by decide)
        · refine ⟨_,rfl,fun b' o e' n=>?_,?_⟩
          · rw [upd_ne n];exact s7 _ _ (s5 _ _ (k4 b' o e' n))
          · rw [upd_same,List.range_succ,List.map_append,List.map_append]
            rfl
      · rintro _ H4 ⟨v7,rfl,k4,he4⟩
        rw [show ((((F[i].map cellV).length:Nat):Int).toNat)=wideF F by omega] at he4
        have hc4:=k4 _ _ hc3 ne.symm
        refine ⟨_,rfl,Or.inl ⟨rfl,_,SqL.of hc4⟩,_,rfl,_,_,rfl,Or.inl ⟨SqL.of he4,fun t ht=>?_⟩⟩
        have st:=same_upd (o:=.tup (((List.range (wideF F)).map fun j:Nat=>filAt F ru u d l r a b (i:Int) (j:Int)).map cellV)) ht
        have hct:=st _ _ hc4
        have ly:ys.length=i:=by rw [hys.length,List.length_map,List.length_take,fil_len];omega
        refine ⟨_,_,_,rfl,rfl,hct,(by rw [ly];exact Nat.lt_of_lt_of_le (show i < 1001 by omega) (by decide)),?_⟩
        refine ⟨_,_,_,ys ++ [.ref t],rfl,fun b' o e' n=>?_,upd_same,?_⟩
        · rw [upd_ne n]
          exact st _ _ (k4 b' o (K3 b' o e' n) (old3 b' o (k2 b' o e' n)))
        · rw [List.take_add_one,fil_row hi',List.map_append]
          have tt:t≠c:=(ne_of_none hc4 ht).symm
          have u1:upd (upd H4 t (.tup (((List.range (wideF F)).map fun j:Nat=>filAt F ru u d l r a b (i:Int) (j:Int)).map cellV))) c (.lst (ys ++ [.ref t])) t=some (.tup (((List.range (wideF F)).map fun j:Nat=>filAt F ru u d l r a b (i:Int) (j:Int)).map cellV)):=by rw [upd_ne tt];exact upd_same
          have kt:∀ b' zs,H3 b'=some (.tup zs)→upd (upd H4 t (.tup (((List.range (wideF F)).map fun j:Nat=>filAt F ru u d l r a b (i:Int) (j:Int)).map cellV))) c (.lst (ys ++ [.ref t])) b'=some (.tup zs):=fun b' zs e'=>by
            have n1:b'≠c:=ne_of e' hc3 fun z=>by cases z
            have n2:b'≠e:=ne_of e' he3 fun z=>by cases z
            rw [upd_ne n1]
            exact st _ _ (k4 _ _ e' n2)
          exact (hys3.keep kt).append (.cons (.tup u1 (isCells _)) .nil)
    · rintro _ H2 ⟨v5,v6,v7,ys,rfl,k2,hc2,hys⟩
      refine ⟨_,rfl,_,_,rfl,Or.inl ⟨SqL.of hc2,fun t ht=>?_⟩⟩
      have st:=same_upd (o:=.tup ys) ht
      refine q (.ref t) _ ((keepH k2).trans st) (.tup upd_same ?_)
      have:(fil F ru u d l r a b).take ((xs.length:Nat):Int).toNat=fil F ru u d l r a b:=List.take_of_length_le (by rw [fil_len];omega)
      rw [this] at hys
      exact hys.keep st.tups
theorem ne_fields {H:Hp}{x y:V}{F G:List (List (Option Int))}{Q:VK}(hx:IsD H x (fieldD F))(hy:IsD H y (fieldD G))(e:F=G)(q:Q (.bl false) H):rNe x y H Q ∨ rNeD 0 x y H Q :=
  Or.inr ⟨fieldD F,fieldD G,hx,hy,cmp_field _ _,by rw [eqv_field,decide_eq_true e];exact q⟩
def ruleIs (ru:Rule)(x:Str):Bool:=match ru with
  | .there=>decide (("there" : Str)=x)
  | .near=>decide (("near" : Str)=x)
  | .turned=>decide (("turned" : Str)=x)
  | .round=>decide (("round" : Str)=x)
  | .told _=>false
theorem eq_rule {H:Hp}{rv:V}{ru:Rule}{x:Str}{Q:VK}(h:IsD H rv (ruleD ru))(hx:(PyData.str x).canLay0=true)(q:Q (.bl (ruleIs ru x)) H):rEq rv (.str x) H Q ∨ rEqD 0 rv (.str x) H Q:=by
  have st:∀ y:Str,rv = .str y→Q (.bl (decide (y=x))) H→rEq rv (.str x) H Q ∨ rEqD 0 rv (.str x) H Q:=fun y e q'=>by
    subst e
    refine Or.inl ⟨rfl,?_⟩
    have:decide (V.str y=V.str x)=decide (y=x):=by
      by_cases z:y=x
      · subst z;simp
      · rw [decide_eq_false (fun e=>z (V.str.inj e)),decide_eq_false z]
    rw [this];exact q'
  cases ru with
  | there=>exact st _ (rule_str h) q
  | near=>exact st _ (rule_str h) q
  | turned=>exact st _ (rule_str h) q
  | round=>exact st _ (rule_str h) q
  | told c =>
    refine Or.inr ⟨_,_,h,.str _,⟨?_,hx,?_⟩,q⟩
    · show PyData.canLayAll0 [.str "told",cellD c]=true
      rw [PyData.canLayAll0,PyData.canLayAll0,canLay_cell]
      decide +kernel
    · show PyData.depthAll [.str "told",cellD c] + 1≤20
      rw [PyData.depthAll,PyData.depthAll,depth_cell]
      decide
def spDeck3 (K:PySem.W.Frag):Sp:=fun vs H Q _=>∃ (a:Addr) (ns:List Int),vs=[.ref a]∧SqL K H a (ns.map V.int)∧ns.length ≤ 63∧∀ (d c:Addr) (H':Hp),H d=none→H c=none→Dk H' d c 0→Same H H'→Q (.ref d) H'
theorem df_law_deck (T:Txt K mg C):Df P w K mg base 1 "_law_deck" ["script"] (spDeck3 K):=by
  refine T.d_law_deck.ok sc_law_deck (fun vs H Q E h=>?_) (fun f cdv A outer s H vs Q E hr h=>?_)
  · obtain ⟨a,ns,rfl,_⟩:=h
    rfl
  · obtain ⟨a,ns,rfl,hS,hl,q⟩:=h
    refine ⟨_,(@pss_one _ _ _ (@ps_ret _ _ _ _ (@pe_lst _ _ _ _ (@pa_cons _ _ _ _ _ (@pe_op _ _ _ _ _ _ _ _ op_cat (pe_compIf (M:=[]) (idx:=[]) rfl (pi_seqK (K:=K) rfl (pe_slice (sl_X (K:=K) rfl) (pv 0) po_none (po_some pe_int))) (compOk (by kernel_rfl)) (by decide +kernel) (by first | exact Or.inl rfl | exact Or.inr rfl) (fun _ _ _ _ _=>pts_nil) (fun _ _ _ _ _=>(@pe_callB _ _ _ _ _ _ _ _ _ call_abs (by rfl) T.n_abs bt_abs (@pa_cons _ _ _ _ _ (pv 0) pa_nil (by rfl)) (by decide) (by decide) (by rfl) (by rfl)))) (@pe_lst _ _ _ _ (@pa_cons _ _ _ _ _ (@pe_op _ _ _ _ _ _ _ _ op_add (@pe_callB _ _ _ _ _ _ _ _ _ (call_lenK (K:=K) rfl) (by rfl) T.n_len bt_len (@pa_cons _ _ _ _ _ (pv 0) pa_nil (by rfl)) (by decide) (by decide) (by rfl) (by rfl)) pe_int) pa_nil star_bin))) (@pa_cons _ _ _ _ _ (@pe_op _ _ _ _ _ _ _ _ op_mod (@pe_callB _ _ _ _ _ _ _ _ _ (call_sumK (K:=K) rfl rfl) (by rfl) T.n_sum bt_sum (@pa_cons _ _ _ _ _ (pe_slice (sl_X (K:=K) rfl) (pv 0) po_none (po_some pe_int)) pa_nil star_sub) (by decide) (by decide) (by rfl) (by rfl)) pe_int) (@pa_cons _ _ _ _ _ pe_int pa_nil (by rfl)) star_bin) star_bin)))),?_⟩
    have ecut:cutV (ns.map V.int) none (some 63)=(ns.take 63).map V.int:=by
      show cutV (ns.map V.int) none (some ((63:Nat):Int))=_
      rw [cut_take,List.map_take]
    refine Or.inl ?_
    refine ⟨_,rfl,_,rfl,Or.inl ⟨_,_,rfl,hS,fun p hp=>?_⟩⟩
    rw [ecut]
    have s1:=same_upd (o:=.lst ((ns.take 63).map V.int)) hp
    have e1:upd H p (.lst ((ns.take 63).map V.int)) p=some (.lst ((ns.take 63).map V.int)):=upd_same
    generalize upd H p (.lst ((ns.take 63).map V.int))=H1 at s1 e1 ⊢
    refine ⟨_,rfl,⟨_,SqL.of e1⟩,?_⟩
    refine compW_list (xs:=(ns.take 63).map V.int) (fun i zs H'=>H'=H1∧∃ ms:List Int,ms.length=i∧zs=ms.map V.int) ⟨rfl,[],rfl,rfl⟩ (by rw [List.length_map,List.length_take];exact Nat.le_trans (Nat.min_le_left _ _) (by decide)) (fun i zs H' _ ⟨e,_⟩=>by rw [e];exact SqL.of e1) ?_ ?_
    · rintro i x zs _ hx ⟨rfl,ms,lm,rfl⟩
      obtain ⟨z,ez,rfl⟩:=int_at hx
      refine oneT ?_
      refine ⟨_,rfl,_,rfl,rfl,ms ++ [if z < 0 then -z else z],by rw [List.length_append,lm];rfl,?_⟩
      rw [List.map_append];rfl
    rintro zs H1 ⟨rfl,ms,lm,rfl⟩ p2 hp2
    have s2:=same_upd (o:=.lst (ms.map V.int)) hp2
    have lms:ms.length ≤ 63:=by rw [lm,List.length_map,List.length_take];omega
    refine ⟨_,rfl,_,_,rfl,Or.inl ⟨_,(s1.trans s2).seq hS,rfl⟩,_,_,rfl,rfl,?_⟩
    refine ⟨(by show 1≤sizeLine;decide),fun p3 hp3=>?_⟩
    have s3:=same_upd (o:=.lst [.int ((((ns.map V.int).length:Nat):Int) + 5)]) hp3
    refine ⟨_,_,_,_,rfl,rfl,s3 _ _ upd_same,upd_same,(by rw [List.length_map];exact Nat.le_trans (show ms.length + 1≤64 by omega) (by decide)),fun c hc=>?_⟩
    have s4:=same_upd (o:=.lst (ms.map V.int ++ [.int ((((ns.map V.int).length:Nat):Int) + 5)])) hc
    have S4:=((s1.trans s2).trans s3).trans s4
    refine ⟨_,rfl,_,rfl,Or.inl ⟨_,_,rfl,S4.seq hS,fun p5 hp5=>?_⟩⟩
    rw [ecut]
    have s5:=same_upd (o:=.lst ((ns.take 63).map V.int)) hp5
    refine ⟨_,_,rfl,SqL.of upd_same,_,_,rfl,rfl,(by show (0:Int) < 1999999951;decide),?_⟩
    refine ⟨(by show 3≤sizeLine;decide),fun d hd=>?_⟩
    have s6:=same_upd (o:=.lst [.ref c,.int ((ns.take 63).sum % 1999999951),.int 0]) hd
    have S5:=S4.trans s5
    have fd:H d=none:=S5.free hd
    have fc:H c=none:=((s1.trans s2).trans s3).free hc
    refine q d c _ fd fc ⟨?_,ms ++ [((((ns.map V.int).length:Nat):Int) + 5)],_,_,upd_same,?_,by simp,by rw [List.length_append];show ms.length + 1≤64;omega,by decide,by decide⟩ (S5.trans s6)
    · intro e
      subst e
      rw [s5 _ _ upd_same] at hd
      cases hd
    · rw [List.map_append]
      exact s6 _ _ (s5 _ _ upd_same)
def spDraw3:Sp:=fun vs H Q _=>∃ (d c:Addr) (most:Int) (n:Nat),vs=[.ref d,.int most]∧Dk H d c n∧0 < most∧most < 2 ^ 40∧n < 2 ^ 40 ∧
  ∀ (x:Int) (H':Hp),0≤x→x < most→Dk H' d c (n + 1)→K2 d c H H'→Q (.int x) H'
theorem df_law_draw (T:Txt K mg C):Df P w K mg base 1 "_law_draw" ["deck","most"] spDraw3:=by
  refine T.d_law_draw.ok sc_law_draw (fun vs H Q E h=>?_) (fun f cdv A outer s H vs Q E hr h=>?_)
  · obtain ⟨d,c,most,n,rfl,_⟩:=h
    rfl
  · obtain ⟨d,c,most,n,rfl,⟨nde,ns,a,t,hd,hc,l1,l2,t0,t1⟩,m0,m1,n1,q⟩:=h
    refine ⟨_,(@pss_cons _ _ _ _ _ (@ps_asg _ _ _ _ _ _ (@pe_op _ _ _ _ _ _ _ _ op_add (@pe_ix _ _ _ _ _ _ _ (ix_seqK (K:=K) rfl) (pv 0) pe_int (fun _ _=>rfl)) pe_int) (pg_sub (pv 0) pe_int set_list) (by rfl) (by rfl) (by rfl))
      (@pss_cons _ _ _ _ _ (@ps_set _ _ 2 _ _ _ _ sc_law_draw.nd rfl (by first | exact Or.inl rfl | exact Or.inr rfl) (@pe_ix _ _ _ _ _ _ _ (ix_seqK (K:=K) rfl) (pv 0) pe_int (fun _ _=>rfl)) (by rfl) (by first | exact .inl rfl | exact .inr rfl))
      (@pss_cons _ _ _ _ _ (@ps_set _ _ 3 _ _ _ _ sc_law_draw.nd rfl (by first | exact Or.inl rfl | exact Or.inr rfl) (@pe_op _ _ _ _ _ _ _ _ op_mod (@pe_ix _ _ _ _ _ _ _ (ix_seqK (K:=K) rfl) (pv 0) pe_int (fun _ _=>rfl)) (@pe_callB _ _ _ _ _ _ _ _ _ (call_lenK (K:=K) rfl) (by rfl) T.n_len bt_len (@pa_cons _ _ _ _ _ (pv 2) pa_nil (by rfl)) (by decide) (by decide) (by rfl) (by rfl))) (by rfl) (by first | exact .inl rfl | exact .inr rfl))
      (@pss_cons _ _ _ _ _ (@ps_if _ _ _ _ _ _ _ _ (@pt_cmpR _ _ _ _ _ _ _ _ op_ge (@pe_ix _ _ _ _ _ _ _ (ix_seqK (K:=K) rfl) (pv 2) (pv 3) (fun _ _=>rfl)) (@pe_op _ _ _ _ _ _ _ _ op_pow pe_int pe_int) (nomark _)) (@pss_cons _ _ _ _ _ (@ps_set _ _ 4 _ _ _ _ sc_law_draw.nd rfl (by first | exact Or.inl rfl | exact Or.inr rfl) (@pe_op _ _ _ _ _ _ _ _ op_mod (@pe_ix _ _ _ _ _ _ _ (ix_seqK (K:=K) rfl) (pv 2) (pv 3) (fun _ _=>rfl)) (pv 1)) (by rfl) (by first | exact .inl rfl | exact .inr rfl))
      (@pss_cons _ _ _ _ _ (@ps_asg _ _ _ _ _ _ (@pe_op _ _ _ _ _ _ _ _ op_fdivB (@pe_ix _ _ _ _ _ _ _ (ix_seqK (K:=K) rfl) (pv 2) (pv 3) (fun _ _=>rfl)) (pv 1)) (pg_sub (pv 2) (pv 3) set_list) (by rfl) (by rfl) (by rfl))
      (@pss_one _ _ _ (@ps_ret _ _ _ _ (pv 4))))) pss_nil)
      (@pss_cons _ _ _ _ _ (@ps_set _ _ 5 _ _ _ _ sc_law_draw.nd rfl (by first | exact Or.inl rfl | exact Or.inr rfl) (@pe_ix _ _ _ _ _ _ _ (ix_seqK (K:=K) rfl) (pv 0) pe_int (fun _ _=>rfl)) (by rfl) (by first | exact .inl rfl | exact .inr rfl))
      (@pss_cons _ _ _ _ _ (@ps_set _ _ 6 _ _ _ _ sc_law_draw.nd rfl (by first | exact Or.inl rfl | exact Or.inr rfl) (@pe_op _ _ _ _ _ _ _ _ op_add (@pe_ix _ _ _ _ _ _ _ (ix_seqK (K:=K) rfl) (pv 2) (pv 3) (fun _ _=>rfl)) (@pe_ix _ _ _ _ _ _ _ (ix_seqK (K:=K) rfl) (pv 0) pe_int (fun _ _=>rfl))) (by rfl) (by first | exact .inl rfl | exact .inr rfl))
      (@pss_cons _ _ _ _ _ (@ps_set _ _ 7 _ _ _ _ sc_law_draw.nd rfl (by first | exact Or.inl rfl | exact Or.inr rfl) (@pe_op _ _ _ _ _ _ _ _ op_mod (@pe_op _ _ _ _ _ _ _ _ op_add (@pe_op _ _ _ _ _ _ _ _ op_add (pv 6) (@pe_op _ _ _ _ _ _ _ _ op_mul (@pe_op _ _ _ _ _ _ _ _ op_mul pe_int (pv 5)) (pv 5))) (@pe_op _ _ _ _ _ _ _ _ op_mul pe_int (pv 5))) pe_int) (by rfl) (by first | exact .inl rfl | exact .inr rfl))
      (@pss_cons _ _ _ _ _ (@ps_set _ _ 7 _ _ _ _ sc_law_draw.nd rfl (by first | exact Or.inl rfl | exact Or.inr rfl) (@pe_op _ _ _ _ _ _ _ _ op_mod (@pe_op _ _ _ _ _ _ _ _ op_mul (pv 7) (pv 7)) pe_int) (by rfl) (by first | exact .inl rfl | exact .inr rfl))
      (@pss_one _ _ _ (@ps_ret _ _ _ _ (@pe_op _ _ _ _ _ _ _ _ op_mod (@pe_op _ _ _ _ _ _ _ _ op_fdivB (@pe_op _ _ _ _ _ _ _ _ op_mod (@pe_op _ _ _ _ _ _ _ _ op_add (@pe_op _ _ _ _ _ _ _ _ op_mul (pv 7) pe_int) (@pe_op _ _ _ _ _ _ _ _ op_mul (pv 5) pe_int)) pe_int) pe_int) (pv 1)))))))))))),?_⟩
    refine ⟨_,rfl,Or.inl ⟨_,_,_,_,rfl,rfl,SqL.of hd,rfl,_,_,rfl,rfl,?_⟩⟩
    refine ⟨_,rfl,_,_,_,2,rfl,rfl,hd,rfl,?_⟩
    have h1:upd H d (.lst [.ref c,.int a,.int (t + 1)]) d=some (.lst [.ref c,.int a,.int (t + 1)]):=upd_same
    have hc1:upd H d (.lst [.ref c,.int a,.int (t + 1)]) c=some (.lst (ns.map V.int)):=by rw [upd_ne nde.symm];exact hc
    have k1:K2 d c H (upd H d (.lst [.ref c,.int a,.int (t + 1)])):=fun b' o e hb _=>by rw [upd_ne hb];exact e
    dsimp only [List.set]
    generalize upd H d (.lst [.ref c,.int a,.int (t + 1)])=H1 at h1 hc1 k1 ⊢
    refine ⟨_,rfl,Or.inl ⟨_,_,_,_,rfl,rfl,SqL.of h1,rfl,?_⟩⟩
    refine ⟨_,rfl,Or.inl ⟨_,_,_,_,rfl,rfl,SqL.of h1,rfl,_,rfl,_,_,rfl,Or.inl ⟨_,SqL.of hc1,rfl⟩,_,_,rfl,rfl,(by rw [List.length_map];show (0:Int) < (ns.length:Int);omega),?_⟩⟩
    have a0:0≤(t + 1) % (((ns.map V.int).length:Nat):Int):=Int.emod_nonneg _ (by rw [List.length_map];omega)
    have a1:(t + 1) % (((ns.map V.int).length:Nat):Int) < (((ns.map V.int).length:Nat):Int):=Int.emod_lt_of_pos _ (by rw [List.length_map];omega)
    dsimp only [gName,List.set]
    generalize (t + 1) % (((ns.map V.int).length:Nat):Int)=at_ at a0 a1 ⊢
    obtain ⟨k,rfl⟩:∃ k:Nat,at_=k:=⟨at_.toNat,by omega⟩
    rw [List.length_map] at a1
    have hk:k < ns.length:=by omega
    have ek:(ns.map V.int)[k]? = some (.int ns[k]):=by rw [List.getElem?_map,List.getElem?_eq_getElem hk];rfl
    refine tSeq_cut (fun σ' H'=>∃ v4:Option V,σ'=[some (.ref d),some (.int most),some (.ref c),some (.int (k:Nat)),v4,none,none,none]∧H'=H1) ?_ (fun rest=>?_)
    · rintro _ H1 ⟨v4,rfl,rfl⟩
      refine ⟨_,rfl,Or.inl ⟨_,_,_,_,rfl,rfl,SqL.of h1,rfl,?_⟩⟩
      refine ⟨_,rfl,_,rfl,Or.inl ⟨_,_,_,_,rfl,rfl,SqL.of hc1,atI_nat ek,?_⟩⟩
      refine ⟨_,rfl,Or.inl ⟨_,_,_,_,rfl,rfl,SqL.of h1,rfl,_,_,rfl,rfl,?_⟩⟩
      refine ⟨_,rfl,_,rfl,_,_,rfl,rfl,Or.inl ⟨by decide,by decide⟩,_,rfl,_,_,rfl,rfl,Or.inr ⟨by omega,by omega⟩,_,_,rfl,rfl,?_⟩
      refine ⟨_,rfl,_,_,rfl,rfl,Or.inl ⟨by decide,by decide⟩,_,_,rfl,rfl,_,_,rfl,rfl,(by show (0:Int) < 2147483579;decide),?_⟩
      have b1:(0:Int)≤(ns[k] + a + 70001 * (t + 1) * (t + 1) + 4999 * (t + 1)) % 2147483579:=Int.emod_nonneg _ (by decide)
      have b2:(ns[k] + a + 70001 * (t + 1) * (t + 1) + 4999 * (t + 1)) % 2147483579 < (2147483579:Int):=Int.emod_lt_of_pos _ (by decide)
      generalize (ns[k] + a + 70001 * (t + 1) * (t + 1) + 4999 * (t + 1)) % 2147483579=o1 at b1 b2
      refine ⟨_,rfl,_,rfl,_,_,rfl,rfl,Or.inl ⟨by omega,by omega⟩,_,_,rfl,rfl,(by show (0:Int) < 2147483549;decide),?_⟩
      refine ⟨_,rfl,_,_,rfl,rfl,Or.inr ⟨by decide,by decide⟩,_,rfl,_,_,rfl,rfl,Or.inr ⟨by decide,by decide⟩,_,_,rfl,rfl,_,_,rfl,rfl,(by show (0:Int) < 2147483543;decide),_,_,rfl,rfl,⟨(by show (0:Int) < 17;decide),by show (17:Int) < 2 ^ 62;decide⟩,_,rfl,_,_,rfl,rfl,m0,?_⟩
      exact q _ _ (Int.emod_nonneg _ (by omega)) (Int.emod_lt_of_pos _ m0) ⟨nde,ns,a,t + 1,h1,hc1,l1,l2,by omega,by omega⟩ k1
    · refine ⟨_,rfl,_,rfl,Or.inl ⟨_,_,_,_,rfl,rfl,SqL.of hc1,atI_nat ek,?_⟩⟩
      refine ⟨_,_,rfl,rfl,⟨by decide,by decide,by decide⟩,_,_,rfl,rfl,_,rfl,?_⟩
      refine ite2 (fun hz=>?_) (fun hz=>rest _ _ ⟨none,rfl,rfl⟩)
      refine ⟨_,rfl,_,rfl,Or.inl ⟨_,_,_,_,rfl,rfl,SqL.of hc1,atI_nat ek,_,rfl,_,_,rfl,rfl,m0,?_⟩⟩
      refine ⟨_,rfl,_,rfl,Or.inl ⟨_,_,_,_,rfl,rfl,SqL.of hc1,atI_nat ek,_,rfl,_,_,rfl,rfl,⟨m0,by omega⟩,?_⟩⟩
      have eix:ixN (ns.map V.int).length (k:Int)=some k:=by
        unfold ixN
        rw [List.length_map,if_pos (by omega),if_pos (by omega)]
        rfl
      refine ⟨_,rfl,_,rfl,_,_,_,k,rfl,rfl,hc1,eix,_,rfl,?_⟩
      refine q _ _ (Int.emod_nonneg _ (by omega)) (Int.emod_lt_of_pos _ m0) ⟨nde,ns.set k (ns[k] / most),a,t + 1,by rw [upd_ne nde];exact h1,by rw [upd_same,List.map_set],by rw [List.length_set];exact l1,by rw [List.length_set];exact l2,by omega,by omega⟩ fun b' o e hb hb2=>?_
      rw [upd_ne hb2]
      exact k1 b' o e hb hb2
def spNum3:Sp:=fun vs H Q _=>∃ (d c:Addr) (kind:Int) (n:Nat),vs=[.ref d,.int kind]∧Dk H d c n∧n≤1000000∧∀ (x:Int) (H':Hp),-1000000000≤x→x≤1000000000→Dk H' d c (n + 3)→K2 d c H H'→Q (.int x) H'
theorem df_law_number (T:Txt K mg C):Df P w K mg base 2 "_law_number" ["deck","kind"] spNum3:=by
  refine T.d_law_number.ok sc_law_number (fun vs H Q E h=>?_) (fun f cdv A outer s H vs Q E hr h=>?_)
  · obtain ⟨d,c,kind,n,rfl,_⟩:=h
    rfl
  · obtain ⟨d,c,kind,n,rfl,D,hn,q⟩:=h
    refine ⟨_,(@pss_cons _ _ _ _ _ (@ps_if _ _ _ _ _ _ _ _ (@pt_cmpR _ _ _ _ _ _ _ _ (op_eqA hr.units) (pv 1) pe_int (nomark _)) (@pss_one _ _ _ (@ps_ret _ _ _ _ (@pe_op _ _ _ _ _ _ _ _ op_sub (@pe_df _ _ _ _ _ _ _ _ _ _ (df_law_draw T) (hr.mono (by decide)) (@pa_cons _ _ _ _ _ (pv 0) (@pa_cons _ _ _ _ _ pe_int pa_nil (by rfl)) (by rfl)) (by rfl) (by decide) (by rfl) (by rfl)) pe_int))) pss_nil)
      (@pss_cons _ _ _ _ _ (@ps_if _ _ _ _ _ _ _ _ (@pt_cmpR _ _ _ _ _ _ _ _ (op_eqA hr.units) (pv 1) pe_int (nomark _)) (@pss_one _ _ _ (@ps_ret _ _ _ _ (@pe_op _ _ _ _ _ _ _ _ op_sub (@pe_df _ _ _ _ _ _ _ _ _ _ (df_law_draw T) (hr.mono (by decide)) (@pa_cons _ _ _ _ _ (pv 0) (@pa_cons _ _ _ _ _ pe_int pa_nil (by rfl)) (by rfl)) (by rfl) (by decide) (by rfl) (by rfl)) pe_int))) pss_nil)
      (@pss_one _ _ _ (@ps_ret _ _ _ _ (@pe_op _ _ _ _ _ _ _ _ op_sub (@pe_op _ _ _ _ _ _ _ _ op_add (@pe_op _ _ _ _ _ _ _ _ op_mul (@pe_df _ _ _ _ _ _ _ _ _ _ (df_law_draw T) (hr.mono (by decide)) (@pa_cons _ _ _ _ _ (pv 0) (@pa_cons _ _ _ _ _ (@pe_op _ _ _ _ _ _ _ _ op_pow pe_int pe_int) pa_nil star_bin) (by rfl)) (by rfl) (by decide) (by rfl) (by rfl)) (@pe_op _ _ _ _ _ _ _ _ op_pow pe_int pe_int)) (@pe_df _ _ _ _ _ _ _ _ _ _ (df_law_draw T) (hr.mono (by decide)) (@pa_cons _ _ _ _ _ (pv 0) (@pa_cons _ _ _ _ _ (@pe_op _ _ _ _ _ _ _ _ op_pow pe_int pe_int) pa_nil star_bin) (by rfl)) (by rfl) (by decide) (by rfl) (by rfl))) (@pe_ix _ _ _ _ _ _ _ (ix_seqK (K:=K) rfl) (@pe_lst _ _ _ _ (@pa_cons _ _ _ _ _ pe_int (@pa_cons _ _ _ _ _ (@pe_op _ _ _ _ _ _ _ _ op_pow pe_int pe_int) pa_nil star_bin) (by rfl))) (@pe_df _ _ _ _ _ _ _ _ _ _ (df_law_draw T) (hr.mono (by decide)) (@pa_cons _ _ _ _ _ (pv 0) (@pa_cons _ _ _ _ _ pe_int pa_nil (by rfl)) (by rfl)) (by rfl) (by decide) (by rfl) (by rfl)) (fun _ _=>rfl))))))),?_⟩
    refine ⟨_,rfl,Or.inl ⟨rfl,_,rfl,?_⟩⟩
    refine ite2 (fun _=>?_) (fun _=>?_)
    · exact ⟨_,rfl,_,_,_,_,rfl,D,(by decide),(by decide),by omega,fun x H1 x0 x1 D1 k1=>⟨_,_,rfl,rfl,q (x - 1) H1 (by omega) (by omega) (D1.mono (by omega)) k1⟩⟩
    refine ⟨_,rfl,Or.inl ⟨rfl,_,rfl,?_⟩⟩
    refine ite2 (fun _=>?_) (fun _=>?_)
    · exact ⟨_,rfl,_,_,_,_,rfl,D,(by decide),(by decide),by omega,fun x H1 x0 x1 D1 k1=>⟨_,_,rfl,rfl,q (x - 20) H1 (by omega) (by omega) (D1.mono (by omega)) k1⟩⟩
    have e5:(10:Int) ^ (5:Int).toNat=100000:=by decide
    have e4:(10:Int) ^ (4:Int).toNat=10000:=by decide
    have e9:(10:Int) ^ (9:Int).toNat=1000000000:=by decide
    refine ⟨_,rfl,_,_,rfl,rfl,⟨by decide,by decide,by decide⟩,_,_,_,_,rfl,D,(by decide),(by decide),by omega,fun x H1 x0 x1 D1 k1=>?_⟩
    refine ⟨_,_,rfl,rfl,⟨by decide,by decide,by decide⟩,_,_,rfl,rfl,Or.inr ⟨by decide,by decide⟩,?_⟩
    refine ⟨_,rfl,_,_,rfl,rfl,⟨by decide,by decide,by decide⟩,_,_,_,_,rfl,D1,(by decide),(by decide),by omega,fun y H2 y0 y1 D2 k2=>?_⟩
    refine ⟨_,_,rfl,rfl,?_⟩
    refine ⟨_,_,rfl,rfl,⟨by decide,by decide,by decide⟩,(by show 2≤sizeLine;decide),fun p hp=>?_⟩
    refine ⟨_,rfl,_,_,_,_,rfl,D2.upd hp,(by decide),(by decide),by omega,fun z H3 z0 z1 D3 k3=>?_⟩
    rw [e5] at x1
    rw [e4] at y1
    have hp3:=k3 p _ upd_same (D2.nd hp).1 (D2.nd hp).2
    obtain ⟨m,em,hm⟩:=pickI (x:=z) (ms:=[0,(10:Int) ^ (9:Int).toNat]) z0 (by exact z1)
    refine Or.inl ⟨_,_,_,_,rfl,rfl,SqL.of hp3,em,_,_,rfl,rfl,?_⟩
    rw [e9] at hm
    have hm':m=0 ∨ m=1000000000:=by simpa using hm
    refine q _ H3 ?_ ?_ D3 (((k1.trans k2).upd hp).trans k3)
    · show -1000000000≤x * (10:Int) ^ (4:Int).toNat + y - m
      rw [e4];omega
    · show x * (10:Int) ^ (4:Int).toNat + y - m≤1000000000
      rw [e4];omega
def spSides3:Sp:=fun vs H Q _=>∃ (d c:Addr) (most:Int) (n:Nat),vs=[.ref d,.int most]∧Dk H d c n∧n≤1000000∧0≤most∧most≤6 ∧
  ∀ (t:Addr) (u dn l r:Nat) (H':Hp),u≤6→dn≤6→l≤6→r≤6→H' t=some (.tup [.int u,.int dn,.int l,.int r])→Dk H' d c (n + 8)→K2 d c H H'→Q (.ref t) H'
theorem four_nat {ys:List V}{ks:List Nat}(h:ys=ks.map fun k:Nat=>V.int (k:Int))(l:ks.length=4)(b:∀ k∈ks,k≤6):∃ a b c d:Nat,ys=[.int a,.int b,.int c,.int d]∧a≤6∧b≤6∧c≤6∧d≤6:=by
  match ks,l with
  | [a,b',c,d],_=>exact ⟨a,b',c,d,h,b a (by simp),b b' (by simp),b c (by simp),b d (by simp)⟩
theorem df_law_sides (T:Txt K mg C):Df P w K mg base 2 "_law_sides" ["deck","most"] spSides3:=by
  refine T.d_law_sides.ok sc_law_sides (fun vs H Q E h=>?_) (fun f cdv A outer s H vs Q E hr h=>?_)
  · obtain ⟨d,c,most,n,rfl,_⟩:=h
    rfl
  · obtain ⟨d,c,most,n,rfl,D,hn,m0,m6,q⟩:=h
    refine ⟨_,(@pss_one _ _ _ (@ps_ret _ _ _ _ (@pe_callTy _ _ _ _ _ _ _ _ _ (call_tupleK (K:=K) rfl) (by rfl) T.n_tuple bt_tuple (@pa_cons _ _ _ _ _ (pe_compIf (M:=["deck","most"]) (idx:=[0,1]) rfl (pi_range1 (by rfl) T.n_range (@pa_cons _ _ _ _ _ pe_int pa_nil (by rfl))) (compOk (by kernel_rfl)) (by decide +kernel) (by first | exact Or.inl rfl | exact Or.inr rfl) (fun _ _ _ _ _=>pts_nil) (fun _ _ _ _ _=>(@pe_df _ _ _ _ _ _ _ _ _ _ (df_law_draw T) (hr.mono (by decide)) (@pa_cons _ _ _ _ _ (pv 1) (@pa_cons _ _ _ _ _ (@pe_ix _ _ _ _ _ _ _ (ix_seqK (K:=K) rfl) (@pe_lst _ _ _ _ (@pa_cons _ _ _ _ _ pe_int (@pa_cons _ _ _ _ _ pe_int (@pa_cons _ _ _ _ _ pe_int (@pa_cons _ _ _ _ _ (@pe_op _ _ _ _ _ _ _ _ op_add (pv 2) pe_int) pa_nil star_bin) (by rfl)) (by rfl)) (by rfl))) (@pe_df _ _ _ _ _ _ _ _ _ _ (df_law_draw T) (hr.mono (by decide)) (@pa_cons _ _ _ _ _ (pv 1) (@pa_cons _ _ _ _ _ pe_int pa_nil (by rfl)) (by rfl)) (by rfl) (by decide) (by rfl) (by rfl)) (fun _ _=>rfl)) pa_nil star_sub) (by rfl)) (by rfl) (by decide) (by rfl) (by rfl)))) pa_nil star_comp) (by decide) (by decide) (by rfl) (by rfl)))),?_⟩
    refine ⟨4,rfl,(by decide),(by decide),?_⟩
    refine compW_range (fun i ys H'=>∃ ks:List Nat,ks.length=i∧ys=ks.map (fun k:Nat=>V.int (k:Int))∧(∀ k∈ks,k≤6)∧Dk H' d c (n + 2 * i)∧K2 d c H H')
      ⟨[],rfl,rfl,fun k hk=>absurd hk (by simp),D,K2.refl _ _ _⟩ (by decide) ?_ ?_
    · rintro i ys H2 hi ⟨ks,lk,ek,bk,D2,K2'⟩
      have hi4:i < 4:=hi
      refine oneT ?_
      refine ⟨_,rfl,_,rfl,_,_,rfl,rfl,(by show 4≤sizeLine;decide),fun p hp=>?_⟩
      refine ⟨_,rfl,_,_,_,_,rfl,D2.upd hp,(by decide),(by decide),by omega,fun x H1 x0 x1 D1 k1=>?_⟩
      obtain ⟨m,em,hm⟩:=pickI (x:=x) (ms:=[1,3,3,most + 1]) x0 (by exact x1)
      have hm':1≤m∧m≤7:=by
        simp only [List.mem_cons,List.not_mem_nil,or_false] at hm
        omega
      refine Or.inl ⟨_,_,_,_,rfl,rfl,SqL.of (k1 p _ upd_same (D2.nd hp).1 (D2.nd hp).2),em,?_⟩
      refine ⟨_,_,_,_,rfl,D1,by omega,by omega,by omega,fun y H3 y0 y1 D3 k3=>?_⟩
      refine ⟨ks ++ [y.toNat],by rw [List.length_append,lk];rfl,?_,fun k hk=>?_,D3.mono (by omega),(K2'.upd hp).trans (k1.trans k3)⟩
      · rw [ek,List.map_append]
        show _ ++ [V.int y]=_ ++ [V.int ((y.toNat:Nat):Int)]
        rw [Int.toNat_of_nonneg y0]
      · rcases List.mem_append.mp hk with z | z
        · exact bk k z
        · have:k=y.toNat:=by simpa using z
          omega
    · rintro ys H2 ⟨ks,lk,ek,bk,D2,K2'⟩ ls hls
      refine ⟨_,_,rfl,Or.inl ⟨SqL.of upd_same,fun t ht=>?_⟩⟩
      obtain ⟨a,b,c',e,ey,ha,hb,hc,he⟩:=four_nat ek lk bk
      have kk:=(same_upd (o:=.lst ys) hls).trans (same_upd (o:=.tup ys) ht)
      exact q t a b c' e _ ha hb hc he (by rw [upd_same,ey]) ((D2.keep kk).mono (by show n + 2 * 4≤_;omega)) (K2'.trans (kk.k2 d c))
def spField3:Sp:=fun vs H Q _=>∃ (d c:Addr) (most holes:Int) (n:Nat),vs=[.ref d,.int most,.int holes]∧Dk H d c n∧n≤100000∧1≤most∧most≤12∧(holes=0 ∨ holes=1) ∧
  ∀ (v:V) (F:List (List (Option Int))) (h w:Nat) (H':Hp),IsD H' v (fieldD F)→FieldOk F h w→(h:Int)≤most→(w:Int)≤most→(holes=0→∀ r∈F,∀ c∈r,c≠none)→Dk H' d c (n + 1000)→K2 d c H H'→Q v H'
theorem df_law_field (T:Txt K mg C):Df P w K mg base 3 "_law_field" ["deck","most","holes"] spField3:=by
  refine T.d_law_field.ok sc_law_field (fun vs H Q E h=>?_) (fun f cdv A outer s H vs Q E hr h=>?_)
  · obtain ⟨d,c,most,holes,n,rfl,_⟩:=h
    rfl
  · obtain ⟨d,c,most,holes,n,rfl,D,hn,m1,m12,hh,q⟩:=h
    refine ⟨_,(@pss_cons _ _ _ _ _ (@ps_set _ _ 3 _ _ _ _ sc_law_field.nd rfl (by first | exact Or.inl rfl | exact Or.inr rfl) (@pe_df _ _ _ _ _ _ _ _ _ _ (df_law_draw T) (hr.mono (by decide)) (@pa_cons _ _ _ _ _ (pv 0) (@pa_cons _ _ _ _ _ pe_int pa_nil (by rfl)) (by rfl)) (by rfl) (by decide) (by rfl) (by rfl)) (by rfl) (by first | exact .inl rfl | exact .inr rfl))
      (@pss_cons _ _ _ _ _ (@ps_set _ _ 4 _ _ _ _ sc_law_field.nd rfl (by first | exact Or.inl rfl | exact Or.inr rfl) (@pe_ix _ _ _ _ _ _ _ (ix_seqK (K:=K) rfl) (@pe_lst _ _ _ _ (@pa_cons _ _ _ _ _ pe_int (@pa_cons _ _ _ _ _ pe_int (@pa_cons _ _ _ _ _ pe_int (@pa_cons _ _ _ _ _ pe_int pa_nil (by rfl)) (by rfl)) (by rfl)) (by rfl))) (@pe_op _ _ _ _ _ _ _ _ op_mul (@pe_df _ _ _ _ _ _ _ _ _ _ (df_law_draw T) (hr.mono (by decide)) (@pa_cons _ _ _ _ _ (pv 0) (@pa_cons _ _ _ _ _ pe_int pa_nil (by rfl)) (by rfl)) (by rfl) (by decide) (by rfl) (by rfl)) (pv 2)) (fun _ _=>rfl)) (by rfl) (by first | exact .inl rfl | exact .inr rfl))
      (@pss_cons _ _ _ _ _ (@ps_set _ _ 5 _ _ _ _ sc_law_field.nd rfl (by first | exact Or.inl rfl | exact Or.inr rfl) (@pe_op _ _ _ _ _ _ _ _ op_add pe_int (@pe_df _ _ _ _ _ _ _ _ _ _ (df_law_draw T) (hr.mono (by decide)) (@pa_cons _ _ _ _ _ (pv 0) (@pa_cons _ _ _ _ _ (pv 1) pa_nil (by rfl)) (by rfl)) (by rfl) (by decide) (by rfl) (by rfl))) (by rfl) (by first | exact .inl rfl | exact .inr rfl))
      (@pss_cons _ _ _ _ _ (@ps_set _ _ 6 _ _ _ _ sc_law_field.nd rfl (by first | exact Or.inl rfl | exact Or.inr rfl) (@pe_lst _ _ _ _ pa_nil) (by rfl) (by first | exact .inl rfl | exact .inr rfl))
      (@pss_cons _ _ _ _ _ (@ps_for _ _ _ _ _ _ _ _ PassesOwn.never rfl (pi_range1 (by rfl) T.n_range (@pa_cons _ _ _ _ _ (@pe_op _ _ _ _ _ _ _ _ op_add pe_int (@pe_df _ _ _ _ _ _ _ _ _ _ (df_law_draw T) (hr.mono (by decide)) (@pa_cons _ _ _ _ _ (pv 0) (@pa_cons _ _ _ _ _ (pv 1) pa_nil (by rfl)) (by rfl)) (by rfl) (by decide) (by rfl) (by rfl))) pa_nil star_bin)) (pg_name (i:=7) sc_law_field.nd rfl (by first | exact Or.inl rfl | exact Or.inr rfl)) (@pss_cons _ _ _ _ _ (@ps_set _ _ 8 _ _ _ _ sc_law_field.nd rfl (by first | exact Or.inl rfl | exact Or.inr rfl) (@pe_lst _ _ _ _ pa_nil) (by rfl) (by first | exact .inl rfl | exact .inr rfl))
      (@pss_cons _ _ _ _ _ (@ps_for _ _ _ _ _ _ _ _ PassesOwn.never rfl (pi_range1 (by rfl) T.n_range (@pa_cons _ _ _ _ _ (pv 5) pa_nil (by rfl))) (pg_name (i:=9) sc_law_field.nd rfl (by first | exact Or.inl rfl | exact Or.inr rfl)) (@pss_cons _ _ _ _ _ (@ps_set _ _ 10 _ _ _ _ sc_law_field.nd rfl (by first | exact Or.inl rfl | exact Or.inr rfl) (@pe_df _ _ _ _ _ _ _ _ _ _ (df_law_number T) (hr.mono (by decide)) (@pa_cons _ _ _ _ _ (pv 0) (@pa_cons _ _ _ _ _ (pv 3) pa_nil (by rfl)) (by rfl)) (by rfl) (by decide) (by rfl) (by rfl)) (by rfl) (by first | exact .inl rfl | exact .inr rfl))
      (@pss_one _ _ _ (@ps_expr _ _ _ _ (pe_bm PySem.F.plainAttrs_list PySem.F.slot_list_append PySem.F.type_list_append mt_append (pv 8) (@pa_cons _ _ _ _ _ (pe_ifExp (pw_and (@pt_cmpR _ _ _ _ _ _ _ _ op_gt (pv 2) pe_int (nomark _)) (pw_and1 (@pt_cmpR _ _ _ _ _ _ _ _ op_lt (@pe_df _ _ _ _ _ _ _ _ _ _ (df_law_draw T) (hr.mono (by decide)) (@pa_cons _ _ _ _ _ (pv 0) (@pa_cons _ _ _ _ _ pe_int pa_nil (by rfl)) (by rfl)) (by rfl) (by decide) (by rfl) (by rfl)) (pv 4) (nomark _)))).pt pe_non (pv 10)) pa_nil (by rfl))) (by rfl)))) (by intro _;rfl))
      (@pss_one _ _ _ (@ps_expr _ _ _ _ (pe_bm PySem.F.plainAttrs_list PySem.F.slot_list_append PySem.F.type_list_append mt_append (pv 6) (@pa_cons _ _ _ _ _ (@pe_callTy _ _ _ _ _ _ _ _ _ (call_tupleK (K:=K) rfl) (by rfl) T.n_tuple bt_tuple (@pa_cons _ _ _ _ _ (pv 8) pa_nil (by rfl)) (by decide) (by decide) (by rfl) (by rfl)) pa_nil star_call)) (by rfl))))) (by intro _;rfl))
      (@pss_one _ _ _ (@ps_ret _ _ _ _ (@pe_callTy _ _ _ _ _ _ _ _ _ (call_tupleK (K:=K) rfl) (by rfl) T.n_tuple bt_tuple (@pa_cons _ _ _ _ _ (pv 6) pa_nil (by rfl)) (by decide) (by decide) (by rfl) (by rfl))))))))),?_⟩
    have hh':0≤holes∧holes≤1:=by omega
    refine ⟨_,rfl,_,_,_,_,rfl,D,(by decide),(by decide),by omega,fun x1 H1 a1 b1 D1 k1=>?_⟩
    refine ⟨(by show 4≤sizeLine;decide),fun p hp=>?_⟩
    refine ⟨_,rfl,_,_,_,_,rfl,D1.upd hp,(by decide),(by decide),by omega,fun x2 H2 a2 b2 D2 k2=>?_⟩
    refine ⟨_,rfl,_,_,rfl,rfl,Or.inr ⟨by omega,by omega⟩,?_⟩
    have hx2:0≤x2 * holes∧x2 * holes < 4:=by
      rcases hh with e | e
      · rw [e];omega
      · rw [e];omega
    obtain ⟨many,em,hm⟩:=pickI (x:=x2 * holes) (ms:=[1,1,4,12]) hx2.1 (by exact hx2.2)
    refine Or.inl ⟨_,_,_,_,rfl,rfl,SqL.of (k2 p _ upd_same (D1.nd hp).1 (D1.nd hp).2),em,?_⟩
    have K2':K2 d c H H2:=(k1.upd hp).trans k2
    refine ⟨_,rfl,_,rfl,_,_,_,_,rfl,D2,by omega,by omega,by omega,fun x3 H3 a3 b3 D3 k3=>?_⟩
    refine ⟨_,_,rfl,rfl,?_⟩
    have K3:=K2'.trans k3
    refine ⟨(by show 0≤sizeLine;decide),fun b hb=>?_⟩
    have nb:=D3.nd hb
    have K4:K2 d c H (upd H3 b (.lst [])):=K3.upd hb
    have hb4:upd H3 b (.lst []) b=some (.lst []):=upd_same
    have D4:=D3.upd (o:=.lst []) hb
    have hbH:H b=none:=by
      cases e:H b with
      | none=>rfl
      | some o=>rw [K3 b o e nb.1 nb.2] at hb;cases hb
    generalize upd H3 b (.lst [])=H4 at K4 hb4 D4 ⊢
    refine ⟨_,rfl,_,rfl,_,_,_,_,rfl,D4,by omega,by omega,by omega,fun x5 H5 a5 b5 D5 k5=>?_⟩
    have hb5:=k5 _ _ hb4 nb.1 nb.2
    have K5:=K4.trans k5
    refine ⟨_,_,rfl,rfl,_,rfl,by omega,by omega,?_⟩
    refine for_range (n:=(1 + x5).toNat) (fun i σ H'=>∃ (v7 v8 v9 v10:Option V) (ys:List V) (G:List (List (Option Int))),σ=[some (.ref d),some (.int most),some (.int holes),some (.int x1),some (.int many),some (.int (1 + x3)),some (.ref b),v7,v8,v9,v10]∧K2 d c H H'∧Dk H' d c (n + 4 + 50 * i)∧H' b=some (.lst ys)∧IsDs H' ys (G.map rowD)∧G.length=i ∧
      (∀ r∈G,r.length=(1 + x3).toNat ∧ ∀ c∈r,CellOk c∧(holes=0→c≠none))) ⟨none,none,none,none,[],[],rfl,K5,D5,hb5,.nil,rfl,fun r hr=>absurd hr (by simp)⟩ ?_ ?_
    · rintro i _ H8 hi ⟨v7,v8,v9,v10,ys,G,rfl,K8,D8,hc8,hys,lG,hG⟩
      have ly:ys.length=i:=by rw [hys.length,List.length_map,lG]
      have hi':i < 12:=by
        have:i < (1 + x5).toNat:=hi
        omega
      refine ⟨(by show 0≤sizeLine;decide),fun e he=>?_⟩
      have s9:=same_upd (o:=.lst []) he
      have ned:=D8.nd he
      have heb:e≠b:=(ne_of_none hc8 he).symm
      have heH:H e=none:=by
        cases e':H e with
        | none=>rfl
        | some o=>rw [K8 e o e' ned.1 ned.2] at he;cases he
      have K9:=K8.upd (o:=.lst []) he
      have he9:upd H8 e (.lst []) e=some (.lst []):=upd_same
      have D9:=D8.keep s9
      have hc9:=s9 _ _ hc8
      have hys9:=hys.keep s9.tups
      generalize upd H8 e (.lst [])=H9 at K9 he9 D9 hc9 hys9 ⊢
      refine ⟨_,rfl,_,rfl,by omega,by omega,?_⟩
      refine for_range (n:=(1 + x3).toNat) (fun j σ H'=>∃ (v9 v10:Option V) (r:List (Option Int)),σ=[some (.ref d),some (.int most),some (.int holes),some (.int x1),some (.int many),some (.int (1 + x3)),some (.ref b),some (.int (0 + (i:Int))),some (.ref e),v9,v10]∧K2 d c H H'∧Dk H' d c (n + 4 + 50 * i + 4 * j)∧H' b=some (.lst ys)∧IsDs H' ys (G.map rowD)∧H' e=some (.lst (r.map cellV))∧r.length=j∧∀ c∈r,CellOk c∧(holes=0→c≠none)) ⟨v9,v10,[],rfl,K9,D9,hc9,hys9,he9,rfl,fun c hc=>absurd hc (by simp)⟩ ?_ ?_
      · rintro j _ H10 hj ⟨v9,v10,r,rfl,K10,D10,hc10,hys10,he10,lr,hr'⟩
        have hj':j < 12:=by
          have:j < (1 + x3).toNat:=hj
          omega
        refine ⟨_,rfl,_,rfl,_,_,_,_,rfl,D10,by omega,fun y H11 y0 y1 D11 k11=>?_⟩
        have he11:=k11 _ _ he10 ned.1 ned.2
        have hc11:=k11 _ _ hc10 nb.1 nb.2
        have t11:=k11.tups D10
        have K11:=K10.trans k11
        have done:∀ (cl:Option Int) (H12:Hp),CellOk cl→(holes=0→cl≠none)→Dk H12 d c (n + 4 + 50 * i + 4 * (j + 1))→K2 d c H11 H12→KeepT H11 H12→∃ (v9 v10:Option V) (r':List (Option Int)),[some (V.ref d),some (.int most),some (.int holes),some (.int x1),some (.int many),some (.int (1 + x3)),some (.ref b),some (.int (0 + (i:Int))),some (.ref e),some (.int (0 + (j:Int))),some (.int y)]=[some (.ref d),some (.int most),some (.int holes),some (.int x1),some (.int many),some (.int (1 + x3)),some (.ref b),some (.int (0 + (i:Int))),some (.ref e),v9,v10]∧K2 d c H (upd H12 e (.lst (r.map cellV ++ [cellV cl])))∧Dk (upd H12 e (.lst (r.map cellV ++ [cellV cl]))) d c (n + 4 + 50 * i + 4 * (j + 1))∧upd H12 e (.lst (r.map cellV ++ [cellV cl])) b=some (.lst ys)∧IsDs (upd H12 e (.lst (r.map cellV ++ [cellV cl]))) ys (G.map rowD)∧upd H12 e (.lst (r.map cellV ++ [cellV cl])) e=some (.lst (r'.map cellV))∧r'.length=j + 1∧∀ c∈r',CellOk c∧(holes=0→c≠none):=by
          intro cl H12 ok nh D12 k12 t12
          have he12:=k12 _ _ he11 ned.1 ned.2
          have hc12:=k12 _ _ hc11 nb.1 nb.2
          refine ⟨_,_,r ++ [cl],rfl,fun b' o e' n1 n2=>?_,?_,?_,?_,?_,by rw [List.length_append,lr];rfl,?_⟩
          · rw [upd_ne (ne_of_none e' heH)]
            exact (K11.trans k12) b' o e' n1 n2
          · obtain ⟨z1,ns,a,t,z2,z3,z4⟩:=D12
            exact ⟨z1,ns,a,t,by rw [upd_ne ned.1.symm];exact z2,by rw [upd_ne ned.2.symm];exact z3,z4⟩
          · rw [upd_ne heb.symm];exact hc12
          · refine hys10.keep fun b' zs e'=>?_
            rw [upd_ne (ne_of e' he10 fun z=>by cases z)]
            exact t12 _ _ (t11 _ _ e')
          · rw [upd_same,List.map_append];rfl
          · intro c' hc'
            rcases List.mem_append.mp hc' with z | z
            · exact hr' c' z
            · have:c'=cl:=by simpa using z
              subst this
              exact ⟨ok,nh⟩
        have oky:CellOk (some y):=fun i e=>by
          have:y=i:=Option.some.inj e
          omega
        have len12:∀ k,(r.map cellV).length + k < 1001 + k:=fun k=>by rw [List.length_map,lr];omega
        refine ⟨_,rfl,Or.inl ⟨rfl,_,SqL.of he11⟩,?_⟩
        refine ⟨_,rfl,_,_,rfl,rfl,_,rfl,?_⟩
        refine ite2 (fun z=>?_) (fun z=>?_)
        · have hz:0 < holes:=of_decide_eq_true z
          refine ⟨_,rfl,_,_,_,_,rfl,D11,(by decide),(by decide),by omega,fun z H12 z0 z1 D12 k12=>?_⟩
          refine ⟨_,rfl,_,_,rfl,rfl,_,rfl,?_⟩
          refine ite2 (fun z=>?_) (fun z=>?_)
          · refine ⟨_,_,_,rfl,rfl,k12 _ _ he11 ned.1 ned.2,Nat.lt_of_lt_of_le (len12 0) (by decide),?_⟩
            exact done none H12 (fun i e=>by cases e) (fun h0=>by omega) (D12.mono (by omega)) k12 (k12.tups D11)
          · refine ⟨_,rfl,_,_,_,rfl,rfl,k12 _ _ he11 ned.1 ned.2,Nat.lt_of_lt_of_le (len12 0) (by decide),?_⟩
            exact done (some y) H12 oky (fun _ e=>by cases e) (D12.mono (by omega)) k12 (k12.tups D11)
        · refine iteF ?_
          refine ⟨_,rfl,_,_,_,rfl,rfl,he11,Nat.lt_of_lt_of_le (len12 0) (by decide),?_⟩
          exact done (some y) H11 oky (fun _ e=>by cases e) (D11.mono (by omega)) (K2.refl _ _ _) (fun _ _ e=>e)
      · rintro _ H10 ⟨v9,v10,r,rfl,K10,D10,hc10,hys10,he10,lr,hr'⟩
        refine ⟨_,rfl,Or.inl ⟨rfl,_,SqL.of hc10⟩,_,rfl,_,_,rfl,Or.inl ⟨SqL.of he10,fun t ht=>?_⟩⟩
        have st:=same_upd (o:=.tup (r.map cellV)) ht
        have hct:=st _ _ hc10
        have htb:t≠b:=(ne_of_none hc10 ht).symm
        have D11:=D10.keep st
        refine ⟨_,_,_,rfl,rfl,hct,(by rw [ly];exact Nat.lt_of_lt_of_le (show i < 1001 by omega) (by decide)),?_⟩
        refine ⟨_,_,_,_,ys ++ [.ref t],G ++ [r],rfl,fun b' o e' n1 n2=>?_,?_,upd_same,?_,by rw [List.length_append,lG];rfl,?_⟩
        · rw [upd_ne (ne_of_none e' hbH)]
          exact st _ _ (K10 b' o e' n1 n2)
        · obtain ⟨z1,ns,a,t',z2,z3,z4,z5,z6,z7⟩:=D11
          exact ⟨z1,ns,a,t',by rw [upd_ne nb.1.symm];exact z2,by rw [upd_ne nb.2.symm];exact z3,z4,z5,z6,by omega⟩
        · have kt:∀ b' zs,H10 b'=some (.tup zs)→upd (upd H10 t (.tup (r.map cellV))) b (.lst (ys ++ [.ref t])) b'=some (.tup zs):=fun b' zs e'=>by
            rw [upd_ne (ne_of e' hc10 fun z=>by cases z)]
            exact st _ _ e'
          rw [List.map_append]
          exact (hys10.keep kt).append (.cons (.tup (by rw [upd_ne htb];exact upd_same) (isCells _)) .nil)
        · intro r' hr2
          rcases List.mem_append.mp hr2 with z | z
          · exact hG r' z
          · have:r'=r:=by simpa using z
            subst this
            exact ⟨by omega,hr'⟩
    · rintro _ H8 ⟨v7,v8,v9,v10,ys,G,rfl,K8,D8,hc8,hys,lG,hG⟩
      refine ⟨_,rfl,_,_,rfl,Or.inl ⟨SqL.of hc8,fun t ht=>?_⟩⟩
      have st:=same_upd (o:=.tup ys) ht
      refine q (.ref t) G (1 + x5).toNat (1 + x3).toNat _ (.tup upd_same (hys.keep st.tups)) ⟨lG,by omega,by omega,by omega,by omega,fun r hr=>(hG r hr).1,fun r hr c hc=>((hG r hr).2 c hc).1⟩ (by omega) (by omega) (fun h0 r hr c hc=>((hG r hr).2 c hc).2 h0) ((D8.keep st).mono (by omega)) (K8.trans (st.k2 d c))
def spRule3:Sp:=fun vs H Q _=>∃ (d c:Addr) (kind:Int) (n:Nat),vs=[.ref d,.int kind]∧Dk H d c n∧n≤100000∧∀ (v:V) (ru:Rule) (H':Hp),IsD H' v (ruleD ru)→Dk H' d c (n + 5)→K2 d c H H'→Q v H'
theorem df_law_rule (T:Txt K mg C):Df P w K mg base 3 "_law_rule" ["deck","kind"] spRule3:=by
  refine T.d_law_rule.ok sc_law_rule (fun vs H Q E h=>?_) (fun f cdv A outer s H vs Q E hr h=>?_)
  · obtain ⟨d,c,kind,n,rfl,_⟩:=h
    rfl
  · obtain ⟨d,c,kind,n,rfl,D,hn,q⟩:=h
    refine ⟨_,(@pss_cons _ _ _ _ _ (@ps_set _ _ 2 _ _ _ _ sc_law_rule.nd rfl (by first | exact Or.inl rfl | exact Or.inr rfl) (@pe_ix _ _ _ _ _ _ _ (ix_seqK (K:=K) rfl) (@pe_lst _ _ _ _ (@pa_cons _ _ _ _ _ pe_non (@pa_cons _ _ _ _ _ (@pe_df _ _ _ _ _ _ _ _ _ _ (df_law_number T) (hr.mono (by decide)) (@pa_cons _ _ _ _ _ (pv 0) (@pa_cons _ _ _ _ _ (pv 1) pa_nil (by rfl)) (by rfl)) (by rfl) (by decide) (by rfl) (by rfl)) pa_nil star_call) (by rfl))) (@pe_df _ _ _ _ _ _ _ _ _ _ (df_law_draw T) (hr.mono (by decide)) (@pa_cons _ _ _ _ _ (pv 0) (@pa_cons _ _ _ _ _ pe_int pa_nil (by rfl)) (by rfl)) (by rfl) (by decide) (by rfl) (by rfl)) (fun _ _=>rfl)) (by rfl) (by first | exact .inl rfl | exact .inr rfl))
      (@pss_one _ _ _ (@ps_ret _ _ _ _ (@pe_ix _ _ _ _ _ _ _ (ix_seqK (K:=K) rfl) (@pe_lst _ _ _ _ (@pa_cons _ _ _ _ _ pe_str (@pa_cons _ _ _ _ _ pe_str (@pa_cons _ _ _ _ _ pe_str (@pa_cons _ _ _ _ _ pe_str (@pa_cons _ _ _ _ _ (@pe_tup _ _ _ _ _ (@pa_cons _ _ _ _ _ pe_str (@pa_cons _ _ _ _ _ (pv 2) pa_nil (by rfl)) (by rfl))) pa_nil star_tup) (by rfl)) (by rfl)) (by rfl)) (by rfl))) (@pe_df _ _ _ _ _ _ _ _ _ _ (df_law_draw T) (hr.mono (by decide)) (@pa_cons _ _ _ _ _ (pv 0) (@pa_cons _ _ _ _ _ pe_int pa_nil (by rfl)) (by rfl)) (by rfl) (by decide) (by rfl) (by rfl)) (fun _ _=>rfl))))),?_⟩
    refine ⟨_,rfl,_,rfl,_,_,_,_,rfl,D,by omega,fun x H1 x0 x1 D1 k1=>?_⟩
    refine ⟨(by show 2≤sizeLine;decide),fun p hp=>?_⟩
    refine ⟨_,rfl,_,_,_,_,rfl,D1.upd hp,(by decide),(by decide),by omega,fun y H2 y0 y1 D2 k2=>?_⟩
    obtain ⟨told,et⟩:∃ told:Option Int,atI [V.non,V.int x] y=some (cellV told):=by
      have:y=0 ∨ y=1:=by omega
      rcases this with e | e
      · exact ⟨none,by rw [e];rfl⟩
      · exact ⟨some x,by rw [e];rfl⟩
    refine Or.inl ⟨_,_,_,_,rfl,rfl,SqL.of (k2 p _ upd_same (D1.nd hp).1 (D1.nd hp).2),et,?_⟩
    have K2':K2 d c H H2:=(k1.upd hp).trans k2
    refine ⟨_,rfl,(by show 2≤sizeLine;decide),fun t ht=>?_⟩
    have st:=same_upd (o:=.tup [.str "told",cellV told]) ht
    refine ⟨(by show 5≤sizeLine;decide),fun p2 hp2=>?_⟩
    have s2:=same_upd (o:=.lst [.str "there",.str "near",.str "turned",.str "round",.ref t]) hp2
    have D3:=D2.keep (st.trans s2)
    have K3:=K2'.trans ((st.trans s2).k2 d c)
    have e2:upd (upd H2 t (.tup [.str "told",cellV told])) p2 (.lst [.str "there",.str "near",.str "turned",.str "round",.ref t]) p2=some (.lst [.str "there",.str "near",.str "turned",.str "round",.ref t]):=upd_same
    have et2:=s2 _ _ (show upd H2 t (.tup [.str "told",cellV told]) t=some (.tup [.str "told",cellV told]) from upd_same)
    have nd2:=(D2.keep st).nd hp2
    generalize upd (upd H2 t (.tup [.str "told",cellV told])) p2 (.lst [.str "there",.str "near",.str "turned",.str "round",.ref t])=H3 at D3 K3 e2 et2 ⊢
    refine ⟨_,rfl,_,_,_,_,rfl,D3,(by decide),(by decide),by omega,fun z H4 z0 z1 D4 k4=>?_⟩
    have et4:=(k4.tups D3) _ _ et2
    have e4:=k4 _ _ e2 nd2.1 nd2.2
    obtain ⟨v,ru,e,h⟩:∃ (v:V) (ru:Rule),atI [V.str "there",.str "near",.str "turned",.str "round",.ref t] z=some v∧IsD H4 v (ruleD ru):=by
      have:z=0 ∨ z=1 ∨ z=2 ∨ z=3 ∨ z=4:=by omega
      rcases this with e | e | e | e | e
      · subst e;exact ⟨.str "there",.there,rfl,.str _⟩
      · subst e;exact ⟨.str "near",.near,rfl,.str _⟩
      · subst e;exact ⟨.str "turned",.turned,rfl,.str _⟩
      · subst e;exact ⟨.str "round",.round,rfl,.str _⟩
      · subst e;exact ⟨.ref t,.told told,rfl,.tup et4 (.cons (.str _) (.cons (isCell told) .nil))⟩
    exact Or.inl ⟨_,_,_,v,rfl,rfl,SqL.of e4,e,q v ru H4 h (D4.mono (by omega)) (K3.trans k4)⟩
def spShare3:Sp:=fun vs H Q _=>∃ (d c:Addr) (n:Nat),vs=[.ref d]∧Dk H d c n∧n≤100000∧∀ (v:V) (a b:Int) (H':Hp),IsD H' v (placeD (a,b))→Share a b→Dk H' d c (n + 4)→K2 d c H H'→Q v H'
theorem df_law_share (T:Txt K mg C):Df P w K mg base 2 "_law_share" ["deck"] spShare3:=by
  refine T.d_law_share.ok sc_law_share (fun vs H Q E h=>?_) (fun f cdv A outer s H vs Q E hr h=>?_)
  · obtain ⟨d,c,n,rfl,_⟩:=h
    rfl
  · obtain ⟨d,c,n,rfl,D,hn,q⟩:=h
    refine ⟨_,(@pss_cons _ _ _ _ _ (@ps_set _ _ 1 _ _ _ _ sc_law_share.nd rfl (by first | exact Or.inl rfl | exact Or.inr rfl) (@pe_op _ _ _ _ _ _ _ _ op_add pe_int (@pe_df _ _ _ _ _ _ _ _ _ _ (df_law_draw T) (hr.mono (by decide)) (@pa_cons _ _ _ _ _ (pv 0) (@pa_cons _ _ _ _ _ (@pe_ix _ _ _ _ _ _ _ (ix_seqK (K:=K) rfl) (@pe_lst _ _ _ _ (@pa_cons _ _ _ _ _ pe_int (@pa_cons _ _ _ _ _ pe_int pa_nil (by rfl)) (by rfl))) (@pe_df _ _ _ _ _ _ _ _ _ _ (df_law_draw T) (hr.mono (by decide)) (@pa_cons _ _ _ _ _ (pv 0) (@pa_cons _ _ _ _ _ pe_int pa_nil (by rfl)) (by rfl)) (by rfl) (by decide) (by rfl) (by rfl)) (fun _ _=>rfl)) pa_nil star_sub) (by rfl)) (by rfl) (by decide) (by rfl) (by rfl))) (by rfl) (by first | exact .inl rfl | exact .inr rfl))
      (@pss_one _ _ _ (@ps_ret _ _ _ _ (@pe_ix _ _ _ _ _ _ _ (ix_seqK (K:=K) rfl) (@pe_lst _ _ _ _ (@pa_cons _ _ _ _ _ (@pe_tup _ _ _ _ _ (@pa_cons _ _ _ _ _ pe_int (@pa_cons _ _ _ _ _ pe_int pa_nil (by rfl)) (by rfl))) (@pa_cons _ _ _ _ _ (@pe_tup _ _ _ _ _ (@pa_cons _ _ _ _ _ pe_int (@pa_cons _ _ _ _ _ pe_int pa_nil (by rfl)) (by rfl))) (@pa_cons _ _ _ _ _ (@pe_tup _ _ _ _ _ (@pa_cons _ _ _ _ _ pe_int (@pa_cons _ _ _ _ _ pe_int pa_nil (by rfl)) (by rfl))) (@pa_cons _ _ _ _ _ (@pe_tup _ _ _ _ _ (@pa_cons _ _ _ _ _ (@pe_df _ _ _ _ _ _ _ _ _ _ (df_law_draw T) (hr.mono (by decide)) (@pa_cons _ _ _ _ _ (pv 0) (@pa_cons _ _ _ _ _ (@pe_op _ _ _ _ _ _ _ _ op_add (pv 1) pe_int) pa_nil star_bin) (by rfl)) (by rfl) (by decide) (by rfl) (by rfl)) (@pa_cons _ _ _ _ _ (pv 1) pa_nil (by rfl)) star_call)) pa_nil star_tup) star_tup) star_tup) star_tup)) (@pe_df _ _ _ _ _ _ _ _ _ _ (df_law_draw T) (hr.mono (by decide)) (@pa_cons _ _ _ _ _ (pv 0) (@pa_cons _ _ _ _ _ pe_int pa_nil (by rfl)) (by rfl)) (by rfl) (by decide) (by rfl) (by rfl)) (fun _ _=>rfl))))),?_⟩
    refine ⟨_,rfl,(by show 2≤sizeLine;decide),fun p hp=>?_⟩
    refine ⟨_,rfl,_,_,_,_,rfl,D.upd hp,(by decide),(by decide),by omega,fun x H1 x0 x1 D1 k1=>?_⟩
    obtain ⟨m,em,hm⟩:=pickI (x:=x) (ms:=[4,1000]) x0 (by exact x1)
    have hm':4≤m∧m≤1000:=by
      simp only [List.mem_cons,List.not_mem_nil,or_false] at hm
      omega
    refine Or.inl ⟨_,_,_,_,rfl,rfl,SqL.of (k1 p _ upd_same (D.nd hp).1 (D.nd hp).2),em,?_⟩
    have K1:K2 d c H H1:=((K2.refl d c H).upd hp).trans k1
    refine ⟨_,_,_,_,rfl,D1,by omega,by omega,by omega,fun y H2 y0 y1 D2 k2=>?_⟩
    refine ⟨_,_,rfl,rfl,?_⟩
    have K2':=K1.trans k2
    refine ⟨(by show 2≤sizeLine;decide),fun t1 ht1=>?_⟩
    have s1:=same_upd (o:=.tup [.int 0,.int 1]) ht1
    refine ⟨(by show 2≤sizeLine;decide),fun t2 ht2=>?_⟩
    have s2:=same_upd (o:=.tup [.int 1,.int 1]) ht2
    refine ⟨(by show 2≤sizeLine;decide),fun t3 ht3=>?_⟩
    have s3:=same_upd (o:=.tup [.int 1,.int 2]) ht3
    have S3:=(s1.trans s2).trans s3
    have e1:=s3 _ _ (s2 _ _ (show upd H2 t1 (.tup [.int 0,.int 1]) t1=some (.tup [.int 0,.int 1]) from upd_same))
    have e2:=s3 _ _ (show upd (upd H2 t1 (.tup [.int 0,.int 1])) t2 (.tup [.int 1,.int 1]) t2=some (.tup [.int 1,.int 1]) from upd_same)
    have e3:upd (upd (upd H2 t1 (.tup [.int 0,.int 1])) t2 (.tup [.int 1,.int 1])) t3 (.tup [.int 1,.int 2]) t3=some (.tup [.int 1,.int 2]):=upd_same
    generalize upd (upd (upd H2 t1 (.tup [.int 0,.int 1])) t2 (.tup [.int 1,.int 1])) t3 (.tup [.int 1,.int 2])=H3 at S3 e1 e2 e3 ⊢
    have D3:=D2.keep S3
    refine ⟨_,rfl,_,rfl,_,_,rfl,rfl,_,_,_,_,rfl,D3,by omega,by omega,by omega,fun z H4 z0 z1 D4 k4=>?_⟩
    have kt4:=k4.tups D3
    refine ⟨_,rfl,(by show 2≤sizeLine;decide),fun t4 ht4=>?_⟩
    have s4:=same_upd (o:=.tup [.int z,.int (1 + y)]) ht4
    refine ⟨(by show 4≤sizeLine;decide),fun p5 hp5=>?_⟩
    have s5:=same_upd (o:=.lst [.ref t1,.ref t2,.ref t3,.ref t4]) hp5
    have nd5:=(D4.keep s4).nd hp5
    have S5:=s4.trans s5
    have f1:=S5 _ _ (kt4 _ _ e1)
    have f2:=S5 _ _ (kt4 _ _ e2)
    have f3:=S5 _ _ (kt4 _ _ e3)
    have f4:=s5 _ _ (show upd H4 t4 (.tup [.int z,.int (1 + y)]) t4=some (.tup [.int z,.int (1 + y)]) from upd_same)
    have f5:upd (upd H4 t4 (.tup [.int z,.int (1 + y)])) p5 (.lst [.ref t1,.ref t2,.ref t3,.ref t4]) p5=some (.lst [.ref t1,.ref t2,.ref t3,.ref t4]):=upd_same
    have D5:=D4.keep S5
    have K5:=((K2'.trans (S3.k2 d c)).trans k4).trans (S5.k2 d c)
    generalize upd (upd H4 t4 (.tup [.int z,.int (1 + y)])) p5 (.lst [.ref t1,.ref t2,.ref t3,.ref t4])=H5 at f1 f2 f3 f4 f5 D5 K5 ⊢
    refine ⟨_,rfl,_,_,_,_,rfl,D5,(by decide),(by decide),by omega,fun w H6 w0 w1 D6 k6=>?_⟩
    have kt6:=k6.tups D5
    have g5:=k6 _ _ f5 nd5.1 nd5.2
    have z1':z < 1 + y + 1:=z1
    obtain ⟨t,a,b,e,h,hS⟩:∃ (t:Addr) (a b:Int),atI [V.ref t1,.ref t2,.ref t3,.ref t4] w=some (.ref t)∧H6 t=some (.tup [.int a,.int b])∧Share a b:=by
      have:w=0 ∨ w=1 ∨ w=2 ∨ w=3:=by omega
      rcases this with e | e | e | e
      · subst e;exact ⟨t1,0,1,rfl,kt6 _ _ f1,share01⟩
      · subst e;exact ⟨t2,1,1,rfl,kt6 _ _ f2,share11⟩
      · subst e;exact ⟨t3,1,2,rfl,kt6 _ _ f3,by decide,by decide,by decide,by decide⟩
      · subst e;exact ⟨t4,z,1 + y,rfl,kt6 _ _ f4,by omega,by omega,by omega,by omega⟩
    exact Or.inl ⟨_,_,_,.ref t,rfl,rfl,SqL.of g5,e,q (.ref t) a b H6 (isPlace h) hS (D6.mono (by omega)) (K5.trans k6)⟩
def spRowWith:Sp:=fun vs H Q _=>∃ (ra:Addr) (xs:List (Option Int)) (j:Nat) (c:Option Int),vs=[.ref ra,.int (j:Int),cellV c]∧H ra=some (.tup (xs.map cellV))∧j < xs.length ∧ xs.length ≤ 1000∧∀ (p:Addr) (H':Hp),Same H H'→H' p=some (.tup ((xs.take j ++ [c] ++ xs.drop (j + 1)).map cellV))→Q (.ref p) H'
theorem df_row_with (T:Txt K mg C):Df P w K mg base 1 "row_with" ["row","j","cell"] spRowWith:=by
  refine T.d_row_with.ok sc_row_with (fun vs H Q E h=>?_) (fun f cdv A outer s H vs Q E hr h=>?_)
  · obtain ⟨ra,xs,j,c,rfl,_⟩:=h
    rfl
  · obtain ⟨ra,xs,j,c,rfl,hra,hj,hl,q⟩:=h
    refine ⟨_,(@pss_one _ _ _ (@ps_ret _ _ _ _ (@pe_op _ _ _ _ _ _ _ _ op_catTA (@pe_op _ _ _ _ _ _ _ _ op_catTA (pe_slice (sl_X (K:=K) rfl) (pv 0) po_none (po_some (pv 1))) (@pe_tup _ _ _ _ _ (@pa_cons _ _ _ _ _ (pv 2) pa_nil (by rfl)))) (pe_slice (sl_X (K:=K) rfl) (pv 0) (po_some (@pe_op _ _ _ _ _ _ _ _ op_add (pv 1) pe_int)) po_none)))),?_⟩
    refine ⟨_,rfl,_,rfl,_,rfl,Or.inr ⟨_,_,rfl,hra,fun p1 H1 s1 hp1=>?_⟩⟩
    rw [cut_take] at hp1
    refine ⟨_,rfl,(by show 1≤sizeLine;decide),fun p2 hp2=>?_⟩
    have s2:=same_upd (o:=.tup [cellV c]) hp2
    refine ⟨_,_,_,_,rfl,rfl,s2 _ _ hp1,upd_same,(by rw [List.length_take,List.length_map];exact Nat.le_trans (show _≤2000 by simp;omega) (by decide)),fun p3 H3 s3 hp3=>?_⟩
    have S3:=(s1.trans s2).trans s3
    refine ⟨_,rfl,_,rfl,_,_,rfl,rfl,_,rfl,Or.inr ⟨_,_,rfl,S3 _ _ hra,fun p4 H4 s4 hp4=>?_⟩⟩
    rw [cut_drop] at hp4
    refine ⟨_,_,_,_,rfl,rfl,s4 _ _ hp3,hp4,(by rw [List.length_append,List.length_take,List.length_drop,List.length_map];exact Nat.le_trans (show _≤5000 by simp;omega) (by decide)),fun p5 H5 s5 hp5=>?_⟩
    refine q p5 H5 ((S3.trans s4).trans s5) ?_
    rw [hp5,List.map_append,List.map_append,List.map_take,List.map_drop]
    rfl
def spRefuse:Sp:=fun vs H Q _=>∃ (fv:V) (F:List (List (Option Int))) (i j:Int),vs=[fv,.int i,.int j]∧Rect F∧IsD H fv (fieldD F)∧inF F i j=true∧Q .non H
theorem df_refuse_outside (T:Txt K mg C):Df P w K mg base 2 "refuse_outside" ["field","i","j"] spRefuse:=by
  refine T.d_refuse_outside.ok sc_refuse_outside (fun vs H Q E h=>?_) (fun f cdv A outer s H vs Q E hr h=>?_)
  · obtain ⟨fv,F,i,j,rfl,_⟩:=h
    rfl
  · obtain ⟨fv,F,i,j,rfl,R,hf,hin,q⟩:=h
    refine ⟨_,(@pss_one _ _ _ (@ps_if _ _ _ _ _ _ _ _ (@pt_not _ _ _ _ (@pt_val _ _ _ (@pe_df _ _ _ _ _ _ _ _ _ _ (df_is_inside T) (hr.mono (by decide)) (@pa_cons _ _ _ _ _ (pv 0) (@pa_cons _ _ _ _ _ (pv 1) (@pa_cons _ _ _ _ _ (pv 2) pa_nil (by rfl)) (by rfl)) (by rfl)) (by rfl) (by decide) (by rfl) (by rfl)) (by intro _;rfl))) (@pss_one _ _ _ ps_never) pss_nil)),?_⟩
    refine ⟨_,rfl,_,rfl,_,rfl,_,F,_,_,rfl,R,hf,?_⟩
    rw [hin]
    refine ⟨_,rfl,iteF ?_⟩
    exact q
def spFieldWith:Sp:=fun vs H Q _=>∃ (fv:V) (F:List (List (Option Int))) (i j:Nat) (c:Option Int),vs=[fv,.int (i:Int),.int (j:Int),cellV c]∧Rect F∧IsD H fv (fieldD F)∧i < F.length ∧ j < (F.headD []).length ∧ ∀ (v:V) (H':Hp),Same H H'→IsD H' v (fieldD (putC F i j c))→Q v H'
theorem df_field_with (T:Txt K mg C):Df P w K mg base 3 "field_with" ["field","i","j","cell"] spFieldWith:=by
  refine T.d_field_with.ok sc_field_with (fun vs H Q E h=>?_) (fun f cdv A outer s H vs Q E hr h=>?_)
  · obtain ⟨fv,F,i,j,c,rfl,_⟩:=h
    rfl
  · obtain ⟨fv,F,i,j,c,rfl,R,hf,hi,hj,q⟩:=h
    refine ⟨_,(@pss_cons _ _ _ _ _ (@ps_expr _ _ _ _ (@pe_df _ _ _ _ _ _ _ _ _ _ (df_refuse_outside T) (hr.mono (by decide)) (@pa_cons _ _ _ _ _ (pv 0) (@pa_cons _ _ _ _ _ (pv 1) (@pa_cons _ _ _ _ _ (pv 2) pa_nil (by rfl)) (by rfl)) (by rfl)) (by rfl) (by decide) (by rfl) (by rfl)) (by rfl))
      (@pss_one _ _ _ (@ps_ret _ _ _ _ (@pe_op _ _ _ _ _ _ _ _ op_catTA (@pe_op _ _ _ _ _ _ _ _ op_catTA (pe_slice (sl_X (K:=K) rfl) (pv 0) po_none (po_some (pv 1))) (@pe_tup _ _ _ _ _ (@pa_cons _ _ _ _ _ (@pe_df _ _ _ _ _ _ _ _ _ _ (df_row_with T) (hr.mono (by decide)) (@pa_cons _ _ _ _ _ (@pe_ix _ _ _ _ _ _ _ (ix_seqK (K:=K) rfl) (pv 0) (pv 1) (fun _ _=>rfl)) (@pa_cons _ _ _ _ _ (pv 2) (@pa_cons _ _ _ _ _ (pv 3) pa_nil (by rfl)) (by rfl)) star_sub) (by rfl) (by decide) (by rfl) (by rfl)) pa_nil star_call))) (pe_slice (sl_X (K:=K) rfl) (pv 0) (po_some (@pe_op _ _ _ _ _ _ _ _ op_add (pv 1) pe_int)) po_none))))),?_⟩
    have hin:inF F (i:Int) (j:Int)=true:=by
      unfold inF
      rw [decide_eq_true (show (0:Int)≤(i:Int) by omega),decide_eq_true (show (i:Int) < F.length by omega),decide_eq_true (show (0:Int)≤(j:Int) by omega),decide_eq_true (show (j:Int) < (F.headD []).length by omega)]
      rfl
    refine ⟨_,rfl,_,rfl,_,rfl,_,F,_,_,rfl,R,hf,hin,?_⟩
    obtain ⟨fa,xs,rfl,hfa,hxs⟩:=isField_inv hf
    have lxs:xs.length=F.length:=by rw [hxs.length,List.length_map]
    have hs:=R.hs
    have ws:=R.ws
    obtain ⟨ra,era,hra⟩:=isRows_get hxs hi
    have lr:F[i].length=(F.headD []).length:=R.row _ (List.getElem_mem _)
    refine ⟨_,rfl,_,rfl,_,rfl,Or.inr ⟨_,_,rfl,hfa,fun p1 H1 s1 hp1=>?_⟩⟩
    rw [cut_take] at hp1
    refine ⟨_,rfl,_,rfl,Or.inr (Or.inl ⟨_,_,_,_,rfl,rfl,SqT.of (s1 _ _ hfa),atI_nat era,_,rfl,_,rfl,?_⟩)⟩
    refine ⟨ra,F[i],j,c,rfl,s1 _ _ hra,by omega,by omega,fun p2 H2 s2 hp2=>?_⟩
    refine ⟨(by show 1≤sizeLine;decide),fun p3 hp3=>?_⟩
    have s3:=same_upd (o:=.tup [.ref p2]) hp3
    have S3:=(s1.trans s2).trans s3
    refine ⟨_,_,_,_,rfl,rfl,(s2.trans s3) _ _ hp1,upd_same,(by rw [List.length_take];exact Nat.le_trans (show _≤2000 by simp;omega) (by decide)),fun p4 H4 s4 hp4=>?_⟩
    have S4:=S3.trans s4
    refine ⟨_,rfl,_,rfl,_,_,rfl,rfl,_,rfl,Or.inr ⟨_,_,rfl,S4 _ _ hfa,fun p5 H5 s5 hp5=>?_⟩⟩
    rw [cut_drop] at hp5
    refine ⟨_,_,_,_,rfl,rfl,s5 _ _ hp4,hp5,(by rw [List.length_append,List.length_take,List.length_drop];exact Nat.le_trans (show _≤5000 by simp;omega) (by decide)),fun p6 H6 s6 hp6=>?_⟩
    have S6:=(S4.trans s5).trans s6
    refine q (.ref p6) H6 S6 (.tup hp6 ?_)
    unfold putC
    rw [List.getElem?_eq_getElem hi]
    show IsDs H6 _ ((F.take i ++ [F[i].take j ++ [c] ++ F[i].drop (j + 1)] ++ F.drop (i + 1)).map rowD)
    rw [List.map_append,List.map_append,List.map_take,List.map_drop]
    have h6:=hxs.keep S6.tups
    exact ((isDs_take h6 i).append (.cons (.tup ((s3.trans (s4.trans (s5.trans s6))) _ _ hp2) (isCells _)) .nil)).append (isDs_drop h6 (i + 1))
def laidO (ru:Rule)(p n:Int):Option Int:=match ru with
  | .there=>none
  | .told _=>none
  | r=>some (led r p n)
def laid (ru:Rule)(p n:Int):Option Int:=if 0≤p∧p < n then some p else laidO ru p n
def spLaid:Sp:=fun vs H Q _=>∃ (rv:V) (ru:Rule) (p n:Int),vs=[rv,.int p,.int n]∧IsD H rv (ruleD ru)∧1≤n∧n < 2 ^ 40∧Q (cellV (laid ru p n)) H
theorem df_laid_from (T:Txt K mg C):Df P w K mg base 2 "laid_from" ["rule","place","length"] spLaid:=by
  refine T.d_laid_from.ok sc_laid_from (fun vs H Q E h=>?_) (fun f cdv A outer s H vs Q E hr h=>?_)
  · obtain ⟨rv,ru,p,n,rfl,_⟩:=h
    rfl
  · obtain ⟨rv,ru,p,n,rfl,hru,n1,n2,q⟩:=h
    refine ⟨_,(@pss_cons _ _ _ _ _ (@ps_if _ _ _ _ _ _ _ _ (pt_chain op_le op_lt pe_int (pv 1) (pv 2)) (@pss_one _ _ _ (@ps_ret _ _ _ _ (pv 1))) pss_nil)
      (@pss_cons _ _ _ _ _ (@ps_if _ _ _ _ _ _ _ _ (pw_or (@pt_cmpR _ _ _ _ _ _ _ _ (op_eqA hr.units) (pv 0) pe_str (nomark _)) (pw_or1 (@pt_val _ _ _ (@pe_callB _ _ _ _ _ _ _ _ _ (call_isinstK (K:=K) rfl) (by rfl) T.n_isinstance bt_isinstance (@pa_cons _ _ _ _ _ (pv 0) (@pa_cons _ _ _ _ _ (pe_bltn (v:=.ty "tuple") (by rfl) T.n_tuple bt_tuple rfl) pa_nil (by rfl)) (by rfl)) (by decide) (by decide) (by rfl) (by rfl)) (by intro _;rfl)))).pt (@pss_one _ _ _ (@ps_ret _ _ _ _ pe_non)) pss_nil)
      (@pss_one _ _ _ (@ps_ret _ _ _ _ (@pe_df _ _ _ _ _ _ _ _ _ _ (df_brought_inside T) (hr.mono (by decide)) (@pa_cons _ _ _ _ _ (pv 0) (@pa_cons _ _ _ _ _ (pv 1) (@pa_cons _ _ _ _ _ (pv 2) pa_nil (by rfl)) (by rfl)) (by rfl)) (by rfl) (by decide) (by rfl) (by rfl)))))),?_⟩
    refine tSeq_cut (fun σ' H'=>σ'=[some rv,some (.int p),some (.int n)]∧H'=H∧¬ (0≤p∧p < n)) ?_ (fun rest=>?_)
    · rintro _ H ⟨rfl,rfl,z⟩
      have el:laid ru p n=laidO ru p n:=if_neg z
      rw [el] at q
      refine tSeq_cut (fun σ' H'=>σ'=[some rv,some (.int p),some (.int n)]∧H'=H∧ru≠.there ∧ ∀ c,ru≠.told c) ?_ (fun rest=>?_)
      · rintro _ H ⟨rfl,rfl,z1,z2⟩
        cases ru with
        | there=>exact absurd rfl z1
        | told c=>exact absurd rfl (z2 c)
        | near =>
          cases hru
          exact ⟨_,rfl,_,rfl,_,rfl,.near,_,p,n,rfl,Or.inl ⟨rfl,rfl⟩,n1,n2,q⟩
        | turned =>
          cases hru
          exact ⟨_,rfl,_,rfl,_,rfl,.turned,_,p,n,rfl,Or.inr (Or.inl ⟨rfl,rfl⟩),n1,n2,q⟩
        | round =>
          cases hru
          exact ⟨_,rfl,_,rfl,_,rfl,.round,_,p,n,rfl,Or.inr (Or.inr ⟨rfl,rfl⟩),n1,n2,q⟩
      · refine ⟨_,rfl,eq_rule hru (by decide +kernel) ⟨_,rfl,?_⟩⟩
        cases ru with
        | there=>exact iteT (iteT q)
        | told c =>
          obtain ⟨ta,xs,rfl,hta,_⟩:=hru.tuple_inv
          refine iteF ⟨_,rfl,_,_,_,_,rfl,Or.inl ⟨rfl,_,hta⟩,rfl,_,rfl,?_⟩
          exact iteT q
        | near =>
          cases hru
          rw [show ruleIs .near "there" = false by decide +kernel]
          refine iteF ⟨_,rfl,_,_,_,_,rfl,rfl,rfl,_,rfl,?_⟩
          refine iteF ?_
          exact rest _ _ ⟨rfl,rfl,(by intro e;cases e),fun c e=>by cases e⟩
        | turned =>
          cases hru
          rw [show ruleIs .turned "there" = false by decide +kernel]
          refine iteF ⟨_,rfl,_,_,_,_,rfl,rfl,rfl,_,rfl,?_⟩
          refine iteF ?_
          exact rest _ _ ⟨rfl,rfl,(by intro e;cases e),fun c e=>by cases e⟩
        | round =>
          cases hru
          rw [show ruleIs .round "there" = false by decide +kernel]
          refine iteF ⟨_,rfl,_,_,_,_,rfl,rfl,rfl,_,rfl,?_⟩
          refine iteF ?_
          exact rest _ _ ⟨rfl,rfl,(by intro e;cases e),fun c e=>by cases e⟩
    · refine ⟨_,rfl,_,_,rfl,rfl,_,rfl,?_⟩
      by_cases h0:0≤p
      · rw [decide_eq_true h0]
        refine iteT ?_
        refine ⟨_,rfl,_,_,rfl,rfl,_,rfl,?_⟩
        by_cases h1:p < n
        · rw [decide_eq_true h1]
          refine iteT ?_
          refine ⟨_,rfl,?_⟩
          have el:laid ru p n=some p:=if_pos ⟨h0,h1⟩
          rw [el] at q
          exact q
        · rw [decide_eq_false h1]
          refine iteF ?_
          exact rest _ _ ⟨rfl,rfl,fun h=>h1 h.2⟩
      · rw [decide_eq_false h0]
        refine iteF ⟨_,rfl,iteF ?_⟩
        exact rest _ _ ⟨rfl,rfl,fun h=>h0 h.1⟩
def heldC (ru:Rule)(n a b:Nat)(o:Int):List (Option Int):=(List.range (a + b + 1)).map fun k:Nat=>laid ru (o - a + (k:Int)) n
def holdsB (ru:Rule)(p:Int)(n a b:Nat)(o:Nat):Bool:=inV (.int p) ((heldC ru n a b (o:Int)).map cellV)
def holds (ru:Rule)(p:Int)(n a b:Nat)(m:Nat):List Nat:=(List.range m).filter fun o=>holdsB ru p n a b o
def spHolding:Sp:=fun vs H Q _=>∃ (rv:V) (ru:Rule) (p:Int) (n a b:Nat),vs=[rv,.int p,.int (n:Int),.int (a:Int),.int (b:Int)]∧IsD H rv (ruleD ru)∧1≤n∧n≤1000∧a≤100∧b≤100 ∧
  ∀ (l:Addr) (H':Hp),H l=none→Same H H'→H' l=some (.lst ((holds ru p n a b n).map fun k:Nat=>V.int (k:Int)))→Q (.ref l) H'
theorem df_places_holding (T:Txt K mg C):Df P w K mg base 3 "places_holding" ["rule","place","length","ahead","behind"] spHolding:=by
  refine T.d_places_holding.ok sc_places_holding (fun vs H Q E h=>?_) (fun f cdv A outer s H vs Q E hr h=>?_)
  · obtain ⟨rv,ru,p,n,a,b,rfl,_⟩:=h
    rfl
  · obtain ⟨rv,ru,p,n,a,b,rfl,hru,n1,nS,ha,hb,q⟩:=h
    refine ⟨_,(@pss_cons _ _ _ _ _ (@ps_set _ _ 5 _ _ _ _ sc_places_holding.nd rfl (by first | exact Or.inl rfl | exact Or.inr rfl) (@pe_lst _ _ _ _ pa_nil) (by rfl) (by first | exact .inl rfl | exact .inr rfl))
      (@pss_cons _ _ _ _ _ (@ps_for _ _ _ _ _ _ _ _ PassesOwn.never rfl (pi_range1 (by rfl) T.n_range (@pa_cons _ _ _ _ _ (pv 2) pa_nil (by rfl))) (pg_name (i:=6) sc_places_holding.nd rfl (by first | exact Or.inl rfl | exact Or.inr rfl)) (@pss_one _ _ _ (@ps_if _ _ _ _ _ _ _ _ (@pt_cmpR _ _ _ _ _ _ _ _ (op_in_seqK (K:=K) rfl) (pv 1) (pe_compIf (M:=["rule","length"]) (idx:=[0,2]) rfl (pi_seqK (K:=K) rfl (@pe_df _ _ _ _ _ _ _ _ _ _ (df_places_around T) (hr.mono (by decide)) (@pa_cons _ _ _ _ _ (pv 6) (@pa_cons _ _ _ _ _ (pv 3) (@pa_cons _ _ _ _ _ (pv 4) pa_nil (by rfl)) (by rfl)) (by rfl)) (by rfl) (by decide) (by rfl) (by rfl))) (compOk (by kernel_rfl)) (by decide +kernel) (by first | exact Or.inl rfl | exact Or.inr rfl) (fun _ _ _ _ _=>pts_nil) (fun _ _ _ _ _=>(@pe_df _ _ _ _ _ _ _ _ _ _ (df_laid_from T) (hr.mono (by decide)) (@pa_cons _ _ _ _ _ (pv 1) (@pa_cons _ _ _ _ _ (pv 0) (@pa_cons _ _ _ _ _ (pv 2) pa_nil (by rfl)) (by rfl)) (by rfl)) (by rfl) (by decide) (by rfl) (by rfl)))) (by rfl)) (@pss_one _ _ _ (@ps_expr _ _ _ _ (pe_bm PySem.F.plainAttrs_list PySem.F.slot_list_append PySem.F.type_list_append mt_append (pv 5) (@pa_cons _ _ _ _ _ (pv 6) pa_nil (by rfl))) (by rfl))) pss_nil)) (by intro _;rfl))
      (@pss_one _ _ _ (@ps_ret _ _ _ _ (pv 5))))),?_⟩
    refine ⟨(by show 0≤sizeLine;decide),fun c hc=>?_⟩
    have s1:=same_upd (o:=.lst []) hc
    have oldne:∀ x o,H x=some o→x≠c:=fun x o e=>ne_of_none e hc
    have keepH:∀ {H':Hp},KeepBut c (upd H c (.lst [])) H'→Same H H':=fun k x o e=>k x o (s1 x o e) (oldne x o e)
    have hc1:upd H c (.lst []) c=some (.lst []):=upd_same
    generalize upd H c (.lst [])=H1 at s1 hc1 keepH ⊢
    dsimp only [gName,List.set,L2.start]
    refine ⟨_,rfl,_,rfl,by omega,by omega,?_⟩
    rw [Int.toNat_natCast]
    refine for_range (n:=n) (fun m σ H'=>∃ (v6:Option V),σ=[some rv,some (.int p),some (.int (n:Int)),some (.int (a:Int)),some (.int (b:Int)),some (.ref c),v6]∧KeepBut c H1 H'∧H' c=some (.lst ((holds ru p n a b m).map fun k:Nat=>V.int (k:Int)))) ⟨none,rfl,KeepBut.refl _ _,hc1⟩ ?_ ?_
    · rintro m _ H2 hm ⟨v6,rfl,k2,hc2⟩
      have hm':m < n:=hm
      have e0:(0:Int) + (m:Int)=(m:Int):=by omega
      rw [e0]
      have S2:=keepH k2
      dsimp only [gName,List.set]
      refine ⟨_,rfl,?_⟩
      refine Or.inl ⟨_,rfl,_,rfl,_,rfl,_,a,b,rfl,⟨by omega,by omega⟩,ha,hb,fun l3 H3 s3 hl3=>?_⟩
      refine ⟨l3,rfl,⟨_,SqL.of hl3⟩,?_⟩
      have hc3:=s3 _ _ hc2
      have S3:=S2.trans s3
      have lu:(upInts ((m:Int) - a) (a + b + 1)).length=a + b + 1:=by unfold upInts;simp
      have lh:(heldC ru n a b (m:Int)).length=a + b + 1:=by unfold heldC;simp
      refine compW_list (xs:=upInts ((m:Int) - a) (a + b + 1)) (fun k zs H'=>H'=H3∧zs=((heldC ru n a b (m:Int)).take k).map cellV) ⟨rfl,rfl⟩ (by rw [lu];exact Nat.le_trans (show a + b + 1≤1000 by omega) (by decide)) (fun k zs H' _ ⟨e,_⟩=>SqL.of (by rw [e];exact hl3)) ?_ ?_
      · rintro k x zs H3 hx ⟨rfl,rfl⟩
        have hk:k < a + b + 1:=by have:=(List.getElem?_eq_some_iff.mp hx).1;omega
        have ex:x = .int ((m:Int) - a + (k:Nat)):=by
          unfold upInts at hx
          rw [List.getElem?_map,List.getElem?_range hk] at hx
          exact (Option.some.inj hx).symm
        subst ex
        refine oneT ?_
        refine ⟨_,rfl,_,rfl,_,rfl,rv,ru,_,_,rfl,hru.keep S3.tups,by omega,by omega,?_⟩
        refine ⟨rfl,?_⟩
        have eh:(heldC ru n a b (m:Int))[k]? = some (laid ru ((m:Int) - a + (k:Int)) n):=by
          unfold heldC
          rw [List.getElem?_map,List.getElem?_range hk];rfl
        rw [List.take_add_one,eh,List.map_append]
        rfl
      · rintro zs H3 ⟨rfl,rfl⟩ l4 hl4
        rw [lu,← lh,List.take_length]
        have s4:=same_upd (o:=.lst ((heldC ru n a b (m:Int)).map cellV)) hl4
        have fl:((heldC ru n a b (m:Int)).map cellV).all flatV=true:=by
          rw [List.all_map,List.all_eq_true]
          intro c _
          cases c <;> rfl
        refine ⟨_,_,rfl,Or.inl (SqL.of upd_same),rfl,fl,_,rfl,?_⟩
        have hc4:=s4 _ _ hc3
        have eh:holds ru p n a b (m + 1)=holds ru p n a b m ++ (if holdsB ru p n a b m=true then [m] else []):=by
          unfold holds
          rw [List.range_succ,List.filter_append]
          congr 1
          cases h:holdsB ru p n a b m <;> simp [List.filter,h]
        have k4:KeepBut c H1 (upd H3 l4 (.lst ((heldC ru n a b (m:Int)).map cellV))):=fun x o ex nx=>s4 _ _ (s3 _ _ (k2 _ _ ex nx))
        generalize upd H3 l4 (.lst ((heldC ru n a b (m:Int)).map cellV))=H4 at hc4 k4 ⊢
        refine ite2 (fun z=>?_) (fun z=>?_)
        · have z':holdsB ru p n a b m=true:=z
          refine ⟨_,rfl,Or.inl ⟨rfl,_,SqL.of hc4⟩,_,rfl,?_⟩
          have ll:(holds ru p n a b m).length ≤ m:=by unfold holds;exact Nat.le_trans (List.length_filter_le _ _) (by simp)
          refine ⟨_,_,_,rfl,rfl,hc4,(by rw [List.length_map];exact Nat.lt_of_le_of_lt (show _≤1000 by omega) (by decide)),?_⟩
          refine ⟨_,rfl,fun x o ex nx=>?_,?_⟩
          · rw [upd_ne nx];exact k4 _ _ ex nx
          · rw [upd_same,eh,if_pos z',List.map_append]
            rfl
        · have z':¬ holdsB ru p n a b m=true:=z
          refine ⟨_,rfl,k4,?_⟩
          rw [hc4,eh,if_neg z',List.append_nil]
    · rintro _ H2 ⟨v6,rfl,k2,hc2⟩
      exact ⟨_,rfl,q c H2 hc (keepH k2) hc2⟩
def touched (F:List (List (Option Int)))(ru:Rule)(u d l r:Nat)(i j:Int):List (Int × Int):=(holds ru i F.length u d F.length).flatMap fun p:Nat=>(holds ru j (wideF F) l r (wideF F)).map fun q:Nat=>((p:Int),(q:Int))
theorem holds_len (ru:Rule)(p:Int)(n a b m:Nat):(holds ru p n a b m).length ≤ m:=by unfold holds;exact Nat.le_trans (List.length_filter_le _ _) (by simp)
def spTouched:Sp:=fun vs H Q _=>∃ (fv rv:V) (wa:Addr) (F:List (List (Option Int))) (ru:Rule) (u d l r:Nat) (i j:Int),vs=[fv,.ref wa,rv,.int i,.int j]∧Rect F∧F.length ≤ 100∧wideF F≤100∧IsD H fv (fieldD F)∧H wa=some (.tup [.int (u:Int),.int (d:Int),.int (l:Int),.int (r:Int)])∧IsD H rv (ruleD ru)∧(u≤100∧d≤100∧l≤100∧r≤100) ∧
  ∀ (p:Addr) (vs:List V) (H':Hp),Same H H'→H' p=some (.tup vs)→IsDs H' vs ((touched F ru u d l r i j).map placeD)→Q (.ref p) H'
theorem df_places_touched (T:Txt K mg C):Df P w K mg base 4 "places_touched" ["field","window","rule","i","j"] spTouched:=by
  refine T.d_places_touched.ok sc_places_touched (fun vs H Q E h=>?_) (fun f cdv A outer s H vs Q E hr h=>?_)
  · obtain ⟨fv,rv,wa,F,ru,u,d,l,r,i,j,rfl,_⟩:=h
    rfl
  · obtain ⟨fv,rv,wa,F,ru,u,d,l,r,i,j,rfl,R,fh,fw,hf,hwa,hru,bb,q⟩:=h
    refine ⟨_,(@pss_cons _ _ _ _ _ (@ps_set _ _ 5 _ _ _ _ sc_places_touched.nd rfl (by first | exact Or.inl rfl | exact Or.inr rfl) (@pe_df _ _ _ _ _ _ _ _ _ _ (df_places_holding T) (hr.mono (by decide)) (@pa_cons _ _ _ _ _ (pv 2) (@pa_cons _ _ _ _ _ (pv 4) (@pa_cons _ _ _ _ _ (@pe_callB _ _ _ _ _ _ _ _ _ (call_lenK (K:=K) rfl) (by rfl) T.n_len bt_len (@pa_cons _ _ _ _ _ (@pe_ix _ _ _ _ _ _ _ (ix_seqK (K:=K) rfl) (pv 0) pe_int (fun _ _=>rfl)) pa_nil star_sub) (by decide) (by decide) (by rfl) (by rfl)) (@pa_cons _ _ _ _ _ (@pe_ix _ _ _ _ _ _ _ (ix_seqK (K:=K) rfl) (pv 1) pe_int (fun _ _=>rfl)) (@pa_cons _ _ _ _ _ (@pe_ix _ _ _ _ _ _ _ (ix_seqK (K:=K) rfl) (pv 1) pe_int (fun _ _=>rfl)) pa_nil star_sub) star_sub) star_call) (by rfl)) (by rfl)) (by rfl) (by decide) (by rfl) (by rfl)) (by rfl) (by first | exact .inl rfl | exact .inr rfl))
      (@pss_cons _ _ _ _ _ (@ps_set _ _ 6 _ _ _ _ sc_places_touched.nd rfl (by first | exact Or.inl rfl | exact Or.inr rfl) (@pe_lst _ _ _ _ pa_nil) (by rfl) (by first | exact .inl rfl | exact .inr rfl))
      (@pss_cons _ _ _ _ _ (@ps_for _ _ _ _ _ _ _ _ PassesOwn.never rfl (pi_seqK (K:=K) rfl (@pe_df _ _ _ _ _ _ _ _ _ _ (df_places_holding T) (hr.mono (by decide)) (@pa_cons _ _ _ _ _ (pv 2) (@pa_cons _ _ _ _ _ (pv 3) (@pa_cons _ _ _ _ _ (@pe_callB _ _ _ _ _ _ _ _ _ (call_lenK (K:=K) rfl) (by rfl) T.n_len bt_len (@pa_cons _ _ _ _ _ (pv 0) pa_nil (by rfl)) (by decide) (by decide) (by rfl) (by rfl)) (@pa_cons _ _ _ _ _ (@pe_ix _ _ _ _ _ _ _ (ix_seqK (K:=K) rfl) (pv 1) pe_int (fun _ _=>rfl)) (@pa_cons _ _ _ _ _ (@pe_ix _ _ _ _ _ _ _ (ix_seqK (K:=K) rfl) (pv 1) pe_int (fun _ _=>rfl)) pa_nil star_sub) star_sub) star_call) (by rfl)) (by rfl)) (by rfl) (by decide) (by rfl) (by rfl))) (pg_name (i:=7) sc_places_touched.nd rfl (by first | exact Or.inl rfl | exact Or.inr rfl)) (@pss_one _ _ _ (@ps_expr _ _ _ _ (pe_bm PySem.F.plainAttrs_list PySem.F.slot_list_extend PySem.F.type_list_extend (MtR.or mt_extend mt_extendT) (pv 6) (@pa_cons _ _ _ _ _ (pe_compIf (M:=["row"]) (idx:=[7]) rfl (pi_seqK (K:=K) rfl (pv 5)) (compOk (by kernel_rfl)) (by decide +kernel) (by first | exact Or.inl rfl | exact Or.inr rfl) (fun _ _ _ _ _=>pts_nil) (fun _ _ _ _ _=>(@pe_tup _ _ _ _ _ (@pa_cons _ _ _ _ _ (pv 1) (@pa_cons _ _ _ _ _ (pv 0) pa_nil (by rfl)) (by rfl))))) pa_nil star_comp)) (by rfl))) (by intro _;rfl))
      (@pss_one _ _ _ (@ps_ret _ _ _ _ (@pe_callTy _ _ _ _ _ _ _ _ _ (call_tupleK (K:=K) rfl) (by rfl) T.n_tuple bt_tuple (@pa_cons _ _ _ _ _ (pv 6) pa_nil (by rfl)) (by decide) (by decide) (by rfl) (by rfl))))))),?_⟩
    obtain ⟨fa,xs,rfl,hfa,hxs⟩:=isField_inv hf
    have lxs:xs.length=F.length:=by rw [hxs.length,List.length_map]
    have h1:=R.h1
    have w1:1≤wideF F:=R.w1
    obtain ⟨ra,era,hra⟩:=isRows_get hxs (i:=0) (by omega)
    have lr0:(F[0].map cellV).length=wideF F:=by rw [List.length_map];exact R.row _ (List.getElem_mem _)
    refine ⟨_,rfl,_,rfl,_,rfl,Or.inr (Or.inl ⟨_,_,_,_,rfl,rfl,SqT.of hfa,atI_nat (j:=0) era,_,_,rfl,Or.inr ⟨_,SqT.of hra,rfl⟩,?_⟩)⟩
    refine ⟨_,rfl,Or.inr (Or.inl ⟨_,_,_,_,rfl,rfl,SqT.of hwa,rfl,_,rfl,Or.inr (Or.inl ⟨_,_,_,_,rfl,rfl,SqT.of hwa,rfl,?_⟩)⟩)⟩
    refine ⟨rv,ru,j,(F[0].map cellV).length,l,r,rfl,hru,by rw [lr0];omega,by rw [lr0];omega,by omega,by omega,fun cl H1 fcl s1 hcl=>?_⟩
    rw [lr0] at hcl
    dsimp only [gName,List.set,L2.start]
    refine ⟨(by show 0≤sizeLine;decide),fun c hc=>?_⟩
    have s2:=same_upd (o:=.lst []) hc
    have S2:=s1.trans s2
    have hc2:upd H1 c (.lst []) c=some (.lst []):=upd_same
    have hcl2:=s2 _ _ hcl
    have oldne:∀ x o,H1 x=some o→x≠c:=fun x o e=>ne_of_none e hc
    generalize upd H1 c (.lst [])=H2 at s2 S2 hc2 hcl2 ⊢
    dsimp only [gName,List.set]
    refine Or.inl ⟨_,rfl,_,rfl,_,rfl,_,_,rfl,Or.inr ⟨_,SqT.of (S2 _ _ hfa),rfl⟩,?_⟩
    refine ⟨_,rfl,Or.inr (Or.inl ⟨_,_,_,_,rfl,rfl,SqT.of (S2 _ _ hwa),rfl,_,rfl,Or.inr (Or.inl ⟨_,_,_,_,rfl,rfl,SqT.of (S2 _ _ hwa),rfl,?_⟩)⟩)⟩
    refine ⟨rv,ru,i,xs.length,u,d,rfl,hru.keep S2.tups,by omega,by omega,by omega,by omega,fun rl H3 frl s3 hrl=>?_⟩
    rw [lxs] at hrl
    refine ⟨rl,rfl,⟨_,SqL.of hrl⟩,?_⟩
    have hc3:=s3 _ _ hc2
    have hcl3:=s3 _ _ hcl2
    have nrc:rl≠c:=(ne_of_none hc2 frl).symm
    have keep3:∀ {H':Hp},KeepBut c H3 H'→Same H H':=fun k x o e=>k x o (s3 _ _ (S2 x o e)) (oldne _ _ (s1 x o e))
    have hl1:=holds_len ru i F.length u d F.length
    have hl2:=holds_len ru j (wideF F) l r (wideF F)
    generalize hR:holds ru i F.length u d F.length=Rs at hrl hl1
    generalize hCs:holds ru j (wideF F) l r (wideF F)=Cs at hcl hcl2 hcl3 hl2
    have eT:touched F ru u d l r i j=Rs.flatMap fun p:Nat=>Cs.map fun q:Nat=>((p:Int),(q:Int)):=by unfold touched;rw [hR,hCs]
    refine for_list (xs:=Rs.map fun k:Nat=>V.int (k:Int)) (fun k σ H'=>∃ (v7:Option V) (ys:List V),σ=[some (.ref fa),some (.ref wa),some rv,some (.int i),some (.int j),some (.ref cl),some (.ref c),v7]∧KeepBut c H3 H'∧H' c=some (.lst ys)∧IsDs H' ys (((Rs.take k).flatMap fun p:Nat=>Cs.map fun q:Nat=>((p:Int),(q:Int))).map placeD)∧ys.length ≤ 100 * k) ⟨none,[],rfl,KeepBut.refl _ _,hc3,.nil,Nat.zero_le _⟩ (fun k σ H' _ ⟨_,_,_,kk,_⟩=>SqL.of (kk _ _ hrl nrc)) ?_ ?_
    · rintro k x _ H4 hx ⟨v7,ys,rfl,k4,hc4,hys,ly⟩
      have hk:k < Rs.length:=by have:=(List.getElem?_eq_some_iff.mp hx).1;rw [List.length_map] at this;exact this
      rw [List.getElem?_map,List.getElem?_eq_getElem hk] at hx
      obtain rfl:=Option.some.inj hx
      dsimp only [gName,List.set]
      have ncc:cl≠c:=oldne _ _ hcl
      have hcl4:=k4 _ _ hcl3 ncc
      refine ⟨_,rfl,Or.inl ⟨rfl,_,SqL.of hc4⟩,?_⟩
      refine comp_seqV (K:=K) (xs:=Cs.map fun k:Nat=>V.int (k:Int)) (fun k h=>⟨_,rfl,h⟩) (.inr hcl4) (fun m zs H'=>Same H4 H'∧IsDs H' zs (((Cs.take m).map fun q:Nat=>((Rs[k]:Int),(q:Int))).map placeD)) ⟨Same.refl _,.nil⟩ (by rw [List.length_map];exact Nat.le_trans (show Cs.length ≤ 1000 by omega) (by decide)) (fun m zs H' _ ⟨e,_⟩=>by rw [e _ _ hcl4,hcl4]) ?_ ?_
      · rintro m y zs H5 hy ⟨s5,hzs⟩
        have hm:m < Cs.length:=by have:=(List.getElem?_eq_some_iff.mp hy).1;rw [List.length_map] at this;exact this
        rw [List.getElem?_map,List.getElem?_eq_getElem hm] at hy
        obtain rfl:=Option.some.inj hy
        refine oneT ?_
        refine ⟨_,rfl,_,rfl,(by show 2≤sizeLine;decide),fun t6 ht6=>?_⟩
        have st:=same_upd (o:=.tup [.int (Rs[k]:Int),.int (Cs[m]:Int)]) ht6
        refine ⟨s5.trans st,?_⟩
        rw [List.take_succ_eq_append_getElem hm,List.map_append,List.map_append]
        exact (hzs.keep st.tups).append (.cons (isPlace upd_same) .nil)
      · rintro zs H5 ⟨s5,hzs⟩ l6 hl6
        rw [List.length_map,List.take_length] at hzs
        have s6:=same_upd (o:=.lst zs) hl6
        have hc6:=s6 _ _ (s5 _ _ hc4)
        have lz:zs.length=Cs.length:=by rw [hzs.length,List.length_map,List.length_map]
        refine Or.inl ⟨_,_,_,_,rfl,rfl,hc6,upd_same,Nat.le_trans (show _≤100000 by omega) (by decide),?_⟩
        have kt:KeepT H4 (upd (upd H5 l6 (.lst zs)) c (.lst (ys ++ zs))):=fun x ws ex=>by
          rw [upd_ne (ne_of ex hc4 fun z=>by cases z)]
          exact s6 _ _ (s5 _ _ ex)
        have kt5:KeepT H5 (upd (upd H5 l6 (.lst zs)) c (.lst (ys ++ zs))):=fun x ws ex=>by
          rw [upd_ne (ne_of ex (s5 _ _ hc4) fun z=>by cases z)]
          exact s6 _ _ ex
        refine ⟨_,ys ++ zs,rfl,fun x o ex nx=>?_,upd_same,?_,by rw [List.length_append];omega⟩
        · rw [upd_ne nx];exact s6 _ _ (s5 _ _ (k4 _ _ ex nx))
        · rw [List.take_succ_eq_append_getElem hk,List.flatMap_append,List.map_append,List.flatMap_singleton]
          exact (hys.keep kt).append (hzs.keep kt5)
    · rintro _ H4 ⟨v7,ys,rfl,k4,hc4,hys,ly⟩
      rw [List.length_map,List.take_length] at hys
      refine ⟨_,rfl,_,_,rfl,Or.inl ⟨SqL.of hc4,fun t9 ht9=>?_⟩⟩
      have st:=same_upd (o:=.tup ys) ht9
      refine q t9 ys _ ((keep3 k4).trans st) upd_same ?_
      rw [eT]
      exact hys.keep st.tups
theorem stands_put {F:List (List (Option Int))}(R:Rect F)(ru:Rule){i j:Nat}(hi:i < F.length)(hj:j < (F.headD []).length)(c:Option Int){x y:Int}(h:¬ (laid ru x F.length=some (i:Int)∧laid ru y (wideF F)=some (j:Int))):stands (putC F i j c) ru x y=stands F ru x y:=by
  obtain ⟨RP,LP,WP⟩:=putC_rect R hi hj c
  have w1:=R.w1
  have h1:=R.h1
  have ein:inF (putC F i j c) x y=inF F x y:=by unfold inF;rw [LP,WP]
  unfold stands
  rw [ein]
  by_cases z:inF F x y=true
  · rw [if_pos z,if_pos z,putC_cell R hi hj c z,if_neg fun e=>h ?_]
    unfold inF at z
    simp only [Bool.and_eq_true,decide_eq_true_eq] at z
    refine ⟨?_,?_⟩
    · unfold laid;rw [if_pos z.1,e.1]
    · unfold laid wideF;rw [if_pos z.2,e.2]
  · rw [if_neg z,if_neg z,LP,WP]
    have ledIn:∀ r:Rule,inF F (led r x F.length) (led r y (F.headD []).length)=true:=fun r=>by
      have a1:=led_in r x (n:=(F.length:Int)) (by omega)
      have a2:=led_in r y (n:=((F.headD []).length:Int)) (by omega)
      unfold inF
      rw [decide_eq_true a1.1,decide_eq_true a1.2,decide_eq_true a2.1,decide_eq_true a2.2]
      rfl
    have lay:∀ (r:Rule) (p:Int) (n:Int),(r = .near ∨ r = .turned ∨ r = .round)→laid r p n=some (led r p n):=fun r p n hr=>by
      unfold laid
      by_cases y:0≤p∧p < n
      · rw [if_pos y,led_id r y.1 y.2]
      · rw [if_neg y]
        rcases hr with rfl | rfl | rfl <;> rfl
    cases ru with
    | there=>rfl
    | told d=>rfl
    | near=>exact congrArg (fun t=>[t]) (by rw [putC_cell R hi hj c (ledIn .near),if_neg fun e=>h ⟨by rw [lay _ _ _ (Or.inl rfl),e.1],by unfold wideF;rw [lay _ _ _ (Or.inl rfl),e.2]⟩])
    | turned=>exact congrArg (fun t=>[t]) (by rw [putC_cell R hi hj c (ledIn .turned),if_neg fun e=>h ⟨by rw [lay _ _ _ (Or.inr (Or.inl rfl)),e.1],by unfold wideF;rw [lay _ _ _ (Or.inr (Or.inl rfl)),e.2]⟩])
    | round=>exact congrArg (fun t=>[t]) (by rw [putC_cell R hi hj c (ledIn .round),if_neg fun e=>h ⟨by rw [lay _ _ _ (Or.inr (Or.inr rfl)),e.1],by unfold wideF;rw [lay _ _ _ (Or.inr (Or.inr rfl)),e.2]⟩])
theorem inV_cells (p:Int):∀ cs:List (Option Int),inV (.int p) (cs.map cellV)=true↔some p∈cs:=fun cs=>by
  unfold inV
  rw [List.any_map,List.any_eq_true]
  constructor
  · rintro ⟨c,hc,e⟩
    cases c with
    | none=>cases e
    | some n =>
      have:n=p:=by simpa [eqV,cellV] using e
      rw [← this];exact hc
  · intro h
    exact ⟨some p,h,by simp [eqV,cellV]⟩
theorem holds_mem {ru:Rule}{p:Int}{n a b m o:Nat}:o∈holds ru p n a b m↔o < m∧∃ k:Nat,k < a + b + 1∧laid ru ((o:Int) - a + (k:Int)) n=some p:=by
  unfold holds holdsB
  rw [List.mem_filter,List.mem_range,inV_cells]
  unfold heldC
  rw [List.mem_map]
  constructor
  · rintro ⟨h1,k,hk,e⟩
    exact ⟨h1,k,List.mem_range.mp hk,e⟩
  · rintro ⟨h1,k,hk,e⟩
    exact ⟨h1,k,List.mem_range.mpr hk,e⟩
theorem touched_mem {F:List (List (Option Int))}{ru:Rule}{u d l r:Nat}{i j:Int}{p q:Nat}:((p:Int),(q:Int))∈touched F ru u d l r i j↔p∈holds ru i F.length u d F.length ∧ q∈holds ru j (wideF F) l r (wideF F):=by
  unfold touched
  rw [List.mem_flatMap]
  constructor
  · rintro ⟨p',hp,h⟩
    obtain ⟨q',hq,e⟩:=List.mem_map.mp h
    have e1:=(Prod.mk.inj e).1
    have e2:=(Prod.mk.inj e).2
    obtain rfl:p'=p:=by omega
    obtain rfl:q'=q:=by omega
    exact ⟨hp,hq⟩
  · rintro ⟨hp,hq⟩
    exact ⟨p,hp,List.mem_map.mpr ⟨q,hq,rfl⟩⟩
theorem flatMap_eq {α:Type}{f g:Nat→List α}{n:Nat}(h:∀ m,m < n→f m=g m):(List.range n).flatMap f=(List.range n).flatMap g:=by
  rw [List.flatMap_def,List.flatMap_def]
  exact congrArg List.flatten (List.map_congr_left fun m hm=>h m (List.mem_range.mp hm))
theorem wc_untouched {F:List (List (Option Int))}(R:Rect F)(ru:Rule){i j:Nat}(hi:i < F.length)(hj:j < (F.headD []).length)(c:Option Int){u d l r p q:Nat}(hp:p < F.length)(hq:q < wideF F)(h:((p:Int),(q:Int)) ∉ touched F ru u d l r (i:Int) (j:Int)):wc (putC F i j c) ru u d l r (p:Int) (q:Int)=wc F ru u d l r (p:Int) (q:Int):=by
  unfold wc rowCells
  refine flatMap_eq fun a ha=>flatMap_eq fun b hb=>stands_put R ru hi hj c fun e=>h ?_
  rw [touched_mem,holds_mem,holds_mem]
  exact ⟨⟨hp,a,ha,e.1⟩,hq,b,hb,e.2⟩
theorem fil_untouched {F:List (List (Option Int))}(R:Rect F)(ru:Rule){i j:Nat}(hi:i < F.length)(hj:j < (F.headD []).length)(c:Option Int){u d l r p q:Nat}(a b:Int)(hp:p < F.length)(hq:q < wideF F)(h:((p:Int),(q:Int)) ∉ touched F ru u d l r (i:Int) (j:Int)):filAt (putC F i j c) ru u d l r a b (p:Int) (q:Int)=filAt F ru u d l r a b (p:Int) (q:Int):=by
  unfold filAt numsAt
  rw [wc_untouched R ru hi hj c hp hq h]
theorem touched_put {F:List (List (Option Int))}(R:Rect F)(ru:Rule){i j:Nat}(hi:i < F.length)(hj:j < (F.headD []).length)(c:Option Int)(u d l r:Nat)(x y:Int):touched (putC F i j c) ru u d l r x y=touched F ru u d l r x y:=by
  obtain ⟨_,LP,WP⟩:=putC_rect R hi hj c
  unfold touched wideF
  rw [LP,WP]
theorem field_ext {F G:List (List (Option Int))}(R:Rect F)(S:Rect G)(hl:F.length=G.length)(hw:wideF F=wideF G)(h:∀ p q:Nat,p < F.length → q < wideF F→cellAt F (p:Int) (q:Int)=cellAt G (p:Int) (q:Int)):F=G:=by
  refine List.ext_getElem hl fun p h1 h2=>?_
  have l1:F[p].length=wideF F:=R.row _ (List.getElem_mem _)
  have l2:G[p].length=wideF G:=S.row _ (List.getElem_mem _)
  refine List.ext_getElem (by rw [l1,l2,hw]) fun q g1 g2=>?_
  have:=h p q h1 (by omega)
  unfold cellAt at this
  rw [Int.toNat_natCast,Int.toNat_natCast,List.getElem?_eq_getElem h1,List.getElem?_eq_getElem h2] at this
  have this:(F[p][q]?).join=(G[p][q]?).join:=this
  rw [List.getElem?_eq_getElem g1,List.getElem?_eq_getElem g2] at this
  exact this
def kpF (fv wv rv sv tv cv:V):List (Str × V):=[("field",fv),("window",wv),("rule",rv),("share",sv),("told",tv),("touched",cv)]
theorem putF_new (f:Str)(v:V):∀ (fs:List (Str × V)) (ns:List Str),fs.map (·.1)=ns→(ns.all fun g=>!decide (g=f))=true→putF f v fs=fs ++ [(f,v)]
  | [],_,_,_=>rfl
  | (g,x) :: r,ns,e,h=>by
    subst e
    rw [List.map_cons,List.all_cons,Bool.and_eq_true] at h
    have ng:¬ g=f:=fun e=>by
      have:=h.1
      rw [decide_eq_true (show g=f from e)] at this
      exact absurd this (by decide)
    show (if g=f then (g,v) :: r else (g,x) :: putF f v r)=_
    rw [if_neg ng,putF_new f v r _ rfl h.2]
    rfl
def spKInit (K:PySem.W.Frag)(C:Addr):Sp:=fun vs H Q _=>∃ (x dy:Addr) (fv wv rv sv:V) (F:List (List (Option Int))) (ru:Rule) (u d l r:Nat) (a b:Int),vs=[.ref x,fv,wv,rv,sv]∧H x=some (.ins C dy [])∧Rect F∧IsD H fv (fieldD F)∧IsD H wv (winD u d l r)∧IsD H rv (ruleD ru)∧IsD H sv (placeD (a,b))∧Share a b∧(u≤100∧d≤100∧l≤100∧r≤100)∧(u + d + 1) * (l + r + 1)≤100000 ∧
  ∀ (tv:V) (cp:Addr) (H':Hp),KeepBut x H H'→H' x=some (.ins C dy (kpF fv wv rv sv tv (.ref cp)))→IsD H' tv (fieldD (fil F ru u d l r a b))→H' cp=some (.tup [])→Q .non H'
theorem df_KeptField_init (T:Txt K mg C):DfI P w K mg base 5 C ["self","field","window","rule","share"] (spKInit K C):=by
  refine T.m_KeptField_init.ok sc_KeptField_init (fun vs H Q E h=>?_) (fun f cdv A outer s H vs Q E hr h=>?_)
  · obtain ⟨x,dy,fv,wv,rv,sv,F,ru,u,d,l,r,a,b,rfl,_⟩:=h
    rfl
  · obtain ⟨x,dy,fv,wv,rv,sv,F,ru,u,d,l,r,a,b,rfl,hx,R,hf,hw,hru,hs,hS,bb,few,q⟩:=h
    refine ⟨_,(@pss_cons _ _ _ _ _ (ps_fld (pv 0) (pv 1) rfl)
      (@pss_cons _ _ _ _ _ (ps_fld (pv 0) (pv 2) rfl)
      (@pss_cons _ _ _ _ _ (ps_fld (pv 0) (pv 3) rfl)
      (@pss_cons _ _ _ _ _ (ps_fld (pv 0) (pv 4) rfl)
      (@pss_cons _ _ _ _ _ (ps_fld (pv 0) (@pe_df _ _ _ _ _ _ _ _ _ _ (df_filtered T) (hr.mono (by decide)) (@pa_cons _ _ _ _ _ (pv 1) (@pa_cons _ _ _ _ _ (pv 2) (@pa_cons _ _ _ _ _ (pv 3) (@pa_cons _ _ _ _ _ (pv 4) pa_nil (by rfl)) (by rfl)) (by rfl)) (by rfl)) (by rfl) (by decide) (by rfl) (by rfl)) rfl)
      (@pss_one _ _ _ (ps_fld (pv 0) (@pe_tup _ _ _ _ _ pa_nil) rfl))))))),?_⟩
    have put:∀ {H:Hp} {fs gs:List (Str × V)},H x=some (.ins C dy fs)→upd H x (.ins C dy gs) x=some (.ins C dy gs)∧KeepBut x H (upd H x (.ins C dy gs))∧KeepT H (upd H x (.ins C dy gs)):=fun {H fs gs} h=>⟨upd_same,fun b o e n=>by rw [upd_ne n];exact e,fun b ws e=>by rw [upd_ne (ne_of e h fun z=>by cases z)];exact e⟩
    refine ⟨_,rfl,_,rfl,x,C,dy,_,rfl,hx,T.cl_KeptField,T.a_field,(by show 0 < 1000;decide),?_⟩
    rw [show putF "field" fv []=[(("field" : Str),fv)] from rfl]
    obtain ⟨x1,k1,t1⟩:=put (gs:=[(("field" : Str),fv)]) hx
    generalize upd H x (.ins C dy [(("field" : Str),fv)])=H1 at x1 k1 t1 ⊢
    refine ⟨_,rfl,_,rfl,x,C,dy,_,rfl,x1,T.cl_KeptField,T.a_window,(by show 1 < 1000;decide),?_⟩
    rw [show putF "window" wv [(("field" : Str),fv)]=[(("field" : Str),fv),("window",wv)] from putF_new _ _ _ ["field"] rfl (by decide +kernel)]
    obtain ⟨x2,k2,t2⟩:=put (gs:=[(("field" : Str),fv),("window",wv)]) x1
    generalize upd H1 x (.ins C dy [(("field" : Str),fv),("window",wv)])=H2 at x2 k2 t2 ⊢
    refine ⟨_,rfl,_,rfl,x,C,dy,_,rfl,x2,T.cl_KeptField,T.a_rule,(by show 2 < 1000;decide),?_⟩
    rw [show putF "rule" rv [(("field" : Str),fv),("window",wv)]=[(("field" : Str),fv),("window",wv),("rule",rv)] from putF_new _ _ _ ["field","window"] rfl (by decide +kernel)]
    obtain ⟨x3,k3,t3⟩:=put (gs:=[(("field" : Str),fv),("window",wv),("rule",rv)]) x2
    generalize upd H2 x (.ins C dy [(("field" : Str),fv),("window",wv),("rule",rv)])=H3 at x3 k3 t3 ⊢
    refine ⟨_,rfl,_,rfl,x,C,dy,_,rfl,x3,T.cl_KeptField,T.a_share,(by show 3 < 1000;decide),?_⟩
    rw [show putF "share" sv [(("field" : Str),fv),("window",wv),("rule",rv)]=[(("field" : Str),fv),("window",wv),("rule",rv),("share",sv)] from putF_new _ _ _ ["field","window","rule"] rfl (by decide +kernel)]
    obtain ⟨x4,k4,t4⟩:=put (gs:=[(("field" : Str),fv),("window",wv),("rule",rv),("share",sv)]) x3
    generalize upd H3 x (.ins C dy [(("field" : Str),fv),("window",wv),("rule",rv),("share",sv)])=H4 at x4 k4 t4 ⊢
    have t:KeepT H H4:=fun b ws e=>t4 _ _ (t3 _ _ (t2 _ _ (t1 _ _ e)))
    have k:KeepBut x H H4:=((k1.trans k2).trans k3).trans k4
    refine ⟨_,rfl,_,rfl,_,rfl,_,rfl,fv,wv,rv,sv,F,ru,u,d,l,r,a,b,rfl,R,hf.keep t,hw.keep t,hru.keep t,(Shr.of hs).keep t,hS,bb,fun tv H5 s5 htv=>?_⟩
    refine ⟨_,rfl,x,C,dy,_,rfl,s5 _ _ x4,T.cl_KeptField,T.a_told,(by show 4 < 1000;decide),?_⟩
    rw [show putF "told" tv [(("field" : Str),fv),("window",wv),("rule",rv),("share",sv)]=[(("field" : Str),fv),("window",wv),("rule",rv),("share",sv),("told",tv)] from putF_new _ _ _ ["field","window","rule","share"] rfl (by decide +kernel)]
    obtain ⟨x6,k6,t6⟩:=put (gs:=[(("field" : Str),fv),("window",wv),("rule",rv),("share",sv),("told",tv)]) (s5 _ _ x4)
    generalize upd H5 x (.ins C dy [(("field" : Str),fv),("window",wv),("rule",rv),("share",sv),("told",tv)])=H6 at x6 k6 t6 ⊢
    refine ⟨(by show 0≤sizeLine;decide),fun cp hcp=>?_⟩
    have s7:=same_upd (o:=.tup []) hcp
    refine ⟨_,rfl,x,C,dy,_,rfl,s7 _ _ x6,T.cl_KeptField,T.a_touched,(by show 5 < 1000;decide),?_⟩
    rw [show putF "touched" (V.ref cp) [(("field" : Str),fv),("window",wv),("rule",rv),("share",sv),("told",tv)]=kpF fv wv rv sv tv (.ref cp) from putF_new _ _ _ ["field","window","rule","share","told"] rfl (by decide +kernel)]
    obtain ⟨x8,k8,t8⟩:=put (gs:=kpF fv wv rv sv tv (.ref cp)) (s7 _ _ x6)
    have nc:cp≠x:=(ne_of_none x6 hcp).symm
    refine q tv cp _ ?_ x8 (((htv.keep t6).keep s7.tups).keep t8) ?_
    · exact (((k.trans (s5.but x)).trans k6).trans (s7.but x)).trans k8
    · exact t8 _ _ upd_same
section
variable (fv wv rv sv tv cv v:V)
theorem kp_field:(kpF fv wv rv sv tv cv).lookup ("field" : Str)=some fv:=rfl
theorem kp_window:(kpF fv wv rv sv tv cv).lookup ("window" : Str)=some wv:=rfl
theorem kp_rule:(kpF fv wv rv sv tv cv).lookup ("rule" : Str)=some rv:=rfl
theorem kp_share:(kpF fv wv rv sv tv cv).lookup ("share" : Str)=some sv:=rfl
theorem kp_told:(kpF fv wv rv sv tv cv).lookup ("told" : Str)=some tv:=rfl
theorem kp_touched:(kpF fv wv rv sv tv cv).lookup ("touched" : Str)=some cv:=rfl
theorem kp_put_field:putF "field" v (kpF fv wv rv sv tv cv)=kpF v wv rv sv tv cv:=rfl
theorem kp_put_told:putF "told" v (kpF fv wv rv sv tv cv)=kpF fv wv rv sv v cv:=rfl
theorem kp_put_touched:putF "touched" v (kpF fv wv rv sv tv cv)=kpF fv wv rv sv tv v:=rfl
end
def spKGet (C:Addr)(g:V→V→V→V):Sp:=fun vs H Q _=>∃ (x dy:Addr) (fv wv rv sv tv cv:V),vs=[.ref x]∧H x=some (.ins C dy (kpF fv wv rv sv tv cv))∧Q (g fv tv cv) H
theorem df_KeptField_field_now (T:Txt K mg C):DfM P w K mg base 1 C "field_now" ["self"] (spKGet C fun f _ _=>f):=by
  refine T.m_KeptField_field_now.ok sc_KeptField_field_now (fun vs H Q E h=>?_) (fun f cdv A outer s H vs Q E hr h=>?_)
  · obtain ⟨x,dy,fv,wv,rv,sv,tv,cv,rfl,_⟩:=h
    rfl
  · obtain ⟨x,dy,fv,wv,rv,sv,tv,cv,rfl,hx,q⟩:=h
    exact ⟨_,(@pss_one _ _ _ (@ps_ret _ _ _ _ (pe_fldK (K:=K) rfl (pv 0) (by rfl)))),_,rfl,x,C,dy,_,_,rfl,hx,T.cl_KeptField,T.a_field,kp_field ..,q⟩
theorem df_KeptField_told_now (T:Txt K mg C):DfM P w K mg base 1 C "told_now" ["self"] (spKGet C fun _ t _=>t):=by
  refine T.m_KeptField_told_now.ok sc_KeptField_told_now (fun vs H Q E h=>?_) (fun f cdv A outer s H vs Q E hr h=>?_)
  · obtain ⟨x,dy,fv,wv,rv,sv,tv,cv,rfl,_⟩:=h
    rfl
  · obtain ⟨x,dy,fv,wv,rv,sv,tv,cv,rfl,hx,q⟩:=h
    exact ⟨_,(@pss_one _ _ _ (@ps_ret _ _ _ _ (pe_fldK (K:=K) rfl (pv 0) (by rfl)))),_,rfl,x,C,dy,_,_,rfl,hx,T.cl_KeptField,T.a_told,kp_told ..,q⟩
theorem df_KeptField_touched_last (T:Txt K mg C):DfM P w K mg base 1 C "touched_last" ["self"] (spKGet C fun _ _ c=>c):=by
  refine T.m_KeptField_touched_last.ok sc_KeptField_touched_last (fun vs H Q E h=>?_) (fun f cdv A outer s H vs Q E hr h=>?_)
  · obtain ⟨x,dy,fv,wv,rv,sv,tv,cv,rfl,_⟩:=h
    rfl
  · obtain ⟨x,dy,fv,wv,rv,sv,tv,cv,rfl,hx,q⟩:=h
    exact ⟨_,(@pss_one _ _ _ (@ps_ret _ _ _ _ (pe_fldK (K:=K) rfl (pv 0) (by rfl)))),_,rfl,x,C,dy,_,_,rfl,hx,T.cl_KeptField,T.a_touched,kp_touched ..,q⟩
structure KpAt (K:PySem.W.Frag)(C:Addr)(H:Hp)(x dy:Addr)(fv wv rv sv tv cv:V)(F:List (List (Option Int)))(ru:Rule)(u d l r:Nat)(a b:Int):Prop where
  at_:H x=some (.ins C dy (kpF fv wv rv sv tv cv))
  rect:Rect F
  fh:F.length ≤ 100
  fw:wideF F≤100
  fd_:IsD H fv (fieldD F)
  wd_:IsD H wv (winD u d l r)
  rl_:IsD H rv (ruleD ru)
  sd_:IsD H sv (placeD (a,b))
  told:IsD H tv (fieldD (fil F ru u d l r a b))
  sh:Share a b
  bb:u≤100∧d≤100∧l≤100∧r≤100
  few:(u + d + 1) * (l + r + 1)≤100000
theorem fil_cell {F:List (List (Option Int))}(ru:Rule)(u d l r:Nat)(a b:Int){p q:Nat}(hp:p < F.length)(hq:q < wideF F):cellAt (fil F ru u d l r a b) (p:Int) (q:Int)=filAt F ru u d l r a b (p:Int) (q:Int):=by
  unfold cellAt
  rw [Int.toNat_natCast,Int.toNat_natCast,fil_row hp]
  show (((List.range (wideF F)).map fun j:Nat=>filAt F ru u d l r a b (p:Int) (j:Int))[q]?).join=_
  rw [List.getElem?_map,List.getElem?_range hq]
  rfl
def spChange (K:PySem.W.Frag)(C:Addr):Sp:=fun vs H Q _=>∃ (x dy:Addr) (fv wv rv sv tv cv:V) (F:List (List (Option Int))) (ru:Rule) (u d l r:Nat) (a b:Int) (i j:Nat) (c:Option Int),vs=[.ref x,.int (i:Int),.int (j:Int),cellV c]∧KpAt K C H x dy fv wv rv sv tv cv F ru u d l r a b∧i < F.length ∧ j < (F.headD []).length ∧
  ∀ (fv' tv':V) (cp:Addr) (ps:List V) (H':Hp),KeepBut x H H'→KpAt K C H' x dy fv' wv rv sv tv' (.ref cp) (putC F i j c) ru u d l r a b→H' cp=some (.tup ps)→IsDs H' ps ((touched F ru u d l r (i:Int) (j:Int)).map placeD)→Q .non H'
theorem df_KeptField_change (T:Txt K mg C):DfM P w K mg base 6 C "change" ["self","i","j","cell"] (spChange K C):=by
  refine T.m_KeptField_change.ok sc_KeptField_change (fun vs H Q E h=>?_) (fun f cdv A outer s H vs Q E hr h=>?_)
  · obtain ⟨x,dy,fv,wv,rv,sv,tv,cv,F,ru,u,d,l,r,a,b,i,j,c,rfl,_⟩:=h
    rfl
  · obtain ⟨x,dy,fv,wv,rv,sv,tv,cv,F,ru,u,d,l,r,a,b,i,j,c,rfl,kp,hi,hj,q⟩:=h
    refine ⟨_,(@pss_cons _ _ _ _ _ (ps_fld (pv 0) (@pe_df _ _ _ _ _ _ _ _ _ _ (df_field_with T) (hr.mono (by decide)) (@pa_cons _ _ _ _ _ (pe_fldK (K:=K) rfl (pv 0) (by rfl)) (@pa_cons _ _ _ _ _ (pv 1) (@pa_cons _ _ _ _ _ (pv 2) (@pa_cons _ _ _ _ _ (pv 3) pa_nil (by rfl)) (by rfl)) (by rfl)) (by rfl)) (by rfl) (by decide) (by rfl) (by rfl)) rfl)
      (@pss_cons _ _ _ _ _ (ps_fld (pv 0) (@pe_df _ _ _ _ _ _ _ _ _ _ (df_places_touched T) (hr.mono (by decide)) (@pa_cons _ _ _ _ _ (pe_fldK (K:=K) rfl (pv 0) (by rfl)) (@pa_cons _ _ _ _ _ (pe_fldK (K:=K) rfl (pv 0) (by rfl)) (@pa_cons _ _ _ _ _ (pe_fldK (K:=K) rfl (pv 0) (by rfl)) (@pa_cons _ _ _ _ _ (pv 1) (@pa_cons _ _ _ _ _ (pv 2) pa_nil (by rfl)) (by rfl)) (by rfl)) (by rfl)) (by rfl)) (by rfl) (by decide) (by rfl) (by rfl)) rfl)
      (@pss_one _ _ _ (@ps_for _ _ _ _ _ _ _ _ PassesOwn.never rfl (pi_seqK (K:=K) rfl (pe_fldK (K:=K) rfl (pv 0) (by rfl))) (pg_tupK (K:=K) rfl rfl (pgs_cons (pg_name (i:=4) sc_KeptField_change.nd rfl (by first | exact Or.inl rfl | exact Or.inr rfl)) (pgs_cons (pg_name (i:=5) sc_KeptField_change.nd rfl (by first | exact Or.inl rfl | exact Or.inr rfl)) pgs_nil))) (@pss_cons _ _ _ _ _ (@ps_set _ _ 6 _ _ _ _ sc_KeptField_change.nd rfl (by first | exact Or.inl rfl | exact Or.inr rfl) (@pe_df _ _ _ _ _ _ _ _ _ _ (df_window_cells T) (hr.mono (by decide)) (@pa_cons _ _ _ _ _ (pe_fldK (K:=K) rfl (pv 0) (by rfl)) (@pa_cons _ _ _ _ _ (pe_fldK (K:=K) rfl (pv 0) (by rfl)) (@pa_cons _ _ _ _ _ (pe_fldK (K:=K) rfl (pv 0) (by rfl)) (@pa_cons _ _ _ _ _ (pv 4) (@pa_cons _ _ _ _ _ (pv 5) pa_nil (by rfl)) (by rfl)) (by rfl)) (by rfl)) (by rfl)) (by rfl) (by decide) (by rfl) (by rfl)) (by rfl) (by first | exact .inl rfl | exact .inr rfl))
      (@pss_one _ _ _ (ps_fld (pv 0) (@pe_df _ _ _ _ _ _ _ _ _ _ (df_field_with T) (hr.mono (by decide)) (@pa_cons _ _ _ _ _ (pe_fldK (K:=K) rfl (pv 0) (by rfl)) (@pa_cons _ _ _ _ _ (pv 4) (@pa_cons _ _ _ _ _ (pv 5) (@pa_cons _ _ _ _ _ (@pe_df _ _ _ _ _ _ _ _ _ _ (df_told_of_cells T) (hr.mono (by decide)) (@pa_cons _ _ _ _ _ (pv 6) (@pa_cons _ _ _ _ _ (pe_fldK (K:=K) rfl (pv 0) (by rfl)) pa_nil (by rfl)) (by rfl)) (by rfl) (by decide) (by rfl) (by rfl)) pa_nil star_call) (by rfl)) (by rfl)) (by rfl)) (by rfl) (by decide) (by rfl) (by rfl)) rfl))) (by intro _;rfl))))),?_⟩
    obtain ⟨hx,R,fh,fw,hf,hw,hru,hs,ht,hS,bb,few⟩:=kp
    have put:∀ {H:Hp} {fs gs:List (Str × V)},H x=some (.ins C dy fs)→upd H x (.ins C dy gs) x=some (.ins C dy gs)∧KeepBut x H (upd H x (.ins C dy gs))∧KeepT H (upd H x (.ins C dy gs)):=fun {H fs gs} h=>⟨upd_same,fun b o e n=>by rw [upd_ne n];exact e,fun b ws e=>by rw [upd_ne (ne_of e h fun z=>by cases z)];exact e⟩
    obtain ⟨RP,LP,WP⟩:=putC_rect R hi hj c
    refine ⟨_,rfl,x,C,dy,_,_,rfl,hx,T.cl_KeptField,T.a_field,kp_field ..,_,rfl,_,rfl,_,rfl,?_⟩
    refine ⟨fv,F,i,j,c,rfl,R,hf,hi,hj,fun fv' H1 s1 hfv'=>?_⟩
    refine ⟨_,rfl,x,C,dy,_,rfl,s1 _ _ hx,T.cl_KeptField,T.a_field,(by show 6 < 1000;decide),?_⟩
    rw [kp_put_field]
    obtain ⟨x2,k2,t2⟩:=put (gs:=kpF fv' wv rv sv tv cv) (s1 _ _ hx)
    generalize upd H1 x (.ins C dy (kpF fv' wv rv sv tv cv))=H2 at x2 k2 t2 ⊢
    have f2:=hfv'.keep t2
    have w2:=(hw.keep s1.tups).keep t2
    have ru2:=(hru.keep s1.tups).keep t2
    have sh2:=(hs.keep s1.tups).keep t2
    have told2:=(ht.keep s1.tups).keep t2
    have K2':KeepBut x H H2:=(s1.but x).trans k2
    obtain ⟨wa,rfl,hwa⟩:=isWin_inv w2
    generalize hG:putC F i j c=G at *
    refine ⟨_,rfl,x,C,dy,_,_,rfl,x2,T.cl_KeptField,T.a_field,kp_field ..,_,rfl,x,C,dy,_,_,rfl,x2,T.cl_KeptField,T.a_window,kp_window ..,_,rfl,x,C,dy,_,_,rfl,x2,T.cl_KeptField,T.a_rule,kp_rule ..,_,rfl,_,rfl,?_⟩
    refine ⟨fv',rv,wa,G,ru,u,d,l,r,_,_,rfl,RP,by omega,by (unfold wideF at fw ⊢;omega),f2,hwa,ru2,bb,fun cp ps H3 s3 hcp hps=>?_⟩
    refine ⟨_,rfl,x,C,dy,_,rfl,s3 _ _ x2,T.cl_KeptField,T.a_touched,(by show 6 < 1000;decide),?_⟩
    rw [kp_put_touched]
    obtain ⟨x4,k4,t4⟩:=put (gs:=kpF fv' (.ref wa) rv sv tv (.ref cp)) (s3 _ _ x2)
    generalize upd H3 x (.ins C dy (kpF fv' (.ref wa) rv sv tv (.ref cp)))=H4 at x4 k4 t4 ⊢
    have f4:=(f2.keep s3.tups).keep t4
    have w4:=(w2.keep s3.tups).keep t4
    have ru4:=(ru2.keep s3.tups).keep t4
    have sh4:=(sh2.keep s3.tups).keep t4
    have told4:=(told2.keep s3.tups).keep t4
    have cp4:=t4 _ _ hcp
    have ps4:=hps.keep t4
    have K4:KeepBut x H H4:=(K2'.trans (s3.but x)).trans k4
    have eT:touched G ru u d l r (i:Int) (j:Int)=touched F ru u d l r (i:Int) (j:Int):=by rw [← hG];exact touched_put R ru hi hj c u d l r _ _
    rw [eT] at hps ps4
    have mt:∀ y∈touched F ru u d l r (i:Int) (j:Int),∃ p q:Nat,y=((p:Int),(q:Int))∧p < F.length ∧ q < wideF F:=fun y hy=>by
      unfold touched at hy
      obtain ⟨p,hp,h2⟩:=List.mem_flatMap.mp hy
      obtain ⟨q,hq,rfl⟩:=List.mem_map.mp h2
      exact ⟨p,q,rfl,(holds_mem.mp hp).1,(holds_mem.mp hq).1⟩
    have unt:∀ p q:Nat,p < F.length → q < wideF F→((p:Int),(q:Int)) ∉ touched F ru u d l r (i:Int) (j:Int)→filAt G ru u d l r a b (p:Int) (q:Int)=filAt F ru u d l r a b (p:Int) (q:Int):=fun p q hp hq h=>by rw [← hG];exact fil_untouched R ru hi hj c a b hp hq h
    generalize hTl:touched F ru u d l r (i:Int) (j:Int)=tl at ps4 mt unt
    have lps:ps.length=tl.length:=by rw [ps4.length,List.length_map]
    have ncx:cp≠x:=ne_of cp4 x4 fun z=>by cases z
    refine for_seqV (K:=K) (xs:=ps) (fun k h=>⟨_,rfl,x,C,dy,_,_,rfl,x4,T.cl_KeptField,T.a_touched,kp_touched ..,h⟩) (.inl cp4) (fun m σ H'=>∃ (v4 v5 v6:Option V) (tm:V) (Tm:List (List (Option Int))),σ=[some (.ref x),some (.int (i:Int)),some (.int (j:Int)),some (cellV c),v4,v5,v6]∧KeepBut x H4 H'∧H' x=some (.ins C dy (kpF fv' (.ref wa) rv sv tm (.ref cp)))∧Rect Tm∧Tm.length=F.length ∧ wideF Tm=wideF F∧IsD H' tm (fieldD Tm)∧∀ p q:Nat,p < F.length → q < wideF F→cellAt Tm (p:Int) (q:Int)=if ((p:Int),(q:Int))∈tl.take m then filAt G ru u d l r a b (p:Int) (q:Int) else filAt F ru u d l r a b (p:Int) (q:Int)) ⟨none,none,none,tv,fil F ru u d l r a b,rfl,KeepBut.refl _ _,x4,R.fil _ _ _ _ _ _ _,fil_len ..,fil_wide R,told4,fun p q hp hq=>?_⟩ ?_ ?_ ?_
    · rw [List.take_zero,if_neg (by simp)]
      exact fil_cell ru u d l r a b hp hq
    · rintro m _ H' _ ⟨_,_,_,_,_,_,kk,_⟩ _
      rw [kk _ _ cp4 ncx,cp4]
    · rintro m y _ H5 hy ⟨v4,v5,v6,tm,Tm,rfl,k5,x5,RT,lT,wT,hT,cT⟩
      have hm:m < tl.length:=by have:=(List.getElem?_eq_some_iff.mp hy).1;omega
      obtain ⟨y',ey,hy'⟩:=ps4.get (i:=m) (d:=placeD tl[m]) (by rw [List.getElem?_map,List.getElem?_eq_getElem hm];rfl)
      obtain rfl:y=y':=by rw [hy] at ey;exact Option.some.inj ey
      obtain ⟨ya,rfl,hya⟩:=isPlace_inv hy'
      obtain ⟨p,q',eM,hp,hq⟩:=mt tl[m] (List.getElem_mem hm)
      rw [eM] at hya
      have t5:KeepT H4 H5:=fun b' ws e=>k5 _ _ e (ne_of e x4 fun z=>by cases z)
      refine ⟨_,_,rfl,SqT.of (t5 _ _ hya),rfl,?_⟩
      refine ⟨_,_,rfl,_,_,rfl,rfl,?_⟩
      dsimp only [gName,List.set]
      refine ⟨_,rfl,x,C,dy,_,_,rfl,x5,T.cl_KeptField,T.a_field,kp_field ..,_,rfl,x,C,dy,_,_,rfl,x5,T.cl_KeptField,T.a_window,kp_window ..,_,rfl,x,C,dy,_,_,rfl,x5,T.cl_KeptField,T.a_rule,kp_rule ..,_,rfl,_,rfl,?_⟩
      refine ⟨fv',.ref wa,rv,G,ru,u,d,l,r,_,_,rfl,RP,f4.keep t5,w4.keep t5,ru4.keep t5,⟨by omega,by omega⟩,⟨by omega,by omega⟩,bb,fun cw H6 s6 hcw=>?_⟩
      have x6:=s6 _ _ x5
      have t6:KeepT H4 H6:=fun b' ws e=>s6.tups _ _ (t5 _ _ e)
      have wl:=wc_len G ru u d l r (p:Int) (q':Int)
      dsimp only [gName,List.set]
      refine ⟨_,rfl,x,C,dy,_,_,rfl,x6,T.cl_KeptField,T.a_told,kp_told ..,_,rfl,_,rfl,_,rfl,_,rfl,x,C,dy,_,_,rfl,x6,T.cl_KeptField,T.a_share,kp_share ..,?_⟩
      refine ⟨cw,sv,wc G ru u d l r (p:Int) (q':Int),a,b,rfl,.inl hcw,by omega,(Shr.of sh4).keep t6,hS,fun H7 s7=>?_⟩
      have hw':wideF Tm=(Tm.headD []).length:=rfl
      refine ⟨tm,Tm,p,q',filAt G ru u d l r a b (p:Int) (q':Int),rfl,RT,(hT.keep s6.tups).keep s7.tups,by omega,by omega,fun tm' H8 s8 htm'=>?_⟩
      have x8:=s8 _ _ (s7 _ _ x6)
      refine ⟨_,rfl,x,C,dy,_,rfl,x8,T.cl_KeptField,T.a_told,(by show 6 < 1000;decide),?_⟩
      rw [kp_put_told]
      obtain ⟨x9,k9,t9⟩:=put (gs:=kpF fv' (.ref wa) rv sv tm' (.ref cp)) x8
      obtain ⟨RT',lT',wT'⟩:=putC_rect RT (i:=p) (j:=q') (by omega) (by omega) (filAt G ru u d l r a b (p:Int) (q':Int))
      have s68:=(s6.trans s7).trans s8
      refine ⟨_,_,_,tm',_,rfl,(k5.trans (s68.but x)).trans k9,x9,RT',by omega,by (unfold wideF at wT ⊢;omega),htm'.keep t9,fun p2 q2 hp2 hq2=>?_⟩
      have hin:inF Tm (p2:Int) (q2:Int)=true:=by
        unfold inF
        rw [decide_eq_true (show (0:Int)≤(p2:Int) by omega),decide_eq_true (show (p2:Int) < Tm.length by omega),decide_eq_true (show (0:Int)≤(q2:Int) by omega),decide_eq_true (show (q2:Int) < (Tm.headD []).length by omega)]
        rfl
      rw [putC_cell RT (by omega) (by omega) _ hin,cT p2 q2 hp2 hq2,List.take_succ_eq_append_getElem hm,eM]
      by_cases z:(p2:Int)=(p:Int)∧(q2:Int)=(q':Int)
      · rw [if_pos z,if_pos (List.mem_append.mpr (Or.inr (by rw [z.1,z.2];exact List.mem_singleton.mpr rfl))),z.1,z.2]
      · rw [if_neg z]
        by_cases y2:((p2:Int),(q2:Int))∈tl.take m
        · rw [if_pos y2,if_pos (List.mem_append.mpr (Or.inl y2))]
        · rw [if_neg y2,if_neg fun e=>(List.mem_append.mp e).elim y2 fun e2=>z ⟨(Prod.mk.inj (List.mem_singleton.mp e2)).1,(Prod.mk.inj (List.mem_singleton.mp e2)).2⟩]
    · rintro _ H5 ⟨v4,v5,v6,tm,Tm,rfl,k5,x5,RT,lT,wT,hT,cT⟩
      rw [lps,List.take_length] at cT
      have lG:G.length=F.length:=LP
      have wG:wideF G=wideF F:=WP
      have eF:Tm=fil G ru u d l r a b:=field_ext RT (RP.fil _ _ _ _ _ _ _) (by rw [fil_len,lT,lG]) (by rw [wT,fil_wide RP,wG]) fun p q' hp hq=>by
        rw [cT p q' (by omega) (by omega),fil_cell ru u d l r a b (by omega) (by omega)]
        by_cases z:((p:Int),(q':Int))∈tl
        · rw [if_pos z]
        · rw [if_neg z,unt p q' (by omega) (by omega) z]
      rw [eF] at hT
      have t5:KeepT H4 H5:=fun b' ws e=>k5 _ _ e (ne_of e x4 fun z=>by cases z)
      refine q fv' tm cp ps H5 (K4.trans k5) ⟨x5,RP,by omega,by omega,f4.keep t5,w4.keep t5,ru4.keep t5,sh4.keep t5,hT,hS,bb,few⟩ (t5 _ _ cp4) ?_
      rw [hTl]
      exact ps4.keep t5
def spCell:Sp:=fun vs H Q _=>∃ (d c:Addr) (fv:V) (F:List (List (Option Int))) (n:Nat),vs=[.ref d,fv]∧Dk H d c n∧n≤100000∧Rect F∧IsD H fv (fieldD F)∧∀ (cl:Option Int) (H':Hp),Dk H' d c (n + 4)→K2 d c H H'→Q (cellV cl) H'
theorem df_law_cell (T:Txt K mg C):Df P w K mg base 3 "_law_cell" ["deck","field"] spCell:=by
  refine T.d_law_cell.ok sc_law_cell (fun vs H Q E h=>?_) (fun f cdv A outer s H vs Q E hr h=>?_)
  · obtain ⟨d,c,fv,F,n,rfl,_⟩:=h
    rfl
  · obtain ⟨d,c,fv,F,n,rfl,D,hn,R,hf,q⟩:=h
    refine ⟨_,(@pss_cons _ _ _ _ _ (@ps_set _ _ 2 _ _ _ _ sc_law_cell.nd rfl (by first | exact Or.inl rfl | exact Or.inr rfl) (@pe_df _ _ _ _ _ _ _ _ _ _ (df_law_draw T) (hr.mono (by decide)) (@pa_cons _ _ _ _ _ (pv 0) (@pa_cons _ _ _ _ _ pe_int pa_nil (by rfl)) (by rfl)) (by rfl) (by decide) (by rfl) (by rfl)) (by rfl) (by first | exact .inl rfl | exact .inr rfl))
      (@pss_cons _ _ _ _ _ (@ps_if _ _ _ _ _ _ _ _ (@pt_cmpR _ _ _ _ _ _ _ _ (op_eqA hr.units) (pv 2) pe_int (nomark _)) (@pss_one _ _ _ (@ps_ret _ _ _ _ pe_non)) pss_nil)
      (@pss_cons _ _ _ _ _ (@ps_if _ _ _ _ _ _ _ _ (@pt_cmpR _ _ _ _ _ _ _ _ (op_eqA hr.units) (pv 2) pe_int (nomark _)) (@pss_cons _ _ _ _ _ (@ps_set _ _ 3 _ _ _ _ sc_law_cell.nd rfl (by first | exact Or.inl rfl | exact Or.inr rfl) (@pe_ix _ _ _ _ _ _ _ (ix_seqK (K:=K) rfl) (pv 1) (@pe_df _ _ _ _ _ _ _ _ _ _ (df_law_draw T) (hr.mono (by decide)) (@pa_cons _ _ _ _ _ (pv 0) (@pa_cons _ _ _ _ _ (@pe_callB _ _ _ _ _ _ _ _ _ (call_lenK (K:=K) rfl) (by rfl) T.n_len bt_len (@pa_cons _ _ _ _ _ (pv 1) pa_nil (by rfl)) (by decide) (by decide) (by rfl) (by rfl)) pa_nil star_call) (by rfl)) (by rfl) (by decide) (by rfl) (by rfl)) (fun _ _=>rfl)) (by rfl) (by first | exact .inl rfl | exact .inr rfl))
      (@pss_one _ _ _ (@ps_ret _ _ _ _ (@pe_ix _ _ _ _ _ _ _ (ix_seqK (K:=K) rfl) (pv 3) (@pe_df _ _ _ _ _ _ _ _ _ _ (df_law_draw T) (hr.mono (by decide)) (@pa_cons _ _ _ _ _ (pv 0) (@pa_cons _ _ _ _ _ (@pe_callB _ _ _ _ _ _ _ _ _ (call_lenK (K:=K) rfl) (by rfl) T.n_len bt_len (@pa_cons _ _ _ _ _ (pv 3) pa_nil (by rfl)) (by decide) (by decide) (by rfl) (by rfl)) pa_nil star_call) (by rfl)) (by rfl) (by decide) (by rfl) (by rfl)) (fun _ _=>rfl))))) pss_nil)
      (@pss_one _ _ _ (@ps_ret _ _ _ _ (@pe_df _ _ _ _ _ _ _ _ _ _ (df_law_number T) (hr.mono (by decide)) (@pa_cons _ _ _ _ _ (pv 0) (@pa_cons _ _ _ _ _ (@pe_op _ _ _ _ _ _ _ _ op_sub (pv 2) pe_int) pa_nil star_bin) (by rfl)) (by rfl) (by decide) (by rfl) (by rfl))))))),?_⟩
    refine ⟨_,rfl,_,_,_,_,rfl,D,(by decide),(by decide),by omega,fun x H1 x0 x1 D1 k1=>?_⟩
    dsimp only [gName,List.set]
    refine ⟨_,rfl,Or.inl ⟨rfl,_,rfl,?_⟩⟩
    refine ite2 (fun _=>?_) (fun _=>?_)
    · exact q none H1 (D1.mono (by omega)) k1
    refine ⟨_,rfl,Or.inl ⟨rfl,_,rfl,?_⟩⟩
    refine ite2 (fun _=>?_) (fun _=>?_)
    · have h1:=R.h1;have hs:=R.hs;have w1:=R.w1;have ws:=R.ws
      obtain ⟨fa,xs,rfl,hfa,hxs⟩:=isField_inv (hf.keep (k1.tups D))
      have lx:xs.length=F.length:=by rw [hxs.length,List.length_map]
      refine ⟨_,rfl,_,rfl,_,rfl,_,_,rfl,Or.inr ⟨_,SqT.of hfa,rfl⟩,_,_,_,_,rfl,D1,by omega,by omega,by omega,fun y H2 y0 y1 D2 k2=>?_⟩
      have hy:y.toNat < F.length:=by omega
      have ey:((y.toNat:Nat):Int)=y:=Int.toNat_of_nonneg y0
      obtain ⟨ra,era,hra⟩:=isRows_get (hxs.keep (k2.tups D1)) hy
      have lr:F[y.toNat].length=(F.headD []).length:=R.row _ (List.getElem_mem _)
      refine Or.inr (Or.inl ⟨_,_,_,_,rfl,rfl,SqT.of (k2.tups D1 _ _ hfa),by rw [← ey];exact atI_nat era,?_⟩)
      dsimp only [gName,List.set]
      have ll:(F[y.toNat].map cellV).length=F[y.toNat].length:=List.length_map _
      refine ⟨_,rfl,_,rfl,_,rfl,_,_,rfl,Or.inr ⟨_,SqT.of hra,rfl⟩,_,_,_,_,rfl,D2,by omega,by omega,by omega,fun z H3 z0 z1 D3 k3=>?_⟩
      have hz:z.toNat < F[y.toNat].length:=by omega
      have ez:((z.toNat:Nat):Int)=z:=Int.toNat_of_nonneg z0
      refine Or.inr (Or.inl ⟨_,_,_,cellV F[y.toNat][z.toNat],rfl,rfl,SqT.of (k3.tups D2 _ _ hra),?_,?_⟩)
      · have hat:atI (F[y.toNat].map cellV) ((z.toNat:Nat):Int)=some (cellV F[y.toNat][z.toNat]):=atI_nat (by rw [List.getElem?_map,List.getElem?_eq_getElem hz];rfl)
        rw [ez] at hat
        exact hat
      · exact q _ H3 (D3.mono (by omega)) ((k1.trans k2).trans k3)
    · refine ⟨_,rfl,_,rfl,_,_,rfl,rfl,_,_,_,_,rfl,D1,by omega,fun y H2 y0 y1 D2 k2=>?_⟩
      exact q (some y) H2 (D2.mono (by omega)) (k1.trans k2)
theorem place_any {p:Int × Int}{ps:List (Int × Int)}(h:p∈ps):((ps.map placeD).any fun d=>PyData.eqv d (placeD p))=true:=by
  rw [List.any_map,List.any_eq_true]
  refine ⟨p,h,?_⟩
  simp [placeD,PyData.eqv,PyData.eqvAll]
theorem canLay_places:∀ ps:List (Int × Int),PyData.canLayAll0 (ps.map placeD)=true
  | []=>by decide
  | p :: r=>by
    have:=canLay_places r
    simp only [List.map_cons,PyData.canLayAll0,Bool.and_eq_true]
    exact ⟨by simp [placeD,PyData.canLay0,PyData.canLayAll0],this⟩
structure Mk where
  ru:Rule
  u:Nat
  d:Nat
  l:Nat
  r:Nat
  a:Int
  b:Int
structure MkOk (m:Mk):Prop where
  sh:Share m.a m.b
  bb:m.u ≤ 100∧m.d ≤ 100∧m.l ≤ 100∧m.r ≤ 100
  few:(m.u + m.d + 1) * (m.l + m.r + 1)≤100000
def filM (F:List (List (Option Int)))(m:Mk):List (List (Option Int)):=fil F m.ru m.u m.d m.l m.r m.a m.b
structure One where
  x:Addr
  dy:Addr
  m:Mk
theorem KpAt.keep {K:PySem.W.Frag}{C x dy:Addr}{H H':Hp}{fv wv rv sv tv cv:V}{F:List (List (Option Int))}{ru:Rule}{u d l r:Nat}{a b:Int}(k:KpAt K C H x dy fv wv rv sv tv cv F ru u d l r a b)(t:KeepT H H')(e:∀ o,H x=some o→H' x=some o):KpAt K C H' x dy fv wv rv sv tv cv F ru u d l r a b :=
  ⟨e _ k.at_,k.rect,k.fh,k.fw,k.fd_.keep t,k.wd_.keep t,k.rl_.keep t,k.sd_.keep t,k.told.keep t,k.sh,k.bb,k.few⟩
section
variable (fv wv rv sv tv cv:V)
theorem kp_no_field_now:(kpF fv wv rv sv tv cv).lookup ("field_now" : Str)=none:=rfl
theorem kp_no_told_now:(kpF fv wv rv sv tv cv).lookup ("told_now" : Str)=none:=rfl
theorem kp_no_touched_last:(kpF fv wv rv sv tv cv).lookup ("touched_last" : Str)=none:=rfl
theorem kp_no_change:(kpF fv wv rv sv tv cv).lookup ("change" : Str)=none:=rfl
end
def spRefuseX (mg:Str→Option Value):Sp:=fun vs H _ E=>∃ (fv:V) (F:List (List (Option Int))) (i j:Int),vs=[fv,.int i,.int j]∧Rect F∧IsD H fv (fieldD F)∧inF F i j=false∧∀ D,mg "NoPlace" = some (.ref D)→E (.ref D) none H
theorem df_X_refuse_outside (T:Txt K mg C):DfX P w K mg base 2 "refuse_outside" ["field","i","j"] (spRefuseX mg):=by
  refine T.d_refuse_outside.okX sc_refuse_outside (fun vs H Q E h=>?_) (fun f cdv A outer s H vs Q E hr h=>?_)
  · obtain ⟨fv,F,i,j,rfl,_⟩:=h
    rfl
  · obtain ⟨fv,F,i,j,rfl,R,hf,hin,q⟩:=h
    obtain ⟨aN,aF,aM,aP,aW,XX⟩:=T.x_exc
    refine ⟨_,(@pss_one _ _ _ (@ps_if _ _ _ _ _ _ _ _ (@pt_not _ _ _ _ (@pt_val _ _ _ (@pe_df _ _ _ _ _ _ _ _ _ _ (df_is_inside T) (hr.mono (by decide)) (@pa_cons _ _ _ _ _ (pv 0) (@pa_cons _ _ _ _ _ (pv 1) (@pa_cons _ _ _ _ _ (pv 2) pa_nil (by rfl)) (by rfl)) (by rfl)) (by rfl) (by decide) (by rfl) (by rfl)) (by intro _;rfl))) (@pss_one _ _ _ (ps_raise rfl throws_out XX.place XX.inP (@pa_cons _ _ _ _ _ pe_str pa_nil (by rfl)))) pss_nil)),?_⟩
    refine ⟨_,rfl,_,rfl,_,rfl,_,F,_,_,rfl,R,hf,?_⟩
    rw [hin]
    refine ⟨_,rfl,iteT ?_⟩
    exact ⟨(by show 1≤sizeLine;decide),q _ XX.place⟩
def spFieldWithX (mg:Str→Option Value):Sp:=fun vs H _ E=>∃ (fv:V) (F:List (List (Option Int))) (i j:Int) (c:Option Int),vs=[fv,.int i,.int j,cellV c]∧Rect F∧IsD H fv (fieldD F)∧inF F i j=false∧∀ D,mg "NoPlace" = some (.ref D)→E (.ref D) none H
theorem df_X_field_with (T:Txt K mg C):DfX P w K mg base 3 "field_with" ["field","i","j","cell"] (spFieldWithX mg):=by
  refine T.d_field_with.okX sc_field_with (fun vs H Q E h=>?_) (fun f cdv A outer s H vs Q E hr h=>?_)
  · obtain ⟨fv,F,i,j,c,rfl,_⟩:=h
    rfl
  · obtain ⟨fv,F,i,j,c,rfl,R,hf,hin,q⟩:=h
    refine ⟨_,(@pss_cons _ _ _ _ _ (@ps_expr _ _ _ _ (pe_dfX (df_X_refuse_outside T) (hr.mono (by decide)) pass_out (@pa_cons _ _ _ _ _ (pv 0) (@pa_cons _ _ _ _ _ (pv 1) (@pa_cons _ _ _ _ _ (pv 2) pa_nil (by rfl)) (by rfl)) (by rfl))) (by rfl)) (PSs.nox (@pss_one _ _ _ (@ps_ret _ _ _ _ (@pe_op _ _ _ _ _ _ _ _ op_catTA (@pe_op _ _ _ _ _ _ _ _ op_catTA (pe_slice (sl_X (K:=K) rfl) (pv 0) po_none (po_some (pv 1))) (@pe_tup _ _ _ _ _ (@pa_cons _ _ _ _ _ (@pe_df _ _ _ _ _ _ _ _ _ _ (df_row_with T) (hr.mono (by decide)) (@pa_cons _ _ _ _ _ (@pe_ix _ _ _ _ _ _ _ (ix_seqK (K:=K) rfl) (pv 0) (pv 1) (fun _ _=>rfl)) (@pa_cons _ _ _ _ _ (pv 2) (@pa_cons _ _ _ _ _ (pv 3) pa_nil (by rfl)) (by rfl)) star_sub) (by rfl) (by decide) (by rfl) (by rfl)) pa_nil star_call))) (pe_slice (sl_X (K:=K) rfl) (pv 0) (po_some (@pe_op _ _ _ _ _ _ _ _ op_add (pv 1) pe_int)) po_none)))))),?_⟩
    exact ⟨_,rfl,_,rfl,_,rfl,_,F,_,_,rfl,R,hf,hin,q⟩
def spChangeX (K:PySem.W.Frag) (mg:Str→Option Value) (C:Addr):Sp:=fun vs H _ E=>∃ (x dy:Addr) (fv wv rv sv tv cv:V) (F:List (List (Option Int))) (i j:Int) (c:Option Int),vs=[.ref x,.int i,.int j,cellV c]∧H x=some (.ins C dy (kpF fv wv rv sv tv cv))∧Rect F∧IsD H fv (fieldD F)∧inF F i j=false∧∀ D,mg "NoPlace" = some (.ref D)→E (.ref D) none H
theorem df_X_KeptField_change (T:Txt K mg C):DfMX P w K mg base 6 C "change" ["self","i","j","cell"] (spChangeX K mg C):=by
  refine T.m_KeptField_change.okX sc_KeptField_change (fun vs H Q E h=>?_) (fun f cdv A outer s H vs Q E hr h=>?_)
  · obtain ⟨x,dy,fv,wv,rv,sv,tv,cv,F,i,j,c,rfl,_⟩:=h
    rfl
  · obtain ⟨x,dy,fv,wv,rv,sv,tv,cv,F,i,j,c,rfl,hx,R,hf,hin,q⟩:=h
    refine ⟨_,(@pss_cons _ _ _ _ _ (ps_fld (pv 0) (pe_dfX (df_X_field_with T) (hr.mono (by decide)) pass_out (@pa_cons _ _ _ _ _ (pe_fldK (K:=K) rfl (pv 0) (by rfl)) (@pa_cons _ _ _ _ _ (pv 1) (@pa_cons _ _ _ _ _ (pv 2) (@pa_cons _ _ _ _ _ (pv 3) pa_nil (by rfl)) (by rfl)) (by rfl)) (by rfl))) rfl) (PSs.nox (@pss_cons _ _ _ _ _ (ps_fld (pv 0) (@pe_df _ _ _ _ _ _ _ _ _ _ (df_places_touched T) (hr.mono (by decide)) (@pa_cons _ _ _ _ _ (pe_fldK (K:=K) rfl (pv 0) (by rfl)) (@pa_cons _ _ _ _ _ (pe_fldK (K:=K) rfl (pv 0) (by rfl)) (@pa_cons _ _ _ _ _ (pe_fldK (K:=K) rfl (pv 0) (by rfl)) (@pa_cons _ _ _ _ _ (pv 1) (@pa_cons _ _ _ _ _ (pv 2) pa_nil (by rfl)) (by rfl)) (by rfl)) (by rfl)) (by rfl)) (by rfl) (by decide) (by rfl) (by rfl)) rfl)
      (@pss_one _ _ _ (@ps_for _ _ _ _ _ _ _ _ PassesOwn.never rfl (pi_seqK (K:=K) rfl (pe_fldK (K:=K) rfl (pv 0) (by rfl))) (pg_tupK (K:=K) rfl rfl (pgs_cons (pg_name (i:=4) sc_KeptField_change.nd rfl (by first | exact Or.inl rfl | exact Or.inr rfl)) (pgs_cons (pg_name (i:=5) sc_KeptField_change.nd rfl (by first | exact Or.inl rfl | exact Or.inr rfl)) pgs_nil))) (@pss_cons _ _ _ _ _ (@ps_set _ _ 6 _ _ _ _ sc_KeptField_change.nd rfl (by first | exact Or.inl rfl | exact Or.inr rfl) (@pe_df _ _ _ _ _ _ _ _ _ _ (df_window_cells T) (hr.mono (by decide)) (@pa_cons _ _ _ _ _ (pe_fldK (K:=K) rfl (pv 0) (by rfl)) (@pa_cons _ _ _ _ _ (pe_fldK (K:=K) rfl (pv 0) (by rfl)) (@pa_cons _ _ _ _ _ (pe_fldK (K:=K) rfl (pv 0) (by rfl)) (@pa_cons _ _ _ _ _ (pv 4) (@pa_cons _ _ _ _ _ (pv 5) pa_nil (by rfl)) (by rfl)) (by rfl)) (by rfl)) (by rfl)) (by rfl) (by decide) (by rfl) (by rfl)) (by rfl) (by first | exact .inl rfl | exact .inr rfl))
      (@pss_one _ _ _ (ps_fld (pv 0) (@pe_df _ _ _ _ _ _ _ _ _ _ (df_field_with T) (hr.mono (by decide)) (@pa_cons _ _ _ _ _ (pe_fldK (K:=K) rfl (pv 0) (by rfl)) (@pa_cons _ _ _ _ _ (pv 4) (@pa_cons _ _ _ _ _ (pv 5) (@pa_cons _ _ _ _ _ (@pe_df _ _ _ _ _ _ _ _ _ _ (df_told_of_cells T) (hr.mono (by decide)) (@pa_cons _ _ _ _ _ (pv 6) (@pa_cons _ _ _ _ _ (pe_fldK (K:=K) rfl (pv 0) (by rfl)) pa_nil (by rfl)) (by rfl)) (by rfl) (by decide) (by rfl) (by rfl)) pa_nil star_call) (by rfl)) (by rfl)) (by rfl)) (by rfl) (by decide) (by rfl) (by rfl)) rfl))) (by intro _;rfl)))))),?_⟩
    refine ⟨_,rfl,x,C,dy,_,_,rfl,hx,T.cl_KeptField,T.a_field,kp_field ..,_,rfl,_,rfl,_,rfl,?_⟩
    exact ⟨fv,F,i,j,c,rfl,R,hf,hin,q⟩
def spRefused (K:PySem.W.Frag)(C:Addr):Sp:=fun vs H Q _=>∃ (d c x dy:Addr) (gv fv wv rv sv tv cv:V) (F F2:List (List (Option Int))) (n:Nat),vs=[.ref d,.ref x,gv]∧Dk H d c n∧n≤90000∧Rect F∧Rect F2∧F2.length=F.length ∧ wideF F2=wideF F∧IsD H gv (fieldD F)∧H x=some (.ins C dy (kpF fv wv rv sv tv cv))∧IsD H fv (fieldD F2) ∧
  ∀ H',Dk H' d c (n + 12)→K2 d c H H'→Q (.bl true) H'
theorem tIfS_by {t:TT}{a b:TS}{D:Ends}{σ:St}{H:Hp}(P:Bool→Hp→Prop)(key:∀ c H1,P c H1→if c=true then a D σ H1 else b D σ H1)(test:∀ Q:Bool→Hp→Prop,(∀ c H1,P c H1→Q c H1)→t σ H Q):tIfS t a b D σ H:=test _ key
theorem inF_no {F:List (List (Option Int))}{i j:Int}(h:¬ ((0≤i∧i < F.length)∧0≤j∧j < (F.headD []).length)):inF F i j=false:=Bool.eq_false_iff.mpr fun z=>h (by unfold inF at z;simpa [and_assoc] using z)
theorem df_law_refused (T:Txt K mg C):Df P w K mg base 7 "_law_refused" ["deck","kept","field"] (spRefused K C):=by
  refine T.d_law_refused.ok sc_law_refused (fun vs H Q E h=>?_) (fun f cdv A outer s H vs Q E hr h=>?_)
  · obtain ⟨d,c,x,dy,gv,fv,wv,rv,sv,tv,cv,F,F2,n,rfl,_⟩:=h
    rfl
  · obtain ⟨d,c,x,dy,gv,fv,wv,rv,sv,tv,cv,F,F2,n,rfl,D,hn,R,R2,lF,wF,hg,hx,hf,q⟩:=h
    obtain ⟨aN,aF,aM,aP,aW,XX⟩:=T.x_exc
    refine ⟨_,(@pss_cons _ _ _ _ _ (@ps_set _ _ 3 _ _ _ _ sc_law_refused.nd rfl (by first | exact Or.inl rfl | exact Or.inr rfl) (@pe_callB _ _ _ _ _ _ _ _ _ (call_lenK (K:=K) rfl) (by rfl) T.n_len bt_len (@pa_cons _ _ _ _ _ (pv 2) pa_nil (by rfl)) (by decide) (by decide) (by rfl) (by rfl)) (by rfl) (by first | exact .inl rfl | exact .inr rfl))
      (@pss_cons _ _ _ _ _ (@ps_set _ _ 4 _ _ _ _ sc_law_refused.nd rfl (by first | exact Or.inl rfl | exact Or.inr rfl) (@pe_callB _ _ _ _ _ _ _ _ _ (call_lenK (K:=K) rfl) (by rfl) T.n_len bt_len (@pa_cons _ _ _ _ _ (@pe_ix _ _ _ _ _ _ _ (ix_seqK (K:=K) rfl) (pv 2) pe_int (fun _ _=>rfl)) pa_nil star_sub) (by decide) (by decide) (by rfl) (by rfl)) (by rfl) (by first | exact .inl rfl | exact .inr rfl))
      (@pss_cons _ _ _ _ _ (@ps_set _ _ 5 _ _ _ _ sc_law_refused.nd rfl (by first | exact Or.inl rfl | exact Or.inr rfl) (@pe_df _ _ _ _ _ _ _ _ _ _ (df_law_draw T) (hr.mono (by decide)) (@pa_cons _ _ _ _ _ (pv 0) (@pa_cons _ _ _ _ _ (@pe_ix _ _ _ _ _ _ _ (ix_seqK (K:=K) rfl) (@pe_lst _ _ _ _ (@pa_cons _ _ _ _ _ pe_int (@pa_cons _ _ _ _ _ (@pe_op _ _ _ _ _ _ _ _ op_pow pe_int pe_int) pa_nil star_bin) (by rfl))) (@pe_df _ _ _ _ _ _ _ _ _ _ (df_law_draw T) (hr.mono (by decide)) (@pa_cons _ _ _ _ _ (pv 0) (@pa_cons _ _ _ _ _ pe_int pa_nil (by rfl)) (by rfl)) (by rfl) (by decide) (by rfl) (by rfl)) (fun _ _=>rfl)) pa_nil star_sub) (by rfl)) (by rfl) (by decide) (by rfl) (by rfl)) (by rfl) (by first | exact .inl rfl | exact .inr rfl))
      (@pss_cons _ _ _ _ _ (@ps_set _ _ 6 _ _ _ _ sc_law_refused.nd rfl (by first | exact Or.inl rfl | exact Or.inr rfl) (@pe_lst _ _ _ _ (@pa_cons _ _ _ _ _ (@pe_op _ _ _ _ _ _ _ _ op_add (pv 3) (pv 5)) (@pa_cons _ _ _ _ _ (@pe_op _ _ _ _ _ _ _ _ op_sub (@pe_un _ _ _ _ _ _ un_neg pe_int) (pv 5)) pa_nil star_bin) star_bin)) (by rfl) (by first | exact .inl rfl | exact .inr rfl))
      (@pss_cons _ _ _ _ _ (@ps_set _ _ 7 _ _ _ _ sc_law_refused.nd rfl (by first | exact Or.inl rfl | exact Or.inr rfl) (@pe_ix _ _ _ _ _ _ _ (ix_seqK (K:=K) rfl) (@pe_lst _ _ _ _ (@pa_cons _ _ _ _ _ (@pe_ix _ _ _ _ _ _ _ (ix_seqK (K:=K) rfl) (pv 6) (@pe_df _ _ _ _ _ _ _ _ _ _ (df_law_draw T) (hr.mono (by decide)) (@pa_cons _ _ _ _ _ (pv 0) (@pa_cons _ _ _ _ _ pe_int pa_nil (by rfl)) (by rfl)) (by rfl) (by decide) (by rfl) (by rfl)) (fun _ _=>rfl)) (@pa_cons _ _ _ _ _ (@pe_df _ _ _ _ _ _ _ _ _ _ (df_law_draw T) (hr.mono (by decide)) (@pa_cons _ _ _ _ _ (pv 0) (@pa_cons _ _ _ _ _ (pv 3) pa_nil (by rfl)) (by rfl)) (by rfl) (by decide) (by rfl) (by rfl)) pa_nil star_call) star_sub)) (@pe_df _ _ _ _ _ _ _ _ _ _ (df_law_draw T) (hr.mono (by decide)) (@pa_cons _ _ _ _ _ (pv 0) (@pa_cons _ _ _ _ _ pe_int pa_nil (by rfl)) (by rfl)) (by rfl) (by decide) (by rfl) (by rfl)) (fun _ _=>rfl)) (by rfl) (by first | exact .inl rfl | exact .inr rfl))
      (@pss_cons _ _ _ _ _ (@ps_set _ _ 8 _ _ _ _ sc_law_refused.nd rfl (by first | exact Or.inl rfl | exact Or.inr rfl) (@pe_df _ _ _ _ _ _ _ _ _ _ (df_law_draw T) (hr.mono (by decide)) (@pa_cons _ _ _ _ _ (pv 0) (@pa_cons _ _ _ _ _ (pv 4) pa_nil (by rfl)) (by rfl)) (by rfl) (by decide) (by rfl) (by rfl)) (by rfl) (by first | exact .inl rfl | exact .inr rfl))
      (@pss_cons _ _ _ _ _ (@ps_if _ _ _ _ _ _ _ _ (pw_or (pt_chain op_le op_lt pe_int (pv 7) (pv 3)) (pw_or1 (@pt_cmpR _ _ _ _ _ _ _ _ (op_eqA hr.units) (@pe_df _ _ _ _ _ _ _ _ _ _ (df_law_draw T) (hr.mono (by decide)) (@pa_cons _ _ _ _ _ (pv 0) (@pa_cons _ _ _ _ _ pe_int pa_nil (by rfl)) (by rfl)) (by rfl) (by decide) (by rfl) (by rfl)) pe_int (nomark _)))).pt (@pss_one _ _ _ (@ps_set _ _ 8 _ _ _ _ sc_law_refused.nd rfl (by first | exact Or.inl rfl | exact Or.inr rfl) (@pe_ix _ _ _ _ _ _ _ (ix_seqK (K:=K) rfl) (@pe_lst _ _ _ _ (@pa_cons _ _ _ _ _ (@pe_op _ _ _ _ _ _ _ _ op_add (pv 4) (pv 5)) (@pa_cons _ _ _ _ _ (@pe_op _ _ _ _ _ _ _ _ op_sub (@pe_un _ _ _ _ _ _ un_neg pe_int) (pv 5)) pa_nil star_bin) star_bin)) (@pe_df _ _ _ _ _ _ _ _ _ _ (df_law_draw T) (hr.mono (by decide)) (@pa_cons _ _ _ _ _ (pv 0) (@pa_cons _ _ _ _ _ pe_int pa_nil (by rfl)) (by rfl)) (by rfl) (by decide) (by rfl) (by rfl)) (fun _ _=>rfl)) (by rfl) (by first | exact .inl rfl | exact .inr rfl))) pss_nil)
      (@pss_cons _ _ _ _ _ (@ps_set _ _ 9 _ _ _ _ sc_law_refused.nd rfl (by first | exact Or.inl rfl | exact Or.inr rfl) pe_non (by rfl) (by first | exact .inl rfl | exact .inr rfl))
      (@pss_cons _ _ _ _ _ (ps_tryAs (K:=K) rfl rfl rfl rfl sc_law_refused.nd (ie:=10) rfl rfl XX.win (fun pins W=>(@pss_one _ _ _ (@ps_expr _ _ _ _ (pe_mtS (df_X_KeptField_change T) T.cl_KeptField (hr.mono (by decide)) passS (pv 1) (@pa_cons _ _ _ _ _ (pv 7) (@pa_cons _ _ _ _ _ (pv 8) (@pa_cons _ _ _ _ _ (@pe_df _ _ _ _ _ _ _ _ _ _ (df_law_cell T) (hr.mono (by decide)) (@pa_cons _ _ _ _ _ (pv 0) (@pa_cons _ _ _ _ _ (pv 2) pa_nil (by rfl)) (by rfl)) (by rfl) (by decide) (by rfl) (by rfl)) pa_nil star_call) (by rfl)) (by rfl))) (by rfl)))) (fun v=>(@pss_one _ _ _ (@ps_set _ _ 9 _ _ _ _ sc_law_refused.nd rfl (by first | exact Or.inl rfl | exact Or.inr rfl) (pv 10) (by rfl) (by first | exact .inl rfl | exact .inr rfl)))))
      (@pss_cons _ _ _ _ _ (@ps_if _ _ _ _ _ _ _ _ (@pt_val _ _ _ (@pe_callB _ _ _ _ _ _ _ _ _ (CallR.or (call_isinstK (K:=K) rfl) (call_isinstX (K:=K) rfl)) (by rfl) T.n_isinstance bt_isinstance (@pa_cons _ _ _ _ _ (pv 9) (@pa_cons _ _ _ _ _ (@pe_tup _ _ _ _ _ (@pa_cons _ _ _ _ _ (pe_glob (v:=.ref _) (by rfl) XX.ask rfl) (@pa_cons _ _ _ _ _ (pe_glob (v:=.ref _) (by rfl) XX.field rfl) (@pa_cons _ _ _ _ _ (pe_glob (v:=.ref _) (by rfl) XX.number rfl) pa_nil (by rfl)) (by rfl)) (by rfl))) pa_nil star_tup) (by rfl)) (by decide) (by decide) (by rfl) (by rfl)) (by intro _;rfl)) (@pss_one _ _ _ (@ps_ret _ _ _ _ pe_bl)) pss_nil)
      (@pss_one _ _ _ (@ps_ret _ _ _ _ (pe_and (@pe_callB _ _ _ _ _ _ _ _ _ (CallR.or (call_isinstK (K:=K) rfl) (call_isinstX (K:=K) rfl)) (by rfl) T.n_isinstance bt_isinstance (@pa_cons _ _ _ _ _ (pv 9) (@pa_cons _ _ _ _ _ (pe_glob (v:=.ref _) (by rfl) XX.place rfl) pa_nil (by rfl)) (by rfl)) (by decide) (by decide) (by rfl) (by rfl)) (pe_one (@pe_callB _ _ _ _ _ _ _ _ _ (CallR.or (call_isinstK (K:=K) rfl) (call_isinstX (K:=K) rfl)) (by rfl) T.n_isinstance bt_isinstance (@pa_cons _ _ _ _ _ (pv 9) (@pa_cons _ _ _ _ _ (pe_bltn (v:=.ty "ValueError") (by rfl) T.n_ValueError bt_ValueError rfl) pa_nil (by rfl)) (by rfl)) (by decide) (by decide) (by rfl) (by rfl)))))))))))))))),?_⟩
    have h1:=R.h1;have hs:=R.hs;have w1:=R.w1;have ws:=R.ws
    have e6:(10:Int) ^ (6:Int).toNat=1000000:=by decide
    obtain ⟨fa,xs,b0,ys0,rfl,hfa,la,hb0,hb,lb⟩:=field_sizes R hg
    refine ⟨_,rfl,_,_,rfl,Or.inr ⟨_,SqT.of hfa,rfl⟩,?_⟩
    dsimp only [gName,List.set]
    refine ⟨_,rfl,Or.inr (Or.inl ⟨_,_,_,_,rfl,rfl,SqT.of hfa,hb0,_,_,rfl,Or.inr ⟨_,SqT.of hb,rfl⟩,?_⟩)⟩
    dsimp only [gName,List.set]
    rw [la,lb]
    refine ⟨_,rfl,_,_,rfl,rfl,⟨by decide,by decide,by decide⟩,(by show 2≤sizeLine;decide),fun p1 hp1=>?_⟩
    refine ⟨_,rfl,_,_,_,_,rfl,D.upd hp1,(by decide),(by decide),by omega,fun y1 H1 y10 y11 D1 k1=>?_⟩
    obtain ⟨m,em,hm⟩:=pickI (x:=y1) (ms:=[2,(10:Int) ^ (6:Int).toNat]) y10 (by exact y11)
    rw [e6] at hm
    have hm':2≤m∧m≤1000000:=by
      simp only [List.mem_cons,List.not_mem_nil,or_false] at hm
      omega
    refine Or.inl ⟨_,_,_,_,rfl,rfl,SqL.of (k1 p1 _ upd_same (D.nd hp1).1 (D.nd hp1).2),em,?_⟩
    have K1:K2 d c H H1:=((K2.refl d c H).upd hp1).trans k1
    refine ⟨_,_,_,_,rfl,D1,by omega,by omega,by omega,fun far H2 far0 far1 D2 k2=>?_⟩
    have K2':=K1.trans k2
    dsimp only [gName,List.set]
    refine ⟨_,rfl,_,rfl,_,_,rfl,rfl,_,rfl,_,rfl,_,_,rfl,rfl,(by show 2≤sizeLine;decide),fun p3 hp3=>?_⟩
    dsimp only [gName,List.set]
    have e3:upd H2 p3 (.lst [.int (F.length + far),.int (-1 - far)]) p3=some (.lst [.int (F.length + far),.int (-1 - far)]):=upd_same
    have D3:Dk (upd H2 p3 (.lst [.int (F.length + far),.int (-1 - far)])) d c (n + 1 + 1):=D2.upd hp3
    have K3:K2 d c H (upd H2 p3 (.lst [.int (F.length + far),.int (-1 - far)])):=K2'.upd hp3
    have n3:=D2.nd hp3
    generalize upd H2 p3 (.lst [.int (F.length + far),.int (-1 - far)])=H3 at e3 D3 K3 ⊢
    refine ⟨_,rfl,_,rfl,_,_,_,_,rfl,D3,(by decide),(by decide),by omega,fun y4 H4 y40 y41 D4 k4=>?_⟩
    obtain ⟨o1,eo1,ho1⟩:=pickI (x:=y4) (ms:=[F.length + far,-1 - far]) y40 (by exact y41)
    refine Or.inl ⟨_,_,_,_,rfl,rfl,SqL.of (k4 _ _ e3 n3.1 n3.2),eo1,?_⟩
    refine ⟨_,rfl,_,rfl,_,_,_,_,rfl,D4,by omega,by omega,by omega,fun y5 H5 y50 y51 D5 k5=>?_⟩
    refine ⟨(by show 2≤sizeLine;decide),fun p6 hp6=>?_⟩
    refine ⟨_,rfl,_,_,_,_,rfl,D5.upd hp6,(by decide),(by decide),by omega,fun y7 H7 y70 y71 D7 k7=>?_⟩
    obtain ⟨u,eu,hu⟩:=pickI (x:=y7) (ms:=[o1,y5]) y70 (by exact y71)
    refine Or.inl ⟨_,_,_,_,rfl,rfl,SqL.of (k7 p6 _ upd_same (D5.nd hp6).1 (D5.nd hp6).2),eu,?_⟩
    have K7:K2 d c H H7:=((((K3.trans k4).trans k5).upd hp6)).trans k7
    dsimp only [gName,List.set]
    refine ⟨_,rfl,_,rfl,_,_,_,_,rfl,D7,by omega,by omega,by omega,fun v H8 v0 v1 D8 k8=>?_⟩
    have K8:=K7.trans k8
    dsimp only [gName,List.set]
    have bu:-1000001≤u∧u≤F.length + 1000000:=by
      simp only [List.mem_cons,List.not_mem_nil,or_false] at ho1 hu
      omega
    refine tSeq_cut (fun σ' H'=>∃ v':Int,σ'=[some (.ref d),some (.ref x),some (.ref fa),some (.int F.length),some (.int (F.headD []).length),some (.int far),some (.ref p3),some (.int u),some (.int v'),none,none]∧Dk H' d c (n + 8)∧K2 d c H H'∧inF F u v'=false) ?_ (fun rest=>?_)
    rotate_left
    · refine tIfS_by (fun c' H9=>Dk H9 d c (n + 7)∧K2 d c H H9∧(c'=false→¬ (0≤u∧u < F.length))) (fun c' H9 ⟨D9,K9,hno⟩=>?_) (fun Q' hQ=>?_)
      · cases c' with
        | false=>exact rest _ _ ⟨v,rfl,D9.mono (by omega),K9,inF_no fun z=>hno rfl z.1⟩
        | true =>
          refine iteT ?_
          refine ⟨_,rfl,_,rfl,_,_,rfl,rfl,_,rfl,_,rfl,_,_,rfl,rfl,(by show 2≤sizeLine;decide),fun p10 hp10=>?_⟩
          refine ⟨_,rfl,_,_,_,_,rfl,D9.upd hp10,(by decide),(by decide),by omega,fun y11 H11 y110 y111 D11 k11=>?_⟩
          obtain ⟨v',ev,hv⟩:=pickI (x:=y11) (ms:=[(F.headD []).length + far,-1 - far]) y110 (by exact y111)
          refine Or.inl ⟨_,_,_,_,rfl,rfl,SqL.of (k11 p10 _ upd_same (D9.nd hp10).1 (D9.nd hp10).2),ev,?_⟩
          refine rest _ _ ⟨v',rfl,D11,(K9.upd hp10).trans k11,inF_no fun z=>?_⟩
          simp only [List.mem_cons,List.not_mem_nil,or_false] at hv
          omega
      · have other:¬ (0≤u∧u < F.length)→(tTest (tOp (fun x y H Q=>rEq x y H Q ∨ rEqD 0 x y H Q) (tCall spDraw3 [] E0 (tCons (tVar 0) (tCons (tC (V.int 2)) tNil))) (tC (V.int 0)))) [some (.ref d),some (.ref x),some (.ref fa),some (.int F.length),some (.int (F.headD []).length),some (.int far),some (.ref p3),some (.int u),some (.int v),none,none] H8 Q':=fun hno=>by
          refine ⟨_,rfl,_,_,_,_,rfl,D8,(by decide),(by decide),by omega,fun y9 H9 y90 y91 D9 k9=>?_⟩
          exact Or.inl ⟨rfl,_,rfl,hQ _ _ ⟨D9.mono (by omega),K8.trans k9,fun _=>hno⟩⟩
        refine ⟨_,rfl,_,_,rfl,rfl,_,rfl,?_⟩
        refine ite2 (fun z1=>?_) (fun z1=>?_)
        · refine ⟨_,rfl,_,_,rfl,rfl,_,rfl,?_⟩
          refine ite2 (fun z2=>?_) (fun z2=>?_)
          · exact hQ _ _ ⟨D8.mono (by omega),K8,fun z=>by cases z⟩
          · exact other fun z=>z2 (decide_eq_true z.2)
        · refine ⟨_,rfl,iteF ?_⟩
          exact other fun z=>z1 (decide_eq_true z.1)
    rintro _ H9 ⟨v',rfl,D9,K9,hin⟩
    have t9:=K9.tups D
    have xk:∀ {Ha Hb:Hp} {na:Nat} {fs:List (Str × V)},Dk Ha d c na→K2 d c Ha Hb→Ha x=some (.ins C dy fs)→Hb x=some (.ins C dy fs):=fun {Ha Hb na fs} Da k e=>by
      obtain ⟨_,_,_,_,g1,g2,_⟩:=Da
      exact k _ _ e (ne_of e g1 fun z=>by cases z) (ne_of e g2 fun z=>by cases z)
    have x9:=xk D K9 hx
    refine ⟨_,rfl,x,dy,_,rfl,x9,kp_no_change ..,_,rfl,_,rfl,_,rfl,_,rfl,?_⟩
    refine ⟨d,c,_,F,_,rfl,D9,by omega,R,hg.keep t9,fun cl H10 D10 k10=>?_⟩
    have t10:=k10.tups D9
    have hin2:inF F2 u v'=false:=by have e:(F2.headD []).length=(F.headD []).length:=wF;unfold inF at hin ⊢;rw [lF,e];exact hin
    refine ⟨x,dy,fv,wv,rv,sv,tv,cv,F2,u,v',cl,rfl,xk D9 k10 x9,R2,(hf.keep t9).keep t10,hin2,fun a ha=>?_⟩
    obtain rfl:a=aP:=by have:=ha.symm.trans XX.place;cases this;rfl
    refine ⟨XX.exmP,fun y hy=>?_⟩
    have s11:=same_upd (o:=.ext (ExAt y (.ref a))) hy
    have e11:upd H10 y (.ext (ExAt y (.ref a))) y=some (.ext (ExAt y (.ref a))):=upd_same
    have K11:K2 d c H (upd H10 y (.ext (ExAt y (.ref a)))):=(K9.trans k10).upd hy
    have D11:=D10.keep s11
    generalize upd H10 y (.ext (ExAt y (.ref a)))=H11 at s11 e11 K11 D11 ⊢
    refine ⟨_,rfl,?_⟩
    dsimp only [gName,List.set]
    refine ⟨_,rfl,(by show 3≤sizeLine;decide),fun p12 hp12=>Or.inr ⟨y,a,.ref p12,false,rfl,same_upd hp12 _ _ e11,XX.kitP,Or.inr ⟨p12,_,rfl,upd_same,rfl,kitAny_no XX.kPN (kitAny_no XX.kPF (kitAny_no XX.kPM rfl))⟩,_,rfl,iteF ?_⟩⟩
    have s12:=same_upd (o:=.tup [.ref aN,.ref aF,.ref aM]) hp12
    refine ⟨_,rfl,Or.inr ⟨y,a,.ref a,true,rfl,s12 _ _ e11,XX.kitP,Or.inl ⟨rfl,XX.kPP⟩,?_⟩⟩
    refine ⟨_,rfl,?_⟩
    refine iteT ?_
    refine ⟨_,rfl,Or.inr ⟨y,a,.ty "ValueError",true,rfl,s12 _ _ e11,XX.kitP,Or.inl ⟨rfl,XX.veP⟩,?_⟩⟩
    exact q _ (D11.keep s12) (K11.upd hp12)
def doneD (x:Nat × Nat × Option Int):PyData:=.tuple [.int x.1,.int x.2.1,cellD x.2.2]
def undo:List (Nat × Nat × Option Int)→List (List (Option Int))→List (List (Option Int))
  | [],F=>F
  | x :: r,F=>undo r (putC F x.1 x.2.1 x.2.2)
theorem undo_take:∀ (L:List (Nat × Nat × Option Int)) (F:List (List (Option Int))) (m:Nat) (h:m < L.length),undo (L.take (m + 1)) F=putC (undo (L.take m) F) L[m].1 L[m].2.1 L[m].2.2
  | x :: r,F,0,_=>rfl
  | x :: r,F,m + 1,h=>undo_take r (putC F x.1 x.2.1 x.2.2) m (Nat.lt_of_succ_lt_succ h)
theorem undo_rect:∀ (L:List (Nat × Nat × Option Int)) (F:List (List (Option Int))),Rect F→(∀ x∈L,x.1 < F.length ∧ x.2.1 < wideF F)→Rect (undo L F)∧(undo L F).length=F.length ∧ wideF (undo L F)=wideF F
  | [],F,R,_=>⟨R,rfl,rfl⟩
  | x :: r,F,R,h=>by
    obtain ⟨h1,h2⟩:=h x (by simp)
    obtain ⟨RP,LP,WP⟩:=putC_rect R h1 h2 x.2.2
    have WP':wideF (putC F x.1 x.2.1 x.2.2)=wideF F:=WP
    obtain ⟨a,b,c⟩:=undo_rect r (putC F x.1 x.2.1 x.2.2) RP fun y hy=>by rw [LP,WP'];exact h y (by simp [hy])
    exact ⟨a,by rw [← LP];exact b,by rw [← WP'];exact c⟩
theorem putC_swap {F:List (List (Option Int))}(R:Rect F){i j k l:Nat}(hi:i < F.length)(hj:j < wideF F)(hk:k < F.length)(hl:l < wideF F)(ne:(i,j)≠(k,l))(c e:Option Int):putC (putC F i j c) k l e=putC (putC F k l e) i j c:=by
  have hj':j < (F.headD []).length:=hj
  have hl':l < (F.headD []).length:=hl
  obtain ⟨R1,L1,W1⟩:=putC_rect R hi hj' c
  obtain ⟨R2,L2,W2⟩:=putC_rect R hk hl' e
  obtain ⟨R3,L3,W3⟩:=putC_rect R1 (i:=k) (j:=l) (by omega) (by omega) e
  obtain ⟨R4,L4,W4⟩:=putC_rect R2 (i:=i) (j:=j) (by omega) (by omega) c
  refine field_ext R3 R4 (by omega) (by unfold wideF;omega) fun p q hp hq=>?_
  unfold wideF at hq
  have ein:∀ {G:List (List (Option Int))},p < G.length → q < (G.headD []).length → inF G (p:Int) (q:Int)=true:=fun {G} h1 h2=>by
    unfold inF
    rw [decide_eq_true (show (0:Int)≤(p:Int) by omega),decide_eq_true (show (p:Int) < G.length by omega),decide_eq_true (show (0:Int)≤(q:Int) by omega),decide_eq_true (show (q:Int) < (G.headD []).length by omega)]
    rfl
  rw [putC_cell R1 (by omega) (by omega) e (ein (by omega) (by omega)),putC_cell R2 (by omega) (by omega) c (ein (by omega) (by omega)),putC_cell R hi hj' c (ein (by omega) (by omega)),putC_cell R hk hl' e (ein (by omega) (by omega))]
  by_cases z:(p:Int)=(k:Int)∧(q:Int)=(l:Int)
  · rw [if_pos z,if_pos z,if_neg]
    rintro ⟨a,b⟩
    exact ne (by rw [show i=k by omega,show j=l by omega])
  · rw [if_neg z,if_neg z]
theorem undo_perm {L M:List (Nat × Nat × Option Int)}(p:L.Perm M):∀ F:List (List (Option Int)),Rect F→(∀ x∈L,x.1 < F.length ∧ x.2.1 < wideF F)→(L.map fun x=>(x.1,x.2.1)).Nodup → undo L F=undo M F:=by
  induction p with
  | nil=>intro F _ _ _;rfl
  | cons x p ih =>
    intro F R h nd
    obtain ⟨h1,h2⟩:=h x (by simp)
    obtain ⟨RP,LP,WP⟩:=putC_rect R h1 h2 x.2.2
    have WP':wideF (putC F x.1 x.2.1 x.2.2)=wideF F:=WP
    exact ih _ RP (fun y hy=>by rw [LP,WP'];exact h y (by simp [hy])) (List.nodup_cons.mp nd).2
  | swap x y l =>
    intro F R h nd
    obtain ⟨h1,h2⟩:=h x (by simp)
    obtain ⟨h3,h4⟩:=h y (by simp)
    have ne:(y.1,y.2.1)≠(x.1,x.2.1):=fun e=>by
      rw [List.map_cons,List.map_cons] at nd
      exact (List.nodup_cons.mp nd).1 (by rw [e];simp)
    show undo l (putC (putC F y.1 y.2.1 y.2.2) x.1 x.2.1 x.2.2)=undo l (putC (putC F x.1 x.2.1 x.2.2) y.1 y.2.1 y.2.2)
    rw [putC_swap R h3 h4 h1 h2 ne]
  | trans p1 p2 ih1 ih2 =>
    intro F R h nd
    rw [ih1 F R h nd]
    exact ih2 F R (fun x hx=>h x (p1.mem_iff.mpr hx)) ((p1.map _).nodup_iff.mp nd)
def rk2 (t:Int × Int):Int:=t.1 * 1000 + t.2
theorem holds_rise (ru:Rule)(p:Int)(n a b m:Nat):(holds ru p n a b m).Pairwise (· < ·):=List.Pairwise.filter _ List.pairwise_lt_range
theorem touched_in {F:List (List (Option Int))}{ru:Rule}{u d l r:Nat}{i j:Int}{t:Int × Int}(h:t∈touched F ru u d l r i j):(0≤t.1 ∧ t.1 < F.length)∧0≤t.2 ∧ t.2 < wideF F:=by
  unfold touched at h
  obtain ⟨p,hp,ht⟩:=List.mem_flatMap.mp h
  obtain ⟨q,hq,rfl⟩:=List.mem_map.mp ht
  have h1:=(holds_mem.mp hp).1
  have h2:=(holds_mem.mp hq).1
  dsimp only
  omega
theorem touched_rise {F:List (List (Option Int))}(hw:wideF F≤1000)(ru:Rule)(u d l r:Nat)(i j:Int):(touched F ru u d l r i j).Pairwise (fun x y=>rk2 x < rk2 y):=by
  unfold touched
  rw [List.pairwise_flatMap]
  refine ⟨fun p _=>?_,(holds_rise ..).imp ?_⟩
  · rw [List.pairwise_map]
    refine (holds_rise ..).imp ?_
    intro a b hab
    unfold rk2
    dsimp only
    omega
  · intro a b hab x hx y hy
    obtain ⟨q,hq,rfl⟩:=List.mem_map.mp hx
    obtain ⟨q',hq',rfl⟩:=List.mem_map.mp hy
    have h1:=(holds_mem.mp hq).1
    have h2:=(holds_mem.mp hq').1
    unfold rk2
    dsimp only
    omega
theorem laid_in (ru:Rule){p n:Int}(h0:0≤p)(h1:p < n):laid ru p n=some p:=by unfold laid;rw [if_pos ⟨h0,h1⟩]
theorem holds_self (ru:Rule){p n:Nat}(a b:Nat)(h:p < n):p∈holds ru (p:Int) n a b n:=holds_mem.mpr ⟨h,a,by omega,by rw [show (p:Int) - a + (a:Int)=p by omega];exact laid_in ru (by omega) (by omega)⟩
theorem touched_self {F:List (List (Option Int))}(ru:Rule)(u d l r:Nat){i j:Nat}(hi:i < F.length)(hj:j < wideF F):((i:Int),(j:Int))∈touched F ru u d l r i j:=touched_mem.mpr ⟨holds_self ru u d hi,holds_self ru l r hj⟩
theorem touched_few {F:List (List (Option Int))}(ru:Rule)(u d l r:Nat)(i j:Int)(hh:F.length ≤ 6)(hw:wideF F≤6):(touched F ru u d l r i j).length < 40:=by
  unfold touched
  rw [List.length_flatMap]
  have h:∀ xs:List Nat,(xs.map fun a:Nat=>(List.map (fun q:Nat=>((a:Int),(q:Int))) (holds ru j (wideF F) l r (wideF F))).length).sum ≤ xs.length * 6:=fun xs=>by
    induction xs with
    | nil=>exact Nat.zero_le _
    | cons x xs ih =>
      rw [List.map_cons,List.sum_cons,List.length_cons,List.length_map,Nat.succ_mul]
      have:=holds_len ru j (wideF F) l r (wideF F)
      omega
  have h1:=h (holds ru i F.length u d F.length)
  have h2:=holds_len ru i F.length u d F.length
  omega
theorem one_of {l:List Nat}{i:Nat}(h:l.Pairwise (· < ·))(m:∀ o,o∈l↔o=i):l=[i]:=by
  match l,h with
  | [],_=>exact absurd ((m i).mpr rfl) (by simp)
  | [a],_=>rw [(m a).mp (by simp)]
  | a :: b :: l,h =>
    have h1:=(m a).mp (by simp)
    have h2:=(m b).mp (by simp)
    have:=(List.pairwise_cons.mp h).1 b (by simp)
    omega
theorem holds_one (ru:Rule){p n:Nat}(h:p < n):holds ru (p:Int) n 0 0 n=[p]:=by
  refine one_of (holds_rise ..) fun o=>?_
  rw [holds_mem]
  constructor
  · rintro ⟨ho,k,hk,e⟩
    obtain rfl:k=0:=by omega
    rw [show (o:Int) - ((0:Nat):Int) + ((0:Nat):Int)=o by omega,laid_in ru (by omega) (by omega)] at e
    have:=Option.some.inj e
    omega
  · rintro rfl
    exact ⟨h,0,by omega,by rw [show (o:Int) - ((0:Nat):Int) + ((0:Nat):Int)=o by omega];exact laid_in ru (by omega) (by omega)⟩
theorem touched_one {F:List (List (Option Int))}(ru:Rule){i j:Nat}(hi:i < F.length)(hj:j < wideF F):touched F ru 0 0 0 0 i j=[((i:Int),(j:Int))]:=by
  unfold touched
  rw [holds_one ru hi,holds_one ru hj]
  rfl
theorem laid_told (p n:Int)(c:Option Int):laid .there p n=laid (.told c) p n:=by
  unfold laid
  split <;> rfl
theorem touched_told (F:List (List (Option Int)))(u d l r:Nat)(i j:Int)(c:Option Int):touched F .there u d l r i j=touched F (.told c) u d l r i j:=by
  have h:∀ p n a b m,holds .there p n a b m=holds (.told c) p n a b m:=fun p n a b m=>by
    unfold holds holdsB heldC
    simp only [laid_told _ _ c]
  unfold touched
  rw [h,h]
theorem pairs_of {H:Hp}:∀ {ts:List (Int × Int)} {ps:List V},IsDs H ps (ts.map placeD)→∃ qs:List MwSortR.Pr,ps=qs.map (fun t=>V.ref t.1)∧qs.map (·.2)=ts∧∀ t∈qs,H t.1=some (.tup [.int t.2.1,.int t.2.2])
  | [],_,h=>by cases h;exact ⟨[],rfl,rfl,fun t ht=>by cases ht⟩
  | t :: ts,_,h=>by
    rw [List.map_cons] at h
    cases h with
    | cons h1 h2 =>
      obtain ⟨qs,e1,e2,e3⟩:=pairs_of h2
      obtain ⟨p,xs,rfl,hp,hx⟩:=h1.tuple_inv
      cases hx with | cons a hx=>cases hx with | cons b hx=>cases hx with
      | nil =>
        cases a
        cases b
        refine ⟨(p,t) :: qs,by rw [e1];rfl,by rw [List.map_cons,e2],fun y hy=>?_⟩
        rcases List.mem_cons.mp hy with rfl | hy
        · exact hp
        · exact e3 y hy
theorem of_pairs {H:Hp}:∀ {qs:List MwSortR.Pr},(∀ t∈qs,H t.1=some (.tup [.int t.2.1,.int t.2.2]))→IsDs H (qs.map fun t=>V.ref t.1) ((qs.map (·.2)).map placeD)
  | [],_=>.nil
  | t :: qs,h=>.cons (isPlace (h t (by simp))) (of_pairs fun y hy=>h y (by simp [hy]))
theorem same_rk:∀ {xs ys:List (Int × Int)},(∀ t∈xs,0≤t.2 ∧ t.2 < 1000)→(∀ t∈ys,0≤t.2 ∧ t.2 < 1000)→xs.map rk2=ys.map rk2→xs=ys
  | [],[],_,_,_=>rfl
  | [],_ :: _,_,_,h=>by cases h
  | _ :: _,[],_,_,h=>by cases h
  | x :: xs,y :: ys,hx,hy,h=>by
    rw [List.map_cons,List.map_cons] at h
    injection h with h1 h2
    have b1:=hx x (by simp)
    have b2:=hy y (by simp)
    rw [same_rk (fun t ht=>hx t (by simp [ht])) (fun t ht=>hy t (by simp [ht])) h2]
    unfold rk2 at h1
    have e1:x.1=y.1:=by omega
    have e2:x.2=y.2:=by omega
    rw [show x=y from Prod.ext e1 e2]
def spRising:Sp:=fun vs H Q _=>∃ (cp:Addr) (ps:List V) (ts:List (Int × Int)) (i j:Int),vs=[.ref cp,.int i,.int j]∧H cp=some (.tup ps)∧IsDs H ps (ts.map placeD)∧(∀ t∈ts,(0≤t.1 ∧ t.1 < 6)∧0≤t.2 ∧ t.2 < 6)∧ts.Pairwise (fun x y=>rk2 x < rk2 y)∧ts.length < 40∧(i,j)∈ts∧∀ H',Same H H'→Q (.bl true) H'
theorem canLay_pl:∀ ts:List (Int × Int),PyData.canLayAll0 (ts.map placeD)=true:=canLay_places
theorem depth_pl:∀ ts:List (Int × Int),PyData.depthAll (ts.map placeD)≤1
  | []=>Nat.zero_le _
  | p :: r=>by
    have h:=depth_pl r
    rw [List.map_cons,PyData.depthAll]
    have h2:(placeD p).depth=1:=rfl
    omega
theorem eqv_pl:∀ ts:List (Int × Int),PyData.eqvAll (ts.map placeD) (ts.map placeD)=true
  | []=>rfl
  | p :: r=>by
    rw [List.map_cons,PyData.eqvAll,eqv_pl r,Bool.and_true]
    simp [placeD,PyData.eqv,PyData.eqvAll]
theorem df_law_is_rising (T:Txt K mg C):Df P w K mg base 1 "_law_is_rising" ["places","i","j"] spRising:=by
  refine T.d_law_is_rising.ok sc_law_is_rising (fun vs H Q E h=>?_) (fun f cdv A outer s H vs Q E hr h=>?_)
  · obtain ⟨cp,ps,ts,i,j,rfl,_⟩:=h
    rfl
  · obtain ⟨cp,ps,ts,i,j,rfl,hcp,hps,hb,hrs,hl,hin,q⟩:=h
    refine ⟨_,(@pss_one _ _ _ (@ps_ret _ _ _ _ (pe_and (@pe_cmpR _ _ _ _ _ _ _ _ (op_inD hr.units) (@pe_tup _ _ _ _ _ (@pa_cons _ _ _ _ _ (pv 1) (@pa_cons _ _ _ _ _ (pv 2) pa_nil (by rfl)) (by rfl))) (pv 0) (by rfl)) (pe_one (@pe_cmpR _ _ _ _ _ _ _ _ (op_eqX hr.units) (@pe_callTy _ _ _ _ _ _ _ _ _ (CallR.or (call_listK (K:=K) rfl) (call_list_rng rfl)) (by rfl) T.n_list bt_list (@pa_cons _ _ _ _ _ (pv 0) pa_nil (by rfl)) (by decide) (by decide) (by rfl) (by rfl)) (@pe_callB _ _ _ _ _ _ _ _ _ (call_sorted_setP (w:=w) rfl rfl) (by rfl) T.n_sorted bt_sorted (@pa_cons _ _ _ _ _ (@pe_callTy _ _ _ _ _ _ _ _ _ (call_setP rfl (hu100 hr)) (by rfl) T.n_set bt_set (@pa_cons _ _ _ _ _ (pv 0) pa_nil (by rfl)) (by decide) (by decide) (by rfl) (by rfl)) pa_nil star_call) (by decide) (by decide) (by rfl) (by rfl)) (nomark _)))))),?_⟩
    refine ⟨_,rfl,_,rfl,(by show 2≤sizeLine;decide),fun t ht=>?_⟩
    have s1:=same_upd (o:=.tup [.int i,.int j]) ht
    have e1:upd H t (.tup [.int i,.int j]) t=some (.tup [.int i,.int j]):=upd_same
    generalize upd H t (.tup [.int i,.int j])=H1 at s1 e1 ⊢
    refine ⟨_,rfl,placeD (i,j),ts.map placeD,isPlace e1,.tup (s1 _ _ hcp) (hps.keep s1.tups),by simp [placeD,PyData.canLay0,PyData.canLayAll0],canLay_pl _,by simp [placeD,PyData.depth,PyData.depthAll],?_⟩
    rw [place_any hin]
    refine ⟨_,rfl,iteT ?_⟩
    refine ⟨_,rfl,Or.inl ⟨cp,ps,rfl,Or.inr (SqT.of (s1 _ _ hcp)),fun l2 hl2=>?_⟩⟩
    have s2:=same_upd (o:=.lst ps) hl2
    have e2:upd H1 l2 (.lst ps) l2=some (.lst ps):=upd_same
    generalize upd H1 l2 (.lst ps)=H2 at s2 e2 ⊢
    have S2:=s1.trans s2
    obtain ⟨qs,rfl,rfl,hq⟩:=pairs_of (hps.keep S2.tups)
    have nd:(qs.map (·.2)).Nodup:=hrs.imp fun {x y} h e=>by rw [e] at h;omega
    rw [List.length_map] at hl
    have hbq:∀ t∈qs,(0≤t.2.1 ∧ t.2.1 < 6)∧0≤t.2.2 ∧ t.2.2 < 6:=fun t ht=>hb t.2 (List.mem_map.mpr ⟨t,ht,rfl⟩)
    refine ⟨_,rfl,cp,qs,rfl,S2 _ _ hcp,hq,hbq,nd,hl,fun l3 hl3=>?_⟩
    have s3:=same_upd (o:=SetPO w l3 qs) hl3
    have e3:upd H2 l3 (SetPO w l3 qs) l3=some (SetPO w l3 qs):=upd_same
    refine ⟨l3,qs,rfl,e3,by omega,fun t ht=>⟨s3 _ _ (hq t ht),(hbq t ht).2.1,by have:=(hbq t ht).2.2;omega⟩,fun l4 out hl4 ho1 ho2=>?_⟩
    have s4:=same_upd (o:=.lst (out.map fun t=>V.ref t.1)) hl4
    have eo:out.map (·.2)=qs.map (·.2):=by
      refine same_rk (fun t ht=>?_) (fun t ht=>?_) ?_
      · obtain ⟨y,hy,rfl⟩:=List.mem_map.mp ht
        have:=hbq y (ho1.mem_iff.mp hy)
        omega
      · obtain ⟨y,hy,rfl⟩:=List.mem_map.mp ht
        have:=hbq y hy
        omega
      · refine rise_eq ((ho1.map _).map _) ?_ ?_
        · rw [List.pairwise_map,List.pairwise_map]
          exact ho2
        · rw [List.pairwise_map]
          exact hrs.imp fun h=>Int.le_of_lt h
    have q2:IsDs (upd (upd H2 l3 (SetPO w l3 qs)) l4 (.lst (out.map fun t=>V.ref t.1))) (out.map fun t=>V.ref t.1) ((qs.map (·.2)).map placeD):=by
      rw [← eo]
      exact of_pairs fun t ht=>s4 _ _ (s3 _ _ (hq t (ho1.mem_iff.mp ht)))
    refine Or.inr ⟨l2,l4,_,_,_,_,rfl,rfl,s4 _ _ (s3 _ _ e2),upd_same,(of_pairs hq).keep (s3.trans s4).tups,q2,⟨canLay_pl _,canLay_pl _,?_⟩,?_⟩
    · have:=depth_pl (qs.map (·.2))
      show PyData.depthAll _ + 1≤20
      omega
    · rw [eqv_pl]
      exact q _ ((S2.trans s3).trans s4)
theorem seqIx {i:Int}{n:Nat}(h0:0≤i)(h1:i < n):seqIndex? i n=some i.toNat:=by
  unfold seqIndex?
  have e:(if i < 0 then i + (n:Int) else i)=i:=if_neg (by omega)
  show (if (decide (0≤(if i < 0 then i + (n:Int) else i)) && decide ((if i < 0 then i + (n:Int) else i) < (n:Int)))=true then some (if i < 0 then i + (n:Int) else i).toNat else none)=some i.toNat
  rw [e,decide_eq_true h0,decide_eq_true h1]
  rfl
theorem isDs_erase {H:Hp}:∀ {xs:List V} {ds:List PyData} (k:Nat),IsDs H xs ds→IsDs H (xs.eraseIdx k) (ds.eraseIdx k)
  | _,_,k,.nil=>by cases k <;> exact .nil
  | _,_,0,.cons _ h=>h
  | _,_,k + 1,.cons a h=>.cons a (isDs_erase k h)
theorem er_map {α β:Type}(f:α→β):∀ (l:List α) (i:Nat),(l.eraseIdx i).map f=(l.map f).eraseIdx i
  | [],i=>by simp
  | a :: l,0=>rfl
  | a :: l,i + 1=>by
    show f a :: (l.eraseIdx i).map f=f a :: (l.map f).eraseIdx i
    rw [er_map f l i]
def pl2 (t:Nat × Nat):PyData:=placeD ((t.1:Int),(t.2:Int))
def key (x:Nat × Nat × Option Int):Nat × Nat:=(x.1,x.2.1)
theorem pl2_inv {H:Hp}{v:V}{t:Nat × Nat}(h:IsD H v (pl2 t)):∃ p,v = .ref p∧H p=some (.tup [.int (t.1:Int),.int (t.2:Int)]):=by
  obtain ⟨p,xs,rfl,hp,hx⟩:=h.tuple_inv
  cases hx with | cons a hx=>cases hx with | cons b hx=>cases hx with
  | nil =>
    cases a
    cases b
    exact ⟨p,rfl,hp⟩
def spCells33:Sp:=fun vs H Q _=>∃ (d c:Addr) (fv:V) (F:List (List (Option Int))) (many:Int) (n:Nat),vs=[.ref d,fv,.int many]∧Dk H d c n∧n≤90000∧Rect F∧F.length ≤ 6∧wideF F≤6∧IsD H fv (fieldD F)∧0≤many∧many≤6 ∧
  ∀ (fo:Addr) (xs:List V) (L:List (Nat × Nat × Option Int)) (H':Hp),H fo=none→K2 d c H H'→Dk H' d c (n + 30)→H' fo=some (.lst xs)→IsDs H' xs (L.map doneD)→L.length ≤ 6→(∀ x∈L,x.1 < F.length ∧ x.2.1 < wideF F)→(L.map key).Nodup → Q (.ref fo) H'
theorem df_law_cells (T:Txt K mg C):Df P w K mg base 4 "_law_cells" ["deck","field","many"] spCells33:=by
  refine T.d_law_cells.ok sc_law_cells (fun vs H Q E h=>?_) (fun f cdv A outer s H vs Q E hr h=>?_)
  · obtain ⟨d,c,fv,F,many,n,rfl,_⟩:=h
    rfl
  · obtain ⟨d,c,fv,F,many,n,rfl,D,hn,R,fh,fw,hf,m0,m6,q⟩:=h
    refine ⟨_,(@pss_cons _ _ _ _ _ (@ps_set _ _ 3 _ _ _ _ sc_law_cells.nd rfl (by first | exact Or.inl rfl | exact Or.inr rfl) (@pe_lst _ _ _ _ pa_nil) (by rfl) (by first | exact .inl rfl | exact .inr rfl))
      (@pss_cons _ _ _ _ _ (@ps_for _ _ _ _ _ _ _ _ PassesOwn.never rfl (pi_range1 (by rfl) T.n_range (@pa_cons _ _ _ _ _ (@pe_callB _ _ _ _ _ _ _ _ _ (call_lenK (K:=K) rfl) (by rfl) T.n_len bt_len (@pa_cons _ _ _ _ _ (pv 1) pa_nil (by rfl)) (by decide) (by decide) (by rfl) (by rfl)) pa_nil star_call)) (pg_name (i:=4) sc_law_cells.nd rfl (by first | exact Or.inl rfl | exact Or.inr rfl)) (@pss_one _ _ _ (@ps_set _ _ 3 _ _ _ _ sc_law_cells.nd rfl (by first | exact Or.inl rfl | exact Or.inr rfl) (@pe_op _ _ _ _ _ _ _ _ op_cat (pv 3) (pe_compIf (M:=["i"]) (idx:=[4]) rfl (pi_range1 (by rfl) T.n_range (@pa_cons _ _ _ _ _ (@pe_callB _ _ _ _ _ _ _ _ _ (call_lenK (K:=K) rfl) (by rfl) T.n_len bt_len (@pa_cons _ _ _ _ _ (@pe_ix _ _ _ _ _ _ _ (ix_seqK (K:=K) rfl) (pv 1) pe_int (fun _ _=>rfl)) pa_nil star_sub) (by decide) (by decide) (by rfl) (by rfl)) pa_nil star_call)) (compOk (by kernel_rfl)) (by decide +kernel) (by first | exact Or.inl rfl | exact Or.inr rfl) (fun _ _ _ _ _=>pts_nil) (fun _ _ _ _ _=>(@pe_tup _ _ _ _ _ (@pa_cons _ _ _ _ _ (pv 1) (@pa_cons _ _ _ _ _ (pv 0) pa_nil (by rfl)) (by rfl)))))) (by rfl) (by first | exact .inl rfl | exact .inr rfl))) (by intro _;rfl))
      (@pss_cons _ _ _ _ _ (@ps_set _ _ 5 _ _ _ _ sc_law_cells.nd rfl (by first | exact Or.inl rfl | exact Or.inr rfl) (@pe_lst _ _ _ _ pa_nil) (by rfl) (by first | exact .inl rfl | exact .inr rfl))
      (@pss_cons _ _ _ _ _ (@ps_for _ _ _ _ _ _ _ _ PassesOwn.never rfl (pi_range1 (by rfl) T.n_range (@pa_cons _ _ _ _ _ (@pe_callB _ _ _ _ _ _ _ _ _ (call_min2 rfl) (by rfl) T.n_min bt_min (@pa_cons _ _ _ _ _ (pv 2) (@pa_cons _ _ _ _ _ (@pe_callB _ _ _ _ _ _ _ _ _ (call_lenK (K:=K) rfl) (by rfl) T.n_len bt_len (@pa_cons _ _ _ _ _ (pv 3) pa_nil (by rfl)) (by decide) (by decide) (by rfl) (by rfl)) pa_nil star_call) (by rfl)) (by decide) (by decide) (by rfl) (by rfl)) pa_nil star_call)) (pg_name (i:=6) sc_law_cells.nd rfl (by first | exact Or.inl rfl | exact Or.inr rfl)) (@pss_cons _ _ _ _ _ (@ps_asg _ _ _ _ _ _ (pe_bmK (K:=K) rfl PySem.F.plainAttrs_list PySem.F.slot_list_pop PySem.F.type_list_pop mt_popAt (pv 3) (@pa_cons _ _ _ _ _ (@pe_df _ _ _ _ _ _ _ _ _ _ (df_law_draw T) (hr.mono (by decide)) (@pa_cons _ _ _ _ _ (pv 0) (@pa_cons _ _ _ _ _ (@pe_callB _ _ _ _ _ _ _ _ _ (call_lenK (K:=K) rfl) (by rfl) T.n_len bt_len (@pa_cons _ _ _ _ _ (pv 3) pa_nil (by rfl)) (by decide) (by decide) (by rfl) (by rfl)) pa_nil star_call) (by rfl)) (by rfl) (by decide) (by rfl) (by rfl)) pa_nil star_call)) (pg_tupK (K:=K) rfl rfl (pgs_cons (pg_name (i:=4) sc_law_cells.nd rfl (by first | exact Or.inl rfl | exact Or.inr rfl)) (pgs_cons (pg_name (i:=7) sc_law_cells.nd rfl (by first | exact Or.inl rfl | exact Or.inr rfl)) pgs_nil))) (by rfl) (by rfl) (by rfl))
      (@pss_one _ _ _ (@ps_expr _ _ _ _ (pe_bm PySem.F.plainAttrs_list PySem.F.slot_list_append PySem.F.type_list_append mt_append (pv 5) (@pa_cons _ _ _ _ _ (@pe_tup _ _ _ _ _ (@pa_cons _ _ _ _ _ (pv 4) (@pa_cons _ _ _ _ _ (pv 7) (@pa_cons _ _ _ _ _ (@pe_df _ _ _ _ _ _ _ _ _ _ (df_law_cell T) (hr.mono (by decide)) (@pa_cons _ _ _ _ _ (pv 0) (@pa_cons _ _ _ _ _ (pv 1) pa_nil (by rfl)) (by rfl)) (by rfl) (by decide) (by rfl) (by rfl)) pa_nil star_call) (by rfl)) (by rfl))) pa_nil star_tup)) (by rfl)))) (by intro _;rfl))
      (@pss_one _ _ _ (@ps_ret _ _ _ _ (pv 5))))))),?_⟩
    have h1:=R.h1;have hs:=R.hs;have w1:1≤wideF F:=R.w1
    obtain ⟨fa,xs,b0,ys0,rfl,hfa,la,hb0,hb,lb⟩:=field_sizes R hf
    have lb':ys0.length=wideF F:=lb
    refine ⟨(by show 0≤sizeLine;decide),fun p1 hp1=>?_⟩
    have s1:=same_upd (o:=.lst []) hp1
    have e1:upd H p1 (.lst []) p1=some (.lst []):=upd_same
    generalize upd H p1 (.lst [])=H1 at s1 e1 ⊢
    dsimp only [gName,List.set]
    refine ⟨_,rfl,_,_,rfl,Or.inr ⟨_,SqT.of (s1 _ _ hfa),rfl⟩,_,rfl,by omega,by omega,?_⟩
    refine for_range (n:=(xs.length:Int).toNat) (fun m σ H'=>∃ (pl:Addr) (v4:Option V) (ys:List V) (ns:List (Nat × Nat)),σ=[some (.ref d),some (.ref fa),some (.int many),some (.ref pl),v4,none,none,none]∧Same H H'∧H pl=none∧H' pl=some (.lst ys)∧IsDs H' ys (ns.map pl2)∧ns.Nodup ∧ (∀ t∈ns,t.1 < m∧t.2 < wideF F)∧ns.length ≤ 6 * m) ⟨p1,none,[],[],rfl,s1,hp1,e1,.nil,List.nodup_nil,fun t ht=>absurd ht (by simp),Nat.zero_le _⟩ ?_ ?_
    · rintro m _ H2 hm ⟨pl,v4,ys,ns,rfl,s2,hpl,e2,hys,nd,bns,lns⟩
      have hm':m < F.length:=by
        have:m < (xs.length:Int).toNat:=hm
        omega
      dsimp only [gName,List.set]
      rw [show (0 + (m:Int))=(m:Int) by omega]
      refine ⟨_,rfl,?_⟩
      refine ⟨_,rfl,Or.inr (Or.inl ⟨_,_,_,_,rfl,rfl,SqT.of (s2 _ _ hfa),hb0,_,_,rfl,Or.inr ⟨_,SqT.of (s2 _ _ hb),rfl⟩,_,rfl,by omega,by omega,?_⟩)⟩
      refine compW_range (n:=(ys0.length:Int).toNat) (fun k zs H'=>Same H2 H'∧IsDs H' zs (((List.range k).map fun q=>(m,q)).map pl2)) ⟨Same.refl _,.nil⟩ (Nat.le_trans (show (ys0.length:Int).toNat ≤ 6 by omega) (by decide)) ?_ ?_
      · rintro k zs H3 hk ⟨s3,hzs⟩
        refine oneT ?_
        refine ⟨_,rfl,_,rfl,(by show 2≤sizeLine;decide),fun t ht=>?_⟩
        have st:=same_upd (o:=.tup [.int (m:Int),.int (0 + (k:Int))]) ht
        refine ⟨s3.trans st,?_⟩
        rw [List.range_succ,List.map_append,List.map_append]
        refine (hzs.keep st.tups).append (.cons ?_ .nil)
        rw [show (0 + (k:Int))=(k:Int) by omega] at st ⊢
        exact isPlace upd_same
      · rintro zs H3 ⟨s3,hzs⟩ p4 hp4
        have s4:=same_upd (o:=.lst zs) hp4
        have e4:upd H3 p4 (.lst zs) p4=some (.lst zs):=upd_same
        generalize upd H3 p4 (.lst zs)=H4 at s4 e4 ⊢
        have lz:zs.length=wideF F:=by rw [hzs.length,List.length_map,List.length_map,List.length_range];omega
        have ly:ys.length=ns.length:=by rw [hys.length,List.length_map]
        have e24:=(s3.trans s4) _ _ e2
        refine ⟨_,_,_,_,rfl,rfl,e24,e4,Nat.le_trans (show ys.length + zs.length ≤ 1000 by omega) (by decide),fun p5 hp5=>?_⟩
        have s5:=same_upd (o:=.lst (ys ++ zs)) hp5
        have S5:=(s3.trans s4).trans s5
        refine ⟨p5,_,ys ++ zs,ns ++ (List.range (wideF F)).map fun q=>(m,q),rfl,s2.trans S5,(s2.trans (s3.trans s4)).free hp5,upd_same,?_,?_,?_,?_⟩
        · rw [List.map_append]
          refine (hys.keep S5.tups).append ?_
          rw [show (ys0.length:Int).toNat=wideF F by omega] at hzs
          exact hzs.keep (s4.trans s5).tups
        · rw [List.nodup_append]
          refine ⟨nd,?_,fun a ha b hb'=>?_⟩
          · unfold List.Nodup
            rw [List.pairwise_map]
            exact List.nodup_range.imp fun h e=>h (by injection e)
          · obtain ⟨q',_,rfl⟩:=List.mem_map.mp hb'
            have:=(bns a ha).1
            intro e
            rw [e] at this
            exact Nat.lt_irrefl _ this
        · intro t ht
          rcases List.mem_append.mp ht with ht | ht
          · have:=bns t ht
            omega
          · obtain ⟨q',hq',rfl⟩:=List.mem_map.mp ht
            have:=List.mem_range.mp hq'
            dsimp only
            omega
        · rw [List.length_append,List.length_map,List.length_range]
          omega
    rintro _ H2 ⟨pl,v4,ys,ns,rfl,s2,hpl,e2,hys,nd,bns,lns⟩
    dsimp only
    have bns':∀ t∈ns,t.1 < F.length ∧ t.2 < wideF F:=fun t ht=>by
      have:=bns t ht
      omega
    have D2:=D.keep s2
    have npl:pl≠d∧pl≠c:=D.nd hpl
    refine ⟨(by show 0≤sizeLine;decide),fun fo hfo=>?_⟩
    have s3:=same_upd (o:=.lst []) hfo
    have e3:upd H2 fo (.lst []) fo=some (.lst []):=upd_same
    have nfp:fo≠pl:=(ne_of_none e2 hfo).symm
    have hfoH:H fo=none:=s2.free hfo
    have nfo:fo≠d∧fo≠c:=D.nd hfoH
    generalize upd H2 fo (.lst [])=H3 at s3 e3 ⊢
    have S3:=s2.trans s3
    have D3:=D.keep S3
    dsimp only [gName,List.set]
    have lys:ys.length=ns.length:=by rw [hys.length,List.length_map]
    refine ⟨_,rfl,_,rfl,_,_,rfl,Or.inl ⟨_,SqL.of (s3 _ _ e2),rfl⟩,_,_,rfl,?_⟩
    have bm:0≤(if (ys.length:Int) < many then (ys.length:Int) else many)∧(if (ys.length:Int) < many then (ys.length:Int) else many)≤6∧(if (ys.length:Int) < many then (ys.length:Int) else many)≤(ns.length:Int):=by split <;> omega
    generalize (if (ys.length:Int) < many then (ys.length:Int) else many)=N at bm ⊢
    obtain ⟨N0,N6,Nn⟩:=bm
    refine ⟨_,rfl,by omega,by omega,?_⟩
    refine for_range (n:=N.toNat) (fun m σ H'=>∃ (v4 v6 v7:Option V) (ys xs:List V) (ls:List (Nat × Nat)) (L:List (Nat × Nat × Option Int)),σ=[some (.ref d),some (.ref fa),some (.int many),some (.ref pl),v4,some (.ref fo),v6,v7]∧K2 d c H H'∧Dk H' d c (n + 5 * m)∧H' pl=some (.lst ys)∧IsDs H' ys (ls.map pl2)∧H' fo=some (.lst xs)∧IsDs H' xs (L.map doneD)∧L.length=m∧(ls ++ L.map key).Perm ns) ⟨v4,none,none,ys,[],ns,[],rfl,S3.k2 d c,D3,s3 _ _ e2,hys.keep s3.tups,e3,.nil,rfl,by rw [List.map_nil,List.append_nil]⟩ ?_ ?_
    · rintro m _ H4 hm ⟨v4,v6,v7,ys,xs',ls,L,rfl,K4,D4,e4,hys4,f4,hxs4,lL,pm⟩
      have hm':m < N.toNat:=hm
      have lls:ls.length + m=ns.length:=by have:=pm.length_eq;rw [List.length_append,List.length_map,lL] at this;exact this
      have ly:ys.length=ls.length:=by rw [hys4.length,List.length_map]
      have lx:xs'.length=m:=by rw [hxs4.length,List.length_map,lL]
      dsimp only [gName,List.set]
      refine ⟨_,rfl,Or.inl ⟨rfl,_,SqL.of e4⟩,?_⟩
      refine ⟨_,rfl,_,rfl,_,_,rfl,Or.inl ⟨_,SqL.of e4,rfl⟩,?_⟩
      refine ⟨_,_,_,_,rfl,D4,by omega,by omega,by omega,fun y H5 y0 y1 D5 k5=>?_⟩
      have t5:=k5.tups D4
      have e5:=k5 _ _ e4 npl.1 npl.2
      have f5:=k5 _ _ f4 nfo.1 nfo.2
      have hy:y.toNat < ls.length:=by omega
      obtain ⟨v,ev,hv⟩:=hys4.get (i:=y.toNat) (d:=pl2 ls[y.toNat]) (by rw [List.getElem?_map,List.getElem?_eq_getElem hy];rfl)
      obtain ⟨tp,rfl,htp⟩:=pl2_inv hv
      refine ⟨pl,ys,y,y.toNat,_,rfl,rfl,e5,by omega,by omega,seqIx y0 y1,ev,?_⟩
      have b6:=(show KeepBut pl H5 (upd H5 pl (.lst (ys.eraseIdx y.toNat))) from fun b u e n=>by rw [upd_ne n];exact e)
      have e6:upd H5 pl (.lst (ys.eraseIdx y.toNat)) pl=some (.lst (ys.eraseIdx y.toNat)):=upd_same
      generalize upd H5 pl (.lst (ys.eraseIdx y.toNat))=H6 at b6 e6 ⊢
      have t6:KeepT H5 H6:=fun b ws e=>b6 _ _ e (ne_of e e5 fun z=>by cases z)
      have f6:=b6 _ _ f5 nfp
      have D6:Dk H6 d c (n + 5 * m + 1):=by
        obtain ⟨a1,a2,a3,a4,g1,g2,a5⟩:=D5
        exact ⟨a1,a2,a3,a4,b6 _ _ g1 npl.1.symm,b6 _ _ g2 npl.2.symm,a5⟩
      refine ⟨_,_,rfl,SqT.of (t6 _ _ (t5 _ _ htp)),rfl,_,_,rfl,_,_,rfl,rfl,?_⟩
      dsimp only [gName,List.set]
      have K6:K2 d c H H6:=fun b u e n1 n2=>b6 _ _ (k5 _ _ (K4 _ _ e n1 n2) n1 n2) (ne_of_none e hpl)
      refine ⟨_,rfl,Or.inl ⟨rfl,_,SqL.of f6⟩,?_⟩
      refine ⟨_,rfl,_,rfl,_,rfl,_,rfl,?_⟩
      refine ⟨d,c,_,F,_,rfl,D6,by omega,R,hf.keep (K6.tups D),fun cl H7 D7 k7=>?_⟩
      have t7:=k7.tups D6
      refine ⟨(by show 3≤sizeLine;decide),fun p8 hp8=>?_⟩
      have s8:=same_upd (o:=.tup [.int ((ls[y.toNat]).1:Int),.int ((ls[y.toNat]).2:Int),cellV cl]) hp8
      have e8:upd H7 p8 (.tup [.int ((ls[y.toNat]).1:Int),.int ((ls[y.toNat]).2:Int),cellV cl]) p8=some (.tup [.int ((ls[y.toNat]).1:Int),.int ((ls[y.toNat]).2:Int),cellV cl]):=upd_same
      generalize upd H7 p8 (.tup [.int ((ls[y.toNat]).1:Int),.int ((ls[y.toNat]).2:Int),cellV cl])=H8 at s8 e8 ⊢
      have f8:=s8 _ _ (k7 _ _ f6 nfo.1 nfo.2)
      have g8:=s8 _ _ (k7 _ _ e6 npl.1 npl.2)
      refine ⟨_,_,_,rfl,rfl,f8,?_,?_⟩
      · rw [lx]
        exact Nat.lt_of_lt_of_le (show m < 7 by omega) (by decide)
      have b9:=(show KeepBut fo H8 (upd H8 fo (.lst (xs' ++ [.ref p8]))) from fun b u e n=>by rw [upd_ne n];exact e)
      have e9:upd H8 fo (.lst (xs' ++ [.ref p8])) fo=some (.lst (xs' ++ [.ref p8])):=upd_same
      generalize upd H8 fo (.lst (xs' ++ [.ref p8]))=H9 at b9 e9 ⊢
      have t9:KeepT H8 H9:=fun b ws e=>b9 _ _ e (ne_of e f8 fun z=>by cases z)
      have T9:KeepT H4 H9:=fun b ws e=>t9 _ _ (s8 _ _ (t7 _ _ (t6 _ _ (t5 _ _ e))))
      have D9:Dk H9 d c (n + 5 * m + 1 + 4):=by
        obtain ⟨a1,a2,a3,a4,g1,g2,a5⟩:=D7.keep s8
        exact ⟨a1,a2,a3,a4,b9 _ _ g1 nfo.1.symm,b9 _ _ g2 nfo.2.symm,a5⟩
      refine ⟨_,_,_,ys.eraseIdx y.toNat,xs' ++ [.ref p8],ls.eraseIdx y.toNat,L ++ [((ls[y.toNat]).1,(ls[y.toNat]).2,cl)],rfl,?_,D9.mono (by omega),b9 _ _ g8 nfp.symm,?_,e9,?_,by rw [List.length_append,lL];rfl,?_⟩
      · exact fun b u e n1 n2=>b9 _ _ (s8 _ _ (k7 _ _ (K6 _ _ e n1 n2) n1 n2)) (ne_of_none e hfoH)
      · rw [er_map]
        exact isDs_erase _ (hys4.keep T9)
      · rw [List.map_append]
        refine (hxs4.keep T9).append (.cons (.tup (t9 _ _ e8) (.cons (.int _) (.cons (.int _) (.cons (isCell cl) .nil)))) .nil)
      · rw [List.map_append]
        refine List.Perm.trans ?_ pm
        have pe:=MwSet.erase_perm hy
        refine List.Perm.trans ?_ (pe.append_right _)
        show (ls.eraseIdx y.toNat ++ (L.map key ++ [ls[y.toNat]])).Perm (ls[y.toNat] :: (ls.eraseIdx y.toNat ++ L.map key))
        rw [← List.append_assoc]
        exact List.perm_append_singleton _ _
    · rintro _ H4 ⟨v4,v6,v7,ys,xs',ls,L,rfl,K4,D4,e4,hys4,f4,hxs4,lL,pm⟩
      dsimp only
      have ndp:(ls ++ L.map key).Nodup:=pm.nodup_iff.mpr nd
      refine ⟨_,rfl,q fo xs' L H4 hfoH K4 (D4.mono (by omega)) f4 hxs4 (by omega) (fun x hx=>?_) (List.nodup_append.mp ndp).2.1⟩
      exact bns' (key x) (pm.mem_iff.mp (List.mem_append_right _ (List.mem_map.mpr ⟨x,hx,rfl⟩)))
def spShuf:Sp:=fun vs H Q _=>∃ (d c sa:Addr) (xs:List V) (L:List (Nat × Nat × Option Int)) (n:Nat),vs=[.ref d,.ref sa]∧Dk H d c n∧n≤90000∧H sa=some (.lst xs)∧sa≠d∧sa≠c∧IsDs H xs (L.map doneD)∧L.length ≤ 6 ∧
  ∀ (p:Addr) (ys:List V) (M:List (Nat × Nat × Option Int)) (H':Hp),H p=none→K2 d c H H'→Dk H' d c (n + 6)→H' p=some (.lst ys)→IsDs H' ys (M.map doneD)→M.Perm L→Q (.ref p) H'
theorem df_law_shuffled (T:Txt K mg C):Df P w K mg base 2 "_law_shuffled" ["deck","some"] spShuf:=by
  refine T.d_law_shuffled.ok sc_law_shuffled (fun vs H Q E h=>?_) (fun f cdv A outer s H vs Q E hr h=>?_)
  · obtain ⟨d,c,sa,xs,L,n,rfl,_⟩:=h
    rfl
  · obtain ⟨d,c,sa,xs,L,n,rfl,D,hn,hsa,nsd,nsc,hxs,lL,q⟩:=h
    refine ⟨_,(@pss_cons _ _ _ _ _ (@ps_set _ _ 2 _ _ _ _ sc_law_shuffled.nd rfl (by first | exact Or.inl rfl | exact Or.inr rfl) (@pe_callTy _ _ _ _ _ _ _ _ _ (CallR.or (call_listK (K:=K) rfl) (call_list_rng rfl)) (by rfl) T.n_list bt_list (@pa_cons _ _ _ _ _ (pv 1) pa_nil (by rfl)) (by decide) (by decide) (by rfl) (by rfl)) (by rfl) (by first | exact .inl rfl | exact .inr rfl))
      (@pss_one _ _ _ (@ps_ret _ _ _ _ (pe_compIf (M:=["left","deck"]) (idx:=[2,0]) rfl (pi_seqK (K:=K) rfl (pv 1)) (compOk (by kernel_rfl)) (by decide +kernel) (by first | exact Or.inl rfl | exact Or.inr rfl) (fun _ _ _ _ _=>pts_nil) (fun _ _ _ _ _=>(pe_bmK (K:=K) rfl PySem.F.plainAttrs_list PySem.F.slot_list_pop PySem.F.type_list_pop mt_popAt (pv 1) (@pa_cons _ _ _ _ _ (@pe_df _ _ _ _ _ _ _ _ _ _ (df_law_draw T) (hr.mono (by decide)) (@pa_cons _ _ _ _ _ (pv 2) (@pa_cons _ _ _ _ _ (@pe_callB _ _ _ _ _ _ _ _ _ (call_lenK (K:=K) rfl) (by rfl) T.n_len bt_len (@pa_cons _ _ _ _ _ (pv 1) pa_nil (by rfl)) (by decide) (by decide) (by rfl) (by rfl)) pa_nil star_call) (by rfl)) (by rfl) (by decide) (by rfl) (by rfl)) pa_nil star_call))))))),?_⟩
    have lx:xs.length=L.length:=by rw [hxs.length,List.length_map]
    refine ⟨_,rfl,Or.inl ⟨sa,xs,rfl,Or.inl (SqL.of hsa),fun l hl=>?_⟩⟩
    have s1:=same_upd (o:=.lst xs) hl
    have e1:upd H l (.lst xs) l=some (.lst xs):=upd_same
    have nl:=D.nd hl
    have nls:sa≠l:=ne_of_none hsa hl
    generalize upd H l (.lst xs)=H1 at s1 e1 ⊢
    dsimp only [gName,List.set]
    refine comp_seqV (K:=K) (xs:=xs) (fun k h=>⟨_,rfl,h⟩) (.inr (s1 _ _ hsa)) (fun i zs H'=>∃ (ys:List V) (ls gs:List (Nat × Nat × Option Int)),IsDs H' zs (gs.map doneD)∧gs.length=i∧H' l=some (.lst ys)∧IsDs H' ys (ls.map doneD)∧(ls ++ gs).Perm L∧Dk H' d c (n + i)∧K2 d c H H'∧H' sa=some (.lst xs))
      ⟨xs,L,[],.nil,rfl,e1,hxs.keep s1.tups,by rw [List.append_nil],D.keep s1,s1.k2 d c,s1 _ _ hsa⟩ (Nat.le_trans (show xs.length ≤ 6 by omega) (by decide)) (fun i zs H' _ ⟨_,_,_,_,_,_,_,_,_,_,e⟩=>by rw [e,s1 _ _ hsa]) ?_ ?_
    · rintro i x zs H2 hx ⟨ys,ls,gs,hzs,lg,e2,hys,pm,D2,K2',sa2⟩
      have hi:i < L.length:=by have:=(List.getElem?_eq_some_iff.mp hx).1;omega
      have lls:ls.length + i=L.length:=by have:=pm.length_eq;rw [List.length_append,lg] at this;exact this
      have ly:ys.length=ls.length:=by rw [hys.length,List.length_map]
      refine oneT ?_
      refine ⟨_,rfl,Or.inl ⟨rfl,_,SqL.of e2⟩,?_⟩
      refine ⟨_,rfl,_,rfl,_,_,rfl,Or.inl ⟨_,SqL.of e2,rfl⟩,?_⟩
      refine ⟨_,_,_,_,rfl,D2,by omega,by omega,by omega,fun y H3 y0 y1 D3 k3=>?_⟩
      have t3:=k3.tups D2
      have e3:=k3 _ _ e2 nl.1 nl.2
      have hy:y.toNat < ls.length:=by omega
      obtain ⟨v,ev,hv⟩:=hys.get (i:=y.toNat) (d:=doneD ls[y.toNat]) (by rw [List.getElem?_map,List.getElem?_eq_getElem hy];rfl)
      refine ⟨l,ys,y,y.toNat,v,rfl,rfl,e3,by omega,by omega,seqIx y0 y1,ev,?_⟩
      have b4:=(show KeepBut l H3 (upd H3 l (.lst (ys.eraseIdx y.toNat))) from fun b u e n=>by rw [upd_ne n];exact e)
      have e4:upd H3 l (.lst (ys.eraseIdx y.toNat)) l=some (.lst (ys.eraseIdx y.toNat)):=upd_same
      generalize upd H3 l (.lst (ys.eraseIdx y.toNat))=H4 at b4 e4 ⊢
      have t4:KeepT H3 H4:=fun b ws e=>b4 _ _ e (ne_of e e3 fun z=>by cases z)
      have T4:KeepT H2 H4:=fun b ws e=>t4 _ _ (t3 _ _ e)
      refine ⟨ys.eraseIdx y.toNat,ls.eraseIdx y.toNat,gs ++ [ls[y.toNat]],?_,by rw [List.length_append,lg];rfl,e4,?_,?_,?_,?_,?_⟩
      · rw [List.map_append]
        exact (hzs.keep T4).append (.cons (hv.keep T4) .nil)
      · rw [er_map]
        exact isDs_erase _ (hys.keep T4)
      · refine List.Perm.trans ?_ pm
        have pe:=MwSet.erase_perm hy
        refine List.Perm.trans ?_ (pe.append_right _)
        show (ls.eraseIdx y.toNat ++ (gs ++ [ls[y.toNat]])).Perm (ls[y.toNat] :: (ls.eraseIdx y.toNat ++ gs))
        rw [← List.append_assoc]
        exact List.perm_append_singleton _ _
      · obtain ⟨a1,a2,a3,a4,g1,g2,a5⟩:=D3
        exact ⟨a1,a2,a3,a4,b4 _ _ g1 nl.1.symm,b4 _ _ g2 nl.2.symm,a5⟩
      · exact fun b u e n1 n2=>b4 _ _ (k3 _ _ (K2' _ _ e n1 n2) n1 n2) (ne_of_none e hl)
      · exact b4 _ _ (k3 _ _ sa2 nsd nsc) nls
    · rintro zs H2 ⟨ys,ls,gs,hzs,lg,e2,hys,pm,D2,K2',sa2⟩ p hp
      have lls:ls.length + xs.length=L.length:=by have:=pm.length_eq;rw [List.length_append,lg] at this;exact this
      have e:ls=[]:=List.length_eq_zero_iff.mp (by omega)
      subst e
      have s3:=same_upd (o:=.lst zs) hp
      refine q p zs gs _ ?_ (K2'.upd hp) ((D2.mono (by omega)).keep s3) upd_same (hzs.keep s3.tups) pm
      cases e':H p with
      | none=>rfl
      | some o =>
        have nd:=D2.nd hp
        rw [K2' p o e' nd.1 nd.2] at hp
        cases hp
def plD (ps:List (Int × Int)):PyData:=.tuple (ps.map placeD)
def Kq (K:PySem.W.Frag)(C:Addr)(H:Hp)(o:One)(F:List (List (Option Int)))(ps:List (Int × Int)):Prop:=∃ (fv wv rv sv tv:V) (cp:Addr) (us:List V),KpAt K C H o.x o.dy fv wv rv sv tv (.ref cp) F o.m.ru o.m.u o.m.d o.m.l o.m.r o.m.a o.m.b ∧ H cp=some (.tup us)∧IsDs H us (ps.map placeD)
theorem Kq.keep {K:PySem.W.Frag}{C:Addr}{H H':Hp}{o:One}{F:List (List (Option Int))}{ps:List (Int × Int)}(h:Kq K C H o F ps)(t:KeepT H H')(e:∀ fs,H o.x=some (.ins C o.dy fs)→H' o.x=some (.ins C o.dy fs)):Kq K C H' o F ps:=by
  obtain ⟨fv,wv,rv,sv,tv,cp,us,h0,h1,h2⟩:=h
  exact ⟨fv,wv,rv,sv,tv,cp,us,h0.keep t fun b q=>by rw [h0.at_] at q;cases q;exact e _ h0.at_,t _ _ h1,h2.keep t⟩
theorem make_K33 {K:PySem.W.Frag}{C:Addr}{H:Hp}{fv wv rv sv:V}{F:List (List (Option Int))}{m:Mk}{Q:Addr→Hp→Prop}(R:Rect F)(fh:F.length ≤ 100)(fw:wideF F≤100)(hf:IsD H fv (fieldD F))(hw:IsD H wv (winD m.u m.d m.l m.r))(hru:IsD H rv (ruleD m.ru))(hs:IsD H sv (placeD (m.a,m.b)))(ok:MkOk m)
    (q:∀ (x dy:Addr) (H':Hp),H x=none→Same H H'→Kq K C H' ⟨x,dy,m⟩ F []→Q x H') :
    ∀ x dx,H x=none→H dx=none→dx≠x→spKInit K C [.ref x,fv,wv,rv,sv] (upd (upd H dx (.own x)) x (.ins C dx [])) (fun v H2=>v = .non ∧ Q x H2) E0:=by
  intro x dx hx hdx ne
  have s1:Same H (upd (upd H dx (.own x)) x (.ins C dx [])):=fun b o e=>by rw [upd_ne (ne_of_none e hx),upd_ne (ne_of_none e hdx)];exact e
  refine ⟨x,dx,fv,wv,rv,sv,F,m.ru,m.u,m.d,m.l,m.r,m.a,m.b,rfl,upd_same,R,hf.keep s1.tups,hw.keep s1.tups,hru.keep s1.tups,hs.keep s1.tups,ok.sh,ok.bb,ok.few,fun tv cp H' k e1 e2 e3=>⟨rfl,?_⟩⟩
  have s2:Same H H':=fun b o e=>k b o (s1 b o e) (ne_of_none e hx)
  exact q x dx H' hx s2 ⟨_,_,_,_,_,_,_,⟨e1,R,fh,fw,hf.keep s2.tups,hw.keep s2.tups,hru.keep s2.tups,hs.keep s2.tups,e2,ok.sh,ok.bb,ok.few⟩,e3,.nil⟩
theorem Kq.same {K:PySem.W.Frag}{C:Addr}{H H':Hp}{o:One}{F:List (List (Option Int))}{ps:List (Int × Int)}(h:Kq K C H o F ps)(s:Same H H'):Kq K C H' o F ps:=h.keep s.tups fun _ e=>s _ _ e
theorem Kq.at_ {K:PySem.W.Frag}{C:Addr}{H:Hp}{o:One}{F:List (List (Option Int))}{ps:List (Int × Int)}(h:Kq K C H o F ps):∃ fs,H o.x=some (.ins C o.dy fs):=by
  obtain ⟨fv,wv,rv,sv,tv,cp,us,h0,_⟩:=h
  exact ⟨_,h0.at_⟩
theorem Kq.k2 {K:PySem.W.Frag}{C d c:Addr}{n:Nat}{H H':Hp}{o:One}{F:List (List (Option Int))}{ps:List (Int × Int)}(h:Kq K C H o F ps)(D:Dk H d c n)(k:K2 d c H H'):Kq K C H' o F ps:=h.keep (k.tups D) fun _ e=>by
  obtain ⟨_,_,_,_,g1,g2,_⟩:=D
  exact k _ _ e (ne_of e g1 fun z=>by cases z) (ne_of e g2 fun z=>by cases z)
theorem all5 {p:Nat→Prop}(h0:p 0)(h1:p 1)(h2:p 2)(h3:p 3)(h4:p 4):∀ k,k < 5→p k
  | 0,_=>h0
  | 1,_=>h1
  | 2,_=>h2
  | 3,_=>h3
  | 4,_=>h4
def five (a b c d e:One):Nat→One
  | 0=>a
  | 1=>b
  | 2=>c
  | 3=>d
  | _=>e
theorem five_ne {a b c d e:One}(h01:a.x ≠ b.x)(h02:a.x ≠ c.x)(h03:a.x ≠ d.x)(h04:a.x ≠ e.x)(h12:b.x ≠ c.x)(h13:b.x ≠ d.x)(h14:b.x ≠ e.x)(h23:c.x ≠ d.x)(h24:c.x ≠ e.x)(h34:d.x ≠ e.x):∀ j k,j < 5→k < 5→j≠k→(five a b c d e j).x ≠ (five a b c d e k).x:=fun j k hj hk =>
  all5 (p:=fun k=>∀ j,j < 5→j≠k→(five a b c d e j).x ≠ (five a b c d e k).x)
    (all5 (fun h=>absurd rfl h) (fun _=>h01.symm) (fun _=>h02.symm) (fun _=>h03.symm) (fun _=>h04.symm))
    (all5 (fun _=>h01) (fun h=>absurd rfl h) (fun _=>h12.symm) (fun _=>h13.symm) (fun _=>h14.symm))
    (all5 (fun _=>h02) (fun _=>h12) (fun h=>absurd rfl h) (fun _=>h23.symm) (fun _=>h24.symm))
    (all5 (fun _=>h03) (fun _=>h13) (fun _=>h23) (fun h=>absurd rfl h) (fun _=>h34.symm))
    (all5 (fun _=>h04) (fun _=>h14) (fun _=>h24) (fun _=>h34) (fun h=>absurd rfl h)) k hk j hj
theorem done_inv {H:Hp}{v:V}{x:Nat × Nat × Option Int}(h:IsD H v (doneD x)):∃ p,v = .ref p∧H p=some (.tup [.int (x.1:Int),.int (x.2.1:Int),cellV x.2.2]):=by
  obtain ⟨p,xs,rfl,hp,hx⟩:=h.tuple_inv
  cases hx with | cons a hx=>cases hx with | cons b hx=>cases hx with | cons c hx=>cases hx with
  | nil =>
    cases a
    cases b
    rw [c.cell_inv] at hp
    exact ⟨p,rfl,hp⟩
theorem cmp_pl (ts us:List (Int × Int)):CmpD 0 (plD ts) (plD us):=by
  refine ⟨canLay_pl _,canLay_pl _,?_⟩
  have:=depth_pl ts
  show PyData.depthAll _ + 1≤20
  omega
theorem ne_pl {H:Hp}{x y:V}{ts us:List (Int × Int)}{Q:VK}(hx:IsD H x (plD ts))(hy:IsD H y (plD us))(e:ts=us)(q:Q (.bl false) H):rNe x y H Q ∨ rNeD 0 x y H Q:=by
  subst e
  refine Or.inr ⟨_,_,hx,hy,cmp_pl _ _,?_⟩
  show Q (.bl (!PyData.eqvAll (ts.map placeD) (ts.map placeD))) H
  rw [eqv_pl]
  exact q
def tripD (F G:List (List (Option Int)))(ts:List (Int × Int)):PyData:=.tuple [fieldD F,fieldD G,plD ts]
theorem trip_ok (F G:List (List (Option Int)))(ts:List (Int × Int)):(tripD F G ts).canLay0=true∧(tripD F G ts).depth ≤ 3∧PyData.eqv (tripD F G ts) (tripD F G ts)=true:=by
  have h1:(fieldD F).depth ≤ 2:=Nat.succ_le_succ (depth_rows F)
  have h2:(fieldD G).depth ≤ 2:=Nat.succ_le_succ (depth_rows G)
  have h3:(plD ts).depth ≤ 2:=Nat.succ_le_succ (depth_pl ts)
  have c3:(plD ts).canLay0=true:=canLay_pl ts
  have e3:PyData.eqv (plD ts) (plD ts)=true:=eqv_pl ts
  refine ⟨?_,?_,?_⟩
  · show PyData.canLayAll0 [fieldD F,fieldD G,plD ts]=true
    simp only [PyData.canLayAll0,canLay_field,c3,Bool.and_self]
  · show PyData.depthAll [fieldD F,fieldD G,plD ts] + 1≤3
    rw [PyData.depthAll,PyData.depthAll,PyData.depthAll,PyData.depthAll]
    omega
  · show PyData.eqvAll [fieldD F,fieldD G,plD ts] [fieldD F,fieldD G,plD ts]=true
    rw [PyData.eqvAll,PyData.eqvAll,PyData.eqvAll,PyData.eqvAll,eqv_field,eqv_field,e3,decide_eq_true rfl,decide_eq_true rfl]
    rfl
theorem trip_inv {H:Hp}{v:V}{F G:List (List (Option Int))}{ts:List (Int × Int)}(h:IsD H v (tripD F G ts)):∃ p f g t,v = .ref p∧H p=some (.tup [f,g,t])∧IsD H f (fieldD F)∧IsD H g (fieldD G)∧IsD H t (plD ts):=by
  obtain ⟨p,xs,rfl,hp,hx⟩:=h.tuple_inv
  cases hx with | cons a hx=>cases hx with | cons b hx=>cases hx with | cons c hx=>cases hx with
  | nil=>exact ⟨p,_,_,_,rfl,hp,a,b,c⟩
structure W33 (K:PySem.W.Frag)(C:Addr)(o:Nat→One)(H0 H:Hp)(G:Nat→List (List (Option Int)))(T:Nat→List (Int × Int)):Prop where
  kb:∀ b u,H0 b=some u→(∀ k,k < 5→b≠(o k).x)→H b=some u
  kq:∀ k,k < 5→Kq K C H (o k) (G k) (T k)
structure N33 (C:Addr)(o:Nat→One)(H0:Hp):Prop where
  ne:∀ j k,j < 5→k < 5→j≠k→(o j).x ≠ (o k).x
  ins:∀ k,k < 5→∃ fs,H0 (o k).x=some (.ins C (o k).dy fs)
section
variable {K:PySem.W.Frag}{C:Addr}{o:Nat→One}{H0 H H':Hp}{G:Nat→List (List (Option Int))}{T:Nat→List (Int × Int)}
theorem W33.tups (W:W33 K C o H0 H G T)(N:N33 C o H0):KeepT H0 H:=fun b ws e=>W.kb _ _ e fun k hk=>by
  obtain ⟨fs,e'⟩:=N.ins k hk
  exact ne_of e e' fun z=>by cases z
theorem W33.lst (W:W33 K C o H0 H G T)(N:N33 C o H0){b:Addr}{xs:List V}(e:H0 b=some (.lst xs)):H b=some (.lst xs):=W.kb _ _ e fun k hk=>by
  obtain ⟨fs,e'⟩:=N.ins k hk
  exact ne_of e e' fun z=>by cases z
theorem W33.same (W:W33 K C o H0 H G T)(s:Same H H'):W33 K C o H0 H' G T:=⟨fun b u e n=>s _ _ (W.kb _ _ e n),fun k hk=>(W.kq k hk).same s⟩
theorem W33.chg {k:Nat}{F:List (List (Option Int))}{ps:List (Int × Int)}(W:W33 K C o H0 H G T)(N:N33 C o H0)(hk:k < 5)(kb:KeepBut (o k).x H H')(q:Kq K C H' (o k) F ps):W33 K C o H0 H' (fun j=>if j=k then F else G j) (fun j=>if j=k then ps else T j):=by
  obtain ⟨fs,ek⟩:=(W.kq k hk).at_
  refine ⟨fun b u e n=>kb _ _ (W.kb _ _ e n) (n k hk),fun j hj=>?_⟩
  by_cases z:j=k
  · subst z
    simp only [if_pos rfl]
    exact q
  · simp only [if_neg z]
    exact (W.kq j hj).keep (fun b ws e=>kb _ _ e (ne_of e ek fun z=>by cases z)) fun _ e=>kb _ _ e (N.ne j k hj hk z)
theorem W33.of (W:W33 K C o H0 H G T){G':Nat→List (List (Option Int))}{T':Nat→List (Int × Int)}(hG:∀ k,k < 5→G k=G' k)(hT:∀ k,k < 5→T k=T' k):W33 K C o H0 H G' T':=⟨W.kb,fun k hk=>by rw [← hG k hk,← hT k hk];exact W.kq k hk⟩
end
theorem df_law (T:Txt K mg C):Df P w K mg base 8 "law" ["script"] (SpLaw K):=by
  refine T.d_law.ok sc_law (fun vs H Q E h=>?_) (fun f cdv A outer s H vs Q E hr h=>?_)
  · obtain ⟨a,ns,rfl,_⟩:=h
    rfl
  · obtain ⟨a,ns,rfl,hS,hlen,q⟩:=h
    refine ⟨_,(@pss_cons _ _ _ _ _ (@ps_set _ _ 1 _ _ _ _ sc_law.nd rfl (by first | exact Or.inl rfl | exact Or.inr rfl) (@pe_df _ _ _ _ _ _ _ _ _ _ (df_law_deck T) (hr.mono (by decide)) (@pa_cons _ _ _ _ _ (pv 0) pa_nil (by rfl)) (by rfl) (by decide) (by rfl) (by rfl)) (by rfl) (by first | exact .inl rfl | exact .inr rfl))
      (@pss_cons _ _ _ _ _ (@ps_set _ _ 2 _ _ _ _ sc_law.nd rfl (by first | exact Or.inl rfl | exact Or.inr rfl) (@pe_df _ _ _ _ _ _ _ _ _ _ (df_law_field T) (hr.mono (by decide)) (@pa_cons _ _ _ _ _ (pv 1) (@pa_cons _ _ _ _ _ (@pe_ix _ _ _ _ _ _ _ (ix_seqK (K:=K) rfl) (@pe_lst _ _ _ _ (@pa_cons _ _ _ _ _ pe_int (@pa_cons _ _ _ _ _ pe_int (@pa_cons _ _ _ _ _ pe_int (@pa_cons _ _ _ _ _ pe_int (@pa_cons _ _ _ _ _ pe_int (@pa_cons _ _ _ _ _ pe_int pa_nil (by rfl)) (by rfl)) (by rfl)) (by rfl)) (by rfl)) (by rfl))) (@pe_df _ _ _ _ _ _ _ _ _ _ (df_law_draw T) (hr.mono (by decide)) (@pa_cons _ _ _ _ _ (pv 1) (@pa_cons _ _ _ _ _ pe_int pa_nil (by rfl)) (by rfl)) (by rfl) (by decide) (by rfl) (by rfl)) (fun _ _=>rfl)) (@pa_cons _ _ _ _ _ (@pe_df _ _ _ _ _ _ _ _ _ _ (df_law_draw T) (hr.mono (by decide)) (@pa_cons _ _ _ _ _ (pv 1) (@pa_cons _ _ _ _ _ pe_int pa_nil (by rfl)) (by rfl)) (by rfl) (by decide) (by rfl) (by rfl)) pa_nil star_call) star_sub) (by rfl)) (by rfl) (by decide) (by rfl) (by rfl)) (by rfl) (by first | exact .inl rfl | exact .inr rfl))
      (@pss_cons _ _ _ _ _ (@ps_set _ _ 3 _ _ _ _ sc_law.nd rfl (by first | exact Or.inl rfl | exact Or.inr rfl) (@pe_df _ _ _ _ _ _ _ _ _ _ (df_law_sides T) (hr.mono (by decide)) (@pa_cons _ _ _ _ _ (pv 1) (@pa_cons _ _ _ _ _ pe_int pa_nil (by rfl)) (by rfl)) (by rfl) (by decide) (by rfl) (by rfl)) (by rfl) (by first | exact .inl rfl | exact .inr rfl))
      (@pss_cons _ _ _ _ _ (@ps_set _ _ 4 _ _ _ _ sc_law.nd rfl (by first | exact Or.inl rfl | exact Or.inr rfl) (@pe_df _ _ _ _ _ _ _ _ _ _ (df_law_rule T) (hr.mono (by decide)) (@pa_cons _ _ _ _ _ (pv 1) (@pa_cons _ _ _ _ _ pe_int pa_nil (by rfl)) (by rfl)) (by rfl) (by decide) (by rfl) (by rfl)) (by rfl) (by first | exact .inl rfl | exact .inr rfl))
      (@pss_cons _ _ _ _ _ (@ps_set _ _ 5 _ _ _ _ sc_law.nd rfl (by first | exact Or.inl rfl | exact Or.inr rfl) (@pe_df _ _ _ _ _ _ _ _ _ _ (df_law_share T) (hr.mono (by decide)) (@pa_cons _ _ _ _ _ (pv 1) pa_nil (by rfl)) (by rfl) (by decide) (by rfl) (by rfl)) (by rfl) (by first | exact .inl rfl | exact .inr rfl))
      (@pss_cons _ _ _ _ _ (@ps_set _ _ 6 _ _ _ _ sc_law.nd rfl (by first | exact Or.inl rfl | exact Or.inr rfl) (@pe_lst _ _ _ _ (@pa_cons _ _ _ _ _ (pe_new (df_KeptField_init T) (hr.mono (by decide)) T.g_KeptField (@pa_cons _ _ _ _ _ (pv 2) (@pa_cons _ _ _ _ _ (pv 3) (@pa_cons _ _ _ _ _ (pv 4) (@pa_cons _ _ _ _ _ (pv 5) pa_nil (by rfl)) (by rfl)) (by rfl)) (by rfl))) (@pa_cons _ _ _ _ _ (pe_new (df_KeptField_init T) (hr.mono (by decide)) T.g_KeptField (@pa_cons _ _ _ _ _ (pv 2) (@pa_cons _ _ _ _ _ (pv 3) (@pa_cons _ _ _ _ _ (pv 4) (@pa_cons _ _ _ _ _ (pv 5) pa_nil (by rfl)) (by rfl)) (by rfl)) (by rfl))) pa_nil star_call) star_call)) (by rfl) (by first | exact .inl rfl | exact .inr rfl))
      (@pss_cons _ _ _ _ _ (@ps_set _ _ 7 _ _ _ _ sc_law.nd rfl (by first | exact Or.inl rfl | exact Or.inr rfl) (pe_new (df_KeptField_init T) (hr.mono (by decide)) T.g_KeptField (@pa_cons _ _ _ _ _ (pv 2) (@pa_cons _ _ _ _ _ (@pe_tup _ _ _ _ _ (@pa_cons _ _ _ _ _ pe_int (@pa_cons _ _ _ _ _ pe_int (@pa_cons _ _ _ _ _ pe_int (@pa_cons _ _ _ _ _ pe_int pa_nil (by rfl)) (by rfl)) (by rfl)) (by rfl))) (@pa_cons _ _ _ _ _ (pv 4) (@pa_cons _ _ _ _ _ (pv 5) pa_nil (by rfl)) (by rfl)) star_tup) (by rfl))) (by rfl) (by first | exact .inl rfl | exact .inr rfl))
      (@pss_cons _ _ _ _ _ (@ps_set _ _ 8 _ _ _ _ sc_law.nd rfl (by first | exact Or.inl rfl | exact Or.inr rfl) (@pe_lst _ _ _ _ (@pa_cons _ _ _ _ _ (pe_new (df_KeptField_init T) (hr.mono (by decide)) T.g_KeptField (@pa_cons _ _ _ _ _ (pv 2) (@pa_cons _ _ _ _ _ (pv 3) (@pa_cons _ _ _ _ _ pe_str (@pa_cons _ _ _ _ _ (pv 5) pa_nil (by rfl)) (by rfl)) (by rfl)) (by rfl))) (@pa_cons _ _ _ _ _ (pe_new (df_KeptField_init T) (hr.mono (by decide)) T.g_KeptField (@pa_cons _ _ _ _ _ (pv 2) (@pa_cons _ _ _ _ _ (pv 3) (@pa_cons _ _ _ _ _ (@pe_tup _ _ _ _ _ (@pa_cons _ _ _ _ _ pe_str (@pa_cons _ _ _ _ _ pe_int pa_nil (by rfl)) (by rfl))) (@pa_cons _ _ _ _ _ (pv 5) pa_nil (by rfl)) star_tup) (by rfl)) (by rfl))) pa_nil star_call) star_call)) (by rfl) (by first | exact .inl rfl | exact .inr rfl))
      (@pss_cons _ _ _ _ _ (@ps_set _ _ 9 _ _ _ _ sc_law.nd rfl (by first | exact Or.inl rfl | exact Or.inr rfl) (@pe_df _ _ _ _ _ _ _ _ _ _ (df_law_cells T) (hr.mono (by decide)) (@pa_cons _ _ _ _ _ (pv 1) (@pa_cons _ _ _ _ _ (pv 2) (@pa_cons _ _ _ _ _ (@pe_op _ _ _ _ _ _ _ _ op_add pe_int (@pe_df _ _ _ _ _ _ _ _ _ _ (df_law_draw T) (hr.mono (by decide)) (@pa_cons _ _ _ _ _ (pv 1) (@pa_cons _ _ _ _ _ pe_int pa_nil (by rfl)) (by rfl)) (by rfl) (by decide) (by rfl) (by rfl))) pa_nil star_bin) (by rfl)) (by rfl)) (by rfl) (by decide) (by rfl) (by rfl)) (by rfl) (by first | exact .inl rfl | exact .inr rfl))
      (@pss_cons _ _ _ _ _ (@ps_for _ _ _ _ _ _ _ _ PassesOwn.never rfl (pi_seqK (K:=K) rfl (@pe_lst _ _ _ _ (@pa_cons _ _ _ _ _ (@pe_tup _ _ _ _ _ (@pa_cons _ _ _ _ _ (@pe_ix _ _ _ _ _ _ _ (ix_seqK (K:=K) rfl) (pv 6) pe_int (fun _ _=>rfl)) (@pa_cons _ _ _ _ _ (pv 9) pa_nil (by rfl)) star_sub)) (@pa_cons _ _ _ _ _ (@pe_tup _ _ _ _ _ (@pa_cons _ _ _ _ _ (@pe_ix _ _ _ _ _ _ _ (ix_seqK (K:=K) rfl) (pv 6) pe_int (fun _ _=>rfl)) (@pa_cons _ _ _ _ _ (@pe_df _ _ _ _ _ _ _ _ _ _ (df_law_shuffled T) (hr.mono (by decide)) (@pa_cons _ _ _ _ _ (pv 1) (@pa_cons _ _ _ _ _ (pv 9) pa_nil (by rfl)) (by rfl)) (by rfl) (by decide) (by rfl) (by rfl)) pa_nil star_call) star_sub)) pa_nil star_tup) star_tup))) (pg_tupK (K:=K) rfl rfl (pgs_cons (pg_name (i:=10) sc_law.nd rfl (by first | exact Or.inl rfl | exact Or.inr rfl)) (pgs_cons (pg_name (i:=11) sc_law.nd rfl (by first | exact Or.inl rfl | exact Or.inr rfl)) pgs_nil))) (@pss_one _ _ _ (@ps_for _ _ _ _ _ _ _ _ PassesOwn.never rfl (pi_seqK (K:=K) rfl (pv 11)) (pg_tupK (K:=K) rfl rfl (pgs_cons (pg_name (i:=12) sc_law.nd rfl (by first | exact Or.inl rfl | exact Or.inr rfl)) (pgs_cons (pg_name (i:=13) sc_law.nd rfl (by first | exact Or.inl rfl | exact Or.inr rfl)) (pgs_cons (pg_name (i:=14) sc_law.nd rfl (by first | exact Or.inl rfl | exact Or.inr rfl)) pgs_nil)))) (@pss_cons _ _ _ _ _ (@ps_expr _ _ _ _ (pe_mt (df_KeptField_change T) T.cl_KeptField (hr.mono (by decide)) (pv 10) (@pa_cons _ _ _ _ _ (pv 12) (@pa_cons _ _ _ _ _ (pv 13) (@pa_cons _ _ _ _ _ (pv 14) pa_nil (by rfl)) (by rfl)) (by rfl))) (by rfl))
      (@pss_one _ _ _ (@ps_if _ _ _ _ _ _ _ _ (@pt_not _ _ _ _ (@pt_val _ _ _ (@pe_df _ _ _ _ _ _ _ _ _ _ (df_law_is_rising T) (hr.mono (by decide)) (@pa_cons _ _ _ _ _ (pe_mt0 (df_KeptField_touched_last T) T.cl_KeptField (hr.mono (by decide)) (pv 10)) (@pa_cons _ _ _ _ _ (pv 12) (@pa_cons _ _ _ _ _ (pv 13) pa_nil (by rfl)) (by rfl)) star_call) (by rfl) (by decide) (by rfl) (by rfl)) (by intro _;rfl))) (@pss_one _ _ _ (@ps_ret _ _ _ _ pe_bl)) pss_nil))) (by intro _;rfl))) (by intro _;rfl))
      (@pss_cons _ _ _ _ _ (@ps_for _ _ _ _ _ _ _ _ PassesOwn.never rfl (pi_seqK (K:=K) rfl (pv 9)) (pg_tupK (K:=K) rfl rfl (pgs_cons (pg_name (i:=12) sc_law.nd rfl (by first | exact Or.inl rfl | exact Or.inr rfl)) (pgs_cons (pg_name (i:=13) sc_law.nd rfl (by first | exact Or.inl rfl | exact Or.inr rfl)) (pgs_cons (pg_name (i:=14) sc_law.nd rfl (by first | exact Or.inl rfl | exact Or.inr rfl)) pgs_nil)))) (@pss_cons _ _ _ _ _ (@ps_for _ _ _ _ _ _ _ _ PassesOwn.never rfl (pi_seqK (K:=K) rfl (@pe_op _ _ _ _ _ _ _ _ op_cat (@pe_lst _ _ _ _ (@pa_cons _ _ _ _ _ (pv 7) pa_nil (by rfl))) (pv 8))) (pg_name (i:=10) sc_law.nd rfl (by first | exact Or.inl rfl | exact Or.inr rfl)) (@pss_one _ _ _ (@ps_expr _ _ _ _ (pe_mt (df_KeptField_change T) T.cl_KeptField (hr.mono (by decide)) (pv 10) (@pa_cons _ _ _ _ _ (pv 12) (@pa_cons _ _ _ _ _ (pv 13) (@pa_cons _ _ _ _ _ (pv 14) pa_nil (by rfl)) (by rfl)) (by rfl))) (by rfl))) (by intro _;rfl))
      (@pss_cons _ _ _ _ _ (@ps_if _ _ _ _ _ _ _ _ (pw_or (@pt_cmpR _ _ _ _ _ _ _ _ (op_neA hr.units) (pe_mt0 (df_KeptField_touched_last T) T.cl_KeptField (hr.mono (by decide)) (pv 7)) (@pe_tup _ _ _ _ _ (@pa_cons _ _ _ _ _ (@pe_tup _ _ _ _ _ (@pa_cons _ _ _ _ _ (pv 12) (@pa_cons _ _ _ _ _ (pv 13) pa_nil (by rfl)) (by rfl))) pa_nil star_tup)) (nomark _)) (pw_or1 (@pt_cmpR _ _ _ _ _ _ _ _ (op_neA hr.units) (pe_mt0 (df_KeptField_told_now T) T.cl_KeptField (hr.mono (by decide)) (pv 7)) (pe_mt0 (df_KeptField_field_now T) T.cl_KeptField (hr.mono (by decide)) (pv 7)) (nomark _)))).pt (@pss_one _ _ _ (@ps_ret _ _ _ _ pe_bl)) pss_nil)
      (@pss_one _ _ _ (@ps_if _ _ _ _ _ _ _ _ (@pt_cmpR _ _ _ _ _ _ _ _ (op_neA hr.units) (pe_mt0 (df_KeptField_touched_last T) T.cl_KeptField (hr.mono (by decide)) (@pe_ix _ _ _ _ _ _ _ (ix_seqK (K:=K) rfl) (pv 8) pe_int (fun _ _=>rfl))) (pe_mt0 (df_KeptField_touched_last T) T.cl_KeptField (hr.mono (by decide)) (@pe_ix _ _ _ _ _ _ _ (ix_seqK (K:=K) rfl) (pv 8) pe_int (fun _ _=>rfl))) (nomark _)) (@pss_one _ _ _ (@ps_ret _ _ _ _ pe_bl)) pss_nil)))) (by intro _;rfl))
      (@pss_cons _ _ _ _ _ (ps_setComp (i:=15) sc_law.nd rfl (by first | exact Or.inl rfl | exact Or.inr rfl) (M:=[]) (idx:=[]) rfl (pi_seqK (K:=K) rfl (pv 6)) (compOk (by kernel_rfl)) (by decide +kernel) (by first | exact Or.inl rfl | exact Or.inr rfl) (fun _ _ _ _ _=>pts_nil) (fun _ _ _ _ _=>(@pe_tup _ _ _ _ _ (@pa_cons _ _ _ _ _ (pe_mt0 (df_KeptField_field_now T) T.cl_KeptField (hr.mono (by decide)) (pv 0)) (@pa_cons _ _ _ _ _ (pe_mt0 (df_KeptField_told_now T) T.cl_KeptField (hr.mono (by decide)) (pv 0)) (@pa_cons _ _ _ _ _ (pe_mt0 (df_KeptField_touched_last T) T.cl_KeptField (hr.mono (by decide)) (pv 0)) pa_nil star_call) star_call) star_call))))
      (@pss_cons _ _ _ _ _ (@ps_if _ _ _ _ _ _ _ _ (pw_or (@pt_cmpR _ _ _ _ _ _ _ _ (op_neA hr.units) (pe_slice (sl_X (K:=K) rfl) (@pe_ix _ _ _ _ _ _ _ (ix_seqK (K:=K) rfl) (pv 15) pe_int (fun _ _=>rfl)) po_none (po_some pe_int)) (pe_slice (sl_X (K:=K) rfl) (@pe_ix _ _ _ _ _ _ _ (ix_seqK (K:=K) rfl) (pv 15) pe_int (fun _ _=>rfl)) po_none (po_some pe_int)) (nomark _)) (pw_or1 (@pt_not _ _ _ _ (@pt_val _ _ _ (@pe_df _ _ _ _ _ _ _ _ _ _ (df_law_refused T) (hr.mono (by decide)) (@pa_cons _ _ _ _ _ (pv 1) (@pa_cons _ _ _ _ _ (@pe_ix _ _ _ _ _ _ _ (ix_seqK (K:=K) rfl) (pv 6) pe_int (fun _ _=>rfl)) (@pa_cons _ _ _ _ _ (pv 2) pa_nil (by rfl)) star_sub) (by rfl)) (by rfl) (by decide) (by rfl) (by rfl)) (by intro _;rfl))))).pt (@pss_one _ _ _ (@ps_ret _ _ _ _ pe_bl)) pss_nil)
      (@pss_one _ _ _ (@ps_ret _ _ _ _ (@pe_cmpR _ _ _ _ _ _ _ _ (op_eqX hr.units) (pe_compIf (M:=[]) (idx:=[]) rfl (pi_seqK (K:=K) rfl (pv 6)) (compOk (by kernel_rfl)) (by decide +kernel) (by first | exact Or.inl rfl | exact Or.inr rfl) (fun _ _ _ _ _=>pts_nil) (fun _ _ _ _ _=>(@pe_tup _ _ _ _ _ (@pa_cons _ _ _ _ _ (pe_mt0 (df_KeptField_field_now T) T.cl_KeptField (hr.mono (by decide)) (pv 0)) (@pa_cons _ _ _ _ _ (pe_mt0 (df_KeptField_told_now T) T.cl_KeptField (hr.mono (by decide)) (pv 0)) (@pa_cons _ _ _ _ _ (pe_mt0 (df_KeptField_touched_last T) T.cl_KeptField (hr.mono (by decide)) (pv 0)) pa_nil star_call) star_call) star_call)))) (pv 15) (nomark _))))))))))))))))),?_⟩
    refine ⟨_,rfl,_,_,rfl,hS,hlen,fun d c H1 fd fc D1 s1=>?_⟩
    dsimp only [gName,List.set]
    refine ⟨_,rfl,(by show 6≤sizeLine;decide),fun p2 hp2=>?_⟩
    refine ⟨_,rfl,_,_,_,_,rfl,D1.upd hp2,(by decide),(by decide),by omega,fun x3 H3 x30 x31 D3 k3=>?_⟩
    obtain ⟨m,em,hm⟩:=pickI (x:=x3) (ms:=[4,4,4,4,4,6]) x30 (by exact x31)
    have hm':m=4 ∨ m=6:=by
      simp only [List.mem_cons,List.not_mem_nil,or_false] at hm
      omega
    refine Or.inl ⟨_,_,_,_,rfl,rfl,SqL.of (k3 p2 _ upd_same (D1.nd hp2).1 (D1.nd hp2).2),em,?_⟩
    refine ⟨_,rfl,_,_,_,_,rfl,D3,(by decide),(by decide),by omega,fun x4 H4 x40 x41 D4 k4=>?_⟩
    refine ⟨_,_,_,_,_,rfl,D4,by omega,by omega,by omega,by omega,fun fv F h w H5 hfv hF bh bw nh D5 k5=>?_⟩
    have K5:K2 d c H1 H5:=((((K2.refl d c H1).upd hp2).trans k3).trans k4).trans k5
    obtain ⟨R,ew,eh⟩:=hF.rect
    have h1:=R.h1;have hs:=R.hs;have w1:=R.w1;have ws:=R.ws
    have fh:F.length ≤ 6:=by omega
    have fw:wideF F≤6:=by unfold wideF;omega
    dsimp only [gName,List.set]
    refine ⟨_,rfl,_,_,_,_,rfl,D5,by omega,by omega,by omega,fun wt u dn l r H6 bu bd bl br hwt D6 k6=>?_⟩
    dsimp only [gName,List.set]
    refine ⟨_,rfl,_,_,_,_,rfl,D6,by omega,fun rv ru H7 hru D7 k7=>?_⟩
    dsimp only [gName,List.set]
    refine ⟨_,rfl,_,_,_,rfl,D7,by omega,fun sv sa sb H8 hsv hSh D8 k8=>?_⟩
    dsimp only [gName,List.set]
    have K8:K2 d c H1 H8:=((K5.trans k6).trans k7).trans k8
    have f8:=((hfv.keep (k6.tups D5)).keep (k7.tups D6)).keep (k8.tups D7)
    have w8:=((isWin hwt).keep (k7.tups D6)).keep (k8.tups D7)
    have r8:=hru.keep (k8.tups D7)
    have ok:∀ ru':Rule,MkOk (⟨ru',u,dn,l,r,sa,sb⟩:Mk):=fun ru'=>⟨hSh,⟨Nat.le_trans bu (by decide),Nat.le_trans bd (by decide),Nat.le_trans bl (by decide),Nat.le_trans br (by decide)⟩,Nat.le_trans (Nat.mul_le_mul (show u + dn + 1≤13 by omega) (show l + r + 1≤13 by omega)) (by decide)⟩
    have okA:MkOk (⟨ru,0,0,0,0,sa,sb⟩:Mk):=⟨hSh,⟨Nat.zero_le _,Nat.zero_le _,Nat.zero_le _,Nat.zero_le _⟩,by show (0 + 0 + 1) * (0 + 0 + 1)≤100000;decide⟩
    have SH8:Same H H8:=K8.old s1 fd fc
    clear k3 k4 k5 k6 k7 k8 K5
    refine ⟨_,rfl,_,rfl,_,rfl,_,rfl,?_⟩
    dsimp only [tNil,List.nil_append,List.cons_append,List.append_nil]
    refine make_K33 (K:=K) (C:=C) (m:=⟨ru,u,dn,l,r,sa,sb⟩) R (by omega) (by omega) f8 w8 r8 hsv (ok ru) fun x0 y0 H9 hx0 s9 q0=>?_
    refine ⟨_,rfl,_,rfl,_,rfl,_,rfl,?_⟩
    dsimp only [tNil,List.nil_append,List.cons_append,List.append_nil]
    refine make_K33 (K:=K) (C:=C) (m:=⟨ru,u,dn,l,r,sa,sb⟩) R (by omega) (by omega) (f8.keep s9.tups) (w8.keep s9.tups) (r8.keep s9.tups) (hsv.keep s9.tups) (ok ru) fun x1 y1 H10 hx1 s10 q1=>?_
    refine ⟨(by show 2≤sizeLine;decide),fun kp hkp=>?_⟩
    have s11:=same_upd (o:=.lst [.ref x0,.ref x1]) hkp
    have e11:upd H10 kp (.lst [.ref x0,.ref x1]) kp=some (.lst [.ref x0,.ref x1]):=upd_same
    generalize upd H10 kp (.lst [.ref x0,.ref x1])=H11 at s11 e11 ⊢
    have S11:Same H8 H11:=(s9.trans s10).trans s11
    have nkp:=(D8.keep S11)
    dsimp only [gName,List.set]
    refine ⟨_,rfl,(by show 4≤sizeLine;decide),fun tz htz=>?_⟩
    have s12:=same_upd (o:=.tup [.int 0,.int 0,.int 0,.int 0]) htz
    have e12:upd H11 tz (.tup [.int 0,.int 0,.int 0,.int 0]) tz=some (.tup [.int 0,.int 0,.int 0,.int 0]):=upd_same
    generalize upd H11 tz (.tup [.int 0,.int 0,.int 0,.int 0])=H12 at s12 e12 ⊢
    have S12:=S11.trans s12
    refine ⟨_,rfl,_,rfl,?_⟩
    dsimp only [tNil,List.nil_append,List.cons_append,List.append_nil]
    refine make_K33 (K:=K) (C:=C) (m:=⟨ru,0,0,0,0,sa,sb⟩) R (by omega) (by omega) (f8.keep S12.tups) (isWin (u:=0) (d:=0) (l:=0) (r:=0) e12) (r8.keep S12.tups) (hsv.keep S12.tups) okA fun x2 y2 H13 hx2 s13 q2=>?_
    have S13:=S12.trans s13
    dsimp only [gName,List.set]
    refine ⟨_,rfl,_,rfl,_,rfl,?_⟩
    dsimp only [tNil,List.nil_append,List.cons_append,List.append_nil]
    refine make_K33 (K:=K) (C:=C) (m:=⟨.there,u,dn,l,r,sa,sb⟩) R (by omega) (by omega) (f8.keep S13.tups) (w8.keep S13.tups) (.str _) (hsv.keep S13.tups) (ok .there) fun x3 y3 H14 hx3 s14 q3=>?_
    have S14:=S13.trans s14
    refine ⟨_,rfl,_,rfl,(by show 2≤sizeLine;decide),fun tt htt=>?_⟩
    have s15:=same_upd (o:=.tup [.str "told",.int 7]) htt
    have e15:upd H14 tt (.tup [.str "told",.int 7]) tt=some (.tup [.str "told",.int 7]):=upd_same
    generalize upd H14 tt (.tup [.str "told",.int 7])=H15 at s15 e15 ⊢
    have S15:=S14.trans s15
    refine ⟨_,rfl,?_⟩
    dsimp only [tNil,List.nil_append,List.cons_append,List.append_nil]
    refine make_K33 (K:=K) (C:=C) (m:=⟨.told (some 7),u,dn,l,r,sa,sb⟩) R (by omega) (by omega) (f8.keep S15.tups) (w8.keep S15.tups) (.tup e15 (.cons (.str _) (.cons (.int _) .nil))) (hsv.keep S15.tups) (ok (.told (some 7))) fun x4 y4 H16 hx4 s16 q4=>?_
    have S16:=S15.trans s16
    refine ⟨(by show 2≤sizeLine;decide),fun bs hbs=>?_⟩
    have s17:=same_upd (o:=.lst [.ref x3,.ref x4]) hbs
    have e17:upd H16 bs (.lst [.ref x3,.ref x4]) bs=some (.lst [.ref x3,.ref x4]):=upd_same
    generalize upd H16 bs (.lst [.ref x3,.ref x4])=H17 at s17 e17 ⊢
    have S17:=S16.trans s17
    have nbs:=(D8.keep S16).nd hbs
    have nkp:=(D8.keep (s9.trans s10)).nd hkp
    dsimp only [gName,List.set]
    have p0:=q0.same ((((((s10.trans s11).trans s12).trans s13).trans s14).trans s15).trans s16)
    have p1:=q1.same (((((s11.trans s12).trans s13).trans s14).trans s15).trans s16)
    have p2:=q2.same ((s14.trans s15).trans s16)
    have p3:=q3.same (s15.trans s16)
    have n01:x0≠x1:=by obtain ⟨_,e⟩:=q0.at_;exact ne_of_none e hx1
    have n02:x0≠x2:=by obtain ⟨_,e⟩:=q0.at_;exact ne_of_none (((s10.trans s11).trans s12) _ _ e) hx2
    have n12:x1≠x2:=by obtain ⟨_,e⟩:=q1.at_;exact ne_of_none ((s11.trans s12) _ _ e) hx2
    have n03:x0≠x3:=by obtain ⟨_,e⟩:=q0.at_;exact ne_of_none ((((s10.trans s11).trans s12).trans s13) _ _ e) hx3
    have n13:x1≠x3:=by obtain ⟨_,e⟩:=q1.at_;exact ne_of_none (((s11.trans s12).trans s13) _ _ e) hx3
    have n23:x2≠x3:=by obtain ⟨_,e⟩:=q2.at_;exact ne_of_none e hx3
    have n04:x0≠x4:=by obtain ⟨_,e⟩:=q0.at_;exact ne_of_none ((((((s10.trans s11).trans s12).trans s13).trans s14).trans s15) _ _ e) hx4
    have n14:x1≠x4:=by obtain ⟨_,e⟩:=q1.at_;exact ne_of_none (((((s11.trans s12).trans s13).trans s14).trans s15) _ _ e) hx4
    have n24:x2≠x4:=by obtain ⟨_,e⟩:=q2.at_;exact ne_of_none ((s14.trans s15) _ _ e) hx4
    have n34:x3≠x4:=by obtain ⟨_,e⟩:=q3.at_;exact ne_of_none (s15 _ _ e) hx4
    have f17:=f8.keep S17.tups
    have D17:=D8.keep S17
    have e17k:=((((((s12.trans s13).trans s14).trans s15).trans s16).trans s17)) _ _ e11
    obtain ⟨o,eo0,eo1,eo2,eo3,eo4,hq,hne⟩:∃ o:Nat→One,o 0=⟨x0,y0,⟨ru,u,dn,l,r,sa,sb⟩⟩∧o 1=⟨x1,y1,⟨ru,u,dn,l,r,sa,sb⟩⟩∧o 2=⟨x2,y2,⟨ru,0,0,0,0,sa,sb⟩⟩∧o 3=⟨x3,y3,⟨.there,u,dn,l,r,sa,sb⟩⟩∧o 4=⟨x4,y4,⟨.told (some 7),u,dn,l,r,sa,sb⟩⟩∧(∀ k,k < 5→Kq K C H17 (o k) F [])∧∀ j k,j < 5→k < 5→j≠k→(o j).x ≠ (o k).x:=by
      refine ⟨five ⟨x0,y0,⟨ru,u,dn,l,r,sa,sb⟩⟩ ⟨x1,y1,⟨ru,u,dn,l,r,sa,sb⟩⟩ ⟨x2,y2,⟨ru,0,0,0,0,sa,sb⟩⟩ ⟨x3,y3,⟨.there,u,dn,l,r,sa,sb⟩⟩ ⟨x4,y4,⟨.told (some 7),u,dn,l,r,sa,sb⟩⟩,rfl,rfl,rfl,rfl,rfl,all5 (p0.same s17) (p1.same s17) (p2.same s17) (p3.same s17) (q4.same s17),five_ne n01 n02 n03 n04 n12 n13 n14 n23 n24 n34⟩
    rw [show x0=(o 0).x by rw [eo0],show x1=(o 1).x by rw [eo1]] at e17k
    rw [show x3=(o 3).x by rw [eo3],show x4=(o 4).x by rw [eo4]] at e17
    rw [show x2=(o 2).x by rw [eo2]]
    have em0:(o 0).m=⟨ru,u,dn,l,r,sa,sb⟩:=by rw [eo0]
    have em1:(o 1).m=⟨ru,u,dn,l,r,sa,sb⟩:=by rw [eo1]
    have em2:(o 2).m=⟨ru,0,0,0,0,sa,sb⟩:=by rw [eo2]
    have em3:(o 3).m=⟨.there,u,dn,l,r,sa,sb⟩:=by rw [eo3]
    have em4:(o 4).m=⟨.told (some 7),u,dn,l,r,sa,sb⟩:=by rw [eo4]
    clear p0 p1 p2 p3 q0 q1 q2 q3 q4 n01 n02 n12 n03 n13 n23 n04 n14 n24 n34 eo0 eo1 eo2 eo3 eo4 hx0 hx1 hx2 hx3 hx4 e11 e12 e15
    refine ⟨_,rfl,_,rfl,_,rfl,_,_,_,_,rfl,D17,(by decide),(by decide),by omega,fun y18 H18 y180 y181 D18 k18=>?_⟩
    refine ⟨_,_,rfl,rfl,?_⟩
    refine ⟨d,c,fv,F,_,_,rfl,D18,by omega,R,fh,fw,f17.keep (k18.tups D17),by omega,by omega,fun ca xs L H19 hca k19 D19 e19 hxs lL bL ndL=>?_⟩
    have K19:=k18.trans k19
    have nca:=D18.nd hca
    have ek19:=K19 _ _ e17k nkp.1 nkp.2
    have eb19:=K19 _ _ e17 nbs.1 nbs.2
    have f19:=f17.keep (K19.tups D17)
    have q19:∀ k,k < 5→Kq K C H19 (o k) F []:=fun k hk=>(hq k hk).k2 D17 K19
    dsimp only [gName,List.set]
    refine Or.inl ⟨_,rfl,Or.inl ⟨_,_,_,_,rfl,rfl,SqL.of ek19,rfl,?_⟩⟩
    refine ⟨_,rfl,(by show 2≤sizeLine;decide),fun t1 ht1=>?_⟩
    have s20:=same_upd (o:=.tup [.ref (o 0).x,.ref ca]) ht1
    have e20:upd H19 t1 (.tup [.ref (o 0).x,.ref ca]) t1=some (.tup [.ref (o 0).x,.ref ca]):=upd_same
    generalize upd H19 t1 (.tup [.ref (o 0).x,.ref ca])=H20 at s20 e20 ⊢
    refine ⟨_,rfl,Or.inl ⟨_,_,_,_,rfl,rfl,SqL.of (s20 _ _ ek19),rfl,?_⟩⟩
    refine ⟨_,rfl,_,rfl,?_⟩
    refine ⟨d,c,ca,xs,L,_,rfl,D19.keep s20,by omega,s20 _ _ e19,nca.1,nca.2,hxs.keep s20.tups,lL,fun sh ys M H21 hsh k21 D21 e21 hys pM=>?_⟩
    have t21:=k21.tups (D19.keep s20)
    refine ⟨(by show 2≤sizeLine;decide),fun t2 ht2=>?_⟩
    have s22:=same_upd (o:=.tup [.ref (o 1).x,.ref sh]) ht2
    have e22:upd H21 t2 (.tup [.ref (o 1).x,.ref sh]) t2=some (.tup [.ref (o 1).x,.ref sh]):=upd_same
    generalize upd H21 t2 (.tup [.ref (o 1).x,.ref sh])=H22 at s22 e22 ⊢
    refine ⟨(by show 2≤sizeLine;decide),fun lp hlp=>?_⟩
    have s23:=same_upd (o:=.lst [.ref t1,.ref t2]) hlp
    have e23:upd H22 lp (.lst [.ref t1,.ref t2]) lp=some (.lst [.ref t1,.ref t2]):=upd_same
    generalize upd H22 lp (.lst [.ref t1,.ref t2])=H23 at s23 e23 ⊢
    have S23:=s22.trans s23
    have T23:KeepT H19 H23:=fun b ws e=>S23 _ _ (t21 _ _ (s20 _ _ e))
    have K23:K2 d c H19 H23:=((s20.k2 d c).trans k21).trans (S23.k2 d c)
    have D23:=D21.keep S23
    have ek:=K23 _ _ ek19 nkp.1 nkp.2
    have eb:=K23 _ _ eb19 nbs.1 nbs.2
    have ec:=K23 _ _ e19 nca.1 nca.2
    have es:=S23 _ _ e21
    have hc0:=hxs.keep T23
    have hs0:=hys.keep S23.tups
    have f23:=f19.keep T23
    have et1:=S23 _ _ (t21 _ _ e20)
    have et2:=s23 _ _ e22
    have W0:W33 K C o H23 H23 (fun _=>F) (fun _=>[]):=⟨fun b u e _=>e,fun k hk=>(q19 k hk).k2 D19 K23⟩
    have N0:N33 C o H23:=⟨hne,fun k hk=>(W0.kq k hk).at_⟩
    clear q19 hq hne s20 s22 s23 S23 e20 e22 e21 hxs hys T23 K23 t21 k21 D21 D19 D18 D17 e19 ek19 eb19 f19 f17 k18 k19 K19 hca hsh hlp ht1 ht2
    have bM:∀ x∈M,x.1 < F.length ∧ x.2.1 < wideF F:=fun x hx=>bL x (pM.mem_iff.mp hx)
    have uM:undo M F=undo L F:=undo_perm pM F R bM ((pM.map _).nodup_iff.mpr ndL)
    refine ⟨lp,rfl,⟨_,SqL.of e23⟩,?_⟩
    refine for_list (xs:=[.ref t1,.ref t2]) (fun m σ H'=>∃ (v10 v11 v12 v13 v14:Option V) (T:Nat→List (Int × Int)),σ=[some (.ref a),some (.ref d),some fv,some (.ref wt),some rv,some sv,some (.ref kp),some (.ref (o 2).x),some (.ref bs),some (.ref ca),v10,v11,v12,v13,v14,none]∧W33 K C o H23 H' (fun j=>if j < m then undo L F else F) T) ⟨none,none,none,none,none,_,rfl,W0.of (fun k _=>by rw [if_neg (Nat.not_lt_zero k)]) fun _ _=>rfl⟩ (fun m σ H' _ ⟨_,_,_,_,_,_,_,W⟩=>SqL.of (W.lst N0 e23)) ?_ ?_
    · rintro m x _ H24 hx ⟨v10,v11,v12,v13,v14,T24,rfl,W24⟩
      have hm2:m < 2:=(List.getElem?_eq_some_iff.mp hx).1
      obtain ⟨tm,la,OL,zs,rfl,etm,ela,hzs,bO,uO⟩:∃ (tm la:Addr) (OL:List (Nat × Nat × Option Int)) (zs:List V),x = .ref tm∧H23 tm=some (.tup [.ref (o m).x,.ref la])∧H23 la=some (.lst zs)∧IsDs H23 zs (OL.map doneD)∧(∀ x∈OL,x.1 < F.length ∧ x.2.1 < wideF F)∧undo OL F=undo L F:=by
        match m,hm2 with
        | 0,_=>exact ⟨t1,ca,L,xs,(Option.some.inj hx).symm,et1,ec,hc0,bL,rfl⟩
        | 1,_=>exact ⟨t2,sh,M,ys,(Option.some.inj hx).symm,et2,es,hs0,bM,uM⟩
      have lzs:zs.length=OL.length:=by rw [hzs.length,List.length_map]
      have emm:(o m).m.u=u∧(o m).m.d=dn∧(o m).m.l=l∧(o m).m.r=r∧(o m).m.ru=ru:=by
        match m,hm2 with
        | 0,_=>rw [em0];exact ⟨rfl,rfl,rfl,rfl,rfl⟩
        | 1,_=>rw [em1];exact ⟨rfl,rfl,rfl,rfl,rfl⟩
      refine ⟨_,_,rfl,SqT.of (W24.tups N0 _ _ etm),rfl,_,_,rfl,_,_,rfl,rfl,?_⟩
      dsimp only [gName,List.set]
      refine for_seqV (K:=K) (xs:=zs) (fun k h=>⟨_,rfl,h⟩) (.inr (W24.lst N0 ela)) (fun i σ H'=>∃ (v12 v13 v14:Option V) (T:Nat→List (Int × Int)),σ=[some (.ref a),some (.ref d),some fv,some (.ref wt),some rv,some sv,some (.ref kp),some (.ref (o 2).x),some (.ref bs),some (.ref ca),some (.ref (o m).x),some (.ref la),v12,v13,v14,none]∧W33 K C o H23 H' (fun j=>if j=m then undo (OL.take i) F else if j < m then undo L F else F) T) ⟨v12,v13,v14,T24,rfl,W24.of (fun k _=>?_) fun _ _=>rfl⟩ (fun i σ' H' _ ⟨_,_,_,_,_,W⟩ _=>by rw [W.lst N0 ela,W24.lst N0 ela]) ?_ ?_
      · show (if k < m then undo L F else F)=if k=m then F else if k < m then undo L F else F
        by_cases z:k=m
        · rw [if_pos z,if_neg (by omega)]
        · rw [if_neg z]
      · rintro i x _ H25 hx ⟨v12,v13,v14,T25,rfl,W25⟩
        have hi:i < OL.length:=by have:=(List.getElem?_eq_some_iff.mp hx).1;omega
        obtain ⟨x',ex,hx'⟩:=hzs.get (i:=i) (d:=doneD OL[i]) (by rw [List.getElem?_map,List.getElem?_eq_getElem hi];rfl)
        obtain rfl:x=x':=by rw [hx] at ex;exact Option.some.inj ex
        obtain ⟨q1,rfl,hq⟩:=done_inv hx'
        have kq0:Kq K C H25 (o m) (undo (OL.take i) F) (T25 m):=by have:=W25.kq m (by omega);rw [if_pos rfl] at this;exact this
        have et:=undo_take OL F i hi
        obtain ⟨RM,lM,wM⟩:=undo_rect (OL.take i) F R fun y hy=>bO y (List.mem_of_mem_take hy)
        obtain ⟨bi,bj⟩:=bO OL[i] (List.getElem_mem hi)
        generalize undo (OL.take i) F=Fm at kq0 et RM lM wM W25
        generalize OL[i]=z at hq et bi bj
        obtain ⟨i1,j1,cl⟩:=z
        dsimp only at hq et bi bj
        have hj:j1 < (Fm.headD []).length:=by have e:(Fm.headD []).length=wideF F:=wM;omega
        refine ⟨_,_,rfl,SqT.of (W25.tups N0 _ _ hq),rfl,_,_,rfl,_,_,rfl,_,_,rfl,rfl,?_⟩
        dsimp only [gName,List.set]
        obtain ⟨fk,wk,rk,sk,tk,cp,us,kq,hcp,hus⟩:=kq0
        refine ⟨_,rfl,(o m).x,(o m).dy,_,rfl,kq.at_,kp_no_change ..,_,rfl,_,rfl,_,rfl,?_⟩
        dsimp only [tNil,List.nil_append,List.cons_append,List.append_nil]
        refine ⟨(o m).x,(o m).dy,fk,wk,rk,sk,tk,.ref cp,Fm,(o m).m.ru,(o m).m.u,(o m).m.d,(o m).m.l,(o m).m.r,(o m).m.a,(o m).m.b,i1,j1,cl,rfl,kq,by omega,hj,fun fv3 tv3 cp3 us3 H26 kb kq3 hcp3 hus3=>?_⟩
        have W26:=W25.chg N0 (by omega) kb ⟨fv3,wk,rk,sk,tv3,cp3,us3,kq3,hcp3,hus3⟩
        refine ⟨_,rfl,(o m).x,(o m).dy,_,rfl,kq3.at_,kp_no_touched_last ..,?_⟩
        dsimp only [tNil,List.nil_append,List.cons_append,List.append_nil]
        refine ⟨(o m).x,(o m).dy,fv3,wk,rk,sk,tv3,.ref cp3,rfl,kq3.at_,?_⟩
        refine ⟨_,rfl,_,rfl,?_⟩
        refine ⟨cp3,us3,_,_,_,rfl,hcp3,hus3,fun t ht=>?_,touched_rise (by omega) ..,touched_few _ _ _ _ _ _ _ (by omega) (by omega),touched_self _ _ _ _ _ (by omega) (by omega),fun H27 s27=>?_⟩
        · have:=touched_in ht
          omega
        refine ⟨_,rfl,iteF ?_⟩
        refine ⟨_,_,_,_,rfl,(W26.same s27).of (fun k _=>?_) fun _ _=>rfl⟩
        by_cases z:k=m
        · rw [if_pos z,if_pos z,et]
        · rw [if_neg z,if_neg z,if_neg z]
      · rintro _ H25 ⟨v12,v13,v14,T25,rfl,W25⟩
        rw [lzs,List.take_length,uO] at W25
        refine ⟨_,_,_,_,_,_,rfl,W25.of (fun k _=>?_) fun _ _=>rfl⟩
        by_cases z:k=m
        · rw [if_pos z,if_pos (by omega)]
        · rw [if_neg z]
          by_cases z2:k < m
          · rw [if_pos z2,if_pos (by omega)]
          · rw [if_neg z2,if_neg (by omega)]
    rintro _ H24 ⟨v10,v11,v12,v13,v14,T24,rfl,W24⟩
    have W24':W33 K C o H23 H24 (fun j=>if j < 2 then undo L F else F) T24:=W24
    clear W24
    dsimp only
    have lxs:xs.length=L.length:=by rw [hc0.length,List.length_map]
    refine for_seqV (K:=K) (xs:=xs) (fun k h=>⟨_,rfl,h⟩) (.inr (W24'.lst N0 ec)) (fun i σ H'=>∃ (v10 v12 v13 v14:Option V) (T:Nat→List (Int × Int)),σ=[some (.ref a),some (.ref d),some fv,some (.ref wt),some rv,some sv,some (.ref kp),some (.ref (o 2).x),some (.ref bs),some (.ref ca),v10,v11,v12,v13,v14,none]∧W33 K C o H23 H' (fun j=>if j < 2 then undo L F else undo (L.take i) F) T) ⟨v10,v12,v13,v14,T24,rfl,W24'⟩ (fun i σ' H' _ ⟨_,_,_,_,_,_,W⟩ _=>by rw [W.lst N0 ec,W24'.lst N0 ec]) ?_ ?_
    · rintro i x _ H25 hx ⟨v10,v12,v13,v14,T25,rfl,W25⟩
      have hi:i < L.length:=by have:=(List.getElem?_eq_some_iff.mp hx).1;omega
      obtain ⟨x',ex,hx'⟩:=hc0.get (i:=i) (d:=doneD L[i]) (by rw [List.getElem?_map,List.getElem?_eq_getElem hi];rfl)
      obtain rfl:x=x':=by rw [hx] at ex;exact Option.some.inj ex
      obtain ⟨q1,rfl,hq⟩:=done_inv hx'
      have et:=undo_take L F i hi
      obtain ⟨RM,lM,wM⟩:=undo_rect (L.take i) F R fun y hy=>bL y (List.mem_of_mem_take hy)
      obtain ⟨bi,bj⟩:=bL L[i] (List.getElem_mem hi)
      rw [et]
      clear et
      generalize undo (L.take i) F=Fm at RM lM wM W25 ⊢
      generalize L[i]=z at hq bi bj ⊢
      obtain ⟨i1,j1,cl⟩:=z
      dsimp only at hq bi bj ⊢
      have hj:j1 < (Fm.headD []).length:=by have e:(Fm.headD []).length=wideF F:=wM;omega
      obtain ⟨RP,LP,WP⟩:=putC_rect RM (i:=i1) (j:=j1) (by omega) hj cl
      refine ⟨_,_,rfl,SqT.of (W25.tups N0 _ _ hq),rfl,_,_,rfl,_,_,rfl,_,_,rfl,rfl,?_⟩
      dsimp only [gName,List.set]
      refine Or.inl ⟨_,rfl,(by show 1≤sizeLine;decide),fun p1 hp1=>?_⟩
      have s26:=same_upd (o:=.lst [.ref (o 2).x]) hp1
      have e26:upd H25 p1 (.lst [.ref (o 2).x]) p1=some (.lst [.ref (o 2).x]):=upd_same
      generalize upd H25 p1 (.lst [.ref (o 2).x])=H26 at s26 e26 ⊢
      refine ⟨_,rfl,?_⟩
      refine ⟨_,_,_,_,rfl,rfl,e26,s26 _ _ (W25.lst N0 eb),(by show 3≤sizeLine;decide),fun p2 hp2=>?_⟩
      have s27:=same_upd (o:=.lst ([.ref (o 2).x] ++ [.ref (o 3).x,.ref (o 4).x])) hp2
      have e27:upd H26 p2 (.lst ([.ref (o 2).x] ++ [.ref (o 3).x,.ref (o 4).x])) p2=some (.lst [.ref (o 2).x,.ref (o 3).x,.ref (o 4).x]):=upd_same
      generalize upd H26 p2 (.lst ([.ref (o 2).x] ++ [.ref (o 3).x,.ref (o 4).x]))=H27 at s27 e27 ⊢
      have W27:=W25.same (s26.trans s27)
      refine ⟨p2,rfl,⟨_,SqL.of e27⟩,?_⟩
      refine for_list (xs:=[.ref (o 2).x,.ref (o 3).x,.ref (o 4).x]) (fun k σ H'=>∃ (v10:Option V) (T:Nat→List (Int × Int)),σ=[some (.ref a),some (.ref d),some fv,some (.ref wt),some rv,some sv,some (.ref kp),some (.ref (o 2).x),some (.ref bs),some (.ref ca),v10,v11,some (.int (i1:Int)),some (.int (j1:Int)),some (cellV cl),none]∧W33 K C o H23 H' (fun j=>if j < 2 then undo L F else if j < 2 + k then putC Fm i1 j1 cl else Fm) T∧(∀ j,2≤j→j < 2 + k→T j=touched Fm (o j).m.ru (o j).m.u (o j).m.d (o j).m.l (o j).m.r (i1:Int) (j1:Int))∧H' p2=some (.lst [.ref (o 2).x,.ref (o 3).x,.ref (o 4).x])) ⟨v10,T25,rfl,W27.of (fun k _=>?_) fun _ _=>rfl,fun j h1 h2=>absurd h2 (by omega),e27⟩ (fun k σ H' _ ⟨_,_,_,_,_,e⟩=>SqL.of e) ?_ ?_
      · show (if k < 2 then undo L F else Fm)=if k < 2 then undo L F else if k < 2 + 0 then putC Fm i1 j1 cl else Fm
        by_cases z:k < 2
        · rw [if_pos z,if_pos z]
        · rw [if_neg z,if_neg z,if_neg (by omega)]
      · rintro k x _ H28 hx ⟨v10,T28,rfl,W28,hT28,e28⟩
        have hk:k < 3:=(List.getElem?_eq_some_iff.mp hx).1
        obtain rfl:V.ref (o (2 + k)).x=x:=by
          match k,hk with
          | 0,_=>exact Option.some.inj hx
          | 1,_=>exact Option.some.inj hx
          | 2,_=>exact Option.some.inj hx
        have hk5:2 + k < 5:=by omega
        have kq0:Kq K C H28 (o (2 + k)) Fm (T28 (2 + k)):=by have:=W28.kq (2 + k) hk5;rw [if_neg (by omega),if_neg (by omega)] at this;exact this
        obtain ⟨fk,wk,rk,sk,tk,cp,us,kq,hcp,hus⟩:=kq0
        dsimp only [gName,List.set]
        refine ⟨_,rfl,(o (2 + k)).x,(o (2 + k)).dy,_,rfl,kq.at_,kp_no_change ..,_,rfl,_,rfl,_,rfl,?_⟩
        dsimp only [tNil,List.nil_append,List.cons_append,List.append_nil]
        refine ⟨(o (2 + k)).x,(o (2 + k)).dy,fk,wk,rk,sk,tk,.ref cp,Fm,(o (2 + k)).m.ru,(o (2 + k)).m.u,(o (2 + k)).m.d,(o (2 + k)).m.l,(o (2 + k)).m.r,(o (2 + k)).m.a,(o (2 + k)).m.b,i1,j1,cl,rfl,kq,by omega,hj,fun fv3 tv3 cp3 us3 H29 kb kq3 hcp3 hus3=>?_⟩
        have W29:=W28.chg N0 hk5 kb ⟨fv3,wk,rk,sk,tv3,cp3,us3,kq3,hcp3,hus3⟩
        refine ⟨_,_,rfl,W29.of (fun j _=>?_) fun _ _=>rfl,fun j h1 h2=>?_,kb _ _ e28 (ne_of e28 kq.at_ fun z=>by cases z)⟩
        · by_cases z:j=2 + k
          · rw [if_pos z,if_neg (by omega),if_pos (by omega)]
          · rw [if_neg z]
            by_cases z2:j < 2
            · rw [if_pos z2,if_pos z2]
            · rw [if_neg z2,if_neg z2]
              by_cases z3:j < 2 + k
              · rw [if_pos z3,if_pos (by omega)]
              · rw [if_neg z3,if_neg (by omega)]
        · by_cases z:j=2 + k
          · rw [if_pos z,z]
          · rw [if_neg z]
            exact hT28 j h1 (by omega)
      · rintro _ H28 ⟨v10,T28,rfl,W28,hT28,e28⟩
        dsimp only
        have G28:∀ k,2≤k→k < 5→Kq K C H28 (o k) (putC Fm i1 j1 cl) (touched Fm (o k).m.ru (o k).m.u (o k).m.d (o k).m.l (o k).m.r (i1:Int) (j1:Int)):=fun k h2 h5=>by
          have:=W28.kq k h5
          rw [if_neg (by omega),if_pos (show k < 2 + [V.ref (o 2).x,V.ref (o 3).x,V.ref (o 4).x].length from h5),hT28 k h2 h5] at this
          exact this
        obtain ⟨fk,wk,rk,sk,tk,cp,us,kq,hcp,hus⟩:=G28 2 (by omega) (by omega)
        refine ⟨_,rfl,(o 2).x,(o 2).dy,_,rfl,kq.at_,kp_no_touched_last ..,?_⟩
        dsimp only [tNil,List.nil_append,List.cons_append,List.append_nil]
        refine ⟨(o 2).x,(o 2).dy,fk,wk,rk,sk,tk,.ref cp,rfl,kq.at_,?_⟩
        refine ⟨_,rfl,_,rfl,(by show 2≤sizeLine;decide),fun p3 hp3=>?_⟩
        have s29:=same_upd (o:=.tup [.int (i1:Int),.int (j1:Int)]) hp3
        have e29:upd H28 p3 (.tup [.int (i1:Int),.int (j1:Int)]) p3=some (.tup [.int (i1:Int),.int (j1:Int)]):=upd_same
        generalize upd H28 p3 (.tup [.int (i1:Int),.int (j1:Int)])=H29 at s29 e29 ⊢
        refine ⟨(by show 1≤sizeLine;decide),fun p4 hp4=>?_⟩
        have s30:=same_upd (o:=.tup [.ref p3]) hp4
        have e30:upd H29 p4 (.tup [.ref p3]) p4=some (.tup [.ref p3]):=upd_same
        generalize upd H29 p4 (.tup [.ref p3])=H30 at s30 e30 ⊢
        have S30:=s29.trans s30
        refine ne_pl (us:=[((i1:Int),(j1:Int))]) (.tup (S30 _ _ hcp) (hus.keep S30.tups)) (.tup e30 (.cons (isPlace (s30 _ _ e29)) .nil)) (by rw [em2];exact touched_one ru (by omega) hj) ?_
        refine ⟨_,rfl,iteF ?_⟩
        refine ⟨_,rfl,(o 2).x,(o 2).dy,_,rfl,S30 _ _ kq.at_,kp_no_told_now ..,?_⟩
        dsimp only [tNil,List.nil_append,List.cons_append,List.append_nil]
        refine ⟨(o 2).x,(o 2).dy,fk,wk,rk,sk,tk,.ref cp,rfl,S30 _ _ kq.at_,?_⟩
        refine ⟨_,rfl,(o 2).x,(o 2).dy,_,rfl,S30 _ _ kq.at_,kp_no_field_now ..,?_⟩
        dsimp only [tNil,List.nil_append,List.cons_append,List.append_nil]
        refine ⟨(o 2).x,(o 2).dy,fk,wk,rk,sk,tk,.ref cp,rfl,S30 _ _ kq.at_,?_⟩
        refine ne_fields (kq.told.keep S30.tups) (kq.fd_.keep S30.tups) (by rw [em2];exact fil_one RP ru sa sb) ⟨_,rfl,iteF ?_⟩
        dsimp only [tNext,tSeq]
        have W30:=W28.same S30
        obtain ⟨fk3,wk3,rk3,sk3,tk3,cp3,us3,kq3,hcp3,hus3⟩:=(G28 3 (by omega) (by omega)).same S30
        obtain ⟨fk4,wk4,rk4,sk4,tk4,cp4,us4,kq4,hcp4,hus4⟩:=(G28 4 (by omega) (by omega)).same S30
        refine ⟨_,rfl,Or.inl ⟨_,_,_,_,rfl,rfl,SqL.of (W30.lst N0 eb),rfl,?_⟩⟩
        refine ⟨(o 3).x,(o 3).dy,_,rfl,kq3.at_,kp_no_touched_last ..,?_⟩
        dsimp only [tNil,List.nil_append,List.cons_append,List.append_nil]
        refine ⟨(o 3).x,(o 3).dy,fk3,wk3,rk3,sk3,tk3,.ref cp3,rfl,kq3.at_,?_⟩
        refine ⟨_,rfl,Or.inl ⟨_,_,_,_,rfl,rfl,SqL.of (W30.lst N0 eb),rfl,?_⟩⟩
        refine ⟨(o 4).x,(o 4).dy,_,rfl,kq4.at_,kp_no_touched_last ..,?_⟩
        dsimp only [tNil,List.nil_append,List.cons_append,List.append_nil]
        refine ⟨(o 4).x,(o 4).dy,fk4,wk4,rk4,sk4,tk4,.ref cp4,rfl,kq4.at_,?_⟩
        refine ne_pl (.tup hcp3 hus3) (.tup hcp4 hus4) (by rw [em3,em4];exact touched_told ..) ⟨_,rfl,iteF ?_⟩
        refine ⟨_,_,_,_,_,rfl,W30.of (fun k hk=>?_) fun _ _=>rfl⟩
        by_cases z:k < 2
        · rw [if_pos z,if_pos z]
        · rw [if_neg z,if_neg z,if_pos (show k < 2 + [V.ref (o 2).x,V.ref (o 3).x,V.ref (o 4).x].length from hk)]
    rintro _ H25 ⟨v10,v12,v13,v14,T25,rfl,W25⟩
    rw [lxs,List.take_length] at W25
    have G25:∀ k,k < 2→Kq K C H25 (o k) (undo L F) (T25 k):=fun k hk=>by
      have:=W25.kq k (by omega)
      rw [if_pos hk] at this
      exact this
    have ek25:=W25.lst N0 ek
    have f25:=f23.keep (W25.tups N0)
    have D25:Dk H25 d c 5000:=by
      obtain ⟨a1,a2,a3,a4,g1,g2,a5⟩:=D23.mono (show _≤5000 by omega)
      exact ⟨a1,a2,a3,a4,W25.lst N0 g1,W25.lst N0 g2,a5⟩
    obtain ⟨RF,lF,wF⟩:=undo_rect L F R bL
    generalize undo L F=FF at G25 RF lF wF
    clear W25 W24' W0
    dsimp only
    have ax:∀ k,k < 2→∀ {H':Hp},Same H25 H'→Kq K C H' (o k) FF (T25 k):=fun k hk {H'} s=>(G25 k hk).same s
    have at2:∀ {k:Nat} {x:V},[V.ref (o 0).x,V.ref (o 1).x][k]? = some x→k < 2∧x = .ref (o k).x:=fun {k x} hx=>by
      have hk:k < 2:=(List.getElem?_eq_some_iff.mp hx).1
      refine ⟨hk,?_⟩
      match k,hk with
      | 0,_=>exact (Option.some.inj hx).symm
      | 1,_=>exact (Option.some.inj hx).symm
    refine comp_seqV (K:=K) (xs:=[.ref (o 0).x,.ref (o 1).x]) (fun k h=>⟨_,rfl,h⟩) (.inr ek25) (fun i zs H'=>Same H25 H'∧IsDs H' zs ((List.range i).map fun k=>tripD FF (filM FF (o k).m) (T25 k))) ⟨Same.refl _,.nil⟩ (by show 2≤sizeLine;decide) (fun i zs H' _ ⟨s,_⟩=>by rw [s _ _ ek25,ek25]) ?_ ?_
    · rintro i x zs H26 hx ⟨s26,hzs⟩
      obtain ⟨hi,rfl⟩:=at2 hx
      obtain ⟨fk,wk,rk,sk,tk,cp,us,kq,hcp,hus⟩:=ax i hi s26
      rw [List.range_succ]
      refine oneT ?_
      refine ⟨_,rfl,(o i).x,(o i).dy,_,rfl,kq.at_,kp_no_field_now ..,?_⟩
      dsimp only [tNil,List.nil_append,List.cons_append]
      refine ⟨(o i).x,(o i).dy,fk,wk,rk,sk,tk,.ref cp,rfl,kq.at_,?_⟩
      refine ⟨_,rfl,(o i).x,(o i).dy,_,rfl,kq.at_,kp_no_told_now ..,?_⟩
      dsimp only [tNil,List.nil_append,List.cons_append]
      refine ⟨(o i).x,(o i).dy,fk,wk,rk,sk,tk,.ref cp,rfl,kq.at_,?_⟩
      refine ⟨_,rfl,(o i).x,(o i).dy,_,rfl,kq.at_,kp_no_touched_last ..,?_⟩
      dsimp only [tNil,List.nil_append,List.cons_append]
      refine ⟨(o i).x,(o i).dy,fk,wk,rk,sk,tk,.ref cp,rfl,kq.at_,?_⟩
      refine ⟨(by show 3≤sizeLine;decide),fun t ht=>?_⟩
      have st:=same_upd (o:=.tup [fk,tk,.ref cp]) ht
      refine ⟨s26.trans st,?_⟩
      rw [List.map_append]
      exact (hzs.keep st.tups).append (.cons (.tup upd_same (.cons (kq.fd_.keep st.tups) (.cons (kq.told.keep st.tups) (.cons (.tup (st _ _ hcp) (hus.keep st.tups)) .nil)))) .nil)
    rintro zs H26 ⟨s26,hzs⟩ ah hah
    have hzs':IsDs H26 zs [tripD FF (filM FF (o 0).m) (T25 0),tripD FF (filM FF (o 1).m) (T25 1)]:=hzs
    clear hzs
    obtain ⟨z0,z1,rfl,hz0,hz1⟩:∃ z0 z1,zs=[z0,z1]∧IsD H26 z0 (tripD FF (filM FF (o 0).m) (T25 0))∧IsD H26 z1 (tripD FF (filM FF (o 1).m) (T25 1)):=by
      cases hzs' with | cons a h=>cases h with | cons b h=>cases h with
      | nil=>exact ⟨_,_,rfl,a,b⟩
    have s27:=same_upd (o:=.lst [z0,z1]) hah
    have e27:upd H26 ah (.lst [z0,z1]) ah=some (.lst [z0,z1]):=upd_same
    have nah:=(D25.keep s26).nd hah
    generalize upd H26 ah (.lst [z0,z1])=H27 at s27 e27 ⊢
    have S27:=s26.trans s27
    dsimp only [gName,List.set]
    obtain ⟨a0,f0,g0,t0,rfl,ha0,u00,u01,u02⟩:=trip_inv hz0
    obtain ⟨a1,f1,g1,t1',rfl,ha1,u10,u11,u12⟩:=trip_inv hz1
    refine ⟨_,rfl,Or.inl ⟨_,_,_,_,rfl,rfl,SqL.of e27,rfl,_,rfl,Or.inr ⟨_,_,rfl,s27 _ _ ha0,fun p28 H28 s28 e28=>?_⟩⟩⟩
    refine ⟨_,rfl,Or.inl ⟨_,_,_,_,rfl,rfl,SqL.of (s28 _ _ e27),rfl,_,rfl,Or.inr ⟨_,_,rfl,(s27.trans s28) _ _ ha1,fun p29 H29 s29 e29=>?_⟩⟩⟩
    have S29:=(s27.trans s28).trans s29
    refine Or.inr ⟨.tuple [fieldD FF,fieldD (filM FF (o 0).m)],.tuple [fieldD FF,fieldD (filM FF (o 1).m)],.tup (s29 _ _ e28) (.cons (u00.keep S29.tups) (.cons (u01.keep S29.tups) .nil)),.tup e29 (.cons (u10.keep S29.tups) (.cons (u11.keep S29.tups) .nil)),?_,?_⟩
    · refine ⟨?_,?_,?_⟩
      · show PyData.canLayAll0 [_,_]=true
        simp only [PyData.canLayAll0,canLay_field,Bool.and_self]
      · show PyData.canLayAll0 [_,_]=true
        simp only [PyData.canLayAll0,canLay_field,Bool.and_self]
      · have h1:(fieldD FF).depth ≤ 2:=Nat.succ_le_succ (depth_rows _)
        have h2:(fieldD (filM FF (o 0).m)).depth ≤ 2:=Nat.succ_le_succ (depth_rows _)
        show PyData.depthAll [_,_] + 1≤20
        rw [PyData.depthAll,PyData.depthAll,PyData.depthAll]
        omega
    have eM:filM FF (o 0).m=filM FF (o 1).m:=by rw [em0,em1]
    have eq2:PyData.eqv (.tuple [fieldD FF,fieldD (filM FF (o 0).m)]) (.tuple [fieldD FF,fieldD (filM FF (o 1).m)])=true:=by
      rw [eM]
      show PyData.eqvAll [_,_] [_,_]=true
      rw [PyData.eqvAll,PyData.eqvAll,PyData.eqvAll,eqv_field,eqv_field,decide_eq_true rfl,decide_eq_true rfl]
      rfl
    rw [eq2]
    refine ⟨_,rfl,iteF ?_⟩
    have S29':=S27.trans (s28.trans s29)
    obtain ⟨fk,wk,rk,sk,tk,cp,us,kq,hcp,hus⟩:=ax 0 (by omega) S29'
    refine ⟨_,rfl,_,rfl,Or.inl ⟨_,_,_,_,rfl,rfl,SqL.of (S29' _ _ ek25),rfl,_,rfl,?_⟩⟩
    refine ⟨d,c,(o 0).x,(o 0).dy,fv,fk,wk,rk,sk,tk,.ref cp,F,FF,_,rfl,D25.keep S29',by omega,R,RF,lF,wF,f25.keep S29'.tups,kq.at_,kq.fd_,fun H30 D30 k30=>?_⟩
    refine ⟨_,rfl,iteF ?_⟩
    have D29:=D25.keep S29'
    have nkp':kp≠d∧kp≠c:=nkp
    have ek30:=k30 _ _ (S29' _ _ ek25) nkp.1 nkp.2
    have e30:=k30 _ _ ((s28.trans s29) _ _ e27) nah.1 nah.2
    have ax30:∀ k,k < 2→∀ {H':Hp},Same H30 H'→Kq K C H' (o k) FF (T25 k):=fun k hk {H'} s=>((ax k hk S29').k2 D29 k30).same s
    have t30:=k30.tups D29
    have hz0':=(hz0.keep S29.tups).keep t30
    have hz1':=(hz1.keep S29.tups).keep t30
    dsimp only [tNext,tSeq]
    refine comp_seqV (K:=K) (xs:=[.ref (o 0).x,.ref (o 1).x]) (fun k h=>⟨_,rfl,h⟩) (.inr ek30) (fun i zs H'=>Same H30 H'∧IsDs H' zs ((List.range i).map fun k=>tripD FF (filM FF (o k).m) (T25 k))) ⟨Same.refl _,.nil⟩ (by show 2≤sizeLine;decide) (fun i zs H' _ ⟨s,_⟩=>by rw [s _ _ ek30,ek30]) ?_ ?_
    · rintro i x zs H31 hx ⟨s31,hzs⟩
      obtain ⟨hi,rfl⟩:=at2 hx
      obtain ⟨fk,wk,rk,sk,tk,cp,us,kq,hcp,hus⟩:=ax30 i hi s31
      rw [List.range_succ]
      refine oneT ?_
      refine ⟨_,rfl,(o i).x,(o i).dy,_,rfl,kq.at_,kp_no_field_now ..,?_⟩
      dsimp only [tNil,List.nil_append,List.cons_append]
      refine ⟨(o i).x,(o i).dy,fk,wk,rk,sk,tk,.ref cp,rfl,kq.at_,?_⟩
      refine ⟨_,rfl,(o i).x,(o i).dy,_,rfl,kq.at_,kp_no_told_now ..,?_⟩
      dsimp only [tNil,List.nil_append,List.cons_append]
      refine ⟨(o i).x,(o i).dy,fk,wk,rk,sk,tk,.ref cp,rfl,kq.at_,?_⟩
      refine ⟨_,rfl,(o i).x,(o i).dy,_,rfl,kq.at_,kp_no_touched_last ..,?_⟩
      dsimp only [tNil,List.nil_append,List.cons_append]
      refine ⟨(o i).x,(o i).dy,fk,wk,rk,sk,tk,.ref cp,rfl,kq.at_,?_⟩
      refine ⟨(by show 3≤sizeLine;decide),fun t ht=>?_⟩
      have st:=same_upd (o:=.tup [fk,tk,.ref cp]) ht
      refine ⟨s31.trans st,?_⟩
      rw [List.map_append]
      exact (hzs.keep st.tups).append (.cons (.tup upd_same (.cons (kq.fd_.keep st.tups) (.cons (kq.told.keep st.tups) (.cons (.tup (st _ _ hcp) (hus.keep st.tups)) .nil)))) .nil)
    rintro ws H31 ⟨s31,hws⟩ p32 hp32
    have hws':IsDs H31 ws [tripD FF (filM FF (o 0).m) (T25 0),tripD FF (filM FF (o 1).m) (T25 1)]:=hws
    have s32:=same_upd (o:=.lst ws) hp32
    have S32:=s31.trans s32
    refine ⟨_,rfl,Or.inr ⟨_,_,_,_,_,_,rfl,rfl,upd_same,S32 _ _ e30,hws'.keep s32.tups,.cons (hz0'.keep S32.tups) (.cons (hz1'.keep S32.tups) .nil),?_,?_⟩⟩
    · obtain ⟨c0,d0,_⟩:=trip_ok FF (filM FF (o 0).m) (T25 0)
      obtain ⟨c1,d1,_⟩:=trip_ok FF (filM FF (o 1).m) (T25 1)
      have cc:PyData.canLayAll0 [tripD FF (filM FF (o 0).m) (T25 0),tripD FF (filM FF (o 1).m) (T25 1)]=true:=by simp only [PyData.canLayAll0,c0,c1,Bool.and_self]
      refine ⟨cc,cc,?_⟩
      show PyData.depthAll [_,_] + 1≤20
      rw [PyData.depthAll,PyData.depthAll,PyData.depthAll]
      omega
    · obtain ⟨_,_,q0⟩:=trip_ok FF (filM FF (o 0).m) (T25 0)
      obtain ⟨_,_,q1⟩:=trip_ok FF (filM FF (o 1).m) (T25 1)
      rw [PyData.eqvAll,PyData.eqvAll,PyData.eqvAll,q0,q1]
      exact q _
end
def RawN (K:PySem.W.Frag)(mg:Str→Option Value)(x:Str)(st:Stmt):Prop:=∃ (f:Addr) (fd:FuncData),Fun K x x st f fd∧mg x=some (.ref f)
theorem rawn_of {K:PySem.W.Frag}{mg:Str→Option Value}{x:Str}{st:Stmt}{ps:List Str}(R:RawN K mg x st)(h:∀ (kV doc pm:Value) (an:Option Addr) (cdv ct:Value) (us:List Value),us.length=ps.length → bindArgs (PySem.W.fnOf x x (defArgs st) (defBody st) (defScope st) .none kV doc pm an cdv ct) ⟨us,[]⟩=pure (ps.zip us)):Raw K mg x ps st :=
  let ⟨f,fd,F,m⟩:=R
  ⟨f,fd,F,m,Fun.binds F h⟩
theorem raw_mk0 {K:PySem.W.Frag}{h:Heap}{mg:Str→Option Value}(X:K.In h)(G:h.Ns mainGlobals mg){x:Str}{st:Stmt}{f:Addr}{oc:Value}{od an:Option Addr}{osl:Array (Option Value)}{kV doc pm cdv ct:Value}(a:PySem.W.nsIn K mainGlobals x=some (some (.ref f)))(l:K.lookup f=some ⟨oc,od,.func (PySem.W.fnOf x x (defArgs st) (defBody st) (defScope st) .none kV doc pm an cdv ct),osl⟩)
    (c:PySem.W.codeIn K cdv x=true) (k:PySem.W.keepIn K (.ref f)=true):RawN K mg x st:=⟨_,_,fun_mk l c k,PySem.W.mg_of X G a⟩
def RawMN (K:PySem.W.Frag)(C:Addr)(m qual:Str)(st:Stmt):Prop:=∃ f fd,Meth K C m f∧Fun K m qual st f fd
theorem rawm_of {K:PySem.W.Frag}{C:Addr}{m qual:Str}{st:Stmt}{ps:List Str}(R:RawMN K C m qual st)(h:∀ (kV doc pm:Value) (an:Option Addr) (cdv ct:Value) (us:List Value),us.length=ps.length → bindArgs (PySem.W.fnOf m qual (defArgs st) (defBody st) (defScope st) .none kV doc pm an cdv ct) ⟨us,[]⟩=pure (ps.zip us)):RawM K C m qual ps st :=
  let ⟨f,fd,M,F⟩:=R
  ⟨f,fd,M,F,Fun.binds F h⟩
theorem rawm_mk0 {K:PySem.W.Frag}{C:Addr}{m qual:Str}{st:Stmt}{f:Addr}{oc:Value}{od an:Option Addr}{osl:Array (Option Value)}{kV doc pm cdv ct:Value}(a:PySem.W.findIn K (.ref C) m=some (some (.ref f)))(i:PySem.W.isFn K (.ref f)=true)(l:K.lookup f=some ⟨oc,od,.func (PySem.W.fnOf m qual (defArgs st) (defBody st) (defScope st) .none kV doc pm an cdv ct),osl⟩)
    (c:PySem.W.codeIn K cdv qual=true) (k:PySem.W.keepIn K (.ref f)=true):RawMN K C m qual st:=⟨_,_,⟨a,i,k⟩,fun_mk l c k⟩
def RawIN (K:PySem.W.Frag) (C:Addr) (qual:Str) (st:Stmt):Prop:=∃ f fd,L2.Mk K C f∧Fun K "__init__" qual st f fd
theorem rawi_of {K:PySem.W.Frag} {C:Addr} {qual:Str} {st:Stmt} {ps:List Str} (R:RawIN K C qual st) (h:∀ (kV doc pm:Value) (an:Option Addr) (cdv ct:Value) (us:List Value),us.length=ps.length → bindArgs (PySem.W.fnOf "__init__" qual (defArgs st) (defBody st) (defScope st) .none kV doc pm an cdv ct) ⟨us,[]⟩=pure (ps.zip us)):RawI K C qual ps st :=
  let ⟨f,fd,M,F⟩:=R
  ⟨f,fd,M,F,Fun.binds F h⟩
theorem rawi_mk0 {K:PySem.W.Frag} {C:Addr} {qual:Str} {st:Stmt} {f:Addr} {oc:Value} {od an:Option Addr} {osl:Array (Option Value)} {kV doc pm cdv ct:Value} (mkC:PySem.W.makesIn K C=true) (kc:PySem.W.keepIn K (.ref C)=true) (a:PySem.W.findIn K (.ref C) "__init__" = some (some (.ref f))) (i:PySem.W.isFn K (.ref f)=true) (l:K.lookup f=some ⟨oc,od,.func (PySem.W.fnOf "__init__" qual (defArgs st) (defBody st) (defScope st) .none kV doc pm an cdv ct),osl⟩)
    (c:PySem.W.codeIn K cdv qual=true) (k:PySem.W.keepIn K (.ref f)=true):RawIN K C qual st:=⟨_,_,⟨mkC,a,i,kc⟩,fun_mk l c k⟩
theorem txt_mk {K:W.Frag}{h:Heap}{mg:Str→Option Value}(X:K.In h)(G:h.Ns mainGlobals mg){C:Addr}{x_aN x_aF x_aM x_aP x_aW:Addr}
    (a0a:RawN K mg "is_inside" s_is_inside)
    (a1a:RawN K mg "brought_inside" s_brought_inside)
    (a2a:RawN K mg "stands_at" s_stands_at)
    (a3a:RawN K mg "places_around" s_places_around)
    (a4a:RawN K mg "window_cells" s_window_cells)
    (a5a:RawN K mg "place_by_share" s_place_by_share)
    (a6a:RawN K mg "so_manieth" s_so_manieth)
    (a7a:RawN K mg "without_holes" s_without_holes)
    (a8a:RawN K mg "told_of_cells" s_told_of_cells)
    (a9a:RawN K mg "filtered" s_filtered)
    (a0b:RawN K mg "refuse_outside" s_refuse_outside)
    (a1b:RawN K mg "row_with" s_row_with)
    (a2b:RawN K mg "field_with" s_field_with)
    (a3b:RawN K mg "laid_from" s_laid_from)
    (a4b:RawN K mg "places_holding" s_places_holding)
    (a5b:RawN K mg "places_touched" s_places_touched)
    (a6b:RawN K mg "_law_deck" s_law_deck)
    (a7b:RawN K mg "_law_draw" s_law_draw)
    (a8b:RawN K mg "_law_number" s_law_number)
    (a9b:RawN K mg "_law_field" s_law_field)
    (a0c:RawN K mg "_law_sides" s_law_sides)
    (a1c:RawN K mg "_law_rule" s_law_rule)
    (a2c:RawN K mg "_law_share" s_law_share)
    (a3c:RawN K mg "_law_cell" s_law_cell)
    (a4c:RawN K mg "_law_refused" s_law_refused)
    (a5c:RawN K mg "_law_cells" s_law_cells)
    (a6c:RawN K mg "_law_shuffled" s_law_shuffled)
    (a7c:RawN K mg "_law_is_rising" s_law_is_rising)
    (a8c:RawN K mg "law" s_law)
    (aC:W.nsIn K mainGlobals "KeptField" = some (some (.ref C)))
    (pg:W.plainGet K C Str.empty=true) (hd:W.hasDictIn K C=true) (po:W.plainOver K C=true) (sa:W.findIn K (.ref C) "__setattr__" = some (some (.builtin "object.__setattr__")))
    (a9c:W.findIn K (.ref C) "field" = some none)
    (a0d:W.findIn K (.ref C) "rule" = some none)
    (a1d:W.findIn K (.ref C) "share" = some none)
    (a2d:W.findIn K (.ref C) "told" = some none)
    (a3d:W.findIn K (.ref C) "touched" = some none)
    (a4d:W.findIn K (.ref C) "window" = some none)
    (a5d:RawIN K C "KeptField.__init__" s_KeptField_init)
    (a6d:RawMN K C "change" "KeptField.change" s_KeptField_change)
    (a7d:RawMN K C "field_now" "KeptField.field_now" s_KeptField_field_now)
    (a8d:RawMN K C "told_now" "KeptField.told_now" s_KeptField_told_now)
    (a9d:RawMN K C "touched_last" "KeptField.touched_last" s_KeptField_touched_last)
    (a0e:W.nsIn K mainGlobals "NoAsk" = some (some (.ref x_aN)))
    (a1e:W.nsIn K mainGlobals "NoField" = some (some (.ref x_aF)))
    (a2e:W.nsIn K mainGlobals "NoNumber" = some (some (.ref x_aM)))
    (a3e:W.nsIn K mainGlobals "NoPlace" = some (some (.ref x_aP)))
    (a4e:W.nsIn K mainGlobals "WindowError" = some (some (.ref x_aW)))
    (a5e:excAll K x_aN x_aF x_aM x_aP x_aW=true)
    (a6e:W.nsIn K mainGlobals "len" = some none)
    (a7e:W.nsIn K mainGlobals "sum" = some none)
    (a8e:W.nsIn K mainGlobals "max" = some none)
    (a9e:W.nsIn K mainGlobals "min" = some none)
    (a0f:W.nsIn K mainGlobals "abs" = some none)
    (a1f:W.nsIn K mainGlobals "tuple" = some none)
    (a2f:W.nsIn K mainGlobals "list" = some none)
    (a3f:W.nsIn K mainGlobals "isinstance" = some none)
    (a4f:W.nsIn K mainGlobals "range" = some none)
    (a5f:W.nsIn K mainGlobals "sorted" = some none)
    (a6f:W.nsIn K mainGlobals "set" = some none)
    (a7f:W.nsIn K mainGlobals "ValueError" = some none):Txt K mg C where
    d_is_inside:=rawn_of a0a (ps:=["field","i","j"]) fun _ _ _ _ _ _ us hl=>match us,hl with | [_,_,_],_=>rfl
    d_brought_inside:=rawn_of a1a (ps:=["rule","place","length"]) fun _ _ _ _ _ _ us hl=>match us,hl with | [_,_,_],_=>rfl
    d_stands_at:=rawn_of a2a (ps:=["field","rule","i","j"]) fun _ _ _ _ _ _ us hl=>match us,hl with | [_,_,_,_],_=>rfl
    d_places_around:=rawn_of a3a (ps:=["place","ahead","behind"]) fun _ _ _ _ _ _ us hl=>match us,hl with | [_,_,_],_=>rfl
    d_window_cells:=rawn_of a4a (ps:=["field","window","rule","i","j"]) fun _ _ _ _ _ _ us hl=>match us,hl with | [_,_,_,_,_],_=>rfl
    d_place_by_share:=rawn_of a5a (ps:=["how_many","share"]) fun _ _ _ _ _ _ us hl=>match us,hl with | [_,_],_=>rfl
    d_so_manieth:=rawn_of a6a (ps:=["numbers","share"]) fun _ _ _ _ _ _ us hl=>match us,hl with | [_,_],_=>rfl
    d_without_holes:=rawn_of a7a (ps:=["cells"]) fun _ _ _ _ _ _ us hl=>match us,hl with | [_],_=>rfl
    d_told_of_cells:=rawn_of a8a (ps:=["cells","share"]) fun _ _ _ _ _ _ us hl=>match us,hl with | [_,_],_=>rfl
    d_filtered:=rawn_of a9a (ps:=["field","window","rule","share"]) fun _ _ _ _ _ _ us hl=>match us,hl with | [_,_,_,_],_=>rfl
    d_refuse_outside:=rawn_of a0b (ps:=["field","i","j"]) fun _ _ _ _ _ _ us hl=>match us,hl with | [_,_,_],_=>rfl
    d_row_with:=rawn_of a1b (ps:=["row","j","cell"]) fun _ _ _ _ _ _ us hl=>match us,hl with | [_,_,_],_=>rfl
    d_field_with:=rawn_of a2b (ps:=["field","i","j","cell"]) fun _ _ _ _ _ _ us hl=>match us,hl with | [_,_,_,_],_=>rfl
    d_laid_from:=rawn_of a3b (ps:=["rule","place","length"]) fun _ _ _ _ _ _ us hl=>match us,hl with | [_,_,_],_=>rfl
    d_places_holding:=rawn_of a4b (ps:=["rule","place","length","ahead","behind"]) fun _ _ _ _ _ _ us hl=>match us,hl with | [_,_,_,_,_],_=>rfl
    d_places_touched:=rawn_of a5b (ps:=["field","window","rule","i","j"]) fun _ _ _ _ _ _ us hl=>match us,hl with | [_,_,_,_,_],_=>rfl
    d_law_deck:=rawn_of a6b (ps:=["script"]) fun _ _ _ _ _ _ us hl=>match us,hl with | [_],_=>rfl
    d_law_draw:=rawn_of a7b (ps:=["deck","most"]) fun _ _ _ _ _ _ us hl=>match us,hl with | [_,_],_=>rfl
    d_law_number:=rawn_of a8b (ps:=["deck","kind"]) fun _ _ _ _ _ _ us hl=>match us,hl with | [_,_],_=>rfl
    d_law_field:=rawn_of a9b (ps:=["deck","most","holes"]) fun _ _ _ _ _ _ us hl=>match us,hl with | [_,_,_],_=>rfl
    d_law_sides:=rawn_of a0c (ps:=["deck","most"]) fun _ _ _ _ _ _ us hl=>match us,hl with | [_,_],_=>rfl
    d_law_rule:=rawn_of a1c (ps:=["deck","kind"]) fun _ _ _ _ _ _ us hl=>match us,hl with | [_,_],_=>rfl
    d_law_share:=rawn_of a2c (ps:=["deck"]) fun _ _ _ _ _ _ us hl=>match us,hl with | [_],_=>rfl
    d_law_cell:=rawn_of a3c (ps:=["deck","field"]) fun _ _ _ _ _ _ us hl=>match us,hl with | [_,_],_=>rfl
    d_law_refused:=rawn_of a4c (ps:=["deck","kept","field"]) fun _ _ _ _ _ _ us hl=>match us,hl with | [_,_,_],_=>rfl
    d_law_cells:=rawn_of a5c (ps:=["deck","field","many"]) fun _ _ _ _ _ _ us hl=>match us,hl with | [_,_,_],_=>rfl
    d_law_shuffled:=rawn_of a6c (ps:=["deck","some"]) fun _ _ _ _ _ _ us hl=>match us,hl with | [_,_],_=>rfl
    d_law_is_rising:=rawn_of a7c (ps:=["places","i","j"]) fun _ _ _ _ _ _ us hl=>match us,hl with | [_,_,_],_=>rfl
    d_law:=rawn_of a8c (ps:=["script"]) fun _ _ _ _ _ _ us hl=>match us,hl with | [_],_=>rfl
    g_KeptField:=W.mg_of X G aC
    cl_KeptField:=⟨pg,hd,po,sa⟩
    a_field:=a9c
    a_rule:=a0d
    a_share:=a1d
    a_told:=a2d
    a_touched:=a3d
    a_window:=a4d
    m_KeptField_init:=rawi_of a5d (ps:=["self","field","window","rule","share"]) fun _ _ _ _ _ _ us hl=>match us,hl with | [_,_,_,_,_],_=>rfl
    m_KeptField_change:=rawm_of a6d (ps:=["self","i","j","cell"]) fun _ _ _ _ _ _ us hl=>match us,hl with | [_,_,_,_],_=>rfl
    m_KeptField_field_now:=rawm_of a7d (ps:=["self"]) fun _ _ _ _ _ _ us hl=>match us,hl with | [_],_=>rfl
    m_KeptField_told_now:=rawm_of a8d (ps:=["self"]) fun _ _ _ _ _ _ us hl=>match us,hl with | [_],_=>rfl
    m_KeptField_touched_last:=rawm_of a9d (ps:=["self"]) fun _ _ _ _ _ _ us hl=>match us,hl with | [_],_=>rfl
    x_exc:=⟨_,_,_,_,_,ExcAll.of (W.mg_of X G a0e) (W.mg_of X G a1e) (W.mg_of X G a2e) (W.mg_of X G a3e) (W.mg_of X G a4e) a5e⟩
    n_len:=W.mg_none_of X G a6e
    n_sum:=W.mg_none_of X G a7e
    n_max:=W.mg_none_of X G a8e
    n_min:=W.mg_none_of X G a9e
    n_abs:=W.mg_none_of X G a0f
    n_tuple:=W.mg_none_of X G a1f
    n_list:=W.mg_none_of X G a2f
    n_isinstance:=W.mg_none_of X G a3f
    n_range:=W.mg_none_of X G a4f
    n_sorted:=W.mg_none_of X G a5f
    n_set:=W.mg_none_of X G a6f
    n_ValueError:=W.mg_none_of X G a7f
end Mw
namespace PySem.W.Fast
theorem tw10016801779833029647 : True := ⟨⟩
theorem tw10025688733387452977 : True := ⟨⟩
theorem tw10250181499982425333 : True := ⟨⟩
theorem tw1028840883583050840 : True := ⟨⟩
theorem tw10434464394461830309 : True := ⟨⟩
theorem tw10459654131157437629 : True := ⟨⟩
theorem tw10521578152620639381 : True := ⟨⟩
theorem tw10644706243619454691 : True := ⟨⟩
theorem tw10657977906903612737 : True := ⟨⟩
theorem tw10661276180363168698 : True := ⟨⟩
theorem tw10728420381346621218 : True := ⟨⟩
theorem tw10781318242458937746 : True := ⟨⟩
theorem tw10908713484167666867 : True := ⟨⟩
theorem tw10910075375049790072 : True := ⟨⟩
theorem tw10924082572144545888 : True := ⟨⟩
theorem tw10960331338163095214 : True := ⟨⟩
theorem tw10965975018975198068 : True := ⟨⟩
theorem tw1097169787738967824 : True := ⟨⟩
theorem tw11087978061645701672 : True := ⟨⟩
theorem tw11118778887746905696 : True := ⟨⟩
theorem tw11121126031051784015 : True := ⟨⟩
theorem tw11377785008895253111 : True := ⟨⟩
theorem tw11471161824817941471 : True := ⟨⟩
theorem tw11480996867292085984 : True := ⟨⟩
theorem tw114895423294321351 : True := ⟨⟩
theorem tw11512616835618124117 : True := ⟨⟩
theorem tw11578285012296457280 : True := ⟨⟩
theorem tw11630223348874342107 : True := ⟨⟩
theorem tw11655315524553810858 : True := ⟨⟩
theorem tw11704481174401530526 : True := ⟨⟩
theorem tw11774925529245684030 : True := ⟨⟩
theorem tw11837042620673800709 : True := ⟨⟩
theorem tw11880841485307024576 : True := ⟨⟩
theorem tw11964122357969168921 : True := ⟨⟩
theorem tw11965739453104293724 : True := ⟨⟩
theorem tw11985736079505765241 : True := ⟨⟩
theorem tw12002471330371471130 : True := ⟨⟩
theorem tw12017267442345491274 : True := ⟨⟩
theorem tw12020282556065210855 : True := ⟨⟩
theorem tw12031614645651730630 : True := ⟨⟩
theorem tw12035387751833891308 : True := ⟨⟩
theorem tw12055775995933767793 : True := ⟨⟩
theorem tw12090755342566691361 : True := ⟨⟩
theorem tw12096971784468900257 : True := ⟨⟩
theorem tw12188175413441734594 : True := ⟨⟩
theorem tw12270257408425457454 : True := ⟨⟩
theorem tw12486017309480563131 : True := ⟨⟩
theorem tw1249412546027781358 : True := ⟨⟩
theorem tw12511797532430651036 : True := ⟨⟩
theorem tw12533444516753679426 : True := ⟨⟩
theorem tw12595789569591297143 : True := ⟨⟩
theorem tw12615064022763378602 : True := ⟨⟩
theorem tw12753020468846782061 : True := ⟨⟩
theorem tw12795039640336155765 : True := ⟨⟩
theorem tw12923562005499693774 : True := ⟨⟩
theorem tw1293855642516690213 : True := ⟨⟩
theorem tw13004715944109688758 : True := ⟨⟩
theorem tw13155444240798446788 : True := ⟨⟩
theorem tw13304165935379780211 : True := ⟨⟩
theorem tw13336220857685150712 : True := ⟨⟩
theorem tw13379272258285597459 : True := ⟨⟩
theorem tw13412806039424218838 : True := ⟨⟩
theorem tw13583296544854803731 : True := ⟨⟩
theorem tw13587198805620339584 : True := ⟨⟩
theorem tw13636345470065632381 : True := ⟨⟩
theorem tw1368141376545994326 : True := ⟨⟩
theorem tw13756930891370083630 : True := ⟨⟩
theorem tw13807057971685895662 : True := ⟨⟩
theorem tw13903468994175318297 : True := ⟨⟩
theorem tw13961369684030878447 : True := ⟨⟩
theorem tw13967306023554255309 : True := ⟨⟩
theorem tw14009920467321604084 : True := ⟨⟩
theorem tw14018789366135584015 : True := ⟨⟩
theorem tw14079598890714336610 : True := ⟨⟩
theorem tw14095954932024736982 : True := ⟨⟩
theorem tw14103923590866384417 : True := ⟨⟩
theorem tw14145810466545645629 : True := ⟨⟩
theorem tw14176471478779014792 : True := ⟨⟩
theorem tw14384951666066746582 : True := ⟨⟩
theorem tw14430775473234577984 : True := ⟨⟩
theorem tw14582375851605951211 : True := ⟨⟩
theorem tw14635025971576515473 : True := ⟨⟩
theorem tw14732965879440002765 : True := ⟨⟩
theorem tw14759288542821015448 : True := ⟨⟩
theorem tw1478019465755774764 : True := ⟨⟩
theorem tw14796459521657340728 : True := ⟨⟩
theorem tw14865989428171719766 : True := ⟨⟩
theorem tw14902693296001750565 : True := ⟨⟩
theorem tw1492812892452348857 : True := ⟨⟩
theorem tw15035463092353380786 : True := ⟨⟩
theorem tw15053446841872895840 : True := ⟨⟩
theorem tw15056889002699866976 : True := ⟨⟩
theorem tw15177515008061600417 : True := ⟨⟩
theorem tw15211937710786818039 : True := ⟨⟩
theorem tw15229316576625409192 : True := ⟨⟩
theorem tw15232397431585337689 : True := ⟨⟩
theorem tw15233282362158157067 : True := ⟨⟩
theorem tw15240128607227794701 : True := ⟨⟩
theorem tw15246044971051157858 : True := ⟨⟩
theorem tw15284404070927086054 : True := ⟨⟩
theorem tw15285939901470049971 : True := ⟨⟩
theorem tw15410247220435619775 : True := ⟨⟩
theorem tw15489893405064552677 : True := ⟨⟩
theorem tw15493859120241316563 : True := ⟨⟩
theorem tw15621664129117657735 : True := ⟨⟩
theorem tw15700086680719471682 : True := ⟨⟩
theorem tw15741936622470344624 : True := ⟨⟩
theorem tw15764146919293257473 : True := ⟨⟩
theorem tw15788534186890809297 : True := ⟨⟩
theorem tw15798757546285476590 : True := ⟨⟩
theorem tw15830363224823206551 : True := ⟨⟩
theorem tw15874005771099540857 : True := ⟨⟩
theorem tw15916064775008474588 : True := ⟨⟩
theorem tw15923655636053078472 : True := ⟨⟩
theorem tw15935507824627154977 : True := ⟨⟩
theorem tw1598938285782719950 : True := ⟨⟩
theorem tw1603351056266739609 : True := ⟨⟩
theorem tw16099951487925206127 : True := ⟨⟩
theorem tw16102739061659449394 : True := ⟨⟩
theorem tw16245054998280313597 : True := ⟨⟩
theorem tw1633815519155844992 : True := ⟨⟩
theorem tw16342420337316105261 : True := ⟨⟩
theorem tw16385849107552806593 : True := ⟨⟩
theorem tw16488537641983869833 : True := ⟨⟩
theorem tw16521626237658400154 : True := ⟨⟩
theorem tw16548395607696010130 : True := ⟨⟩
theorem tw16624005138740360029 : True := ⟨⟩
theorem tw1679780356346126811 : True := ⟨⟩
theorem tw16800813036269860390 : True := ⟨⟩
theorem tw16860664178655116982 : True := ⟨⟩
theorem tw16895308014746567924 : True := ⟨⟩
theorem tw16913891092970963778 : True := ⟨⟩
theorem tw1699119944136034151 : True := ⟨⟩
theorem tw17086938883840003064 : True := ⟨⟩
theorem tw17132103017155669861 : True := ⟨⟩
theorem tw17277788846039980478 : True := ⟨⟩
theorem tw17316127368468530779 : True := ⟨⟩
theorem tw17377661172650199374 : True := ⟨⟩
theorem tw17438172305437650871 : True := ⟨⟩
theorem tw1752855892068673842 : True := ⟨⟩
theorem tw17586811207994722576 : True := ⟨⟩
theorem tw17616078834832401846 : True := ⟨⟩
theorem tw1763363932045184047 : True := ⟨⟩
theorem tw17645056160278595331 : True := ⟨⟩
theorem tw17763476386800002438 : True := ⟨⟩
theorem tw17780651251957121767 : True := ⟨⟩
theorem tw17814164029523395303 : True := ⟨⟩
theorem tw17829557096063498094 : True := ⟨⟩
theorem tw17870182693257215429 : True := ⟨⟩
theorem tw18023928878651492702 : True := ⟨⟩
theorem tw18129370056022971741 : True := ⟨⟩
theorem tw18172821133351785518 : True := ⟨⟩
theorem tw18226343303164693376 : True := ⟨⟩
theorem tw18253089088286640949 : True := ⟨⟩
theorem tw18296848186324960819 : True := ⟨⟩
theorem tw18297530707513025107 : True := ⟨⟩
theorem tw18387295452257427225 : True := ⟨⟩
theorem tw1850266309137665641 : True := ⟨⟩
theorem tw1899142766458721812 : True := ⟨⟩
theorem tw1924435440414194377 : True := ⟨⟩
theorem tw1938327763737432097 : True := ⟨⟩
theorem tw194569325449021650 : True := ⟨⟩
theorem tw1960007586930444137 : True := ⟨⟩
theorem tw1971066510019724812 : True := ⟨⟩
theorem tw2066989562849186223 : True := ⟨⟩
theorem tw2099071031778904493 : True := ⟨⟩
theorem tw2204606960548352100 : True := ⟨⟩
theorem tw2324431858503277384 : True := ⟨⟩
theorem tw235423078885149177 : True := ⟨⟩
theorem tw2398768704002518900 : True := ⟨⟩
theorem tw24536807485258156 : True := ⟨⟩
theorem tw2476516128475501188 : True := ⟨⟩
theorem tw2521849178292580605 : True := ⟨⟩
theorem tw2560465361740161993 : True := ⟨⟩
theorem tw2606226843945697784 : True := ⟨⟩
theorem tw2788065798769958580 : True := ⟨⟩
theorem tw2794860272909042993 : True := ⟨⟩
theorem tw2799674659035777181 : True := ⟨⟩
theorem tw2903979327937244579 : True := ⟨⟩
theorem tw2973926756834477395 : True := ⟨⟩
theorem tw2992191733028991652 : True := ⟨⟩
theorem tw3075817209916870110 : True := ⟨⟩
theorem tw3196346856904662587 : True := ⟨⟩
theorem tw3259249383083205961 : True := ⟨⟩
theorem tw3284608441518153890 : True := ⟨⟩
theorem tw3299043482709773550 : True := ⟨⟩
theorem tw330259340823172023 : True := ⟨⟩
theorem tw331113720288362357 : True := ⟨⟩
theorem tw344167737235716901 : True := ⟨⟩
theorem tw3523277027759298228 : True := ⟨⟩
theorem tw352666232351350782 : True := ⟨⟩
theorem tw3537147500738875986 : True := ⟨⟩
theorem tw3638488781917504217 : True := ⟨⟩
theorem tw3670329941308261419 : True := ⟨⟩
theorem tw3684564136144577402 : True := ⟨⟩
theorem tw3699983485323290674 : True := ⟨⟩
theorem tw3702258186064115927 : True := ⟨⟩
theorem tw372164084458698776 : True := ⟨⟩
theorem tw3805655558551304840 : True := ⟨⟩
theorem tw385309876278736673 : True := ⟨⟩
theorem tw3967534503789525749 : True := ⟨⟩
theorem tw3999595506847809410 : True := ⟨⟩
theorem tw4033950463080951675 : True := ⟨⟩
theorem tw4067803267618707753 : True := ⟨⟩
theorem tw4188118312753610419 : True := ⟨⟩
theorem tw4265256511703184201 : True := ⟨⟩
theorem tw4331041522957086409 : True := ⟨⟩
theorem tw4331753991120845374 : True := ⟨⟩
theorem tw439278449094941906 : True := ⟨⟩
theorem tw4411610752659555797 : True := ⟨⟩
theorem tw4695758888989056918 : True := ⟨⟩
theorem tw4698255841067800609 : True := ⟨⟩
theorem tw471355149941033474 : True := ⟨⟩
theorem tw4721445179800575075 : True := ⟨⟩
theorem tw4734695767572173536 : True := ⟨⟩
theorem tw4831824741417044701 : True := ⟨⟩
theorem tw4843389461372208178 : True := ⟨⟩
theorem tw4925900591368290128 : True := ⟨⟩
theorem tw49626150100990721 : True := ⟨⟩
theorem tw4985657536185281001 : True := ⟨⟩
theorem tw5062818678104534312 : True := ⟨⟩
theorem tw5081660060744461545 : True := ⟨⟩
theorem tw5153471187444681983 : True := ⟨⟩
theorem tw517115249204732760 : True := ⟨⟩
theorem tw5198535218721718352 : True := ⟨⟩
theorem tw5223647064695187786 : True := ⟨⟩
theorem tw5302420622808951586 : True := ⟨⟩
theorem tw5302500332627491962 : True := ⟨⟩
theorem tw5314663578897281739 : True := ⟨⟩
theorem tw5338826435707271657 : True := ⟨⟩
theorem tw5436078852458029828 : True := ⟨⟩
theorem tw5480298462076889516 : True := ⟨⟩
theorem tw5539891120942600110 : True := ⟨⟩
theorem tw5571155445459092186 : True := ⟨⟩
theorem tw5586564354147545704 : True := ⟨⟩
theorem tw5612838615972475276 : True := ⟨⟩
theorem tw5646527117922220797 : True := ⟨⟩
theorem tw5752165572018601905 : True := ⟨⟩
theorem tw5765506220480883039 : True := ⟨⟩
theorem tw5775136408861573626 : True := ⟨⟩
theorem tw5798639376664336876 : True := ⟨⟩
theorem tw581035263478013066 : True := ⟨⟩
theorem tw5812343626732354580 : True := ⟨⟩
theorem tw5876127762738356209 : True := ⟨⟩
theorem tw5923654860940312816 : True := ⟨⟩
theorem tw6003428974515134725 : True := ⟨⟩
theorem tw6020745774218310470 : True := ⟨⟩
theorem tw6038550981378086464 : True := ⟨⟩
theorem tw60633575322299717 : True := ⟨⟩
theorem tw6110825374505151529 : True := ⟨⟩
theorem tw6222867238906365606 : True := ⟨⟩
theorem tw6283858666741602386 : True := ⟨⟩
theorem tw6348841875576192094 : True := ⟨⟩
theorem tw6373165408293162069 : True := ⟨⟩
theorem tw646223262692156698 : True := ⟨⟩
theorem tw6547474063296117100 : True := ⟨⟩
theorem tw6587015844409365154 : True := ⟨⟩
theorem tw6627842350466740433 : True := ⟨⟩
theorem tw6740261948449606899 : True := ⟨⟩
theorem tw6762000632850537268 : True := ⟨⟩
theorem tw6766333920949761743 : True := ⟨⟩
theorem tw6830585291654431123 : True := ⟨⟩
theorem tw6865597212726222520 : True := ⟨⟩
theorem tw6942450380609115767 : True := ⟨⟩
theorem tw7081015890391850910 : True := ⟨⟩
theorem tw7124112097742244026 : True := ⟨⟩
theorem tw7155275964434859969 : True := ⟨⟩
theorem tw7360438164101941275 : True := ⟨⟩
theorem tw7461951399073981083 : True := ⟨⟩
theorem tw7501911471918589843 : True := ⟨⟩
theorem tw7502152474351014478 : True := ⟨⟩
theorem tw7515214453579092847 : True := ⟨⟩
theorem tw7523564684335678754 : True := ⟨⟩
theorem tw7581980899073232244 : True := ⟨⟩
theorem tw7602792554600342161 : True := ⟨⟩
theorem tw7882328229702863214 : True := ⟨⟩
theorem tw7900252838058985116 : True := ⟨⟩
theorem tw7962948297299976209 : True := ⟨⟩
theorem tw8046126639477664054 : True := ⟨⟩
theorem tw8103746814857725539 : True := ⟨⟩
theorem tw8124403521341770636 : True := ⟨⟩
theorem tw8196798161234510465 : True := ⟨⟩
theorem tw8258132198340890888 : True := ⟨⟩
theorem tw8292414413990833560 : True := ⟨⟩
theorem tw8308537930676515171 : True := ⟨⟩
theorem tw8321415339211656621 : True := ⟨⟩
theorem tw8329528061360562171 : True := ⟨⟩
theorem tw8348060551798513070 : True := ⟨⟩
theorem tw835623524891101299 : True := ⟨⟩
theorem tw8402916421606742731 : True := ⟨⟩
theorem tw8503598765527912271 : True := ⟨⟩
theorem tw852784173837536510 : True := ⟨⟩
theorem tw8622498011353478660 : True := ⟨⟩
theorem tw865162556681147369 : True := ⟨⟩
theorem tw8679367433383088493 : True := ⟨⟩
theorem tw8735160636516604148 : True := ⟨⟩
theorem tw8829583304819902560 : True := ⟨⟩
theorem tw8980018228729456373 : True := ⟨⟩
theorem tw9007197782943466390 : True := ⟨⟩
theorem tw9046166476132446091 : True := ⟨⟩
theorem tw9108835390446845550 : True := ⟨⟩
theorem tw9164710756678688032 : True := ⟨⟩
theorem tw9273656331296584783 : True := ⟨⟩
theorem tw9295038416922281066 : True := ⟨⟩
theorem tw9358050917266223048 : True := ⟨⟩
theorem tw9374813647036353720 : True := ⟨⟩
theorem tw9382157412754207607 : True := ⟨⟩
theorem tw9411430517137805699 : True := ⟨⟩
theorem tw9457332421394676785 : True := ⟨⟩
theorem tw949958033123407155 : True := ⟨⟩
theorem tw9520950162043034419 : True := ⟨⟩
theorem tw9597360948808544640 : True := ⟨⟩
theorem tw9620096729038912053 : True := ⟨⟩
theorem tw9655361014845406474 : True := ⟨⟩
theorem tw9741012417656778000 : True := ⟨⟩
theorem tw9791759776464563739 : True := ⟨⟩
theorem tw99749959381399157 : True := ⟨⟩
end PySem.W.Fast
open PySem PySem.W PyProof.Rows
set_option maxHeartbeats 0 in
theorem PySem.Challenge.cw_midwindow_k33_whole_changes_in_any_order_holds : PySem.Challenge.rw_midwindow_k33_whole_changes_in_any_order.Holds := by
  w_on;o_law;k_head;(case hw=>w_witness2)
  k_fill
  refine L2.walk_df (l:=PySem.Challenge.rw_midwindow_k33_whole_changes_in_any_order) (k:=8) (st:=Mw.s_law) rfl rfl rfl ⟨rfl,by decide,by decide⟩ (fun w h Y=>W.kIn_of Y) (fun _ _ _ _ _ _ _=>rfl) ?F
  case F =>
    intro w mg h KX G
    have T:∃ C,Mw.Txt (L2.KOf KX) mg C:=by
      dsimp only [L2.KOf]
      refine' ⟨_,Mw.txt_mk KX G (Mw.raw_mk0 KX G ?h0 ?h1 ?h2 ?h3) (Mw.raw_mk0 KX G ?h4 ?h5 ?h6 ?h7) (Mw.raw_mk0 KX G ?h8 ?h9 ?h10 ?h11) (Mw.raw_mk0 KX G ?h12 ?h13 ?h14 ?h15) (Mw.raw_mk0 KX G ?h16 ?h17 ?h18 ?h19) (Mw.raw_mk0 KX G ?h20 ?h21 ?h22 ?h23) (Mw.raw_mk0 KX G ?h24 ?h25 ?h26 ?h27) (Mw.raw_mk0 KX G ?h28 ?h29 ?h30 ?h31) (Mw.raw_mk0 KX G ?h32 ?h33 ?h34 ?h35) (Mw.raw_mk0 KX G ?h36 ?h37 ?h38 ?h39) (Mw.raw_mk0 KX G ?h40 ?h41 ?h42 ?h43) (Mw.raw_mk0 KX G ?h44 ?h45 ?h46 ?h47) (Mw.raw_mk0 KX G ?h48 ?h49 ?h50 ?h51) (Mw.raw_mk0 KX G ?h52 ?h53 ?h54 ?h55) (Mw.raw_mk0 KX G ?h56 ?h57 ?h58 ?h59) (Mw.raw_mk0 KX G ?h60 ?h61 ?h62 ?h63) (Mw.raw_mk0 KX G ?h64 ?h65 ?h66 ?h67) (Mw.raw_mk0 KX G ?h68 ?h69 ?h70 ?h71) (Mw.raw_mk0 KX G ?h72 ?h73 ?h74 ?h75) (Mw.raw_mk0 KX G ?h76 ?h77 ?h78 ?h79) (Mw.raw_mk0 KX G ?h80 ?h81 ?h82 ?h83) (Mw.raw_mk0 KX G ?h84 ?h85 ?h86 ?h87) (Mw.raw_mk0 KX G ?h88 ?h89 ?h90 ?h91) (Mw.raw_mk0 KX G ?h92 ?h93 ?h94 ?h95) (Mw.raw_mk0 KX G ?h96 ?h97 ?h98 ?h99) (Mw.raw_mk0 KX G ?h100 ?h101 ?h102 ?h103) (Mw.raw_mk0 KX G ?h104 ?h105 ?h106 ?h107) (Mw.raw_mk0 KX G ?h108 ?h109 ?h110 ?h111) (Mw.raw_mk0 KX G ?h112 ?h113 ?h114 ?h115) ?aC ?pg ?hd ?po ?sa ?a9c ?a0d ?a1d ?a2d ?a3d ?a4d (Mw.rawi_mk0 ?h116 ?h117 ?h118 ?h119 ?h120 ?h121 ?h122) (Mw.rawm_mk0 ?h123 ?h124 ?h125 ?h126 ?h127) (Mw.rawm_mk0 ?h128 ?h129 ?h130 ?h131 ?h132) (Mw.rawm_mk0 ?h133 ?h134 ?h135 ?h136 ?h137) (Mw.rawm_mk0 ?h138 ?h139 ?h140 ?h141 ?h142) ?a0e ?a1e ?a2e ?a3e ?a4e ?a5e ?a6e ?a7e ?a8e ?a9e ?a0f ?a1f ?a2f ?a3f ?a4f ?a5f ?a6f ?a7f⟩
      (case h0=>k_is)
      (case h1=>k_is)
      (case h2=>k_is)
      (case h3=>k_is)
      (case h4=>k_is)
      (case h5=>k_is)
      (case h6=>k_is)
      (case h7=>k_is)
      (case h8=>k_is)
      (case h9=>k_is)
      (case h10=>k_is)
      (case h11=>k_is)
      (case h12=>k_is)
      (case h13=>k_is)
      (case h14=>k_is)
      (case h15=>k_is)
      (case h16=>k_is)
      (case h17=>k_is)
      (case h18=>k_is)
      (case h19=>k_is)
      (case h20=>k_is)
      (case h21=>k_is)
      (case h22=>k_is)
      (case h23=>k_is)
      (case h24=>k_is)
      (case h25=>k_is)
      (case h26=>k_is)
      (case h27=>k_is)
      (case h28=>k_is)
      (case h29=>k_is)
      (case h30=>k_is)
      (case h31=>k_is)
      (case h32=>k_is)
      (case h33=>k_is)
      (case h34=>k_is)
      (case h35=>k_is)
      (case h36=>k_is)
      (case h37=>k_is)
      (case h38=>k_is)
      (case h39=>k_is)
      (case h40=>k_is)
      (case h41=>k_is)
      (case h42=>k_is)
      (case h43=>k_is)
      (case h44=>k_is)
      (case h45=>k_is)
      (case h46=>k_is)
      (case h47=>k_is)
      (case h48=>k_is)
      (case h49=>k_is)
      (case h50=>k_is)
      (case h51=>k_is)
      (case h52=>k_is)
      (case h53=>k_is)
      (case h54=>k_is)
      (case h55=>k_is)
      (case h56=>k_is)
      (case h57=>k_is)
      (case h58=>k_is)
      (case h59=>k_is)
      (case h60=>k_is)
      (case h61=>k_is)
      (case h62=>k_is)
      (case h63=>k_is)
      (case h64=>k_is)
      (case h65=>k_is)
      (case h66=>k_is)
      (case h67=>k_is)
      (case h68=>k_is)
      (case h69=>k_is)
      (case h70=>k_is)
      (case h71=>k_is)
      (case h72=>k_is)
      (case h73=>k_is)
      (case h74=>k_is)
      (case h75=>k_is)
      (case h76=>k_is)
      (case h77=>k_is)
      (case h78=>k_is)
      (case h79=>k_is)
      (case h80=>k_is)
      (case h81=>k_is)
      (case h82=>k_is)
      (case h83=>k_is)
      (case h84=>k_is)
      (case h85=>k_is)
      (case h86=>k_is)
      (case h87=>k_is)
      (case h88=>k_is)
      (case h89=>k_is)
      (case h90=>k_is)
      (case h91=>k_is)
      (case h92=>k_is)
      (case h93=>k_is)
      (case h94=>k_is)
      (case h95=>k_is)
      (case h96=>k_is)
      (case h97=>k_is)
      (case h98=>k_is)
      (case h99=>k_is)
      (case h100=>k_is)
      (case h101=>k_is)
      (case h102=>k_is)
      (case h103=>k_is)
      (case h104=>k_is)
      (case h105=>k_is)
      (case h106=>k_is)
      (case h107=>k_is)
      (case h108=>k_is)
      (case h109=>k_is)
      (case h110=>k_is)
      (case h111=>k_is)
      (case h112=>k_is)
      (case h113=>k_is)
      (case h114=>k_is)
      (case h115=>k_is)
      (case aC=>k_is)
      (case pg=>k_is)
      (case hd=>k_is)
      (case po=>k_is)
      (case sa=>k_is)
      (case a9c=>k_is)
      (case a0d=>k_is)
      (case a1d=>k_is)
      (case a2d=>k_is)
      (case a3d=>k_is)
      (case a4d=>k_is)
      (case h116=>k_is)
      (case h117=>k_is)
      (case h118=>k_is)
      (case h119=>k_is)
      (case h120=>k_is)
      (case h121=>k_is)
      (case h122=>k_is)
      (case h123=>k_is)
      (case h124=>k_is)
      (case h125=>k_is)
      (case h126=>k_is)
      (case h127=>k_is)
      (case h128=>k_is)
      (case h129=>k_is)
      (case h130=>k_is)
      (case h131=>k_is)
      (case h132=>k_is)
      (case h133=>k_is)
      (case h134=>k_is)
      (case h135=>k_is)
      (case h136=>k_is)
      (case h137=>k_is)
      (case h138=>k_is)
      (case h139=>k_is)
      (case h140=>k_is)
      (case h141=>k_is)
      (case h142=>k_is)
      (case a0e=>k_is)
      (case a1e=>k_is)
      (case a2e=>k_is)
      (case a3e=>k_is)
      (case a4e=>k_is)
      (case a5e=>kernel_rfl)
      (case a6e=>k_is)
      (case a7e=>k_is)
      (case a8e=>k_is)
      (case a9e=>k_is)
      (case a0f=>k_is)
      (case a1f=>k_is)
      (case a2f=>k_is)
      (case a3f=>k_is)
      (case a4f=>k_is)
      (case a5f=>k_is)
      (case a6f=>k_is)
      (case a7f=>k_is)
    obtain ⟨C,T⟩:=T
    exact ⟨T.d_law,fun base=>Mw.df_law T⟩
