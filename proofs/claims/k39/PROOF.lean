import PyProof.Rows.All
import Wide.All
import OpenK.AllK
import Wide.FinOn
import Lean
import PyProof.EqAt
import PyProof.EqKinds
import PyProof.TupleCall
import KE.LcSums
import PyProof.RulesAs
import PyProof.NsDelKeeps
import PyProof.Rows.Catch
import OpenK.KOwn
import KE.KTryMore
import PyProof.ExcArgs
import KE.KUnpack
import PyProof.P3In
import PyProof.Rows.SortRuns
import PyProof.Rows.SortShell
import PyProof.TupleOfSeq
import PyProof.SetKind
import PyProof.Rows.SetFrom
import PyProof.WalksMore
import PyProof.DictIter
import PyProof.SetRoads
import KE.KDictSum
import KE.KSortedM
import KE.KIntText
import PyProof.StrWalks
import PyProof.EnumMake
import PyProof.EnumStmt
import PyProof.SliceStr2
import PyProof.StrLawsTight
import PyProof.StrLawsChain
import PyProof.ZipIter
import KE.KPairComp
import PyProof.DictItems
import PyProof.DictWalks
import PyProof.SumAny
import KE.KFind
import PyProof.EnumIter
import PyProof.ListMulAny
import PyProof.FactsAll.tuple
import PyProof.P3Eq
import PyProof.TupleKey
import PyProof.FactsAll.NoneType
import PyProof.DictRoadsH
import PyProof.Rows.TupDisplay
import KE.KSortTup
import PyProof.InstStoreFacts
import PyProof.ExcInit
import PyProof.LayNew
import OpenK.KCls
import PySem.Challenge.RW_midwindow_k39_whole_all_roads
set_option compiler.extract_closed false
set_option genSizeOf false
local macro_rules | `(tactic| trivial) => `(tactic| first | exact Or.inl rfl | exact Or.inr rfl)
set_option Elab.async false
set_option linter.all false
set_option maxRecDepth 100000
set_option maxHeartbeats 4000000
namespace L2
open PySem PySem.Spec PyProof.Rows
abbrev Key:=Sum Int Str
def a2v:Key->Value->Bool
 | .inl k,v=>Value.isInt k v
 | .inr x,v=>Value.isStrOf x v
def b6W (w:World):Key->Int
 | .inl k=>hashInt k
 | .inr x=>hashStr w x
theorem v0:∀ {k:Key} {v:Value},a2v k v=true->(∃ i t,k=Sum.inl i/\v=Value.int i t) \/ (∃ x t,k=Sum.inr x/\v=Value.str x t)
 | .inl i,v,h=>by
  obtain ⟨t,e⟩:=Value.isInt_shape (k:=i) (v:=v) h;exact .inl ⟨i,t,rfl,e⟩
 | .inr x,v,h=>by
  obtain ⟨t,e⟩:=Value.isStrOf_shape (x:=x) (v:=v) h;exact .inr ⟨x,t,rfl,e⟩
theorem b5m (i:Int)(t:Tok):a2v (.inl i) (.int i t)=true:=by simp [a2v,Value.isInt]
theorem b4m (x:Str)(t:Tok):a2v (.inr x) (.str x t)=true:=by simp [a2v,Value.isStrOf]
theorem b6N (a b:Int):decide ((Sum.inl a:Key)=Sum.inl b)=(a == b):=by
 by_cases e:a=b
 ·subst e;simp
 ·have h:¬ (Sum.inl a:Key)=Sum.inl b:=λq=>e (Sum.inl.inj q);rw [decide_eq_false h];exact (beq_eq_false_iff_ne.mpr e).symm
theorem b3N (a b:Str):decide ((Sum.inr a:Key)=Sum.inr b)=decide (a=b):=by
 by_cases e:a=b
 ·subst e;simp
 ·have h:¬ (Sum.inr a:Key)=Sum.inr b:=λq=>e (Sum.inr.inj q);rw [decide_eq_false h,decide_eq_false e]
theorem b5N (a:Int)(b:Str):decide ((Sum.inl a:Key)=Sum.inr b)=false:=decide_eq_false (λq=>nomatch q)
theorem b4N (a:Str)(b:Int):decide ((Sum.inr a:Key)=Sum.inl b)=false:=decide_eq_false (λq=>nomatch q)
def t7 (prog:Program)(w:World):PySem.KeyKind prog w Key where
 is:=a2v
 hash:=b6W w
 inj:=λv a b ha hb=>by
  rcases v0 ha with ⟨i,t,rfl,rfl⟩ | ⟨x,t,rfl,rfl⟩
  ·rcases v0 hb with ⟨j,u,rfl,e⟩ | ⟨y,u,rfl,e⟩
   ·injection e with e1 _;rw [e1]
   ·exact nomatch e
  ·rcases v0 hb with ⟨j,u,rfl,e⟩ | ⟨y,u,rfl,e⟩
   ·exact nomatch e
   ·injection e with e1 _;rw [e1]
 byValue:=λk v h=>by
  rcases v0 h with ⟨i,t,rfl,rfl⟩ | ⟨x,t,rfl,rfl⟩ <;> rfl
 pyHash:=λhv h=>by
  rcases v0 hv with ⟨i,t,rfl,rfl⟩ | ⟨x,t,rfl,rfl⟩
  ·exact wpAny_pyHash_int h
  ·exact wpAny_pyHash_str h
 eqBool:=λhu hv h=>by
  rcases v0 hu with ⟨i,t,rfl,rfl⟩ | ⟨x,t,rfl,rfl⟩
  ·rcases v0 hv with ⟨j,u,rfl,rfl⟩ | ⟨y,u,rfl,rfl⟩
   ·rw [b6N] at h;exact wpAny_eqBool_int h
   ·rw [b5N] at h;exact SeqAt.EqAt.int_str i t y u _ _ _ _ h
  ·rcases v0 hv with ⟨j,u,rfl,rfl⟩ | ⟨y,u,rfl,rfl⟩
   ·rw [b4N] at h;exact SeqAt.EqAt.str_int x t j u _ _ _ _ h
   ·rw [b3N] at h;exact wpAny_eqBool_str h
 «strs»:=λk x t v h=>by
  rcases v0 h with ⟨i,u,rfl,e⟩ | ⟨y,u,rfl,e⟩
  ·exact nomatch e
  ·injection e with e1 _
   subst e1;cases v <;> rfl
theorem a8S (prog:Program)(w:World)(i:Int)(t:Tok):(t7 prog w).is (.inl i) (.int i t)=true:=b5m i t
theorem a7S (prog:Program)(w:World)(x:Str)(t:Tok):(t7 prog w).is (.inr x) (.str x t)=true:=b4m x t
end L2
namespace L2
open PySem PySem.Spec PyProof.Rows
inductive V where
 | non | bl (b:Bool) | int (i:Int) | str (x:Str) | byt (b:Array UInt8) | flt (b:UInt64) | ref (a:Addr) | ty (n:String)
 deriving DecidableEq
def n4:V->Value->Prop
 | .non,u=>u=Value.none
 | .bl b,u=>u=Value.bool b
 | .int i,u=>∃ t,u=Value.int i t
 | .str x,u=>∃ t,u=Value.str x t
 | .byt b,u=>∃ t,u=Value.bytes b t
 | .flt b,u=>∃ t,u=Value.float b t
 | .ref a,u=>u=Value.ref a
 | .ty n,u=>u=Value.type n
abbrev n0:List V->List Value->Prop:=Paired n4
theorem n0.length {xs:List V}{us:List Value}(r:n0 xs us):xs.length=us.length:=Paired.length r
theorem n0.get:∀ {xs:List V} {us:List Value} {i:Nat} {x:V},n0 xs us->xs[i]? = some x->∃ u,us[i]? = some u/\n4 x u
 | _,_,_,_,.nil,e=>by simp at e
 | _,_,0,_,.cons r _,e=>by simp at e;subst e;exact ⟨_,rfl,r⟩
 | _,_,i + 1,x,.cons _ t,e=>by
  obtain ⟨u,h1,h2⟩:=n0.get (i:=i) (x:=x) t (by simpa using e);exact ⟨u,by simpa using h1,h2⟩
theorem n0.set {x:V}{u:Value}(r:n4 x u):∀ {xs:List V} {us:List Value} (i:Nat),n0 xs us->n0 (xs.set i x) (us.set i u)
 | _,_,_,.nil=>.nil
 | _,_,0,.cons _ t=>.cons r t
 | _,_,i + 1,.cons q t=>.cons q (n0.set r i t)
theorem n0.append:∀ {xs ys:List V} {us ws:List Value},n0 xs us->n0 ys ws->n0 (xs ++ ys) (us ++ ws)
 | _,_,_,_,.nil,s=>s
 | _,_,_,_,.cons r t,s=>.cons r (n0.append t s)
theorem n0.take:∀ {xs:List V} {us:List Value} (n:Nat),n0 xs us->n0 (xs.take n) (us.take n)
 | _,_,0,_=>.nil
 | _,_,_ + 1,.nil=>.nil
 | _,_,n + 1,.cons r t=>.cons r (n0.take n t)
theorem n0.drop:∀ {xs:List V} {us:List Value} (n:Nat),n0 xs us->n0 (xs.drop n) (us.drop n)
 | _,_,0,r=>r
 | _,_,_ + 1,.nil=>.nil
 | _,_,n + 1,.cons _ t=>n0.drop n t
def Y5:Option V->Option Value->Prop
 | some v,some u=>n4 v u
 | none,none=>True
 | _,_=>False
def KV {κ:Type}:List (κ × V)->List (κ × Value)->Prop:=Paired λ(p:κ × V) (q:κ × Value)=>p.1=q.1 /\ n4 p.2 q.2
def kV:Key->V
 | .inl i=>.int i
 | .inr x=>.str x
inductive HO where
 | lst (xs:List V)
 | tup (xs:List V)
 | dK (kvs:List (Key × V)) | dT (kvs:List (List Key × V))
 | set (S:Int->Bool) (n:Nat)
 | ins (C dx:Addr) (fs:List (Str × V))
 | own (x:Addr)
 | xd (fs:List (Str × V))
 | met (f x:Addr)
 | rng (lo hi:Int)
 | frz (o:Obj) (u:HO)
 | tbl (ps:Array Value)
 | ext (φ:Heap->Prop)
abbrev Hp:=Addr->Option HO
def upd (H:Hp)(a:Addr)(o:HO):Hp:=λb=>if b=a then some o else H b
theorem a8 {H:Hp}{a:Addr}{o:HO}:upd H a o a=some o:=by unfold upd;rw [if_pos rfl]
theorem d5 {H:Hp}{a b:Addr}{o:HO}(h:b≠a):upd H a o b=H b:=by unfold upd;rw [if_neg h]
theorem b0z {H:Hp}{a:Addr}{o u:HO}:upd (upd H a o) a u=upd H a u:=by
 funext b;unfold upd;split <;> rfl
theorem B2 {H:Hp}{a b:Addr}{o u:HO}(h:H a=some o)(h':H b=some u)(d:o≠u):a≠b:=by
 intro e;subst e;rw [h] at h';exact d (Option.some.inj h')
theorem c6 {H:Hp}{a b:Addr}{o:HO}(h:H a=some o)(h':H b=none):a≠b:=by
 intro e;subst e;rw [h] at h';cases h'
section
variable (P:Program)(w:World)
def n8 (H:Hp)(h:Heap)(a:Addr):HO->Prop
 | .lst xs=>xs.length <= sizeLine/\∃ (its:List Value) (n:Nat),n0 xs its/\h.get? a=some { cls:=.type "list",data:=.seq its.toArray n }
 | .tup xs=>xs.length <= sizeLine/\∃ its:List Value,n0 xs its/\IsTup h a its.toArray
 | .dK kvs=>kvs.length <= sizeLine/\(a == sysModules)=false/\∃ vs,KV kvs vs/\h.DictOf (t7 P w) a vs
 | .dT kvs=>kvs.length <= sizeLine/\(a == sysModules)=false/\∃ xs:List (List Key × Addr × Value),
   Paired (λ(p:List Key × V) (q:List Key × Addr × Value)=>p.1=q.1 /\ H q.2.1=some (.tup (p.1.map kV))/\n4 p.2 q.2.2) kvs xs /\
   ∃ o es ep,h.get? a=some o/\o.ExactDict /\ o.data = .dict es ep/\es.toList=xs.map (entryOfKey (tupleKind (t7 P w)))/\(xs.map (·.1)).Nodup
 | .set S n=>h.SetOf (intKind P w) a S n
 | .ins C dx fs=>H dx=some (.own a)/\fs.length <= 1000/\dx≠a/\h.get? a=some (PySem.W.instObj C dx) /\
   ∃ mA,h.Ns1 dx mA/\(∀ f,Y5 (fs.lookup f) (mA f))/\PySem.Within mA (fs.map (·.1))
 | .own _=>∃ o,h.get? a=some o
 | .xd fs=>∃ mA,h.Ns1 a mA/\∀ f,Y5 (fs.lookup f) (mA f)
 | .rng lo hi=>∃ t u v,h.get? a=some { cls:=.type "range",data:=.fields #[.int lo t,.int hi u,.int 1 v] }
 | .frz o u=>h.get? a=some o/\n8 H h a u
 | .tbl ps=>h.get? a=some { cls:=.none,data:=.fields ps }
 | .met f x=>h.get? a=some (PySem.W.methodObj (.ref f) (.ref x))
 | .ext φ=>φ h/\(∃ o,h.get? a=some o)/\∀ h1 h2:Heap,φ h1->(∀ o,h1.get? a=some o->h2.get? a=some o)->φ h2
def HOk (H:Hp)(h:Heap):Prop:=∀ a o,H a=some o->n8 P w H h a o
end
section
variable {P:Program}{w:World}{H H':Hp}{h h':Heap}{a:Addr}{o:HO}
theorem n8.lt (x:n8 P w H h a o):a < h.objs.size:=by
 cases o with
 | lst xs=>obtain ⟨_,_,_,_,e⟩:=x;exact Heap.lt_size e
 | tup xs=>obtain ⟨_,_,_,p⟩:=x;exact p.lt
 | dK kvs=>obtain ⟨_,_,_,_,o,_,_,e,_⟩:=x;exact Heap.lt_size e
 | dT kvs=>obtain ⟨_,_,_,_,o,_,_,e,_⟩:=x;exact Heap.lt_size e
 | set S n=>obtain ⟨o,_,_,_,e,_⟩:=x;exact Heap.lt_size e
 | ins C dx fs=>obtain ⟨_,_,_,e,_⟩:=x;exact Heap.lt_size e
 | own y=>obtain ⟨_,e⟩:=x;exact Heap.lt_size e
 | xd fs=>obtain ⟨_,⟨_,_,_,e,_⟩,_⟩:=x;exact Heap.lt_size e
 | rng lo hi=>obtain ⟨_,_,_,e⟩:=x;exact Heap.lt_size e
 | frz ob u=>obtain ⟨e,_⟩:=x;exact Heap.lt_size e
 | tbl ps=>exact Heap.lt_size (show h.get? a=some _ from x)
 | met f y=>exact Heap.lt_size (show h.get? a=some _ from x)
 | ext φ=>obtain ⟨_,⟨_,e⟩,_⟩:=x;exact Heap.lt_size e
theorem Paired.mapP {α β:Type}{F G:α->β->Prop}:∀ {l₁:List α} {l₂:List β},Paired F l₁ l₂->(∀ a b,F a b->G a b)->Paired G l₁ l₂
 | _,_,.nil,_=>.nil
 | _,_,.cons r t,f=>.cons (f _ _ r) (Paired.mapP t f)
theorem n8.stay (x:n8 P w H h a o)(k:∀ b u,(b=a \/ H b=some (.own a))->h.get? b=some u->h'.get? b=some u)
  (ho:∀ b,H b=some (.own a)->H' b=some (.own a)) (ht:∀ b xs,H b=some (.tup xs)->H' b=some (.tup xs)):n8 P w H' h' a o:=by
 induction o with
 | lst xs=>obtain ⟨z,its,n,r,e⟩:=x;exact ⟨z,its,n,r,k _ _ (.inl rfl) e⟩
 | tup xs=>obtain ⟨z,its,r,ob,e,c⟩:=x;exact ⟨z,its,r,ob,k _ _ (.inl rfl) e,c⟩
 | dK kvs=>obtain ⟨z,y,vs,r,ob,es,ep,e,c⟩:=x;exact ⟨z,y,vs,r,ob,es,ep,k _ _ (.inl rfl) e,c⟩
 | dT kvs =>
  obtain ⟨z,y,xs,r,ob,es,ep,e,c⟩:=x;exact ⟨z,y,xs,Paired.mapP r λp q z=>⟨z.1,ht _ _ z.2.1,z.2.2⟩,ob,es,ep,k _ _ (.inl rfl) e,c⟩
 | set S n=>obtain ⟨ob,es,ep,t,e,c⟩:=x;exact ⟨ob,es,ep,t,k _ _ (.inl rfl) e,c⟩
 | ins C dx fs =>
  obtain ⟨d,z,ne,e,mA,⟨od,es,ep,e2,c⟩,r⟩:=x;exact ⟨ho _ d,z,ne,k _ _ (.inl rfl) e,mA,⟨od,es,ep,k _ _ (.inr d) e2,c⟩,r⟩
 | own y=>obtain ⟨ob,e⟩:=x;exact ⟨ob,k _ _ (.inl rfl) e⟩
 | xd fs=>obtain ⟨mA,⟨od,es,ep,e,c⟩,r⟩:=x;exact ⟨mA,⟨od,es,ep,k _ _ (.inl rfl) e,c⟩,r⟩
 | rng lo hi=>obtain ⟨t,u,v,e⟩:=x;exact ⟨t,u,v,k _ _ (.inl rfl) e⟩
 | frz ob u ih=>obtain ⟨e,q⟩:=x;exact ⟨k _ _ (.inl rfl) e,ih q⟩
 | tbl ps =>
  have e:h.get? a=some { cls:=.none,data:=.fields ps }:=x
  show h'.get? a=some { cls:=.none,data:=.fields ps }
  exact k a _ (.inl rfl) e
 | met f y =>
  have e:h.get? a=some (PySem.W.methodObj (.ref f) (.ref y)):=x
  show h'.get? a=some (PySem.W.methodObj (.ref f) (.ref y))
  exact k a _ (.inl rfl) e
 | ext φ=>obtain ⟨p,⟨o,e⟩,st⟩:=x;exact ⟨st _ _ p λo q=>k _ _ (.inl rfl) q,⟨o,k _ _ (.inl rfl) e⟩,st⟩
theorem HOk.lt (x:HOk P w H h)(e:H a=some o):a < h.objs.size:=(x a o e).lt
theorem HOk.fresh (x:HOk P w H h)(e:h.objs.size <= a):H a=none:=by
 cases q:H a with
 | none=>rfl
 | some u=>exact absurd (Nat.lt_of_lt_of_le (x.lt q) e) (Nat.lt_irrefl _)
theorem HOk.kept (x:HOk P w H h)(k:∀ b u,h.get? b=some u->h'.get? b=some u):HOk P w H h':=λa o e =>
 (x a o e).stay (λb u _ q=>k b u q) (λ_ q=>q) λ_ _ q=>q
theorem HOk.laid (x:HOk P w H h)(k:∀ b u,h.get? b=some u->h'.get? b=some u)(hp:h.objs.size <= a)(new:n8 P w (upd H a o) h' a o):HOk P w (upd H a o) h':=λb u e=>by
 have hn:=x.fresh hp
 by_cases hb:b=a
 ·subst hb;rw [a8] at e;cases e;exact new
 ·rw [d5 hb] at e;exact (x b u e).stay (λc v _ q=>k c v q) (λc q=>by rw [d5 (c6 q hn)];exact q) λc xs q=>by rw [d5 (c6 q hn)];exact q
end
def Rd (H:Hp)(a:Addr)(u:HO):Prop:=H a=some u \/ ∃ o,H a=some (.frz o u)
theorem Rd.ok {P:Program}{w:World}{H:Hp}{h:Heap}{a:Addr}{u:HO}(r:Rd H a u)(x:HOk P w H h):n8 P w H h a u:=by
 rcases r with r | ⟨o,r⟩
 ·exact x a u r
 ·obtain ⟨_,q⟩:=x a _ r;exact q
def Mut:Option HO->Prop
 | some (.lst _)=>True
 | some (.dK _)=>True
 | some (.dT _)=>True
 | some (.set _ _)=>True
 | some (.ins _ _ _)=>True
 | some (.ext _)=>True
 | _=>False
section
variable {P:Program}{w:World}{H:Hp}{h h':Heap}{x e:Addr}{o':HO}
theorem HOk.write (ok:HOk P w H h)(mu:Mut (H x))(he:e=x \/ H e=some (.own x))(k:∀ b u,b≠e->h.get? b=some u->h'.get? b=some u)(heo:∃ u,h'.get? e=some u)
  (new:n8 P w (upd H x o') h' x o'):HOk P w (upd H x o') h':=λb u q=>by
 have nown:∀ c y,H c=some (.own y)->c≠x:=λc y r z=>by subst z;rw [r] at mu;exact mu
 have ntup:∀ c xs,H c=some (.tup xs)->c≠x:=λc xs r z=>by subst z;rw [r] at mu;exact mu
 by_cases hb:b=x
 ·subst hb;rw [a8] at q;cases q;exact new
 ·rw [d5 hb] at q
  by_cases hbe:b=e
  ·have q':H b=some (.own x):=by
    rcases he with z | z
    ·exact absurd (hbe.trans z) hb
    ·rw [hbe];exact z
   rw [q] at q';cases q';obtain ⟨v,hv⟩:=heo;exact ⟨v,by rw [hbe];exact hv⟩
  ·refine (ok b u q).stay (λc v hc r=>k c v ?_ r) (λc r=>by rw [d5 (nown c b r)];exact r) λc xs r=>by rw [d5 (ntup c xs r)];exact r
   rcases hc with rfl | hc
   ·exact hbe
   ·rintro rfl
    rcases he with z | z
    ·exact nown c b hc z
    ·rw [hc] at z;cases z;exact hb rfl
end
structure Un (fs ex:List Addr)(H H':Hp)(h h':Heap):Prop where
 keep:∀ b o,h.get? b=some o->H b=none->b ∉ fs->b ∉ ex->h'.get? b=some o
 slot:∀ b o,h.get? b=some o->H b=none->b∈fs->b ∉ ex->∃ sl,h'.get? b=some { o with slots:=sl }
 free:∀ b o,h.get? b=some o->H b=none->b ∉ ex->H' b=none
 there:∀ b o,h.get? b=some o->b ∉ ex->∃ o',h'.get? b=some o'
 tups:∀ b xs,H b=some (.tup xs)->H' b=some (.tup xs)
 frzs:∀ b o u,H b=some (.frz o u)->H' b=some (.frz o u)
 tbls:∀ b ps,H b=some (.tbl ps)->∃ more,H' b=some (.tbl (ps ++ more))
section
variable {fs fs' ex ex':List Addr}{H H1 H2:Hp}{h h1 h2 h':Heap}{a x e:Addr}{o:HO}
theorem Un.any (u:Un fs ex H H1 h h1){b:Addr}{ob:Obj}(q:h.get? b=some ob)(n:H b=none)(hx:b ∉ ex):∃ sl,h1.get? b=some { ob with slots:=sl }:=by
 by_cases hb:b∈fs
 ·exact u.slot b ob q n hb hx
 ·exact ⟨ob.slots,u.keep b ob q n hb hx⟩
theorem Un.kept (k:∀ b u,h.get? b=some u->h'.get? b=some u):Un fs ex H H h h' :=
 ⟨λb ob q _ _ _=>k b ob q,λb ob q _ _ _=>⟨ob.slots,k b ob q⟩,λ_ _ _ n _=>n,λb ob q _=>⟨ob,k b ob q⟩,λ_ _ q=>q,λ_ _ _ q=>q,λ_ ps q=>⟨#[],by rw [q];simp⟩⟩
theorem Un.refl:Un fs ex H H h h:=Un.kept λ_ _ q=>q
theorem Un.laid (k:∀ b u,h.get? b=some u->h'.get? b=some u)(hp:h.objs.size <= a)(hn:H a=none):Un fs ex H (upd H a o) h h' where
 keep:=λb u q _ _ _=>k b u q
 slot:=λb u q _ _ _=>⟨u.slots,k b u q⟩
 free:=λb u q n _=>by rw [d5 (Nat.ne_of_lt (Nat.lt_of_lt_of_le (Heap.lt_size q) hp))];exact n
 there:=λb u q _=>⟨u,k b u q⟩
 tups:=λb xs q=>by rw [d5 (c6 q hn)];exact q
 frzs:=λb u xs q=>by rw [d5 (c6 q hn)];exact q
 tbls:=λb ps q=>⟨#[],by rw [d5 (c6 q hn),q];simp⟩
theorem Un.write (mu:Mut (H x))(he:e=x \/ H e=some (.own x))(k:∀ b u,b≠e->h.get? b=some u->h'.get? b=some u)(heo:∃ u,h'.get? e=some u):Un fs ex H (upd H x o) h h':=by
 have hx:∀ b,H b=none->b≠x:=λb n z=>by subst z;rw [n] at mu;exact mu
 have hb:∀ b,H b=none->b≠e:=λb n z=>by
  subst z
  rcases he with r | r
  ·exact hx b n r
  ·rw [n] at r;cases r
 have hm:∀ b u,H b=some u->¬ Mut (some u)->b≠x:=λb u q nm z=>by subst z;rw [q] at mu;exact nm mu
 refine ⟨λb u q n _ _=>k b u (hb b n) q,λb u q n _ _=>⟨u.slots,k b u (hb b n) q⟩,λb u q n _=>by rw [d5 (hx b n)];exact n,λb u q _=>?_,
  λb xs q=>by rw [d5 (hm b _ q λz=>z)];exact q,λb u xs q=>by rw [d5 (hm b _ q λz=>z)];exact q,λb ps q=>⟨#[],by rw [d5 (hm b _ q λz=>z),q];simp⟩⟩
 by_cases hbe:b=e
 ·subst hbe;exact heo
 ·exact ⟨u,k b u hbe q⟩
end
def trk (h:Heap)(H:Hp):List Addr:=(List.range h.objs.size).filter λa=>(H a).isSome
def a4M (h:Heap)(H:Hp):Heap:=PySem.W.hideAll h (trk h H)
theorem b0n (h:Heap)(H:Hp):(a4M h H).objs.size=h.objs.size:=PySem.W.hideAll_size _ _
theorem b2v {h:Heap}{H:Hp}{b:Addr}{o:Obj}(e:h.get? b=some o)(n:H b=none):(a4M h H).get? b=some o :=
 PySem.W.hideAll_get _ e λhm=>by
  have q:(H b).isSome=true:=(List.mem_filter.mp hm).2;rw [n] at q;simp at q
theorem b8D {h:Heap}{H:Hp}{b:Addr}{o:Obj}(e:(a4M h H).get? b=some o):h.get? b=some o/\H b=none:=by
 have e':h.get? b=some o:=PySem.W.of_hideAll (trk h H) e;refine ⟨e',?_⟩;cases q:H b with
 | none=>rfl
 | some x =>
  have hm:b∈trk h H:=List.mem_filter.mpr ⟨List.mem_range.mpr (Heap.lt_size e'),by simp [q]⟩;have z:(a4M h H).get? b=none:=PySem.W.hideAll_none (trk h H) hm;rw [z] at e;cases e
end L2
namespace L2
open PySem PySem.Spec PyProof.Rows
structure Mod (K:PySem.W.Frag)(mg:Str->Option Value)(base:Heap):Prop where
 kin:K.In base
 glob:base.Ns mainGlobals mg
 blt:∃ mb,base.Ns builtinsNs mb/\∀ x:Str,x ≠ "__name__"->mb x=bootBuiltins x
 nolimit:base.NoLimit
structure Cx where
 prog:Program
 w:World
 K:PySem.W.Frag
 mg:Str->Option Value
 base:Heap
 A:Around
 N:List Str
 sZ:Shared
 HZ:Hp
 env:Env
 outer:List Env
 stack:List Env
 ex:List Addr
 fn:Str->Bool
 calm:Bool
 pn:List (Addr × Obj)
 xe:Value->Shared->Prop
def frs (l:List Env):List Addr:=l.filterMap (·.frame)
abbrev Cx.fs (X:Cx):List Addr:=frs X.outer
def Vis (sc:Scope)(x:Str):Prop:=sc.names.lookup x=some .local \/ sc.names.lookup x=some .cell \/ sc.names.lookup x=some .free
def Loc (sc:Scope)(x:Str):Prop:=sc.names.lookup x=some .local \/ sc.names.lookup x=some .cell
def b2X (env:Env)(h:Heap)(m:Str->Option Value)(x:Str)(u:Value):Prop :=
 (env.kindOf x=some .local /\ m x=some u) \/ ((env.kindOf x=some .cell \/ env.kindOf x=some .free)/\∃ c,env.cells.lookup x=some c/\h.IsCell c (some u))
structure Cx.Ok (X:Cx):Prop where
 mod:Mod X.K X.mg X.base
 kind:X.env.scope.kind = .function
 glob:X.env.globals=mainGlobals
 blt:X.env.builtins=builtinsNs
 above:X.sZ.heap.objs.size <= X.env.locals
 inj:∀ x y c,X.env.cells.lookup x=some c->X.env.cells.lookup y=some c->x=y
 has:∀ x,(X.env.kindOf x=some .cell \/ X.env.kindOf x=some .free)->∃ c,X.env.cells.lookup x=some c
 cab:∀ x c,X.fn x=true->X.env.cells.lookup x=some c->X.sZ.heap.objs.size <= c
 hd:X.calm=true->X.A.handled=none
 frames:X.A.frames=some X.stack
 stk:X.stack=X.outer \/ (X.stack=X.env :: X.outer /\ X.env.frame=some X.env.locals)
 exf:∀ b∈X.ex,b≠X.env.locals /\ ∀ x c,X.env.cells.lookup x=some c->c≠b
 bs:∀ b o,X.base.get? b=some o->X.sZ.heap.get? b=some o/\X.HZ b=none
 bsz:X.base.objs.size <= X.sZ.heap.objs.size
 noex:∀ b o,X.base.get? b=some o->b ∉ X.ex
 exfs:∀ b∈X.ex,b ∉ X.fs
 funs:X.sZ.heap.FunFrames X.base X.outer
 frf:∀ b∈X.fs,X.HZ b=none
structure Inv (X:Cx)(pins:List (Addr × Obj))(σ:List (Option V))(H:Hp)(s:Shared):Prop where
 ok:X.Ok
 os:s.os=X.sZ.os
 bare:AllBare s.gens
 base:Un X.fs X.ex X.HZ H X.sZ.heap s.heap
 loc:∃ m,s.heap.Ns X.env.locals m/\∀ (i:Nat) (x:Str) (v:V),X.N[i]? = some x->σ[i]? = some (some v)->Vis X.env.scope x->∃ u,n4 v u/\b2X X.env s.heap m x u
 cell:∀ x c,X.env.cells.lookup x=some c->∃ v,s.heap.IsCell c v
 free:H X.env.locals=none
 freeC:∀ x c,X.env.cells.lookup x=some c->H c=none
 pin:∀ p∈X.pn ++ pins,s.heap.get? p.1=some p.2 /\ H p.1=none/\p.1 ≠ X.env.locals /\ p.1 ∉ X.fs /\ ∀ v,p.2.data ≠ .cell v
 hok:HOk X.prog X.w H s.heap
 len:σ.length=X.N.length
section
variable {X:Cx}{pins:List (Addr × Obj)}{σ:List (Option V)}{H H':Hp}{s:Shared}{h':Heap}
theorem Cx.Ok.nofr (ok:X.Ok){b:Addr}{o:Obj}(e:X.base.get? b=some o):b ∉ X.fs:=λhb=>by
 have:=(ok.funs.mem hb).1;rw [e] at this;cases this
theorem Inv.bs (I:Inv X pins σ H s):∀ b o,X.base.get? b=some o->s.heap.get? b=some o/\H b=none:=λb o e =>
 ⟨I.base.keep b o (I.ok.bs b o e).1 (I.ok.bs b o e).2 (I.ok.nofr e) (I.ok.noex b o e),I.base.free b o (I.ok.bs b o e).1 (I.ok.bs b o e).2 (I.ok.noex b o e)⟩
theorem Inv.bk (I:Inv X pins σ H s):∀ b o,X.base.get? b=some o->s.heap.get? b=some o:=λb o e=>(I.bs b o e).1
theorem Inv.mod (I:Inv X pins σ H s):Mod X.K X.mg X.base:=I.ok.mod
theorem Inv.kIn (I:Inv X pins σ H s):X.K.In s.heap:=I.ok.mod.kin.keeps I.bk
theorem Inv.fr (I:Inv X pins σ H s):∃ m,Fr X.base X.env.locals s.heap m :=
 let ⟨m,hn,_⟩:=I.loc
 ⟨m,hn,I.bk,Nat.le_trans I.ok.bsz I.ok.above⟩
theorem Inv.lt (I:Inv X pins σ H s):X.env.locals < s.heap.objs.size:=let ⟨_,hn,_⟩:=I.loc;hn.lt
theorem Inv.sz (I:Inv X pins σ H s):X.sZ.heap.objs.size <= s.heap.objs.size:=Nat.le_trans I.ok.above (Nat.le_of_lt I.lt)
theorem Inv.nofs (I:Inv X pins σ H s){a:Addr}(h:s.heap.objs.size <= a):a ∉ X.fs:=λhb=>by
 obtain ⟨_,o,ho,_⟩:=I.ok.funs.mem hb;exact absurd (Nat.lt_of_lt_of_le (Heap.lt_size ho) (Nat.le_trans I.sz h)) (Nat.lt_irrefl _)
theorem Inv.cne (I:Inv X pins σ H s):∀ x c,X.env.cells.lookup x=some c->c≠X.env.locals:=λx c e z=>by
 obtain ⟨v,o,ho,hd⟩:=I.cell x c e;obtain ⟨m,⟨o',es,ep,ho',hd',_⟩,_⟩:=I.loc;rw [z,ho'] at ho;cases ho;rw [hd'] at hd;cases hd
theorem Inv.funs (I:Inv X pins σ H s):s.heap.FunFrames X.base X.outer:=by
 have all:∀ (l:List Env),(∀ b∈frs l,b∈X.fs)->X.sZ.heap.FunFrames X.base l->s.heap.FunFrames X.base l:=by
  intro l
  induction l with
  | nil=>intro _ _;trivial
  | cons env r ih =>
   intro hs hl;obtain ⟨hk,⟨L,o,hf,hn,ho,hd⟩,hr⟩:=hl;have hL:L∈X.fs:=hs L (by unfold frs;rw [List.filterMap_cons,hf];exact List.mem_cons_self);obtain ⟨sl,e⟩:=I.base.slot L o ho (I.ok.frf L hL) hL λz=>I.ok.exfs L z hL;exact ⟨hk,⟨L,_,hf,hn,e,hd⟩,ih (λb hb=>hs b (by unfold frs;rw [List.filterMap_cons,hf];exact List.mem_cons_of_mem _ hb)) hr⟩
 exact all X.outer (λ_ hb=>hb) I.ok.funs
theorem Inv.stack (I:Inv X pins σ H s):s.heap.FunFrames X.base X.stack:=by
 rcases I.ok.stk with e | ⟨e,hf⟩
 ·rw [e];exact I.funs
 ·rw [e];obtain ⟨m,hn,_⟩:=I.loc;refine .cons (by rw [I.ok.kind];decide) hf hn ?_ I.funs;exact Heap.get?_none_of_le (Nat.le_trans I.ok.bsz I.ok.above)
theorem Inv.stkSub (I:Inv X pins σ H s):∀ b∈frs X.stack,b∈X.env.locals :: X.fs:=λb hb=>by
 rcases I.ok.stk with e | ⟨e,hf⟩
 ·rw [e] at hb;exact List.mem_cons_of_mem _ hb
 ·rw [e] at hb;unfold frs at hb;rw [List.filterMap_cons,hf] at hb;exact hb
theorem Inv.stkFree (I:Inv X pins σ H s):∀ b∈frs X.stack,H b=none:=λb hb=>by
 rcases List.mem_cons.mp (I.stkSub b hb) with e | hb
 ·rw [e];exact I.free
 ·obtain ⟨_,o,ho,_⟩:=I.ok.funs.mem hb;exact I.base.free b o ho (I.ok.frf b hb) λz=>I.ok.exfs b z hb
theorem Inv.step {g':Array GenState}{t':Nat}{d':Drawn}{ch:List Addr}(I:Inv X pins σ H s)
  (hch:∀ b∈ch,(b∈X.ex \/ X.sZ.heap.objs.size <= b)/\b≠X.env.locals /\ (∀ x c,X.env.cells.lookup x=some c->c≠b)/\∀ p∈X.pn ++ pins,p.1 ≠ b)
  (keep:∀ b o,b≠X.env.locals -> b ∉ X.fs -> b ∉ ch->s.heap.get? b=some o->H b=none->h'.get? b=some o)
  (slot:∀ b o,b≠X.env.locals -> b∈X.fs -> b ∉ ch->s.heap.get? b=some o->H b=none->∃ sl,h'.get? b=some { o with slots:=sl }) (free:∀ b o,b ∉ ch->s.heap.get? b=some o->H b=none->H' b=none)
  (there:∀ b o,b ∉ ch->s.heap.get? b=some o->∃ o',h'.get? b=some o')
  (tups:∀ b xs,H b=some (.tup xs)->H' b=some (.tup xs)) (frzs:∀ b o u,H b=some (.frz o u)->H' b=some (.frz o u)) (tbls:∀ b ps,H b=some (.tbl ps)->∃ more,H' b=some (.tbl (ps ++ more)))
  (ns:∀ m,s.heap.Ns X.env.locals m->h'.Ns X.env.locals m) (hok:HOk X.prog X.w H' h') (hg:AllBare g') :
  Inv X pins σ H' { s with heap:=h',gens:=g',drawn:=d',toks:=t' }:=by
 have neL:∀ b o,X.sZ.heap.get? b=some o->b≠X.env.locals:=λb o e=>Nat.ne_of_lt (Nat.lt_of_lt_of_le (Heap.lt_size e) I.ok.above);have neC:∀ b o,X.sZ.heap.get? b=some o->b ∉ X.ex -> b ∉ ch:=λb o e hx hb=>by
  rcases (hch b hb).1 with z | z
  ·exact hx z
  ·exact absurd (Nat.lt_of_lt_of_le (Heap.lt_size e) z) (Nat.lt_irrefl _)
 have cellK:∀ x c,X.env.cells.lookup x=some c->∀ v,s.heap.IsCell c v->h'.IsCell c v:=λx c e v ⟨o,ho,hd⟩=>by
  have nch:c ∉ ch:=λz=>(hch c z).2.2.1 x c e rfl
  by_cases hc:c∈X.fs
  ·obtain ⟨sl,q⟩:=slot c o (I.cne x c e) hc nch ho (I.freeC x c e);exact ⟨_,q,hd⟩
  ·exact ⟨o,keep c o (I.cne x c e) hc nch ho (I.freeC x c e),hd⟩
 refine ⟨I.ok,I.os,hg,⟨λb o e n hb hx=>?_,λb o e n hb hx=>?_,λb o e n hx=>?_,λb o e hx=>?_,λb xs e=>tups b xs (I.base.tups b xs e),λb o xs e=>frzs b o xs (I.base.frzs b o xs e),λb ps e=>?_⟩,?_,λx c e=>?_,?_,λx c e=>?_,λp hp=>?_,hok,I.len⟩
 ·exact keep b o (neL b o e) hb (neC b o e hx) (I.base.keep b o e n hb hx) (I.base.free b o e n hx)
 ·obtain ⟨sl,e1⟩:=I.base.slot b o e n hb hx;obtain ⟨sl',e2⟩:=slot b _ (neL b o e) hb (neC b o e hx) e1 (I.base.free b o e n hx);exact ⟨sl',e2⟩
 ·obtain ⟨o',e1⟩:=I.base.there b o e hx;exact free b o' (neC b o e hx) e1 (I.base.free b o e n hx)
 ·obtain ⟨o',e1⟩:=I.base.there b o e hx;exact there b o' (neC b o e hx) e1
 ·obtain ⟨m1,e1⟩:=I.base.tbls b ps e;obtain ⟨m2,e2⟩:=tbls b _ e1;exact ⟨m1 ++ m2,by rw [e2,Array.append_assoc]⟩
 ·obtain ⟨m,hn,hl⟩:=I.loc;refine ⟨m,ns m hn,λi x v e1 e2 e3=>?_⟩;obtain ⟨u,r,l⟩:=hl i x v e1 e2 e3;refine ⟨u,r,?_⟩
  rcases l with l | ⟨k,c,e,z⟩
  ·exact .inl l
  ·exact .inr ⟨k,c,e,cellK x c e _ z⟩
 ·obtain ⟨v,z⟩:=I.cell x c e;exact ⟨v,cellK x c e v z⟩
 ·obtain ⟨m,⟨o,_,_,ho,_⟩,_⟩:=I.loc;exact free _ o (λz=>(hch _ z).2.1 rfl) ho I.free
 ·obtain ⟨v,o,ho,hd⟩:=I.cell x c e;exact free c o (λz=>(hch c z).2.2.1 x c e rfl) ho (I.freeC x c e)
 ·obtain ⟨e,n,ne,nf,d⟩:=I.pin p hp;have nch:p.1 ∉ ch:=λz=>(hch p.1 z).2.2.2 p hp rfl;exact ⟨keep p.1 p.2 ne nf nch e n,free p.1 p.2 nch e n,ne,nf,d⟩
theorem Inv.un {t':Nat}(I:Inv X pins σ H s)(u:Un X.fs [] H H' s.heap h')(hok:HOk X.prog X.w H' h'):Inv X pins σ H' { s with heap:=h',toks:=t' }:=by
 obtain ⟨m,⟨o,es,ep,ho,r⟩,_⟩:=id I.loc;obtain ⟨sl,hL⟩:=u.any ho I.free (by simp);exact I.step (g':=s.gens) (d':=s.drawn) (ch:=[]) (λ_ z=>nomatch z) (λb o _ hb _ e n=>u.keep b o e n hb (by simp)) (λb o _ hb _ e n=>u.slot b o e n hb (by simp)) (λb o _ e n=>u.free b o e n (by simp)) (λb o _ e=>u.there b o e (by simp)) u.tups u.frzs u.tbls (λm' hm=>by
  obtain ⟨o',es',ep',ho',r'⟩:=hm;rw [ho] at ho';cases ho';exact ⟨_,es',ep',hL,r'⟩) hok I.bare
theorem Inv.call {g':Array GenState}{t':Nat}{d':Drawn}{ch:List Addr}(I:Inv X pins σ H s)(u:Un (frs X.stack) ch H H' s.heap h')(hok:HOk X.prog X.w H' h')(hg:AllBare g')
  (hch:∀ b∈ch,(b∈X.ex \/ X.sZ.heap.objs.size <= b)/\b≠X.env.locals /\ (∀ x c,X.env.cells.lookup x=some c->c≠b)/\∀ p∈X.pn ++ pins,p.1 ≠ b) :
  Inv X pins σ H' { s with heap:=h',gens:=g',drawn:=d',toks:=t' }:=by
 obtain ⟨m,⟨o,es,ep,ho,r⟩,_⟩:=id I.loc;obtain ⟨sl,hL⟩:=u.any ho I.free λz=>(hch _ z).2.1 rfl;exact I.step (ch:=ch) hch (λb o hL hb hc e n=>u.keep b o e n (λz=>(List.mem_cons.mp (I.stkSub b z)).elim hL hb) hc) (λb o _ _ hc e n=>u.any e n hc) (λb o hc e n=>u.free b o e n hc) (λb o hc e=>u.there b o e hc) u.tups u.frzs u.tbls (λm' hm=>by
  obtain ⟨o',es',ep',ho',r'⟩:=hm;rw [ho] at ho';cases ho';exact ⟨_,es',ep',hL,r'⟩) hok hg
theorem Inv.turned {t':Nat}{it:Addr}(I:Inv X pins σ H s)(k:∀ b o,b≠it->s.heap.get? b=some o->h'.get? b=some o)(hn:H it=none)(hL:it≠X.env.locals)
  (h1:it∈X.ex \/ X.sZ.heap.objs.size <= it) (h2:∀ x c,X.env.cells.lookup x=some c->c≠it) (h3:∀ p∈X.pn ++ pins,p.1 ≠ it):Inv X pins σ H { s with heap:=h',toks:=t' }:=by
 have nit:∀ b u,H b=some u->b≠it:=λb u e z=>by rw [z,hn] at e;cases e
 refine I.step (g':=s.gens) (d':=s.drawn) (ch:=[it]) (λb hb=>?_) (λb o _ _ hc e _=>k b o (λz=>hc (by simp [z])) e) (λb o _ _ hc e _=>⟨o.slots,k b o (λz=>hc (by simp [z])) e⟩) (λ_ _ _ _ n=>n)
  (λb o hc e=>⟨o,k b o (λz=>hc (by simp [z])) e⟩) (λ_ _ e=>e) (λ_ _ _ e=>e) (λb ps e=>⟨#[],by rw [e];simp⟩) (λm hm=>?_) (λb u e=>?_) I.bare
 ·have e:b=it:=by simpa using hb
  subst e;exact ⟨h1,hL,h2,h3⟩
 ·obtain ⟨o,es,ep,ho,r⟩:=hm;exact ⟨o,es,ep,k _ o (Ne.symm hL) ho,r⟩
 ·refine (I.hok b u e).stay (λc v hc q=>k c v ?_ q) (λ_ q=>q) λ_ _ q=>q
  rcases hc with z | z
  ·rw [z];exact nit b u e
  ·exact nit c _ z
theorem Inv.tok (I:Inv X pins σ H s)(t:Nat):Inv X pins σ H { s with toks:=t }:=I.un (h':=s.heap) (t':=t) Un.refl I.hok
theorem Inv.kept {t':Nat}(I:Inv X pins σ H s)(k:∀ b u,s.heap.get? b=some u->h'.get? b=some u):Inv X pins σ H { s with heap:=h',toks:=t' }:=I.un (Un.kept k) (I.hok.kept k)
theorem Inv.laid {a:Addr}{o:HO}{t':Nat}(I:Inv X pins σ H s)(k:∀ b u,s.heap.get? b=some u->h'.get? b=some u)(hp:s.heap.objs.size <= a)(new:n8 X.prog X.w (upd H a o) h' a o) :
  Inv X pins σ (upd H a o) { s with heap:=h',toks:=t' }:=I.un (Un.laid k hp (I.hok.fresh hp)) (I.hok.laid k hp new)
theorem Inv.write {x e:Addr}{o:HO}{t':Nat}(I:Inv X pins σ H s)(mu:Mut (H x))(he:e=x \/ H e=some (.own x))(k:∀ b u,b≠e->s.heap.get? b=some u->h'.get? b=some u)(heo:∃ u,h'.get? e=some u)
  (new:n8 X.prog X.w (upd H x o) h' x o):Inv X pins σ (upd H x o) { s with heap:=h',toks:=t' }:=I.un (Un.write mu he k heo) (I.hok.write mu he k heo new)
theorem Inv.weak {σ':List (Option V)}(I:Inv X pins σ H s)(hl:σ'.length=σ.length)(w:∀ (i:Nat) v,σ'[i]? = some (some v)->σ[i]? = some (some v)):Inv X pins σ' H s :=
 ⟨I.ok,I.os,I.bare,I.base,let ⟨m,hn,hl'⟩:=I.loc;⟨m,hn,λi x v e1 e2 e3=>hl' i x v e1 (w i v e2) e3⟩,I.cell,I.free,I.freeC,I.pin,I.hok,hl.trans I.len⟩
theorem Inv.pins_of {pins':List (Addr × Obj)}(I:Inv X pins σ H s)(h:∀ p∈pins',s.heap.get? p.1=some p.2 /\ H p.1=none/\p.1 ≠ X.env.locals /\ p.1 ∉ X.fs /\ ∀ v,p.2.data ≠ .cell v):Inv X pins' σ H s :=
 ⟨I.ok,I.os,I.bare,I.base,I.loc,I.cell,I.free,I.freeC,λp hp=>(List.mem_append.mp hp).elim (λz=>I.pin p (List.mem_append_left _ z)) (h p),I.hok,I.len⟩
theorem a5S {N:List Str}(hN:N.Nodup){i j:Nat}{x:Str}(a:N[i]? = some x)(b:N[j]? = some x):i=j:=by
 obtain ⟨h1,e1⟩:=List.getElem?_eq_some_iff.mp a;obtain ⟨h2,e2⟩:=List.getElem?_eq_some_iff.mp b;exact (List.getElem_inj hN).mp (e1.trans e2.symm)
theorem a0G {M:Model}{A:Around}{E:Value->Shared->Prop}{i:Nat}{x:Str}{v:V}{u:Value}{Q:Unit->Shared->Prop}(I:Inv X pins σ H s)(hN:X.N.Nodup)(hi:X.N[i]? = some x)(hx:Loc X.env.scope x)(r:n4 v u)
  (h:∀ s',Inv X pins (σ.set i (some v)) H s'->(∃ a,Heap.SameBut a s.heap s'.heap /\ (a=X.env.locals \/ X.env.cells.lookup x=some a))->Q () s') (hf:X.fn x=true \/ X.env.scope.names.lookup x=some .local:=by first | exact .inl rfl | exact .inr rfl | assumption):wpAny M A (storeName X.env x u) Q E s:=by
 obtain ⟨m,hn,hl⟩:=id I.loc;have hcls:(X.env.scope.kind == .class || (X.env.scope.kind == .module && X.env.locals != X.env.globals))=false:=by rw [I.ok.kind];rfl
 have hiσ:i < σ.length:=by rw [I.len];exact (List.getElem?_eq_some_iff.mp hi).1
 have cne:=I.cne;have tracked:∀ {a:Addr} {h':Heap},(∃ o,s.heap.get? a=some o/\H a=none)->Heap.SameBut a s.heap h'->HOk X.prog X.w H h':=λ{a h'} ha hs b ob e=>by
  obtain ⟨_,_,hfree⟩:=ha;refine (I.hok b ob e).stay (λc w' hc q=>(hs.2 c ?_).trans q) (λ_ q=>q) λ_ _ q=>q;rintro rfl
  rcases hc with rfl | hc
  ·rw [hfree] at e;cases e
  ·rw [hfree] at hc;cases hc
 rcases hx with hk | hk
 ·refine wpAny_storeName_local hk hn (λh' hn' hs=>?_) hcls;obtain ⟨oL,_,_,hoL,_⟩:=id hn;refine h _ ⟨I.ok,I.os,I.bare,⟨λb o e n hb hx=>?_,λb o e n hb hx=>?_,I.base.free,λb o e hx=>?_,I.base.tups,I.base.frzs,I.base.tbls⟩,⟨_,hn',λj y v' e1 e2 e3=>?_⟩,λy c e=>?_,I.free,I.freeC,λp hp=>?_,tracked ⟨oL,hoL,I.free⟩ hs,by simpa using I.len⟩ ⟨_,hs,.inl rfl⟩
  ·exact (hs.2 b (Nat.ne_of_lt (Nat.lt_of_lt_of_le (Heap.lt_size e) I.ok.above))).trans (I.base.keep b o e n hb hx)
  ·obtain ⟨sl,e1⟩:=I.base.slot b o e n hb hx;exact ⟨sl,(hs.2 b (Nat.ne_of_lt (Nat.lt_of_lt_of_le (Heap.lt_size e) I.ok.above))).trans e1⟩
  ·obtain ⟨o',e1⟩:=I.base.there b o e hx;exact ⟨o',(hs.2 b (Nat.ne_of_lt (Nat.lt_of_lt_of_le (Heap.lt_size e) I.ok.above))).trans e1⟩
  ·by_cases hj:j=i
   ·subst hj;rw [hi] at e1;cases e1;rw [List.getElem?_set_self hiσ] at e2;cases e2;exact ⟨u,r,.inl ⟨hk,by simp⟩⟩
   ·rw [List.getElem?_set_ne (Ne.symm hj)] at e2;obtain ⟨u',r',q⟩:=hl j y v' e1 e2 e3;refine ⟨u',r',?_⟩
    rcases q with ⟨k,e⟩ | ⟨k,c,e,z⟩
    ·refine .inl ⟨k,?_⟩;have:y≠x:=λe=>hj (a5S hN e1 (e ▸ hi))
     simp [this,e]
    ·exact .inr ⟨k,c,e,z.sameBut hs (cne y c e)⟩
  ·obtain ⟨w',z⟩:=I.cell y c e;exact ⟨w',z.sameBut hs (cne y c e)⟩
  ·obtain ⟨e,n,ne,nf,d⟩:=I.pin p hp;exact ⟨(hs.2 p.1 ne).trans e,n,ne,nf,d⟩
 ·have hfn:X.fn x=true:=by
   rcases hf with z | z
   ·exact z
   ·rw [z] at hk;cases hk
  obtain ⟨c,hc⟩:=I.ok.has x (.inl hk);obtain ⟨w',z⟩:=I.cell x c hc;refine wpAny_storeName_cell I.ok.kind hk hc z (λh' hc' hs=>?_);obtain ⟨oc,hoc,hocd⟩:=id z;refine h { s with heap:=h' } ⟨I.ok,I.os,I.bare,⟨λb o e n hb hx=>?_,λb o e n hb hx=>?_,I.base.free,λb o e hx=>?_,I.base.tups,I.base.frzs,I.base.tbls⟩,⟨m,hn.sameBut hs (Ne.symm (cne x c hc)),λj y v' e1 e2 e3=>?_⟩,λy c' e=>?_,I.free,I.freeC,λp hp=>?_,tracked ⟨oc,hoc,I.freeC x c hc⟩ hs,by simpa using I.len⟩ ⟨c,hs,.inr hc⟩
  ·exact (hs.2 b (Nat.ne_of_lt (Nat.lt_of_lt_of_le (Heap.lt_size e) (I.ok.cab x c hfn hc)))).trans (I.base.keep b o e n hb hx)
  ·obtain ⟨sl,e1⟩:=I.base.slot b o e n hb hx;exact ⟨sl,(hs.2 b (Nat.ne_of_lt (Nat.lt_of_lt_of_le (Heap.lt_size e) (I.ok.cab x c hfn hc)))).trans e1⟩
  ·obtain ⟨o',e1⟩:=I.base.there b o e hx;exact ⟨o',(hs.2 b (Nat.ne_of_lt (Nat.lt_of_lt_of_le (Heap.lt_size e) (I.ok.cab x c hfn hc)))).trans e1⟩
  ·by_cases hj:j=i
   ·subst hj;rw [hi] at e1;cases e1;rw [List.getElem?_set_self hiσ] at e2;cases e2;exact ⟨u,r,.inr ⟨.inl hk,c,hc,hc'⟩⟩
   ·rw [List.getElem?_set_ne (Ne.symm hj)] at e2;obtain ⟨u',r',q⟩:=hl j y v' e1 e2 e3;refine ⟨u',r',?_⟩
    rcases q with q | ⟨k,c',e,z'⟩
    ·exact .inl q
    ·refine .inr ⟨k,c',e,z'.sameBut hs ?_⟩;rintro rfl;exact hj (a5S hN e1 (I.ok.inj _ _ _ e hc ▸ hi))
  ·by_cases hcc:c'=c
   ·subst hcc;exact ⟨_,hc'⟩
   ·obtain ⟨w2,z2⟩:=I.cell y c' e;exact ⟨w2,z2.sameBut hs hcc⟩
  ·obtain ⟨e,n,ne,nf,d⟩:=I.pin p hp;refine ⟨(hs.2 p.1 ?_).trans e,n,ne,nf,d⟩;intro q;rw [q,hoc] at e;have q':oc=p.2:=Option.some.inj e;exact d w' (by rw [← q'];exact hocd)
theorem a9x {M:Model}{A:Around}{E:Value->Shared->Prop}{i:Nat}{x:Str}{v:V}{u:Value}{Q:Unit->Shared->Prop}(I:Inv X pins σ H s)(hN:X.N.Nodup)(hi:X.N[i]? = some x)(hx:Loc X.env.scope x)(r:n4 v u)
  (h:∀ s',Inv X pins (σ.set i (some v)) H s'->Q () s') (hf:X.fn x=true \/ X.env.scope.names.lookup x=some .local:=by first | exact .inl rfl | exact .inr rfl | assumption):wpAny M A (storeName X.env x u) Q E s :=
 a0G I hN hi hx r (λs' I' _=>h s' I') hf
theorem Inv.call' {s':Shared}{ch:List Addr}(I:Inv X pins σ H s)(ho:s'.os=s.os)(u:Un (frs X.stack) ch H H' s.heap s'.heap)(hok:HOk X.prog X.w H' s'.heap)(hg:AllBare s'.gens)
  (hch:∀ b∈ch,(b∈X.ex \/ X.sZ.heap.objs.size <= b)/\b≠X.env.locals /\ (∀ x c,X.env.cells.lookup x=some c->c≠b)/\∀ p∈X.pn ++ pins,p.1 ≠ b):Inv X pins σ H' s':=by
 obtain ⟨h',g',d',t',o'⟩:=s';have e:o'=s.os:=ho;subst e;exact I.call (g':=g') (t':=t') (d':=d') u hok hg hch
end
abbrev XK:=Value->Option Addr->Hp->Prop
abbrev St:=List (Option V)
abbrev VK:=V->Hp->Prop
abbrev TE:=St->Hp->VK->Prop
abbrev TT:=St->Hp->(Bool->Hp->Prop)->Prop
abbrev TA:=St->Hp->(List V->Hp->Prop)->Prop
structure a8t where
 nx:St->Hp->Prop
 rt:VK
 bk:St->Hp->Prop:=λ_ _=>False
 ct:St->Hp->Prop:=λ_ _=>False
abbrev TS:=a8t->St->Hp->Prop
def EP (X:Cx)(pins:List (Addr × Obj))(σ:St)(Q:VK)(u:Value)(s':Shared):Prop:=∃ v H',Inv X pins σ H' s'/\n4 v u/\Q v H'
def TP (X:Cx)(pins:List (Addr × Obj))(σ:St)(Q:Bool->Hp->Prop)(b:Bool)(s':Shared):Prop:=∃ H',Inv X pins σ H' s'/\Q b H'
def AP (X:Cx)(pins:List (Addr × Obj))(σ:St)(Q:List V->Hp->Prop)(us:List Value)(s':Shared):Prop:=∃ vs H',Inv X pins σ H' s'/\n0 vs us/\Q vs H'
def SP (X:Cx)(pins:List (Addr × Obj))(D:a8t)(f:Flow)(s':Shared):Prop :=
 match f with
 | .next=>∃ σ' H',Inv X pins σ' H' s'/\D.nx σ' H'
 | .brk=>∃ σ' H',Inv X pins σ' H' s'/\D.bk σ' H'
 | .cont=>∃ σ' H',Inv X pins σ' H' s'/\D.ct σ' H'
 | .ret u=>∃ v σ' H',Inv X pins σ' H' s'/\n4 v u/\D.rt v H'
def PE (X:Cx)(e:Expr)(t:TE):Prop :=
 ∀ (pins:List (Addr × Obj)) (s:Shared) (σ:St) (H:Hp) (Q:VK),Inv X pins σ H s->t σ H Q->wpAny (model X.prog X.w) X.A (eval e X.env) (EP X pins σ Q) X.xe s
def PT (X:Cx)(e:Expr)(t:TT):Prop :=
 ∀ (pins:List (Addr × Obj)) (s:Shared) (σ:St) (H:Hp) (Q:Bool->Hp->Prop),Inv X pins σ H s->t σ H Q->wpAny (model X.prog X.w) X.A (isTrue e X.env (eval e X.env)) (TP X pins σ Q) X.xe s
def PW (X:Cx)(e:Expr)(t:TT):Prop :=
 ∀ (whole:Sem Value) (pins:List (Addr × Obj)) (s:Shared) (σ:St) (H:Hp) (Q:Bool->Hp->Prop),Inv X pins σ H s->t σ H Q->wpAny (model X.prog X.w) X.A (isTrue e X.env whole) (TP X pins σ Q) X.xe s
theorem PW.pt {X:Cx}{e:Expr}{t:TT}(h:PW X e t):PT X e t:=h _
def PA (X:Cx)(es:List Expr)(t:TA):Prop :=
 ∀ (pos:Pos) (pins:List (Addr × Obj)) (s:Shared) (σ:St) (H:Hp) (Q:List V->Hp->Prop),Inv X pins σ H s->t σ H Q->wpAny (model X.prog X.w) X.A (spliced (backTo pos (starEach es X.env))) (AP X pins σ Q) X.xe s
def PS (X:Cx)(st:Stmt)(t:TS):Prop :=
 ∀ (pins:List (Addr × Obj)) (s:Shared) (σ:St) (H:Hp) (D:a8t),Inv X pins σ H s->t D σ H->wpAny (model X.prog X.w) X.A (exec st X.env) (SP X pins D) X.xe s
def PSs (X:Cx)(st:List Stmt)(t:TS):Prop :=
 ∀ (pins:List (Addr × Obj)) (s:Shared) (σ:St) (H:Hp) (D:a8t),Inv X pins σ H s->t D σ H->wpAny (model X.prog X.w) X.A (execs st X.env) (SP X pins D) X.xe s
theorem thn {α:Type}{t:Sem α}{Q Q':α->Shared->Prop}{M:Model}{A:Around}{E:Value->Shared->Prop}{s:Shared}(h:wpAny M A t Q E s)(hQ:∀ a s,Q a s->Q' a s):wpAny M A t Q' E s:=wpAny_mono h hQ λ_ _ x=>x
end L2
namespace L2
open PySem PySem.Spec PyProof.Rows
section
variable {X:Cx}
theorem bin {a b:Expr}{ta tb:TE}(ha:PE X a ta)(hb:PE X b tb){pins:List (Addr × Obj)}{s:Shared}{σ:St}{H:Hp}{R:V->V->Hp->Prop}(I:Inv X pins σ H s)(h:ta σ H λx H1=>tb σ H1 λy H2=>R x y H2)
  {α:Type} {Q:α->Shared->Prop} {f:Value->Value->Sem α}
  (hf:∀ v u s2 x y H2,Inv X pins σ H2 s2->n4 x v->n4 y u->R x y H2->wpAny (model X.prog X.w) X.A (f v u) Q X.xe s2) :
  wpAny (model X.prog X.w) X.A (eval a X.env) (λv s₁=>wpAny (model X.prog X.w) X.A (eval b X.env) (λu s₂=>wpAny (model X.prog X.w) X.A (f v u) Q X.xe s₂) X.xe s₁) X.xe s:=by
 refine thn (ha pins s σ H _ I h) λv s1 ⟨x,H1,I1,r1,q1⟩=>?_;refine thn (hb pins s1 σ H1 _ I1 q1) λu s2 ⟨y,H2,I2,r2,q2⟩=>?_;exact hf v u s2 x y H2 I2 r1 r2 q2
def b8Q (i:Nat):TE:=fun σ H Q=>∃ v,σ[i]? = some (some v)/\Q v H
def tC (v:V):TE:=λ_ H Q=>Q v H
theorem b3L {i:Nat} {x:Str} {pos:Pos} (hN:X.N[i]? = some x) (hv:Vis X.env.scope x) (hd:(x == ("__debug__" : Str))=false:=by decide) (hcd:(x == ("__classdict__" : Str))=false:=by decide):PE X (.Name x pos) (b8Q i):=by
 intro pins s σ H Q I h;obtain ⟨v,e,h⟩:=h;obtain ⟨m,hn,hl⟩:=I.loc;obtain ⟨u,r,l⟩:=hl i x v hN e hv;have fin:EP X pins σ Q u s:=⟨v,H,I,r,h⟩
 rcases l with ⟨hk,hm⟩ | ⟨hk,c,hc,hcell⟩
 ·exact wpAny_Name (wpAny_loadName_local I.ok.kind hk hn hm fin) hd
 ·rcases hk with hk | hk
  ·exact wpAny_Name (wpAny_loadName_cell I.ok.kind hk hc hcell fin) hd
  ·exact wpAny_Name (wpAny_loadName_free I.ok.kind hk hc hcell fin hcd) hd
theorem b6 {i j pos}:PE X (.Constant (.int i) j pos) (tC (.int i)):=λ_ _ _ H _ I h=>wpAny_Constant_int ⟨.int i,H,I.tok _,⟨_,rfl⟩,h⟩
theorem a7h {b j pos}:PE X (.Constant (.bool b) j pos) (tC (.bl b)):=λ_ _ _ H _ I h=>Constant_bool ⟨.bl b,H,I,rfl,h⟩
theorem P6 {j pos}:PE X (.Constant .none j pos) (tC .non):=λ_ _ _ H _ I h=>Constant_none ⟨.non,H,I,rfl,h⟩
theorem B6 {x j pos}:PE X (.Constant (.str x) j pos) (tC (.str x)):=λ_ _ _ H _ I h=>Calls.Constant_str ⟨.str x,H,I.tok _,⟨_,rfl⟩,h⟩
def Gl (X:Cx)(x:Str):Prop:=X.env.kindOf x=some .globalImplicit
theorem b5f {E:Value->Shared->Prop}{pins:List (Addr × Obj)}{s:Shared}{σ:St}{H:Hp}{x:Str}{u:Value}{pos:Pos}{Q:Value->Shared->Prop}(I:Inv X pins σ H s)(hg:Gl X x)(hm:X.mg x=some u)(h:Q u s)
  (hd:(x == ("__debug__" : Str))=false:=by decide):wpAny (model X.prog X.w) X.A (eval (.Name x pos) X.env) Q E s :=
 Calls.Name_function_global I.ok.kind hg (Calls.loadGlobal_global (by rw [I.ok.glob];exact I.mod.glob.keeps I.bk) hm h) hd
theorem a8m {E:Value->Shared->Prop}{pins:List (Addr × Obj)}{s:Shared}{σ:St}{H:Hp}{x:Str}{u:Value}{pos:Pos}{Q:Value->Shared->Prop}(I:Inv X pins σ H s)(hg:Gl X x)(hm:X.mg x=none)(hv:bootBuiltins x=some u)(h:Q u s)
  (hn:x ≠ "__name__":=by decide) (hd:(x == ("__debug__" : Str))=false:=by decide):wpAny (model X.prog X.w) X.A (eval (.Name x pos) X.env) Q E s:=by
 obtain ⟨mb,h1,h2⟩:=I.mod.blt;exact Calls.Name_function_global I.ok.kind hg (Calls.loadGlobal_builtin (by rw [I.ok.glob];exact I.mod.glob.keeps I.bk) hm (by rw [I.ok.blt];exact h1.keeps I.bk) ((h2 x hn).trans hv) h) hd
theorem b5e {x:Str} {v:V} {u:Value} {pos:Pos} (hg:Gl X x) (hm:X.mg x=none) (hv:bootBuiltins x=some u) (r:n4 v u) (hn:x ≠ "__name__":=by decide) (hd:(x == ("__debug__" : Str))=false:=by decide):PE X (.Name x pos) (tC v) :=
 λ_ _ _ H _ I h=>a8m I hg hm hv ⟨v,H,I,r,h⟩ hn hd
variable {a b:Expr}{ta tb:TE}{pos:Pos}
def PC (X:Cx)(op:CmpOp)(a b:Expr)(t:TE):Prop :=
 ∀ (pins:List (Addr × Obj)) (s:Shared) (σ:St) (H:Hp) (Q:VK),Inv X pins σ H s->t σ H Q ->
  wpAny (model X.prog X.w) X.A (eval a X.env) (λv s₁=>wpAny (model X.prog X.w) X.A (eval b X.env) (λu s₂=>wpAny (model X.prog X.w) X.A (compareOp op v u) (EP X pins σ Q) X.xe s₂) X.xe s₁) X.xe s
def tB (t:TE):TT:=fun σ H Q=>t σ H λx H1=>∃ c,x = .bl c/\Q c H1
theorem b9K {op:CmpOp}{t:TE}(h:PC X op a b t)(h1:behindInMarks op b=false:=by first | exact nobehind _ (by decide) (by decide) | rfl):PT X (.Compare a [op] [b] pos) (tB t):=by
 intro pins s σ H Q I hw;refine wpAny_isTrue_Compare1 (thn (h pins s σ H _ I hw) λv s1 h1=>thn h1 λu s2 h2=>thn h2 λc s3 ⟨x,H1,I1,r1,q1⟩=>?_) h1;obtain ⟨d,rfl,q⟩:=q1;cases r1;exact wpAny_truthy_bool ⟨H1,I1,q⟩
theorem a4L {e:Expr}{t:TE}(h:PE X e t)(he:∀ whole,isTrue e X.env whole=(do let v ← whole;standAt e.pos;holding [v] (truthy v)):=by intro _;rfl):PT X e (tB t):=by
 intro pins s σ H Q I hw;refine isTrue_plain (thn (h pins s σ H _ I hw) λv s1 ⟨x,H1,I1,r1,q1⟩=>?_) (he _);obtain ⟨d,rfl,q⟩:=q1;cases r1;exact wpAny_truthy_bool ⟨H1,I1,q⟩
variable {tA tB':TT}{rest:List Expr}
def b8V (t u:TT):TT:=fun σ H Q=>t σ H λc H1=>if c=true then u σ H1 Q else Q false H1
def tOr (t u:TT):TT:=fun σ H Q=>t σ H λc H1=>if c=true then Q true H1 else u σ H1 Q
def b2V (t:TT):TT:=fun σ H Q=>t σ H λc H1=>Q (!c) H1
theorem a0x (ha:PT X a tA):PW X (.BoolOp .And [a] pos) tA:=by
 intro wh pins s σ H Q I h;refine isTrue_and (thn (ha pins s σ H Q I h) λc s1 e=>?_);cases c with
 | true=>exact isTrue_and_nil e
 | false=>exact e
theorem b1s (ha:PT X a tA):PW X (.BoolOp .Or [a] pos) tA:=by
 intro wh pins s σ H Q I h;refine isTrue_or (thn (ha pins s σ H Q I h) λc s1 e=>?_);cases c with
 | false=>exact isTrue_or_nil e
 | true=>exact e
theorem a3L (ha:PT X a tA)(hb:PW X (.BoolOp .And (b :: rest) pos) tB'):PW X (.BoolOp .And (a :: b :: rest) pos) (b8V tA tB'):=by
 intro wh pins s σ H Q I h;refine isTrue_and (thn (ha pins s σ H _ I h) λc s1 ⟨H1,I1,q1⟩=>?_);cases c with
 | true=>exact hb wh pins s1 σ H1 Q I1 q1
 | false=>exact ⟨H1,I1,q1⟩
theorem b3I (ha:PT X a tA)(hb:PW X (.BoolOp .Or (b :: rest) pos) tB'):PW X (.BoolOp .Or (a :: b :: rest) pos) (tOr tA tB'):=by
 intro wh pins s σ H Q I h;refine isTrue_or (thn (ha pins s σ H _ I h) λc s1 ⟨H1,I1,q1⟩=>?_);cases c with
 | true=>exact ⟨H1,I1,q1⟩
 | false=>exact hb wh pins s1 σ H1 Q I1 q1
theorem b8K (ha:PT X a tA):PT X (.UnaryOp .Not a pos) (b2V tA):=by
 intro pins s σ H Q I h;exact isTrue_not (ha pins s σ H (λc H1=>Q (!c) H1) I h)
def b7R (ta tb:TE):TE:=fun σ H Q=>ta σ H λx H1=>∃ c,x = .bl c/\if c=true then tb σ H1 Q else Q (.bl false) H1
theorem b4L {op}{t:TE}(h:PE X a t):PE X (.BoolOp op [a] pos) t:=λpins s σ H Q I hw=>BoolOp_one (h pins s σ H Q I hw)
theorem b8L (ha:PE X a ta)(hb:PE X (.BoolOp .And (b :: rest) pos) tb):PE X (.BoolOp .And (a :: b :: rest) pos) (b7R ta tb):=by
 intro pins s σ H Q I h;refine BoolOp_and (thn (ha pins s σ H _ I h) λv s1 ⟨x,H1,I1,r1,q1⟩=>?_);obtain ⟨c,rfl,q1⟩:=q1;cases r1;refine wpAny_truthy_bool ?_;cases c with
 | true=>exact hb pins s1 σ H1 Q I1 q1
 | false=>exact ⟨.bl false,H1,I1,rfl,q1⟩
end
end L2
namespace L2
open PySem PySem.Spec PyProof.Rows
def SqL (K:PySem.W.Frag)(H:Hp)(a:Addr)(xs:List V):Prop :=
 Rd H a (.lst xs) \/
  ∃ (o:Obj) (its:Array Value) (n:Nat),K.lookup a=some o/\o.cls = .type "list"/\o.dict=none/\o.data = .seq its n/\its.size <= sizeLine/\n0 xs its.toList
def SqT (K:PySem.W.Frag)(H:Hp)(a:Addr)(xs:List V):Prop :=
 Rd H a (.tup xs) \/
  ∃ (o:Obj) (its:Array Value) (n:Nat),K.lookup a=some o/\o.cls = .type "tuple"/\o.data = .seq its n/\its.size <= sizeLine/\n0 xs its.toList
def b0X:Value->Option V
 | .none=>some .non
 | .bool b=>some (.bl b)
 | .int i _=>some (.int i)
 | .str x _=>some (.str x)
 | .bytes b _=>some (.byt b)
 | .float b _=>some (.flt b)
 | .ref a=>some (.ref a)
 | .type n=>some (.ty n)
 | _=>none
theorem n4.abs {x:V}{u:Value}(r:n4 x u):b0X u=some x:=by
 cases x with
 | non=>cases r;rfl
 | bl _=>cases r;rfl
 | int _=>obtain ⟨t,rfl⟩:=r;rfl
 | str _=>obtain ⟨t,rfl⟩:=r;rfl
 | byt _=>obtain ⟨t,rfl⟩:=r;rfl
 | flt _=>obtain ⟨t,rfl⟩:=r;rfl
 | ref _=>cases r;rfl
 | ty _=>cases r;rfl
theorem n4.inj {x y:V}{u:Value}(r:n4 x u)(q:n4 y u):x=y:=Option.some.inj (r.abs.symm.trans q.abs)
theorem n0.inj:∀ {xs ys:List V} {us:List Value},n0 xs us->n0 ys us->xs=ys
 | _,_,_,.nil,.nil=>rfl
 | _,_,_,.cons r t,.cons r' t'=>by rw [r.inj r',n0.inj t t']
section
variable {X:Cx}{pins:List (Addr × Obj)}{σ:St}{H:Hp}{s:Shared}{a:Addr}{xs ys:List V}
theorem SqL.of {K:PySem.W.Frag}(h:H a=some (.lst xs)):SqL K H a xs:=.inl (.inl h)
theorem SqT.of {K:PySem.W.Frag}(h:H a=some (.tup xs)):SqT K H a xs:=.inl (.inl h)
theorem Inv.list (I:Inv X pins σ H s)(h:SqL X.K H a xs):∃ its:List Value,n0 xs its/\PlainL s.heap a its.toArray /\ xs.length <= sizeLine:=by
 rcases h with h | ⟨o,its,n,hk,hc,hd,hs,hz,r⟩
 ·obtain ⟨z,its,n,r,e⟩:=h.ok I.hok;exact ⟨its,r,⟨_,n,e,rfl,rfl,rfl⟩,z⟩
 ·refine ⟨its.toList,r,⟨o,n,I.kIn a o hk,hc,hd,by simpa using hs⟩,?_⟩;have e:=r.length;simp only [Array.length_toList] at e
  omega
theorem Inv.tuple (I:Inv X pins σ H s)(h:SqT X.K H a xs):∃ its:List Value,n0 xs its/\IsTup s.heap a its.toArray /\ xs.length <= sizeLine:=by
 rcases h with h | ⟨o,its,n,hk,hc,hs,hz,r⟩
 ·obtain ⟨z,its,r,p⟩:=h.ok I.hok;exact ⟨its,r,p,z⟩
 ·refine ⟨its.toList,r,⟨o,I.kIn a o hk,hc,n,by simpa using hs⟩,?_⟩;have e:=r.length;simp only [Array.length_toList] at e
  omega
theorem Inv.list_inj (I:Inv X pins σ H s)(h:SqL X.K H a xs)(h':SqL X.K H a ys):xs=ys:=by
 obtain ⟨its,r,⟨o,n,e,_,_,d⟩,_⟩:=I.list h;obtain ⟨its',r',⟨o',n',e',_,_,d'⟩,_⟩:=I.list h';rw [e] at e';cases e';rw [d] at d'
 injection d' with d1 _
 have:its=its':=by simpa using congrArg Array.toList d1
 subst this;exact r.inj r'
theorem Inv.tuple_inj (I:Inv X pins σ H s)(h:SqT X.K H a xs)(h':SqT X.K H a ys):xs=ys:=by
 obtain ⟨its,r,⟨o,e,_,n,d⟩,_⟩:=I.tuple h;obtain ⟨its',r',⟨o',e',_,n',d'⟩,_⟩:=I.tuple h';rw [e] at e';cases e';rw [d] at d'
 injection d' with d1 _
 have:its=its':=by simpa using congrArg Array.toList d1
 subst this;exact r.inj r'
end
abbrev Cx.wish (X:Cx)(E:Value->Shared->Prop):Cx:={ X with xe:=E }
abbrev Cx.nox (X:Cx):Cx:=X.wish λ_ _=>False
theorem Cx.Ok.wish {X:Cx}(ok:X.Ok)(E:Value->Shared->Prop):(X.wish E).Ok :=
 ⟨ok.mod,ok.kind,ok.glob,ok.blt,ok.above,ok.inj,ok.has,ok.cab,ok.hd,ok.frames,ok.stk,ok.exf,ok.bs,ok.bsz,ok.noex,ok.exfs,ok.funs,ok.frf⟩
theorem Cx.Ok.unwish {X:Cx}{E:Value->Shared->Prop}(ok:(X.wish E).Ok):X.Ok :=
 ⟨ok.mod,ok.kind,ok.glob,ok.blt,ok.above,ok.inj,ok.has,ok.cab,ok.hd,ok.frames,ok.stk,ok.exf,ok.bs,ok.bsz,ok.noex,ok.exfs,ok.funs,ok.frf⟩
section
variable {X:Cx}{pins:List (Addr × Obj)}{σ:St}{H:Hp}{s:Shared}{E:Value->Shared->Prop}
theorem Inv.wish (I:Inv X pins σ H s)(E:Value->Shared->Prop):Inv (X.wish E) pins σ H s:=⟨I.ok.wish E,I.os,I.bare,I.base,I.loc,I.cell,I.free,I.freeC,I.pin,I.hok,I.len⟩
theorem Inv.unwish (I:Inv (X.wish E) pins σ H s):Inv X pins σ H s:=⟨I.ok.unwish,I.os,I.bare,I.base,I.loc,I.cell,I.free,I.freeC,I.pin,I.hok,I.len⟩
theorem SP.unwish {D:a8t}{f:Flow}{s':Shared}(h:SP (X.wish E) pins D f s'):SP X pins D f s':=by
 cases f with
 | next=>obtain ⟨σ',H',I,q⟩:=h;exact ⟨σ',H',I.unwish,q⟩
 | brk=>obtain ⟨σ',H',I,q⟩:=h;exact ⟨σ',H',I.unwish,q⟩
 | cont=>obtain ⟨σ',H',I,q⟩:=h;exact ⟨σ',H',I.unwish,q⟩
 | ret u=>obtain ⟨v,σ',H',I,r,q⟩:=h;exact ⟨v,σ',H',I.unwish,r,q⟩
theorem PSs.nox {st:List Stmt}{t:TS}(h:PSs X.nox st t):PSs X st t:=λpins s σ H D I hw =>
 wpAny_mono (h pins s σ H D (I.wish _) hw) (λ_ _ q=>q.unwish) λ_ _ z=>False.elim z
end
section
variable {X:Cx}{st:Stmt}{rest:List Stmt}{t u:TS}{e:Expr}{te:TE}{pos:Pos}
def a9F:TS:=λD σ H=>D.nx σ H
def a0Q (t u:TS):TS:=λD σ H=>t { D with nx:=u D } σ H
theorem j5:PSs X [] a9F:=λ_ _ σ H _ I h=>wpAny_execs_nil ⟨σ,H,I,h⟩
theorem a9 (h1:PS X st t)(h2:PSs X rest u):PSs X (st :: rest) (a0Q t u):=by
 intro pins s σ H D I h;refine wpAny_execs_cons (thn (h1 pins s σ H { D with nx:=u D } I h) λf s1 q=>?_);cases f with
 | next =>
  obtain ⟨σ',H',I',q⟩:=q;exact h2 pins s1 σ' H' D I' q
 | ret v=>exact q
 | brk=>exact q
 | cont=>exact q
theorem b9 (h1:PS X st t):PSs X [st] t:=by
 intro pins s σ H D I h;refine wpAny_execs_cons (thn (h1 pins s σ H D I h) λf s1 q=>?_);cases f with
 | next=>exact wpAny_execs_nil q
 | ret v=>exact q
 | brk=>exact q
 | cont=>exact q
theorem Inv.quiet {pins:List (Addr × Obj)}{σ:St}{H:Hp}{s:Shared}(I:Inv X pins σ H s):interactive X.env=false:=by simp [interactive,I.ok.kind]
def b3R (te:TE):TS:=λD σ H=>te σ H λ_ H1=>D.nx σ H1
theorem x9 (he:PE X e te)(hs:swapsWith e none pos.line X.env=pure false:=by rfl):PS X (.Expr e pos) (b3R te):=by
 intro pins s σ H D I h;exact wpAny_Expr_any (thn (he pins s σ H _ I h) λv s1 ⟨x,H1,I1,r1,q1⟩=>⟨σ,H1,I1,q1⟩) I.quiet hs
def b1V (te:TE):TS:=λD σ H=>te σ H D.rt
theorem d8 (he:PE X e te):PS X (.Return (some e) pos) (b1V te):=by
 intro pins s σ H D I h;exact wpAny_Return_some (thn (he pins s σ H _ I h) λv s1 ⟨x,H1,I1,r1,q1⟩=>⟨x,σ,H1,I1,r1,q1⟩)
def b3J (c:TT)(t u:TS):TS:=λD σ H=>c σ H λb H1=>if b=true then t D σ H1 else u D σ H1
theorem p4 {c:Expr}{a b:List Stmt}{tc:TT}(hc:PT X c tc)(ha:PSs X a t)(hb:PSs X b u):PS X (.If c a b pos) (b3J tc t u):=by
 intro pins s σ H D I h;refine wpAny_If (thn (hc pins s σ H _ I h) λd s1 ⟨H1,I1,q1⟩=>?_);cases d with
 | true=>exact ha pins s1 σ H1 D I1 q1
 | false=>exact hb pins s1 σ H1 D I1 q1
def b2J:TS:=λ_ _ _=>False
theorem a5z:PS X st b2J:=λ_ _ _ _ _ _ h=>h.elim
end
abbrev TG:=V->St->Hp->(St->Hp->Prop)->Prop
abbrev TGs:=List V->St->Hp->(St->Hp->Prop)->Prop
def PG (X:Cx)(target:Expr)(t:TG):Prop :=
 ∀ (pins:List (Addr × Obj)) (s:Shared) (σ:St) (H:Hp) (v:V) (u:Value) (Q:St->Hp->Prop),Inv X pins σ H s->n4 v u->t v σ H Q ->
  wpAny (model X.prog X.w) X.A (assign target X.env u) (λ_ s'=>∃ σ' H',Inv X pins σ' H' s'/\Q σ' H') X.xe s
def PGs (X:Cx)(ts:List Expr)(t:TGs):Prop :=
 ∀ (pins:List (Addr × Obj)) (s:Shared) (σ:St) (H:Hp) (vs:List V) (us:List Value) (Q:St->Hp->Prop),Inv X pins σ H s->n0 vs us->t vs σ H Q ->
  wpAny (model X.prog X.w) X.A (assignInOrder ((assignEach ts X.env).map (·.2)) us) (λ_ s'=>∃ σ' H',Inv X pins σ' H' s'/\Q σ' H') X.xe s
abbrev b9P:=V->V->V->Hp->(Hp->Prop)->Prop
def b8U (X:Cx)(t:b9P):Prop :=
 ∀ (pins:List (Addr × Obj)) (s:Shared) (σ:St) (H:Hp) (o i v:V) (ov iv u:Value) (Q:Hp->Prop),Inv X pins σ H s->n4 o ov->n4 i iv->n4 v u->t o i v H Q ->
  wpAny (model X.prog X.w) X.A (setItem ov iv u) (λ_ s'=>∃ H',Inv X pins σ H' s'/\Q H') X.xe s
abbrev TIp:=V->V->Hp->VK->Prop
def PIp (X:Cx)(op:Operator)(t:TIp):Prop :=
 ∀ (pins:List (Addr × Obj)) (s:Shared) (σ:St) (H:Hp) (x y:V) (v u:Value) (Q:VK),Inv X pins σ H s->n4 x v->n4 y u->t x y H Q ->
  wpAny (model X.prog X.w) X.A (inplaceOp op v u) (EP X pins σ Q) X.xe s
section
variable {X:Cx}{pos:Pos}
def F4 (i:Nat):TG:=λv σ H Q=>Q (σ.set i (some v)) H
theorem i7 {i:Nat}{x:Str}(hN:X.N.Nodup)(hi:X.N[i]? = some x)(hx:Loc X.env.scope x)(hf:X.fn x=true \/ X.env.scope.names.lookup x=some .local:=by first | exact .inl rfl | exact .inr rfl | assumption):PG X (.Name x pos) (F4 i):=by
 intro pins s σ H v u Q I r h;exact wpAny_assign_Name (a9x I hN hi hx r (λs' I'=>⟨_,H,I',h⟩) hf)
def b8W:TGs:=λvs σ H Q=>vs=[]/\Q σ H
def b4U (t:TG)(u:TGs):TGs:=λvs σ H Q=>∃ v r,vs=v :: r/\t v σ H fun σ' H'=>u r σ' H' Q
theorem R4:PGs X [] b8W:=by
 intro pins s σ H vs us Q I r h;obtain ⟨e,h⟩:=h;subst e;cases r;exact assignInOrder_nil ⟨σ,H,I,h⟩
theorem o9 {e:Expr}{es:List Expr}{t:TG}{u:TGs}(h1:PG X e t)(h2:PGs X es u)
  (hs:(assignEach (e :: es) X.env).map (·.2)=assign e X.env :: (assignEach es X.env).map (·.2):=by rfl):PGs X (e :: es) (b4U t u):=by
 intro pins s σ H vs us Q I r h;obtain ⟨v,vr,e1,h⟩:=h;subst e1;cases r with
 | cons r rr =>
  rw [hs];refine assignInOrder_cons (thn (h1 pins s σ H _ _ _ I r h) λ_ s1 ⟨σ1,H1,I1,q1⟩=>?_);exact h2 pins s1 σ1 H1 _ _ Q I1 rr q1
def b3U (K:PySem.W.Frag)(n:Nat)(t:TGs):TG:=λv σ H Q=>∃ a xs,v = .ref a/\SqT K H a xs/\xs.length=n/\t xs σ H Q
theorem b2L {es:List Expr}{k:Nat}{t:TGs}{n:Nat}(hc:X.calm=true)(h:PGs X es t)
  (hn:(assignEach es X.env).length=n:=by rfl) (hst:(assignEach es X.env).findIdx? (·.1)=none:=by rfl):PG X (.Tuple es k pos) (b3U X.K n t):=by
 intro pins s σ H v u Q I r hw;obtain ⟨a,xs,e1,hq,hl,hw⟩:=hw;subst e1;cases r;obtain ⟨its,rv,ht,hz⟩:=I.tuple hq;refine assign_Tuple_tuple (I.ok.hd hc) ht (by simp [hn,← hl,rv.length]) hst λh' hx=>?_;have I1:Inv X pins σ H { s with heap:=h' }:=I.kept (t':=s.toks) λb o e=>hx b o (Nat.ne_of_lt (Heap.lt_size e)) e;exact h pins _ σ H xs _ Q I1 (by simpa using rv) hw
def b7W (to ti:TE)(t:b9P):TG:=λv σ H Q=>to σ H λo H1=>ti σ H1 λi H2=>t o i v H2 λH3=>Q σ H3
theorem a4Z {o i:Expr}{to ti:TE}{t:b9P}(ho:PE X o to)(hi:PE X i ti)(hs:b8U X t)
  (ha:∀ v,assign (.Subscript o i pos) X.env v=(do
   let ov ← holding [v] (eval o X.env)
   let iv ← holding [v,ov] (eval i X.env)
   standAt pos
   holding [v,ov,iv] (setItem ov iv v)
   release [v,ov,iv] []):=by intro _;rfl):PG X (.Subscript o i pos) (b7W to ti t):=by
 intro pins s σ H v u Q I r h;rw [ha];refine wpAny_bind (wpAny_holding (thn (ho pins s σ H _ I h) λov s1 ⟨x,H1,I1,r1,q1⟩=>?_));refine wpAny_bind (wpAny_holding (thn (hi pins s1 σ H1 _ I1 q1) λiv s2 ⟨y,H2,I2,r2,q2⟩=>?_));refine wpAny_bind (wpAny_standAt (wpAny_bind (wpAny_holding (thn (hs pins s2 σ H2 x y v ov iv u _ I2 r1 r2 r q2) λ_ s3 ⟨H3,I3,q3⟩=>?_))));exact wpAny_release ⟨σ,H3,I3,q3⟩
def b6R (te:TE)(g:TG):TS:=λD σ H=>te σ H λx H1=>g x σ H1 D.nx
theorem a1s {tg e:Expr}{te:TE}{g:TG}(he:PE X e te)(hg:PG X tg g)(hs:swapsWithSole [tg] e pos.line X.env=pure false:=by rfl)(hw:swappedStores [tg] e X.env=pure none:=by rfl)
  (h1:(assignEach [tg] X.env).map (·.2)=[assign tg X.env]:=by rfl):PS X (.Assign [tg] e pos) (b6R te g):=by
 intro pins s σ H D I h;refine wpAny_Assign_stores (thn (he pins s σ H _ I h) λv s1 ⟨x,H1,I1,r1,q1⟩=>?_) hs hw;rw [h1];exact thn (hg pins s1 σ H1 x v _ I1 r1 q1) λ_ s2 q=>q
theorem e9 {i:Nat}{x:Str}{e:Expr}{te:TE}{pos':Pos}(hN:X.N.Nodup)(hi:X.N[i]? = some x)(hx:Loc X.env.scope x)(he:PE X e te)(hs:swapsWith e (some (.Name x pos')) pos.line X.env=pure false:=by rfl)(hf:X.fn x=true \/ X.env.scope.names.lookup x=some .local:=by first | exact .inl rfl | exact .inr rfl | assumption) :
  PS X (.Assign [.Name x pos'] e pos) (b6R te (F4 i)):=by
 intro pins s σ H D I h;refine wpAny_Assign_Name (thn (he pins s σ H _ I h) λv s1 ⟨y,H1,I1,r1,q1⟩=>?_) hs;exact a9x I1 hN hi hx r1 (λs2 I2=>⟨_,H1,I2,q1⟩) hf
def b7V (i:Nat)(te:TE)(ti:TIp):TS:=λD σ H=>∃ x,σ[i]? = some (some x)/\te σ H λy H1=>ti x y H1 λz H2=>D.nx (σ.set i (some z)) H2
theorem a6z {i:Nat}{x:Str}{e:Expr}{te:TE}{op:Operator}{ti:TIp}{pos':Pos}(hN:X.N.Nodup)(hi:X.N[i]? = some x)(hx:Loc X.env.scope x)(he:PE X e te)(ho:PIp X op ti)(hf:X.fn x=true \/ X.env.scope.names.lookup x=some .local:=by first | exact .inl rfl | exact .inr rfl | assumption) :
  PS X (.AugAssign (.Name x pos') op e pos) (b7V i te ti):=by
 intro pins s σ H D I h;obtain ⟨v,e1,h⟩:=h;obtain ⟨m,hn,hl⟩:=I.loc;have vis:Vis X.env.scope x:=by rcases hx with k | k;exact .inl k;exact .inr (.inl k)
 obtain ⟨u,r,l⟩:=hl i x v hi e1 vis;refine wpAny_AugAssign_Name ?_;have go:wpAny (model X.prog X.w) X.A (eval e X.env) (λw s₂=>wpAny (model X.prog X.w) X.A (inplaceOp op u w) (λr s₃=>wpAny (model X.prog X.w) X.A (storeName X.env x r) (λ_=>SP X pins D .next) X.xe s₃) X.xe s₂) X.xe s:=by
  refine thn (he pins s σ H _ I h) λw s1 ⟨y,H1,I1,r1,q1⟩=>?_;refine thn (ho pins s1 σ H1 v y u w _ I1 r r1 q1) λz s2 ⟨zv,H2,I2,r2,q2⟩=>?_;exact a9x I2 hN hi hx r2 (λs3 I3=>⟨_,H2,I3,q2⟩) hf
 rcases l with ⟨hk,hm⟩ | ⟨hk,c,hc,hcell⟩
 ·exact wpAny_loadName_local I.ok.kind hk hn hm go
 ·rcases hk with hk | hk
  ·exact wpAny_loadName_cell I.ok.kind hk hc hcell go
  ·rcases hx with k | k
   ·have:X.env.scope.names.lookup x=some .free:=hk;rw [k] at this;cases this
   ·have:X.env.scope.names.lookup x=some .free:=hk;rw [k] at this;cases this
def ipI (f:Int->Int->Int):TIp:=λx y H Q=>∃ i j,x = .int i/\y = .int j/\Q (.int (f i j)) H
theorem a6A:PIp X .Add (ipI λi j=>i + j):=by
 intro pins s σ H x y v u Q I r1 r2 h;obtain ⟨i,j,e1,e2,q⟩:=h;subst e1;subst e2;obtain ⟨t,rfl⟩:=r1;obtain ⟨t',rfl⟩:=r2;exact iadd_int ⟨.int _,H,I.tok _,⟨_,rfl⟩,q⟩
theorem b8u:PIp X .Sub (ipI λi j=>i - j):=by
 intro pins s σ H x y v u Q I r1 r2 h;obtain ⟨i,j,e1,e2,q⟩:=h;subst e1;subst e2;obtain ⟨t,rfl⟩:=r1;obtain ⟨t',rfl⟩:=r2;exact isub_int ⟨.int _,H,I.tok _,⟨_,rfl⟩,q⟩
end
structure It where
 go:Nat->Hp->Prop
 yld:Nat->Hp->V->Hp->Prop
 stop:Nat->Hp->Prop
def a0D (X:Cx)(pins:List (Addr × Obj))(H:Hp)(b:Addr):Prop :=
 H b=none/\b≠X.env.locals /\ b ∉ X.fs /\ (b∈X.ex \/ X.sZ.heap.objs.size <= b)/\(∀ x c,X.env.cells.lookup x=some c->c≠b)/\∀ p∈X.pn ++ pins,p.1 ≠ b
theorem Inv.fpOk {X:Cx}{pins:List (Addr × Obj)}{σ:St}{H H':Hp}{s:Shared}{b:Addr}(I:Inv X pins σ H s)(hb:s.heap.objs.size <= b)(hn:H' b=none):a0D X pins H' b:=by
 refine ⟨hn,Nat.ne_of_gt (Nat.lt_of_lt_of_le I.lt hb),I.nofs hb,.inr (Nat.le_trans I.sz hb),λx c e z=>?_,λp hp z=>?_⟩
 ·obtain ⟨v,q⟩:=I.cell x c e;exact absurd (Nat.lt_of_lt_of_le q.lt (by rw [z];exact hb)) (Nat.lt_irrefl _)
 ·exact absurd (Nat.lt_of_lt_of_le (Heap.lt_size (I.pin p hp).1) (by rw [z];exact hb)) (Nat.lt_irrefl _)
structure b9o (P:Program)(w:World)(K:PySem.W.Frag)(tg:Expr)(J:It)(fp:List Addr)(it:Addr)(tn:Nat->Heap->Prop):Prop where
 mem:it∈fp
 obj:∀ i h,tn i h->∀ b∈fp,∃ o,h.get? b=some o/\∀ v,o.data ≠ .cell v
 keep:∀ i h h',tn i h->(∀ b∈fp,∀ o,h.get? b=some o->h'.get? b=some o)->tn i h'
 item:∀ (X:Cx),X.prog=P->X.w=w->X.K=K->X.calm=true->∀ (i:Nat) (pins:List (Addr × Obj)) (s:Shared) (σ:St) (H:Hp) (E:Value->Shared->Prop),Inv X pins σ H s->(∀ b∈fp,a0D X pins H b)->tn i s.heap -> J.go i H ->
  wpAny (model P w) X.A (pyNext (.ref it)) (λr s1=>∃ u,r=some u /\
   wpAny (model P w) X.A (letOwnedTupleGo tg (.ref it) u) (λ_ s2=>∃ x H',Inv X pins σ H' s2/\n4 x u/\J.yld i H x H'/\tn (i + 1) s2.heap /\ ∀ b∈fp,H' b=none) E s1) E s
 done:∀ (X:Cx),X.prog=P->X.w=w->X.K=K->X.calm=true->∀ (i:Nat) (pins:List (Addr × Obj)) (s:Shared) (σ:St) (H:Hp) (E:Value->Shared->Prop),Inv X pins σ H s->(∀ b∈fp,a0D X pins H b)->tn i s.heap -> J.stop i H ->
  wpAny (model P w) X.A (pyNext (.ref it)) (λr s1=>r=none/\Inv X pins σ H s1) E s
 self:∀ (A:Around) (i:Nat) (s:Shared) (Q:Value->Shared->Prop) (E:Value->Shared->Prop),tn i s.heap -> Q (.ref it) s->wpAny (model P w) A (pyIter (.ref it)) Q E s
abbrev TI:=St->Hp->(It->Hp->Prop)->Prop
def PIE (X:Cx)(pins:List (Addr × Obj))(σ:St)(tg:Expr)(R:It->Hp->Prop)(itv:Value)(s2:Shared):Prop :=
 ∃ (it:Addr) (fp:List Addr) (tn:Nat->Heap->Prop) (J:It) (H':Hp),itv = .ref it/\Inv X pins σ H' s2/\b9o X.prog X.w X.K tg J fp it tn/\tn 0 s2.heap /\ (∀ b∈fp,a0D X pins H' b)/\R J H'
def PI (X:Cx)(tg iter:Expr)(wi:TI):Prop :=
 ∀ (pins:List (Addr × Obj)) (s:Shared) (σ:St) (H:Hp) (R:It->Hp->Prop),Inv X pins σ H s->wi σ H R ->
  wpAny (model X.prog X.w) X.A (eval iter X.env) (λv s1=>wpAny (model X.prog X.w) X.A (pyIter v) (PIE X pins σ tg R) X.xe s1) X.xe s
theorem b6v {M:Model}{A:Around}{E:Value->Shared->Prop}{s:Shared}{tg:Expr}{it:Addr}{u:Value}{o:Obj}{n:String}{vs:Array Value}{Q:Unit->Shared->Prop}(ho:s.heap.get? it=some o)(hc:o.cls = .type n)(hd:o.data = .fields vs)
    (hn:["enumerate","zip","dict_itemiterator","dict_reverseitemiterator","odict_iterator","itertools.zip_longest","itertools.pairwise"].contains n=false) (hQ:Q () s):wpAny M A (letOwnedTupleGo tg (.ref it) u) Q E s:=by
  unfold letOwnedTupleGo;cases tg <;> first
    | exact wpAny_pure hQ
    | (cases u <;> first
        | exact wpAny_pure hQ
        | (refine wpAny_bind (wpAny_load ho ?_)
           rw [hc,hd]
           show wpAny M A (if (["enumerate","zip","dict_itemiterator","dict_reverseitemiterator","odict_iterator","itertools.zip_longest","itertools.pairwise"].contains n && vs[0]? == some (rawInt _))=true then _ else _) Q E s
           rw [if_neg (by intro h;rw [hn,Bool.false_and] at h;cases h)];exact wpAny_pure hQ))
def Itl (K:PySem.W.Frag)(a:Addr):It :=
 ⟨λi H=>∃ xs x,SqL K H a xs/\xs[i]? = some x,λi H x H'=>H'=H/\∀ xs,SqL K H a xs->xs[i]? = some x,λi H=>∃ xs,SqL K H a xs/\xs.length <= i⟩
def Itt (K:PySem.W.Frag)(a:Addr):It :=
 ⟨λi H=>∃ xs x,SqT K H a xs/\xs[i]? = some x,λi H x H'=>H'=H/\∀ xs,SqT K H a xs->xs[i]? = some x,λi H=>∃ xs,SqT K H a xs/\xs.length <= i⟩
def Itr (lo:Int)(n:Nat):It:=⟨λi _=>i < n,λi H x H'=>H'=H/\x = .int (lo + i),λi _=>n<=i⟩
theorem b6i {P:Program}{w:World}{K:PySem.W.Frag}{tg:Expr}(a it:Addr):b9o P w K tg (Itl K a) [it] it (λi h=>h.IsListIter it a i) where
 mem:=by simp
 obj:=λi h st b hb=>by
  have e:b=it:=by simpa using hb
  subst e;obtain ⟨o,e,c,d⟩:=st;exact ⟨o,e,λv z=>by rw [d] at z;cases z⟩
 keep:=λi h h' st k=>st.at λo e=>k it (by simp) o e
 item:=by
  intro X hP hw hK hc i pins s σ H E I hf st hg;subst hP hw hK;obtain ⟨xs,x,hq,hx⟩:=hg;obtain ⟨its,rv,p,hz⟩:=I.list hq;obtain ⟨u,hu,ru⟩:=rv.get hx;obtain ⟨f0,f1,f2,f3,f4,f5⟩:=hf it (by simp);refine wpAny_pyNext_list_item st p.isList (x:=u) (by simpa using hu) λh' st' sb=>?_;have I1:Inv X pins σ H { s with heap:=h' }:=I.turned (t':=s.toks) (λb o hb e=>(sb.2 b hb).trans e) f0 f1 f3 f4 f5;obtain ⟨o,e,c,d⟩:=id st';exact ⟨u,rfl,b6v (s:={ s with heap:=h' }) e c d (by decide) ⟨x,H,I1,ru,⟨rfl,λys hy=>by rw [I.list_inj hy hq];exact hx⟩,st',λb hb=>(hf b hb).1⟩⟩
 done:=by
  intro X hP hw hK hc i pins s σ H E I hf st hg;subst hP hw hK;obtain ⟨xs,hq,hx⟩:=hg;obtain ⟨its,rv,p,hz⟩:=I.list hq;obtain ⟨f0,f1,f2,f3,f4,f5⟩:=hf it (by simp);have hl:=rv.length;exact wpAny_pyNext_list_end (I.ok.hd hc) st p.isList (by simp;omega) λh' eb=>⟨rfl,I.turned (t':=s.toks) (λb o hb e=>eb b o hb e) f0 f1 f3 f4 f5⟩
 self:=λ_ _ _ _ _ st h=>wpAny_pyIter_listiter st h
theorem a7W {P:Program}{w:World}{K:PySem.W.Frag}{tg:Expr}(a it:Addr):b9o P w K tg (Itt K a) [it] it (λi h=>h.IsTupleIter it a i) where
 mem:=by simp
 obj:=λi h st b hb=>by
  have e:b=it:=by simpa using hb
  subst e;obtain ⟨o,e,c,d⟩:=st;exact ⟨o,e,λv z=>by rw [d] at z;cases z⟩
 keep:=λi h h' st k=>st.at λo e=>k it (by simp) o e
 item:=by
  intro X hP hw hK hc i pins s σ H E I hf st hg;subst hP hw hK;obtain ⟨xs,x,hq,hx⟩:=hg;obtain ⟨its,rv,p,hz⟩:=I.tuple hq;obtain ⟨u,hu,ru⟩:=rv.get hx;obtain ⟨f0,f1,f2,f3,f4,f5⟩:=hf it (by simp);refine wpAny_pyNext_tuple_item st (show s.heap.IsTuple a its.toArray from p) (x:=u) (by simpa using hu) λh' st' sb=>?_;have I1:Inv X pins σ H { s with heap:=h' }:=I.turned (t':=s.toks) (λb o hb e=>(sb.2 b hb).trans e) f0 f1 f3 f4 f5;obtain ⟨o,e,c,d⟩:=id st';exact ⟨u,rfl,b6v (s:={ s with heap:=h' }) e c d (by decide) ⟨x,H,I1,ru,⟨rfl,λys hy=>by rw [I.tuple_inj hy hq];exact hx⟩,st',λb hb=>(hf b hb).1⟩⟩
 done:=by
  intro X hP hw hK hc i pins s σ H E I hf st hg;subst hP hw hK;obtain ⟨xs,hq,hx⟩:=hg;obtain ⟨its,rv,p,hz⟩:=I.tuple hq;obtain ⟨f0,f1,f2,f3,f4,f5⟩:=hf it (by simp);have hl:=rv.length;exact wpAny_pyNext_tuple_end (I.ok.hd hc) st (show s.heap.IsTuple a its.toArray from p) (by simp;omega) λh' eb=>⟨rfl,I.turned (t':=s.toks) (λb o hb e=>eb b o hb e) f0 f1 f3 f4 f5⟩
 self:=λ_ _ _ _ _ st h=>wpAny_pyIter_tupleiter st h
theorem a8W {P:Program}{w:World}{K:PySem.W.Frag}{tg:Expr}(it:Addr)(lo:Int)(n:Nat):b9o P w K tg (Itr lo n) [it] it (λi h=>IsRangeIter h it (lo + (i:Nat) * 1) ((n:Int) - (i:Nat)) 1) where
 mem:=by simp
 obj:=λi h st b hb=>by
  have e:b=it:=by simpa using hb
  subst e;exact ⟨_,st,λv z=>by
   have z':Data.fields _=Data.cell v:=z;cases z'⟩
 keep:=λi h h' st k=>k it (by simp) _ st
 item:=by
  intro X hP hw hK hc i pins s σ H E I hf st hg;subst hP hw hK;obtain ⟨f0,f1,f2,f3,f4,f5⟩:=hf it (by simp);have W:=Walks.range (prog:=X.prog) (w:=X.w) (I.ok.hd hc) it lo 1 n;refine W.item i s _ _ hg st λv h' tk hv st' kk=>?_;obtain ⟨t,rfl⟩:=hv;have I1:Inv X pins σ H { s with heap:=h',toks:=tk }:=I.turned (λb o hb e=>kk b o (by simpa using hb) e) f0 f1 f3 f4 f5;refine ⟨_,rfl,b6v (s:={ s with heap:=h',toks:=tk }) (n := "range_iterator") st' rfl rfl (by decide) ⟨.int (lo + i),H,I1,⟨t,?_⟩,⟨rfl,rfl⟩,st',λb hb=>(hf b hb).1⟩⟩;rw [Int.mul_one]
 done:=by
  intro X hP hw hK hc i pins s σ H E I hf st hg;subst hP hw hK;obtain ⟨f0,f1,f2,f3,f4,f5⟩:=hf it (by simp);exact wpAny_pyNext_range_end (I.ok.hd hc) st (by have:n<=i:=hg;omega) λh' eb=>⟨rfl,I.turned (t':=s.toks) (λb o hb e=>eb b o hb e) f0 f1 f3 f4 f5⟩
 self:=λ_ _ _ _ _ st h=>wpAny_pyIter_rangeiter st h
end L2
namespace L2
open PySem PySem.Spec PyProof.Rows
section
variable {X:Cx}{tg:Expr}
def b8f (K:PySem.W.Frag)(tl:TE):TI:=fun σ H R=>tl σ H λx H1=>∃ a,x = .ref a/\(∃ xs,SqL K H1 a xs)/\R (Itl K a) H1
def b5F (K:PySem.W.Frag)(tl:TE):TI:=fun σ H R=>tl σ H λx H1=>∃ a,x = .ref a/\(∃ xs,SqT K H1 a xs)/\R (Itt K a) H1
theorem b0D {l:Expr}{tl:TE}(hl:PE X l tl):PI X tg l (b8f X.K tl):=by
 intro pins s σ H R I h;refine thn (hl pins s σ H _ I h) λv s1 ⟨x,H1,I1,r1,q1⟩=>?_;obtain ⟨a,e,⟨xs,hq⟩,q⟩:=q1;subst e;cases r1;obtain ⟨its,rv,p,hz⟩:=I1.list hq;refine wpAny_pyIter_list p.isList ?_;refine ⟨s1.heap.objs.size,[s1.heap.objs.size],_,_,H1,rfl,I1.kept (t':=s1.toks) λb o e=>Heap.get?_push_of_some _ e,b6i a _,⟨_,Heap.get?_push_size _ rfl,rfl,rfl⟩,λb hb=>?_,q⟩;have e:b=s1.heap.objs.size:=by simpa using hb
 subst e;exact I1.fpOk (Nat.le_refl _) (I1.hok.fresh (Nat.le_refl _))
theorem b0L {l:Expr}{tl:TE}(hl:PE X l tl):PI X tg l (b5F X.K tl):=by
 intro pins s σ H R I h;refine thn (hl pins s σ H _ I h) λv s1 ⟨x,H1,I1,r1,q1⟩=>?_;obtain ⟨a,e,⟨xs,hq⟩,q⟩:=q1;subst e;cases r1;obtain ⟨its,rv,p,hz⟩:=I1.tuple hq;refine wpAny_pyIter_tuple (show s1.heap.IsTuple a its.toArray from p) ?_;refine ⟨s1.heap.objs.size,[s1.heap.objs.size],_,_,H1,rfl,I1.kept (t':=s1.toks) λb o e=>Heap.get?_push_of_some _ e,a7W a _,⟨_,Heap.get?_push_size _ rfl,rfl,rfl⟩,λb hb=>?_,q⟩;have e:b=s1.heap.objs.size:=by simpa using hb
 subst e;exact I1.fpOk (Nat.le_refl _) (I1.hok.fresh (Nat.le_refl _))
theorem a2R {pins:List (Addr × Obj)}{σ:St}{H:Hp}{s:Shared}{R:It->Hp->Prop}{E:Value->Shared->Prop}{lo hi:Int}{t u v:Tok}{tk:Nat}(I:Inv X pins σ H s)(h1:-(2 ^ 62)<=lo)(h2:lo < 2 ^ 62)(h3:-(2 ^ 62)<=hi)(h4:hi < 2 ^ 62)
  (q:R (Itr lo (hi - lo).toNat) H):wpAny (model X.prog X.w) X.A (pyIter (.ref s.heap.objs.size)) (PIE X pins σ tg R) E { s with heap:=s.heap.push { cls:=.type "range",data:=.fields #[.int lo t,.int hi u,.int 1 v] },toks:=tk }:=by
 refine wpAny_pyIter_range (IsRange.new ..) (small_one h1 h2 h3 h4) ?_;have I1:Inv X pins σ H { s with heap:=s.heap.push { cls:=.type "range",data:=.fields #[.int lo t,.int hi u,.int 1 v] },toks:=tk }:=I.kept λb o e=>Heap.get?_push_of_some _ e;refine ⟨(s.heap.push { cls:=.type "range",data:=.fields #[.int lo t,.int hi u,.int 1 v] }).objs.size,[(s.heap.push { cls:=.type "range",data:=.fields #[.int lo t,.int hi u,.int 1 v] }).objs.size],_,_,H,rfl,
  I1.kept (t':=tk) λb o e=>Heap.get?_push_of_some _ e,a8W _ lo (hi - lo).toNat,?_,λb hb=>?_,q⟩
 ·have e1:lo + ((0:Nat):Int) * 1=lo:=by simp
  have e2:(((hi - lo).toNat:Nat):Int) - ((0:Nat):Int)=Builtin.Range.rangeSize lo hi 1:=by rw [rangeSize_one];split <;> omega
  show IsRangeIter _ _ (lo + ((0:Nat):Int) * 1) ((((hi - lo).toNat:Nat):Int) - ((0:Nat):Int)) 1
  rw [e1,e2];exact Heap.get?_push_size _ rfl
 ·have e:b=(s.heap.push { cls:=.type "range",data:=.fields #[.int lo t,.int hi u,.int 1 v] }).objs.size:=by simpa using hb
  subst e;exact I1.fpOk (Nat.le_refl _) (I1.hok.fresh (Nat.le_refl _))
def b2U (ta:TA):TI:=fun σ H R=>ta σ H λvs H1=>∃ j:Int,vs=[.int j]/\-(2 ^ 62)<=j/\j < 2 ^ 62/\R (Itr 0 j.toNat) H1
def b1U (ta:TA):TI:=fun σ H R=>ta σ H λvs H1=>∃ i j:Int,vs=[.int i,.int j]/\(-(2 ^ 62)<=i/\i < 2 ^ 62/\-(2 ^ 62)<=j/\j < 2 ^ 62)/\R (Itr i (j - i).toNat) H1
theorem B1 {a:Expr} {ta:TA} {p pos:Pos} (hg:Gl X "range") (hm:X.mg "range" = none) (ha:PA X [a] ta) (hs:starEach [a] X.env=[(false,eval a X.env)]:=by rfl):PI X tg (.Call (.Name "range" p) [a] [] pos) (b2U ta):=by
 intro pins s σ H R I h;refine Call_ (a8m I hg hm boot_range (PyProof.Rows.callWith_type1 (thn (ha pos pins s σ H _ I h) λus s1 ⟨vs,H1,I1,r1,q1⟩=>?_) hs rfl));obtain ⟨j,e,q1,q2,q⟩:=q1;subst e;cases r1 with
 | cons r rr =>
  cases rr;obtain ⟨t,rfl⟩:=r;exact call_range_1 (a2R I1 (by omega) (by omega) q1 q2 (by simpa using q))
theorem a3s {a b:Expr} {ta:TA} {p pos:Pos} (hg:Gl X "range") (hm:X.mg "range" = none) (ha:PA X [a,b] ta) (hs:starEach [a,b] X.env=[(false,eval a X.env),(false,eval b X.env)]:=by rfl) (hs2:starEach [b] X.env=[(false,eval b X.env)]:=by rfl) :
  PI X tg (.Call (.Name "range" p) [a,b] [] pos) (b1U ta):=by
 intro pins s σ H R I h;refine Call_ (a8m I hg hm boot_range (PyProof.Rows.callWith_type1 (thn (ha pos pins s σ H _ I h) λus s1 ⟨vs,H1,I1,r1,q1⟩=>?_) (by rw [hs,hs2]) (by rw [hs2];rfl)));obtain ⟨i,j,e,⟨q1,q2,q3,q4⟩,q⟩:=q1;subst e;cases r1 with
 | cons r rr =>
  cases rr with
  | cons r' rr =>
   cases rr;obtain ⟨t,rfl⟩:=r;obtain ⟨t',rfl⟩:=r';exact call_range_2 (a2R I1 q1 q2 q3 q4 q)
def b4V (wi:TI)(g:TG)(tb:TS):TS:=λD σ H=>wi σ H λJ H1=>∃ W:Nat->Nat->St->Hp->Prop,(∃ m,W 0 m σ H1)/\∀ i m σ H,W i m σ H ->
 (J.stop i H/\D.nx σ H) \/ (J.go i H/\∃ N:St->Hp->Prop,(∀ σ' H',N σ' H'->∃ m',m' < m/\W (i + 1) m' σ' H')/\∀ x H',J.yld i H x H'->g x σ H' fun σ2 H2=>tb { D with nx:=N,ct:=N,bk:=D.nx } σ2 H2)
def a8z (fp:List Addr)(h:Heap):List (Addr × Obj):=fp.filterMap λb=>(h.get? b).map λo=>(b,o)
theorem X0 {fp:List Addr}{h:Heap}{b:Addr}{o:Obj}(hb:b∈fp)(e:h.get? b=some o):(b,o)∈a8z fp h:=List.mem_filterMap.mpr ⟨b,hb,by rw [e];rfl⟩
theorem b9l {fp:List Addr}{h:Heap}{p:Addr × Obj}(hp:p∈a8z fp h):p.1 ∈ fp/\h.get? p.1=some p.2:=by
 obtain ⟨b,hb,e⟩:=List.mem_filterMap.mp hp;cases q:h.get? b with
 | none=>rw [q] at e;cases e
 | some o =>
  rw [q] at e;have e':(b,o)=p:=Option.some.inj e;subst e';exact ⟨hb,q⟩
theorem Inv.pinned {pins:List (Addr × Obj)}{σ:St}{H:Hp}{s:Shared}{fp:List Addr}(I:Inv X pins σ H s)(hf:∀ b∈fp,a0D X pins H b)(ho:∀ b∈fp,∃ o,s.heap.get? b=some o/\∀ v,o.data ≠ .cell v):Inv X (pins ++ a8z fp s.heap) σ H s :=
 I.pins_of λp hp=>(List.mem_append.mp hp).elim (λz=>I.pin p (List.mem_append_right _ z)) λz=>by
  obtain ⟨hb,e⟩:=b9l z;obtain ⟨f0,f1,f2,_⟩:=hf p.1 hb;obtain ⟨o,e',d⟩:=ho p.1 hb;rw [e] at e';cases e';exact ⟨e,f0,f1,f2,d⟩
theorem Inv.unpinned {pins pl:List (Addr × Obj)}{σ:St}{H:Hp}{s:Shared}(I:Inv X (pins ++ pl) σ H s):Inv X pins σ H s:=I.pins_of λp hp=>I.pin p (List.mem_append_right _ (List.mem_append_left _ hp))
theorem r6 {iter:Expr}{body:List Stmt}{wi:TI}{g:TG}{tb:TS}{pos:Pos}(hp:PassesOwn (model X.prog X.w) X.A X.env X.xe)(hc:X.calm=true)(hi:PI X tg iter wi)(hg:PG X tg g)(hb:PSs X body tb)
  (hs:∀ x,foldedSetIterable iter X.env x=pure x:=by intro _;rfl):PS X (.For tg iter body [] pos) (b4V wi g tb):=by
 intro pins s σ H D I h;refine wpAny_For (thn (hi pins s σ H _ I h) λv s1 h1=>thn h1 λitv s2 h2=>?_) hs;obtain ⟨it,fp,tn,J,H2,e,I2,T,st2,f2,W,⟨m0,w0⟩,turn⟩:=h2;subst e;have stat:∀ {H':Hp},(∀ b∈fp,H' b=none)->∀ b∈fp,a0D X pins H' b:=λhn b hb=>⟨hn b hb,(f2 b hb).2⟩;refine codeAny_forLoop_any (λn s'=>∃ i σ' H',Inv X pins σ' H' s'/\tn i s'.heap /\ (∀ b∈fp,H' b=none)/\W i n σ' H') ?_ m0 ⟨0,σ,H2,I2,st2,λb hb=>(f2 b hb).1,w0⟩;rintro n s3 ⟨i,σ3,H3,I3,st3,fr3,w3⟩
 rcases turn i n σ3 H3 w3 with ⟨stop,qn⟩ | ⟨go,N,hN,step⟩
 ·refine wpAny_passesOwn hp (thn (T.done X rfl rfl rfl hc i pins s3 σ3 H3 X.xe I3 (stat fr3) st3 stop) λr s4 ⟨hr,I4⟩=>?_);subst hr;exact wpAny_execs_nil ⟨σ3,H3,I4,qn⟩
 ·refine wpAny_passesOwn hp (thn (T.item X rfl rfl rfl hc i pins s3 σ3 H3 X.xe I3 (stat fr3) st3 go) λr s4 ⟨u,hr,h4⟩=>?_);subst hr;refine wpAny_passesOwn hp (thn h4 λ_ s5 ⟨x,H5,I5,r5,y5,st5,fr5⟩=>?_);have I5':=I5.pinned (stat fr5) (T.obj _ _ st5);refine wpAny_passesOwn hp (thn (hg _ s5 σ3 H5 x u _ I5' r5 (step x H5 y5)) λ_ s6 ⟨σ6,H6,I6,q6⟩=>?_);refine wpAny_passesOwn hp (thn (hb _ s6 σ6 H6 _ I6 q6) λf s7 q7=>?_);have again:∀ {σ7:St} {H7:Hp},Inv X (pins ++ a8z fp s5.heap) σ7 H7 s7->N σ7 H7->∃ m,m < n/\∃ i σ' H',Inv X pins σ' H' s7/\tn i s7.heap /\ (∀ b∈fp,H' b=none)/\W i m σ' H':=λ{σ7 H7} I7 n7=>by
   obtain ⟨m',hm,w7⟩:=hN σ7 H7 n7;refine ⟨m',hm,i + 1,σ7,H7,I7.unpinned,T.keep _ _ _ st5 λb hb o e=>(I7.pin (b,o) (List.mem_append_right _ (List.mem_append_right _ (X0 hb e)))).1,λb hb=>?_,w7⟩;obtain ⟨o,e,d⟩:=T.obj _ _ st5 b hb;exact (I7.pin (b,o) (List.mem_append_right _ (List.mem_append_right _ (X0 hb e)))).2.1
  cases f with
  | next=>obtain ⟨σ7,H7,I7,n7⟩:=q7;exact again I7 n7
  | cont=>obtain ⟨σ7,H7,I7,n7⟩:=q7;exact again I7 n7
  | brk=>obtain ⟨σ7,H7,I7,q7⟩:=q7;exact ⟨σ7,H7,I7.unpinned,q7⟩
  | ret v=>obtain ⟨x7,σ7,H7,I7,r7,q7⟩:=q7;exact ⟨x7,σ7,H7,I7.unpinned,r7,q7⟩
end
theorem C5 {K:PySem.W.Frag}{a:Addr}{xs:List V}{g:TG}{tb:TS}{D:a8t}{σ:St}{H:Hp}(Pv:Nat->St->Hp->Prop)(h0:Pv 0 σ H)(hl:∀ i σ H,i<=xs.length -> Pv i σ H->SqL K H a xs)
  (hs:∀ i x σ H,xs[i]? = some x->Pv i σ H->g x σ H fun σ2 H2=>tb { D with nx:=Pv (i + 1),ct:=Pv (i + 1),bk:=D.nx } σ2 H2) (hd:∀ σ H,Pv xs.length σ H->D.nx σ H) :
  ∃ W:Nat->Nat->St->Hp->Prop,(∃ m,W 0 m σ H)/\∀ i m σ H,W i m σ H ->
   ((Itl K a).stop i H/\D.nx σ H) \/ ((Itl K a).go i H/\∃ N:St->Hp->Prop,(∀ σ' H',N σ' H'->∃ m',m' < m/\W (i + 1) m' σ' H')/\∀ x H',(Itl K a).yld i H x H'->g x σ H' fun σ2 H2=>tb { D with nx:=N,ct:=N,bk:=D.nx } σ2 H2):=by
 refine ⟨λi m σ H=>m=xs.length - i/\i<=xs.length /\ Pv i σ H,⟨xs.length,by simp,Nat.zero_le _,h0⟩,?_⟩;rintro i m σ H ⟨rfl,hi,p⟩;have q:=hl i σ H hi p
 by_cases hlt:i < xs.length
 ·refine .inr ⟨⟨xs,xs[i],q,by simp [hlt]⟩,Pv (i + 1),fun σ' H' p'=>⟨xs.length - (i + 1),by omega,rfl,hlt,p'⟩,λx H' y=>?_⟩;obtain ⟨e,y⟩:=y;subst e;exact hs i x σ _ (y xs q) p
 ·have e:i=xs.length:=by omega
  subst e;exact .inl ⟨⟨xs,q,Nat.le_refl _⟩,hd σ H p⟩
theorem b4g {K:PySem.W.Frag}{a:Addr}{xs:List V}{g:TG}{tb:TS}{D:a8t}{σ:St}{H:Hp}(Pv:Nat->St->Hp->Prop)(h0:Pv 0 σ H)(hl:∀ i σ H,i<=xs.length -> Pv i σ H->SqT K H a xs)
  (hs:∀ i x σ H,xs[i]? = some x->Pv i σ H->g x σ H fun σ2 H2=>tb { D with nx:=Pv (i + 1),ct:=Pv (i + 1),bk:=D.nx } σ2 H2) (hd:∀ σ H,Pv xs.length σ H->D.nx σ H) :
  ∃ W:Nat->Nat->St->Hp->Prop,(∃ m,W 0 m σ H)/\∀ i m σ H,W i m σ H ->
   ((Itt K a).stop i H/\D.nx σ H) \/ ((Itt K a).go i H/\∃ N:St->Hp->Prop,(∀ σ' H',N σ' H'->∃ m',m' < m/\W (i + 1) m' σ' H')/\∀ x H',(Itt K a).yld i H x H'->g x σ H' fun σ2 H2=>tb { D with nx:=N,ct:=N,bk:=D.nx } σ2 H2):=by
 refine ⟨λi m σ H=>m=xs.length - i/\i<=xs.length /\ Pv i σ H,⟨xs.length,by simp,Nat.zero_le _,h0⟩,?_⟩;rintro i m σ H ⟨rfl,hi,p⟩;have q:=hl i σ H hi p
 by_cases hlt:i < xs.length
 ·refine .inr ⟨⟨xs,xs[i],q,by simp [hlt]⟩,Pv (i + 1),fun σ' H' p'=>⟨xs.length - (i + 1),by omega,rfl,hlt,p'⟩,λx H' y=>?_⟩;obtain ⟨e,y⟩:=y;subst e;exact hs i x σ _ (y xs q) p
 ·have e:i=xs.length:=by omega
  subst e;exact .inl ⟨⟨xs,q,Nat.le_refl _⟩,hd σ H p⟩
theorem y6 {lo:Int}{n:Nat}{g:TG}{tb:TS}{D:a8t}{σ:St}{H:Hp}(Pv:Nat->St->Hp->Prop)(h0:Pv 0 σ H)
  (hs:∀ i σ H,i < n->Pv i σ H->g (.int (lo + i)) σ H fun σ2 H2=>tb { D with nx:=Pv (i + 1),ct:=Pv (i + 1),bk:=D.nx } σ2 H2) (hd:∀ σ H,Pv n σ H->D.nx σ H) :
  ∃ W:Nat->Nat->St->Hp->Prop,(∃ m,W 0 m σ H)/\∀ i m σ H,W i m σ H ->
   ((Itr lo n).stop i H/\D.nx σ H) \/ ((Itr lo n).go i H/\∃ N:St->Hp->Prop,(∀ σ' H',N σ' H'->∃ m',m' < m/\W (i + 1) m' σ' H')/\∀ x H',(Itr lo n).yld i H x H'->g x σ H' fun σ2 H2=>tb { D with nx:=N,ct:=N,bk:=D.nx } σ2 H2):=by
 refine ⟨λi m σ H=>m=n - i/\i<=n/\Pv i σ H,⟨n,by simp,Nat.zero_le _,h0⟩,?_⟩;rintro i m σ H ⟨rfl,hi,p⟩
 by_cases hlt:i < n
 ·refine .inr ⟨hlt,Pv (i + 1),fun σ' H' p'=>⟨n - (i + 1),by omega,rfl,hlt,p'⟩,λx H' y=>?_⟩;obtain ⟨e,y⟩:=y;subst e y;exact hs i σ _ hlt p
 ·have e:i=n:=by omega
  subst e;exact .inl ⟨Nat.le_refl _,hd σ H p⟩
end L2
namespace L2
open PySem PySem.Spec PyProof.Rows
abbrev R2:=V->V->Hp->VK->Prop
def OpR (X:Cx)(f:Value->Value->Sem Value)(r:R2):Prop :=
 ∀ (pins:List (Addr × Obj)) (s:Shared) (σ:St) (H:Hp) (x y:V) (v u:Value) (Q:VK),Inv X pins σ H s->n4 x v->n4 y u->r x y H Q ->
  wpAny (model X.prog X.w) X.A (f v u) (EP X pins σ Q) X.xe s
def A8 (X:Cx)(f:Value)(r:List V->Hp->VK->Prop):Prop :=
 ∀ (pins:List (Addr × Obj)) (s:Shared) (σ:St) (H:Hp) (xs:List V) (us:List Value) (Q:VK),Inv X pins σ H s->n0 xs us->r xs H Q ->
  wpAny (model X.prog X.w) X.A (call f us) (EP X pins σ Q) X.xe s
def b1X (X:Cx)(r:V->Hp->(Bool->Hp->Prop)->Prop):Prop :=
 ∀ (pins:List (Addr × Obj)) (s:Shared) (σ:St) (H:Hp) (x:V) (v:Value) (Q:Bool->Hp->Prop),Inv X pins σ H s->n4 x v->r x H Q ->
  wpAny (model X.prog X.w) X.A (truthy v) (TP X pins σ Q) X.xe s
def tOp (r:R2)(ta tb:TE):TE:=fun σ H Q=>ta σ H λx H1=>tb σ H1 λy H2=>r x y H2 Q
def rI (C:Int->Int->Prop)(g:Int->Int->V):R2:=λx y H Q=>∃ i j,x = .int i/\y = .int j/\C i j/\Q (g i j) H
def rI0 (g:Int->Int->V):R2:=λx y H Q=>∃ i j,x = .int i/\y = .int j/\Q (g i j) H
section
variable {X:Cx}{a b c:Expr}{ta tb tc:TE}{pos:Pos}
theorem b7P (ha:PE X a ta)(hb:PE X b tb){pins:List (Addr × Obj)}{s:Shared}{σ:St}{H:Hp}{R:V->V->Hp->Prop}(I:Inv X pins σ H s)
  (h:ta σ H λx H1=>tb σ H1 λy H2=>R x y H2) {Q:Value->Shared->Prop} {f:Value->Value->Sem Value}
  (hf:∀ v u s2 x y H2,Inv X pins σ H2 s2->n4 x v->n4 y u->R x y H2->wpAny (model X.prog X.w) X.A (f v u) Q X.xe s2) :
  wpAny (model X.prog X.w) X.A (eval a X.env) (λv s₁=>wpAny (model X.prog X.w) X.A (eval b X.env) (λu s₂=>wpAny (model X.prog X.w) X.A (f v u) Q X.xe s₂) X.xe s₁) X.xe s:=by
 refine thn (ha pins s σ H _ I h) λv s1 ⟨x,H1,I1,r1,q1⟩=>?_;refine thn (hb pins s1 σ H1 _ I1 q1) λu s2 ⟨y,H2,I2,r2,q2⟩=>?_;exact hf v u s2 x y H2 I2 r1 r2 q2
theorem g0 {op:Operator}{r:R2}(ho:OpR X (binaryOp op) r)(ha:PE X a ta)(hb:PE X b tb):PE X (.BinOp a op b pos) (tOp r ta tb):=by
 intro pins s σ H Q I h;exact wpAny_BinOp (b7P ha hb I h λv u s2 x y H2 I2 rx ry q=>ho pins s2 σ H2 x y v u Q I2 rx ry q)
theorem opI {f:Value->Value->Sem Value}{C:Int->Int->Prop}{g:Int->Int->Int}
  (rule:∀ (i j:Int) (t u:Tok) (s:Shared) (Q:Value->Shared->Prop) (E:Value->Shared->Prop),C i j->Q (.int (g i j) s.toks) { s with toks:=s.toks + 1 }->wpAny (model X.prog X.w) X.A (f (.int i t) (.int j u)) Q E s) :
  OpR X f (rI C λi j=>.int (g i j)):=by
 intro pins s σ H x y v u Q I rx ry h;obtain ⟨i,j,rfl,rfl,hc,q⟩:=h;obtain ⟨t,rfl⟩:=rx;obtain ⟨t',rfl⟩:=ry;exact rule i j t t' s _ _ hc ⟨.int (g i j),H,I.tok _,⟨_,rfl⟩,q⟩
theorem b6T {f:Value->Value->Sem Value}{g:Int->Int->Int}
  (rule:∀ (i j:Int) (t u:Tok) (s:Shared) (Q:Value->Shared->Prop) (E:Value->Shared->Prop),Q (.int (g i j) s.toks) { s with toks:=s.toks + 1 }->wpAny (model X.prog X.w) X.A (f (.int i t) (.int j u)) Q E s) :
  OpR X f (rI0 λi j=>.int (g i j)):=by
 intro pins s σ H x y v u Q I rx ry h;obtain ⟨i,j,rfl,rfl,q⟩:=h;obtain ⟨t,rfl⟩:=rx;obtain ⟨t',rfl⟩:=ry;exact rule i j t t' s _ _ ⟨.int (g i j),H,I.tok _,⟨_,rfl⟩,q⟩
theorem b5D {f:Value->Value->Sem Value}{g:Int->Int->Bool}
  (rule:∀ (i j:Int) (t u:Tok) (s:Shared) (Q:Value->Shared->Prop) (E:Value->Shared->Prop),Q (.bool (g i j)) s->wpAny (model X.prog X.w) X.A (f (.int i t) (.int j u)) Q E s) :
  OpR X f (rI0 λi j=>.bl (g i j)):=by
 intro pins s σ H x y v u Q I rx ry h;obtain ⟨i,j,rfl,rfl,q⟩:=h;obtain ⟨t,rfl⟩:=rx;obtain ⟨t',rfl⟩:=ry;exact rule i j t t' s _ _ ⟨.bl (g i j),H,I,rfl,q⟩
def b5X (i j:Int):Prop:=0<=j/\j<=1000000/\i.natAbs < 2 ^ 64
def b6Q (i j:Int):Prop:=(-(2 ^ 64) < i/\i < 2 ^ 64) \/ (-(2 ^ 64) < j/\j < 2 ^ 64)
theorem b6Q.ok {i j:Int}(h:b6Q i j):IntMulOk i j:=by
 rcases h with ⟨h1,h2⟩ | ⟨h1,h2⟩
 ·exact .of_left (intBits_le_64 h1 h2)
 ·exact .of_right (intBits_le_64 h1 h2)
theorem u9:OpR X (binaryOp .Add) (rI0 λi j=>.int (i + j)):=b6T λ_ _ _ _ _ _ _ q=>add_int q
theorem G6:OpR X (binaryOp .Sub) (rI0 λi j=>.int (i - j)):=b6T λ_ _ _ _ _ _ _ q=>sub_int q
theorem F7:OpR X (binaryOp .Mult) (rI b6Q λi j=>.int (i * j)):=opI λ_ _ _ _ _ _ _ hc q=>mul_int q hc.ok
theorem J0:OpR X (binaryOp .Mod) (rI (λ_ j=>0 < j) λi j=>.int (i % j)):=opI λi j _ _ _ _ _ hc q=>by
 have h1:(0:Int) < j:=hc;exact mod_int' (by omega) (by rw [Int.fmod_eq_emod_of_nonneg i (by omega)];exact q)
theorem a5L:OpR X (binaryOp .Pow) (rI b5X λi j=>.int (i ^ j.toNat)):=opI λ_ _ _ _ _ _ _ hc q=>pow_int_small hc.1 hc.2.1 hc.2.2 q
end
def b8R:V->V->Bool
 | .non,.non=>true | .non,.int _=>true | .int _,.non=>true | .non,.bl _=>true | .bl _,.non=>true | .non,.str _=>true | .str _,.non=>true
 | .int _,.int _=>true | .bl _,.bl _=>true | .str _,.str _=>true | .byt _,.byt _=>true
 | .int _,.str _=>true | .str _,.int _=>true | .bl _,.str _=>true | .str _,.bl _=>true
 | _,_=>false
def rEq:R2:=λx y H Q=>b8R x y=true/\Q (.bl (decide (x=y))) H
def rNe:R2:=λx y H Q=>b8R x y=true/\Q (.bl (!decide (x=y))) H
theorem b0h {i j:Int}:decide (V.int i=V.int j)=(i == j):=by
 rw [Bool.eq_iff_iff]
 simp
theorem b7w {i j:Bool}:decide (V.bl i=V.bl j)=(i == j):=by
 rw [Bool.eq_iff_iff]
 simp
theorem b9g {i j:Str}:decide (V.str i=V.str j)=(i == j):=by
 rw [Bool.eq_iff_iff]
 simp
theorem b1h {i j:Array UInt8}:decide (V.byt i=V.byt j)=(i.toList == j.toList):=by
 rw [Bool.eq_iff_iff];cases i;cases j
 simp
section
variable {X:Cx}{a b c:Expr}{ta tb tc:TE}{pos:Pos}
theorem p9 {pins:List (Addr × Obj)}{σ:St}{H:Hp}{s:Shared}{Q:VK}{k k':Bool}(I:Inv X pins σ H s)(q:Q (.bl k) H)(e:k=k'):EP X pins σ Q (.bool k') s:=by
 subst e;exact ⟨.bl k,H,I,rfl,q⟩
theorem b5T:OpR X (compareOp .Eq) rEq:=by
 intro pins s σ H x y v u Q I rx ry h;obtain ⟨hs,q⟩:=h;cases x with
 | non =>
  cases rx;cases y with
  | non=>cases ry;exact PySem.EqNone.eq_none_none (p9 I q (by simp))
  | bl j=>cases ry;exact PySem.EqNone.eq_none_bool (p9 I q (by simp))
  | int j=>obtain ⟨t',rfl⟩:=ry;exact PySem.EqNone.eq_none_int (p9 I q (by simp))
  | str j=>obtain ⟨t',rfl⟩:=ry;exact PySem.EqNone.eq_none_str (p9 I q (by simp))
  | _=>exact absurd (show false=true from hs) Bool.false_ne_true
 | bl i =>
  cases rx;cases y with
  | non=>cases ry;exact PySem.EqNone.eq_bool_none (p9 I q (by simp))
  | bl j=>cases ry;exact eq_bool (p9 I q b7w)
  | str j=>obtain ⟨t',rfl⟩:=ry;exact PySem.EqMixed.eq_bool_str (p9 I q (by simp))
  | _=>exact absurd (show false=true from hs) Bool.false_ne_true
 | int i =>
  obtain ⟨t,rfl⟩:=rx;cases y with
  | non=>cases ry;exact PySem.EqNone.eq_int_none (p9 I q (by simp))
  | int j=>obtain ⟨t',rfl⟩:=ry;exact eq_int (p9 I q b0h)
  | str j=>obtain ⟨t',rfl⟩:=ry;exact PySem.EqMixed.eq_int_str (p9 I q (by simp))
  | _=>exact absurd (show false=true from hs) Bool.false_ne_true
 | str i =>
  obtain ⟨t,rfl⟩:=rx;cases y with
  | non=>cases ry;exact PySem.EqNone.eq_str_none (p9 I q (by simp))
  | bl j=>cases ry;exact PySem.EqMixed.eq_str_bool (p9 I q (by simp))
  | int j=>obtain ⟨t',rfl⟩:=ry;exact PySem.EqMixed.eq_str_int (p9 I q (by simp))
  | str j=>obtain ⟨t',rfl⟩:=ry;exact eq_str (p9 I q b9g)
  | _=>exact absurd (show false=true from hs) Bool.false_ne_true
 | byt i =>
  obtain ⟨t,rfl⟩:=rx;cases y with
  | byt j=>obtain ⟨t',rfl⟩:=ry;exact PySem.W.eq_bytes (p9 I q b1h)
  | _=>exact absurd (show false=true from hs) Bool.false_ne_true
 | _=>cases y <;> exact absurd (show false=true from hs) Bool.false_ne_true
theorem b3T:OpR X (compareOp .NotEq) rNe:=by
 intro pins s σ H x y v u Q I rx ry h;obtain ⟨hs,q⟩:=h;cases x with
 | non =>
  cases rx;cases y with
  | non=>cases ry;exact PySem.EqNone.ne_none_none (p9 I q (by simp))
  | bl j=>cases ry;exact PySem.EqNone.ne_none_bool (p9 I q (by simp))
  | int j=>obtain ⟨t',rfl⟩:=ry;exact PySem.EqNone.ne_none_int (p9 I q (by simp))
  | str j=>obtain ⟨t',rfl⟩:=ry;exact PySem.EqNone.ne_none_str (p9 I q (by simp))
  | _=>exact absurd (show false=true from hs) Bool.false_ne_true
 | bl i =>
  cases rx;cases y with
  | non=>cases ry;exact PySem.EqNone.ne_bool_none (p9 I q (by simp))
  | bl j=>cases ry;exact ne_bool (p9 I q (congrArg not b7w))
  | str j=>obtain ⟨t',rfl⟩:=ry;exact PySem.EqMixed.ne_bool_str (p9 I q (by simp))
  | _=>exact absurd (show false=true from hs) Bool.false_ne_true
 | int i =>
  obtain ⟨t,rfl⟩:=rx;cases y with
  | non=>cases ry;exact PySem.EqNone.ne_int_none (p9 I q (by simp))
  | int j=>obtain ⟨t',rfl⟩:=ry;exact ne_int (p9 I q (congrArg not b0h))
  | str j=>obtain ⟨t',rfl⟩:=ry;exact PySem.EqMixed.ne_int_str (p9 I q (by simp))
  | _=>exact absurd (show false=true from hs) Bool.false_ne_true
 | str i =>
  obtain ⟨t,rfl⟩:=rx;cases y with
  | non=>cases ry;exact PySem.EqNone.ne_str_none (p9 I q (by simp))
  | bl j=>cases ry;exact PySem.EqMixed.ne_str_bool (p9 I q (by simp))
  | int j=>obtain ⟨t',rfl⟩:=ry;exact PySem.EqMixed.ne_str_int (p9 I q (by simp))
  | str j=>obtain ⟨t',rfl⟩:=ry;exact ne_str (p9 I q (congrArg not b9g))
  | _=>exact absurd (show false=true from hs) Bool.false_ne_true
 | byt i =>
  obtain ⟨t,rfl⟩:=rx;cases y with
  | byt j=>obtain ⟨t',rfl⟩:=ry;exact PySem.W.ne_bytes (p9 I q (congrArg not b1h))
  | _=>exact absurd (show false=true from hs) Bool.false_ne_true
 | _=>cases y <;> exact absurd (show false=true from hs) Bool.false_ne_true
theorem a0p:OpR X (compareOp .Lt) (rI0 λi j=>.bl (decide (i < j))):=b5D λ_ _ _ _ _ _ _ q=>lt_int q
theorem a8G:OpR X (compareOp .LtE) (rI0 λi j=>.bl (decide (i<=j))):=b5D λ_ _ _ _ _ _ _ q=>le_int q
theorem b9e:OpR X (compareOp .Gt) (rI0 λi j=>.bl (decide (j < i))):=b5D λ_ _ _ _ _ _ _ q=>gt_int q
theorem b4T:OpR X (compareOp .GtE) (rI0 λi j=>.bl (decide (j<=i))):=b5D λ_ _ _ _ _ _ _ q=>ge_int q
theorem a6L:OpR X (compareOp .IsNot) (λx y H Q=>y = .non /\ Q (.bl (!decide (x = .non))) H):=by
 intro pins s σ H x y v u Q I rx ry h;obtain ⟨rfl,q⟩:=h;cases ry;refine isnot_none_gen (p9 I q ?_);cases x <;> first
  | (cases rx;rfl)
  | (obtain ⟨t,rfl⟩:=rx;rfl)
theorem OpR.or {f:Value->Value->Sem Value}{r r':R2}(h:OpR X f r)(h':OpR X f r'):OpR X f (λx y H Q=>r x y H Q \/ r' x y H Q):=by
 intro pins s σ H x y v u Q I rx ry q
 rcases q with q | q
 ·exact h pins s σ H x y v u Q I rx ry q
 ·exact h' pins s σ H x y v u Q I rx ry q
theorem l7 (b:Expr){op:CmpOp}(h:op≠.In:=by decide)(h2:op≠.NotIn:=by decide):behindInMarks op b=false:=by
 have e1:(op == CmpOp.In)=false:=by cases op <;> first | rfl | exact absurd rfl h
 have e2:(op == CmpOp.NotIn)=false:=by cases op <;> first | rfl | exact absurd rfl h2
 cases b <;> simp [behindInMarks,e1,e2]
theorem b4e {op:CmpOp}{r:R2}(ho:OpR X (compareOp op) r)(ha:PE X a ta)(hb:PE X b tb)(hm:behindInMarks op b=false):PE X (.Compare a [op] [b] pos) (tOp r ta tb):=by
 intro pins s σ H Q I h;exact wpAny_Compare1 (b7P ha hb I h λv u s2 x y H2 I2 rx ry q=>ho pins s2 σ H2 x y v u Q I2 rx ry q) hm
def b6H (t:TE):TT:=fun σ H Q=>t σ H λx H'=>∃ k,x = .bl k/\Q k H'
theorem i8 {op:CmpOp}{r:R2}(ho:OpR X (compareOp op) r)(ha:PE X a ta)(hb:PE X b tb)(hm:behindInMarks op b=false):PT X (.Compare a [op] [b] pos) (b6H (tOp r ta tb)):=by
 intro pins s σ H Q I h;refine wpAny_isTrue_Compare1 (thn (ha pins s σ H _ I h) λv s1 ⟨x,H1,I1,r1,q1⟩=>thn (hb pins s1 σ H1 _ I1 q1) λu s2 ⟨y,H2,I2,r2,q2⟩ =>
  thn (ho pins s2 σ H2 x y v u _ I2 r1 r2 q2) λc s3 ⟨z,H3,I3,r3,k,e,q3⟩=>?_) hm
 subst e;cases r3;exact wpAny_truthy_bool ⟨H3,I3,q3⟩
def b2q (r r':R2)(ta tb tc:TE):TE:=fun σ H Q=>ta σ H λx H1=>tb σ H1 λy H2=>r x y H2 λz H3=>∃ k,z = .bl k /\
 (if k=true then tc σ H3 λw' H4=>r' y w' H4 Q else Q (.bl false) H3)
theorem a9R {op op':CmpOp}{r r':R2}(ho:OpR X (compareOp op) r)(ho':OpR X (compareOp op') r')(ha:PE X a ta)(hb:PE X b tb)(hc:PE X c tc)
  (hm:lastMarks [op,op'] [b,c]=false:=by with_unfolding_all rfl):PE X (.Compare a [op,op'] [b,c] pos) (b2q r r' ta tb tc):=by
 intro pins s σ H Q I h;refine Compare_chain (thn (ha pins s σ H _ I h) λv s1 ⟨x,H1,I1,r1,q1⟩=>chain_link (thn (hb pins s1 σ H1 _ I1 q1) λu s2 ⟨y,H2,I2,r2,q2⟩ =>
  thn (ho pins s2 σ H2 x y v u _ I2 r1 r2 q2) λd s3 ⟨z,H3,I3,r3,k,e,q3⟩=>?_)) hm
 subst e;cases r3;refine wpAny_truthy_bool ?_;cases k with
 | false=>exact ite_ff ⟨.bl false,H3,I3,rfl,q3⟩
 | true=>exact ite_tt (chain_last (thn (hc pins s3 σ H3 _ I3 q3) λw' s4 ⟨z',H4,I4,r4,q4⟩=>ho' pins s4 σ H4 y z' u w' Q I4 r2 r4 q4))
theorem a9o {op op':CmpOp}{r r':R2}(ho:OpR X (compareOp op) r)(ho':OpR X (compareOp op') r')(ha:PE X a ta)(hb:PE X b tb)(hc:PE X c tc)
  (hm:lastMarks [op,op'] [b,c]=false:=by with_unfolding_all rfl):PT X (.Compare a [op,op'] [b,c] pos) (b6H (b2q r r' ta tb tc)):=by
 intro pins s σ H Q I h;refine isTrue_chain (thn (ha pins s σ H _ I h) λv s1 ⟨x,H1,I1,r1,q1⟩=>test_link (thn (hb pins s1 σ H1 _ I1 q1) λu s2 ⟨y,H2,I2,r2,q2⟩ =>
  thn (ho pins s2 σ H2 x y v u _ I2 r1 r2 q2) λd s3 ⟨z,H3,I3,r3,k,e,q3⟩=>?_)) hm
 subst e;cases r3;refine wpAny_truthy_bool ?_;cases k with
 | false =>
  obtain ⟨k',e',q'⟩:=q3;cases e';exact ite_ff ⟨H3,I3,q'⟩
 | true =>
  refine ite_tt (test_last (thn (hc pins s3 σ H3 _ I3 q3) λw' s4 ⟨z',H4,I4,r4,q4⟩=>thn (ho' pins s4 σ H4 y z' u w' _ I4 r2 r4 q4) λd' s5 ⟨z2,H5,I5,r5,k2,e2,q5⟩=>?_));subst e2;cases r5;exact wpAny_truthy_bool ⟨H5,I5,q5⟩
def b8P (K:PySem.W.Frag)(x:V)(H:Hp)(k:Bool):Prop :=
 match x with
 | .non=>k=false
 | .bl b=>k=b
 | .int i=>k=(i != 0)
 | .str y=>y.length <= sizeLine/\k=((y.length:Int) != 0)
 | .byt y=>y.size <= sizeLine/\k=((y.size:Int) != 0)
 | .ref p=>(∃ xs,SqL K H p xs/\k = !xs.isEmpty) \/ (∃ xs,SqT K H p xs/\k = !xs.isEmpty) \/ ∃ kvs,H p=some (.dK kvs)/\k = !kvs.isEmpty
 | _=>False
theorem b5a {κ:Type}{kvs:List (κ × V)}{vs:List (κ × Value)}(r:KV kvs vs):(!vs.isEmpty) = !kvs.isEmpty:=by
 cases r <;> rfl
theorem a5A {xs:List V}{its:List Value}(r:n0 xs its):(!its.toArray.isEmpty) = !xs.isEmpty:=by
 cases r <;> simp
theorem a7s:(sizeLine:Nat) < 2 ^ 63:=by rw [sizeLine_eq];decide
theorem b9I:b1X X (λx H Q=>∃ k,b8P X.K x H k/\Q k H):=by
 intro pins s σ H x v Q I rx h;obtain ⟨k,e,q⟩:=h;have hl:=a7s;have hs:sizeLine=16777216:=sizeLine_eq;cases x with
 | non =>
  cases rx;have e':k=false:=e;subst e';exact truthy_none ⟨H,I,q⟩
 | bl b =>
  cases rx;have e':k=b:=e;subst e';exact wpAny_truthy_bool ⟨H,I,q⟩
 | int i =>
  obtain ⟨t,rfl⟩:=rx;have e':k=(i != 0):=e;subst e';exact PySem.P.truthy_int ⟨H,I,q⟩
 | str y =>
  obtain ⟨t,rfl⟩:=rx;obtain ⟨hy,e'⟩:y.length <= sizeLine/\k=((y.length:Int) != 0):=e;subst e';exact PySem.P.truthy_str (by omega) ⟨H,I.tok _,q⟩
 | byt y =>
  obtain ⟨t,rfl⟩:=rx;obtain ⟨hy,e'⟩:y.size <= sizeLine/\k=((y.size:Int) != 0):=e;subst e';exact PySem.W.truthy_bytes (by omega) ⟨H,I.tok _,q⟩
 | ref p =>
  cases rx;have e':(∃ xs,SqL X.K H p xs/\k = !xs.isEmpty) \/ (∃ xs,SqT X.K H p xs/\k = !xs.isEmpty) \/ ∃ kvs,H p=some (.dK kvs)/\k = !kvs.isEmpty:=e
  rcases e' with ⟨xs,hx,e'⟩ | ⟨xs,hx,e'⟩ | ⟨kvs,hx,e'⟩
  ·subst e';obtain ⟨its,r,pl,hz⟩:=I.list hx;have hlen:=r.length;exact wpAny_truthy_list pl.isList (by simp only [List.size_toArray];omega) ⟨H,I.tok _,by rw [a5A r];exact q⟩
  ·subst e';obtain ⟨its,r,pl,hz⟩:=I.tuple hx;have hlen:=r.length;exact truthy_tuple pl (by simp only [List.size_toArray];omega) ⟨H,I.tok _,by rw [a5A r];exact q⟩
  ·subst e';obtain ⟨hz,hS,vs,r,m⟩:kvs.length <= sizeLine/\(p == sysModules)=false/\∃ vs,KV kvs vs/\s.heap.DictOf (t7 X.prog X.w) p vs:=I.hok p _ hx;have hlen:kvs.length=vs.length:=Paired.length r;exact wpAny_truthy_dict hS m (by omega) ⟨H,I.tok _,by rw [b5a r];exact q⟩
 | _=>exact (show False from e).elim
theorem b4s (ha:PE X a ta)(he:∀ whole,isTrue a X.env whole=(do let v ← whole;standAt a.pos;holding [v] (truthy v))) :
  PT X a (fun σ H Q=>ta σ H λx H'=>∃ k,b8P X.K x H' k/\Q k H'):=by
 intro pins s σ H Q I h;exact isTrue_plain (thn (ha pins s σ H _ I h) λv s1 ⟨x,H1,I1,r1,q1⟩=>b9I pins s1 σ H1 x v Q I1 r1 q1) (he _)
theorem X7 {x:V}{us:List Value}(r:n0 [x] us):∃ u,us=[u]/\n4 x u:=by
 cases r with
 | cons r1 r2=>cases r2;exact ⟨_,rfl,r1⟩
theorem a7P {x y:V}{us:List Value}(r:n0 [x,y] us):∃ u w',us=[u,w']/\n4 x u/\n4 y w':=by
 cases r with
 | cons r1 r2 =>
  cases r2 with
  | cons r3 r4=>cases r4;exact ⟨_,_,rfl,r1,r3⟩
theorem a5t (hc:X.calm=true):A8 X (.builtin "max") (λxs H Q=>∃ i j,xs=[.int i,.int j]/\Q (.int (if j > i then j else i)) H):=by
 intro pins s σ H xs us Q I r h;obtain ⟨i,j,rfl,q⟩:=h;obtain ⟨u,w',rfl,⟨t,rfl⟩,⟨t',rfl⟩⟩:=a7P r;refine max_two_ints (I.ok.hd hc) λh' tk k=>⟨_,H,I.kept k,?_,q⟩
 by_cases hj:j > i
 ·rw [if_pos hj,if_pos hj];exact ⟨_,rfl⟩
 ·rw [if_neg hj,if_neg hj];exact ⟨_,rfl⟩
theorem V5 (hc:X.calm=true):A8 X (.builtin "min") (λxs H Q=>∃ i j,xs=[.int i,.int j]/\Q (.int (if j < i then j else i)) H):=by
 intro pins s σ H xs us Q I r h;obtain ⟨i,j,rfl,q⟩:=h;obtain ⟨u,w',rfl,⟨t,rfl⟩,⟨t',rfl⟩⟩:=a7P r;refine min_two_ints (I.ok.hd hc) λh' tk k=>⟨_,H,I.kept k,?_,q⟩
 by_cases hj:j < i
 ·rw [if_pos hj,if_pos hj];exact ⟨_,rfl⟩
 ·rw [if_neg hj,if_neg hj];exact ⟨_,rfl⟩
theorem b3o:A8 X (.type "int") (λxs H Q=>(∃ i,xs=[.int i]/\Q (.int i) H) \/ ∃ k,xs=[.bl k]/\Q (.int (if k then 1 else 0)) H):=by
 intro pins s σ H xs us Q I r h
 rcases h with ⟨i,rfl,q⟩ | ⟨k,rfl,q⟩
 ·obtain ⟨u,rfl,t,rfl⟩:=X7 r;exact call_int_int ⟨.int i,H,I,⟨_,rfl⟩,q⟩
 ·obtain ⟨u,rfl,r1⟩:=X7 r;cases r1;exact call_int_bool ⟨.int (if k then 1 else 0),H,I.tok _,⟨_,rfl⟩,q⟩
def b2Q (K:PySem.W.Frag)(x:V)(H:Hp)(n:Nat):Prop :=
 match x with
 | .str y=>y.length <= sizeLine/\n=y.length
 | .byt y=>y.size <= sizeLine/\n=y.size
 | .ref p=>(∃ xs,SqL K H p xs/\n=xs.length) \/ ∃ xs,SqT K H p xs/\n=xs.length
 | _=>False
theorem b4x:A8 X (.builtin "len") (λxs H Q=>∃ x n,xs=[x]/\b2Q X.K x H n/\Q (.int n) H):=by
 intro pins s σ H xs us Q I r h;obtain ⟨x,n,rfl,e,q⟩:=h;obtain ⟨u,rfl,rx⟩:=X7 r;have hl:=a7s;have hs:sizeLine=16777216:=sizeLine_eq;cases x with
 | str y =>
  obtain ⟨t,rfl⟩:=rx;obtain ⟨hy,e'⟩:y.length <= sizeLine/\n=y.length:=e;subst e';exact len_str (by omega) ⟨.int _,H,I.tok _,⟨_,rfl⟩,q⟩
 | byt y =>
  obtain ⟨t,rfl⟩:=rx;obtain ⟨hy,e'⟩:y.size <= sizeLine/\n=y.size:=e;subst e';exact PySem.W.len_bytes (by omega) ⟨.int _,H,I.tok _,⟨_,rfl⟩,q⟩
 | ref p =>
  cases rx;have e':(∃ xs,SqL X.K H p xs/\n=xs.length) \/ ∃ xs,SqT X.K H p xs/\n=xs.length:=e
  rcases e' with ⟨xs,hx,e'⟩ | ⟨xs,hx,e'⟩
  ·subst e';obtain ⟨its,r',pl,hz⟩:=I.list hx;have hlen:=r'.length;exact Calls.call_len_list pl.isList (by simp only [List.size_toArray];omega) ⟨.int xs.length,H,I.tok _,⟨_,by simp only [List.size_toArray];rw [hlen]⟩,q⟩
  ·subst e';obtain ⟨its,r',pl,hz⟩:=I.tuple hx;have hlen:=r'.length;exact len_tuple pl (by simp only [List.size_toArray];omega) ⟨.int xs.length,H,I.tok _,⟨_,by simp only [List.size_toArray];rw [hlen]⟩,q⟩
 | _=>exact (show False from e).elim
end
end L2
namespace L2
open PySem PySem.Spec PyProof.Rows
structure b4c (h:Heap)(x dx C:Addr)(mA:Str->Option Value):Prop where
 obj:h.get? x=some (PySem.W.instObj C dx)
 ns:h.Ns1 dx mA
 ne:dx≠x
theorem b2m {h:Heap}{dx:Addr}{mA:Str->Option Value}(n:h.Ns1 dx mA):∃ od,h.get? dx=some od/\∀ name,PySem.W.lookIn name od=some (mA name):=by
 obtain ⟨o,es,ep,ho,hd,hk,_,hm⟩:=n;refine ⟨o,ho,λname=>?_⟩;have e:=hm name;unfold nsFind findBy at e;rw [← Array.find?_toList] at e;unfold PySem.W.lookIn;rw [hd];dsimp only
 split
 ·rename_i y q
  rw [q] at e;exact congrArg some e
 ·rename_i q
  rw [q] at e;have a:es.toList.any (·.refKey)=false:=by
   rw [List.any_eq_false];intro y hy;obtain ⟨z,t,hkey⟩:=hk y (Array.mem_toList_iff.mp hy)
   simp [DictEntry.refKey,hkey]
  have a':¬ es.toList.any (·.refKey)=true:=by rw [a];exact Bool.false_ne_true
  rw [if_neg a'];exact congrArg some e
theorem b4c.look {h:Heap}{x dx C:Addr}{mA:Str->Option Value}(I:b4c h x dx C mA):∃ od,PySem.W.InstAt h x (PySem.W.instObj C dx) C (some od)/\∀ name,PySem.W.lookIn name od=some (mA name) :=
 let ⟨od,ho,hl⟩:=b2m I.ns
 ⟨od,⟨I.obj,rfl,rfl,ho⟩,hl⟩
section
variable {prog:Program}{w:World}{A:Around}{E:Value->Shared->Prop}{s:Shared}{K:PySem.W.Frag}{x dx C f:Addr}{mA:Str->Option Value}{name:Str}{v:Value}
theorem b9F {expr:Bool}{Q:Value->Shared->Prop}(X:K.In s.heap)(I:b4c s.heap x dx C mA)(hg:PySem.W.plainGet K C name=true)(hh:PySem.W.hasDictIn K C=true)
  (ha:PySem.W.findIn K (.ref C) name=some none) (hv:mA name=some v) (hv':PySem.W.handedIn v=true) (h:Q v { s with toks:=s.toks + 1 }) :
  wpAny (model prog w) A (getAttr (.ref x) name expr) Q E s:=by
 obtain ⟨od,J,hl⟩:=I.look;exact PySem.W.get_value X J (PySem.W.plainGet_of hg).1 (PySem.W.findObj_own hh ha rfl (by rw [hl,hv])) hv' h
theorem b7v {pl:Sem Bool}{Q:Value × List Value->Shared->Prop}(X:K.In s.heap)(I:b4c s.heap x dx C mA)(hg:PySem.W.plainGet K C name=true)
  (hf:PySem.W.findIn K (.ref C) name=some (some (.ref f))) (ht:PySem.W.isFn K (.ref f)=true) (hv:mA name=none) (h:Q (.ref f,[.ref x]) s) :
  wpAny (model prog w) A (getMethod (.ref x) name pl) Q E s:=by
 obtain ⟨od,J,hl⟩:=I.look;exact PySem.W.method_fn X J (PySem.W.plainGet_of hg).1 (PySem.W.plainGet_of hg).2 hf (beq_iff_eq.mp ht) (by show (PySem.W.lookIn name od).map (·.isSome)=some false;rw [hl,hv];rfl) h
theorem b5B {ns:List Str}{Q:Unit->Shared->Prop}(X:K.In s.heap)(I:b4c s.heap x dx C mA)
  (hs:PySem.W.findIn K (.ref C) "__setattr__" = some (some (.builtin "object.__setattr__"))) (hp:PySem.W.plainOver K C=true) (ht:PySem.W.takerIn K C name=some none) (hh:PySem.W.hasDictIn K C=true)
  (hw:PySem.Within mA ns) (hsz:ns.length <= sizeLine)
  (h:∀ h',b4c h' x dx C (λy=>if y=name then some v else mA y)->Heap.SameBut dx s.heap h'->Q () { s with heap:=h',toks:=s.toks + 2 }) :
  wpAny (model prog w) A (setAttr (.ref x) name v) Q E s:=by
 obtain ⟨od,J,hl⟩:=I.look;refine PySem.W.set_plain X J hs (PySem.W.osa_open (s:={ s with toks:=s.toks + 1 }) (r:=none) X J hp ht λb=>?_);obtain ⟨cd,hc,hd'⟩:=PySem.W.any_some hh;have hx:s.heap.get? x=some ⟨.ref C,some dx,.plain,#[]⟩:=I.obj;refine wpAny_bind (wpAny_pure (wpAny_bind (wpAny_bind (wpAny_loadPart hx (wpAny_bind (PySem.W.Looks.here (s:={ s with toks:=s.toks + 1 }) (PySem.W.looks_clsIn X hc) ?_))))));rw [hd'];refine wpAny_pure (a:=some dx) (wpAny_bind (wpAny_pure (wpAny_bind ?_)));refine wpAny_nsSet1 (s:={ s with toks:=s.toks + 1 }) I.ns λh' hn2 hs2=>?_;obtain ⟨oD,esD,epD,hoD,hdD,hcD⟩:=hn2.count (PySem.Within.cons name v hw);refine wpAny_bind (wpAny_lookBehind hoD (by rw [hdD];exact pastItsLine_dict (Nat.le_trans hcD (by rw [List.length_cons];omega))) ?_);exact wpAny_pure (h _ ⟨(hs2.2 _ (Ne.symm I.ne)).trans I.obj,hn2,I.ne⟩ hs2)
theorem b1u {R:Result->Shared->Prop}{vs:List Value}{kw:List (Str × Value)}(X:K.In s.heap)(hm:PySem.W.makesIn K C=true)
  (hi:PySem.W.findIn K (.ref C) "__init__" = some (some (.ref f))) (hf:PySem.W.typeIn K (.ref f)=some (.type "function"))
  (h:codeAny (model prog w) (A.under (.builtin "type.__call__" ⟨.ref C :: vs,kw⟩)) (.call (.ref f) ⟨.ref (s.heap.objs.size + 1) :: vs,kw⟩) (PySem.W.InitBack (s.heap.objs.size + 1) R)
   { s with heap:=(s.heap.push PySem.W.emptyDict).push (PySem.W.instObj C s.heap.objs.size) }) :
  codeAny (model prog w) A (.call (.ref C) ⟨vs,kw⟩) R s:=by
 obtain ⟨hh,g,d,t,os⟩:=s;exact PySem.W.make_core (PySem.W.makes_of X hm) (PySem.W.looks_findIn X hi) (λself=>PySem.W.bind_fn X self hf) (.inl rfl) h
end
def N5 (f:Str)(v:V):List (Str × V)->List (Str × V)
 | []=>[(f,v)]
 | (g,x) :: r=>if g=f then (g,v) :: r else (g,x) :: N5 f v r
theorem a9u (f g:Str)(v:V):∀ fs:List (Str × V),(N5 f v fs).lookup g=if g=f then some v else fs.lookup g
 | []=>by
  show List.lookup g [(f,v)]=_
  by_cases h:g=f
  ·have hb:(g == f)=true:=beq_iff_eq.mpr h;simp only [List.lookup,hb,if_pos h]
  ·have hb:(g == f)=false:=beq_eq_false_iff_ne.mpr h;simp only [List.lookup,hb,if_neg h]
 | (k,x) :: r=>by
  have ih:=a9u f g v r;rw [show N5 f v ((k,x) :: r)=(if k=f then (k,v) :: r else (k,x) :: N5 f v r) from rfl]
  by_cases hk:k=f
  ·rw [if_pos hk]
   by_cases h:g=k
   ·have hb:(g == k)=true:=beq_iff_eq.mpr h;simp only [List.lookup,hb,if_pos (h.trans hk)]
   ·have hb:(g == k)=false:=beq_eq_false_iff_ne.mpr h;simp only [List.lookup,hb,if_neg (λe:g=f=>h (e.trans hk.symm))]
  ·rw [if_neg hk]
   by_cases h:g=k
   ·have hb:(g == k)=true:=beq_iff_eq.mpr h;simp only [List.lookup,hb,if_neg (λe:g=f=>hk (h.symm.trans e))]
   ·have hb:(g == k)=false:=beq_eq_false_iff_ne.mpr h;simp only [List.lookup,hb];exact ih
theorem a8s (f:Str)(v:V):∀ fs:List (Str × V),f∈(N5 f v fs).map (·.1)/\∀ g,g∈fs.map (·.1)->g∈(N5 f v fs).map (·.1)
 | []=>⟨by simp [N5],λg h=>by simp at h⟩
 | (k,x) :: r=>by
  obtain ⟨i1,i2⟩:=a8s f v r;rw [show N5 f v ((k,x) :: r)=(if k=f then (k,v) :: r else (k,x) :: N5 f v r) from rfl]
  by_cases hk:k=f
  ·rw [if_pos hk];subst hk;exact ⟨by simp,λg h=>by simpa using h⟩
  ·rw [if_neg hk];refine ⟨?_,λg h=>?_⟩
   ·rw [List.map_cons];exact List.mem_cons_of_mem _ i1
   ·rw [List.map_cons] at h ⊢
    rcases List.mem_cons.mp h with e | e
    ·exact List.mem_cons.mpr (.inl e)
    ·exact List.mem_cons_of_mem _ (i2 g e)
theorem a1v (f:Str)(v:V):∀ fs:List (Str × V),(N5 f v fs).length <= fs.length + 1
 | []=>by simp [N5]
 | (k,x) :: r=>by
  have ih:=a1v f v r;rw [show N5 f v ((k,x) :: r)=(if k=f then (k,v) :: r else (k,x) :: N5 f v r) from rfl]
  by_cases hk:k=f
  ·rw [if_pos hk,List.length_cons,List.length_cons];omega
  ·rw [if_neg hk,List.length_cons,List.length_cons];omega
theorem Y5.some_of {v:V}{o:Option Value}(r:Y5 (some v) o):∃ u,o=some u/\n4 v u:=by
 cases o with
 | none=>exact (show False from r).elim
 | some u=>exact ⟨u,rfl,r⟩
theorem Y5.none_of {o:Option Value}(r:Y5 none o):o=none:=by
 cases o with
 | none=>rfl
 | some u=>exact (show False from r).elim
theorem b2n {v:V}{u:Value}(r:n4 v u):PySem.W.handedIn u=true:=by
 cases v with
 | non=>cases (show u=Value.none from r);rfl
 | bl b=>cases (show u=Value.bool b from r);rfl
 | int i=>obtain ⟨t,e⟩:=(show ∃ t,u=Value.int i t from r);cases e;rfl
 | str x=>obtain ⟨t,e⟩:=(show ∃ t,u=Value.str x t from r);cases e;rfl
 | byt b=>obtain ⟨t,e⟩:=(show ∃ t,u=Value.bytes b t from r);cases e;rfl
 | flt b=>obtain ⟨t,e⟩:=(show ∃ t,u=Value.float b t from r);cases e;rfl
 | ref a=>cases (show u=Value.ref a from r);rfl
 | ty n=>cases (show u=Value.type n from r);rfl
section
variable {P:Program}{w:World}{H H':Hp}{h h':Heap}{a C dx:Addr}{fs fs':List (Str × V)}
theorem a3x (hok:HOk P w H h)(e:H a=some (.ins C dx fs)):∃ mA,b4c h a dx C mA/\(∀ f,Y5 (fs.lookup f) (mA f))/\PySem.Within mA (fs.map (·.1))/\fs.length <= 1000/\H dx=some (.own a):=by
 obtain ⟨d,z,ne,ob,mA,n,r,q⟩:=(show n8 P w H h a (.ins C dx fs) from hok a _ e);exact ⟨mA,⟨ob,n,ne⟩,r,q,z,d⟩
end
structure Cls (K:PySem.W.Frag)(C:Addr):Prop where
 pg:PySem.W.plainGet K C Str.empty=true
 hd:PySem.W.hasDictIn K C=true
 po:PySem.W.plainOver K C=true
 sa:PySem.W.findIn K (.ref C) "__setattr__" = some (some (.builtin "object.__setattr__"))
theorem Cls.get {K:PySem.W.Frag}{C:Addr}(c:Cls K C)(f:Str):PySem.W.plainGet K C f=true:=c.pg
def L6 (K:PySem.W.Frag)(C:Addr)(f:Str):Prop:=PySem.W.findIn K (.ref C) f=some none
theorem L6.taker {K:PySem.W.Frag}{C:Addr}{f:Str}(n:L6 K C f):PySem.W.takerIn K C f=some none:=by
 unfold PySem.W.takerIn;rw [show PySem.W.findIn K (.ref C) f=some none from n]
 rfl
structure b5c (K:PySem.W.Frag)(C:Addr)(m:Str)(f:Addr):Prop where
 at_:PySem.W.findIn K (.ref C) m=some (some (.ref f))
 fn:PySem.W.isFn K (.ref f)=true
 kp:PySem.W.keepIn K (.ref f)=true
section
variable {X:Cx}{pins:List (Addr × Obj)}{σ:St}{H:Hp}{s:Shared}{a C dx:Addr}{fs:List (Str × V)}{f:Str}{v:V}{A:Around}{E:Value->Shared->Prop}
theorem b0b {b:Bool}{Q:Value->Shared->Prop}(I:Inv X pins σ H s)(e:H a=some (.ins C dx fs))(c:Cls X.K C)(n:L6 X.K C f)(l:fs.lookup f=some v)
  (h:∀ u s',Inv X pins σ H s'->n4 v u->Q u s'):wpAny (model X.prog X.w) A (getAttr (.ref a) f b) Q E s:=by
 obtain ⟨mA,O,r,_,_,_⟩:=a3x I.hok e;obtain ⟨u,hu,ru⟩:=Y5.some_of (v:=v) (o:=mA f) (by rw [← l];exact r f);exact b9F I.kIn O (c.get f) c.hd n hu (b2n ru) (h u _ (I.tok _) ru)
theorem a9m {m:Str}{g:Addr}{pl:Sem Bool}{Q:Value × List Value->Shared->Prop}(I:Inv X pins σ H s)(e:H a=some (.ins C dx fs))(c:Cls X.K C)(k:b5c X.K C m g)(l:fs.lookup m=none)
  (h:Q (.ref g,[.ref a]) s):wpAny (model X.prog X.w) A (getMethod (.ref a) m pl) Q E s:=by
 obtain ⟨mA,O,r,_,_,_⟩:=a3x I.hok e;have hn:mA m=none:=Y5.none_of (by rw [← l];exact r m);exact b7v I.kIn O (c.get m) k.at_ k.fn hn h
theorem a5Y {y:V}{u:Value}{Q:Unit->Shared->Prop}(I:Inv X pins σ H s)(e:H a=some (.ins C dx fs))(c:Cls X.K C)(n:L6 X.K C f)(hl:fs.length < 1000)(ry:n4 y u)
  (h:∀ s',Inv X pins σ (upd H a (.ins C dx (N5 f y fs))) s'->Q () s'):wpAny (model X.prog X.w) A (setAttr (.ref a) f u) Q E s:=by
 obtain ⟨mA,O,r,wi,_,ho⟩:=a3x I.hok e;have hz:(fs.map (·.1)).length <= sizeLine:=by rw [List.length_map,sizeLine_eq];omega
 refine b5B I.kIn O c.sa c.po n.taker c.hd wi hz λh' O' sb=>h _ ?_;have hd:∃ o,h'.get? dx=some o:=let ⟨o,_,_,e',_⟩:=O'.ns;⟨o,e'⟩;refine I.write (x:=a) (e:=dx) (by rw [e];exact True.intro) (.inr ho) (λb q hb z=>(sb.2 b hb).trans z) hd ?_;refine ⟨by rw [d5 O.ne];exact ho,?_,O.ne,O'.obj,_,O'.ns,λg=>?_,λg hg=>?_⟩
 ·have:=a1v f y fs;omega
 ·show Y5 ((N5 f y fs).lookup g) (if g=f then some u else mA g)
  rw [a9u]
  by_cases q:g=f
  ·rw [if_pos q,if_pos q];exact ry
  ·rw [if_neg q,if_neg q];exact r g
 ·by_cases q:g=f
  ·rw [q];exact (a8s f y fs).1
  ·refine (a8s f y fs).2 g (wi g λz=>hg ?_)
   show (if g=f then some u else mA g)=none
   rw [if_neg q];exact z
theorem Inv.made (I:Inv X pins σ H s):Inv X pins σ (upd (upd H s.heap.objs.size (.own (s.heap.objs.size + 1))) (s.heap.objs.size + 1) (.ins C s.heap.objs.size []))
  { s with heap:=(s.heap.push PySem.W.emptyDict).push (PySem.W.instObj C s.heap.objs.size) }:=by
 have e1:(s.heap.push PySem.W.emptyDict).get? s.heap.objs.size=some PySem.W.emptyDict:=Heap.get?_push_size s.heap rfl;have e2:((s.heap.push PySem.W.emptyDict).push (PySem.W.instObj C s.heap.objs.size)).get? (s.heap.objs.size + 1)=some (PySem.W.instObj C s.heap.objs.size):=by
  have:=Heap.get?_push_size (s.heap.push PySem.W.emptyDict) (o:=PySem.W.instObj C s.heap.objs.size) rfl
  rwa [Heap.size_push] at this
 have e3:(s.heap.push PySem.W.emptyDict).Ns s.heap.objs.size (λ_=>none):=⟨PySem.W.emptyDict,#[],_,e1,rfl,(λe he=>absurd he (by simp)),λ_=>rfl⟩;have I1:=I.laid (a:=s.heap.objs.size) (o:=.own (s.heap.objs.size + 1)) (h':=s.heap.push PySem.W.emptyDict) (t':=s.toks) (λb u q=>Heap.get?_push_of_some _ q) (Nat.le_refl _) ⟨_,e1⟩;refine I1.laid (a:=s.heap.objs.size + 1) (o:=.ins C s.heap.objs.size []) (t':=s.toks) (λb u q=>Heap.get?_push_of_some _ q) (Nat.le_of_eq (Heap.size_push _ _)) ?_;have ne:s.heap.objs.size ≠ s.heap.objs.size + 1:=Nat.ne_of_lt (Nat.lt_succ_self _);refine ⟨by rw [d5 ne,a8],Nat.zero_le _,ne,e2,λ_=>none,(Heap.Ns1.of_empty e3).at λo q=>Heap.get?_push_of_some _ q,λ_=>True.intro,λy hy=>absurd rfl hy⟩
theorem b1H {prog:Program}{w:World}{env:Env}{e:Expr}{f:Str}{pos:Pos}{s:Shared}{Q:Value->Shared->Prop}(hb:attributeBase e f env (eval e env)=eval e env)
  (h:wpAny (model prog w) A (eval e env) (λo s₁=>wpAny (model prog w) A (getAttr o f true) Q E s₁) E s):wpAny (model prog w) A (eval (.Attribute e f pos) env) Q E s :=
 Attribute_any_ h (by rw [arm_eval_Attribute,hb])
end
def b1R (K:PySem.W.Frag)(ta:TE)(f:Str):TE:=fun σ H Q=>ta σ H λx H1=>∃ a C dx fs v,x = .ref a/\H1 a=some (.ins C dx fs)/\Cls K C/\L6 K C f/\fs.lookup f=some v/\Q v H1
def b0W (K:PySem.W.Frag)(ta tv:TE)(f:Str):TS:=λD σ H=>tv σ H λy H1=>ta σ H1 λx H2=>∃ a C dx fs,x = .ref a/\H2 a=some (.ins C dx fs)/\Cls K C/\L6 K C f/\fs.length < 1000 /\
 D.nx σ (upd H2 a (.ins C dx (N5 f y fs)))
def b3X (X:Cx)(op:Operator)(rd:V->V->Hp->VK->Prop):Prop :=
 ∀ (pins:List (Addr × Obj)) (s:Shared) (σ:St) (H:Hp) (x y:V) (u v:Value) (Q:VK),Inv X pins σ H s->n4 x u->n4 y v->rd x y H Q->wpAny (model X.prog X.w) X.A (inplaceOp op u v) (EP X pins σ Q) X.xe s
section
variable {X:Cx}{o e value:Expr}{f:Str}{pos pos' tpos:Pos}{ta tv:TE}
theorem b5L (he:PE X e ta)(hb:attributeBase e f X.env (eval e X.env)=eval e X.env):PE X (.Attribute e f pos) (b1R X.K ta f):=by
 intro pins s σ H Q I h;refine b1H hb (thn (he pins s σ H _ I h) λu s1 ⟨x,H1,I1,rx,a,C,dx,fs,v,ex,ea,c,n,l,q⟩=>?_);subst ex;obtain rfl:u=Value.ref a:=rx;exact b0b I1 ea c n l λu' s2 I2 ru=>⟨v,H1,I2,ru,q⟩
theorem a7m (ha:PE X o ta)(hv:PE X value tv)(hs:swapsWith value (some (.Attribute o f pos')) pos.line X.env=pure false):PS X (.Assign [.Attribute o f pos'] value pos) (b0W X.K ta tv f):=by
 intro pins s σ H D I h;refine plainObj_wpAny_Assign_Attribute (thn (hv pins s σ H _ I h) λu s1 ⟨y,H1,I1,ry,q⟩=>thn (ha pins s1 σ H1 _ I1 q) λov s2 ⟨x,H2,I2,rx,a,C,dx,fs,ex,ea,c,n,l,q2⟩=>?_) hs;subst ex;obtain rfl:ov=Value.ref a:=rx;exact a5Y I2 ea c n l ry λs3 I3=>⟨σ,_,I3,q2⟩
theorem b4I {pl:Sem Bool}{m:Str}{apos:Pos}{args:List Expr}{pins:List (Addr × Obj)}{s:Shared}{σ:St}{H:Hp}{Q:Value->Shared->Prop}{te:TE}(he:PE X e te)(I:Inv X pins σ H s)
  (h:te σ H λx H1=>∃ a C dx fs g,x = .ref a/\H1 a=some (.ins C dx fs)/\Cls X.K C/\b5c X.K C m g/\fs.lookup m=none /\
   ∀ s1,Inv X pins σ H1 s1->wpAny (model X.prog X.w) X.A (callWith pos (.ref g) [.ref a] (backTo pos (starEach args X.env)) (backToKw pos (keywordEach [] X.env))) Q X.xe s1)
  (ht:eval (.Call (.Attribute e m apos) args [] pos) X.env=(do
   let ov ← eval e X.env
   standAt apos.atName
   let (f,first) ← holding [ov] (getMethod ov m pl)
   callWith pos f first (backTo pos (starEach args X.env)) (backToKw pos (keywordEach [] X.env)))) :
  wpAny (model X.prog X.w) X.A (eval (.Call (.Attribute e m apos) args [] pos) X.env) Q X.xe s:=by
 refine PySem.W.methodCall_KW (pl:=pl) (thn (he pins s σ H _ I h) λu s1 ⟨x,H1,I1,rx,a,C,dx,fs,g,ex,ea,c,k,l,q⟩=>?_) ht;subst ex;obtain rfl:u=Value.ref a:=rx;exact a9m I1 ea c k l (q s1 I1)
end
section
variable {X:Cx}{pins:List (Addr × Obj)}{σ:St}{H:Hp}{s:Shared}{A:Around}{E:Value->Shared->Prop}{Q:Value->Shared->Prop}{c:Value}{b:Bool}
inductive a6t (K:PySem.W.Frag)(H:Hp):V->Value->Prop where
 | non:a6t K H .non (.type "NoneType")
 | bl (x:Bool):a6t K H (.bl x) (.type "bool")
 | int (i:Int):a6t K H (.int i) (.type "int")
 | str (x:Str):a6t K H (.str x) (.type "str")
 | flt (x:UInt64):a6t K H (.flt x) (.type "float")
 | lst {a:Addr} {xs:List V} (e:H a=some (.lst xs)):a6t K H (.ref a) (.type "list")
 | frz {a:Addr} {o:Obj} {xs:List V} (e:H a=some (.frz o (.lst xs))):a6t K H (.ref a) (.type "list")
 | tup {a:Addr} {xs:List V} (e:H a=some (.tup xs)):a6t K H (.ref a) (.type "tuple")
 | dK {a:Addr} {kvs:List (Key × V)} (e:H a=some (.dK kvs)):a6t K H (.ref a) (.type "dict")
 | dT {a:Addr} {kvs:List (List Key × V)} (e:H a=some (.dT kvs)):a6t K H (.ref a) (.type "dict")
 | ins {a C dx:Addr} {fs:List (Str × V)} (e:H a=some (.ins C dx fs)) (cl:Cls K C) (ha:PySem.W.findIn K (.ref C) "__class__" = some (some (.builtin "object.__class__")))
   (hn:PySem.W.specialIn K (.builtin "object.__class__") "__get__" = some (some (.builtin "getset_descriptor.__get__"))) (htk:PySem.W.takesIn K (.builtin "object.__class__")=some true)
   (hm:PySem.W.mroIn K C (.type "object")=some true):a6t K H (.ref a) (.ref C)
theorem b6m {x:V}{u t:Value}(I:Inv X pins σ H s)(rx:n4 x u)(ty:a6t X.K H x t)(e:PySem.W.kitOne X.K t c=some b)(h:∀ tk,Q (.bool b) { s with toks:=tk }) :
  wpAny (model X.prog X.w) A (call (.builtin "isinstance") [u,c]) Q E s:=by
 cases ty with
 | non=>cases (show u=Value.none from rx);exact PySem.W.kia_one PySem.W.kitx_none I.kIn True.intro e (λz=>nomatch z) h
 | bl y=>cases (show u=Value.bool y from rx);exact PySem.W.kia_one PySem.W.kitx_bool I.kIn True.intro e (λz=>nomatch z) h
 | int i=>obtain ⟨t,q⟩:=(show ∃ t,u=Value.int i t from rx);cases q;exact PySem.W.kia_one PySem.W.kitx_int I.kIn True.intro e (λz=>nomatch z) h
 | str y=>obtain ⟨t,q⟩:=(show ∃ t,u=Value.str y t from rx);cases q;exact PySem.W.kia_one PySem.W.kitx_str I.kIn True.intro e (λz=>nomatch z) h
 | flt y=>obtain ⟨t,q⟩:=(show ∃ t,u=Value.float y t from rx);cases q;exact PySem.W.kia_one PySem.W.kitx_float I.kIn True.intro e (λz=>nomatch z) h
 | @lst a xs ea =>
  cases (show u=Value.ref a from rx);obtain ⟨_,_,n,_,h1⟩:=(show n8 X.prog X.w H s.heap a (.lst xs) from I.hok a _ ea);exact PySem.W.kia_one PySem.W.kitx_list I.kIn ⟨_,h1,rfl⟩ e (λz=>nomatch z) h
 | @frz a ob xs ea =>
  cases (show u=Value.ref a from rx);obtain ⟨_,_,_,n,_,h1⟩:=(show n8 X.prog X.w H s.heap a (.frz ob (.lst xs)) from I.hok a _ ea);exact PySem.W.kia_one PySem.W.kitx_list I.kIn ⟨_,h1,rfl⟩ e (λz=>nomatch z) h
 | @tup a xs ea =>
  cases (show u=Value.ref a from rx);obtain ⟨_,_,_,p⟩:=(show n8 X.prog X.w H s.heap a (.tup xs) from I.hok a _ ea);obtain ⟨o,h1,h2,_⟩:=p;exact PySem.W.kia_one PySem.W.kitx_tuple I.kIn ⟨o,h1,h2⟩ e (λz=>nomatch z) h
 | @dK a kvs ea =>
  cases (show u=Value.ref a from rx);obtain ⟨_,_,vs,_,p⟩:=(show n8 X.prog X.w H s.heap a (.dK kvs) from I.hok a _ ea);obtain ⟨o,es,ep,h1,h2,_⟩:=p;exact PySem.W.kia_one PySem.W.kitx_dict I.kIn ⟨o,h1,h2.1⟩ e (λz=>nomatch z) h
 | @dT a kvs ea =>
  cases (show u=Value.ref a from rx);obtain ⟨_,_,xs,_,o,es,ep,h1,h2,_⟩:=(show n8 X.prog X.w H s.heap a (.dT kvs) from I.hok a _ ea);exact PySem.W.kia_one PySem.W.kitx_dict I.kIn ⟨o,h1,h2.1⟩ e (λz=>nomatch z) h
 | @ins a C dx fs ea cl ha hn htk hm =>
  cases (show u=Value.ref a from rx);obtain ⟨mA,O,_⟩:=a3x I.hok ea;obtain ⟨od,J,_⟩:=O.look;exact PySem.W.kia_one (PySem.W.kitx_own (cl.get _) cl.hd ha hn htk hm) I.kIn J e (λz=>nomatch z) h
end
end L2
namespace L2
open PySem PySem.Spec PyProof.Rows
structure E9 (k:Nat)(A:Around):Prop where
 hd:A.handled=none
 dp:A.depth + 3 * k + 5 < recursionLimit
 un:A.units + 16 * k + 200 < cLine
theorem E9.mono {j k:Nat}{A:Around}(r:E9 k A)(h:j<=k):E9 j A:=⟨r.hd,by have:=r.dp;omega,by have:=r.un;omega⟩
theorem E9.deeper {k:Nat}{A:Around}(r:E9 (k + 1) A)(env:Env):E9 k (A.deeper env) :=
 ⟨r.hd,by have:=r.dp;show A.depth + 1 + 3 * k + 5 < _;omega,by have:=r.un;show A.units + 3 + 16 * k + 200 < _;omega⟩
theorem b4a {A:Around} {C:Addr} {us:List Value} {kw:List (Str × Value)}:(A.under (.builtin "type.__call__" ⟨.ref C :: us,kw⟩)).depth=A.depth + 1:=by
 first | rfl | simp [Around.under,Code.weight,Code.isCreation,Code.isGuard,Code.isCaller,Code.frames,Code.isFrame,guardIds]
theorem b3a {A:Around} {C:Addr} {us:List Value} {kw:List (Str × Value)}:(A.under (.builtin "type.__call__" ⟨.ref C :: us,kw⟩)).units=A.units + 1:=by
 first | rfl | simp [Around.under,Code.cUnits,Code.frames,Code.isFrame]
theorem E9.make {k:Nat} {A:Around} (r:E9 (k + 1) A) (C:Addr) (us:List Value) (kw:List (Str × Value)):E9 k (A.under (.builtin "type.__call__" ⟨.ref C :: us,kw⟩)) :=
 ⟨r.hd,by have:=r.dp;rw [b4a];omega,by have:=r.un;rw [b3a];omega⟩
theorem E9.depth {k:Nat}{A:Around}(r:E9 k A):A.depth < recursionLimit:=by have:=r.dp;omega
theorem E9.units {k:Nat}{A:Around}(r:E9 k A):A.units + 64 < cLine:=by have:=r.un;omega
def a6D:TA:=λ_ H Q=>Q [] H
def b5R (ta:TE)(tr:TA):TA:=fun σ H Q=>ta σ H λx H1=>tr σ H1 λxs H2=>Q (x :: xs) H2
section
variable {X:Cx}{e:Expr}{es:List Expr}{te:TE}{t:TA}{pos:Pos}
theorem a7:PA X [] a6D:=λ_ _ _ _ H Q I h=>Calls.spliced_nil ⟨[],H,I,.nil,h⟩
theorem a6 (ha:PE X e te)(hr:PA X es t)(hs:starEach (e :: es) X.env=(false,eval e X.env) :: starEach es X.env:=by rfl):PA X (e :: es) (b5R te t):=by
 intro pos pins s σ H Q I h;rw [hs]
 show wpAny _ _ (spliced ((false,eval e X.env) :: backTo pos (starEach es X.env))) _ _ s
 refine Calls.spliced_cons (thn (ha pins s σ H _ I h) λu s1 ⟨x,H1,I1,r1,q1⟩=>?_);exact thn (hr pos pins s1 σ H1 _ I1 q1) λus s2 ⟨xs,H2,I2,r2,q2⟩=>⟨x :: xs,H2,I2,.cons r1 r2,q2⟩
def b0V (t:TA):TE:=fun σ H Q=>t σ H λxs H1=>xs.length <= sizeLine/\∀ p,H1 p=none->Q (.ref p) (upd H1 p (.tup xs))
def b3V (t:TA):TE:=fun σ H Q=>t σ H λxs H1=>xs.length <= sizeLine/\∀ p,H1 p=none->Q (.ref p) (upd H1 p (.lst xs))
theorem u7 {x1}(h:PA X es t):PE X (.Tuple es x1 pos) (b0V t):=by
 intro pins s σ H Q I hq;refine wpAny_Tuple_spliced (thn (h pos pins s σ H _ I hq) λus s1 ⟨xs,H1,I1,r,z,q⟩=>⟨by rw [← r.length];exact z,?_⟩);have hf:H1 s1.heap.objs.size=none:=I1.hok.fresh (Nat.le_refl _);refine ⟨.ref s1.heap.objs.size,upd H1 s1.heap.objs.size (.tup xs),I1.laid (t':=s1.toks) (λb u e=>Heap.get?_push_of_some _ e) (Nat.le_refl _) ?_,rfl,q _ hf⟩;exact ⟨z,us,r,⟨_,Heap.get?_push_size _ rfl,rfl,_,rfl⟩⟩
theorem u3 (h:PA X es t):PE X (.List es pos) (b3V t):=by
 intro pins s σ H Q I hq;refine wpAny_List_spliced (thn (h pos pins s σ H _ I hq) λus s1 ⟨xs,H1,I1,r,z,q⟩=>⟨by rw [← r.length];exact z,?_⟩);have hf:H1 s1.heap.objs.size=none:=I1.hok.fresh (Nat.le_refl _);refine ⟨.ref s1.heap.objs.size,upd H1 s1.heap.objs.size (.lst xs),I1.laid (t':=s1.toks) (λb u e=>Heap.get?_push_of_some _ e) (Nat.le_refl _) ?_,rfl,q _ hf⟩;exact ⟨z,us,0,r,Heap.get?_push_size _ rfl⟩
end
abbrev Sp:=List V->Hp->VK->XK->Prop
abbrev CXT:=List Env->Hp->Shared->XK->Value->Shared->Prop
structure b7c (P:Program)(w:World)(K:PySem.W.Frag)(mg:Str->Option Value)(base:Heap)(A:Around)(outer:List Env)(s:Shared)(H:Hp):Prop where
 frames:A.frames=some outer
 mod:Mod K mg base
 bs:∀ b o,base.get? b=some o->s.heap.get? b=some o/\H b=none
 bsz:base.objs.size <= s.heap.objs.size
 funs:s.heap.FunFrames base outer
 frf:∀ b∈frs outer,H b=none
 hok:HOk P w H s.heap
 bare:AllBare s.gens
def CE (outer:List Env)(P:Program)(w:World)(H:Hp)(s:Shared)(Q:VK)(u:Value)(s':Shared):Prop :=
 ∃ v H',s'.os=s.os /\ AllBare s'.gens /\ Un (frs outer) [] H H' s.heap s'.heap /\ HOk P w H' s'.heap /\ n4 v u/\Q v H'
def CR (CX:CXT)(outer:List Env)(P:Program)(w:World)(H:Hp)(s:Shared)(Q:VK)(E:XK)(r:Result)(s':Shared):Prop :=
 match r with
 | .ok (.ret u)=>CE outer P w H s Q u s'
 | .ok _=>False
 | .error e=>CX outer H s E e s'
structure a7t (P:Program)(w:World)(K:PySem.W.Frag)(mg:Str->Option Value)(base:Heap)(CX:CXT)(k:Nat)(f:Addr)(fd:FuncData)(ps:List Str)(sp:Sp):Prop where
 len:∀ vs H Q E,sp vs H Q E->vs.length=ps.length
 run:∀ (A:Around) (outer:List Env) (s:Shared) (H:Hp) (args:Args) (us:List Value) (vs:List V) (Q:VK) (E:XK),E9 k A->b7c P w K mg base A outer s H->BindsTo s fd args (ps.zip us)->n0 vs us->sp vs H Q E ->
  codeAny (model P w) A (.call (.ref f) args) (CR CX outer P w H s Q E) s
theorem b7c.make {P:Program}{w:World}{K:PySem.W.Frag}{mg:Str->Option Value}{base:Heap}{A:Around}{outer:List Env}{s:Shared}{H:Hp}(e:b7c P w K mg base A outer s H)(C:Addr)(us:List Value)(kw:List (Str × Value)) :
  b7c P w K mg base (A.under (.builtin "type.__call__" ⟨.ref C :: us,kw⟩)) outer s H:=⟨by first | exact e.frames | (simpa [Around.under,Code.envs,Code.isFrame,pushEnvs] using e.frames),e.mod,e.bs,e.bsz,e.funs,e.frf,e.hok,e.bare⟩
section
variable {X:Cx}{pins:List (Addr × Obj)}{σ:St}{H:Hp}{s s':Shared}
theorem Inv.env0 (I:Inv X pins σ H s):b7c X.prog X.w X.K X.mg X.base X.A X.stack s H :=
 ⟨I.ok.frames,I.ok.mod,I.bs,Nat.le_trans I.ok.bsz I.sz,I.stack,I.stkFree,I.hok,I.bare⟩
theorem Inv.after {Q:VK}{u:Value}(I:Inv X pins σ H s)(h:CE X.stack X.prog X.w H s Q u s'):EP X pins σ Q u s':=by
 obtain ⟨v,H',os,bare,un,hok,r,q⟩:=h;obtain ⟨hh,g,d,t,os'⟩:=s';obtain rfl:os'=s.os:=os;exact ⟨v,H',I.call (h':=hh) (g':=g) (d':=d) (t':=t) (ch:=[]) un hok bare (λb z=>absurd z (by simp)),r,q⟩
end
def b8H (sp:Sp)(dvs:List V)(E:XK)(t:TA):TE:=fun σ H Q=>t σ H λvs H1=>sp (vs ++ dvs) H1 Q E
def b9c (C:Addr)(m:Str)(sp:Sp)(dvs:List V)(E:XK)(ta:TE)(t:TA):TE:=fun σ H Q=>ta σ H λx H1=>∃ a dx fs,x = .ref a/\H1 a=some (.ins C dx fs)/\fs.lookup m=none /\
 t σ H1 λvs H2=>sp (x :: (vs ++ dvs)) H2 Q E
def b7H (C:Addr)(sp:Sp)(dvs:List V)(E:XK)(t:TA):TE:=fun σ H Q=>t σ H λvs H1=>∀ x dx,H1 x=none->H1 dx=none->dx≠x ->
 sp (.ref x :: (vs ++ dvs)) (upd (upd H1 dx (.own x)) x (.ins C dx [])) (λv H2=>v = .non /\ Q (.ref x) H2) E
def Q6 (K:PySem.W.Frag)(fd:FuncData)(ps:List Str)(ds:List Value):Prop :=
 ∀ (s:Shared) (us:List Value),K.In s.heap -> (us ++ ds).length=ps.length -> BindsTo s fd ⟨us,[]⟩ (ps.zip (us ++ ds))
theorem Q6.all {K:PySem.W.Frag}{fd:FuncData}{ps:List Str}(h:∀ us:List Value,us.length=ps.length -> bindArgs fd ⟨us,[]⟩=pure (ps.zip us)):Q6 K fd ps []:=λs us _ hl=>by
 rw [List.append_nil] at hl ⊢;exact .of_eq (h us hl)
def a3n (CX:CXT)(X:Cx)(E:XK):Prop:=∀ (pins:List (Addr × Obj)) (σ:St) (H:Hp) (s:Shared) (e:Value) (s':Shared),Inv X pins σ H s->CX X.stack H s E e s'->X.xe e s'
section
variable {X:Cx}{CX:CXT}{k:Nat}{f C:Addr}{fd:FuncData}{ps:List Str}{sp:Sp}{dvs:List V}{ds:List Value}{E:XK}{x m:Str}{p pos apos:Pos}{e o:Expr}{es:List Expr}{ta:TE}{t:TA}
theorem a9Y {pins:List (Addr × Obj)}{σ:St}{H:Hp}{s:Shared}{Q:VK}{us:List Value}{vs:List V}(F:a7t X.prog X.w X.K X.mg X.base CX k f fd ps sp)(hr:E9 k X.A)(hb:Q6 X.K fd ps ds)(hd:n0 dvs ds)(hx:a3n CX X E)
  (I:Inv X pins σ H s) (r:n0 vs us) (h:sp (vs ++ dvs) H Q E):wpAny (model X.prog X.w) X.A (call (.ref f) us) (EP X pins σ Q) X.xe s:=by
 have r2:n0 (vs ++ dvs) (us ++ ds):=r.append hd;have hl:(us ++ ds).length=ps.length:=by rw [← r2.length];exact F.len _ _ _ _ h
 refine wpAny_call (codeAny_mono (F.run X.A X.stack s H ⟨us,[]⟩ (us ++ ds) (vs ++ dvs) Q E hr I.env0 (hb s us I.kIn hl) r2 h) λr s' hq=>?_);cases r with
 | error e=>exact hx pins σ H s e s' I hq
 | ok fl =>
  cases fl with
  | ret u=>exact I.after hq
  | next=>exact False.elim hq
  | brk=>exact False.elim hq
  | cont=>exact False.elim hq
theorem b4D (F:a7t X.prog X.w X.K X.mg X.base CX k f fd ps sp)(hr:E9 k X.A)(hg:Gl X x)(hm:X.mg x=some (.ref f))(hk:PySem.W.keepIn X.K (.ref f)=true)(hb:Q6 X.K fd ps ds)(hd:n0 dvs ds)(hx:a3n CX X E)
  (ha:PA X (e :: es) t) (hdb:(x == ("__debug__" : Str))=false:=by decide) (he:starEach (e :: es) X.env=(false,eval e X.env) :: starEach es X.env:=by rfl) (hpl:(backTo pos (starEach es X.env)).any (·.1)=false:=by rfl) :
  PE X (.Call (.Name x p) (e :: es) [] pos) (b8H sp dvs E t):=by
 intro pins s σ H Q I h;refine wpAny_Call_Name_kw (b5f I hg hm ?_ hdb);refine PySem.W.callWith_K (h₀:=X.base) I.ok.mod.kin hk (thn (ha pos pins s σ H _ I h) λus s1 ⟨vs,H1,I1,r,q⟩=>⟨I1.kIn,?_⟩) he hpl;exact a9Y F hr hb hd hx I1 r q
theorem b2D {pl:Sem Bool}(he:PE X o ta)(c:Cls X.K C)(hm:b5c X.K C m f)(F:a7t X.prog X.w X.K X.mg X.base CX k f fd ps sp)(hr:E9 k X.A)(hb:Q6 X.K fd ps ds)(hd:n0 dvs ds)(hx:a3n CX X E)(ha:PA X (e :: es) t)
  (hst:starEach (e :: es) X.env=(false,eval e X.env) :: starEach es X.env:=by rfl) (hpl:(backTo pos (starEach es X.env)).any (·.1)=false:=by rfl)
  (ht:eval (.Call (.Attribute o m apos) (e :: es) [] pos) X.env=(do
   let ov ← eval o X.env
   standAt apos.atName
   let (f,first) ← holding [ov] (getMethod ov m pl)
   callWith pos f first (backTo pos (starEach (e :: es) X.env)) (backToKw pos (keywordEach [] X.env))):=by rfl) :
  PE X (.Call (.Attribute o m apos) (e :: es) [] pos) (b9c C m sp dvs E ta t):=by
 intro pins s σ H Q I h;refine PySem.W.methodCall_KW (pl:=pl) (thn (he pins s σ H _ I h) λu s1 ⟨x,H1,I1,rx,a,dx,fs,ex,ea,l,q⟩=>?_) ht;subst ex;obtain rfl:u=Value.ref a:=rx;refine a9m I1 ea c hm l ?_;refine PySem.W.callWith_K (first:=[.ref a]) (h₀:=X.base) I.ok.mod.kin hm.kp (thn (ha pos pins s1 σ H1 _ I1 q) λus s2 ⟨vs,H2,I2,r,q2⟩=>⟨I2.kIn,?_⟩) hst hpl;exact a9Y (us:=.ref a :: us) (vs:=.ref a :: vs) F hr hb hd hx I2 (.cons rfl r) q2
theorem b2t {pl:Sem Bool}(he:PE X o ta)(c:Cls X.K C)(hm:b5c X.K C m f)(F:a7t X.prog X.w X.K X.mg X.base CX k f fd ps sp)(hr:E9 k X.A)(hb:Q6 X.K fd ps ds)(hd:n0 dvs ds)(hx:a3n CX X E)
  (ht:eval (.Call (.Attribute o m apos) [] [] pos) X.env=(do
   let ov ← eval o X.env
   standAt apos.atName
   let (f,first) ← holding [ov] (getMethod ov m pl)
   callWith pos f first (backTo pos (starEach [] X.env)) (backToKw pos (keywordEach [] X.env))):=by rfl) :
  PE X (.Call (.Attribute o m apos) [] [] pos) (b9c C m sp dvs E ta a6D):=by
 intro pins s σ H Q I h;refine PySem.W.methodCall_KW (pl:=pl) (thn (he pins s σ H _ I h) λu s1 ⟨x,H1,I1,rx,a,dx,fs,ex,ea,l,q⟩=>?_) ht;subst ex;obtain rfl:u=Value.ref a:=rx;refine a9m I1 ea c hm l ?_;exact PySem.W.callWith_K0 (first:=[.ref a]) I1.kIn hm.kp (a9Y (us:=[.ref a]) (vs:=[.ref a]) F hr hb hd hx I1 (.cons rfl .nil) q)
structure Mk (K:PySem.W.Frag)(C f:Addr):Prop where
 makes:PySem.W.makesIn K C=true
 init:PySem.W.findIn K (.ref C) "__init__" = some (some (.ref f))
 fn:PySem.W.isFn K (.ref f)=true
 kp:PySem.W.keepIn K (.ref C)=true
theorem b7r {pins:List (Addr × Obj)}{σ:St}{H:Hp}{s:Shared}{Q:VK}{us:List Value}{vs:List V}(M:Mk X.K C f)(F:a7t X.prog X.w X.K X.mg X.base CX k f fd ps sp)(hr:E9 (k + 1) X.A)(hb:Q6 X.K fd ps ds)(hd:n0 dvs ds)
  (hx:a3n CX X E) (I:Inv X pins σ H s) (r:n0 vs us)
  (h:∀ x dx,H x=none->H dx=none->dx≠x->sp (.ref x :: (vs ++ dvs)) (upd (upd H dx (.own x)) x (.ins C dx [])) (λv H2=>v = .non /\ Q (.ref x) H2) E) :
  wpAny (model X.prog X.w) X.A (call (.ref C) us) (EP X pins σ Q) X.xe s:=by
 have hq:=h (s.heap.objs.size + 1) s.heap.objs.size (I.hok.fresh (Nat.le_succ _)) (I.hok.fresh (Nat.le_refl _)) (Nat.ne_of_lt (Nat.lt_succ_self _));have I2:=Inv.made (C:=C) I;have r2:n0 (V.ref (s.heap.objs.size + 1) :: (vs ++ dvs)) (Value.ref (s.heap.objs.size + 1) :: (us ++ ds)):=.cons rfl (r.append hd);have hl:(Value.ref (s.heap.objs.size + 1) :: us ++ ds).length=ps.length:=by
  have e:=r2.length;rw [F.len _ _ _ _ hq] at e;exact e.symm
 refine wpAny_call (b1u (f:=f) I.kIn M.makes M.init (beq_iff_eq.mp M.fn) (codeAny_mono (F.run _ X.stack _ _ ⟨Value.ref (s.heap.objs.size + 1) :: us,[]⟩ (Value.ref (s.heap.objs.size + 1) :: (us ++ ds)) _ _ E (hr.make C us [])
  (I2.env0.make C us []) (hb _ (Value.ref (s.heap.objs.size + 1) :: us) I2.kIn hl) r2 hq) λr s' hq'=>?_))
 cases r with
 | error e=>exact hx pins σ _ _ e s' I2 hq'
 | ok fl =>
  cases fl with
  | ret u =>
   obtain ⟨v,H',I3,rv,ev,q3⟩:=I2.after hq';subst ev;exact ⟨rv,⟨V.ref (s.heap.objs.size + 1),H',I3,rfl,q3⟩⟩
  | next=>exact False.elim hq'
  | brk=>exact False.elim hq'
  | cont=>exact False.elim hq'
theorem b3D (M:Mk X.K C f)(F:a7t X.prog X.w X.K X.mg X.base CX k f fd ps sp)(hr:E9 (k + 1) X.A)(hg:Gl X x)(hm:X.mg x=some (.ref C))(hb:Q6 X.K fd ps ds)(hd:n0 dvs ds)(hx:a3n CX X E)
  (ha:PA X (e :: es) t) (hdb:(x == ("__debug__" : Str))=false:=by decide) (he:starEach (e :: es) X.env=(false,eval e X.env) :: starEach es X.env:=by rfl) (hpl:(backTo pos (starEach es X.env)).any (·.1)=false:=by rfl) :
  PE X (.Call (.Name x p) (e :: es) [] pos) (b7H C sp dvs E t):=by
 intro pins s σ H Q I h;refine wpAny_Call_Name_kw (b5f I hg hm ?_ hdb);refine PySem.W.callWith_K (h₀:=X.base) I.ok.mod.kin M.kp (thn (ha pos pins s σ H _ I h) λus s1 ⟨vs,H1,I1,r,q⟩=>⟨I1.kIn,?_⟩) he hpl;exact b7r M F hr hb hd hx I1 r q
end
structure e8 (N P:List Str)(sc:Scope):Prop where
 kind:sc.kind = .function
 co:sc.isCoroutine=false
 gen:sc.isGenerator=false
 nd:N.Nodup
 pre:N.take P.length=P
 par:∀ x∈P,sc.names.lookup x=some .local \/ sc.names.lookup x=some .cell
 nofree:∀ y∈sc.names,y.2 ≠ .free
theorem a7I {kindOf:Str->Option NameKind}{x:Str}:∀ {binds:List (Str × Value)} {m:Str->Option Value},(∀ v,(x,v) ∉ binds)->bindL kindOf binds m x=m x
 | [],_,_=>rfl
 | (n,v) :: r,m,h=>by
  unfold bindL;rw [a7I λw hw=>h w (List.mem_cons_of_mem _ hw)]
  split
  ·have:x≠n:=by rintro rfl;exact h v List.mem_cons_self
   simp [this]
  ·rfl
theorem a9I {kindOf:Str->Option NameKind}{x:Str}:∀ {binds:List (Str × Value)} {m:Str->Option Value},(∀ v,(x,v) ∉ binds)->bindC kindOf binds m x=m x
 | [],_,_=>rfl
 | (n,v) :: r,m,h=>by
  unfold bindC;rw [a9I λw hw=>h w (List.mem_cons_of_mem _ hw)]
  split
  ·rfl
  ·have:x≠n:=by rintro rfl;exact h v List.mem_cons_self
   simp [this]
theorem a8I {kindOf:Str->Option NameKind}{x:Str}{v:Value}:∀ {P:List Str} {vs:List Value} {i:Nat} {m:Str->Option Value},P.Nodup -> P[i]? = some x->vs[i]? = some v->kindOf x=some .local ->
  bindL kindOf (P.zip vs) m x=some v
 | [],_,_,_,_,h,_,_=>by simp at h
 | _ :: _,[],_,_,_,_,h,_=>by simp at h
 | p :: P,w :: vs,0,m,nd,h1,h2,hk=>by
  simp at h1 h2;subst h1;subst h2
  show bindL kindOf ((p,w) :: P.zip vs) m p=_
  unfold bindL;rw [a7I λv hv=>(List.nodup_cons.mp nd).1 (List.of_mem_zip hv).1,if_pos hk]
  simp
 | p :: P,w :: vs,i + 1,m,nd,h1,h2,hk=>by
  show bindL kindOf ((p,w) :: P.zip vs) m x=_
  unfold bindL;exact a8I (i:=i) (List.nodup_cons.mp nd).2 (by simpa using h1) (by simpa using h2) hk
theorem a0J {kindOf:Str->Option NameKind}{x:Str}{v:Value}:∀ {P:List Str} {vs:List Value} {i:Nat} {m:Str->Option Value},P.Nodup -> P[i]? = some x->vs[i]? = some v->kindOf x≠some .local ->
  bindC kindOf (P.zip vs) m x=some v
 | [],_,_,_,_,h,_,_=>by simp at h
 | _ :: _,[],_,_,_,_,h,_=>by simp at h
 | p :: P,w :: vs,0,m,nd,h1,h2,hk=>by
  simp at h1 h2;subst h1;subst h2
  show bindC kindOf ((p,w) :: P.zip vs) m p=_
  unfold bindC;rw [a9I λv hv=>(List.nodup_cons.mp nd).1 (List.of_mem_zip hv).1,if_neg hk]
  simp
 | p :: P,w :: vs,i + 1,m,nd,h1,h2,hk=>by
  show bindC kindOf ((p,w) :: P.zip vs) m x=_
  unfold bindC;exact a0J (i:=i) (List.nodup_cons.mp nd).2 (by simpa using h1) (by simpa using h2) hk
def Z0 (N:List Str)(vs:List V):St:=vs.map some ++ List.replicate (N.length - vs.length) none
def a7N (CX:CXT)(P:Program)(w:World)(K:PySem.W.Frag)(mg:Str->Option Value)(base:Heap)(N:List Str)(qual:Str)(scope:Scope)(f:Addr)(cd:Value)(A:Around)(outer:List Env)(s:Shared)(H:Hp)(E:XK):Cx where
 prog:=P
 w:=w
 K:=K
 mg:=mg
 base:=base
 A:=A.deeper (envOfC qual scope s.heap.objs.size f cd)
 N:=N
 sZ:=s
 HZ:=H
 env:=envOfC qual scope s.heap.objs.size f cd
 outer:=outer
 stack:=envOfC qual scope s.heap.objs.size f cd :: outer
 ex:=[]
 calm:=true
 fn:=λ_=>true
 pn:=[]
 xe:=λe s'=>wpAny (model P w) (A.deeper (envOfC qual scope s.heap.objs.size f cd)) (leaving (envOfC qual scope s.heap.objs.size f cd) e) (λ_ s''=>CX outer H s E e s'') (λe' s''=>CX outer H s E e' s'') s'
theorem a4V {sc:Scope}{n:Nat}{x:Str}(h:sc.names.lookup x=some .cell):∃ c,(cellsFrom n sc.names []).lookup x=some c:=by
 have q:=PySem.W.cellsFrom_some sc.names n [] (.inl h);exact Option.isSome_iff_exists.mp q
theorem b8m {CX:CXT}{P:Program}{w:World}{K:PySem.W.Frag}{mg:Str->Option Value}{base:Heap}{N ps:List Str}{qual:Str}{scope:Scope}{f:Addr}{cd:Value}{A:Around}{outer:List Env}{s s1:Shared}{H:Hp}{E:XK}{us:List Value}{vs:List V}
  (S:e8 N ps scope) (hd:A.handled=none) (e0:b7c P w K mg base A outer s H) (hl:vs.length=ps.length) (r:n0 vs us)
  (x:InCallC s s.heap.objs.size (bindL (envOfC qual scope s.heap.objs.size f cd).kindOf (ps.zip us) λ_=>none) (cellsFrom (s.heap.objs.size + 1) scope.names []) (bindC (envOfC qual scope s.heap.objs.size f cd).kindOf (ps.zip us) λ_=>none) s1) :
  Inv (a7N CX P w K mg base N qual scope f cd A outer s H E) [] (Z0 N vs) H s1:=by
 have hpl:ps.length <= N.length:=by have:=congrArg List.length S.pre;rw [List.length_take] at this;omega
 obtain ⟨h1,tk,rfl,hk⟩:=x.done;have noA:∀ b:Addr,b ∉ (a7N CX P w K mg base N qual scope f cd A outer s H E).ex:=λb z=>absurd (show b∈([]:List Addr) from z) (by simp);refine ⟨⟨e0.mod,S.kind,rfl,rfl,Nat.le_refl _,λy z c h1 h2=>?_,λy hy=>?_,λy c _ h=>?_,λ_=>hd,Around.frames_deeper e0.frames,.inr ⟨rfl,rfl⟩,λb z=>absurd z (noA b),e0.bs,e0.bsz,λb _ _=>noA b,λb z=>absurd z (noA b),e0.funs,e0.frf⟩,
  rfl,e0.bare,Un.kept hk,⟨_,x.toInCall.ns,λi y v h1 h2 h3=>?_⟩,λy c h=>⟨_,x.cell y c h⟩,e0.hok.fresh (Nat.le_refl _),λy c h=>?_,λp hp=>absurd (show p∈([]:List (Addr × Obj)) from hp) (by simp),e0.hok.kept hk,?_⟩
 ·exact name_of_addr x.apart (PySem.mem_of_lookup h1) (PySem.mem_of_lookup h2)
 ·have hy:scope.names.lookup y=some .cell \/ scope.names.lookup y=some .free:=hy
  rcases hy with hy | hy
  ·exact a4V hy
  ·exact absurd rfl (S.nofree _ (PySem.mem_of_lookup hy))
 ·exact Nat.le_of_lt (x.above y c (PySem.mem_of_lookup h))
 ·have hi:i < vs.length:=by
   unfold Z0 at h2
   by_cases hi:i < vs.length
   ·exact hi
   ·rw [List.getElem?_append_right (by simpa using hi)] at h2;rw [List.getElem?_replicate] at h2
    split at h2 <;> cases h2
  have ha:vs[i]? = some v:=by
   unfold Z0 at h2;rw [List.getElem?_append_left (by simpa using hi),List.getElem?_map] at h2;cases e:vs[i]? with
   | none=>rw [e] at h2;cases h2
   | some a=>rw [e] at h2;cases h2;rfl
  obtain ⟨u,hu,rv⟩:=r.get ha;have hp:ps[i]? = some y:=by
   rw [← S.pre,List.getElem?_take_of_lt (by omega)];exact h1
  have ndP:ps.Nodup:=by rw [← S.pre];exact S.nd.sublist (List.take_sublist _ _)
  refine ⟨u,rv,?_⟩
  rcases S.par y (List.mem_of_getElem? hp) with k | k
  ·exact .inl ⟨k,a8I ndP hp hu k⟩
  ·obtain ⟨c,e⟩:=a4V (n:=s.heap.objs.size + 1) k;refine .inr ⟨.inl k,c,e,?_⟩;have q:=x.cell y c e;rw [a0J ndP hp hu (by show scope.names.lookup y≠_;rw [k];decide)] at q;exact q
 ·exact e0.hok.fresh (Nat.le_of_lt (x.above y c (PySem.mem_of_lookup h)))
 ·unfold Z0
  show _=N.length
  rw [List.length_append,List.length_map,List.length_replicate]
  omega
theorem b6U {CX:CXT}{P:Program}{w:World}{K:PySem.W.Frag}{mg:Str->Option Value}{base:Heap}{k:Nat}{f:Addr}{name qual:Str}{params:Arguments}{body:List Stmt}{scope:Scope}{dV kV doc pm cdv ct oc:Value}{an od:Option Addr}
  {osl:Array (Option Value)} {N ps:List Str} {sp:Sp} (lk:K.lookup f=some ⟨oc,od,.func (PySem.W.fnOf name qual params body scope dV kV doc pm an cdv ct),osl⟩) (hcd:PySem.W.codeIn K cdv qual=true) (S:e8 N ps scope)
  (len:∀ vs H Q E,sp vs H Q E->vs.length=ps.length)
  (hbody:∀ (A:Around) (outer:List Env) (s:Shared) (H:Hp) (vs:List V) (Q:VK) (E:XK),E9 k (A.deeper (envOfC qual scope s.heap.objs.size f cdv))->sp vs H Q E ->
   ∃ t,PSs (a7N CX P w K mg base N qual scope f cdv A outer s H E) body t/\t { nx:=λ_ H'=>Q .non H',rt:=Q } (Z0 N vs) H) :
  a7t P w K mg base CX (k + 1) f (PySem.W.fnOf name qual params body scope dV kV doc pm an cdv ct) ps sp:=by
 refine ⟨len,λA outer s H args us vs Q E hr e0 hb r hsp=>?_⟩;have hl:=len _ _ _ _ hsp;have KX:K.In s.heap:=e0.mod.kin.keeps λb o e=>(e0.bs b o e).1;have lim:s.heap.NoLimit:=e0.mod.nolimit.keeps λb o e=>(e0.bs b o e).1;have hkind:∀ y∈ps.zip us,scope.names.lookup y.1=some .local \/ (scope.names.lookup y.1=some .cell /\ ((cellsFrom (s.heap.objs.size + 1) scope.names []).lookup y.1).isSome=true):=λ⟨n,v⟩ hy=>by
  rcases S.par n (List.of_mem_zip hy).1 with q | q
  ·exact .inl q
  ·exact .inr ⟨q,PySem.W.cellsFrom_some _ _ _ (.inl q)⟩
 refine codeAny_call_function hr.depth (KX _ _ lk) rfl S.co S.gen rfl (PySem.W.codeRec_of KX hcd) (hb _ _ _ _ ?_);refine wpAny_newFunctionEnv_cells S.kind hkind λenv he s1 x=>?_;subst he;refine ⟨lim.keeps x.toInCall.keep,codeAny_func ?_⟩;obtain ⟨t,ht,hq⟩:=hbody A outer s H vs Q E (hr.deeper _) hsp;have I:Inv (a7N CX P w K mg base N qual scope f cdv A outer s H E) [] (Z0 N vs) H s1:=b8m S hr.hd e0 hl r x;refine wpAny_mono (ht [] s1 (Z0 N vs) H _ I hq) (λfl s' hs=>?_) λe s' hs=>hs;have fin:∀ {σ':St} {H':Hp} {v:V} {u:Value},Inv (a7N CX P w K mg base N qual scope f cdv A outer s H E) [] σ' H' s'->n4 v u->Q v H'->CE outer P w H s Q u s' :=
  λ{σ' H' v u} J rv q=>⟨v,H',J.os,J.bare,J.base,J.hok,rv,q⟩
 cases fl with
 | ret u =>
  obtain ⟨v,σ',H',J,rv,q⟩:=hs;exact fin J rv q
 | next =>
  obtain ⟨σ',H',J,q⟩:=hs;exact fin (v:=V.non) (u:=Value.none) J rfl q
 | brk =>
  obtain ⟨_,_,_,q⟩:=hs;exact False.elim q
 | cont =>
  obtain ⟨_,_,_,q⟩:=hs;exact False.elim q
end L2
namespace L2
open PySem PySem.Spec PyProof.Rows
section
variable {X:Cx}{x:Str}{p pos:Pos}{e:Expr}{es:List Expr}{t:TA}{id T:String}{r:List V->Hp->VK->Prop}
def tCB (r:List V->Hp->VK->Prop)(t:TA):TE:=fun σ H Q=>t σ H λvs H1=>r vs H1 Q
theorem f8 (hc:A8 X (.builtin id) r) (hg:Gl X x) (hm:X.mg x=none) (hv:bootBuiltins x=some (.builtin id)) (ha:PA X (e :: es) t) (hn:x ≠ "__name__":=by decide) (hdb:(x == ("__debug__" : Str))=false:=by decide)
  (he:starEach (e :: es) X.env=(false,eval e X.env) :: starEach es X.env:=by rfl) (hpl:(backTo pos (starEach es X.env)).any (·.1)=false:=by rfl):PE X (.Call (.Name x p) (e :: es) [] pos) (tCB r t):=by
 intro pins s σ H Q I h;refine wpAny_Call_Name_kw (a8m I hg hm hv ?_ hn hdb);exact PyProof.Rows.callWith_builtin1 (thn (ha pos pins s σ H _ I h) λus s1 ⟨vs,H1,I1,r1,q1⟩=>hc pins s1 σ H1 vs us Q I1 r1 q1) he hpl
theorem m9 (hc:A8 X (.type T) r) (hg:Gl X x) (hm:X.mg x=none) (hv:bootBuiltins x=some (.type T)) (ha:PA X (e :: es) t) (hn:x ≠ "__name__":=by decide) (hdb:(x == ("__debug__" : Str))=false:=by decide)
  (he:starEach (e :: es) X.env=(false,eval e X.env) :: starEach es X.env:=by rfl) (hpl:(backTo pos (starEach es X.env)).any (·.1)=false:=by rfl):PE X (.Call (.Name x p) (e :: es) [] pos) (tCB r t):=by
 intro pins s σ H Q I h;refine wpAny_Call_Name_kw (a8m I hg hm hv ?_ hn hdb);exact PyProof.Rows.callWith_type1 (thn (ha pos pins s σ H _ I h) λus s1 ⟨vs,H1,I1,r1,q1⟩=>hc pins s1 σ H1 vs us Q I1 r1 q1) he hpl
end
end L2
namespace HT
open PySem PyProof.Rows
section
variable {prog:Program}{w:World}{A:Around}{E:Value->Shared->Prop}{s:Shared}
def sIx (n d:Nat):Option Int->Nat
 | none=>d
 | some v=>if v < 0 then (v + (n:Int)).toNat else min v.toNat n
theorem b6K (n d:Nat)(hd:d<=n)(o:Option Int):sIx n d o<=n:=by
 cases o with
 | none=>exact hd
 | some v =>
  show (if v < 0 then (v + (n:Int)).toNat else min v.toNat n)<=n
  by_cases hv:v < 0
  ·rw [if_pos hv];omega
  ·rw [if_neg hv];exact Nat.min_le_right _ _
theorem b3h (v:Int)(n d:Nat):(if v < 0 then max (v + (n:Int)) 0 else min v (n:Int))=((sIx n d (some v):Nat):Int):=by
 show (if v < 0 then max (v + (n:Int)) 0 else min v (n:Int))=(((if v < 0 then (v + (n:Int)).toNat else min v.toNat n):Nat):Int)
 by_cases hv:v < 0
 ·simp only [if_pos hv];omega
 ·simp only [if_neg hv];omega
theorem b3c (lo hi:Option Int)(n:Nat):Builtin.Slice.sliceAdjust lo hi 1 (n:Int)=(((sIx n 0 lo:Nat):Int),((sIx n n hi:Nat):Int)):=by
 have h1:¬ ((1:Int) < 0):=by omega
 unfold Builtin.Slice.sliceAdjust;simp only [h1,if_false];refine Prod.ext ?_ ?_
 ·cases lo with
  | none=>rfl
  | some v=>exact b3h v n 0
 ·cases hi with
  | none=>rfl
  | some v=>exact b3h v n n
theorem a2Z (i j:Nat):Builtin.Slice.slicePlaces (i:Int) (j:Int) 1=j - i:=by
 unfold Builtin.Slice.slicePlaces;have h1:(1:Int) > 0:=by omega
 simp only [h1,if_true,Int.ediv_one]
 split <;> omega
theorem a3y {v:Value}{o:Option Int}{Q:Option Int->Shared->Prop}(p:IsPart v o)(h:Q o s):wpAny (model prog w) A (Builtin.Slice.slicePartIndex v) Q E s:=by
 cases p with
 | none=>exact slicePart_none h
 | int i t=>exact slicePart_int h
theorem U3 {sl:Addr}{vl vu:Value}{lo hi:Option Int}{n:Nat}{Q:Int × Int × Nat->Shared->Prop}(hs:s.heap.IsSliceOf sl vl vu .none)(pl:IsPart vl lo)(pu:IsPart vu hi)
  (h:Q (((sIx n 0 lo:Nat):Int),1,sIx n n hi - sIx n 0 lo) s):wpAny (model prog w) A (Builtin.Slice.sliceApplied (.ref sl) (pure (n:Int))) Q E s:=by
 obtain ⟨os,hos,hcs,hds⟩:=id hs;unfold Builtin.Slice.sliceApplied Builtin.Slice.sliceFields;refine wpAny_bind (wpAny_bind (wpAny_field hos hds (x:=vl) rfl (wpAny_bind (wpAny_field hos hds (x:=vu) rfl (wpAny_bind (wpAny_field hos hds (x:=.none) rfl (wpAny_pure ?_)))))));refine wpAny_bind (slicePart_none ?_)
 show wpAny _ _ (if ((1:Int) == 0)=true then _ else _) _ _ s
 rw [if_neg (by decide)];refine wpAny_bind (a3y pl (wpAny_bind (a3y pu (wpAny_bind (wpAny_pure ?_)))))
 show wpAny _ _ (match Builtin.Slice.sliceAdjust lo hi 1 (n:Int) with | (lo,hi)=>pure (lo,(1:Int),Builtin.Slice.slicePlaces lo hi 1)) _ _ s
 rw [b3c lo hi n]
 show wpAny _ _ (pure (((sIx n 0 lo:Nat):Int),(1:Int),Builtin.Slice.slicePlaces ((sIx n 0 lo:Nat):Int) ((sIx n n hi:Nat):Int) 1)) _ _ s
 rw [a2Z];exact wpAny_pure h
theorem b6s (xs:Array Value)(i k:Nat):((List.range k).filterMap λ(m:Nat)=>xs[((i:Int) + (m:Int) * 1).toNat]?).toArray=((xs.toList.drop i).take k).toArray:=by
 have e:(λ(m:Nat)=>xs[((i:Int) + (m:Int) * 1).toNat]?)=λm=>xs[i + m]?:=by
  funext m
  have:((i:Int) + (m:Int) * 1).toNat=i + m:=by omega
  rw [this]
 rw [e];have:=pick_run xs i k;rw [List.filterMap_map] at this;have e2:((λx=>xs[x]?) ∘ λx=>i + x)=λm=>xs[i + m]?:=rfl;rw [e2] at this;rw [this]
theorem a7p {t sl:Addr}{items:Array Value}{vl vu:Value}{lo hi:Option Int}{Q:Value->Shared->Prop}(ht:IsTup s.heap t items)(hs:s.heap.IsSliceOf sl vl vu .none)(pl:IsPart vl lo)(pu:IsPart vu hi)
  (hw:¬ (sIx items.size 0 lo=0/\sIx items.size items.size hi=items.size))
  (h:Q (.ref s.heap.objs.size) { s with heap:=s.heap.push { cls:=.type "tuple",data:=.seq ((items.toList.drop (sIx items.size 0 lo)).take (sIx items.size items.size hi - sIx items.size 0 lo)).toArray } })
  (hsz:items.size <= sizeLine):wpAny (model prog w) A (getItem (.ref t) (.ref sl)) Q E s:=by
 have htake:sizeOk (.seq ((items.toList.drop (sIx items.size 0 lo)).take (sIx items.size items.size hi - sIx items.size 0 lo)).toArray):=by
  show ((items.toList.drop (sIx items.size 0 lo)).take (sIx items.size items.size hi - sIx items.size 0 lo)).toArray.size <= sizeLine
  rw [List.size_toArray,List.length_take,List.length_drop,Array.length_toList]
  omega
 have hj:sIx items.size items.size hi<=items.size:=b6K _ _ (Nat.le_refl _) hi;obtain ⟨os,hos,hcs,hds⟩:=id hs;have hTs:s.TypeIs (.ref sl) "slice":=⟨os,hos,hcs⟩;unfold getItem
 try with_reducible refine wpAny_holding ?_
 first | refine wpAny_bind (wpAny_pure ?_) | skip
 refine wpAny_bind (wpAny_sequenceKey ht.typeIs (by decide) ?_);refine wpAny_bind (wpAny_callSpecial?_slot (name:=Str.ofString "__getitem__") ht.typeIs PyProof.Rows.slot_tuple_getitem
  (wpAny_call_entry PyProof.Rows.slot_tuple_getitem ht.typeIs entry_tuple_getitem ?_ (args_tuple_getitem _ _)))
 show wpAny _ _ (Builtin.Tuple.tupleItemsOf (.ref t) >>= _) _ _ s
 refine wpAny_bind (tupleItemsOf_ ht ?_);refine wpAny_bind (wpAny_typeOf hTs ?_);rw [if_pos (by decide)];refine wpAny_bind (U3 hs pl pu ?_);have hno:¬ ((((sIx items.size 0 lo:Nat):Int) == 0 && (1:Int) == 1 && (sIx items.size items.size hi - sIx items.size 0 lo) == items.size)=true):=by
  intro q;rw [Bool.and_eq_true,Bool.and_eq_true] at q;have q1:((sIx items.size 0 lo:Nat):Int)=0:=eq_of_beq q.1.1;have q2:sIx items.size items.size hi - sIx items.size 0 lo=items.size:=eq_of_beq q.2;exact hw ⟨by omega,by omega⟩
 show wpAny _ _ (if (((sIx items.size 0 lo:Nat):Int) == 0 && (1:Int) == 1 && (sIx items.size items.size hi - sIx items.size 0 lo) == items.size)=true then _ else _) _ _ s
 rw [if_neg hno,b6s]
 first
  | exact wpAny_bind (m:=Builtin.Tuple.tupleExact _) (wpAny_newObj_type (wpAny_pure ⟨_,rfl,wpAny_pure h⟩) htake)
  | exact wpAny_bind (m:=Builtin.Tuple.tupleExact _) (wpAny_newObj_type (wpAny_bind (wpAny_pure (wpAny_pure ⟨_,rfl,wpAny_pure h⟩))) htake)
  | exact wpAny_bind (wpAny_bind (m:=Builtin.Tuple.tupleExact _) (wpAny_newObj_type (wpAny_pure (wpAny_pure ⟨_,rfl,wpAny_pure h⟩)) htake))
  | exact wpAny_bind (wpAny_bind (m:=Builtin.Tuple.tupleExact _) (wpAny_newObj_type (wpAny_pure ⟨_,rfl,wpAny_pure h⟩) htake))
end
end HT
namespace L2
open PySem PySem.Spec PyProof.Rows
abbrev TO:=St->Hp->(Option Int->Hp->Prop)->Prop
def PO (X:Cx)(e:Option Expr)(t:TO):Prop :=
 ∀ (pins:List (Addr × Obj)) (s:Shared) (σ:St) (H:Hp) (Q:Option Int->Hp->Prop),Inv X pins σ H s->t σ H Q ->
  wpAny (model X.prog X.w) X.A (evalPart e X.env) (λu s'=>∃ o H',Inv X pins σ H' s'/\IsPart u o/\Q o H') X.xe s
def b5z:TO:=λ_ H Q=>Q none H
def b0R (t:TE):TO:=fun σ H Q=>t σ H λx H1=>∃ i,x = .int i/\Q (some i) H1
section
variable {X:Cx}{e:Expr}{te:TE}{lo hi:Option Expr}{tl th:TO}{pos p2:Pos}
theorem b9C:PO X none b5z:=by
 intro pins s σ H Q I h;rw [evalPart_none];exact wpAny_pure ⟨none,H,I,.none,h⟩
theorem b8C (h:PE X e te):PO X (some e) (b0R te):=by
 intro pins s σ H Q I hw;rw [evalPart_some];refine thn (h pins s σ H _ I hw) λu s1 ⟨x,H1,I1,r1,q1⟩=>?_;obtain ⟨i,rfl,q⟩:=q1;obtain ⟨t,rfl⟩:=r1;exact ⟨some i,H1,I1,.int i t,q⟩
def SlR (X:Cx)(r:V->Option Int->Option Int->Hp->VK->Prop):Prop :=
 ∀ (pins:List (Addr × Obj)) (s:Shared) (σ:St) (H:Hp) (x:V) (v vl vu:Value) (lo hi:Option Int) (sl:Addr) (Q:VK),Inv X pins σ H s->n4 x v->s.heap.IsSliceOf sl vl vu .none -> IsPart vl lo->IsPart vu hi->r x lo hi H Q ->
  ∃ T id,typeLookup (.type T) "__getitem__" = pure (some (.builtin id))/\s.TypeIs v T/\wpAny (model X.prog X.w) X.A (getItem v (.ref sl)) (EP X pins σ Q) X.xe s
theorem SlR.or {r r':V->Option Int->Option Int->Hp->VK->Prop}(h:SlR X r)(h':SlR X r'):SlR X (λx lo hi H Q=>r x lo hi H Q \/ r' x lo hi H Q):=by
 intro pins s σ H x v vl vu lo hi sl Q I rx hs pl pu q
 rcases q with q | q
 ·exact h pins s σ H x v vl vu lo hi sl Q I rx hs pl pu q
 ·exact h' pins s σ H x v vl vu lo hi sl Q I rx hs pl pu q
def tSl (r:V->Option Int->Option Int->Hp->VK->Prop)(te:TE)(tl th:TO):TE:=fun σ H Q=>te σ H λx H1=>tl σ H1 λl H2=>th σ H2 λu H3=>r x l u H3 Q
theorem b8s {r:V->Option Int->Option Int->Hp->VK->Prop}(hr:SlR X r)(he:PE X e te)(hl:PO X lo tl)(hu:PO X hi th):PE X (.Subscript e (.Slice lo hi none p2) pos) (tSl r te tl th):=by
 intro pins s σ H Q I h;refine Subscript_ (thn (he pins s σ H _ I h) λv s1 ⟨x,H1,I1,r1,q1⟩=>?_);refine wpAny_Slice (thn (hl pins s1 σ H1 _ I1 q1) λvl s2 ⟨l,H2,I2,pl,q2⟩=>thn (hu pins s2 σ H2 _ I2 q2) λvu s3 ⟨u,H3,I3,pu,q3⟩=>?_);rw [evalPart_none];refine wpAny_pure ?_;have I4:Inv X pins σ H3 { s3 with heap:=s3.heap.push { cls:=.type "slice",data:=.fields #[vl,vu,.none] } }:=I3.kept (t':=s3.toks) λb ob q=>Heap.get?_push_of_some _ q;obtain ⟨T,id,hT,ht,hg⟩:=hr pins { s3 with heap:=s3.heap.push { cls:=.type "slice",data:=.fields #[vl,vu,.none] } } σ H3 x v vl vu l u s3.heap.objs.size Q I4 r1 (Heap.IsSliceOf.new ..) pl pu q3
 show wpAny (model X.prog X.w) X.A (subscriptTail e (.Slice lo hi none p2) v (.ref s3.heap.objs.size)) (EP X pins σ Q) X.xe { s3 with heap:=s3.heap.push { cls:=.type "slice",data:=.fields #[vl,vu,.none] } }
 exact tail_any (ops:=[.ref s3.heap.objs.size,v]) ht hT hg (by with_unfolding_all rfl)
def a3t (xs:List V)(lo hi:Option Int):List V:=(xs.drop (HT.sIx xs.length 0 lo)).take (HT.sIx xs.length xs.length hi - HT.sIx xs.length 0 lo)
theorem a4v (xs:List V)(lo hi:Option Int):(a3t xs lo hi).length <= xs.length:=by
 unfold a3t;rw [List.length_take,List.length_drop]
 omega
def b1W (K:PySem.W.Frag):V->Option Int->Option Int->Hp->VK->Prop:=λx lo hi H Q=>∃ a xs,x = .ref a/\SqT K H a xs /\
 ¬ (HT.sIx xs.length 0 lo=0/\HT.sIx xs.length xs.length hi=xs.length)/\∀ p,H p=none->Q (.ref p) (upd H p (.tup (a3t xs lo hi)))
theorem b4K:SlR X (b1W X.K):=by
 intro pins s σ H x v vl vu lo hi sl Q I rx hs pl pu h;obtain ⟨a,xs,rfl,hx,hw,q⟩:=h;cases rx;obtain ⟨its,r,ht,hz⟩:=I.tuple hx;have hlen:its.toArray.size=xs.length:=by rw [List.size_toArray];exact r.length.symm
 refine ⟨"tuple",_,PyProof.Rows.slot_tuple_getitem.lookup,ht.typeIs,?_⟩;refine HT.a7p ht hs pl pu (by rw [hlen];exact hw) ?_ (by rw [hlen];exact hz);rw [hlen];refine ⟨.ref s.heap.objs.size,_,I.laid (t':=s.toks) (o:=.tup (a3t xs lo hi)) (λb ob q=>Heap.get?_push_of_some _ q) (Nat.le_refl _) ?_,rfl,q _ (I.hok.fresh (Nat.le_refl _))⟩;exact ⟨Nat.le_trans (a4v xs lo hi) hz,_,(r.drop (HT.sIx xs.length 0 lo)).take (HT.sIx xs.length xs.length hi - HT.sIx xs.length 0 lo),IsTup.new _ _⟩
end
end L2
namespace L2
open PySem PySem.Spec PyProof.Rows
def ixN (n:Nat)(i:Int):Option Nat:=if 0<=i then (if i < n then some i.toNat else none) else if -(n:Int)<=i then some (i + n).toNat else none
def atI {α:Type}(xs:List α)(i:Int):Option α:=(ixN xs.length i).bind λj=>xs[j]?
theorem b6f {n:Nat}{i:Int}{j:Nat}(h:ixN n i=some j):seqIndex? i n=some j/\j < n/\-(n:Int)<=i/\i < n:=by
 unfold ixN at h
 by_cases h0:0<=i
 ·rw [if_pos h0] at h
  by_cases h1:i < n
  ·rw [if_pos h1] at h;have e:i.toNat=j:=Option.some.inj h;exact ⟨by rw [seqIndex_of h0 h1,e],by omega,by omega,h1⟩
  ·rw [if_neg h1] at h;cases h
 ·rw [if_neg h0] at h
  by_cases h1:-(n:Int)<=i
  ·rw [if_pos h1] at h;have e:(i + n).toNat=j:=Option.some.inj h;exact ⟨by rw [seqIndex_neg (by omega) h1,e],by omega,h1,by omega⟩
  ·rw [if_neg h1] at h;cases h
theorem a5O {α:Type}{xs:List α}{i:Int}{v:α}(h:atI xs i=some v):∃ j,seqIndex? i xs.length=some j/\xs[j]? = some v/\j < xs.length /\ -(xs.length:Int)<=i/\i < xs.length:=by
 unfold atI at h;cases e:ixN xs.length i with
 | none=>rw [e] at h;cases h
 | some j =>
  rw [e] at h;obtain ⟨h1,h2,h3,h4⟩:=b6f e;exact ⟨j,h1,h,h2,h3,h4⟩
theorem J5 {α:Type}{xs:List α}{j:Nat}{v:α}(h:xs[j]? = some v):atI xs (j:Int)=some v:=by
 have hj:j < xs.length:=(List.getElem?_eq_some_iff.mp h).1;have e:ixN xs.length (j:Int)=some j:=by
  unfold ixN;rw [if_pos (by omega),if_pos (by omega)];simp
 unfold atI;rw [e];exact h
def b4H (b:Expr):Prop:=∀ o i,subscripted b false o i=operate [o,i] (getItem o i)
def IxR (X:Cx)(r:R2):Prop :=
 ∀ (value slice:Expr) (pins:List (Addr × Obj)) (s:Shared) (σ:St) (H:Hp) (x y:V) (v u:Value) (Q:VK),Inv X pins σ H s->n4 x v->n4 y u->r x y H Q ->
  subscripted slice false v u=operate [v,u] (getItem v u)->wpAny (model X.prog X.w) X.A (subscriptTail value slice v u) (EP X pins σ Q) X.xe s
def MtR (X:Cx)(id:String)(r:V->List V->Hp->VK->Prop):Prop :=
 ∀ (pins:List (Addr × Obj)) (s:Shared) (σ:St) (H:Hp) (x:V) (xs:List V) (v:Value) (us:List Value) (Q:VK),Inv X pins σ H s->n4 x v->n0 xs us->r x xs H Q ->
  wpAny (model X.prog X.w) X.A (call (.builtin id) (v :: us)) (EP X pins σ Q) X.xe s
section
variable {X:Cx}{a b:Expr}{ta tb:TE}{pos:Pos}
theorem IxR.or {r r':R2}(h:IxR X r)(h':IxR X r'):IxR X (λx y H Q=>r x y H Q \/ r' x y H Q):=by
 intro value slice pins s σ H x y v u Q I rx ry q hs
 rcases q with q | q
 ·exact h value slice pins s σ H x y v u Q I rx ry q hs
 ·exact h' value slice pins s σ H x y v u Q I rx ry q hs
theorem MtR.or {id:String}{r r':V->List V->Hp->VK->Prop}(h:MtR X id r)(h':MtR X id r'):MtR X id (λx xs H Q=>r x xs H Q \/ r' x xs H Q):=by
 intro pins s σ H x xs v us Q I rx rs q
 rcases q with q | q
 ·exact h pins s σ H x xs v us Q I rx rs q
 ·exact h' pins s σ H x xs v us Q I rx rs q
theorem j4 {r:R2}(hr:IxR X r)(ha:PE X a ta)(hb:PE X b tb)(hs:b4H b):PE X (.Subscript a b pos) (tOp r ta tb):=by
 intro pins s σ H Q I h;exact Subscript_ (b7P ha hb I h λv u s2 x y H2 I2 rx ry q=>hr a b pins s2 σ H2 x y v u Q I2 rx ry q (hs _ _))
def b9S (K:PySem.W.Frag):R2:=λx y H Q=>∃ p xs i v,x = .ref p/\y = .int i/\SqL K H p xs/\atI xs i=some v/\Q v H
def b7S (K:PySem.W.Frag):R2:=λx y H Q=>∃ p xs i v,x = .ref p/\y = .int i/\SqT K H p xs/\atI xs i=some v/\Q v H
def b8S:R2:=λx y H Q=>∃ z i c,x = .str z/\y = .int i/\z.length <= sizeLine/\atI z.cps.toList i=some c/\Q (.str ⟨#[c]⟩) H
theorem b0F:IxR X (b9S X.K):=by
 intro value slice pins s σ H x y v u Q I rx ry h hs;obtain ⟨p,xs,i,z,rfl,rfl,hq,he,q⟩:=h;cases rx;obtain ⟨t,rfl⟩:=ry;obtain ⟨its,r,pl,hz⟩:=I.list hq;obtain ⟨j,h1,h2,h3,h4,h5⟩:=a5O he;obtain ⟨w,ew,rw'⟩:=r.get h2;have hl:=r.length;have hn:=a7s;have fin:EP X pins σ Q w s:=⟨z,H,I,rw',q⟩
 by_cases h0:0<=i
 ·have hj:i.toNat=j:=by
   rw [seqIndex_of h0 h5] at h1;exact Option.some.inj h1
  exact item_listR pl.isList h0 (by omega) (by rw [hj];simpa using ew) fin hs
 ·have hj:(i + (its.toArray.size:Int)).toNat=j:=by
   rw [seqIndex_neg (by omega) h4] at h1;rw [List.size_toArray,← hl];exact Option.some.inj h1
  exact subscriptTail_builtinR (x:=w) pl.isList.typeIs slot_list_getitem.lookup
   (wpAny_getItem_list_neg (Q:=λr s'=>r=w/\EP X pins σ Q r s') pl.isList (by omega) (by rw [List.size_toArray] <;> omega) (by omega) (by rw [hj];simpa using ew) ⟨rfl,fin⟩) hs
theorem b9N:IxR X (b7S X.K):=by
 intro value slice pins s σ H x y v u Q I rx ry h hs;obtain ⟨p,xs,i,z,rfl,rfl,hq,he,q⟩:=h;cases rx;obtain ⟨t,rfl⟩:=ry;obtain ⟨its,r,pl,hz⟩:=I.tuple hq;obtain ⟨j,h1,h2,h3,h4,h5⟩:=a5O he;obtain ⟨w,ew,rw'⟩:=r.get h2;have hl:=r.length;have hn:=a7s;have fin:EP X pins σ Q w s:=⟨z,H,I,rw',q⟩;exact subscriptTail_builtinR (x:=w) pl.typeIs slot_tuple_getitem.lookup
  (getItem_tuple (j:=j) (Q:=λr s'=>r=w/\EP X pins σ Q r s') pl (by omega) (by omega) (by rw [List.size_toArray,← hl];exact h1) (by simpa using ew) ⟨rfl,fin⟩) hs
theorem b0O:IxR X b8S:=by
 intro value slice pins s σ H x y v u Q I rx ry h hs;obtain ⟨z,i,c,rfl,rfl,hz,he,q⟩:=h;obtain ⟨t,rfl⟩:=rx;obtain ⟨t',rfl⟩:=ry;obtain ⟨j,h1,h2,h3,h4,h5⟩:=a5O he;have hl:z.cps.toList.length=z.length:=by simp [Str.length]
 rw [hl] at h1 h4 h5;have hn:=a7s;exact tail_any (typeIs_str s z t) slot_str_getitem.lookup (getItem_str (c:=c) (by
  have e1:decide (i < -(2 ^ 63:Int))=false:=decide_eq_false (by omega);have e2:decide (i ≥ 2 ^ 63)=false:=decide_eq_false (by omega);rw [e1,e2,Bool.or_false]) (by rw [h1];simpa using h2) ⟨.str ⟨#[c]⟩,H,I.tok _,⟨_,rfl⟩,q⟩) hs
def rIx (K:PySem.W.Frag):R2:=λx y H Q=>b9S K x y H Q \/ b7S K x y H Q \/ b8S x y H Q
theorem b1O:IxR X (rIx X.K):=b0F.or (b9N.or b0O)
theorem b1a (its:List Value) (n j:Nat) (u:Value):Obj.mapSeq (·.setIfInBounds j u) { cls:=.type "list",data:=.seq its.toArray n }={ cls:=.type "list",data:=.seq (its.set j u).toArray n }:=by
 simp [Obj.mapSeq]
theorem Inv.lst {pins:List (Addr × Obj)}{σ:St}{H:Hp}{s:Shared}{p:Addr}{xs:List V}(I:Inv X pins σ H s)(h:H p=some (.lst xs)) :
  ∃ (its:List Value) (n:Nat),n0 xs its/\s.heap.get? p=some { cls:=.type "list",data:=.seq its.toArray n }/\xs.length <= sizeLine:=by
 obtain ⟨z,its,n,r,e⟩:=I.hok p _ h;exact ⟨its,n,r,e,z⟩
theorem Inv.lstUpd {pins:List (Addr × Obj)}{σ:St}{H:Hp}{s:Shared}{p:Addr}{xs ys:List V}{its its':List Value}{n n':Nat}{f:Obj->Obj}(I:Inv X pins σ H s)(h:H p=some (.lst xs))
  (ho:s.heap.get? p=some { cls:=.type "list",data:=.seq its.toArray n }) (hf:f { cls:=.type "list",data:=.seq its.toArray n }={ cls:=.type "list",data:=.seq its'.toArray n' }) (r:n0 ys its') (hz:ys.length <= sizeLine) (t:Nat) :
  Inv X pins σ (upd H p (.lst ys)) { s with heap:=s.heap.update p f,toks:=t }:=by
 have e:(s.heap.update p f).get? p=some { cls:=.type "list",data:=.seq its'.toArray n' }:=by
  rw [Heap.get?_update_self f ho (by rw [hf] <;> rfl),hf]
 refine I.write (x:=p) (e:=p) (by rw [h];trivial) (.inl rfl) (λb u hb q=>(Heap.get?_update_other _ _ (Ne.symm hb)).trans q) ⟨_,e⟩ ?_;exact ⟨hz,its',n',r,e⟩
def b4S:V->V->V->Hp->(Hp->Prop)->Prop:=λo i v H Q=>∃ p xs k j,o = .ref p/\i = .int k/\H p=some (.lst xs)/\ixN xs.length k=some j/\Q (upd H p (.lst (xs.set j v)))
theorem a4y:b8U X b4S:=by
 intro pins s σ H o i v ov iv u Q I ro ri rv h;obtain ⟨p,xs,k,j,rfl,rfl,hp,hj,q⟩:=h;cases ro;obtain ⟨t,rfl⟩:=ri;obtain ⟨its,n,r,ho,hz⟩:=I.lst hp;obtain ⟨h1,h2,h3,h4⟩:=b6f hj;have hl:=r.length;have hn:=a7s;have I':Inv X pins σ (upd H p (.lst (xs.set j v))) { s with heap:=s.heap.update p (Obj.mapSeq (·.setIfInBounds j u)) } :=
  I.lstUpd hp ho (b1a its n j u) (r.set rv j) (by rw [List.length_set];exact hz) s.toks
 by_cases h0:0<=k
 ·have hk:k.toNat=j:=by
   rw [seqIndex_of h0 h4] at h1;exact Option.some.inj h1
  exact PySem.W.ki_setAt ho h0 (by omega) (by rw [List.size_toArray,← hl];exact h4) (by rw [hk];exact ⟨_,I',q⟩)
 ·have hk:(k + (its.toArray.size:Int)).toNat=j:=by
   rw [seqIndex_neg (by omega) h3] at h1;rw [List.size_toArray,← hl];exact Option.some.inj h1
  exact PySem.W.ki_setBack ho (by omega) (by rw [List.size_toArray,← hl];exact h3) (by omega) (by rw [hk];exact ⟨_,I',q⟩)
theorem a1K (lo hi:Option Int)(n:Nat):(sliceBounds lo hi none n).1=((HT.sIx n 0 lo:Nat):Int)/\(sliceBounds lo hi none n).2.1=((HT.sIx n n hi:Nat):Int)/\(sliceBounds lo hi none n).2.2=1:=by
 refine ⟨?_,?_,rfl⟩
 ·cases lo with
  | none=>simp [sliceBounds,HT.sIx]
  | some i =>
   simp only [sliceBounds,HT.sIx,Option.getD_none,show (1:Int) > 0 by decide,if_true]
   by_cases h:i < 0
   ·simp only [h,if_true] <;> omega
   ·simp only [h,if_false] <;> omega
 ·cases hi with
  | none=>simp [sliceBounds,HT.sIx]
  | some i =>
   simp only [sliceBounds,HT.sIx,Option.getD_none,show (1:Int) > 0 by decide,if_true]
   by_cases h:i < 0
   ·simp only [h,if_true] <;> omega
   ·simp only [h,if_false] <;> omega
theorem a1E (its:List Value)(lo hi:Option Int):slicePick its.toArray lo hi none=((its.drop (HT.sIx its.length 0 lo)).take (HT.sIx its.length its.length hi - HT.sIx its.length 0 lo)).toArray:=by
 obtain ⟨h1,h2,h3⟩:=a1K lo hi its.toArray.size;unfold slicePick;rw [h1,h2,h3];simp only [sliceRange_one,pick_run,List.size_toArray] <;> rfl
def b3S (K:PySem.W.Frag):V->Option Int->Option Int->Hp->VK->Prop:=λx lo hi H Q=>∃ a xs,x = .ref a/\SqL K H a xs/\∀ p,H p=none->Q (.ref p) (upd H p (.lst (a3t xs lo hi)))
theorem b4B:SlR X (b3S X.K):=by
 intro pins s σ H x v vl vu lo hi sl Q I rx hs pl pu h;obtain ⟨a,xs,rfl,hx,q⟩:=h;cases rx;obtain ⟨its,r,ht,hz⟩:=I.list hx;have hlen:=r.length;refine ⟨"list",_,slot_list_getitem.lookup,ht.isList.typeIs,?_⟩;refine wpAny_getItem_list_slice ht.isList hs pl pu .none (by simp) ?_ (by rw [List.size_toArray] <;> omega);rw [a1E,← hlen];refine ⟨.ref s.heap.objs.size,_,I.laid (t':=s.toks) (o:=.lst (a3t xs lo hi)) (λb ob q=>Heap.get?_push_of_some _ q) (Nat.le_refl _) ?_,rfl,q _ (I.hok.fresh (Nat.le_refl _))⟩;exact ⟨Nat.le_trans (a4v xs lo hi) hz,_,0,(r.drop (HT.sIx xs.length 0 lo)).take (HT.sIx xs.length xs.length hi - HT.sIx xs.length 0 lo),Heap.get?_push_size _ rfl⟩
def a5k:V->Bool
 | .non=>true
 | .bl _=>true
 | .int _=>true
 | .str _=>true
 | _=>false
def eqV:V->V->Bool
 | .non,.non=>true
 | .bl a,.bl b=>a == b
 | .bl a,.int b=>(if a then 1 else 0) == b
 | .int a,.bl b=>a == (if b then 1 else 0)
 | .int a,.int b=>a == b
 | .str a,.str b=>a == b
 | _,_=>false
theorem b8O {A:Around}{s:Shared}{y x:V}{u v:Value}(ry:n4 y u)(rx:n4 x v)(fy:a5k y=true)(fx:a5k x=true):SeqAt.EqAt A s u v (eqV y x):=by
 cases y with
 | non =>
  cases ry;cases x with
  | non=>cases rx;exact SeqAt.EqAt.same _
  | bl b=>cases rx;exact SeqAt.EqAt.none_bool b
  | int b=>obtain ⟨t,rfl⟩:=rx;exact SeqAt.EqAt.none_int b t
  | str b=>obtain ⟨t,rfl⟩:=rx;exact SeqAt.EqAt.none_str b t
  | _=>exact absurd (show false=true from fx) Bool.false_ne_true
 | bl a =>
  cases ry;cases x with
  | non=>cases rx;exact SeqAt.EqAt.bool_none a
  | bl b=>cases rx;exact SeqAt.EqAt.bool_bool a b
  | int b=>obtain ⟨t,rfl⟩:=rx;exact SeqAt.EqAt.bool_int a b t
  | str b=>obtain ⟨t,rfl⟩:=rx;exact SeqAt.EqAt.bool_str a b t
  | _=>exact absurd (show false=true from fx) Bool.false_ne_true
 | int a =>
  obtain ⟨t',rfl⟩:=ry;cases x with
  | non=>cases rx;exact SeqAt.EqAt.int_none a t'
  | bl b=>cases rx;exact SeqAt.EqAt.int_bool a t' b
  | int b=>obtain ⟨t,rfl⟩:=rx;exact SeqAt.EqAt.int_int a t' b t
  | str b=>obtain ⟨t,rfl⟩:=rx;exact SeqAt.EqAt.int_str a t' b t
  | _=>exact absurd (show false=true from fx) Bool.false_ne_true
 | str a =>
  obtain ⟨t',rfl⟩:=ry;cases x with
  | non=>cases rx;exact SeqAt.EqAt.str_none a t'
  | bl b=>cases rx;exact SeqAt.EqAt.str_bool a t' b
  | int b=>obtain ⟨t,rfl⟩:=rx;exact SeqAt.EqAt.str_int a t' b t
  | str b=>obtain ⟨t,rfl⟩:=rx;exact SeqAt.EqAt.str_str a t' b t
  | _=>exact absurd (show false=true from fx) Bool.false_ne_true
 | _=>exact absurd (show false=true from fy) Bool.false_ne_true
def eqU (x:V)(u:Value):Bool:=match u with
 | .none=>eqV .non x
 | .bool b=>eqV (.bl b) x
 | .int i _=>eqV (.int i) x
 | .str z _=>eqV (.str z) x
 | _=>false
theorem b2w {x y:V}{u:Value}(r:n4 y u)(f:a5k y=true):eqU x u=eqV y x:=by
 cases y with
 | non=>cases r;rfl
 | bl b=>cases r;rfl
 | int i=>obtain ⟨t,rfl⟩:=r;rfl
 | str z=>obtain ⟨t,rfl⟩:=r;rfl
 | _=>exact absurd (show false=true from f) Bool.false_ne_true
theorem a7q {x:V}:∀ {xs:List V} {us:List Value},n0 xs us->xs.all a5k=true->us.any (eqU x)=xs.any λy=>eqV y x
 | _,_,.nil,_=>rfl
 | y :: xs,u :: us,.cons r t,f=>by
  rw [List.all_cons,Bool.and_eq_true] at f;rw [List.any_cons,List.any_cons,b2w r f.1,a7q t f.2]
theorem a9h {A:Around}{s:Shared}{x:V}{v:Value}(rx:n4 x v)(fx:a5k x=true):∀ {xs:List V} {us:List Value},n0 xs us->xs.all a5k=true->∀ u∈us,SeqAt.EqAt A s u v (eqU x u)
 | _,_,.nil,_=>λu hu=>by cases hu
 | y :: xs,u :: us,.cons r t,f=>λu' hu=>by
  rw [List.all_cons,Bool.and_eq_true] at f
  rcases List.mem_cons.mp hu with rfl | hu
  ·rw [b2w r f.1];exact b8O r rx f.1 fx
  ·exact a9h rx fx t f.2 u' hu
def inV (x:V)(xs:List V):Bool:=xs.any λy=>eqV y x
def rIn (K:PySem.W.Frag)(neg:Bool):R2:=λx y H Q=>∃ p xs,y = .ref p/\(SqL K H p xs \/ SqT K H p xs)/\a5k x=true/\xs.all a5k=true/\Q (.bl (if neg then !inV x xs else inV x xs)) H
theorem b8l:OpR X (compareOp .In) (rIn X.K false):=by
 intro pins s σ H x y v u Q I rx ry h;obtain ⟨p,xs,rfl,hq,fx,fs,q⟩:=h;cases ry
 rcases hq with hq | hq
 ·obtain ⟨its,r,pl,hz⟩:=I.list hq;refine SeqAt.in_listAt (eqU x) pl.isList (λw hw=>a9h rx fx r fs w (by simpa using hw)) ⟨.bl _,H,I,rfl,?_⟩;rw [show its.toArray.any (eqU x)=its.any (eqU x) by simp,a7q r fs];exact q
 ·obtain ⟨its,r,pl,hz⟩:=I.tuple hq;refine SeqAt.in_tupleAt (eqU x) pl (λw hw=>a9h rx fx r fs w (by simpa using hw)) ⟨.bl _,H,I,rfl,?_⟩;rw [show its.toArray.any (eqU x)=its.any (eqU x) by simp,a7q r fs];exact q
theorem a7L:OpR X (compareOp .NotIn) (rIn X.K true):=by
 intro pins s σ H x y v u Q I rx ry h;obtain ⟨p,xs,rfl,hq,fx,fs,q⟩:=h;cases ry
 rcases hq with hq | hq
 ·obtain ⟨its,r,pl,hz⟩:=I.list hq;refine SeqAt.notIn_listAt (eqU x) pl.isList (λw hw=>a9h rx fx r fs w (by simpa using hw)) ⟨.bl _,H,I,rfl,?_⟩;rw [show its.toArray.any (eqU x)=its.any (eqU x) by simp,a7q r fs];exact q
 ·obtain ⟨its,r,pl,hz⟩:=I.tuple hq;refine SeqAt.notIn_tupleAt (eqU x) pl (λw hw=>a9h rx fx r fs w (by simpa using hw)) ⟨.bl _,H,I,rfl,?_⟩;rw [show its.toArray.any (eqU x)=its.any (eqU x) by simp,a7q r fs];exact q
theorem A8.or {f:Value}{r r':List V->Hp->VK->Prop}(h:A8 X f r)(h':A8 X f r'):A8 X f (λxs H Q=>r xs H Q \/ r' xs H Q):=by
 intro pins s σ H xs us Q I rs q
 rcases q with q | q
 ·exact h pins s σ H xs us Q I rs q
 ·exact h' pins s σ H xs us Q I rs q
theorem a3O:A8 X (.type "list") (λxs H Q=>∃ p ys,xs=[.ref p]/\(SqL X.K H p ys \/ SqT X.K H p ys)/\∀ l,H l=none->Q (.ref l) (upd H l (.lst ys))):=by
 intro pins s σ H xs us Q I r h;obtain ⟨p,ys,rfl,hq,q⟩:=h;obtain ⟨u,rfl,rx⟩:=X7 r;cases rx;have fin:∀ (its:List Value),n0 ys its->ys.length <= sizeLine->∀ (h':Heap) (c':Nat),(∀ b o',s.heap.get? b=some o'->h'.get? b=some o') ->
   h'.get? s.heap.objs.size=some { cls:=.type "list",dict:=none,data:=.seq its.toArray c',slots:=#[] }->EP X pins σ Q (.ref s.heap.objs.size) { s with heap:=h' }:=λits r' hz h' c' kp e =>
  ⟨.ref s.heap.objs.size,_,I.laid (t':=s.toks) kp (Nat.le_refl _) (show n8 X.prog X.w _ h' _ (.lst ys) from ⟨hz,its,c',r',e⟩),rfl,q _ (I.hok.fresh (Nat.le_refl _))⟩
 rcases hq with hq | hq
 ·obtain ⟨its,r',pl,hz⟩:=I.list hq;have hlen:=r'.length;obtain ⟨o,ho,hc,n,hd⟩:=pl.isList;exact call_list_seq p (.inl rfl) ho hc hd (λh' c' kp e=>fin its r' hz h' c' kp e) (by simp only [List.size_toArray] <;> omega)
 ·obtain ⟨its,r',pl,hz⟩:=I.tuple hq;have hlen:=r'.length;obtain ⟨o,ho,hc,n,hd⟩:=pl;exact call_list_seq p (.inr rfl) ho hc hd (λh' c' kp e=>fin its r' hz h' c' kp e) (by simp only [List.size_toArray] <;> omega)
theorem a5F:A8 X (.type "tuple") (λxs H Q=>∃ p ys,xs=[.ref p]/\((SqL X.K H p ys/\∀ l,H l=none->Q (.ref l) (upd H l (.tup ys))) \/ (SqT X.K H p ys/\Q (.ref p) H))):=by
 intro pins s σ H xs us Q I r h;obtain ⟨p,ys,rfl,h⟩:=h;obtain ⟨u,rfl,rx⟩:=X7 r;cases rx
 rcases h with ⟨hq,q⟩ | ⟨hq,q⟩
 ·obtain ⟨its,r',pl,hz⟩:=I.list hq;have hlen:=r'.length;refine call_tuple_list pl.isList (λh' kp=>?_) (by simp only [List.size_toArray] <;> omega);have I1:Inv X pins σ H { s with heap:=h' }:=I.kept (t':=s.toks) kp;have I2:Inv X pins σ (upd H h'.objs.size (.tup ys)) { s with heap:=h'.push { cls:=.type "tuple",data:=.seq its.toArray } } :=
   I1.laid (t':=s.toks) (λb o e=>Heap.get?_push_of_some _ e) (Nat.le_refl _) (show n8 X.prog X.w _ _ _ (.tup ys) from ⟨hz,its,r',IsTup.new _ _⟩)
  exact ⟨.ref h'.objs.size,_,I2,rfl,q _ (I1.hok.fresh (Nat.le_refl _))⟩
 ·obtain ⟨its,r',pl,hz⟩:=I.tuple hq;exact call_tuple_same pl ⟨.ref p,H,I,rfl,q⟩
def tyV (K:PySem.W.Frag)(T:String)(x:V)(H:Hp):Prop:=match x with
 | .str _=>T = "str"
 | .int _=>T = "int"
 | .ref p=>(T = "list"/\∃ xs,SqL K H p xs) \/ (T = "tuple"/\∃ o,K.lookup p=some o/\o.cls = .type "tuple"/\o.dict=none) \/
   (T = "dict"/\((∃ kvs,H p=some (.dK kvs)) \/ ∃ kvs,H p=some (.dT kvs))) \/ (T = "set"/\∃ S n,H p=some (.set S n))
 | _=>False
theorem b7p {pins:List (Addr × Obj)}{σ:St}{H:Hp}{s:Shared}{T:String}{x:V}{v:Value}(I:Inv X pins σ H s)(r:n4 x v)(ty:tyV X.K T x H) :
  s.TypeIs v T/\∀ a,v = .ref a->∃ ob,s.heap.get? a=some ob/\ob.dict=none:=by
 cases x with
 | str z =>
  obtain ⟨t,rfl⟩:=r;cases (show T = "str" from ty);exact ⟨typeIs_str s z t,λ_ e=>nomatch e⟩
 | int i =>
  obtain ⟨t,rfl⟩:=r;cases (show T = "int" from ty);exact ⟨typeIs_int s i t,λ_ e=>nomatch e⟩
 | ref p =>
  cases r
  rcases ty with ⟨rfl,xs,hq⟩ | ⟨rfl,o,hk,hc,hd⟩ | ⟨rfl,hk⟩ | ⟨rfl,S,n,hk⟩
  ·obtain ⟨its,_,pl,_⟩:=I.list hq;refine ⟨pl.isList.typeIs,λa e=>?_⟩;cases e;obtain ⟨o,n,e,c,hd,_⟩:=pl;exact ⟨o,e,hd⟩
  ·refine ⟨⟨o,I.kIn p o hk,hc⟩,λa e=>?_⟩;cases e;exact ⟨o,I.kIn _ o hk,hd⟩
  ·have z:∃ o,s.heap.get? p=some o/\o.ExactDict:=by
    rcases hk with ⟨kvs,hk⟩ | ⟨kvs,hk⟩
    ·obtain ⟨_,_,_,_,o,_,_,e,ex,_⟩:=I.hok p _ hk;exact ⟨o,e,ex⟩
    ·obtain ⟨_,_,_,_,o,_,_,e,ex,_⟩:=I.hok p _ hk;exact ⟨o,e,ex⟩
   obtain ⟨o,e,ex⟩:=z;refine ⟨⟨o,e,ex.1⟩,λa e2=>?_⟩;cases e2;exact ⟨o,e,ex.2.1⟩
  ·obtain ⟨o,_,_,_,e,ex,_⟩:=I.hok p _ hk;refine ⟨⟨o,e,ex.1⟩,λa e2=>?_⟩;cases e2;exact ⟨o,e,ex.2.1⟩
 | _=>exact False.elim ty
def b6V (K:PySem.W.Frag)(T:String)(r:V->List V->Hp->VK->Prop)(to:TE):TE:=fun σ H Q=>to σ H λx H1=>tyV K T x H1/\r x [] H1 Q
def tBM (K:PySem.W.Frag)(T:String)(r:V->List V->Hp->VK->Prop)(to:TE)(t:TA):TE:=fun σ H Q=>to σ H λx H1=>tyV K T x H1/\t σ H1 λxs H2=>r x xs H2 Q
variable {o e:Expr}{es:List Expr}{to:TE}{t:TA}{name:Str}{apos cpos:Pos}{T id:String}{r:V->List V->Hp->VK->Prop}
theorem b7L (pa:PlainAttrs T) (slot:Slot T name id) (hty:typeOf (.builtin id)=pure (.type "method_descriptor")) (hm:MtR X id r) (ho:PE X o to)
  (hbase:attributeBase o name X.env (eval o X.env)=eval o X.env:=by rfl) (hline:(apos.endLine == cpos.line)=true:=by rfl):PE X (.Call (.Attribute o name apos) [] [] cpos) (b6V X.K T r to):=by
 intro pins s σ H Q I h;refine wpAny_Call_method0_late hbase hline (thn (ho pins s σ H _ I h) λv s1 ⟨x,H1,I1,r1,ty,q1⟩=>?_);obtain ⟨h1,h2⟩:=b7p I1 r1 ty;exact ⟨T,id,pa,slot,hty,h1,h2,Calls.callWith_builtin rfl (PySem.evalArgs_none (hm pins s1 σ H1 x [] v [] Q I1 r1 .nil q1))⟩
theorem N9 (pa:PlainAttrs T) (slot:Slot T name id) (hty:typeOf (.builtin id)=pure (.type "method_descriptor")) (hm:MtR X id r) (ho:PE X o to) (ha:PA X (e :: es) t)
  (hbase:attributeBase o name X.env (eval o X.env)=eval o X.env:=by rfl)
  (hfew:((backTo cpos (starEach (e :: es) X.env)).all (λx=>!x.1) && (backToKw cpos (keywordEach [] X.env)).all (λx=>x.1.isSome)
   && decide ((e :: es).length + ([]:List Keyword).length + (if ([]:List Keyword).isEmpty then 0 else 1) < 30))=true:=by rfl)
  (hline:(apos.endLine == cpos.line)=true:=by rfl) (hs:starEach (e :: es) X.env=(false,eval e X.env) :: starEach es X.env:=by rfl) (hplain:(backTo cpos (starEach es X.env)).any (·.1)=false:=by rfl) :
  PE X (.Call (.Attribute o name apos) (e :: es) [] cpos) (tBM X.K T r to t):=by
 intro pins s σ H Q I h;refine wpAny_Call_method_late hbase hfew hline rfl (thn (ho pins s σ H _ I h) λv s1 ⟨x,H1,I1,r1,ty,q1⟩=>?_);obtain ⟨h1,h2⟩:=b7p I1 r1 ty;refine ⟨T,id,pa,slot,hty,h1,h2,?_⟩;have hA:=ha cpos pins s1 σ H1 _ I1 q1;rw [hs] at hA ⊢;refine Calls.callWith_builtin (by show (false || (backTo cpos (starEach es X.env)).any (·.1))=false;rw [hplain] <;> rfl) (Calls.evalArgs_plain ?_);exact thn hA λus s2 ⟨vs,H2,I2,r2,q2⟩=>hm pins s2 σ H2 x vs v us Q I2 r1 r2 q2
end
end L2
namespace L2
open PySem PySem.Spec PyProof.Rows
def MtM (X:Cx)(id:String)(r:V->List V->Hp->VK->Prop):Prop :=
 ∀ (pins:List (Addr × Obj)) (s:Shared) (σ:St) (H:Hp) (x:V) (xs:List V) (v:Value) (us:List Value) (Q:VK),Inv X pins σ H s->n4 x v->n0 xs us->r x xs H Q ->
  wpAny (model X.prog X.w) X.A (call (.builtin id) (v :: us)) (EP X pins σ Q) X.xe s
theorem n0.one:∀ {x:V} {us:List Value},n0 [x] us->∃ u,us=[u]/\n4 x u
 | _,_,.cons r .nil=>⟨_,rfl,r⟩
theorem n0.zero:∀ {us:List Value},n0 [] us->us=[]
 | _,.nil=>rfl
theorem n0.dropLast {xs:List V}{us:List Value}(h:n0 xs us):n0 xs.dropLast us.dropLast:=by
 induction h with
 | nil=>exact .nil
 | cons r t ih =>
  cases t with
  | nil=>exact .nil
  | cons q t'=>exact .cons r ih
theorem n0.reverse {xs:List V}{us:List Value}(h:n0 xs us):n0 xs.reverse us.reverse:=by
 induction h with
 | nil=>exact .nil
 | cons r t ih=>rw [List.reverse_cons,List.reverse_cons];exact n0.append ih (.cons r .nil)
theorem b6b {α:Type}(l:List α):l.eraseIdx (l.length - 1)=l.dropLast:=by
 induction l with
 | nil=>rfl
 | cons a r ih =>
  cases r with
  | nil=>rfl
  | cons b r =>
   have e:(a :: b :: r).length - 1=((b :: r).length - 1) + 1:=by
    have h1:(a :: b :: r).length=r.length + 2:=rfl;have h2:(b :: r).length=r.length + 1:=rfl
    omega
   rw [e,List.eraseIdx_cons_succ,ih]
   all_goals rfl
theorem a0t (its:List Value):∀ (k:Nat) (acc:List Value),
  List.foldl (λx1 x2=>x1 ++ x2) acc.toArray (List.replicate k its.toArray)=(acc ++ (List.replicate k its).flatten).toArray
 | 0,acc=>by simp
 | k + 1,acc=>by
  have e:acc.toArray ++ its.toArray=(acc ++ its).toArray:=by simp
  have e2:(acc ++ its) ++ (List.replicate k its).flatten=acc ++ (List.replicate (k + 1) its).flatten:=by
   rw [List.replicate_succ,List.flatten_cons,List.append_assoc]
  rw [← e2,← a0t its k (acc ++ its),← e,List.replicate_succ,List.foldl_cons]
section
variable {X:Cx}{pins:List (Addr × Obj)}{σ:St}{H:Hp}{s:Shared}{l b:Addr}{xs ys zs:List V}
theorem Inv.lset {its its':List Value}{n:Nat}{f:Array Value->Array Value}{t':Nat}(I:Inv X pins σ H s)(hH:H l=some (.lst xs))
  (e:s.heap.get? l=some { cls:=.type "list",data:=.seq its.toArray n }) (hf:f its.toArray=its'.toArray) (hv:n0 ys its') (hz:ys.length <= sizeLine) :
  Inv X pins σ (upd H l (.lst ys)) { s with heap:=s.heap.update l (Obj.mapSeq f),toks:=t' }:=by
 have q:=PySem.IsL.update e f;rw [hf] at q;refine I.write (x:=l) (e:=l) (by rw [hH];exact trivial) (.inl rfl) (λb' u hb hu=>(Heap.get?_update_other s.heap (Obj.mapSeq f) (Ne.symm hb)).trans hu) ⟨_,q⟩ ?_;exact ⟨hz,its',_,hv,q⟩
theorem Inv.lnew {its:List Value}{t':Nat}(I:Inv X pins σ H s)(hv:n0 ys its)(hz:ys.length <= sizeLine) :
  Inv X pins σ (upd H s.heap.objs.size (.lst ys)) { s with heap:=s.heap.push { cls:=.type "list",data:=.seq its.toArray },toks:=t' } :=
 I.laid (λ_ _ q=>Heap.get?_push_of_some _ q) (Nat.le_refl _) ⟨hz,its,0,hv,Heap.get?_push_size _ rfl⟩
theorem Inv.fresh (I:Inv X pins σ H s):H s.heap.objs.size=none:=I.hok.fresh (Nat.le_refl _)
theorem Inv.lstM (I:Inv X pins σ H s) (hH:H l=some (.lst xs)):xs.length <= sizeLine/\∃ (its:List Value) (n:Nat),n0 xs its/\xs.length=its.length /\ s.heap.get? l=some { cls:=.type "list",data:=.seq its.toArray n }:=by
 obtain ⟨z,its,n,r,e⟩:=I.hok l _ hH;exact ⟨z,its,n,r,r.length,e⟩
theorem a4S {n:Nat}(h:n<=sizeLine):Builtin.List.listTooLong n=false:=by
 unfold Builtin.List.listTooLong;exact decide_eq_false (by omega)
end
section
variable {X:Cx}
def b4C:V->List V->Hp->VK->Prop:=λx vs H Q=>∃ l xs y,x = .ref l/\vs=[y]/\H l=some (.lst xs)/\xs.length < sizeLine/\Q .non (upd H l (.lst (xs ++ [y])))
theorem z9:MtM X "list.append" b4C:=by
 intro pins s σ H x vs v us Q I rx rv h;obtain ⟨l,xs,y,rfl,rfl,hH,hz,q⟩:=h;cases rx;obtain ⟨u,rfl,ru⟩:=rv.one;obtain ⟨z,its,n,r,hl,e⟩:=I.lstM hH;refine call_meets F.slot_list_append ⟨_,e,rfl⟩ F.entry_list_append (F.args_list_append_2 _ _) (PySem.list_append l its.toArray n u (by rw [List.size_toArray];omega)) ⟨e,?_⟩;refine ⟨.non,_,I.lset (its':=its ++ [u]) hH e (by simp) (r.append (.cons ru .nil)) ?_,rfl,q⟩;rw [List.length_append,List.length_singleton]
 omega
def b3C:V->List V->Hp->VK->Prop:=λx vs H Q=>∃ l b xs zs,x = .ref l/\vs=[.ref b]/\H l=some (.lst xs)/\H b=some (.lst zs)/\xs.length + zs.length <= sizeLine/\Q .non (upd H l (.lst (xs ++ zs)))
theorem a3j:MtM X "list.extend" b3C:=by
 intro pins s σ H x vs v us Q I rx rv h;obtain ⟨l,b,xs,zs,rfl,rfl,hH,hB,hz,q⟩:=h;cases rx;obtain ⟨u,rfl,ru⟩:=rv.one;cases ru;obtain ⟨z,its,n,r,hl,e⟩:=I.lstM hH;obtain ⟨z2,its2,n2,r2,hl2,e2⟩:=I.lstM hB;have hsz:its.toArray.size + its2.toArray.size <= sizeLine:=by rw [List.size_toArray,List.size_toArray];omega
 have hlong:¬ (!its.toArray.isEmpty && Builtin.List.listTooLong (its.toArray.size + its2.toArray.size))=true:=by
  rw [a4S hsz,Bool.and_false];exact Bool.false_ne_true
 refine call_meets F.slot_list_extend ⟨_,e,rfl⟩ F.entry_list_extend (F.args_list_extend_2 _ _)
  (AutoSeq1.list_extend_list_list_0 l its.toArray n b its2.toArray n2 hlong (by rw [List.size_toArray];omega) (by omega)) ⟨e,e2,?_⟩
 refine ⟨.non,_,I.lset (its':=its ++ its2) hH e (by simp) (r.append r2) ?_,rfl,q⟩;rw [List.length_append]
 omega
def b2W:V->List V->Hp->VK->Prop:=λx vs H Q=>∃ l xs y,x = .ref l/\vs=[]/\H l=some (.lst xs)/\xs[xs.length - 1]? = some y/\Q y (upd H l (.lst xs.dropLast))
theorem b5W:MtM X "list.pop" b2W:=by
 intro pins s σ H x vs v us Q I rx rv h;obtain ⟨l,xs,y,rfl,rfl,hH,hy,q⟩:=h;cases rx;have hus:=rv.zero;subst hus;obtain ⟨z,its,n,r,hl,e⟩:=I.lstM hH;obtain ⟨u,hu,ru⟩:=r.get hy;have hy':its.toArray[its.toArray.size - 1]? = some u:=by
  show its.toArray[its.length - 1]? = some u
  rw [← Array.getElem?_toList,← hl];exact hu
 refine call_meets F.slot_list_pop ⟨_,e,rfl⟩ F.entry_list_pop (F.args_list_pop_1 _) (MeetsSeq.list_pop_last l its.toArray n u hy' (by rw [List.size_toArray];omega)) ⟨e,?_⟩;refine ⟨y,_,I.lset (its':=its.dropLast) hH e ?_ r.dropLast ?_,ru,q⟩
 ·show its.toArray.eraseIdxIfInBounds (its.toArray.size - 1)=its.dropLast.toArray
  rw [List.size_toArray,List.eraseIdxIfInBounds_toArray,b6b]
 ·rw [List.length_dropLast]
  omega
def b8r:V->List V->Hp->VK->Prop:=λx vs H Q=>∃ l xs,x = .ref l/\vs=[]/\H l=some (.lst xs)/\Q .non (upd H l (.lst xs.reverse))
theorem a9Z:MtM X "list.reverse" b8r:=by
 intro pins s σ H x vs v us Q I rx rv h;obtain ⟨l,xs,rfl,rfl,hH,q⟩:=h;cases rx;have hus:=rv.zero;subst hus;obtain ⟨z,its,n,r,hl,e⟩:=I.lstM hH;refine call_meets F.slot_list_reverse ⟨_,e,rfl⟩ F.entry_list_reverse (F.args_list_reverse_1 _) (AutoSeq1.list_reverse_list_0 l its.toArray n (by rw [List.size_toArray];omega)) ⟨e,?_⟩;refine ⟨.non,_,I.lset (its':=its.reverse) hH e (by simp) r.reverse ?_,rfl,q⟩;rw [List.length_reverse]
 omega
def b4W:R2:=λx y H Q=>∃ l b xs zs,x = .ref l/\y = .ref b/\H l=some (.lst xs)/\H b=some (.lst zs)/\xs.length + zs.length <= sizeLine/\∀ p,H p=none->Q (.ref p) (upd H p (.lst (xs ++ zs)))
theorem b5M:OpR X (binaryOp .Add) b4W:=by
 intro pins s σ H x y v u Q I rx ry h;obtain ⟨l,b,xs,zs,rfl,rfl,hH,hB,hz,q⟩:=h;cases rx;cases ry;obtain ⟨z,its,n,r,hl,e⟩:=I.lstM hH;obtain ⟨z2,its2,n2,r2,hl2,e2⟩:=I.lstM hB;refine PySem.P.add_list e e2 ?_ (by rw [List.size_toArray,List.size_toArray];omega);have ea:its.toArray ++ its2.toArray=(its ++ its2).toArray:=by simp
 rw [ea];exact ⟨.ref _,_,I.lnew (t':=s.toks) (r.append r2) (by rw [List.length_append];omega),rfl,q _ I.fresh⟩
end
end L2
namespace Att
open PySem PySem.W PySem.Calls PyProof.Rows
theorem a1w {P:Params}{h:Heap}:∀ (ns:List Int) (vs:List Value),WellAll P h vs (ns.map WData.int)->IntsAre vs ns:=by
 intro ns
 induction ns with
 | nil =>
  intro vs w;rw [List.map_nil] at w;cases w;exact .nil
 | cons n ns ih =>
  intro vs w;rw [List.map_cons] at w;cases w with
  | cons a b =>
   cases a;exact .cons _ _ (ih _ b)
theorem b8k {l:OpenLaw}{n:Nat}(hn:l.most=some n){P:Params}{h:Heap}{args:List WData}{vals:List Value}
  (hpre:l.row.toRowW.claim.pre args=true) (hwl:WellAll P h vals args) :
  ∃ a vs ns,vals=[Value.ref a]/\args=[WData.list (ns.map WData.int)]/\h.get? a=some { cls:=.type "list",data:=.seq vs.toArray }/\IntsAre vs ns/\ns.length <= n:=by
 have hsh:WShape.hasAll [] args [.list .int]=true:=(pre_splitW hpre).1;have hc:l.pre.holds [] { args:=args }=true:=(pre_splitW hpre).2;obtain ⟨d,r,rfl,h1,h2⟩:=hasAllW_cons hsh;obtain rfl:=hasAllW_nil h2;obtain ⟨xs,rfl,h3⟩:=hasW_list h1;obtain ⟨ns,rfl⟩:=items_int h3;have hlen:ns.length <= n:=by
  unfold OpenLaw.pre at hc;have h4:(WTm.not (.lt (.lit (.int (n:Int))) (.len (.arg 0)))).holds [] { args:=[.list (ns.map .int)] }=true:=by
   have h4:=(holds_andW hc).1;rw [hn] at h4;exact h4
  have h5:=condW_of h4 (w_not (w_lt w_lit (w_len_list (w_arg rfl))));rw [List.length_map] at h5;refine Nat.le_of_not_lt λq=>?_;have q':(n:Int) < ((ns.length:Nat):Int):=by omega
  first
   | (rw [decide_eq_true q'] at h5;exact absurd h5 (by decide))
   | (simp at h5;omega)
 cases hwl with
 | cons w1 w2 =>
  cases w2;cases w1 with
  | list ho hall=>exact ⟨_,_,ns,rfl,rfl,ho,a1w ns _ hall,hlen⟩
theorem b4l (l:OpenLaw)(args:List WData):l.row.toRowW.claim.post args (.bool true) args=true :=
 postW_of (r:=l.row.toRowW) (X:=(true == true))
  (show WShape.has [] (.bool true) .bool=true by first | rfl | decide | simp [WShape.has,WShape.arms,WShape.armsAll])
  (show (WTm.eq .res (.lit (.bool true))).value [] { args:=args,res:=some (.bool true),after:=args }=some (.bool (true == true)) from w_eq_bool (w_res rfl) w_lit) rfl
theorem a8V {l:OpenLaw}{n:Nat}{q:Program}{loose:List Str}{XP:(Str->Option Value)->Heap->Prop}{YP:World->Heap->Prop}{d:DefRec}
  (hn:l.most=some n) (hdf:d.params.defaults=[])
  (call:∀ (w:World) (sZ s₁:Shared) (mg mb:Str->Option Value) (fa:Addr) (o:Obj) (pm cd doc:Value) (a:Addr) (vs:List Value) (ns:List Int),
   Ground q loose [] XP w sZ mg mb s₁.heap -> YP w s₁.heap ->
   s₁.heap.get? fa=some o->o.data = .func (docDef d.name d.params d.body d.scope pm cd doc)->s₁.heap.CodeRec cd d.name -> mg d.name=some (.ref fa) ->
   s₁.heap.get? a=some { cls:=.type "list",data:=.seq vs.toArray }->IntsAre vs ns->ns.length <= n->s₁.gens = #[] ->
   codeAny (model l.prog w) callerA (.call (.ref fa) ⟨[.ref a],[]⟩) (λr s'=>r = .ok (.ret (.bool true))/\OldK s₁.heap s'.heap /\ s'.os=s₁.os /\ AllBare s'.gens) s₁) :
  WalkO q loose XP YP l.row.toRowW d [] (λf vs=>PySem.call f vs):=by
 intro w sZ s₁ mg mb G Y fa o pm cd doc dV kV ho hd hcd hD hmg hg args vals as hpre hlay hrd hwl hlo;obtain rfl:dV = .none:=Dflts.none hD hdf;obtain rfl:kV = .none:=Dflts.noKw hD;obtain ⟨a,vs,ns,rfl,rfl,hobj,hints,hlen⟩:=b8k hn hpre hwl;refine enter_call (codeAny_mono (call w sZ s₁ mg mb fa o pm cd doc a vs ns G Y ho (fd_plain hd) hcd hmg hobj hints hlen hg) λr s' hq=>?_);obtain ⟨rfl,h2,h3,h4⟩:=hq;exact ⟨.inl ⟨.bool true,.bool true,[],rfl,λ_=>rfl,.bool true,b4l l _,λ_=>⟨List.Pairwise.nil,λ_ hm=>(nomatch hm)⟩⟩,h2,h3,h4⟩
end Att
namespace L2
open PySem PySem.Spec PyProof.Rows
theorem a8F:∀ {vs:List Value} {ns:List Int},IntsAre vs ns->n0 (ns.map V.int) vs
 | _,_,.nil=>.nil
 | _,_,.cons n t h=>.cons ⟨t,rfl⟩ (a8F h)
def b0Q (H:Hp):Prop:=∀ b,H b=none \/ ∃ o xs,H b=some (.frz o (.lst xs))
theorem b5u {P:Program}{w:World}{K:PySem.W.Frag}{mg mb:Str->Option Value}{CX:CXT}{k:Nat}{fa a:Addr}{fd:FuncData}{x:Str}{sp:Sp}{s₁:Shared}{vs:List Value}{ns:List Int}
  (KX:K.In s₁.heap) (hns:s₁.heap.Ns mainGlobals mg) (hb:s₁.heap.Ns builtinsNs mb) (hbb:∀ x:Str,x ≠ "__name__"->mb x=bootBuiltins x) (hlim:s₁.heap.NoLimit) (hg:s₁.gens = #[])
  (ha:s₁.heap.get? a=some { cls:=.type "list",data:=.seq vs.toArray }) (hi:IntsAre vs ns) (hl:ns.length <= sizeLine) (hr:E9 k callerA)
  (F:∀ base:Heap,K.In base->base.Ns mainGlobals mg->a7t P w K mg base CX k fa fd [x] sp) (hbind:∀ (s:Shared) (u:Value),BindsTo s fd ⟨[u],[]⟩ [(x,u)])
  (hsp:∀ H:Hp,b0Q H->SqL K H a (ns.map V.int)->sp [.ref a] H (λv _=>v = .bl true) λ_ _ _=>False)
  (hCX:∀ H e s',CX [] H s₁ (λ_ _ _=>False) e s'->False) :
  codeAny (model P w) callerA (.call (.ref fa) ⟨[.ref a],[]⟩) (λr s'=>r = .ok (.ret (.bool true))/\OldK s₁.heap s'.heap /\ s'.os=s₁.os /\ AllBare s'.gens) s₁:=by
 have rv:=a8F hi;have lenV:=hi.length;have core:∀ H:Hp,b0Q H->SqL K H a (ns.map V.int)->HOk P w H s₁.heap -> (∀ b,H b≠none->b=a)->(H a≠none->K.lookup a=none) ->
   codeAny (model P w) callerA (.call (.ref fa) ⟨[.ref a],[]⟩) (λr s'=>r = .ok (.ret (.bool true))/\OldK s₁.heap s'.heap /\ s'.os=s₁.os /\ AllBare s'.gens) s₁:=by
  intro H hO hS hok hA hK;have base_of:∀ {b:Addr} {o:Obj},s₁.heap.get? b=some o->H b=none->(a4M s₁.heap H).get? b=some o:=λe n=>b2v e n;have noA:∀ {b:Addr} {o:Obj} {es:Array DictEntry} {ep:Nat},s₁.heap.get? b=some o->o.data = .dict es ep->H b=none:=λ{b o es ep} e d=>by
   cases q:H b with
   | none=>rfl
   | some u =>
    have e':b=a:=hA b (by rw [q];simp);subst e';rw [ha] at e;cases e;have d':Data.seq vs.toArray _=Data.dict es ep:=d;cases d'
  have nsK:∀ {b:Addr} {m:Str->Option Value},s₁.heap.Ns b m->(a4M s₁.heap H).Ns b m:=λ{b m} ⟨o,es,ep,e,d,r⟩=>⟨o,es,ep,base_of e (noA e d),d,r⟩;have hKb:K.In (a4M s₁.heap H):=λb o e=>base_of (KX b o e) (by
   cases q:H b with
   | none=>rfl
   | some u =>
    have e':b=a:=hA b (by rw [q];simp);subst e';rw [hK (by rw [q];simp)] at e;cases e)
  have hM:Mod K mg (a4M s₁.heap H):=⟨hKb,nsK hns,⟨mb,nsK hb,hbb⟩,let ⟨mc,h1,h2⟩:=hlim;⟨mc,nsK h1,h2⟩⟩;have e0:b7c P w K mg (a4M s₁.heap H) callerA [] s₁ H:=⟨rfl,hM,λb o e=>b8D e,Nat.le_of_eq (b0n _ _),trivial,λb hb=>absurd (show b∈([]:List Addr) from hb) (by simp),hok,.of_eq hg⟩;refine codeAny_mono ((F _ hKb (nsK hns)).run callerA [] s₁ H ⟨[.ref a],[]⟩ [.ref a] [.ref a] _ _ hr e0 (hbind s₁ (.ref a)) (.cons rfl .nil) (hsp H hO hS)) λr s' h=>?_;cases r with
  | error e=>exact (hCX H e s' h).elim
  | ok fl =>
   cases fl with
   | next=>exact False.elim h
   | brk=>exact False.elim h
   | cont=>exact False.elim h
   | ret u =>
    obtain ⟨v,H',os,bare,un,hok',r',q⟩:=h;have q':v = .bl true:=q;subst q';obtain rfl:u=Value.bool true:=r';refine ⟨rfl,OldK.of_keep λb o e=>?_,os,bare⟩;cases q:H b with
    | none=>exact un.keep b o e q (by intro z;exact absurd (show b∈([]:List Addr) from z) (by simp)) (by simp)
    | some u =>
     rcases hO b with z | ⟨ob,xs,z⟩
     ·rw [q] at z;cases z
     ·have z2:=un.frzs b ob _ z;obtain ⟨e1,_⟩:=hok b _ z;obtain ⟨e2,_⟩:=hok' b _ z2;rw [e] at e1;cases e1;exact e2
 cases hk:K.lookup a with
 | some o =>
  have e:=KX a o hk;rw [ha] at e;cases e;refine core (λ_=>none) (λ_=>.inl rfl) (.inr ⟨_,vs.toArray,_,hk,rfl,rfl,rfl,by rw [List.size_toArray,lenV];exact hl,by simpa using rv⟩) (λb u z=>by have z':(none:Option HO)=some u:=z;cases z') (λb z=>absurd rfl z) λz=>absurd rfl z
 | none =>
  refine core (λb=>if b=a then some (.frz { cls:=.type "list",data:=.seq vs.toArray } (.lst (ns.map V.int))) else none) (λb=>?_) (.inl (.inr ⟨{ cls:=.type "list",data:=.seq vs.toArray },if_pos rfl⟩)) (λb u z=>?_) (λb z=>?_) λ_=>hk
  ·by_cases hb:b=a
   ·exact .inr ⟨_,_,if_pos hb⟩
   ·exact .inl (if_neg hb)
  ·by_cases hb:b=a
   ·have z':=(if_pos hb).symm.trans z;cases z';subst hb;exact ⟨ha,by rw [List.length_map];exact hl,vs,_,rv,ha⟩
   ·have z':=(if_neg hb).symm.trans z;cases z'
  ·by_cases hb:b=a
   ·exact hb
   ·exact absurd (if_neg hb) z
end L2
namespace L2
open PySem PySem.Spec PyProof.Rows
abbrev KOf {K:PySem.W.Frag}{h:Heap}(_:K.In h):PySem.W.Frag:=K
theorem b6y {l:PySem.W.OpenLaw}{n k:Nat}{q:Program}{loose:List Str}{XP:(Str->Option Value)->Heap->Prop}{YP:World->Heap->Prop}{d:DefRec}{K:Params->PySem.W.Frag}{CX:World->CXT}{sp:World->Sp}{x:Str}
  (hn:l.most=some n) (hn2:n<=sizeLine) (hdf:d.params.defaults=[]) (hr:E9 k callerA)
  (hY:∀ (w:World) (h:Heap),YP w h->(K w.params).In h)
  (F:∀ (w:World) (mg:Str->Option Value) (fa:Addr) (h:Heap),(K w.params).In h->h.Ns mainGlobals mg->mg d.name=some (.ref fa) ->
   ∃ fd:FuncData,(∀ (s:Shared) (u:Value),BindsTo s fd ⟨[u],[]⟩ [(x,u)]) /\
    ∀ base:Heap,(K w.params).In base->base.Ns mainGlobals mg->a7t l.prog w (K w.params) mg base (CX w) k fa fd [x] (sp w))
  (hsp:∀ (w:World) (H:Hp) (a:Addr) (ns:List Int),ns.length <= n->b0Q H->SqL (K w.params) H a (ns.map V.int)->sp w [.ref a] H (λv _=>v = .bl true) λ_ _ _=>False)
  (hCX:∀ (w:World) (H:Hp) (s:Shared) (e:Value) (s':Shared),CX w [] H s (λ_ _ _=>False) e s'->False) :
  PySem.W.WalkO q loose XP YP l.row.toRowW d [] (λf vs=>PySem.call f vs):=by
 refine Att.a8V hn hdf λw sZ s₁ mg mb fa o pm cd doc a vs ns G Y ho hd hcd hmg hobj hints hlen hg=>?_;have KX:=hY w _ Y;obtain ⟨fd,hb,hF⟩:=F w mg fa _ KX G.T.g hmg;exact b5u KX G.T.g G.T.b G.T.builtins G.T.nolimit hg hobj hints (Nat.le_trans hlen hn2) hr hF hb (λH hO hS=>hsp w H a ns hlen hO hS) λH e s'=>hCX w H s₁ e s'
end L2
namespace L2
open PySem PySem.Spec PyProof.Rows
def S0 (s:Stmt)(j:Nat):Stmt:=match s with
 | .ClassDef _ _ _ body _ _ _ _ _ _ _=>body.getD j (.Pass ⟨0,0,0,0⟩)
 | _=>.Pass ⟨0,0,0,0⟩
def J3 (s:Stmt):Arguments:=match s with
 | .FunctionDef _ a _ _ _ _ _ _ _ _=>a
 | _=>{ posonlyargs:=[],args:=[],vararg:=none,kwonlyargs:=[],kw_defaults:=[],kwarg:=none,defaults:=[] }
def B9 (s:Stmt):List Stmt:=match s with
 | .FunctionDef _ _ b _ _ _ _ _ _ _=>b
 | _=>[]
def c8 (s:Stmt):Scope:=match s with
 | .FunctionDef _ _ _ _ _ _ sc _ _ _=>sc
 | _=>{ kind:=.function,names:=[],isGenerator:=false,isCoroutine:=false }
abbrev CX0:CXT:=λ_ _ _ _ _ _=>False
abbrev E0:XK:=λ_ _ _=>False
theorem b6e {X:Cx}:a3n CX0 X E0:=λ_ _ _ _ _ _ _ h=>h.elim
structure Fun (K:PySem.W.Frag)(x qual:Str)(st:Stmt)(f:Addr)(fd:FuncData):Prop where
 ex:∃ (oc:Value) (od:Option Addr) (kV doc pm:Value) (an:Option Addr) (cdv ct:Value) (osl:Array (Option Value)),
  fd=PySem.W.fnOf x qual (J3 st) (B9 st) (c8 st) .none kV doc pm an cdv ct/\K.lookup f=some ⟨oc,od,.func fd,osl⟩/\PySem.W.codeIn K cdv qual=true
 kp:PySem.W.keepIn K (.ref f)=true
section
variable {P:Program}{w:World}{K:PySem.W.Frag}{mg:Str->Option Value}{base:Heap}
theorem Fun.ok {x qual:Str}{st:Stmt}{f:Addr}{fd:FuncData}{N ps:List Str}{k:Nat}{sp:Sp}(F:Fun K x qual st f fd)(S:e8 N ps (c8 st))(len:∀ vs H Q E,sp vs H Q E->vs.length=ps.length)
  (hbody:∀ (cdv:Value) (A:Around) (outer:List Env) (s:Shared) (H:Hp) (vs:List V) (Q:VK) (E:XK),E9 k (A.deeper (envOfC qual (c8 st) s.heap.objs.size f cdv))->sp vs H Q E ->
   ∃ t,PSs (a7N CX0 P w K mg base N qual (c8 st) f cdv A outer s H E).nox (B9 st) t/\t { nx:=λ_ H'=>Q .non H',rt:=Q } (Z0 N vs) H):a7t P w K mg base CX0 (k + 1) f fd ps sp:=by
 obtain ⟨oc,od,kV,doc,pm,an,cdv,ct,osl,rfl,lk,hcd⟩:=F.ex;refine b6U lk hcd S len λA outer s H vs Q E hr hsp=>?_;obtain ⟨t,h,q⟩:=hbody cdv A outer s H vs Q E hr hsp;exact ⟨t,h.nox,q⟩
theorem Fun.binds {x qual:Str}{st:Stmt}{f:Addr}{fd:FuncData}{ps:List Str}(F:Fun K x qual st f fd)
  (h:∀ (kV doc pm:Value) (an:Option Addr) (cdv ct:Value) (us:List Value),us.length=ps.length -> bindArgs (PySem.W.fnOf x qual (J3 st) (B9 st) (c8 st) .none kV doc pm an cdv ct) ⟨us,[]⟩=pure (ps.zip us)):Q6 K fd ps []:=by
 obtain ⟨oc,od,kV,doc,pm,an,cdv,ct,osl,rfl,lk,hcd⟩:=F.ex;exact .all (h kV doc pm an cdv ct)
theorem b2b {x qual:Str}{st:Stmt}{f:Addr}{oc:Value}{od an:Option Addr}{osl:Array (Option Value)}{kV doc pm cdv ct:Value}(l:K.lookup f=some ⟨oc,od,.func (PySem.W.fnOf x qual (J3 st) (B9 st) (c8 st) .none kV doc pm an cdv ct),osl⟩)
  (c:PySem.W.codeIn K cdv qual=true) (k:PySem.W.keepIn K (.ref f)=true):Fun K x qual st f (PySem.W.fnOf x qual (J3 st) (B9 st) (c8 st) .none kV doc pm an cdv ct):=⟨⟨oc,od,kV,doc,pm,an,cdv,ct,osl,rfl,l,c⟩,k⟩
end
theorem a6p {A:Around}{k:Nat}(hr:E9 k A):A.units + 1 < cLine:=Nat.lt_of_le_of_lt (Nat.add_le_add_left (by decide:1<=64) _) hr.units
theorem a5r {n:Nat}(h:n<=1000):n < sizeLine:=Nat.lt_of_le_of_lt h (by decide)
section
variable {X:Cx}
theorem pv (i:Nat) {x:Str} {pos:Pos} (hN:X.N[i]? = some x:=by rfl) (hv:Vis X.env.scope x:=by first | exact Or.inl rfl | exact Or.inr (Or.inl rfl) | exact Or.inr (Or.inr rfl)) (hd:(x == ("__debug__" : Str))=false:=by decide)
  (hcd:(x == ("__classdict__" : Str))=false:=by decide):PE X (.Name x pos) (b8Q i):=b3L hN hv hd hcd
end
theorem y8 {A B:Prop}(h:B):if false=true then A else B:=by
 rw [if_neg Bool.false_ne_true];exact h
theorem U8 {A B:Prop}(h:A):if true=true then A else B:=by
 rw [if_pos rfl];exact h
theorem G1 {c A B:Prop}[Decidable c](h1:c->A)(h2:¬ c->B):if c then A else B:=by
 by_cases h:c
 ·rw [if_pos h];exact h1 h
 ·rw [if_neg h];exact h2 h
def i9 (H H':Hp):Prop:=∀ b o,H b=some o->H' b=some o
theorem i9.refl (H:Hp):i9 H H:=λ_ _ h=>h
theorem i9.trans {H H1 H2:Hp}(a:i9 H H1)(b:i9 H1 H2):i9 H H2:=λc o h=>b c o (a c o h)
theorem i9.free {H H':Hp}(e:i9 H H'){l:Addr}(h:H' l=Option.none):H l=Option.none:=by
 cases q:H l with
 | none=>rfl
 | some o =>
  rw [e l o q] at h;cases h
theorem i9.seq {K:PySem.W.Frag}{H H':Hp}{a:Addr}{xs:List V}(e:i9 H H')(h:SqL K H a xs):SqL K H' a xs:=by
 rcases h with (h | ⟨o,h⟩) | h
 ·exact .inl (.inl (e _ _ h))
 ·exact .inl (.inr ⟨o,e _ _ h⟩)
 ·exact .inr h
end L2
namespace L2
open PySem PySem.Spec PyProof.Rows
def N8 (cells:List (Str × Addr)):List (Str × NameKind)->List (Str × Addr)->List (Str × Addr)
 | [],acc=>acc
 | (n,k) :: r,acc=>if k == .free then (match cells.lookup n with | some a=>N8 cells r ((n,a) :: acc) | none=>N8 cells r acc) else N8 cells r acc
theorem a6B {env:Env}(f:Str × NameKind->List (Str × Addr)->Sem (ForInStep (List (Str × Addr))))
  (hf:∀ n k cs,f (n,k) cs=if k == .free then (do let a ← cellOf env n;pure (.yield ((n,a) :: cs))) else pure (.yield cs)) :
  ∀ (names:List (Str × NameKind)) (acc:List (Str × Addr)),(∀ y∈names,y.2 = .free -> ∃ c,env.cells.lookup y.1=some c)->forIn names acc f=pure (N8 env.cells names acc)
 | [],acc,_=>by rw [List.forIn_nil];rfl
 | (n,k) :: r,acc,h=>by
  have hr:∀ y∈r,y.2 = .free -> ∃ c,env.cells.lookup y.1=some c:=λy hy=>h y (List.mem_cons_of_mem _ hy);rw [List.forIn_cons,hf];unfold N8
  by_cases hk:k = .free
  ·subst hk;obtain ⟨c,hc⟩:=h (n,.free) List.mem_cons_self rfl;have hc':env.cells.lookup n=some c:=hc;have e1:cellOf env n=pure c:=by unfold cellOf;rw [hc']
   have ef:(NameKind.free == NameKind.free)=true:=rfl;rw [if_pos ef,if_pos ef,e1,hc'];exact a6B f hf r ((n,c) :: acc) hr
  ·have hb:(k == NameKind.free)=false:=by simpa using hk
   rw [hb,if_neg Bool.false_ne_true,if_neg Bool.false_ne_true];exact a6B f hf r acc hr
theorem a9k {scope:Scope}{env:Env}(h:∀ y∈scope.names,y.2 = .free -> ∃ c,env.cells.lookup y.1=some c):closureFor scope env=pure (N8 env.cells scope.names []):=by
 have e:=a6B (env:=env) (λx cs=>match x with | (n,k)=>if k == .free then (do let a ← cellOf env n;pure (.yield ((n,a) :: cs))) else pure (.yield cs)) (λ_ _ _=>rfl) scope.names [] h
 show (forIn scope.names [] _ >>= λcs=>pure cs)=_
 refine Eq.trans (congrArg (· >>= λcs=>pure cs) (Eq.trans ?_ e)) rfl;refine congrArg _ (funext λx=>funext λcs=>?_);obtain ⟨n,k⟩:=x;cases hk:k == NameKind.free <;> simp [hk]
theorem R8 {cells:List (Str × Addr)}:∀ {names:List (Str × NameKind)} {acc:List (Str × Addr)},(∀ n c,acc.lookup n=some c->cells.lookup n=some c)->∀ n c,(N8 cells names acc).lookup n=some c->cells.lookup n=some c
 | [],_,h,n,c,e=>h n c e
 | (m,k) :: r,acc,h,n,c,e=>by
  unfold N8 at e
  split at e
  ·split at e
   ·rename_i a ha
    refine R8 (names:=r) (acc:=(m,a) :: acc) (λx d q=>?_) n c e;rw [List.lookup_cons] at q;cases hb:x == m with
    | true=>rw [hb] at q;cases q;rw [beq_iff_eq.mp hb];exact ha
    | false=>rw [hb] at q;exact h x d q
   ·exact R8 (names:=r) h n c e
  ·exact R8 (names:=r) h n c e
theorem a4q {cells:List (Str × Addr)}{n:Str}:∀ {names:List (Str × NameKind)} {acc:List (Str × Addr)},(∃ c,acc.lookup n=some c)->∃ c,(N8 cells names acc).lookup n=some c
 | [],_,h=>h
 | (m,k) :: r,acc,h=>by
  unfold N8
  split
  ·split
   ·rename_i a ha
    refine a4q (names:=r) ?_;rw [List.lookup_cons];cases hb:n == m with
    | true=>exact ⟨a,rfl⟩
    | false=>exact h
   ·exact a4q (names:=r) h
  ·exact a4q (names:=r) h
theorem a7i {cells:List (Str × Addr)}{n:Str}{c:Addr}(hc:cells.lookup n=some c):∀ {names:List (Str × NameKind)} {acc:List (Str × Addr)},(n,NameKind.free)∈names->∃ d,(N8 cells names acc).lookup n=some d
 | (m,k) :: r,acc,h=>by
  unfold N8
  rcases List.mem_cons.mp h with e | h
  ·cases e;rw [if_pos (show (NameKind.free == NameKind.free)=true from rfl),hc];exact a4q (names:=r) ⟨c,by rw [List.lookup_cons,beq_self_eq_true]⟩
  ·split
   ·split
    ·exact a7i hc h
    ·exact a7i hc h
   ·exact a7i hc h
theorem T9 {y:Str}:∀ {names:List (Str × NameKind)} {n:Nat} {acc:List (Str × Addr)},(∀ p∈names,p.2 = .cell -> p.1 ≠ y)->(cellsFrom n names acc).lookup y=acc.lookup y
 | [],_,_,_=>rfl
 | (m,k) :: r,n,acc,h=>by
  have hr:∀ p∈r,p.2 = .cell -> p.1 ≠ y:=λp hp=>h p (List.mem_cons_of_mem _ hp);unfold cellsFrom
  by_cases hk:k = .cell
  ·subst hk;rw [if_pos (show (NameKind.cell == NameKind.cell)=true from rfl),T9 hr,List.lookup_cons];have:(y == m)=false:=by simpa using Ne.symm (h (m,.cell) List.mem_cons_self rfl)
   rw [this]
  ·rw [if_neg (by simpa using hk)];exact T9 hr
theorem U0:∀ {names:List (Str × NameKind)} {h:Heap} {acc:List (Str × Addr)} {y:Str} {c:Addr},(cellsFrom h.objs.size names acc).lookup y=some c ->
  (h.objs.size <= c/\(pushCells h names).IsCell c none) \/ acc.lookup y=some c
 | [],_,_,_,_,e=>.inr e
 | (m,k) :: r,h,acc,y,c,e=>by
  unfold cellsFrom at e;unfold pushCells
  by_cases hk:(k == NameKind.cell)=true
  ·rw [if_pos hk] at e ⊢;have e':(cellsFrom (h.push { cls:=.type "cell",data:=.cell none }).objs.size r ((m,h.objs.size) :: acc)).lookup y=some c:=by rw [Heap.size_push];exact e
   rcases U0 e' with ⟨q1,q2⟩ | q
   ·rw [Heap.size_push] at q1;exact .inl ⟨Nat.le_of_succ_le q1,q2⟩
   ·rw [List.lookup_cons] at q;cases hb:y == m with
    | true =>
     rw [hb] at q;cases q;exact .inl ⟨Nat.le_refl _,Heap.IsCell.keeps ⟨_,Heap.get?_push_size _ rfl,rfl⟩ (pushCells_keeps _ _)⟩
    | false=>rw [hb] at q;exact .inr q
  ·rw [if_neg hk] at e ⊢;exact U0 e
theorem U1:∀ {names:List (Str × NameKind)} {n:Nat} {acc:List (Str × Addr)},(∀ x y c,acc.lookup x=some c->acc.lookup y=some c->x=y)->(∀ x c,acc.lookup x=some c->c < n) ->
  ∀ x y c,(cellsFrom n names acc).lookup x=some c->(cellsFrom n names acc).lookup y=some c->x=y
 | [],_,_,h,_=>h
 | (m,k) :: r,n,acc,h,lt=>by
  unfold cellsFrom
  by_cases hk:(k == NameKind.cell)=true
  ·rw [if_pos hk];have one:∀ x c,((m,n) :: acc).lookup x=some c->(x=m/\c=n) \/ acc.lookup x=some c:=λx c e=>by
    rw [List.lookup_cons] at e;cases hb:x == m with
    | true=>rw [hb] at e;cases e;exact .inl ⟨beq_iff_eq.mp hb,rfl⟩
    | false=>rw [hb] at e;exact .inr e
   refine U1 (λx y c ex ey=>?_) λx c e=>?_
   ·rcases one x c ex with ⟨a1,a2⟩ | a <;> rcases one y c ey with ⟨b1,b2⟩ | b
    ·rw [a1,b1]
    ·exact absurd (lt y c b) (by rw [a2];exact Nat.lt_irrefl _)
    ·exact absurd (lt x c a) (by rw [b2];exact Nat.lt_irrefl _)
    ·exact h x y c a b
   ·rcases one x c e with ⟨_,a2⟩ | a
    ·rw [a2];exact Nat.lt_succ_self _
    ·exact Nat.lt_succ_of_lt (lt x c a)
  ·rw [if_neg hk];exact U1 h lt
theorem M3 {y:Str}:∀ {names:List (Str × NameKind)} {n:Nat} {acc:List (Str × Addr)},(∃ c,acc.lookup y=some c)->∃ c,(cellsFrom n names acc).lookup y=some c
 | [],_,_,h=>h
 | (m,k) :: r,n,acc,h=>by
  unfold cellsFrom
  split
  ·refine M3 ?_;rw [List.lookup_cons];cases y == m with
   | true=>exact ⟨_,rfl⟩
   | false=>exact h
  ·exact M3 h
theorem U2 {y:Str}:∀ {names:List (Str × NameKind)} {n:Nat} {acc:List (Str × Addr)},(y,NameKind.cell)∈names->∃ c,(cellsFrom n names acc).lookup y=some c
 | (m,k) :: r,n,acc,h=>by
  unfold cellsFrom
  rcases List.mem_cons.mp h with e | h
  ·cases e;rw [if_pos (show (NameKind.cell == NameKind.cell)=true from rfl)];exact M3 ⟨n,by rw [List.lookup_cons,beq_self_eq_true]⟩
  ·split
   ·exact U2 h
   ·exact U2 h
theorem X4 {y:Str}{lo:Nat}:∀ {names:List (Str × NameKind)} {n:Nat} {acc:List (Str × Addr)} {c:Addr},lo<=n->((y,NameKind.cell)∈names \/ ∀ d,acc.lookup y=some d->lo<=d)->(cellsFrom n names acc).lookup y=some c->lo<=c
 | [],n,acc,c,hn,h,e=>h.elim (λz=>nomatch z) λz=>z c e
 | (m,k) :: r,n,acc,c,hn,h,e=>by
  unfold cellsFrom at e
  by_cases hk:(k == NameKind.cell)=true
  ·rw [if_pos hk] at e;have k':k = .cell:=beq_iff_eq.mp hk;subst k';refine X4 (names:=r) (Nat.le_succ_of_le hn) ?_ e
   by_cases hm:(y,NameKind.cell)∈r
   ·exact .inl hm
   ·refine .inr λd q=>?_;rw [List.lookup_cons] at q;cases hb:y == m with
    | true=>rw [hb] at q;cases q;exact hn
    | false =>
     rw [hb] at q
     rcases h with z | z
     ·rcases List.mem_cons.mp z with z | z
      ·cases z;simp at hb
      ·exact absurd z hm
     ·exact z d q
  ·rw [if_neg hk] at e;refine X4 (names:=r) hn ?_ e
   rcases h with z | z
   ·rcases List.mem_cons.mp z with z | z
    ·cases z;exact absurd rfl hk
    ·exact .inl z
   ·exact .inr z
section
variable {M:Model}{A:Around}{E:Value->Shared->Prop}{s:Shared}
theorem a8Z {scope:Scope}{globals:Addr}{cl:List (Str × Addr)}{qual:Str}{env:Env}{Q:Env->Shared->Prop}
  (h:Q { scope:=scope,locals:=s.heap.objs.size,globals:=globals,cells:=cellsFrom (s.heap.objs.size + 1) scope.names cl,qual:=qual,func:=none,code:=env.code,frame:=env.frame,builtins:=env.builtins }
   { s with heap:=pushCells (s.heap.push { cls:=.type "dict",data:=.dict #[] }) scope.names }) :
  wpAny M A (newFunctionEnv scope globals cl [] qual none .none (some env)) Q E s:=by
 simp only [newFunctionEnv,Option.isSome_some,if_true];refine wpAny_bind (wpAny_alloc ?_);refine wpAny_bind (wpAny_layCells _ (λname kind cells=>by cases hkc:kind == NameKind.cell <;> simp [hkc]) _ _ _ _ ?_);rw [show ({ s with heap:=s.heap.push { cls:=.type "dict",data:=.dict #[] } }:Shared).heap.objs.size=s.heap.objs.size + 1 from Heap.size_push ..];refine wpAny_bind ?_;rw [List.forIn_nil];exact wpAny_pure (wpAny_pure h)
end
theorem J1 {env:Env}:∀ (names:List (Str × NameKind)) (x:Str),
  (names.map λ(n,k)=>if (k == NameKind.free && env.scope.kind == .function && env.kindOf n == some .cell) then (n,NameKind.cell) else (n,k)).lookup x =
   (names.lookup x).map λk=>if (k == NameKind.free && env.scope.kind == .function && env.kindOf x == some .cell) then NameKind.cell else k
 | [],_=>rfl
 | (n,k) :: r,x=>by
  rw [List.map_cons]
  show List.lookup x ((if (k == NameKind.free && env.scope.kind == .function && env.kindOf n == some .cell)=true then (n,NameKind.cell) else (n,k)) :: _)=_
  cases hx:x == n with
  | true =>
   have e:=beq_iff_eq.mp hx;subst e
   by_cases hc:(k == NameKind.free && env.scope.kind == .function && env.kindOf x == some .cell)=true
   ·rw [if_pos hc,List.lookup_cons,List.lookup_cons,beq_self_eq_true]
    show _=some (if (k == NameKind.free && env.scope.kind == .function && env.kindOf x == some .cell)=true then NameKind.cell else k)
    rw [if_pos hc]
   ·rw [if_neg hc,List.lookup_cons,List.lookup_cons,beq_self_eq_true]
    show _=some (if (k == NameKind.free && env.scope.kind == .function && env.kindOf x == some .cell)=true then NameKind.cell else k)
    rw [if_neg hc]
  | false =>
   have ih:=J1 (env:=env) r x
   by_cases hc:(k == NameKind.free && env.scope.kind == .function && env.kindOf n == some .cell)=true
   ·rw [if_pos hc,List.lookup_cons,List.lookup_cons,hx];exact ih
   ·rw [if_neg hc,List.lookup_cons,List.lookup_cons,hx];exact ih
def sel (idx:List Nat)(σ:St):St:=idx.map λj=>(σ[j]?).join
def Cx.comp (X:Cx)(scope:Scope)(cells:List (Str × Addr))(C:Addr)(N':List Str)(s2:Shared)(H2:Hp)(fp:List Addr):Cx where
 prog:=X.prog
 w:=X.w
 K:=X.K
 mg:=X.mg
 base:=X.base
 A:=X.A
 N:=N'
 sZ:=s2
 HZ:=H2
 env:=compEnvC scope cells C X.env
 outer:=X.stack
 stack:=X.stack
 ex:=fp
 fn:=λy=>scope.names.lookup y == some .cell
 calm:=X.calm
 pn:=[]
 xe:=λ_ _=>False
structure a3D (X:Cx)(scope:Scope)(M:List Str)(idx:List Nat):Prop where
 kind:scope.kind = .function
 loc:∀ y∈scope.names,y.2 = .local -> scope.names.lookup y.1=some .local
 cel:∀ y∈scope.names,y.2 = .cell -> scope.names.lookup y.1=some .cell
 fre:∀ y∈scope.names,y.2 = .free -> X.env.kindOf y.1=some .cell \/ X.env.kindOf y.1=some .free
 len:idx.length=M.length
 cap:∀ (j:Nat) (y:Str),M[j]? = some y->scope.names.lookup y=some .free /\ ∃ k,idx[j]? = some k/\X.N[k]? = some y
theorem b6B {idx:List Nat}{σ:St}{j:Nat}{v:V}(h:(sel idx σ)[j]? = some (some v)):∃ k,idx[j]? = some k/\σ[k]? = some (some v):=by
 unfold sel at h;rw [List.getElem?_map] at h;cases e:idx[j]? with
 | none=>rw [e] at h;cases h
 | some k =>
  rw [e] at h;refine ⟨k,rfl,?_⟩;have h':(σ[k]?).join=some v:=Option.some.inj h;cases q:σ[k]? with
  | none=>rw [q] at h';cases h'
  | some o =>
   rw [q] at h';have h'':o=some v:=h';rw [h'']
section
variable {X:Cx}{pins:List (Addr × Obj)}{σ:St}{H:Hp}{s:Shared}
theorem b9b {scope:Scope}{M:List Str}{idx:List Nat}{fp:List Addr}{x:Str}(ok:a3D X scope M idx)(hc:X.calm=true)(I:Inv X pins σ H s)(hf:∀ b∈fp,a0D X pins H b)
  (ho:∀ b∈fp,∃ o,s.heap.get? b=some o) :
  Inv (X.comp scope (cellsFrom (s.heap.objs.size + 2) scope.names (N8 X.env.cells scope.names [])) (s.heap.objs.size + 1) (x :: M) s H fp) [] (none :: sel idx σ) H
   { s with heap:=pushCells ((s.heap.push { cls:=.type "list",dict:=none,data:=.seq ([]:List Value).toArray }).push { cls:=.type "dict",data:=.dict #[] }) scope.names }:=by
 have sz2:((s.heap.push { cls:=.type "list",dict:=none,data:=.seq ([]:List Value).toArray }).push { cls:=.type "dict",data:=.dict #[] }).objs.size=s.heap.objs.size + 2:=by rw [Heap.size_push,Heap.size_push]
 have keep:∀ b o,s.heap.get? b=some o->(pushCells ((s.heap.push { cls:=.type "list",dict:=none,data:=.seq ([]:List Value).toArray }).push { cls:=.type "dict",data:=.dict #[] }) scope.names).get? b=some o :=
  λb o e=>pushCells_keeps _ _ _ _ (Heap.get?_push_of_some _ (Heap.get?_push_of_some _ e))
 have clLook:∀ n c,(N8 X.env.cells scope.names []).lookup n=some c->X.env.cells.lookup n=some c:=R8 λn c e=>by simp at e
 have clLt:∀ n c,(N8 X.env.cells scope.names []).lookup n=some c->c < s.heap.objs.size:=λn c e=>by
  obtain ⟨v,z⟩:=I.cell n c (clLook n c e);exact z.lt
 have look:∀ n c,(cellsFrom (s.heap.objs.size + 2) scope.names (N8 X.env.cells scope.names [])).lookup n=some c ->
   (s.heap.objs.size + 2<=c/\(pushCells ((s.heap.push { cls:=.type "list",dict:=none,data:=.seq ([]:List Value).toArray }).push { cls:=.type "dict",data:=.dict #[] }) scope.names).IsCell c none) \/ X.env.cells.lookup n=some c:=λn c e=>by
  have e':(cellsFrom ((s.heap.push { cls:=.type "list",dict:=none,data:=.seq ([]:List Value).toArray }).push { cls:=.type "dict",data:=.dict #[] }).objs.size scope.names (N8 X.env.cells scope.names [])).lookup n=some c:=by rw [sz2];exact e
  rcases U0 e' with ⟨q1,q2⟩ | q
  ·rw [sz2] at q1;exact .inl ⟨q1,q2⟩
  ·exact .inr (clLook n c q)
 have fresh:∀ a,s.heap.objs.size <= a->H a=none:=λa h=>I.hok.fresh h;have fpLt:∀ b∈fp,b < s.heap.objs.size:=λb hb=>let ⟨_,e⟩:=ho b hb;Heap.lt_size e;have fpStk:∀ b∈fp,b ∉ frs X.stack:=λb hb z=>by
  obtain ⟨_,f1,f2,_⟩:=hf b hb;exact (List.mem_cons.mp (I.stkSub b z)).elim f1 f2
 have hasFree:∀ y∈scope.names,y.2 = .free -> ∃ c,X.env.cells.lookup y.1=some c:=λy hy e=>I.ok.has y.1 (ok.fre y hy e);have kindR:∀ y,(compEnvC scope (cellsFrom (s.heap.objs.size + 2) scope.names (N8 X.env.cells scope.names [])) (s.heap.objs.size + 1) X.env).kindOf y =
   (scope.names.lookup y).map λk=>if (k == NameKind.free && X.env.scope.kind == .function && X.env.kindOf y == some .cell) then NameKind.cell else k:=λy=>J1 scope.names y
 refine ⟨⟨I.ok.mod,ok.kind,I.ok.glob,I.ok.blt,Nat.le_succ _,?_,λy hy=>?_,λy c hfn e=>?_,I.ok.hd,I.ok.frames,.inl rfl,λb hb=>⟨?_,λy c e=>?_⟩,I.bs,Nat.le_trans I.ok.bsz I.sz,λb o e hb=>?_,λb hb=>fpStk b hb,I.stack,I.stkFree⟩,
  rfl,I.bare,Un.kept keep,⟨λ_=>none,?_,λi y v h1 h2 h3=>?_⟩,λy c e=>?_,fresh _ (Nat.le_succ _),λy c e=>?_,λp hp=>absurd (show p∈([]:List (Addr × Obj)) from hp) (by simp),I.hok.kept keep,?_⟩
 ·exact U1 (λa b c h1 h2=>I.ok.inj a b c (clLook a c h1) (clLook b c h2)) λa c h1=>Nat.lt_of_lt_of_le (clLt a c h1) (Nat.le_add_right _ _)
 ·-- has
  rw [show (X.comp scope (cellsFrom (s.heap.objs.size + 2) scope.names (N8 X.env.cells scope.names [])) (s.heap.objs.size + 1) (x :: M) s H fp).env.kindOf y=_ from kindR y] at hy
  show ∃ c,(cellsFrom (s.heap.objs.size + 2) scope.names (N8 X.env.cells scope.names [])).lookup y=some c
  cases hk:scope.names.lookup y with
  | none=>rw [hk] at hy;rcases hy with z | z <;> cases z
  | some k =>
   have mem:=PySem.mem_of_lookup hk
   by_cases k1:k = .cell
   ·subst k1;exact U2 mem
   by_cases k2:k = .free
   ·subst k2;obtain ⟨c,ec⟩:=hasFree _ mem rfl;exact M3 (a7i ec mem)
   ·rw [hk] at hy;have hb:(k == NameKind.free)=false:=by simpa using k2
    rw [Option.map_some,hb,Bool.false_and,Bool.false_and,if_neg Bool.false_ne_true] at hy
    rcases hy with z | z
    ·exact absurd (Option.some.inj z) k1
    ·exact absurd (Option.some.inj z) k2
 ·-- cab
  have hl:scope.names.lookup y=some .cell:=by simpa [Cx.comp] using hfn
  exact X4 (lo:=s.heap.objs.size) (by omega) (.inl (PySem.mem_of_lookup hl)) e
 ·-- exf
  exact Nat.ne_of_lt (Nat.lt_succ_of_lt (fpLt b hb))
 ·rcases look y c e with ⟨q,_⟩ | q
  ·exact λz=>absurd (fpLt b hb) (by rw [← z];exact Nat.not_lt.mpr (Nat.le_trans (Nat.le_add_right _ 2) q))
  ·exact (hf b hb).2.2.2.2.1 y c q
 ·-- noex
  rcases (hf b hb).2.2.2.1 with z | z
  ·exact I.ok.noex b o e z
  ·exact absurd (Nat.lt_of_lt_of_le (Heap.lt_size e) (Nat.le_trans I.ok.bsz z)) (Nat.lt_irrefl _)
 ·-- the new map
  have e0:(s.heap.push { cls:=.type "list",dict:=none,data:=.seq ([]:List Value).toArray }).objs.size=s.heap.objs.size + 1:=Heap.size_push ..;have q:=(Heap.Ns.new (s.heap.push { cls:=.type "list",dict:=none,data:=.seq ([]:List Value).toArray }) (.type "dict")).keeps (pushCells_keeps scope.names _);rw [e0] at q;exact q
 ·-- names
  cases i with
  | zero=>cases h2
  | succ j =>
   have h2':(sel idx σ)[j]? = some (some v):=h2;have h1':M[j]? = some y:=h1;obtain ⟨k,ek,ev⟩:=b6B h2';obtain ⟨hl,k',ek',eN⟩:=ok.cap j y h1';rw [ek] at ek';cases ek';have mem:=PySem.mem_of_lookup hl;have hk:=ok.fre _ mem rfl;obtain ⟨m,hn,hloc⟩:=I.loc;have vis:Vis X.env.scope y:=hk.elim (λz=>.inr (.inl z)) λz=>.inr (.inr z);obtain ⟨u,r,l⟩:=hloc k y v eN ev vis;refine ⟨u,r,?_⟩
   rcases l with ⟨z,_⟩ | ⟨_,c,ec,hcell⟩
   ·rw [z] at hk;rcases hk with z | z <;> cases z
   ·refine .inr ⟨?_,c,?_,hcell.keeps keep⟩
    ·rw [show (X.comp scope (cellsFrom (s.heap.objs.size + 2) scope.names (N8 X.env.cells scope.names [])) (s.heap.objs.size + 1) (x :: M) s H fp).env.kindOf y=_ from kindR y,hl,Option.map_some]
     by_cases hcc:(NameKind.free == NameKind.free && X.env.scope.kind == .function && X.env.kindOf y == some .cell)=true
     ·rw [if_pos hcc];exact .inl rfl
     ·rw [if_neg hcc];exact .inr rfl
    ·show (cellsFrom (s.heap.objs.size + 2) scope.names (N8 X.env.cells scope.names [])).lookup y=some c
     rw [T9]
     ·obtain ⟨d,ed⟩:=a7i (acc:=[]) ec mem;rw [ed,← clLook y d ed,ec]
     ·intro p hp hpc hpy;have:=ok.cel p hp hpc;rw [hpy,hl] at this;cases this
 ·rcases look y c e with ⟨_,q⟩ | q
  ·exact ⟨_,q⟩
  ·obtain ⟨v,z⟩:=I.cell y c q;exact ⟨v,z.keeps keep⟩
 ·rcases look y c e with ⟨q,_⟩ | q
  ·exact fresh _ (by omega)
  ·exact I.freeC y c q
 ·show (none :: sel idx σ).length=(x :: M).length
  unfold sel;rw [List.length_cons,List.length_cons,List.length_map,ok.len]
theorem a9N {prog:Program}{w:World}{A:Around}{R:Result->Shared->Prop}{s:Shared}{elt target iter:Expr}{ifs:List Expr}{scope:Scope}{pos:Pos}{it acc:Value}{env:Env}(I:Nat->Shared->Prop)
  (turn:∀ n s,I n s->wpAny (model prog w) A (pyNext it) (λr s₁=>match r with
   | none=>R (.ok .next) s₁
   | some v=>wpAny (model prog w) A (letOwnedTupleGo target it v) (λ_ s₁'=>wpAny (model prog w) A (assign target env v) (λ_ s₂ =>
     wpAny (model prog w) A (forIn ifs true λc r=>if r=true then do let ok ← isTrue c env (eval c env);pure (ForInStep.yield ok) else pure (ForInStep.yield r)) (λok s₃ =>
      if ok=true then wpAny (model prog w) A (eval elt env) (λx s₄ =>
       wpAny (model prog w) A (call (.builtin "list.append") [acc,x]) (λ_ s₅=>∃ m,m < n/\I m s₅) (λ_ _=>False) s₄) (λ_ _=>False) s₃
      else ∃ m,m < n/\I m s₃) (λ_ _=>False) s₂) (λ_ _=>False) s₁') (λ_ _=>False) s₁) (λ_ _=>False) s)
  (n:Nat) (h:I n s) :
  codeAny (model prog w) A (.compLoop (.ListComp elt [⟨target,iter,ifs,0⟩] scope pos) 0 it acc env) R s:=by
 refine codeAny_loop rfl I (λn s hI=>?_) n h
 show wpAny _ A ((compTurn (.ListComp elt [⟨target,iter,ifs,0⟩] scope pos) 0 it acc env).onRaise (λx=>do noteFrame x env;theTreesLotGoes x)) _ _ s
 refine wpAny_noted ?_;rw [compTurn_list];refine wpAny_bind (wpAny_standAt (wpAny_bind (wpAny_mono (turn n s hI) (λr s₁ h₁=>?_) λ_ _ h'=>h'.elim)));cases r with
 | none=>exact wpAny_pure h₁
 | some v =>
  refine wpAny_bind (wpAny_mono h₁ (λ_ s₁' h₁'=>?_) λ_ _ h'=>h'.elim);refine wpAny_bind (wpAny_mono h₁' (λ_ s₂ h₂=>wpAny_bind (wpAny_mono h₂ (λok s₃ h₃=>?_) λ_ _ h'=>h'.elim)) λ_ _ h'=>h'.elim);cases ok with
  | false=>exact wpAny_pure ⟨rfl,h₃⟩
  | true =>
   exact wpAny_bind (wpAny_bind (wpAny_mono h₃ (λx s₄ h₄=>wpAny_bind (wpAny_mono h₄ (λ_ s₅ h₅=>wpAny_pure (wpAny_pure ⟨rfl,h₅⟩)) λ_ _ h'=>h'.elim)) λ_ _ h'=>h'.elim))
def PTs (X:Cx)(cs:List Expr)(t:TT):Prop :=
 ∀ (pins:List (Addr × Obj)) (s:Shared) (σ:St) (H:Hp) (Q:Bool->Hp->Prop),Inv X pins σ H s->t σ H Q ->
  wpAny (model X.prog X.w) X.A (forIn cs true λc r=>if r=true then do let ok ← isTrue c X.env (eval c X.env);pure (ForInStep.yield ok) else pure (ForInStep.yield r)) (TP X pins σ Q) X.xe s
def b8p:TT:=λ_ H Q=>Q true H
theorem a8o:PTs X [] b8p:=λ_ _ _ H _ I h=>wpAny_tests_nil ⟨H,I,h⟩
theorem a1j {c:Expr}{t:TT}(h:PT X c t):PTs X [c] t:=λpins s σ H Q I hq=>wpAny_tests_one (h pins s σ H Q I hq)
def a2D (J:It)(H1:Hp)(one:V->Hp->(Option V->Hp->Prop)->Prop)(Q:List V->Hp->Prop):Prop :=
 ∃ (n:Nat) (W:Nat->List V->Hp->Prop),W 0 [] H1/\n<=sizeLine/\∀ i ys H',W i ys H'->(J.stop i H'/\Q ys H') \/
  (J.go i H'/\i < n/\∃ N:Option V->Hp->Prop,(∀ o H3,N o H3->W (i + 1) (ys ++ o.toList) H3)/\∀ x H2,J.yld i H' x H2->one x H2 N)
def b4t (tc:TT)(te:TE)(σ:St)(x:V)(H:Hp)(k:Option V->Hp->Prop):Prop :=
 tc (some x :: σ) H λb H1=>if b=true then te (some x :: σ) H1 λv H2=>k (some v) H2 else k none H1
def b0d (wi:TI)(idx:List Nat)(tc:TT)(te:TE):TE:=fun σ H Q=>wi σ H λJ H1=>a2D J H1 (b4t tc te (sel idx σ)) λys H'=>∀ p,H' p=none->Q (.ref p) (upd H' p (.lst ys))
theorem a5B {elt iter:Expr}{ifs:List Expr}{scope:Scope}{pos:Pos}{x:Str}{px:Pos}{M:List Str}{idx:List Nat}{tc:TT}{te:TE}{itv:Value}{Q:List V->Hp->Prop}
  {RR:Value->Addr->Result->Shared->Prop}
  (hc:X.calm=true) (ok:a3D X scope M idx) (hN:(x :: M).Nodup) (hx:scope.names.lookup x=some .local \/ scope.names.lookup x=some .cell)
  (ht:∀ cells C s2 H2 fp,PTs (X.comp scope cells C (x :: M) s2 H2 fp) ifs tc) (he:∀ cells C s2 H2 fp,PE (X.comp scope cells C (x :: M) s2 H2 fp) elt te)
  (h:PIE X pins σ (.Name x px) (λJ H1=>a2D J H1 (b4t tc te (sel idx σ)) Q) itv s)
  (hR:∀ (D C:Addr) (ys:List V) (H':Hp) (s':Shared),s.heap.objs.size <= D->s.heap.objs.size <= C->D≠C->H' D=none->H' C=none->Q ys H'->(∃ m,s'.heap.Ns C m) ->
   (∀ h' tk,Heap.SameBut C s'.heap h'->Inv X pins σ (upd H' D (.lst ys)) { s' with heap:=h',toks:=tk })->RR (.ref D) C (.ok .next) s') :
  wpAny (model X.prog X.w) X.A (newList []) (λacc s₃=>wpAny (model X.prog X.w) X.A (newFunctionEnv scope X.env.globals (N8 X.env.cells scope.names []) [] X.env.qual none .none (some X.env)) (λcenv s₄ =>
   codeAny (model X.prog X.w) X.A (.compStart (.ListComp elt [⟨.Name x px,iter,ifs,0⟩] scope pos) 0 itv acc { cenv with scope:=relabel scope X.env }) (RR acc cenv.locals) s₄) X.xe s₃) X.xe s:=by
 obtain ⟨it,fp,tn,J,H2,e,I2,T,st2,f2,n,W,w0,hn,turn⟩:=h;subst e;have ho:∀ b∈fp,∃ o,s.heap.get? b=some o:=λb hb=>let ⟨o,e,_⟩:=T.obj 0 _ st2 b hb;⟨o,e⟩;have I3:=b9b (x:=x) ok hc I2 f2 ho;have sz1:(s.heap.push { cls:=.type "list",dict:=none,data:=.seq ([]:List Value).toArray }).objs.size=s.heap.objs.size + 1:=Heap.size_push ..;have keep0:∀ b o,s.heap.get? b=some o->(pushCells ((s.heap.push { cls:=.type "list",dict:=none,data:=.seq ([]:List Value).toArray }).push { cls:=.type "dict",data:=.dict #[] }) scope.names).get? b=some o :=
  λb o e=>pushCells_keeps _ _ _ _ (Heap.get?_push_of_some _ (Heap.get?_push_of_some _ e))
 have acc0:(pushCells ((s.heap.push { cls:=.type "list",dict:=none,data:=.seq ([]:List Value).toArray }).push { cls:=.type "dict",data:=.dict #[] }) scope.names).PlainList s.heap.objs.size ([]:List Value).toArray :=
  ⟨_,pushCells_keeps _ _ _ _ (Heap.get?_push_of_some _ (Heap.get?_push_size _ rfl))⟩
 have fpLt:∀ b∈fp,b < s.heap.objs.size:=λb hb=>let ⟨_,e⟩:=ho b hb;Heap.lt_size e;refine wpAny_newList ?_;refine a8Z ?_;dsimp only;rw [sz1];generalize hcells:cellsFrom (s.heap.objs.size + 1 + 1) scope.names (N8 X.env.cells scope.names [])=cells;have hcells':cellsFrom (s.heap.objs.size + 2) scope.names (N8 X.env.cells scope.names [])=cells:=hcells;rw [hcells'] at I3;generalize hh:pushCells ((s.heap.push { cls:=.type "list",dict:=none,data:=.seq ([]:List Value).toArray }).push { cls:=.type "dict",data:=.dict #[] }) scope.names=h1 at I3 keep0 acc0 ⊢;have ht:=ht cells (s.heap.objs.size + 1) s H2 fp;have he:=he cells (s.heap.objs.size + 1) s H2 fp;have st3:tn 0 h1:=T.keep 0 _ _ st2 λb hb o e=>keep0 b o e;have hg:PG (X.comp scope cells (s.heap.objs.size + 1) (x :: M) s H2 fp) (.Name x px) (F4 0):=by
  refine i7 hN rfl ?_ ?_
  ·show (relabel scope X.env).names.lookup x=some .local \/ (relabel scope X.env).names.lookup x=some .cell
   rw [show (relabel scope X.env).names.lookup x=_ from J1 scope.names x]
   rcases hx with z | z
   ·rw [z];exact .inl rfl
   ·rw [z];exact .inr rfl
  ·rcases hx with z | z
   ·refine .inr ?_
    show (relabel scope X.env).names.lookup x=some .local
    rw [show (relabel scope X.env).names.lookup x=_ from J1 scope.names x,z]
    rfl
   ·refine .inl ?_
    show (scope.names.lookup x == some .cell)=true
    rw [z];rfl
 have stat:∀ {pins':List (Addr × Obj)} {H':Hp},(∀ p∈pins',p.1=s.heap.objs.size)->(∀ b∈fp,H' b=none)->∀ b∈fp,a0D (X.comp scope cells (s.heap.objs.size + 1) (x :: M) s H2 fp) pins' H' b:=λ{pins' H'} hp hn b hb =>
  ⟨hn b hb,(I3.ok.exf b hb).1,I3.ok.exfs b hb,.inl hb,(I3.ok.exf b hb).2,λp hp'=>by
   have e:=hp p (show p∈pins' from by simpa [Cx.comp] using hp');rw [e];exact Nat.ne_of_gt (fpLt b hb)⟩
 have loop:∀ (s₄:Shared),s₄={ s with heap:=h1 }->codeAny (model X.prog X.w) X.A (.compLoop (.ListComp elt [⟨.Name x px,iter,ifs,0⟩] scope pos) 0 (.ref it) (.ref s.heap.objs.size) (compEnvC scope cells (s.heap.objs.size + 1) X.env))
   (RR (.ref s.heap.objs.size) (s.heap.objs.size + 1)) s₄:=by
  rintro s₄ rfl;refine a9N (λk s'=>∃ (i:Nat) (ys:List V) (its:List Value) (H':Hp),Inv (X.comp scope cells (s.heap.objs.size + 1) (x :: M) s H2 fp) [] (none :: sel idx σ) H' s'/\tn i s'.heap /\ (∀ b∈fp,H' b=none)/\H' s.heap.objs.size=none /\
   s'.heap.PlainList s.heap.objs.size its.toArray /\ n0 ys its/\ys.length <= i/\i<=n/\W i ys H'/\k=n - i) ?_ n ⟨0,[],[],H2,I3,st3,λb hb=>(f2 b hb).1,I2.hok.fresh (Nat.le_refl _),acc0,.nil,Nat.le_refl _,Nat.zero_le _,w0,rfl⟩
  rintro k s' ⟨i,ys,its,H',I',st',fr',hD',hpl',hv',hlen,hlin,w',rfl⟩;obtain ⟨nn,hobj⟩:=id hpl';have pinD:∀ {H5:Hp} {s5:Shared} {σ5:St} {P5:List (Addr × Obj)},Inv (X.comp scope cells (s.heap.objs.size + 1) (x :: M) s H2 fp) P5 σ5 H5 s5->s5.heap.get? s.heap.objs.size=some { cls:=.type "list",data:=.seq its.toArray nn }->H5 s.heap.objs.size=none ->
    ∀ p∈[(s.heap.objs.size,({ cls:=.type "list",data:=.seq its.toArray nn }:Obj))],s5.heap.get? p.1=some p.2 /\ H5 p.1=none/\p.1 ≠ (X.comp scope cells (s.heap.objs.size + 1) (x :: M) s H2 fp).env.locals /\ p.1 ∉ (X.comp scope cells (s.heap.objs.size + 1) (x :: M) s H2 fp).fs /\ ∀ v,p.2.data ≠ .cell v :=
   λ{H5 s5 σ5 P5} I5 e5 n5 p hp=>by
    have ep:p=(s.heap.objs.size,({ cls:=.type "list",data:=.seq its.toArray nn }:Obj)):=by simpa using hp
    subst ep;refine ⟨e5,n5,Nat.ne_of_lt (Nat.lt_succ_self _),λz=>?_,λv z=>by cases z⟩;obtain ⟨_,o,ho,_⟩:=I5.ok.funs.mem z;exact absurd (Heap.lt_size ho) (Nat.lt_irrefl _)
  have ID:=I'.pins_of (pinD I' hobj hD');have ndp:∀ p∈[(s.heap.objs.size,({ cls:=.type "list",data:=.seq its.toArray nn }:Obj))],p.1=s.heap.objs.size:=λp hp=>by
   have ep:p=(s.heap.objs.size,({ cls:=.type "list",data:=.seq its.toArray nn }:Obj)):=by simpa using hp
   rw [ep]
  rcases turn i ys H' w' with ⟨stop,qn⟩ | ⟨go,hin,N,hNW,step⟩
  ·refine thn (T.done (X.comp scope cells (s.heap.objs.size + 1) (x :: M) s H2 fp) rfl rfl rfl hc i _ s' _ H' (λ_ _=>False) ID (stat ndp fr') st' stop) λr s4 ⟨hr,I4⟩=>?_;subst hr;have pin4:=I4.pin (s.heap.objs.size,({ cls:=.type "list",data:=.seq its.toArray nn }:Obj)) (by simp [Cx.comp]);obtain ⟨m4,hm4,_⟩:=id I4.loc;refine hR s.heap.objs.size (s.heap.objs.size + 1) ys H' s4 (Nat.le_refl _) (Nat.le_succ _) (Nat.ne_of_lt (Nat.lt_succ_self _)) pin4.2.1 I4.free qn ⟨m4,hm4⟩ λh' tk hs'=>?_;have neC:∀ b,b < s.heap.objs.size -> b≠s.heap.objs.size + 1:=λb hb=>Nat.ne_of_lt (Nat.lt_succ_of_lt hb);have neD:∀ b,b < s.heap.objs.size -> b≠s.heap.objs.size:=λb hb=>Nat.ne_of_lt hb;have u4:=I4.base;refine I2.call' (s':={ s4 with heap:=h',toks:=tk }) (ch:=fp) I4.os ?_ ?_ I4.bare λb hb=>?_
   ·refine ⟨λb o e1 e2 e3 e4=>?_,λb o e1 e2 e3 e4=>?_,λb o e1 e2 e3=>?_,λb o e1 e2=>?_,λb xs e1=>?_,λb o u e1=>?_,λb ps e1=>?_⟩
    ·exact (hs'.2 b (neC b (Heap.lt_size e1))).trans (u4.keep b o e1 e2 e3 e4)
    ·obtain ⟨sl,q⟩:=u4.slot b o e1 e2 e3 e4;exact ⟨sl,(hs'.2 b (neC b (Heap.lt_size e1))).trans q⟩
    ·rw [d5 (neD b (Heap.lt_size e1))];exact u4.free b o e1 e2 e3
    ·obtain ⟨o',q⟩:=u4.there b o e1 e2;exact ⟨o',(hs'.2 b (neC b (Heap.lt_size e1))).trans q⟩
    ·have q:=u4.tups b xs e1;rw [d5 (c6 q pin4.2.1)];exact q
    ·have q:=u4.frzs b o u e1;rw [d5 (c6 q pin4.2.1)];exact q
    ·obtain ⟨more,q⟩:=u4.tbls b ps e1;exact ⟨more,by rw [d5 (c6 q pin4.2.1)];exact q⟩
   ·intro b o e1
    by_cases hb:b=s.heap.objs.size
    ·subst hb;rw [a8] at e1;cases e1;exact ⟨Nat.le_trans hlen (Nat.le_trans hlin hn),its,nn,hv',(hs'.2 _ (Nat.ne_of_lt (Nat.lt_succ_self _))).trans pin4.1⟩
    ·rw [d5 hb] at e1;refine (I4.hok b o e1).stay (λc u hcu q=>(hs'.2 c ?_).trans q) (λc q=>by rw [d5 (c6 q pin4.2.1)];exact q) λc xs q=>by rw [d5 (c6 q pin4.2.1)];exact q
     rintro rfl
     rcases hcu with z | z
     ·rw [← z] at e1;have z2:=I4.free;rw [show (X.comp scope cells (s.heap.objs.size + 1) (x :: M) s H2 fp).env.locals=s.heap.objs.size + 1 from rfl,e1] at z2;cases z2
     ·have z2:=I4.free;rw [show (X.comp scope cells (s.heap.objs.size + 1) (x :: M) s H2 fp).env.locals=s.heap.objs.size + 1 from rfl,z] at z2;cases z2
   ·obtain ⟨_,g1,g2,g3,g4,g5⟩:=f2 b hb;exact ⟨g3,g1,g4,g5⟩
  ·refine thn (T.item (X.comp scope cells (s.heap.objs.size + 1) (x :: M) s H2 fp) rfl rfl rfl hc i _ s' _ H' (λ_ _=>False) ID (stat ndp fr') st' go) λr s4 ⟨u,hr,h4⟩=>?_;subst hr;refine thn h4 λ_ s5 ⟨y,H5,I5,r5,y5,st5,fr5⟩=>?_;have I5':=I5.pinned (stat ndp fr5) (T.obj _ _ st5);refine thn (hg _ s5 _ H5 y u (fun σ' H6=>σ'=some y :: sel idx σ/\H6=H5) I5' r5 ⟨rfl,rfl⟩) λ_ s6 ⟨σ6,H6,I6,e6,e6'⟩=>?_;subst e6 e6';have fin:∀ {H8:Hp} {s8:Shared} {σ8:St},Inv (X.comp scope cells (s.heap.objs.size + 1) (x :: M) s H2 fp) ([(s.heap.objs.size,({ cls:=.type "list",data:=.seq its.toArray nn }:Obj))] ++ a8z fp s5.heap) σ8 H8 s8 ->
     s8.heap.PlainList s.heap.objs.size its.toArray /\ H8 s.heap.objs.size=none/\tn (i + 1) s8.heap /\ ∀ b∈fp,H8 b=none:=λ{H8 s8 σ8} I8=>by
    have p8:=I8.pin (s.heap.objs.size,({ cls:=.type "list",data:=.seq its.toArray nn }:Obj)) (by simp [Cx.comp]);refine ⟨⟨nn,p8.1⟩,p8.2.1,T.keep _ _ _ st5 λb hb o e=>(I8.pin (b,o) (List.mem_append_right _ (List.mem_append_right _ (X0 hb e)))).1,λb hb=>?_⟩;obtain ⟨o,e,_⟩:=T.obj _ _ st5 b hb;exact (I8.pin (b,o) (List.mem_append_right _ (List.mem_append_right _ (X0 hb e)))).2.1
   have back:∀ {H8:Hp} {s8:Shared} {P8:List (Addr × Obj)},Inv (X.comp scope cells (s.heap.objs.size + 1) (x :: M) s H2 fp) P8 (some y :: sel idx σ) H8 s8->Inv (X.comp scope cells (s.heap.objs.size + 1) (x :: M) s H2 fp) [] (none :: sel idx σ) H8 s8:=λI8 =>
    (I8.pins_of λp hp=>absurd hp (by simp)).weak rfl λj v e=>by
     cases j with
     | zero=>cases e
     | succ j=>exact e
   refine thn (ht _ s6 _ _ _ I6 (step y _ y5)) λb s7 ⟨H7,I7,q7⟩=>?_;cases b with
   | false =>
    have q7':W (i + 1) (ys ++ []) H7:=hNW none H7 q7;rw [List.append_nil] at q7';obtain ⟨g1,g2,g3,g4⟩:=fin I7;refine show (if false=true then _ else _) from ?_
    rw [if_neg Bool.false_ne_true];exact ⟨n - (i + 1),by omega,i + 1,ys,its,H7,back I7,g3,g4,g2,g1,hv',Nat.le_succ_of_le hlen,hin,q7',rfl⟩
   | true =>
    refine show (if true=true then _ else _) from ?_
    rw [if_pos rfl];have q7':te (some y :: sel idx σ) H7 λv H3=>N (some v) H3:=q7;refine thn (he _ s7 _ _ _ I7 q7') λu8 s8 ⟨v8,H8,I8,r8,w8⟩=>?_;have w8:W (i + 1) (ys ++ [v8]) H8:=hNW (some v8) H8 w8;obtain ⟨g1,g2,g3,g4⟩:=fin I8;refine wpAny_list_append_plain g1 (λh' hpl hs'=>?_) (by
     rw [List.size_toArray,← hv'.length];exact Nat.le_trans hlen (Nat.le_trans hlin hn))
    have I9:=back I8;have hpl2:h'.PlainList s.heap.objs.size (its ++ [u8]).toArray:=by
     have e:(its ++ [u8]).toArray=its.toArray.push u8:=by simp
     rw [e];exact hpl
    refine ⟨n - (i + 1),by omega,i + 1,ys ++ [v8],its ++ [u8],H8,I9.turned (it:=s.heap.objs.size) (t':=s8.toks) (λb o hb e=>(hs'.2 b hb).trans e) g2 (Nat.ne_of_lt (Nat.lt_succ_self _)) (.inr (Nat.le_refl _)) (λz c ec hcz=>?_) (λp hp=>absurd hp (by simp [Cx.comp])),
     T.keep _ _ _ g3 (λb hb o e=>(hs'.2 b (Nat.ne_of_lt (fpLt b hb))).trans e),g4,g2,hpl2,hv'.append (.cons r8 .nil),by rw [List.length_append];exact Nat.succ_le_succ hlen,hin,w8,rfl⟩
    obtain ⟨v,o,ho,hd⟩:=I9.cell z c ec;obtain ⟨n9,g9⟩:=g1;rw [hcz,g9] at ho;cases ho;cases hd
 exact codeAny_compStart_list (loop _ rfl) (T.self _ 0 _ _ _ st3 (loop _ rfl))
theorem C6 {elt iter:Expr}{ifs:List Expr}{scope:Scope}{pos:Pos}{x:Str}{px:Pos}{M:List Str}{idx:List Nat}{wi:TI}{tc:TT}{te:TE}
  (hc:X.calm=true) (hi:PI X (.Name x px) iter wi) (ok:a3D X scope M idx) (hN:(x :: M).Nodup) (hx:scope.names.lookup x=some .local \/ scope.names.lookup x=some .cell)
  (ht:∀ cells C s2 H2 fp,PTs (X.comp scope cells C (x :: M) s2 H2 fp) ifs tc) (he:∀ cells C s2 H2 fp,PE (X.comp scope cells C (x :: M) s2 H2 fp) elt te)
  (hs:∀ x,foldedSetIterable iter X.env x=pure x:=by intro _;rfl):PE X (.ListComp elt [⟨.Name x px,iter,ifs,0⟩] scope pos) (b0d wi idx tc te):=by
 intro pins s σ H Q I h;rw [eval_ListComp];refine wpAny_comprehension_free (use:=none) rfl hs (a9k λy hy e=>I.ok.has y.1 (ok.fre y hy e)) ok.kind ok.loc (thn (hi pins s σ H _ I h) λv s1 h1=>thn h1 λitv s2 h2=>?_);refine a5B (RR:=λacc C=>compPost (model X.prog X.w) X.A X.xe none (EP X pins σ Q) acc C) hc ok hN hx ht he h2 λD C ys H' s' hD hC hDC nD nC q hm hI=>?_;obtain ⟨m,hm⟩:=hm;exact ⟨m,hm,λh' hs'=>⟨.ref D,upd H' D (.lst ys),hI h' s'.toks hs',rfl,q D nD⟩⟩
def b1q (i:Nat)(t:TE):TS:=λD σ H=>t σ H λv H1=>D.nx (σ.set i (some v)) H1
theorem a1Z {elt iter:Expr}{ifs:List Expr}{scope:Scope}{pos spos py:Pos}{x y:Str}{px:Pos}{M:List Str}{idx:List Nat}{wi:TI}{tc:TT}{te:TE}{i:Nat}
  (hNd:X.N.Nodup) (hi':X.N[i]? = some y) (hy:Loc X.env.scope y)
  (hc:X.calm=true) (hi:PI X (.Name x px) iter wi) (ok:a3D X scope M idx) (hN:(x :: M).Nodup) (hx:scope.names.lookup x=some .local \/ scope.names.lookup x=some .cell)
  (ht:∀ cells C s2 H2 fp,PTs (X.comp scope cells C (x :: M) s2 H2 fp) ifs tc) (he:∀ cells C s2 H2 fp,PE (X.comp scope cells C (x :: M) s2 H2 fp) elt te)
  (hs:∀ x,foldedSetIterable iter X.env x=pure x:=by intro _;rfl)
  (hsw:swapsWith (.ListComp elt [⟨.Name x px,iter,ifs,0⟩] scope pos) (some (.Name y py)) spos.line X.env=pure true:=by rfl)
  (hf:X.fn y=true \/ X.env.scope.names.lookup y=some .local:=by first | exact .inl rfl | exact .inr rfl | assumption) :
  PS X (.Assign [.Name y py] (.ListComp elt [⟨.Name x px,iter,ifs,0⟩] scope pos) spos) (b1q i (b0d wi idx tc te)):=by
 intro pins s σ H D I h;rw [exec_Assign_Name_used _ _ _ _ hsw];refine wpAny_bind (wpAny_standAt (wpAny_bind ?_))
 show wpAny _ X.A (do let _ ← comprehension (.ListComp elt [⟨.Name x px,iter,ifs,0⟩] scope pos) scope X.env _ (newList []) false (eval iter X.env) (some (assign (.Name y py) X.env))) _ _ s
 refine wpAny_bind (wpAny_mono (wpAny_comprehension_free (use:=some (assign (.Name y py) X.env)) (Q:=λ_ s'=>SP X pins D .next s') rfl hs (a9k λy hy e=>I.ok.has y.1 (ok.fre y hy e)) ok.kind ok.loc
  (thn (hi pins s σ H _ I h) λv s1 h1=>thn h1 λitv s2 h2=>?_)) (λ_ s' hq=>wpAny_pure (wpAny_pure hq)) λ_ _ e=>e)
 have I2:∃ H',Inv X pins σ H' s2:=let ⟨_,_,_,_,H',_,I2,_⟩:=h2;⟨H',I2⟩;refine a5B (RR:=λacc C=>compPost (model X.prog X.w) X.A X.xe (some (assign (.Name y py) X.env)) (λ_ s'=>SP X pins D .next s') acc C) hc ok hN hx ht he h2 λL C ys H' s' hD hC hDC nD nC q hm hI=>?_;obtain ⟨H2,I2⟩:=I2;obtain ⟨m,hm⟩:=hm;have I5:Inv X pins σ (upd H' L (.lst ys)) s':=hI s'.heap s'.toks (Heap.SameBut.refl ..);obtain ⟨mL,hmL,_⟩:=id I2.loc;have ltL:X.env.locals < s2.heap.objs.size:=hmL.lt;have neL:C≠X.env.locals:=Nat.ne_of_gt (Nat.lt_of_lt_of_le ltL hC);have neCell:∀ z c,X.env.cells.lookup z=some c->c≠C:=λz c e=>by
  obtain ⟨v,q⟩:=I2.cell z c e;exact Nat.ne_of_lt (Nat.lt_of_lt_of_le q.lt hC)
 show wpAny _ X.A (assign (.Name y py) X.env (.ref L)) _ _ _
 refine wpAny_assign_Name (a0G (v:=.ref L) I5 hNd hi' hy rfl (λs6 I6 hch=>?_) hf);obtain ⟨a,hsa,ha⟩:=hch;have neA:C≠a:=by
  rcases ha with e | e
  ·rw [e];exact neL
  ·exact Ne.symm (neCell y a e)
 refine ⟨m,hm.sameBut hsa neA,λh' hs'=>?_⟩;refine ⟨_,_,I6.turned (it:=C) (t':=s6.toks) (λb o hb e=>(hs'.2 b hb).trans e) (by rw [d5 (Ne.symm hDC)];exact nC) neL (.inr (Nat.le_trans I2.sz hC)) neCell (λp hp z=>?_),q L nD⟩;have e2:=(I2.pin p hp).1;exact absurd (Nat.lt_of_lt_of_le (Heap.lt_size e2) hC) (by rw [z];exact Nat.lt_irrefl _)
end
theorem Q2 {K:PySem.W.Frag}{a:Addr}{xs:List V}{H:Hp}{one:V->Hp->(Option V->Hp->Prop)->Prop}{Q:List V->Hp->Prop}(Pv:Nat->List V->Hp->Prop)(h0:Pv 0 [] H)(hn:xs.length <= sizeLine)
  (hl:∀ i ys H,i<=xs.length -> Pv i ys H->SqL K H a xs) (hs:∀ i x ys H,xs[i]? = some x->Pv i ys H->one x H λo H2=>Pv (i + 1) (ys ++ o.toList) H2) (hd:∀ ys H,Pv xs.length ys H->Q ys H):a2D (Itl K a) H one Q:=by
 refine ⟨xs.length,λi ys H=>i<=xs.length /\ Pv i ys H,⟨Nat.zero_le _,h0⟩,hn,?_⟩;rintro i ys H ⟨hi,p⟩;have q:=hl i ys H hi p
 by_cases hlt:i < xs.length
 ·refine .inr ⟨⟨xs,xs[i],q,by simp [hlt]⟩,hlt,λo H3=>Pv (i + 1) (ys ++ o.toList) H3,λo H3 z=>⟨hlt,z⟩,λx H2 y=>?_⟩;obtain ⟨e,y⟩:=y;subst e;exact hs i x ys _ (y xs q) p
 ·have e:i=xs.length:=by omega
  subst e;exact .inl ⟨⟨xs,q,Nat.le_refl _⟩,hd ys H p⟩
theorem b2o {K:PySem.W.Frag}{a:Addr}{xs:List V}{H:Hp}{one:V->Hp->(Option V->Hp->Prop)->Prop}{Q:List V->Hp->Prop}(Pv:Nat->List V->Hp->Prop)(h0:Pv 0 [] H)(hn:xs.length <= sizeLine)
  (hl:∀ i ys H,i<=xs.length -> Pv i ys H->SqT K H a xs) (hs:∀ i x ys H,xs[i]? = some x->Pv i ys H->one x H λo H2=>Pv (i + 1) (ys ++ o.toList) H2) (hd:∀ ys H,Pv xs.length ys H->Q ys H):a2D (Itt K a) H one Q:=by
 refine ⟨xs.length,λi ys H=>i<=xs.length /\ Pv i ys H,⟨Nat.zero_le _,h0⟩,hn,?_⟩;rintro i ys H ⟨hi,p⟩;have q:=hl i ys H hi p
 by_cases hlt:i < xs.length
 ·refine .inr ⟨⟨xs,xs[i],q,by simp [hlt]⟩,hlt,λo H3=>Pv (i + 1) (ys ++ o.toList) H3,λo H3 z=>⟨hlt,z⟩,λx H2 y=>?_⟩;obtain ⟨e,y⟩:=y;subst e;exact hs i x ys _ (y xs q) p
 ·have e:i=xs.length:=by omega
  subst e;exact .inl ⟨⟨xs,q,Nat.le_refl _⟩,hd ys H p⟩
theorem a0V {lo:Int}{n:Nat}{H:Hp}{one:V->Hp->(Option V->Hp->Prop)->Prop}{Q:List V->Hp->Prop}(Pv:Nat->List V->Hp->Prop)(h0:Pv 0 [] H)(hn:n<=sizeLine)
  (hs:∀ i ys H,i < n->Pv i ys H->one (.int (lo + i)) H λo H2=>Pv (i + 1) (ys ++ o.toList) H2) (hd:∀ ys H,Pv n ys H->Q ys H):a2D (Itr lo n) H one Q:=by
 refine ⟨n,λi ys H=>i<=n/\Pv i ys H,⟨Nat.zero_le _,h0⟩,hn,?_⟩;rintro i ys H ⟨hi,p⟩
 by_cases hlt:i < n
 ·refine .inr ⟨hlt,hlt,λo H3=>Pv (i + 1) (ys ++ o.toList) H3,λo H3 z=>⟨hlt,z⟩,λx H2 y=>?_⟩;obtain ⟨e,y⟩:=y;subst e y;exact hs i ys _ hlt p
 ·have e:i=n:=by omega
  subst e;exact .inl ⟨Nat.le_refl _,hd ys H p⟩
end L2
namespace L2
open PySem PySem.Spec PyProof.Rows
mutual
inductive IsD (H:Hp):V->PyData->Prop
 | non:IsD H .non .none
 | bl (b:Bool):IsD H (.bl b) (.bool b)
 | int (i:Int):IsD H (.int i) (.int i)
 | str (x:Str):IsD H (.str x) (.str x)
 | tup {a:Addr} {xs:List V} {ds:List PyData}:H a=some (.tup xs)->IsDs H xs ds->IsD H (.ref a) (.tuple ds)
inductive IsDs (H:Hp):List V->List PyData->Prop
 | nil:IsDs H [] []
 | cons {x:V} {xs:List V} {d:PyData} {ds:List PyData}:IsD H x d->IsDs H xs ds->IsDs H (x :: xs) (d :: ds)
end
def Q5 (H H':Hp):Prop:=∀ a xs,H a=some (.tup xs)->H' a=some (.tup xs)
mutual
theorem IsD.keep {H H':Hp}(k:Q5 H H'):∀ {v:V} {d:PyData},IsD H v d->IsD H' v d
 | _,_,.non=>.non
 | _,_,.bl b=>.bl b
 | _,_,.int i=>.int i
 | _,_,.str x=>.str x
 | _,_,.tup h r=>.tup (k _ _ h) (IsDs.keep k r)
theorem IsDs.keep {H H':Hp}(k:Q5 H H'):∀ {xs:List V} {ds:List PyData},IsDs H xs ds->IsDs H' xs ds
 | _,_,.nil=>.nil
 | _,_,.cons h r=>.cons (IsD.keep k h) (IsDs.keep k r)
end
theorem IsDs.length {H:Hp}:∀ {xs:List V} {ds:List PyData},IsDs H xs ds->xs.length=ds.length
 | _,_,.nil=>rfl
 | _,_,.cons _ r=>by rw [List.length_cons,List.length_cons,IsDs.length r]
theorem IsDs.get {H:Hp}:∀ {xs:List V} {ds:List PyData} {i:Nat} {d:PyData},IsDs H xs ds->ds[i]? = some d->∃ x,xs[i]? = some x/\IsD H x d
 | _,_,i,d,.nil,e=>by simp at e
 | _,_,0,d,.cons h _,e=>by simp at e;subst e;exact ⟨_,rfl,h⟩
 | _,_,i + 1,d,.cons _ r,e=>by
  obtain ⟨x,e1,h⟩:=IsDs.get (i:=i) (d:=d) r (by simpa using e);exact ⟨x,by simpa using e1,h⟩
theorem IsDs.append {H:Hp}:∀ {xs ys:List V} {ds es:List PyData},IsDs H xs ds->IsDs H ys es->IsDs H (xs ++ ys) (ds ++ es)
 | _,_,_,_,.nil,s=>s
 | _,_,_,_,.cons h r,s=>.cons h (IsDs.append r s)
theorem IsD.tuple_inv {H:Hp}{v:V}{ds:List PyData}(h:IsD H v (.tuple ds)):∃ a xs,v = .ref a/\H a=some (.tup xs)/\IsDs H xs ds:=by
 cases h with
 | tup e r=>exact ⟨_,_,rfl,e,r⟩
section
variable {X:Cx}{pins:List (Addr × Obj)}{σ:St}{H:Hp}{s:Shared}
mutual
theorem IsD.reads {P:Program}{w:World}{h:Heap}{H:Hp}(I:HOk P w H h):∀ {v:V} {d:PyData} {u:Value},IsD H v d->n4 v u->∃ as,Reads h u d as
 | _,_,u,.non,r=>by cases (show u=Value.none from r);exact ⟨_,.none⟩
 | _,_,u,.bl b,r=>by cases (show u=Value.bool b from r);exact ⟨_,.bool b⟩
 | _,_,u,.int i,r=>by obtain ⟨t,rfl⟩:=(show ∃ t,u=Value.int i t from r);exact ⟨_,.int i t⟩
 | _,_,u,.str x,r=>by obtain ⟨t,rfl⟩:=(show ∃ t,u=Value.str x t from r);exact ⟨_,.str x t⟩
 | _,_,u,.tup (a:=a) (xs:=xs) e rs,r=>by
  cases (show u=Value.ref a from r);obtain ⟨_,its,rv,o,h1,h2,n,h3⟩:=(show n8 P w H h a (.tup xs) from I a _ e);obtain ⟨as,hr⟩:=IsDs.reads I rs rv;exact ⟨as,.tuple h1 h2 h3 (by simpa using hr)⟩
theorem IsDs.reads {P:Program}{w:World}{h:Heap}{H:Hp}(I:HOk P w H h):∀ {xs:List V} {ds:List PyData} {us:List Value},IsDs H xs ds->n0 xs us->∃ as,ReadsAll h us ds as
 | _,_,_,.nil,.nil=>⟨_,.nil⟩
 | _,_,_,.cons h r,.cons v vs=>by
  obtain ⟨as,h1⟩:=IsD.reads I h v;obtain ⟨bs,h2⟩:=IsDs.reads I r vs;exact ⟨_,.cons h1 h2⟩
end
def b0p (u:Nat)(dx dy:PyData):Prop:=dx.canLay0=true/\dy.canLay0=true/\dx.depth <= 20
def b1l (u:Nat):R2:=λx y H Q=>∃ dx dy,IsD H x dx/\IsD H y dy/\b0p u dx dy/\Q (.bl (PyData.eqv dx dy)) H
def a2L (u:Nat):R2:=λx y H Q=>∃ dx dy,IsD H x dx/\IsD H y dy/\b0p u dx dy/\Q (.bl (!PyData.eqv dx dy)) H
theorem a8J {A:Around}{a b:Nat}(hu:A.units + 64 < cLine)(h:a<=20):A.units + min a b < cLine:=by
 have:min a b<=a:=Nat.min_le_left _ _
 omega
theorem b4M (hu:X.A.units + 64 < cLine):OpR X (compareOp .Eq) (b1l 0):=by
 intro pins s σ H x y v u Q I rx ry h;obtain ⟨dx,dy,hx,hy,⟨c1,c2,c3⟩,q⟩:=h;obtain ⟨as,r1⟩:=hx.reads I.hok rx;obtain ⟨bs,r2⟩:=hy.reads I.hok ry;exact PySem.SeqAt.compareEq_reads r1 r2 c1 c2 (a8J hu c3) ⟨.bl _,H,I,rfl,q⟩
theorem b1M (hu:X.A.units + 64 < cLine):OpR X (compareOp .NotEq) (a2L 0):=by
 intro pins s σ H x y v u Q I rx ry h;obtain ⟨dx,dy,hx,hy,⟨c1,c2,c3⟩,q⟩:=h;obtain ⟨as,r1⟩:=hx.reads I.hok rx;obtain ⟨bs,r2⟩:=hy.reads I.hok ry;exact PySem.SeqAt.compareNe_reads r1 r2 c1 c2 (a8J hu c3) ⟨.bl _,H,I,rfl,q⟩
def b7u (K:PySem.W.Frag)(H:Hp)(x:V)(T:String):Prop:=match x with
 | .non=>T = "NoneType"
 | .bl _=>T = "bool"
 | .int _=>T = "int"
 | .str _=>T = "str"
 | .ref a=>(T = "tuple"/\∃ xs,H a=some (.tup xs)) \/ (T = "list"/\∃ xs,H a=some (.lst xs))
 | _=>False
theorem b9E {K:PySem.W.Frag}{H:Hp}{x:V}{T:String}(h:b7u K H x T):a6t K H x (.type T):=by
 cases x with
 | non=>cases (show T=_ from h);exact .non
 | bl b=>cases (show T=_ from h);exact .bl b
 | int i=>cases (show T=_ from h);exact .int i
 | str i=>cases (show T=_ from h);exact .str i
 | ref a =>
  rcases h with ⟨rfl,xs,e⟩ | ⟨rfl,xs,e⟩
  ·exact .tup e
  ·exact .lst e
 | byt b=>exact h.elim
 | flt b=>exact h.elim
 | ty n=>exact h.elim
theorem a5V:A8 X (.builtin "isinstance") (λxs H Q=>∃ (x:V) (T C:String) (b:Bool),xs=[x,.ty C]/\b7u X.K H x T/\PySem.W.kitOne X.K (.type T) (.type C)=some b/\Q (.bl b) H):=by
 intro pins s σ H xs us Q I r h;obtain ⟨x,T,C,b,rfl,ty,e,q⟩:=h;obtain ⟨u,c,rfl,rx,rc⟩:=a7P r;cases (show c=Value.type C from rc);exact b6m I rx (b9E ty) e λtk=>⟨.bl b,H,I.tok tk,rfl,q⟩
theorem a1p:OpR X (binaryOp .FloorDiv) (rI (λ_ j=>0 < j/\j < 2 ^ 62) λi j=>.int (i / j)):=opI λi j _ _ _ _ _ hc q=>by
 rw [← Int.fdiv_eq_ediv_of_nonneg i (Int.le_of_lt hc.1)] at q;refine floordiv_int (by omega) q (.inl (PyProof.noPylong_of_log2 ?_));have h1:j.natAbs < 2 ^ 62:=by omega
 have h2:j.natAbs ≠ 0:=by omega
 have:=(Nat.log2_lt h2).mpr h1
 omega
end
end L2
namespace L2
open PySem PySem.Spec PyProof.Rows
def Raw (K:PySem.W.Frag)(mg:Str->Option Value)(x:Str)(ps:List Str)(st:Stmt):Prop :=
 ∃ (f:Addr) (fd:FuncData),Fun K x x st f fd/\mg x=some (.ref f)/\Q6 K fd ps []
def Df (P:Program)(w:World)(K:PySem.W.Frag)(mg:Str->Option Value)(base:Heap)(k:Nat)(x:Str)(ps:List Str)(sp:Sp):Prop :=
 ∃ (f:Addr) (fd:FuncData),a7t P w K mg base CX0 k f fd ps sp/\mg x=some (.ref f)/\PySem.W.keepIn K (.ref f)=true/\Q6 K fd ps []/\∃ st,Fun K x x st f fd
section
variable {P:Program}{w:World}{K:PySem.W.Frag}{mg:Str->Option Value}{base:Heap}
theorem Raw.ok {x:Str}{ps N:List Str}{st:Stmt}{k:Nat}{sp:Sp}(R:Raw K mg x ps st)(S:e8 N ps (c8 st))(len:∀ vs H Q E,sp vs H Q E->vs.length=ps.length)
  (hbody:∀ (f:Addr) (cdv:Value) (A:Around) (outer:List Env) (s:Shared) (H:Hp) (vs:List V) (Q:VK) (E:XK),E9 k (A.deeper (envOfC x (c8 st) s.heap.objs.size f cdv))->sp vs H Q E ->
   ∃ t,PSs (a7N CX0 P w K mg base N x (c8 st) f cdv A outer s H E).nox (B9 st) t/\t { nx:=λ_ H'=>Q .non H',rt:=Q } (Z0 N vs) H):Df P w K mg base (k + 1) x ps sp:=by
 obtain ⟨f,fd,F,m,b⟩:=R;exact ⟨f,fd,F.ok S len (λcdv A outer s H vs Q E hr h=>hbody f cdv A outer s H vs Q E hr h),m,F.kp,b,st,F⟩
end
theorem f7 {X:Cx}{k:Nat}{x:Str}{ps:List Str}{sp:Sp}{p pos:Pos}{e:Expr}{es:List Expr}{t:TA}(D:Df X.prog X.w X.K X.mg X.base k x ps sp)(hr:E9 k X.A)(ha:PA X (e :: es) t)(hg:Gl X x:=by rfl)
  (hdb:(x == ("__debug__" : Str))=false:=by decide) (he:starEach (e :: es) X.env=(false,eval e X.env) :: starEach es X.env:=by rfl) (hpl:(backTo pos (starEach es X.env)).any (·.1)=false:=by rfl) :
  PE X (.Call (.Name x p) (e :: es) [] pos) (b8H sp [] E0 t):=by
 obtain ⟨f,fd,F,m,kp,b,_⟩:=D;exact b4D F hr hg m kp b .nil b6e ha hdb he hpl
def c7 (d:Addr)(H H':Hp):Prop:=∀ b o,H b=some o->b≠d->H' b=some o
theorem c7.refl (d:Addr)(H:Hp):c7 d H H:=λ_ _ h _=>h
theorem c7.trans {d:Addr}{H H1 H2:Hp}(a:c7 d H H1)(b:c7 d H1 H2):c7 d H H2:=λc o h n=>b c o (a c o h n) n
theorem c7.upd {d p:Addr}{H H1:Hp}{o:HO}(a:c7 d H H1)(hp:H1 p=none):c7 d H (upd H1 p o):=λc u h n=>by
 rw [d5 (c6 (a c u h n) hp)];exact a c u h n
structure b5Q (H:Hp)(d c:Addr)(ns:List Int)(k:Nat)(r:Int)(m:Nat)(t:Int):Prop where
 deck:H d=some (.lst [.ref c,.int k,.int r,.int m,.int t])
 cut:H c=some (.lst (ns.map V.int))
 kle:k<=ns.length
 few:ns.length <= 63
 rnn:0<=r
def a8O (H:Hp)(d:Addr)(n:Nat):Prop:=∃ c ns k r m t,b5Q H d c ns k r m t/\m<=n
theorem a8O.more {H:Hp}{d:Addr}{n m:Nat}(D:a8O H d n)(h:n<=m):a8O H d m:=let ⟨c,ns,k,r,j,t,D,hj⟩:=D;⟨c,ns,k,r,j,t,D,Nat.le_trans hj h⟩
theorem a8O.keep {H H':Hp}{d:Addr}{n:Nat}(D:a8O H d n)(h:i9 H H'):a8O H' d n :=
 let ⟨c,ns,k,r,m,t,D,hm⟩:=D;⟨c,ns,k,r,m,t,⟨h _ _ D.deck,h _ _ D.cut,D.kle,D.few,D.rnn⟩,hm⟩
theorem a8O.upd {H:Hp}{d p:Addr}{n:Nat}{o:HO}(D:a8O H d n)(hp:H p=none):a8O (upd H p o) d n:=D.keep λb u e=>by rw [d5 (c6 e hp)];exact e
theorem c7.tups {d:Addr}{H H':Hp}{xs:List V}(k:c7 d H H')(hd:H d=some (.lst xs)):Q5 H H':=λa ys e=>k a _ e (B2 e hd λz=>by cases z)
theorem b8 {H:Hp}{p:Addr}{o:HO}(hp:H p=none):i9 H (upd H p o):=λb u e=>by rw [d5 (c6 e hp)];exact e
theorem i9.tups {H H':Hp}(s:i9 H H'):Q5 H H':=λa xs e=>s a _ e
theorem i9.but {H H':Hp}(s:i9 H H')(d:Addr):c7 d H H':=λa o e _=>s a o e
end L2
namespace L2
open PySem PySem.Spec PyProof.Rows
section
variable {X:Cx}{tg l:Expr}
theorem A6 (hu:X.A.units + 64 < cLine):OpR X (compareOp .Eq) (λx y H Q=>rEq x y H Q \/ b1l 0 x y H Q):=b5T.or (b4M hu)
theorem P7 (hu:X.A.units + 64 < cLine):OpR X (compareOp .NotEq) (λx y H Q=>rNe x y H Q \/ a2L 0 x y H Q):=b3T.or (b1M hu)
theorem b2T {w1 w2:TI}(h1:PI X tg l w1)(h2:PI X tg l w2):PI X tg l (fun σ H R=>w1 σ H R \/ w2 σ H R):=λpins s σ H R I h=>h.elim (h1 pins s σ H R I) (h2 pins s σ H R I)
theorem b1L {tl:TE}(hl:PE X l tl):PI X tg l (fun σ H R=>b8f X.K tl σ H R \/ b5F X.K tl σ H R):=b2T (b0D hl) (b0L hl)
end
theorem w6:bootBuiltins "tuple" = some (.type "tuple"):=by decide +kernel
theorem b6P:bootBuiltins "int" = some (.type "int"):=by decide +kernel
theorem a6x:bootBuiltins "list" = some (.type "list"):=by decide +kernel
theorem a6V:bootBuiltins "range" = some (.type "range"):=by decide +kernel
theorem u2:bootBuiltins "len" = some (.builtin "len"):=by decide +kernel
theorem b4P:bootBuiltins "sum" = some (.builtin "sum"):=by decide +kernel
theorem b1c:bootBuiltins "max" = some (.builtin "max"):=by decide +kernel
theorem a1C:bootBuiltins "min" = some (.builtin "min"):=by decide +kernel
theorem a0l:bootBuiltins "isinstance" = some (.builtin "isinstance"):=by decide +kernel
end L2
namespace L2
open PySem PySem.Spec PyProof.Rows
def b6I (outer:List (Str × NameKind))(scope:Scope)(M:List Str)(idx:List Nat)(N:List Str):Bool :=
 scope.kind == .function && (scope.names.all λy=>(y.2 != .local || scope.names.lookup y.1 == some .local) && (y.2 != .cell || scope.names.lookup y.1 == some .cell) && (y.2 != .free || (outer.lookup y.1 == some .cell || outer.lookup y.1 == some .free)))
  && idx.length == M.length && (M.zip idx).all λp=>scope.names.lookup p.1 == some .free && N[p.2]? == some p.1
theorem Q3 {X:Cx}{scope:Scope}{M:List Str}{idx:List Nat}(h:b6I X.env.scope.names scope M idx X.N=true):a3D X scope M idx:=by
 unfold b6I at h;simp only [Bool.and_eq_true] at h;obtain ⟨⟨⟨h1,h2⟩,h3⟩,h4⟩:=h;have h2':=List.all_eq_true.mp h2;refine ⟨by simpa using h1,λy hy e=>?_,λy hy e=>?_,λy hy e=>?_,by simpa using h3,λj y ej=>?_⟩
 ·have:=h2' y hy
  simp [e] at this
  exact this
 ·have:=h2' y hy
  simp [e] at this
  exact this
 ·have:=h2' y hy
  simp [e] at this
  exact this
 ·have hl:idx.length=M.length:=by simpa using h3
  have hj:j < M.length:=(List.getElem?_eq_some_iff.mp ej).1;have hk:idx[j]? = some (idx[j]'(by omega)):=by simp [hl,hj]
  have hz:(M.zip idx)[j]? = some (y,idx[j]'(by omega)):=by
   rw [List.getElem?_zip_eq_some];exact ⟨ej,hk⟩
  have:=List.all_eq_true.mp h4 _ (List.mem_of_getElem? hz);simp only [Bool.and_eq_true,beq_iff_eq] at this;exact ⟨this.1,_,hk,this.2⟩
end L2
namespace L2
open PySem PySem.Spec PyProof.Rows
def b8x (K:PySem.W.Frag):Sp:=λvs H Q _=>∃ (a:Addr) (ns:List Int),vs=[.ref a]/\SqL K H a (ns.map V.int)/\ns.length <= 63/\∀ H',Q (.bl true) H'
theorem b7y {l:PySem.W.OpenLaw}{k:Nat}{q:Program}{loose:List Str}{XP:(Str->Option Value)->Heap->Prop}{YP:World->Heap->Prop}{d:DefRec}{K:Params->PySem.W.Frag}{st:Stmt}
  (hn:l.most=some 63) (hdf:d.params.defaults=[]) (hdn:d.name = "law") (hr:E9 k callerA)
  (hY:∀ (w:World) (h:Heap),YP w h->(K w.params).In h)
  (hbind:∀ (kV doc pm:Value) (an:Option Addr) (cdv ct v:Value),bindArgs (PySem.W.fnOf "law" "law" (J3 st) (B9 st) (c8 st) .none kV doc pm an cdv ct) ⟨[v],[]⟩=pure [(("script" : Str),v)])
  (F:∀ (w:World) (mg:Str->Option Value) (h:Heap),(K w.params).In h->h.Ns mainGlobals mg->Raw (K w.params) mg "law" ["script"] st/\∀ base:Heap,Df l.prog w (K w.params) mg base k "law" ["script"] (b8x (K w.params))) :
  PySem.W.WalkO q loose XP YP l.row.toRowW d [] (λf vs=>PySem.call f vs):=by
 refine L2.b6y (n:=63) (k:=k) (x := "script") (CX:=λ_=>CX0) (sp:=λw=>b8x (K w.params)) hn (by decide) hdf hr hY (λw mg fa h KX G hmg=>?_) (λw H a ns hl _ hS=>⟨a,ns,rfl,hS,hl,λ_=>rfl⟩) λ_ _ _ _ _ z=>z;obtain ⟨⟨f,fd,R,m,b⟩,D⟩:=F w mg h KX G;rw [hdn] at hmg;have e:=hmg.symm.trans m;cases e;obtain ⟨oc,od,kV,doc,pm,an,cdv,ct,osl,e1,e2,_⟩:=R.ex;refine ⟨fd,λs v=>.of_eq (by rw [e1];exact hbind kV doc pm an cdv ct v),λbase _ _=>?_⟩;obtain ⟨f',fd',G',m',_,_,st',R'⟩:=D base;have e:=hmg.symm.trans m';cases e;obtain ⟨oc',od',kV',doc',pm',an',cdv',ct',osl',e1',e2',_⟩:=R'.ex;rw [e2] at e2';cases e2';exact G'
end L2
namespace L2
open PySem PySem.Spec PyProof.Rows
theorem b7T {i j:Int}(h:decide (V.int i=V.int j)=true):i=j:=V.int.inj (of_decide_eq_true h)
theorem b6M {i j:Int}(h:¬ decide (V.int i=V.int j)=true):i≠j:=λe=>h (decide_eq_true (by rw [e]))
end L2
namespace L2
theorem O7 {t u:TS}{D:a8t}{σ:St}{H:Hp}(R:St->Hp->Prop)(hu:∀ σ H,R σ H->u D σ H)(ht:(∀ σ H,R σ H->u D σ H)->t { D with nx:=u D } σ H):a0Q t u D σ H:=ht hu
end L2
namespace L2
open PySem PySem.Spec PyProof.Rows
section
variable {X:Cx}{K:PySem.W.Frag}{tg l a b:Expr}{ta tb tl:TE}{pos:Pos}
theorem j9 (h:X.K=K):A8 X (.builtin "len") (λxs H Q=>∃ x n,xs=[x]/\b2Q K x H n/\Q (.int n) H):=by subst h;exact b4x
theorem o6 (h:X.K=K):A8 X (.type "tuple") (λxs H Q=>∃ p ys,xs=[.ref p]/\((SqL K H p ys/\∀ l,H l=none->Q (.ref l) (upd H l (.tup ys))) \/ (SqT K H p ys/\Q (.ref p) H))):=by subst h;exact a5F
theorem X5 (h:X.K=K):A8 X (.type "list") (λxs H Q=>∃ p ys,xs=[.ref p]/\(SqL K H p ys \/ SqT K H p ys)/\∀ l,H l=none->Q (.ref l) (upd H l (.lst ys))):=by subst h;exact a3O
theorem a5q (h:X.K=K):A8 X (.builtin "isinstance") (λxs H Q=>∃ (x:V) (T C:String) (b:Bool),xs=[x,.ty C]/\b7u K H x T/\PySem.W.kitOne K (.type T) (.type C)=some b/\Q (.bl b) H):=by subst h;exact a5V
theorem c9 (h:X.K=K):IxR X (rIx K):=by subst h;exact b1O
theorem q9 (h:X.K=K)(hl:PE X l tl):PI X tg l (fun σ H R=>b8f K tl σ H R \/ b5F K tl σ H R):=by subst h;exact b1L hl
theorem b3l (h:X.K=K)(ha:PE X a ta)(he:∀ whole,isTrue a X.env whole=(do let v ← whole;standAt a.pos;holding [v] (truthy v))) :
  PT X a (fun σ H Q=>ta σ H λx H'=>∃ k,b8P K x H' k/\Q k H'):=by subst h;exact b4s ha he
theorem W7 {es:List Expr}{k:Nat}{t:TGs}{n:Nat}(h:X.K=K)(hc:X.calm=true)(hg:PGs X es t)
  (hn:(assignEach es X.env).length=n:=by rfl) (hst:(assignEach es X.env).findIdx? (·.1)=none:=by rfl):PG X (.Tuple es k pos) (b3U K n t):=by subst h;exact b2L hc hg hn hst
end
end L2
namespace L2
theorem b3t {te:TE}{σ:St}{x:V}{H:Hp}{k:Option V->Hp->Prop}(h:te (some x :: σ) H λv H2=>k (some v) H2):b4t b8p te σ x H k:=by
 show if true=true then (te (some x :: σ) H λv H2=>k (some v) H2) else k none H
 rw [if_pos rfl];exact h
end L2
namespace L2
open PySem PySem.Spec PyProof.Rows
end L2
namespace L2
end L2
namespace L2
end L2
namespace L2
open PySem PySem.Spec PyProof.Rows
def d6:Option Int->V
 | none=>.non
 | some i=>.int i
def w5:Option Int->PyData
 | none=>.none
 | some i=>.int i
def E1 (r:List (Option Int)):PyData:=.tuple (r.map w5)
def i6 (F:List (List (Option Int))):PyData:=.tuple (F.map E1)
theorem b7a {H:Hp}:∀ c:Option Int,IsD H (d6 c) (w5 c)
 | none=>.non
 | some i=>.int i
theorem D4 {H:Hp}:∀ r:List (Option Int),IsDs H (r.map d6) (r.map w5)
 | []=>.nil
 | c :: r=>.cons (b7a c) (D4 r)
theorem IsD.cell_inv {H:Hp}{v:V}:∀ {c:Option Int},IsD H v (w5 c)->v=d6 c
 | none,h=>by cases h;rfl
 | some i,h=>by cases h;rfl
theorem IsDs.cells_inv {H:Hp}:∀ {xs:List V} {r:List (Option Int)},IsDs H xs (r.map w5)->xs=r.map d6
 | _,[],h=>by cases h;rfl
 | _,c :: r,h=>by
  cases h with
  | cons h1 h2=>rw [IsD.cell_inv h1,IsDs.cells_inv h2];rfl
theorem b7m {H:Hp}{v:V}{r:List (Option Int)}(h:IsD H v (E1 r)):∃ a,v = .ref a/\H a=some (.tup (r.map d6)):=by
 obtain ⟨a,xs,e,h1,h2⟩:=h.tuple_inv;rw [IsDs.cells_inv h2] at h1;exact ⟨a,e,h1⟩
theorem w4 {H:Hp}{v:V}{F:List (List (Option Int))}(h:IsD H v (i6 F)):∃ a xs,v = .ref a/\H a=some (.tup xs)/\IsDs H xs (F.map E1):=h.tuple_inv
theorem B7 {H:Hp}{xs:List V}{F:List (List (Option Int))}{i:Nat}(h:IsDs H xs (F.map E1))(hi:i < F.length):∃ a,xs[i]? = some (.ref a)/\H a=some (.tup (F[i].map d6)):=by
 obtain ⟨x,e1,e2⟩:=h.get (i:=i) (d:=E1 F[i]) (by simp [hi]);obtain ⟨a,e3,e4⟩:=b7m e2;exact ⟨a,by rw [e1,e3],e4⟩
theorem a7x {α:Type}{xs:List α}{i:Int}(h0:0<=i)(h1:i < xs.length):∃ v,atI xs i=some v/\v∈xs:=by
 obtain ⟨j,rfl⟩:=Int.eq_ofNat_of_zero_le h0;have hj:j < xs.length:=by omega
 exact ⟨xs[j],J5 (by simp [hj]),List.getElem_mem hj⟩
theorem M8 (c:Option Int):(w5 c).canLay0=true:=by cases c <;> rfl
theorem C0:∀ r:List (Option Int),PyData.canLayAll0 (r.map w5)=true
 | []=>rfl
 | c :: r=>by rw [List.map_cons,PyData.canLayAll0,M8,C0 r];rfl
theorem a1n (r:List (Option Int)):(E1 r).canLay0=true:=C0 r
theorem a8i:∀ F:List (List (Option Int)),PyData.canLayAll0 (F.map E1)=true
 | []=>rfl
 | c :: r=>by rw [List.map_cons,PyData.canLayAll0,a1n,a8i r];rfl
theorem J4 (F:List (List (Option Int))):(i6 F).canLay0=true:=a8i F
theorem Q1 (c:Option Int):(w5 c).depth=0:=by cases c <;> rfl
theorem M7:∀ r:List (Option Int),PyData.depthAll (r.map w5)=0
 | []=>rfl
 | c :: r=>by rw [List.map_cons,PyData.depthAll,Q1,M7 r];rfl
theorem a2I (r:List (Option Int)):(E1 r).depth=1:=by
 show PyData.depthAll (r.map w5) + 1=1
 rw [M7]
theorem X3:∀ F:List (List (Option Int)),PyData.depthAll (F.map E1)<=1
 | []=>Nat.zero_le _
 | c :: r=>by rw [List.map_cons,PyData.depthAll,a2I];exact Nat.max_le.mpr ⟨Nat.le_refl _,X3 r⟩
theorem a3v (F:List (List (Option Int))):(i6 F).depth <= 20:=by
 have:=X3 F
 show PyData.depthAll (F.map E1) + 1<=20
 omega
theorem b1w (a b:Option Int):PyData.eqv (w5 a) (w5 b)=decide (a=b):=by
 cases a with
 | none=>cases b <;> rfl
 | some i =>
  cases b with
  | none=>rfl
  | some j =>
   show (i == j)=decide (some i=some j)
   by_cases h:i=j
   ·subst h;simp
   ·have:¬ (some i=some j):=λe=>h (Option.some.inj e);rw [decide_eq_false this];simpa using h
theorem V3:∀ a b:List (Option Int),PyData.eqvAll (a.map w5) (b.map w5)=decide (a=b)
 | [],[]=>rfl
 | [],_ :: _=>rfl
 | _ :: _,[]=>rfl
 | x :: a,y :: b=>by
  rw [List.map_cons,List.map_cons,PyData.eqvAll,b1w,V3 a b]
  by_cases h1:x=y
  ·by_cases h2:a=b
   ·simp [h1,h2]
   ·simp [h1,h2]
  ·simp [h1]
theorem b6g (a b:List (Option Int)):PyData.eqv (E1 a) (E1 b)=decide (a=b):=by
 show PyData.eqv (.tuple _) (.tuple _)=_
 rw [PyData.eqv];exact V3 a b
theorem a0U:∀ a b:List (List (Option Int)),PyData.eqvAll (a.map E1) (b.map E1)=decide (a=b)
 | [],[]=>rfl
 | [],_ :: _=>rfl
 | _ :: _,[]=>rfl
 | x :: a,y :: b=>by
  rw [List.map_cons,List.map_cons,PyData.eqvAll,b6g,a0U a b]
  by_cases h1:x=y
  ·by_cases h2:a=b
   ·simp [h1,h2]
   ·simp [h1,h2]
  ·simp [h1]
theorem a6j (a b:List (List (Option Int))):PyData.eqv (i6 a) (i6 b)=decide (a=b):=by
 show PyData.eqv (.tuple _) (.tuple _)=_
 rw [PyData.eqv];exact a0U a b
theorem b0H {u:Nat}(a b:List (Option Int)):b0p u (E1 a) (E1 b):=⟨a1n a,a1n b,by rw [a2I];decide⟩
theorem a5I {u:Nat}(a b:List (List (Option Int))):b0p u (i6 a) (i6 b):=⟨J4 a,J4 b,a3v a⟩
end L2
namespace L2
open PySem PySem.Spec PyProof.Rows
end L2
namespace L2
open PySem PySem.Spec PyProof.Rows
inductive l9 where
 | there | near | turned | round | told (c:Option Int)
def D0:l9->PyData
 | .there=>.str "there"
 | .near=>.str "near"
 | .turned=>.str "turned"
 | .round=>.str "round"
 | .told c=>.tuple [.str "told",w5 c]
def led:l9->Int->Int->Int
 | .near,p,n=>min (max p 0) (n - 1)
 | .turned,p,n=>min (p % (2 * n)) (2 * n - 1 - p % (2 * n))
 | _,p,n=>p % n
theorem N6 (r:l9)(p:Int){n:Int}(h:1<=n):0<=led r p n/\led r p n < n:=by
 have a:=Int.emod_nonneg p (show n≠0 by omega);have b:=Int.emod_lt_of_pos p (show 0 < n by omega);have c:=Int.emod_nonneg p (show 2 * n≠0 by omega);have d:=Int.emod_lt_of_pos p (show 0 < 2 * n by omega);cases r <;> simp only [led] <;> omega
theorem b2u (r:l9){p n:Int}(h0:0<=p)(h1:p < n):led r p n=p:=by
 have a:=Int.emod_eq_of_lt h0 h1;have b:=Int.emod_eq_of_lt h0 (show p < 2 * n by omega);cases r <;> simp only [led] <;> omega
def m5 (F:List (List (Option Int)))(i j:Int):Option Int:=((F[i.toNat]?).bind λr=>r[j.toNat]?).join
def inF (F:List (List (Option Int)))(i j:Int):Bool:=decide (0<=i) && decide (i < F.length) && (decide (0<=j) && decide (j < (F.headD []).length))
def k0 (F:List (List (Option Int)))(r:l9)(i j:Int):List (Option Int) :=
 if inF F i j then [m5 F i j] else match r with
  | .there=>[]
  | .told c=>[c]
  | r=>[m5 F (led r i F.length) (led r j (F.headD []).length)]
structure F9 (F:List (List (Option Int))):Prop where
 h1:1<=F.length
 hs:F.length <= 1000
 w1:1<=(F.headD []).length
 ws:(F.headD []).length <= 1000
 row:∀ r∈F,r.length=(F.headD []).length
theorem field_cell {H:Hp}{v:V}{F:List (List (Option Int))}(R:F9 F)(h:IsD H v (i6 F)){i j:Int}(i0:0<=i)(i1:i < F.length)(j0:0<=j)(j1:j < (F.headD []).length) :
  ∃ (a:Addr) (xs:List V) (b:Addr) (r:List (Option Int)),v = .ref a/\H a=some (.tup xs)/\atI xs i=some (.ref b)/\H b=some (.tup (r.map d6))/\atI (r.map d6) j=some (d6 (m5 F i j))/\(r.map d6).length=(F.headD []).length:=by
 obtain ⟨a,xs,e,h1,h2⟩:=w4 h;obtain ⟨i',rfl⟩:=Int.eq_ofNat_of_zero_le i0;obtain ⟨j',rfl⟩:=Int.eq_ofNat_of_zero_le j0;have hi:i' < F.length:=by omega
 obtain ⟨b,e2,h3⟩:=B7 h2 hi;have hw:=R.row F[i'] (List.getElem_mem hi);have hj:j' < F[i'].length:=by omega
 refine ⟨a,xs,b,F[i'],e,h1,J5 e2,h3,?_,by rw [List.length_map];exact hw⟩;have e3:m5 F (i':Int) (j':Int)=F[i'][j']:=by
  unfold m5
  simp [hi,hj]
 rw [e3];exact J5 (by simp [hj])
theorem B4 {H:Hp}{v:V}{F:List (List (Option Int))}(R:F9 F)(h:IsD H v (i6 F)) :
  ∃ (a:Addr) (xs:List V) (b:Addr) (ys:List V),v = .ref a/\H a=some (.tup xs)/\xs.length=F.length /\ atI xs 0=some (.ref b)/\H b=some (.tup ys)/\ys.length=(F.headD []).length:=by
 obtain ⟨a,xs,e,h1,h2⟩:=w4 h;have hi:0 < F.length:=R.h1;obtain ⟨b,e2,h3⟩:=B7 h2 hi;refine ⟨a,xs,b,_,e,h1,by rw [h2.length,List.length_map],J5 e2,h3,?_⟩;rw [List.length_map];exact R.row _ (List.getElem_mem hi)
theorem B0 {H:Hp}{v:V}{x:Str}(h:IsD H v (.str x)):v = .str x:=by cases h;rfl
end L2
namespace L2
open PySem PySem.Spec PyProof.Rows
theorem E2 (F:List (List (Option Int)))(r:l9)(i j:Int):(k0 F r i j).length <= 1:=by
 unfold k0
 split
 ·exact Nat.le_refl _
 ·split <;> simp
end L2
namespace L2
open PySem PySem.Spec PyProof.Rows
theorem b3j {F:List (List (Option Int))}{i j:Int}(r:l9)(h:inF F i j=true):k0 F r i j=[m5 F i j]:=by
 unfold k0;rw [h,if_pos rfl]
end L2
namespace L2
open PySem PySem.Spec PyProof.Rows
section
open PySem.AutoSeq1 PySem.MeetsSeq PySem.MeetsSeq2 PySem.MeetsSeq3
set_option maxHeartbeats 4000000 in
theorem a0n (l:Addr)(items:Array Value)(n:Nat)(b:Addr)(items2:Array Value)(n2:Nat)(dd:Option Addr)(sl:Array (Option Value))(hs0:¬(!items.isEmpty && Builtin.List.listTooLong (items.size + items2.size))=true)(hs1:items.size <= sizeLine)(hs2:items.size + items2.size <= sizeLine + 1) :
  Meets (Builtin.«list.extend» ⟨[.ref l,.ref b],[]⟩) (λ_ R s=>s.heap.get? l=some { cls:=.type "list",dict:=none,data:=.seq items n,slots:=#[] }/\s.heap.get? b=some { cls:=.type "tuple",dict:=dd,data:=.seq items2 n2,slots:=sl }/\R (.ok (.ret Value.none)) { s with heap:=s.heap.update l (Obj.mapSeq λx=>x ++ items2),toks:=s.toks }) :=
 .of_wp λprog w A R s h=>by
  obtain ⟨hp,g,d,tk,os⟩:=s;obtain ⟨hl,hb,h⟩:=h;have f1:=idx_int;have f2:=PySem.AutoSeq1.sub_tuple_tuple;have f3:=PySem.AutoSeq1.sub_list_list;have f4:=PySem.AutoSeq1.sub_tuple_list;have f5:=PySem.AutoSeq1.sub_list_tuple;have hz':(items ++ items2).size <= sizeLine + 1:=by rw [Array.size_append];exact hs2
  wp_walk using (wpAny_updateSeq hl rfl (hz:=hs1) (_hz':=hz')),wpAny_loadPart' hl,wpAny_loadPart' hb;exact ⟨_,rfl,h⟩
end
section
variable {X:Cx}
def b9r:V->List V->Hp->VK->Prop:=λx vs H Q=>∃ l b xs zs,x = .ref l/\vs=[.ref b]/\H l=some (.lst xs)/\H b=some (.tup zs)/\xs.length + zs.length <= sizeLine/\Q .non (upd H l (.lst (xs ++ zs)))
theorem W8:MtM X "list.extend" b9r:=by
 intro pins s σ H x vs v us Q I rx rv h;obtain ⟨l,b,xs,zs,rfl,rfl,hH,hB,hz,q⟩:=h;cases rx;obtain ⟨u,rfl,ru⟩:=rv.one;cases ru;obtain ⟨z,its,n,r,hl,e⟩:=I.lstM hH;obtain ⟨z2,its2,r2,⟨oc,od,odt,osl⟩,e2,c2,n2,d2⟩:=(show n8 X.prog X.w H s.heap b (.tup zs) from I.hok b _ hB);simp only at c2 d2;subst c2 d2;have hl2:=r2.length;have hsz:its.toArray.size + its2.toArray.size <= sizeLine:=by rw [List.size_toArray,List.size_toArray];omega
 have hlong:¬ (!its.toArray.isEmpty && Builtin.List.listTooLong (its.toArray.size + its2.toArray.size))=true:=by
  rw [a4S hsz,Bool.and_false];exact Bool.false_ne_true
 refine call_meets F.slot_list_extend ⟨_,e,rfl⟩ F.entry_list_extend (F.args_list_extend_2 _ _)
  (a0n l its.toArray n b its2.toArray n2 od osl hlong (by rw [List.size_toArray];omega) (by omega)) ⟨e,e2,?_⟩
 refine ⟨.non,_,I.lset (its':=its ++ its2) hH e (by simp) (r.append r2) ?_,rfl,q⟩;rw [List.length_append]
 omega
def u5 (lo:Int)(n:Nat):List V:=(List.range n).map λi=>V.int (lo + (i:Nat))
theorem a1O:A8 X (.type "range") (λxs H Q=>∃ i j:Int,xs=[.int i,.int j]/\∀ p,H p=none->Q (.ref p) (upd H p (.rng i j))):=by
 intro pins s σ H xs us Q I r h;obtain ⟨i,j,rfl,q⟩:=h;obtain ⟨u,w',rfl,⟨t,rfl⟩,⟨t',rfl⟩⟩:=a7P r;refine call_range_2 ?_;exact ⟨.ref s.heap.objs.size,_,I.laid (o:=.rng i j) (λb u e=>Heap.get?_push_of_some _ e) (Nat.le_refl _) ⟨t,t',s.toks,Heap.get?_push_size _ rfl⟩,rfl,q _ (I.hok.fresh (Nat.le_refl _))⟩
theorem b8y {lo:Int}:∀ {n:Nat} {acc:List Value},acc.length=n->(∀ (j:Nat) v,acc[j]? = some v->∃ t,v=Value.int (lo + j * 1) t)->n0 (u5 lo n) acc:=by
 intro n
 induction n with
 | zero=>intro acc hl _;have e:=List.length_eq_zero_iff.mp hl;subst e;exact .nil
 | succ n ih =>
  intro acc hl h;obtain ⟨init,x,rfl⟩:∃ init x,acc=init ++ [x]:=by
   have hne:acc≠[]:=by intro e;rw [e] at hl;cases hl
   exact ⟨acc.dropLast,acc.getLast hne,(List.dropLast_concat_getLast hne).symm⟩
  have hli:init.length=n:=by rw [List.length_append] at hl;simpa using hl
  have e1:u5 lo (n + 1)=u5 lo n ++ [.int (lo + (n:Nat))]:=by
   unfold u5;rw [List.range_succ,List.map_append]
   rfl
  rw [e1];refine (ih hli λj v e=>h j v ?_).append (.cons ?_ .nil)
  ·rw [List.getElem?_append_left (List.getElem?_eq_some_iff.mp e).1];exact e
  ·obtain ⟨t,e⟩:=h n x (by rw [← hli];simp);exact ⟨t,by rw [e,Int.mul_one]⟩
theorem K0 (lo:Int)(n:Nat):(u5 lo n).length=n:=by unfold u5;rw [List.length_map,List.length_range]
theorem M4 (hc:X.calm=true):A8 X (.type "list") (λxs H Q=>∃ (p:Addr) (i j:Int),xs=[.ref p]/\H p=some (.rng i j)/\(-(2 ^ 62)<=i/\i < 2 ^ 62/\-(2 ^ 62)<=j/\j < 2 ^ 62)/\(j - i).toNat <= 2 ^ 20 /\
  ∀ l,H l=none->Q (.ref l) (upd H l (.lst (u5 i (j - i).toNat)))):=by
 intro pins s σ H xs us Q I r h;obtain ⟨p,i,j,rfl,hp,⟨b1,b2,b3,b4⟩,hn,q⟩:=h;obtain ⟨u,rfl,e⟩:=X7 r;obtain rfl:u=Value.ref p:=e;obtain ⟨t,u,v,hr⟩:=(show n8 X.prog X.w H s.heap p (.rng i j) from I.hok p _ hp);refine call_list_range (n:=(j - i).toNat) (I.ok.hd hc) hr (small_one b1 b2 b3 b4) (by rw [rangeSize_one];split <;> omega) (Nat.le_trans hn (by decide)) λh' tk acc' c' hk hS hacc=>?_;have hv:n0 (u5 i (j - i).toNat) acc'.toList:=b8y (by simpa using hacc.1) λk v e=>hacc.2 k v (by simpa using e);refine ⟨.ref s.heap.objs.size,_,I.laid (o:=.lst (u5 i (j - i).toNat)) hk (Nat.le_refl _) ⟨by rw [K0];exact Nat.le_trans hn (by decide),acc'.toList,c',hv,by simpa using hS⟩,rfl,q _ (I.hok.fresh (Nat.le_refl _))⟩
end
end L2
namespace L2
open PySem PySem.Spec PyProof.Rows
def a2l (u d l r:Nat):PyData:=.tuple [.int u,.int d,.int l,.int r]
theorem U9 {H:Hp}{v:V}{u d l r:Nat}(h:IsD H v (a2l u d l r)):∃ a,v = .ref a/\H a=some (.tup [.int u,.int d,.int l,.int r]):=by
 obtain ⟨a,xs,e,h1,h2⟩:=h.tuple_inv;cases h2 with
 | cons a1 h2=>cases a1;cases h2 with
  | cons a2 h2=>cases a2;cases h2 with
   | cons a3 h2=>cases a3;cases h2 with
    | cons a4 h2=>cases a4;cases h2;exact ⟨a,e,h1⟩
theorem b9T {H:Hp}{a:Addr}{u d l r:Nat}(h:H a=some (.tup [.int u,.int d,.int l,.int r])):IsD H (.ref a) (a2l u d l r):=.tup h (.cons (.int _) (.cons (.int _) (.cons (.int _) (.cons (.int _) .nil))))
def w9 (F:List (List (Option Int)))(ru:l9)(l r:Nat)(row j:Int):List (Option Int):=(List.range (l + r + 1)).flatMap λb=>k0 F ru row (j - l + (b:Nat))
def wc (F:List (List (Option Int)))(ru:l9)(u d l r:Nat)(i j:Int):List (Option Int):=(List.range (u + d + 1)).flatMap λa=>w9 F ru l r (i - u + (a:Nat)) j
theorem A2 {α:Type}(f:Nat->List α)(n:Nat):(List.range (n + 1)).flatMap f=(List.range n).flatMap f ++ f n:=by
 rw [List.range_succ,List.flatMap_append]
 simp
theorem A3 {α:Type}(f:Nat->List α){m:Nat}(h:∀ k,(f k).length <= m):∀ n,((List.range n).flatMap f).length <= n * m
 | 0=>by simp
 | n + 1=>by
  rw [A2,List.length_append,Nat.succ_mul];exact Nat.add_le_add (A3 f h n) (h n)
theorem W6 (F:List (List (Option Int)))(ru:l9)(l r:Nat)(row j:Int):(w9 F ru l r row j).length <= l + r + 1:=by
 have:=A3 (λb=>k0 F ru row (j - l + (b:Nat))) (m:=1) (λk=>E2 _ _ _ _) (l + r + 1);rw [Nat.mul_one] at this;exact this
theorem a3W (F:List (List (Option Int)))(ru:l9)(u d l r:Nat)(i j:Int):(wc F ru u d l r i j).length <= (u + d + 1) * (l + r + 1) :=
 A3 _ (λk=>W6 _ _ _ _ _ _) _
end L2
namespace L2
end L2
namespace HT
open PySem PyProof.Rows
section
variable {prog:Program}{w:World}{A:Around}{E:Value->Shared->Prop}{s:Shared}
set_option maxHeartbeats 4000000 in
theorem a1k {t sl:Addr}{items:Array Value}{vl vu:Value}{lo hi:Option Int}{Q:Value->Shared->Prop}(ht:IsTup s.heap t items)(hs:s.heap.IsSliceOf sl vl vu .none)(pl:IsPart vl lo)(pu:IsPart vu hi)
  (hw:sIx items.size 0 lo=0/\sIx items.size items.size hi=items.size) (h:Q (.ref t) s):wpAny (model prog w) A (getItem (.ref t) (.ref sl)) Q E s:=by
 obtain ⟨os,hos,hcs,hds⟩:=id hs;have hTs:s.TypeIs (.ref sl) "slice":=⟨os,hos,hcs⟩;unfold getItem
 try with_reducible refine wpAny_holding ?_
 first | refine wpAny_bind (wpAny_pure ?_) | skip
 refine wpAny_bind (wpAny_sequenceKey ht.typeIs (by decide) ?_);refine wpAny_bind (wpAny_callSpecial?_slot (name:=Str.ofString "__getitem__") ht.typeIs PyProof.Rows.slot_tuple_getitem
  (wpAny_call_entry PyProof.Rows.slot_tuple_getitem ht.typeIs entry_tuple_getitem ?_ (args_tuple_getitem _ _)))
 show wpAny _ _ (Builtin.Tuple.tupleItemsOf (.ref t) >>= _) _ _ s
 refine wpAny_bind (tupleItemsOf_ ht ?_);refine wpAny_bind (wpAny_typeOf hTs ?_);rw [if_pos (by decide)];refine wpAny_bind (U3 hs pl pu ?_);rw [hw.1,hw.2]
 show wpAny _ _ (if ((((0:Nat):Int) == 0 && (1:Int) == 1 && (items.size - 0) == items.size)=true) then _ else _) _ _ s
 rw [if_pos (by simp)];refine wpAny_bind ?_;unfold Builtin.Tuple.tupleIsExact;refine wpAny_bind (wpAny_typeOf ht.typeIs (wpAny_pure ?_));rw [if_pos (by decide)]
 first
  | exact wpAny_bind (wpAny_rule (wpAny_bind (wpAny_pure (wpAny_pure ⟨_,rfl,wpAny_pure h⟩))))
  | exact wpAny_bind (wpAny_rule (wpAny_pure ⟨_,rfl,wpAny_pure h⟩))
  | exact wpAny_rule (wpAny_bind (wpAny_pure (wpAny_pure ⟨_,rfl,wpAny_pure h⟩)))
end
end HT
namespace L2
open PySem PySem.Spec PyProof.Rows
section
variable {X:Cx}
def b2I:V->Option Int->Option Int->Hp->VK->Prop:=λx lo hi H Q=>∃ a xs,x = .ref a/\H a=some (.tup xs)/\∀ p H',i9 H H'->H' p=some (.tup (a3t xs lo hi))->Q (.ref p) H'
theorem b3B:SlR X b2I:=by
 intro pins s σ H x v vl vu lo hi sl Q I rx hs pl pu h;obtain ⟨a,xs,rfl,hx,q⟩:=h
 by_cases hw:HT.sIx xs.length 0 lo=0/\HT.sIx xs.length xs.length hi=xs.length
 ·cases rx;obtain ⟨its,r,ht,hz⟩:=I.tuple (SqT.of hx);have hlen:its.toArray.size=xs.length:=by rw [List.size_toArray];exact r.length.symm
  refine ⟨"tuple",_,PyProof.Rows.slot_tuple_getitem.lookup,ht.typeIs,?_⟩;refine HT.a1k ht hs pl pu (by rw [hlen];exact hw) ⟨.ref a,H,I,rfl,q a H (i9.refl H) ?_⟩;rw [hx];unfold a3t;rw [hw.1,hw.2,List.drop_zero,Nat.sub_zero,List.take_of_length_le (Nat.le_refl _)]
 ·exact b4K pins s σ H _ v vl vu lo hi sl Q I rx hs pl pu ⟨a,xs,rfl,SqT.of hx,hw,λp hp=>q p _ (b8 hp) a8⟩
def b6S:R2:=λx y H Q=>∃ p q xs ys dx dy,x = .ref p/\y = .ref q/\H p=some (.lst xs)/\H q=some (.lst ys)/\IsDs H xs dx/\IsDs H ys dy/\b0p 0 (.list dx) (.list dy)/\Q (.bl (!PyData.eqvAll dx dy)) H
def b0s:R2:=λx y H Q=>∃ p q xs ys dx dy,x = .ref p/\y = .ref q/\H p=some (.lst xs)/\H q=some (.lst ys)/\IsDs H xs dx/\IsDs H ys dy/\b0p 0 (.list dx) (.list dy)/\Q (.bl (PyData.eqvAll dx dy)) H
theorem X2 {P:Program}{w:World}{H:Hp}{h:Heap}(I:HOk P w H h){p:Addr}{xs:List V}{dx:List PyData}(hp:H p=some (.lst xs))(hd:IsDs H xs dx):∃ as,Reads h (.ref p) (.list dx) as:=by
 obtain ⟨_,its,n,r,e⟩:=(show n8 P w H h p (.lst xs) from I p _ hp);obtain ⟨as,hr⟩:=hd.reads I r;exact ⟨_,.list e rfl rfl (by simpa using hr)⟩
theorem b0M (hu:X.A.units + 64 < cLine):OpR X (compareOp .NotEq) b6S:=by
 intro pins s σ H x y v u Q I rx ry h;obtain ⟨p,q,xs,ys,dx,dy,rfl,rfl,hp,hq,hx,hy,⟨c1,c2,c3⟩,qq⟩:=h;cases rx;cases ry;obtain ⟨as,r1⟩:=X2 I.hok hp hx;obtain ⟨bs,r2⟩:=X2 I.hok hq hy;exact PySem.SeqAt.compareNe_reads r1 r2 c1 c2 (a8J hu c3) ⟨.bl _,H,I,rfl,qq⟩
theorem b3M (hu:X.A.units + 64 < cLine):OpR X (compareOp .Eq) b0s:=by
 intro pins s σ H x y v u Q I rx ry h;obtain ⟨p,q,xs,ys,dx,dy,rfl,rfl,hp,hq,hx,hy,⟨c1,c2,c3⟩,qq⟩:=h;cases rx;cases ry;obtain ⟨as,r1⟩:=X2 I.hok hp hx;obtain ⟨bs,r2⟩:=X2 I.hok hq hy;exact PySem.SeqAt.compareEq_reads r1 r2 c1 c2 (a8J hu c3) ⟨.bl _,H,I,rfl,qq⟩
theorem b9L (hu:X.A.units + 64 < cLine):OpR X (compareOp .NotEq) (λx y H Q=>(rNe x y H Q \/ a2L 0 x y H Q) \/ b6S x y H Q):=(P7 hu).or (b0M hu)
theorem a7Z (hu:X.A.units + 64 < cLine):OpR X (compareOp .Eq) (λx y H Q=>(rEq x y H Q \/ b1l 0 x y H Q) \/ b0s x y H Q):=(A6 hu).or (b3M hu)
theorem b9V {K:PySem.W.Frag}(h:X.K=K):SlR X (λx lo hi H Q=>b3S K x lo hi H Q \/ b2I x lo hi H Q):=by subst h;exact b4B.or b3B
end
end L2
namespace L2
open PySem PySem.Spec PyProof.Rows
end L2
namespace L2
open PySem PySem.Spec PyProof.Rows
end L2
namespace HT
open PySem PyProof.Rows
end HT
namespace L2
open PySem PySem.Spec PyProof.Rows
end L2
namespace L2
open PySem PySem.Spec PyProof.Rows
end L2
namespace L2
def ups (lo:Int)(n:Nat):List Int:=(List.range n).map λi=>lo + (i:Nat)
theorem b6p (lo:Int)(n:Nat):ups lo (n + 1)=ups lo n ++ [lo + (n:Nat)]:=by
 unfold ups;rw [List.range_succ,List.map_append]
 rfl
theorem a8w (lo:Int)(n:Nat):(ups lo n).length=n:=by unfold ups;rw [List.length_map,List.length_range]
theorem W9 {lo z:Int}{n:Nat}:z∈ups lo n↔lo<=z/\z < lo + n:=by
 unfold ups;rw [List.mem_map]
 constructor
 ·rintro ⟨i,hi,rfl⟩;rw [List.mem_range] at hi
  omega
 ·rintro ⟨h1,h2⟩;exact ⟨(z - lo).toNat,List.mem_range.mpr (by omega),by omega⟩
theorem b9y {a b:Int}{n m:Nat}(h:ups a (n + 1)=ups b m):a=b:=by
 have l:=congrArg List.length h;rw [a8w,a8w] at l;subst l;have h1:a∈ups b (n + 1):=by rw [← h];exact W9.mpr (by omega)
 have h2:b∈ups a (n + 1):=by rw [h];exact W9.mpr (by omega)
 have:=W9.mp h1;have:=W9.mp h2
 omega
def G0 (xs ys:List Int):List Int:=xs.filter λx=>!decide (x∈ys)
abbrev L7:=List Int × List Int
def y9 (a o:L7):L7:=if a.1=o.1 then (a.1,G0 a.2 o.2) else (G0 a.1 o.1,a.2)
def btw (x y:Int):Int->Bool:=λz=>decide (x<=z) && decide (z<=y)
def cnt (x1 y1 x2 y2:Int)(a:L7):Int:=((a.1.filter (btw x1 y1)).length:Int) * ((a.2.filter (btw x2 y2)).length:Int)
def b6X (lo hi:Int):Int:=max 0 (hi - lo + 1)
def m8 (w k:Nat):Int × Int:=(((k / w:Nat):Int),((if (k / w) % 2=1 then w - 1 - k % w else k % w:Nat):Int))
def l0 (u d l r w k:Nat):L7:=(ups ((m8 w k).1 - u) (u + d + 1),ups ((m8 w k).2 - l) (l + r + 1))
def G8 (u d l r w:Nat):Nat->L7
 | 0=>([],[])
 | k + 1=>l0 u d l r w k
def Y9 (f:Nat->Int):Nat->Int
 | 0=>0
 | k + 1=>Y9 f k + f k
def a0A (x1 y1 x2 y2:Int)(u d l r w k:Nat):Int:=cnt x1 y1 x2 y2 (y9 (l0 u d l r w k) (G8 u d l r w k)) + cnt x1 y1 x2 y2 (y9 (G8 u d l r w k) (l0 u d l r w k))
def F3 (c:Bool):Int:=if c then 0 else -1000
def F1 (c:Bool)(n:Nat):Int:=if c then n - 1 else 1000
def b1f (c:Bool)(h w u d l r:Nat):Int:=Y9 (a0A (F3 c) (F1 c h) (F3 c) (F1 c w) u d l r w) (h * w)
theorem a3Z {w k:Nat}(hw:1<=w):((m8 w (k + 1)).1=(m8 w k).1 /\ (k + 1) % w≠0/\((m8 w (k + 1)).2=(m8 w k).2 + 1 \/ (m8 w (k + 1)).2=(m8 w k).2 - 1)) \/
  ((m8 w (k + 1)).1=(m8 w k).1 + 1/\(k + 1) % w=0/\(m8 w (k + 1)).2=(m8 w k).2):=by
 have e:=Nat.div_add_mod k w;have m:=Nat.mod_lt k (show 0 < w by omega)
 by_cases h:k % w + 1 < w
 ·have d1:(k + 1) / w=k / w:=by
   rw [show k + 1=w * (k / w) + (k % w + 1) by omega,Nat.mul_add_div (by omega),Nat.div_eq_of_lt h,Nat.add_zero]
  have d2:(k + 1) % w=k % w + 1:=by
   rw [show k + 1=w * (k / w) + (k % w + 1) by omega,Nat.mul_add_mod,Nat.mod_eq_of_lt h]
  left
  unfold m8;rw [d1,d2];refine ⟨rfl,by omega,?_⟩;generalize k / w=q;generalize k % w=t at m h;dsimp only
  split <;> omega
 ·have h':k % w + 1=w:=by omega
  have d1:(k + 1) / w=k / w + 1:=by
   rw [show k + 1=w * (k / w) + w by omega,Nat.mul_add_div (by omega),Nat.div_self (by omega)]
  have d2:(k + 1) % w=0:=by
   rw [show k + 1=w * (k / w) + w by omega,Nat.mul_add_mod,Nat.mod_self]
  right
  unfold m8;rw [d1,d2];refine ⟨by simp,rfl,?_⟩;generalize k / w=q;generalize k % w=t at m h h';dsimp only
  split <;> split <;> omega
theorem a5R {h w k:Nat}(hw:1<=w)(hk:k < h * w):(0<=(m8 w k).1 /\ (m8 w k).1 < h)/\(0<=(m8 w k).2 /\ (m8 w k).2 < w):=by
 have m:=Nat.mod_lt k (show 0 < w by omega);have q:k / w < h:=Nat.div_lt_of_lt_mul (by rw [Nat.mul_comm];exact hk);unfold m8;dsimp only;generalize k % w=t at m;generalize k / w=z at q;refine ⟨⟨by omega,by omega⟩,⟨by omega,?_⟩⟩
 split <;> omega
theorem a6X {f g:Nat->Int}:∀ {n:Nat},(∀ k,k < n->f k<=g k)->Y9 f n<=Y9 g n
 | 0,_=>Int.le_refl _
 | n + 1,h=>by
  have:=a6X (n:=n) λk hk=>h k (by omega);have:=h n (by omega)
  show Y9 f n + f n<=Y9 g n + g n
  omega
end L2
namespace L2
open PySem PySem.Spec PyProof.Rows
def J7 (H:Hp)(d:Addr):Prop:=∃ a b n c:Int,H d=some (.lst [.int a,.int b,.int n,.int c])
theorem J7.keep {H H':Hp}{d:Addr}(D:J7 H d)(h:i9 H H'):J7 H' d:=let ⟨a,b,n,c,e⟩:=D;⟨a,b,n,c,h _ _ e⟩
theorem J7.upd {H:Hp}{d p:Addr}{o:HO}(D:J7 H d)(hp:H p=none):J7 (upd H p o) d:=D.keep (b8 hp)
theorem J7.lst {H:Hp}{d:Addr}(D:J7 H d):∃ xs,H d=some (.lst xs):=let ⟨_,_,_,_,e⟩:=D;⟨_,e⟩
theorem J7.ne {H:Hp}{d p:Addr}(D:J7 H d)(hp:H p=none):p≠d:=by
 obtain ⟨xs,e⟩:=D.lst;exact (c6 e hp).symm
section
variable {X:Cx}{K:PySem.W.Frag}
theorem a7E (h:X.K=K):OpR X (compareOp .NotIn) (rIn K true):=by subst h;exact a7L
theorem a6Z (h:X.K=K):OpR X (compareOp .In) (rIn K false):=by subst h;exact b8l
end
section
variable {X:Cx}
theorem a2O:A8 X (.type "range") (λxs H Q=>∃ j:Int,xs=[.int j]/\∀ p,H p=none->Q (.ref p) (upd H p (.rng 0 j))):=by
 intro pins s σ H xs us Q I r h;obtain ⟨j,rfl,q⟩:=h;obtain ⟨u,rfl,⟨t,rfl⟩⟩:=X7 r;refine call_range_1 ?_;exact ⟨.ref s.heap.objs.size,_,I.laid (o:=.rng 0 j) (λb u e=>Heap.get?_push_of_some _ e) (Nat.le_refl _) ⟨s.toks,t,s.toks + 1,Heap.get?_push_size _ rfl⟩,rfl,q _ (I.hok.fresh (Nat.le_refl _))⟩
end
theorem b8a (xs:List Int):xs.map V.int=(xs.map some).map d6:=by rw [List.map_map];rfl
theorem b2r {xs ys:List Int}:xs.map some=ys.map some↔xs=ys:=by
 constructor
 ·intro h;have:=congrArg (List.map (Option.getD · 0)) h
  simpa [List.map_map,Function.comp_def] using this
 ·rintro rfl;rfl
theorem b1G {H:Hp}{p q:Addr}{xs ys:List Int}{Q:VK}(hp:H p=some (.lst (xs.map V.int)))(hq:H q=some (.lst (ys.map V.int)))(k:Q (.bl (decide (xs=ys))) H):b0s (.ref p) (.ref q) H Q:=by
 rw [b8a] at hp hq;refine ⟨p,q,_,_,_,_,rfl,rfl,hp,hq,D4 _,D4 _,⟨?_,?_,?_⟩,?_⟩
 ·exact C0 _
 ·exact C0 _
 ·show PyData.depthAll ((xs.map some).map w5) + 1<=20
  rw [M7];decide
 ·rw [V3];have:decide (xs.map some=ys.map some)=decide (xs=ys):=by
   by_cases h:xs=ys
   ·subst h;simp
   ·rw [decide_eq_false h,decide_eq_false λz=>h (b2r.mp z)]
  rw [this];exact k
theorem b9u (x:Int)(ys:List Int):inV (.int x) (ys.map V.int)=decide (x∈ys):=by
 unfold inV
 induction ys with
 | nil=>rfl
 | cons y ys ih =>
  rw [List.map_cons,List.any_cons,ih]
  by_cases h:y=x
  ·subst h;have:eqV (.int y) (.int y)=true:=by simp [eqV]
   rw [this];simp
  ·have:eqV (.int y) (.int x)=false:=by simp [eqV,h]
   rw [this];have h':¬ x=y:=λz=>h z.symm
   simp [h']
theorem b7n (ys:List Int):(ys.map V.int).all a5k=true:=by
 rw [List.all_map,List.all_eq_true];intro x _
 rfl
def a8C (x:Addr)(H:Hp)(v:V)(A:L7):Prop:=∃ t a b,v = .ref t/\H t=some (.tup [.ref a,.ref b])/\H a=some (.lst (A.1.map V.int))/\H b=some (.lst (A.2.map V.int))/\a≠x/\b≠x
theorem a8C.same {x:Addr}{H H':Hp}{v:V}{A:L7}(h:a8C x H v A)(s:i9 H H'):a8C x H' v A :=
 let ⟨t,a,b,e,h1,h2,h3,n1,n2⟩:=h;⟨t,a,b,e,s _ _ h1,s _ _ h2,s _ _ h3,n1,n2⟩
def C7 (p:Int × Int):PyData:=.tuple [.int p.1,.int p.2]
theorem R9 {H:Hp}{v:V}{p:Int × Int}(h:IsD H v (C7 p)):∃ a,v = .ref a/\H a=some (.tup [.int p.1,.int p.2]):=by
 obtain ⟨a,xs,e,h1,h2⟩:=h.tuple_inv;cases h2 with
 | cons a1 h2=>cases a1;cases h2 with
  | cons a2 h2=>cases a2;cases h2;exact ⟨a,e,h1⟩
theorem a3p {H:Hp}{a:Addr}{i j:Int}(h:H a=some (.tup [.int i,.int j])):IsD H (.ref a) (C7 (i,j)):=.tup h (.cons (.int _) (.cons (.int _) .nil))
def N7 (w i:Nat):List Nat:=if i % 2=1 then (List.range w).reverse else List.range w
theorem Q4 (w i:Nat):(N7 w i).length=w:=by unfold N7;split <;> simp
theorem b0c {w i b:Nat}(hb:b < w):(N7 w i)[b]? = some (if i % 2=1 then w - 1 - b else b):=by
 unfold N7
 split
 ·rw [List.getElem?_reverse (by simpa using hb),List.length_range,List.getElem?_range (by omega)]
 ·simp [hb]
theorem a6R {w i b:Nat}(hb:b < w):m8 w (i * w + b)=((i:Int),((if i % 2=1 then w - 1 - b else b:Nat):Int)):=by
 have e1:(i * w + b) / w=i:=by rw [Nat.mul_comm,Nat.mul_add_div (by omega),Nat.div_eq_of_lt hb,Nat.add_zero]
 have e2:(i * w + b) % w=b:=by rw [Nat.mul_comm,Nat.mul_add_mod,Nat.mod_eq_of_lt hb]
 unfold m8;rw [e1,e2]
def a7u (w n:Nat):List PyData:=(List.range n).map λk=>C7 (m8 w k)
theorem b6l (w i:Nat):a7u w ((i + 1) * w)=a7u w (i * w) ++ (N7 w i).map λj=>C7 ((i:Int),(j:Nat)):=by
 unfold a7u;rw [Nat.succ_mul,List.range_add,List.map_append,List.map_map]
 congr 1
 apply List.ext_getElem?;intro b
 by_cases hb:b < w
 ·rw [List.getElem?_map,List.getElem?_map,b0c hb,List.getElem?_range hb]
  show some (C7 (m8 w (i * w + b)))=some _
  rw [a6R hb]
 ·rw [List.getElem?_eq_none (by simpa using hb),List.getElem?_eq_none (by rw [List.length_map,Q4];omega)]
theorem a7G (w n:Nat):(a7u w n).length=n:=by unfold a7u;simp
def u0:l9->Bool
 | .there=>true
 | .told none=>true
 | _=>false
theorem a6v (r:l9):(D0 r).canLay0=true:=by
 cases r with
 | told c =>
  show PyData.canLayAll0 [.str "told",w5 c]=true
  rw [PyData.canLayAll0,PyData.canLayAll0,M8]
  decide +kernel
 | _=>decide +kernel
theorem a4B (r:l9):(D0 r).depth <= 20:=by
 cases r with
 | told c =>
  show PyData.depthAll [.str "told",w5 c] + 1<=20
  rw [PyData.depthAll,PyData.depthAll,Q1]
  decide
 | _=>exact Nat.zero_le _
def b2F:l9->Bool
 | .there=>true
 | _=>false
def b2O:l9->Bool
 | .told none=>true
 | _=>false
def b0q:PyData:=.str "there"
def a4r:PyData:=.tuple [.str "told",.none]
theorem b9n (r:l9):PyData.eqv (D0 r) b0q=b2F r:=by
 cases r with
 | told c=>cases c <;> rfl
 | _=>decide +kernel
theorem a6M (r:l9):PyData.eqv (D0 r) a4r=b2O r:=by
 cases r with
 | told c =>
  cases c with
  | none=>decide +kernel
  | some i =>
   simp only [D0,a4r,w5,PyData.eqv,PyData.eqvAll,Bool.false_and,Bool.and_false,b2O]
 | _=>decide +kernel
theorem a2i {x y:Int}{xs:List Int}(h:∀ z∈xs,x<=z/\z<=y):xs.filter (btw x y)=xs:=by
 rw [List.filter_eq_self];intro z hz;unfold btw;have:=h z hz
 simp [this.1,this.2]
theorem a9G {xs ys:List Int}{z:Int}(h:z∈G0 xs ys):z∈xs:=(List.mem_filter.mp h).1
theorem a0H (xs ys:List Int):(G0 xs ys).length <= xs.length:=List.length_filter_le _ _
def a0r (A:L7):Prop:=A.1.length <= 1000/\A.2.length <= 1000/\(∀ z∈A.1,-1000<=z/\z<=1000)/\(∀ z∈A.2,-1000<=z/\z<=1000)
theorem a0r.beyond {A B:L7}(h:a0r A):a0r (y9 A B):=by
 obtain ⟨h1,h2,h3,h4⟩:=h;unfold L2.y9
 split
 ·exact ⟨h1,Nat.le_trans (a0H _ _) h2,h3,λz hz=>h4 z (a9G hz)⟩
 ·exact ⟨Nat.le_trans (a0H _ _) h1,h2,λz hz=>h3 z (a9G hz),h4⟩
theorem K5 {u d l r h w k:Nat}(b:h<=100/\w<=100/\u<=100/\d<=100/\l<=100/\r<=100)(w1:1<=w)(hk:k < h * w):a0r (l0 u d l r w k):=by
 have i:=a5R (h:=h) w1 hk;unfold l0;refine ⟨by rw [a8w];omega,by rw [a8w];omega,λz hz=>?_,λz hz=>?_⟩
 ·have:=W9.mp hz
  omega
 ·have:=W9.mp hz
  omega
theorem a0j {u d l r h w k:Nat}(b:h<=100/\w<=100/\u<=100/\d<=100/\l<=100/\r<=100)(w1:1<=w)(hk:k < h * w):a0r (G8 u d l r w k):=by
 cases k with
 | zero=>exact ⟨Nat.zero_le _,Nat.zero_le _,(λz hz=>absurd hz (by simp [G8])),(λz hz=>absurd hz (by simp [G8]))⟩
 | succ k=>exact K5 b w1 (show k < h * w by omega)
theorem b4z {c:TT}{t u rest:TS}{D:a8t}{σ:St}{H:Hp}(b:Bool)(hc:∀ R:Bool->Hp->Prop,(∀ H1,i9 H H1->R b H1)->c σ H R)
  (ht:b=true->∀ H1,i9 H H1->t { D with nx:=rest D } σ H1) (hu:b=false->∀ H1,i9 H H1->u { D with nx:=rest D } σ H1):a0Q (b3J c t u) rest D σ H:=by
 refine hc _ λH1 s=>?_;cases b with
 | true=>exact U8 (ht rfl H1 s)
 | false=>exact y8 (hu rfl H1 s)
end L2
namespace MwSet
open PySem
def Rs (xs:Array Nat):Prop:=xs.toList.Pairwise (· < ·)
theorem Rs.lt {xs:Array Nat}(h:Rs xs){i k j:Nat}(hik:i < k)(hk:k < xs.size):xs.getD i j < xs.getD k j:=by
 have:=(List.pairwise_iff_getElem.mp h) i k (by simp;omega) (by simpa using hk) hik;have hi:i < xs.size:=by omega
 simpa [Array.getD,hi,hk] using this
theorem Rs.le {xs:Array Nat}(h:Rs xs){i k j:Nat}(hik:i<=k)(hk:k < xs.size):xs.getD i j<=xs.getD k j:=by
 rcases Nat.lt_or_ge i k with z | z
 ·exact Nat.le_of_lt (h.lt z hk)
 ·have:i=k:=by omega
  rw [this];exact Nat.le_refl _
theorem a3C {xs:Array Nat}{j:Nat}(h:Rs xs):∀ (fuel lo hi:Nat),lo<=hi->hi<=xs.size -> hi - lo<=fuel->(∀ i,i < lo->xs.getD i j < j)->(∀ i,hi<=i->i < xs.size -> j<=xs.getD i j) ->
  (∀ i,i < SetTable.below.go xs j fuel lo hi->xs.getD i j < j)/\(∀ i,SetTable.below.go xs j fuel lo hi<=i->i < xs.size -> j<=xs.getD i j)/\SetTable.below.go xs j fuel lo hi<=xs.size
 | 0,lo,hi,h1,h2,h3,h4,h5=>by
  have:lo=hi:=by omega
  subst this;exact ⟨h4,h5,h2⟩
 | fuel + 1,lo,hi,h1,h2,h3,h4,h5=>by
  unfold SetTable.below.go
  by_cases hl:lo < hi
  ·rw [if_pos hl];dsimp only
   by_cases hm:xs.getD ((lo + hi) / 2) j < j
   ·rw [if_pos hm];exact a3C h fuel _ _ (by omega) h2 (by omega) (λi hi'=>Nat.lt_of_le_of_lt (h.le (show i<=(lo + hi) / 2 by omega) (by omega)) hm) h5
   ·rw [if_neg hm];exact a3C h fuel _ _ (by omega) (by omega) (by omega) h4 λi a b=>Nat.le_trans (Nat.not_lt.mp hm) (h.le a b)
  ·rw [if_neg hl];have:lo=hi:=by omega
   subst this;exact ⟨h4,h5,h2⟩
theorem a7V {xs:Array Nat}(h:Rs xs)(j:Nat):(∀ i,i < SetTable.below xs j->xs.getD i j < j)/\(∀ i,SetTable.below xs j<=i->i < xs.size -> j<=xs.getD i j)/\SetTable.below xs j<=xs.size :=
 a3C h xs.size 0 xs.size (Nat.zero_le _) (Nat.le_refl _) (by omega) (λi hi=>by omega) λi a b=>by omega
theorem b5x {xs:Array Nat}(h:Rs xs){i j:Nat}(hi:i<=xs.size)(h1:∀ k,k < i->xs.getD k j < j)(h2:i < xs.size -> j<=xs.getD i j):SetTable.below xs j=i:=by
 obtain ⟨a,b,c⟩:=a7V h j
 rcases Nat.lt_trichotomy (SetTable.below xs j) i with z | z | z
 ·have q:=b _ (Nat.le_refl _) (by omega);have r:=h1 _ z
  omega
 ·exact z
 ·have q:=a i z;have r:=h2 (by omega)
  omega
theorem b7K {xs:Array Nat}(h:Rs xs){j:Nat}(hj:xs[SetTable.below xs j]?≠some j):Rs (SetTable.insertAt xs (SetTable.below xs j) j):=by
 obtain ⟨a,b,c⟩:=a7V h j;unfold Rs;rw [SetTable.toList_insertAt];have e:xs.toList=xs.toList.take (SetTable.below xs j) ++ xs.toList.drop (SetTable.below xs j):=(List.take_append_drop _ _).symm;have h':(xs.toList.take (SetTable.below xs j) ++ xs.toList.drop (SetTable.below xs j)).Pairwise (· < ·):=by rw [← e];exact h
 obtain ⟨p1,p2,p3⟩:=List.pairwise_append.mp h';have lo:∀ x∈xs.toList.take (SetTable.below xs j),x < j:=λx hx=>by
  obtain ⟨m,hm,rfl⟩:=List.mem_iff_getElem.mp hx;rw [List.length_take] at hm;have:=a m (by omega);have hms:m < xs.size:=by simp at hm;omega
  simp [Array.getD,hms] at this
  simpa using this
 have hi:∀ x∈xs.toList.drop (SetTable.below xs j),j < x:=λx hx=>by
  obtain ⟨m,hm,rfl⟩:=List.mem_iff_getElem.mp hx;rw [List.length_drop] at hm;simp only [List.getElem_drop,Array.getElem_toList];have hms:SetTable.below xs j + m < xs.size:=by simp at hm;omega
  have hb0:SetTable.below xs j < xs.size:=by omega
  have q0:=b _ (Nat.le_refl _) hb0;have q:xs.getD (SetTable.below xs j) j<=xs.getD (SetTable.below xs j + m) j:=h.le (by omega) hms
  simp [Array.getD,hms,hb0] at q0 q
  have:xs[SetTable.below xs j]≠j:=λz=>hj (by rw [getElem?_pos xs _ hb0,z])
  omega
 refine List.pairwise_append.mpr ⟨p1,List.pairwise_cons.mpr ⟨hi,p2⟩,λx hx y hy=>?_⟩
 rcases List.mem_cons.mp hy with z | z
 ·rw [z];exact lo x hx
 ·exact p3 x hx y z
theorem a2G {t:SetTable}{j:Nat}(h:∀ i,t.slot j≠.live i):t.place[SetTable.below t.place j]?≠some j:=λe=>by
 apply h (SetTable.below t.place j);unfold SetTable.slot;dsimp only;rw [if_pos (by rw [e];simp)]
theorem a7z {t:SetTable}{f:Nat->Int}{h:Int}:∀ (fuel:Nat) (p:SetTable.Probe),(∀ d,p.dummy=some d->t.slot d = .dummy)->∀ j dm,SetTable.probe.go t f h fuel p=some (.empty j dm)->t.slot j = .empty /\ ∀ d,dm=some d->t.slot d = .dummy
 | 0,p,_,j,dm,e=>by unfold SetTable.probe.go at e;cases e
 | fuel + 1,p,hp,j,dm,e=>by
  unfold SetTable.probe.go at e;have adv:∀ q:SetTable.Probe,(t.advance q).dummy=q.dummy:=λq=>by unfold SetTable.advance;dsimp only;split <;> rfl
  cases es:t.slot p.j with
  | empty =>
   rw [es] at e;simp only [Option.some.injEq,SetTable.Met.empty.injEq] at e;obtain ⟨rfl,rfl⟩:=e;exact ⟨es,hp⟩
  | dummy =>
   rw [es] at e;refine a7z fuel _ (λd hd=>?_) j dm e;rw [adv] at hd;dsimp only at hd;rw [← Option.some.inj hd];exact es
  | live i =>
   rw [es] at e;dsimp only at e
   split at e
   ·cases e
   ·exact a7z fuel _ (λd hd=>by rw [adv] at hd;exact hp d hd) j dm e
theorem a0F {t:SetTable}{h:Int}{j:Nat}{b:Bool}(e:t.freeSlot h=some (j,b)):t.place[SetTable.below t.place j]?≠some j:=by
 unfold SetTable.freeSlot at e
 split at e
 ·rename_i j' dm e'
  have:=a7z _ _ (λd hd=>by simp [SetTable.probeStart] at hd) j' dm e';simp only [Option.some.injEq,Prod.mk.injEq] at e;obtain ⟨rfl,rfl⟩:=e;cases dm with
  | none =>
   refine a2G λi hi=>?_;have hi':t.slot j'=_:=hi;rw [this.1] at hi';cases hi'
  | some d =>
   refine a2G λi hi=>?_;have hi':t.slot d=_:=hi;rw [this.2 d rfl] at hi';cases hi'
 ·cases e
structure V6 (byText:Bool)(t:SetTable):Prop where
 led:t.led = !byText
 rs:t.plain=true->Rs t.place
theorem b2j (byText:Bool)(f m:Nat):V6 byText (.fresh f m (!byText)):=⟨rfl,λ_=>List.Pairwise.nil⟩
theorem Q8 {b:Bool}{t:SetTable}(h:V6 b t)(n:Nat):V6 b (t.standIn n):=⟨h.led,λz=>by cases z⟩
theorem b1J {b:Bool}{t:SetTable}(h:V6 b t)(n:Nat):V6 b (t.orStandIn n):=by
 unfold SetTable.orStandIn
 split
 ·exact h
 ·exact Q8 h n
theorem b3z {b:Bool}{t:SetTable}(h:V6 b t){j:Nat}(hj:t.place[SetTable.below t.place j]?≠some j):V6 b (t.put j).1:=⟨h.led,λz=>b7K (h.rs z) hj⟩
theorem a4X {b:Bool}{t:SetTable}(h:V6 b t)(es:Array (Int × Value))(k:Int)(x:Value):V6 b (layNew t es k x).2.1:=by
 unfold layNew
 split
 ·rename_i slot wasDummy e
  exact b1J (b3z h (a0F e)) _
 ·exact Q8 h _
theorem b1j {b:Bool}{t:SetTable}(h:V6 b t)(es:Array (Int × Value))(n:Nat):V6 b (relayAll t es n).2.1:=by
 unfold relayAll
 split
 ·rename_i t' order e
  dsimp only
  split
  ·unfold SetTable.relaid SetTable.laid at e;cases ho:SetTable.layClean (SetTable.sizeAbove n - 1) (es.map (·.1)) with
   | none=>rw [ho] at e;cases e
   | some owner =>
    rw [ho] at e;simp only [Option.bind_eq_bind,Option.bind_some,Option.pure_def,Option.some.injEq,Prod.mk.injEq] at e;obtain ⟨rfl,_⟩:=e;refine ⟨h.led,λ_=>?_⟩;unfold Rs;dsimp only;rw [List.pairwise_map,List.pairwise_filterMap];refine List.pairwise_lt_range.imp λ{x y} hxy p hp q hq=>?_;obtain ⟨_,_,rfl⟩:=Option.map_eq_some_iff.mp hp;obtain ⟨_,_,rfl⟩:=Option.map_eq_some_iff.mp hq;exact hxy
  ·exact Q8 h _
 ·exact Q8 h _
end MwSet
namespace MwSet
open PySem PyProof.Rows
def byT (w:World):Bool:=w.params.followText "set-order"
abbrev t0 (es:Array (Int × Value)) (ep:Nat) (t:SetTable):Obj:={ cls:=.type "set",dict:=none,data:=.set es ep t,slots:=#[] }
def b5t (es:Array (Int × Value)):List Int:=es.toList.map λe=>numOf e.2
def b0i (es:Array (Int × Value)):Prop:=∀ e∈es.toList,∃ k u,e=(hashInt k,Value.int k u)
def a2n (w:World)(h:Heap)(a:Addr)(ks:List Int):Prop :=
 ∃ es ep t,h.get? a=some (t0 es ep t)/\b0i es/\(b5t es).Perm ks/\ks.Nodup /\ es.size < scanBound/\t.fits es.size=true/\V6 (byT w) t
theorem a2n.at {w:World}{h h':Heap}{a:Addr}{ks:List Int}(S:a2n w h a ks)(k:∀ o,h.get? a=some o->h'.get? a=some o):a2n w h' a ks:=let ⟨es,ep,t,e,r⟩:=S;⟨es,ep,t,k _ e,r⟩
theorem b0i.elems {prog:Program}{w:World}{es:Array (Int × Value)}(h:b0i es):ElemsOf (intKind prog w) es.toList:=λe he=>by
 obtain ⟨k,u,rfl⟩:=h e he;exact ⟨⟨k,intKind_is _ _ _ _,rfl⟩,rfl⟩
def F0 (ks:List Int)(k:Int):List Int:=if k∈ks then ks else ks ++ [k]
theorem a9t {ks:List Int}(h:ks.Nodup)(k:Int):(F0 ks k).Nodup:=by
 unfold F0
 split
 ·exact h
 ·rename_i hk
  exact List.nodup_append.mpr ⟨h,by simp,λx hx y hy=>by
   have:y=k:=by simpa using hy
   rw [this];exact λz=>hk (z ▸ hx)⟩
theorem b1m {ks:List Int}{k z:Int}:z∈F0 ks k↔z∈ks \/ z=k:=by
 unfold F0
 split
 ·rename_i hk
  constructor
  ·exact .inl
  ·rintro (h | rfl)
   ·exact h
   ·exact hk
 ·simp
theorem b2i (ks:List Int)(k:Int):(F0 ks k).length <= ks.length + 1:=by
 unfold F0
 split
 ·omega
 ·simp
section
variable {prog:Program}{w:World}{A:Around}{E:Value->Shared->Prop}{s:Shared}
theorem a5y {h:Heap}{a:Addr}{es:Array (Int × Value)}{ep:Nat}{t:SetTable}(ho:h.get? a=some (t0 es ep t))(es':Array (Int × Value))(t':SetTable):(h.update a (Obj.putSet es' t')).get? a=some (t0 es' (ep + 1) t'):=by
 have:=Heap.get?_update_self (Obj.putSet es' t') ho (by rw [putSet_of es' t' rfl];rfl);rw [putSet_of es' t' rfl] at this;exact this
theorem a2W {a:Addr}{ks:List Int}{k:Int}{u:Tok}{Q:Bool->Shared->Prop}(S:a2n w s.heap a ks)(hroom:ks.length + 1 < scanBound)
  (h:∀ b h',Heap.SameBut a s.heap h'->a2n w h' a (F0 ks k)->Q b { s with heap:=h' }):wpAny (model prog w) A (setAddHashed a (.int k u) (hashInt k)) Q E s:=by
 obtain ⟨es,ep,t,ho,hel,hp,hn,hb,hf,ht⟩:=S;have hE:=hel.elems (prog:=prog) (w:=w);have hlen:es.size=ks.length:=by have:=hp.length_eq;unfold b5t at this;simpa using this
 unfold setAddHashed setAddHashedIn;refine wpAny_holding (wpAny_bind (wpAny_setState_of ho rfl hf ?_));dsimp only;rw [byScan_of (knd:=intKind prog w) rfl hb hE];simp only [↓reduceIte];unfold setAddByScan;refine wpAny_bind (wpAny_bind (wpAny_rule (wpAny_bind (wpAny_setScan_of (knd:=intKind prog w) (k:=k) (intKind_is _ _ _ _) ho rfl hf hE ?_))));have hmem:k∈ks↔∃ e∈es.toList,(intKind prog w).is k e.2=true:=by
  rw [← hp.mem_iff];unfold b5t;rw [List.mem_map]
  constructor
  ·rintro ⟨e,he,q⟩;obtain ⟨k',u',rfl⟩:=hel e he;have:k'=k:=q;subst this;exact ⟨_,he,intKind_is _ _ _ _⟩
  ·rintro ⟨e,he,q⟩;obtain ⟨k',u',rfl⟩:=hel e he;exact ⟨_,he,(intKind prog w).inj _ _ _ (intKind_is prog w k' u') q⟩
 cases hr:List.findIdx? (λe=>(intKind prog w).is k e.2) es.toList with
 | some j =>
  dsimp only;obtain ⟨hj,hpj,_⟩:=List.findIdx?_eq_some_iff_getElem.mp hr;have hin:k∈ks:=hmem.mpr ⟨_,List.getElem_mem hj,hpj⟩;refine wpAny_pure (wpAny_pure ?_);have e:s={ s with heap:=s.heap }:=by cases s;rfl
  rw [e];refine h false s.heap (Heap.SameBut.refl a s.heap) ?_;unfold F0;rw [if_pos hin];exact ⟨es,ep,t,ho,hel,hp,hn,hb,hf,ht⟩
 | none =>
  dsimp only;have hout:¬ k∈ks:=λz=>by
   obtain ⟨e,he,q⟩:=hmem.mp z;have:=List.findIdx?_eq_none_iff.mp hr e he;rw [q] at this;cases this
  have gw:∀ (b:Bool) {s₁:Shared} {Q':Unit->Shared->Prop},Q' () s₁->wpAny (model prog w) A (match b with | true=>rule "set.scan.the-table-gave-way" | false=>pure ()) Q' E s₁:=λb s₁ Q' hq=>by
   cases b
   ·exact wpAny_pure hq
   ·exact wpAny_rule hq
  have p1:=layNew_perm t es (hashInt k) (.int k u);have f1:=layNew_fits t es (hashInt k) (.int k u);have t1:=a4X ht es (hashInt k) (.int k u)
  show wpAny (model prog w) A (match layNew t es (hashInt k) (.int k u) with | (es,t,wasDummy,gave)=>_) _ _ s
  generalize layNew t es (hashInt k) (.int k u)=L at p1 f1 t1 ⊢;obtain ⟨es1,tb1,wd,gave⟩:=L;dsimp only at p1 f1 t1 ⊢;rw [Array.toList_push] at p1;have el1:b0i es1:=λe he=>by
   rcases List.mem_append.mp (p1.mem_iff.mp he) with z | z
   ·exact hel e z
   ·have:e=(hashInt k,Value.int k u):=by simpa using z
    exact ⟨k,u,this⟩
  have pk:(b5t es1).Perm (F0 ks k):=by
   unfold F0;rw [if_neg hout];have:=p1.map λe:Int × Value=>numOf e.2;rw [List.map_append] at this;exact this.trans (hp.append_right _)
  have b1:es1.size < scanBound:=by
   have:=p1.length_eq;rw [List.length_append] at this
   simp at this
   omega
  have nd1:=a9t hn k;refine wpAny_bind (gw gave ?_);have fin:∀ tb:SetTable,tb.fits es1.size=true->V6 (byT w) tb->wpAny (model prog w) A (do
    storeSet a es1 tb
    if (!wd && tb.tooFull)=true then do
      (match (relayAll tb es1 (SetTable.grown es1.size)).2.2 with | true=>rule "set.scan.the-table-gave-way" | false=>pure ())
      storeSet a (relayAll tb es1 (SetTable.grown es1.size)).1 (relayAll tb es1 (SetTable.grown es1.size)).2.1
      pure (some true)
     else pure (some true)) (λr s'=>∃ b h',r=some b/\s'={ s with heap:=h' }/\Q b { s with heap:=h' }) E s:=λtb ft tt=>by
   refine wpAny_bind (wpAny_storeSet_of ho rfl ?_ (fits_of_scanBound b1));have g1:=a5y ho es1 tb
   split
   ·have p2:=relayAll_perm tb es1 (SetTable.grown es1.size);have f2:=relayAll_fits tb es1 (SetTable.grown es1.size);have t2:=b1j tt es1 (SetTable.grown es1.size);generalize relayAll tb es1 (SetTable.grown es1.size)=L at p2 f2 t2 ⊢;obtain ⟨es2,tb2,gave2⟩:=L;dsimp only at p2 f2 t2 ⊢;have l2:es2.size=es1.size:=by have:=p2.length_eq;simpa using this
    refine wpAny_bind (gw gave2 (wpAny_bind (wpAny_storeSet_of g1 rfl ?_ (fits_of_scanBound (by rw [l2];exact b1)))));refine wpAny_pure ⟨true,_,rfl,rfl,h true _ ((Heap.SameBut.update _ a _).trans (Heap.SameBut.update _ a _)) ⟨es2,_,tb2,a5y g1 es2 tb2,λe he=>el1 e (p2.mem_iff.mp he),(p2.map _).trans pk,nd1,by rw [l2];exact b1,f2,t2⟩⟩
   ·exact wpAny_pure ⟨true,_,rfl,rfl,h true _ (Heap.SameBut.update _ a _) ⟨es1,_,tb,g1,el1,pk,nd1,b1,ft,tt⟩⟩
  have last:∀ (r:Option Bool) (s':Shared),(∃ b h',r=some b/\s'={ s with heap:=h' }/\Q b { s with heap:=h' })->wpAny (model prog w) A (match r with | some added=>pure added | none=>setAddHashedIn a (.int k u) (hashInt k) 99999) Q E s':=λr s' ⟨b,h',e1,e2,q⟩=>by
   subst e1 e2;exact wpAny_pure q
  split
  ·refine wpAny_bind ?_;rw [hashByValue_scannable 8 rfl];refine wpAny_pure ?_;simp only [plainKind,↓reduceIte];exact wpAny_mono (fin tb1 f1 t1) last λ_ _ e=>e
  ·refine wpAny_bind (wpAny_pure ?_);simp only [↓reduceIte];exact wpAny_mono (fin tb1 f1 t1) last λ_ _ e=>e
end
end MwSet
namespace MwSet
open PySem PySem.Spec PyProof.Rows
def C8 (ns:List Int):List Int:=ns.foldl F0 []
theorem a2J (ns:List Int)(k:Int):C8 (ns ++ [k])=F0 (C8 ns) k:=by unfold C8;rw [List.foldl_append];rfl
theorem U6 {ns:List Int}{z:Int}:z∈C8 ns↔z∈ns:=by
 have:∀ (l acc:List Int),z∈l.foldl F0 acc↔z∈acc \/ z∈l:=λl=>by
  induction l with
  | nil=>intro acc;simp
  | cons k l ih =>
   intro acc;rw [List.foldl_cons,ih,b1m,List.mem_cons]
   constructor
   ·rintro ((h | h) | h)
    ·exact .inl h
    ·exact .inr (.inl h)
    ·exact .inr (.inr h)
   ·rintro (h | h | h)
    ·exact .inl (.inl h)
    ·exact .inl (.inr h)
    ·exact .inr h
 rw [show C8 ns=ns.foldl F0 [] from rfl,this]
 simp
theorem a8q:∀ ns:List Int,(C8 ns).length <= ns.length:=λns=>by
 have:∀ (l acc:List Int),(l.foldl F0 acc).length <= acc.length + l.length:=λl=>by
  induction l with
  | nil=>intro acc;simp
  | cons k l ih =>
   intro acc;have h1:=ih (F0 acc k);have h2:=b2i acc k;rw [List.foldl_cons,List.length_cons]
   omega
 have:=this ns []
 simpa [C8] using this
theorem a4C (ns:List Int):(C8 ns).Nodup:=by
 have:∀ (l acc:List Int),acc.Nodup -> (l.foldl F0 acc).Nodup:=λl=>by
  induction l with
  | nil=>exact λacc h=>h
  | cons k l ih=>exact λacc h=>ih _ (a9t h k)
 exact this ns [] List.nodup_nil
theorem a6Y (w:World){h:Heap}{a:Addr}(e:h.get? a=some (t0 #[] 0 (.fresh 0 0 (!byT w)))):a2n w h a [] :=
 ⟨#[],0,_,e,λx hx=>by simp at hx,List.Perm.refl _,List.nodup_nil,by decide,by rfl,b2j _ _ _⟩
section
variable {prog:Program}{w:World}{A:Around}{R:Result->Shared->Prop}{I:Addr}{fp wr:List Addr}{G:Array GenState->Array GenState->Prop}{P:Nat->Value->Prop}{St:Nat->Shared->Prop}
theorem b6k {ns:List Int}(W:WalksS prog w A.in1 I fp wr G ns.length P St)(S:Addr)(hSf:S ∉ fp)(hval:∀ i v,P i v->∃ t,v = .int (ns.getD i 0) t)(hb:ns.length + 1 < scanBound) :
  ∀ (d i:Nat) (s:Shared),ns.length - i=d->i<=ns.length -> St i s->a2n w s.heap S (C8 (ns.take i))->(∀ s',Moved (S :: wr) G s s'->a2n w s'.heap S (C8 ns)->R (.ok (.ret .none)) s') ->
   codeAny (model prog w) A (.builtin "set.update.loop" ⟨[.ref S,.ref I],[]⟩) R s:=by
 have nS:S ∉ wr:=λz=>hSf (W.sub _ z);have up:∀ b∈wr,b∈S :: wr:=λb hb=>List.mem_cons_of_mem _ hb;intro d
 induction d with
 | zero =>
  intro i s hd hi st hS hR;have:i=ns.length:=by omega
  subst this;refine codeAny_builtin F.entry_set_update_loop ?_;rw [Around.under_plainId F.plain_set_update_loop _]
  show wpAny _ A.in1 (pyNext (.ref I) >>= _) _ _ s
  refine wpAny_bind (W.done s _ _ st λs' hm=>?_)
  show wpAny _ A.in1 (ret Value.none) _ _ s'
  refine wpAny_pure (hR s' (hm.mono up) ?_);rw [List.take_length] at hS;exact hS.at λo e=>hm.heap S o nS e
 | succ d ih =>
  intro i s hd hi st hS hR;have lt:i < ns.length:=by omega
  refine codeAny_builtin F.entry_set_update_loop ?_;rw [Around.under_plainId F.plain_set_update_loop _]
  show wpAny _ A.in1 (pyNext (.ref I) >>= _) _ _ s
  refine wpAny_bind (W.item i s _ _ lt st λv s' hP st' hm=>?_);obtain ⟨t,rfl⟩:=hval i v hP;have eg:ns.getD i 0=ns[i]:=by simp [lt]
  rw [eg];have hS':=hS.at (h':=s'.heap) λo e=>hm.heap S o nS e
  show wpAny _ A.in1 (holding [Value.int ns[i] t] (setAdd S (.int ns[i] t)) >>= _) _ _ s'
  refine wpAny_bind (wpAny_holding ?_);unfold setAdd;refine wpAny_holding (wpAny_bind ((intKind prog w).pyHash (k:=ns[i]) (intKind_is _ _ _ _) ?_));have room:(C8 (ns.take i)).length + 1 < scanBound:=by
   have:=a8q (ns.take i);rw [List.length_take] at this
   omega
  refine a2W (s:={ s' with toks:=s'.toks + 1 }) (u:=t) hS' room λb h' hsb hS2=>?_;have en:C8 (ns.take (i + 1))=F0 (C8 (ns.take i)) ns[i]:=by rw [List.take_succ_eq_append_getElem lt,a2J]
  rw [← en] at hS2;refine wpAny_pure ⟨plainId_quiet F.plain_set_update_loop _,ih (i + 1) _ (by omega) lt (W.frame _ s' _ _ st' (Nat.le_succ _) λb hb o e=>?_) hS2 λs'' hm'' hS''=>?_⟩
  ·rw [hsb.2 b λz:b=S=>hSf (z ▸ hb)];exact e
  ·refine hR s'' (Moved.trans W.gtrans ((hm.mono up).then_heap (Nat.le_succ _) λb o hb e=>?_) hm'') hS'';rw [hsb.2 b λz:b=S=>hb (by rw [z];exact List.mem_cons_self)];exact e
end
theorem a7D:isSubtype (.type "tuple") (.type "set")=pure false:=by rw [isSubtype_type];kernel_rfl
theorem a9j:isSubtype (.type "tuple") (.type "frozenset")=pure false:=by rw [isSubtype_type];kernel_rfl
section
variable {prog:Program}{w:World}{A:Around}{E:Value->Shared->Prop}{s:Shared}
theorem b5r (a:Value) {Q:Value->Shared->Prop} (h:Q (.ref s.heap.objs.size) { s with heap:=s.heap.push (t0 #[] 0 (.fresh 0 0 (!byT w))) }):codeAny (model prog w) A (.call (.builtin "set.__new__") ⟨[.type "set",a],[]⟩) (wants Q E) s:=by
 refine codeAny_of_tree ?_
 show wpAny _ A.in1 (do checkBuiltinCall "set.__new__" ⟨[.type "set",a],[]⟩;again (.builtin "set.__new__" ⟨[.type "set",a],[]⟩)) _ _ s
 refine wpAny_bind (wpAny_of_eq (PySem.F.newCall_set_1 a) (wpAny_pure ⟨plainId_quiet PySem.F.plain_set_new _,codeAny_builtin PySem.F.entry_set_new ?_⟩));rw [Around.under_plainId PySem.F.plain_set_new _];unfold Builtin.«set.__new__» Builtin.Frozenset.newClass;have su:=sub_set_self;obtain ⟨hp,g,d,tk,os⟩:=s;dsimp only
 wp_walk
 refine wpAny_askSetting (wpAny_pure ?_);dsimp only;simp only [newObj];exact wpAny_bind (wpAny_alloc (wpAny_pure (wpAny_pure h)))
theorem a6F {l:Addr}{vs:List Value}{ns:List Int}{Q:Value->Shared->Prop}(hh:A.handled=none)(hl:s.heap.IsTuple l vs.toArray)(hi:IntsAre vs ns)(hb:ns.length + 1 < scanBound)
  (h:∀ (h':Heap) (tk:Nat),a2n w h' s.heap.objs.size (C8 ns)->(∀ b o,s.heap.get? b=some o->h'.get? b=some o)->Q (.ref s.heap.objs.size) { s with heap:=h',toks:=tk }):wpAny (model prog w) A (call (.type "set") [.ref l]) Q E s:=by
 obtain ⟨c,tl,hmro⟩:=PySem.F.called_set.mro;have k1:=PySem.F.called_set.made;have k2:=PySem.F.called_set.sub;refine wpAny_call (codeAny_of_tree ?_)
 show wpAny _ _ (callAny (.type "set") _) _ _ _
 refine wpAny_pure ⟨Code.quiet_builtin _ (by decide +kernel),codeAny_builtin PySem.F.entry_type_call ?_⟩;rw [Around.under_plain (weight_type_call_type "set" [.ref l] []) rfl];have k3:=PySem.F.called_set.notType;have k4:=PySem.F.called_set.canCreate;have k5:=PySem.F.typeCall_set_1 (.ref l)
 repeat (any_goals (first | assumption | wp_step))
 refine codeAny_mono (b5r (.ref l) (E:=E) (Q:=λobj z=>obj = .ref s.heap.objs.size /\ z={ s with heap:=s.heap.push (t0 #[] 0 (.fresh 0 0 (!byT w))) }) ⟨rfl,rfl⟩) λr z hr=>?_;cases r with
 | error e=>exact hr
 | ok fl =>
  cases fl with
  | ret obj =>
   obtain ⟨rfl,rfl⟩:=hr;have gS:(s.heap.push (t0 #[] 0 (.fresh 0 0 (!byT w)))).get? s.heap.objs.size=some (t0 #[] 0 (.fresh 0 0 (!byT w))):=Heap.get?_push_size _ rfl;have hT:Shared.TypeIs { s with heap:=s.heap.push (t0 #[] 0 (.fresh 0 0 (!byT w))) } (.ref s.heap.objs.size) "set":=⟨_,gS,rfl⟩;have k6:=PySem.F.called_set.init.lookup;have k7:=PySem.F.called_set.init.bind (.ref s.heap.objs.size)
   repeat (any_goals (first | assumption | wp_step))
   refine codeAny_mono (codeAny_call_builtin (R:=wants (λr z=>r = .none /\ ∃ h' tk,z={ s with heap:=h',toks:=tk }/\a2n w h' s.heap.objs.size (C8 ns)/\(∀ b o,s.heap.get? b=some o->h'.get? b=some o)) E) PySem.F.called_set.init.plain PySem.F.entry_set_init (check_set_init_1 hT ?_)) λr z hr=>?_
   ·obtain ⟨ol,gl,cl,nl,dl⟩:=hl;obtain ⟨o1,o2,o3,o4⟩:=ol;simp only at cl dl;subst cl dl;have gl':(s.heap.push (t0 #[] 0 (.fresh 0 0 (!byT w)))).get? l=some { cls:=.type "tuple",dict:=o2,data:=.seq vs.toArray nl,slots:=o4 }:=Heap.get?_push_of_some _ gl;have t1:=a7D;have t2:=a9j;have t3:(Value.type "tuple" == Value.type "dict")=false:=by decide
    have hl1:(s.heap.push (t0 #[] 0 (.fresh 0 0 (!byT w)))).IsTuple l vs.toArray:=⟨_,gl',rfl,nl,rfl⟩;unfold Builtin.«set.__init__» noKeywords Builtin.Frozenset.updateFrom;generalize hPI:pyIter=PI
    wp_walk
    subst hPI;refine wpAny_pyIter_tuple hl1 (wpAny_bind (wpAny_runValue ?_));have lt:l < s.heap.objs.size:=Heap.lt_size gl;have h3:A.in1.in1.in1.handled=none:=by simp [hh]
    have ne:l≠(s.heap.push (t0 #[] 0 (.fresh 0 0 (!byT w)))).objs.size:=by rw [Heap.size_push];exact Nat.ne_of_lt (Nat.lt_succ_of_lt lt)
    have hSf:s.heap.objs.size ∉ [(s.heap.push (t0 #[] 0 (.fresh 0 0 (!byT w)))).objs.size,l]:=by
     rw [Heap.size_push];simp only [List.mem_cons,List.mem_singleton,List.not_mem_nil,or_false,not_or];exact ⟨Nat.ne_of_lt (Nat.lt_succ_self _),Nat.ne_of_gt lt⟩
    have hval:∀ (i:Nat) (v:Value),vs.toArray[i]? = some v->∃ t,v = .int (ns.getD i 0) t:=λi v hv=>IntsAre.int_at hi i v (by simpa using hv);have hlen:vs.toArray.size=ns.length:=by rw [List.size_toArray];exact IntsAre.length hi
    have W:=(Walks.tuple h3 (prog:=prog) (w:=w) _ l ne vs.toArray).toS;rw [hlen] at W;refine b6k W s.heap.objs.size hSf hval hb (ns.length - 0) 0 _ (by omega) (Nat.zero_le _) ⟨⟨_,Heap.get?_push_size _ rfl,rfl,rfl⟩,?_⟩ ?_ ?_
    ·exact ⟨_,Heap.get?_push_of_some _ gl',rfl,nl,rfl⟩
    ·exact a6Y w (Heap.get?_push_of_some _ gS)
    ·intro z hm hS';obtain ⟨h',g',d',tk',os'⟩:=z;have eg:g'=s.gens:=hm.gens;have ed:d'=s.drawn:=hm.drawn;have eo:os'=s.os:=hm.os;subst eg ed eo
     show wpAny _ _ _ _ _ _
     refine wpAny_pure ?_
     show wpAny _ _ (ret Value.none) _ _ _
     refine wpAny_pure ⟨rfl,h',tk',rfl,hS',λb o e=>?_⟩;have hb0:b < s.heap.objs.size:=Heap.lt_size e;have hb2:b≠(s.heap.push (t0 #[] 0 (.fresh 0 0 (!byT w)))).objs.size:=by rw [Heap.size_push];exact Nat.ne_of_lt (Nat.lt_succ_of_lt hb0)
     exact hm.heap b o (by simp only [List.mem_cons,List.mem_singleton,List.not_mem_nil,or_false,not_or];exact ⟨Nat.ne_of_lt hb0,hb2⟩) (Heap.get?_push_of_some _ (Heap.get?_push_of_some _ e))
   ·cases r with
    | error e=>exact hr
    | ok fl =>
     cases fl with
     | ret r =>
      obtain ⟨rfl,h',tk,rfl,hS',hk'⟩:=hr
      repeat (any_goals (first | assumption | wp_step))
      exact h _ _ hS' hk'
     | _=>exact hr.elim
  | _=>exact hr.elim
end
end MwSet
namespace MwSet
open PySem PySem.Spec PyProof.Rows
theorem a3B:entryFor table "set.__iter__" = some Builtin.«frozenset.__iter__»:=entryFor_alias (id' := "frozenset.__iter__") (by kernel_rfl) rfl (by decide +kernel) (by kernel_rfl)
theorem r9:Slot "set_iterator" "__next__" "set_iterator.__next__" :=
 .of (owner := "set_iterator") (n := "__next__") (by rw [typeLookup_type,builtinLookup_eq_fast];kernel_rfl) (by decide +kernel) (by decide +kernel) (by decide +kernel) (by first | exact .inl (by decide +kernel) | exact .inr (by decide +kernel)) (by rw [isSubtype_type];kernel_rfl)
theorem a0o:Slot "set_iterator" "__iter__" "set_iterator.__iter__" :=
 .of (owner := "set_iterator") (n := "__iter__") (by rw [typeLookup_type,builtinLookup_eq_fast];kernel_rfl) (by decide +kernel) (by decide +kernel) (by decide +kernel) (by first | exact .inl (by decide +kernel) | exact .inr (by decide +kernel)) (by rw [isSubtype_type];kernel_rfl)
theorem M1:entryFor table "set_iterator.__next__" = some Builtin.«set_iterator.__next__»:=entryFor_of_tree (by kernel_rfl)
theorem a1F:entryFor table "set_iterator.__iter__" = some Builtin.«dict_keyiterator.__iter__» :=
 entryFor_alias (id' := "dict_keyiterator.__iter__") (by kernel_rfl) (by first | rfl | decide +kernel | (unfold String.splitOn;simp +decide [String.splitOnAux])) (by decide +kernel) (by kernel_rfl)
theorem a3S:Manifest.owners.lookup (String.ofList ['r','o','t','a','r','e','t','i','_','t','e','s'].reverse)=some Manifest.sig_set_iterator:=by kernel_rfl
theorem O3 (a:Value):argsOk "set_iterator.__next__" ⟨[a],[]⟩:=by
 unfold argsOk;rw [signature?_of (id := "set_iterator.__next__") (n := "__next__".toList.reverse) (o:=['r','o','t','a','r','e','t','i','_','t','e','s']) (by kernel_rfl) a3S]
 kernel_rfl
theorem a6O (a:Value):argsOk "set_iterator.__iter__" ⟨[a],[]⟩:=by
 unfold argsOk;rw [signature?_of (id := "set_iterator.__iter__") (n := "__iter__".toList.reverse) (o:=['r','o','t','a','r','e','t','i','_','t','e','s']) (by kernel_rfl) a3S]
 kernel_rfl
abbrev G9 (first:Value) (i:Nat) (a:Addr) (n ep:Nat):Obj:={ cls:=.type "set_iterator",data:=.fields #[first,.int i 0,.ref a,.int n 0,.int ep 0] }
section
variable {prog:Program}{w:World}{A:Around}{E:Value->Shared->Prop}{s:Shared}
theorem a2K {I a:Addr}{first:Value}{i n ep:Nat}{Q:Value->Shared->Prop}(e:s.heap.get? I=some (G9 first i a n ep))(h:Q (.ref I) s):wpAny (model prog w) A (pyIter (.ref I)) Q E s:=by
 have hT:s.TypeIs (.ref I) "set_iterator":=⟨_,e,rfl⟩;refine wpAny_pyIter_slot hT a0o (wpAny_call_entry a0o hT a1F ?_ (a6O _))
 show wpAny _ _ (ret (.ref I)) _ _ s
 exact wpAny_pure ⟨_,rfl,"set_iterator",_,hT,r9.lookup,h⟩
theorem b3d {I a:Addr}{slot i n ep:Nat}{es:Array (Int × Value)}{t:SetTable}{x:Value}{nx:Nat}{Q:Option Value->Shared->Prop}(e:s.heap.get? I=some (G9 (.int slot 0) i a n ep))(ea:s.heap.get? a=some (t0 es ep t))(hf:t.fits es.size=true)(hn:n=es.size)
  (hx:∀ (A':Around) (E':Value->Shared->Prop) (Q':Option (Value × Nat)->Shared->Prop),Q' (some (x,nx)) s->wpAny (model prog w) A' (setNext a slot i ep) Q' E' s)
  (hQ:∀ h',h'.get? I=some (G9 (.int nx 0) (i + 1) a n ep)->Heap.SameBut I s.heap h'->Q (some x) { s with heap:=h' }):wpAny (model prog w) A (pyNext (.ref I)) Q E s:=by
 have hT:s.TypeIs (.ref I) "set_iterator":=⟨_,e,rfl⟩;subst hn;unfold pyNext;refine wpAny_bind (wpAny_attempt (wpAny_callSpecial?_slot (name:=Str.ofString "__next__") hT r9 (wpAny_call_entry r9 hT M1 ?_ (O3 _))));unfold Builtin.«set_iterator.__next__»;refine wpAny_bind (m:=slotArgs "__next__" 0 _) (wpAny_pure (wpAny_bind (wpAny_fieldsOf e rfl ?_)));dsimp only;refine wpAny_bind (wpAny_setEntries_of ea rfl hf ?_);rw [if_neg (by simp)]
 show wpAny _ _ (setNext a slot i ep >>= _) _ _ s
 refine wpAny_bind (hx _ _ _ ?_);dsimp only;refine wpAny_bind (wpAny_setField e rfl (by simp) ?_);have e1:(s.heap.update I (Obj.mapFields (·.setIfInBounds 0 (rawInt nx)))).get? I=some (G9 (.int nx 0) i a es.size ep):=by
  have:=Heap.get?_update_self (Obj.mapFields (·.setIfInBounds 0 (rawInt nx))) e rfl;rw [this];rfl
 refine wpAny_bind (wpAny_setField e1 rfl (by simp) ?_);have e2:((s.heap.update I (Obj.mapFields (·.setIfInBounds 0 (rawInt nx)))).update I (Obj.mapFields (·.setIfInBounds 1 (rawInt ((i:Int) + 1))))).get? I=some (G9 (.int nx 0) (i + 1) a es.size ep):=by
  have:=Heap.get?_update_self (Obj.mapFields (·.setIfInBounds 1 (rawInt ((i:Int) + 1)))) e1 rfl;rw [this];rfl
 exact wpAny_pure ⟨_,rfl,wpAny_pure (hQ _ e2 ((Heap.SameBut.update ..).trans (Heap.SameBut.update ..)))⟩
theorem a4z {B:Around} {Q:Fin->Shared->Prop} {F:Value->Shared->Prop} (hh:B.handled=none) (h:∀ (v:Value) (h':Heap),(∀ b o,s.heap.get? b=some o->h'.get? b=some o)->Shared.TypeIs { s with heap:=h' } v "StopIteration"->F v { s with heap:=h' }) :
  wpAny (model prog w) B (do raiseNew (← newExc (.type "StopIteration") [])) Q F s:=by
 refine wpAny_bind ?_;simp only [newExc,newTuple];refine wpAny_bind (wpAny_newObj_type ?_ (by size_fits));refine wpAny_bind (m:=firstArgMember _ _) (wpAny_of_eq (a:=Value.none) (by first | rfl | (simp only [firstArgMember];rfl)) ?_);refine wpAny_newObj_type ?_ (by size_fits);simp only [raiseNew];refine wpAny_bind (wpAny_handled ?_);rw [hh];refine wpAny_bind (wpAny_pure (wpAny_throw ?_));exact h _ _ (λb o e=>Heap.get?_push_of_some _ (Heap.get?_push_of_some _ e)) ⟨_,Heap.get?_push_size _ rfl,rfl⟩
theorem b3r {I a:Addr}{slot i n ep:Nat}{es:Array (Int × Value)}{t:SetTable}{Q:Option Value->Shared->Prop}(hh:A.handled=none)(e:s.heap.get? I=some (G9 (.int slot 0) i a n ep))(ea:s.heap.get? a=some (t0 es ep t))(hf:t.fits es.size=true)(hn:n=es.size)
  (hx:∀ (A':Around) (E':Value->Shared->Prop) (Q':Option (Value × Nat)->Shared->Prop),Q' none s->wpAny (model prog w) A' (setNext a slot i ep) Q' E' s)
  (hQ:∀ h',Heap.ExtBut I s.heap h'->Q none { s with heap:=h' }):wpAny (model prog w) A (pyNext (.ref I)) Q E s:=by
 have hT:s.TypeIs (.ref I) "set_iterator":=⟨_,e,rfl⟩;subst hn;unfold pyNext;refine wpAny_bind (wpAny_attempt (wpAny_callSpecial?_slot (name:=Str.ofString "__next__") hT r9 (wpAny_call_entry r9 hT M1 ?_ (O3 _))));unfold Builtin.«set_iterator.__next__»;refine wpAny_bind (m:=slotArgs "__next__" 0 _) (wpAny_pure (wpAny_bind (wpAny_fieldsOf e rfl ?_)));dsimp only;refine wpAny_bind (wpAny_setEntries_of ea rfl hf ?_);rw [if_neg (by simp)]
 show wpAny _ _ (setNext a slot i ep >>= _) _ _ s
 refine wpAny_bind (hx _ _ _ ?_);dsimp only;refine wpAny_bind (wpAny_setField e rfl (by simp) ?_);refine a4z (s:={ s with heap:=s.heap.update I (Obj.mapFields (·.setIfInBounds 2 .none)) }) (by simp [hh]) λv h' hk hv=>?_;refine wpAny_bind (wpAny_isInstance (T := "StopIteration") (b:=true) hv isSubtype_stop ?_);exact wpAny_pure (hQ h' λb o hb g=>hk b o ((Heap.get?_update_other _ _ hb.symm).trans g))
abbrev a6h (ps:List Nat):Obj:={ cls:=.type "tuple",data:=.seq (ps.map λp:Nat=>Value.int p 0).toArray 0 }
theorem b7B {I a pl:Addr}{ps:List Nat}{i n ep p:Nat}{es:Array (Int × Value)}{t:SetTable}{x:Int × Value}{Q:Option Value->Shared->Prop}(e:s.heap.get? I=some (G9 (.ref pl) i a n ep))(ea:s.heap.get? a=some (t0 es ep t))(hp:s.heap.get? pl=some (a6h ps))(hf:t.fits es.size=true)(hn:n=es.size)
  (hi:ps[i]? = some p) (hx:es[p]? = some x)
  (hQ:∀ h',h'.get? I=some (G9 (.ref pl) (i + 1) a n ep)->Heap.SameBut I s.heap h'->Q (some x.2) { s with heap:=h' }):wpAny (model prog w) A (pyNext (.ref I)) Q E s:=by
 have hT:s.TypeIs (.ref I) "set_iterator":=⟨_,e,rfl⟩;subst hn;unfold pyNext;refine wpAny_bind (wpAny_attempt (wpAny_callSpecial?_slot (name:=Str.ofString "__next__") hT r9 (wpAny_call_entry r9 hT M1 ?_ (O3 _))));unfold Builtin.«set_iterator.__next__»;refine wpAny_bind (m:=slotArgs "__next__" 0 _) (wpAny_pure (wpAny_bind (wpAny_fieldsOf e rfl ?_)));dsimp only;refine wpAny_bind (wpAny_setEntries_of ea rfl hf ?_);rw [if_neg (by simp)];have e1:wpAny (model prog w) A.in1 (seqItems? (.ref pl)) (λr z=>r=some (ps.map λp:Nat=>Value.int p 0).toArray /\ z=s) (λ_ _=>False) s:=by
  unfold seqItems?;exact wpAny_bind (wpAny_load hp (wpAny_pure ⟨rfl,rfl⟩))
 refine wpAny_bind (wpAny_mono e1 ?_ λ_ _ z=>z.elim);rintro r z ⟨rfl,rfl⟩;have e2:(ps.map λp:Nat=>Value.int p 0).toArray[i]? = some (.int p 0):=by simp [hi]
 dsimp only;rw [Int.toNat_natCast,e2];dsimp only;rw [Int.toNat_natCast,Int.toNat_natCast];unfold setNextDrawn;refine wpAny_bind (wpAny_bind (wpAny_setState_of ea rfl hf ?_));dsimp only;rw [if_neg (by simp),hx];refine wpAny_pure (wpAny_bind (wpAny_setField e rfl (by simp) ?_));have e3:(z.heap.update I (Obj.mapFields (·.setIfInBounds 1 (rawInt ((i:Int) + 1))))).get? I=some (G9 (.ref pl) (i + 1) a es.size ep):=by
  have:=Heap.get?_update_self (Obj.mapFields (·.setIfInBounds 1 (rawInt ((i:Int) + 1)))) e rfl;rw [this];rfl
 exact wpAny_pure ⟨_,rfl,wpAny_pure (hQ _ e3 (Heap.SameBut.update ..))⟩
theorem b5K {I a pl:Addr}{ps:List Nat}{i n ep:Nat}{es:Array (Int × Value)}{t:SetTable}{Q:Option Value->Shared->Prop}(hh:A.handled=none)(e:s.heap.get? I=some (G9 (.ref pl) i a n ep))(ea:s.heap.get? a=some (t0 es ep t))(hp:s.heap.get? pl=some (a6h ps))(hf:t.fits es.size=true)(hn:n=es.size)
  (hi:ps[i]? = none) (hQ:∀ h',Heap.ExtBut I s.heap h'->Q none { s with heap:=h' }):wpAny (model prog w) A (pyNext (.ref I)) Q E s:=by
 have hT:s.TypeIs (.ref I) "set_iterator":=⟨_,e,rfl⟩;subst hn;unfold pyNext;refine wpAny_bind (wpAny_attempt (wpAny_callSpecial?_slot (name:=Str.ofString "__next__") hT r9 (wpAny_call_entry r9 hT M1 ?_ (O3 _))));unfold Builtin.«set_iterator.__next__»;refine wpAny_bind (m:=slotArgs "__next__" 0 _) (wpAny_pure (wpAny_bind (wpAny_fieldsOf e rfl ?_)));dsimp only;refine wpAny_bind (wpAny_setEntries_of ea rfl hf ?_);rw [if_neg (by simp)];have e1:wpAny (model prog w) A.in1 (seqItems? (.ref pl)) (λr z=>r=some (ps.map λp:Nat=>Value.int p 0).toArray /\ z=s) (λ_ _=>False) s:=by
  unfold seqItems?;exact wpAny_bind (wpAny_load hp (wpAny_pure ⟨rfl,rfl⟩))
 refine wpAny_bind (wpAny_mono e1 ?_ λ_ _ z=>z.elim);rintro r z ⟨rfl,rfl⟩;have e2:(ps.map λp:Nat=>Value.int p 0).toArray[i]? = none:=by simpa using hi
 dsimp only;rw [Int.toNat_natCast,e2];dsimp only;refine wpAny_bind (wpAny_setField e rfl (by simp) ?_);have e3:(z.heap.update I (Obj.mapFields (·.setIfInBounds 0 (rawInt 0)))).get? I=some (G9 (rawInt 0) i a es.size ep):=by
  have:=Heap.get?_update_self (Obj.mapFields (·.setIfInBounds 0 (rawInt 0))) e rfl;rw [this];rfl
 refine wpAny_bind (wpAny_setField e3 rfl (by simp) ?_);refine a4z (s:={ z with heap:=(z.heap.update I (Obj.mapFields (·.setIfInBounds 0 (rawInt 0)))).update I (Obj.mapFields (·.setIfInBounds 2 .none)) }) (by simp [hh]) λv h' hk hv=>?_;refine wpAny_bind (wpAny_isInstance (T := "StopIteration") (b:=true) hv isSubtype_stop ?_);exact wpAny_pure (hQ h' λb o hb g=>hk b o ((Heap.get?_update_other _ _ hb.symm).trans ((Heap.get?_update_other _ _ hb.symm).trans g)))
theorem a8u {a:Addr}{slot i ep:Nat}{es:Array (Int × Value)}{t:SetTable}{Q:Option (Value × Nat)->Shared->Prop}(ea:s.heap.get? a=some (t0 es ep t))(hf:t.fits es.size=true)(hb:byT w=true)
  (h:Q (((pickOrder (w.params.setOrder a ep) es)[i]?).map λe=>(e.2,slot)) s):wpAny (model prog w) A (setNext a slot i ep) Q E s:=by
 unfold setNext;refine wpAny_bind (wpAny_setState_of ea rfl hf ?_);dsimp only;unfold setsByText;refine wpAny_bind (wpAny_bind (wpAny_askSetting (wpAny_pure ?_)));have hb':(model prog w).w.params.followText "set-order" = true:=hb;dsimp only;rw [hb',if_pos rfl,if_neg (by simp)];unfold setWalk setsByText;refine wpAny_bind (wpAny_bind (wpAny_setState_of ea rfl hf ?_));dsimp only;refine wpAny_bind (wpAny_bind (wpAny_askSetting (wpAny_pure ?_)));dsimp only;rw [hb',if_pos rfl];exact wpAny_bind (wpAny_askSetting (wpAny_pure (wpAny_pure h)))
theorem a9z {a:Addr}{slot i ep:Nat}{es:Array (Int × Value)}{t:SetTable}{Q:Option (Value × Nat)->Shared->Prop}(ea:s.heap.get? a=some (t0 es ep t))(hf:t.fits es.size=true)(hb:byT w=false)(hl:t.led=true)(hd:t.plain=true \/ es.size <= 1)
  (h:Q (match es[SetTable.below t.place slot]?,t.place[SetTable.below t.place slot]? with | some (_,x),some j=>some (x,j + 1) | _,_=>none) s):wpAny (model prog w) A (setNext a slot i ep) Q E s:=by
 unfold setNext;refine wpAny_bind (wpAny_setState_of ea rfl hf ?_);dsimp only;unfold setsByText;refine wpAny_bind (wpAny_bind (wpAny_askSetting (wpAny_pure ?_)));have hb':(model prog w).w.params.followText "set-order" = false:=hb;dsimp only;rw [hb',if_neg Bool.false_ne_true];refine wpAny_ite_split (λz=>?_) (λ_=>wpAny_bind ?_)
 ·have z':(!t.plain && decide (es.size > 1))=true:=z
  rcases hd with q | q
  ·rw [q] at z';cases z'
  ·rw [show decide (es.size > 1)=false from decide_eq_false (by omega),Bool.and_false] at z';cases z'
 ·show wpAny _ _ (if (!t.led && !es.isEmpty)=true then unsupported "set:maker-not-led" else pure ()) _ _ s
  rw [hl,if_neg (by simp)];exact wpAny_pure (wpAny_pure h)
theorem a2B {α:Type}{l:List α}{i:Nat}(h:i < l.length):(l[i] :: l.eraseIdx i).Perm l:=by
 have e:l=l.take i ++ l[i] :: l.drop (i + 1):=by rw [← List.drop_eq_getElem_cons h,List.take_append_drop]
 rw [List.eraseIdx_eq_take_drop_succ];have p:=(List.perm_middle (a:=l[i]) (l₁:=l.take i) (l₂:=l.drop (i + 1))).symm;exact p.trans (by rw [← e])
theorem a5J {src:Source}{n:Nat}{Q:Nat->Shared->Prop}(hn:n≠0)(h:∀ i,i < n->∀ d,Q i { s with drawn:=d }):wpAny (model prog w) A (choose src n) Q E s:=fun Γ p hΓ=>⟨hn,h _ (Nat.mod_lt _ (Nat.pos_of_ne_zero hn)) _⟩
theorem b9d {α:Type}(next:Nat->Nat):∀ (fuel k:Nat) (left:List α) (out:Array α),left.length <= fuel->(pickOrder.go next fuel k left out).toList.Perm (out.toList ++ left)
 | 0,k,left,out,h=>by
  have:left=[]:=List.length_eq_zero_iff.mp (by omega);subst this;unfold pickOrder.go
  simp
 | fuel + 1,k,left,out,h=>by
  unfold pickOrder.go;cases e:left[next k % left.length]? with
  | none =>
   dsimp only;have:left=[]:=by
    cases left with
    | nil=>rfl
    | cons x l =>
     have hlt:next k % (x :: l).length < (x :: l).length:=Nat.mod_lt _ (by simp);rw [List.getElem?_eq_getElem hlt] at e;cases e
   subst this
   simp
  | some x =>
   dsimp only;obtain ⟨hlt,hx⟩:=List.getElem?_eq_some_iff.mp e;have ih:=b9d next fuel (k + 1) (left.eraseIdx (next k % left.length)) (out.push x) (by rw [List.length_eraseIdx,if_pos hlt];omega);refine ih.trans ?_;rw [Array.toList_push,List.append_assoc];refine List.Perm.append_left _ ?_;rw [← hx];exact a2B hlt
theorem a2s {α:Type}(next:Nat->Nat)(xs:Array α):(pickOrder next xs).toList.Perm xs.toList:=by
 unfold pickOrder;have:=b9d next xs.size 0 xs.toList #[] (by simp)
 simpa using this
theorem b7g {α:Type}{Q:List α->Shared->Prop}:∀ (n:Nat) (l:List α) (s:Shared),l.length=n->(∀ (r:List α) (d:Drawn),r.Perm l->Q r { s with drawn:=d })->wpAny (model prog w) A (drawOrder n l) Q E s
 | 0,l,s,hn,h=>by
  have:l=[]:=List.length_eq_zero_iff.mp hn;subst this;unfold drawOrder;exact wpAny_pure (h [] s.drawn (List.Perm.refl _))
 | n + 1,[],s,hn,h=>by cases hn
 | n + 1,x :: l,s,hn,h=>by
  unfold drawOrder;refine wpAny_bind (a5J (by simp) λi hi d=>?_);rw [List.getElem?_eq_getElem hi];dsimp only;refine wpAny_bind (b7g n ((x :: l).eraseIdx i) _ (by rw [List.length_eraseIdx,if_pos hi];omega) λr d' hr=>wpAny_pure (h _ _ ?_));exact (hr.cons _).trans (a2B hi)
end
section
variable {prog:Program}{w:World}{A:Around}
def b3H (prog:Program)(w:World)(A:Around)(lo:Nat)(I a:Addr)(h:Heap)(ks:List Int):Prop :=
 ∃ (fp:List Addr) (St:Nat->Heap->Prop) (L:List Value) (ms:List Int),I∈fp/\(∀ b∈fp,b=a \/ lo<=b)/\IntsAre L ms/\ms.Perm ks/\Walks prog w A I fp [I] ms.length (λi v=>L[i]? = some v) St/\St 0 h
theorem a2M {es:List (Int × Value)}(h:∀ e∈es,∃ k u,e=(hashInt k,Value.int k u)):IntsAre (es.map (·.2)) (es.map λe=>numOf e.2):=by
 induction es with
 | nil=>exact .nil
 | cons e es ih =>
  obtain ⟨k,u,rfl⟩:=h e List.mem_cons_self;exact .cons k u (ih λe he=>h e (List.mem_cons_of_mem _ he))
theorem a2P (hh:A.handled=none){I a:Addr}(hne:a≠I){es:Array (Int × Value)}{ep:Nat}{t:SetTable}(hf:t.fits es.size=true)(hb:byT w=true) :
  Walks prog w A I [I,a] [I] es.size (λi v=>((pickOrder (w.params.setOrder a ep) es).toList.map (·.2))[i]? = some v) (λi h=>h.get? I=some (G9 (.int 0 0) i a es.size ep)/\h.get? a=some (t0 es ep t)) where
 sub:=λb hb=>by simp at hb;simp [hb]
 frame:=λ_ _ _ st hk=>⟨hk I (by simp) _ st.1,hk a (by simp) _ st.2⟩
 item:=λi s Q E hi st hQ=>by
  have hl:(pickOrder (w.params.setOrder a ep) es).size=es.size:=by have:=(a2s (w.params.setOrder a ep) es).length_eq;simpa using this
  have hi':i < (pickOrder (w.params.setOrder a ep) es).size:=by omega
  have ex:(pickOrder (w.params.setOrder a ep) es)[i]? = some (pickOrder (w.params.setOrder a ep) es)[i]:=Array.getElem?_eq_getElem hi';refine b3d (slot:=0) (nx:=0) (x:=(pickOrder (w.params.setOrder a ep) es)[i].2) st.1 st.2 hf rfl (λA' E' Q' q=>a8u st.2 hf hb ?_) λh' e1 e2=>hQ _ h' s.toks ?_ ⟨e1,?_⟩ ?_
  ·rw [ex];exact q
  ·rw [List.getElem?_map,Array.getElem?_toList,ex];rfl
  ·rw [e2.2 a hne];exact st.2
  ·intro b o hb e;rw [e2.2 b (by simpa using hb)];exact e
 done:=λs Q E st hQ=>by
  have hl:(pickOrder (w.params.setOrder a ep) es).size=es.size:=by have:=(a2s (w.params.setOrder a ep) es).length_eq;simpa using this
  refine b3r (slot:=0) hh st.1 st.2 hf rfl (λA' E' Q' q=>a8u st.2 hf hb ?_) λh' e=>hQ h' s.toks λb o hb g=>e b o (by simpa using hb) g;rw [Array.getElem?_eq_none (by omega)];exact q
 self:=λi s Q E st h=>a2K st.1 h
def a7l (t:SetTable)(i:Nat):Nat:=if i=0 then 0 else t.place.getD (i - 1) 0 + 1
theorem a2C {t:SetTable}(hr:Rs t.place){i:Nat}(hi:i<=t.place.size):SetTable.below t.place (a7l t i)=i:=by
 unfold a7l;refine b5x hr hi (λk hk=>?_) λhi'=>?_
 ·rw [if_neg (by omega)];have hk':k < t.place.size:=by omega
  have hi1:i - 1 < t.place.size:=by omega
  have:t.place.getD k 0<=t.place.getD (i - 1) 0:=hr.le (by omega) hi1
  simp [Array.getD,hk',hi1] at this ⊢
  omega
 ·split
  ·omega
  ·have hi1:i - 1 < t.place.size:=by omega
   have:t.place.getD (i - 1) 0 < t.place.getD i 0:=hr.lt (by omega) hi'
   simp [Array.getD,hi',hi1] at this ⊢
   omega
theorem a4W (hh:A.handled=none){I a:Addr}(hne:a≠I){es:Array (Int × Value)}{ep:Nat}{t:SetTable}(hf:t.fits es.size=true)(hb:byT w=false)(hl:t.led=true)(hd:t.plain=true \/ es.size <= 1)(hr:Rs t.place) :
  Walks prog w A I [I,a] [I] es.size (λi v=>(es.toList.map (·.2))[i]? = some v) (λi h=>h.get? I=some (G9 (.int (a7l t i) 0) i a es.size ep)/\h.get? a=some (t0 es ep t)) where
 sub:=λb hb=>by simp at hb;simp [hb]
 frame:=λ_ _ _ st hk=>⟨hk I (by simp) _ st.1,hk a (by simp) _ st.2⟩
 item:=λi s Q E hi st hQ=>by
  have hp:t.place.size=es.size:=by simp only [SetTable.fits,Bool.and_eq_true,beq_iff_eq] at hf;exact hf.1
  have hi':i < t.place.size:=by omega
  refine b3d (nx:=a7l t (i + 1)) (x:=es[i].2) st.1 st.2 hf rfl (λA' E' Q' q=>a9z st.2 hf hb hl hd ?_) λh' e1 e2=>hQ _ h' s.toks ?_ ⟨e1,?_⟩ ?_
  ·rw [a2C hr (by omega),getElem?_pos es i hi,getElem?_pos t.place i hi'];have:a7l t (i + 1)=t.place[i] + 1:=by simp [a7l,Array.getD,hi']
   rw [this] at q;exact q
  ·simp [hi]
  ·rw [e2.2 a hne];exact st.2
  ·intro b o hb e;rw [e2.2 b (by simpa using hb)];exact e
 done:=λs Q E st hQ=>by
  have hp:t.place.size=es.size:=by simp only [SetTable.fits,Bool.and_eq_true,beq_iff_eq] at hf;exact hf.1
  refine b3r hh st.1 st.2 hf rfl (λA' E' Q' q=>a9z st.2 hf hb hl hd ?_) λh' e=>hQ h' s.toks λb o hb g=>e b o (by simpa using hb) g;rw [a2C hr (by omega),Array.getElem?_eq_none (Nat.le_refl es.size)];exact q
 self:=λi s Q E st h=>a2K st.1 h
theorem a1t {es:Array (Int × Value)}:∀ {ps:List Nat},(∀ p∈ps,p < es.size)->(ps.filterMap λp=>es[p]?.map (·.2))=ps.map λp=>(es.getD p (0,.none)).2
 | [],_=>rfl
 | p :: l,hm=>by
  have:=hm p List.mem_cons_self;rw [List.filterMap_cons_some (b:=es[p].2) (by simp [this]),List.map_cons,a1t λq hq=>hm q (List.mem_cons_of_mem _ hq)]
  simp [Array.getD,this]
theorem a5W (hh:A.handled=none){I a pl:Addr}(hne:a≠I)(hnp:pl≠I){es:Array (Int × Value)}{ep:Nat}{t:SetTable}(hf:t.fits es.size=true){ps:List Nat}(hp:ps.Perm (List.range es.size)) :
  Walks prog w A I [I,a,pl] [I] es.size (λi v=>(ps.filterMap λp=>es[p]?.map (·.2))[i]? = some v) (λi h=>h.get? I=some (G9 (.ref pl) i a es.size ep)/\h.get? a=some (t0 es ep t)/\h.get? pl=some (a6h ps)) where
 sub:=λb hb=>by simp at hb;simp [hb]
 frame:=λ_ _ _ st hk=>⟨hk I (by simp) _ st.1,hk a (by simp) _ st.2.1,hk pl (by simp) _ st.2.2⟩
 item:=λi s Q E hi st hQ=>by
  have hl:ps.length=es.size:=by have:=hp.length_eq;simpa using this
  have hi':i < ps.length:=by omega
  have hm:∀ p∈ps,p < es.size:=λp hp'=>by have:=hp.mem_iff.mp hp';simpa using this
  have hpi:ps[i] < es.size:=hm _ (List.getElem_mem hi');have efm:=a1t hm;refine b7B (p:=ps[i]) (x:=es[ps[i]]) st.1 st.2.1 st.2.2 hf rfl (List.getElem?_eq_getElem hi') (getElem?_pos es _ hpi) λh' e1 e2=>hQ _ h' s.toks ?_ ⟨e1,?_,?_⟩ ?_
  ·rw [efm,List.getElem?_map,List.getElem?_eq_getElem hi']
   simp [Array.getD,hpi]
  ·rw [e2.2 a hne];exact st.2.1
  ·rw [e2.2 pl hnp];exact st.2.2
  ·intro b o hb e;rw [e2.2 b (by simpa using hb)];exact e
 done:=λs Q E st hQ=>by
  have hl:ps.length=es.size:=by have:=hp.length_eq;simpa using this
  exact b5K hh st.1 st.2.1 st.2.2 hf rfl (List.getElem?_eq_none (by omega)) λh' e=>hQ h' s.toks λb o hb g=>e b o (by simpa using hb) g
 self:=λi s Q E st h=>a2K st.1 h
end
end MwSet
namespace MwSortR
open PySem PyProof.Rows
class o7 where
 ρ:Value->Int
 κ:SortKind
 V:Value->Prop
class a3r [o7] (prog:Program) (w:World) (A:Around) (s:Shared):Prop where
 lt:∀ (x y:Value) (Q:Bool->Shared->Prop) (E:Value->Shared->Prop),o7.V x->o7.V y->Q (decide (o7.ρ x < o7.ρ y)) s->wpAny (model prog w) A (keyLt' o7.κ x y) Q E s
variable [o7]
def K (xs:Array Keyed)(i:Nat):Int:=match xs[i]? with
 | some p=>o7.ρ p.1
 | none=>0
def SortedTo (xs:Array Keyed)(k:Nat):Prop:=∀ i j,i<=j->j < k->K xs i<=K xs j
def B3 (xs:Array Keyed):Prop:=∀ p,p∈xs.toList -> o7.V p.1
def IsK (v:Value)(a:Int):Prop:=o7.V v/\o7.ρ v=a
theorem a8j {xs ys:Array Keyed}{i j:Nat}(h:xs[i]? = ys[j]?):K xs i=K ys j:=congrArg (λz:Option Keyed=>match z with | some p=>o7.ρ p.1 | none=>0) h
theorem b7I {xs ys:Array Keyed}{k m n:Nat}{c:Prop}[Decidable c](e:xs[k]? = if c then ys[m]? else ys[n]?):K xs k=if c then K ys m else K ys n:=by
 by_cases z:c
 ·rw [if_pos z] at e ⊢;exact a8j e
 ·rw [if_neg z] at e ⊢;exact a8j e
theorem b1y {xs:Array Keyed}{src d:Nat}(hs:src < xs.size)(hd:d<=src)(k:Nat):K (bubble xs src d) k=if k=src - d then K xs src else if src - d < k/\k<=src then K xs (k - 1) else K xs k:=by
 have e:=getElem?_bubble hs d hd k
 by_cases z:k=src - d
 ·rw [if_pos z] at e ⊢;exact a8j e
 ·rw [if_neg z] at e ⊢;exact b7I e
theorem a2r {xs:Array Keyed}{i j:Nat}(hj:j<=xs.size)(k:Nat):K (mirror xs i j ((j - i) / 2)) k=if i<=k/\k < j then K xs (i + j - 1 - k) else K xs k:=b7I (getElem?_mirror_all (i:=i) hj k)
theorem a7C {xs:Array Keyed}{i j:Nat}(hj:j<=xs.size)(heq:∀ k,i<=k->k < j->K xs k=K xs (j - 1))(k:Nat):K (mirror xs i j ((j - i) / 2)) k=K xs k:=by
 rw [a2r hj]
 by_cases z:i<=k/\k < j
 ·rw [if_pos z,heq k z.1 z.2];exact heq _ (by omega) (by omega)
 ·rw [if_neg z]
def T0:Bool->Keyed->Array Keyed->Nat->Nat->Nat->StateT SortSt Sem (Option Nat):=sortPriv% PySem.Builtin.gallop
theorem b1b (lf:Bool)(ky:Keyed)(ar:Array Keyed)(bs n hint:Nat):T0 lf ky ar bs n hint=(do
 let ask (i:Nat):StateT SortSt Sem (Option Bool):=do
  let y ← elem' ar (bs + i)
  if lf then lt' y ky else return (← lt' ky y).map (!·)
 let mut l:=0
 let mut o:=1
 let mut lw:=0
 let mut up:=0
 let some fw ← ask hint | return none
 if fw then
  let far:=n - hint
  for _ in [0:n] do
   if o ≥ far then break
   let some go ← ask (hint + o) | return none
   if !go then break
   l:=o
   o:=2 * o + 1
  lw:=hint + l + 1
  up:=hint + min o far
 else
  let far:=hint + 1
  for _ in [0:n] do
   if o ≥ far then break
   let some go ← ask (hint - o) | return none
   if go then break
   l:=o
   o:=2 * o + 1
  lw:=hint + 1 - min o far
  up:=hint - l
 for _ in [0:n] do
  if lw ≥ up then break
  let mid:=lw + (up - lw) / 2
  let some go ← ask mid | return none
  if go then lw:=mid + 1 else up:=mid
 return some up):=rfl
section
variable {prog:Program}{w:World}{A:Around}{E:Value->Shared->Prop}{s:Shared}[a3r prog w A s]
theorem a6n {st:SortSt}{x y:Keyed}{a b:Int}{Q:Option Bool->SortSt->Prop}(hk:kindOf st=o7.κ)(hx:IsK x.1 a)(hy:IsK y.1 b)(h:Q (some (decide (a < b))) st) :
  wpS (model prog w) A E s (lt' x y) Q st:=by
 rw [lt'_eq];refine wpS_bind (wpS_get ?_);rw [hk];refine wpS_bind (wpS_lift (wpAny_attempt (a3r.lt _ _ _ _ hx.1 hy.1 ⟨rfl,?_⟩)));rw [hx.2,hy.2];exact wpS_pure h
theorem o5 {st:SortSt}{arr:Array Keyed}{i:Nat}{p:Keyed}{Q:Keyed->SortSt->Prop}(h:arr[i]? = some p)(q:Q p st):wpS (model prog w) A E s (elem' arr i) Q st:=by
 rw [elem'_eq,h];exact wpS_pure q
def b6h (B:Nat->Bool)(n k:Nat):Prop:=k<=n/\(∀ i,i < k->B i=true)/\∀ i,k<=i->i < n->B i=false
def Fwd (left:Bool)(kk:Int)(arr:Array Keyed)(b:Nat)(i:Nat):Bool:=if left=true then decide (K arr (b + i) < kk) else !decide (kk < K arr (b + i))
theorem a4O {arr:Array Keyed}(hI:B3 arr){i:Nat}(h:i < arr.size):∃ (p:Keyed) (t:Tok),arr[i]? = some p/\IsK p.1 (K arr i):=by
 have e:arr[i]? = some arr[i]:=getElem?_pos arr i h;refine ⟨arr[i],0,e,hI arr[i] (by simp),?_⟩;unfold K;rw [e]
theorem b8v {left:Bool}{kk:Int}{arr:Array Keyed}{b n:Nat}(hs:∀ i j,i<=j->j < n->K arr (b + i)<=K arr (b + j)){i j:Nat}(hij:i<=j)(hj:j < n)(h:Fwd left kk arr b j=true):Fwd left kk arr b i=true:=by
 have:=hs i j hij hj;unfold Fwd at h ⊢;cases left
 ·simp at h ⊢
  omega
 ·simp at h ⊢
  omega
theorem a7w {st:SortSt}{left:Bool}{key:Keyed}{arr:Array Keyed}{b i:Nat}{kk:Int}{Q:Option Bool->SortSt->Prop}(hk:kindOf st=o7.κ)(hkey:IsK key.1 kk)(hI:B3 arr)(hi:b + i < arr.size)
  (h:Q (some (Fwd left kk arr b i)) st) :
  wpS (model prog w) A E s (do let x ← (sortPriv% PySem.Builtin.elem) arr (b + i);if left=true then (sortPriv% PySem.Builtin.lt) x key else do let r ← (sortPriv% PySem.Builtin.lt) key x;pure (Option.map (λx=>!x) r)) Q st:=by
 obtain ⟨p,t,e,hp⟩:=a4O hI hi;refine wpS_bind (o5 (arr:=arr) e ?_);unfold Fwd at h;cases left with
 | true =>
  rw [if_pos rfl];exact a6n hk hp hkey (by simpa using h)
 | false =>
  rw [if_neg Bool.false_ne_true];exact wpS_bind (a6n hk hkey hp (wpS_pure (by simpa using h)))
theorem J9 {st:SortSt}{left:Bool}{key:Keyed}{arr:Array Keyed}{b n hint:Nat}{kk:Int}{Q:Option Nat->SortSt->Prop}(hk:kindOf st=o7.κ)(hkey:IsK key.1 kk)
  (hI:B3 arr) (hb:b + n<=arr.size) (hh:hint < n) (hs:∀ i j,i<=j->j < n->K arr (b + i)<=K arr (b + j))
  (h:∀ k,b6h (Fwd left kk arr b) n k->Q (some k) st):wpS (model prog w) A E s (T0 left key arr b n hint) Q st:=by
 have mono:∀ {i j:Nat},i<=j->j < n->Fwd left kk arr b j=true->Fwd left kk arr b i=true:=λa b c=>b8v hs a b c;have anti:∀ {i j:Nat},i<=j->j < n->Fwd left kk arr b i=false->Fwd left kk arr b j=false:=λ{i j} a b c=>by
  cases e:Fwd left kk arr _ j with
  | false=>rfl
  | true=>rw [mono a b e] at c;cases c
 have half:∀ (lo hi:Nat),lo<=hi->hi<=n->(∀ i,i < lo->Fwd left kk arr b i=true)->(∀ i,hi<=i->i < n->Fwd left kk arr b i=false) ->
   ∀ (f:Nat->(Option (Option Nat) × Nat × Nat)->StateT SortSt Sem (ForInStep (Option (Option Nat) × Nat × Nat))),
   (∀ x c,f x c=(if c.snd.fst ≥ c.snd.snd then pure (ForInStep.done (none,c.snd.fst,c.snd.snd)) else do
    let r ← (do let x ← (sortPriv% PySem.Builtin.elem) arr (b + (c.snd.fst + (c.snd.snd - c.snd.fst) / 2));if left=true then (sortPriv% PySem.Builtin.lt) x key else do let r ← (sortPriv% PySem.Builtin.lt) key x;pure (Option.map (λx=>!x) r))
    match r with
    | some more=>if more=true then pure (ForInStep.yield (none,c.snd.fst + (c.snd.snd - c.snd.fst) / 2 + 1,c.snd.snd)) else pure (ForInStep.yield (none,c.snd.fst,c.snd.fst + (c.snd.snd - c.snd.fst) / 2))
    | x=>pure (ForInStep.done (some none,c.snd.fst,c.snd.snd)))) ->
   wpS (model prog w) A E s (forIn [:n] (none,lo,hi) f) (λc st'=>st'=st/\c.fst=none/\b6h (Fwd left kk arr b) n c.snd.snd) st:=by
  intro lo hi h1 h2 h3 h4 f hf;refine wpS_forRange (a:=0) (I:=λ(x:Nat) (c:Option (Option Nat) × Nat × Nat) (st':SortSt)=>st'=st/\c.fst=none/\c.snd.fst <= c.snd.snd /\ c.snd.snd <= n/\(∀ i,i < c.snd.fst -> Fwd left kk arr b i=true)/\(∀ i,c.snd.snd <= i->i < n->Fwd left kk arr b i=false)/\c.snd.snd - c.snd.fst <= n - x) ?_ ?_ ⟨rfl,rfl,h1,h2,h3,h4,by show hi - lo<=n - 0;omega⟩
  ·rintro x ⟨c0,l,r⟩ st' _ hx ⟨rfl,rfl,i1,i2,i3,i4,i5⟩;dsimp only at i1 i2 i3 i4 i5;rw [hf];dsimp only
   by_cases hlr:l ≥ r
   ·rw [if_pos hlr];have:l=r:=by omega
    subst this;exact wpS_pure ⟨rfl,rfl,i2,i3,i4⟩
   ·rw [if_neg hlr];refine wpS_bind (a7w hk hkey hI (by omega) ?_);cases e:Fwd left kk arr b (l + (r - l) / 2) with
    | true =>
     dsimp only;rw [if_pos rfl];exact wpS_pure ⟨rfl,rfl,by dsimp only;omega,i2,λi hi=>mono (show i<=l + (r - l) / 2 by dsimp only at hi;omega) (by omega) e,i4,by dsimp only;omega⟩
    | false =>
     dsimp only;rw [if_neg Bool.false_ne_true];exact wpS_pure ⟨rfl,rfl,by dsimp only;omega,by dsimp only;omega,i3,λi hi hn=>anti hi hn e,by dsimp only;omega⟩
  ·rintro ⟨c0,l,r⟩ st' ⟨rfl,rfl,i1,i2,i3,i4,i5⟩;dsimp only at i1 i2 i3 i4 i5 ⊢;have:l=r:=by omega
   subst this;exact ⟨rfl,rfl,i2,i3,i4⟩
 rw [b1b];dsimp only;refine wpS_bind (a7w hk hkey hI (by omega) ?_);cases e0:Fwd left kk arr b hint with
 | true =>
  dsimp only;rw [if_pos rfl];refine wpS_bind (wpS_mono (wpS_forRange (a:=0) (I:=λ(x:Nat) (c:Option (Option Nat) × Nat × Nat) (st':SortSt)=>st'=st/\c.fst=none/\c.snd.fst < c.snd.snd /\ hint + c.snd.fst < n/\Fwd left kk arr b (hint + c.snd.fst)=true/\x + 1<=c.snd.snd)
   (Q:=λ(c:Option (Option Nat) × Nat × Nat) (st':SortSt)=>st'=st/\c.fst=none/\c.snd.fst < c.snd.snd /\ hint + c.snd.fst < n/\Fwd left kk arr b (hint + c.snd.fst)=true/\(n - hint<=c.snd.snd \/ (hint + c.snd.snd < n/\Fwd left kk arr b (hint + c.snd.snd)=false))) ?_ ?_ ⟨rfl,rfl,by decide,hh,(show Fwd left kk arr b (hint + 0)=true from e0),by decide⟩) ?_)
  ·rintro x ⟨c0,l,r⟩ st' _ hx ⟨rfl,rfl,i1,i2,i3,i4⟩;dsimp only at i1 i2 i3 i4 ⊢
   by_cases hlr:r ≥ n - hint
   ·rw [if_pos hlr];exact wpS_pure ⟨rfl,rfl,i1,i2,i3,.inl hlr⟩
   ·rw [if_neg hlr];refine wpS_bind (a7w hk hkey hI (by omega) ?_);cases e:Fwd left kk arr b (hint + r) with
    | true =>
     dsimp only;rw [if_neg (by simp)];exact wpS_pure ⟨rfl,rfl,by dsimp only;omega,by dsimp only;omega,e,by dsimp only;omega⟩
    | false =>
     dsimp only;rw [if_pos (show (!false)=true from rfl)];exact wpS_pure ⟨rfl,rfl,i1,i2,i3,.inr ⟨by dsimp only;omega,e⟩⟩
  ·rintro ⟨c0,l,r⟩ st' ⟨rfl,rfl,i1,i2,i3,i4⟩;dsimp only at i1 i2 i3 i4 ⊢;exact ⟨rfl,rfl,i1,i2,i3,.inl (by omega)⟩
  ·rintro ⟨c0,l,r⟩ st' ⟨rfl,rfl,i1,i2,i3,i4⟩;dsimp only at i1 i2 i3 i4 ⊢;refine wpS_bind (wpS_mono (half (hint + l + 1) (hint + min r (n - hint)) (by omega) (by omega) (λi hi=>mono (show i<=hint + l by omega) i2 i3) (λi hi hn=>?_) _ (λx c=>rfl)) ?_)
   ·rcases i4 with z | ⟨z1,z2⟩
    ·omega
    ·exact anti (show hint + r<=i by omega) hn z2
   ·rintro ⟨c0,l2,r2⟩ st' ⟨rfl,rfl,t⟩;exact wpS_pure (h _ t)
 | false =>
  dsimp only;rw [if_neg Bool.false_ne_true];refine wpS_bind (wpS_mono (wpS_forRange (a:=0) (I:=λ(x:Nat) (c:Option (Option Nat) × Nat × Nat) (st':SortSt)=>st'=st/\c.fst=none/\c.snd.fst < c.snd.snd /\ c.snd.fst <= hint/\Fwd left kk arr b (hint - c.snd.fst)=false/\x + 1<=c.snd.snd)
   (Q:=λ(c:Option (Option Nat) × Nat × Nat) (st':SortSt)=>st'=st/\c.fst=none/\c.snd.fst < c.snd.snd /\ c.snd.fst <= hint/\Fwd left kk arr b (hint - c.snd.fst)=false/\(hint + 1<=c.snd.snd \/ (c.snd.snd <= hint/\Fwd left kk arr b (hint - c.snd.snd)=true))) ?_ ?_ ⟨rfl,rfl,by decide,Nat.zero_le _,(show Fwd left kk arr b (hint - 0)=false from e0),by decide⟩) ?_)
  ·rintro x ⟨c0,l,r⟩ st' _ hx ⟨rfl,rfl,i1,i2,i3,i4⟩;dsimp only at i1 i2 i3 i4 ⊢
   by_cases hlr:r ≥ hint + 1
   ·rw [if_pos hlr];exact wpS_pure ⟨rfl,rfl,i1,i2,i3,.inl hlr⟩
   ·rw [if_neg hlr];refine wpS_bind (a7w hk hkey hI (by omega) ?_);cases e:Fwd left kk arr b (hint - r) with
    | true =>
     dsimp only;rw [if_pos rfl];exact wpS_pure ⟨rfl,rfl,i1,i2,i3,.inr ⟨by dsimp only;omega,e⟩⟩
    | false =>
     dsimp only;rw [if_neg Bool.false_ne_true];exact wpS_pure ⟨rfl,rfl,by dsimp only;omega,by dsimp only;omega,e,by dsimp only;omega⟩
  ·rintro ⟨c0,l,r⟩ st' ⟨rfl,rfl,i1,i2,i3,i4⟩;dsimp only at i1 i2 i3 i4 ⊢;exact ⟨rfl,rfl,i1,i2,i3,.inl (by omega)⟩
  ·rintro ⟨c0,l,r⟩ st' ⟨rfl,rfl,i1,i2,i3,i4⟩;dsimp only at i1 i2 i3 i4 ⊢;refine wpS_bind (wpS_mono (half (hint + 1 - min r (hint + 1)) (hint - l) (by omega) (by omega) (λi hi=>?_) (λi hi hn=>anti hi hn i3) _ (λx c=>rfl)) ?_)
   ·rcases i4 with z | ⟨z1,z2⟩
    ·omega
    ·exact mono (show i<=hint - r by omega) (by omega) z2
   ·rintro ⟨c0,l2,r2⟩ st' ⟨rfl,rfl,t⟩;exact wpS_pure (h _ t)
end
end MwSortR
namespace MwSortR
open PySem PyProof.Rows
variable [o7]
def kf (p:Keyed):Int:=o7.ρ p.1
def z6 (l:List Keyed):Prop:=l.Pairwise (λx y=>kf x<=kf y)
def Y1 (l r:List Keyed):Prop:=∀ x∈l,∀ y∈r,kf x<=kf y
theorem z6.append {l r:List Keyed}(h1:z6 l)(h2:z6 r)(h:Y1 l r):z6 (l ++ r):=List.pairwise_append.mpr ⟨h1,h2,h⟩
theorem z6.sub {l r:List Keyed}(h:z6 r)(s:l.Sublist r):z6 l:=h.sublist s
structure MI (a b out:List Keyed)(ia ib:Nat):Prop where
 perm:out.Perm (a.take ia ++ b.take ib)
 rise:z6 out
 ahA:Y1 out (a.drop ia)
 ahB:Y1 out (b.drop ib)
theorem MI.moreB {a b out:List Keyed}{ia ib k:Nat}(h:MI a b out ia ib)(hb:z6 b)(hk:ib + k<=b.length)(hx:Y1 ((b.drop ib).take k) (a.drop ia)):MI a b (out ++ (b.drop ib).take k) ia (ib + k):=by
 have e:b.drop ib=(b.drop ib).take k ++ b.drop (ib + k):=by rw [← List.drop_drop,List.take_append_drop]
 have r:z6 ((b.drop ib).take k ++ b.drop (ib + k)):=by rw [← e];exact hb.sub (List.drop_sublist _ _)
 have c:=List.pairwise_append.mp r;refine ⟨?_,h.rise.append c.1 λx hx y hy=>h.ahB x hx y (List.mem_of_mem_take hy),λx hx' y hy=>?_,λx hx' y hy=>?_⟩
 ·rw [List.take_add];have:=h.perm.append_right ((b.drop ib).take k)
  rwa [List.append_assoc] at this
 ·rcases List.mem_append.mp hx' with z | z
  ·exact h.ahA x z y hy
  ·exact hx x z y hy
 ·rcases List.mem_append.mp hx' with z | z
  ·exact h.ahB x z y (by rw [e];exact List.mem_append_right _ hy)
  ·exact c.2.2 x z y hy
theorem MI.swap {a b out:List Keyed}{ia ib:Nat}(h:MI a b out ia ib):MI b a out ib ia:=⟨h.perm.trans List.perm_append_comm,h.rise,h.ahB,h.ahA⟩
theorem MI.moreA {a b out:List Keyed}{ia ib k:Nat}(h:MI a b out ia ib)(ha:z6 a)(hk:ia + k<=a.length)(hx:Y1 ((a.drop ia).take k) (b.drop ib)):MI a b (out ++ (a.drop ia).take k) (ia + k) ib:=(h.swap.moreB ha hk hx).swap
theorem MI.fin {a b out:List Keyed}(h:MI a b out a.length b.length):out.Perm (a ++ b)/\z6 out:=by
 refine ⟨?_,h.rise⟩;have:=h.perm
 rwa [List.take_length,List.take_length] at this
theorem MI.restA {a b out:List Keyed}{ia:Nat}(h:MI a b out ia b.length)(ha:z6 a)(hi:ia<=a.length):(out ++ a.drop ia).Perm (a ++ b)/\z6 (out ++ a.drop ia):=by
 have m:=h.moreA (k:=a.length - ia) ha (by omega) (by rw [List.drop_length];exact λx _ y hy=>absurd hy (by simp));have e:(a.drop ia).take (a.length - ia)=a.drop ia:=List.take_of_length_le (by rw [List.length_drop];exact Nat.le_refl _);rw [e,show ia + (a.length - ia)=a.length by omega] at m;exact m.fin
theorem MI.lastA {a b out:List Keyed}{ia ib:Nat}(h:MI a b out ia ib)(ha:z6 a)(hb:z6 b)(hi:ia<=a.length)(hj:ib<=b.length)(hx:Y1 (b.drop ib) (a.drop ia)) :
  (out ++ b.drop ib ++ a.drop ia).Perm (a ++ b)/\z6 (out ++ b.drop ib ++ a.drop ia):=by
 have e:(b.drop ib).take (b.length - ib)=b.drop ib:=List.take_of_length_le (by rw [List.length_drop];exact Nat.le_refl _);have m:=h.moreB (k:=b.length - ib) hb (by omega) (by rw [e];exact hx);rw [e,show ib + (b.length - ib)=b.length by omega] at m;exact m.restA ha hi
theorem MI.restB {a b out:List Keyed}{ib:Nat}(h:MI a b out a.length ib)(hb:z6 b)(hi:ib<=b.length):(out ++ b.drop ib).Perm (a ++ b)/\z6 (out ++ b.drop ib):=by
 have:=h.swap.restA hb hi;exact ⟨this.1.trans List.perm_append_comm,this.2⟩
theorem MI.nil {a b:List Keyed}:MI a b [] 0 0:=⟨by simp,List.Pairwise.nil,λx hx=>absurd hx (by simp),λx hx=>absurd hx (by simp)⟩
theorem MI.len {a b out:List Keyed}{ia ib:Nat}(h:MI a b out ia ib)(h1:ia<=a.length)(h2:ib<=b.length):out.length=ia + ib:=by
 have:=h.perm.length_eq;rw [List.length_append,List.length_take,List.length_take] at this
 omega
theorem a1x {l:List Keyed}{x:Keyed}{i k:Nat}(h:x∈(l.drop i).take k):∃ n,∃ _:n < l.length,i<=n/\n < i + k/\l[n]=x:=by
 obtain ⟨m,hm,e⟩:=List.mem_iff_getElem.mp h;rw [List.length_take,List.length_drop] at hm;refine ⟨i + m,by omega,by omega,by omega,?_⟩;rw [List.getElem_take,List.getElem_drop] at e;exact e
theorem a3A {l:List Keyed}{x:Keyed}{i:Nat}(h:x∈l.drop i):∃ n,∃ _:n < l.length,i<=n/\l[n]=x:=by
 obtain ⟨m,hm,e⟩:=List.mem_iff_getElem.mp h;rw [List.length_drop] at hm;refine ⟨i + m,by omega,by omega,?_⟩;rw [List.getElem_drop] at e;exact e
theorem a6s {l:List Keyed}{x:Keyed}{i:Nat}(h:x∈l.take i):∃ n,∃ _:n < l.length,n < i/\l[n]=x:=by
 obtain ⟨m,hm,e⟩:=List.mem_iff_getElem.mp h;rw [List.length_take] at hm;refine ⟨m,by omega,by omega,?_⟩;rw [List.getElem_take] at e;exact e
theorem P9 {a:Array Keyed}{n:Nat}(h:n < a.toList.length):kf a.toList[n]=K a n:=by
 unfold kf K;rw [getElem?_pos a n (by simpa using h)]
 simp
theorem P3 {a:Array Keyed}(h:z6 a.toList){i j:Nat}(hij:i<=j)(hj:j < a.size):K a i<=K a j:=by
 rcases Nat.lt_or_ge i j with z | z
 ·have:=(List.pairwise_iff_getElem.mp h) i j (by simp;omega) (by simpa using hj) z
  rwa [P9,P9] at this
 ·have:i=j:=by omega
  rw [this];exact Int.le_refl _
theorem b9B {a:Array Keyed}(h:∀ i j,i<=j->j < a.size -> K a i<=K a j):z6 a.toList:=by
 refine List.pairwise_iff_getElem.mpr λi j hi hj hij=>?_;rw [P9,P9];exact h i j (by omega) (by simpa using hj)
structure MH (a b out:List Keyed)(na nb:Nat):Prop where
 perm:out.Perm (a.drop na ++ b.drop nb)
 rise:z6 out.reverse
 ahA:Y1 (a.take na) out
 ahB:Y1 (b.take nb) out
theorem MH.swap {a b out:List Keyed}{na nb:Nat}(h:MH a b out na nb):MH b a out nb na:=⟨h.perm.trans List.perm_append_comm,h.rise,h.ahB,h.ahA⟩
theorem MH.nil {a b:List Keyed}:MH a b [] a.length b.length:=⟨by simp,List.Pairwise.nil,λx _ y hy=>absurd hy (by simp),λx _ y hy=>absurd hy (by simp)⟩
theorem a6r {l:List Keyed}{i j:Nat}(h:i<=j):l.drop i=(l.drop i).take (j - i) ++ l.drop j:=by
 have e:l.drop j=(l.drop i).drop (j - i):=by rw [List.drop_drop];congr 1;omega
 rw [e,List.take_append_drop]
theorem a7T {l:List Keyed}{i j:Nat}(h:i<=j):l.take j=l.take i ++ (l.drop i).take (j - i):=by
 have:j=i + (j - i):=by omega
 rw [this,List.take_add]
 congr 3
theorem MH.moreA {a b out:List Keyed}{na nb p:Nat}(h:MH a b out na nb)(ha:z6 a)(hp:p<=na)(hx:Y1 (b.take nb) ((a.drop p).take (na - p))):MH a b (out ++ ((a.drop p).take (na - p)).reverse) p nb:=by
 have e1:=a6r (l:=a) hp;have e2:=a7T (l:=a) hp;have r1:z6 (a.take p ++ (a.drop p).take (na - p)):=by rw [← e2];exact ha.sub (List.take_sublist _ _)
 have c:=List.pairwise_append.mp r1;have hA:Y1 ((a.drop p).take (na - p)) out:=λx hx' y hy=>h.ahA x (by rw [e2];exact List.mem_append_right _ hx') y hy;refine ⟨?_,?_,λx hx' y hy=>?_,λx hx' y hy=>?_⟩
 ·have e3:a.drop p ++ b.drop nb=(a.drop p).take (na - p) ++ (a.drop na ++ b.drop nb):=by rw [← List.append_assoc,← e1]
  rw [e3];refine (h.perm.append_right _).trans ?_;refine ((List.reverse_perm _).append_left _).trans ?_;exact List.perm_append_comm
 ·rw [List.reverse_append,List.reverse_reverse];refine z6.append c.2.1 h.rise λx hx' y hy=>hA x hx' y (List.mem_reverse.mp hy)
 ·rcases List.mem_append.mp hy with z | z
  ·exact h.ahA x (by rw [e2];exact List.mem_append_left _ hx') y z
  ·exact c.2.2 x hx' y (List.mem_reverse.mp z)
 ·rcases List.mem_append.mp hy with z | z
  ·exact h.ahB x hx' y z
  ·exact hx x hx' y (List.mem_reverse.mp z)
theorem MH.moreB {a b out:List Keyed}{na nb p:Nat}(h:MH a b out na nb)(hb:z6 b)(hp:p<=nb)(hx:Y1 (a.take na) ((b.drop p).take (nb - p))):MH a b (out ++ ((b.drop p).take (nb - p)).reverse) na p:=(h.swap.moreA hb hp hx).swap
theorem MH.fin {a b out:List Keyed}(h:MH a b out 0 0):out.reverse.Perm (a ++ b)/\z6 out.reverse:=⟨(List.reverse_perm _).trans (by simpa using h.perm),h.rise⟩
theorem MH.restB {a b out:List Keyed}{nb:Nat}(h:MH a b out 0 nb)(hb:z6 b)(hi:nb<=b.length):(b.take nb ++ out.reverse).Perm (a ++ b)/\z6 (b.take nb ++ out.reverse):=by
 have m:=h.moreB (p:=0) hb (by omega) (λx hx=>absurd hx (by simp));have:=m.fin
 simpa using this
theorem MH.restA {a b out:List Keyed}{na:Nat}(h:MH a b out na 0)(ha:z6 a)(hi:na<=a.length):(a.take na ++ out.reverse).Perm (a ++ b)/\z6 (a.take na ++ out.reverse):=by
 have m:=h.moreA (p:=0) ha (by omega) (λx hx=>absurd hx (by simp));have:=m.fin
 simpa using this
theorem MH.firstB {a b out:List Keyed}{na nb:Nat}(h:MH a b out na nb)(ha:z6 a)(hb:z6 b)(hi:na<=a.length)(hj:nb<=b.length)(hx:Y1 (b.take nb) (a.take na)) :
  (b.take nb ++ a.take na ++ out.reverse).Perm (a ++ b)/\z6 (b.take nb ++ a.take na ++ out.reverse):=by
 have m:=h.moreA (p:=0) ha (by omega) (by simpa using hx);have:=m.restB hb hj
 simpa using this
end MwSortR
namespace MwSortR
open PySem PyProof.Rows
variable [o7]
def a1A:Array Keyed->Array Keyed->StateT SortSt Sem (Array Keyed):=sortPriv% PySem.Builtin.mergeLo
def a3G:Nat->StateT SortSt Sem Unit:=sortPriv% PySem.Builtin.setMinGallop
theorem b6r (g:Nat):a3G g=modify λz=>SortSt.mk' (kindOf z) (arrOf z) (pendingOf z) g (failedOf z):=rfl
abbrev LoR:=Option (Array Keyed) × Array Keyed × Nat × Nat × Nat × Nat
abbrev LoG:=Option (Array Keyed) × Array Keyed × Nat × Nat × Nat × Nat × Nat
abbrev LoO:=Option (Array Keyed) × Array Keyed × Nat × Nat × Nat
def X9 (a b out:Array Keyed)(ia ib:Nat):Array Keyed:=out ++ a.extract ia a.size ++ b.extract ib b.size
def a8H (a b out:Array Keyed)(ia ib:Nat):Array Keyed:=out ++ b.extract ib b.size ++ a.extract ia a.size
def loR (a b:Array Keyed)(mg:Nat)(out:Array Keyed)(ia ib ac bc:Nat):StateT SortSt Sem (ForInStep LoR):=do
 let p ← elem' b ib
 let q ← elem' a ia
 let r ← lt' p q
 match r with
 | some t =>
  if t=true then do
   let z ← elem' b ib
   if (ib + 1 == b.size)=true then pure (.done (some (X9 a b (out.push z) ia (ib + 1)),out.push z,ia,ib + 1,0,bc + 1))
   else if bc + 1 ≥ mg then pure (.done (none,out.push z,ia,ib + 1,0,bc + 1))
   else pure (.yield (none,out.push z,ia,ib + 1,0,bc + 1))
  else do
   let z ← elem' a ia
   if (ia + 1 + 1 == a.size)=true then pure (.done (some (a8H a b (out.push z) (ia + 1) ib),out.push z,ia + 1,ib,ac + 1,0))
   else if ac + 1 ≥ mg then pure (.done (none,out.push z,ia + 1,ib,ac + 1,0))
   else pure (.yield (none,out.push z,ia + 1,ib,ac + 1,0))
 | _=>pure (.done (some (X9 a b out ia ib),out,ia,ib,ac,bc))
def b4E (a b:Array Keyed)(out:Array Keyed)(ia ib mg ac bc:Nat):StateT SortSt Sem (ForInStep LoG):=do
 let z ← elem' a ia
 if (ia + 1 + 1 == a.size)=true then pure (.done (some (a8H a b (out.push z) (ia + 1) ib),out.push z,ia + 1,ib,mg,ac,bc))
 else if (decide (ac < 7) && decide (bc < 7))=true then pure (.done (none,out.push z,ia + 1,ib,mg,ac,bc))
 else pure (.yield (none,out.push z,ia + 1,ib,mg,ac,bc))
def b5E (a b:Array Keyed)(out:Array Keyed)(ia ib mg ac bc:Nat):StateT SortSt Sem (ForInStep LoG):=do
 let z ← elem' b ib
 if (ib + 1 == b.size)=true then pure (.done (some (X9 a b (out.push z) ia (ib + 1)),out.push z,ia,ib + 1,mg,ac,bc))
 else do
  let y ← elem' a ia
  let r ← T0 true y b (ib + 1) (b.size - (ib + 1)) 0
  match r with
  | some k =>
   if k > 0 then
    if (ib + 1 + k == b.size)=true then pure (.done (some (X9 a b (out.push z ++ b.extract (ib + 1) (ib + 1 + k)) ia (ib + 1 + k)),out.push z ++ b.extract (ib + 1) (ib + 1 + k),ia,ib + 1 + k,mg,ac,k))
    else b4E a b (out.push z ++ b.extract (ib + 1) (ib + 1 + k)) ia (ib + 1 + k) mg ac k
   else b4E a b (out.push z) ia (ib + 1) mg ac k
  | _=>pure (.done (some (X9 a b (out.push z) ia (ib + 1)),out.push z,ia,ib + 1,mg,ac,bc))
def b6E (a b:Array Keyed)(out:Array Keyed)(ia ib mg ac bc:Nat):StateT SortSt Sem (ForInStep LoG):=do
 a3G mg
 let y ← elem' b ib
 let r ← T0 false y a ia (a.size - ia) 0
 match r with
 | some k =>
  if k > 0 then
   if (ia + k + 1 == a.size)=true then pure (.done (some (a8H a b (out ++ a.extract ia (ia + k)) (ia + k) ib),out ++ a.extract ia (ia + k),ia + k,ib,mg,k,bc))
   else if (ia + k == a.size)=true then pure (.done (some (X9 a b (out ++ a.extract ia (ia + k)) (ia + k) ib),out ++ a.extract ia (ia + k),ia + k,ib,mg,k,bc))
   else b5E a b (out ++ a.extract ia (ia + k)) (ia + k) ib mg k bc
  else b5E a b out ia ib mg k bc
 | _=>pure (.done (some (X9 a b out ia ib),out,ia,ib,mg,ac,bc))
def loG (a b:Array Keyed)(out:Array Keyed)(ia ib mg ac bc:Nat):StateT SortSt Sem (ForInStep LoG) :=
 if mg > 1 then b6E a b out ia ib (mg - 1) ac bc else b6E a b out ia ib mg ac bc
def loO (a b:Array Keyed)(out:Array Keyed)(ia ib mg:Nat):StateT SortSt Sem (ForInStep LoO):=do
 let c ← forIn [:a.size + b.size] ((none,out,ia,ib,0,0):LoR) λ_ c=>loR a b mg c.2.1 c.2.2.1 c.2.2.2.1 c.2.2.2.2.1 c.2.2.2.2.2
 match c.1 with
 | some r=>pure (.done (some r,c.2.1,c.2.2.1,c.2.2.2.1,mg))
 | none=>do
  liftM (rule "list.sort.gallop")
  let d ← forIn [:a.size + b.size] ((none,c.2.1,c.2.2.1,c.2.2.2.1,mg + 1,c.2.2.2.2.1,c.2.2.2.2.2):LoG) λ_ d=>loG a b d.2.1 d.2.2.1 d.2.2.2.1 d.2.2.2.2.1 d.2.2.2.2.2.1 d.2.2.2.2.2.2
  match d.1 with
  | some r=>pure (.done (some r,d.2.1,d.2.2.1,d.2.2.2.1,d.2.2.2.2.1))
  | none=>do
   a3G (d.2.2.2.2.1 + 1)
   pure (.yield (none,d.2.1,d.2.2.1,d.2.2.2.1,d.2.2.2.2.1 + 1))
theorem bindC {α β:Type}{x y:StateT SortSt Sem α}{f g:α->StateT SortSt Sem β}(h1:x=y)(h2:∀ c,f c=g c):(x >>= f)=(y >>= g):=by rw [h1,funext h2]
theorem b5U {β:Type}{r:Std.Legacy.Range}{i:β}{f g:Nat->β->StateT SortSt Sem (ForInStep β)}(h:∀ x c,f x c=g x c):forIn r i f=forIn r i g:=by rw [funext λx=>funext λc=>h x c]
theorem a9S (a b:Array Keyed):a1A a b=(do
  liftM (rule "list.sort.merge-lo")
  let z ← elem' b 0
  if (1 == b.size)=true then pure (X9 a b #[z] 0 1)
  else if (0 + 1 == a.size)=true then pure (a8H a b #[z] 0 1)
  else do
   let g ← get
   let c ← forIn [:a.size + b.size] ((none,#[z],0,1,gallopOf g):LoO) λ_ c=>loO a b c.2.1 c.2.2.1 c.2.2.2.1 c.2.2.2.2
   match c.1 with
   | some r=>pure r
   | none=>liftM (unsupported "internal:list.sort.merge-bound" : Sem (Array Keyed))):=by
 refine bindC rfl λu=>bindC rfl λz=>ite_congr rfl (λ_=>rfl) λ_=>ite_congr rfl (λ_=>rfl) λ_=>bindC rfl λg=>bindC (b5U λx c=>bindC rfl λd=>?_) λc=>?_
 ·obtain ⟨d1,d2⟩:=d;cases d1 with
  | some r=>rfl
  | none =>
   refine bindC rfl λv=>bindC rfl λd=>?_;obtain ⟨d1,d2⟩:=d;cases d1 with
   | some r=>rfl
   | none=>rfl
 ·obtain ⟨c1,c2⟩:=c;cases c1 with
  | some r=>rfl
  | none=>rfl
structure Two (a b:Array Keyed):Prop where
 ia:B3 a
 ib:B3 b
 ra:z6 a.toList
 rb:z6 b.toList
 na:1<=a.size
 nb:1<=b.size
 h0:K b 0 < K a 0
 hl:K b (b.size - 1) < K a (a.size - 1)
def F8 (st st':SortSt):Prop:=kindOf st'=kindOf st/\arrOf st'=arrOf st/\pendingOf st'=pendingOf st/\failedOf st'=failedOf st
theorem F8.rfl {st:SortSt}:F8 st st:=⟨_root_.rfl,_root_.rfl,_root_.rfl,_root_.rfl⟩
theorem F8.kind {st st':SortSt}(h:F8 st st')(k:kindOf st=o7.κ):kindOf st'=o7.κ:=h.1.trans k
def z7 (a b r:Array Keyed):Prop:=r.toList.Perm (a.toList ++ b.toList)/\z6 r.toList
abbrev MA (a b out:Array Keyed)(ia ib:Nat):Prop:=MI a.toList b.toList out.toList ia ib
theorem Two.last {a b:Array Keyed}(T:Two a b){j:Nat}(hj:j < b.size):K b j < K a (a.size - 1):=Int.lt_of_le_of_lt (P3 T.rb (show j<=b.size - 1 by omega) (by omega)) T.hl
theorem Two.first {a b:Array Keyed}(T:Two a b){i:Nat}(hi:i < a.size):K b 0 < K a i:=Int.lt_of_lt_of_le T.h0 (P3 T.ra (Nat.zero_le i) hi)
theorem MA.addA {a b out:Array Keyed}{ia ib k:Nat}(h:MA a b out ia ib)(ra:z6 a.toList)(hk:ia + k<=a.size)(hx:∀ i j,ia<=i->i < ia + k->ib<=j->j < b.size -> K a i<=K b j):MA a b (out ++ a.extract ia (ia + k)) (ia + k) ib:=by
 have:=MI.moreA (k:=k) h ra (by simpa using hk) (λx hx' y hy=>by
  obtain ⟨n,hn,n1,n2,rfl⟩:=a1x hx';obtain ⟨m,hm,m1,rfl⟩:=a3A hy;rw [P9,P9];exact hx n m n1 n2 m1 (by simpa using hm))
 show MI _ _ _ _ _
 rw [Array.toList_append,Array.toList_extract,List.extract_eq_take_drop,Nat.add_sub_cancel_left];exact this
theorem MA.swap {a b out:Array Keyed}{ia ib:Nat}(h:MA a b out ia ib):MA b a out ib ia:=MI.swap h
theorem MA.addB {a b out:Array Keyed}{ia ib k:Nat}(h:MA a b out ia ib)(rb:z6 b.toList)(hk:ib + k<=b.size)(hx:∀ i j,ib<=i->i < ib + k->ia<=j->j < a.size -> K b i<=K a j):MA a b (out ++ b.extract ib (ib + k)) ia (ib + k):=(h.swap.addA rb hk hx).swap
theorem a3R {a out:Array Keyed}{i:Nat}{z:Keyed}(h:a[i]? = some z):out.push z=out ++ a.extract i (i + 1):=by
 obtain ⟨hi,rfl⟩:=Array.getElem?_eq_some_iff.mp h;apply Array.ext'
 simp [List.extract_eq_take_drop,List.take_one,List.head?_drop,hi]
theorem MA.pushA {a b out:Array Keyed}{ia ib:Nat}{z:Keyed}(h:MA a b out ia ib)(ra:z6 a.toList)(hz:a[ia]? = some z)(hx:∀ j,ib<=j->j < b.size -> K a ia<=K b j):MA a b (out.push z) (ia + 1) ib:=by
 rw [a3R hz];obtain ⟨hi,_⟩:=Array.getElem?_eq_some_iff.mp hz;exact h.addA ra (by omega) λi j h1 h2 h3 h4=>by
  have:i=ia:=by omega
  rw [this];exact hx j h3 h4
theorem MA.pushB {a b out:Array Keyed}{ia ib:Nat}{z:Keyed}(h:MA a b out ia ib)(rb:z6 b.toList)(hz:b[ib]? = some z)(hx:∀ j,ia<=j->j < a.size -> K b ib<=K a j):MA a b (out.push z) ia (ib + 1):=(h.swap.pushA rb hz hx).swap
theorem MA.size {a b out:Array Keyed}{ia ib:Nat}(h:MA a b out ia ib)(h1:ia<=a.size)(h2:ib<=b.size):out.size=ia + ib:=by
 have:=MI.len h (by simpa using h1) (by simpa using h2)
 simpa using this
theorem V2 (a:Array Keyed)(i:Nat):(a.extract i a.size).toList=a.toList.drop i:=by
 rw [Array.toList_extract,List.extract_eq_take_drop];exact List.take_of_length_le (by simp)
theorem MA.doneB {a b out:Array Keyed}{ia ib:Nat}(T:Two a b)(h:MA a b out ia ib)(e:ib=b.size)(hi:ia<=a.size):z7 a b (X9 a b out ia ib):=by
 subst e;unfold z7 X9;have e2:(b.extract b.size b.size).toList=[]:=by rw [V2];simp
 rw [Array.toList_append,Array.toList_append,V2,e2,List.append_nil];exact MI.restA (by simpa using h) T.ra (by simpa using hi)
theorem MA.doneA {a b out:Array Keyed}{ia ib:Nat}(T:Two a b)(h:MA a b out ia ib)(e:ia=a.size)(hi:ib<=b.size):z7 a b (X9 a b out ia ib):=by
 subst e;unfold z7 X9;have e2:(a.extract a.size a.size).toList=[]:=by rw [V2];simp
 rw [Array.toList_append,Array.toList_append,V2 b,e2,List.append_nil];exact MI.restB (by simpa using h) T.rb (by simpa using hi)
theorem MA.last {a b out:Array Keyed}{ia ib:Nat}(T:Two a b)(h:MA a b out ia ib)(e:ia + 1=a.size)(hi:ib<=b.size):z7 a b (a8H a b out ia ib):=by
 unfold z7 a8H;rw [Array.toList_append,Array.toList_append,V2,V2];refine MI.lastA h T.ra T.rb (by simp;omega) (by simpa using hi) λx hx y hy=>?_;obtain ⟨n,hn,n1,rfl⟩:=a3A hx;obtain ⟨m,hm,m1,rfl⟩:=a3A hy;rw [P9,P9];have hm':m < a.size:=by simpa using hm
 have:m=a.size - 1:=by omega
 rw [this];exact Int.le_of_lt (T.last (by simpa using hn))
section
variable {prog:Program}{w:World}{A:Around}{E:Value->Shared->Prop}{s:Shared}[a3r prog w A s]
theorem A9 {arr:Array Keyed}(hI:B3 arr){i:Nat}(h:i < arr.size):∃ p,arr[i]? = some p/\∃ t:Tok,IsK p.1 (K arr i):=by
 obtain ⟨p,t,e,k⟩:=a4O hI h;exact ⟨p,e,t,k⟩
theorem a4n {st₀ st:SortSt}{g:Nat}{Q:Unit->SortSt->Prop}(hS:F8 st₀ st)(h:∀ st',F8 st₀ st'->Q () st'):wpS (model prog w) A E s (a3G g) Q st:=by
 rw [b6r];exact wpS_modify (h _ ⟨hS.1,hS.2.1,hS.2.2.1,hS.2.2.2⟩)
theorem Y8 {kk:Int}{arr:Array Keyed}{b n k:Nat}(h:b6h (Fwd false kk arr b) n k):k<=n/\(∀ i,i < k->K arr (b + i)<=kk)/\∀ i,k<=i->i < n->kk < K arr (b + i):=by
 refine ⟨h.1,λi hi=>?_,λi hi hn=>?_⟩
 ·have:=h.2.1 i hi
  simp [Fwd] at this
  exact this
 ·have:=h.2.2 i hi hn
  simp [Fwd] at this
  exact this
theorem a3l {kk:Int}{arr:Array Keyed}{b n k:Nat}(h:b6h (Fwd true kk arr b) n k):k<=n/\(∀ i,i < k->K arr (b + i) < kk)/\∀ i,k<=i->i < n->kk<=K arr (b + i):=by
 refine ⟨h.1,λi hi=>?_,λi hi hn=>?_⟩
 ·have:=h.2.1 i hi
  simp [Fwd] at this
  exact this
 ·have:=h.2.2 i hi hn
  simp [Fwd] at this
  exact this
def OkR (a b:Array Keyed)(n:Nat)(st₀:SortSt)(c:LoR)(st:SortSt):Prop:=F8 st₀ st/\((∃ r,c.1=some r/\z7 a b r) \/ (c.1=none/\MA a b c.2.1 c.2.2.1 c.2.2.2.1 /\ c.2.2.1 + 1 < a.size /\ c.2.2.2.1 < b.size /\ n<=c.2.2.1 + c.2.2.2.1))
def OkG (a b:Array Keyed)(n:Nat)(st₀:SortSt)(c:LoG)(st:SortSt):Prop:=F8 st₀ st/\((∃ r,c.1=some r/\z7 a b r) \/ (c.1=none/\MA a b c.2.1 c.2.2.1 c.2.2.2.1 /\ c.2.2.1 + 1 < a.size /\ c.2.2.2.1 < b.size /\ n<=c.2.2.1 + c.2.2.2.1))
theorem b0N {st₀ st:SortSt}{a b out:Array Keyed}{mg ia ib ac bc n:Nat}(T:Two a b)(hk:kindOf st₀=o7.κ)(hS:F8 st₀ st)(hM:MA a b out ia ib)(hA:ia + 1 < a.size)(hB:ib < b.size)(hn:n<=ia + ib) :
  wpS (model prog w) A E s (loR a b mg out ia ib ac bc) (λr st'=>match r with | .done c=>OkR a b (n + 1) st₀ c st' | .yield c=>c.1=none/\OkR a b (n + 1) st₀ c st') st:=by
 obtain ⟨p,ep,t,hp⟩:=A9 T.ib hB;obtain ⟨q,eq,u,hq⟩:=A9 T.ia (show ia < a.size by omega);unfold loR;refine wpS_bind (o5 ep (wpS_bind (o5 eq (wpS_bind (a6n (hS.kind hk) hp hq ?_)))));dsimp only
 by_cases hlt:K b ib < K a ia
 ·rw [if_pos (by simpa using hlt)];refine wpS_bind (o5 ep ?_);have M:MA a b (out.push p) ia (ib + 1):=hM.pushB T.rb ep λj h1 h2=>Int.le_of_lt (Int.lt_of_lt_of_le hlt (P3 T.ra h1 h2))
  by_cases e:ib + 1=b.size
  ·rw [if_pos (by simpa using e)];exact wpS_pure ⟨hS,.inl ⟨_,rfl,M.doneB T e (by omega)⟩⟩
  ·rw [if_neg (by simpa using e)];have R:OkR a b (n + 1) st₀ (none,out.push p,ia,ib + 1,0,bc + 1) st:=⟨hS,.inr ⟨rfl,M,hA,by dsimp only;omega,by dsimp only;omega⟩⟩
   by_cases g:bc + 1 ≥ mg
   ·rw [if_pos g];exact wpS_pure R
   ·rw [if_neg g];exact wpS_pure ⟨rfl,R⟩
 ·rw [if_neg (by simpa using hlt)];refine wpS_bind (o5 eq ?_);have M:MA a b (out.push q) (ia + 1) ib:=hM.pushA T.ra eq λj h1 h2=>Int.le_trans (Int.not_lt.mp hlt) (P3 T.rb h1 h2)
  by_cases e:ia + 1 + 1=a.size
  ·rw [if_pos (by simpa using e)];exact wpS_pure ⟨hS,.inl ⟨_,rfl,M.last T e (by omega)⟩⟩
  ·rw [if_neg (by simpa using e)];have R:OkR a b (n + 1) st₀ (none,out.push q,ia + 1,ib,ac + 1,0) st:=⟨hS,.inr ⟨rfl,M,by dsimp only;omega,hB,by dsimp only;omega⟩⟩
   by_cases g:ac + 1 ≥ mg
   ·rw [if_pos g];exact wpS_pure R
   ·rw [if_neg g];exact wpS_pure ⟨rfl,R⟩
abbrev PG (a b:Array Keyed)(n:Nat)(st₀:SortSt)(r:ForInStep LoG)(st':SortSt):Prop:=match r with | .done c=>OkG a b n st₀ c st' | .yield c=>c.1=none/\OkG a b n st₀ c st'
theorem b2f {st₀ st:SortSt}{a b out:Array Keyed}{mg ia ib ac bc n:Nat}(T:Two a b)(hS:F8 st₀ st)(hM:MA a b out ia ib)(hA:ia + 1 < a.size)(hB:ib < b.size)(hn:n<=ia + ib)(hx:∀ j,ib<=j->j < b.size -> K a ia<=K b j) :
  wpS (model prog w) A E s (b4E a b out ia ib mg ac bc) (PG a b n st₀) st:=by
 obtain ⟨q,eq,u,hq⟩:=A9 T.ia (show ia < a.size by omega);unfold b4E;refine wpS_bind (o5 eq ?_);have M:MA a b (out.push q) (ia + 1) ib:=hM.pushA T.ra eq hx
 by_cases e:ia + 1 + 1=a.size
 ·rw [if_pos (by simpa using e)];exact wpS_pure ⟨hS,.inl ⟨_,rfl,M.last T e (by omega)⟩⟩
 ·rw [if_neg (by simpa using e)];have R:OkG a b n st₀ (none,out.push q,ia + 1,ib,mg,ac,bc) st:=⟨hS,.inr ⟨rfl,M,by dsimp only;omega,hB,by dsimp only;omega⟩⟩
  by_cases g:(decide (ac < 7) && decide (bc < 7))=true
  ·rw [if_pos g];exact wpS_pure R
  ·rw [if_neg g];exact wpS_pure ⟨rfl,R⟩
theorem b3f {st₀ st:SortSt}{a b out:Array Keyed}{mg ia ib ac bc n:Nat}(T:Two a b)(hk:kindOf st₀=o7.κ)(hS:F8 st₀ st)(hM:MA a b out ia ib)(hA:ia + 1 < a.size)(hB:ib < b.size)(hn:n<=ia + ib)(hx:∀ j,ia<=j->j < a.size -> K b ib<=K a j) :
  wpS (model prog w) A E s (b5E a b out ia ib mg ac bc) (PG a b n st₀) st:=by
 obtain ⟨p,ep,t,hp⟩:=A9 T.ib hB;obtain ⟨q,eq,u,hq⟩:=A9 T.ia (show ia < a.size by omega);unfold b5E;refine wpS_bind (o5 ep ?_);have M:MA a b (out.push p) ia (ib + 1):=hM.pushB T.rb ep hx
 by_cases e:ib + 1=b.size
 ·rw [if_pos (by simpa using e)];exact wpS_pure ⟨hS,.inl ⟨_,rfl,M.doneB T e (by omega)⟩⟩
 ·rw [if_neg (by simpa using e)];refine wpS_bind (o5 eq (wpS_bind (J9 (hS.kind hk) hq T.ib (by omega) (by omega) (λi j h1 h2=>P3 T.rb (by omega) (by omega)) λk hT=>?_)));obtain ⟨k1,k2,k3⟩:=a3l hT;dsimp only
  by_cases hk0:k > 0
  ·rw [if_pos hk0];have M2:=M.addB (k:=k) T.rb (by omega) λi j h1 h2 h3 h4=>Int.le_of_lt (Int.lt_of_lt_of_le (by
    have:=k2 (i - (ib + 1)) (by omega)
    rwa [show ib + 1 + (i - (ib + 1))=i by omega] at this) (P3 T.ra h3 h4))
   by_cases e2:ib + 1 + k=b.size
   ·rw [if_pos (by simpa using e2)];exact wpS_pure ⟨hS,.inl ⟨_,rfl,M2.doneB T e2 (by omega)⟩⟩
   ·rw [if_neg (by simpa using e2)];exact b2f T hS M2 hA (by omega) (by omega) λj h1 h2=>by
     have:=k3 (j - (ib + 1)) (by omega) (by omega)
     rwa [show ib + 1 + (j - (ib + 1))=j by omega] at this
  ·rw [if_neg hk0];exact b2f T hS M hA (by omega) (by omega) λj h1 h2=>by
    have:=k3 (j - (ib + 1)) (by omega) (by omega)
    rwa [show ib + 1 + (j - (ib + 1))=j by omega] at this
theorem b4f {st₀ st:SortSt}{a b out:Array Keyed}{mg ia ib ac bc n:Nat}(T:Two a b)(hk:kindOf st₀=o7.κ)(hS:F8 st₀ st)(hM:MA a b out ia ib)(hA:ia + 1 < a.size)(hB:ib < b.size)(hn:n<=ia + ib) :
  wpS (model prog w) A E s (b6E a b out ia ib mg ac bc) (PG a b n st₀) st:=by
 obtain ⟨p,ep,t,hp⟩:=A9 T.ib hB;unfold b6E;refine wpS_bind (a4n hS λst' hS'=>wpS_bind (o5 ep (wpS_bind (J9 (hS'.kind hk) hp T.ia (by omega) (by omega) (λi j h1 h2=>P3 T.ra (by omega) (by omega)) λk hT=>?_))));obtain ⟨k1,k2,k3⟩:=Y8 hT;dsimp only
 by_cases hk0:k > 0
 ·rw [if_pos hk0];have M2:=hM.addA (k:=k) T.ra (by omega) λi j h1 h2 h3 h4=>Int.le_trans (by
   have:=k2 (i - ia) (by omega)
   rwa [show ia + (i - ia)=i by omega] at this) (P3 T.rb h3 h4)
  by_cases e:ia + k + 1=a.size
  ·rw [if_pos (by simpa using e)];exact wpS_pure ⟨hS',.inl ⟨_,rfl,M2.last T e (by omega)⟩⟩
  ·rw [if_neg (by simpa using e)]
   by_cases e2:ia + k=a.size
   ·rw [if_pos (by simpa using e2)];exact wpS_pure ⟨hS',.inl ⟨_,rfl,M2.doneA T e2 (by omega)⟩⟩
   ·rw [if_neg (by simpa using e2)];exact b3f T hk hS' M2 (by omega) hB (by omega) λj h1 h2=>by
     have:=k3 (j - ia) (by omega) (by omega);rw [show ia + (j - ia)=j by omega] at this;exact Int.le_of_lt this
 ·rw [if_neg hk0];exact b3f T hk hS' hM hA hB hn λj h1 h2=>by
   have:=k3 (j - ia) (by omega) (by omega);rw [show ia + (j - ia)=j by omega] at this;exact Int.le_of_lt this
theorem b2N {st₀ st:SortSt}{a b out:Array Keyed}{mg ia ib ac bc n:Nat}(T:Two a b)(hk:kindOf st₀=o7.κ)(hS:F8 st₀ st)(hM:MA a b out ia ib)(hA:ia + 1 < a.size)(hB:ib < b.size)(hn:n<=ia + ib) :
  wpS (model prog w) A E s (loG a b out ia ib mg ac bc) (PG a b n st₀) st:=by
 unfold loG
 by_cases h:mg > 1
 ·rw [if_pos h];exact b4f T hk hS hM hA hB hn
 ·rw [if_neg h];exact b4f T hk hS hM hA hB hn
def OkO (a b:Array Keyed)(n:Nat)(st₀:SortSt)(c:LoO)(st:SortSt):Prop:=F8 st₀ st/\((∃ r,c.1=some r/\z7 a b r) \/ (c.1=none/\MA a b c.2.1 c.2.2.1 c.2.2.2.1 /\ c.2.2.1 + 1 < a.size /\ c.2.2.2.1 < b.size /\ n<=c.2.2.1 + c.2.2.2.1))
theorem b1N {st₀ st:SortSt}{a b out:Array Keyed}{mg ia ib n:Nat}(T:Two a b)(hk:kindOf st₀=o7.κ)(hS:F8 st₀ st)(hM:MA a b out ia ib)(hA:ia + 1 < a.size)(hB:ib < b.size)(hn:n<=ia + ib) :
  wpS (model prog w) A E s (loO a b out ia ib mg) (λr st'=>match r with | .done c=>OkO a b (n + 1) st₀ c st'/\c.1 ≠ none | .yield c=>c.1=none/\OkO a b (n + 1) st₀ c st') st:=by
 unfold loO;refine wpS_bind (wpS_mono (wpS_forRange (I:=λx c st'=>c.1=none/\OkR a b (n + x) st₀ c st') (Q:=λc st'=>OkR a b (n + 1) st₀ c st') ?_ ?_ ⟨rfl,hS,.inr ⟨rfl,hM,hA,hB,by dsimp only;omega⟩⟩) ?_)
 ·rintro x ⟨c0,o,i,j,ac,bc⟩ st' _ hx ⟨e,hS',z⟩
  rcases z with ⟨r,e',_⟩ | ⟨_,m,h1,h2,h3⟩
  ·rw [e'] at e;cases e
  ·refine wpS_mono (b0N T hk hS' m h1 h2 h3) λr st2 hr=>?_;have le:∀ c,OkR a b (n + x + 1) st₀ c st2->OkR a b (n + 1) st₀ c st2:=λc hc=>⟨hc.1,hc.2.imp id λ⟨q1,q2,q3,q4,q5⟩=>⟨q1,q2,q3,q4,by omega⟩⟩;cases r with
   | done c=>exact le c hr
   | yield c=>exact hr
 ·rintro c st' ⟨e,hc⟩;exact ⟨hc.1,hc.2.imp id λ⟨q1,q2,q3,q4,q5⟩=>⟨q1,q2,q3,q4,by omega⟩⟩
 ·rintro ⟨c0,o,i,j,ac,bc⟩ st' ⟨hS',z⟩
  rcases z with ⟨r,e,hr⟩ | ⟨e,m,h1,h2,h3⟩
  ·dsimp only at e;subst e;exact wpS_pure ⟨⟨hS',.inl ⟨r,rfl,hr⟩⟩,by simp⟩
  ·dsimp only at e;subst e;dsimp only;refine wpS_bind (wpS_lift (wpAny_rule ⟨rfl,?_⟩));refine wpS_bind (wpS_mono (wpS_forRange (I:=λx c st'=>c.1=none/\OkG a b (n + 1) st₀ c st') (Q:=λc st'=>OkG a b (n + 1) st₀ c st') ?_ ?_ ⟨rfl,hS',.inr ⟨rfl,m,h1,h2,h3⟩⟩) ?_)
   ·rintro x ⟨c0,o,i,j,mg,ac,bc⟩ st' _ hx ⟨e,hS',z⟩
    rcases z with ⟨r,e',_⟩ | ⟨_,m,h1,h2,h3⟩
    ·rw [e'] at e;cases e
    ·refine wpS_mono (b2N T hk hS' m h1 h2 h3) λr st2 hr=>?_;cases r with
     | done c=>exact hr
     | yield c=>exact hr
   ·exact λc st' hc=>hc.2
   ·rintro ⟨c0,o,i,j,mg,ac,bc⟩ st' ⟨hS',z⟩
    rcases z with ⟨r,e,hr⟩ | ⟨e,m,h1,h2,h3⟩
    ·dsimp only at e;subst e;exact wpS_pure ⟨⟨hS',.inl ⟨r,rfl,hr⟩⟩,by simp⟩
    ·dsimp only at e;subst e;dsimp only;exact wpS_bind (a4n hS' λst2 hS2=>wpS_pure ⟨rfl,hS2,.inr ⟨rfl,m,h1,h2,h3⟩⟩)
theorem a9O {st:SortSt}{a b:Array Keyed}{Q:Array Keyed->SortSt->Prop}(T:Two a b)(hk:kindOf st=o7.κ)(h:∀ r st',F8 st st'->z7 a b r->Q r st'):wpS (model prog w) A E s (a1A a b) Q st:=by
 rw [a9S];obtain ⟨p,ep,t,hp⟩:=A9 T.ib (show 0 < b.size by have:=T.nb;omega);have hna:=T.na;have hnb:=T.nb;refine wpS_bind (wpS_lift (wpAny_rule ⟨rfl,wpS_bind (o5 ep ?_)⟩));have M:MA a b #[p] 0 1:=(show MA a b #[] 0 0 from MI.nil).pushB T.rb ep λj _ hj=>Int.le_of_lt (T.first hj)
 by_cases e1:1=b.size
 ·rw [if_pos (by simpa using e1)];exact wpS_pure (h _ _ F8.rfl (M.doneB T e1 (by omega)))
 ·rw [if_neg (by simpa using e1)]
  by_cases e2:0 + 1=a.size
  ·rw [if_pos (by simpa using e2)];exact wpS_pure (h _ _ F8.rfl (M.last T e2 (by omega)))
  ·rw [if_neg (by simpa using e2)];refine wpS_bind (wpS_get ?_);refine wpS_bind (wpS_mono (wpS_forRange (I:=λx c st'=>c.1=none/\OkO a b (x + 1) st c st') (Q:=λc st'=>OkO a b 0 st c st'/\c.1 ≠ none) ?_ ?_ ⟨rfl,F8.rfl,.inr ⟨rfl,M,by dsimp only;omega,by dsimp only;omega,by dsimp only;omega⟩⟩) ?_)
   ·rintro x ⟨c0,o,i,j,mg⟩ st' _ hx ⟨e,hS',z⟩
    rcases z with ⟨r,e',_⟩ | ⟨_,m,h1,h2,h3⟩
    ·rw [e'] at e;cases e
    ·refine wpS_mono (b1N T hk hS' m h1 h2 h3) λr st2 hr=>?_;cases r with
     | done c=>exact ⟨⟨hr.1.1,hr.1.2.imp id λ⟨q1,q2,q3,q4,q5⟩=>⟨q1,q2,q3,q4,by omega⟩⟩,hr.2⟩
     | yield c=>exact hr
   ·rintro ⟨c0,o,i,j,mg⟩ st' ⟨e,hS',z⟩
    rcases z with ⟨r,e',_⟩ | ⟨_,m,h1,h2,h3⟩
    ·rw [e'] at e;cases e
    ·dsimp only at h1 h2 h3
     exfalso;omega
   ·rintro ⟨c0,o,i,j,mg⟩ st' ⟨⟨hS',z⟩,hne⟩
    rcases z with ⟨r,e,hr⟩ | ⟨e,_⟩
    ·dsimp only at e;subst e;exact wpS_pure (h _ _ hS' hr)
    ·exact absurd e hne
end
end MwSortR
namespace MwSortR
open PySem PyProof.Rows
variable [o7]
def a2A:Array Keyed->Array Keyed->StateT SortSt Sem (Array Keyed):=sortPriv% PySem.Builtin.mergeHi
abbrev HiR:=Option (Array Keyed) × Nat × Nat × Array Keyed × Nat × Nat
abbrev HiG:=Option (Array Keyed) × Nat × Nat × Array Keyed × Nat × Nat × Nat
abbrev HiO:=Option (Array Keyed) × Nat × Nat × Array Keyed × Nat
def X8 (a b out:Array Keyed)(na nb:Nat):Array Keyed:=a.extract 0 na ++ b.extract 0 nb ++ out.reverse
def a9s (a b out:Array Keyed)(na nb:Nat):Array Keyed:=b.extract 0 nb ++ a.extract 0 na ++ out.reverse
def hiR (a b:Array Keyed)(mg:Nat)(out:Array Keyed)(na nb ac bc:Nat):StateT SortSt Sem (ForInStep HiR):=do
 let p ← elem' b (nb - 1)
 let q ← elem' a (na - 1)
 let r ← lt' p q
 match r with
 | some t =>
  if t=true then do
   let z ← elem' a (na - 1)
   if (na - 1 == 0)=true then pure (.done (some (X8 a b (out.push z) (na - 1) nb),na - 1,nb,out.push z,ac + 1,0))
   else if ac + 1 ≥ mg then pure (.done (none,na - 1,nb,out.push z,ac + 1,0))
   else pure (.yield (none,na - 1,nb,out.push z,ac + 1,0))
  else do
   let z ← elem' b (nb - 1)
   if (nb - 1 == 1)=true then pure (.done (some (a9s a b (out.push z) na (nb - 1)),na,nb - 1,out.push z,0,bc + 1))
   else if bc + 1 ≥ mg then pure (.done (none,na,nb - 1,out.push z,0,bc + 1))
   else pure (.yield (none,na,nb - 1,out.push z,0,bc + 1))
 | _=>pure (.done (some (X8 a b out na nb),na,nb,out,ac,bc))
def b6F (a b:Array Keyed)(out:Array Keyed)(na nb mg ac bc:Nat):StateT SortSt Sem (ForInStep HiG):=do
 let z ← elem' a (na - 1)
 if (na - 1 == 0)=true then pure (.done (some (X8 a b (out.push z) (na - 1) nb),na - 1,nb,out.push z,mg,ac,bc))
 else if (decide (ac < 7) && decide (bc < 7))=true then pure (.done (none,na - 1,nb,out.push z,mg,ac,bc))
 else pure (.yield (none,na - 1,nb,out.push z,mg,ac,bc))
def b7F (a b:Array Keyed)(out:Array Keyed)(na nb mg ac bc:Nat):StateT SortSt Sem (ForInStep HiG):=do
 let z ← elem' b (nb - 1)
 if (nb - 1 == 1)=true then pure (.done (some (a9s a b (out.push z) na (nb - 1)),na,nb - 1,out.push z,mg,ac,bc))
 else do
  let y ← elem' a (na - 1)
  let r ← T0 true y b 0 (nb - 1) (nb - 1 - 1)
  match r with
  | some p =>
   if nb - 1 - p > 0 then
    if (p == 1)=true then pure (.done (some (a9s a b (out.push z ++ (b.extract p (nb - 1)).reverse) na p),na,p,out.push z ++ (b.extract p (nb - 1)).reverse,mg,ac,nb - 1 - p))
    else if (p == 0)=true then pure (.done (some (X8 a b (out.push z ++ (b.extract p (nb - 1)).reverse) na p),na,p,out.push z ++ (b.extract p (nb - 1)).reverse,mg,ac,nb - 1 - p))
    else b6F a b (out.push z ++ (b.extract p (nb - 1)).reverse) na p mg ac (nb - 1 - p)
   else b6F a b (out.push z) na (nb - 1) mg ac (nb - 1 - p)
  | _=>pure (.done (some (X8 a b (out.push z) na (nb - 1)),na,nb - 1,out.push z,mg,ac,bc))
def b8F (a b:Array Keyed)(out:Array Keyed)(na nb mg ac bc:Nat):StateT SortSt Sem (ForInStep HiG):=do
 a3G mg
 let y ← elem' b (nb - 1)
 let r ← T0 false y a 0 na (na - 1)
 match r with
 | some p =>
  if na - p > 0 then
   if (p == 0)=true then pure (.done (some (X8 a b (out ++ (a.extract p na).reverse) p nb),p,nb,out ++ (a.extract p na).reverse,mg,na - p,bc))
   else b7F a b (out ++ (a.extract p na).reverse) p nb mg (na - p) bc
  else b7F a b out na nb mg (na - p) bc
 | _=>pure (.done (some (X8 a b out na nb),na,nb,out,mg,ac,bc))
def hiG (a b:Array Keyed)(out:Array Keyed)(na nb mg ac bc:Nat):StateT SortSt Sem (ForInStep HiG) :=
 if mg > 1 then b8F a b out na nb (mg - 1) ac bc else b8F a b out na nb mg ac bc
def hiO (a b:Array Keyed)(na nb:Nat)(out:Array Keyed)(mg:Nat):StateT SortSt Sem (ForInStep HiO):=do
 let c ← forIn [:a.size + b.size] ((none,na,nb,out,0,0):HiR) λ_ c=>hiR a b mg c.2.2.2.1 c.2.1 c.2.2.1 c.2.2.2.2.1 c.2.2.2.2.2
 match c.1 with
 | some r=>pure (.done (some r,c.2.1,c.2.2.1,c.2.2.2.1,mg))
 | none=>do
  liftM (rule "list.sort.gallop")
  let d ← forIn [:a.size + b.size] ((none,c.2.1,c.2.2.1,c.2.2.2.1,mg + 1,c.2.2.2.2.1,c.2.2.2.2.2):HiG) λ_ d=>hiG a b d.2.2.2.1 d.2.1 d.2.2.1 d.2.2.2.2.1 d.2.2.2.2.2.1 d.2.2.2.2.2.2
  match d.1 with
  | some r=>pure (.done (some r,d.2.1,d.2.2.1,d.2.2.2.1,d.2.2.2.2.1))
  | none=>do
   a3G (d.2.2.2.2.1 + 1)
   pure (.yield (none,d.2.1,d.2.2.1,d.2.2.2.1,d.2.2.2.2.1 + 1))
theorem a0T (a b:Array Keyed):a2A a b=(do
  liftM (rule "list.sort.merge-hi")
  let z ← elem' a (a.size - 1)
  if (a.size - 1 == 0)=true then pure (X8 a b #[z] (a.size - 1) b.size)
  else if (b.size == 1)=true then pure (a9s a b #[z] (a.size - 1) b.size)
  else do
   let g ← get
   let c ← forIn [:a.size + b.size] ((none,a.size - 1,b.size,#[z],gallopOf g):HiO) λ_ c=>hiO a b c.2.1 c.2.2.1 c.2.2.2.1 c.2.2.2.2
   match c.1 with
   | some r=>pure r
   | none=>liftM (unsupported "internal:list.sort.merge-bound" : Sem (Array Keyed))):=by
 refine bindC rfl λu=>bindC rfl λz=>ite_congr rfl (λ_=>rfl) λ_=>ite_congr rfl (λ_=>rfl) λ_=>bindC rfl λg=>bindC (b5U λx c=>bindC rfl λd=>?_) λc=>?_
 ·obtain ⟨d1,d2⟩:=d;cases d1 with
  | some r=>rfl
  | none =>
   refine bindC rfl λv=>bindC rfl λd=>?_;obtain ⟨d1,d2⟩:=d;cases d1 with
   | some r=>rfl
   | none=>rfl
 ·obtain ⟨c1,c2⟩:=c;cases c1 with
  | some r=>rfl
  | none=>rfl
abbrev MB (a b out:Array Keyed)(na nb:Nat):Prop:=MH a.toList b.toList out.toList na nb
theorem MB.swap {a b out:Array Keyed}{na nb:Nat}(h:MB a b out na nb):MB b a out nb na:=MH.swap h
theorem MB.addA {a b out:Array Keyed}{na nb p:Nat}(h:MB a b out na nb)(ra:z6 a.toList)(hp:p<=na)(hx:∀ i j,p<=i->i < na->j < nb->i < a.size -> j < b.size -> K b j<=K a i):MB a b (out ++ (a.extract p na).reverse) p nb:=by
 have:=MH.moreA (p:=p) h ra hp (λx hx' y hy=>by
  obtain ⟨n,hn,n1,n2,rfl⟩:=a1x hy;obtain ⟨m,hm,m1,rfl⟩:=a6s hx';rw [P9,P9];exact hx n m n1 (by omega) m1 (by simpa using hn) (by simpa using hm))
 show MH _ _ _ _ _
 rw [Array.toList_append,Array.toList_reverse,Array.toList_extract,List.extract_eq_take_drop];exact this
theorem MB.addB {a b out:Array Keyed}{na nb p:Nat}(h:MB a b out na nb)(rb:z6 b.toList)(hp:p<=nb)(hx:∀ i j,p<=i->i < nb->j < na->i < b.size -> j < a.size -> K a j<=K b i):MB a b (out ++ (b.extract p nb).reverse) na p:=(h.swap.addA rb hp hx).swap
theorem b3s {a out:Array Keyed}{n:Nat}{z:Keyed}(h1:1<=n)(h:a[n - 1]? = some z):out.push z=out ++ (a.extract (n - 1) n).reverse:=by
 have e:=a3R (out:=#[]) h;rw [show n - 1 + 1=n by omega] at e;have e2:a.extract (n - 1) n = #[z]:=by
  rw [Array.empty_append] at e;exact e.symm
 rw [e2]
 rfl
theorem MB.pushA {a b out:Array Keyed}{na nb:Nat}{z:Keyed}(h:MB a b out na nb)(ra:z6 a.toList)(h1:1<=na)(hz:a[na - 1]? = some z)(hx:∀ j,j < nb->j < b.size -> K b j<=K a (na - 1)):MB a b (out.push z) (na - 1) nb:=by
 rw [b3s h1 hz];exact h.addA ra (by omega) λi j g1 g2 g3 g4 g5=>by
  have:i=na - 1:=by omega
  rw [this];exact hx j g3 g5
theorem MB.pushB {a b out:Array Keyed}{na nb:Nat}{z:Keyed}(h:MB a b out na nb)(rb:z6 b.toList)(h1:1<=nb)(hz:b[nb - 1]? = some z)(hx:∀ j,j < na->j < a.size -> K a j<=K b (nb - 1)):MB a b (out.push z) na (nb - 1):=(h.swap.pushA rb h1 hz hx).swap
theorem O5 (a:Array Keyed)(i:Nat):(a.extract 0 i).toList=a.toList.take i:=by
 rw [Array.toList_extract,List.extract_eq_take_drop]
 simp
theorem MB.doneA {a b out:Array Keyed}{na nb:Nat}(T:Two a b)(h:MB a b out na nb)(e:na=0)(hi:nb<=b.size):z7 a b (X8 a b out na nb):=by
 subst e;unfold z7 X8;rw [Array.toList_append,Array.toList_append,O5,O5,Array.toList_reverse,List.take_zero,List.nil_append];exact MH.restB h T.rb (by simpa using hi)
theorem MB.doneB {a b out:Array Keyed}{na nb:Nat}(T:Two a b)(h:MB a b out na nb)(e:nb=0)(hi:na<=a.size):z7 a b (X8 a b out na nb):=by
 subst e;unfold z7 X8;rw [Array.toList_append,Array.toList_append,O5,O5,Array.toList_reverse,List.take_zero,List.append_nil];exact MH.restA h T.ra (by simpa using hi)
theorem MB.first {a b out:Array Keyed}{na nb:Nat}(T:Two a b)(h:MB a b out na nb)(e:nb=1)(hi:na<=a.size):z7 a b (a9s a b out na nb):=by
 unfold z7 a9s;rw [Array.toList_append,Array.toList_append,O5,O5,Array.toList_reverse];have hnb:=T.nb;refine MH.firstB h T.ra T.rb (by simpa using hi) (by simp;omega) λx hx y hy=>?_;obtain ⟨n,hn,n1,rfl⟩:=a6s hx;obtain ⟨m,hm,m1,rfl⟩:=a6s hy;rw [P9,P9];have:n=0:=by omega
 rw [this];exact Int.le_of_lt (T.first (by simpa using hm))
section
variable {prog:Program}{w:World}{A:Around}{E:Value->Shared->Prop}{s:Shared}[a3r prog w A s]
def a6w (a b:Array Keyed)(n:Nat)(out:Array Keyed)(na nb:Nat):Prop:=MB a b out na nb/\1<=na/\na<=a.size /\ 2<=nb/\nb<=b.size /\ na + nb + n<=a.size + b.size
theorem a6w.le {a b:Array Keyed}{n m:Nat}{out:Array Keyed}{na nb:Nat}(h:a6w a b n out na nb)(hm:m<=n):a6w a b m out na nb:=⟨h.1,h.2.1,h.2.2.1,h.2.2.2.1,h.2.2.2.2.1,by have:=h.2.2.2.2.2;omega⟩
def HkR (a b:Array Keyed)(n:Nat)(st₀:SortSt)(c:HiR)(st:SortSt):Prop:=F8 st₀ st/\((∃ r,c.1=some r/\z7 a b r) \/ (c.1=none/\a6w a b n c.2.2.2.1 c.2.1 c.2.2.1))
def HkG (a b:Array Keyed)(n:Nat)(st₀:SortSt)(c:HiG)(st:SortSt):Prop:=F8 st₀ st/\((∃ r,c.1=some r/\z7 a b r) \/ (c.1=none/\a6w a b n c.2.2.2.1 c.2.1 c.2.2.1))
def HkO (a b:Array Keyed)(n:Nat)(st₀:SortSt)(c:HiO)(st:SortSt):Prop:=F8 st₀ st/\((∃ r,c.1=some r/\z7 a b r) \/ (c.1=none/\a6w a b n c.2.2.2.1 c.2.1 c.2.2.1))
theorem b5O {st₀ st:SortSt}{a b out:Array Keyed}{mg na nb ac bc n:Nat}(T:Two a b)(hk:kindOf st₀=o7.κ)(hS:F8 st₀ st)(hL:a6w a b n out na nb) :
  wpS (model prog w) A E s (hiR a b mg out na nb ac bc) (λr st'=>match r with | .done c=>HkR a b (n + 1) st₀ c st' | .yield c=>c.1=none/\HkR a b (n + 1) st₀ c st') st:=by
 obtain ⟨hM,a1,a2,b1,b2,hn⟩:=hL;obtain ⟨p,ep,t,hp⟩:=A9 T.ib (show nb - 1 < b.size by omega);obtain ⟨q,eq,u,hq⟩:=A9 T.ia (show na - 1 < a.size by omega);unfold hiR;refine wpS_bind (o5 ep (wpS_bind (o5 eq (wpS_bind (a6n (hS.kind hk) hp hq ?_)))));dsimp only
 by_cases hlt:K b (nb - 1) < K a (na - 1)
 ·rw [if_pos (by simpa using hlt)];refine wpS_bind (o5 eq ?_);have M:MB a b (out.push q) (na - 1) nb:=hM.pushA T.ra a1 eq λj h1 h2=>Int.le_of_lt (Int.lt_of_le_of_lt (P3 T.rb (show j<=nb - 1 by omega) (by omega)) hlt)
  by_cases e:na - 1=0
  ·rw [if_pos (by simpa using e)];exact wpS_pure ⟨hS,.inl ⟨_,rfl,M.doneA T e (by omega)⟩⟩
  ·rw [if_neg (by simpa using e)];have R:HkR a b (n + 1) st₀ (none,na - 1,nb,out.push q,ac + 1,0) st:=⟨hS,.inr ⟨rfl,M,by dsimp only;omega,by dsimp only;omega,b1,b2,by dsimp only;omega⟩⟩
   by_cases g:ac + 1 ≥ mg
   ·rw [if_pos g];exact wpS_pure R
   ·rw [if_neg g];exact wpS_pure ⟨rfl,R⟩
 ·rw [if_neg (by simpa using hlt)];refine wpS_bind (o5 ep ?_);have M:MB a b (out.push p) na (nb - 1):=hM.pushB T.rb (by omega) ep λj h1 h2=>Int.le_trans (P3 T.ra (show j<=na - 1 by omega) (by omega)) (Int.not_lt.mp hlt)
  by_cases e:nb - 1=1
  ·rw [if_pos (by simpa using e)];exact wpS_pure ⟨hS,.inl ⟨_,rfl,M.first T e (by omega)⟩⟩
  ·rw [if_neg (by simpa using e)];have R:HkR a b (n + 1) st₀ (none,na,nb - 1,out.push p,0,bc + 1) st:=⟨hS,.inr ⟨rfl,M,a1,a2,by dsimp only;omega,by dsimp only;omega,by dsimp only;omega⟩⟩
   by_cases g:bc + 1 ≥ mg
   ·rw [if_pos g];exact wpS_pure R
   ·rw [if_neg g];exact wpS_pure ⟨rfl,R⟩
abbrev PH (a b:Array Keyed)(n:Nat)(st₀:SortSt)(r:ForInStep HiG)(st':SortSt):Prop:=match r with | .done c=>HkG a b n st₀ c st' | .yield c=>c.1=none/\HkG a b n st₀ c st'
theorem b9f {st₀ st:SortSt}{a b out:Array Keyed}{mg na nb ac bc n:Nat}(T:Two a b)(hS:F8 st₀ st)(hL:a6w a b n out na nb)(hx:∀ j,j < nb->j < b.size -> K b j<=K a (na - 1)) :
  wpS (model prog w) A E s (b6F a b out na nb mg ac bc) (PH a b n st₀) st:=by
 obtain ⟨hM,a1,a2,b1,b2,hn⟩:=hL;obtain ⟨q,eq,u,hq⟩:=A9 T.ia (show na - 1 < a.size by omega);unfold b6F;refine wpS_bind (o5 eq ?_);have M:MB a b (out.push q) (na - 1) nb:=hM.pushA T.ra a1 eq hx
 by_cases e:na - 1=0
 ·rw [if_pos (by simpa using e)];exact wpS_pure ⟨hS,.inl ⟨_,rfl,M.doneA T e (by omega)⟩⟩
 ·rw [if_neg (by simpa using e)];have R:HkG a b n st₀ (none,na - 1,nb,out.push q,mg,ac,bc) st:=⟨hS,.inr ⟨rfl,M,by dsimp only;omega,by dsimp only;omega,b1,b2,by dsimp only;omega⟩⟩
  by_cases g:(decide (ac < 7) && decide (bc < 7))=true
  ·rw [if_pos g];exact wpS_pure R
  ·rw [if_neg g];exact wpS_pure ⟨rfl,R⟩
theorem b0g {st₀ st:SortSt}{a b out:Array Keyed}{mg na nb ac bc n:Nat}(T:Two a b)(hk:kindOf st₀=o7.κ)(hS:F8 st₀ st)(hL:a6w a b n out na nb)(hx:∀ j,j < na->j < a.size -> K a j<=K b (nb - 1)) :
  wpS (model prog w) A E s (b7F a b out na nb mg ac bc) (PH a b n st₀) st:=by
 obtain ⟨hM,a1,a2,b1,b2,hn⟩:=hL;obtain ⟨p,ep,t,hp⟩:=A9 T.ib (show nb - 1 < b.size by omega);obtain ⟨q,eq,u,hq⟩:=A9 T.ia (show na - 1 < a.size by omega);unfold b7F;refine wpS_bind (o5 ep ?_);have M:MB a b (out.push p) na (nb - 1):=hM.pushB T.rb (by omega) ep hx
 by_cases e:nb - 1=1
 ·rw [if_pos (by simpa using e)];exact wpS_pure ⟨hS,.inl ⟨_,rfl,M.first T e (by omega)⟩⟩
 ·rw [if_neg (by simpa using e)];refine wpS_bind (o5 eq (wpS_bind (J9 (hS.kind hk) hq T.ib (by omega) (by omega) (λi j h1 h2=>P3 T.rb (by omega) (by omega)) λk hT=>?_)));obtain ⟨k1,k2,k3⟩:=a3l hT;simp only [Nat.zero_add] at k2 k3;dsimp only
  by_cases hk0:nb - 1 - k > 0
  ·rw [if_pos hk0];have M2:=M.addB (p:=k) T.rb (by omega) λi j h1 h2 h3 h4 h5=>Int.le_trans (P3 T.ra (show j<=na - 1 by omega) (by omega)) (k3 i h1 h2)
   by_cases e1:k=1
   ·rw [if_pos (by simpa using e1)];exact wpS_pure ⟨hS,.inl ⟨_,rfl,M2.first T e1 (by omega)⟩⟩
   ·rw [if_neg (by simpa using e1)]
    by_cases e2:k=0
    ·rw [if_pos (by simpa using e2)];exact wpS_pure ⟨hS,.inl ⟨_,rfl,M2.doneB T e2 (by omega)⟩⟩
    ·rw [if_neg (by simpa using e2)];exact b9f T hS ⟨M2,a1,a2,by omega,by omega,by omega⟩ λj h1 h2=>Int.le_of_lt (k2 j h1)
  ·rw [if_neg hk0];exact b9f T hS ⟨M,a1,a2,by omega,by omega,by omega⟩ λj h1 h2=>Int.le_of_lt (k2 j (by omega))
theorem b1g {st₀ st:SortSt}{a b out:Array Keyed}{mg na nb ac bc n:Nat}(T:Two a b)(hk:kindOf st₀=o7.κ)(hS:F8 st₀ st)(hL:a6w a b n out na nb) :
  wpS (model prog w) A E s (b8F a b out na nb mg ac bc) (PH a b n st₀) st:=by
 obtain ⟨hM,a1,a2,b1,b2,hn⟩:=id hL;obtain ⟨p,ep,t,hp⟩:=A9 T.ib (show nb - 1 < b.size by omega);unfold b8F;refine wpS_bind (a4n hS λst' hS'=>wpS_bind (o5 ep (wpS_bind (J9 (hS'.kind hk) hp T.ia (by omega) (by omega) (λi j h1 h2=>P3 T.ra (by omega) (by omega)) λk hT=>?_))));obtain ⟨k1,k2,k3⟩:=Y8 hT;simp only [Nat.zero_add] at k2 k3;dsimp only
 by_cases hk0:na - k > 0
 ·rw [if_pos hk0];have M2:=hM.addA (p:=k) T.ra (by omega) λi j h1 h2 h3 h4 h5=>Int.le_of_lt (Int.lt_of_le_of_lt (P3 T.rb (show j<=nb - 1 by omega) (by omega)) (k3 i h1 h2))
  by_cases e:k=0
  ·rw [if_pos (by simpa using e)];exact wpS_pure ⟨hS',.inl ⟨_,rfl,M2.doneA T e (by omega)⟩⟩
  ·rw [if_neg (by simpa using e)];exact b0g T hk hS' ⟨M2,by omega,by omega,b1,b2,by omega⟩ λj h1 h2=>k2 j h1
 ·rw [if_neg hk0];exact b0g T hk hS' hL λj h1 h2=>k2 j (by omega)
theorem b7O {st₀ st:SortSt}{a b out:Array Keyed}{mg na nb ac bc n:Nat}(T:Two a b)(hk:kindOf st₀=o7.κ)(hS:F8 st₀ st)(hL:a6w a b n out na nb) :
  wpS (model prog w) A E s (hiG a b out na nb mg ac bc) (PH a b n st₀) st:=by
 unfold hiG
 by_cases h:mg > 1
 ·rw [if_pos h];exact b1g T hk hS hL
 ·rw [if_neg h];exact b1g T hk hS hL
theorem b6O {st₀ st:SortSt}{a b out:Array Keyed}{mg na nb n:Nat}(T:Two a b)(hk:kindOf st₀=o7.κ)(hS:F8 st₀ st)(hL:a6w a b n out na nb) :
  wpS (model prog w) A E s (hiO a b na nb out mg) (λr st'=>match r with | .done c=>HkO a b (n + 1) st₀ c st'/\c.1 ≠ none | .yield c=>c.1=none/\HkO a b (n + 1) st₀ c st') st:=by
 have hna:=T.na;unfold hiO;refine wpS_bind (wpS_mono (wpS_forRange (I:=λx c st'=>c.1=none/\HkR a b (n + x) st₀ c st') (Q:=λc st'=>HkR a b (n + 1) st₀ c st') ?_ ?_ ⟨rfl,hS,.inr ⟨rfl,hL⟩⟩) ?_)
 ·rintro x ⟨c0,i,j,o,ac,bc⟩ st' _ hx ⟨e,hS',z⟩
  rcases z with ⟨r,e',_⟩ | ⟨_,l⟩
  ·rw [e'] at e;cases e
  ·refine wpS_mono (b5O T hk hS' l) λr st2 hr=>?_;cases r with
   | done c=>exact ⟨hr.1,hr.2.imp id λ⟨q1,q2⟩=>⟨q1,q2.le (by omega)⟩⟩
   | yield c=>exact hr
 ·rintro c st' ⟨e,hc⟩;exact ⟨hc.1,hc.2.imp id λ⟨q1,q2⟩=>⟨q1,q2.le (by omega)⟩⟩
 ·rintro ⟨c0,i,j,o,ac,bc⟩ st' ⟨hS',z⟩
  rcases z with ⟨r,e,hr⟩ | ⟨e,l⟩
  ·dsimp only at e;subst e;exact wpS_pure ⟨⟨hS',.inl ⟨r,rfl,hr⟩⟩,by simp⟩
  ·dsimp only at e;subst e;dsimp only;refine wpS_bind (wpS_lift (wpAny_rule ⟨rfl,?_⟩));refine wpS_bind (wpS_mono (wpS_forRange (I:=λx c st'=>c.1=none/\HkG a b (n + 1) st₀ c st') (Q:=λc st'=>HkG a b (n + 1) st₀ c st') ?_ ?_ ⟨rfl,hS',.inr ⟨rfl,l⟩⟩) ?_)
   ·rintro x ⟨c0,i,j,o,mg,ac,bc⟩ st' _ hx ⟨e,hS',z⟩
    rcases z with ⟨r,e',_⟩ | ⟨_,l⟩
    ·rw [e'] at e;cases e
    ·refine wpS_mono (b7O T hk hS' l) λr st2 hr=>?_;cases r with
     | done c=>exact hr
     | yield c=>exact hr
   ·exact λc st' hc=>hc.2
   ·rintro ⟨c0,i,j,o,mg,ac,bc⟩ st' ⟨hS',z⟩
    rcases z with ⟨r,e,hr⟩ | ⟨e,l⟩
    ·dsimp only at e;subst e;exact wpS_pure ⟨⟨hS',.inl ⟨r,rfl,hr⟩⟩,by simp⟩
    ·dsimp only at e;subst e;dsimp only;exact wpS_bind (a4n hS' λst2 hS2=>wpS_pure ⟨rfl,hS2,.inr ⟨rfl,l⟩⟩)
theorem a0P {st:SortSt}{a b:Array Keyed}{Q:Array Keyed->SortSt->Prop}(T:Two a b)(hk:kindOf st=o7.κ)(h:∀ r st',F8 st st'->z7 a b r->Q r st'):wpS (model prog w) A E s (a2A a b) Q st:=by
 rw [a0T];have hna:=T.na;have hnb:=T.nb;obtain ⟨p,ep,t,hp⟩:=A9 T.ia (show a.size - 1 < a.size by omega);refine wpS_bind (wpS_lift (wpAny_rule ⟨rfl,wpS_bind (o5 ep ?_)⟩));have M0:MB a b #[] a.size b.size:=by
  have:=MH.nil (a:=a.toList) (b:=b.toList)
  simpa using this
 have M:MB a b #[p] (a.size - 1) b.size:=M0.pushA T.ra hna ep λj _ hj=>Int.le_of_lt (T.last hj)
 by_cases e1:a.size - 1=0
 ·rw [if_pos (by simpa using e1)];exact wpS_pure (h _ _ F8.rfl (M.doneA T e1 (by omega)))
 ·rw [if_neg (by simpa using e1)]
  by_cases e2:b.size=1
  ·rw [if_pos (by simpa using e2)];exact wpS_pure (h _ _ F8.rfl (M.first T e2 (by omega)))
  ·rw [if_neg (by simpa using e2)];refine wpS_bind (wpS_get ?_);refine wpS_bind (wpS_mono (wpS_forRange (I:=λx c st'=>c.1=none/\HkO a b (x + 1) st c st') (Q:=λc st'=>HkO a b 0 st c st'/\c.1 ≠ none) ?_ ?_ ⟨rfl,F8.rfl,.inr ⟨rfl,M,by dsimp only;omega,by dsimp only;omega,by dsimp only;omega,by dsimp only;omega,by dsimp only;omega⟩⟩) ?_)
   ·rintro x ⟨c0,i,j,o,mg⟩ st' _ hx ⟨e,hS',z⟩
    rcases z with ⟨r,e',_⟩ | ⟨_,l⟩
    ·rw [e'] at e;cases e
    ·refine wpS_mono (b6O T hk hS' l) λr st2 hr=>?_;cases r with
     | done c=>exact ⟨⟨hr.1.1,hr.1.2.imp id λ⟨q1,q2⟩=>⟨q1,q2.le (by omega)⟩⟩,hr.2⟩
     | yield c=>exact hr
   ·rintro ⟨c0,i,j,o,mg⟩ st' ⟨e,hS',z⟩
    rcases z with ⟨r,e',_⟩ | ⟨_,l⟩
    ·rw [e'] at e;cases e
    ·obtain ⟨_,l1,l2,l3,l4,l5⟩:=l;dsimp only at l1 l2 l3 l4 l5
     exfalso;omega
   ·rintro ⟨c0,i,j,o,mg⟩ st' ⟨⟨hS',z⟩,hne⟩
    rcases z with ⟨r,e,hr⟩ | ⟨e,_⟩
    ·dsimp only at e;subst e;exact wpS_pure (h _ _ hS' hr)
    ·exact absurd e hne
end
end MwSortR
namespace MwSortR
open PySem PyProof.Rows
variable [o7]
def lay (at_:Nat)(l:List (Keyed × Nat))(xs:Array Keyed):Array Keyed:=l.foldl (λz (p,j)=>z.setIfInBounds (at_ + j) p) xs
theorem b4u (at_:Nat)(p:Keyed)(j:Nat)(l:List (Keyed × Nat))(xs:Array Keyed):lay at_ ((p,j) :: l) xs=lay at_ l (xs.setIfInBounds (at_ + j) p):=rfl
theorem a1M {at_:Nat}:∀ (l:List Keyed) (n:Nat) (xs:Array Keyed),at_ + n + l.length <= xs.size -> ∀ k,(lay at_ (l.zipIdx n) xs)[k]? = if at_ + n<=k/\k < at_ + n + l.length then l[k - (at_ + n)]? else xs[k]?
 | [],n,xs,h,k=>by
  rw [if_neg (by simp only [List.length_nil];omega)];rfl
 | p :: l,n,xs,h,k=>by
  rw [List.zipIdx_cons,b4u,a1M l (n + 1) _ (by rw [Array.size_setIfInBounds];simp only [List.length_cons] at h;omega) k];simp only [List.length_cons] at h ⊢
  by_cases h1:at_ + (n + 1)<=k/\k < at_ + (n + 1) + l.length
  ·rw [if_pos h1,if_pos (by omega),show k - (at_ + n)=(k - (at_ + (n + 1))) + 1 by omega,List.getElem?_cons_succ]
  ·rw [if_neg h1]
   by_cases h2:at_ + n=k
   ·subst h2;rw [if_pos (by omega),Nat.sub_self];rw [Array.getElem?_setIfInBounds_self_of_lt (by omega)]
    rfl
   ·rw [if_neg (by omega),Array.getElem?_setIfInBounds_ne h2]
theorem b3u {at_:Nat}{m xs:Array Keyed}(h:at_ + m.size <= xs.size):(lay at_ m.toList.zipIdx xs).toList=xs.toList.take at_ ++ m.toList ++ xs.toList.drop (at_ + m.size):=by
 apply List.ext_getElem?;intro k;rw [Array.getElem?_toList,a1M m.toList 0 xs (by simpa using h) k];simp only [Nat.add_zero,Array.length_toList];rw [List.append_assoc,List.getElem?_append,List.getElem?_append];have e1:(xs.toList.take at_).length=at_:=by simp;omega
 rw [e1]
 by_cases h1:k < at_
 ·rw [if_neg (by omega),if_pos h1,List.getElem?_take_of_lt h1,Array.getElem?_toList]
 ·rw [if_neg h1];simp only [Array.length_toList]
  by_cases h2:k < at_ + m.size
  ·rw [if_pos ⟨by omega,h2⟩,if_pos (by omega)]
  ·rw [if_neg (by omega),if_neg (by omega),List.getElem?_drop,Array.getElem?_toList]
   congr 1
   omega
def Up (xs:Array Keyed)(i j:Nat):Prop:=∀ p q,i<=p->p<=q->q < j->K xs p<=K xs q
theorem a4J {xs:Array Keyed}{i j k:Nat}(hj:j<=xs.size)(hk:i + k < j):K (xs.extract i j) k=K xs (i + k):=by
 apply a8j;rw [Array.getElem?_extract];rw [if_pos (by omega)]
theorem a9T {xs:Array Keyed}{i j:Nat}(hj:j<=xs.size)(h:Up xs i j):z6 (xs.extract i j).toList:=b9B λp q hpq hq=>by
 have hs:(xs.extract i j).size=j - i:=by rw [Array.size_extract];omega
 rw [hs] at hq;rw [a4J hj (by omega),a4J hj (by omega)];exact h _ _ (by omega) (by omega) (by omega)
theorem b5g {xs:Array Keyed}{i j:Nat}(h:B3 xs):B3 (xs.extract i j):=λp hp=>h p (by
 rw [Array.toList_extract,List.extract_eq_take_drop] at hp;exact List.mem_of_mem_drop (List.mem_of_mem_take hp))
theorem b8N {xs m:Array Keyed}{sa sb e c d:Nat}(h1:sa<=c)(h2:c<=sb)(h3:sb<=d)(h4:d<=e)(h5:e<=xs.size)(ua:Up xs sa sb)(ub:Up xs sb e)
  (hlo:∀ i,sa<=i->i < c->K xs i<=K xs sb) (hhi:∀ i,d<=i->i < e->K xs (sb - 1)<=K xs i) (hc:c < sb) (hd:sb < d) (hM:z7 (xs.extract c sb) (xs.extract sb d) m) :
  (lay c m.toList.zipIdx xs).toList.Perm xs.toList /\ (∀ k,k < c \/ d<=k->K (lay c m.toList.zipIdx xs) k=K xs k)/\Up (lay c m.toList.zipIdx xs) sa e:=by
 have hm:m.size=d - c:=by
  have:=hM.1.length_eq
  simp at this
  omega
 have hfit:c + m.size <= xs.size:=by omega
 have hg:∀ k,(lay c m.toList.zipIdx xs)[k]? = if c<=k/\k < d then m[k - c]? else xs[k]?:=λk=>by
  rw [a1M m.toList 0 xs (by simpa using hfit) k];simp only [Nat.add_zero,Array.length_toList,hm,Array.getElem?_toList];rw [show c + (d - c)=d by omega]
 have kout:∀ k,k < c \/ d<=k->K (lay c m.toList.zipIdx xs) k=K xs k:=λk hk=>a8j (by rw [hg,if_neg (by omega)]);have kin:∀ k,c<=k->k < d->K (lay c m.toList.zipIdx xs) k=K m (k - c):=λk a b=>a8j (by rw [hg,if_pos ⟨a,b⟩]);have mid:∀ k,k < m.size -> ∃ n,c<=n/\n < d/\K m k=K xs n:=λk hk=>by
  have hmem:m.toList[k]'(by simpa using hk)∈(xs.extract c sb).toList ++ (xs.extract sb d).toList:=hM.1.mem_iff.mp (List.getElem_mem _);have ek:=P9 (a:=m) (n:=k) (by simpa using hk)
  rcases List.mem_append.mp hmem with z | z
  ·rw [Array.toList_extract,List.extract_eq_take_drop] at z;obtain ⟨n,hn,n1,n2,e⟩:=a1x z;refine ⟨n,n1,by omega,?_⟩;rw [← ek,← e,P9]
  ·rw [Array.toList_extract,List.extract_eq_take_drop] at z;obtain ⟨n,hn,n1,n2,e⟩:=a1x z;refine ⟨n,by omega,by omega,?_⟩;rw [← ek,← e,P9]
 refine ⟨?_,kout,?_⟩
 ·rw [b3u hfit,hm,show c + (d - c)=d by omega];have e1:xs.toList=xs.toList.take c ++ ((xs.extract c sb).toList ++ (xs.extract sb d).toList) ++ xs.toList.drop d:=by
   rw [Array.toList_extract,Array.toList_extract,List.extract_eq_take_drop,List.extract_eq_take_drop];have q1:=a6r (l:=xs.toList) h3;have q2:=a6r (l:=xs.toList) h2;have q3:=List.take_append_drop c xs.toList;rw [List.append_assoc,List.append_assoc,← q1,← q2,q3]
  have p:=(hM.1.append_left (xs.toList.take c)).append_right (xs.toList.drop d)
  rwa [← e1] at p
 ·intro p q hp hpq hq
  rcases Nat.lt_or_ge p c with p1 | p1
  ·rw [kout p (.inl p1)]
   rcases Nat.lt_or_ge q c with q1 | q1
   ·rw [kout q (.inl q1)];exact ua p q hp hpq (by omega)
   ·have low:∀ n,c<=n->n < e->K xs p<=K xs n:=λn n1 n2=>by
     rcases Nat.lt_or_ge n sb with z | z
     ·exact ua p n hp (by omega) z
     ·exact Int.le_trans (hlo p hp p1) (ub sb n (by omega) z n2)
    rcases Nat.lt_or_ge q d with q2 | q2
    ·rw [kin q q1 q2];obtain ⟨n,n1,n2,e⟩:=mid (q - c) (by omega);rw [e];exact low n n1 (by omega)
    ·rw [kout q (.inr q2)];exact low q q1 hq
  ·rcases Nat.lt_or_ge p d with p2 | p2
   ·rw [kin p p1 p2]
    rcases Nat.lt_or_ge q d with q2 | q2
    ·rw [kin q (by omega) q2];exact P3 hM.2 (by omega) (by omega)
    ·rw [kout q (.inr q2)];obtain ⟨n,n1,n2,e⟩:=mid (p - c) (by omega);rw [e]
     rcases Nat.lt_or_ge n sb with z | z
     ·exact Int.le_trans (ua n (sb - 1) (by omega) (by omega) (by omega)) (hhi q q2 hq)
     ·exact ub n q z (by omega) hq
   ·rw [kout p (.inr p2),kout q (.inr (by omega))];exact ub p q (by omega) hpq hq
theorem a1T (i:Nat):mergeAt' i=(do
 let g ← get
 let (some (p,m,pw),some (q,n,_)):=((pendingOf g)[i]?,(pendingOf g)[i + 1]?) | unsupported "internal:list.sort.pending"
 set (setPending g (((pendingOf g).setIfInBounds i (p,m + n,pw)).eraseIdxIfInBounds (i + 1)))
 let some k ← T0 false (← elem' (arrOf g) q) (arrOf g) p m 0 | return false
 let (p,m):=(p + k,m - k)
 if m == 0 then return true
 let some n ← T0 true (← elem' (arrOf g) (p + m - 1)) (arrOf g) q n (n - 1) | return false
 if n == 0 then return true
 let x:=(arrOf g).extract p q
 let y:=(arrOf g).extract q (q + n)
 let r ← if m<=n then a1A x y else a2A x y
 modify λz=>setArr z (lay p r.toList.zipIdx (arrOf z))
 return (failedOf (← get)).isNone):=rfl
section
variable {prog:Program}{w:World}{A:Around}{E:Value->Shared->Prop}{s:Shared}[a3r prog w A s]
theorem b5y {st st':SortSt}{Q:PUnit->SortSt->Prop}(h:Q ⟨⟩ st'):wpS (model prog w) A E s (set st':StateT SortSt Sem PUnit) Q st:=by
 unfold wpS;rw [StateT.run_set];exact wpAny_pure ⟨rfl,h⟩
structure b3Q (st st':SortSt)(p e:Nat):Prop where
 kind:kindOf st'=kindOf st
 failed:failedOf st'=failedOf st
 perm:(arrOf st').toList.Perm (arrOf st).toList
 out:∀ k,k < p \/ e<=k->K (arrOf st') k=K (arrOf st) k
 up:Up (arrOf st') p e
theorem a1P {st:SortSt}{i p m pw n pw2:Nat}{Q:Bool->SortSt->Prop}(hk:kindOf st=o7.κ)(hf:failedOf st=none)(hI:B3 (arrOf st))
  (hp:(pendingOf st)[i]? = some (p,m,pw)) (hq:(pendingOf st)[i + 1]? = some (p + m,n,pw2)) (m1:1<=m) (n1:1<=n) (he:p + m + n<=(arrOf st).size) (ua:Up (arrOf st) p (p + m)) (ub:Up (arrOf st) (p + m) (p + m + n))
  (h:∀ st',b3Q st st' p (p + m + n)->pendingOf st'=((pendingOf st).setIfInBounds i (p,m + n,pw)).eraseIdxIfInBounds (i + 1)->Q true st'):wpS (model prog w) A E s (mergeAt' i) Q st:=by
 rw [a1T];refine wpS_bind (wpS_get ?_);rw [hp,hq];dsimp only;refine wpS_bind (b5y ?_);obtain ⟨b0,eb,tb,hb⟩:=A9 hI (show p + m < (arrOf st).size by omega);refine wpS_bind (o5 eb (wpS_bind (J9 hk hb hI (by omega) (by omega) (λi j h1 h2=>ua _ _ (by omega) (by omega) (by omega)) λk hT=>?_)));obtain ⟨k1,k2,k3⟩:=Y8 hT;have hlo:∀ i,p<=i->i < p + k->K (arrOf st) i<=K (arrOf st) (p + m):=λi h1 h2=>by
  have:=k2 (i - p) (by omega)
  rwa [show p + (i - p)=i by omega] at this
 dsimp only
 by_cases e0:m - k=0
 ·rw [if_pos (by simpa using e0)];refine wpS_pure (h _ ⟨rfl,rfl,List.Perm.refl _,λ_ _=>rfl,λx y hx hxy hy=>?_⟩ rfl)
  show K (arrOf st) x<=K (arrOf st) y
  rcases Nat.lt_or_ge y (p + m) with z | z
  ·exact ua x y hx hxy z
  ·rcases Nat.lt_or_ge x (p + m) with z2 | z2
   ·exact Int.le_trans (hlo x hx (by omega)) (ub _ y (by omega) z hy)
   ·exact ub x y z2 hxy hy
 ·rw [if_neg (by simpa using e0)];have hlast:p + k + (m - k) - 1=p + m - 1:=by omega
  obtain ⟨a1,ea,ta,ha⟩:=A9 hI (show p + k + (m - k) - 1 < (arrOf st).size by omega);refine wpS_bind (o5 ea (wpS_bind (J9 hk ha hI (by omega) (by omega) (λi j h1 h2=>ub _ _ (by omega) (by omega) (by omega)) λk' hT'=>?_)));obtain ⟨j1,j2,j3⟩:=a3l hT';rw [hlast] at j2 j3;have hhi:∀ i,p + m + k'<=i->i < p + m + n->K (arrOf st) (p + m - 1)<=K (arrOf st) i:=λi h1 h2=>by
   have:=j3 (i - (p + m)) (by omega) (by omega)
   rwa [show p + m + (i - (p + m))=i by omega] at this
  dsimp only
  by_cases e1:k'=0
  ·rw [if_pos (by simpa using e1)];refine wpS_pure (h _ ⟨rfl,rfl,List.Perm.refl _,λ_ _=>rfl,λx y hx hxy hy=>?_⟩ rfl)
   show K (arrOf st) x<=K (arrOf st) y
   rcases Nat.lt_or_ge y (p + m) with z | z
   ·exact ua x y hx hxy z
   ·rcases Nat.lt_or_ge x (p + m) with z2 | z2
    ·exact Int.le_trans (ua x (p + m - 1) hx (by omega) (by omega)) (hhi y (by omega) hy)
    ·exact ub x y z2 hxy hy
  ·rw [if_neg (by simpa using e1)];have sx:((arrOf st).extract (p + k) (p + m)).size=m - k:=by rw [Array.size_extract];omega
   have sy:((arrOf st).extract (p + m) (p + m + k')).size=k':=by rw [Array.size_extract];omega
   have T:Two ((arrOf st).extract (p + k) (p + m)) ((arrOf st).extract (p + m) (p + m + k')):={
    ia:=b5g hI
    ib:=b5g hI
    ra:=a9T (by omega) λx y h1 h2 h3=>ua x y (by omega) h2 h3
    rb:=a9T (by omega) λx y h1 h2 h3=>ub x y (by omega) h2 (by omega)
    na:=by rw [sx];omega
    nb:=by rw [sy];omega
    h0:=by
     rw [a4J (by omega) (by omega),a4J (by omega) (by omega)];have:=k3 k (by omega) (by omega)
     simpa using this
    hl:=by
     rw [sx,sy,a4J (by omega) (by omega),a4J (by omega) (by omega)];have:=j2 (k' - 1) (by omega)
     rwa [show p + k + (m - k - 1)=p + m - 1 by omega] }
   have fin:∀ (r:Array Keyed) (st':SortSt),F8 (setPending st (((pendingOf st).setIfInBounds i (p,m + n,pw)).eraseIdxIfInBounds (i + 1))) st'->z7 ((arrOf st).extract (p + k) (p + m)) ((arrOf st).extract (p + m) (p + m + k')) r ->
     wpS (model prog w) A E s (do modify λz=>setArr z (lay (p + k) r.toList.zipIdx (arrOf z));return (failedOf (← get)).isNone) Q st':=λr st' hS hM=>by
    refine wpS_bind (wpS_modify (wpS_bind (wpS_get (wpS_pure ?_))));have hj:=b8N (sa:=p) (e:=p + m + n) (by omega) (by omega) (by omega) (by omega) he ua ub hlo hhi (by omega) (by omega) hM;have ef:failedOf st'=none:=hS.2.2.2.trans hf;have ex:arrOf st'=arrOf st:=hS.2.1;have:(failedOf (setArr st' (lay (p + k) r.toList.zipIdx (arrOf st')))).isNone=true:=by show (failedOf st').isNone=true;rw [ef];rfl
    rw [this];refine h _ ⟨hS.1,hS.2.2.2,?_,?_,?_⟩ hS.2.2.1
    ·show (lay (p + k) r.toList.zipIdx (arrOf st')).toList.Perm _
     rw [ex];exact hj.1
    ·intro x hx
     show K (lay (p + k) r.toList.zipIdx (arrOf st')) x=_
     rw [ex];exact hj.2.1 x (by omega)
    ·show Up (lay (p + k) r.toList.zipIdx (arrOf st')) _ _
     rw [ex];exact hj.2.2
   by_cases hc:m - k<=k'
   ·rw [if_pos hc];exact wpS_bind (a9O T hk λr st' hS hM=>fin r st' hS hM)
   ·rw [if_neg hc];exact wpS_bind (a0P T hk λr st' hS hM=>fin r st' hS hM)
end
end MwSortR
namespace MwSortR
open PySem PyProof.Rows
variable [o7]
def b2H (lo a nr:Nat):StateT SortSt Sem (Option (Option Nat) × Nat):=forIn [a:nr] ((none,a):Option (Option Nat) × Nat) λ_ c=>do
 let r ← ltAt' (lo + c.2) (lo + c.2 - 1)
 match r with
 | some t=>if t=true then pure (.done (none,c.2)) else pure (.yield (none,c.2 + 1))
 | _=>pure (.done (some none,c.2))
def b8c (lo n nr:Nat):StateT SortSt Sem (Option Nat):=do
 reverseSlice' lo (lo + n)
 let c ← b2H lo n nr
 match c.1 with
 | some r=>pure r
 | none=>pure (some c.2)
def b9O (lo n nr:Nat):StateT SortSt Sem (Option (Option Nat) × Nat × Nat):=forIn [n:nr] ((none,n,0):Option (Option Nat) × Nat × Nat) λ_ c=>do
 let r ← ltAt' (lo + c.2.1) (lo + c.2.1 - 1)
 match r with
 | some t =>
  if t=true then
   if c.2.2 > 0 then do
    reverseSlice' (lo + c.2.1 - (c.2.2 + 1)) (lo + c.2.1)
    pure (.yield (none,c.2.1 + 1,0))
   else pure (.yield (none,c.2.1 + 1,0))
  else do
   let r ← ltAt' (lo + c.2.1 - 1) (lo + c.2.1)
   match r with
   | some g=>if g=true then pure (.done (none,c.2.1,c.2.2)) else pure (.yield (none,c.2.1 + 1,c.2.2 + 1))
   | _=>pure (.done (some none,c.2.1,c.2.2))
 | _=>pure (.done (some none,c.2.1,c.2.2))
def b7e (lo n nr:Nat):StateT SortSt Sem (Option Nat):=do
 liftM (rule "list.sort.descending-run")
 let c ← b9O lo (n + 1) nr
 match c.1 with
 | some r=>pure r
 | none =>
  if c.2.2 > 0 then do
   reverseSlice' (lo + c.2.1 - (c.2.2 + 1)) (lo + c.2.1)
   b8c lo c.2.1 nr
  else b8c lo c.2.1 nr
theorem b1o (lo nr:Nat):countRun' lo nr=(do
  let c ← b2H lo 1 nr
  match c.1 with
  | some r=>pure r
  | none =>
   if (c.2 == nr)=true then pure (some c.2)
   else if c.2 > 1 then do
    let r ← ltAt' lo (lo + c.2 - 1)
    match r with
    | some g=>if g=true then pure (some c.2) else do
      reverseSlice' lo (lo + c.2)
      b7e lo c.2 nr
    | _=>pure none
   else b7e lo c.2 nr):=by
 refine bindC rfl λc=>?_;obtain ⟨c1,n⟩:=c;cases c1 with
 | some r=>rfl
 | none =>
  refine ite_congr rfl (λ_=>rfl) λ_=>ite_congr rfl (λ_=>bindC rfl λr=>?_) λ_=>bindC rfl λ_=>bindC rfl λc=>?_
  ·cases r with
   | none=>rfl
   | some g =>
    refine ite_congr rfl (λ_=>rfl) λ_=>bindC rfl λ_=>bindC rfl λ_=>bindC rfl λc=>?_;obtain ⟨c1,n2,q⟩:=c;cases c1 with
    | some r=>rfl
    | none =>
     refine ite_congr rfl (λ_=>bindC rfl λ_=>bindC rfl λ_=>bindC rfl λc=>?_) λ_=>bindC rfl λ_=>bindC rfl λc=>?_
     all_goals (obtain ⟨c1,n3⟩:=c;cases c1 <;> rfl)
  ·obtain ⟨c1,n2,q⟩:=c;cases c1 with
   | some r=>rfl
   | none =>
    refine ite_congr rfl (λ_=>bindC rfl λ_=>bindC rfl λ_=>bindC rfl λc=>?_) λ_=>bindC rfl λ_=>bindC rfl λc=>?_
    all_goals (obtain ⟨c1,n3⟩:=c;cases c1 <;> rfl)
structure Moved (lo:Nat)(st st':SortSt):Prop where
 kind:kindOf st'=kindOf st
 failed:failedOf st'=failedOf st
 pend:pendingOf st'=pendingOf st
 perm:(arrOf st').Perm (arrOf st)
 out:∀ k,k < lo->K (arrOf st') k=K (arrOf st) k
theorem Moved.rfl {lo:Nat}{st:SortSt}:Moved lo st st:=⟨_root_.rfl,_root_.rfl,_root_.rfl,Array.Perm.refl _,λ_ _=>_root_.rfl⟩
theorem Moved.trans {lo:Nat}{a b c:SortSt}(h:Moved lo a b)(g:Moved lo b c):Moved lo a c:=⟨g.kind.trans h.kind,g.failed.trans h.failed,g.pend.trans h.pend,g.perm.trans h.perm,λk hk=>(g.out k hk).trans (h.out k hk)⟩
theorem Moved.size {lo:Nat}{st st':SortSt}(h:Moved lo st st'):(arrOf st').size=(arrOf st).size:=h.perm.size_eq
theorem V0 {xs ys:Array Keyed}(hI:B3 xs)(h:ys.Perm xs):B3 ys:=λp hp=>hI p ((Array.perm_iff_toList_perm.mp h).mem_iff.mp hp)
theorem O0 {lo i j:Nat}{st:SortSt}(hi:lo<=i)(hj:j<=(arrOf st).size):Moved lo st (setArr st (mirror (arrOf st) i j ((j - i) / 2))) :=
 ⟨rfl,rfl,rfl,mirror_perm _ _ _ _,λk hk=>by show K (mirror (arrOf st) i j ((j - i) / 2)) k=_;rw [a2r hj,if_neg (by omega)]⟩
def Dn (xs:Array Keyed)(i j:Nat):Prop:=∀ p q,i<=p->p<=q->q < j->K xs q<=K xs p
theorem Up.more {xs:Array Keyed}{i j:Nat}(h:Up xs i j)(hj:i < j)(hx:K xs (j - 1)<=K xs j):Up xs i (j + 1):=λp q h1 h2 h3=>by
 rcases Nat.lt_or_ge q j with z | z
 ·exact h p q h1 h2 z
 ·have:q=j:=by omega
  subst this
  rcases Nat.lt_or_ge p q with z2 | z2
  ·exact Int.le_trans (h p (q - 1) h1 (by omega) (by omega)) hx
  ·have:p=q:=by omega
   rw [this];exact Int.le_refl _
theorem Dn.more {xs:Array Keyed}{i j:Nat}(h:Dn xs i j)(hj:i < j)(hx:K xs j<=K xs (j - 1)):Dn xs i (j + 1):=λp q h1 h2 h3=>by
 rcases Nat.lt_or_ge q j with z | z
 ·exact h p q h1 h2 z
 ·have:q=j:=by omega
  subst this
  rcases Nat.lt_or_ge p q with z2 | z2
  ·exact Int.le_trans hx (h p (q - 1) h1 (by omega) (by omega))
  ·have:p=q:=by omega
   rw [this];exact Int.le_refl _
theorem Up.one (xs:Array Keyed)(i:Nat):Up xs i (i + 1):=λp q h1 h2 h3=>by
 have:p=q:=by omega
 rw [this];exact Int.le_refl _
section
variable {prog:Program}{w:World}{A:Around}{E:Value->Shared->Prop}{s:Shared}[a3r prog w A s]
theorem a5n {st:SortSt}{i j:Nat}{Q:Option Bool->SortSt->Prop}(hk:kindOf st=o7.κ)(hI:B3 (arrOf st))(hi:i < (arrOf st).size)(hj:j < (arrOf st).size)(h:Q (some (decide (K (arrOf st) i < K (arrOf st) j))) st) :
  wpS (model prog w) A E s (ltAt' i j) Q st:=by
 obtain ⟨p,t1,e1,h1⟩:=a4O hI hi;obtain ⟨q,t2,e2,h2⟩:=a4O hI hj;rw [ltAt'_eq];refine wpS_bind (wpS_get ?_)
 show wpS _ _ _ _ (elem' (arrOf st) i >>= λx=>elem' (arrOf st) j >>= λy=>lt' x y) Q st
 exact wpS_bind (o5 e1 (wpS_bind (o5 e2 (a6n hk h1 h2 h))))
theorem b5h {st:SortSt}{lo a nr:Nat}{Q:Option (Option Nat) × Nat->SortSt->Prop}(hk:kindOf st=o7.κ)(hI:B3 (arrOf st))(h1:1<=a)(h2:a<=nr)(h3:lo + nr<=(arrOf st).size)(hu:Up (arrOf st) lo (lo + a))
  (h:∀ n,a<=n->n<=nr->Up (arrOf st) lo (lo + n)->(n=nr \/ K (arrOf st) (lo + n) < K (arrOf st) (lo + n - 1))->Q (none,n) st):wpS (model prog w) A E s (b2H lo a nr) Q st:=by
 unfold b2H;refine wpS_forRange (I:=λx c z=>z=st/\c=(none,x)/\Up (arrOf st) lo (lo + x)) ?_ ?_ ⟨rfl,rfl,hu⟩
 ·rintro x c z hx1 hx2 ⟨rfl,rfl,u⟩;dsimp only;refine wpS_bind (a5n hk hI (by omega) (by omega) ?_)
  by_cases hl:K (arrOf z) (lo + x) < K (arrOf z) (lo + x - 1)
  ·rw [decide_eq_true hl];exact wpS_pure (h x hx1 (by omega) u (.inr hl))
  ·rw [decide_eq_false hl];exact wpS_pure ⟨rfl,rfl,u.more (by omega) (Int.not_lt.mp hl)⟩
 ·rintro c z ⟨rfl,rfl,u⟩;rw [show max a nr=nr by omega] at u ⊢;exact h nr h2 (Nat.le_refl _) u (.inl rfl)
theorem a9P {st₀ st:SortSt}{lo n nr:Nat}{Q:Option Nat->SortSt->Prop}(hk:kindOf st₀=o7.κ)(hI:B3 (arrOf st₀))(hm:Moved lo st₀ st)(h1:1<=n)(h2:n<=nr)(h3:lo + nr<=(arrOf st₀).size)(hd:Dn (arrOf st) lo (lo + n))
  (h:∀ m st',Moved lo st₀ st'->1<=m->m<=nr->Up (arrOf st') lo (lo + m)->Q (some m) st'):wpS (model prog w) A E s (b8c lo n nr) Q st:=by
 have hsz:=hm.size;unfold b8c;refine wpS_bind (wpS_reverse ?_);have hm2:=hm.trans (O0 (lo:=lo) (i:=lo) (j:=lo + n) (Nat.le_refl _) (by omega));have hsz2:=hm2.size;refine wpS_bind (b5h (hm2.kind.trans hk) (V0 hI hm2.perm) h1 h2 (by omega) (λp q g1 g2 g3=>?_) λm m1 m2 m3 m4=>wpS_pure (h m _ hm2 (by omega) m2 m3))
 show K (mirror (arrOf st) lo (lo + n) _) p<=K (mirror (arrOf st) lo (lo + n) _) q
 rw [a2r (by omega),a2r (by omega),if_pos (by omega),if_pos (by omega)];exact hd _ _ (by omega) (by omega) (by omega)
theorem E7 {xs:Array Keyed}{i j k:Nat}(hj:j<=xs.size)(h:∀ p,i<=p->p < j->K xs p=K xs (j - 1)):K (mirror xs i j ((j - i) / 2)) k=K xs k:=a7C hj h k
theorem b2G {st₀ st:SortSt}{lo n nr:Nat}{Q:Option (Option Nat) × Nat × Nat->SortSt->Prop}(hk:kindOf st₀=o7.κ)(hI:B3 (arrOf st₀))(hm:Moved lo st₀ st)(h1:1<=n)(h2:n<=nr)(h3:lo + nr<=(arrOf st₀).size)(hd:Dn (arrOf st) lo (lo + n))
  (h:∀ m e st',Moved lo st₀ st'->n<=m->m<=nr->Dn (arrOf st') lo (lo + m)->e + 1<=m->(∀ i,lo + m - (e + 1)<=i->i < lo + m->K (arrOf st') i=K (arrOf st') (lo + m - 1))->Q (none,m,e) st'):wpS (model prog w) A E s (b9O lo n nr) Q st:=by
 unfold b9O;refine wpS_forRange (I:=λx c z=>∃ e,c=(none,x,e)/\Moved lo st₀ z/\Dn (arrOf z) lo (lo + x)/\e + 1<=x/\(∀ i,lo + x - (e + 1)<=i->i < lo + x->K (arrOf z) i=K (arrOf z) (lo + x - 1))) ?_ ?_ ⟨0,rfl,hm,hd,by omega,λi g1 g2=>by congr 1;omega⟩
 ·rintro x c z hx1 hx2 ⟨e,rfl,hm,hd,he,ha⟩;have hsz:=hm.size;have hk':=hm.kind.trans hk;have hI':=V0 hI hm.perm;dsimp only;refine wpS_bind (a5n hk' hI' (by omega) (by omega) ?_)
  by_cases hl:K (arrOf z) (lo + x) < K (arrOf z) (lo + x - 1)
  ·rw [decide_eq_true hl];dsimp only;rw [if_pos rfl]
   by_cases h0:e > 0
   ·rw [if_pos h0];refine wpS_bind (wpS_reverse (wpS_pure ⟨0,rfl,hm.trans (O0 (by omega) (by omega)),?_,by omega,λi g1 g2=>by congr 1;omega⟩));intro p q g1 g2 g3
    show K (mirror (arrOf z) _ _ _) q<=K (mirror (arrOf z) _ _ _) p
    rw [E7 (by omega) ha,E7 (by omega) ha];exact (hd.more (by omega) (Int.le_of_lt hl)) p q g1 g2 (by omega)
   ·rw [if_neg h0];exact wpS_pure ⟨0,rfl,hm,hd.more (by omega) (Int.le_of_lt hl),by omega,λi g1 g2=>by congr 1;omega⟩
  ·rw [decide_eq_false hl];dsimp only;rw [if_neg Bool.false_ne_true];refine wpS_bind (a5n hk' hI' (by omega) (by omega) ?_)
   by_cases hg:K (arrOf z) (lo + x - 1) < K (arrOf z) (lo + x)
   ·rw [decide_eq_true hg];exact wpS_pure (h x e z hm hx1 (by omega) hd he ha)
   ·rw [decide_eq_false hg];have eq:K (arrOf z) (lo + x)=K (arrOf z) (lo + x - 1):=by omega
    refine wpS_pure ⟨e + 1,rfl,hm,hd.more (by omega) (by omega),by omega,λi g1 g2=>?_⟩;rw [show lo + (x + 1) - 1=lo + x by omega]
    rcases Nat.lt_or_ge i (lo + x) with z1 | z1
    ·rw [eq];exact ha i (by omega) z1
    ·have:i=lo + x:=by omega
     rw [this]
 ·rintro c z ⟨e,rfl,hm,hd,he,ha⟩;rw [show max n nr=nr by omega] at hd he ha ⊢;exact h nr e z hm h2 (Nat.le_refl _) hd he ha
theorem a2S {st₀ st:SortSt}{lo n nr:Nat}{Q:Option Nat->SortSt->Prop}(hk:kindOf st₀=o7.κ)(hI:B3 (arrOf st₀))(hm:Moved lo st₀ st)(h2:n + 1<=nr)(h3:lo + nr<=(arrOf st₀).size)(hd:Dn (arrOf st) lo (lo + (n + 1)))
  (h:∀ m st',Moved lo st₀ st'->1<=m->m<=nr->Up (arrOf st') lo (lo + m)->Q (some m) st'):wpS (model prog w) A E s (b7e lo n nr) Q st:=by
 unfold b7e;refine wpS_bind (wpS_lift (wpAny_rule ⟨rfl,?_⟩));refine wpS_bind (b2G hk hI hm (by omega) h2 h3 hd λm e z hm hx1 hx2 hd he ha=>?_);have hsz:=hm.size;dsimp only
 by_cases h0:e > 0
 ·rw [if_pos h0];refine wpS_bind (wpS_reverse (a9P hk hI (hm.trans (O0 (by omega) (by omega))) (by omega) hx2 h3 ?_ h));intro p q g1 g2 g3
  show K (mirror (arrOf z) _ _ _) q<=K (mirror (arrOf z) _ _ _) p
  rw [E7 (by omega) ha,E7 (by omega) ha];exact hd p q g1 g2 g3
 ·rw [if_neg h0];exact a9P hk hI hm (by omega) hx2 h3 hd h
theorem a1W {st:SortSt}{lo nr:Nat}{Q:Option Nat->SortSt->Prop}(hk:kindOf st=o7.κ)(hI:B3 (arrOf st))(h1:1<=nr)(h3:lo + nr<=(arrOf st).size)
  (h:∀ m st',Moved lo st st'->1<=m->m<=nr->Up (arrOf st') lo (lo + m)->Q (some m) st'):wpS (model prog w) A E s (countRun' lo nr) Q st:=by
 rw [b1o];refine wpS_bind (b5h hk hI (Nat.le_refl 1) h1 h3 (Up.one _ _) λn n1 n2 hu ho=>?_);dsimp only
 by_cases e:n=nr
 ·rw [if_pos (by simpa using e)];exact wpS_pure (h n st Moved.rfl n1 n2 hu)
 ·rw [if_neg (by simpa using e)];have hl:=ho.resolve_left e
  by_cases g:n > 1
  ·rw [if_pos g];refine wpS_bind (a5n hk hI (by omega) (by omega) ?_)
   by_cases hr:K (arrOf st) lo < K (arrOf st) (lo + n - 1)
   ·rw [decide_eq_true hr];exact wpS_pure (h n st Moved.rfl n1 n2 hu)
   ·rw [decide_eq_false hr];dsimp only;rw [if_neg Bool.false_ne_true];have ha:∀ p,lo<=p->p < lo + n->K (arrOf st) p=K (arrOf st) (lo + n - 1):=λp p1 p2=>by
     have a1:=hu lo p (by omega) p1 p2;have a2:=hu p (lo + n - 1) p1 (by omega) (by omega)
     omega
    refine wpS_bind (wpS_reverse (a2S hk hI (O0 (Nat.le_refl _) (by omega)) (by omega) h3 ?_ h));intro p q g1 g2 g3
    show K (mirror (arrOf st) _ _ _) q<=K (mirror (arrOf st) _ _ _) p
    rw [E7 (by omega) ha,E7 (by omega) ha];have d0:Dn (arrOf st) lo (lo + n):=λp q g1 g2 g3=>by rw [ha p g1 (by omega),ha q (by omega) g3];exact Int.le_refl _
    exact (d0.more (by omega) (Int.le_of_lt hl)) p q g1 g2 (by omega)
  ·rw [if_neg g];have:n=1:=by omega
   subst this;refine a2S hk hI Moved.rfl (by omega) h3 ?_ h;have d0:Dn (arrOf st) lo (lo + 1):=λp q g1 g2 g3=>by
    have:p=q:=by omega
    rw [this];exact Int.le_refl _
   exact d0.more (by omega) (Int.le_of_lt hl)
theorem b3p {st:SortSt}{lo n ok:Nat}{Q:Bool->SortSt->Prop}(hk:kindOf st=o7.κ)(hI:B3 (arrOf st))(h1:1<=ok)(h2:ok<=n)(h3:lo + n<=(arrOf st).size)(hu:Up (arrOf st) lo (lo + ok))
  (h:∀ st',Moved lo st st'->Up (arrOf st') lo (lo + n)->Q true st'):wpS (model prog w) A E s (binarySort' lo n ok) Q st:=by
 rw [binarySort'_eq];refine wpS_bind (wpS_mono (wpS_forRange (I:=λx c z=>c=(none,())/\Moved lo st z/\Up (arrOf z) lo (lo + x)) (Q:=λc z=>c=(none,())/\Moved lo st z/\Up (arrOf z) lo (lo + n)) ?_ ?_ ⟨rfl,Moved.rfl,by rw [show max ok 1=ok by omega];exact hu⟩) ?_)
 ·rintro x c z hx1 hx2 ⟨rfl,hm,u⟩;have hsz:=hm.size;have hk':=hm.kind.trans hk;have hI':=V0 hI hm.perm;refine wpS_bind (wpS_mono (wpS_forRange (I:=λy c z'=>z'=z/\∃ l r,c=(none,l,r)/\l<=r/\r<=x/\r - l<=x - y/\(∀ i,lo<=i->i < lo + l->K (arrOf z) i<=K (arrOf z) (lo + x))/\(∀ i,lo + r<=i->i < lo + x->K (arrOf z) (lo + x) < K (arrOf z) i))
   (Q:=λc z'=>z'=z/\∃ l r,c=(none,l,r)/\l<=x/\(∀ i,lo<=i->i < lo + l->K (arrOf z) i<=K (arrOf z) (lo + x))/\(∀ i,lo + l<=i->i < lo + x->K (arrOf z) (lo + x) < K (arrOf z) i)) ?_ ?_ ⟨rfl,0,x,rfl,by omega,by omega,by omega,λi _ _=>by omega,λi _ _=>by omega⟩) ?_)
  ·rintro y c z' _ hy ⟨rfl,l,r,rfl,i1,i2,i3,i4,i5⟩;dsimp only
   by_cases hlr:l ≥ r
   ·rw [if_pos hlr];have:l=r:=by omega
    subst this;exact wpS_pure ⟨rfl,l,l,rfl,i2,i4,i5⟩
   ·rw [if_neg hlr];refine wpS_bind (a5n hk' hI' (by omega) (by omega) ?_)
    by_cases hl:K (arrOf z') (lo + x) < K (arrOf z') (lo + (l + r) / 2)
    ·rw [decide_eq_true hl];exact wpS_pure ⟨rfl,l,(l + r) / 2,rfl,by omega,by omega,by omega,i4,λi g1 g2=>Int.lt_of_lt_of_le hl (u _ i (by omega) g1 g2)⟩
    ·rw [decide_eq_false hl];exact wpS_pure ⟨rfl,(l + r) / 2 + 1,r,rfl,by omega,by omega,by omega,λi g1 g2=>Int.le_trans (u i (lo + (l + r) / 2) g1 (by omega) (by omega)) (Int.not_lt.mp hl),i5⟩
  ·rintro c z' ⟨rfl,l,r,rfl,i1,i2,i3,i4,i5⟩;have:l=r:=by omega
   subst this;exact ⟨rfl,l,l,rfl,i2,i4,i5⟩
  ·rintro c z' ⟨rfl,l,r,rfl,i2,i4,i5⟩
   show wpS _ _ _ _ (do moveDown' (lo + x) (lo + l);pure (ForInStep.yield (none,()))) _ _
   rw [moveDown'_eq];have hx:lo + x < (arrOf z').size:=by omega
   have kb:∀ k,K (bubble (arrOf z') (lo + x) (lo + x - (lo + l))) k=if k=lo + l then K (arrOf z') (lo + x) else if lo + l < k/\k<=lo + x then K (arrOf z') (k - 1) else K (arrOf z') k:=λk=>by
    rw [b1y hx (by omega),show lo + x - (lo + x - (lo + l))=lo + l by omega]
   refine wpS_bind (wpS_modify (wpS_pure ⟨rfl,hm.trans ⟨rfl,rfl,rfl,bubble_perm _ _ _,λk hk=>?_⟩,λp q g1 g2 g3=>?_⟩))
   ·show K (bubble _ _ _) k=_
    rw [kb,if_neg (by omega),if_neg (by omega)]
   ·show K (bubble _ _ _) p<=K (bubble _ _ _) q
    rw [kb,kb]
    repeat' split
    all_goals first
     | (exfalso;omega)
     | exact Int.le_refl _
     | exact i4 _ (by omega) (by omega)
     | exact Int.le_of_lt (i5 _ (by omega) (by omega))
     | exact u _ _ (by omega) (by omega) (by omega)
 ·rintro c z ⟨rfl,hm,u⟩;rw [show max (max ok 1) n=n by omega] at u;exact ⟨rfl,hm,u⟩
 ·rintro c z ⟨rfl,hm,u⟩;exact wpS_pure (h z hm u)
end
end MwSortR
namespace MwSortR
open PySem PyProof.Rows
variable [o7]
def J8 (xs:Array Keyed):Nat->List (Nat × Nat × Nat)->Nat->Prop
 | s,[],e=>s=e
 | s,c :: l,e=>c.1=s/\1<=c.2.1 /\ Up xs s (s + c.2.1)/\J8 xs (s + c.2.1) l e
theorem J8.le {xs:Array Keyed}:∀ {l:List (Nat × Nat × Nat)} {s e:Nat},J8 xs s l e->s + l.length <= e
 | [],s,e,h=>by have:s=e:=h;simp [this]
 | c :: l,s,e,h=>by
  have:=J8.le h.2.2.2;have h1:=h.2.1;rw [List.length_cons]
  omega
theorem Up.congr {xs ys:Array Keyed}{i j:Nat}(h:∀ k,i<=k->k < j->K ys k=K xs k)(u:Up xs i j):Up ys i j:=λp q h1 h2 h3=>by
 rw [h p h1 (by omega),h q (by omega) h3];exact u p q h1 h2 h3
theorem J8.congr {xs ys:Array Keyed}:∀ {l:List (Nat × Nat × Nat)} {s e:Nat},(∀ k,s<=k->k < e->K ys k=K xs k)->J8 xs s l e->J8 ys s l e
 | [],s,e,_,r=>r
 | c :: l,s,e,h,r=>by
  have:=J8.le r.2.2.2;exact ⟨r.1,r.2.1,r.2.2.1.congr λk h1 h2=>h k h1 (by omega),J8.congr (λk h1 h2=>h k (by omega) h2) r.2.2.2⟩
theorem J8.push {xs:Array Keyed}{n q:Nat}:∀ {l:List (Nat × Nat × Nat)} {s e:Nat},J8 xs s l e->1<=n->Up xs e (e + n)->J8 xs s (l ++ [(e,n,q)]) (e + n)
 | [],s,e,r,h,u=>by
  have:s=e:=r;subst this;exact ⟨rfl,h,u,rfl⟩
 | c :: l,s,e,r,h,u=>⟨r.1,r.2.1,r.2.2.1,J8.push r.2.2.2 h u⟩
theorem J8.mod {xs:Array Keyed}(f:Nat × Nat × Nat->Nat × Nat × Nat)(hf:∀ c,(f c).1=c.1 /\ (f c).2.1=c.2.1):∀ {l:List (Nat × Nat × Nat)} {i s e:Nat},J8 xs s l e->J8 xs s (l.modify i f) e
 | [],i,s,e,r=>by cases i <;> exact r
 | c :: l,0,s,e,r=>by
  show (f c).1=s/\1<=(f c).2.1 /\ Up xs s (s + (f c).2.1)/\J8 xs (s + (f c).2.1) l e
  rw [(hf c).1,(hf c).2];exact r
 | c :: l,i + 1,s,e,r=>⟨r.1,r.2.1,r.2.2.1,J8.mod f hf r.2.2.2⟩
theorem J8.two {xs:Array Keyed}:∀ {l:List (Nat × Nat × Nat)} {i s e:Nat},J8 xs s l e->i + 1 < l.length ->
  ∃ p m pw n pw2,l[i]? = some (p,m,pw)/\l[i + 1]? = some (p + m,n,pw2)/\1<=m/\1<=n/\s<=p/\p + m + n<=e/\Up xs p (p + m)/\Up xs (p + m) (p + m + n) /\
   ∀ ys,(∀ k,k < p \/ p + m + n<=k->K ys k=K xs k)->Up ys p (p + m + n)->J8 ys s ((l.set i (p,m + n,pw)).eraseIdx (i + 1)) e
 | [],i,s,e,r,h=>by simp at h
 | [c],0,s,e,r,h=>by simp at h
 | (p,m,pw) :: (q,n,pw2) :: l,0,s,e,r,h=>by
  obtain ⟨h1,h2,h3,h4,h5,h6,h7⟩:=r;dsimp only at h1 h2 h3 h4 h5 h6 h7;subst h1;have:=J8.le h7;refine ⟨p,m,pw,n,pw2,rfl,by rw [← h4];rfl,h2,h5,Nat.le_refl _,by omega,h3,h6,λys hy hu=>?_⟩
  show p=p/\1<=m + n/\Up ys p (p + (m + n))/\J8 ys (p + (m + n)) l e
  rw [← Nat.add_assoc];exact ⟨rfl,by omega,hu,h7.congr λk a b=>hy k (.inr a)⟩
 | c :: l,i + 1,s,e,r,h=>by
  obtain ⟨p,m,pw,n,pw2,g1,g2,g3,g4,g5,g6,g7,g8,g9⟩:=J8.two (i:=i) r.2.2.2 (by simpa using h);refine ⟨p,m,pw,n,pw2,by simpa using g1,by simpa using g2,g3,g4,by omega,g6,g7,g8,λys hy hu=>?_⟩;exact ⟨r.1,r.2.1,r.2.2.1.congr λk a b=>hy k (.inl (by omega)),g9 ys hy hu⟩
section
variable {prog:Program}{w:World}{A:Around}{E:Value->Shared->Prop}{s:Shared}[a3r prog w A s]
structure a1r (a₀:Array Keyed)(lo:Nat)(st:SortSt):Prop where
 kind:kindOf st=o7.κ
 failed:failedOf st=none
 perm:(arrOf st).Perm a₀
 runs:J8 (arrOf st) 0 (pendingOf st).toList lo
theorem a1r.merge {a₀:Array Keyed}{lo i:Nat}{st:SortSt}{Q:Bool->SortSt->Prop}(hI:B3 a₀)(h:a1r a₀ lo st)(hlo:lo<=a₀.size)(hi:i + 1 < (pendingOf st).size)
  (hq:∀ st',a1r a₀ lo st'->(pendingOf st').size + 1=(pendingOf st).size -> (∀ k,lo<=k->K (arrOf st') k=K (arrOf st) k)->Q true st'):wpS (model prog w) A E s (mergeAt' i) Q st:=by
 obtain ⟨p,m,pw,n,pw2,g1,g2,g3,g4,g5,g6,g7,g8,g9⟩:=h.runs.two (i:=i) (by simpa using hi);have hsz:=h.perm.size_eq;refine a1P h.kind h.failed (V0 hI h.perm) (by simpa using g1) (by simpa using g2) g3 g4 (by omega) g7 g8 λst' hJ hp=>hq st' ⟨hJ.kind.trans h.kind,hJ.failed.trans h.failed,?_,?_⟩ ?_ λk hk=>hJ.out k (.inr (by omega))
 ·exact (Array.perm_iff_toList_perm.mpr hJ.perm).trans h.perm
 ·rw [hp];have e:(((pendingOf st).setIfInBounds i (p,m + n,pw)).eraseIdxIfInBounds (i + 1)).toList=((pendingOf st).toList.set i (p,m + n,pw)).eraseIdx (i + 1):=by simp
  rw [e];exact g9 _ hJ.out hJ.up
 ·have e:(((pendingOf st).setIfInBounds i (p,m + n,pw)).eraseIdxIfInBounds (i + 1)).toList=((pendingOf st).toList.set i (p,m + n,pw)).eraseIdx (i + 1):=by simp
  rw [hp,← Array.length_toList,e,List.length_eraseIdx,List.length_set,if_pos (by simpa using hi),Array.length_toList]
  omega
theorem wpS_sortAll {st:SortSt}{a₀:Array Keyed}{Q:Unit->SortSt->Prop}(hI:B3 a₀)(hp:(arrOf st).Perm a₀)(hk:kindOf st=o7.κ)(hf:failedOf st=none)(hpe:pendingOf st = #[])
  (h:∀ st',(arrOf st').Perm a₀->failedOf st'=none->SortedTo (arrOf st') a₀.size -> Q () st'):wpS (model prog w) A E s sortRuns' Q st:=by
 rw [sortRuns'_eq];refine wpS_bind (wpS_get ?_);dsimp only;have hsz:=hp.size_eq;rw [hsz];generalize minRun' a₀.size a₀.size 0=mr;refine wpS_bind (wpS_mono (wpS_forRange (I:=λx c z=>∃ lo,c=(none,lo)/\x<=lo/\lo<=a₀.size /\ a1r a₀ lo z) (Q:=λc z=>c.1=none/\a1r a₀ a₀.size z) ?_ ?_ ⟨0,rfl,Nat.le_refl _,Nat.zero_le _,hk,hf,hp,by rw [hpe];rfl⟩) ?_)
 ·rintro x c z _ hx ⟨lo,rfl,i1,i2,i3⟩;dsimp only
  by_cases hlo:lo ≥ a₀.size
  ·rw [if_pos hlo];have:lo=a₀.size:=by omega
   subst this;exact wpS_pure ⟨rfl,i3⟩
  ·rw [if_neg hlo];have hz:=i3.perm.size_eq;refine wpS_bind (a1W i3.kind (V0 hI i3.perm) (by omega) (by omega) λm z1 hm m1 m2 mu=>?_);dsimp only;have keep:∀ z2:SortSt,Moved lo z z2->a1r a₀ lo z2:=λz2 hm=>⟨hm.kind.trans i3.kind,hm.failed.trans i3.failed,hm.perm.trans i3.perm,by rw [hm.pend];exact i3.runs.congr λk _ hk=>hm.out k hk⟩;have fin:∀ (n:Nat) (z2:SortSt),1<=n->lo + n<=a₀.size -> a1r a₀ lo z2->Up (arrOf z2) lo (lo + n)->wpS (model prog w) A E s (do
      modify λy=>setPending y ((pendingOf y).push (lo,n,0))
      (pure (ForInStep.yield ((none,lo + n):Option Unit × Nat)):StateT SortSt Sem (ForInStep (Option Unit × Nat)))) (λr st'=>match r with | .done c'=>c'.1=none/\a1r a₀ a₀.size st' | .yield c'=>∃ lo,c'=(none,lo)/\x + 1<=lo/\lo<=a₀.size /\ a1r a₀ lo st') z2:=λn z2 n1 n2 hi hu=>by
    refine wpS_bind (wpS_modify (wpS_pure ⟨lo + n,rfl,by omega,n2,hi.kind,hi.failed,hi.perm,?_⟩))
    show J8 (arrOf z2) 0 ((pendingOf z2).push (lo,n,0)).toList (lo + n)
    rw [Array.toList_push];exact hi.runs.push n1 hu
   have back:∀ (n:Nat) (z2:SortSt),1<=n->lo + n<=a₀.size -> a1r a₀ lo z2->Up (arrOf z2) lo (lo + n)->∀ (pw:Nat) (f:Nat->Option Unit × Unit->StateT SortSt Sem (ForInStep (Option Unit × Unit))),
     (∀ y c,f y c=do
      let g ← get
      match (if (pendingOf g).size > 1 then (pendingOf g)[(pendingOf g).size - 2]? else none) with
      | some (_,_,older)=>if older<=pw then pure (.done (none,())) else do
        let r ← mergeAt' ((pendingOf g).size - 2)
        if (!r)=true then pure (.done (some (),())) else pure (.yield (none,()))
      | _=>pure (.done (none,()))) ->
     wpS (model prog w) A E s (forIn [:a₀.size] (none,()) f) (λc z3=>c=(none,())/\a1r a₀ lo z3/\Up (arrOf z3) lo (lo + n)) z2:=λn z2 n1 n2 hi hu pw f hf=>by
    refine wpS_forRange (I:=λ_ c z3=>c=(none,())/\a1r a₀ lo z3/\Up (arrOf z3) lo (lo + n)) ?_ (λc z3 hc=>hc) ⟨rfl,hi,hu⟩;rintro y c z3 _ hy ⟨rfl,hi,hu⟩;rw [hf];refine wpS_bind (wpS_get ?_)
    by_cases h1:(pendingOf z3).size > 1
    ·rw [if_pos h1];have e:(pendingOf z3)[(pendingOf z3).size - 2]? = some (pendingOf z3)[(pendingOf z3).size - 2]:=getElem?_pos _ _ (by omega);rw [e];dsimp only
     by_cases ho:(pendingOf z3)[(pendingOf z3).size - 2].2.2 <= pw
     ·rw [if_pos ho];exact wpS_pure ⟨rfl,hi,hu⟩
     ·rw [if_neg ho];refine wpS_bind (hi.merge hI i2 (by omega) λz4 hi4 _ hk4=>?_);exact wpS_pure ⟨rfl,hi4,hu.congr λk a b=>hk4 k a⟩
    ·rw [if_neg h1];exact wpS_pure ⟨rfl,hi,hu⟩
   by_cases hn:m < mr
   ·rw [if_pos hn];refine wpS_bind (wpS_lift (wpAny_rule ⟨rfl,?_⟩));have hz1:=hm.size;refine wpS_bind (b3p (hm.kind.trans i3.kind) (V0 hI (hm.perm.trans i3.perm)) m1 (by omega) (by omega) mu λz2 hm2 mu2=>?_);simp only [Bool.not_true,Bool.false_eq_true,if_false];refine wpS_bind (wpS_get ?_);have hi2:=keep z2 (hm.trans hm2);cases eb:(pendingOf z2).back? with
    | none=>exact fin _ z2 (by omega) (by omega) hi2 mu2
    | some t =>
     obtain ⟨s1,n1,t1⟩:=t;dsimp only;refine wpS_bind (wpS_mono (back _ z2 (by omega) (by omega) hi2 mu2 _ _ (λy c=>rfl)) ?_);rintro c z3 ⟨rfl,hi3,mu3⟩;dsimp only;refine wpS_bind (wpS_modify ?_);refine fin _ _ (by omega) (by omega) ⟨hi3.kind,hi3.failed,hi3.perm,?_⟩ mu3
     show J8 (arrOf z3) 0 ((pendingOf z3).modify _ _).toList lo
     rw [Array.toList_modify];refine hi3.runs.mod _ ?_;exact λc=>⟨rfl,rfl⟩
   ·rw [if_neg hn];refine wpS_bind (wpS_get ?_);have hi2:=keep z1 hm;cases eb:(pendingOf z1).back? with
    | none=>exact fin _ z1 (by omega) (by omega) hi2 mu
    | some t =>
     obtain ⟨s1,n1,t1⟩:=t;dsimp only;refine wpS_bind (wpS_mono (back _ z1 (by omega) (by omega) hi2 mu _ _ (λy c=>rfl)) ?_);rintro c z3 ⟨rfl,hi3,mu3⟩;dsimp only;refine wpS_bind (wpS_modify ?_);refine fin _ _ (by omega) (by omega) ⟨hi3.kind,hi3.failed,hi3.perm,?_⟩ mu3
     show J8 (arrOf z3) 0 ((pendingOf z3).modify _ _).toList lo
     rw [Array.toList_modify];refine hi3.runs.mod _ ?_;exact λc=>⟨rfl,rfl⟩
 ·rintro c z ⟨lo,rfl,i1,i2,i3⟩;have:lo=a₀.size:=by omega
  subst this;exact ⟨rfl,i3⟩
 ·rintro ⟨c1,c2⟩ z ⟨e,hi⟩;dsimp only at e;subst e;dsimp only;have hle:=hi.runs.le;simp only [Array.length_toList,Nat.zero_add] at hle;refine wpS_bind (wpS_mono (wpS_forRange (I:=λx c z=>c=(none,())/\a1r a₀ a₀.size z/\(pendingOf z).size + x<=a₀.size) (Q:=λc z=>c=(none,())/\a1r a₀ a₀.size z/\(pendingOf z).size <= 1) ?_ ?_ ⟨rfl,hi,hle⟩) ?_)
  ·rintro x c z _ hx ⟨rfl,hi,hs⟩;refine wpS_bind (wpS_get ?_)
   by_cases h1:(pendingOf z).size <= 1
   ·rw [if_pos h1];exact wpS_pure ⟨rfl,hi,h1⟩
   ·rw [if_neg h1];refine wpS_bind (hi.merge hI (Nat.le_refl _) ?_ λz4 hi4 hs4 _=>wpS_pure ⟨rfl,hi4,by omega⟩)
    repeat' split
    all_goals omega
  ·rintro c z ⟨rfl,hi,hs⟩;exact ⟨rfl,hi,by omega⟩
  ·rintro c z ⟨rfl,hi,hs⟩;refine wpS_pure (h z hi.perm hi.failed ?_);have hr:=hi.runs
   match e:(pendingOf z).toList,hr with
   | [],hr =>
    have:0=a₀.size:=hr;intro i j _ hj
    omega
   | [c],hr =>
    obtain ⟨h1,h2,h3,h4⟩:=hr;have h4':0 + c.2.1=a₀.size:=h4;rw [h4'] at h3;exact λi j hij hj=>h3 i j (Nat.zero_le _) hij hj
   | c :: d :: l,hr =>
    have:(pendingOf z).toList.length=(c :: d :: l).length:=by rw [e]
    simp at this
    omega
end
end MwSortR
namespace MwSort
open PySem PyProof.Rows
section
variable {prog:Program}{w:World}{A:Around}{E:Value->Shared->Prop}{s:Shared}
def a7A:MwSortR.o7:=⟨numOf,oneType',λv=>∃ n t,v = .int n t⟩
theorem b3F:@MwSortR.a3r a7A prog w A s:=by
 letI:=a7A
 refine ⟨λx y Q E hx hy q=>?_⟩;obtain ⟨n,t,rfl⟩:=hx;obtain ⟨m,u,rfl⟩:=hy
 show wpAny _ _ (keyLt' oneType' (.int n t) (.int m u)) Q E s
 rw [keyLt'_oneType];exact oneLt_int q
theorem wpS_sortAll {st:SortSt}{a₀:Array Keyed}{Q:Unit->SortSt->Prop}(hI:IntKeys a₀)(hp:(arrOf st).Perm a₀)(hk:kindOf st=oneType')(hf:failedOf st=none)(hpe:pendingOf st = #[])
  (h:∀ st',(arrOf st').Perm a₀->failedOf st'=none->SortedTo (arrOf st') a₀.size -> Q () st'):wpS (model prog w) A E s sortRuns' Q st:=by
 letI:=a7A
 haveI:MwSortR.a3r prog w A s:=b3F
 exact MwSortR.wpS_sortAll (λp hp=>hI p hp) hp hk hf hpe h
theorem a9v {h:Heap}{a:Addr}{vs:List Value}{out:Array Value}{b:Addr}{o:Obj}(hb:b≠a)(e:h.get? b=some o):(sortedHeap h a vs out).get? b=some o:=by
 unfold sortedHeap;rw [Heap.get?_update_other _ _ hb.symm];refine Heap.get?_push_of_some _ (Heap.get?_push_of_some _ ?_);rw [Heap.get?_update_other _ _ hb.symm];exact e
theorem a0E {h:Heap} {a:Addr} {vs xs:List Value} {n:Nat} {out:Array Value} (e:h.get? a=some (seqObj "list" xs.toArray n)):∃ c,(sortedHeap h a vs out).get? a=some (seqObj "list" out c):=by
 have hlt:a < h.objs.size:=Heap.lt_size e;have e1:=get?_update_seq e λ_=>#[];have e2:=Heap.get?_push_of_some (seqObj "list" #[] 0) (Heap.get?_push_of_some (seqObj "tuple" vs.toArray 0) e1);exact ⟨_,get?_update_seq e2 λ_=>out⟩
theorem a9E {a:Addr} {vs:List Value} {ns:List Int} {n:Nat} {P:Fin->Shared->Prop} (ho:s.heap.get? a=some (seqObj "list" vs.toArray n)) (hI:IntsAre vs ns) (hz:vs.length <= sizeLine)
  (h:∀ (out:Array Value) (ms:List Int),IntsAre out.toList ms->ms.Perm ns->ms.Pairwise (·<=·)->P (.done (.ret .none)) { s with heap:=sortedHeap s.heap a vs out }):wpAny (model prog w) A (Builtin.«list.sort» ⟨[.ref a],[]⟩) P E s:=by
 rw [list_sort_plain];have ha:a < s.heap.objs.size:=Heap.lt_size ho;have hzA:vs.toArray.size <= sizeLine:=by rw [List.size_toArray];exact hz
 refine wpAny_bind (listItems_at ho rfl (wpAny_bind (listUpdate_at ho rfl ?_ (hsz:=hzA) (hsz2:=Nat.zero_le _))));obtain ⟨c1,g1⟩:∃ c,(s.heap.update a (Obj.mapSeq λ_=>#[])).get? a=some (seqObj "list" #[] c):=⟨_,get?_update_seq ho λ_=>#[]⟩;refine wpAny_bind (seqEpoch_at g1 rfl (wpAny_bind (wpAny_newTuple (wpAny_bind (wpAny_newList (wpAny_holding ?_))))));have g2:=Heap.get?_push_of_some (seqObj "list" #[] 0) (Heap.get?_push_of_some (seqObj "tuple" vs.toArray 0) g1)
 show wpAny (model prog w) A _ P E { s with heap:=((s.heap.update a (Obj.mapSeq λ_=>#[])).push (seqObj "tuple" vs.toArray 0)).push (seqObj "list" #[] 0) }
 dsimp only;have hl:vs.toArray.size=vs.length:=by simp
 have fin:∀ z:SortSt,(arrOf z).Perm (pairsOf vs)->SortedTo (arrOf z) (pairsOf vs).size -> P (.done (.ret .none)) { s with heap:=sortedHeap s.heap a vs ((arrOf z).map (·.2)) }:=λz p q=>by
  obtain ⟨ms,i1,i2,i3⟩:=sorted_out hI p q;exact h _ ms i1 i2 i3
 by_cases few:vs.toArray.size < 2
 ·rw [if_pos few,if_pos few];refine wpAny_bind (wpAny_pure ?_);rw [StateT.run_pure];refine wpAny_bind (wpAny_pure ?_);dsimp only;refine wpAny_bind (seqEpoch_at g2 rfl (wpAny_bind (listUpdate_at g2 rfl ?_ (hsz:=Nat.zero_le _) (hsz2:=?_))))
  ·simp only [bne_self_eq_false,Bool.false_eq_true,if_false];refine wpAny_pure (fin (SortSt.mk' general' (vs.toArray.zip vs.toArray) #[] 7 none) (Array.Perm.refl _) λi j hij hj=>?_);rw [pairsOf_size] at hj;have:i=j:=by omega
   rw [this];exact Int.le_refl _
  ·rw [Array.size_map]
   show (pairsOf vs).size <= _
   rw [pairsOf_size];omega
 ·rw [if_neg few,if_neg few];obtain ⟨x,y,r,rfl⟩:∃ x y r,vs=x :: y :: r:=by
   rcases vs with _ | ⟨x,_ | ⟨y,r⟩⟩
   ·exact absurd (by simp) few
   ·exact absurd (by simp) few
   ·exact ⟨x,y,r,rfl⟩
  rw [keyKind_ints hI];refine wpAny_bind (wpAny_pure ?_);refine wpAny_bind (wpAny_mono (wpS_sortAll (a₀:=pairsOf (x :: y :: r)) (st:=SortSt.mk' oneType' ((x :: y :: r).toArray.zip (x :: y :: r).toArray) #[] 7 none) (Q:=λ_ z=>(arrOf z).Perm (pairsOf (x :: y :: r))/\failedOf z=none/\SortedTo (arrOf z) (pairsOf (x :: y :: r)).size)
   hI.intKeys (Array.Perm.refl _) rfl rfl rfl λz b1 b2 b3=>⟨b1,b2,b3⟩) ?_ λ_ _ e=>e)
  rintro ⟨⟨⟩,z⟩ s' ⟨rfl,p,f,q⟩;dsimp only;refine wpAny_bind (seqEpoch_at g2 rfl (wpAny_bind (listUpdate_at g2 rfl ?_ (hsz:=Nat.zero_le _) (hsz2:=?_))))
  ·rw [f];simp only [bne_self_eq_false,Bool.false_eq_true,if_false];exact wpAny_pure (fin z p q)
  ·have:=(Array.size_map (f:=(·.2)) (xs:=arrOf z)).trans (p.size_eq.trans (pairsOf_size _));rw [this];omega
theorem a6l {v:Value}{ns:List Int}{Q:Value->Shared->Prop}
  (hc:∀ R:List Value->Shared->Prop,(∀ (vs:List Value) (h₁:Heap) (t:Nat) (dr:Drawn) (ks:List Int),IntsAre vs ks->ks.Perm ns->vs.length <= sizeLine->(∀ b o,s.heap.get? b=some o->h₁.get? b=some o)->R vs { s with heap:=h₁,toks:=t,drawn:=dr })->wpAny (model prog w) A.in1 (collect v) R E s)
  (h:∀ (h₁ h':Heap) (t:Nat) (dr:Drawn) (D:Addr) (c:Nat) (out:List Value) (ms:List Int),(∀ b o,s.heap.get? b=some o->h₁.get? b=some o)->(∀ b o,h₁.get? b=some o->h'.get? b=some o)->h₁.objs.size <= D->h'.get? D=some (seqObj "list" out.toArray c)->IntsAre out ms->ms.Perm ns->ms.Pairwise (·<=·)->Q (.ref D) { s with heap:=h',toks:=t,drawn:=dr }) :
  wpAny (model prog w) A (call (.builtin "sorted") [v]) Q E s:=by
 refine Calls.call_function_entry kind_sorted plain_sorted entry_sorted (args_sorted1 _) ?_;unfold Builtin.«sorted»;refine wpAny_bind (m:=checkCount "sorted" 1 1 _) (wpAny_pure (wpAny_bind (hc _ λvs h₁ t dr ks hI hP hz hk=>wpAny_bind (wpAny_newList ?_))));have g:(h₁.push (seqObj "list" vs.toArray 0)).get? h₁.objs.size=some (seqObj "list" vs.toArray 0):=Heap.get?_push_size _ rfl
 show wpAny _ _ _ _ _ { s with heap:=h₁.push (seqObj "list" vs.toArray 0),toks:=t,drawn:=dr }
 refine wpAny_bind (wpAny_holding (wpAny_call_entry slot_list_sort ⟨_,g,rfl⟩ entry_list_sort (a9E g hI hz λout ms i1 i2 i3=>⟨_,rfl,?_⟩) (args_list_sort _)));obtain ⟨c,gc⟩:=a0E (vs:=vs) (out:=out) g;exact wpAny_pure ⟨_,rfl,h h₁ _ t dr _ c out.toList ms hk (λb o e=>a9v (Nat.ne_of_lt (Heap.lt_size e)) (Heap.get?_push_of_some _ e)) (Nat.le_refl _) (by simpa using gc) i1 (i2.trans hP) i3⟩
theorem a1y {p:Addr} {T:String} {o:Obj} {vs:List Value} {n:Nat} {ns:List Int} {Q:Value->Shared->Prop} (hT:T = "list" \/ T = "tuple") (ho:s.heap.get? p=some o) (hc:o.cls = .type T) (hd:o.data = .seq vs.toArray n) (hI:IntsAre vs ns) (hz:vs.length <= sizeLine)
  (h:∀ (h₁ h':Heap) (t:Nat) (dr:Drawn) (D:Addr) (c:Nat) (out:List Value) (ms:List Int),(∀ b o,s.heap.get? b=some o->h₁.get? b=some o)->(∀ b o,h₁.get? b=some o->h'.get? b=some o)->h₁.objs.size <= D->h'.get? D=some (seqObj "list" out.toArray c)->IntsAre out ms->ms.Perm ns->ms.Pairwise (·<=·)->Q (.ref D) { s with heap:=h',toks:=t,drawn:=dr }) :
  wpAny (model prog w) A (call (.builtin "sorted") [.ref p]) Q E s :=
 a6l (ns:=ns) (λR k=>wpAny_collect_seq p hT ho hc hd (λg e=>k _ g s.toks s.drawn ns (by simpa using hI) (List.Perm.refl _) (by simpa using hz) e) (by simpa using hz)) h
end
end MwSort
namespace MwSet
open PySem PySem.Spec PyProof.Rows
section
variable {prog:Program}{w:World}{A:Around}{E:Value->Shared->Prop}{s:Shared}
theorem a4Y {a:Addr}{es:Array (Int × Value)}{ep:Nat}{t:SetTable}{Q:Nat->Shared->Prop}(ea:s.heap.get? a=some (t0 es ep t))(hf:t.fits es.size=true)(h:Q es.size s):wpAny (model prog w) A (Builtin.Frozenset.sizeOf a) Q E s:=by
 unfold Builtin.Frozenset.sizeOf;exact wpAny_bind (wpAny_setEntries_of ea rfl hf (wpAny_pure h))
theorem b0o {a:Addr}{es:Array (Int × Value)}{ep:Nat}{t:SetTable}{Q:Bool->Shared->Prop}(ea:s.heap.get? a=some (t0 es ep t))(hf:t.fits es.size=true)(h:Q (!byT w && (!t.plain && decide (es.size > 1))) s):wpAny (model prog w) A (setDrawn a) Q E s:=by
 unfold setDrawn setsByText;refine wpAny_bind (wpAny_setState_of ea rfl hf ?_);dsimp only;exact wpAny_bind (wpAny_bind (wpAny_askSetting (wpAny_pure (wpAny_pure h))))
theorem b7k {a:Addr}{ks:List Int}{Q:Value->Shared->Prop}(S:a2n w s.heap a ks)
  (hQ:∀ (h':Heap) (dr:Drawn) (I:Addr),(∀ b o,s.heap.get? b=some o->h'.get? b=some o)->s.heap.objs.size <= I->(∀ B:Around,B.handled=none->b3H prog w B s.heap.objs.size I a h' ks)->Q (.ref I) { s with heap:=h',drawn:=dr }):wpAny (model prog w) A (pyIter (.ref a)) Q E s:=by
 obtain ⟨es,ep,t,ea,hel,hp,hn,hb,hf,ht⟩:=S;have hT:s.TypeIs (.ref a) "set":=⟨_,ea,rfl⟩;have hplace:t.place.size=es.size:=by simp only [SetTable.fits,Bool.and_eq_true,beq_iff_eq] at hf;exact hf.1
 have ha:a < s.heap.objs.size:=Heap.lt_size ea;have hlen:ks.length=es.size:=by have:=hp.length_eq;unfold b5t at this;simp at this;omega
 refine wpAny_pyIter_slot hT PySem.F.slot_set_iter (wpAny_call_entry PySem.F.slot_set_iter hT a3B ?_ (PySem.F.args_set_iter_1 _));unfold Builtin.«frozenset.__iter__»;refine wpAny_bind (m:=Builtin.Frozenset.slot0 "__iter__" _) ?_
 show wpAny _ _ (pure a) _ _ s
 refine wpAny_pure (wpAny_bind (a4Y ea hf (wpAny_bind (b0o ea hf ?_))));cases hdr:(!byT w && (!t.plain && decide (es.size > 1))) with
 | true =>
  rw [if_pos rfl];refine wpAny_bind (b7g es.size (List.range es.size) s (by simp) λps d hps=>?_);have hpl:ps.length=es.size:=by have:=hps.length_eq;simpa using this
  refine wpAny_bind (wpAny_newTuple ?_ (by rw [List.length_map,hpl];exact fits_of_scanBound hb));have ea1:=Heap.get?_push_of_some (a6h ps) ea;refine wpAny_bind (wpAny_setEpoch_of (s:={ s with heap:=s.heap.push (a6h ps),drawn:=d }) ea1 rfl hf ?_);refine wpAny_bind (wpAny_newObj_type (wpAny_pure ⟨_,rfl,"set_iterator",_,⟨_,Heap.get?_push_size _ rfl,rfl⟩,r9.lookup,?_⟩));refine hQ _ d _ (λb o e=>Heap.get?_push_of_some _ (Heap.get?_push_of_some _ e)) (by show _<=(s.heap.push (a6h ps)).objs.size;rw [Heap.size_push];omega) λB hB=>?_;have hsz:(s.heap.push (a6h ps)).objs.size=s.heap.objs.size + 1:=Heap.size_push _ _;have hm:∀ p∈ps,p < es.size:=λp hp'=>by have:=hps.mem_iff.mp hp';simpa using this
  have efm:=a1t hm;have W:=a5W (prog:=prog) (w:=w) hB (I:=(s.heap.push (a6h ps)).objs.size) (a:=a) (pl:=s.heap.objs.size) (ep:=ep) (by rw [hsz];exact Nat.ne_of_lt (Nat.lt_succ_of_lt ha)) (by rw [hsz];exact Nat.ne_of_lt (Nat.lt_succ_self _)) hf hps;have hI:IntsAre (ps.filterMap λp=>es[p]?.map (·.2)) ((ps.map λp=>es.getD p (0,.none)).map λe=>numOf e.2):=by
   rw [efm];have:=a2M (es:=ps.map λp=>es.getD p (0,.none)) λe he=>by
    obtain ⟨p,hp',rfl⟩:=List.mem_map.mp he;have hlt:=hm p hp';refine hel _ ?_
    simp [Array.getD,hlt]
   rw [List.map_map] at this;exact this
  have eP:(ps.map λp=>es.getD p (0,.none)).Perm es.toList:=by
   have:=hps.map λp=>es.getD p (0,.none);refine this.trans ?_;have e2:(List.range es.size).map (λp=>es.getD p (0,.none))=es.toList:=by
    apply List.ext_getElem
    ·simp
    ·intro i h1 h2;have hi:i < es.size:=by simpa using h2
     simp [Array.getD,hi]
   rw [e2]
  refine ⟨[(s.heap.push (a6h ps)).objs.size,a,s.heap.objs.size],(λi h=>h.get? (s.heap.push (a6h ps)).objs.size=some (G9 (.ref s.heap.objs.size) i a es.size ep)/\h.get? a=some (t0 es ep t)/\h.get? s.heap.objs.size=some (a6h ps)),_,_,List.mem_cons_self,?_,hI,(eP.map _).trans hp,?_,?_⟩
  ·intro b hb';simp only [List.mem_cons,List.not_mem_nil,or_false] at hb'
   rcases hb' with e | e | e
   ·rw [e,hsz];exact .inr (Nat.le_succ _)
   ·exact .inl e
   ·rw [e];exact .inr (Nat.le_refl _)
  ·rw [show ((ps.map λp=>es.getD p (0,.none)).map λe=>numOf e.2).length=es.size by simp [hpl]];exact W
  ·exact ⟨Heap.get?_push_size _ rfl,Heap.get?_push_of_some _ ea1,Heap.get?_push_of_some _ (Heap.get?_push_size _ rfl)⟩
 | false =>
  rw [if_neg Bool.false_ne_true];refine wpAny_bind (wpAny_pure (wpAny_bind (wpAny_setEpoch_of ea rfl hf ?_)));refine wpAny_bind (wpAny_newObj_type (wpAny_pure ⟨_,rfl,"set_iterator",_,⟨_,Heap.get?_push_size _ rfl,rfl⟩,r9.lookup,?_⟩));refine hQ _ s.drawn _ (λb o e=>Heap.get?_push_of_some _ e) (Nat.le_refl _) λB hB=>?_;have st1:(s.heap.push (G9 (rawInt 0) 0 a es.size ep)).get? s.heap.objs.size=some (G9 (rawInt 0) 0 a es.size ep):=Heap.get?_push_size _ rfl;have st2:(s.heap.push (G9 (rawInt 0) 0 a es.size ep)).get? a=some (t0 es ep t):=Heap.get?_push_of_some _ ea;have mem:∀ b∈[s.heap.objs.size,a],b=a \/ s.heap.objs.size <= b:=λb hb'=>by
   simp only [List.mem_cons,List.not_mem_nil,or_false] at hb'
   rcases hb' with e | e
   ·rw [e];exact .inr (Nat.le_refl _)
   ·exact .inl e
  cases hby:byT w with
  | true =>
   have W:=a2P (prog:=prog) (w:=w) hB (I:=s.heap.objs.size) (a:=a) (ep:=ep) (Nat.ne_of_lt ha) hf hby;have pp:=a2s (w.params.setOrder a ep) es;refine ⟨[s.heap.objs.size,a],(λi h=>h.get? s.heap.objs.size=some (G9 (.int 0 0) i a es.size ep)/\h.get? a=some (t0 es ep t)),_,_,List.mem_cons_self,mem,a2M (es:=(pickOrder (w.params.setOrder a ep) es).toList) λe he=>hel e (pp.mem_iff.mp he),(pp.map _).trans hp,?_,?_⟩
   ·rw [show ((pickOrder (w.params.setOrder a ep) es).toList.map λe=>numOf e.2).length=es.size by have:=pp.length_eq;simpa using this];exact W
   ·exact ⟨st1,st2⟩
  | false =>
   have hl:t.led=true:=by rw [ht.led,hby];rfl
   have hd:t.plain=true \/ es.size <= 1:=by
    rw [hby] at hdr;cases hpl:t.plain with
    | true=>exact .inl rfl
    | false =>
     rw [hpl] at hdr
     simp at hdr
     exact .inr (by omega)
   have hr:Rs t.place:=by
    rcases hd with q | q
    ·exact ht.rs q
    ·unfold Rs
     match e:t.place.toList with
     | []=>exact List.Pairwise.nil
     | [x]=>exact List.pairwise_singleton _ _
     | x :: y :: l =>
      have:t.place.toList.length=(x :: y :: l).length:=by rw [e]
      simp at this
      omega
   have W:=a4W (prog:=prog) (w:=w) hB (I:=s.heap.objs.size) (a:=a) (ep:=ep) (Nat.ne_of_lt ha) hf hby hl hd hr;refine ⟨[s.heap.objs.size,a],(λi h=>h.get? s.heap.objs.size=some (G9 (.int (a7l t i) 0) i a es.size ep)/\h.get? a=some (t0 es ep t)),_,_,List.mem_cons_self,mem,a2M (es:=es.toList) hel,hp,?_,?_⟩
   ·rw [show (es.toList.map λe=>numOf e.2).length=es.size by simp];exact W
   ·exact ⟨st1,st2⟩
theorem b1v {r:Addr} {Q:Bool->Shared->Prop} (hT:s.TypeIs (.ref r) "set") (h:Q false s):wpAny (model prog w) A (Builtin.List.listLengthHint (.ref r)) Q E s:=by
 unfold Builtin.List.listLengthHint;refine wpAny_bind (wpAny_specialOf hT PySem.F.slot_set_len.lookup ?_);generalize hid:("set.__len__" : String)=id0
 wp_delta
 rw [show splitId id0=some ("set","__len__") from by subst hid;decide +kernel];subst hid;refine wpAny_bind (wpAny_isInstance (T := "set") (b:=true) hT (by rw [isSubtype_type];kernel_rfl) ?_);refine wpAny_ite_split (λz=>absurd z (by decide)) (λ_=>?_);refine wpAny_ite_split (λ_=>?_) (λz=>absurd (by decide +kernel) z);exact wpAny_bind (wpAny_typeOf hT (wpAny_pure h))
theorem a1V {a:Addr}{ks:List Int}{R:List Value->Shared->Prop}(hh:A.handled=none)(S:a2n w s.heap a ks)(hz:ks.length <= sizeLine)
  (h:∀ (vs:List Value) (h₁:Heap) (t:Nat) (dr:Drawn) (ms:List Int),IntsAre vs ms->ms.Perm ks->vs.length <= sizeLine->(∀ b o,s.heap.get? b=some o->h₁.get? b=some o)->R vs { s with heap:=h₁,toks:=t,drawn:=dr }):wpAny (model prog w) A (collect (.ref a)) R E s:=by
 have ha:a < s.heap.objs.size:=by obtain ⟨es,ep,t,ea,_⟩:=S;exact Heap.lt_size ea
 unfold collect;refine wpAny_bind (wpAny_runValue (codeAny_builtin entry_proto_collect' ?_));rw [Around.under_plainId PySem.F.plain_proto_collect _]
 show wpAny _ A.in1 (newList [] >>= λl=>again (.builtin "list.__iadd__" ⟨[l,.ref a],[]⟩)) _ _ s
 refine wpAny_bind (wpAny_newObj_type (wpAny_pure ⟨plainId_quiet PySem.F.plain_list_iadd _,codeAny_builtin entry_list_iadd' ?_⟩));rw [Around.under_plainId PySem.F.plain_list_iadd _];have gS:(s.heap.push { cls:=.type "list",data:=.seq ([]:List Value).toArray }).get? s.heap.objs.size=some { cls:=.type "list",data:=.seq #[] }:=Heap.get?_push_size _ rfl;have S1:a2n w (s.heap.push { cls:=.type "list",data:=.seq ([]:List Value).toArray }) a ks:=S.at λo e=>Heap.get?_push_of_some _ e;have hT1:Shared.TypeIs { s with heap:=s.heap.push { cls:=.type "list",data:=.seq ([]:List Value).toArray } } (.ref a) "set":=by obtain ⟨es,ep,t,ea,_⟩:=S1;exact ⟨_,ea,rfl⟩
 show wpAny _ A.in1 (Builtin.List.listExtendWith (.ref s.heap.objs.size) (.ref a) (.ref s.heap.objs.size)) _ _ _
 unfold Builtin.List.listExtendWith;refine wpAny_bind (wpAny_typeOf (T := "set") hT1 ?_);have n1:Builtin.List.listSameRef (.ref s.heap.objs.size) (.ref a)=false:=by simp [Builtin.List.listSameRef];exact Nat.ne_of_gt ha
 have n2:(Value.type "set" == Value.type "list")=false:=by decide
 have n3:(Value.type "set" == Value.type "tuple")=false:=by decide
 simp only [n1,n2,n3,Bool.or_false,Bool.false_eq_true,if_false];refine wpAny_bind (b7k S1 λh' dr I hk hle hW=>?_);obtain ⟨fp,St,L,ms,hIf,hlt,hIs,hP,W,st⟩:=hW A.in1 (by simp [hh]);have e1:=hk _ _ gS;have hT2:Shared.TypeIs { s with heap:=h',drawn:=dr } (.ref a) "set":=by obtain ⟨es,ep,t,ea,_⟩:=S1;exact ⟨_,hk _ _ ea,rfl⟩
 refine wpAny_bind (wpAny_holding (b1v hT2 ?_));have hml:ms.length <= sizeLine:=by rw [hP.length_eq];exact hz
 have hLl:L.length=ms.length:=IntsAre.length hIs;have sz1:(s.heap.push { cls:=.type "list",data:=.seq ([]:List Value).toArray }).objs.size=s.heap.objs.size + 1:=Heap.size_push _ _;have hSf:s.heap.objs.size ∉ fp:=λz=>by
  rcases hlt _ z with e | e
  ·exact absurd e.symm (Nat.ne_of_lt ha)
  ·rw [sz1] at e;exact absurd e (Nat.not_succ_le_self _)
 have hSI:s.heap.objs.size ≠ I:=λz=>hSf (z ▸ hIf);have key:∀ (g:Heap) (c tk:Nat),St 0 g->(∀ b o,s.heap.get? b=some o->g.get? b=some o)->g.get? s.heap.objs.size=some { cls:=.type "list",data:=.seq #[] c } ->
   codeAny (model prog w) A (.builtin "list.extend.loop" ⟨[.ref s.heap.objs.size,.ref I,.ref s.heap.objs.size],[]⟩)
    (λ(q:Result) (z:Shared)=>∃ (h₁:Heap) (tk:Nat) (acc:Array Value) (c:Nat),q = .ok (.ret (.ref s.heap.objs.size))/\z={ s with heap:=h₁,toks:=tk,drawn:=dr }/\(∀ b o,s.heap.get? b=some o->h₁.get? b=some o)/\h₁.get? s.heap.objs.size=some { cls:=.type "list",dict:=none,data:=.seq acc c,slots:=#[] }/\ItemsOf (λi v=>L[i]? = some v) acc ms.length)
    { s with heap:=g,toks:=tk,drawn:=dr }:=λg c tk st' hk' hS'=>by
  refine codeAny_extend_loopS W.toS hml s.heap.objs.size hSf _ ms.length 0 _ #[] c rfl (Nat.zero_le _) st' hS' (ItemsOf.nil _) λz acc c' hm hz' hacc=>?_;rw [Moved.eq_with hm];refine ⟨z.heap,z.toks,acc,c',rfl,rfl,λb o e=>hm.heap b o (λhmem=>?_) (hk' b o e),hz',hacc⟩;have hlt':b < s.heap.objs.size:=Heap.lt_size e
  rcases List.mem_cons.mp hmem with q | q
  ·exact absurd q (Nat.ne_of_lt hlt')
  ·have:b=I:=by simpa using q
   rw [this] at hlt';have hle':(s.heap.push { cls:=.type "list",data:=.seq ([]:List Value).toArray }).objs.size <= I:=hle;rw [sz1] at hle';exact absurd (Nat.lt_of_lt_of_le hlt' (Nat.le_of_succ_le hle')) (Nat.lt_irrefl _)
 have fin:∀ (q:Result) (z:Shared),(∃ (h₁:Heap) (tk:Nat) (acc:Array Value) (c:Nat),q = .ok (.ret (.ref s.heap.objs.size))/\z={ s with heap:=h₁,toks:=tk,drawn:=dr }/\(∀ b o,s.heap.get? b=some o->h₁.get? b=some o)/\h₁.get? s.heap.objs.size=some { cls:=.type "list",dict:=none,data:=.seq acc c,slots:=#[] }/\ItemsOf (λi v=>L[i]? = some v) acc ms.length) ->
   ∃ (acc:Array Value) (h₁:Heap) (tk c:Nat),q = .ok (.ret (.ref s.heap.objs.size))/\z={ s with heap:=h₁,toks:=tk,drawn:=dr }/\h₁.get? s.heap.objs.size=some { cls:=.type "list",dict:=none,data:=.seq acc c,slots:=#[] }/\R acc.toList { s with heap:=h₁,toks:=tk,drawn:=dr }:=λq z ⟨h₁,tk,acc,c,e1,e2,hk',hg,hacc⟩=>by
  refine ⟨acc,h₁,tk,c,e1,e2,hg,?_⟩;have eL:acc.toList=L:=by
   apply List.ext_getElem?;intro k;have hl1:acc.size=ms.length:=hacc.1
   by_cases hk0:k < ms.length
   ·have hk1:k < acc.size:=by omega
    have:=hacc.2 k acc[k] (Array.getElem?_eq_getElem hk1);rw [this,Array.getElem?_toList,Array.getElem?_eq_getElem hk1]
   ·rw [List.getElem?_eq_none (by simp;omega),List.getElem?_eq_none (by omega)]
  rw [eL];exact h L h₁ tk dr ms hIs hP (by omega) hk'
 have keep:∀ b o,s.heap.get? b=some o->h'.get? b=some o:=λb o e=>hk b o (Heap.get?_push_of_some _ e);refine wpAny_ite_split (λ_=>?_) (λ_=>wpAny_pure ⟨plainId_quiet PySem.F.plain_extend_loop _,codeAny_mono (key h' 0 s.toks st keep e1) λq z y=>?_⟩)
 ·refine wpAny_bind (wpAny_rule (wpAny_bind ?_))
  show wpAny _ _ (updateSeq s.heap.objs.size (·.push .none) >>= λ_=>updateSeq s.heap.objs.size (·.pop)) _ _ _
  refine wpAny_bind (wpAny_updateSeq e1 rfl ?_);have e2:=Heap.get?_update_self (Obj.mapSeq (·.push Value.none)) e1 rfl;refine wpAny_updateSeq (hz:=by seq_fits) e2 rfl ?_;have e3:=Heap.get?_update_self (Obj.mapSeq (·.pop)) e2 rfl;refine wpAny_pure ⟨plainId_quiet PySem.F.plain_extend_loop _,codeAny_mono (key _ _ s.toks ?_ ?_ e3) λq z y=>?_⟩
  ·refine W.frame 0 _ _ st λb hb o e=>?_;have hbS:s.heap.objs.size ≠ b:=λz=>hSf (z ▸ hb);exact (Heap.get?_update_other _ _ hbS).trans ((Heap.get?_update_other _ _ hbS).trans e)
  ·intro b o e;have hbS:s.heap.objs.size ≠ b:=Nat.ne_of_gt (Heap.lt_size e);exact (Heap.get?_update_other _ _ hbS).trans ((Heap.get?_update_other _ _ hbS).trans (keep b o e))
  ·obtain ⟨acc,h₁,tk,c,rfl,rfl,hg,hR⟩:=fin q z y
   show wpAny _ A (load s.heap.objs.size >>= _) _ _ _
   exact wpAny_bind (wpAny_load hg (wpAny_pure hR))
 ·obtain ⟨acc,h₁,tk,c,rfl,rfl,hg,hR⟩:=fin q z y
  show wpAny _ A (load s.heap.objs.size >>= _) _ _ _
  exact wpAny_bind (wpAny_load hg (wpAny_pure hR))
theorem a3Y {a:Addr}{ks:List Int}{Q:Value->Shared->Prop}(hh:A.handled=none)(S:a2n w s.heap a ks)(hz:ks.length <= sizeLine)
  (h:∀ (h₁ h':Heap) (t:Nat) (dr:Drawn) (D:Addr) (c:Nat) (out:List Value) (ms:List Int),(∀ b o,s.heap.get? b=some o->h₁.get? b=some o)->(∀ b o,h₁.get? b=some o->h'.get? b=some o)->h₁.objs.size <= D->h'.get? D=some (seqObj "list" out.toArray c)->IntsAre out ms->ms.Perm ks->ms.Pairwise (·<=·)->Q (.ref D) { s with heap:=h',toks:=t,drawn:=dr }) :
  wpAny (model prog w) A (call (.builtin "sorted") [.ref a]) Q E s :=
 MwSort.a6l (ns:=ks) (λR k=>a1V (by simp [hh]) S hz k) h
theorem a7Q {K:Type}[DecidableEq K]{knd:KeyKind prog w K}{d:Addr}{kvs:List (K × Value)}{ep:Nat}{ks:List Int}{Q:Value->Shared->Prop}(hh:A.handled=none)(lo:(d == sysModules)=false)(hd:s.heap.DictAt knd d kvs ep)(hz:kvs.length <= sizeLine)
  (hks:∀ (i:Nat) (k:K) (x v:Value),kvs[i]? = some (k,x)->knd.is k v=true->∃ t,v = .int (ks.getD i 0) t) (hl:kvs.length=ks.length)
  (h:∀ (h₁ h':Heap) (t:Nat) (dr:Drawn) (D:Addr) (c:Nat) (out:List Value) (ms:List Int),(∀ b o,s.heap.get? b=some o->h₁.get? b=some o)->(∀ b o,h₁.get? b=some o->h'.get? b=some o)->h₁.objs.size <= D->h'.get? D=some (seqObj "list" out.toArray c)->IntsAre out ms->ms.Perm ks->ms.Pairwise (·<=·)->Q (.ref D) { s with heap:=h',toks:=t,drawn:=dr }) :
  wpAny (model prog w) A (call (.builtin "sorted") [.ref d]) Q E s:=by
 refine MwSort.a6l (ns:=ks) (λR k=>PySem.W.kdu_collect (PySem.W.kdl_dict lo) (by simp [hh]) hd hz λh' tk acc hk hacc=>k acc.toList h' tk s.drawn ks ?_ (List.Perm.refl _) ?_ hk) h
 ·have hl1:acc.size=kvs.length:=hacc.1;have:∀ (vs:List Value) (ns:List Int),vs.length=ns.length -> (∀ i v,vs[i]? = some v->∃ t,v=Value.int (ns.getD i 0) t)->IntsAre vs ns:=λvs=>by
   induction vs with
   | nil =>
    intro ns e _;have:ns=[]:=List.length_eq_zero_iff.mp (by simpa using e.symm);subst this;exact .nil
   | cons v vs ih =>
    intro ns e hv;cases ns with
    | nil=>cases e
    | cons n ns =>
     obtain ⟨t,et⟩:=hv 0 v rfl;have et':v = .int n t:=et;subst et';exact .cons n t (ih ns (by simpa using e) λi u hu=>hv (i + 1) u (by simpa using hu))
  refine this _ _ (by simp;omega) λi v hv=>?_;obtain ⟨k,x,e1,e2⟩:=hacc.2 i v (by rw [← Array.getElem?_toList];exact hv);exact hks i k x v e1 e2
 ·have hl1:acc.size=kvs.length:=hacc.1
  simp;omega
end
end MwSet
namespace L2
open PySem PySem.Spec PyProof.Rows
def o0 (ns:List Int):List Int:=ns.mergeSort λa b=>decide (a<=b)
theorem E3 (ns:List Int):(o0 ns).Perm ns:=List.mergeSort_perm _ _
theorem K4 (ns:List Int):(o0 ns).Pairwise (·<=·):=by
 have:=List.pairwise_mergeSort (le:=λa b:Int=>decide (a<=b)) (λa b c h1 h2=>by simp at h1 h2 ⊢;omega) (λa b=>by simp;omega) ns;exact this.imp λ{a b} h=>by simpa using h
theorem E5 (ns:List Int):(o0 ns).length=ns.length:=(E3 ns).length_eq
theorem b1C {a b:List Int}(hp:a.Perm b)(ha:a.Pairwise (·<=·))(hb:b.Pairwise (·<=·)):a=b:=PySem.W.ksm_same hp ha hb
theorem a2y {ms ns:List Int}(hp:ms.Perm ns)(hs:ms.Pairwise (·<=·)):ms=o0 ns:=b1C (hp.trans (E3 ns).symm) hs (K4 ns)
theorem a8Q {a b:List Int}(h:a.Perm b):o0 a=o0 b:=a2y ((E3 a).trans h) (K4 a)
theorem a2H {ns:List Int}{x:Int}:x∈o0 ns↔x∈ns:=(E3 ns).mem_iff
theorem a6q:∀ {ns:List Int} {us:List Value},n0 (ns.map V.int) us->IntsAre us ns
 | [],_,.nil=>.nil
 | n :: ns,_,.cons r t=>by
  obtain ⟨tk,rfl⟩:=r;exact .cons n tk (a6q t)
theorem a5H:∀ {us:List Value} {ns:List Int},IntsAre us ns->n0 (ns.map V.int) us
 | _,_,.nil=>.nil
 | _,_,.cons n t h=>.cons ⟨t,rfl⟩ (a5H h)
section
variable {X:Cx}{pins:List (Addr × Obj)}{σ:St}{H:Hp}{s:Shared}
theorem Inv.drew {d:Drawn}(I:Inv X pins σ H s):Inv X pins σ H { s with drawn:=d }:=⟨I.ok,I.os,I.bare,I.base,I.loc,I.cell,I.free,I.freeC,I.pin,I.hok,I.len⟩
theorem Inv.sorted {ns:List Int}{Q:VK}(I:Inv X pins σ H s)(hz:ns.length <= sizeLine)(q:∀ l,H l=none->Q (.ref l) (upd H l (.lst ((o0 ns).map V.int)))) :
  ∀ (h₁ h':Heap) (t:Nat) (dr:Drawn) (D:Addr) (c:Nat) (out:List Value) (ms:List Int),(∀ b o,s.heap.get? b=some o->h₁.get? b=some o)->(∀ b o,h₁.get? b=some o->h'.get? b=some o)->h₁.objs.size <= D->h'.get? D=some (seqObj "list" out.toArray c)->IntsAre out ms->ms.Perm ns->ms.Pairwise (·<=·) ->
   EP X pins σ Q (.ref D) { s with heap:=h',toks:=t,drawn:=dr }:=by
 intro h₁ h' t dr D c out ms k1 k2 hD hg hI hp hs;have e:=a2y hp hs;subst e;have I1:Inv X pins σ H { s with heap:=h₁,toks:=t,drawn:=dr }:=(I.kept (t':=t) k1).drew;refine ⟨.ref D,_,I1.laid (t':=t) (o:=.lst ((o0 ns).map V.int)) k2 hD ⟨?_,out,c,a5H hI,hg⟩,rfl,q D (I1.hok.fresh hD)⟩;rw [List.length_map,E5];exact hz
end
theorem a7j:bootBuiltins "sorted" = some (.builtin "sorted"):=by decide +kernel
theorem b5P:bootBuiltins "set" = some (.type "set"):=by decide +kernel
section
variable {X:Cx}
def b2C:List V->Hp->VK->Prop:=λxs H Q=>∃ (p:Addr) (ns:List Int),xs=[.ref p]/\(H p=some (.tup (ns.map V.int)) \/ H p=some (.lst (ns.map V.int)))/\∀ l,H l=none->Q (.ref l) (upd H l (.lst ((o0 ns).map V.int)))
theorem a7v:A8 X (.builtin "sorted") b2C:=by
 intro pins s σ H xs us Q I r h;obtain ⟨p,ns,rfl,hp,q⟩:=h;obtain ⟨u,rfl,e⟩:=X7 r;obtain rfl:u=Value.ref p:=e
 rcases hp with hp | hp
 ·obtain ⟨z,its,rv,o,ho,hc,n,hd⟩:=(show n8 X.prog X.w H s.heap p (.tup (ns.map V.int)) from I.hok p _ hp);have hl:=rv.length;rw [List.length_map] at z hl;exact MwSort.a1y (.inr rfl) ho hc hd (a6q rv) (by omega) (I.sorted z q)
 ·obtain ⟨z,its,n,rv,hg⟩:=(show n8 X.prog X.w H s.heap p (.lst (ns.map V.int)) from I.hok p _ hp);have hl:=rv.length;rw [List.length_map] at z hl;exact MwSort.a1y (.inl rfl) hg rfl rfl (a6q rv) (by omega) (I.sorted z q)
def a7F (w:World)(a:Addr)(ks:List Int):HO:=.ext λh=>MwSet.a2n w h a ks
theorem b3x (hc:X.calm=true):A8 X (.type "set") (λxs H Q=>∃ (p:Addr) (ns:List Int),xs=[.ref p]/\H p=some (.tup (ns.map V.int))/\ns.length + 1 < 4096/\∀ l,H l=none->Q (.ref l) (upd H l (a7F X.w l (MwSet.C8 ns)))):=by
 intro pins s σ H xs us Q I r h;obtain ⟨p,ns,rfl,hp,hb,q⟩:=h;obtain ⟨u,rfl,e⟩:=X7 r;obtain rfl:u=Value.ref p:=e;obtain ⟨z,its,rv,hT⟩:=(show n8 X.prog X.w H s.heap p (.tup (ns.map V.int)) from I.hok p _ hp);refine MwSet.a6F (I.ok.hd hc) hT (a6q rv) hb λh' tk hS hk=>?_;refine ⟨.ref s.heap.objs.size,_,I.laid (o:=a7F X.w s.heap.objs.size (MwSet.C8 ns)) hk (Nat.le_refl _) ⟨hS,?_,λh1 h2 hS1 hk1=>hS1.at λo e=>hk1 o e⟩,rfl,q _ (I.hok.fresh (Nat.le_refl _))⟩;obtain ⟨es,ep,t,e,_⟩:=hS;exact ⟨_,e⟩
theorem a5w (hc:X.calm=true) {w:World} (hw:X.w=w):A8 X (.builtin "sorted") (λxs H Q=>∃ (p:Addr) (ks:List Int),xs=[.ref p]/\H p=some (a7F w p ks)/\ks.length <= 4096/\∀ l,H l=none->Q (.ref l) (upd H l (.lst ((o0 ks).map V.int)))):=by
 subst hw;intro pins s σ H xs us Q I r h;obtain ⟨p,ks,rfl,hp,hb,q⟩:=h;obtain ⟨u,rfl,e⟩:=X7 r;obtain rfl:u=Value.ref p:=e;obtain ⟨hS,_⟩:=(show n8 X.prog X.w H s.heap p (a7F X.w p ks) from I.hok p _ hp);have hz:ks.length <= sizeLine:=Nat.le_trans hb (by decide);exact MwSet.a3Y (I.ok.hd hc) hS hz (I.sorted hz q)
end
end L2
namespace L2
open PySem PySem.Spec PyProof.Rows
end L2
namespace L2
open PySem PySem.Spec PyProof.Rows
end L2
namespace L2
open PySem PySem.Spec PyProof.Rows
end L2
namespace L2
open PySem PySem.Spec PyProof.Rows
end L2
namespace L2
open PySem PySem.Spec PyProof.Rows
end L2
namespace L2
open PySem PySem.Spec PyProof.Rows
end L2
namespace L2
open PySem PySem.Spec PyProof.Rows
end L2
namespace L2
open PySem PySem.Spec PyProof.Rows
end L2
namespace L2
open PySem PySem.Spec PyProof.Rows
end L2
namespace L2
open PySem PySem.Spec PyProof.Rows
end L2
namespace L2
open PySem PySem.Spec PyProof.Rows
section
variable {κ:Type}[DecidableEq κ]
def Y7 (kvs:List (κ × V))(k:κ):Option V:=(kvs.find? λkv=>decide (kv.1=k)).map (·.2)
def P4 (kvs:List (κ × V))(k:κ)(v:V):List (κ × V) :=
 if (kvs.any λkv=>decide (kv.1=k))=true then kvs.map (λkv=>if kv.1=k then (kv.1,v) else kv) else kvs ++ [(k,v)]
theorem a7n {p:κ × V}{r:List (κ × V)}{k:κ}(e:p.1=k):Y7 (p :: r) k=some p.2:=by simp [Y7,List.find?_cons,e]
theorem a8n {p:κ × V}{r:List (κ × V)}{k:κ}(e:¬ p.1=k):Y7 (p :: r) k=Y7 r k:=by simp [Y7,List.find?_cons,e]
theorem Y6 (k:κ):∀ kvs:List (κ × V),(kvs.any λkv=>decide (kv.1=k))=(Y7 kvs k).isSome
 | []=>rfl
 | p :: r=>by
  rw [List.any_cons]
  by_cases e:p.1=k
  ·simp only [a7n e,decide_eq_true e,Bool.true_or,Option.isSome_some]
  ·rw [a8n e,decide_eq_false e,Bool.false_or];exact Y6 k r
theorem a0v (kvs:List (κ × V))(k:κ)(v:V):(P4 kvs k v).length <= kvs.length + 1:=by
 unfold P4
 split
 ·rw [List.length_map];omega
 ·rw [List.length_append,List.length_cons,List.length_nil];omega
theorem b2s {kvs:List (κ × V)}{k:κ}(v:V)(h:Y7 kvs k=none):P4 kvs k v=kvs ++ [(k,v)]:=by
 unfold P4;rw [Y6,h];exact if_neg (by decide)
theorem Y5.isSome_eq {o:Option V}{u:Option Value}(r:Y5 o u):o.isSome=u.isSome:=by
 cases o with
 | none=>cases u with
  | none=>rfl
  | some _=>exact (show False from r).elim
 | some _=>cases u with
  | none=>exact (show False from r).elim
  | some _=>rfl
theorem Y5.getD {o:Option V}{u:Option Value}{d:V}{d':Value}(r:Y5 o u)(rd:n4 d d'):n4 (o.getD d) (u.getD d'):=by
 cases o with
 | none=>cases u with
  | none=>exact rd
  | some _=>exact (show False from r).elim
 | some _=>cases u with
  | none=>exact (show False from r).elim
  | some _=>exact r
theorem KV.val {kvs:List (κ × V)}{vs:List (κ × Value)}(r:KV kvs vs)(k:κ):Y5 (Y7 kvs k) (valueAt vs k):=by
 unfold KV at r
 induction r with
 | nil=>exact True.intro
 | @cons p q ps qs h t ih =>
  obtain ⟨h1,h2⟩:=h
  by_cases e:p.1=k
  ·have e':q.1=k:=h1.symm.trans e;have b:valueAt (q :: qs) k=some q.2:=by simp [valueAt,List.find?_cons,e']
   rw [a7n e,b];exact h2
  ·have e':¬ q.1=k:=λz=>e (h1.trans z);have b:valueAt (q :: qs) k=valueAt qs k:=by simp [valueAt,List.find?_cons,e']
   rw [a8n e,b];exact ih
theorem KV.any {kvs:List (κ × V)}{vs:List (κ × Value)}(r:KV kvs vs)(k:κ):(kvs.any λkv=>decide (kv.1=k))=vs.any λkv=>decide (kv.1=k):=by
 unfold KV at r
 induction r with
 | nil=>rfl
 | cons h t ih=>rw [List.any_cons,List.any_cons,ih,h.1]
theorem KV.repl {kvs:List (κ × V)}{vs:List (κ × Value)}(r:KV kvs vs)(k:κ){y:V}{u:Value}(ry:n4 y u) :
  KV (kvs.map λkv=>if kv.1=k then (kv.1,y) else kv) (vs.map λkv=>if kv.1=k then (kv.1,u) else kv):=by
 unfold KV at r ⊢
 induction r with
 | nil=>exact .nil
 | @cons p q ps qs h t ih =>
  rw [List.map_cons,List.map_cons];refine .cons ?_ ih;obtain ⟨h1,h2⟩:=h
  by_cases e:p.1=k
  ·rw [if_pos e,if_pos (h1.symm.trans e)];exact ⟨h1,ry⟩
  ·rw [if_neg e,if_neg (λz=>e (h1.trans z))];exact ⟨h1,h2⟩
theorem KV.put {kvs:List (κ × V)}{vs:List (κ × Value)}(r:KV kvs vs)(k:κ){y:V}{u:Value}(ry:n4 y u):KV (P4 kvs k y) (stored vs k u):=by
 unfold P4 stored;rw [r.any k]
 by_cases e:(vs.any λkv=>decide (kv.1=k))=true
 ·rw [if_pos e,if_pos e];exact r.repl k ry
 ·rw [if_neg e,if_neg e];exact Paired.snoc r ⟨rfl,ry⟩
theorem KV.keys {kvs:List (κ × V)}{vs:List (κ × Value)}(r:KV kvs vs):kvs.map (·.1)=vs.map (·.1):=by
 unfold KV at r
 induction r with
 | nil=>rfl
 | cons h t ih=>rw [List.map_cons,List.map_cons,ih,h.1]
theorem KV.length {kvs:List (κ × V)}{vs:List (κ × Value)}(r:KV kvs vs):kvs.length=vs.length:=Paired.length r
end
theorem a3T {P:Program}{w:World}{k:Key}{u:Value}(r:n4 (kV k) u):(t7 P w).is k u=true:=by
 cases k with
 | inl i=>obtain ⟨t,e⟩:=(show ∃ t,u=Value.int i t from r);subst e;exact a8S P w i t
 | inr x=>obtain ⟨t,e⟩:=(show ∃ t,u=Value.str x t from r);subst e;exact a7S P w x t
theorem a4H {P:Program}{w:World}:∀ {ks:List Key} {us:List Value},n0 (ks.map kV) us->ItemsAre (t7 P w) ks us
 | [],_,r=>by rw [List.map_nil] at r;cases r;exact .nil
 | k :: ks,_,r=>by
  rw [List.map_cons] at r;cases r with
  | cons h t=>exact .cons (a3T h) (a4H t)
abbrev KT (H:Hp):List (List Key × V)->List (List Key × Addr × Value)->Prop:=Paired λp q=>p.1=q.1 /\ H q.2.1=some (.tup (p.1.map kV))/\n4 p.2 q.2.2
theorem KT.val {H:Hp}{kvs:List (List Key × V)}{xs:List (List Key × Addr × Value)}(r:KT H kvs xs)(k:List Key):Y5 (Y7 kvs k) ((atKey xs k).map (·.2)):=by
 induction r with
 | nil=>exact True.intro
 | @cons p q ps qs h t ih =>
  obtain ⟨h1,_,h2⟩:=h
  by_cases e:p.1=k
  ·have e':q.1=k:=h1.symm.trans e;have b:atKey (q :: qs) k=some q.2:=by simp [atKey,List.find?_cons,e']
   rw [a7n e,b];exact h2
  ·have e':¬ q.1=k:=λz=>e (h1.trans z);have b:atKey (q :: qs) k=atKey qs k:=by simp [atKey,List.find?_cons,e']
   rw [a8n e,b];exact ih
theorem KT.repl {H:Hp}{kvs:List (List Key × V)}{xs:List (List Key × Addr × Value)}(r:KT H kvs xs)(k:List Key){y:V}{u:Value}(ry:n4 y u) :
  KT H (kvs.map λkv=>if kv.1=k then (kv.1,y) else kv) (xs.map (putAt k u)):=by
 induction r with
 | nil=>exact .nil
 | @cons p q ps qs h t ih =>
  rw [List.map_cons,List.map_cons];refine .cons ?_ ih;obtain ⟨h1,h2,h3⟩:=h;unfold putAt
  by_cases e:p.1=k
  ·rw [if_pos e,if_pos (h1.symm.trans e)];exact ⟨h1,h2,ry⟩
  ·rw [if_neg e,if_neg (λz=>e (h1.trans z))];exact ⟨h1,h2,h3⟩
theorem KT.put {H:Hp}{kvs:List (List Key × V)}{xs:List (List Key × Addr × Value)}(r:KT H kvs xs)(k:List Key){b:Addr}{y:V}{u:Value}(hb:H b=some (.tup (k.map kV)))(ry:n4 y u) :
  KT H (P4 kvs k y) (storedH xs k b u):=by
 have e:(kvs.any λkv=>decide (kv.1=k))=(atKey xs k).isSome:=by
  rw [Y6,(r.val k).isSome_eq,Option.isSome_map]
 unfold P4 storedH;rw [e]
 by_cases q:(atKey xs k).isSome=true
 ·rw [if_pos q,if_pos q];exact r.repl k ry
 ·rw [if_neg q,if_neg q];exact Paired.snoc r ⟨rfl,hb,ry⟩
theorem KT.keeps {H H':Hp}{kvs:List (List Key × V)}{xs:List (List Key × Addr × Value)}(r:KT H kvs xs)(ht:∀ b ys,H b=some (.tup ys)->H' b=some (.tup ys)):KT H' kvs xs :=
 Paired.mapP r λ_ _ z=>⟨z.1,ht _ _ z.2.1,z.2.2⟩
section
variable {P:Program}{w:World}{H:Hp}{h:Heap}{a:Addr}
theorem b1I {u:HO}(ok:HOk P w H h)(e:Rd H a u):n8 P w H h a u:=e.ok ok
theorem a0I {kvs:List (Key × V)}(ok:HOk P w H h)(e:Rd H a (.dK kvs)):kvs.length <= sizeLine/\(a == sysModules)=false/\∃ vs,KV kvs vs/\h.DictOf (t7 P w) a vs :=
 show n8 P w H h a (.dK kvs) from b1I ok e
theorem b8g {kvs:List (Key × V)}(ok:HOk P w H h)(e:H a=some (.dK kvs)):kvs.length <= sizeLine/\(a == sysModules)=false/\∃ vs,KV kvs vs/\h.DictOf (t7 P w) a vs:=a0I ok (.inl e)
theorem a4A {ks:List Key}(ok:HOk P w H h)(e:H a=some (.tup (ks.map kV))):(tupleKind (t7 P w)).is h ks a:=by
 obtain ⟨_,its,r,o,h1,h2,n,h3⟩:=(show n8 P w H h a (.tup (ks.map kV)) from ok a _ e);exact ⟨o,its.toArray,n,h1,h2,h3,by simpa using a4H r⟩
theorem a9H {kvs:List (List Key × V)}(ok:HOk P w H h)(e:Rd H a (.dT kvs)):kvs.length <= sizeLine/\(a == sysModules)=false /\
  ∃ xs,KT H kvs xs/\h.DictOfH (tupleKind (t7 P w)) a xs:=by
 obtain ⟨z,y,xs,r,o,es,ep,h1,h2,h3,h4,h5⟩:=(show n8 P w H h a (.dT kvs) from b1I ok e);refine ⟨z,y,xs,r,o,es,ep,h1,h2,h3,h4,λx hx=>?_,h5⟩;have all:∀ {l:List (List Key × V)} {m:List (List Key × Addr × Value)},KT H l m->∀ x∈m,(tupleKind (t7 P w)).is h x.1 x.2.1:=by
  intro l m q
  induction q with
  | nil=>intro x hx;exact nomatch hx
  | @cons p q ps qs hq t ih =>
   intro x hx
   rcases List.mem_cons.mp hx with e | hx
   ·subst e;exact a4A ok (by rw [← hq.1];exact hq.2.1)
   ·exact ih x hx
 exact all r x hx
theorem b7U {kvs:List (List Key × V)}(ok:HOk P w H h)(e:H a=some (.dT kvs)):kvs.length <= sizeLine/\(a == sysModules)=false /\
  ∃ xs,KT H kvs xs/\h.DictOfH (tupleKind (t7 P w)) a xs:=a9H ok (.inl e)
end
def X6 (H:Hp)(a:Addr)(y:V)(r:Option V):Prop :=
 (∃ kvs k,Rd H a (.dK kvs)/\y=kV k/\r=Y7 kvs k) \/ ∃ kvs k b,Rd H a (.dT kvs)/\y = .ref b/\H b=some (.tup (k.map kV))/\r=Y7 kvs k
def a1D (H:Hp)(a:Addr)(y v:V)(H':Hp):Prop :=
 (∃ kvs k,H a=some (.dK kvs)/\y=kV k/\kvs.length < sizeLine/\H'=upd H a (.dK (P4 kvs k v))) \/
 ∃ kvs k b,H a=some (.dT kvs)/\y = .ref b/\H b=some (.tup (k.map kV))/\kvs.length < sizeLine/\H'=upd H a (.dT (P4 kvs k v))
theorem X6.k {H:Hp}{a:Addr}{kvs:List (Key × V)}{k:Key}(e:H a=some (.dK kvs)):X6 H a (kV k) (Y7 kvs k):=.inl ⟨kvs,k,.inl e,rfl,rfl⟩
theorem X6.t {H:Hp}{a b:Addr}{kvs:List (List Key × V)}{k:List Key}(e:H a=some (.dT kvs))(eb:H b=some (.tup (k.map kV))):X6 H a (.ref b) (Y7 kvs k):=.inr ⟨kvs,k,b,.inl e,rfl,eb,rfl⟩
theorem a1D.k {H:Hp}{a:Addr}{kvs:List (Key × V)}{k:Key}{v:V}(e:H a=some (.dK kvs))(hl:kvs.length < sizeLine):a1D H a (kV k) v (upd H a (.dK (P4 kvs k v))):=.inl ⟨kvs,k,e,rfl,hl,rfl⟩
theorem a1D.t {H:Hp}{a b:Addr}{kvs:List (List Key × V)}{k:List Key}{v:V}(e:H a=some (.dT kvs))(eb:H b=some (.tup (k.map kV)))(hl:kvs.length < sizeLine) :
  a1D H a (.ref b) v (upd H a (.dT (P4 kvs k v))):=.inr ⟨kvs,k,b,e,rfl,eb,hl,rfl⟩
section
variable {X:Cx}{pins:List (Addr × Obj)}{σ:St}{H:Hp}{s:Shared}{a:Addr}{y v:V}{u r:Value}{o:Option V}{A:Around}{E:Value->Shared->Prop}
theorem Inv.big (I:Inv X pins σ H s):sysModules < s.heap.objs.size:=by
 have h:mainGlobals < s.heap.objs.size:=(I.mod.glob.keeps I.bk).lt;exact Nat.lt_trans (by decide) h
theorem a4I {Q:Value->Shared->Prop}(hu:A.units + 1 < cLine)(I:Inv X pins σ H s)(g:X6 H a y (some v))(ry:n4 y u)(h:∀ w' s',Inv X pins σ H s'->n4 v w'->Q w' s') :
  wpAny (model X.prog X.w) A (getItem (.ref a) u) Q E s:=by
 rcases g with ⟨kvs,k,e,ey,l⟩ | ⟨kvs,k,b,e,ey,eb,l⟩
 ·subst ey;obtain ⟨z,hd,vs,rel,dd⟩:=a0I I.hok e;obtain ⟨w',hw,rw'⟩:=Y5.some_of (v:=v) (o:=valueAt vs k) (by rw [l];exact rel.val k);exact wpAny_getItem_of (a3T ry) dd.mapOf hw (h w' _ (I.tok _) rw')
 ·subst ey;cases (show u=Value.ref b from ry);obtain ⟨z,hd,xs,rel,dd⟩:=a9H I.hok e;obtain ⟨w',hw,rw'⟩:=Y5.some_of (v:=v) (o:=(atKey xs k).map (·.2)) (by rw [l];exact rel.val k);obtain ⟨p,hp,hp2⟩:=Option.map_eq_some_iff.mp hw;refine wpAny_getItem_heap (tupleKind_room_in1 hu) (a4A I.hok eb) dd hp ?_;rw [hp2];exact h w' _ (I.tok _) rw'
theorem b5G {Q:Value->Shared->Prop}(hu:A.units + 1 < cLine)(I:Inv X pins σ H s)(g:X6 H a y o)(ry:n4 y u)(h:∀ s',Inv X pins σ H s'->Q (.bool (!o.isSome)) s') :
  wpAny (model X.prog X.w) A (compareOp .NotIn u (.ref a)) Q E s:=by
 rcases g with ⟨kvs,k,e,ey,l⟩ | ⟨kvs,k,b,e,ey,eb,l⟩
 ·subst ey;obtain ⟨z,hd,vs,rel,dd⟩:=a0I I.hok e;refine wpAny_notIn_of (a3T ry) hd dd.mapOf ?_;rw [← (rel.val k).isSome_eq,← l];exact h _ (I.tok _)
 ·subst ey;cases (show u=Value.ref b from ry);obtain ⟨z,hd,xs,rel,dd⟩:=a9H I.hok e;refine wpAny_notIn_heap (tupleKind_room_in1 hu) (a4A I.hok eb) hd dd ?_;have q:=(rel.val k).isSome_eq;rw [Option.isSome_map] at q;rw [← q,← l];exact h _ (I.tok _)
theorem a4x {h':Heap}{t':Nat}{ob:HO}(I:Inv X pins σ H s)(mu:Mut (H a))(hs:Heap.SameBut a s.heap h')(he:∃ q,h'.get? a=some q)(new:n8 X.prog X.w (upd H a ob) h' a ob) :
  Inv X pins σ (upd H a ob) { s with heap:=h',toks:=t' } :=
 I.write (x:=a) (e:=a) mu (.inl rfl) (λb q hb z=>(hs.2 b hb).trans z) he new
theorem b0P {P:Program}{w:World}{H':Hp}{h':Heap}{kvs:List (Key × V)}{vs:List (Key × Value)}(z:kvs.length <= sizeLine)(hd:(a == sysModules)=false)(rel:KV kvs vs)(dd:h'.DictOf (t7 P w) a vs) :
  n8 P w H' h' a (.dK kvs):=⟨z,hd,vs,rel,dd⟩
theorem a3I {H':Hp}{Q:Unit->Shared->Prop}(hu:A.units + 1 < cLine)(I:Inv X pins σ H s)(g:a1D H a y v H')(ry:n4 y u)(rv:n4 v r)(h:∀ s',Inv X pins σ H' s'->Q () s') :
  wpAny (model X.prog X.w) A (setItem (.ref a) u r) Q E s:=by
 rcases g with ⟨kvs,k,e,ey,l,eH⟩ | ⟨kvs,k,b,e,ey,eb,l,eH⟩
 ·subst ey eH;obtain ⟨z,hd,vs,rel,dd⟩:=b8g I.hok e;have hz:vs.length <= sizeLine:=by rw [← rel.length];exact z
  have hl:(P4 kvs k v).length <= sizeLine:=by have:=a0v kvs k v;omega
  refine wpAny_setItem_pairs (hsz:=hz) (a3T ry) dd λh' dd' hs=>h _ ?_;have he:∃ q,h'.get? a=some q:=let ⟨q,_,_,hq,_⟩:=dd';⟨q,hq⟩;exact a4x I (by rw [e];exact True.intro) hs he (b0P hl hd (rel.put k rv) dd')
 ·subst ey eH;cases (show u=Value.ref b from ry);obtain ⟨z,hd,xs,rel,dd⟩:=b7U I.hok e;have hz:xs.length <= sizeLine:=by rw [← Paired.length rel];exact z
  have hl:(P4 kvs k v).length <= sizeLine:=by have:=a0v kvs k v;omega
  refine wpAny_setItem_heap (hsz:=hz) (tupleKind_room_in1 hu) (a4A I.hok eb) dd λh' dd' hs=>h _ ?_;obtain ⟨q,es,ep,hq,h2,h3,h4,_,h5⟩:=dd';refine a4x I (by rw [e];exact True.intro) hs ⟨q,hq⟩ ⟨hl,hd,_,(rel.put k eb rv).keeps λc ys ec=>?_,q,es,ep,hq,h2,h3,h4,h5⟩;rw [d5 (B2 ec e (λz=>nomatch z))];exact ec
end
def b1Q (i:Expr):Prop:=∀ ov iv,subscripted i false ov iv=operate [ov,iv] (getItem ov iv)
theorem b2d {prog:Program}{w:World}{A:Around}{E:Value->Shared->Prop}{s:Shared}{env:Env}{value slice:Expr}{pos:Pos}{T id:String}{Q:Value->Shared->Prop}
  (hl:typeLookup (.type T) "__getitem__" = pure (some (.builtin id))) (hs:b1Q slice)
  (h:wpAny (model prog w) A (eval value env) (λo s₁=>wpAny (model prog w) A (eval slice env) (λi s₂=>s₂.TypeIs o T/\wpAny (model prog w) A (getItem o i) Q E s₂) E s₁) E s) :
  wpAny (model prog w) A (eval (.Subscript value slice pos) env) Q E s:=by
 refine Subscript_ (wpAny_mono h (λo s₁ h₁=>wpAny_mono h₁ (λi s₂ h₂=>?_) λ_ _ x=>x) λ_ _ x=>x);obtain ⟨hT,h₂⟩:=h₂;unfold subscriptTail;refine wpAny_bind ?_;rw [getitemInPython_of_ne hT.not_modules];refine wpAny_bind (wpAny_specialOf hT hl ?_);have fin:wpAny (model prog w) A (subscripted slice false o i) (λr s₃=>wpAny (model prog w) A (letTemporaryGo value o r >>= λ_=>pure r) Q E s₃) E s₂:=by
  rw [hs o i];exact wpAny_operating (wpAny_mono h₂ (λr s₃ h₃=>wpAny_bind (wpAny_letTemporaryGo (wpAny_pure h₃))) λ_ _ x=>x)
 first
  | exact wpAny_pure (wpAny_bind fin)
  | exact wpAny_bind (wpAny_pure (wpAny_bind fin))
  | exact wpAny_bind fin
theorem a3U {X:Cx} {pins:List (Addr × Obj)} {σ:St} {H:Hp} {s:Shared} {a:Addr} {y:V} {o:Option V} (I:Inv X pins σ H s) (g:X6 H a y o):s.TypeIs (.ref a) "dict":=by
 rcases g with ⟨kvs,k,e,_,_⟩ | ⟨kvs,k,b,e,_,_,_⟩
 ·obtain ⟨_,_,vs,_,dd⟩:=a0I I.hok e;exact dd.typeIs
 ·obtain ⟨_,_,xs,_,dd⟩:=a9H I.hok e;exact dd.typeIs
def b4R (td ty:TE):TE:=fun σ H Q=>td σ H λx H1=>ty σ H1 λy H2=>∃ a v,x = .ref a/\X6 H2 a y (some v)/\Q v H2
def b7z (ty td:TE):TE:=fun σ H Q=>ty σ H λy H1=>td σ H1 λx H2=>∃ a o,x = .ref a/\X6 H2 a y o/\Q (.bl (!o.isSome)) H2
def b1S (td ty tv:TE):TS:=λD σ H=>tv σ H λv H1=>td σ H1 λx H2=>ty σ H2 λy H3=>∃ a H4,x = .ref a/\a1D H3 a y v H4/\D.nx σ H4
def b2S (td ty tv:TE)(rd:V->V->Hp->VK->Prop):TS:=λD σ H=>td σ H λx H1=>ty σ H1 λy H2=>∃ a v,x = .ref a/\X6 H2 a y (some v) /\
 tv σ H2 λy2 H3=>rd v y2 H3 λz H4=>∃ H5,a1D H4 a y z H5/\D.nx σ H5
section
variable {X:Cx}{o i e value:Expr}{pos pos' tpos:Pos}{td ty tv:TE}
theorem b3e (hu:X.A.units + 1 < cLine)(ho:PE X o td)(hi:PE X i ty)(hs:b1Q i):PE X (.Subscript o i pos) (b4R td ty):=by
 intro pins s σ H Q I h;refine b2d PySem.F.slot_dict_getitem.lookup hs (thn (ho pins s σ H _ I h) λu s1 ⟨x,H1,I1,rx,q1⟩=>thn (hi pins s1 σ H1 _ I1 q1) λiv s2 ⟨y,H2,I2,ry,a,v,ex,g,q2⟩=>?_);subst ex;obtain rfl:u=Value.ref a:=rx;exact ⟨a3U I2 g,a4I hu I2 g ry λw' s3 I3 rw'=>⟨v,H2,I3,rw',q2⟩⟩
theorem b5l (hu:X.A.units + 1 < cLine)(hi:PE X i ty)(ho:PE X o td):PC X .NotIn i o (b7z ty td):=by
 intro pins s σ H Q I h;refine thn (hi pins s σ H _ I h) λiv s1 ⟨y,H1,I1,ry,q1⟩=>thn (ho pins s1 σ H1 _ I1 q1) λu s2 ⟨x,H2,I2,rx,a,ov,ex,g,q2⟩=>?_;subst ex;obtain rfl:u=Value.ref a:=rx;exact b5G hu I2 g ry λs3 I3=>⟨.bl (!ov.isSome),H2,I3,rfl,q2⟩
theorem b7d (hu:X.A.units + 1 < cLine)(ho:PE X o td)(hi:PE X i ty)(hv:PE X value tv)(hs:swapsWith value (some (.Subscript o i pos')) pos.line X.env=pure false) :
  PS X (.Assign [.Subscript o i pos'] value pos) (b1S td ty tv):=by
 intro pins s σ H D I h;refine wpAny_Assign_Subscript (thn (hv pins s σ H _ I h) λr s1 ⟨v,H1,I1,rv,q1⟩=>thn (ho pins s1 σ H1 _ I1 q1) λu s2 ⟨x,H2,I2,rx,q2⟩=>thn (hi pins s2 σ H2 _ I2 q2) λiv s3 ⟨y,H3,I3,ry,a,H4,ex,g,q3⟩=>?_) hs;subst ex;obtain rfl:u=Value.ref a:=rx;exact a3I hu I3 g ry rv λs4 I4=>⟨σ,H4,I4,q3⟩
theorem b8d {op:Operator}{rd:V->V->Hp->VK->Prop}(hu:X.A.units + 1 < cLine)(ho:PE X o td)(hi:PE X i ty)(hv:PE X value tv)(hop:b3X X op rd)
  (ha:∀ ov iv new,augStore i ov iv new=(do holding [new,ov,iv] (setItem ov iv new);release [new,ov,iv] [];pure .next)):PS X (.AugAssign (.Subscript o i tpos) op value pos) (b2S td ty tv rd):=by
 intro pins s σ H D I h;refine wpAny_AugAssign_SubscriptAny (thn (ho pins s σ H _ I h) λu s1 ⟨x,H1,I1,rx,q1⟩=>thn (hi pins s1 σ H1 _ I1 q1) λiv s2 ⟨y,H2,I2,ry,a,v,ex,g,q2⟩=>?_) ha;subst ex;obtain rfl:u=Value.ref a:=rx;refine a4I hu I2 g ry λw' s3 I3 rw'=>thn (hv pins s3 σ H2 _ I3 q2) λw2 s4 ⟨y2,H3,I4,ry2,q3⟩=>thn (hop pins s4 σ H3 v y2 w' w2 _ I4 rw' ry2 q3) λw3 s5 ⟨z,H4,I5,rz,H5,g5,q4⟩=>?_;exact a3I hu I5 g5 ry rz λs6 I6=>⟨σ,H5,I6,q4⟩
end
theorem a2U {P:Program} {w:World} {H:Hp} (h:Heap) (hb:sysModules < h.objs.size):n8 P w H (h.push { cls:=.type "dict",data:=.dict #[] }) h.objs.size (.dK []) :=
 ⟨Nat.zero_le _,beq_eq_false_iff_ne.mpr (Ne.symm (Nat.ne_of_lt hb)),[],.nil,Heap.DictOf.new h⟩
def b4J:TE:=λ_ H Q=>∀ p,H p=none->Q (.ref p) (upd H p (.dK []))
section
variable {X:Cx}{pos:Pos}
theorem a7R:PE X (.Dict [] [] pos) b4J:=λpins s σ H Q I h =>
 wpAny_Dict_empty ⟨.ref s.heap.objs.size,_,I.laid (a:=s.heap.objs.size) (o:=.dK []) (t':=s.toks) (λ_ _ q=>Heap.get?_push_of_some _ q) (Nat.le_refl _) (a2U s.heap I.big),rfl,h _ (I.hok.fresh (Nat.le_refl _))⟩
end
def a5X:List (TE × TE)->St->Hp->(List (V × V)->Hp->Prop)->Prop
 | [],_,H,Q=>Q [] H
 | (tk,tv) :: r,σ,H,Q=>tk σ H λx H1=>tv σ H1 λy H2=>a5X r σ H2 λps H3=>Q ((x,y) :: ps) H3
abbrev VV:List (V × V)->List (Value × Value)->Prop:=Paired λp q=>n4 p.1 q.1 /\ n4 p.2 q.2
def PPs (X:Cx)(pos:Pos)(keys:List (Option Expr))(values:List Expr)(trs:List (TE × TE)):Prop :=
 ∀ (pins:List (Addr × Obj)) (s:Shared) (σ:St) (H:Hp) (Q:List (V × V)->Hp->Prop),Inv X pins σ H s->a5X trs σ H Q ->
  wpAny (model X.prog X.w) X.A (evalPairs (pairTrees keys values X.env pos)) (λvs s'=>∃ ps H',Inv X pins σ H' s'/\VV ps vs/\Q ps H') X.xe s
theorem b7C {X:Cx}{pos:Pos}:PPs X pos [] [] []:=λpins s σ H Q I h=>pairTrees_nil_walk ⟨[],H,I,.nil,h⟩
theorem b5s {X:Cx}{pos:Pos}{k v:Expr}{ks:List (Option Expr)}{vs:List Expr}{tk tv:TE}{trs:List (TE × TE)}(hk:PE X k tk)(hv:PE X v tv)(hr:PPs X pos ks vs trs) :
  PPs X pos (some k :: ks) (v :: vs) ((tk,tv) :: trs):=λpins s σ H Q I h =>
 pairTrees_cons_walk (thn (hk pins s σ H _ I h) λu s1 ⟨x,H1,I1,rx,q1⟩=>thn (hv pins s1 σ H1 _ I1 q1) λw2 s2 ⟨y,H2,I2,ry,q2⟩ =>
  thn (hr pins s2 σ H2 _ I2 q2) λws s3 ⟨ps,H3,I3,rel,q3⟩=>⟨(x,y) :: ps,H3,I3,.cons ⟨rx,ry⟩ rel,q3⟩)
structure M2 (X:Cx)(o:Expr)(m:Str)(apos:Pos)(e f:Expr)(cpos:Pos):Prop where
 base:attributeBase o m X.env (eval o X.env)=eval o X.env
 few:((backTo cpos (starEach [e,f] X.env)).all (λx=>!x.1) && (backToKw cpos (keywordEach [] X.env)).all (λx=>x.1.isSome)
  && decide (([e,f]:List Expr).length + ([]:List Keyword).length + (if ([]:List Keyword).isEmpty then 0 else 1) < 30))=true
 line:(apos.endLine == cpos.line)=true
 trees:backTo cpos (starEach [e,f] X.env)=[(false,eval e X.env),(false,eval f X.env)]
def b9U (H:Hp)(a:Addr):Prop:=(∃ kvs,Rd H a (.dK kvs)) \/ ∃ kvs,Rd H a (.dT kvs)
theorem b6a {X:Cx}{pins:List (Addr × Obj)}{σ:St}{H:Hp}{s:Shared}{a:Addr}(I:Inv X pins σ H s)(d:b9U H a) :
  s.TypeIs (.ref a) "dict"/\(∀ b,Value.ref a = .ref b->∃ ob,s.heap.get? b=some ob/\ob.dict=none)/\(a == sysModules)=false:=by
 rcases d with ⟨kvs,e⟩ | ⟨kvs,e⟩
 ·obtain ⟨_,hd,vs,_,dd⟩:=a0I I.hok e;refine ⟨dd.typeIs,λb q=>?_,hd⟩;cases q;obtain ⟨ob,_,_,h1,h2,_⟩:=dd;exact ⟨ob,h1,h2.2.1⟩
 ·obtain ⟨_,hd,xs,_,dd⟩:=a9H I.hok e;refine ⟨dd.typeIs,λb q=>?_,hd⟩;cases q;obtain ⟨ob,_,_,h1,h2,_⟩:=dd;exact ⟨ob,h1,h2.2.1⟩
section
variable {X:Cx}{pins:List (Addr × Obj)}{σ:St}{H:Hp}{s:Shared}{a:Addr}{y d:V}{u r:Value}{o:Option V}{A:Around}{E:Value->Shared->Prop}
theorem b2P {Q:Value->Shared->Prop}(hu:A.units + 1 < cLine)(I:Inv X pins σ H s)(g:X6 H a y o)(ry:n4 y u)(rd:n4 d r)(h:∀ w' s',Inv X pins σ H s'->n4 (o.getD d) w'->Q w' s') :
  wpAny (model X.prog X.w) A (call (.builtin "dict.get") [.ref a,u,r]) Q E s:=by
 rcases g with ⟨kvs,k,e,ey,l⟩ | ⟨kvs,k,b,e,ey,eb,l⟩
 ·subst ey;obtain ⟨z,hd,vs,rel,dd⟩:=a0I I.hok e;refine call_meetsIn PySem.F.slot_dict_get dd.typeIs PySem.F.entry_dict_get (PySem.F.args_dict_get_3 _ _ _) (meets_dict_get_default (t7 X.prog X.w) a (a3T ry) hd r) ⟨_,dd.mapOf,h _ _ (I.tok _) ?_⟩;rw [l];exact (rel.val k).getD rd
 ·subst ey;cases (show u=Value.ref b from ry);obtain ⟨z,hd,xs,rel,dd⟩:=a9H I.hok e;refine call_meetsIn PySem.F.slot_dict_get dd.typeIs PySem.F.entry_dict_get (PySem.F.args_dict_get_3 _ _ _) (meetsH_dict_get_default (tupleKind (t7 X.prog X.w)) a b hd r) ⟨tupleKind_room_in1 hu,k,xs,a4A I.hok eb,dd,h _ _ (I.tok _) ?_⟩;rw [l];exact (rel.val k).getD rd
end
def b5J (td ty tx:TE):TE:=fun σ H Q=>td σ H λx H1=>∃ a,x = .ref a/\b9U H1 a/\ty σ H1 λy H2=>tx σ H2 λz H3=>∃ o,X6 H3 a y o/\Q (o.getD z) H3
section
variable {X:Cx}{o e f:Expr}{apos cpos:Pos}{td ty tx:TE}
theorem a8R (hu:X.A.units + 1 < cLine) (ho:PE X o td) (he:PE X e ty) (hf:PE X f tx) (m:M2 X o "get" apos e f cpos):PE X (.Call (.Attribute o "get" apos) [e,f] [] cpos) (b5J td ty tx):=by
 intro pins s σ H Q I h;refine wpAny_Call_method m.base m.few m.line PySem.F.plainAttrs_dict PySem.F.slot_dict_get PySem.F.type_dict_get (thn (ho pins s σ H _ I h) λu s1 ⟨x,H1,I1,rx,a,ex,d,q1⟩=>?_);subst ex;obtain rfl:u=Value.ref a:=rx;obtain ⟨t1,t2,_⟩:=b6a I1 d;refine ⟨t1,t2,?_⟩;rw [m.trees];refine Calls.callWith_builtin rfl (Calls.evalArgs_plain (Calls.spliced_cons (thn (he pins s1 σ H1 _ I1 q1) λiv s2 ⟨y,H2,I2,ry,q2⟩ =>
  Calls.spliced_cons (thn (hf pins s2 σ H2 _ I2 q2) λfv s3 ⟨z,H3,I3,rz,ov,g,q3⟩=>Calls.spliced_nil ?_))))
 exact b2P hu I3 g ry rz λw' s4 I4 rw'=>⟨_,H3,I4,rw',q3⟩
end
end L2
namespace Att
open PySem PySem.W PySem.Calls PyProof.Rows
end Att
namespace L2
open PySem PySem.Spec PyProof.Rows
end L2
namespace L2
open PySem PySem.Spec PyProof.Rows
end L2
namespace L2
open PySem PySem.Spec PyProof.Rows
end L2
namespace L2
open PySem PySem.Spec PyProof.Rows
section
variable {X:Cx}
theorem a4t (hc:X.calm=true):A8 X (.builtin "sorted") (λxs H Q=>∃ (p:Addr) (kvs:List (Key × V)) (ks:List Int),xs=[.ref p]/\H p=some (.dK kvs)/\kvs.map (·.1)=ks.map Sum.inl /\ ∀ l,H l=none->Q (.ref l) (upd H l (.lst ((o0 ks).map V.int)))):=by
 intro pins s σ H xs us Q I r h;obtain ⟨p,kvs,ks,rfl,hp,hk,q⟩:=h;obtain ⟨u,rfl,e⟩:=X7 r;obtain rfl:u=Value.ref p:=e;obtain ⟨z,lo,vs,rel,hD⟩:=b8g I.hok hp;have hl:kvs.length=ks.length:=by have:=congrArg List.length hk;simpa using this
 have hl2:=rel.length;have hkeys:=rel.keys;obtain ⟨ep,hA⟩:=hD.dictAt;refine MwSet.a7Q (I.ok.hd hc) lo hA (by omega) (ks:=ks) (λi k x v e1 e2=>?_) (by omega) (I.sorted (by omega) q);have e3:(vs.map (·.1))[i]? = some k:=by rw [List.getElem?_map,e1];rfl
 rw [← hkeys,hk,List.getElem?_map] at e3;cases e4:ks[i]? with
 | none=>rw [e4] at e3;cases e3
 | some n =>
  rw [e4] at e3;have e5:Sum.inl n=k:=Option.some.inj e3;subst e5
  rcases v0 (show a2v (Sum.inl n) v=true from e2) with ⟨j,t,a1,a2⟩ | ⟨_,_,a1,_⟩
  ·cases a1;exact ⟨t,by rw [a2];simp [e4]⟩
  ·cases a1
end
end L2
namespace L2
open PySem PySem.Spec PyProof.Rows MwSet
def p6 (n:Nat)(a b:Int):Int:=a * ((n:Int) - 1) / b
def M9 (a b:Int):Prop:=0<=a/\a<=b/\1<=b/\b<=1000000
theorem E6 {n:Nat}{a b:Int}(h:M9 a b)(hn:1<=n):0<=p6 n a b/\p6 n a b < n:=by
 obtain ⟨h1,h2,h3,_⟩:=h;unfold p6;have m0:0<=a * ((n:Int) - 1):=Int.mul_nonneg h1 (by omega);refine ⟨Int.ediv_nonneg m0 (by omega),Int.ediv_lt_of_lt_mul (by omega) ?_⟩;have:a * ((n:Int) - 1)<=b * ((n:Int) - 1):=Int.mul_le_mul_of_nonneg_right h2 (by omega);have e:(n:Int) * b=b * ((n:Int) - 1) + b:=by rw [Int.mul_sub,Int.mul_one,Int.mul_comm];omega
 omega
def p7 (ns:List Int)(a b:Int):Option Int:=(o0 ns)[(p6 ns.length a b).toNat]?
theorem R7 (a b:Int):p7 [] a b=none:=by unfold p7;rw [show o0 []=[] from List.length_eq_zero_iff.mp (by rw [E5];rfl)];rfl
theorem O1 {ns:List Int}{a b:Int}(h:M9 a b)(hn:ns≠[]):∃ h':(p6 ns.length a b).toNat < (o0 ns).length,p7 ns a b=some (o0 ns)[(p6 ns.length a b).toNat]:=by
 have hl:1<=ns.length:=by
  cases ns with
  | nil=>exact absurd rfl hn
  | cons x l=>simp
 have:=E6 h hl;have h':(p6 ns.length a b).toNat < (o0 ns).length:=by rw [E5];omega
 exact ⟨h',List.getElem?_eq_getElem h'⟩
theorem a8E {xs ys:List Int}(h:xs.Perm ys)(a b:Int):p7 xs a b=p7 ys a b:=by
 unfold p7;rw [a8Q h,h.length_eq]
theorem a6m {S:List Int}(hS:S.Pairwise (·<=·)){i:Nat}(hi:i < S.length)(v:Int):S[i]<=v↔i < S.countP λx=>decide (x<=v):=by
 have mono:∀ p q,(hp:p < S.length)->(hq:q < S.length)->p<=q->S[p]<=S[q]:=λp q hp hq hpq=>by
  rcases Nat.lt_or_ge p q with z | z
  ·exact List.pairwise_iff_getElem.mp hS p q hp hq z
  ·have:p=q:=by omega
   subst this;exact Int.le_refl _
 have e:S=S.take i ++ S[i] :: S.drop (i + 1):=by rw [← List.drop_eq_getElem_cons hi,List.take_append_drop]
 constructor
 ·intro h;have c1:(S.take (i + 1)).countP (λx=>decide (x<=v))=(S.take (i + 1)).length:=by
   rw [List.countP_eq_length];intro x hx;obtain ⟨m,hm,rfl⟩:=List.mem_iff_getElem.mp hx;rw [List.length_take] at hm;rw [List.getElem_take];exact decide_eq_true (Int.le_trans (mono m i (by omega) hi (by omega)) h)
  have c2:(S.take (i + 1)).countP (λx=>decide (x<=v))<=S.countP λx=>decide (x<=v):=List.Sublist.countP_le (List.take_sublist _ _);rw [c1,List.length_take] at c2
  omega
 ·intro h
  rcases Int.lt_or_le v S[i] with z | z
  ·exfalso
   have c1:(S.drop i).countP (λx=>decide (x<=v))=0:=by
    rw [List.countP_eq_zero];intro x hx;obtain ⟨m,hm,rfl⟩:=List.mem_iff_getElem.mp hx;rw [List.length_drop] at hm;rw [List.getElem_drop];have:=mono i (i + m) hi (by omega) (by omega)
    simp;omega
   have c2:S.countP (λx=>decide (x<=v))=(S.take i).countP (λx=>decide (x<=v)) + (S.drop i).countP (λx=>decide (x<=v)):=by rw [← List.countP_append,List.take_append_drop]
   have c3:(S.take i).countP (λx=>decide (x<=v))<=(S.take i).length:=List.countP_le_length;rw [List.length_take] at c3
   omega
  ·exact z
def f9 (ns:List Int):List Int:=o0 (C8 ns)
theorem O4 {ns:List Int}{x:Int}:x∈f9 ns↔x∈ns:=a2H.trans U6
theorem a2T (ns:List Int):(f9 ns).Nodup:=(E3 _).nodup_iff.mpr (a4C ns)
theorem U7 (ns:List Int):(f9 ns).Pairwise (· < ·):=by
 have h1:=K4 (C8 ns);have h2:=a2T ns;unfold f9 at h2 ⊢;refine (h1.and h2).imp λ{a b} ⟨p,q⟩=>?_;have:a≠b:=q
 omega
def q8 (ns:List Int)(i:Nat):Nat:=ns.countP λx=>decide (x∈(f9 ns).take i)
theorem a0S (ns:List Int):q8 ns 0=0:=by unfold q8;simp
theorem a8N (l:List Int)(p q r:Int->Bool)(h:∀ x,r x=(p x || q x))(hd:∀ x,¬ (p x=true/\q x=true)):l.countP r=l.countP p + l.countP q:=by
 induction l with
 | nil=>rfl
 | cons x l ih =>
  rw [List.countP_cons,List.countP_cons,List.countP_cons,ih,h x];have:=hd x;cases hp:p x <;> cases hq:q x <;> simp_all <;> omega
theorem a1S (ns:List Int){i:Nat}(hi:i < (f9 ns).length):q8 ns (i + 1)=q8 ns i + ns.count (f9 ns)[i]:=by
 unfold q8;rw [List.count];refine a8N ns _ _ _ (λx=>?_) λx ⟨h1,h2⟩=>?_
 ·have hm:x∈(f9 ns).take (i + 1)↔x∈(f9 ns).take i \/ x=(f9 ns)[i]:=by rw [List.take_succ_eq_append_getElem hi,List.mem_append,List.mem_singleton]
  rw [Bool.eq_iff_iff];simp only [decide_eq_true_eq,Bool.or_eq_true,beq_iff_eq];exact hm
 ·have e:x=(f9 ns)[i]:=by simpa using h2
  have h1':=of_decide_eq_true h1;rw [e] at h1';obtain ⟨m,hm,em⟩:=List.mem_iff_getElem.mp h1';rw [List.length_take] at hm;rw [List.getElem_take] at em;have:=List.pairwise_iff_getElem.mp (U7 ns) m i (by omega) hi (by omega)
  omega
theorem b7l (ns:List Int){i:Nat}(hi:i < (f9 ns).length):q8 ns (i + 1)=ns.countP λx=>decide (x<=(f9 ns)[i]):=by
 unfold q8;refine List.countP_congr λx hx=>?_;have hk:=O4.mpr hx;obtain ⟨m,hm,em⟩:=List.mem_iff_getElem.mp hk;simp only [decide_eq_true_eq]
 constructor
 ·intro h;obtain ⟨n,hn,en⟩:=List.mem_iff_getElem.mp h;rw [List.length_take] at hn;rw [List.getElem_take] at en
  rcases Nat.lt_or_ge n i with z | z
  ·have:=List.pairwise_iff_getElem.mp (U7 ns) n i (by omega) hi z
   omega
  ·have:n=i:=by omega
   subst this;omega
 ·intro h
  rcases Nat.lt_or_ge i m with z | z
  ·have:=List.pairwise_iff_getElem.mp (U7 ns) i m hi hm z
   omega
  ·refine List.mem_iff_getElem.mpr ⟨m,by rw [List.length_take];omega,?_⟩;rw [List.getElem_take];exact em
theorem b8i {ns:List Int}{a b:Int}(h:M9 a b){i:Nat}(hi:i < (f9 ns).length)(h1:∀ j,(hj:j < i)->¬ (p6 ns.length a b < (q8 ns (j + 1):Int)))(h2:p6 ns.length a b < (q8 ns (i + 1):Int)):p7 ns a b=some (f9 ns)[i]:=by
 have hne:ns≠[]:=λz=>by subst z;simp [f9,C8,o0] at hi
 obtain ⟨hp,e⟩:=O1 h hne;have hl:1<=ns.length:=by
  cases ns with
  | nil=>exact absurd rfl hne
  | cons x l=>simp
 have pb:=E6 h hl;have cnt:∀ v:Int,(o0 ns).countP (λx=>decide (x<=v))=ns.countP λx=>decide (x<=v):=λv=>(E3 ns).countP_eq _;rw [e]
 congr 1
 have hm:(o0 ns)[(p6 ns.length a b).toNat]∈f9 ns:=O4.mpr (a2H.mp (List.getElem_mem _));obtain ⟨m,hmlt,em⟩:=List.mem_iff_getElem.mp hm;have key:∀ j,(hj:j < (f9 ns).length)->((o0 ns)[(p6 ns.length a b).toNat]<=(f9 ns)[j]↔p6 ns.length a b < (q8 ns (j + 1):Int)):=λj hj=>by
  rw [a6m (K4 ns) hp,cnt,← b7l ns hj]
  omega
 have k1:=(key i hi).mpr h2
 rcases Nat.lt_trichotomy m i with z | z | z
 ·exact absurd ((key m hmlt).mp (by rw [em];exact Int.le_refl _)) (h1 m z)
 ·subst z;exact em.symm
 ·have:=List.pairwise_iff_getElem.mp (U7 ns) i m hi hmlt z
  omega
theorem a5Z (ns:List Int):q8 ns (f9 ns).length=ns.length:=by
 unfold q8;rw [List.countP_eq_length];intro x hx;rw [List.take_length];exact decide_eq_true (O4.mpr hx)
def G3 (l:List Int):List (Key × V):=(C8 l).map λk=>(Sum.inl k,V.int (l.count k))
theorem a6J (f:Int->V)(x:Int):∀ ks:List Int,Y7 (ks.map λk=>((Sum.inl k:Key),f k)) (Sum.inl x)=if x∈ks then some (f x) else none
 | []=>rfl
 | k :: ks=>by
  by_cases e:k=x
  ·subst e;rw [List.map_cons,a7n rfl,if_pos List.mem_cons_self]
  ·rw [List.map_cons,a8n (λz=>e (Sum.inl.inj z)),a6J f x ks];have:x∈k :: ks↔x∈ks:=by simp [show ¬ x=k from λz=>e z.symm]
   simp [this]
theorem a0O (l:List Int)(x:Int):Y7 (G3 l) (Sum.inl x)=if x∈l then some (V.int (l.count x)) else none:=by
 unfold G3;rw [a6J (λk=>V.int (l.count k)) x (C8 l)]
 simp [U6]
theorem b9G (l:List Int)(x:Int):(Y7 (G3 l) (Sum.inl x)).getD (.int 0) = .int (l.count x):=by
 rw [a0O]
 by_cases h:x∈l
 ·rw [if_pos h];rfl
 ·rw [if_neg h,List.count_eq_zero.mpr h];rfl
theorem b2h (l:List Int)(x:Int):P4 (G3 l) (Sum.inl x) (.int ((l.count x:Int) + 1))=G3 (l ++ [x]):=by
 have hc:∀ k,(l ++ [x]).count k=l.count k + if k=x then 1 else 0:=λk=>by
  rw [List.count_append]
  by_cases e:k=x
  ·subst e;simp
  ·rw [if_neg e,List.count_eq_zero.mpr (show ¬ k∈[x] by simpa using e)]
 unfold G3;rw [a2J];unfold P4;rw [Y6];have hv:=a0O l x;unfold G3 at hv;rw [hv]
 by_cases h:x∈l
 ·rw [if_pos h];have hw:F0 (C8 l) x=C8 l:=by unfold F0;rw [if_pos (U6.mpr h)]
  rw [hw];simp only [Option.isSome_some,if_true];rw [List.map_map];refine List.map_congr_left λk _=>?_;simp only [Function.comp_apply]
  by_cases e:k=x
  ·subst e;rw [if_pos rfl,hc,if_pos rfl]
   simp
  ·rw [if_neg (λz=>e (Sum.inl.inj z)),hc,if_neg e];rfl
 ·rw [if_neg h];have hw:F0 (C8 l) x=C8 l ++ [x]:=by unfold F0;rw [if_neg (λz=>h (U6.mp z))]
  rw [hw,List.map_append];simp only [Option.isSome_none,Bool.false_eq_true,if_false]
  congr 1
  ·refine List.map_congr_left λk hk=>?_;have:k≠x:=λz=>h (U6.mp (z ▸ hk));rw [hc,if_neg this];rfl
  ·simp [hc]
theorem b8G (l:List Int):(G3 l).length <= l.length:=by unfold G3;rw [List.length_map];exact a8q l
theorem b0x (l:List Int):(G3 l).map (·.1)=(C8 l).map Sum.inl:=by unfold G3;rw [List.map_map];rfl
end L2
namespace L2
open PySem PySem.Spec PyProof.Rows MwSet
def a7O (H:Hp)(p:Addr)(xs:List V):Prop:=H p=some (.tup xs) \/ H p=some (.lst xs)
theorem a7O.same {H H':Hp}{p:Addr}{xs:List V}(h:a7O H p xs)(s:i9 H H'):a7O H' p xs:=h.imp (s _ _) (s _ _)
theorem a7O.len {K:PySem.W.Frag}{H:Hp}{p:Addr}{xs:List V}(h:a7O H p xs):b2Q K (.ref p) H xs.length:=h.elim (λe=>.inr ⟨_,SqT.of e,rfl⟩) λe=>.inl ⟨_,SqL.of e,rfl⟩
theorem a0i {ns:List Int}{i:Nat}{x:V}(h:(ns.map V.int)[i]? = some x):∃ n,ns[i]? = some n/\x = .int n:=by
 rw [List.getElem?_map] at h;cases e:ns[i]? with
 | none=>rw [e] at h;cases h
 | some n=>rw [e] at h;exact ⟨n,rfl,(Option.some.inj h).symm⟩
end L2
namespace L2
open PySem PySem.Spec PyProof.Rows
theorem O6 {K:PySem.W.Frag}{a:Addr}{xs:List V}{tl:TE}{σ:St}{H H1:Hp}{one:V->Hp->(Option V->Hp->Prop)->Prop}{Q:List V->Hp->Prop}(htl:∀ k:VK,k (.ref a) H1->tl σ H k)(hp:a7O H1 a xs)(Pv:Nat->List V->Hp->Prop)(h0:Pv 0 [] H1)(hn:xs.length <= sizeLine)
  (hl:∀ i ys H',i<=xs.length -> Pv i ys H'->H' a=H1 a) (hs:∀ i x ys H',xs[i]? = some x->Pv i ys H'->one x H' λo H2=>Pv (i + 1) (ys ++ o.toList) H2) (hd:∀ ys H',Pv xs.length ys H'->Q ys H') :
  b8f K tl σ H (λJ H2=>a2D J H2 one Q) \/ b5F K tl σ H (λJ H2=>a2D J H2 one Q):=by
 rcases hp with e | e
 ·exact Or.inr (htl _ ⟨a,rfl,⟨_,SqT.of e⟩,b2o (xs:=xs) Pv h0 hn (λi ys H' hi p=>SqT.of (by rw [hl i ys H' hi p];exact e)) hs hd⟩)
 ·exact Or.inl (htl _ ⟨a,rfl,⟨_,SqL.of e⟩,Q2 (xs:=xs) Pv h0 hn (λi ys H' hi p=>SqL.of (by rw [hl i ys H' hi p];exact e)) hs hd⟩)
theorem b4h {r:List (Option Int)}{i:Nat}{x:V}(h:(r.map d6)[i]? = some x):∃ c,r[i]? = some c/\x=d6 c:=by
 rw [List.getElem?_map] at h;cases e:r[i]? with
 | none=>rw [e] at h;cases h
 | some c=>rw [e] at h;exact ⟨c,rfl,(Option.some.inj h).symm⟩
end L2
namespace L2
open PySem PySem.Spec PyProof.Rows
def a8h (F:List (List (Option Int)))(ru:l9)(u d l r:Nat)(i j:Int):List Int:=(wc F ru u d l r i j).filterMap id
def G2 (F:List (List (Option Int)))(ru:l9)(u d l r:Nat)(a b:Int)(i j:Int):Option Int:=p7 (a8h F ru u d l r i j) a b
def d9 (F:List (List (Option Int))):Nat:=(F.headD []).length
def fil (F:List (List (Option Int)))(ru:l9)(u d l r:Nat)(a b:Int):List (List (Option Int)):=(List.range F.length).map λi:Nat=>(List.range (d9 F)).map λj:Nat=>G2 F ru u d l r a b (i:Int) (j:Int)
theorem L9 (F:List (List (Option Int)))(ru:l9)(u d l r:Nat)(a b:Int):(fil F ru u d l r a b).length=F.length:=by unfold fil;simp
theorem a5j {F:List (List (Option Int))}{ru:l9}{u d l r:Nat}{a b:Int}{i:Nat}(hi:i < F.length):(fil F ru u d l r a b)[i]? = some ((List.range (d9 F)).map λj:Nat=>G2 F ru u d l r a b (i:Int) (j:Int)):=by
 unfold fil;rw [List.getElem?_map,List.getElem?_range hi];rfl
theorem b0w {F:List (List (Option Int))}{ru:l9}{u d l r:Nat}{a b:Int}:∀ x∈fil F ru u d l r a b,x.length=d9 F:=λx hx=>by
 obtain ⟨i,_,rfl⟩:=List.mem_map.mp hx
 simp
theorem a9p {F:List (List (Option Int))}(R:F9 F){ru:l9}{u d l r:Nat}{a b:Int}:d9 (fil F ru u d l r a b)=d9 F:=by
 have e:=a5j (ru:=ru) (u:=u) (d:=d) (l:=l) (r:=r) (a:=a) (b:=b) (i:=0) R.h1;unfold d9;have:(fil F ru u d l r a b).headD []=(List.range (d9 F)).map λj:Nat=>G2 F ru u d l r a b ((0:Nat):Int) (j:Int):=by
  cases h:fil F ru u d l r a b with
  | nil=>rw [h] at e;cases e
  | cons x l=>rw [h] at e;exact Option.some.inj e
 rw [this]
 simp [d9]
theorem F9.fil {F:List (List (Option Int))}(R:F9 F)(ru:l9)(u d l r:Nat)(a b:Int):F9 (fil F ru u d l r a b):=by
 have ew:=a9p R (ru:=ru) (u:=u) (d:=d) (l:=l) (r:=r) (a:=a) (b:=b);unfold d9 at ew;refine ⟨by rw [L9];exact R.h1,by rw [L9];exact R.hs,by rw [ew];exact R.w1,by rw [ew];exact R.ws,λx hx=>?_⟩;rw [ew];exact b0w x hx
end L2
namespace L2
open PySem PySem.Spec PyProof.Rows
end L2
namespace L2
open PySem PySem.Spec PyProof.Rows PySem.Builtin PySem.Builtin.Str
end L2
namespace L2
open PySem
end L2
namespace L2
open PySem PySem.Spec PyProof.Rows
section
variable {X:Cx}{pins:List (Addr × Obj)}{σ:St}{H:Hp}{s:Shared}{h':Heap}
theorem Inv.turnedL {t':Nat}{fp:List Addr}(I:Inv X pins σ H s)(k:∀ b o,b ∉ fp->s.heap.get? b=some o->h'.get? b=some o)(hf:∀ b∈fp,a0D X pins H b):Inv X pins σ H { s with heap:=h',toks:=t' }:=by
 have nit:∀ b u,H b=some u->b ∉ fp:=λb u e z=>by rw [(hf b z).1] at e;cases e
 refine I.step (g':=s.gens) (d':=s.drawn) (ch:=fp) (λb hb=>?_) (λb o _ _ hc e _=>k b o hc e) (λb o _ _ hc e _=>⟨o.slots,k b o hc e⟩) (λ_ _ _ _ n=>n)
  (λb o hc e=>⟨o,k b o hc e⟩) (λ_ _ e=>e) (λ_ _ _ e=>e) (λb ps e=>⟨#[],by rw [e];simp⟩) (λm hm=>?_) (λb u e=>?_) I.bare
 ·obtain ⟨f0,f1,f2,f3,f4,f5⟩:=hf b hb;exact ⟨f3,f1,f4,f5⟩
 ·obtain ⟨o,es,ep,ho,r⟩:=hm;exact ⟨o,es,ep,k _ o (λz=>(hf _ z).2.1 rfl) ho,r⟩
 ·refine (I.hok b u e).stay (λc v hc q=>k c v ?_ q) (λ_ q=>q) λ_ _ q=>q
  rcases hc with z | z
  ·rw [z];exact nit b u e
  ·exact nit c _ z
end
end L2
namespace MwZip
open PySem PySem.Spec PyProof.Rows
section
variable {prog:Program}{w:World}{A:Around}{E:Value->Shared->Prop}{s:Shared}
theorem b4w {u p:Addr}{k:Nat}{ts:Array Value}{v:Value}{Q:Value->Shared->Prop}(hu:s.heap.IsTupleIter u p k)(hp:s.heap.IsTuple p ts)(hv:ts[k]? = some v)
  (hQ:∀ g,g.IsTupleIter u p (k + 1)->Heap.SameBut u s.heap g->Q v { s with heap:=g }):wpAny (model prog w) A (Builtin.SmallTypes.nextOf (.ref u)) Q E s:=by
 obtain ⟨ou,gu,cu,du⟩:=id hu;obtain ⟨op,gp,_,np,dp⟩:=hp;unfold Builtin.SmallTypes.nextOf;refine wpAny_bind (wpAny_callSpecial?_slot (name:=Str.ofString "__next__") hu.typeIs PySem.F.slot_tuple_iterator_next (wpAny_call_entry PySem.F.slot_tuple_iterator_next hu.typeIs PySem.F.entry_tuple_iterator_next ?_ (PySem.F.args_tuple_iterator_next_1 _)))
 show wpAny _ _ (field (.ref u) 0 >>= _) _ _ s
 refine wpAny_bind (wpAny_field gu du (x:=.ref p) rfl ?_)
 show wpAny _ _ (if (Value.ref p == Value.none)=true then _ else _) _ _ s
 rw [if_neg (show ¬ ((Value.ref p == Value.none)=true) from Bool.false_ne_true)]
 show wpAny _ _ (field (.ref u) 1 >>= _) _ _ s
 refine wpAny_bind (wpAny_field gu du (x:=.int k 0) rfl ?_)
 show wpAny _ _ (seqItems? (.ref p) >>= _) _ _ s
 refine wpAny_bind (wpAny_seqItems gp dp ?_);simp only [Int.toNat_natCast,hv];refine wpAny_bind (wpAny_setField gu du (by simp) (wpAny_pure ⟨v,rfl,wpAny_pure (hQ _ ?_ (Heap.SameBut.update ..))⟩));refine ⟨_,Heap.get?_update_self _ gu (Obj.isFreed_of_fields (Obj.data_mapFields du _)),(Obj.cls_mapFields ..).trans cu,?_⟩;rw [Obj.data_mapFields du];simp [rawInt]
abbrev tIt (p:Addr):Obj:={ cls:=.type "tuple_iterator",data:=.fields #[.ref p,.int 0 0] }
abbrev zA (h:Heap)(p q:Addr):Heap:=(h.push (tIt p)).push (tIt q)
abbrev zB (h:Heap) (p q:Addr):Heap:=(zA h p q).push { cls:=.type "tuple",data:=.seq #[.ref h.objs.size,.ref (h.push (tIt p)).objs.size] }
abbrev zC (h:Heap) (p q:Addr):Heap:=(zB h p q).push { cls:=.type "tuple",data:=.seq #[.none,.none] }
abbrev zD (h:Heap) (p q:Addr):Heap:=(zC h p q).push { cls:=.type "zip",data:=.fields #[.none,.bool false,.bool false,.ref (zA h p q).objs.size,.ref (zB h p q).objs.size] }
end
end MwZip
namespace L2
open PySem PySem.Spec PyProof.Rows
theorem b3P:bootBuiltins "zip" = some (.type "zip"):=by decide +kernel
end L2
namespace L2
open PySem PySem.Spec PyProof.Rows
def LeC:Option Int->Option Int->Prop
 | none,none=>True
 | some x,some y=>x<=y
 | _,_=>False
theorem LeC.refl:∀ c,LeC c c
 | none=>trivial
 | some x=>Int.le_refl x
inductive LeN:List Int->List Int->Prop
 | nil:LeN [] []
 | cons {x y:Int} {xs ys:List Int}:x<=y->LeN xs ys->LeN (x :: xs) (y :: ys)
inductive LeO:List (Option Int)->List (Option Int)->Prop
 | nil:LeO [] []
 | cons {x y:Option Int} {xs ys:List (Option Int)}:LeC x y->LeO xs ys->LeO (x :: xs) (y :: ys)
theorem LeN.len:∀ {xs ys:List Int},LeN xs ys->xs.length=ys.length
 | _,_,.nil=>rfl
 | _,_,.cons _ t=>by simp [t.len]
theorem LeN.count {xs ys:List Int}(h:LeN xs ys)(v:Int):ys.countP (λx=>decide (x<=v))<=xs.countP λx=>decide (x<=v):=by
 induction h with
 | nil=>exact Nat.le_refl _
 | @cons x y xs ys e t ih =>
  rw [List.countP_cons,List.countP_cons]
  by_cases z:y<=v
  ·have z2:x<=v:=by omega
   rw [decide_eq_true z,decide_eq_true z2];simp only [if_true];omega
  ·rw [decide_eq_false z];simp only [Bool.false_eq_true,if_false]
   omega
theorem LeO.append {a b:List (Option Int)}(h:LeO a b):∀ {c d:List (Option Int)},LeO c d->LeO (a ++ c) (b ++ d):=by
 induction h with
 | nil=>exact λh=>h
 | cons e t ih=>exact λh=>.cons e (ih h)
theorem LeO.flat (f g:Nat->List (Option Int)):∀ l:List Nat,(∀ k∈l,LeO (f k) (g k))->LeO (l.flatMap f) (l.flatMap g)
 | [],_=>.nil
 | k :: l,h=>by
  rw [List.flatMap_cons,List.flatMap_cons];exact (h k List.mem_cons_self).append (LeO.flat f g l λx hx=>h x (List.mem_cons_of_mem _ hx))
theorem LeO.nums {a b:List (Option Int)}(h:LeO a b):LeN (a.filterMap id) (b.filterMap id):=by
 induction h with
 | nil=>exact .nil
 | @cons x y xs ys e t ih =>
  cases x with
  | none =>
   cases y with
   | none=>exact ih
   | some y=>exact e.elim
  | some x =>
   cases y with
   | none=>exact e.elim
   | some y=>exact .cons e ih
theorem b0C {xs ys:List Int}(h:LeN xs ys){i:Nat}(hi:i < (o0 xs).length)(hj:i < (o0 ys).length):(o0 xs)[i]<=(o0 ys)[i]:=by
 have a:=(a6m (K4 ys) hj ((o0 ys)[i])).mp (Int.le_refl _);refine (a6m (K4 xs) hi ((o0 ys)[i])).mpr (Nat.lt_of_lt_of_le a ?_);rw [(E3 ys).countP_eq,(E3 xs).countP_eq];exact h.count _
theorem b2a {xs ys:List Int}(h:LeN xs ys)(a b:Int):LeC (p7 xs a b) (p7 ys a b):=by
 unfold p7;rw [h.len];generalize (p6 ys.length a b).toNat=k;have l1:=E5 xs;have l2:=E5 ys;have l3:=h.len
 by_cases z:k < ys.length
 ·rw [List.getElem?_eq_getElem (show k < (o0 xs).length by omega),List.getElem?_eq_getElem (show k < (o0 ys).length by omega)];exact b0C h _ _
 ·rw [List.getElem?_eq_none (by omega),List.getElem?_eq_none (by omega)];exact trivial
structure LeF (F G:List (List (Option Int))):Prop where
 len:F.length=G.length
 wide:(F.headD []).length=(G.headD []).length
 cell:∀ i j:Int,0<=i->i < F.length -> 0<=j->j < (F.headD []).length -> LeC (m5 F i j) (m5 G i j)
theorem LeF.stands {F G:List (List (Option Int))}(R:F9 F)(h:LeF F G)(ru:l9)(i j:Int):LeO (k0 F ru i j) (k0 G ru i j):=by
 have hin:inF F i j=inF G i j:=by unfold inF;rw [h.len,h.wide]
 have h1:=R.h1;have w1:=R.w1;unfold L2.k0;rw [← hin];cases e:inF F i j with
 | true =>
  rw [if_pos rfl,if_pos rfl];unfold inF at e;simp only [Bool.and_eq_true,decide_eq_true_eq] at e;exact .cons (h.cell i j e.1.1 e.1.2 e.2.1 e.2.2) .nil
 | false =>
  rw [if_neg Bool.false_ne_true,if_neg Bool.false_ne_true];have go:∀ ru:l9,LeO [m5 F (led ru i F.length) (led ru j (F.headD []).length)] [m5 G (led ru i G.length) (led ru j (G.headD []).length)]:=λru=>by
   rw [← h.len,← h.wide];have li:=N6 ru i (n:=F.length) (by omega);have lj:=N6 ru j (n:=(F.headD []).length) (by omega);exact .cons (h.cell _ _ li.1 li.2 lj.1 lj.2) .nil
  cases ru with
  | there=>exact .nil
  | told c=>exact .cons (LeC.refl c) .nil
  | near=>exact go .near
  | turned=>exact go .turned
  | round=>exact go .round
theorem LeF.nums {F G:List (List (Option Int))}(R:F9 F)(h:LeF F G)(ru:l9)(u d l r:Nat)(i j:Int):LeN (a8h F ru u d l r i j) (a8h G ru u d l r i j):=by
 unfold a8h;refine LeO.nums ?_;unfold wc w9;exact LeO.flat _ _ _ λa _=>LeO.flat _ _ _ λb _=>h.stands R ru _ _
theorem fil_cell {F:List (List (Option Int))}{ru:l9}{u d l r:Nat}{a b:Int}{i j:Int}(i0:0<=i)(i1:i < F.length)(j0:0<=j)(j1:j < (F.headD []).length):m5 (fil F ru u d l r a b) i j=G2 F ru u d l r a b i j:=by
 unfold m5;rw [a5j (by omega)]
 show (((List.range (d9 F)).map λj:Nat=>G2 F ru u d l r a b ((i.toNat:Nat):Int) (j:Int))[j.toNat]?).join=_
 rw [List.getElem?_map,List.getElem?_range (show j.toNat < d9 F by unfold d9;omega)]
 show G2 F ru u d l r a b ((i.toNat:Nat):Int) ((j.toNat:Nat):Int)=_
 rw [Int.toNat_of_nonneg i0,Int.toNat_of_nonneg j0]
theorem LeF.fil {F G:List (List (Option Int))}(R:F9 F)(R':F9 G)(h:LeF F G)(ru:l9)(u d l r:Nat)(a b:Int):LeF (fil F ru u d l r a b) (fil G ru u d l r a b):=by
 have e1:=a9p R (ru:=ru) (u:=u) (d:=d) (l:=l) (r:=r) (a:=a) (b:=b);have e2:=a9p R' (ru:=ru) (u:=u) (d:=d) (l:=l) (r:=r) (a:=a) (b:=b);unfold d9 at e1 e2;refine ⟨by rw [L9,L9];exact h.len,by rw [e1,e2];exact h.wide,λi j i0 i1 j0 j1=>?_⟩;rw [L9] at i1;rw [e1] at j1;rw [fil_cell i0 i1 j0 j1,fil_cell i0 (by rw [← h.len];exact i1) j0 (by rw [← h.wide];exact j1)];exact b2a (h.nums R ru u d l r i j) a b
theorem a9B {F:List (List (Option Int))}{i j:Nat}{x:List (Option Int)}{c:Option Int}(h:F[i]? = some x)(h2:x[j]? = some c):m5 F (i:Int) (j:Int)=c:=by
 unfold m5;rw [Int.toNat_natCast,Int.toNat_natCast,h]
 show (x[j]?).join=c
 rw [h2];rfl
theorem b3v (F:List (List (Option Int)))(h:1<=F.length):F[0]? = some (F.headD []):=by
 cases F with
 | nil=>simp at h
 | cons x l=>rfl
end L2
namespace L2
open PySem PySem.Spec PyProof.Rows
section
variable {X:Cx}{pos:Pos}{K:PySem.W.Frag}
def b9W (K:PySem.W.Frag)(n:Nat)(t:TGs):TG:=λv σ H Q=>∃ a xs,v = .ref a/\SqL K H a xs/\xs.length=n/\t xs σ H Q
theorem b1D {es:List Expr}{k:Nat}{t:TGs}{n:Nat}(hK:X.K=K)(hc:X.calm=true)(h:PGs X es t)
  (hn:(assignEach es X.env).length=n:=by rfl) (hst:(assignEach es X.env).findIdx? (·.1)=none:=by rfl):PG X (.Tuple es k pos) (b9W K n t):=by
 subst hK;intro pins s σ H v u Q I r hw;obtain ⟨a,xs,e1,hq,hl,hw⟩:=hw;subst e1;cases r;obtain ⟨its,rv,p,hz⟩:=I.list hq;rw [assign_Tuple];refine wpAny_bind (wpAny_standAt ?_);unfold unpack;rw [show (assignEach es X.env).length=(its.toArray).size by simp [hn,← hl,rv.length],hst];refine wpAny_bind (wpAny_holding (PySem.W.kun_itemsOf (I.ok.hd hc) p.isList λh' hx=>?_));have I1:Inv X pins σ H { s with heap:=h' }:=I.kept (t':=s.toks) λb o e=>hx b o (Nat.ne_of_lt (Heap.lt_size e)) e;exact h pins _ σ H xs _ Q I1 (by simpa using rv) hw
end
end L2
namespace L2
open PySem PySem.Spec PyProof.Rows
def N0 (P:Program)(w:World)(a:Addr)(kvs:List (Key × V))(vs:List (Key × Value))(ep:Nat):HO:=.ext λh=>KV kvs vs/\h.DictAt (t7 P w) a vs ep/\kvs.length <= sizeLine/\(a == sysModules)=false
theorem b3w {P:Program}{w:World}{H:Hp}{h:Heap}{a:Addr}{kvs:List (Key × V)}{vs:List (Key × Value)}{ep:Nat}(r:KV kvs vs)(d:h.DictAt (t7 P w) a vs ep)(z:kvs.length <= sizeLine)(hd:(a == sysModules)=false):n8 P w H h a (N0 P w a kvs vs ep):=by
 refine ⟨⟨r,d,z,hd⟩,?_,λh1 h2 ⟨r1,d1,z1,e1⟩ k=>⟨r1,d1.at' k,z1,e1⟩⟩;obtain ⟨o,es,e,_⟩:=d;exact ⟨o,e⟩
theorem KV.get {kvs:List (Key × V)}{vs:List (Key × Value)}(r:KV kvs vs):∀ {i:Nat} {k:Key} {x:V},kvs[i]? = some (k,x)->∃ u,vs[i]? = some (k,u)/\n4 x u:=by
 unfold KV at r
 induction r with
 | nil=>intro i k x h;simp at h
 | @cons p q l1 l2 h t ih =>
  intro i k x e;cases i with
  | zero =>
   have e1:p=(k,x):=by simpa using e
   subst e1;obtain ⟨h1,h2⟩:=h;refine ⟨q.2,?_,h2⟩;have:q=(k,q.2):=by rw [show k=q.1 from h1]
   rw [← this];rfl
  | succ i=>exact ih (by simpa using e)
section
variable {X:Cx}{pins:List (Addr × Obj)}{σ:St}{H:Hp}{s:Shared}{a:Addr}{kvs:List (Key × V)}
theorem Inv.walked (I:Inv X pins σ H s)(e:H a=some (.dK kvs)):∃ vs ep,KV kvs vs/\s.heap.DictAt (t7 X.prog X.w) a vs ep/\(a == sysModules)=false/\Inv X pins σ (upd H a (N0 X.prog X.w a kvs vs ep)) s:=by
 obtain ⟨z,hd,vs,rel,dd⟩:=b8g I.hok e;obtain ⟨ep,da⟩:=dd.dictAt;have ho:∃ u,s.heap.get? a=some u:=let ⟨o,_,e',_⟩:=da;⟨o,e'⟩;exact ⟨vs,ep,rel,da,hd,I.write (x:=a) (e:=a) (h':=s.heap) (t':=s.toks) (by rw [e];exact True.intro) (.inl rfl) (λb u _ z=>z) ho (b3w rel da z hd)⟩
theorem Inv.thawed {vs:List (Key × Value)}{ep:Nat}(I:Inv X pins σ H s)(e:H a=some (N0 X.prog X.w a kvs vs ep)):Inv X pins σ (upd H a (.dK kvs)) s:=by
 obtain ⟨⟨rel,da,z,hd⟩,ho,_⟩:=(show n8 X.prog X.w H s.heap a (N0 X.prog X.w a kvs vs ep) from I.hok a _ e);exact I.write (x:=a) (e:=a) (h':=s.heap) (t':=s.toks) (by rw [e];exact True.intro) (.inl rfl) (λb u _ z=>z) ho ⟨z,hd,vs,rel,da.dictOf⟩
end
def Itd (P:Program)(w:World)(a:Addr)(kvs:List (Key × V))(vs:List (Key × Value))(ep:Nat):It :=
  ⟨λi H=>H a=some (N0 P w a kvs vs ep)/\i < kvs.length,
   λi H v H'=>∃ t k x,H t=none/\v = .ref t/\H'=upd H t (.tup [kV k,x])/\kvs[i]? = some (k,x),
   λi H=>H a=some (N0 P w a kvs vs ep)/\kvs.length <= i⟩
theorem b7N {k:Key}{v:Value}(h:a2v k v=true):n4 (kV k) v:=by
 rcases v0 h with ⟨j,t,rfl,rfl⟩ | ⟨x,t,rfl,rfl⟩
 ·exact ⟨t,rfl⟩
 ·exact ⟨t,rfl⟩
theorem a9W {P:Program}{w:World}{K:PySem.W.Frag}{elts:List Expr}{kk:Nat}{pos:Pos}(a it:Addr)(kvs:List (Key × V))(vs:List (Key × Value))(ep:Nat)(hne:a≠it) :
  b9o P w K (.Tuple elts kk pos) (Itd P w a kvs vs ep) [it] it (λi h=>∃ ok ov,IsItemIter h it a i vs.length ep ok ov) where
 mem:=by simp
 obj:=λi h st b hb=>by
  obtain ⟨ok,ov,e⟩:=st;have eb:b=it:=by simpa using hb
  subst eb;exact ⟨_,e,λv z=>by cases z⟩
 keep:=λi h h' st k=>by
  obtain ⟨ok,ov,e⟩:=st;exact ⟨ok,ov,k it (by simp) _ e⟩
 item:=by
  intro X hP hw hK hc i pins s σ H E I hf st hg;subst hP hw hK;obtain ⟨ha,hi⟩:=hg;obtain ⟨ok,ov,hit⟩:=st;obtain ⟨⟨rel,da,z,hd⟩,_,_⟩:=(show n8 X.prog X.w H s.heap a (N0 X.prog X.w a kvs vs ep) from I.hok a _ ha);have ek:kvs[i]? = some (kvs[i].1,kvs[i].2):=by rw [List.getElem?_eq_getElem hi]
  obtain ⟨u,eu,ru⟩:=KV.get rel ek;generalize kvs[i].1=k at ek eu;generalize kvs[i].2=x at ek ru;have lti:it < s.heap.objs.size:=Heap.lt_size hit;refine wpAny_pyNext_items_item hit da eu λkey h1 hk out1 new1 sz1 k1=>?_;have rk:n4 (kV k) key:=b7N hk;refine ⟨_,rfl,wpAny_letOwnedTupleGo_items out1 λh2 it2 k2=>?_⟩;have nit:it≠s.heap.objs.size:=Nat.ne_of_lt lti;have new2:h2.get? s.heap.objs.size=some { cls:=.type "tuple",data:=.seq #[key,u] }:=(k2.2 _ (Ne.symm nit)).trans new1;have new:n8 X.prog X.w (upd H s.heap.objs.size (.tup [kV k,x])) (s.heap.push { cls:=.type "tuple",data:=.seq #[key,u] }) s.heap.objs.size (.tup [kV k,x]) :=
   ⟨(by show 2<=sizeLine;decide),[key,u],.cons rk (.cons ru .nil),_,Heap.get?_push_size _ rfl,rfl,_,rfl⟩
  have I1:Inv X pins σ (upd H s.heap.objs.size (.tup [kV k,x])) { s with heap:=s.heap.push { cls:=.type "tuple",data:=.seq #[key,u] },toks:=s.toks }:=I.laid (λc o e=>Heap.get?_push_of_some _ e) (Nat.le_refl _) new;have hf1:∀ c∈[it],a0D X pins (upd H s.heap.objs.size (.tup [kV k,x])) c:=λc hc=>by
   obtain ⟨f0,f⟩:=hf c hc;have ec:c=it:=by simpa using hc
   exact ⟨by rw [d5 (by rw [ec];exact nit)];exact f0,f⟩
  have I2:Inv X pins σ (upd H s.heap.objs.size (.tup [kV k,x])) { s with heap:=h2,toks:=s.toks }:=by
   have I3:=I1.turnedL (t':=s.toks) (h':=h2) (fp:=[it]) (λc o hc e=>?_) hf1
   ·exact I3
   have cz:c≠it:=λm=>hc (by simp [m])
   rcases Heap.get?_push_cases e with ⟨rfl,rfl⟩ | e
   ·exact new2
   ·exact (k2.2 c cz).trans (k1 c o cz e)
  refine ⟨.ref s.heap.objs.size,_,I2,rfl,⟨s.heap.objs.size,k,x,I.hok.fresh (Nat.le_refl _),rfl,rfl,ek⟩,⟨_,_,it2⟩,λb hb=>(hf1 b hb).1⟩
 done:=by
  intro X hP hw hK hc i pins s σ H E I hf st hg;subst hP hw hK;obtain ⟨ha,hi⟩:=hg;obtain ⟨ok,ov,hit⟩:=st;obtain ⟨⟨rel,da,z,hd⟩,_,_⟩:=(show n8 X.prog X.w H s.heap a (N0 X.prog X.w a kvs vs ep) from I.hok a _ ha);have hl:=rel.length;refine wpAny_pyNext_items_end (I.ok.hd hc) hit da (by rw [List.getElem?_eq_none];omega) λh' k=>⟨rfl,I.turnedL (t':=s.toks) (fp:=[it]) (λc o hc' e=>k c o (λm=>hc' (by simp [m])) e) hf⟩
 self:=λ_ _ _ _ _ st h=>let ⟨_,_,e⟩:=st;PySem.W.kcp_self e h
def b4O (P:Program)(w:World)(td:TE):TI:=fun σ H R=>td σ H λx H1=>∃ a kvs,x = .ref a/\H1 a=some (.dK kvs)/\∀ vs ep,R (Itd P w a kvs vs ep) (upd H1 a (N0 P w a kvs vs ep))
section
variable {X:Cx}{P:Program}{w:World}
theorem b7s {elts:List Expr} {k:Nat} {pt:Pos} {o:Expr} {td:TE} {apos cpos:Pos} (hP:X.prog=P) (hw:X.w=w) (ho:PE X o td) (hbase:attributeBase o "items" X.env (eval o X.env)=eval o X.env:=by rfl) (hline:(apos.endLine == cpos.line)=true:=by rfl) :
  PI X (.Tuple elts k pt) (.Call (.Attribute o "items" apos) [] [] cpos) (b4O P w td):=by
 subst hP hw;intro pins s σ H R I h;refine wpAny_Call_method0_late hbase hline (thn (ho pins s σ H _ I h) λv s1 ⟨x,H1,I1,r1,a,kvs,ex,ea,q1⟩=>?_);subst ex;obtain rfl:v=Value.ref a:=r1;obtain ⟨t1,t2,_⟩:=b6a I1 (.inl ⟨kvs,.inl ea⟩);obtain ⟨vs,ep,rel,da,hd,I2⟩:=I1.walked ea;refine ⟨"dict",_,PySem.F.plainAttrs_dict,PySem.F.slot_dict_items,PySem.F.type_dict_items,t1,t2,Calls.callWith_builtin rfl (PySem.evalArgs_none ?_)⟩;refine call_meetsIn PySem.F.slot_dict_items da.dictOf.typeIs PySem.F.entry_dict_items (PySem.F.args_dict_items_1 _) (meets_dict_items (t7 X.prog X.w) a hd) ⟨⟨vs,da.dictOf⟩,?_⟩;refine wpAny_pyIter_items ⟨_,Heap.get?_push_size _ rfl,rfl,rfl⟩ (da.push _) ?_;have lta:a < s1.heap.objs.size:=da.lt_size;rw [Heap.size_push];have ne:a≠s1.heap.objs.size + 1:=Nat.ne_of_lt (Nat.lt_succ_of_lt lta);refine ⟨s1.heap.objs.size + 1,[s1.heap.objs.size + 1],_,_,upd H1 a (N0 X.prog X.w a kvs vs ep),rfl,I2.kept (t':=s1.toks) λb o e=>Heap.get?_push_of_some _ (Heap.get?_push_of_some _ e),a9W a _ kvs vs ep ne,⟨.none,.none,?_⟩,λc hc=>?_,q1 vs ep⟩
 ·have:=Heap.get?_push_size (s1.heap.push { cls:=.type "dict_items",data:=.fields #[.ref a] }) (o:={ cls:=.type "dict_itemiterator",data:=.fields #[.none,.bool false,.ref a,.int 0 0,.int vs.length 0,.int ep 0,.none,.none] }) rfl
  rwa [Heap.size_push] at this
 ·have ge:s1.heap.objs.size <= c:=by
   have:c=s1.heap.objs.size + 1:=by simpa using hc
   rw [this];exact Nat.le_succ _
  refine I2.fpOk ge ?_;have nc:c≠a:=Ne.symm (Nat.ne_of_lt (Nat.lt_of_lt_of_le lta ge));rw [d5 nc];exact I1.hok.fresh ge
end
def b7x (P:Program)(w:World)(H:Hp)(k:Hp->Prop):Prop:=∃ a kvs vs ep,H a=some (N0 P w a kvs vs ep)/\k (upd H a (.dK kvs))
def b9R (P:Program)(w:World)(t:TS):TS:=λD σ H=>t { nx:=fun σ' H1=>b7x P w H1 (D.nx σ'),rt:=λv H1=>b7x P w H1 (D.rt v),bk:=fun σ' H1=>b7x P w H1 (D.bk σ'),ct:=fun σ' H1=>b7x P w H1 (D.ct σ') } σ H
section
variable {X:Cx}{P:Program}{w:World}{e:Expr}{st:Stmt}{t:TE}{ts:TS}
theorem b5C (hP:X.prog=P)(hw:X.w=w)(h:PS X st ts):PS X st (b9R P w ts):=by
 subst hP hw;intro pins s σ H D I hh;refine thn (h pins s σ H _ I hh) λf s1 q=>?_;cases f with
 | next=>obtain ⟨σ',H1,I1,a,kvs,vs,ep,ea,q⟩:=q;exact ⟨σ',_,I1.thawed ea,q⟩
 | brk=>obtain ⟨σ',H1,I1,a,kvs,vs,ep,ea,q⟩:=q;exact ⟨σ',_,I1.thawed ea,q⟩
 | cont=>obtain ⟨σ',H1,I1,a,kvs,vs,ep,ea,q⟩:=q;exact ⟨σ',_,I1.thawed ea,q⟩
 | ret u=>obtain ⟨v,σ',H1,I1,r,a,kvs,vs,ep,ea,q⟩:=q;exact ⟨v,σ',_,I1.thawed ea,r,q⟩
end
theorem b4n {P:Program}{w:World}{a:Addr}{kvs:List (Key × V)}{vs:List (Key × Value)}{ep:Nat}{g:TG}{tb:TS}{D:a8t}{σ:St}{H:Hp}(Pv:Nat->St->Hp->Prop)(h0:Pv 0 σ H)(hl:∀ i σ H,i<=kvs.length -> Pv i σ H->H a=some (N0 P w a kvs vs ep))
  (hs:∀ i k x σ H t,kvs[i]? = some (k,x)->Pv i σ H->H t=none->g (.ref t) σ (upd H t (.tup [kV k,x])) fun σ2 H2=>tb { D with nx:=Pv (i + 1),ct:=Pv (i + 1),bk:=D.nx } σ2 H2) (hd:∀ σ H,Pv kvs.length σ H->D.nx σ H) :
  ∃ W:Nat->Nat->St->Hp->Prop,(∃ m,W 0 m σ H)/\∀ i m σ H,W i m σ H ->
   ((Itd P w a kvs vs ep).stop i H/\D.nx σ H) \/ ((Itd P w a kvs vs ep).go i H/\∃ N:St->Hp->Prop,(∀ σ' H',N σ' H'->∃ m',m' < m/\W (i + 1) m' σ' H')/\∀ x H',(Itd P w a kvs vs ep).yld i H x H'->g x σ H' fun σ2 H2=>tb { D with nx:=N,ct:=N,bk:=D.nx } σ2 H2):=by
 refine ⟨λi m σ H=>m=kvs.length - i/\i<=kvs.length /\ Pv i σ H,⟨kvs.length,by simp,Nat.zero_le _,h0⟩,?_⟩;rintro i m σ H ⟨rfl,hi,p⟩;have q1:=hl i σ H hi p
 by_cases hlt:i < kvs.length
 ·refine .inr ⟨⟨q1,hlt⟩,Pv (i + 1),fun σ' H' p'=>⟨kvs.length - (i + 1),by omega,rfl,hlt,p'⟩,λv H' y=>?_⟩;obtain ⟨t,k,x,ht,rfl,rfl,e⟩:=y;exact hs i k x σ _ t e p ht
 ·have e:i=kvs.length:=by omega
  subst e;exact .inl ⟨⟨q1,Nat.le_refl _⟩,hd σ H p⟩
def b9Q (td:TE):TE:=fun σ H Q=>td σ H λx H1=>∃ (a:Addr) (kvs:List (Key × V)) (ns:List Int),x = .ref a/\H1 a=some (.dK kvs)/\kvs.map (·.2)=ns.map V.int /\ Q (.int ns.sum) H1
theorem a6u (ns:List Int):∀ j:Nat,preSum (λi=>ns.getD i 0) j=(ns.take j).sum
 | 0=>by simp [preSum]
 | j + 1=>by
  rw [preSum,a6u ns j,List.take_add_one,List.sum_append,List.getD_eq_getElem?_getD];cases e:ns[j]? with
  | none=>simp
  | some x=>simp
theorem a4R (ns:List Int):preSum (λi=>ns.getD i 0) ns.length=ns.sum:=by rw [a6u,List.take_length]
section
variable {X:Cx}
theorem b1e {o:Expr} {td:TE} {p pos apos cpos:Pos} (hc:X.calm=true) (hg:Gl X "sum") (hm:X.mg "sum" = none) (ho:PE X o td) (hbase:attributeBase o "values" X.env (eval o X.env)=eval o X.env:=by rfl) (hline:(apos.endLine == cpos.line)=true:=by rfl)
  (hs:starEach [.Call (.Attribute o "values" apos) [] [] cpos] X.env=[(false,eval (.Call (.Attribute o "values" apos) [] [] cpos) X.env)]:=by rfl) :
  PE X (.Call (.Name "sum" p) [.Call (.Attribute o "values" apos) [] [] cpos] [] pos) (b9Q td):=by
 intro pins s σ H Q I h;refine wpAny_Call_Name_kw (a8m I hg hm b4P ?_);refine PyProof.Rows.callWith_builtin1 ?_ hs rfl;rw [hs]
 show wpAny _ _ (spliced ((false,eval (.Call (.Attribute o "values" apos) [] [] cpos) X.env) :: [])) _ _ s
 refine Calls.spliced_cons (wpAny_Call_method0_late hbase hline (thn (ho pins s σ H _ I h) λv s1 ⟨x,H1,I1,r1,a,kvs,ns,ex,ea,en,q1⟩=>?_));subst ex;obtain rfl:v=Value.ref a:=r1;obtain ⟨t1,t2,_⟩:=b6a I1 (.inl ⟨kvs,.inl ea⟩);obtain ⟨z,hd,vs,rel,dd⟩:=b8g I1.hok ea;obtain ⟨ep,da⟩:=dd.dictAt;refine ⟨"dict",_,PySem.F.plainAttrs_dict,PySem.F.slot_dict_values,PySem.F.type_dict_values,t1,t2,Calls.callWith_builtin rfl (PySem.evalArgs_none ?_)⟩;refine call_meetsIn PySem.F.slot_dict_values dd.typeIs PySem.F.entry_dict_values (PySem.F.args_dict_values_1 _) (meets_dict_values (t7 X.prog X.w) a hd) ⟨⟨vs,dd⟩,?_⟩;refine Calls.spliced_nil ?_;generalize hs2:({ s1 with heap:=s1.heap.push { cls:=.type "dict_values",data:=.fields #[.ref a] } }:Shared)=s2;have hk2:∀ b o,s1.heap.get? b=some o->s2.heap.get? b=some o:=λb o e=>by rw [← hs2];exact Heap.get?_push_of_some _ e
 have I2:Inv X pins σ H1 s2:=by rw [← hs2];exact I1.kept (t':=s1.toks) λb o e=>Heap.get?_push_of_some _ e
 have hv:s2.heap.IsValuesView s1.heap.objs.size a:=by rw [← hs2];exact ⟨_,Heap.get?_push_size _ rfl,rfl,rfl⟩
 have da2:s2.heap.DictAt (t7 X.prog X.w) a vs ep:=da.at' λo e=>hk2 _ _ e;refine call_sum_walkAnyS ?_;have Kd:=PySem.W.kdl_values (prog:=X.prog) (w:=X.w) (knd:=t7 X.prog X.w) (kvs:=vs) (ep:=ep) (r:=s1.heap.objs.size) (d:=a);obtain ⟨oI,St,hit,W,st⟩:=Kd.iter X.A.in1 s2 (I.ok.hd hc) ⟨hv,da2⟩;have hl:=rel.length;have ln:kvs.length=ns.length:=by have:=congrArg List.length en;simpa using this
 refine hit _ _ ⟨s2.heap.objs.size,_,_,_,vs.length,_,_,(λi=>ns.getD i 0),rfl,W.toS,st,λb hb=>?_,λi u hu=>?_,λs' t' hm=>?_⟩
 ·show b < (s2.heap.push oI).objs.size
  rw [Heap.size_push]
  rcases List.mem_cons.mp hb with e | hb
  ·rw [e];exact Nat.lt_succ_self _
  ·rw [List.mem_singleton.mp hb];exact Nat.lt_succ_of_lt (Kd.there _ ⟨hv,da2⟩).2
 ·obtain ⟨k,hx⟩:=hu;have hi:i < kvs.length:=by rw [hl];exact (List.getElem?_eq_some_iff.mp hx).1
  obtain ⟨u',e1,ru⟩:=KV.get rel (i:=i) (k:=kvs[i].1) (x:=kvs[i].2) (by rw [List.getElem?_eq_getElem hi]);rw [hx] at e1;have e2:u=u':=congrArg Prod.snd (Option.some.inj e1);subst e2;have e3:kvs[i].2=V.int (ns.getD i 0):=by
   have:(kvs.map (·.2))[i]? = (ns.map V.int)[i]?:=by rw [en]
   rw [List.getElem?_map,List.getElem?_map,List.getElem?_eq_getElem hi,List.getElem?_eq_getElem (show i < ns.length by omega)] at this;rw [List.getD_eq_getElem?_getD,List.getElem?_eq_getElem (show i < ns.length by omega)];exact Option.some.inj this
  rw [e3] at ru;exact ru
 ·have hk:∀ b o,s2.heap.get? b=some o->s'.heap.get? b=some o:=λb o e =>
   hm.heap b o (λhI=>absurd (Heap.lt_size e) (by rw [List.mem_singleton.mp hI];exact Nat.lt_irrefl _)) (Heap.get?_push_of_some _ e)
  rw [Moved.eq_with hm];refine ⟨.int ns.sum,H1,I2.kept (t':=s'.toks) hk,⟨t',?_⟩,q1⟩;rw [← a4R ns,← ln,hl]
end
end L2
namespace L2
open PySem PySem.Spec PyProof.Rows
def B5 (ks:List Int)(L:List Int):List Int:=ks.flatMap λk=>List.replicate (L.count k) k
theorem Q9 (k:Int)(ks L:List Int):B5 (k :: ks) L=List.replicate (L.count k) k ++ B5 ks L:=by unfold B5;rw [List.flatMap_cons]
theorem a7X {ks L:List Int}{x:Int}:x∈B5 ks L↔x∈ks/\x∈L:=by
 unfold B5;rw [List.mem_flatMap]
 constructor
 ·rintro ⟨k,hk,hx⟩;obtain ⟨h1,rfl⟩:=List.mem_replicate.mp hx;exact ⟨hk,List.count_pos_iff.mp (by omega)⟩
 ·rintro ⟨hk,hL⟩;exact ⟨x,hk,List.mem_replicate.mpr ⟨by have:=List.count_pos_iff.mpr hL;omega,rfl⟩⟩
theorem a0K {ks:List Int}(hn:ks.Nodup)(L:List Int)(x:Int):(B5 ks L).count x=if x∈ks then L.count x else 0:=by
 induction ks with
 | nil=>simp [B5]
 | cons k ks ih =>
  rw [Q9,List.count_append,List.count_replicate,ih (List.nodup_cons.mp hn).2];have hk:=(List.nodup_cons.mp hn).1
  by_cases z:k=x
  ·subst z;rw [if_neg hk];simp
  ·have z':¬ x=k:=λe=>z e.symm
   simp [z,z']
theorem a0u {ks L:List Int}(hn:ks.Nodup)(h:∀ x∈L,x∈ks):(B5 ks L).Perm L:=by
 rw [List.perm_iff_count];intro x;rw [a0K hn]
 by_cases z:x∈ks
 ·rw [if_pos z]
 ·rw [if_neg z,List.count_eq_zero.mpr λhx=>z (h x hx)]
theorem a5Q {ks:List Int}(hr:ks.Pairwise (· < ·))(L:List Int):(B5 ks L).Pairwise (·<=·):=by
 induction ks with
 | nil=>exact .nil
 | cons k ks ih =>
  obtain ⟨h1,h2⟩:=List.pairwise_cons.mp hr;rw [Q9,List.pairwise_append];refine ⟨List.pairwise_replicate.mpr (.inr (Int.le_refl _)),ih h2,λa ha b hb=>?_⟩;have e:=(List.mem_replicate.mp ha).2;have:=h1 b (a7X.mp hb).1
  omega
theorem a4Q {ks L:List Int}(hr:ks.Pairwise (· < ·))(h:∀ x∈L,x∈ks):B5 ks L=o0 L :=
 a2y (a0u (hr.imp λh=>Int.ne_of_lt h) h) (a5Q hr L)
theorem a5l (ks L:List Int):((B5 ks L).length:Int)=(ks.map λk=>(L.count k:Int)).sum:=by
 induction ks with
 | nil=>rfl
 | cons k ks ih=>rw [Q9,List.length_append,List.length_replicate,List.map_cons,List.sum_cons,← ih];omega
theorem a4l {ks L:List Int}(hn:ks.Nodup)(h:∀ x∈L,x∈ks):(ks.map λk=>(L.count k:Int)).sum=L.length:=by
 rw [← a5l,(a0u hn h).length_eq]
theorem b4j {ks L:List Int}{pl:Int}(p0:0<=pl):∀ {i:Nat} {k:Int},ks[i]? = some k->(((ks.take i).map λk=>(L.count k:Int)).sum <= pl)->pl < ((ks.take (i + 1)).map λk=>(L.count k:Int)).sum -> (B5 ks L)[pl.toNat]? = some k:=by
 intro i k hk h1 h2;have e:ks=ks.take i ++ k :: ks.drop (i + 1):=by
  obtain ⟨hi,ei⟩:=List.getElem?_eq_some_iff.mp hk;rw [← ei,← List.drop_eq_getElem_cons hi,List.take_append_drop]
 have e2:ks.take (i + 1)=ks.take i ++ [k]:=by rw [List.take_add_one,hk];rfl
 rw [e2,← a5l] at h2;rw [← a5l] at h1;have es:B5 ks L=B5 (ks.take i) L ++ (List.replicate (L.count k) k ++ B5 (ks.drop (i + 1)) L):=by
  rw [← Q9];unfold B5;rw [← List.flatMap_append,← e]
 have e3:B5 (ks.take i ++ [k]) L=B5 (ks.take i) L ++ List.replicate (L.count k) k:=by
  unfold B5;rw [List.flatMap_append];simp
 rw [e3,List.length_append,List.length_replicate] at h2;rw [es,List.getElem?_append_right (by omega),List.getElem?_append_left (by rw [List.length_replicate];omega),List.getElem?_replicate,if_pos (by omega)]
theorem b0j {ks L:List Int}(hr:ks.Pairwise (· < ·))(h:∀ x∈L,x∈ks){pl:Int}(p0:0<=pl){i:Nat}{k:Int}(hk:ks[i]? = some k)(h2:pl < ((ks.take (i + 1)).map λk=>(L.count k:Int)).sum)
  (hb:∀ j,j < i->¬ pl < ((ks.take (j + 1)).map λk=>(L.count k:Int)).sum):(o0 L)[pl.toNat]? = some k:=by
 rw [← a4Q hr h];refine b4j p0 hk ?_ h2;cases i with
 | zero=>simpa using p0
 | succ i=>exact Int.not_lt.mp (hb i (Nat.lt_succ_self i))
end L2
namespace L2
open PySem PySem.Spec PyProof.Rows
end L2
namespace L2
open PySem PySem.Spec PyProof.Rows
end L2
namespace L2
open PySem PySem.Spec PyProof.Rows
def a0W (K:PySem.W.Frag)(C:Addr)(m qual:Str)(ps:List Str)(st:Stmt):Prop:=∃ f fd,b5c K C m f/\Fun K m qual st f fd/\Q6 K fd ps []
def b0y (K:PySem.W.Frag) (C:Addr) (qual:Str) (ps:List Str) (st:Stmt):Prop:=∃ f fd,Mk K C f/\Fun K "__init__" qual st f fd/\Q6 K fd ps []
def DfM (P:Program)(w:World)(K:PySem.W.Frag)(mg:Str->Option Value)(base:Heap)(k:Nat)(C:Addr)(m:Str)(ps:List Str)(sp:Sp):Prop :=
 ∃ (f:Addr) (fd:FuncData),a7t P w K mg base CX0 k f fd ps sp/\b5c K C m f/\Q6 K fd ps []/\∃ qual st,Fun K m qual st f fd
def DfI (P:Program)(w:World)(K:PySem.W.Frag)(mg:Str->Option Value)(base:Heap)(k:Nat)(C:Addr)(ps:List Str)(sp:Sp):Prop :=
 ∃ (f:Addr) (fd:FuncData),a7t P w K mg base CX0 k f fd ps sp/\Mk K C f/\Q6 K fd ps []/\∃ qual st,Fun K "__init__" qual st f fd
section
variable {P:Program}{w:World}{K:PySem.W.Frag}{mg:Str->Option Value}{base:Heap}
theorem a0W.ok {C:Addr}{m qual:Str}{ps N:List Str}{st:Stmt}{k:Nat}{sp:Sp}(R:a0W K C m qual ps st)(S:e8 N ps (c8 st))(len:∀ vs H Q E,sp vs H Q E->vs.length=ps.length)
  (hbody:∀ (f:Addr) (cdv:Value) (A:Around) (outer:List Env) (s:Shared) (H:Hp) (vs:List V) (Q:VK) (E:XK),E9 k (A.deeper (envOfC qual (c8 st) s.heap.objs.size f cdv))->sp vs H Q E ->
   ∃ t,PSs (a7N CX0 P w K mg base N qual (c8 st) f cdv A outer s H E).nox (B9 st) t/\t { nx:=λ_ H'=>Q .non H',rt:=Q } (Z0 N vs) H):DfM P w K mg base (k + 1) C m ps sp:=by
 obtain ⟨f,fd,M,F,b⟩:=R;exact ⟨f,fd,F.ok S len (λcdv A outer s H vs Q E hr h=>hbody f cdv A outer s H vs Q E hr h),M,b,_,_,F⟩
theorem b0y.ok {C:Addr}{qual:Str}{ps N:List Str}{st:Stmt}{k:Nat}{sp:Sp}(R:b0y K C qual ps st)(S:e8 N ps (c8 st))(len:∀ vs H Q E,sp vs H Q E->vs.length=ps.length)
  (hbody:∀ (f:Addr) (cdv:Value) (A:Around) (outer:List Env) (s:Shared) (H:Hp) (vs:List V) (Q:VK) (E:XK),E9 k (A.deeper (envOfC qual (c8 st) s.heap.objs.size f cdv))->sp vs H Q E ->
   ∃ t,PSs (a7N CX0 P w K mg base N qual (c8 st) f cdv A outer s H E).nox (B9 st) t/\t { nx:=λ_ H'=>Q .non H',rt:=Q } (Z0 N vs) H):DfI P w K mg base (k + 1) C ps sp:=by
 obtain ⟨f,fd,M,F,b⟩:=R;exact ⟨f,fd,F.ok S len (λcdv A outer s H vs Q E hr h=>hbody f cdv A outer s H vs Q E hr h),M,b,_,_,F⟩
end
section
variable {X:Cx}{k:Nat}{C:Addr}{m:Str}{ps:List Str}{sp:Sp}{o e:Expr}{es:List Expr}{ta:TE}{t:TA}{apos pos:Pos}
theorem b1t {pl:Sem Bool}(D:DfM X.prog X.w X.K X.mg X.base k C m ps sp)(c:Cls X.K C)(hr:E9 k X.A)(he:PE X o ta)(ha:PA X (e :: es) t)
  (hst:starEach (e :: es) X.env=(false,eval e X.env) :: starEach es X.env:=by rfl) (hpl:(backTo pos (starEach es X.env)).any (·.1)=false:=by rfl)
  (ht:eval (.Call (.Attribute o m apos) (e :: es) [] pos) X.env=(do
   let ov ← eval o X.env
   standAt apos.atName
   let (f,first) ← holding [ov] (getMethod ov m pl)
   callWith pos f first (backTo pos (starEach (e :: es) X.env)) (backToKw pos (keywordEach [] X.env))):=by rfl) :
  PE X (.Call (.Attribute o m apos) (e :: es) [] pos) (b9c C m sp [] E0 ta t):=by
 obtain ⟨f,fd,F,M,b,_⟩:=D;exact b2D (pl:=pl) he c M F hr b .nil b6e ha hst hpl ht
theorem b0t {pl:Sem Bool}(D:DfM X.prog X.w X.K X.mg X.base k C m ps sp)(c:Cls X.K C)(hr:E9 k X.A)(he:PE X o ta)
  (ht:eval (.Call (.Attribute o m apos) [] [] pos) X.env=(do
   let ov ← eval o X.env
   standAt apos.atName
   let (f,first) ← holding [ov] (getMethod ov m pl)
   callWith pos f first (backTo pos (starEach [] X.env)) (backToKw pos (keywordEach [] X.env))):=by rfl) :
  PE X (.Call (.Attribute o m apos) [] [] pos) (b9c C m sp [] E0 ta a6D):=by
 obtain ⟨f,fd,F,M,b,_⟩:=D;exact b2t (pl:=pl) he c M F hr b .nil b6e ht
theorem b9s {x:Str}{p:Pos}(D:DfI X.prog X.w X.K X.mg X.base k C ps sp)(hr:E9 (k + 1) X.A)(hm:X.mg x=some (.ref C))(ha:PA X (e :: es) t)(hg:Gl X x:=by rfl)
  (hdb:(x == ("__debug__" : Str))=false:=by decide) (he:starEach (e :: es) X.env=(false,eval e X.env) :: starEach es X.env:=by rfl) (hpl:(backTo pos (starEach es X.env)).any (·.1)=false:=by rfl) :
  PE X (.Call (.Name x p) (e :: es) [] pos) (b7H C sp [] E0 t):=by
 obtain ⟨f,fd,F,M,b,_⟩:=D;exact b3D M F hr hg hm b .nil b6e ha hdb he hpl
theorem R5 {K:PySem.W.Frag}{f:Str}(h:X.K=K)(he:PE X o ta)(hb:attributeBase o f X.env (eval o X.env)=eval o X.env):PE X (.Attribute o f pos) (b1R K ta f):=by subst h;exact b5L he hb
end
end L2
namespace L2
open PySem PySem.Spec PyProof.Rows
def F2 (F:List (List (Option Int)))(ru:l9)(i j:Int):List Int:=(k0 F ru i j).filterMap id
def j6 (F:List (List (Option Int)))(ru:l9)(A:L7):List Int:=A.1.flatMap λi=>A.2.flatMap λj=>F2 F ru i j
theorem a1H (lo:Int)(n:Nat):(ups lo n).Nodup:=by
 induction n with
 | zero=>exact List.Pairwise.nil
 | succ n ih =>
  rw [b6p,List.nodup_append];refine ⟨ih,by simp,λa ha b hb=>?_⟩;have:=W9.mp ha;have:b=lo + (n:Nat):=by simpa using hb
  omega
theorem T3 {xs:List Int}(h:xs.Nodup)(a:Int):xs.count a=if a∈xs then 1 else 0:=by
 by_cases z:a∈xs
 ·rw [if_pos z];have h1:=List.nodup_iff_count.mp h a;have h2:=List.count_pos_iff.mpr z
  omega
 ·rw [if_neg z];exact List.count_eq_zero.mpr z
theorem a1G {xs ys:List Int}(hx:xs.Nodup)(hy:ys.Nodup):(xs ++ G0 ys xs).Perm (ys ++ G0 xs ys):=by
 rw [List.perm_iff_count];intro a;have h1:(G0 ys xs).Nodup:=hy.filter _;have h2:(G0 xs ys).Nodup:=hx.filter _;rw [List.count_append,List.count_append,T3 hx,T3 hy,T3 h1,T3 h2];unfold G0
 by_cases z1:a∈xs <;> by_cases z2:a∈ys <;> simp [z1,z2]
theorem a9A {α:Type}(f g:Int->List α):∀ R:List Int,(R.flatMap f ++ R.flatMap g).Perm (R.flatMap λi=>f i ++ g i)
 | []=>List.Perm.refl _
 | i :: R=>by
  rw [List.flatMap_cons,List.flatMap_cons,List.flatMap_cons];have ih:=a9A f g R;have h1:(f i ++ R.flatMap f ++ (g i ++ R.flatMap g)).Perm (f i ++ g i ++ (R.flatMap f ++ R.flatMap g)):=by
   rw [List.append_assoc,List.append_assoc];refine List.Perm.append_left _ ?_;rw [← List.append_assoc,← List.append_assoc];exact List.Perm.append_right _ List.perm_append_comm
  exact h1.trans (List.Perm.append_left _ ih)
theorem a6H {α:Type}{f g:Int->List α}:∀ {R:List Int},(∀ i,(f i).Perm (g i))->(R.flatMap f).Perm (R.flatMap g)
 | [],_=>List.Perm.refl _
 | i :: R,h=>by
  rw [List.flatMap_cons,List.flatMap_cons];exact (h i).append (a6H h)
theorem b5o (F:List (List (Option Int)))(ru:l9){R C1 C2 D1 D2:List Int}(h:(C1 ++ D1).Perm (C2 ++ D2)):(j6 F ru (R,C1) ++ j6 F ru (R,D1)).Perm (j6 F ru (R,C2) ++ j6 F ru (R,D2)):=by
 unfold j6;refine (a9A _ _ R).trans (List.Perm.trans ?_ (a9A _ _ R).symm);refine a6H λi=>?_;rw [← List.flatMap_append,← List.flatMap_append];exact h.flatMap_right _
theorem b7o (F:List (List (Option Int)))(ru:l9){R1 R2 S1 S2 C:List Int}(h:(R1 ++ S1).Perm (R2 ++ S2)):(j6 F ru (R1,C) ++ j6 F ru (S1,C)).Perm (j6 F ru (R2,C) ++ j6 F ru (S2,C)):=by
 unfold j6;rw [← List.flatMap_append,← List.flatMap_append];exact h.flatMap_right _
theorem b4o {F:List (List (Option Int))}{ru:l9}{u d l r w k:Nat}(w1:1<=w) :
  (j6 F ru (G8 u d l r w k) ++ j6 F ru (y9 (l0 u d l r w k) (G8 u d l r w k))).Perm (j6 F ru (l0 u d l r w k) ++ j6 F ru (y9 (G8 u d l r w k) (l0 u d l r w k))):=by
 cases k with
 | zero =>
  have e:G8 u d l r w 0=([],[]):=rfl;rw [e];have n1:G0 (l0 u d l r w 0).1 []=(l0 u d l r w 0).1:=by unfold G0;simp
  have n2:G0 (l0 u d l r w 0).2 []=(l0 u d l r w 0).2:=by unfold G0;simp
  have b1:y9 (l0 u d l r w 0) ([],[])=l0 u d l r w 0:=by
   unfold y9
   split
   ·next h=>rw [n2]
   ·next h=>rw [n1]
  have b2:j6 F ru (y9 ([],[]) (l0 u d l r w 0))=[]:=by
   unfold y9 j6
   split
   ·simp
   ·unfold G0;simp
  rw [b1,b2];unfold j6
  simp
 | succ k =>
  have e:G8 u d l r w (k + 1)=l0 u d l r w k:=rfl;rw [e];have nd:∀ k,(l0 u d l r w k).1.Nodup /\ (l0 u d l r w k).2.Nodup:=λk=>⟨a1H _ _,a1H _ _⟩
  rcases a3Z (w:=w) (k:=k) w1 with ⟨h1,_,_⟩ | h2
  ·have er:(l0 u d l r w (k + 1)).1=(l0 u d l r w k).1:=by unfold l0;rw [h1]
   unfold y9;rw [if_pos er,if_pos er.symm];have a1:l0 u d l r w (k + 1)=((l0 u d l r w k).1,(l0 u d l r w (k + 1)).2):=by rw [← er]
   have a2:l0 u d l r w k=((l0 u d l r w k).1,(l0 u d l r w k).2):=rfl;rw [er,a1];exact b5o F ru (a1G (nd k).2 (nd (k + 1)).2)
  ·obtain ⟨h1,_,h2⟩:=h2;have ec:(l0 u d l r w (k + 1)).2=(l0 u d l r w k).2:=by unfold l0;rw [h2]
   have nr:(l0 u d l r w (k + 1)).1 ≠ (l0 u d l r w k).1:=λe=>by
    have:=b9y (show ups ((m8 w (k + 1)).1 - u) ((u + d) + 1)=ups ((m8 w k).1 - u) (u + d + 1) from e)
    omega
   unfold y9;rw [if_neg nr,if_neg λe=>nr e.symm];have a1:l0 u d l r w (k + 1)=((l0 u d l r w (k + 1)).1,(l0 u d l r w k).2):=by rw [← ec]
   rw [ec,a1];exact b7o F ru (a1G (nd k).1 (nd (k + 1)).1)
theorem b0m (F:List (List (Option Int)))(ru:l9)(u d l r w k:Nat):j6 F ru (l0 u d l r w k)=a8h F ru u d l r (m8 w k).1 (m8 w k).2:=by
 unfold j6 a8h l0 wc w9 ups F2;rw [List.filterMap_flatMap];dsimp only;rw [List.flatMap_map]
 congr 1
 funext a
 rw [List.filterMap_flatMap,List.flatMap_map]
def y4 (F:List (List (Option Int)))(ru:l9):List (Option Int):=F.flatten ++ (match ru with | .told c=>[c] | _=>[])
theorem a5x {F:List (List (Option Int))}{i j:Int}{x:Int}(h:m5 F i j=some x):some x∈F.flatten:=by
 unfold m5 at h;cases e1:F[i.toNat]? with
 | none=>rw [e1] at h;cases h
 | some r =>
  rw [e1] at h;cases e2:r[j.toNat]? with
  | none=>rw [Option.bind_some,e2] at h;cases h
  | some c =>
   rw [Option.bind_some,e2] at h;have:c=some x:=h;subst this;exact List.mem_flatten.mpr ⟨r,List.mem_of_getElem? e1,List.mem_of_getElem? e2⟩
theorem b6t {F:List (List (Option Int))}{ru:l9}{i j x:Int}(h:x∈F2 F ru i j):x∈(y4 F ru).filterMap id:=by
 unfold F2 at h;obtain ⟨c,hc,e⟩:=List.mem_filterMap.mp h;have e':c=some x:=e;subst e';refine List.mem_filterMap.mpr ⟨some x,?_,rfl⟩;unfold y4;rw [List.mem_append];unfold k0 at hc
 split at hc
 ·exact .inl (a5x (List.mem_singleton.mp hc).symm)
 ·cases ru with
  | there=>cases hc
  | told c=>exact .inr (by simpa using hc)
  | near=>exact .inl (a5x (List.mem_singleton.mp hc).symm)
  | turned=>exact .inl (a5x (List.mem_singleton.mp hc).symm)
  | round=>exact .inl (a5x (List.mem_singleton.mp hc).symm)
theorem b6o {F:List (List (Option Int))}{ru:l9}{A:L7}{x:Int}(h:x∈j6 F ru A):x∈(y4 F ru).filterMap id:=by
 unfold j6 at h;obtain ⟨i,_,h⟩:=List.mem_flatMap.mp h;obtain ⟨j,_,h⟩:=List.mem_flatMap.mp h;exact b6t h
theorem a4s (F:List (List (Option Int)))(ru:l9)(i j:Int):(F2 F ru i j).length <= 1:=Nat.le_trans (List.length_filterMap_le _ _) (E2 F ru i j)
theorem a8p {f:Int->List Int}{m:Nat}(h:∀ i,(f i).length <= m):∀ R:List Int,(R.flatMap f).length <= R.length * m
 | []=>Nat.zero_le _
 | i :: R=>by
  have:=a8p h R;have:=h i;rw [List.flatMap_cons,List.length_append,List.length_cons,Nat.succ_mul];omega
theorem a9V (F:List (List (Option Int)))(ru:l9)(A:L7):(j6 F ru A).length <= A.1.length * A.2.length :=
 a8p (f:=λi=>A.2.flatMap λj=>F2 F ru i j) (λi=>by have h:=a8p (f:=λj=>F2 F ru i j) (a4s F ru i) A.2;omega) A.1
def F5 (w i j:Nat):Nat:=i * w + if i % 2=1 then w - 1 - j else j
theorem a0y {w i j:Nat}(hj:j < w):m8 w (F5 w i j)=((i:Int),(j:Int)):=by
 have hw:0 < w:=by omega
 unfold m8 F5
 by_cases z:i % 2=1
 ·rw [if_pos z];have e1:(i * w + (w - 1 - j)) / w=i:=by
   rw [Nat.mul_comm,Nat.mul_add_div hw,Nat.div_eq_of_lt (by omega),Nat.add_zero]
  have e2:(i * w + (w - 1 - j)) % w=w - 1 - j:=by
   rw [Nat.mul_comm,Nat.mul_add_mod,Nat.mod_eq_of_lt (by omega)]
  rw [e1,e2,if_pos z]
  congr 2
  omega
 ·rw [if_neg z];have e1:(i * w + j) / w=i:=by
   rw [Nat.mul_comm,Nat.mul_add_div hw,Nat.div_eq_of_lt hj,Nat.add_zero]
  have e2:(i * w + j) % w=j:=by
   rw [Nat.mul_comm,Nat.mul_add_mod,Nat.mod_eq_of_lt hj]
  rw [e1,e2,if_neg z]
theorem a8D {w k:Nat}(hw:1<=w):∃ i j:Nat,m8 w k=((i:Int),(j:Int))/\j < w/\F5 w i j=k/\i=k / w:=by
 have hm:k % w < w:=Nat.mod_lt _ hw;have hd:=Nat.div_add_mod k w;refine ⟨k / w,if (k / w) % 2=1 then w - 1 - k % w else k % w,rfl,?_,?_,rfl⟩
 ·split <;> omega
 ·unfold F5;rw [Nat.mul_comm]
  split <;> omega
theorem b8z {w h i j:Nat}(hi:i < h)(hj:j < w):F5 w i j < h * w:=by
 unfold F5;have:(i + 1) * w<=h * w:=Nat.mul_le_mul_right _ hi;rw [Nat.succ_mul] at this
 split <;> omega
theorem a2Q {w i j i' j':Nat}(hj:j < w)(hj':j' < w)(h:F5 w i j=F5 w i' j'):i=i'/\j=j':=by
 have h1:=a0y (i:=i) hj;have h2:=a0y (i:=i') hj';rw [h,h2] at h1;have a:=congrArg Prod.fst h1;have b:=congrArg Prod.snd h1;exact ⟨by dsimp only at a;omega,by dsimp only at b;omega⟩
def B8 (F G:List (List (Option Int)))(w k i:Nat):List (Option Int):=(List.range w).map λj=>if F5 w i j < k then m5 G i j else m5 F i j
theorem a1i (F G:List (List (Option Int)))(w k i:Nat):(B8 F G w k i).length=w:=by unfold B8;rw [List.length_map,List.length_range]
theorem a5M (F G:List (List (Option Int)))(w k i n:Nat)(h:n < (B8 F G w k i).length):(B8 F G w k i)[n]=if F5 w i n < k then m5 G i n else m5 F i n:=by
 simp [B8]
theorem b3n {F G:List (List (Option Int))}{w k i j:Nat}(hj:j < w)(h:F5 w i j=k):B8 F G w (k + 1) i=(B8 F G w k i).set j (m5 G i j):=by
 apply List.ext_getElem
 ·rw [List.length_set,a1i,a1i]
 ·intro n h1 h2;rw [List.getElem_set,a5M];have h3:n < w:=by rw [a1i] at h1;exact h1
  by_cases z:j=n
  ·subst z;rw [if_pos rfl,if_pos (by omega)]
  ·rw [if_neg z,a5M];have:F5 w i n≠k:=λe=>z (a2Q hj h3 (h.trans e.symm)).2
   by_cases z2:F5 w i n < k
   ·rw [if_pos z2,if_pos (by omega)]
   ·rw [if_neg z2,if_neg (by omega)]
theorem b9a {F G:List (List (Option Int))}{w k i i' j:Nat}(hj:j < w)(h:F5 w i j=k)(n:i'≠i):B8 F G w (k + 1) i'=B8 F G w k i':=by
 unfold B8;refine List.map_congr_left λm hm=>?_;have hm':=List.mem_range.mp hm;have:F5 w i' m≠k:=λe=>n (a2Q hm' hj (e.trans h.symm)).1
 by_cases z2:F5 w i' m < k
 ·rw [if_pos z2,if_pos (by omega)]
 ·rw [if_neg z2,if_neg (by omega)]
def R6 (F:List (List (Option Int)))(ru:l9)(u d l r w:Nat):Nat->Int:=Y9 λk=>((j6 F ru (y9 (l0 u d l r w k) (G8 u d l r w k))).length:Int) + ((j6 F ru (y9 (G8 u d l r w k) (l0 u d l r w k))).length:Int)
end L2
namespace L2
open PySem PySem.Spec PyProof.Rows
def tot (g:Int->Int->Nat)(A:L7):Nat:=(A.1.map λi=>(A.2.map λj=>g i j).sum).sum
theorem b7E (F:List (List (Option Int)))(ru:l9)(A:L7):(j6 F ru A).length=tot (λi j=>(F2 F ru i j).length) A:=by
 unfold j6 tot;rw [List.length_flatMap]
 congr 1
 refine List.map_congr_left λi _=>?_;rw [List.length_flatMap]
theorem a9J {f g:Int->Nat}:∀ {xs:List Int},(∀ x∈xs,f x<=g x)->(xs.map f).sum <= (xs.map g).sum
 | [],_=>Nat.le_refl _
 | x :: xs,h=>by
  have h1:=h x (by simp);have h2:=a9J (xs:=xs) λy hy=>h y (by simp [hy]);rw [List.map_cons,List.map_cons,List.sum_cons,List.sum_cons];omega
theorem b3q (f g:Int->Nat):∀ xs:List Int,(xs.map f).sum + (xs.map g).sum=(xs.map λx=>f x + g x).sum
 | []=>rfl
 | x :: xs=>by
  have:=b3q f g xs;rw [List.map_cons,List.map_cons,List.map_cons,List.sum_cons,List.sum_cons,List.sum_cons];omega
theorem b9p {g g':Int->Int->Nat}{A:L7}(h:∀ i∈A.1,∀ j∈A.2,g i j<=g' i j):tot g A<=tot g' A:=a9J λi hi=>a9J λj hj=>h i hi j hj
theorem b7i {g g':Int->Int->Nat}{A:L7}(h:∀ i∈A.1,∀ j∈A.2,g i j=g' i j):tot g A=tot g' A:=Nat.le_antisymm (b9p λi hi j hj=>Nat.le_of_eq (h i hi j hj)) (b9p λi hi j hj=>Nat.le_of_eq (h i hi j hj).symm)
def a3M (c:Bool)(h w:Nat)(i j:Int):Nat:=if btw (F3 c) (F1 c h) i && btw (F3 c) (F1 c w) j then 1 else 0
theorem b1d (p:Int->Bool)(q:Bool):∀ xs:List Int,(xs.map λj=>if q && p j then 1 else 0).sum=if q then (xs.filter p).length else 0
 | []=>by cases q <;> rfl
 | x :: xs=>by
  rw [List.map_cons,List.sum_cons,b1d p q xs,List.filter_cons];cases q <;> cases p x <;> simp <;> omega
theorem a1Q (p:Int->Bool)(m:Nat):∀ xs:List Int,(xs.map λi=>if p i then m else 0).sum=(xs.filter p).length * m
 | []=>by simp
 | x :: xs=>by
  rw [List.map_cons,List.sum_cons,a1Q p m xs,List.filter_cons];cases p x
  ·simp
  ·simp [Nat.succ_mul];omega
theorem b1z (c:Bool)(h w:Nat)(A:L7):((tot (a3M c h w) A:Nat):Int)=cnt (F3 c) (F1 c h) (F3 c) (F1 c w) A:=by
 unfold tot a3M cnt;have e:(λi:Int=>(A.2.map λj=>if btw (F3 c) (F1 c h) i && btw (F3 c) (F1 c w) j then 1 else 0).sum)=λi=>if btw (F3 c) (F1 c h) i then (A.2.filter (btw (F3 c) (F1 c w))).length else 0:=funext λi=>b1d _ _ _
 rw [e,a1Q,Int.natCast_mul]
theorem a5p {F:List (List (Option Int))}{i j:Int}:inF F i j=true↔(0<=i/\i < F.length)/\(0<=j/\j < d9 F):=by
 unfold inF d9
 simp [Bool.and_eq_true,and_assoc]
theorem b3O {F:List (List (Option Int))}{i j:Int}(c:Bool)(b:F.length <= 1000/\d9 F<=1000)(h:inF F i j=true):a3M c F.length (d9 F) i j=1:=by
 obtain ⟨⟨h1,h2⟩,h3,h4⟩:=a5p.mp h;unfold a3M btw F3 F1;rw [if_pos];cases c <;> simp <;> omega
theorem b7f {F:List (List (Option Int))}{i j:Int}(h:¬ inF F i j=true):a3M true F.length (d9 F) i j=0:=by
 unfold a3M;rw [if_neg];intro e;apply h;unfold btw F3 F1 at e;simp only [Bool.and_eq_true,decide_eq_true_eq,if_true] at e;exact a5p.mpr (by omega)
theorem a4p {h w:Nat}{i j:Int}(hi:-1000<=i/\i<=1000)(hj:-1000<=j/\j<=1000):a3M false h w i j=1:=by
 unfold a3M btw F3 F1;rw [if_pos]
 simp;omega
theorem b1x {F:List (List (Option Int))}(R:F9 F){i j:Int}(h:inF F i j=true):∃ r∈F,m5 F i j∈r:=by
 obtain ⟨⟨h1,h2⟩,h3,h4⟩:=a5p.mp h;have hi:i.toNat < F.length:=by omega
 have hl:=R.row _ (List.getElem_mem hi);have hj:j.toNat < (F[i.toNat]).length:=by rw [hl];unfold d9 at h4;omega
 refine ⟨F[i.toNat],List.getElem_mem hi,?_⟩;unfold m5;rw [List.getElem?_eq_getElem hi,Option.bind_some,List.getElem?_eq_getElem hj];exact List.getElem_mem hj
theorem a0M {F:List (List (Option Int))}(R:F9 F)(ru:l9)(i j:Int):inF F (led ru i F.length) (led ru j (F.headD []).length)=true:=by
 have h1:=R.h1;have w1:=R.w1;exact a5p.mpr ⟨N6 ru i (by omega),N6 ru j (by omega)⟩
theorem b7t {F:List (List (Option Int))}(R:F9 F)(nh:∀ r∈F,none ∉ r){ru:l9}{i j:Int}(hi:-1000<=i/\i<=1000)(hj:-1000<=j/\j<=1000):(F2 F ru i j).length=a3M (u0 ru) F.length (d9 F) i j:=by
 have b:F.length <= 1000/\d9 F<=1000:=⟨R.hs,R.ws⟩;have one:∀ {i j:Int},inF F i j=true->([m5 F i j].filterMap id).length=1:=λ{i j} h=>by
  obtain ⟨r,hr,hc⟩:=b1x R h;cases e:m5 F i j with
  | none=>exact absurd (e ▸ hc) (nh r hr)
  | some x=>rfl
 by_cases z:inF F i j=true
 ·rw [b3O _ b z];unfold F2 k0;rw [if_pos z];exact one z
 ·cases ru with
  | there=>rw [show u0 .there=true from rfl,b7f z];unfold F2 k0;rw [if_neg z];rfl
  | told c =>
   cases c with
   | none=>rw [show u0 (.told none)=true from rfl,b7f z];unfold F2 k0;rw [if_neg z];rfl
   | some c=>rw [show u0 (.told (some c))=false from rfl,a4p hi hj];unfold F2 k0;rw [if_neg z];rfl
  | near=>rw [show u0 .near=false from rfl,a4p hi hj];unfold F2 k0;rw [if_neg z];exact one (a0M R .near i j)
  | turned=>rw [show u0 .turned=false from rfl,a4p hi hj];unfold F2 k0;rw [if_neg z];exact one (a0M R .turned i j)
  | round=>rw [show u0 .round=false from rfl,a4p hi hj];unfold F2 k0;rw [if_neg z];exact one (a0M R .round i j)
theorem b6J {f g:Nat->Int}{n:Nat}(h:∀ k,k < n->f k=g k):Y9 f n=Y9 g n:=Int.le_antisymm (a6X λk hk=>Int.le_of_eq (h k hk)) (a6X λk hk=>Int.le_of_eq (h k hk).symm)
theorem b0a {F:List (List (Option Int))}{ru:l9}{u d l r:Nat}(R:F9 F)(nh:∀ r∈F,none ∉ r)(b:F.length <= 100/\d9 F<=100/\u<=100/\d<=100/\l<=100/\r<=100):R6 F ru u d l r (d9 F) (F.length * d9 F)=b1f (u0 ru) F.length (d9 F) u d l r:=by
 have w1:1<=d9 F:=R.w1;refine b6J λk hk=>?_;have sA:=(K5 b w1 hk).beyond (B:=G8 u d l r (d9 F) k);have sB:=(a0j b w1 hk).beyond (B:=l0 u d l r (d9 F) k);have q:∀ A:L7,a0r A->((j6 F ru A).length:Int)=cnt (F3 (u0 ru)) (F1 (u0 ru) F.length) (F3 (u0 ru)) (F1 (u0 ru) (d9 F)) A:=λA s=>by
  rw [← b1z,b7E];exact congrArg Nat.cast (b7i λi hi j hj=>b7t R nh (s.2.2.1 i hi) (s.2.2.2 j hj))
 unfold a0A;rw [q _ sA,q _ sB]
end L2
namespace L2
open PySem PySem.Spec PyProof.Rows
def b6x (K:PySem.W.Frag) (p:Addr) (xs:List V):Prop:=∃ (o:Obj) (its:Array Value) (n:Nat),K.lookup p=some o/\o.cls = .type "tuple"/\o.data = .seq its n/\its.size <= sizeLine/\n0 xs its.toList
theorem b6x.sq {K:PySem.W.Frag}{H:Hp}{p:Addr}{xs:List V}(h:b6x K p xs):SqT K H p xs:=.inr h
def Shr (K:PySem.W.Frag)(H:Hp)(sv:V)(a b:Int):Prop:=∃ p,sv = .ref p/\(H p=some (.tup [.int a,.int b]) \/ b6x K p [.int a,.int b])
theorem Shr.keep {K:PySem.W.Frag}{H H':Hp}{sv:V}{a b:Int}(h:Shr K H sv a b)(k:Q5 H H'):Shr K H' sv a b:=by
 obtain ⟨p,e,h⟩:=h;exact ⟨p,e,h.imp (k _ _) id⟩
theorem Shr.of {K:PySem.W.Frag}{H:Hp}{sv:V}{a b:Int}(h:IsD H sv (C7 (a,b))):Shr K H sv a b:=by
 obtain ⟨p,e,h⟩:=R9 h;exact ⟨p,e,.inl h⟩
theorem b4r {K:PySem.W.Frag}{H:Hp}{p:Addr}{xs:List V}(h:H p=some (.tup xs) \/ b6x K p xs):SqT K H p xs:=h.elim SqT.of b6x.sq
end L2
namespace L2
open PySem PySem.Spec PyProof.Rows
end L2
namespace MwZipL
open PySem PySem.Spec PyProof.Rows
section
variable {prog:Program}{w:World}{A:Around}{E:Value->Shared->Prop}{s:Shared}
structure Zp (h:Heap)(z a b u v p q:Addr)(f0:Value)(k:Nat)(xs ys:Array Value):Prop where
 hz:IsZip h z a b f0
 ha:IsPair h a (.ref u) (.ref v)
 hb:∃ x y,IsPair h b x y
 hu:h.IsListIter u p k
 hv:h.IsTupleIter v q k
 hp:h.IsList p xs
 hq:h.IsTuple q ys
def b1i (z a b u v p q:Addr):Prop:=[z,a,b,u,v].Nodup /\ p ∉ [z,a,b,u,v]/\q ∉ [z,a,b,u,v]
theorem b2p {z a b u v p q:Addr}{k:Nat}{xs ys:Array Value}{x y:Value}{Q:Option Value->Shared->Prop}(D:b1i z a b u v p q)(Z:Zp s.heap z a b u v p q .none k xs ys)(hx:xs[k]? = some x)(hy:ys[k]? = some y)
  (hQ:∀ h',Zp h' z a b u v p q (rawInt s.heap.objs.size) (k + 1) xs ys->IsPair h' s.heap.objs.size x y->h'.objs.size=s.heap.objs.size + 1->(∀ c o,c ∉ [z,b,u,v]->s.heap.get? c=some o->h'.get? c=some o)->Q (some (.ref s.heap.objs.size)) { s with heap:=h' }) :
  wpAny (model prog w) A (pyNext (.ref z)) Q E s:=by
 obtain ⟨hz,ha,⟨x0,y0,hb⟩,hu,hv,hp,hq⟩:=Z;obtain ⟨nd,np,nq⟩:=D;simp only [List.nodup_cons,List.mem_cons,List.not_mem_nil,or_false,not_or,List.nodup_nil,not_false_iff,and_true] at nd np nq;obtain ⟨⟨za,zb,zu,zv⟩,⟨ab,au,av⟩,⟨bu,bv⟩,uv⟩:=nd;obtain ⟨pz,pa,pb,pu,pv⟩:=np;obtain ⟨qz,qa,qb,qu,qv⟩:=nq;have hT:s.TypeIs (.ref z) "zip":=⟨_,hz,rfl⟩;unfold pyNext;refine wpAny_bind (wpAny_attempt (wpAny_callSpecial?_slot (name:=Str.ofString "__next__") hT PySem.F.slot_zip_next (wpAny_call_entry PySem.F.slot_zip_next hT PySem.F.entry_zip_next ?_ (PySem.F.args_zip_next_1 _))))
 show wpAny _ _ (field (.ref z) 2 >>= λ_=>_) _ _ _
 refine wpAny_bind (wpAny_field hz rfl (x:=.bool false) rfl ?_)
 show wpAny _ _ (field (.ref z) 3 >>= λ_=>_) _ _ _
 refine wpAny_bind (wpAny_field hz rfl (x:=.ref a) rfl (wpAny_bind (wpAny_seqItems ha rfl ?_)))
 show wpAny _ _ (Builtin.SmallTypes.ownedTupleIsFree (.ref z) >>= λ_=>_) _ _ _
 refine wpAny_bind ?_;unfold Builtin.SmallTypes.ownedTupleIsFree;refine wpAny_bind (wpAny_field hz rfl (x:=.none) rfl (wpAny_pure ?_));simp only [if_true];refine wpAny_bind (wpAny_rule (wpAny_bind (wpAny_field hz rfl (x:=.ref b) rfl (wpAny_bind (wpAny_setField_rec hz (by simp) λg1 hz1 k1=>?_)))))
 replace hz1:IsZip g1 z a b .ellipsis:=hz1
 refine wpAny_bind ?_;simp only [List.zipIdx_cons,List.zipIdx_nil,List.forIn_cons,List.forIn_nil];refine wpAny_bind (wpAny_bind (wpAny_onRaise ?_))
 show wpAny _ _ (Builtin.SmallTypes.nextOf (.ref u) >>= λ_=>_) _ _ _
 refine wpAny_bind (wpAny_nextOf_list_item (hu.extBut k1.extBut (Ne.symm zu)) (hp.extBut k1.extBut pz) hx λg2 hu2 k2=>wpAny_pure ?_);have hb2:IsPair g2 b x0 y0:=k2.extBut _ _ bu (k1.extBut _ _ (Ne.symm zb) hb);refine wpAny_bind (wpAny_seqItems hb2 rfl (wpAny_bind (wpAny_updateSeq_pair hb2 λg3 hb3 k3=>wpAny_bind (wpAny_letGo (wpAny_pure ?_)))))
 replace hb3:IsPair g3 b x y0:=hb3
 refine wpAny_bind (wpAny_bind (wpAny_onRaise ?_))
 show wpAny _ _ (Builtin.SmallTypes.nextOf (.ref v) >>= λ_=>_) _ _ _
 refine wpAny_bind (MwZip.b4w (((hv.extBut k1.extBut (Ne.symm zv)).extBut k2.extBut (Ne.symm uv)).extBut k3.extBut (Ne.symm bv)) (((hq.extBut k1.extBut qz).extBut k2.extBut qu).extBut k3.extBut qb) hy λg4 hv4 k4=>wpAny_pure ?_);have hb4:IsPair g4 b x y0:=k4.extBut _ _ bv hb3;refine wpAny_bind (wpAny_seqItems hb4 rfl (wpAny_bind (wpAny_updateSeq_pair hb4 λg5 hb5 k5=>wpAny_bind (wpAny_letGo (wpAny_pure (wpAny_pure ?_))))))
 replace hb5:IsPair g5 b x y:=hb5
 refine wpAny_bind (wpAny_seqItems hb5 rfl (wpAny_bind (wpAny_newTuple ?_)));have sz:g5.objs.size=s.heap.objs.size:=by rw [k5.1,k4.1,k3.1,k2.1,k1.1]
 have hz5:IsZip g5 z a b .ellipsis:=k5.extBut _ _ zb (k4.extBut _ _ zv (k3.extBut _ _ zb (k2.extBut _ _ zu hz1)));have all:∀ c o,c≠z->c≠b->c≠u->c≠v->s.heap.get? c=some o->g5.get? c=some o:=λc o c1 c2 c3 c4 e=>k5.extBut _ _ c2 (k4.extBut _ _ c4 (k3.extBut _ _ c2 (k2.extBut _ _ c3 (k1.extBut _ _ c1 e))));have hu5:g5.IsListIter u p (k + 1):=((hu2.extBut k3.extBut (Ne.symm bu)).extBut k4.extBut uv).extBut k5.extBut (Ne.symm bu);have hv5:g5.IsTupleIter v q (k + 1):=hv4.extBut k5.extBut (Ne.symm bv);have ltz:z < g5.objs.size:=Heap.lt_size hz5
 show wpAny _ _ (Builtin.SmallTypes.ownedTupleHandOut (.ref z) (.ref g5.objs.size) >>= λ_=>_) _ _ _
 refine wpAny_bind ?_;unfold Builtin.SmallTypes.ownedTupleHandOut;have hz6:IsZip (g5.push { cls:=.type "tuple",data:=.seq #[x,y] }) z a b .ellipsis:=Heap.get?_push_of_some _ hz5;refine wpAny_bind (wpAny_setField_rec hz6 (by simp) λg7 hz7 k7=>?_)
 replace hz7:IsZip g7 z a b (rawInt g5.objs.size):=hz7
 refine wpAny_setField_rec hz7 (by simp) λg8 hz8 k8=>?_
 replace hz8:IsZip g8 z a b (rawInt g5.objs.size):=hz8
 have up:∀ c o,c≠z->g5.get? c=some o->g8.get? c=some o:=λc o c1 e=>k8.extBut _ _ c1 (k7.extBut _ _ c1 (Heap.get?_push_of_some _ e));have new8:IsPair g8 g5.objs.size x y:=k8.extBut _ _ (Nat.ne_of_gt ltz) (k7.extBut _ _ (Nat.ne_of_gt ltz) (Heap.get?_push_size _ rfl));have sz8:g8.objs.size=g5.objs.size + 1:=by rw [k8.1,k7.1,Heap.size_push]
 rw [sz] at hz8 new8 sz8;refine wpAny_pure ⟨_,rfl,wpAny_pure ?_⟩
 show Q (some (.ref g5.objs.size)) _
 rw [sz];refine hQ g8 ⟨hz8,up _ _ (Ne.symm za) (all _ _ (Ne.symm za) ab au av ha),⟨x,y,up _ _ (Ne.symm zb) hb5⟩,hu5.at λo e=>up _ o (Ne.symm zu) e,hv5.at λo e=>up _ o (Ne.symm zv) e,hp.at λo e=>up _ o pz (all _ o pz pb pu pv e),hq.at λo e=>up _ o qz (all _ o qz qb qu qv e)⟩ new8 sz8 λc o hc e=>?_;simp only [List.mem_cons,List.not_mem_nil,or_false,not_or] at hc;exact up c o hc.1 (all c o hc.1 hc.2.1 hc.2.2.1 hc.2.2.2 e)
theorem b4y {z a b u v p q:Addr}{k:Nat}{xs ys:Array Value}{Q:Option Value->Shared->Prop}(hh:A.handled=none)(D:b1i z a b u v p q)(Z:Zp s.heap z a b u v p q .none k xs ys)(hx:xs[k]? = none)
  (hQ:∀ h',(∀ c o,c ∉ [z,b,u,v]->s.heap.get? c=some o->h'.get? c=some o)->Q none { s with heap:=h' }):wpAny (model prog w) A (pyNext (.ref z)) Q E s:=by
 obtain ⟨hz,ha,⟨x0,y0,hb⟩,hu,hv,hp,hq⟩:=Z;obtain ⟨nd,np,nq⟩:=D;simp only [List.nodup_cons,List.mem_cons,List.not_mem_nil,or_false,not_or,List.nodup_nil,not_false_iff,and_true] at nd np nq;obtain ⟨⟨za,zb,zu,zv⟩,⟨ab,au,av⟩,⟨bu,bv⟩,uv⟩:=nd;obtain ⟨pz,pa,pb,pu,pv⟩:=np;have hT:s.TypeIs (.ref z) "zip":=⟨_,hz,rfl⟩;unfold pyNext;refine wpAny_bind (wpAny_attempt (wpAny_callSpecial?_slot (name:=Str.ofString "__next__") hT PySem.F.slot_zip_next (wpAny_call_entry PySem.F.slot_zip_next hT PySem.F.entry_zip_next ?_ (PySem.F.args_zip_next_1 _))))
 show wpAny _ _ (field (.ref z) 2 >>= λ_=>_) _ _ _
 refine wpAny_bind (wpAny_field hz rfl (x:=.bool false) rfl ?_)
 show wpAny _ _ (field (.ref z) 3 >>= λ_=>_) _ _ _
 refine wpAny_bind (wpAny_field hz rfl (x:=.ref a) rfl (wpAny_bind (wpAny_seqItems ha rfl ?_)))
 show wpAny _ _ (Builtin.SmallTypes.ownedTupleIsFree (.ref z) >>= λ_=>_) _ _ _
 refine wpAny_bind ?_;unfold Builtin.SmallTypes.ownedTupleIsFree;refine wpAny_bind (wpAny_field hz rfl (x:=.none) rfl (wpAny_pure ?_));simp only [if_true];refine wpAny_bind (wpAny_rule (wpAny_bind (wpAny_field hz rfl (x:=.ref b) rfl (wpAny_bind (wpAny_setField_rec hz (by simp) λg1 hz1 k1=>?_)))))
 replace hz1:IsZip g1 z a b .ellipsis:=hz1
 refine wpAny_bind ?_;simp only [List.zipIdx_cons,List.zipIdx_nil,List.forIn_cons,List.forIn_nil];refine wpAny_bind (wpAny_bind (wpAny_onRaise ?_))
 show wpAny _ _ (Builtin.SmallTypes.nextOf (.ref u) >>= λ_=>_) _ _ _
 refine wpAny_bind (wpAny_nextOf_list_end (by simp [hh]) (hu.extBut k1.extBut (Ne.symm zu)) (hp.extBut k1.extBut pz) hx λg2 e k2 he=>?_);obtain ⟨oe,ge,ce⟩:=he;have hz2:IsZip g2 z a b .ellipsis:=k2 _ _ zu hz1;have ez:e≠z:=λx=>by subst x;rw [hz2] at ge;cases ge;simp at ce
 refine wpAny_setField_rec hz2 (by simp) λg3 _ k3=>?_;refine wpAny_bind (wpAny_isInstance (T := "StopIteration") (b:=true) ⟨oe,k3.extBut _ _ ez ge,ce⟩ isSubtype_stop ?_);refine wpAny_pure (hQ _ λc o hc x=>?_);simp only [List.mem_cons,List.not_mem_nil,or_false,not_or] at hc;exact k3.extBut _ _ hc.1 (k2 _ _ hc.2.2.1 (k1.extBut _ _ hc.1 x))
abbrev lIt (p:Addr):Obj:={ cls:=.type "list_iterator",data:=.fields #[.ref p,.int 0 0] }
abbrev tIt (p:Addr):Obj:={ cls:=.type "tuple_iterator",data:=.fields #[.ref p,.int 0 0] }
abbrev zA (h:Heap)(p q:Addr):Heap:=(h.push (lIt p)).push (tIt q)
abbrev zB (h:Heap) (p q:Addr):Heap:=(zA h p q).push { cls:=.type "tuple",data:=.seq #[.ref h.objs.size,.ref (h.push (lIt p)).objs.size] }
abbrev zC (h:Heap) (p q:Addr):Heap:=(zB h p q).push { cls:=.type "tuple",data:=.seq #[.none,.none] }
abbrev zD (h:Heap) (p q:Addr):Heap:=(zC h p q).push { cls:=.type "zip",data:=.fields #[.none,.bool false,.bool false,.ref (zA h p q).objs.size,.ref (zB h p q).objs.size] }
theorem b1p (p q:Addr)(xs ys:Array Value) :
  Meets (Builtin.«zip.__new__» ⟨[.type "zip",.ref p,.ref q],[]⟩) (λ_ R s=>s.heap.IsList p xs/\s.heap.IsTuple q ys/\R (.ok (.ret (.ref (zC s.heap p q).objs.size))) { s with heap:=zD s.heap p q }) :=
 .of_wp λprog w A R s h=>by
  obtain ⟨hp,g,d,tk,os⟩:=s;obtain ⟨h1,h2,h⟩:=h;have su:=sub_zip;have t1:Heap.IsList (Shared.heap ⟨hp,g,d,tk,os⟩) p xs:=h1;have t2:Heap.IsTuple (Shared.heap ⟨hp.push { cls:=.type "list_iterator",data:=.fields #[.ref p,.int 0 0] },g,d,tk,os⟩) q ys:=h2.at λo e=>Heap.get?_push_of_some _ e
  wp_walk using wpAny_pyIter_list t1,wpAny_pyIter_tuple t2
  exact ⟨_,rfl,h⟩
theorem b2x {p q:Addr}{xs ys:Array Value}{Q:Value->Shared->Prop}(hp:s.heap.IsList p xs)(hq:s.heap.IsTuple q ys)
  (h:∀ h',Zp h' (s.heap.objs.size + 4) (s.heap.objs.size + 2) (s.heap.objs.size + 3) s.heap.objs.size (s.heap.objs.size + 1) p q .none 0 xs ys->(∀ c o,s.heap.get? c=some o->h'.get? c=some o)->Q (.ref (s.heap.objs.size + 4)) { s with heap:=h' }) :
  wpAny (model prog w) A (call (.type "zip") [.ref p,.ref q]) Q E s:=by
 refine callType_new PySem.F.called_zip (by decide) (PySem.F.typeCall_zip_2 _ _) (PySem.F.newCall_zip_2 _ _) (λobj=>PySem.F.args_object_init_3 obj _ _) PySem.F.entry_zip_new (b1p p q xs ys) ⟨hp,hq,?_⟩
 show _/\_
 unfold zD zC zB zA lIt tIt;generalize e1:s.heap.push { cls:=.type "list_iterator",data:=.fields #[.ref p,.int 0 0] }=h1;generalize e2:h1.push { cls:=.type "tuple_iterator",data:=.fields #[.ref q,.int 0 0] }=h2;have z1:h1.objs.size=s.heap.objs.size + 1:=by rw [← e1];exact Heap.size_push ..
 have z2:h2.objs.size=s.heap.objs.size + 2:=by rw [← e2,Heap.size_push,z1]
 rw [z1];generalize e3:h2.push { cls:=.type "tuple",data:=.seq #[.ref s.heap.objs.size,.ref (s.heap.objs.size + 1)] }=h3;have z3:h3.objs.size=s.heap.objs.size + 3:=by rw [← e3,Heap.size_push,z2]
 generalize e4:h3.push { cls:=.type "tuple",data:=.seq #[.none,.none] }=h4;have z4:h4.objs.size=s.heap.objs.size + 4:=by rw [← e4,Heap.size_push,z3]
 rw [z2,z3,z4];generalize e5:h4.push { cls:=.type "zip",data:=.fields #[.none,.bool false,.bool false,.ref (s.heap.objs.size + 2),.ref (s.heap.objs.size + 3)] }=h5;have k1:∀ c o,s.heap.get? c=some o->h1.get? c=some o:=λc o e=>by rw [← e1];exact Heap.get?_push_of_some _ e
 have k2:∀ c o,h1.get? c=some o->h2.get? c=some o:=λc o e=>by rw [← e2];exact Heap.get?_push_of_some _ e
 have k3:∀ c o,h2.get? c=some o->h3.get? c=some o:=λc o e=>by rw [← e3];exact Heap.get?_push_of_some _ e
 have k4:∀ c o,h3.get? c=some o->h4.get? c=some o:=λc o e=>by rw [← e4];exact Heap.get?_push_of_some _ e
 have k5:∀ c o,h4.get? c=some o->h5.get? c=some o:=λc o e=>by rw [← e5];exact Heap.get?_push_of_some _ e
 have g1:h1.get? s.heap.objs.size=some { cls:=.type "list_iterator",data:=.fields #[.ref p,.int 0 0] }:=by rw [← e1];exact Heap.get?_push_size _ rfl
 have g2:h2.get? (s.heap.objs.size + 1)=some { cls:=.type "tuple_iterator",data:=.fields #[.ref q,.int 0 0] }:=by rw [← e2,← z1];exact Heap.get?_push_size _ rfl
 have g3:h3.get? (s.heap.objs.size + 2)=some { cls:=.type "tuple",data:=.seq #[.ref s.heap.objs.size,.ref (s.heap.objs.size + 1)] }:=by rw [← e3,← z2];exact Heap.get?_push_size _ rfl
 have g4:h4.get? (s.heap.objs.size + 3)=some { cls:=.type "tuple",data:=.seq #[.none,.none] }:=by rw [← e4,← z3];exact Heap.get?_push_size _ rfl
 have g5:h5.get? (s.heap.objs.size + 4)=some { cls:=.type "zip",data:=.fields #[.none,.bool false,.bool false,.ref (s.heap.objs.size + 2),.ref (s.heap.objs.size + 3)] }:=by rw [← e5,← z4];exact Heap.get?_push_size _ rfl
 have kk:∀ c o,s.heap.get? c=some o->h5.get? c=some o:=λc o e=>k5 _ _ (k4 _ _ (k3 _ _ (k2 _ _ (k1 _ _ e))));exact ⟨⟨_,g5,rfl⟩,h _ ⟨g5,k5 _ _ (k4 _ _ g3),⟨_,_,k5 _ _ g4⟩,⟨_,k5 _ _ (k4 _ _ (k3 _ _ (k2 _ _ g1))),rfl,rfl⟩,⟨_,k5 _ _ (k4 _ _ (k3 _ _ g2)),rfl,rfl⟩,hp.at λo e=>kk _ o e,hq.at λo e=>kk _ o e⟩ kk⟩
end
end MwZipL
namespace L2
open PySem PySem.Spec PyProof.Rows
def b2y (a b:Addr):It :=
  ⟨λi H=>∃ xs ys x y,H a=some (.lst xs)/\H b=some (.tup ys)/\xs.length=ys.length /\ xs[i]? = some x/\ys[i]? = some y,
   λi H v H'=>∃ t x y,H t=none/\v = .ref t/\H'=upd H t (.tup [x,y])/\∀ xs ys,H a=some (.lst xs)->H b=some (.tup ys)->xs[i]? = some x/\ys[i]? = some y,
   λi H=>∃ xs ys,H a=some (.lst xs)/\H b=some (.tup ys)/\xs.length=ys.length /\ xs.length <= i⟩
theorem b5i {P:Program}{w:World}{K:PySem.W.Frag}{elts:List Expr}{kk:Nat}{pos:Pos}(p q z a b u v:Addr)(D:MwZipL.b1i z a b u v p q) :
  b9o P w K (.Tuple elts kk pos) (b2y p q) [z,a,b,u,v] z (λi h=>IsZip h z a b .none /\ IsPair h a (.ref u) (.ref v)/\(∃ x y,IsPair h b x y)/\h.IsListIter u p i/\h.IsTupleIter v q i) where
 mem:=by simp
 obj:=λi h st c hc=>by
  obtain ⟨hz,ha,⟨x,y,hb⟩,⟨ou,gu,_,du⟩,⟨ov,gv,_,dv⟩⟩:=st;simp only [List.mem_cons,List.not_mem_nil,or_false] at hc
  rcases hc with rfl | rfl | rfl | rfl | rfl
  ·exact ⟨_,hz,λv z=>by cases z⟩
  ·exact ⟨_,ha,λv z=>by cases z⟩
  ·exact ⟨_,hb,λv z=>by cases z⟩
  ·exact ⟨_,gu,λv z=>by rw [du] at z;cases z⟩
  ·exact ⟨_,gv,λv z=>by rw [dv] at z;cases z⟩
 keep:=λi h h' st k=>by
  obtain ⟨hz,ha,⟨x,y,hb⟩,hu,hv⟩:=st;exact ⟨k z (by simp) _ hz,k a (by simp) _ ha,⟨x,y,k b (by simp) _ hb⟩,hu.at λo e=>k u (by simp) o e,hv.at λo e=>k v (by simp) o e⟩
 item:=by
  intro X hP hw hK hc i pins s σ H E I hf st hg;subst hP hw hK;obtain ⟨xs,ys,x,y,hxs,hys,hlen,hx,hy⟩:=hg;obtain ⟨hz,ha,hb,hu,hv⟩:=st;obtain ⟨_,its,nx,rx,ex⟩:=(show n8 X.prog X.w H s.heap p (.lst xs) from I.hok p _ hxs);have tx:s.heap.IsList p its.toArray:=⟨_,ex,rfl,_,rfl⟩;obtain ⟨_,jts,ry,ty⟩:=(show n8 X.prog X.w H s.heap q (.tup ys) from I.hok q _ hys);obtain ⟨ux,hux,rux⟩:=rx.get hx;obtain ⟨uy,huy,ruy⟩:=ry.get hy;have frs:∀ c∈[z,a,b,u,v],H c=none:=λc hc=>(hf c hc).1;refine MwZipL.b2p D ⟨hz,ha,hb,hu,hv,tx,ty⟩ (x:=ux) (y:=uy) (by simpa using hux) (by simpa using huy) λh1 Z1 new1 sz1 k1=>?_;refine ⟨_,rfl,wpAny_letOwnedTupleGo_zip Z1.hz λh2 hz2 k2=>?_⟩;have nd:=D.1;simp only [List.nodup_cons,List.mem_cons,List.not_mem_nil,or_false,not_or,List.nodup_nil,not_false_iff,and_true] at nd;obtain ⟨⟨za,zb,zu,zv⟩,⟨ab,au,av⟩,⟨bu,bv⟩,uv⟩:=nd;have ltz:z < s.heap.objs.size:=Heap.lt_size hz;have new2:IsPair h2 s.heap.objs.size ux uy:=(k2.2 _ (Nat.ne_of_gt ltz)).trans new1;have new:n8 X.prog X.w (upd H s.heap.objs.size (.tup [x,y])) (s.heap.push { cls:=.type "tuple",data:=.seq #[ux,uy] }) s.heap.objs.size (.tup [x,y]) :=
   ⟨(by show 2<=sizeLine;decide),[ux,uy],.cons rux (.cons ruy .nil),_,Heap.get?_push_size _ rfl,rfl,_,rfl⟩
  have I1:Inv X pins σ (upd H s.heap.objs.size (.tup [x,y])) { s with heap:=s.heap.push { cls:=.type "tuple",data:=.seq #[ux,uy] },toks:=s.toks }:=I.laid (λc o e=>Heap.get?_push_of_some _ e) (Nat.le_refl _) new;have lt:∀ c∈[z,a,b,u,v],c≠s.heap.objs.size:=λc hc=>by
   simp only [List.mem_cons,List.not_mem_nil,or_false] at hc;obtain ⟨x0,y0,hb0⟩:=hb
   rcases hc with rfl | rfl | rfl | rfl | rfl
   ·exact Nat.ne_of_lt ltz
   ·exact Nat.ne_of_lt (Heap.lt_size ha)
   ·exact Nat.ne_of_lt (Heap.lt_size hb0)
   ·obtain ⟨_,e,_⟩:=hu;exact Nat.ne_of_lt (Heap.lt_size e)
   ·obtain ⟨_,e,_⟩:=hv;exact Nat.ne_of_lt (Heap.lt_size e)
  have hf1:∀ c∈[z,a,b,u,v],a0D X pins (upd H s.heap.objs.size (.tup [x,y])) c:=λc hc=>by
   obtain ⟨f0,f⟩:=hf c hc;exact ⟨by rw [d5 (lt c hc)];exact f0,f⟩
  have I2:Inv X pins σ (upd H s.heap.objs.size (.tup [x,y])) { s with heap:=h2,toks:=s.toks }:=by
   have I3:=I1.turnedL (t':=s.toks) (h':=h2) (fp:=[z,a,b,u,v]) (λc o hc e=>?_) hf1
   ·exact I3
   have hc':c ∉ [z,b,u,v]:=λm=>hc (by
    simp only [List.mem_cons,List.not_mem_nil,or_false] at m ⊢
    rcases m with m | m | m | m <;> simp [m])
   have cz:c≠z:=λm=>hc (by simp [m])
   rcases Heap.get?_push_cases e with ⟨rfl,rfl⟩ | e
   ·exact new2
   ·exact (k2.2 c cz).trans (k1 c o hc' e)
  obtain ⟨x1,y1,hb1⟩:=Z1.hb;refine ⟨.ref s.heap.objs.size,_,I2,rfl,⟨s.heap.objs.size,x,y,I.hok.fresh (Nat.le_refl _),rfl,rfl,λxs' ys' e1 e2=>?_⟩,⟨hz2,(k2.2 a (Ne.symm za)).trans Z1.ha,⟨x1,y1,(k2.2 b (Ne.symm zb)).trans hb1⟩,Z1.hu.at λo e=>(k2.2 u (Ne.symm zu)).trans e,Z1.hv.at λo e=>(k2.2 v (Ne.symm zv)).trans e⟩,λc hc=>(hf1 c hc).1⟩;rw [hxs] at e1;rw [hys] at e2;cases e1;cases e2;exact ⟨hx,hy⟩
 done:=by
  intro X hP hw hK hc i pins s σ H E I hf st hg;subst hP hw hK;obtain ⟨xs,ys,hxs,hys,hlen,hle⟩:=hg;obtain ⟨hz,ha,hb,hu,hv⟩:=st;obtain ⟨_,its,nx,rx,ex⟩:=(show n8 X.prog X.w H s.heap p (.lst xs) from I.hok p _ hxs);have tx:s.heap.IsList p its.toArray:=⟨_,ex,rfl,_,rfl⟩;obtain ⟨_,jts,ry,ty⟩:=(show n8 X.prog X.w H s.heap q (.tup ys) from I.hok q _ hys);have hl:=rx.length;refine MwZipL.b4y (I.ok.hd hc) D ⟨hz,ha,hb,hu,hv,tx,ty⟩ (by simp;omega) λh' k=>⟨rfl,I.turnedL (t':=s.toks) (fp:=[z,a,b,u,v]) (λc o hc' e=>k c o (λm=>hc' ?_) e) hf⟩;simp only [List.mem_cons,List.not_mem_nil,or_false] at m ⊢
  rcases m with m | m | m | m <;> simp [m]
 self:=λ_ _ _ _ _ st h=>wpAny_pyIter_zip st.1 h
def b0U (ta:TA):TI:=fun σ H R=>ta σ H λvs H1=>∃ a b xs ys,vs=[.ref a,.ref b]/\H1 a=some (.lst xs)/\H1 b=some (.tup ys)/\R (b2y a b) H1
section
variable {X:Cx}
theorem b0e {elts:List Expr} {k:Nat} {pt:Pos} {a b:Expr} {ta:TA} {p pos:Pos} (hg:Gl X "zip") (hm:X.mg "zip" = none) (ha:PA X [a,b] ta) (hs:starEach [a,b] X.env=(false,eval a X.env) :: starEach [b] X.env:=by rfl) (hpl:(backTo pos (starEach [b] X.env)).any (·.1)=false:=by rfl) :
  PI X (.Tuple elts k pt) (.Call (.Name "zip" p) [a,b] [] pos) (b0U ta):=by
 intro pins s σ H R I h;refine Call_ (a8m I hg hm b3P (PyProof.Rows.callWith_type1 (thn (ha pos pins s σ H _ I h) λus s1 ⟨vs,H1,I1,r1,q1⟩=>?_) hs hpl));obtain ⟨pa,pb,xs,ys,rfl,hpa,hpb,q⟩:=q1;obtain ⟨u,u',rfl,eu,eu'⟩:=a7P r1;obtain rfl:u=Value.ref pa:=eu;obtain rfl:u'=Value.ref pb:=eu';obtain ⟨_,its,nx,rx,ex⟩:=(show n8 X.prog X.w H1 s1.heap pa (.lst xs) from I1.hok pa _ hpa);have tx:s1.heap.IsList pa its.toArray:=⟨_,ex,rfl,_,rfl⟩;obtain ⟨_,jts,ry,ty⟩:=(show n8 X.prog X.w H1 s1.heap pb (.tup ys) from I1.hok pb _ hpb);have lta:pa < s1.heap.objs.size:=by obtain ⟨_,e,_⟩:=tx;exact Heap.lt_size e
 have ltb:pb < s1.heap.objs.size:=by obtain ⟨_,e,_⟩:=ty;exact Heap.lt_size e
 generalize hn:s1.heap.objs.size=n at *;refine MwZipL.b2x tx ty λh' Z hk=>?_;rw [hn] at Z ⊢;have D:MwZipL.b1i (n + 4) (n + 2) (n + 3) n (n + 1) pa pb:=by
  have la:(pa:Nat) < n:=lta;have lb:(pb:Nat) < n:=ltb;refine ⟨?_,?_,?_⟩
  ·simp only [List.nodup_cons,List.mem_cons,List.not_mem_nil,or_false,not_or,List.nodup_nil,not_false_iff,and_true];have ne:∀ i j:Nat,i≠j->¬ ((n + i:Nat):Addr)=((n + j:Nat):Addr):=λi j h z=>h (Nat.add_left_cancel z);exact ⟨⟨ne 4 2 (by decide),ne 4 3 (by decide),ne 4 0 (by decide),ne 4 1 (by decide)⟩,⟨ne 2 3 (by decide),ne 2 0 (by decide),ne 2 1 (by decide)⟩,⟨ne 3 0 (by decide),ne 3 1 (by decide)⟩,ne 0 1 (by decide)⟩
  ·simp only [List.mem_cons,List.not_mem_nil,or_false,not_or];refine ⟨?_,?_,?_,?_,?_⟩ <;> first | exact Nat.ne_of_lt lta | exact Nat.ne_of_lt (Nat.lt_of_lt_of_le lta (Nat.le_add_right _ _))
  ·simp only [List.mem_cons,List.not_mem_nil,or_false,not_or];refine ⟨?_,?_,?_,?_,?_⟩ <;> first | exact Nat.ne_of_lt ltb | exact Nat.ne_of_lt (Nat.lt_of_lt_of_le ltb (Nat.le_add_right _ _))
 refine wpAny_pyIter_zip Z.hz ?_;refine ⟨n + 4,[n + 4,n + 2,n + 3,n,n + 1],_,_,H1,rfl,I1.kept (t':=s1.toks) hk,b5i pa pb _ _ _ _ _ D,⟨Z.hz,Z.ha,Z.hb,Z.hu,Z.hv⟩,λc hc=>?_,q⟩;have ge:s1.heap.objs.size <= c:=by
  rw [hn];simp only [List.mem_cons,List.not_mem_nil,or_false] at hc
  rcases hc with e | e | e | e | e <;> (rw [e];first | exact Nat.le_refl _ | exact Nat.le_add_right _ _)
 exact I1.fpOk ge (I1.hok.fresh ge)
end
theorem a6T {a b:Addr}{xs ys:List V}{g:TG}{tb:TS}{D:a8t}{σ:St}{H:Hp}(hlen:xs.length=ys.length)(Pv:Nat->St->Hp->Prop)(h0:Pv 0 σ H)(hl:∀ i σ H,i<=xs.length -> Pv i σ H->H a=some (.lst xs)/\H b=some (.tup ys))
  (hs:∀ i x y σ H t,xs[i]? = some x->ys[i]? = some y->Pv i σ H->H t=none->g (.ref t) σ (upd H t (.tup [x,y])) fun σ2 H2=>tb { D with nx:=Pv (i + 1),ct:=Pv (i + 1),bk:=D.nx } σ2 H2) (hd:∀ σ H,Pv xs.length σ H->D.nx σ H) :
  ∃ W:Nat->Nat->St->Hp->Prop,(∃ m,W 0 m σ H)/\∀ i m σ H,W i m σ H ->
   ((b2y a b).stop i H/\D.nx σ H) \/ ((b2y a b).go i H/\∃ N:St->Hp->Prop,(∀ σ' H',N σ' H'->∃ m',m' < m/\W (i + 1) m' σ' H')/\∀ x H',(b2y a b).yld i H x H'->g x σ H' fun σ2 H2=>tb { D with nx:=N,ct:=N,bk:=D.nx } σ2 H2):=by
 refine ⟨λi m σ H=>m=xs.length - i/\i<=xs.length /\ Pv i σ H,⟨xs.length,by simp,Nat.zero_le _,h0⟩,?_⟩;rintro i m σ H ⟨rfl,hi,p⟩;obtain ⟨q1,q2⟩:=hl i σ H hi p
 by_cases hlt:i < xs.length
 ·have hlt2:i < ys.length:=by omega
  refine .inr ⟨⟨xs,ys,xs[i],ys[i],q1,q2,hlen,by simp [hlt],by simp [hlt2]⟩,Pv (i + 1),fun σ' H' p'=>⟨xs.length - (i + 1),by omega,rfl,hlt,p'⟩,λv H' y=>?_⟩;obtain ⟨t,x,y',ht,rfl,rfl,e⟩:=y;obtain ⟨e1,e2⟩:=e xs ys q1 q2;exact hs i x y' σ _ t e1 e2 p ht
 ·have e:i=xs.length:=by omega
  subst e;exact .inl ⟨⟨xs,ys,q1,q2,hlen,Nat.le_refl _⟩,hd σ H p⟩
end L2
namespace L2
open PySem PySem.Spec PyProof.Rows MwSet
theorem b2l {κ:Type}[DecidableEq κ](m:List (κ × V))(k:κ)(v v':V):P4 (P4 m k v) k v'=P4 m k v':=by
 unfold P4
 by_cases h:(m.any λkv=>decide (kv.1=k))=true
 ·rw [if_pos h,if_pos h];have e:(m.map (λkv=>if kv.1=k then (kv.1,v) else kv)).any (λkv=>decide (kv.1=k))=true:=by
   rw [List.any_map];rw [List.any_eq_true] at h ⊢;obtain ⟨x,hx,e⟩:=h;refine ⟨x,hx,?_⟩;have:x.1=k:=of_decide_eq_true e
   show decide ((if x.1=k then (x.1,v) else x).1=k)=true
   rw [if_pos this];exact e
  rw [if_pos e,List.map_map];refine List.map_congr_left λx _=>?_
  show (if (if x.1=k then (x.1,v) else x).1=k then ((if x.1=k then (x.1,v) else x).1,v') else (if x.1=k then (x.1,v) else x))=_
  by_cases z:x.1=k
  ·rw [if_pos z,if_pos z,if_pos z]
  ·rw [if_neg z,if_neg z]
 ·rw [if_neg h,if_neg h];have e:(m ++ [(k,v)]).any (λkv=>decide (kv.1=k))=true:=by simp
  rw [if_pos e,List.map_append];have hm:m.map (λkv=>if kv.1=k then (kv.1,v') else kv)=m:=by
   have:∀ x∈m,(λkv:κ × V=>if kv.1=k then (kv.1,v') else kv) x=id x:=λx hx=>by
    have nz:¬ x.1=k:=λz=>h (List.any_eq_true.mpr ⟨x,hx,decide_eq_true z⟩);exact if_neg nz
   rw [List.map_congr_left this,List.map_id]
  rw [hm]
  simp
theorem a2V (l:List Int)(x:Int):∀ c:Nat,P4 (G3 l) (Sum.inl x) (.int ((l.count x:Int) + ((c + 1:Nat):Int)))=G3 (l ++ List.replicate (c + 1) x)
 | 0=>b2h l x
 | c + 1=>by
  have ih:=a2V l x c;have e:l ++ List.replicate (c + 1 + 1) x=(l ++ List.replicate (c + 1) x) ++ [x]:=by
   rw [List.replicate_succ',List.append_assoc]
  rw [e,← b2h,← ih,b2l]
  congr 2
  rw [List.count_append,List.count_replicate_self]
  omega
def cAt (C:List (List Int))(p q:Nat):Int:=((C[p]?.getD [])[q]?).getD 0
def a5P (F:List (List (Option Int)))(ru:l9)(c:Int)(i j:Int):List Int:=((k0 F ru i j).filterMap id).flatMap λx=>List.replicate c.toNat x
def a8v (F:List (List (Option Int)))(ru:l9)(C:List (List Int))(l:Nat)(i j:Int)(p m:Nat):List Int:=(List.range m).flatMap λq=>a5P F ru (cAt C p q) i (j - l + (q:Nat))
def a2k (F:List (List (Option Int)))(ru:l9)(C:List (List Int))(u d l r:Nat)(i j:Int):List Int:=(List.range (u + d + 1)).flatMap λp=>a8v F ru C l (i - u + (p:Nat)) j p (l + r + 1)
def a5D (F:List (List (Option Int)))(ru:l9)(C:List (List Int))(u d l r:Nat)(a b:Int):List (List (Option Int)):=(List.range F.length).map λi:Nat=>(List.range (d9 F)).map λj:Nat=>p7 (a2k F ru C u d l r (i:Int) (j:Int)) a b
def b9w (C:List (List Int)):PyData:=i6 (C.map λr=>r.map some)
structure a4D (C:List (List Int))(h w:Nat):Prop where
 len:C.length=h
 row:∀ r∈C,r.length=w
 few:∀ r∈C,∀ c∈r,0<=c/\c<=400
theorem a4D.at_ {C:List (List Int)}{h w:Nat}(o:a4D C h w)(p q:Nat):0<=cAt C p q/\cAt C p q<=400:=by
 unfold cAt;cases e:C[p]? with
 | none=>simp
 | some r =>
  cases e2:r[q]? with
  | none=>simp [e2]
  | some c =>
   have:=o.few r (List.mem_of_getElem? e) c (List.mem_of_getElem? e2)
   simpa [e2] using this
theorem a4P (F:List (List (Option Int)))(ru:l9)(c i j:Int):(a5P F ru c i j).length <= c.toNat:=by
 unfold a5P;have h:=E2 F ru i j;have h2:=List.length_filterMap_le (id:Option Int->Option Int) (k0 F ru i j);generalize (k0 F ru i j).filterMap id=l at h2
 match l,h2 with
 | [],_=>simp
 | [x],_=>simp
 | x :: y :: l,h2=>simp at h2;omega
theorem a3P {F:List (List (Option Int))}{ru:l9}{C:List (List Int)}{h w:Nat}(o:a4D C h w)(l:Nat)(i j:Int)(p m:Nat):(a8v F ru C l i j p m).length <= m * 400 :=
 A3 (λq=>a5P F ru (cAt C p q) i (j - l + (q:Nat))) (m:=400) (λq=>Nat.le_trans (a4P _ _ _ _ _) (by have:=o.at_ p q;omega)) m
theorem b3i {F:List (List (Option Int))}{ru:l9}{C:List (List Int)}{h w:Nat}(o:a4D C h w)(u l r:Nat)(i j:Int)(k:Nat):((List.range k).flatMap λp=>a8v F ru C l (i - u + (p:Nat)) j p (l + r + 1)).length <= k * ((l + r + 1) * 400) :=
 A3 (λp=>a8v F ru C l (i - u + (p:Nat)) j p (l + r + 1)) (λp=>a3P o l _ j p (l + r + 1)) k
end L2
namespace MwRep
open PySem Builtin
theorem a5s:fillsNumberSlot (.type "tuple") "mul" = pure false :=
 fillsNumberSlot_seq (id := "tuple.__mul__") (r:=some (.builtin "tuple.__rmul__")) F.slot_tuple_mul.lookup (by decide +kernel) F.slot_tuple_rmul.lookup (by decide +kernel)
theorem a1L:seqRepeat? (.type "tuple")=pure (some (.builtin "tuple.__mul__")):=by
 unfold seqRepeat?;rw [seqSlot_of (T := "tuple") (name := "__mul__") (id := "tuple.__mul__") F.slot_tuple_mul.lookup (by decide +kernel),seqSlot_of (T := "tuple") (name := "__rmul__") (id := "tuple.__rmul__") F.slot_tuple_rmul.lookup (by decide +kernel)]
 rfl
theorem a0Z (a:Int)(t:Tok)(l:Addr)(items:Array Value)(n:Nat)(d:Option Addr)(sl:Array (Option Value)) :
  Meets (Builtin.«int.__rmul__» ⟨[.int a t,.ref l],[]⟩) (λ_ R s=>s.heap.get? l=some { cls:=.type "tuple",dict:=d,data:=.seq items n,slots:=sl }/\R (.ok (.ret Value.notImplemented)) s) :=
 .of_wp λprog w A R s h=>by obtain ⟨hp,g,d,tk,os⟩:=s;obtain ⟨hl,h⟩:=h;wp_walk;exact ⟨_,rfl,h⟩
theorem b1E (l:Addr)(v:Value)(n:Nat)(d:Option Addr)(sl:Array (Option Value))(u:Tok) :
  Meets (Builtin.«tuple.__mul__» ⟨[.ref l,.int 1 u],[]⟩) (λ_ R s=>s.heap.get? l=some { cls:=.type "tuple",dict:=d,data:=.seq #[v] n,slots:=sl }/\R (.ok (.ret (.ref l))) s) :=
 .of_wp λprog w A R s h=>by
  obtain ⟨hp,g,d,tk,os⟩:=s;obtain ⟨hl,h⟩:=h
  wp_walk
  exact ⟨_,rfl,h⟩
theorem b8t (l:Addr)(v:Value)(n:Nat)(d:Option Addr)(sl:Array (Option Value))(u:Tok) :
  Meets (Builtin.«tuple.__mul__» ⟨[.ref l,.int 0 u],[]⟩) (λ_ R s=>s.heap.get? l=some { cls:=.type "tuple",dict:=d,data:=.seq #[v] n,slots:=sl }/\R (.ok (.ret (.ref s.heap.objs.size))) { s with heap:=s.heap.push { cls:=.type "tuple",data:=.seq #[] } }) :=
 .of_wp λprog w A R s h=>by
  obtain ⟨hp,g,d,tk,os⟩:=s;obtain ⟨hl,h⟩:=h
  wp_walk
  exact ⟨_,rfl,h⟩
theorem b5n (v:Value)(k:Nat):List.foldl (λx1 x2=>x1 ++ x2) #[] (List.replicate k #[v])=(List.replicate k v).toArray:=by
 have:=L2.a0t [v] k [];rw [List.nil_append] at this;refine this.trans ?_
 congr 1
 induction k with
 | zero=>rfl
 | succ k ih=>rw [List.replicate_succ,List.flatten_cons,ih (by have:=L2.a0t [v] k [];rwa [List.nil_append] at this),List.replicate_succ];rfl
theorem b9t (l:Addr)(v:Value)(n:Nat)(d:Option Addr)(sl:Array (Option Value))(u:Tok)(k:Nat)(h2:2<=k)(hk:k<=1000) :
  Meets (Builtin.«tuple.__mul__» ⟨[.ref l,.int (k:Int) u],[]⟩) (λ_ R s=>s.heap.get? l=some { cls:=.type "tuple",dict:=d,data:=.seq #[v] n,slots:=sl }/\R (.ok (.ret (.ref s.heap.objs.size))) { s with heap:=s.heap.push { cls:=.type "tuple",data:=.seq (List.replicate k v).toArray } }) :=
 .of_wp λprog w A R s h=>by
  obtain ⟨hp,g,d,tk,os⟩:=s;obtain ⟨hl,h⟩:=h;have c1:(decide ((k:Int) < -2 ^ 63) || decide ((k:Int) ≥ 2 ^ 63))=false:=by rw [decide_eq_false (by omega),decide_eq_false (by omega)];rfl
  have c2:((#[v]:Array Value).isEmpty || (k:Int) == 1)=false:=by simp;omega
  have c3:(decide ((k:Int)<=0) || (#[v]:Array Value).isEmpty)=false:=by simp;omega
  have c4:decide (((#[v]:Array Value).size:Int) * (k:Int) > (2 ^ 63 - 1) / 8)=false:=by
   have:((2:Int) ^ 63 - 1) / 8=1152921504606846975:=by decide
   refine decide_eq_false ?_
   show ¬ ((1:Nat):Int) * (k:Int) > (2 ^ 63 - 1) / 8
   omega
  have c5:Builtin.Tuple.tupleTooMany (((#[v]:Array Value).size:Int) * (k:Int))=false:=by
   unfold Builtin.Tuple.tupleTooMany;have:(1000:Int)<=(sizeLine:Int):=by decide
   refine decide_eq_false ?_
   show ¬ ((1:Nat):Int) * (k:Int) > (sizeLine:Int)
   omega
  wp_walk
  refine wpAny_ite_false (decide_eq_false (Bool.eq_false_iff.mp c1)) ?_
  wp_walk
  refine wpAny_ite_false (decide_eq_false (Bool.eq_false_iff.mp c2)) ?_
  wp_walk
  refine wpAny_ite_false (decide_eq_false (Bool.eq_false_iff.mp c3)) ?_
  wp_walk
  refine wpAny_ite_false c4 ?_
  wp_walk
  refine wpAny_ite_false (decide_eq_false (Bool.eq_false_iff.mp c5)) ?_
  wp_walk
  have ez:(List.foldl (λx1 x2=>x1 ++ x2) #[] (List.replicate ((k:Int)).toNat #[v]))=(List.replicate k v).toArray:=by
   rw [Int.toNat_natCast];exact b5n v k
  refine wpAny_ite_false (decide_eq_false ?_) ?_
  ·rw [ez,List.size_toArray,List.length_replicate];have:(1000:Nat)<=sizeLine:=by decide
   omega
  rw [ez]
  wp_walk
  exact ⟨_,rfl,h⟩
end MwRep
namespace L2
open PySem PySem.Spec PyProof.Rows
section
variable {X:Cx}
def b5S (K:PySem.W.Frag):R2:=λx y H Q=>∃ (a:Addr) (k:Nat) (v:V),x = .ref a/\y = .int (k:Int)/\H a=some (.tup [v])/\k<=1000/\∀ (p:Addr) (H':Hp),i9 H H'->H' p=some (.tup (List.replicate k v))->Q (.ref p) H'
theorem b8e {K:PySem.W.Frag}(hK:X.K=K):OpR X (binaryOp .Mult) (b5S K):=by
 intro pins s σ H x y v u Q I rx ry h;obtain ⟨a,k,z,rfl,rfl,ha,hk,q⟩:=h;cases rx;obtain ⟨t,rfl⟩:=ry;obtain ⟨_,its,r,⟨⟨cl,dc,da,sl⟩,e,rfl,n,rfl⟩⟩:=(show n8 X.prog X.w H s.heap a (.tup [z]) from I.hok a _ ha);obtain ⟨iv,rfl,rv⟩:=X7 r;have go:∀ Q':Value->Shared->Prop,wpAny (model X.prog X.w) X.A (call (.builtin "tuple.__mul__") [.ref a,.int (k:Int) t]) Q' X.xe s->wpAny (model X.prog X.w) X.A (binaryOp .Mult (.ref a) (.int (k:Int) t)) Q' X.xe s:=λQ' h=>by
  refine wpAny_binaryOp_repeat_ref (T := "tuple") (U := "int") (by decide) ⟨_,e,rfl⟩ (λs'=>typeIs_int s' k t) MwRep.a5s F.fills_int_mul F.slot_int_rmul MwRep.a1L F.slot_int_index.lookup
   (call_meets F.slot_int_rmul (typeIs_int s k t) F.entry_int_rmul (F.args_int_rmul_2 _ _) (MwRep.a0Z k t a _ n _ _) ⟨e,rfl,⟨_,e,rfl⟩,h⟩)
 refine go _ ?_
 match k,hk with
 | 0,_ =>
  refine call_meets F.slot_tuple_mul ⟨_,e,rfl⟩ F.entry_tuple_mul (F.args_tuple_mul_2 _ _) (MwRep.b8t a iv n _ _ t) ⟨e,?_⟩;refine ⟨.ref _,_,I.laid (t':=s.toks) (o:=.tup []) (λb ob q=>Heap.get?_push_of_some _ q) (Nat.le_refl _) ⟨by decide,[],.nil,_,Heap.get?_push_size _ rfl,rfl,_,rfl⟩,rfl,q _ _ (b8 (I.hok.fresh (Nat.le_refl _))) a8⟩
 | 1,_ =>
  refine call_meets F.slot_tuple_mul ⟨_,e,rfl⟩ F.entry_tuple_mul (F.args_tuple_mul_2 _ _) (MwRep.b1E a iv n _ _ t) ⟨e,?_⟩;exact ⟨.ref a,H,I,rfl,q a H (i9.refl _) ha⟩
 | k + 2,hk =>
  refine call_meets F.slot_tuple_mul ⟨_,e,rfl⟩ F.entry_tuple_mul (F.args_tuple_mul_2 _ _) (MwRep.b9t a iv n _ _ t (k + 2) (by omega) hk) ⟨e,?_⟩;refine ⟨.ref _,_,I.laid (t':=s.toks) (o:=.tup (List.replicate (k + 2) z)) (λb ob q=>Heap.get?_push_of_some _ q) (Nat.le_refl _) ⟨by rw [List.length_replicate];exact Nat.le_trans hk (by decide),List.replicate (k + 2) iv,?_,_,Heap.get?_push_size _ rfl,rfl,_,rfl⟩,rfl,q _ _ (b8 (I.hok.fresh (Nat.le_refl _))) a8⟩;have rr:∀ m,n0 (List.replicate m z) (List.replicate m iv):=λm=>by
   induction m with
   | zero=>exact .nil
   | succ m ih=>exact .cons rv ih
  exact rr _
end
end L2
namespace L2
open PySem PySem.Spec PyProof.Rows MwSet
def a2p (h w:Nat):List (List Int):=List.replicate h (List.replicate w 1)
theorem b7D {h w p q:Nat}(hp:p < h)(hq:q < w):cAt (a2p h w) p q=1:=by
 unfold cAt a2p;rw [List.getElem?_replicate,if_pos hp]
 show ((List.replicate w (1:Int))[q]?).getD 0=1
 rw [List.getElem?_replicate,if_pos hq];rfl
theorem b4p (F:List (List (Option Int)))(ru:l9)(i j:Int):a5P F ru 1 i j=(k0 F ru i j).filterMap id:=by
 unfold a5P;generalize (k0 F ru i j).filterMap id=l
 induction l with
 | nil=>rfl
 | cons x l ih=>rw [List.flatMap_cons,ih];rfl
theorem a7H {α:Type}(n:Nat)(f g:Nat->List α)(h:∀ k < n,f k=g k):(List.range n).flatMap f=(List.range n).flatMap g:=by
 rw [List.flatMap_def,List.flatMap_def]
 congr 1
 exact List.map_congr_left λk hk=>h k (List.mem_range.mp hk)
theorem a6W (F:List (List (Option Int)))(ru:l9)(u d l r:Nat)(i j:Int):a2k F ru (a2p (u + d + 1) (l + r + 1)) u d l r i j=a8h F ru u d l r i j:=by
 unfold a2k a8h wc;rw [List.filterMap_flatMap];refine a7H _ _ _ λp hp=>?_;unfold a8v w9;rw [List.filterMap_flatMap];refine a7H _ _ _ λq hq=>?_;rw [b7D hp hq,b4p]
theorem b4i (F:List (List (Option Int)))(ru:l9)(u d l r:Nat)(a b:Int):a5D F ru (a2p (u + d + 1) (l + r + 1)) u d l r a b=fil F ru u d l r a b:=by
 unfold a5D fil G2;refine List.map_congr_left λi _=>List.map_congr_left λj _=>?_;rw [a6W]
theorem b6D (h w:Nat):a4D (a2p h w) h w:=⟨by unfold a2p;simp,λr hr=>by rw [List.eq_of_mem_replicate hr];simp,λr hr c hc=>by
 rw [List.eq_of_mem_replicate hr] at hc;rw [List.eq_of_mem_replicate hc];decide⟩
end L2
namespace MwFk
open PySem PySem.Spec
section
variable {prog:Program}{w:World}
def b3g:Option Int->Int
 | none=>0xFCA86420
 | some i=>hashInt i
def b2g (hs:List Int):Int:=reduceHash (Builtin.Tuple.tupleHashOf hs)
def a9C (prog:Program)(w:World)(hp:Heap)(m:Nat)(v:Value)(h:Int)(k:Nat):Prop :=
 ∀ (A:Around) (E:Value->Shared->Prop) (s:Shared) (Q:Int->Shared->Prop),s.heap=hp->A.units <= m->Q h { s with toks:=s.toks + k }->wpAny (model prog w) A (pyHash v) Q E s
theorem b4v (hp:Heap)(m:Nat)(i:Int)(t:Tok):a9C prog w hp m (.int i t) (b3g (some i)) 1:=λA E s Q _ _ h=>wpAny_pyHash_int h
theorem b1n (hp:Heap)(m:Nat):a9C prog w hp m .none (b3g none) 1:=by
 intro A E s Q _ _ h;have hT:s.TypeIs .none "NoneType":=rfl;unfold pyHash;have hv:[Value.none].any Value.onHeap=false:=rfl;refine wpAny_bind ?_;rw [cRoomFor,if_neg (by rw [hv];exact Bool.false_ne_true)];refine wpAny_pure ?_;refine wpAny_bind (wpAny_specialOf hT F.slot_NoneType_hash.lookup ?_)
 show wpAny _ _ (if (some (Value.builtin "NoneType.__hash__") == some Value.none)=true then _ else _) Q E s
 rw [if_neg (by rw [beq_builtin_none];exact Bool.false_ne_true)];refine wpAny_bind (wpAny_specialOf hT F.slot_NoneType_hash.lookup ?_)
 show wpAny _ _ (callSpecialIfBoundUnlessNone? .none "__hash__" _ >>= _) Q E s
 refine wpAny_bind (wpAny_callSpecialIfBoundUnlessNone?_slot hT F.slot_NoneType_hash
  (wpAny_call_entry F.slot_NoneType_hash hT F.entry_NoneType_hash
   (show wpAny _ _ (retInt 0xFCA86420) _ _ s from wpAny_ret_mkInt ?_) (F.args_NoneType_hash_1 _)))
 show wpAny _ _ (if (decide (-(2:Int) ^ 63<=0xFCA86420) && decide ((0xFCA86420:Int) < 2 ^ 63))=true then _ else _) Q E _
 rw [if_pos (by decide)];exact wpAny_pure h
inductive b6c (prog:Program)(w:World)(hp:Heap)(m:Nat):List Value->List Int->Nat->Prop
 | nil:b6c prog w hp m [] [] 0
 | cons {v:Value} {h:Int} {k:Nat} {vs:List Value} {hs:List Int} {n:Nat}:a9C prog w hp m v h k->b6c prog w hp m vs hs n->b6c prog w hp m (v :: vs) (h :: hs) (k + n)
theorem a8A {hp:Heap} {m:Nat} {a:Addr} {o:Obj} {items:Array Value} {n:Nat} {hs:List Int} {k:Nat} (hm:m < cLine) (ho:hp.get? a=some o) (hc:o.cls = .type "tuple") (hd:o.data = .seq items n) (hi:b6c prog w hp (m + 3) items.toList hs k) :
  a9C prog w hp m (.ref a) (b2g hs) (k + 1):=by
 intro A E s Q hs' hu h;subst hs';have hT:s.TypeIs (.ref a) "tuple":=⟨o,ho,hc⟩;have hu':A.units < cLine:=by omega
 unfold pyHash
 first | unfold pyHashByItsType | skip
 first | refine wpAny_bind (wpAny_cRoomFor_or (.inr hu') ?_) | skip
 refine wpAny_bind (wpAny_specialOf hT F.slot_tuple_hash.lookup ?_)
 show wpAny _ _ (if (some (Value.builtin "tuple.__hash__") == some Value.none)=true then _ else _) Q E s
 rw [if_neg (by rw [beq_builtin_none];exact Bool.false_ne_true)];refine wpAny_bind (wpAny_specialOf hT F.slot_tuple_hash.lookup ?_)
 show wpAny _ _ (callSpecialIfBoundUnlessNone? (.ref a) "__hash__" _ >>= _) Q E s
 refine wpAny_bind (wpAny_callSpecialIfBoundUnlessNone?_slot hT F.slot_tuple_hash (wpAny_call_entry F.slot_tuple_hash hT F.entry_tuple_hash ?_ (F.args_tuple_hash_1 _)))
 show wpAny _ _ (Builtin.Tuple.tupleItemsOf (.ref a) >>= _) _ _ s
 refine wpAny_bind (wpAny_tupleItemsOf ho hd ?_);refine wpAny_bind ?_;rw [← Array.forIn_toList];refine wpAny_forIn_list _
  (λrest (b:Array Int) s'=>∃ done left d e,hs=done ++ left/\b6c prog w s.heap (m + 3) rest left e/\b.toList=done/\d + e=k/\s'={ s with toks:=s.toks + d })
  _ ?_ ?_ _ _ ⟨[],hs,0,k,rfl,hi,rfl,by omega,rfl⟩
 ·rintro x rest b s' ⟨done,left,d,e,rfl,hl,hb,hde,rfl⟩;cases hl with
  | @cons v h1 k1 vs hs1 n1 hv hl' =>
   refine wpAny_bind (hv _ _ _ _ rfl ?_ ?_)
   ·first | (simp;omega) | omega
   first
    | exact wpAny_pure ⟨done ++ [h1],hs1,d + k1,n1,by simp,hl',by simp [hb],by omega,by simp [Nat.add_assoc]⟩
    | exact wpAny_bind (wpAny_pure (wpAny_pure ⟨done ++ [h1],hs1,d + k1,n1,by simp,hl',by simp [hb],by omega,by simp [Nat.add_assoc]⟩))
 ·rintro b s' ⟨done,left,d,e,rfl,hl,hb,hde,rfl⟩;cases hl;rw [List.append_nil] at h;have hk:d=k:=by omega
  subst hk
  show wpAny _ _ (retInt (Builtin.Tuple.tupleHashOf b.toList)) _ _ _
  rw [hb];refine wpAny_ret_mkInt ?_
  show wpAny _ _ (if (decide (-(2:Int) ^ 63<=Builtin.Tuple.tupleHashOf done) && decide (Builtin.Tuple.tupleHashOf done < 2 ^ 63))=true then _ else _) Q E _
  unfold b2g reduceHash at h
  by_cases hr:(decide (-(2:Int) ^ 63<=Builtin.Tuple.tupleHashOf done) && decide (Builtin.Tuple.tupleHashOf done < 2 ^ 63))=true
  ·rw [if_pos hr];rw [if_pos hr] at h;exact wpAny_pure (by simpa [Nat.add_assoc] using h)
  ·rw [if_neg hr];rw [if_neg hr] at h;exact wpAny_bind (wpAny_rule (wpAny_pure (by simpa [Nat.add_assoc] using h)))
theorem a8B {hp:Heap}{m:Nat}:∀ {r:List (Option Int)} {vs:List Value} {as:List Addr},ReadsAll hp vs (r.map L2.w5) as->b6c prog w hp m vs (r.map b3g) r.length
 | [],_,_,h=>by cases h;exact .nil
 | c :: r,_,_,h=>by
  cases h with
  | cons h1 h2 =>
   have ih:=a8B (m:=m) h2;rw [List.map_cons,List.length_cons,Nat.add_comm];cases c with
   | none=>cases h1;exact .cons (b1n hp m) ih
   | some i=>cases h1;exact .cons (b4v hp m i _) ih
def b5I (r:List (Option Int)):Int:=b2g (r.map b3g)
def a8M:List (List (Option Int))->Nat
 | []=>0
 | r :: F=>(r.length + 1) + a8M F
theorem a5G {hp:Heap}{m:Nat}(hm:m < cLine):∀ {F:List (List (Option Int))} {vs:List Value} {as:List Addr},ReadsAll hp vs (F.map L2.E1) as->b6c prog w hp m vs (F.map b5I) (a8M F)
 | [],_,_,h=>by cases h;exact .nil
 | r :: F,_,_,h=>by
  cases h with
  | cons h1 h2 =>
   have ih:=a5G hm h2;cases h1 with
   | tuple ho hc hd hi=>exact .cons (a8A hm ho hc hd (a8B hi)) ih
def b5v (F:List (List (Option Int))):Int:=b2g (F.map b5I)
theorem b5b {hp:Heap}{m:Nat}(hm:m + 3 < cLine){F:List (List (Option Int))}{v:Value}{as:List Addr}(h:Reads hp v (L2.i6 F) as):a9C prog w hp m v (b5v F) (a8M F + 1):=by
 cases h with
 | tuple ho hc hd hi=>exact a8A (by omega) ho hc hd (a5G hm hi)
def a6C (prog:Program)(w:World)(hp:Heap)(n:Nat)(v:Value):Prop :=
 ∀ (A:Around) (E:Value->Shared->Prop) (s:Shared) (Q:Bool->Shared->Prop),s.heap=hp->Q true s->wpAny (model prog w) A (eqIsQuiet n v) Q E s
theorem a4u {hp:Heap}{n:Nat}{v:Value}(h:carriedByValue v=true):a6C prog w hp n v:=λA E s Q _ q=>by
 rw [eqIsQuiet_byValue n h];exact wpAny_pure q
theorem a5u {hp:Heap} {k:Nat} {a:Addr} {o:Obj} {items:Array Value} {n:Nat} (ho:hp.get? a=some o) (hc:o.cls = .type "tuple") (hd:o.data = .seq items n) (hi:∀ v∈items.toList,a6C prog w hp k v):a6C prog w hp (k + 1) (.ref a):=by
 intro A E s Q hs h;subst hs;have hT:s.TypeIs (.ref a) "tuple":=⟨o,ho,hc⟩;unfold eqIsQuiet;refine wpAny_bind (wpAny_specialOf hT F.slot_tuple_eq.lookup ?_)
 show wpAny _ _ (isInstance (.ref a) (.type "tuple") >>= _) _ _ s
 refine wpAny_bind (wpAny_isInstance hT isSubtype_tuple_tuple ?_);simp only [Bool.not_true,Bool.false_eq_true,if_false];refine wpAny_bind (wpAny_seqItems ho hd ?_);refine wpAny_bind ?_
 show wpAny _ _ (forIn items _ _) _ _ s
 rw [← Array.forIn_toList];refine wpAny_forIn_list _ (λrest r s'=>r.1=none/\s'=s/\∀ v∈rest,a6C prog w s.heap k v) _ ?_ ?_ _ _ ⟨rfl,rfl,hi⟩
 ·rintro v rest r s' ⟨hr,rfl,hall⟩;refine wpAny_bind (hall v List.mem_cons_self _ _ _ _ rfl ?_);simp only [Bool.not_true,Bool.false_eq_true,if_false];exact wpAny_pure ⟨rfl,rfl,λu hu'=>hall u (List.mem_cons_of_mem _ hu')⟩
 ·rintro ⟨r1,r2⟩ s' ⟨hr,rfl,_⟩;simp only at hr;subst hr;exact wpAny_pure h
theorem a5v {hp:Heap}{n:Nat}:∀ {r:List (Option Int)} {vs:List Value} {as:List Addr},ReadsAll hp vs (r.map L2.w5) as->∀ v∈vs,a6C prog w hp n v
 | [],_,_,h=>by cases h;intro v hv;cases hv
 | c :: r,_,_,h=>by
  cases h with
  | cons h1 h2 =>
   intro v hv
   rcases List.mem_cons.mp hv with rfl | hv
   ·cases c with
    | none=>cases h1;exact a4u rfl
    | some i=>cases h1;exact a4u rfl
   ·exact a5v h2 v hv
theorem a2z {hp:Heap}{n:Nat}:∀ {F:List (List (Option Int))} {vs:List Value} {as:List Addr},ReadsAll hp vs (F.map L2.E1) as->∀ v∈vs,a6C prog w hp (n + 1) v
 | [],_,_,h=>by cases h;intro v hv;cases hv
 | r :: F,_,_,h=>by
  cases h with
  | cons h1 h2 =>
   intro v hv
   rcases List.mem_cons.mp hv with rfl | hv
   ·cases h1 with
    | tuple ho hc hd hi=>exact a5u ho hc hd (a5v hi)
   ·exact a2z h2 v hv
theorem a8T {hp:Heap}{n:Nat}{F:List (List (Option Int))}{v:Value}{as:List Addr}(h:Reads hp v (L2.i6 F) as):a6C prog w hp (n + 2) v:=by
 cases h with
 | tuple ho hc hd hi=>exact a5u ho hc hd (a2z hi)
theorem a6I {hp:Heap}:∀ {r q:List (Option Int)} {vs:List Value} {as bs:List Addr},ReadsAll hp vs (r.map L2.w5) as->ReadsAll hp vs (q.map L2.w5) bs->r=q
 | [],[],_,_,_,_,_=>rfl
 | [],_ :: _,_,_,_,h,h'=>by cases h;cases h'
 | _ :: _,[],_,_,_,h,h'=>by cases h';cases h
 | c :: r,c' :: q,_,_,_,h,h'=>by
  cases h with
  | cons h1 h2 =>
   cases h' with
   | cons g1 g2 =>
    rw [a6I h2 g2]
    congr 1
    cases c with
    | none=>cases h1;cases c' with
     | none=>rfl
     | some j=>cases g1
    | some i=>cases h1;cases c' with
     | none=>cases g1
     | some j=>cases g1;rfl
theorem a8P {hp:Heap}{v:Value}{ds es:List PyData}{as bs:List Addr}(h:Reads hp v (.tuple ds) as)(h':Reads hp v (.tuple es) bs):∃ vs as' bs',ReadsAll hp vs ds as'/\ReadsAll hp vs es bs':=by
 cases h with
 | tuple ho hc hd hi =>
  cases h' with
  | tuple ho' hc' hd' hi' =>
   rw [ho] at ho';cases ho';rw [hd] at hd'
   injection hd' with e1 e2
   subst e1;exact ⟨_,_,_,hi,hi'⟩
theorem a9Q {hp:Heap}:∀ {F G:List (List (Option Int))} {vs:List Value} {as bs:List Addr},ReadsAll hp vs (F.map L2.E1) as->ReadsAll hp vs (G.map L2.E1) bs->F=G
 | [],[],_,_,_,_,_=>rfl
 | [],_ :: _,_,_,_,h,h'=>by cases h;cases h'
 | _ :: _,[],_,_,_,h,h'=>by cases h';cases h
 | r :: F,q :: G,_,_,_,h,h'=>by
  cases h with
  | cons h1 h2 =>
   cases h' with
   | cons g1 g2 =>
    obtain ⟨vs,as',bs',i1,i2⟩:=a8P h1 g1;rw [a9Q h2 g2,a6I i1 i2]
theorem b8n {hp:Heap}{F G:List (List (Option Int))}{v:Value}{as bs:List Addr}(h:Reads hp v (L2.i6 F) as)(h':Reads hp v (L2.i6 G) bs):F=G:=by
 obtain ⟨vs,as',bs',i1,i2⟩:=a8P h h';exact a9Q i1 i2
def b9h (h h':Heap):Prop:=∀ b o vs n,h.get? b=some o->o.data = .seq vs n->h'.get? b=some o
theorem a7B {h h':Heap}:∀ {r:List (Option Int)} {vs:List Value} {as:List Addr},ReadsAll h vs (r.map L2.w5) as->ReadsAll h' vs (r.map L2.w5) as
 | [],_,_,x=>by cases x;exact .nil
 | c :: r,_,_,x=>by
  cases x with
  | cons h1 h2 =>
   refine .cons ?_ (a7B h2);cases c with
   | none=>cases h1;exact .none
   | some i=>cases h1;exact .int _ _
theorem a4G {h h':Heap}(k:b9h h h'):∀ {F:List (List (Option Int))} {vs:List Value} {as:List Addr},ReadsAll h vs (F.map L2.E1) as->ReadsAll h' vs (F.map L2.E1) as
 | [],_,_,x=>by cases x;exact .nil
 | r :: F,_,_,x=>by
  cases x with
  | cons h1 h2 =>
   refine .cons ?_ (a4G k h2);cases h1 with
   | tuple ho hc hd hi=>exact .tuple (k _ _ _ _ ho hd) hc hd (a7B hi)
theorem b4b {h h':Heap}(k:b9h h h'){F:List (List (Option Int))}{v:Value}{as:List Addr}(x:Reads h v (L2.i6 F) as):Reads h' v (L2.i6 F) as:=by
 cases x with
 | tuple ho hc hd hi=>exact .tuple (k _ _ _ _ ho hd) hc hd (a4G k hi)
def IsF (h:Heap)(F:List (List (Option Int)))(a:Addr):Prop:=∃ as,Reads h (.ref a) (L2.i6 F) as
def V1 (prog:Program)(w:World):HeapKind prog w (List (List (Option Int))) where
 is:=IsF
 hash:=b5v
 draws:=λF=>a8M F + 1
 room:=λA=>A.units + 64 < cLine
 inj:=λ⟨_,h⟩ ⟨_,h'⟩=>b8n h h'
 keeps:=λ{h h' F a d o es ep} ⟨as,x⟩ ho hd hs=>⟨as,b4b (λb o' vs n e e'=>by
  have:b≠d:=λz=>by
   subst z;rw [ho] at e;cases e;rw [hd] at e';cases e'
  exact (hs.2 b this).trans e) x⟩
 pyHash:=λ{A E s F a Q} hu ⟨as,x⟩ q=>b5b (m:=A.units) (by have:A.units + 64 < cLine:=hu;omega) x A E s Q rfl (Nat.le_refl _) q
 eqBool:=λ{A E s F G a b Q} hu ⟨as,x⟩ ⟨bs,y⟩ q=>by
  have e:=SeqAt.eqAt_reads (L2.i6 F) (L2.i6 G) A s _ _ as bs x y (L2.J4 F) (L2.J4 G) (by have h1:A.units + 64 < cLine:=hu;have h2:=L2.a3v F;omega);rw [L2.a6j] at e;exact e prog w E Q q
 quiet:=λ{A E s F a Q} ⟨as,x⟩ q=>a8T (n:=6) x A E s Q rfl q
end
end MwFk
namespace L2
open PySem PySem.Spec PyProof.Rows MwFk
abbrev Fld:=List (List (Option Int))
inductive a9i:List (Fld × Addr × Int)->List (Fld × Addr × Value)->Prop
 | nil:a9i [] []
 | cons {F:Fld} {a:Addr} {n:Int} {t:Tok} {xs:List (Fld × Addr × Int)} {ys:List (Fld × Addr × Value)}:a9i xs ys->a9i ((F,a,n) :: xs) ((F,a,.int n t) :: ys)
theorem a9i.keys {xs:List (Fld × Addr × Int)}{ys:List (Fld × Addr × Value)}(h:a9i xs ys):ys.map (·.1)=xs.map (·.1):=by
 induction h with
 | nil=>rfl
 | cons _ ih=>rw [List.map_cons,List.map_cons,ih]
theorem a9i.mem {xs:List (Fld × Addr × Int)}{ys:List (Fld × Addr × Value)}(h:a9i xs ys):∀ y∈ys,∃ x∈xs,x.1=y.1 /\ x.2.1=y.2.1:=by
 induction h with
 | nil=>intro y hy;cases hy
 | @cons F a n t xs ys _ ih =>
  intro y hy
  rcases List.mem_cons.mp hy with rfl | hy
  ·exact ⟨(F,a,n),List.mem_cons_self,rfl,rfl⟩
  ·obtain ⟨x,hx,e⟩:=ih y hy;exact ⟨x,List.mem_cons_of_mem _ hx,e⟩
theorem a9i.length {xs:List (Fld × Addr × Int)}{ys:List (Fld × Addr × Value)}(h:a9i xs ys):ys.length=xs.length:=by
 have:=congrArg List.length h.keys
 rwa [List.length_map,List.length_map] at this
def atF (xs:List (Fld × Addr × Int))(F:Fld):Option Int:=(xs.find? λx=>decide (x.1=F)).map (·.2.2)
theorem a9i.at_ {xs:List (Fld × Addr × Int)}{ys:List (Fld × Addr × Value)}(h:a9i xs ys)(F:Fld):match atF xs F with
  | none=>atKey ys F=none
  | some n=>∃ p t,atKey ys F=some p/\p.2 = .int n t:=by
 induction h with
 | nil=>rfl
 | @cons G a n t xs ys _ ih =>
  unfold atF atKey at ih ⊢
  by_cases e:G=F
  ·rw [List.find?_cons_of_pos (by simpa using e),List.find?_cons_of_pos (by simpa using e)];exact ⟨_,t,rfl,rfl⟩
  ·rw [List.find?_cons_of_neg (by simpa using e),List.find?_cons_of_neg (by simpa using e)];exact ih
theorem a9i.snoc {xs:List (Fld × Addr × Int)}{ys:List (Fld × Addr × Value)}(h:a9i xs ys)(F:Fld)(a:Addr)(n:Int)(t:Tok):a9i (xs ++ [(F,a,n)]) (ys ++ [(F,a,.int n t)]):=by
 induction h with
 | nil=>exact .cons .nil
 | cons _ ih=>exact .cons ih
def V7 (d:Addr)(xs:List (Fld × Addr × Int)):HO:=.ext λh=>(d == sysModules)=false/\∃ (o:Obj) (es:Array DictEntry) (ep:Nat) (ys:List (Fld × Addr × Value)),h.get? d=some o/\o.ExactDict /\ o.data = .dict es ep/\es.toList=ys.map (λy=>(⟨b5v y.1,.ref y.2.1,y.2.2⟩:DictEntry))/\a9i xs ys
structure a1l (H:Hp)(xs:List (Fld × Addr × Int)):Prop where
 at_:∀ x∈xs,IsD H (.ref x.2.1) (i6 x.1)
 nd:(xs.map (·.1)).Nodup
theorem a1l.keep {H H':Hp}{xs:List (Fld × Addr × Int)}(h:a1l H xs)(k:Q5 H H'):a1l H' xs:=⟨λx hx=>(h.at_ x hx).keep k,h.nd⟩
section
variable {X:Cx}{pins:List (Addr × Obj)}{σ:St}{H:Hp}{s:Shared}
theorem a1l.dict (I:Inv X pins σ H s){d:Addr}{xs:List (Fld × Addr × Int)}(hd:H d=some (V7 d xs))(hk:a1l H xs):(d == sysModules)=false/\∃ ys,a9i xs ys/\s.heap.DictOfH (V1 X.prog X.w) d ys:=by
 obtain ⟨⟨hs,o,es,ep,ys,h1,h2,h3,h4,h5⟩,_,_⟩:=(show n8 X.prog X.w H s.heap d (V7 d xs) from I.hok d _ hd);refine ⟨hs,ys,h5,o,es,ep,h1,h2,h3,h4,λy hy=>?_,by rw [h5.keys];exact hk.nd⟩;obtain ⟨x,hx,e1,e2⟩:=h5.mem y hy;obtain ⟨as,r⟩:=(hk.at_ x hx).reads I.hok (v:=.ref x.2.1) rfl;rw [e1,e2] at r;exact ⟨as,r⟩
theorem a2x (I:Inv X pins σ H s){b:Addr}{F:Fld}(h:IsD H (.ref b) (i6 F)):(V1 X.prog X.w).is s.heap F b:=by
 obtain ⟨as,r⟩:=h.reads I.hok (v:=.ref b) rfl;exact ⟨as,r⟩
theorem a3z {A:Around}{prog:Program}{w:World}(h:A.units + 80 < cLine):(V1 prog w).room A.in1:=by
 show A.in1.units + 64 < cLine
 first | (simp;omega) | omega
theorem a1B {P:Program}{w:World}{H':Hp}{h':Heap}{d:Addr}{xs:List (Fld × Addr × Int)}{ys:List (Fld × Addr × Value)}(hs:(d == sysModules)=false)(hr:a9i xs ys)(hm:h'.DictOfH (V1 P w) d ys):n8 P w H' h' d (V7 d xs):=by
 obtain ⟨o,es,ep,h1,h2,h3,h4,_,_⟩:=hm;refine ⟨⟨hs,o,es,ep,ys,h1,h2,h3,h4,hr⟩,⟨o,h1⟩,?_⟩;rintro g1 g2 ⟨a1,o',es',ep',ys',b1,b2,b3,b4,b5⟩ k;exact ⟨a1,o',es',ep',ys',k _ b1,b2,b3,b4,b5⟩
end
section
variable {X:Cx}{o i e value:Expr}{pos pos' tpos:Pos}{td ty tv:TE}
def b4Q (H:Hp)(x y:V)(xs:List (Fld × Addr × Int))(F:Fld):Prop:=∃ d b,x = .ref d/\H d=some (V7 d xs)/\a1l H xs/\y = .ref b/\IsD H (.ref b) (i6 F)
def b2R (td ty:TE):TE:=fun σ H Q=>td σ H λx H1=>ty σ H1 λy H2=>∃ xs F n,b4Q H2 x y xs F/\atF xs F=some n/\Q (.int n) H2
theorem b2e (hu:X.A.units + 80 < cLine)(ho:PE X o td)(hi:PE X i ty)(hs:b1Q i):PE X (.Subscript o i pos) (b2R td ty):=by
 intro pins s σ H Q I h;refine b2d PySem.F.slot_dict_getitem.lookup hs (thn (ho pins s σ H _ I h) λu s1 ⟨x,H1,I1,rx,q1⟩=>thn (hi pins s1 σ H1 _ I1 q1) λiv s2 ⟨y,H2,I2,ry,xs,F,n,⟨d,b,ex,hd,hk,ey,hb⟩,e,q2⟩=>?_);subst ex ey;obtain rfl:u=Value.ref d:=rx;obtain rfl:iv=Value.ref b:=ry;obtain ⟨hs,ys,hr,hm⟩:=hk.dict I2 hd;have ha:=hr.at_ F;rw [e] at ha;obtain ⟨p,t,e1,e2⟩:=ha;refine ⟨hm.typeIs,wpAny_getItem_heap (a3z hu) (a2x I2 hb) hm e1 ?_⟩;rw [e2];exact ⟨.int n,H2,I2.tok _,⟨t,rfl⟩,q2⟩
def b3W:R2:=λy x H Q=>∃ xs F,b4Q H x y xs F/\Q (.bl (atF xs F).isSome) H
theorem b2M (hu:X.A.units + 80 < cLine):OpR X (compareOp .In) b3W:=by
 intro pins s σ H y x iv u Q I ry rx h;obtain ⟨xs,F,⟨d,b,ex,hd,hk,ey,hb⟩,q⟩:=h;subst ex ey;obtain rfl:u=Value.ref d:=rx;obtain rfl:iv=Value.ref b:=ry;obtain ⟨hs,ys,hr,hm⟩:=hk.dict I hd;refine wpAny_in_heap (a3z hu) (a2x I hb) hs hm ?_;have ha:=hr.at_ F;cases e:atF xs F with
 | none =>
  rw [e] at ha q;rw [show atKey ys F=none from ha];exact ⟨.bl false,H,I.tok _,rfl,q⟩
 | some n =>
  rw [e] at ha q;obtain ⟨p,t,e1,e2⟩:=ha;rw [e1];exact ⟨.bl true,H,I.tok _,rfl,q⟩
def b0S (td ty tv:TE):TS:=λD σ H=>tv σ H λv H1=>td σ H1 λx H2=>ty σ H2 λy H3=>∃ xs F n d b,x = .ref d/\H3 d=some (V7 d xs)/\a1l H3 xs/\y = .ref b/\IsD H3 (.ref b) (i6 F)/\v = .int n/\atF xs F=none/\xs.length <= 1000/\D.nx σ (upd H3 d (V7 d (xs ++ [(F,b,n)])))
theorem b6C (hu:X.A.units + 80 < cLine)(ho:PE X o td)(hi:PE X i ty)(hv:PE X value tv)(hs:swapsWith value (some (.Subscript o i pos')) pos.line X.env=pure false) :
  PS X (.Assign [.Subscript o i pos'] value pos) (b0S td ty tv):=by
 intro pins s σ H D I h;refine wpAny_Assign_Subscript (thn (hv pins s σ H _ I h) λr s1 ⟨v,H1,I1,rv,q1⟩=>thn (ho pins s1 σ H1 _ I1 q1) λu s2 ⟨x,H2,I2,rx,q2⟩=>thn (hi pins s2 σ H2 _ I2 q2) λiv s3 ⟨y,H3,I3,ry,xs,F,n,d,b,ex,hd,hk,ey,hb,ev,e,hl,q3⟩=>?_) hs;subst ex ey ev;obtain rfl:u=Value.ref d:=rx;obtain rfl:iv=Value.ref b:=ry;obtain ⟨t,rfl⟩:=rv;obtain ⟨hs,ys,hr,hm⟩:=hk.dict I3 hd;have ha:=hr.at_ F;rw [e] at ha;have hz:ys.length <= sizeLine:=by rw [hr.length];exact Nat.le_trans hl (by decide)
 refine wpAny_setItem_heap (hsz:=hz) (a3z hu) (a2x I3 hb) hm λh' hm' hsb=>?_;rw [storedH_new ha] at hm';have ho':∃ q,h'.get? d=some q:=let ⟨q,_,_,hq,_⟩:=hm';⟨q,hq⟩;exact ⟨σ,_,a4x I3 (by rw [hd];exact True.intro) hsb ho' (a1B hs (hr.snoc F b n t) hm'),q3⟩
def b5V (trs:List (TE × TE)):TE:=fun σ H Q=>∀ p,H p=none->a5X trs σ (upd H p (V7 p [])) λps H2=>∃ F b n,ps=[(V.ref b,V.int n)]/\IsD H2 (.ref b) (i6 F)/\H2 p=some (V7 p [])/\Q (.ref p) (upd H2 p (V7 p [(F,b,n)]))
theorem b6L {k v:Expr}{trs:List (TE × TE)}(hu:X.A.units + 80 < cLine)(hp:PPs X pos [some k] [v] trs):PE X (.Dict [some k] [v] pos) (b5V trs):=by
 intro pins s σ H Q I h;refine wpAny_Dict_any rfl rfl (by simp) (by show 1<=15;decide) ?_;have hsys:=(a2U (P:=X.prog) (w:=X.w) (H:=upd H s.heap.objs.size (.dK [])) s.heap I.big).2.1;have I1:=I.laid (a:=s.heap.objs.size) (o:=V7 s.heap.objs.size []) (h':=s.heap.push { cls:=.type "dict",data:=.dict #[] }) (t':=s.toks) (λ_ _ q=>Heap.get?_push_of_some _ q) (Nat.le_refl _) (a1B hsys .nil (Heap.DictOfH.new s.heap));refine thn (hp pins _ σ _ _ I1 (h _ (I.hok.fresh (Nat.le_refl _)))) λvs s1 ⟨ps,H2,I2,vv,F,b,n,eps,hb,hd,q⟩=>?_;subst eps;obtain ⟨⟨w1,w2⟩,ws⟩:∃ p:Value × Value,vs=[p]/\n4 (.ref b) p.1 /\ n4 (.int n) p.2:=by
  cases vv with
  | cons r t=>cases t;exact ⟨_,rfl,r.1,r.2⟩
 obtain ⟨rfl,r1,t,r2⟩:=ws;obtain rfl:w1=Value.ref b:=r1;dsimp only at r2;subst r2;obtain ⟨hs,ys,hr,hm⟩:=a1l.dict I2 hd (a1l.mk (λx hx=>(by cases hx)) List.nodup_nil);cases hr;unfold storeAll;rw [List.forIn_cons];have hroom:(V1 X.prog X.w).room X.A:=by
  show X.A.units + 64 < cLine
  omega
 refine wpAny_bind (wpAny_bind (wpAny_dictSet_heap (hsz:=by decide) hroom (a2x I2 hb) hm λh' hm' hsb=>wpAny_pure ?_))
 show wpAny _ _ (forIn ([]:List (Value × Value)) PUnit.unit _) _ _ _
 rw [List.forIn_nil];refine wpAny_pure ?_;rw [storedH_new rfl] at hm';have ho':∃ q,h'.get? s.heap.objs.size=some q:=let ⟨q,_,_,hq,_⟩:=hm';⟨q,hq⟩;exact ⟨.ref s.heap.objs.size,_,a4x I2 (by rw [hd];exact True.intro) hsb ho' (a1B hs (.cons .nil) hm'),rfl,q⟩
end
theorem b0v {k:Nat}{A:Around}(r:E9 k A):A.units + 80 < cLine:=by have:=r.un;omega
end L2
namespace L2
open PySem PySem.Spec PyProof.Rows
end L2
namespace L2
open PySem
variable {rest es:List Expr}{env:Env}{p:Pos}{a b c:Expr}
theorem a9n {x}:starEach (Expr.Tuple es x p :: rest) env=(false,eval (.Tuple es x p) env) :: starEach rest env:=by rfl
theorem a3Q:starEach (Expr.List es p :: rest) env=(false,eval (.List es p) env) :: starEach rest env:=by rfl
theorem f6:starEach (Expr.Subscript a b p :: rest) env=(false,eval (.Subscript a b p) env) :: starEach rest env:=by rfl
theorem d4 {ks}:starEach (Expr.Call a es ks p :: rest) env=(false,eval (.Call a es ks p) env) :: starEach rest env:=by rfl
theorem o8 {o}:starEach (Expr.BinOp a o b p :: rest) env=(false,eval (.BinOp a o b p) env) :: starEach rest env:=by rfl
theorem G7 {g s}:starEach (Expr.ListComp a g s p :: rest) env=(false,eval (.ListComp a g s p) env) :: starEach rest env:=by rfl
theorem b4q {o}:starEach (Expr.Compare a o es p :: rest) env=(false,eval (.Compare a o es p) env) :: starEach rest env:=by rfl
end L2
namespace Mw
open PySem L2
def top (i:Nat):Stmt:=PySem.Challenge.pw_midwindow_k39_whole_all_roads.main.body.getD i (.Pass ⟨0,0,0,0⟩)
abbrev a1h:Stmt:=top 2
theorem a4K:e8 ["field","i","j"] ["field","i","j"] (c8 a1h):=⟨rfl,rfl,rfl,by decide +kernel,rfl,by decide +kernel,by decide +kernel⟩
abbrev L3:Stmt:=top 3
theorem R3:e8 ["rule","place","length","there"] ["rule","place","length"] (c8 L3):=⟨rfl,rfl,rfl,by decide +kernel,rfl,by decide +kernel,by decide +kernel⟩
abbrev Z6:Stmt:=top 4
theorem a1o:e8 ["field","rule","i","j","row"] ["field","rule","i","j"] (c8 Z6):=⟨rfl,rfl,rfl,by decide +kernel,rfl,by decide +kernel,by decide +kernel⟩
abbrev N3:Stmt:=top 5
theorem a9r:e8 ["place","ahead","behind"] ["place","ahead","behind"] (c8 N3):=⟨rfl,rfl,rfl,by decide +kernel,rfl,by decide +kernel,by decide +kernel⟩
abbrev O9:Stmt:=top 6
theorem C3:e8 ["field","window","rule","i","j","columns","cells","row","column"] ["field","window","rule","i","j"] (c8 O9):=⟨rfl,rfl,rfl,by decide +kernel,rfl,by decide +kernel,by decide +kernel⟩
abbrev L1:Stmt:=top 12
theorem a2o:e8 ["how_many","share"] ["how_many","share"] (c8 L1):=⟨rfl,rfl,rfl,by decide +kernel,rfl,by decide +kernel,by decide +kernel⟩
abbrev W0:Stmt:=top 13
theorem a2E:e8 ["numbers","share"] ["numbers","share"] (c8 W0):=⟨rfl,rfl,rfl,by decide +kernel,rfl,by decide +kernel,by decide +kernel⟩
abbrev N1:Stmt:=top 14
theorem a7r:e8 ["cells"] ["cells"] (c8 N1):=⟨rfl,rfl,rfl,by decide +kernel,rfl,by decide +kernel,by decide +kernel⟩
abbrev N2:Stmt:=top 15
theorem a8r:e8 ["cells","share"] ["cells","share"] (c8 N2):=⟨rfl,rfl,rfl,by decide +kernel,rfl,by decide +kernel,by decide +kernel⟩
abbrev a5m:Stmt:=top 16
theorem M6:e8 ["field","window","rule","share","rows","i","row","j"] ["field","window","rule","share"] (c8 a5m):=⟨rfl,rfl,rfl,by decide +kernel,rfl,by decide +kernel,by decide +kernel⟩
abbrev W4:Stmt:=top 20
theorem a4E:e8 ["field","times","ring"] ["field","times","ring"] (c8 W4):=⟨rfl,rfl,rfl,by decide +kernel,rfl,by decide +kernel,by decide +kernel⟩
abbrev a0L:Stmt:=top 21
theorem Z4:e8 ["field","window","rule","share","most","now","times_of","times"] ["field","window","rule","share","most"] (c8 a0L):=⟨rfl,rfl,rfl,by decide +kernel,rfl,by decide +kernel,by decide +kernel⟩
abbrev a8Y:Stmt:=top 25
theorem a9w:e8 ["height","width","places","i","columns"] ["height","width"] (c8 a8Y):=⟨rfl,rfl,rfl,by decide +kernel,rfl,by decide +kernel,by decide +kernel⟩
abbrev a3h:Stmt:=top 26
theorem V9:e8 ["window","place","rows","columns"] ["window","place"] (c8 a3h):=⟨rfl,rfl,rfl,by decide +kernel,rfl,by decide +kernel,by decide +kernel⟩
abbrev a1z:Stmt:=top 27
theorem b9k:e8 ["places","others"] ["places","others"] (c8 a1z):=⟨rfl,rfl,rfl,by decide +kernel,rfl,by decide +kernel,by decide +kernel⟩
abbrev T7:Stmt:=top 28
theorem a8y:e8 ["area","other"] ["area","other"] (c8 T7):=⟨rfl,rfl,rfl,by decide +kernel,rfl,by decide +kernel,by decide +kernel⟩
abbrev a6K:Stmt:=top 29
theorem U4:e8 ["height","width","window","taken","old","place","new"] ["height","width","window"] (c8 a6K):=⟨rfl,rfl,rfl,by decide +kernel,rfl,by decide +kernel,by decide +kernel⟩
abbrev W1:Stmt:=top 30
theorem L8:e8 ["field","rule","area","numbers","i","j"] ["field","rule","area"] (c8 W1):=⟨rfl,rfl,rfl,by decide +kernel,rfl,by decide +kernel,by decide +kernel⟩
abbrev a4m:Stmt:=top 31
theorem Z3:e8 ["field","rule","cells","row"] ["field","rule"] (c8 a4m):=⟨rfl,rfl,rfl,by decide +kernel,rfl,by decide +kernel,by decide +kernel⟩
abbrev a0s:Stmt:=top 32
theorem a6y:e8 ["tally","share","how_many"] ["tally","share"] (c8 a0s):=⟨rfl,rfl,rfl,by decide +kernel,rfl,by decide +kernel,by decide +kernel⟩
abbrev a7Y:Stmt:=top 33
theorem G4:e8 ["field","window","rule","share","tally","told","moved","place","area_in","area_out","coming","going","number"] ["field","window","rule","share"] (c8 a7Y):=⟨rfl,rfl,rfl,by decide +kernel,rfl,by decide +kernel,by decide +kernel⟩
abbrev I0:Stmt:=top 34
theorem a8l:e8 ["places","length"] ["places","length"] (c8 I0):=⟨rfl,rfl,rfl,by decide +kernel,rfl,by decide +kernel,by decide +kernel⟩
abbrev T4:Stmt:=top 35
theorem a7y:e8 ["height","width","rule","area"] ["height","width","rule","area"] (c8 T4):=⟨rfl,rfl,rfl,by decide +kernel,rfl,by decide +kernel,by decide +kernel⟩
abbrev a9K:Stmt:=top 36
theorem O8:e8 ["height","width","window","rule","moved","place","area_in","area_out"] ["height","width","window","rule"] (c8 a9K):=⟨rfl,rfl,rfl,by decide +kernel,rfl,by decide +kernel,by decide +kernel⟩
abbrev a2h:Stmt:=top 38
theorem A1:e8 ["field","window","counts","rule","i","j","often","columns","row","row_counts","column","count","number"] ["field","window","counts","rule","i","j"] (c8 a2h):=⟨rfl,rfl,rfl,by decide +kernel,rfl,by decide +kernel,by decide +kernel⟩
abbrev L0:Stmt:=top 39
theorem C9:e8 ["often","share","left","number"] ["often","share"] (c8 L0):=⟨rfl,rfl,rfl,by decide +kernel,rfl,by decide +kernel,by decide +kernel⟩
abbrev a9l:Stmt:=top 40
theorem M5:e8 ["field","window","counts","rule","share","rows","i","row","j"] ["field","window","counts","rule","share"] (c8 a9l):=⟨rfl,rfl,rfl,by decide +kernel,rfl,by decide +kernel,by decide +kernel⟩
abbrev a1m:Stmt:=top 42
theorem a2u:e8 ["cell","number"] ["cell"] (c8 a1m):=⟨rfl,rfl,rfl,by decide +kernel,rfl,by decide +kernel,by decide +kernel⟩
abbrev a3m:Stmt:=top 43
theorem R0:e8 ["seed","most","found","number"] ["seed","most"] (c8 a3m):=⟨rfl,rfl,rfl,by decide +kernel,rfl,by decide +kernel,by decide +kernel⟩
abbrev a0h:Stmt:=top 44
theorem a3K:e8 ["script","many"] ["script","many"] (c8 a0h):=⟨rfl,rfl,rfl,by decide +kernel,rfl,by decide +kernel,by decide +kernel⟩
abbrev W3:Stmt:=top 45
theorem a3E:e8 ["seed","kind"] ["seed","kind"] (c8 W3):=⟨rfl,rfl,rfl,by decide +kernel,rfl,by decide +kernel,by decide +kernel⟩
abbrev a9g:Stmt:=top 46
theorem A0:e8 ["seed","height","width","holes","kind","rows","i","row","j","cell"] ["seed","height","width","holes"] (c8 a9g):=⟨rfl,rfl,rfl,by decide +kernel,rfl,by decide +kernel,by decide +kernel⟩
abbrev Z7:Stmt:=top 47
theorem a3o:e8 ["seed","way"] ["seed"] (c8 Z7):=⟨rfl,rfl,rfl,by decide +kernel,rfl,by decide +kernel,by decide +kernel⟩
abbrev W2:Stmt:=top 48
theorem a3k:e8 ["seed","most"] ["seed"] (c8 W2):=⟨rfl,rfl,rfl,by decide +kernel,rfl,by decide +kernel,by decide +kernel⟩
abbrev a2m:Stmt:=top 49
theorem a3u:e8 ["seed","way"] ["seed"] (c8 a2m):=⟨rfl,rfl,rfl,by decide +kernel,rfl,by decide +kernel,by decide +kernel⟩
abbrev Z8:Stmt:=top 50
theorem V8:e8 ["seed","way","below"] ["seed"] (c8 Z8):=⟨rfl,rfl,rfl,by decide +kernel,rfl,by decide +kernel,by decide +kernel⟩
abbrev a8g:Stmt:=top 51
theorem a4o:e8 ["rule","k","size"] ["rule","k","size"] (c8 a8g):=⟨rfl,rfl,rfl,by decide +kernel,rfl,by decide +kernel,by decide +kernel⟩
abbrev N4:Stmt:=top 52
theorem n6:e8 ["field","window","rule","i","j","up","down","left","right","found","k","m","row","column"] ["field","window","rule","i","j"] (c8 N4):=⟨rfl,rfl,rfl,by decide +kernel,rfl,by decide +kernel,by decide +kernel⟩
abbrev a0m:Stmt:=top 53
theorem a1u:e8 ["cells","share","some"] ["cells","share"] (c8 a0m):=⟨rfl,rfl,rfl,by decide +kernel,rfl,by decide +kernel,by decide +kernel⟩
abbrev P0:Stmt:=top 54
theorem z8:e8 ["field","window","rule","share","rows","i","row","j","some"] ["field","window","rule","share"] (c8 P0):=⟨rfl,rfl,rfl,by decide +kernel,rfl,by decide +kernel,by decide +kernel⟩
abbrev Z9:Stmt:=top 55
theorem m6:e8 ["field","window","rule","share","due","found","up","down","left","right","counts","kept","whole","sizes","after","i","j","some","numbers"] ["field","window","rule","share"] (c8 Z9):=⟨rfl,rfl,rfl,by decide +kernel,rfl,by decide +kernel,by decide +kernel⟩
abbrev b4d:Stmt:=top 56
theorem Z2:e8 ["script","cell","seed","height","width","field","window"] ["script"] (c8 b4d):=⟨rfl,rfl,rfl,by decide +kernel,rfl,by decide +kernel,by decide +kernel⟩
abbrev L5:Stmt:=S0 (top 18) 0
theorem a6o:e8 ["self","field","window","rule","share"] ["self","field","window","rule","share"] (c8 L5):=⟨rfl,rfl,rfl,by decide +kernel,rfl,by decide +kernel,by decide +kernel⟩
abbrev Y3:Stmt:=S0 (top 18) 2
theorem a5K:e8 ["self"] ["self"] (c8 Y3):=⟨rfl,rfl,rfl,by decide +kernel,rfl,by decide +kernel,by decide +kernel⟩
abbrev E4:Stmt:=S0 (top 18) 3
theorem Y2:e8 ["self"] ["self"] (c8 E4):=⟨rfl,rfl,rfl,by decide +kernel,rfl,by decide +kernel,by decide +kernel⟩
abbrev W5:Stmt:=S0 (top 23) 0
theorem a4k:e8 ["self","kinds","kind"] ["self","kinds"] (c8 W5):=⟨rfl,rfl,rfl,by decide +kernel,rfl,by decide +kernel,by decide +kernel⟩
abbrev P1:Stmt:=S0 (top 23) 1
theorem a0w:e8 ["self","number"] ["self","number"] (c8 P1):=⟨rfl,rfl,rfl,by decide +kernel,rfl,by decide +kernel,by decide +kernel⟩
abbrev L4:Stmt:=S0 (top 23) 2
theorem a5o:e8 ["self","number"] ["self","number"] (c8 L4):=⟨rfl,rfl,rfl,by decide +kernel,rfl,by decide +kernel,by decide +kernel⟩
abbrev F6:Stmt:=S0 (top 23) 3
theorem Z5:e8 ["self"] ["self"] (c8 F6):=⟨rfl,rfl,rfl,by decide +kernel,rfl,by decide +kernel,by decide +kernel⟩
abbrev P2:Stmt:=S0 (top 23) 4
theorem C4:e8 ["self","place","so_far","kind","often"] ["self","place"] (c8 P2):=⟨rfl,rfl,rfl,by decide +kernel,rfl,by decide +kernel,by decide +kernel⟩
structure Txt (K:PySem.W.Frag)(mg:Str->Option Value)(C Ck:Addr):Prop where
 g_KeptField:mg "KeptField" = some (.ref Ck)
 cl_KeptField:Cls K Ck
 g_Tally:mg "Tally" = some (.ref C)
 cl_Tally:Cls K C
 a_field:L6 K Ck "field"
 a_often:L6 K C "often"
 a_rule:L6 K Ck "rule"
 a_share:L6 K Ck "share"
 a_told:L6 K Ck "told"
 a_touched:L6 K Ck "touched"
 a_window:L6 K Ck "window"
 m_KeptField_init:b0y K Ck "KeptField.__init__" ["self","field","window","rule","share"] L5
 m_KeptField_told_now:a0W K Ck "told_now" "KeptField.told_now" ["self"] E4
 m_Tally_init:b0y K C "Tally.__init__" ["self","kinds"] W5
 m_Tally_put_in:a0W K C "put_in" "Tally.put_in" ["self","number"] P1
 m_Tally_take_out:a0W K C "take_out" "Tally.take_out" ["self","number"] L4
 m_Tally_how_many_in:a0W K C "how_many_in" "Tally.how_many_in" ["self"] F6
 m_Tally_nth_in:a0W K C "nth_in" "Tally.nth_in" ["self","place"] P2
 d_is_inside:Raw K mg "is_inside" ["field","i","j"] a1h
 d_brought_inside:Raw K mg "brought_inside" ["rule","place","length"] L3
 d_stands_at:Raw K mg "stands_at" ["field","rule","i","j"] Z6
 d_places_around:Raw K mg "places_around" ["place","ahead","behind"] N3
 d_window_cells:Raw K mg "window_cells" ["field","window","rule","i","j"] O9
 d_place_by_share:Raw K mg "place_by_share" ["how_many","share"] L1
 d_so_manieth:Raw K mg "so_manieth" ["numbers","share"] W0
 d_without_holes:Raw K mg "without_holes" ["cells"] N1
 d_told_of_cells:Raw K mg "told_of_cells" ["cells","share"] N2
 d_filtered:Raw K mg "filtered" ["field","window","rule","share"] a5m
 d_come_again:Raw K mg "come_again" ["field","times","ring"] W4
 d_again:Raw K mg "again" ["field","window","rule","share","most"] a0L
 d_path:Raw K mg "path" ["height","width"] a8Y
 d_area_held:Raw K mg "area_held" ["window","place"] a3h
 d_not_in:Raw K mg "not_in" ["places","others"] a1z
 d_area_beyond:Raw K mg "area_beyond" ["area","other"] T7
 d_steps:Raw K mg "steps" ["height","width","window"] a6K
 d_numbers_at:Raw K mg "numbers_at" ["field","rule","area"] W1
 d_kinds_of:Raw K mg "kinds_of" ["field","rule"] a4m
 d_told_of:Raw K mg "told_of" ["tally","share"] a0s
 d_slid:Raw K mg "slid" ["field","window","rule","share"] a7Y
 d_how_many_inside:Raw K mg "how_many_inside" ["places","length"] I0
 d_how_many_at:Raw K mg "how_many_at" ["height","width","rule","area"] T4
 d_moves:Raw K mg "moves" ["height","width","window","rule"] a9K
 d_counts_at:Raw K mg "counts_at" ["field","window","counts","rule","i","j"] a2h
 d_told_of_counts:Raw K mg "told_of_counts" ["often","share"] L0
 d_weighted:Raw K mg "weighted" ["field","window","counts","rule","share"] a9l
 d_law_seed:Raw K mg "_law_seed" ["cell"] a1m
 d_law_draw:Raw K mg "_law_draw" ["seed","most"] a3m
 d_law_cells:Raw K mg "_law_cells" ["script","many"] a0h
 d_law_number:Raw K mg "_law_number" ["seed","kind"] W3
 d_law_field:Raw K mg "_law_field" ["seed","height","width","holes"] a9g
 d_law_sizes:Raw K mg "_law_sizes" ["seed"] Z7
 d_law_window:Raw K mg "_law_window" ["seed"] W2
 d_law_rule:Raw K mg "_law_rule" ["seed"] a2m
 d_law_share:Raw K mg "_law_share" ["seed"] Z8
 d_law_index:Raw K mg "_law_index" ["rule","k","size"] a8g
 d_law_window_at:Raw K mg "_law_window_at" ["field","window","rule","i","j"] N4
 d_law_told:Raw K mg "_law_told" ["cells","share"] a0m
 d_law_filtered:Raw K mg "_law_filtered" ["field","window","rule","share"] P0
 d_law_right:Raw K mg "_law_right" ["field","window","rule","share"] Z9
 d_law:Raw K mg "law" ["script"] b4d
 n_len:mg "len" = none
 n_sum:mg "sum" = none
 n_max:mg "max" = none
 n_min:mg "min" = none
 n_tuple:mg "tuple" = none
 n_list:mg "list" = none
 n_int:mg "int" = none
 n_isinstance:mg "isinstance" = none
 n_range:mg "range" = none
 n_sorted:mg "sorted" = none
 n_set:mg "set" = none
 n_zip:mg "zip" = none
section
variable {P:Program}{w:World}{K:PySem.W.Frag}{mg:Str->Option Value}{base:Heap}{C Ck:Addr}
def b8J:Sp:=λvs H Q _=>∃ (c:Int),vs=[.int c]/\∀ (d:Addr) (H':Hp),H d=none->J7 H' d->i9 H H'->Q (.ref d) H'
theorem a7U (T:Txt K mg C Ck):Df P w K mg base 1 "_law_seed" ["cell"] b8J:=by
 refine T.d_law_seed.ok a2u (λvs H Q E h=>?_) (λf cdv A outer s H vs Q E hr h=>?_)
 ·obtain ⟨c,rfl,_⟩:=h
  rfl
 ·obtain ⟨c,rfl,q⟩:=h;refine ⟨_,(@a9 _ _ _ _ _ (@e9 _ _ 1 _ _ _ _ a2u.nd rfl (by trivial) (@f8 _ _ _ _ _ _ _ _ _ (a5t rfl) (by rfl) T.n_max b1c (@a6 _ _ _ _ _ (pv 0) (@a6 _ _ _ _ _ (@g0 _ _ _ _ _ _ _ _ G6 b6 (pv 0)) a7 o8) (by rfl)) (by decide) (by decide) (by rfl) (by rfl)) (by rfl) (by first | exact .inl rfl | exact .inr rfl))
   (@b9 _ _ _ (@d8 _ _ _ _ (@u3 _ _ _ _ (@a6 _ _ _ _ _ (pv 1) (@a6 _ _ _ _ _ (@m9 _ _ _ _ _ _ _ _ _ b3o (by rfl) T.n_int b6P (@a6 _ _ _ _ _ (@b4e _ _ _ _ _ _ _ _ b4T (pv 1) (@g0 _ _ _ _ _ _ _ _ a5L b6 b6) (l7 _)) a7 b4q) (by decide) (by decide) (by rfl) (by rfl)) (@a6 _ _ _ _ _ b6 (@a6 _ _ _ _ _ (@g0 _ _ _ _ _ _ _ _ J0 (pv 0) b6) a7 o8) (by rfl)) d4) (by rfl)))))),?_⟩
  refine ⟨_,rfl,_,rfl,_,_,rfl,rfl,_,_,rfl,?_⟩;refine ⟨_,rfl,_,rfl,_,_,rfl,rfl,⟨by decide,by decide,by decide⟩,_,_,rfl,rfl,Or.inr ⟨_,rfl,_,rfl,_,_,rfl,rfl,(by show (0:Int) < 1999999973;decide),(by show 4<=sizeLine;decide),λd hd=>?_⟩⟩;exact q d _ hd ⟨_,_,_,_,a8⟩ (b8 hd)
def b2K:Sp:=λvs H Q _=>∃ (d:Addr) (most:Int),vs=[.ref d,.int most]/\J7 H d/\0 < most/\most < 2 ^ 40 /\
 ∀ (x:Int) (H':Hp),0<=x->x < most->J7 H' d->c7 d H H'->Q (.int x) H'
theorem l6 (T:Txt K mg C Ck):Df P w K mg base 1 "_law_draw" ["seed","most"] b2K:=by
 refine T.d_law_draw.ok R0 (λvs H Q E h=>?_) (λf cdv A outer s H vs Q E hr h=>?_)
 ·obtain ⟨d,most,rfl,_⟩:=h
  rfl
 ·obtain ⟨d,most,rfl,⟨a,b,n,c,hd⟩,m0,m1,q⟩:=h;refine ⟨_,(@a9 _ _ _ _ _ (@a1s _ _ _ _ _ _ (@g0 _ _ _ _ _ _ _ _ u9 (@j4 _ _ _ _ _ _ _ (c9 (K:=K) rfl) (pv 0) b6 (λ_ _=>rfl)) b6) (a4Z (pv 0) b6 a4y) (by rfl) (by rfl) (by rfl))
   (@a9 _ _ _ _ _ (@p4 _ _ _ _ _ _ _ _ (a3L (@i8 _ _ _ _ _ _ _ _ (A6 hr.units) (@j4 _ _ _ _ _ _ _ (c9 (K:=K) rfl) (pv 0) b6 (λ_ _=>rfl)) b6 (l7 _)) (a0x (@i8 _ _ _ _ _ _ _ _ b9e (@j4 _ _ _ _ _ _ _ (c9 (K:=K) rfl) (pv 0) b6 (λ_ _=>rfl)) b6 (l7 _)))).pt (@a9 _ _ _ _ _ (@e9 _ _ 2 _ _ _ _ R0.nd rfl (by trivial) (@g0 _ _ _ _ _ _ _ _ J0 (@j4 _ _ _ _ _ _ _ (c9 (K:=K) rfl) (pv 0) b6 (λ_ _=>rfl)) (pv 1)) (by rfl) (by first | exact .inl rfl | exact .inr rfl))
   (@a9 _ _ _ _ _ (@a1s _ _ _ _ _ _ (@g0 _ _ _ _ _ _ _ _ a1p (@j4 _ _ _ _ _ _ _ (c9 (K:=K) rfl) (pv 0) b6 (λ_ _=>rfl)) (pv 1)) (a4Z (pv 0) b6 a4y) (by rfl) (by rfl) (by rfl))
   (@b9 _ _ _ (@d8 _ _ _ _ (pv 2))))) j5)
   (@a9 _ _ _ _ _ (@e9 _ _ 3 _ _ _ _ R0.nd rfl (by trivial) (@g0 _ _ _ _ _ _ _ _ J0 (@g0 _ _ _ _ _ _ _ _ F7 (@g0 _ _ _ _ _ _ _ _ u9 (@g0 _ _ _ _ _ _ _ _ u9 (@j4 _ _ _ _ _ _ _ (c9 (K:=K) rfl) (pv 0) b6 (λ_ _=>rfl)) (@g0 _ _ _ _ _ _ _ _ F7 b6 (@j4 _ _ _ _ _ _ _ (c9 (K:=K) rfl) (pv 0) b6 (λ_ _=>rfl)))) b6) b6) b6) (by rfl) (by first | exact .inl rfl | exact .inr rfl))
   (@a9 _ _ _ _ _ (@e9 _ _ 3 _ _ _ _ R0.nd rfl (by trivial) (@g0 _ _ _ _ _ _ _ _ J0 (@g0 _ _ _ _ _ _ _ _ F7 (@g0 _ _ _ _ _ _ _ _ J0 (@g0 _ _ _ _ _ _ _ _ F7 (pv 3) (pv 3)) b6) b6) b6) (by rfl) (by first | exact .inl rfl | exact .inr rfl))
   (@b9 _ _ _ (@d8 _ _ _ _ (@g0 _ _ _ _ _ _ _ _ J0 (@g0 _ _ _ _ _ _ _ _ a1p (pv 3) b6) (pv 1)))))))),?_⟩
  refine ⟨_,rfl,Or.inl ⟨_,_,_,_,rfl,rfl,SqL.of hd,rfl,_,_,rfl,rfl,?_⟩⟩;refine ⟨_,rfl,_,_,_,2,rfl,rfl,hd,rfl,?_⟩;have h1:upd H d (.lst [.int a,.int b,.int (n + 1),.int c]) d=some (.lst [.int a,.int b,.int (n + 1),.int c]):=a8;have k1:c7 d H (upd H d (.lst [.int a,.int b,.int (n + 1),.int c])):=λb' o e hb=>by rw [d5 hb];exact e
  dsimp only [List.set];generalize upd H d (.lst [.int a,.int b,.int (n + 1),.int c])=H1 at h1 k1 ⊢;refine O7 (fun σ' H'=>∃ fo:Option V,σ'=[some (.ref d),some (.int most),fo,none]/\H'=H1) ?_ (λrest=>?_)
  ·rintro _ _ ⟨fo,rfl,rfl⟩;refine ⟨_,rfl,Or.inl ⟨_,_,_,_,rfl,rfl,SqL.of h1,rfl,_,rfl,Or.inl ⟨_,_,_,_,rfl,rfl,SqL.of h1,rfl,_,_,rfl,rfl,Or.inl ⟨by decide,by decide⟩,_,_,rfl,rfl,_,_,rfl,rfl,_,_,rfl,rfl,Or.inr ⟨by decide,by decide⟩,_,_,rfl,rfl,(by show (0:Int) < 2147483647;decide),?_⟩⟩⟩;have a1:(0:Int)<=((c + 7477 * (n + 1) + 29) * 48271) % 2147483647:=Int.emod_nonneg _ (by decide);have a2:((c + 7477 * (n + 1) + 29) * 48271) % 2147483647 < (2147483647:Int):=Int.emod_lt_of_pos _ (by decide);generalize ((c + 7477 * (n + 1) + 29) * 48271) % 2147483647=n1 at a1 a2;refine ⟨_,rfl,_,rfl,_,_,rfl,rfl,Or.inl ⟨by omega,by omega⟩,_,_,rfl,rfl,(by show (0:Int) < 2147483629;decide),_,_,rfl,rfl,Or.inr ⟨by decide,by decide⟩,_,_,rfl,rfl,(by show (0:Int) < 2147483399;decide),?_⟩;refine ⟨_,rfl,_,_,rfl,rfl,⟨(by show (0:Int) < 7;decide),by show (7:Int) < 2 ^ 62;decide⟩,_,rfl,_,_,rfl,rfl,m0,?_⟩;exact q _ _ (Int.emod_nonneg _ (by omega)) (Int.emod_lt_of_pos _ m0) ⟨_,_,_,_,h1⟩ k1
  ·refine ⟨_,rfl,Or.inl ⟨_,_,_,_,rfl,rfl,SqL.of h1,rfl,Or.inl ⟨rfl,_,rfl,?_⟩⟩⟩;refine G1 (λhz=>?_) (λhz=>y8 (rest _ _ ⟨none,rfl,rfl⟩));refine ⟨_,rfl,Or.inl ⟨_,_,_,_,rfl,rfl,SqL.of h1,rfl,_,_,rfl,rfl,_,rfl,?_⟩⟩;refine G1 (λhz=>?_) (λhz=>rest _ _ ⟨none,rfl,rfl⟩);refine ⟨_,rfl,Or.inl ⟨_,_,_,_,rfl,rfl,SqL.of h1,rfl,_,rfl,_,_,rfl,rfl,m0,?_⟩⟩;refine ⟨_,rfl,Or.inl ⟨_,_,_,_,rfl,rfl,SqL.of h1,rfl,_,rfl,_,_,rfl,rfl,⟨m0,by omega⟩,?_⟩⟩;refine ⟨_,rfl,_,_,_,0,rfl,rfl,h1,rfl,_,rfl,?_⟩;refine q _ _ (Int.emod_nonneg _ (by omega)) (Int.emod_lt_of_pos _ m0) ⟨_,_,_,_,a8⟩ λb' o e hb=>?_;rw [d5 hb];exact k1 b' o e hb
theorem b6G {xs:List V}{lo hi:Option Int}{x:V}(h:x∈a3t xs lo hi):x∈xs:=by
 unfold a3t at h;exact List.mem_of_mem_drop (List.mem_of_mem_take h)
theorem b7G (xs:List V)(lo hi:Option Int):(a3t xs lo hi).length <= xs.length:=by
 unfold a3t;rw [List.length_take,List.length_drop]
 omega
theorem b1T {x:Int}{ms:List Int}(x0:0<=x)(x1:x < ms.length):∃ m:Int,atI (ms.map V.int) x=some (.int m)/\m∈ms:=by
 obtain ⟨v,e3,e4⟩:=a7x (xs:=ms.map V.int) x0 (by rw [List.length_map];exact x1);obtain ⟨m,hm,rfl⟩:=List.mem_map.mp e4;exact ⟨m,e3,hm⟩
theorem a6S {H:Hp}{i j:Int}{Q:VK}(e:i=j)(q:Q (.bl false) H):rNe (.int i) (.int j) H Q \/ a2L 0 (.int i) (.int j) H Q:=by
 subst e;refine Or.inl ⟨rfl,?_⟩;have:(!decide (V.int i=V.int i))=false:=by rw [decide_eq_true rfl];rfl
 rw [this];exact q
theorem a8L {H:Hp}{c:Option Int}{Q:VK}(q:Q (.bl false) H):rNe (d6 c) (d6 c) H Q \/ a2L 0 (d6 c) (d6 c) H Q:=by
 cases c with
 | none=>exact Or.inr ⟨.none,.none,.non,.non,⟨rfl,rfl,by decide⟩,q⟩
 | some x=>exact a6S rfl q
def b8j (K:PySem.W.Frag):Sp:=λvs H Q _=>∃ (n:Nat) (sv:V) (a b:Int),vs=[.int n,sv]/\Shr K H sv a b/\M9 a b/\Q (.int (p6 n a b)) H
theorem J2 (T:Txt K mg C Ck):Df P w K mg base 1 "place_by_share" ["how_many","share"] (b8j K):=by
 refine T.d_place_by_share.ok a2o (λvs H Q E h=>?_) (λf cdv A outer s H vs Q E hr h=>?_)
 ·obtain ⟨n,sv,a,b,rfl,_⟩:=h
  rfl
 ·obtain ⟨n,sv,a,b,rfl,hs,⟨s1,s2,s3,s4⟩,q⟩:=h;obtain ⟨sa,rfl,hsa⟩:=hs;refine ⟨_,(@b9 _ _ _ (@d8 _ _ _ _ (@g0 _ _ _ _ _ _ _ _ a1p (@g0 _ _ _ _ _ _ _ _ F7 (@j4 _ _ _ _ _ _ _ (c9 (K:=K) rfl) (pv 1) b6 (λ_ _=>rfl)) (@g0 _ _ _ _ _ _ _ _ G6 (pv 0) b6)) (@j4 _ _ _ _ _ _ _ (c9 (K:=K) rfl) (pv 1) b6 (λ_ _=>rfl))))),?_⟩;refine ⟨_,rfl,Or.inr (Or.inl ⟨_,_,_,_,rfl,rfl,b4r hsa,rfl,_,rfl,_,_,rfl,rfl,_,_,rfl,rfl,Or.inl ⟨by show -(2 ^ 64) < a;omega,by show a < 2 ^ 64;omega⟩,?_⟩)⟩;exact ⟨_,rfl,Or.inr (Or.inl ⟨_,_,_,_,rfl,rfl,b4r hsa,rfl,_,_,rfl,rfl,⟨by show 0 < b;omega,by show b < 2 ^ 62;omega⟩,q⟩)⟩
def b9j (K:PySem.W.Frag):Sp:=λvs H Q _=>∃ (p:Addr) (sv:V) (ns:List Int) (a b:Int),vs=[.ref p,sv]/\a7O H p (ns.map V.int)/\Shr K H sv a b/\M9 a b/\∀ H',i9 H H'->Q (d6 (p7 ns a b)) H'
theorem a6k (T:Txt K mg C Ck):Df P w K mg base 2 "so_manieth" ["numbers","share"] (b9j K):=by
 refine T.d_so_manieth.ok a2E (λvs H Q E h=>?_) (λf cdv A outer s H vs Q E hr h=>?_)
 ·obtain ⟨p,sv,ns,a,b,rfl,_⟩:=h
  rfl
 ·obtain ⟨p,sv,ns,a,b,rfl,hp,hs,hS,q⟩:=h;refine ⟨_,(@a9 _ _ _ _ _ (@p4 _ _ _ _ _ _ _ _ (@i8 _ _ _ _ _ _ _ _ (A6 hr.units) (@f8 _ _ _ _ _ _ _ _ _ (j9 (K:=K) rfl) (by rfl) T.n_len u2 (@a6 _ _ _ _ _ (pv 0) a7 (by rfl)) (by decide) (by decide) (by rfl) (by rfl)) b6 (l7 _)) (@b9 _ _ _ (@d8 _ _ _ _ P6)) j5)
   (@b9 _ _ _ (@d8 _ _ _ _ (@j4 _ _ _ _ _ _ _ (c9 (K:=K) rfl) (@f8 _ _ _ _ _ _ _ _ _ a7v (by rfl) T.n_sorted a7j (@a6 _ _ _ _ _ (pv 0) a7 (by rfl)) (by decide) (by decide) (by rfl) (by rfl)) (@f7 _ _ _ _ _ _ _ _ _ _ (J2 T) (hr.mono (by decide)) (@a6 _ _ _ _ _ (@f8 _ _ _ _ _ _ _ _ _ (j9 (K:=K) rfl) (by rfl) T.n_len u2 (@a6 _ _ _ _ _ (pv 0) a7 (by rfl)) (by decide) (by decide) (by rfl) (by rfl)) (@a6 _ _ _ _ _ (pv 1) a7 (by rfl)) d4) (by rfl) (by decide) (by rfl) (by rfl)) (λ_ _=>rfl))))),?_⟩
  refine ⟨_,rfl,_,_,rfl,hp.len,Or.inl ⟨rfl,_,rfl,?_⟩⟩;refine G1 (λz=>?_) (λz=>?_)
  ·have e:ns=[]:=by
    have z':V.int (((ns.map V.int).length:Nat):Int)=V.int 0:=of_decide_eq_true z;have z2:(((ns.map V.int).length:Nat):Int)=0:=V.int.inj z';rw [List.length_map] at z2;exact List.length_eq_zero_iff.mp (by omega)
   subst e;have:=q H (i9.refl H);rw [R7] at this;exact this
  ·have e:ns≠[]:=λe=>by subst e;exact z (by decide)
   refine ⟨_,rfl,p,ns,rfl,hp,λl hl=>?_⟩;have sl:=b8 (o:=.lst ((o0 ns).map V.int)) hl;refine ⟨_,rfl,_,_,rfl,(hp.same sl).len,_,rfl,_,_,a,b,rfl,hs.keep sl.tups,hS,?_⟩;obtain ⟨hlt,em⟩:=O1 hS e;have hl1:1<=ns.length:=by
    cases ns with
    | nil=>exact absurd rfl e
    | cons x l=>simp
   have pb:=E6 hS hl1;have el:(ns.map V.int).length=ns.length:=List.length_map ..;rw [el];have en:(((p6 ns.length a b).toNat:Nat):Int)=p6 ns.length a b:=Int.toNat_of_nonneg pb.1;generalize hx:(o0 ns)[(p6 ns.length a b).toNat]=x at em;refine Or.inl ⟨_,_,_,.int x,rfl,rfl,SqL.of a8,?_,?_⟩
   ·rw [← en];refine J5 ?_;rw [List.getElem?_map,List.getElem?_eq_getElem hlt,hx]
    rfl
   ·have:=q _ sl;rw [em] at this;exact this
def b1r:Sp:=λvs H Q _=>∃ (fv:V) (F:List (List (Option Int))) (i j:Int),vs=[fv,.int i,.int j]/\F9 F/\IsD H fv (i6 F)/\Q (.bl (inF F i j)) H
theorem a4N (T:Txt K mg C Ck):Df P w K mg base 1 "is_inside" ["field","i","j"] b1r:=by
 refine T.d_is_inside.ok a4K (λvs H Q E h=>?_) (λf cdv A outer s H vs Q E hr h=>?_)
 ·obtain ⟨fv,F,i,j,rfl,_⟩:=h
  rfl
 ·obtain ⟨fv,F,i,j,rfl,R,hf,q⟩:=h;obtain ⟨a,xs,b,ys,rfl,ha,la,hb0,hb,lb⟩:=B4 R hf;refine ⟨_,(@b9 _ _ _ (@d8 _ _ _ _ (b8L (a9R a8G a0p b6 (pv 1) (@f8 _ _ _ _ _ _ _ _ _ (j9 (K:=K) rfl) (by rfl) T.n_len u2 (@a6 _ _ _ _ _ (pv 0) a7 (by rfl)) (by decide) (by decide) (by rfl) (by rfl))) (b4L (a9R a8G a0p b6 (pv 2) (@f8 _ _ _ _ _ _ _ _ _ (j9 (K:=K) rfl) (by rfl) T.n_len u2 (@a6 _ _ _ _ _ (@j4 _ _ _ _ _ _ _ (c9 (K:=K) rfl) (pv 0) b6 (λ_ _=>rfl)) a7 f6) (by decide) (by decide) (by rfl) (by rfl))))))),?_⟩;refine ⟨_,rfl,_,_,rfl,rfl,_,rfl,?_⟩;unfold inF at q;refine G1 (λz=>?_) (λz=>?_)
  ·refine ⟨_,rfl,_,_,rfl,Or.inr ⟨_,SqT.of ha,rfl⟩,_,_,rfl,rfl,_,rfl,?_⟩;refine G1 (λz2=>?_) (λz2=>?_)
   ·refine ⟨_,rfl,_,_,rfl,rfl,_,rfl,?_⟩;have e1:(decide (0<=i) && decide (i < (F.length:Int)))=true:=by rw [z,← la,z2];rfl
    rw [e1,Bool.true_and] at q;refine G1 (λz3=>?_) (λz3=>?_)
    ·refine ⟨_,rfl,Or.inr (Or.inl ⟨_,_,_,_,rfl,rfl,SqT.of ha,hb0,_,_,rfl,Or.inr ⟨_,SqT.of hb,rfl⟩,_,_,rfl,rfl,?_⟩)⟩;rw [z3,← lb,Bool.true_and] at q;exact q
    ·rw [Bool.eq_false_iff.mpr z3,Bool.false_and] at q;exact q
   ·have e1:(decide (0<=i) && decide (i < (F.length:Int)))=false:=by rw [← la,Bool.eq_false_iff.mpr z2,Bool.and_false]
    rw [e1,Bool.false_and] at q;exact q
  ·rw [Bool.eq_false_iff.mpr z,Bool.false_and,Bool.false_and] at q;exact ⟨_,rfl,y8 q⟩
theorem a9L (i j:Int):(if j < i then j else i)=min i j:=by omega
theorem b0u (i j:Int):(if j > i then j else i)=max i j:=by omega
theorem b3y:¬ (("near" : Str) = "turned"):=by decide +kernel
theorem a5E:¬ (("turned" : Str) = "near"):=by decide +kernel
theorem a7K:¬ (("round" : Str) = "near"):=by decide +kernel
theorem a0z:¬ (("round" : Str) = "turned"):=by decide +kernel
theorem a8K:¬ (("near" : Str) = "there"):=by decide +kernel
theorem a9y:¬ (("turned" : Str) = "there"):=by decide +kernel
theorem a6E:¬ (("round" : Str) = "there"):=by decide +kernel
theorem eqS {x y:Str}(h:x=y):decide (V.str x=V.str y)=true:=decide_eq_true (by rw [h])
theorem neS {x y:Str}(h:¬ x=y):decide (V.str x=V.str y)=false:=decide_eq_false λe=>h (V.str.inj e)
def Led (r:l9) (x:Str):Prop:=(r = .near /\ x = "near") \/ (r = .turned /\ x = "turned") \/ (r = .round /\ x = "round")
def b4k:Sp:=λvs H Q _=>∃ (r:l9) (x:Str) (p n:Int),vs=[.str x,.int p,.int n]/\Led r x/\1<=n/\n < 2 ^ 40/\Q (.int (led r p n)) H
theorem T1 (T:Txt K mg C Ck):Df P w K mg base 1 "brought_inside" ["rule","place","length"] b4k:=by
 refine T.d_brought_inside.ok R3 (λvs H Q E h=>?_) (λf cdv A outer s H vs Q E hr h=>?_)
 ·obtain ⟨r,x,p,n,rfl,_⟩:=h
  rfl
 ·obtain ⟨r,x,p,n,rfl,hl,n1,n2,q⟩:=h;refine ⟨_,(@a9 _ _ _ _ _ (@p4 _ _ _ _ _ _ _ _ (@i8 _ _ _ _ _ _ _ _ (A6 hr.units) (pv 0) B6 (l7 _)) (@b9 _ _ _ (@d8 _ _ _ _ (@f8 _ _ _ _ _ _ _ _ _ (V5 rfl) (by rfl) T.n_min a1C (@a6 _ _ _ _ _ (@f8 _ _ _ _ _ _ _ _ _ (a5t rfl) (by rfl) T.n_max b1c (@a6 _ _ _ _ _ (pv 1) (@a6 _ _ _ _ _ b6 a7 (by rfl)) (by rfl)) (by decide) (by decide) (by rfl) (by rfl)) (@a6 _ _ _ _ _ (@g0 _ _ _ _ _ _ _ _ G6 (pv 2) b6) a7 o8) d4) (by decide) (by decide) (by rfl) (by rfl)))) j5)
   (@a9 _ _ _ _ _ (@p4 _ _ _ _ _ _ _ _ (@i8 _ _ _ _ _ _ _ _ (A6 hr.units) (pv 0) B6 (l7 _)) (@a9 _ _ _ _ _ (@e9 _ _ 3 _ _ _ _ R3.nd rfl (by trivial) (@g0 _ _ _ _ _ _ _ _ J0 (pv 1) (@g0 _ _ _ _ _ _ _ _ F7 b6 (pv 2))) (by rfl) (by first | exact .inl rfl | exact .inr rfl))
   (@b9 _ _ _ (@d8 _ _ _ _ (@f8 _ _ _ _ _ _ _ _ _ (V5 rfl) (by rfl) T.n_min a1C (@a6 _ _ _ _ _ (pv 3) (@a6 _ _ _ _ _ (@g0 _ _ _ _ _ _ _ _ G6 (@g0 _ _ _ _ _ _ _ _ G6 (@g0 _ _ _ _ _ _ _ _ F7 b6 (pv 2)) b6) (pv 3)) a7 o8) (by rfl)) (by decide) (by decide) (by rfl) (by rfl))))) j5)
   (@b9 _ _ _ (@d8 _ _ _ _ (@g0 _ _ _ _ _ _ _ _ J0 (pv 1) (pv 2)))))),?_⟩
  rcases hl with ⟨rfl,rfl⟩ | ⟨rfl,rfl⟩ | ⟨rfl,rfl⟩
  ·refine ⟨_,rfl,Or.inl ⟨rfl,_,rfl,?_⟩⟩;rw [eqS rfl];refine U8 ?_;refine ⟨_,rfl,_,_,rfl,_,rfl,_,_,rfl,rfl,_,_,rfl,?_⟩;rw [a9L,b0u];exact q
  ·refine ⟨_,rfl,Or.inl ⟨rfl,_,rfl,?_⟩⟩;rw [neS a5E];refine y8 ?_;refine ⟨_,rfl,Or.inl ⟨rfl,_,rfl,?_⟩⟩;rw [eqS rfl];refine U8 ?_;refine ⟨_,rfl,_,rfl,_,_,rfl,rfl,Or.inl ⟨by decide,by decide⟩,_,_,rfl,rfl,(by show (0:Int) < 2 * n;omega),?_⟩;refine ⟨_,rfl,_,rfl,_,_,rfl,rfl,Or.inl ⟨by decide,by decide⟩,_,_,rfl,rfl,_,rfl,_,_,rfl,rfl,_,_,rfl,?_⟩;rw [a9L];exact q
  ·refine ⟨_,rfl,Or.inl ⟨rfl,_,rfl,?_⟩⟩;rw [neS a7K];refine y8 ?_;refine ⟨_,rfl,Or.inl ⟨rfl,_,rfl,?_⟩⟩;rw [neS a0z];refine y8 ?_;refine ⟨_,rfl,_,rfl,_,_,rfl,rfl,(by show (0:Int) < n;omega),?_⟩;exact q
def a9X:Sp:=λvs H Q _=>∃ (fv rv:V) (F:List (List (Option Int))) (r:l9) (i j:Int),vs=[fv,rv,.int i,.int j]/\F9 F/\IsD H fv (i6 F)/\IsD H rv (D0 r) /\
 ∀ (p:Addr),H p=none->Q (.ref p) (upd H p (.tup ((k0 F r i j).map d6)))
theorem O2 (T:Txt K mg C Ck):Df P w K mg base 2 "stands_at" ["field","rule","i","j"] a9X:=by
 refine T.d_stands_at.ok a1o (λvs H Q E h=>?_) (λf cdv A outer s H vs Q E hr h=>?_)
 ·obtain ⟨fv,rv,F,r,i,j,rfl,_⟩:=h
  rfl
 ·obtain ⟨fv,rv,F,r,i,j,rfl,R,hf,hru,q⟩:=h;refine ⟨_,(@a9 _ _ _ _ _ (@p4 _ _ _ _ _ _ _ _ (@a4L _ _ _ (@f7 _ _ _ _ _ _ _ _ _ _ (a4N T) (hr.mono (by decide)) (@a6 _ _ _ _ _ (pv 0) (@a6 _ _ _ _ _ (pv 2) (@a6 _ _ _ _ _ (pv 3) a7 (by rfl)) (by rfl)) (by rfl)) (by rfl) (by decide) (by rfl) (by rfl)) (by intro _;rfl)) (@b9 _ _ _ (@d8 _ _ _ _ (@u7 _ _ _ _ _ (@a6 _ _ _ _ _ (@j4 _ _ _ _ _ _ _ (c9 (K:=K) rfl) (@j4 _ _ _ _ _ _ _ (c9 (K:=K) rfl) (pv 0) (pv 2) (λ_ _=>rfl)) (pv 3) (λ_ _=>rfl)) a7 f6)))) j5)
   (@a9 _ _ _ _ _ (@p4 _ _ _ _ _ _ _ _ (@i8 _ _ _ _ _ _ _ _ (A6 hr.units) (pv 1) B6 (l7 _)) (@b9 _ _ _ (@d8 _ _ _ _ (@u7 _ _ _ _ _ a7))) j5)
   (@a9 _ _ _ _ _ (@p4 _ _ _ _ _ _ _ _ (@a4L _ _ _ (@f8 _ _ _ _ _ _ _ _ _ (a5q (K:=K) rfl) (by rfl) T.n_isinstance a0l (@a6 _ _ _ _ _ (pv 1) (@a6 _ _ _ _ _ (b5e (v:=.ty "tuple") (by rfl) T.n_tuple w6 rfl) a7 (by rfl)) (by rfl)) (by decide) (by decide) (by rfl) (by rfl)) (by intro _;rfl)) (@b9 _ _ _ (@d8 _ _ _ _ (@u7 _ _ _ _ _ (@a6 _ _ _ _ _ (@j4 _ _ _ _ _ _ _ (c9 (K:=K) rfl) (pv 1) b6 (λ_ _=>rfl)) a7 f6)))) j5)
   (@a9 _ _ _ _ _ (@e9 _ _ 4 _ _ _ _ a1o.nd rfl (by trivial) (@j4 _ _ _ _ _ _ _ (c9 (K:=K) rfl) (pv 0) (@f7 _ _ _ _ _ _ _ _ _ _ (T1 T) (hr.mono (by decide)) (@a6 _ _ _ _ _ (pv 1) (@a6 _ _ _ _ _ (pv 2) (@a6 _ _ _ _ _ (@f8 _ _ _ _ _ _ _ _ _ (j9 (K:=K) rfl) (by rfl) T.n_len u2 (@a6 _ _ _ _ _ (pv 0) a7 (by rfl)) (by decide) (by decide) (by rfl) (by rfl)) a7 d4) (by rfl)) (by rfl)) (by rfl) (by decide) (by rfl) (by rfl)) (λ_ _=>rfl)) (by rfl) (by first | exact .inl rfl | exact .inr rfl))
   (@b9 _ _ _ (@d8 _ _ _ _ (@u7 _ _ _ _ _ (@a6 _ _ _ _ _ (@j4 _ _ _ _ _ _ _ (c9 (K:=K) rfl) (pv 4) (@f7 _ _ _ _ _ _ _ _ _ _ (T1 T) (hr.mono (by decide)) (@a6 _ _ _ _ _ (pv 1) (@a6 _ _ _ _ _ (pv 3) (@a6 _ _ _ _ _ (@f8 _ _ _ _ _ _ _ _ _ (j9 (K:=K) rfl) (by rfl) T.n_len u2 (@a6 _ _ _ _ _ (pv 4) a7 (by rfl)) (by decide) (by decide) (by rfl) (by rfl)) a7 d4) (by rfl)) (by rfl)) (by rfl) (by decide) (by rfl) (by rfl)) (λ_ _=>rfl)) a7 f6)))))))),?_⟩
  refine ⟨_,rfl,_,rfl,_,rfl,_,F,i,j,rfl,R,hf,_,rfl,?_⟩;unfold k0 at q;cases hin:inF F i j with
  | true =>
   refine U8 ?_;rw [hin,if_pos rfl] at q;unfold inF at hin;simp only [Bool.and_eq_true,decide_eq_true_eq] at hin;obtain ⟨a,xs,b,rr,rfl,ha,hab,hb,hbc,_⟩:=field_cell R hf hin.1.1 hin.1.2 hin.2.1 hin.2.2;refine ⟨_,rfl,_,rfl,Or.inr (Or.inl ⟨_,_,_,_,rfl,rfl,SqT.of ha,hab,_,rfl,Or.inr (Or.inl ⟨_,_,_,_,rfl,rfl,SqT.of hb,hbc,(by show 1<=sizeLine;decide),λp hp=>?_⟩)⟩)⟩;exact q p hp
  | false =>
   refine y8 ?_;rw [hin,if_neg Bool.false_ne_true] at q;cases r with
   | there =>
    have e:=B0 hru;subst e;refine ⟨_,rfl,Or.inl ⟨rfl,_,rfl,?_⟩⟩;rw [eqS rfl];refine U8 ?_;exact ⟨(by show 0<=sizeLine;decide),λp hp=>q p hp⟩
   | told c =>
    obtain ⟨a,xs,rfl,ha,hxs⟩:=hru.tuple_inv;refine ⟨_,rfl,Or.inr ⟨_,_,hru,.str _,⟨?_,by decide +kernel,?_⟩,_,rfl,?_⟩⟩
    ·show PyData.canLayAll0 [.str "told",w5 c]=true
     rw [PyData.canLayAll0,PyData.canLayAll0,M8]
     decide +kernel
    ·show PyData.depthAll [.str "told",w5 c] + 1<=20
     rw [PyData.depthAll,PyData.depthAll,Q1]
     decide
    refine y8 ?_;refine ⟨_,rfl,_,_,_,_,rfl,Or.inl ⟨rfl,_,ha⟩,rfl,_,rfl,?_⟩;refine U8 ?_;cases hxs with
    | cons h1 h2 =>
     cases h2 with
     | cons h3 h4 =>
      cases h4;rw [IsD.cell_inv h3] at ha;refine ⟨_,rfl,Or.inr (Or.inl ⟨_,_,_,_,rfl,rfl,SqT.of ha,rfl,(by show 1<=sizeLine;decide),λp hp=>q p hp⟩)⟩
   | near =>
    have e:=B0 hru;subst e;obtain ⟨a,xs,b0,ys,e,ha,la,hb0,hb,lb⟩:=B4 R hf;subst e;have li:=N6 .near i (n:=F.length) (by have:=R.h1;omega);have lj:=N6 .near j (n:=(F.headD []).length) (by have:=R.w1;omega);obtain ⟨a',xs',b,rr,e,ha',hab,hb',hbc,lr⟩:=field_cell R hf li.1 li.2 lj.1 lj.2;cases e;rw [ha] at ha';cases ha';refine ⟨_,rfl,Or.inl ⟨rfl,_,rfl,?_⟩⟩;rw [neS a8K];refine y8 ?_;refine ⟨_,rfl,_,_,_,_,rfl,rfl,rfl,_,rfl,?_⟩;refine y8 ?_;refine ⟨_,rfl,_,rfl,_,rfl,_,rfl,_,_,rfl,Or.inr ⟨_,SqT.of ha,rfl⟩,.near,_,_,_,rfl,(by unfold Led;simp),(by have:=R.h1;omega),(by have:=R.hs;omega),?_⟩;refine Or.inr (Or.inl ⟨_,_,_,_,rfl,rfl,SqT.of ha,(by rw [la];exact hab),?_⟩);refine ⟨_,rfl,_,rfl,_,rfl,_,rfl,_,_,rfl,Or.inr ⟨_,SqT.of hb',rfl⟩,.near,_,_,_,rfl,(by unfold Led;simp),(by rw [lr];have:=R.w1;omega),(by rw [lr];have:=R.ws;omega),?_⟩;refine Or.inr (Or.inl ⟨_,_,_,_,rfl,rfl,SqT.of hb',(by rw [lr];exact hbc),(by show 1<=sizeLine;decide),λp hp=>q p hp⟩)
   | turned =>
    have e:=B0 hru;subst e;obtain ⟨a,xs,b0,ys,e,ha,la,hb0,hb,lb⟩:=B4 R hf;subst e;have li:=N6 .turned i (n:=F.length) (by have:=R.h1;omega);have lj:=N6 .turned j (n:=(F.headD []).length) (by have:=R.w1;omega);obtain ⟨a',xs',b,rr,e,ha',hab,hb',hbc,lr⟩:=field_cell R hf li.1 li.2 lj.1 lj.2;cases e;rw [ha] at ha';cases ha';refine ⟨_,rfl,Or.inl ⟨rfl,_,rfl,?_⟩⟩;rw [neS a9y];refine y8 ?_;refine ⟨_,rfl,_,_,_,_,rfl,rfl,rfl,_,rfl,?_⟩;refine y8 ?_;refine ⟨_,rfl,_,rfl,_,rfl,_,rfl,_,_,rfl,Or.inr ⟨_,SqT.of ha,rfl⟩,.turned,_,_,_,rfl,(by unfold Led;simp),(by have:=R.h1;omega),(by have:=R.hs;omega),?_⟩;refine Or.inr (Or.inl ⟨_,_,_,_,rfl,rfl,SqT.of ha,(by rw [la];exact hab),?_⟩);refine ⟨_,rfl,_,rfl,_,rfl,_,rfl,_,_,rfl,Or.inr ⟨_,SqT.of hb',rfl⟩,.turned,_,_,_,rfl,(by unfold Led;simp),(by rw [lr];have:=R.w1;omega),(by rw [lr];have:=R.ws;omega),?_⟩;refine Or.inr (Or.inl ⟨_,_,_,_,rfl,rfl,SqT.of hb',(by rw [lr];exact hbc),(by show 1<=sizeLine;decide),λp hp=>q p hp⟩)
   | round =>
    have e:=B0 hru;subst e;obtain ⟨a,xs,b0,ys,e,ha,la,hb0,hb,lb⟩:=B4 R hf;subst e;have li:=N6 .round i (n:=F.length) (by have:=R.h1;omega);have lj:=N6 .round j (n:=(F.headD []).length) (by have:=R.w1;omega);obtain ⟨a',xs',b,rr,e,ha',hab,hb',hbc,lr⟩:=field_cell R hf li.1 li.2 lj.1 lj.2;cases e;rw [ha] at ha';cases ha';refine ⟨_,rfl,Or.inl ⟨rfl,_,rfl,?_⟩⟩;rw [neS a6E];refine y8 ?_;refine ⟨_,rfl,_,_,_,_,rfl,rfl,rfl,_,rfl,?_⟩;refine y8 ?_;refine ⟨_,rfl,_,rfl,_,rfl,_,rfl,_,_,rfl,Or.inr ⟨_,SqT.of ha,rfl⟩,.round,_,_,_,rfl,(by unfold Led;simp),(by have:=R.h1;omega),(by have:=R.hs;omega),?_⟩;refine Or.inr (Or.inl ⟨_,_,_,_,rfl,rfl,SqT.of ha,(by rw [la];exact hab),?_⟩);refine ⟨_,rfl,_,rfl,_,rfl,_,rfl,_,_,rfl,Or.inr ⟨_,SqT.of hb',rfl⟩,.round,_,_,_,rfl,(by unfold Led;simp),(by rw [lr];have:=R.w1;omega),(by rw [lr];have:=R.ws;omega),?_⟩;refine Or.inr (Or.inl ⟨_,_,_,_,rfl,rfl,SqT.of hb',(by rw [lr];exact hbc),(by show 1<=sizeLine;decide),λp hp=>q p hp⟩)
def b9q:Sp:=λvs H Q _=>∃ (p:Int) (a b:Nat),vs=[.int p,.int a,.int b]/\(-(2 ^ 60) < p/\p < 2 ^ 60)/\a<=100/\b<=100 /\
 ∀ (l:Addr) (H':Hp),H l=none->i9 H H'->H' l=some (.lst (u5 (p - a) (a + b + 1)))->Q (.ref l) H'
theorem y7 (T:Txt K mg C Ck):Df P w K mg base 1 "places_around" ["place","ahead","behind"] b9q:=by
 refine T.d_places_around.ok a9r (λvs H Q E h=>?_) (λf cdv A outer s H vs Q E hr h=>?_)
 ·obtain ⟨p,a,b,rfl,_⟩:=h
  rfl
 ·obtain ⟨p,a,b,rfl,hp,ha,hb,q⟩:=h;refine ⟨_,(@b9 _ _ _ (@d8 _ _ _ _ (@m9 _ _ _ _ _ _ _ _ _ (A8.or (X5 (K:=K) rfl) (M4 rfl)) (by rfl) T.n_list a6x (@a6 _ _ _ _ _ (@m9 _ _ _ _ _ _ _ _ _ a1O (by rfl) T.n_range a6V (@a6 _ _ _ _ _ (@g0 _ _ _ _ _ _ _ _ G6 (pv 0) (pv 1)) (@a6 _ _ _ _ _ (@g0 _ _ _ _ _ _ _ _ u9 (@g0 _ _ _ _ _ _ _ _ u9 (pv 0) (pv 2)) b6) a7 o8) o8) (by decide) (by decide) (by rfl) (by rfl)) a7 d4) (by decide) (by decide) (by rfl) (by rfl)))),?_⟩;refine ⟨_,rfl,_,rfl,_,_,rfl,rfl,_,rfl,_,rfl,_,_,rfl,rfl,_,_,rfl,rfl,?_⟩;refine ⟨_,_,rfl,λr hr=>?_⟩;have e:(p + (b:Int) + 1 - (p - (a:Int))).toNat=a + b + 1:=by omega
  refine Or.inr ⟨_,_,_,rfl,a8,⟨by omega,by omega,by omega,by omega⟩,by rw [e];omega,λl hl=>?_⟩;rw [e];exact q l _ ((b8 hr).free hl) ((b8 hr).trans (b8 hl)) a8
def b1B:Sp:=λvs H Q _=>∃ (fv wv rv:V) (F:List (List (Option Int))) (ru:l9) (u d l r:Nat) (i j:Int),vs=[fv,wv,rv,.int i,.int j]/\F9 F/\IsD H fv (i6 F)/\IsD H wv (a2l u d l r)/\IsD H rv (D0 ru) /\
 (-(2 ^ 60) < i/\i < 2 ^ 60)/\(-(2 ^ 60) < j/\j < 2 ^ 60)/\(u<=100/\d<=100/\l<=100/\r<=100) /\
 ∀ (p:Addr) (H':Hp),i9 H H'->H' p=some (.tup ((wc F ru u d l r i j).map d6))->Q (.ref p) H'
theorem Y0 (T:Txt K mg C Ck):Df P w K mg base 3 "window_cells" ["field","window","rule","i","j"] b1B:=by
 refine T.d_window_cells.ok C3 (λvs H Q E h=>?_) (λf cdv A outer s H vs Q E hr h=>?_)
 ·obtain ⟨fv,wv,rv,F,ru,u,d,l,r,i,j,rfl,_⟩:=h
  rfl
 ·obtain ⟨fv,wv,rv,F,ru,u,d,l,r,i,j,rfl,R,hf,hw,hru,bi,bj,⟨bu,bd,bl,br⟩,q⟩:=h;refine ⟨_,(@a9 _ _ _ _ _ (@e9 _ _ 5 _ _ _ _ C3.nd rfl (by trivial) (@f7 _ _ _ _ _ _ _ _ _ _ (y7 T) (hr.mono (by decide)) (@a6 _ _ _ _ _ (pv 4) (@a6 _ _ _ _ _ (@j4 _ _ _ _ _ _ _ (c9 (K:=K) rfl) (pv 1) b6 (λ_ _=>rfl)) (@a6 _ _ _ _ _ (@j4 _ _ _ _ _ _ _ (c9 (K:=K) rfl) (pv 1) b6 (λ_ _=>rfl)) a7 f6) f6) (by rfl)) (by rfl) (by decide) (by rfl) (by rfl)) (by rfl) (by first | exact .inl rfl | exact .inr rfl))
   (@a9 _ _ _ _ _ (@e9 _ _ 6 _ _ _ _ C3.nd rfl (by trivial) (@u3 _ _ _ _ a7) (by rfl) (by first | exact .inl rfl | exact .inr rfl))
   (@a9 _ _ _ _ _ (@r6 _ _ _ _ _ _ _ _ PassesOwn.never rfl (q9 (K:=K) rfl (@f7 _ _ _ _ _ _ _ _ _ _ (y7 T) (hr.mono (by decide)) (@a6 _ _ _ _ _ (pv 3) (@a6 _ _ _ _ _ (@j4 _ _ _ _ _ _ _ (c9 (K:=K) rfl) (pv 1) b6 (λ_ _=>rfl)) (@a6 _ _ _ _ _ (@j4 _ _ _ _ _ _ _ (c9 (K:=K) rfl) (pv 1) b6 (λ_ _=>rfl)) a7 f6) f6) (by rfl)) (by rfl) (by decide) (by rfl) (by rfl))) (i7 (i:=7) C3.nd rfl (by trivial)) (@b9 _ _ _ (@r6 _ _ _ _ _ _ _ _ PassesOwn.never rfl (q9 (K:=K) rfl (pv 5)) (i7 (i:=8) C3.nd rfl (by trivial)) (@b9 _ _ _ (@x9 _ _ _ _ (@N9 _ _ _ _ _ _ _ _ _ _ _ _ PySem.F.plainAttrs_list PySem.F.slot_list_extend PySem.F.type_list_extend (MtR.or a3j W8) (pv 6) (@a6 _ _ _ _ _ (@f7 _ _ _ _ _ _ _ _ _ _ (O2 T) (hr.mono (by decide)) (@a6 _ _ _ _ _ (pv 0) (@a6 _ _ _ _ _ (pv 2) (@a6 _ _ _ _ _ (pv 7) (@a6 _ _ _ _ _ (pv 8) a7 (by rfl)) (by rfl)) (by rfl)) (by rfl)) (by rfl) (by decide) (by rfl) (by rfl)) a7 d4) (by rfl) (by rfl) (by rfl) (by rfl) (by rfl)) (by rfl))) (by intro _;rfl))) (by intro _;rfl))
   (@b9 _ _ _ (@d8 _ _ _ _ (@m9 _ _ _ _ _ _ _ _ _ (o6 (K:=K) rfl) (by rfl) T.n_tuple w6 (@a6 _ _ _ _ _ (pv 6) a7 (by rfl)) (by decide) (by decide) (by rfl) (by rfl))))))),?_⟩
  obtain ⟨wa,rfl,hwa⟩:=U9 hw;refine ⟨_,rfl,_,rfl,Or.inr (Or.inl ⟨_,_,_,_,rfl,rfl,SqT.of hwa,rfl,_,rfl,Or.inr (Or.inl ⟨_,_,_,_,rfl,rfl,SqT.of hwa,rfl,?_⟩)⟩)⟩;refine ⟨_,_,_,rfl,bj,bl,br,λlc H1 _ s1 hlc=>?_⟩;refine ⟨(by show 0<=sizeLine;decide),λc hc=>?_⟩;have s2:=b8 (o:=.lst []) hc;have S2:=s1.trans s2;refine Or.inl ?_;refine ⟨_,rfl,_,rfl,Or.inr (Or.inl ⟨_,_,_,_,rfl,rfl,SqT.of (S2 _ _ hwa),rfl,_,rfl,Or.inr (Or.inl ⟨_,_,_,_,rfl,rfl,SqT.of (S2 _ _ hwa),rfl,?_⟩)⟩)⟩;refine ⟨_,_,_,rfl,bi,bu,bd,λlr H3 _ s3 hlr=>?_⟩;refine ⟨_,rfl,⟨_,SqL.of hlr⟩,?_⟩;have hc3:H3 c=some (.lst []):=s3 _ _ a8;have S3:=S2.trans s3;have hlc3:=(s2.trans s3) _ _ hlc;have nlc:lc≠c:=c6 hlc hc;have nlr:lr≠c:=by
   refine B2 hlr hc3 λz=>?_;have:=congrArg (λo=>match o with | HO.lst xs=>xs.length | _=>0) z;simp only [K0,List.length_nil] at this
   omega
  have oldne:∀ b o,H b=some o->b≠c:=λb o e=>c6 (s1 b o e) hc;have keepH:∀ {H':Hp},c7 c H3 H'->i9 H H':=λk b o e=>k b o (S3 b o e) (oldne b o e);refine C5 (xs:=u5 (i - u) (u + d + 1)) (λa σ H'=>∃ v7 v8,σ=[some fv,some (.ref wa),some rv,some (.int i),some (.int j),some (.ref lc),some (.ref c),v7,v8]/\c7 c H3 H' /\
    H' c=some (.lst (((List.range a).flatMap λa=>w9 F ru l r (i - u + (a:Nat)) j).map d6)))
   ⟨none,none,rfl,c7.refl _ _,hc3⟩ (λa σ H' _ ⟨_,_,_,k,_⟩=>SqL.of (k _ _ hlr nlr)) ?_ ?_
  ·rintro a y _ H4 ha ⟨v7,v8,rfl,k4,hc4⟩;have ha':a < u + d + 1:=by
    have:=(List.getElem?_eq_some_iff.mp ha).1;rw [K0] at this;exact this
   have ey:y = .int (i - u + (a:Nat)):=by
    unfold u5 at ha;rw [List.getElem?_map,List.getElem?_range ha'] at ha;exact (Option.some.inj ha).symm
   subst ey;refine Or.inl ?_;refine ⟨_,rfl,_,rfl,⟨_,SqL.of (k4 _ _ hlc3 nlc)⟩,?_⟩;refine C5 (xs:=u5 (j - l) (l + r + 1)) (λb σ H'=>∃ v8,σ=[some fv,some (.ref wa),some rv,some (.int i),some (.int j),some (.ref lc),some (.ref c),some (.int (i - u + (a:Nat))),v8]/\c7 c H3 H' /\
     H' c=some (.lst ((((List.range a).flatMap λa=>w9 F ru l r (i - u + (a:Nat)) j) ++ (List.range b).flatMap λb=>k0 F ru (i - u + (a:Nat)) (j - l + (b:Nat))).map d6)))
    ⟨v8,rfl,k4,by rw [hc4];simp⟩ (λb σ H' _ ⟨_,_,k,_⟩=>SqL.of (k _ _ hlc3 nlc)) ?_ ?_
   ·rintro b y _ H5 hb ⟨v8,rfl,k5,hc5⟩;have hb':b < l + r + 1:=by
     have:=(List.getElem?_eq_some_iff.mp hb).1;rw [K0] at this;exact this
    have ey:y = .int (j - l + (b:Nat)):=by
     unfold u5 at hb;rw [List.getElem?_map,List.getElem?_range hb'] at hb;exact (Option.some.inj hb).symm
    subst ey;have S5:=keepH k5;refine ⟨_,rfl,Or.inl ⟨rfl,_,SqL.of hc5⟩,?_⟩;refine ⟨_,rfl,_,rfl,_,rfl,_,rfl,_,_,F,ru,_,_,rfl,R,hf.keep S5.tups,hru.keep S5.tups,λp hp=>?_⟩;have s6:=b8 (o:=.tup ((k0 F ru (i - u + (a:Nat)) (j - l + (b:Nat))).map d6)) hp;have np:p≠c:=(c6 hc5 hp).symm;refine Or.inr ⟨_,_,_,_,rfl,rfl,s6 _ _ hc5,a8,?_,?_⟩
    ·have l1:=A3 (λa=>w9 F ru l r (i - u + (a:Nat)) j) (m:=201) (λk=>Nat.le_trans (W6 _ _ _ _ _ _) (by omega)) a;have l2:=A3 (λb=>k0 F ru (i - u + (a:Nat)) (j - l + (b:Nat))) (m:=1) (λk=>E2 _ _ _ _) b;have l3:=E2 F ru (i - u + (a:Nat)) (j - l + (b:Nat));have l4:a * 201<=201 * 201:=Nat.mul_le_mul_right _ (by omega);rw [List.length_map,List.length_map,List.length_append];refine Nat.le_trans (m:=50000) ?_ (by decide)
     omega
    ·refine ⟨_,rfl,λb' o e n=>?_,?_⟩
     ·rw [d5 n];exact s6 _ _ (k5 b' o e n)
     ·rw [a8,A2,← List.map_append,List.append_assoc]
   ·rintro _ H5 ⟨v8,rfl,k5,hc5⟩;refine ⟨_,_,rfl,k5,?_⟩;rw [hc5,A2,K0]
    rfl
  ·rintro _ H4 ⟨v7,v8,rfl,k4,hc4⟩;rw [K0] at hc4;refine ⟨_,rfl,_,_,rfl,Or.inl ⟨SqL.of hc4,λp hp=>?_⟩⟩;exact q p _ ((keepH k4).trans (b8 hp)) a8
def b9A:Sp:=λvs H Q _=>∃ (p:Addr) (cs:List (Option Int)),vs=[.ref p]/\a7O H p (cs.map d6)/\cs.length <= 100000/\∀ (t:Addr) (H':Hp),i9 H H'->H' t=some (.tup ((cs.filterMap id).map V.int))->Q (.ref t) H'
theorem E8 (T:Txt K mg C Ck):Df P w K mg base 1 "without_holes" ["cells"] b9A:=by
 refine T.d_without_holes.ok a7r (λvs H Q E h=>?_) (λf cdv A outer s H vs Q E hr h=>?_)
 ·obtain ⟨p,cs,rfl,_⟩:=h
  rfl
 ·obtain ⟨p,cs,rfl,hp,hl,q⟩:=h;refine ⟨_,(@b9 _ _ _ (@d8 _ _ _ _ (@m9 _ _ _ _ _ _ _ _ _ (o6 (K:=K) rfl) (by rfl) T.n_tuple w6 (@a6 _ _ _ _ _ (C6 (M:=[]) (idx:=[]) rfl (q9 (K:=K) rfl (pv 0)) (Q3 (by kernel_rfl)) (by decide +kernel) (by trivial) (λ_ _ _ _ _=>a1j (@i8 _ _ _ _ _ _ _ _ a6L (pv 0) P6 (l7 _))) (λ_ _ _ _ _=>(pv 0))) a7 G7) (by decide) (by decide) (by rfl) (by rfl)))),?_⟩;refine O6 (K:=K) (xs:=cs.map d6) (λk h=>⟨_,rfl,h⟩) hp (λi ys H'=>H'=H/\ys=((cs.take i).filterMap id).map V.int) ⟨rfl,rfl⟩ (by rw [List.length_map];exact Nat.le_trans hl (by decide)) (λi ys H' _ ⟨e,_⟩=>by rw [e]) ?_ ?_
  ·rintro i x ys _ hx ⟨rfl,rfl⟩;obtain ⟨c,ec,rfl⟩:=b4h hx;rw [List.take_add_one,ec,List.filterMap_append,List.map_append];cases c with
   | none =>
    refine ⟨_,rfl,rfl,_,rfl,?_⟩;refine y8 ?_;exact ⟨rfl,by simp⟩
   | some n =>
    refine ⟨_,rfl,rfl,_,rfl,?_⟩;refine U8 ?_;exact ⟨_,rfl,rfl,rfl⟩
  ·rintro ys _ ⟨rfl,rfl⟩ l hl2;rw [List.length_map,List.take_length];refine ⟨_,_,rfl,Or.inl ⟨SqL.of a8,λt ht=>?_⟩⟩;exact q t _ ((b8 hl2).trans (b8 ht)) a8
def b5q (K:PySem.W.Frag):Sp:=λvs H Q _=>∃ (p:Addr) (sv:V) (cs:List (Option Int)) (a b:Int),vs=[.ref p,sv]/\a7O H p (cs.map d6)/\cs.length <= 100000/\Shr K H sv a b/\M9 a b/\∀ H',i9 H H'->Q (d6 (p7 (cs.filterMap id) a b)) H'
theorem a2t (T:Txt K mg C Ck):Df P w K mg base 3 "told_of_cells" ["cells","share"] (b5q K):=by
 refine T.d_told_of_cells.ok a8r (λvs H Q E h=>?_) (λf cdv A outer s H vs Q E hr h=>?_)
 ·obtain ⟨p,sv,cs,a,b,rfl,_⟩:=h
  rfl
 ·obtain ⟨p,sv,cs,a,b,rfl,hp,hl,hs,hS,q⟩:=h;refine ⟨_,(@b9 _ _ _ (@d8 _ _ _ _ (@f7 _ _ _ _ _ _ _ _ _ _ (a6k T) (hr.mono (by decide)) (@a6 _ _ _ _ _ (@f7 _ _ _ _ _ _ _ _ _ _ (E8 T) (hr.mono (by decide)) (@a6 _ _ _ _ _ (pv 0) a7 (by rfl)) (by rfl) (by decide) (by rfl) (by rfl)) (@a6 _ _ _ _ _ (pv 1) a7 (by rfl)) d4) (by rfl) (by decide) (by rfl) (by rfl)))),?_⟩;refine ⟨_,rfl,p,cs,rfl,hp,hl,λt H1 s1 ht=>?_⟩;exact ⟨_,rfl,t,sv,_,a,b,rfl,.inl ht,hs.keep s1.tups,hS,λH2 s2=>q H2 (s1.trans s2)⟩
def a1Y (K:PySem.W.Frag):Sp:=λvs H Q _=>∃ (fv wv rv sv:V) (F:List (List (Option Int))) (ru:l9) (u d l r:Nat) (a b:Int),vs=[fv,wv,rv,sv]/\F9 F/\IsD H fv (i6 F)/\IsD H wv (a2l u d l r)/\IsD H rv (D0 ru)/\Shr K H sv a b/\M9 a b /\
 (u<=100/\d<=100/\l<=100/\r<=100)/\∀ (v:V) (H':Hp),i9 H H'->IsD H' v (i6 (fil F ru u d l r a b))->Q v H'
theorem a4i (T:Txt K mg C Ck):Df P w K mg base 4 "filtered" ["field","window","rule","share"] (a1Y K):=by
 refine T.d_filtered.ok M6 (λvs H Q E h=>?_) (λf cdv A outer s H vs Q E hr h=>?_)
 ·obtain ⟨fv,wv,rv,sv,F,ru,u,d,l,r,a,b,rfl,_⟩:=h
  rfl
 ·obtain ⟨fv,wv,rv,sv,F,ru,u,d,l,r,a,b,rfl,R,hf,hw,hru,hs,hS,bb,q⟩:=h;obtain ⟨fa,xs,rfl,hfa,hxs⟩:=w4 hf;have lxs:xs.length=F.length:=by rw [hxs.length,List.length_map]
  have hW:=R.ws;have hH:=R.hs;refine ⟨_,(@a9 _ _ _ _ _ (@e9 _ _ 4 _ _ _ _ M6.nd rfl (by trivial) (@u3 _ _ _ _ a7) (by rfl) (by first | exact .inl rfl | exact .inr rfl))
   (@a9 _ _ _ _ _ (@r6 _ _ _ _ _ _ _ _ PassesOwn.never rfl (B1 (by rfl) T.n_range (@a6 _ _ _ _ _ (@f8 _ _ _ _ _ _ _ _ _ (j9 (K:=K) rfl) (by rfl) T.n_len u2 (@a6 _ _ _ _ _ (pv 0) a7 (by rfl)) (by decide) (by decide) (by rfl) (by rfl)) a7 d4)) (i7 (i:=5) M6.nd rfl (by trivial)) (@a9 _ _ _ _ _ (@e9 _ _ 6 _ _ _ _ M6.nd rfl (by trivial) (@u3 _ _ _ _ a7) (by rfl) (by first | exact .inl rfl | exact .inr rfl))
   (@a9 _ _ _ _ _ (@r6 _ _ _ _ _ _ _ _ PassesOwn.never rfl (B1 (by rfl) T.n_range (@a6 _ _ _ _ _ (@f8 _ _ _ _ _ _ _ _ _ (j9 (K:=K) rfl) (by rfl) T.n_len u2 (@a6 _ _ _ _ _ (@j4 _ _ _ _ _ _ _ (c9 (K:=K) rfl) (pv 0) (pv 5) (λ_ _=>rfl)) a7 f6) (by decide) (by decide) (by rfl) (by rfl)) a7 d4)) (i7 (i:=7) M6.nd rfl (by trivial)) (@b9 _ _ _ (@x9 _ _ _ _ (@N9 _ _ _ _ _ _ _ _ _ _ _ _ PySem.F.plainAttrs_list PySem.F.slot_list_append PySem.F.type_list_append z9 (pv 6) (@a6 _ _ _ _ _ (@f7 _ _ _ _ _ _ _ _ _ _ (a2t T) (hr.mono (by decide)) (@a6 _ _ _ _ _ (@f7 _ _ _ _ _ _ _ _ _ _ (Y0 T) (hr.mono (by decide)) (@a6 _ _ _ _ _ (pv 0) (@a6 _ _ _ _ _ (pv 1) (@a6 _ _ _ _ _ (pv 2) (@a6 _ _ _ _ _ (pv 5) (@a6 _ _ _ _ _ (pv 7) a7 (by rfl)) (by rfl)) (by rfl)) (by rfl)) (by rfl)) (by rfl) (by decide) (by rfl) (by rfl)) (@a6 _ _ _ _ _ (pv 3) a7 (by rfl)) d4) (by rfl) (by decide) (by rfl) (by rfl)) a7 d4) (by rfl) (by rfl) (by rfl) (by rfl) (by rfl)) (by rfl))) (by intro _;rfl))
   (@b9 _ _ _ (@x9 _ _ _ _ (@N9 _ _ _ _ _ _ _ _ _ _ _ _ PySem.F.plainAttrs_list PySem.F.slot_list_append PySem.F.type_list_append z9 (pv 4) (@a6 _ _ _ _ _ (@m9 _ _ _ _ _ _ _ _ _ (o6 (K:=K) rfl) (by rfl) T.n_tuple w6 (@a6 _ _ _ _ _ (pv 6) a7 (by rfl)) (by decide) (by decide) (by rfl) (by rfl)) a7 d4) (by rfl) (by rfl) (by rfl) (by rfl) (by rfl)) (by rfl))))) (by intro _;rfl))
   (@b9 _ _ _ (@d8 _ _ _ _ (@m9 _ _ _ _ _ _ _ _ _ (o6 (K:=K) rfl) (by rfl) T.n_tuple w6 (@a6 _ _ _ _ _ (pv 4) a7 (by rfl)) (by decide) (by decide) (by rfl) (by rfl)))))),?_⟩
  refine ⟨(by show 0<=sizeLine;decide),λc hc=>?_⟩;have s1:=b8 (o:=.lst []) hc;have oldne:∀ b o,H b=some o->b≠c:=λb o e=>c6 e hc;have keepH:∀ {H':Hp},c7 c (upd H c (.lst [])) H'->i9 H H':=λk b o e=>k b o (s1 b o e) (oldne b o e);refine ⟨_,rfl,_,_,rfl,Or.inr ⟨_,SqT.of (s1 _ _ hfa),rfl⟩,_,rfl,by omega,by omega,?_⟩;have hc1:upd H c (.lst []) c=some (.lst []):=a8;generalize upd H c (.lst [])=H1 at s1 hc1 keepH ⊢;refine y6 (n:=((xs.length:Nat):Int).toNat) (λi σ H'=>∃ (v5 v6 v7:Option V) (ys:List V),σ=[some (.ref fa),some wv,some rv,some sv,some (.ref c),v5,v6,v7]/\c7 c H1 H'/\H' c=some (.lst ys)/\IsDs H' ys (((fil F ru u d l r a b).take i).map E1)) ⟨none,none,none,[],rfl,c7.refl _ _,hc1,.nil⟩ ?_ ?_
  ·rintro i _ H2 hi ⟨v5,v6,v7,ys,rfl,k2,hc2,hys⟩;have hi':i < F.length:=by
    have:i < ((xs.length:Nat):Int).toNat:=hi
    omega
   have S2:=keepH k2;have e0:(0:Int) + (i:Int)=(i:Int):=by omega
   rw [e0];obtain ⟨ra,era,hra⟩:=B7 hxs hi';have eW:F[i].length=(F.headD []).length:=R.row _ (List.getElem_mem _);refine ⟨(by show 0<=sizeLine;decide),λe he=>?_⟩;have s3:=b8 (o:=.lst []) he;have ne:e≠c:=(c6 hc2 he).symm;refine ⟨_,rfl,_,rfl,Or.inr (Or.inl ⟨_,_,_,_,rfl,rfl,SqT.of (s3 _ _ (S2 _ _ hfa)),J5 era,_,_,rfl,Or.inr ⟨_,SqT.of (s3 _ _ (S2 _ _ hra)),rfl⟩,_,rfl,by rw [List.length_map];omega,by rw [List.length_map];omega,?_⟩)⟩;have he3:upd H2 e (.lst []) e=some (.lst []):=a8;have hc3:=s3 _ _ hc2;have hys3:=hys.keep s3.tups;have S3:=S2.trans s3;have K3:c7 c H1 (upd H2 e (.lst [])):=λb' o e' n=>s3 _ _ (k2 b' o e' n);have old3:∀ b' o,H2 b'=some o->b'≠e:=λb' o e'=>c6 e' he;have el:(F[i].map d6).length=d9 F:=by rw [List.length_map];exact eW
   generalize upd H2 e (.lst [])=H3 at s3 he3 hc3 hys3 S3 K3 ⊢;refine y6 (n:=((((F[i].map d6).length:Nat):Int).toNat)) (λj σ H'=>∃ (v7:Option V),σ=[some (.ref fa),some wv,some rv,some sv,some (.ref c),some (.int i),some (.ref e),v7]/\c7 e H3 H'/\H' e=some (.lst (((List.range j).map λj:Nat=>G2 F ru u d l r a b (i:Int) (j:Int)).map d6))) ⟨v7,rfl,c7.refl _ _,he3⟩ ?_ ?_
   ·rintro j _ H4 hj ⟨v7,rfl,k4,he4⟩;have hj':j < d9 F:=by
     have:j < ((((F[i].map d6).length:Nat):Int).toNat):=hj
     omega
    have e0:(0:Int) + (j:Int)=(j:Int):=by omega
    rw [e0];have S4:i9 H H4:=λb' o e'=>k4 b' o (S3 b' o e') (old3 b' o (S2 b' o e'));have hjw:j < (F.headD []).length:=hj';refine ⟨_,rfl,Or.inl ⟨rfl,_,SqL.of he4⟩,?_⟩;refine ⟨_,rfl,_,rfl,_,rfl,_,rfl,_,rfl,_,_,_,F,ru,u,d,l,r,_,_,rfl,R,hf.keep S4.tups,hw.keep S4.tups,hru.keep S4.tups,⟨by omega,by omega⟩,⟨by omega,by omega⟩,bb,λp H5 s5 hp=>?_⟩;have wl:=a3W F ru u d l r (i:Int) (j:Int);have wl2:(u + d + 1) * (l + r + 1)<=201 * 201:=Nat.mul_le_mul (by omega) (by omega);have S5:=S4.trans s5;have he5:=s5 _ _ he4;refine ⟨_,rfl,p,sv,wc F ru u d l r i j,a,b,rfl,.inl hp,by omega,hs.keep S5.tups,hS,λH7 s7=>?_⟩;have S6:=S5;have he7:=s7 _ _ he5;refine ⟨_,_,_,rfl,rfl,he7,?_,?_⟩
    ·rw [List.length_map,List.length_map,List.length_range];exact Nat.lt_of_lt_of_le (show j < 1001 by omega) (by decide)
    ·refine ⟨_,rfl,λb' o e' n=>?_,?_⟩
     ·rw [d5 n];exact s7 _ _ (s5 _ _ (k4 b' o e' n))
     ·rw [a8,List.range_succ,List.map_append,List.map_append]
      rfl
   ·rintro _ H4 ⟨v7,rfl,k4,he4⟩;rw [show ((((F[i].map d6).length:Nat):Int).toNat)=d9 F by omega] at he4;have hc4:=k4 _ _ hc3 ne.symm;refine ⟨_,rfl,Or.inl ⟨rfl,_,SqL.of hc4⟩,_,rfl,_,_,rfl,Or.inl ⟨SqL.of he4,λt ht=>?_⟩⟩;have st:=b8 (o:=.tup (((List.range (d9 F)).map λj:Nat=>G2 F ru u d l r a b (i:Int) (j:Int)).map d6)) ht;have hct:=st _ _ hc4;have ly:ys.length=i:=by rw [hys.length,List.length_map,List.length_take,L9];omega
    refine ⟨_,_,_,rfl,rfl,hct,(by rw [ly];exact Nat.lt_of_lt_of_le (show i < 1001 by omega) (by decide)),?_⟩;refine ⟨_,_,_,ys ++ [.ref t],rfl,λb' o e' n=>?_,a8,?_⟩
    ·rw [d5 n];exact st _ _ (k4 b' o (K3 b' o e' n) (old3 b' o (k2 b' o e' n)))
    ·rw [List.take_add_one,a5j hi',List.map_append];have tt:t≠c:=(c6 hc4 ht).symm;have u1:upd (upd H4 t (.tup (((List.range (d9 F)).map λj:Nat=>G2 F ru u d l r a b (i:Int) (j:Int)).map d6))) c (.lst (ys ++ [.ref t])) t=some (.tup (((List.range (d9 F)).map λj:Nat=>G2 F ru u d l r a b (i:Int) (j:Int)).map d6)):=by rw [d5 tt];exact a8
     have kt:∀ b' zs,H3 b'=some (.tup zs)->upd (upd H4 t (.tup (((List.range (d9 F)).map λj:Nat=>G2 F ru u d l r a b (i:Int) (j:Int)).map d6))) c (.lst (ys ++ [.ref t])) b'=some (.tup zs):=λb' zs e'=>by
      have n1:b'≠c:=B2 e' hc3 λz=>by cases z
      have n2:b'≠e:=B2 e' he3 λz=>by cases z
      rw [d5 n1];exact st _ _ (k4 _ _ e' n2)
     exact (hys3.keep kt).append (.cons (.tup u1 (D4 _)) .nil)
  ·rintro _ H2 ⟨v5,v6,v7,ys,rfl,k2,hc2,hys⟩;refine ⟨_,rfl,_,_,rfl,Or.inl ⟨SqL.of hc2,λt ht=>?_⟩⟩;have st:=b8 (o:=.tup ys) ht;refine q (.ref t) _ ((keepH k2).trans st) (.tup a8 ?_);have:(fil F ru u d l r a b).take ((xs.length:Nat):Int).toNat=fil F ru u d l r a b:=List.take_of_length_le (by rw [L9];omega);rw [this] at hys;exact hys.keep st.tups
theorem a2j {H:Hp}{x y:V}{F G:List (List (Option Int))}{Q:VK}(hx:IsD H x (i6 F))(hy:IsD H y (i6 G))(e:F=G)(q:Q (.bl false) H):rNe x y H Q \/ a2L 0 x y H Q :=
 Or.inr ⟨i6 F,i6 G,hx,hy,a5I _ _,by rw [a6j,decide_eq_true e];exact q⟩
theorem a3V (ns:List Int):ns.map V.int=(ns.map some).map d6:=by rw [List.map_map];rfl
theorem a1U {H:Hp}{p q:Addr}{cs:List (Option Int)}{Q:VK}(hp:H p=some (.lst (cs.map d6)))(hq:H q=some (.lst []))(h:Q (.bl (decide (cs=[]))) H):b0s (.ref p) (.ref q) H Q:=by
 refine ⟨p,q,_,_,cs.map w5,[],rfl,rfl,hp,hq,D4 cs,.nil,⟨C0 cs,rfl,?_⟩,?_⟩
 ·show PyData.depthAll (cs.map w5) + 1<=20
  rw [M7];decide
 ·have:=V3 cs [];rw [List.map_nil] at this;rw [this];exact h
def a4h (ru:l9)(x:Str):Bool:=match ru with
 | .there=>decide (("there" : Str)=x)
 | .near=>decide (("near" : Str)=x)
 | .turned=>decide (("turned" : Str)=x)
 | .round=>decide (("round" : Str)=x)
 | .told _=>false
theorem a7M {H:Hp}{rv:V}{ru:l9}{x:Str}{Q:VK}(h:IsD H rv (D0 ru))(hx:(PyData.str x).canLay0=true)(q:Q (.bl (a4h ru x)) H):rEq rv (.str x) H Q \/ b1l 0 rv (.str x) H Q:=by
 have st:∀ y:Str,rv = .str y->Q (.bl (decide (y=x))) H->rEq rv (.str x) H Q \/ b1l 0 rv (.str x) H Q:=λy e q'=>by
  subst e;refine Or.inl ⟨rfl,?_⟩;have:decide (V.str y=V.str x)=decide (y=x):=by
   by_cases z:y=x
   ·subst z;simp
   ·rw [decide_eq_false (λe=>z (V.str.inj e)),decide_eq_false z]
  rw [this];exact q'
 cases ru with
 | there=>exact st _ (B0 h) q
 | near=>exact st _ (B0 h) q
 | turned=>exact st _ (B0 h) q
 | round=>exact st _ (B0 h) q
 | told c =>
  refine Or.inr ⟨_,_,h,.str _,⟨?_,hx,?_⟩,q⟩
  ·show PyData.canLayAll0 [.str "told",w5 c]=true
   rw [PyData.canLayAll0,PyData.canLayAll0,M8]
   decide +kernel
  ·show PyData.depthAll [.str "told",w5 c] + 1<=20
   rw [PyData.depthAll,PyData.depthAll,Q1]
   decide
theorem field_cell {H:Hp}{v:V}{F:List (List (Option Int))}{i j:Nat}(R:F9 F)(hf:IsD H v (i6 F))(hi:i < F.length)(hj:j < (F.headD []).length) :
  ∃ (fa:Addr) (xs:List V) (ra:Addr) (ys:List V),v = .ref fa/\H fa=some (.tup xs)/\atI xs (i:Int)=some (.ref ra)/\H ra=some (.tup ys)/\atI ys (j:Int)=some (d6 (m5 F (i:Int) (j:Int))):=by
 obtain ⟨fa,xs,rfl,hfa,hxs⟩:=w4 hf;obtain ⟨ra,era,hra⟩:=B7 hxs hi;have lr:F[i].length=(F.headD []).length:=R.row _ (List.getElem_mem _);have hj':j < F[i].length:=by omega
 refine ⟨fa,xs,ra,_,rfl,hfa,J5 era,hra,J5 ?_⟩;rw [List.getElem?_map,List.getElem?_eq_getElem hj'];unfold m5;rw [Int.toNat_natCast,Int.toNat_natCast,List.getElem?_eq_getElem hi]
 show some (d6 F[i][j])=some (d6 (F[i][j]?).join)
 rw [List.getElem?_eq_getElem hj']
 rfl
def a0k:l9->Int->Int->Int
 | .near,p,n=>led .near p n
 | .turned,p,n=>led .turned p n
 | .round,p,n=>led .round p n
 | _,p,_=>p
theorem b5d (ru:l9):a4h ru "near" = true↔ru = .near:=by
 cases ru <;> simp [a4h] <;> decide +kernel
theorem a0R (ru:l9):a4h ru "round" = true↔ru = .round:=by
 cases ru <;> simp [a4h] <;> decide +kernel
theorem a6G (ru:l9):a4h ru "turned" = true↔ru = .turned:=by
 cases ru <;> simp [a4h] <;> decide +kernel
def b8A:Sp:=λvs H Q _=>∃ (rv:V) (ru:l9) (p n:Int),vs=[rv,.int p,.int n]/\IsD H rv (D0 ru)/\1<=n/\n < 2 ^ 40/\Q (.int (a0k ru p n)) H
theorem a1q (T:Txt K mg C Ck):Df P w K mg base 1 "_law_index" ["rule","k","size"] b8A:=by
 refine T.d_law_index.ok a4o (λvs H Q E h=>?_) (λf cdv A outer s H vs Q E hr h=>?_)
 ·obtain ⟨rv,ru,p,n,rfl,_⟩:=h
  rfl
 ·obtain ⟨rv,ru,p,n,rfl,hru,n1,n2,q⟩:=h;refine ⟨_,(@a9 _ _ _ _ _ (@p4 _ _ _ _ _ _ _ _ (@i8 _ _ _ _ _ _ _ _ (A6 hr.units) (pv 0) B6 (l7 _)) (@b9 _ _ _ (@d8 _ _ _ _ (@f8 _ _ _ _ _ _ _ _ _ (V5 rfl) (by rfl) T.n_min a1C (@a6 _ _ _ _ _ (@f8 _ _ _ _ _ _ _ _ _ (a5t rfl) (by rfl) T.n_max b1c (@a6 _ _ _ _ _ (pv 1) (@a6 _ _ _ _ _ b6 a7 (by rfl)) (by rfl)) (by decide) (by decide) (by rfl) (by rfl)) (@a6 _ _ _ _ _ (@g0 _ _ _ _ _ _ _ _ G6 (pv 2) b6) a7 o8) d4) (by decide) (by decide) (by rfl) (by rfl)))) j5)
   (@a9 _ _ _ _ _ (@p4 _ _ _ _ _ _ _ _ (@i8 _ _ _ _ _ _ _ _ (A6 hr.units) (pv 0) B6 (l7 _)) (@b9 _ _ _ (@d8 _ _ _ _ (@g0 _ _ _ _ _ _ _ _ J0 (pv 1) (pv 2)))) j5)
   (@a9 _ _ _ _ _ (@p4 _ _ _ _ _ _ _ _ (@i8 _ _ _ _ _ _ _ _ (A6 hr.units) (pv 0) B6 (l7 _)) (@a9 _ _ _ _ _ (@e9 _ _ 1 _ _ _ _ a4o.nd rfl (by trivial) (@g0 _ _ _ _ _ _ _ _ J0 (pv 1) (@g0 _ _ _ _ _ _ _ _ F7 b6 (pv 2))) (by rfl) (by first | exact .inl rfl | exact .inr rfl))
   (@b9 _ _ _ (@d8 _ _ _ _ (@f8 _ _ _ _ _ _ _ _ _ (V5 rfl) (by rfl) T.n_min a1C (@a6 _ _ _ _ _ (pv 1) (@a6 _ _ _ _ _ (@g0 _ _ _ _ _ _ _ _ G6 (@g0 _ _ _ _ _ _ _ _ G6 (@g0 _ _ _ _ _ _ _ _ F7 b6 (pv 2)) b6) (pv 1)) a7 o8) (by rfl)) (by decide) (by decide) (by rfl) (by rfl))))) j5)
   (@b9 _ _ _ (@d8 _ _ _ _ (pv 1)))))),?_⟩
  refine ⟨_,rfl,a7M hru (by decide +kernel) ⟨_,rfl,G1 (λz=>?_) (λz1=>?_)⟩⟩
  ·obtain rfl:=(b5d ru).mp z;refine ⟨_,rfl,_,_,rfl,_,rfl,_,_,rfl,rfl,_,_,rfl,?_⟩;rw [a9L,b0u];exact q
  refine ⟨_,rfl,a7M hru (by decide +kernel) ⟨_,rfl,G1 (λz=>?_) (λz2=>?_)⟩⟩
  ·obtain rfl:=(a0R ru).mp z;exact ⟨_,rfl,_,rfl,_,_,rfl,rfl,(by show (0:Int) < n;omega),q⟩
  refine ⟨_,rfl,a7M hru (by decide +kernel) ⟨_,rfl,G1 (λz=>?_) (λz3=>?_)⟩⟩
  ·obtain rfl:=(a6G ru).mp z;refine ⟨_,rfl,_,rfl,_,_,rfl,rfl,Or.inl ⟨by decide,by decide⟩,_,_,rfl,rfl,(by show (0:Int) < 2 * n;omega),?_⟩;refine ⟨_,rfl,_,rfl,_,_,rfl,rfl,Or.inl ⟨by decide,by decide⟩,_,_,rfl,rfl,_,rfl,_,_,rfl,rfl,_,_,rfl,?_⟩;rw [a9L];exact q
  ·refine ⟨_,rfl,?_⟩;have e:a0k ru p n=p:=by
    cases ru with
    | near=>exact absurd ((b5d _).mpr rfl) z1
    | round=>exact absurd ((a0R _).mpr rfl) z2
    | turned=>exact absurd ((a6G _).mpr rfl) z3
    | there=>rfl
    | told c=>rfl
   rw [e] at q;exact q
theorem b9m {F:List (List (Option Int))}(R:F9 F)(ru:l9)(i j:Int) :
  (inF F (a0k ru i F.length) (a0k ru j (F.headD []).length)=true->k0 F ru i j=[m5 F (a0k ru i F.length) (a0k ru j (F.headD []).length)]) /\
  (inF F (a0k ru i F.length) (a0k ru j (F.headD []).length)=false->(ru = .there /\ k0 F ru i j=[]) \/ ∃ c,ru = .told c/\k0 F ru i j=[c]):=by
 have h1:=R.h1;have w1:=R.w1;have led_ok:∀ r:l9,(r = .near \/ r = .turned \/ r = .round)->inF F (led r i F.length) (led r j (F.headD []).length)=true/\k0 F r i j=[m5 F (led r i F.length) (led r j (F.headD []).length)]:=λr hr=>by
  have li:=N6 r i (n:=F.length) (by omega);have lj:=N6 r j (n:=(F.headD []).length) (by omega);refine ⟨by unfold inF;rw [decide_eq_true li.1,decide_eq_true li.2,decide_eq_true lj.1,decide_eq_true lj.2];rfl,?_⟩;unfold k0;cases hin:inF F i j with
  | true =>
   rw [if_pos rfl];unfold inF at hin;simp only [Bool.and_eq_true,decide_eq_true_eq] at hin;rw [b2u r hin.1.1 hin.1.2,b2u r hin.2.1 hin.2.2]
  | false =>
   rw [if_neg Bool.false_ne_true]
   rcases hr with rfl | rfl | rfl <;> rfl
 cases ru with
 | near=>exact ⟨λ_=>(led_ok .near (by simp)).2,λz=>by have:=(led_ok .near (by simp)).1;rw [show a0k .near i F.length=led .near i F.length from rfl,show a0k .near j (F.headD []).length=led .near j (F.headD []).length from rfl,this] at z;cases z⟩
 | turned=>exact ⟨λ_=>(led_ok .turned (by simp)).2,λz=>by have:=(led_ok .turned (by simp)).1;rw [show a0k .turned i F.length=led .turned i F.length from rfl,show a0k .turned j (F.headD []).length=led .turned j (F.headD []).length from rfl,this] at z;cases z⟩
 | round=>exact ⟨λ_=>(led_ok .round (by simp)).2,λz=>by have:=(led_ok .round (by simp)).1;rw [show a0k .round i F.length=led .round i F.length from rfl,show a0k .round j (F.headD []).length=led .round j (F.headD []).length from rfl,this] at z;cases z⟩
 | there =>
  refine ⟨λz=>?_,λz=>Or.inl ⟨rfl,?_⟩⟩
  ·unfold k0;rw [if_pos (show inF F i j=true from z)];rfl
  ·unfold k0;rw [if_neg (by rw [show inF F i j=false from z];decide)]
 | told c =>
  refine ⟨λz=>?_,λz=>Or.inr ⟨c,rfl,?_⟩⟩
  ·unfold k0;rw [if_pos (show inF F i j=true from z)];rfl
  ·unfold k0;rw [if_neg (by rw [show inF F i j=false from z];decide)]
theorem b0f {H:Hp}{rv:V}{ru:l9}{x:Str}{Q:VK}(h:IsD H rv (D0 ru))(hx:(PyData.str x).canLay0=true)(q:Q (.bl (!a4h ru x)) H):rNe rv (.str x) H Q \/ a2L 0 rv (.str x) H Q:=by
 have st:∀ y:Str,rv = .str y->Q (.bl (!decide (y=x))) H->rNe rv (.str x) H Q \/ a2L 0 rv (.str x) H Q:=λy e q'=>by
  subst e;refine Or.inl ⟨rfl,?_⟩;have:decide (V.str y=V.str x)=decide (y=x):=by
   by_cases z:y=x
   ·subst z;simp
   ·rw [decide_eq_false (λe=>z (V.str.inj e)),decide_eq_false z]
  rw [this];exact q'
 cases ru with
 | there=>exact st _ (B0 h) q
 | near=>exact st _ (B0 h) q
 | turned=>exact st _ (B0 h) q
 | round=>exact st _ (B0 h) q
 | told c =>
  refine Or.inr ⟨_,_,h,.str _,⟨?_,hx,?_⟩,q⟩
  ·show PyData.canLayAll0 [.str "told",w5 c]=true
   rw [PyData.canLayAll0,PyData.canLayAll0,M8]
   decide +kernel
  ·show PyData.depthAll [.str "told",w5 c] + 1<=20
   rw [PyData.depthAll,PyData.depthAll,Q1]
   decide
theorem b6z {t:TT}{a b:TS}{D:a8t}{σ:St}{H:Hp}(P:Bool->Hp->Prop)(key:∀ c H1,P c H1->if c=true then a D σ H1 else b D σ H1)(test:∀ Q:Bool->Hp->Prop,(∀ c H1,P c H1->Q c H1)->t σ H Q):b3J t a b D σ H:=test _ key
theorem a5T {H:Hp}{v:V}:∀ {c:Option Int},IsD H v (w5 c)->v=d6 c
 | none,h=>by cases h;rfl
 | some _,h=>by cases h;rfl
def b9z:Sp:=λvs H Q _=>∃ (fv wv rv:V) (F:List (List (Option Int))) (ru:l9) (u d l r:Nat) (i j:Int),vs=[fv,wv,rv,.int i,.int j]/\F9 F/\IsD H fv (i6 F)/\IsD H wv (a2l u d l r)/\IsD H rv (D0 ru)/\(-(2 ^ 40) < i/\i < 2 ^ 40)/\(-(2 ^ 40) < j/\j < 2 ^ 40)/\(u<=100/\d<=100/\l<=100/\r<=100) /\
 ∀ (p:Addr) (H':Hp),i9 H H'->H' p=some (.lst ((wc F ru u d l r i j).map d6))->Q (.ref p) H'
theorem V4 (T:Txt K mg C Ck):Df P w K mg base 2 "_law_window_at" ["field","window","rule","i","j"] b9z:=by
 refine T.d_law_window_at.ok n6 (λvs H Q E h=>?_) (λf cdv A outer s H vs Q E hr h=>?_)
 ·obtain ⟨fv,wv,rv,F,ru,u,d,l,r,i,j,rfl,_⟩:=h
  rfl
 ·obtain ⟨fv,wv,rv,F,ru,u,d,l,r,i,j,rfl,R,hf,hw,hru,bi,bj,⟨bu,bd,bl,br⟩,q⟩:=h;refine ⟨_,(@a9 _ _ _ _ _ (@a1s _ _ _ _ _ _ (pv 1) (W7 (K:=K) rfl rfl (o9 (i7 (i:=5) n6.nd rfl (by trivial)) (o9 (i7 (i:=6) n6.nd rfl (by trivial)) (o9 (i7 (i:=7) n6.nd rfl (by trivial)) (o9 (i7 (i:=8) n6.nd rfl (by trivial)) R4))))) (by rfl) (by rfl) (by rfl))
   (@a9 _ _ _ _ _ (@e9 _ _ 9 _ _ _ _ n6.nd rfl (by trivial) (@u3 _ _ _ _ a7) (by rfl) (by first | exact .inl rfl | exact .inr rfl))
   (@a9 _ _ _ _ _ (@r6 _ _ _ _ _ _ _ _ PassesOwn.never rfl (a3s (by rfl) T.n_range (@a6 _ _ _ _ _ (@g0 _ _ _ _ _ _ _ _ G6 (pv 3) (pv 5)) (@a6 _ _ _ _ _ (@g0 _ _ _ _ _ _ _ _ u9 (@g0 _ _ _ _ _ _ _ _ u9 (pv 3) (pv 6)) b6) a7 o8) o8)) (i7 (i:=10) n6.nd rfl (by trivial)) (@b9 _ _ _ (@r6 _ _ _ _ _ _ _ _ PassesOwn.never rfl (a3s (by rfl) T.n_range (@a6 _ _ _ _ _ (@g0 _ _ _ _ _ _ _ _ G6 (pv 4) (pv 7)) (@a6 _ _ _ _ _ (@g0 _ _ _ _ _ _ _ _ u9 (@g0 _ _ _ _ _ _ _ _ u9 (pv 4) (pv 8)) b6) a7 o8) o8)) (i7 (i:=11) n6.nd rfl (by trivial)) (@a9 _ _ _ _ _ (@e9 _ _ 12 _ _ _ _ n6.nd rfl (by trivial) (@f7 _ _ _ _ _ _ _ _ _ _ (a1q T) (hr.mono (by decide)) (@a6 _ _ _ _ _ (pv 2) (@a6 _ _ _ _ _ (pv 10) (@a6 _ _ _ _ _ (@f8 _ _ _ _ _ _ _ _ _ (j9 (K:=K) rfl) (by rfl) T.n_len u2 (@a6 _ _ _ _ _ (pv 0) a7 (by rfl)) (by decide) (by decide) (by rfl) (by rfl)) a7 d4) (by rfl)) (by rfl)) (by rfl) (by decide) (by rfl) (by rfl)) (by rfl) (by first | exact .inl rfl | exact .inr rfl))
   (@a9 _ _ _ _ _ (@e9 _ _ 13 _ _ _ _ n6.nd rfl (by trivial) (@f7 _ _ _ _ _ _ _ _ _ _ (a1q T) (hr.mono (by decide)) (@a6 _ _ _ _ _ (pv 2) (@a6 _ _ _ _ _ (pv 11) (@a6 _ _ _ _ _ (@f8 _ _ _ _ _ _ _ _ _ (j9 (K:=K) rfl) (by rfl) T.n_len u2 (@a6 _ _ _ _ _ (@j4 _ _ _ _ _ _ _ (c9 (K:=K) rfl) (pv 0) b6 (λ_ _=>rfl)) a7 f6) (by decide) (by decide) (by rfl) (by rfl)) a7 d4) (by rfl)) (by rfl)) (by rfl) (by decide) (by rfl) (by rfl)) (by rfl) (by first | exact .inl rfl | exact .inr rfl))
   (@b9 _ _ _ (@p4 _ _ _ _ _ _ _ _ (a3L (a9o a8G a0p b6 (pv 12) (@f8 _ _ _ _ _ _ _ _ _ (j9 (K:=K) rfl) (by rfl) T.n_len u2 (@a6 _ _ _ _ _ (pv 0) a7 (by rfl)) (by decide) (by decide) (by rfl) (by rfl))) (a0x (a9o a8G a0p b6 (pv 13) (@f8 _ _ _ _ _ _ _ _ _ (j9 (K:=K) rfl) (by rfl) T.n_len u2 (@a6 _ _ _ _ _ (@j4 _ _ _ _ _ _ _ (c9 (K:=K) rfl) (pv 0) b6 (λ_ _=>rfl)) a7 f6) (by decide) (by decide) (by rfl) (by rfl))))).pt (@b9 _ _ _ (@x9 _ _ _ _ (@N9 _ _ _ _ _ _ _ _ _ _ _ _ PySem.F.plainAttrs_list PySem.F.slot_list_append PySem.F.type_list_append z9 (pv 9) (@a6 _ _ _ _ _ (@j4 _ _ _ _ _ _ _ (c9 (K:=K) rfl) (@j4 _ _ _ _ _ _ _ (c9 (K:=K) rfl) (pv 0) (pv 12) (λ_ _=>rfl)) (pv 13) (λ_ _=>rfl)) a7 f6) (by rfl) (by rfl) (by rfl) (by rfl) (by rfl)) (by rfl))) (@b9 _ _ _ (@p4 _ _ _ _ _ _ _ _ (@i8 _ _ _ _ _ _ _ _ (P7 hr.units) (pv 2) B6 (l7 _)) (@b9 _ _ _ (@x9 _ _ _ _ (@N9 _ _ _ _ _ _ _ _ _ _ _ _ PySem.F.plainAttrs_list PySem.F.slot_list_append PySem.F.type_list_append z9 (pv 9) (@a6 _ _ _ _ _ (@j4 _ _ _ _ _ _ _ (c9 (K:=K) rfl) (pv 2) b6 (λ_ _=>rfl)) a7 f6) (by rfl) (by rfl) (by rfl) (by rfl) (by rfl)) (by rfl))) j5)))))) (by intro _;rfl))) (by intro _;rfl))
   (@b9 _ _ _ (@d8 _ _ _ _ (pv 9)))))),?_⟩
  obtain ⟨wa,rfl,hwa⟩:=U9 hw;have h1:=R.h1;have hs:=R.hs;have w1:=R.w1;have ws:=R.ws;obtain ⟨fa,xs,b0,ys0,rfl,hfa,la,hb0,hb,lb⟩:=B4 R hf;refine ⟨_,rfl,_,_,rfl,SqT.of hwa,rfl,?_⟩;refine ⟨_,_,rfl,_,_,rfl,_,_,rfl,_,_,rfl,rfl,?_⟩;refine ⟨(by show 0<=sizeLine;decide),λc hc=>?_⟩;have s1:=b8 (o:=.lst []) hc;have hc1:upd H c (.lst []) c=some (.lst []):=a8;have oldne:∀ b o,H b=some o->b≠c:=λb o e=>c6 e hc;have keepH:∀ {H':Hp},c7 c (upd H c (.lst [])) H'->i9 H H':=λk b o e=>k b o (s1 b o e) (oldne b o e);generalize upd H c (.lst [])=H1 at s1 hc1 keepH ⊢;refine ⟨_,rfl,_,rfl,_,_,rfl,rfl,_,rfl,_,rfl,_,_,rfl,rfl,_,_,rfl,rfl,?_⟩;refine ⟨_,_,rfl,⟨by omega,by omega,by omega,by omega⟩,?_⟩;have eu:(i + (d:Int) + 1 - (i - (u:Int))).toNat=u + d + 1:=by omega
  rw [eu];have len:∀ k m:Nat,k<=u + d + 1->m<=l + r + 1->∀ row:Int,(((List.range k).flatMap λa=>w9 F ru l r (i - u + (a:Nat)) j) ++ (List.range m).flatMap λb=>k0 F ru row (j - l + (b:Nat))).length <= 50000:=λk m hk hm row=>by
   have l1:=A3 (λa=>w9 F ru l r (i - u + (a:Nat)) j) (m:=201) (λk=>Nat.le_trans (W6 _ _ _ _ _ _) (by omega)) k;have l2:=A3 (λb=>k0 F ru row (j - l + (b:Nat))) (m:=1) (λk=>E2 _ _ _ _) m;have l4:k * 201<=201 * 201:=Nat.mul_le_mul_right _ (by omega);rw [List.length_append]
   omega
  refine y6 (n:=u + d + 1) (λa σ H'=>∃ (v10 v11 v12 v13:Option V),σ=[some (.ref fa),some (.ref wa),some rv,some (.int i),some (.int j),some (.int u),some (.int d),some (.int l),some (.int r),some (.ref c),v10,v11,v12,v13]/\c7 c H1 H' /\
    H' c=some (.lst (((List.range a).flatMap λa=>w9 F ru l r (i - u + (a:Nat)) j).map d6))) ⟨none,none,none,none,rfl,c7.refl _ _,hc1⟩ ?_ ?_
  ·rintro a _ H4 ha ⟨v10,v11,v12,v13,rfl,k4,hc4⟩;refine ⟨_,rfl,_,rfl,_,_,rfl,rfl,_,rfl,_,rfl,_,_,rfl,rfl,_,_,rfl,rfl,?_⟩;refine ⟨_,_,rfl,⟨by omega,by omega,by omega,by omega⟩,?_⟩;have ev:(j + (r:Int) + 1 - (j - (l:Int))).toNat=l + r + 1:=by omega
   rw [ev];refine y6 (n:=l + r + 1) (λb σ H'=>∃ (v11 v12 v13:Option V),σ=[some (.ref fa),some (.ref wa),some rv,some (.int i),some (.int j),some (.int u),some (.int d),some (.int l),some (.int r),some (.ref c),some (.int (i - u + (a:Nat))),v11,v12,v13]/\c7 c H1 H' /\
     H' c=some (.lst ((((List.range a).flatMap λa=>w9 F ru l r (i - u + (a:Nat)) j) ++ (List.range b).flatMap λb=>k0 F ru (i - u + (a:Nat)) (j - l + (b:Nat))).map d6))) ⟨v11,v12,v13,rfl,k4,by rw [hc4];simp⟩ ?_ ?_
   ·rintro b _ H5 hb5 ⟨v11,v12,v13,rfl,k5,hc5⟩;have S5:=keepH k5;have hfa5:=S5 _ _ hfa;have hb5':=S5 _ _ hb;refine ⟨_,rfl,_,rfl,_,rfl,_,_,rfl,Or.inr ⟨_,SqT.of hfa5,rfl⟩,?_⟩;refine ⟨rv,ru,_,_,rfl,hru.keep S5.tups,by omega,by omega,?_⟩;dsimp only [F4,List.set];refine ⟨_,rfl,_,rfl,_,rfl,Or.inr (Or.inl ⟨_,_,_,_,rfl,rfl,SqT.of hfa5,hb0,_,_,rfl,Or.inr ⟨_,SqT.of hb5',rfl⟩,?_⟩)⟩;refine ⟨rv,ru,_,_,rfl,hru.keep S5.tups,by omega,by omega,?_⟩;dsimp only [F4,List.set];rw [la,lb];obtain ⟨in1,in2⟩:=b9m R ru (i - u + (a:Nat)) (j - l + (b:Nat));have e0:(0:Int)=0:=rfl;generalize a0k ru (i - u + (a:Nat)) F.length=ro at in1 in2 ⊢;generalize a0k ru (j - l + (b:Nat)) (F.headD []).length=co at in1 in2 ⊢;have lenA:=len a b (by omega) (by omega) (i - u + (a:Nat));have grow:∀ x:Option Int,k0 F ru (i - u + (a:Nat)) (j - l + (b:Nat))=[x]->c7 c H1 (upd H5 c (.lst ((((List.range a).flatMap λa=>w9 F ru l r (i - u + (a:Nat)) j) ++ (List.range b).flatMap λb=>k0 F ru (i - u + (a:Nat)) (j - l + (b:Nat))).map d6 ++ [d6 x])))/\upd H5 c (.lst ((((List.range a).flatMap λa=>w9 F ru l r (i - u + (a:Nat)) j) ++ (List.range b).flatMap λb=>k0 F ru (i - u + (a:Nat)) (j - l + (b:Nat))).map d6 ++ [d6 x])) c=some (.lst ((((List.range a).flatMap λa=>w9 F ru l r (i - u + (a:Nat)) j) ++ (List.range (b + 1)).flatMap λb=>k0 F ru (i - u + (a:Nat)) (j - l + (b:Nat))).map d6)):=λx hx=>by
     refine ⟨λb' o e n=>by rw [d5 n];exact k5 b' o e n,?_⟩;rw [a8,A2,hx];simp only [List.map_append,List.append_assoc,List.map_cons,List.map_nil]
    have fits:((((List.range a).flatMap λa=>w9 F ru l r (i - u + (a:Nat)) j) ++ (List.range b).flatMap λb=>k0 F ru (i - u + (a:Nat)) (j - l + (b:Nat))).map d6).length < sizeLine:=by
     rw [List.length_map];exact Nat.lt_of_lt_of_le (show _ < 60000 by omega) (by decide)
    refine b6z (λc' H'=>H'=H5/\c'=inF F ro co) (λc' H' ⟨eh,ec⟩=>?_) (λQ' hQ=>?_)
    ·subst eh;cases c' with
     | true =>
      have hin:inF F ro co=true:=ec.symm;have st:=in1 hin;unfold inF at hin;simp only [Bool.and_eq_true,decide_eq_true_eq] at hin;obtain ⟨⟨r0,r1⟩,c0,c1⟩:=hin;obtain ⟨rn,rfl⟩:∃ m:Nat,ro=(m:Int):=⟨ro.toNat,by omega⟩;obtain ⟨cn,rfl⟩:∃ m:Nat,co=(m:Int):=⟨co.toNat,by omega⟩;obtain ⟨fa',xs',ra,ys,ef,e1,e2,e3,e4⟩:=field_cell (i:=rn) (j:=cn) R (hf.keep S5.tups) (by omega) (by omega);cases ef;rw [hfa5] at e1;cases e1;refine U8 ?_;refine ⟨_,rfl,Or.inl ⟨rfl,_,SqL.of hc5⟩,?_⟩;refine ⟨_,rfl,_,rfl,Or.inr (Or.inl ⟨_,_,_,_,rfl,rfl,SqT.of hfa5,e2,?_⟩)⟩;refine ⟨_,rfl,Or.inr (Or.inl ⟨_,_,_,_,rfl,rfl,SqT.of e3,e4,?_⟩)⟩;refine ⟨_,_,_,rfl,rfl,hc5,fits,?_⟩;obtain ⟨g1,g2⟩:=grow _ st;exact ⟨_,_,_,rfl,g1,g2⟩
     | false =>
      refine y8 ?_
      rcases in2 ec.symm with ⟨rfl,st⟩ | ⟨x,rfl,st⟩
      ·refine ⟨_,rfl,b0f (hru.keep S5.tups) (by decide +kernel) ⟨_,rfl,G1 (λz=>absurd z (by decide +kernel)) (λ_=>?_)⟩⟩;refine ⟨_,_,_,rfl,k5,?_⟩;rw [hc5,A2,st,List.append_nil]
      ·obtain ⟨ra,zs,e1,e2,e3⟩:=(hru.keep S5.tups).tuple_inv;cases e3 with | cons y1 e3=>cases e3 with | cons y2 e3=>cases e3 with
       | nil =>
        refine ⟨_,rfl,b0f (hru.keep S5.tups) (by decide +kernel) ⟨_,rfl,G1 (λ_=>?_) (λz=>absurd rfl z)⟩⟩;have y3:=a5T y2;subst e1 y3;refine ⟨_,rfl,Or.inl ⟨rfl,_,SqL.of hc5⟩,?_⟩;refine ⟨_,rfl,Or.inr (Or.inl ⟨_,_,_,_,rfl,rfl,SqT.of e2,rfl,?_⟩)⟩;refine ⟨_,_,_,rfl,rfl,hc5,fits,?_⟩;obtain ⟨g1,g2⟩:=grow _ st;exact ⟨_,_,_,rfl,g1,g2⟩
    ·have no1:¬ (0<=ro/\ro < F.length)->inF F ro co=false:=λh=>Bool.eq_false_iff.mpr λz=>h (by unfold inF at z;simp only [Bool.and_eq_true,decide_eq_true_eq] at z;exact z.1);have no2:¬ (0<=co/\co < (F.headD []).length)->inF F ro co=false:=λh=>Bool.eq_false_iff.mpr λz=>h (by unfold inF at z;simp only [Bool.and_eq_true,decide_eq_true_eq] at z;exact z.2);have yes:0<=ro->ro < F.length -> 0<=co->co < (F.headD []).length -> inF F ro co=true:=λh1 h2 h3 h4=>by unfold inF;rw [decide_eq_true h1,decide_eq_true h2,decide_eq_true h3,decide_eq_true h4];rfl
     refine ⟨_,rfl,_,_,rfl,rfl,_,rfl,G1 (λz1=>?_) (λz1=>?_)⟩
     ·refine ⟨_,rfl,_,_,rfl,Or.inr ⟨_,SqT.of hfa5,rfl⟩,_,_,rfl,rfl,_,rfl,?_⟩;rw [la];refine G1 (λz2=>?_) (λz2=>?_)
      ·refine ⟨_,rfl,_,_,rfl,rfl,_,rfl,G1 (λz3=>?_) (λz3=>?_)⟩
       ·refine ⟨_,rfl,Or.inr (Or.inl ⟨_,_,_,_,rfl,rfl,SqT.of hfa5,hb0,_,_,rfl,Or.inr ⟨_,SqT.of hb5',rfl⟩,_,_,rfl,rfl,_,rfl,?_⟩)⟩;refine hQ _ _ ⟨rfl,?_⟩;rw [lb]
        by_cases z4:co < (F.headD []).length
        ·rw [decide_eq_true z4,yes (of_decide_eq_true z1) (of_decide_eq_true z2) (of_decide_eq_true z3) z4]
        ·rw [decide_eq_false z4,no2 λh=>z4 h.2]
       ·exact ⟨_,rfl,hQ _ _ ⟨rfl,(no2 λh=>z3 (decide_eq_true h.1)).symm⟩⟩
      ·exact hQ _ _ ⟨rfl,(no1 λh=>z2 (decide_eq_true h.2)).symm⟩
     ·exact ⟨_,rfl,y8 (hQ _ _ ⟨rfl,(no1 λh=>z1 (decide_eq_true h.1)).symm⟩)⟩
   ·rintro _ H5 ⟨v11,v12,v13,rfl,k5,hc5⟩;refine ⟨_,_,_,_,rfl,k5,?_⟩;rw [hc5,A2 _ a]
    rfl
  ·rintro _ H4 ⟨v10,v11,v12,v13,rfl,k4,hc4⟩;exact ⟨_,rfl,q c _ (keepH k4) hc4⟩
def b6q:Sp:=λvs H Q _=>∃ (p:Addr) (sv:V) (cs:List (Option Int)) (a b:Int),vs=[.ref p,sv]/\H p=some (.lst (cs.map d6))/\cs.length <= 50000/\IsD H sv (C7 (a,b))/\M9 a b/\∀ H',i9 H H'->Q (d6 (p7 (cs.filterMap id) a b)) H'
theorem a6U (T:Txt K mg C Ck):Df P w K mg base 1 "_law_told" ["cells","share"] b6q:=by
 refine T.d_law_told.ok a1u (λvs H Q E h=>?_) (λf cdv A outer s H vs Q E hr h=>?_)
 ·obtain ⟨p,sv,cs,a,b,rfl,_⟩:=h
  rfl
 ·obtain ⟨p,sv,cs,a',b',rfl,hp,hl,hs,hS,q⟩:=h;refine ⟨_,(@a9 _ _ _ _ _ (@e9 _ _ 2 _ _ _ _ a1u.nd rfl (by trivial) (@f8 _ _ _ _ _ _ _ _ _ a7v (by rfl) T.n_sorted a7j (@a6 _ _ _ _ _ (C6 (M:=[]) (idx:=[]) rfl (q9 (K:=K) rfl (pv 0)) (Q3 (by kernel_rfl)) (by decide +kernel) (by trivial) (λ_ _ _ _ _=>a1j (@i8 _ _ _ _ _ _ _ _ a6L (pv 0) P6 (l7 _))) (λ_ _ _ _ _=>(pv 0))) a7 G7) (by decide) (by decide) (by rfl) (by rfl)) (by rfl) (by first | exact .inl rfl | exact .inr rfl))
   (@a9 _ _ _ _ _ (@p4 _ _ _ _ _ _ _ _ (@i8 _ _ _ _ _ _ _ _ (a7Z hr.units) (pv 2) (@u3 _ _ _ _ a7) (l7 _)) (@b9 _ _ _ (@d8 _ _ _ _ P6)) j5)
   (@b9 _ _ _ (@d8 _ _ _ _ (@j4 _ _ _ _ _ _ _ (c9 (K:=K) rfl) (pv 2) (@g0 _ _ _ _ _ _ _ _ a1p (@g0 _ _ _ _ _ _ _ _ F7 (@j4 _ _ _ _ _ _ _ (c9 (K:=K) rfl) (pv 1) b6 (λ_ _=>rfl)) (@g0 _ _ _ _ _ _ _ _ G6 (@f8 _ _ _ _ _ _ _ _ _ (j9 (K:=K) rfl) (by rfl) T.n_len u2 (@a6 _ _ _ _ _ (pv 2) a7 (by rfl)) (by decide) (by decide) (by rfl) (by rfl)) b6)) (@j4 _ _ _ _ _ _ _ (c9 (K:=K) rfl) (pv 1) b6 (λ_ _=>rfl))) (λ_ _=>rfl)))))),?_⟩
  obtain ⟨sa,rfl,hsa⟩:=R9 hs;refine O6 (K:=K) (xs:=cs.map d6) (λk h=>⟨_,rfl,h⟩) (.inr hp) (λi ys H'=>H'=H/\ys=((cs.take i).filterMap id).map V.int) ⟨rfl,rfl⟩ (by rw [List.length_map];exact Nat.le_trans hl (by decide)) (λi ys H' _ ⟨e,_⟩=>by rw [e]) ?_ ?_
  ·rintro i x ys _ hx ⟨rfl,rfl⟩;obtain ⟨c,ec,rfl⟩:=b4h hx;rw [List.take_add_one,ec,List.filterMap_append,List.map_append];cases c with
   | none =>
    refine ⟨_,rfl,rfl,_,rfl,?_⟩;refine y8 ?_;exact ⟨rfl,by simp⟩
   | some n =>
    refine ⟨_,rfl,rfl,_,rfl,?_⟩;refine U8 ?_;exact ⟨_,rfl,rfl,rfl⟩
  ·rintro ys H0 ⟨eH,rfl⟩ l2 hl2;subst eH;rw [List.length_map,List.take_length];have ln:(cs.filterMap id).length <= 50000:=Nat.le_trans (List.length_filterMap_le _ _) hl;generalize cs.filterMap id=ns at q ln ⊢;have s2:=b8 (o:=.lst (ns.map V.int)) hl2;have e2:upd H0 l2 (.lst (ns.map V.int)) l2=some (.lst (ns.map V.int)):=a8;generalize upd H0 l2 (.lst (ns.map V.int))=H2 at s2 e2 ⊢;refine ⟨l2,ns,rfl,Or.inr e2,λl3 hl3=>?_⟩;have s3:=b8 (o:=.lst ((o0 ns).map V.int)) hl3;have e3:upd H2 l3 (.lst ((o0 ns).map V.int)) l3=some (.lst ((o0 ns).map V.int)):=a8;generalize upd H2 l3 (.lst ((o0 ns).map V.int))=H3 at s3 e3 ⊢;dsimp only [F4,List.set];have S3:=s2.trans s3;refine ⟨_,rfl,(by show 0<=sizeLine;decide),λp5 hp5=>?_⟩;have s5:=b8 (o:=.lst []) hp5;have e5:=s5 _ _ e3;have S5:=S3.trans s5;refine Or.inr (a1U (cs:=(o0 ns).map some) (by rw [e5,a3V]) a8 ⟨_,rfl,?_⟩);generalize upd H3 p5 (.lst [])=H5 at s5 e5 S5 ⊢;have ll:(o0 ns).length=ns.length:=E5 ns
   by_cases z:ns=[]
   ·subst z;rw [R7] at q;have en:o0 []=[]:=List.length_eq_zero_iff.mp (by rw [E5];rfl);rw [decide_eq_true (show (o0 []).map some=[] by rw [en];rfl)];exact U8 (q _ S5)
   ·have z':¬ o0 ns=[]:=λe=>z (List.length_eq_zero_iff.mp (by rw [← ll,e];rfl));rw [decide_eq_false (show ¬ (o0 ns).map some=[] from λe=>z' (List.map_eq_nil_iff.mp e))];refine y8 ?_;obtain ⟨h',em⟩:=O1 hS z;rw [em] at q;have lp:1<=ns.length:=List.length_pos_iff.mpr z;obtain ⟨pb0,pb1⟩:=E6 (n:=ns.length) hS lp;obtain ⟨q1,q2,q3,q4⟩:=hS;refine ⟨_,rfl,_,rfl,Or.inr (Or.inl ⟨_,_,_,_,rfl,rfl,SqT.of (S5 _ _ hsa),rfl,?_⟩)⟩;refine ⟨_,rfl,_,_,rfl,Or.inl ⟨_,SqL.of e5,rfl⟩,_,_,rfl,rfl,_,_,rfl,rfl,Or.inl ⟨by show -(2 ^ 64) < a';omega,by show a' < 2 ^ 64;omega⟩,?_⟩;refine ⟨_,rfl,Or.inr (Or.inl ⟨_,_,_,_,rfl,rfl,SqT.of (S5 _ _ hsa),rfl,_,_,rfl,rfl,⟨by show 0 < b';omega,by show b' < 2 ^ 62;omega⟩,?_⟩)⟩;refine Or.inl ⟨_,_,_,_,rfl,rfl,SqL.of e5,?_,q _ S5⟩;have e1:a' * ((((o0 ns).map V.int).length:Int) - 1) / b'=(((p6 ns.length a' b').toNat:Nat):Int):=by
     rw [List.length_map,ll,Int.toNat_of_nonneg pb0];rfl
    show atI ((o0 ns).map V.int) (a' * ((((o0 ns).map V.int).length:Int) - 1) / b')=_
    rw [e1];exact J5 (by rw [List.getElem?_map,List.getElem?_eq_getElem h'];rfl)
def a9D:Sp:=λvs H Q _=>∃ (fv wv rv sv:V) (F:List (List (Option Int))) (ru:l9) (u d l r:Nat) (a b:Int),vs=[fv,wv,rv,sv]/\F9 F/\IsD H fv (i6 F)/\IsD H wv (a2l u d l r)/\IsD H rv (D0 ru)/\IsD H sv (C7 (a,b))/\M9 a b /\
 (u<=100/\d<=100/\l<=100/\r<=100)/\∀ (v:V) (H':Hp),i9 H H'->IsD H' v (i6 (fil F ru u d l r a b))->Q v H'
theorem a2w (T:Txt K mg C Ck):Df P w K mg base 3 "_law_filtered" ["field","window","rule","share"] a9D:=by
 refine T.d_law_filtered.ok z8 (λvs H Q E h=>?_) (λf cdv A outer s H vs Q E hr h=>?_)
 ·obtain ⟨fv,wv,rv,sv,F,ru,u,d,l,r,a,b,rfl,_⟩:=h
  rfl
 ·obtain ⟨fv,wv,rv,sv,F,ru,u,d,l,r,a,b,rfl,R,hf,hw,hru,hs,hS,bb,q⟩:=h;obtain ⟨fa,xs,b0,ys0,rfl,hfa,la,hb0,hb,lb⟩:=B4 R hf;have hW:=R.ws;have hH:=R.hs;refine ⟨_,(@a9 _ _ _ _ _ (@e9 _ _ 4 _ _ _ _ z8.nd rfl (by trivial) (@u3 _ _ _ _ a7) (by rfl) (by first | exact .inl rfl | exact .inr rfl))
   (@a9 _ _ _ _ _ (@r6 _ _ _ _ _ _ _ _ PassesOwn.never rfl (B1 (by rfl) T.n_range (@a6 _ _ _ _ _ (@f8 _ _ _ _ _ _ _ _ _ (j9 (K:=K) rfl) (by rfl) T.n_len u2 (@a6 _ _ _ _ _ (pv 0) a7 (by rfl)) (by decide) (by decide) (by rfl) (by rfl)) a7 d4)) (i7 (i:=5) z8.nd rfl (by trivial)) (@a9 _ _ _ _ _ (@e9 _ _ 6 _ _ _ _ z8.nd rfl (by trivial) (@u3 _ _ _ _ a7) (by rfl) (by first | exact .inl rfl | exact .inr rfl))
   (@a9 _ _ _ _ _ (@r6 _ _ _ _ _ _ _ _ PassesOwn.never rfl (B1 (by rfl) T.n_range (@a6 _ _ _ _ _ (@f8 _ _ _ _ _ _ _ _ _ (j9 (K:=K) rfl) (by rfl) T.n_len u2 (@a6 _ _ _ _ _ (@j4 _ _ _ _ _ _ _ (c9 (K:=K) rfl) (pv 0) b6 (λ_ _=>rfl)) a7 f6) (by decide) (by decide) (by rfl) (by rfl)) a7 d4)) (i7 (i:=7) z8.nd rfl (by trivial)) (@a9 _ _ _ _ _ (@e9 _ _ 8 _ _ _ _ z8.nd rfl (by trivial) (@f7 _ _ _ _ _ _ _ _ _ _ (V4 T) (hr.mono (by decide)) (@a6 _ _ _ _ _ (pv 0) (@a6 _ _ _ _ _ (pv 1) (@a6 _ _ _ _ _ (pv 2) (@a6 _ _ _ _ _ (pv 5) (@a6 _ _ _ _ _ (pv 7) a7 (by rfl)) (by rfl)) (by rfl)) (by rfl)) (by rfl)) (by rfl) (by decide) (by rfl) (by rfl)) (by rfl) (by first | exact .inl rfl | exact .inr rfl))
   (@b9 _ _ _ (@x9 _ _ _ _ (@N9 _ _ _ _ _ _ _ _ _ _ _ _ PySem.F.plainAttrs_list PySem.F.slot_list_append PySem.F.type_list_append z9 (pv 6) (@a6 _ _ _ _ _ (@f7 _ _ _ _ _ _ _ _ _ _ (a6U T) (hr.mono (by decide)) (@a6 _ _ _ _ _ (pv 8) (@a6 _ _ _ _ _ (pv 3) a7 (by rfl)) (by rfl)) (by rfl) (by decide) (by rfl) (by rfl)) a7 d4) (by rfl) (by rfl) (by rfl) (by rfl) (by rfl)) (by rfl)))) (by intro _;rfl))
   (@b9 _ _ _ (@x9 _ _ _ _ (@N9 _ _ _ _ _ _ _ _ _ _ _ _ PySem.F.plainAttrs_list PySem.F.slot_list_append PySem.F.type_list_append z9 (pv 4) (@a6 _ _ _ _ _ (@m9 _ _ _ _ _ _ _ _ _ (o6 (K:=K) rfl) (by rfl) T.n_tuple w6 (@a6 _ _ _ _ _ (pv 6) a7 (by rfl)) (by decide) (by decide) (by rfl) (by rfl)) a7 d4) (by rfl) (by rfl) (by rfl) (by rfl) (by rfl)) (by rfl))))) (by intro _;rfl))
   (@b9 _ _ _ (@d8 _ _ _ _ (@m9 _ _ _ _ _ _ _ _ _ (o6 (K:=K) rfl) (by rfl) T.n_tuple w6 (@a6 _ _ _ _ _ (pv 4) a7 (by rfl)) (by decide) (by decide) (by rfl) (by rfl)))))),?_⟩
  refine ⟨(by show 0<=sizeLine;decide),λc hc=>?_⟩;have s1:=b8 (o:=.lst []) hc;have oldne:∀ b o,H b=some o->b≠c:=λb o e=>c6 e hc;have keepH:∀ {H':Hp},c7 c (upd H c (.lst [])) H'->i9 H H':=λk b o e=>k b o (s1 b o e) (oldne b o e);refine ⟨_,rfl,_,_,rfl,Or.inr ⟨_,SqT.of (s1 _ _ hfa),rfl⟩,_,rfl,by omega,by omega,?_⟩;have hc1:upd H c (.lst []) c=some (.lst []):=a8;generalize upd H c (.lst [])=H1 at s1 hc1 keepH ⊢;refine y6 (n:=((xs.length:Nat):Int).toNat) (λi σ H'=>∃ (v5 v6 v7 v8:Option V) (ys:List V),σ=[some (.ref fa),some wv,some rv,some sv,some (.ref c),v5,v6,v7,v8]/\c7 c H1 H'/\H' c=some (.lst ys)/\IsDs H' ys (((fil F ru u d l r a b).take i).map E1)) ⟨none,none,none,none,[],rfl,c7.refl _ _,hc1,.nil⟩ ?_ ?_
  ·rintro i _ H2 hi ⟨v5,v6,v7,v8,ys,rfl,k2,hc2,hys⟩;have hi':i < F.length:=by
    have:i < ((xs.length:Nat):Int).toNat:=hi
    omega
   have S2:=keepH k2;have e0:(0:Int) + (i:Int)=(i:Int):=by omega
   rw [e0];refine ⟨(by show 0<=sizeLine;decide),λe he=>?_⟩;have s3:=b8 (o:=.lst []) he;have ne:e≠c:=(c6 hc2 he).symm;have he3:upd H2 e (.lst []) e=some (.lst []):=a8;have hc3:=s3 _ _ hc2;have hys3:=hys.keep s3.tups;have S3:=S2.trans s3;have K3:c7 c H1 (upd H2 e (.lst [])):=λb' o e' n=>s3 _ _ (k2 b' o e' n);have old3:∀ b' o,H2 b'=some o->b'≠e:=λb' o e'=>c6 e' he;generalize upd H2 e (.lst [])=H3 at s3 he3 hc3 hys3 S3 K3 ⊢;refine ⟨_,rfl,Or.inr (Or.inl ⟨_,_,_,_,rfl,rfl,SqT.of (S3 _ _ hfa),hb0,_,_,rfl,Or.inr ⟨_,SqT.of (S3 _ _ hb),rfl⟩,_,rfl,by omega,by omega,?_⟩)⟩;have eW:((ys0.length:Nat):Int).toNat=d9 F:=by
    have:d9 F=(F.headD []).length:=rfl
    omega
   rw [eW];refine y6 (n:=d9 F) (λj σ H'=>∃ (v7 v8:Option V),σ=[some (.ref fa),some wv,some rv,some sv,some (.ref c),some (.int i),some (.ref e),v7,v8]/\c7 e H3 H'/\H' e=some (.lst (((List.range j).map λj:Nat=>G2 F ru u d l r a b (i:Int) (j:Int)).map d6))) ⟨v7,v8,rfl,c7.refl _ _,he3⟩ ?_ ?_
   ·rintro j _ H4 hj ⟨v7,v8,rfl,k4,he4⟩;have hj':j < (F.headD []).length:=hj;have S4:i9 H H4:=λb' o e'=>k4 b' o (S3 b' o e') (old3 _ _ (S2 _ _ e'));have e0:(0:Int) + (j:Int)=(j:Int):=by omega
    rw [e0];refine ⟨_,rfl,_,rfl,_,rfl,_,rfl,_,rfl,?_⟩;refine ⟨_,wv,rv,F,ru,u,d,l,r,_,_,rfl,R,hf.keep S4.tups,hw.keep S4.tups,hru.keep S4.tups,⟨by omega,by omega⟩,⟨by omega,by omega⟩,bb,λp H5 s5 hp=>?_⟩;dsimp only [F4,List.set];have wl:=a3W F ru u d l r (i:Int) (j:Int);have wl2:(u + d + 1) * (l + r + 1)<=201 * 201:=Nat.mul_le_mul (by omega) (by omega);refine ⟨_,rfl,Or.inl ⟨rfl,_,SqL.of (s5 _ _ he4)⟩,?_⟩;refine ⟨_,rfl,_,rfl,p,sv,_,a,b,rfl,hp,by omega,(hs.keep S4.tups).keep s5.tups,hS,λH6 s6=>?_⟩;have he6:=s6 _ _ (s5 _ _ he4);refine ⟨_,_,_,rfl,rfl,he6,?_,?_⟩
    ·rw [List.length_map,List.length_map,List.length_range];exact Nat.lt_of_lt_of_le (show j < 1001 by omega) (by decide)
    ·refine ⟨_,_,rfl,λb' o e' n=>?_,?_⟩
     ·rw [d5 n];exact s6 _ _ (s5 _ _ (k4 b' o e' n))
     ·rw [a8,List.range_succ,List.map_append,List.map_append]
      rfl
   ·rintro _ H4 ⟨v7,v8,rfl,k4,he4⟩;have hc4:=k4 _ _ hc3 ne.symm;refine ⟨_,rfl,Or.inl ⟨rfl,_,SqL.of hc4⟩,_,rfl,_,_,rfl,Or.inl ⟨SqL.of he4,λt ht=>?_⟩⟩;have st:=b8 (o:=.tup (((List.range (d9 F)).map λj:Nat=>G2 F ru u d l r a b (i:Int) (j:Int)).map d6)) ht;have hct:=st _ _ hc4;have ly:ys.length=i:=by rw [hys.length,List.length_map,List.length_take,L9];omega
    refine ⟨_,_,_,rfl,rfl,hct,(by rw [ly];exact Nat.lt_of_lt_of_le (show i < 1001 by omega) (by decide)),?_⟩;refine ⟨_,_,_,_,ys ++ [.ref t],rfl,λb' o e' n=>?_,a8,?_⟩
    ·rw [d5 n];exact st _ _ (k4 b' o (K3 b' o e' n) (old3 b' o (k2 b' o e' n)))
    ·rw [List.take_add_one,a5j hi',List.map_append];have tt:t≠c:=(c6 hc4 ht).symm;have u1:upd (upd H4 t (.tup (((List.range (d9 F)).map λj:Nat=>G2 F ru u d l r a b (i:Int) (j:Int)).map d6))) c (.lst (ys ++ [.ref t])) t=some (.tup (((List.range (d9 F)).map λj:Nat=>G2 F ru u d l r a b (i:Int) (j:Int)).map d6)):=by rw [d5 tt];exact a8
     have kt:∀ b' zs,H3 b'=some (.tup zs)->upd (upd H4 t (.tup (((List.range (d9 F)).map λj:Nat=>G2 F ru u d l r a b (i:Int) (j:Int)).map d6))) c (.lst (ys ++ [.ref t])) b'=some (.tup zs):=λb' zs e'=>by
      have n1:b'≠c:=B2 e' hc3 λz=>by cases z
      have n2:b'≠e:=B2 e' he3 λz=>by cases z
      rw [d5 n1];exact st _ _ (k4 _ _ e' n2)
     exact (hys3.keep kt).append (.cons (.tup u1 (D4 _)) .nil)
  ·rintro _ H2 ⟨v5,v6,v7,v8,ys,rfl,k2,hc2,hys⟩;refine ⟨_,rfl,_,_,rfl,Or.inl ⟨SqL.of hc2,λt ht=>?_⟩⟩;have st:=b8 (o:=.tup ys) ht;refine q (.ref t) _ ((keepH k2).trans st) (.tup a8 ?_);have:(fil F ru u d l r a b).take ((xs.length:Nat):Int).toNat=fil F ru u d l r a b:=List.take_of_length_le (by rw [L9];omega);rw [this] at hys;exact hys.keep st.tups
def b4A:Sp:=λvs H Q _=>∃ (d:Addr) (k:Int),vs=[.ref d,.int k]/\J7 H d/\∀ (x:Int) (H':Hp),J7 H' d->c7 d H H'->Q (.int x) H'
theorem a8k (T:Txt K mg C Ck):Df P w K mg base 2 "_law_number" ["seed","kind"] b4A:=by
 refine T.d_law_number.ok a3E (λvs H Q E h=>?_) (λf cdv A outer s H vs Q E hr h=>?_)
 ·obtain ⟨d,sc,rfl,_⟩:=h
  rfl
 ·obtain ⟨d,sc,rfl,D,q⟩:=h;refine ⟨_,(@a9 _ _ _ _ _ (@p4 _ _ _ _ _ _ _ _ (@i8 _ _ _ _ _ _ _ _ (A6 hr.units) (pv 1) b6 (l7 _)) (@b9 _ _ _ (@d8 _ _ _ _ (@f7 _ _ _ _ _ _ _ _ _ _ (l6 T) (hr.mono (by decide)) (@a6 _ _ _ _ _ (pv 0) (@a6 _ _ _ _ _ b6 a7 (by rfl)) (by rfl)) (by rfl) (by decide) (by rfl) (by rfl)))) j5)
   (@a9 _ _ _ _ _ (@p4 _ _ _ _ _ _ _ _ (@i8 _ _ _ _ _ _ _ _ (A6 hr.units) (pv 1) b6 (l7 _)) (@b9 _ _ _ (@d8 _ _ _ _ (@g0 _ _ _ _ _ _ _ _ G6 (@f7 _ _ _ _ _ _ _ _ _ _ (l6 T) (hr.mono (by decide)) (@a6 _ _ _ _ _ (pv 0) (@a6 _ _ _ _ _ b6 a7 (by rfl)) (by rfl)) (by rfl) (by decide) (by rfl) (by rfl)) b6))) j5)
   (@b9 _ _ _ (@d8 _ _ _ _ (@g0 _ _ _ _ _ _ _ _ G6 (@g0 _ _ _ _ _ _ _ _ J0 (@g0 _ _ _ _ _ _ _ _ u9 (@g0 _ _ _ _ _ _ _ _ F7 (@f7 _ _ _ _ _ _ _ _ _ _ (l6 T) (hr.mono (by decide)) (@a6 _ _ _ _ _ (pv 0) (@a6 _ _ _ _ _ (@g0 _ _ _ _ _ _ _ _ a5L b6 b6) a7 o8) (by rfl)) (by rfl) (by decide) (by rfl) (by rfl)) b6) (@f7 _ _ _ _ _ _ _ _ _ _ (l6 T) (hr.mono (by decide)) (@a6 _ _ _ _ _ (pv 0) (@a6 _ _ _ _ _ b6 a7 (by rfl)) (by rfl)) (by rfl) (by decide) (by rfl) (by rfl))) (@g0 _ _ _ _ _ _ _ _ u9 (@g0 _ _ _ _ _ _ _ _ F7 b6 (@g0 _ _ _ _ _ _ _ _ a5L b6 b6)) b6)) (@g0 _ _ _ _ _ _ _ _ a5L b6 b6)))))),?_⟩
  refine ⟨_,rfl,Or.inl ⟨rfl,_,rfl,?_⟩⟩;refine G1 (λ_=>?_) (λ_=>?_)
  ·exact ⟨_,rfl,_,_,rfl,D,(by decide),(by decide),λx H1 x0 x1 D1 k1=>q x H1 D1 k1⟩
  refine ⟨_,rfl,Or.inl ⟨rfl,_,rfl,?_⟩⟩;refine G1 (λ_=>?_) (λ_=>?_)
  ·exact ⟨_,rfl,_,_,rfl,D,(by decide),(by decide),λx H1 x0 x1 D1 k1=>⟨_,_,rfl,rfl,q (x - 20) H1 D1 k1⟩⟩
  refine ⟨_,rfl,_,_,rfl,rfl,⟨by decide,by decide,by decide⟩,?_⟩;refine ⟨_,_,rfl,D,(by decide),(by decide),λx H1 x0 x1 D1 k1=>?_⟩;refine ⟨_,_,rfl,rfl,Or.inr ⟨by decide,by decide⟩,?_⟩;refine ⟨_,rfl,_,_,rfl,D1,(by decide),(by decide),λy H2 y0 y1 D2 k2=>?_⟩;refine ⟨_,_,rfl,rfl,?_⟩;refine ⟨_,_,rfl,rfl,⟨by decide,by decide,by decide⟩,_,_,rfl,rfl,Or.inl ⟨by decide,by decide⟩,_,_,rfl,rfl,?_⟩;refine ⟨_,_,rfl,rfl,(by show (0:Int) < 2 * 10 ^ Int.toNat 9 + 1;decide),?_⟩;refine ⟨_,_,rfl,rfl,⟨by decide,by decide,by decide⟩,_,_,rfl,rfl,?_⟩;exact q _ H2 D2 (k1.trans k2)
def b2k:Sp:=λvs H Q _=>∃ (d:Addr) (h wd holes:Int),vs=[.ref d,.int h,.int wd,.int holes]/\J7 H d/\1<=h/\h<=12/\1<=wd/\wd<=12 /\
 ∀ (v:V) (F:List (List (Option Int))) (H':Hp),IsD H' v (i6 F)->F9 F->(F.length:Int)=h->((F.headD []).length:Int)=wd->J7 H' d->c7 d H H'->Q v H'
theorem a2N (T:Txt K mg C Ck):Df P w K mg base 3 "_law_field" ["seed","height","width","holes"] b2k:=by
 refine T.d_law_field.ok A0 (λvs H Q E h=>?_) (λf cdv A outer s H vs Q E hr h=>?_)
 ·obtain ⟨d,h,wd,holes,rfl,_⟩:=h
  rfl
 ·obtain ⟨d,h,wd,holes,rfl,D,h1,h12,w1,w12,q⟩:=h;refine ⟨_,(@a9 _ _ _ _ _ (@e9 _ _ 4 _ _ _ _ A0.nd rfl (by trivial) (@f7 _ _ _ _ _ _ _ _ _ _ (l6 T) (hr.mono (by decide)) (@a6 _ _ _ _ _ (pv 0) (@a6 _ _ _ _ _ b6 a7 (by rfl)) (by rfl)) (by rfl) (by decide) (by rfl) (by rfl)) (by rfl) (by first | exact .inl rfl | exact .inr rfl))
   (@a9 _ _ _ _ _ (@e9 _ _ 5 _ _ _ _ A0.nd rfl (by trivial) (@u3 _ _ _ _ a7) (by rfl) (by first | exact .inl rfl | exact .inr rfl))
   (@a9 _ _ _ _ _ (@r6 _ _ _ _ _ _ _ _ PassesOwn.never rfl (B1 (by rfl) T.n_range (@a6 _ _ _ _ _ (pv 1) a7 (by rfl))) (i7 (i:=6) A0.nd rfl (by trivial)) (@a9 _ _ _ _ _ (@e9 _ _ 7 _ _ _ _ A0.nd rfl (by trivial) (@u3 _ _ _ _ a7) (by rfl) (by first | exact .inl rfl | exact .inr rfl))
   (@a9 _ _ _ _ _ (@r6 _ _ _ _ _ _ _ _ PassesOwn.never rfl (B1 (by rfl) T.n_range (@a6 _ _ _ _ _ (pv 2) a7 (by rfl))) (i7 (i:=8) A0.nd rfl (by trivial)) (@a9 _ _ _ _ _ (@e9 _ _ 9 _ _ _ _ A0.nd rfl (by trivial) (@f7 _ _ _ _ _ _ _ _ _ _ (a8k T) (hr.mono (by decide)) (@a6 _ _ _ _ _ (pv 0) (@a6 _ _ _ _ _ (pv 4) a7 (by rfl)) (by rfl)) (by rfl) (by decide) (by rfl) (by rfl)) (by rfl) (by first | exact .inl rfl | exact .inr rfl))
   (@a9 _ _ _ _ _ (@p4 _ _ _ _ _ _ _ _ (a3L (@i8 _ _ _ _ _ _ _ _ b9e (pv 3) b6 (l7 _)) (a0x (@i8 _ _ _ _ _ _ _ _ a0p (@f7 _ _ _ _ _ _ _ _ _ _ (l6 T) (hr.mono (by decide)) (@a6 _ _ _ _ _ (pv 0) (@a6 _ _ _ _ _ b6 a7 (by rfl)) (by rfl)) (by rfl) (by decide) (by rfl) (by rfl)) (pv 3) (l7 _)))).pt (@b9 _ _ _ (@e9 _ _ 9 _ _ _ _ A0.nd rfl (by trivial) P6 (by rfl) (by first | exact .inl rfl | exact .inr rfl))) j5)
   (@b9 _ _ _ (@x9 _ _ _ _ (@N9 _ _ _ _ _ _ _ _ _ _ _ _ PySem.F.plainAttrs_list PySem.F.slot_list_append PySem.F.type_list_append z9 (pv 7) (@a6 _ _ _ _ _ (pv 9) a7 (by rfl)) (by rfl) (by rfl) (by rfl) (by rfl) (by rfl)) (by rfl))))) (by intro _;rfl))
   (@b9 _ _ _ (@x9 _ _ _ _ (@N9 _ _ _ _ _ _ _ _ _ _ _ _ PySem.F.plainAttrs_list PySem.F.slot_list_append PySem.F.type_list_append z9 (pv 5) (@a6 _ _ _ _ _ (@m9 _ _ _ _ _ _ _ _ _ (o6 (K:=K) rfl) (by rfl) T.n_tuple w6 (@a6 _ _ _ _ _ (pv 7) a7 (by rfl)) (by decide) (by decide) (by rfl) (by rfl)) a7 d4) (by rfl) (by rfl) (by rfl) (by rfl) (by rfl)) (by rfl))))) (by intro _;rfl))
   (@b9 _ _ _ (@d8 _ _ _ _ (@m9 _ _ _ _ _ _ _ _ _ (o6 (K:=K) rfl) (by rfl) T.n_tuple w6 (@a6 _ _ _ _ _ (pv 5) a7 (by rfl)) (by decide) (by decide) (by rfl) (by rfl))))))),?_⟩
  refine ⟨_,rfl,_,_,rfl,D,(by decide),(by decide),λx5 H6 a5 b5 D6 K6=>?_⟩;refine ⟨(by show 0<=sizeLine;decide),λc hc=>?_⟩;have hcd:c≠d:=D6.ne hc;have K7:c7 d H (upd H6 c (.lst [])):=K6.upd hc;have hc7:upd H6 c (.lst []) c=some (.lst []):=a8;have D7:=D6.upd (o:=.lst []) hc;have hcH:H c=none:=by
   cases e:H c with
   | none=>rfl
   | some o=>rw [K6 c o e hcd] at hc;cases hc
  generalize upd H6 c (.lst [])=H7 at K7 hc7 D7 ⊢;refine ⟨_,rfl,_,rfl,by omega,by omega,?_⟩;refine y6 (n:=h.toNat) (λi σ H'=>∃ (v6 v7 v8 v9:Option V) (ys:List V) (G:List (List (Option Int))),σ=[some (.ref d),some (.int h),some (.int wd),some (.int holes),some (.int x5),some (.ref c),v6,v7,v8,v9]/\c7 d H H'/\J7 H' d/\H' c=some (.lst ys)/\IsDs H' ys (G.map E1)/\G.length=i /\
   (∀ r∈G,r.length=wd.toNat)) ⟨none,none,none,none,[],[],rfl,K7,D7,hc7,.nil,rfl,λr hr=>absurd hr (by simp)⟩ ?_ ?_
  ·rintro i _ H8 hi ⟨v6,v7,v8,v9,ys,G,rfl,K8,D8,hc8,hys,lG,hG⟩;have ly:ys.length=i:=by rw [hys.length,List.length_map,lG]
   have hi':i < 12:=by
    have:i < h.toNat:=hi
    omega
   refine ⟨(by show 0<=sizeLine;decide),λe he=>?_⟩;have s9:=b8 (o:=.lst []) he;have hed:e≠d:=D8.ne he;have hec:e≠c:=(c6 hc8 he).symm;have heH:H e=none:=by
    cases e':H e with
    | none=>rfl
    | some o=>rw [K8 e o e' hed] at he;cases he
   have K9:=K8.upd (o:=.lst []) he;have he9:upd H8 e (.lst []) e=some (.lst []):=a8;have D9:=D8.keep s9;have hc9:=s9 _ _ hc8;have hys9:=hys.keep s9.tups;generalize upd H8 e (.lst [])=H9 at K9 he9 D9 hc9 hys9 ⊢;refine ⟨_,rfl,_,rfl,by omega,by omega,?_⟩;refine y6 (n:=wd.toNat) (λj σ H'=>∃ (v8 v9:Option V) (r:List (Option Int)),σ=[some (.ref d),some (.int h),some (.int wd),some (.int holes),some (.int x5),some (.ref c),some (.int (0 + (i:Int))),some (.ref e),v8,v9]/\c7 d H H'/\J7 H' d/\H' c=some (.lst ys)/\IsDs H' ys (G.map E1)/\H' e=some (.lst (r.map d6))/\r.length=j) ⟨v8,v9,[],rfl,K9,D9,hc9,hys9,he9,rfl⟩ ?_ ?_
   ·rintro j _ H10 hj ⟨v8,v9,r,rfl,K10,D10,hc10,hys10,he10,lr⟩;have hj':j < 12:=by
     have:j < wd.toNat:=hj
     omega
    refine ⟨_,rfl,_,rfl,_,_,rfl,D10,λy H11 D11 k11=>?_⟩;dsimp only [F4,List.set];refine O7 (fun σ' H'=>∃ cl:Option Int,σ'=[some (.ref d),some (.int h),some (.int wd),some (.int holes),some (.int x5),some (.ref c),some (.int (0 + (i:Int))),some (.ref e),some (.int (0 + (j:Int))),some (d6 cl)]/\J7 H' d/\c7 d H10 H') ?_ (λrest=>?_)
    ·rintro _ H12 ⟨cl,rfl,D12,k12⟩;have he12:=k12 _ _ he10 hed;have hc12:=k12 _ _ hc10 hcd;have K12:=K10.trans k12;have t12:=k12.tups D10.lst.choose_spec;refine ⟨_,rfl,Or.inl ⟨rfl,_,SqL.of he12⟩,?_⟩;refine ⟨_,rfl,_,_,_,rfl,rfl,he12,(by rw [List.length_map,lr];exact Nat.lt_of_lt_of_le (show j < 1001 by omega) (by decide)),?_⟩;refine ⟨_,_,r ++ [cl],rfl,λb' o e' n=>?_,?_,?_,?_,?_,by rw [List.length_append,lr];rfl⟩
     ·have n1:b'≠e:=c6 e' heH;rw [d5 n1];exact K12 b' o e' n
     ·obtain ⟨a,b,n,c',e'⟩:=D12;exact ⟨a,b,n,c',by rw [d5 hed.symm];exact e'⟩
     ·rw [d5 hec.symm];exact hc12
     ·refine hys10.keep λb' zs e'=>?_;rw [d5 (B2 e' he10 λz=>by cases z)];exact t12 _ _ e'
     ·rw [a8,List.map_append];rfl
    ·refine ⟨_,rfl,_,_,rfl,rfl,_,rfl,?_⟩;refine G1 (λz=>?_) (λz=>?_)
     ·refine ⟨_,rfl,_,_,rfl,D11,(by decide),(by decide),λz2 H12 z0 z1 D12 k12=>?_⟩;refine ⟨_,rfl,_,_,rfl,rfl,_,rfl,?_⟩;refine G1 (λz3=>?_) (λz3=>?_)
      ·exact rest _ _ ⟨none,rfl,D12,k11.trans k12⟩
      ·exact rest _ _ ⟨some y,rfl,D12,k11.trans k12⟩
     ·exact y8 (rest _ _ ⟨some y,rfl,D11,k11⟩)
   ·rintro _ H10 ⟨v8,v9,r,rfl,K10,D10,hc10,hys10,he10,lr⟩;refine ⟨_,rfl,Or.inl ⟨rfl,_,SqL.of hc10⟩,_,rfl,_,_,rfl,Or.inl ⟨SqL.of he10,λt ht=>?_⟩⟩;have st:=b8 (o:=.tup (r.map d6)) ht;have hct:=st _ _ hc10;have htd:t≠d:=D10.ne ht;have htc:t≠c:=(c6 hc10 ht).symm;have D11:=D10.keep st;refine ⟨_,_,_,rfl,rfl,hct,(by rw [ly];exact Nat.lt_of_lt_of_le (show i < 1001 by omega) (by decide)),?_⟩;refine ⟨_,_,_,_,ys ++ [.ref t],G ++ [r],rfl,λb' o e' n=>?_,?_,a8,?_,by rw [List.length_append,lG];rfl,?_⟩
    ·have n1:b'≠c:=c6 e' hcH;rw [d5 n1];exact st _ _ (K10 b' o e' n)
    ·obtain ⟨a,b,n,c',e'⟩:=D11;exact ⟨a,b,n,c',by rw [d5 hcd.symm];exact e'⟩
    ·have kt:∀ b' zs,H10 b'=some (.tup zs)->upd (upd H10 t (.tup (r.map d6))) c (.lst (ys ++ [.ref t])) b'=some (.tup zs):=λb' zs e'=>by
      have n1:b'≠c:=B2 e' hc10 λz=>by cases z
      rw [d5 n1];exact st _ _ e'
     rw [List.map_append];exact (hys10.keep kt).append (.cons (.tup (by rw [d5 htc];exact a8) (D4 _)) .nil)
    ·intro r' hr2
     rcases List.mem_append.mp hr2 with z | z
     ·exact hG r' z
     ·have:r'=r:=by simpa using z
      subst this;exact lr
  ·rintro _ H8 ⟨v6,v7,v8,v9,ys,G,rfl,K8,D8,hc8,hys,lG,hG⟩;refine ⟨_,rfl,_,_,rfl,Or.inl ⟨SqL.of hc8,λt ht=>?_⟩⟩;have st:=b8 (o:=.tup ys) ht;have lG':G.length=h.toNat:=lG;have W:(G.headD []).length=wd.toNat:=hG _ (List.mem_of_getElem? (b3v _ (by omega)));exact q (.ref t) G _ (.tup a8 (hys.keep st.tups)) ⟨by omega,by omega,by omega,by omega,λx hx=>by rw [W];exact hG x hx⟩ (by omega) (by omega) (D8.keep st) (K8.trans (st.but d))
def b3A:Sp:=λvs H Q _=>∃ (d:Addr),vs=[.ref d]/\J7 H d /\
 ∀ (p:Addr) (x y:Int) (H':Hp),H' p=some (.lst [.int x,.int y])->1<=x->x<=12->1<=y->y<=12->J7 H' d->c7 d H H'->Q (.ref p) H'
theorem a9M (T:Txt K mg C Ck):Df P w K mg base 2 "_law_sizes" ["seed"] b3A:=by
 refine T.d_law_sizes.ok a3o (λvs H Q E h=>?_) (λf cdv A outer s H vs Q E hr h=>?_)
 ·obtain ⟨d,rfl,_⟩:=h
  rfl
 ·obtain ⟨d,rfl,D,q⟩:=h;refine ⟨_,(@a9 _ _ _ _ _ (@e9 _ _ 1 _ _ _ _ a3o.nd rfl (by trivial) (@f7 _ _ _ _ _ _ _ _ _ _ (l6 T) (hr.mono (by decide)) (@a6 _ _ _ _ _ (pv 0) (@a6 _ _ _ _ _ b6 a7 (by rfl)) (by rfl)) (by rfl) (by decide) (by rfl) (by rfl)) (by rfl) (by first | exact .inl rfl | exact .inr rfl))
   (@a9 _ _ _ _ _ (@p4 _ _ _ _ _ _ _ _ (@i8 _ _ _ _ _ _ _ _ (A6 hr.units) (pv 1) b6 (l7 _)) (@b9 _ _ _ (@d8 _ _ _ _ (@u3 _ _ _ _ (@a6 _ _ _ _ _ b6 (@a6 _ _ _ _ _ (@g0 _ _ _ _ _ _ _ _ u9 b6 (@f7 _ _ _ _ _ _ _ _ _ _ (l6 T) (hr.mono (by decide)) (@a6 _ _ _ _ _ (pv 0) (@a6 _ _ _ _ _ b6 a7 (by rfl)) (by rfl)) (by rfl) (by decide) (by rfl) (by rfl))) a7 o8) (by rfl))))) j5)
   (@a9 _ _ _ _ _ (@p4 _ _ _ _ _ _ _ _ (@i8 _ _ _ _ _ _ _ _ (A6 hr.units) (pv 1) b6 (l7 _)) (@b9 _ _ _ (@d8 _ _ _ _ (@u3 _ _ _ _ (@a6 _ _ _ _ _ (@g0 _ _ _ _ _ _ _ _ u9 b6 (@f7 _ _ _ _ _ _ _ _ _ _ (l6 T) (hr.mono (by decide)) (@a6 _ _ _ _ _ (pv 0) (@a6 _ _ _ _ _ b6 a7 (by rfl)) (by rfl)) (by rfl) (by decide) (by rfl) (by rfl))) (@a6 _ _ _ _ _ (@g0 _ _ _ _ _ _ _ _ u9 b6 (@f7 _ _ _ _ _ _ _ _ _ _ (l6 T) (hr.mono (by decide)) (@a6 _ _ _ _ _ (pv 0) (@a6 _ _ _ _ _ b6 a7 (by rfl)) (by rfl)) (by rfl) (by decide) (by rfl) (by rfl))) a7 o8) o8)))) j5)
   (@b9 _ _ _ (@d8 _ _ _ _ (@u3 _ _ _ _ (@a6 _ _ _ _ _ (@g0 _ _ _ _ _ _ _ _ u9 b6 (@f7 _ _ _ _ _ _ _ _ _ _ (l6 T) (hr.mono (by decide)) (@a6 _ _ _ _ _ (pv 0) (@a6 _ _ _ _ _ b6 a7 (by rfl)) (by rfl)) (by rfl) (by decide) (by rfl) (by rfl))) (@a6 _ _ _ _ _ (@g0 _ _ _ _ _ _ _ _ u9 b6 (@f7 _ _ _ _ _ _ _ _ _ _ (l6 T) (hr.mono (by decide)) (@a6 _ _ _ _ _ (pv 0) (@a6 _ _ _ _ _ b6 a7 (by rfl)) (by rfl)) (by rfl) (by decide) (by rfl) (by rfl))) a7 o8) o8))))))),?_⟩
  refine ⟨_,rfl,_,_,rfl,D,(by decide),(by decide),λx H1 x0 x1 D1 k1=>?_⟩;refine ⟨_,rfl,Or.inl ⟨rfl,_,rfl,?_⟩⟩;refine G1 (λ_=>?_) (λ_=>?_)
  ·refine ⟨_,rfl,_,_,rfl,D1,(by decide),(by decide),λy H2 y0 y1 D2 k2=>?_⟩;refine ⟨_,_,rfl,rfl,(by show 2<=sizeLine;decide),λp hp=>?_⟩;have sp:=b8 (o:=.lst [.int 1,.int (1 + y)]) hp;exact q p 1 (1 + y) _ a8 (by omega) (by omega) (by omega) (by omega) (D2.keep sp) ((k1.trans k2).trans (sp.but d))
  refine ⟨_,rfl,Or.inl ⟨rfl,_,rfl,?_⟩⟩;refine G1 (λ_=>?_) (λ_=>?_)
  ·refine ⟨_,rfl,_,_,rfl,D1,(by decide),(by decide),λy H2 y0 y1 D2 k2=>?_⟩;refine ⟨_,_,rfl,rfl,_,rfl,_,_,rfl,D2,(by decide),(by decide),λz H3 z0 z1 D3 k3=>?_⟩;refine ⟨_,_,rfl,rfl,(by show 2<=sizeLine;decide),λp hp=>?_⟩;have sp:=b8 (o:=.lst [.int (1 + y),.int (1 + z)]) hp;exact q p (1 + y) (1 + z) _ a8 (by omega) (by omega) (by omega) (by omega) (D3.keep sp) (((k1.trans k2).trans k3).trans (sp.but d))
  ·refine ⟨_,rfl,_,_,rfl,D1,(by decide),(by decide),λy H2 y0 y1 D2 k2=>?_⟩;refine ⟨_,_,rfl,rfl,_,rfl,_,_,rfl,D2,(by decide),(by decide),λz H3 z0 z1 D3 k3=>?_⟩;refine ⟨_,_,rfl,rfl,(by show 2<=sizeLine;decide),λp hp=>?_⟩;have sp:=b8 (o:=.lst [.int (1 + y),.int (1 + z)]) hp;exact q p (1 + y) (1 + z) _ a8 (by omega) (by omega) (by omega) (by omega) (D3.keep sp) (((k1.trans k2).trans k3).trans (sp.but d))
def b8q:Sp:=λvs H Q _=>∃ (d:Addr),vs=[.ref d]/\J7 H d/\∀ (v:V) (r:l9) (H':Hp),IsD H' v (D0 r)->J7 H' d->c7 d H H'->Q v H'
theorem a8U (T:Txt K mg C Ck):Df P w K mg base 3 "_law_rule" ["seed"] b8q:=by
 refine T.d_law_rule.ok a3u (λvs H Q E h=>?_) (λf cdv A outer s H vs Q E hr h=>?_)
 ·obtain ⟨d,rfl,_⟩:=h
  rfl
 ·obtain ⟨d,rfl,D,q⟩:=h;refine ⟨_,(@a9 _ _ _ _ _ (@e9 _ _ 1 _ _ _ _ a3u.nd rfl (by trivial) (@f7 _ _ _ _ _ _ _ _ _ _ (l6 T) (hr.mono (by decide)) (@a6 _ _ _ _ _ (pv 0) (@a6 _ _ _ _ _ b6 a7 (by rfl)) (by rfl)) (by rfl) (by decide) (by rfl) (by rfl)) (by rfl) (by first | exact .inl rfl | exact .inr rfl))
   (@a9 _ _ _ _ _ (@p4 _ _ _ _ _ _ _ _ (@i8 _ _ _ _ _ _ _ _ (A6 hr.units) (pv 1) b6 (l7 _)) (@b9 _ _ _ (@d8 _ _ _ _ (@u7 _ _ _ _ _ (@a6 _ _ _ _ _ B6 (@a6 _ _ _ _ _ (@f7 _ _ _ _ _ _ _ _ _ _ (a8k T) (hr.mono (by decide)) (@a6 _ _ _ _ _ (pv 0) (@a6 _ _ _ _ _ (@f7 _ _ _ _ _ _ _ _ _ _ (l6 T) (hr.mono (by decide)) (@a6 _ _ _ _ _ (pv 0) (@a6 _ _ _ _ _ b6 a7 (by rfl)) (by rfl)) (by rfl) (by decide) (by rfl) (by rfl)) a7 d4) (by rfl)) (by rfl) (by decide) (by rfl) (by rfl)) a7 d4) (by rfl))))) j5)
   (@a9 _ _ _ _ _ (@p4 _ _ _ _ _ _ _ _ (@i8 _ _ _ _ _ _ _ _ (A6 hr.units) (pv 1) b6 (l7 _)) (@b9 _ _ _ (@d8 _ _ _ _ (@u7 _ _ _ _ _ (@a6 _ _ _ _ _ B6 (@a6 _ _ _ _ _ P6 a7 (by rfl)) (by rfl))))) j5)
   (@b9 _ _ _ (@d8 _ _ _ _ (@j4 _ _ _ _ _ _ _ (c9 (K:=K) rfl) (@u3 _ _ _ _ (@a6 _ _ _ _ _ B6 (@a6 _ _ _ _ _ B6 (@a6 _ _ _ _ _ B6 (@a6 _ _ _ _ _ B6 a7 (by rfl)) (by rfl)) (by rfl)) (by rfl))) (pv 1) (λ_ _=>rfl))))))),?_⟩
  refine ⟨_,rfl,_,_,rfl,D,(by decide),(by decide),λx H1 x0 x1 D1 k1=>?_⟩;refine ⟨_,rfl,Or.inl ⟨rfl,_,rfl,?_⟩⟩
  by_cases z4:x=4
  ·rw [decide_eq_true (by rw [z4])];refine U8 ?_;refine ⟨_,rfl,_,rfl,_,_,rfl,D1,(by decide),(by decide),λy H2 y0 y1 D2 k2=>?_⟩;refine ⟨_,_,rfl,D2,λn H3 D3 k3=>?_⟩;refine ⟨(by show 2<=sizeLine;decide),λt ht=>?_⟩;have st:=b8 (o:=.tup [.str "told",.int n]) ht;exact q (.ref t) (.told (some n)) _ (.tup a8 (.cons (.str _) (.cons (b7a (some n)) .nil))) (D3.keep st) (((k1.trans k2).trans k3).trans (st.but d))
  rw [decide_eq_false (λz=>z4 (V.int.inj z))];refine y8 ?_;refine ⟨_,rfl,Or.inl ⟨rfl,_,rfl,?_⟩⟩
  by_cases z5:x=5
  ·rw [decide_eq_true (by rw [z5])];refine U8 ?_;refine ⟨(by show 2<=sizeLine;decide),λt ht=>?_⟩;have st:=b8 (o:=.tup [.str "told",.non]) ht;exact q (.ref t) (.told none) _ (.tup a8 (.cons (.str _) (.cons (b7a none) .nil))) (D1.keep st) (k1.trans (st.but d))
  rw [decide_eq_false (λz=>z5 (V.int.inj z))];refine y8 ?_;refine ⟨(by show 4<=sizeLine;decide),λp hp=>?_⟩;have sp:=b8 (o:=.lst [.str "there",.str "near",.str "turned",.str "round"]) hp;obtain ⟨v,e3,e4⟩:=a7x (xs:=[V.str "there",V.str "near",V.str "turned",V.str "round"]) x0 (by show x < 4;omega);refine ⟨_,rfl,Or.inl ⟨_,_,_,_,rfl,rfl,SqL.of a8,e3,?_⟩⟩;simp only [List.mem_cons,List.not_mem_nil,or_false] at e4
  rcases e4 with e | e | e | e
  ·subst e;exact q _ .there _ (.str _) (D1.keep sp) (k1.trans (sp.but d))
  ·subst e;exact q _ .near _ (.str _) (D1.keep sp) (k1.trans (sp.but d))
  ·subst e;exact q _ .turned _ (.str _) (D1.keep sp) (k1.trans (sp.but d))
  ·subst e;exact q _ .round _ (.str _) (D1.keep sp) (k1.trans (sp.but d))
def b5j:Sp:=λvs H Q _=>∃ (d:Addr),vs=[.ref d]/\J7 H d/\∀ (v:V) (a b:Int) (H':Hp),IsD H' v (C7 (a,b))->M9 a b->J7 H' d->c7 d H H'->Q v H'
theorem a0N (T:Txt K mg C Ck):Df P w K mg base 2 "_law_share" ["seed"] b5j:=by
 refine T.d_law_share.ok V8 (λvs H Q E h=>?_) (λf cdv A outer s H vs Q E hr h=>?_)
 ·obtain ⟨d,rfl,_⟩:=h
  rfl
 ·obtain ⟨d,rfl,D,q⟩:=h;refine ⟨_,(@a9 _ _ _ _ _ (@e9 _ _ 1 _ _ _ _ V8.nd rfl (by trivial) (@f7 _ _ _ _ _ _ _ _ _ _ (l6 T) (hr.mono (by decide)) (@a6 _ _ _ _ _ (pv 0) (@a6 _ _ _ _ _ b6 a7 (by rfl)) (by rfl)) (by rfl) (by decide) (by rfl) (by rfl)) (by rfl) (by first | exact .inl rfl | exact .inr rfl))
   (@a9 _ _ _ _ _ (@p4 _ _ _ _ _ _ _ _ (@i8 _ _ _ _ _ _ _ _ a0p (pv 1) b6 (l7 _)) (@b9 _ _ _ (@d8 _ _ _ _ (@j4 _ _ _ _ _ _ _ (c9 (K:=K) rfl) (@u3 _ _ _ _ (@a6 _ _ _ _ _ (@u7 _ _ _ _ _ (@a6 _ _ _ _ _ b6 (@a6 _ _ _ _ _ b6 a7 (by rfl)) (by rfl))) (@a6 _ _ _ _ _ (@u7 _ _ _ _ _ (@a6 _ _ _ _ _ b6 (@a6 _ _ _ _ _ b6 a7 (by rfl)) (by rfl))) (@a6 _ _ _ _ _ (@u7 _ _ _ _ _ (@a6 _ _ _ _ _ b6 (@a6 _ _ _ _ _ b6 a7 (by rfl)) (by rfl))) a7 a9n) a9n) a9n)) (pv 1) (λ_ _=>rfl)))) j5)
   (@a9 _ _ _ _ _ (@e9 _ _ 2 _ _ _ _ V8.nd rfl (by trivial) (@g0 _ _ _ _ _ _ _ _ u9 b6 (@f7 _ _ _ _ _ _ _ _ _ _ (l6 T) (hr.mono (by decide)) (@a6 _ _ _ _ _ (pv 0) (@a6 _ _ _ _ _ (@j4 _ _ _ _ _ _ _ (c9 (K:=K) rfl) (@u3 _ _ _ _ (@a6 _ _ _ _ _ b6 (@a6 _ _ _ _ _ b6 a7 (by rfl)) (by rfl))) (@g0 _ _ _ _ _ _ _ _ J0 (pv 1) b6) (λ_ _=>rfl)) a7 f6) (by rfl)) (by rfl) (by decide) (by rfl) (by rfl))) (by rfl) (by first | exact .inl rfl | exact .inr rfl))
   (@b9 _ _ _ (@d8 _ _ _ _ (@u7 _ _ _ _ _ (@a6 _ _ _ _ _ (@f7 _ _ _ _ _ _ _ _ _ _ (l6 T) (hr.mono (by decide)) (@a6 _ _ _ _ _ (pv 0) (@a6 _ _ _ _ _ (@g0 _ _ _ _ _ _ _ _ u9 (pv 2) b6) a7 o8) (by rfl)) (by rfl) (by decide) (by rfl) (by rfl)) (@a6 _ _ _ _ _ (pv 2) a7 (by rfl)) d4))))))),?_⟩
  refine ⟨_,rfl,_,_,rfl,D,(by decide),(by decide),λx H1 x0 x1 D1 k1=>?_⟩;refine ⟨_,rfl,_,_,rfl,rfl,_,rfl,?_⟩
  by_cases z3:x < 3
  ·rw [decide_eq_true z3];refine U8 ?_;refine ⟨(by show 2<=sizeLine;decide),λt1 ht1=>?_⟩;refine ⟨(by show 2<=sizeLine;decide),λt2 ht2=>?_⟩;refine ⟨(by show 2<=sizeLine;decide),λt3 ht3=>?_⟩;refine ⟨(by show 3<=sizeLine;decide),λl1 hl1=>?_⟩;have sa:=b8 (o:=.tup [.int 0,.int 1]) ht1;have sb:=b8 (o:=.tup [.int 1,.int 2]) ht2;have sc:=b8 (o:=.tup [.int 1,.int 1]) ht3;have sl:=b8 (o:=.lst [.ref t1,.ref t2,.ref t3]) hl1;have S4:=((sa.trans sb).trans sc).trans sl;have g1:=sl _ _ (sc _ _ (sb _ _ (show upd H1 t1 (.tup [.int 0,.int 1]) t1=_ from a8)));have g2:=sl _ _ (sc _ _ (show upd (upd H1 t1 (.tup [.int 0,.int 1])) t2 (.tup [.int 1,.int 2]) t2=_ from a8));have g3:=sl _ _ (show upd (upd (upd H1 t1 (.tup [.int 0,.int 1])) t2 (.tup [.int 1,.int 2])) t3 (.tup [.int 1,.int 1]) t3=_ from a8);obtain ⟨sv,e3,e4⟩:=a7x (xs:=[V.ref t1,V.ref t2,V.ref t3]) (i:=x) (by omega) (by show _ < ((3:Nat):Int);omega);refine ⟨_,rfl,Or.inl ⟨_,_,_,_,rfl,rfl,SqL.of a8,e3,?_⟩⟩;simp only [List.mem_cons,List.not_mem_nil,or_false] at e4
   rcases e4 with e | e | e
   ·subst e;exact q _ 0 1 _ (a3p g1) ⟨by decide,by decide,by decide,by decide⟩ (D1.keep S4) (k1.trans (S4.but d))
   ·subst e;exact q _ 1 2 _ (a3p g2) ⟨by decide,by decide,by decide,by decide⟩ (D1.keep S4) (k1.trans (S4.but d))
   ·subst e;exact q _ 1 1 _ (a3p g3) ⟨by decide,by decide,by decide,by decide⟩ (D1.keep S4) (k1.trans (S4.but d))
  ·rw [decide_eq_false z3];refine y8 ?_;refine ⟨_,rfl,(by show 2<=sizeLine;decide),λp hp=>?_⟩;have sp:=b8 (o:=.lst [.int 9,.int 1000]) hp;refine ⟨_,rfl,_,_,rfl,rfl,(by show (0:Int) < 2;decide),?_⟩;obtain ⟨m,em,hm⟩:=b1T (x:=x % 2) (ms:=[9,1000]) (by omega) (by show _ < ((2:Nat):Int);omega);refine Or.inl ⟨_,_,_,_,rfl,rfl,SqL.of a8,em,?_⟩;have hm':1<=m/\m<=1000:=by
    simp only [List.mem_cons,List.not_mem_nil,or_false] at hm
    rcases hm with e | e <;> omega
   refine ⟨_,_,rfl,D1.keep sp,(by omega),(by omega),λy H2 y0 y1 D2 k2=>?_⟩;refine ⟨_,_,rfl,rfl,?_⟩;refine ⟨_,rfl,_,rfl,_,_,rfl,rfl,?_⟩;refine ⟨_,_,rfl,D2,(by omega),(by omega),λa H3 a0 a1 D3 k3=>?_⟩;refine ⟨_,rfl,(by show 2<=sizeLine;decide),λt ht=>?_⟩;have st:=b8 (o:=.tup [.int a,.int (1 + y)]) ht;exact q (.ref t) a (1 + y) _ (a3p a8) ⟨a0,by omega,by omega,by omega⟩ (D3.keep st) ((((k1.trans (sp.but d)).trans k2).trans k3).trans (st.but d))
def b6j:Sp:=λvs H Q _=>∃ (d:Addr),vs=[.ref d]/\J7 H d /\
 ∀ (t:Addr) (u dn l r:Nat) (H':Hp),u<=6->dn<=6->l<=6->r<=6->H' t=some (.tup [.int u,.int dn,.int l,.int r])->J7 H' d->c7 d H H'->Q (.ref t) H'
theorem b2E {z:Int}(z0:0<=z)(z1:z < 3):∃ m:Int,atI [V.int 3,V.int 3,V.int 7] z=some (.int m)/\0 < m/\m<=7:=by
 obtain ⟨v,e3,e4⟩:=a7x (xs:=[V.int 3,V.int 3,V.int 7]) z0 (by exact z1);simp only [List.mem_cons,List.not_mem_nil,or_false] at e4
 rcases e4 with e | e | e
 ·exact ⟨3,by rw [e3,e],by decide,by decide⟩
 ·exact ⟨3,by rw [e3,e],by decide,by decide⟩
 ·exact ⟨7,by rw [e3,e],by decide,by decide⟩
theorem b9v {ys:List V}{ks:List Nat}(h:ys=ks.map λk:Nat=>V.int (k:Int))(l:ks.length=4)(b:∀ k∈ks,k<=6):∃ a b c d:Nat,ys=[.int a,.int b,.int c,.int d]/\a<=6/\b<=6/\c<=6/\d<=6:=by
 match ks,l with
 | [a,b',c,d],_=>exact ⟨a,b',c,d,h,b a (by simp),b b' (by simp),b c (by simp),b d (by simp)⟩
theorem a2F (T:Txt K mg C Ck):Df P w K mg base 2 "_law_window" ["seed"] b6j:=by
 refine T.d_law_window.ok a3k (λvs H Q E h=>?_) (λf cdv A outer s H vs Q E hr h=>?_)
 ·obtain ⟨d,rfl,_⟩:=h
  rfl
 ·obtain ⟨d,rfl,D,q⟩:=h;refine ⟨_,(@a9 _ _ _ _ _ (@e9 _ _ 1 _ _ _ _ a3k.nd rfl (by trivial) (@j4 _ _ _ _ _ _ _ (c9 (K:=K) rfl) (@u3 _ _ _ _ (@a6 _ _ _ _ _ b6 (@a6 _ _ _ _ _ b6 (@a6 _ _ _ _ _ b6 a7 (by rfl)) (by rfl)) (by rfl))) (@f7 _ _ _ _ _ _ _ _ _ _ (l6 T) (hr.mono (by decide)) (@a6 _ _ _ _ _ (pv 0) (@a6 _ _ _ _ _ b6 a7 (by rfl)) (by rfl)) (by rfl) (by decide) (by rfl) (by rfl)) (λ_ _=>rfl)) (by rfl) (by first | exact .inl rfl | exact .inr rfl))
   (@b9 _ _ _ (@d8 _ _ _ _ (@m9 _ _ _ _ _ _ _ _ _ (o6 (K:=K) rfl) (by rfl) T.n_tuple w6 (@a6 _ _ _ _ _ (C6 (M:=["seed","most"]) (idx:=[0,1]) rfl (B1 (by rfl) T.n_range (@a6 _ _ _ _ _ b6 a7 (by rfl))) (Q3 (by kernel_rfl)) (by decide +kernel) (by trivial) (λ_ _ _ _ _=>a8o) (λ_ _ _ _ _=>(@f7 _ _ _ _ _ _ _ _ _ _ (l6 T) (hr.mono (by decide)) (@a6 _ _ _ _ _ (pv 1) (@a6 _ _ _ _ _ (pv 2) a7 (by rfl)) (by rfl)) (by rfl) (by decide) (by rfl) (by rfl)))) a7 G7) (by decide) (by decide) (by rfl) (by rfl))))),?_⟩
  refine ⟨(by show 3<=sizeLine;decide),λp hp=>?_⟩;have hpd:=D.ne hp;refine ⟨_,rfl,_,_,rfl,D.upd hp,(by decide),(by decide),λx H1 x0 x1 D1 k1=>?_⟩;obtain ⟨m,em,m0,m7⟩:=b2E x0 x1;refine Or.inl ⟨_,_,_,_,rfl,rfl,SqL.of (k1 p _ a8 hpd),em,?_⟩;have K1:c7 d H H1:=((c7.refl d H).upd hp).trans k1;refine ⟨4,rfl,(by decide),(by decide),?_⟩;refine a0V (λi ys H'=>∃ ks:List Nat,ks.length=i/\ys=ks.map (λk:Nat=>V.int (k:Int))/\(∀ k∈ks,k<=6)/\J7 H' d/\c7 d H H')
   ⟨[],rfl,rfl,λk hk=>absurd hk (by simp),D1,K1⟩ (by decide) ?_ ?_
  ·rintro i ys H2 hi ⟨ks,lk,ek,bk,D2,K2⟩;refine b3t ?_;refine ⟨_,rfl,_,rfl,_,_,rfl,D2,m0,by omega,λy H3 y0 y1 D3 k3=>?_⟩;refine ⟨ks ++ [y.toNat],by rw [List.length_append,lk];rfl,?_,λk hk=>?_,D3,K2.trans k3⟩
   ·rw [ek,List.map_append]
    show _ ++ [V.int y]=_ ++ [V.int ((y.toNat:Nat):Int)]
    rw [Int.toNat_of_nonneg y0]
   ·rcases List.mem_append.mp hk with z | z
    ·exact bk k z
    ·have:k=y.toNat:=by simpa using z
     omega
  ·rintro ys H2 ⟨ks,lk,ek,bk,D2,K2⟩ ls hls;refine ⟨_,_,rfl,Or.inl ⟨SqL.of a8,λt ht=>?_⟩⟩;obtain ⟨a,b,c,e,ey,ha,hb,hc,he⟩:=b9v ek lk bk;have kk:=(b8 (o:=.lst ys) hls).trans (b8 (o:=.tup ys) ht);exact q t a b c e _ ha hb hc he (by rw [a8,ey]) (D2.keep kk) (K2.trans (kk.but d))
def A7 (ks:List Int)(cnt:Int->Int):List (Key × V):=ks.map λk=>(Sum.inl k,V.int (cnt k))
def a3J (C:Addr) (H:Hp) (x d:Addr) (ks:List Int) (cnt:Int->Int):Prop:=(∃ dy,H x=some (.ins C dy [("often",.ref d)]))/\H d=some (.dK (A7 ks cnt))
def b9H (C:Addr):Sp:=λvs H Q _=>∃ (x d:Addr) (ks:List Int) (cnt:Int->Int) (n:Int),vs=[.ref x,.int n]/\a3J C H x d ks cnt/\n∈ks/\ks.length <= 1000/\Q .non (upd H d (.dK (A7 ks λk=>if k=n then cnt k + 1 else cnt k)))
theorem a4j (ks:List Int)(cnt:Int->Int)(n:Int):Y7 (A7 ks cnt) (Sum.inl n)=if n∈ks then some (.int (cnt n)) else none:=a6J (λk=>V.int (cnt k)) n ks
theorem a3H (ks:List Int)(cnt:Int->Int){n:Int}(h:n∈ks)(y:Int):P4 (A7 ks cnt) (Sum.inl n) (.int y)=A7 ks λk=>if k=n then y else cnt k:=by
 unfold P4;rw [if_pos (by rw [Y6,a4j,if_pos h];rfl)];unfold A7;rw [List.map_map];refine List.map_congr_left λk _=>?_
 by_cases z:k=n
 ·subst z;simp
 ·have:¬ ((Sum.inl k:Key)=Sum.inl n):=λe=>z (Sum.inl.inj e)
  simp [this,z]
theorem a3w (T:Txt K mg C Ck):DfM P w K mg base 1 C "put_in" ["self","number"] (b9H C):=by
 refine T.m_Tally_put_in.ok a0w (λvs H Q E h=>?_) (λf cdv A outer s H vs Q E hr h=>?_)
 ·obtain ⟨x,d,ks,cnt,n,rfl,_⟩:=h
  rfl
 ·obtain ⟨x,d,ks,cnt,n,rfl,⟨⟨dy,hx⟩,hd⟩,hn,hl,q⟩:=h;refine ⟨_,(@a9 _ _ _ _ _ (@p4 _ _ _ _ _ _ _ _ (b9K (b5l (a6p hr) (pv 1) (R5 (K:=K) rfl (pv 0) (by rfl)))) (@b9 _ _ _ a5z) j5)
   (@b9 _ _ _ (b8d (a6p hr) (R5 (K:=K) rfl (pv 0) (by rfl)) (pv 1) b6 a6A (λ_ _ _=>rfl)))),?_⟩
  have g:X6 H d (.int n) (some (.int (cnt n))):=by
   have:=X6.k (k:=Sum.inl n) hd;rw [a4j,if_pos hn] at this;exact this
  refine ⟨_,rfl,_,rfl,x,C,dy,_,_,rfl,hx,T.cl_Tally,T.a_often,rfl,d,_,rfl,g,_,rfl,?_⟩;refine y8 ?_;refine ⟨_,rfl,x,C,dy,_,_,rfl,hx,T.cl_Tally,T.a_often,rfl,_,rfl,d,_,rfl,g,_,_,rfl,rfl,?_⟩;refine ⟨_,a1D.k (k:=Sum.inl n) hd (by unfold A7;rw [List.length_map];exact a5r hl),?_⟩;rw [a3H ks cnt hn];have e:(A7 ks λk=>if k=n then cnt n + 1 else cnt k)=A7 ks λk=>if k=n then cnt k + 1 else cnt k:=by
   unfold A7;refine List.map_congr_left λk _=>?_
   by_cases z:k=n
   ·subst z;rfl
   ·simp [z]
  rw [e];exact q
def b7q (C:Addr):Sp:=λvs H Q _=>∃ (x d:Addr) (ks:List Int) (cnt:Int->Int) (n:Int),vs=[.ref x,.int n]/\a3J C H x d ks cnt/\n∈ks/\0 < cnt n/\ks.length <= 1000/\Q .non (upd H d (.dK (A7 ks λk=>if k=n then cnt k - 1 else cnt k)))
theorem a2q (T:Txt K mg C Ck):DfM P w K mg base 1 C "take_out" ["self","number"] (b7q C):=by
 refine T.m_Tally_take_out.ok a5o (λvs H Q E h=>?_) (λf cdv A outer s H vs Q E hr h=>?_)
 ·obtain ⟨x,d,ks,cnt,n,rfl,_⟩:=h
  rfl
 ·obtain ⟨x,d,ks,cnt,n,rfl,⟨⟨dy,hx⟩,hd⟩,hn,hc,hl,q⟩:=h;refine ⟨_,(@a9 _ _ _ _ _ (@p4 _ _ _ _ _ _ _ _ (@i8 _ _ _ _ _ _ _ _ (A6 hr.units) (a8R (a6p hr) (R5 (K:=K) rfl (pv 0) (by rfl)) (pv 1) b6 ⟨by rfl,by rfl,by rfl,by rfl⟩) b6 (l7 _)) (@b9 _ _ _ a5z) j5)
   (@b9 _ _ _ (b8d (a6p hr) (R5 (K:=K) rfl (pv 0) (by rfl)) (pv 1) b6 b8u (λ_ _ _=>rfl)))),?_⟩
  have g:X6 H d (.int n) (some (.int (cnt n))):=by
   have:=X6.k (k:=Sum.inl n) hd;rw [a4j,if_pos hn] at this;exact this
  refine ⟨_,rfl,x,C,dy,_,_,rfl,hx,T.cl_Tally,T.a_often,rfl,d,rfl,.inl ⟨_,.inl hd⟩,_,rfl,_,g,Or.inl ⟨rfl,_,rfl,?_⟩⟩;rw [decide_eq_false (λz=>by
   have z':V.int (cnt n)=V.int 0:=z;have:=V.int.inj z'
   omega)]
  refine y8 ?_;refine ⟨_,rfl,x,C,dy,_,_,rfl,hx,T.cl_Tally,T.a_often,rfl,_,rfl,d,_,rfl,g,_,_,rfl,rfl,?_⟩;refine ⟨_,a1D.k (k:=Sum.inl n) hd (by unfold A7;rw [List.length_map];exact a5r hl),?_⟩;rw [a3H ks cnt hn];have e:(A7 ks λk=>if k=n then cnt n - 1 else cnt k)=A7 ks λk=>if k=n then cnt k - 1 else cnt k:=by
   unfold A7;refine List.map_congr_left λk _=>?_
   by_cases z:k=n
   ·subst z;rfl
   ·simp [z]
  rw [e];exact q
def b0r (C:Addr):Sp:=λvs H Q _=>∃ (x d:Addr) (ks:List Int) (cnt:Int->Int),vs=[.ref x]/\a3J C H x d ks cnt/\Q (.int (ks.map cnt).sum) H
theorem b3m (ks:List Int)(cnt:Int->Int):(A7 ks cnt).map (·.2)=(ks.map cnt).map V.int:=by
 unfold A7;rw [List.map_map,List.map_map];rfl
theorem a6i (T:Txt K mg C Ck):DfM P w K mg base 1 C "how_many_in" ["self"] (b0r C):=by
 refine T.m_Tally_how_many_in.ok Z5 (λvs H Q E h=>?_) (λf cdv A outer s H vs Q E hr h=>?_)
 ·obtain ⟨x,d,ks,cnt,rfl,_⟩:=h
  rfl
 ·obtain ⟨x,d,ks,cnt,rfl,⟨⟨dy,hx⟩,hd⟩,q⟩:=h;refine ⟨_,(@b9 _ _ _ (@d8 _ _ _ _ (b1e rfl (by rfl) T.n_sum (R5 (K:=K) rfl (pv 0) (by rfl))))),?_⟩;exact ⟨_,rfl,x,C,dy,_,_,rfl,hx,T.cl_Tally,T.a_often,rfl,d,_,_,rfl,hd,b3m ks cnt,q⟩
def a9q (ks:List Int)(cnt:Int->Int)(i:Nat):Int:=((ks.take i).map cnt).sum
theorem b2c {ks:List Int}{cnt:Int->Int}{i:Nat}{k:Int}(h:ks[i]? = some k):a9q ks cnt (i + 1)=a9q ks cnt i + cnt k:=by
 unfold a9q;rw [List.take_add_one,h,List.map_append,List.sum_append]
 simp
theorem b6u {ks:List Int}{cnt:Int->Int}{i:Nat}{k:Key}{v:V}(h:(A7 ks cnt)[i]? = some (k,v)):∃ n,ks[i]? = some n/\k=Sum.inl n/\v = .int (cnt n):=by
 unfold A7 at h;rw [List.getElem?_map] at h;cases e:ks[i]? with
 | none=>rw [e] at h;cases h
 | some n =>
  rw [e] at h;have:=Option.some.inj h;cases this;exact ⟨n,rfl,rfl,rfl⟩
def b0I (C:Addr):Sp:=λvs H Q _=>∃ (x d:Addr) (ks:List Int) (cnt:Int->Int) (pl:Int),vs=[.ref x,.int pl]/\a3J C H x d ks cnt/\0<=pl/\pl < (ks.map cnt).sum /\ ks.length <= 1000 /\
 ∀ (i:Nat) (k:Int) (H':Hp),i9 H H'->ks[i]? = some k->pl < a9q ks cnt (i + 1)->(∀ j,j < i->¬ pl < a9q ks cnt (j + 1))->Q (.int k) H'
theorem b2z {P:Program}{w:World}{H:Hp}{a:Addr}{kvs:List (Key × V)}{vs:List (Key × Value)}{ep:Nat}{k:Hp->Prop}(h:H a=some (N0 P w a kvs vs ep))(q:k (upd H a (.dK kvs))):b7x P w H k:=⟨a,kvs,vs,ep,h,q⟩
theorem b0l {P:Program}{w:World}{H H1:Hp}{a:Addr}{kvs:List (Key × V)}{vs:List (Key × Value)}{ep:Nat}(e:H a=some (.dK kvs))(s:i9 (upd H a (N0 P w a kvs vs ep)) H1):i9 H (upd H1 a (.dK kvs)):=λb o h=>by
 by_cases z:b=a
 ·subst z;rw [e] at h;cases h;exact a8
 ·rw [d5 z];exact s b o (by rw [d5 z];exact h)
theorem a4w (T:Txt K mg C Ck):DfM P w K mg base 1 C "nth_in" ["self","place"] (b0I C):=by
 refine T.m_Tally_nth_in.ok C4 (λvs H Q E h=>?_) (λf cdv A outer s H vs Q E hr h=>?_)
 ·obtain ⟨x,d,ks,cnt,pl,rfl,_⟩:=h
  rfl
 ·obtain ⟨x,d,ks,cnt,pl,rfl,⟨⟨dy,hx⟩,hd⟩,p0,p1,hl,q⟩:=h;refine ⟨_,(@a9 _ _ _ _ _ (@e9 _ _ 2 _ _ _ _ C4.nd rfl (by trivial) b6 (by rfl) (by first | exact .inl rfl | exact .inr rfl))
   (@a9 _ _ _ _ _ (b5C (P:=P) (w:=w) rfl rfl (@r6 _ _ _ _ _ _ _ _ PassesOwn.never rfl (b7s (P:=P) (w:=w) rfl rfl (R5 (K:=K) rfl (pv 0) (by rfl))) (W7 (K:=K) rfl rfl (o9 (i7 (i:=3) C4.nd rfl (by trivial)) (o9 (i7 (i:=4) C4.nd rfl (by trivial)) R4))) (@a9 _ _ _ _ _ (a6z (i:=2) C4.nd rfl (by trivial) (pv 4) a6A)
   (@b9 _ _ _ (@p4 _ _ _ _ _ _ _ _ (a9o a8G a0p b6 (pv 1) (pv 2)) (@b9 _ _ _ (@d8 _ _ _ _ (pv 3))) j5))) (by intro _;rfl)))
   (@b9 _ _ _ a5z))),?_⟩
  refine ⟨_,rfl,x,C,dy,_,_,rfl,hx,T.cl_Tally,T.a_often,rfl,d,_,rfl,hd,λvs ep=>?_⟩;have lk:(A7 ks cnt).length=ks.length:=by unfold A7;rw [List.length_map]
  have hw:upd H d (N0 P w d (A7 ks cnt) vs ep) d=some (N0 P w d (A7 ks cnt) vs ep):=a8;refine b4n (λi σ H'=>(∃ v3 v4:Option V,σ=[some (.ref x),some (.int pl),some (.int (a9q ks cnt i)),v3,v4])/\i9 (upd H d (N0 P w d (A7 ks cnt) vs ep)) H'/\∀ j,j < i->¬ pl < a9q ks cnt (j + 1)) ⟨⟨none,none,rfl⟩,i9.refl _,λj hj=>by omega⟩ (λi σ H' _ ⟨_,s1,_⟩=>s1 _ _ hw) ?_ ?_
  ·rintro i k v _ H1 t hk ⟨⟨v3,v4,rfl⟩,s1,hb⟩ ht;obtain ⟨n,en,rfl,rfl⟩:=b6u hk;have st:=b8 (o:=.tup [kV (Sum.inl n),.int (cnt n)]) ht;refine ⟨_,_,rfl,SqT.of a8,rfl,_,_,rfl,_,_,rfl,rfl,?_⟩;refine ⟨_,rfl,_,rfl,_,_,rfl,rfl,?_⟩;dsimp only [F4,List.set];rw [← b2c (cnt:=cnt) en];refine ⟨_,rfl,_,_,rfl,rfl,_,rfl,?_⟩;rw [decide_eq_true p0];refine U8 ⟨_,rfl,_,_,rfl,rfl,_,rfl,?_⟩
   by_cases z:pl < a9q ks cnt (i + 1)
   ·rw [decide_eq_true z];refine U8 ?_;refine ⟨_,rfl,b2z (st _ _ (s1 _ _ hw)) ?_⟩;exact q i n _ (b0l hd (s1.trans st)) en z hb
   ·rw [decide_eq_false z];refine y8 ?_;refine ⟨⟨_,_,rfl⟩,s1.trans st,λj hj=>?_⟩
    rcases Nat.lt_or_ge j i with z2 | z2
    ·exact hb j z2
    ·have:j=i:=by omega
     subst this;exact z
  ·rintro _ H1 ⟨⟨v3,v4,rfl⟩,s1,hb⟩
   exfalso
   rw [lk] at hb;have hn:ks≠[]:=λe=>by subst e;simp at p1;omega
   have l1:1<=ks.length:=by
    cases ks with
    | nil=>exact absurd rfl hn
    | cons x l=>simp
   have:=hb (ks.length - 1) (by omega);rw [show ks.length - 1 + 1=ks.length by omega] at this;unfold a9q at this;rw [List.take_length] at this;exact this p1
def a0Y (C:Addr):Sp:=λvs H Q _=>∃ (x dy p:Addr) (ns:List Int),vs=[.ref x,.ref p]/\H x=some (.ins C dy [])/\H p=some (.tup (ns.map V.int))/\ns.length <= 1000 /\
 ∀ (d:Addr) (H':Hp),H d=none->c7 x H H'->a3J C H' x d (f9 ns) (λ_=>0)->Q .non H'
theorem a4F (T:Txt K mg C Ck):DfI P w K mg base 1 C ["self","kinds"] (a0Y C):=by
 refine T.m_Tally_init.ok a4k (λvs H Q E h=>?_) (λf cdv A outer s H vs Q E hr h=>?_)
 ·obtain ⟨x,dy,p,ns,rfl,_⟩:=h
  rfl
 ·obtain ⟨x,dy,p,ns,rfl,hx,hp,hn,q⟩:=h;refine ⟨_,(@a9 _ _ _ _ _ (a7m (pv 0) a7R rfl)
   (@b9 _ _ _ (@r6 _ _ _ _ _ _ _ _ PassesOwn.never rfl (q9 (K:=K) rfl (@f8 _ _ _ _ _ _ _ _ _ (a5w (w:=w) rfl rfl) (by rfl) T.n_sorted a7j (@a6 _ _ _ _ _ (@m9 _ _ _ _ _ _ _ _ _ (b3x rfl) (by rfl) T.n_set b5P (@a6 _ _ _ _ _ (pv 1) a7 (by rfl)) (by decide) (by decide) (by rfl) (by rfl)) a7 d4) (by decide) (by decide) (by rfl) (by rfl))) (i7 (i:=2) a4k.nd rfl (by trivial)) (@b9 _ _ _ (b7d (a6p hr) (R5 (K:=K) rfl (pv 0) (by rfl)) (pv 2) b6 rfl)) (by intro _;rfl)))),?_⟩
  refine λd hd=>?_;have sd:=b8 (o:=.dK []) hd;have nxd:x≠d:=c6 hx hd;refine ⟨_,rfl,x,C,dy,_,rfl,sd _ _ hx,T.cl_Tally,T.a_often,(by show 0 < 1000;decide),?_⟩;have hx1:upd (upd H d (.dK [])) x (.ins C dy [("often",.ref d)]) x=some (.ins C dy [("often",.ref d)]):=a8;have hd1:upd (upd H d (.dK [])) x (.ins C dy [("often",.ref d)]) d=some (.dK []):=by rw [d5 nxd.symm];exact a8
  have k1:c7 x H (upd (upd H d (.dK [])) x (.ins C dy [("often",.ref d)])):=λb o e n=>by rw [d5 n];exact sd _ _ e
  have hp1:upd (upd H d (.dK [])) x (.ins C dy [("often",.ref d)]) p=some (.tup (ns.map V.int)):=k1 _ _ hp (B2 hp hx λz=>by cases z);dsimp only;rw [show N5 "often" (V.ref d) []=[(("often" : Str),V.ref d)] from rfl];generalize upd (upd H d (.dK [])) x (.ins C dy [("often",.ref d)])=H1 at hx1 hd1 k1 hp1 ⊢;refine Or.inl ?_;refine ⟨_,rfl,p,ns,rfl,hp1,by omega,λl hl=>?_⟩;have sl:=b8 (o:=a7F w l (MwSet.C8 ns)) hl;have la:=MwSet.a8q ns;refine ⟨l,_,rfl,a8,by omega,λl2 hl2=>?_⟩;have sl2:=b8 (o:=.lst ((o0 (MwSet.C8 ns)).map V.int)) hl2;have S2:=sl.trans sl2;have e2:upd (upd H1 l (a7F w l (MwSet.C8 ns))) l2 (.lst ((f9 ns).map V.int)) l2=some (.lst ((f9 ns).map V.int)):=a8
  change i9 H1 (upd (upd H1 l (a7F w l (MwSet.C8 ns))) l2 (.lst ((f9 ns).map V.int))) at S2
  refine ⟨_,rfl,⟨_,SqL.of a8⟩,?_⟩;have lks:(f9 ns).length <= 1000:=by
   unfold f9;rw [E5];omega
  have nl2:l2≠d:=(c6 (sl _ _ hd1) hl2).symm;have hxs:=S2 _ _ hx1;have hds:=S2 _ _ hd1;have K2:c7 x H (upd (upd H1 l (a7F w l (MwSet.C8 ns))) l2 (.lst ((f9 ns).map V.int))):=k1.trans (S2.but x)
  show ∃ W:Nat->Nat->St->Hp->Prop,(∃ m,W 0 m _ (upd (upd H1 l (a7F w l (MwSet.C8 ns))) l2 (.lst ((f9 ns).map V.int))))/\_
  generalize upd (upd H1 l (a7F w l (MwSet.C8 ns))) l2 (.lst ((f9 ns).map V.int))=H2 at e2 hxs hds K2 ⊢;refine C5 (xs:=(f9 ns).map V.int) (λi σ H'=>(∃ v2:Option V,σ=[some (.ref x),some (.ref p),v2])/\H'=upd H2 d (.dK (A7 ((f9 ns).take i) λ_=>0))) ⟨⟨none,rfl⟩,?_⟩ (λi σ H' _ ⟨_,e⟩=>by rw [e];exact SqL.of (by rw [d5 nl2];exact e2)) ?_ ?_
  ·funext b
   by_cases z:b=d
   ·rw [z,a8,hds];rfl
   ·rw [d5 z]
  ·rintro i y _ _ hy ⟨⟨v2,rfl⟩,rfl⟩;obtain ⟨n,en,rfl⟩:=a0i hy;have hxi:upd H2 d (.dK (A7 ((f9 ns).take i) λ_=>0)) x=some (.ins C dy [("often",.ref d)]):=by rw [d5 nxd];exact hxs
   refine ⟨_,rfl,x,C,dy,_,_,rfl,hxi,T.cl_Tally,T.a_often,rfl,_,rfl,d,_,rfl,a1D.k (k:=Sum.inl n) a8 ?_,?_⟩
   ·unfold A7;rw [List.length_map,List.length_take];exact a5r (by omega)
   ·refine ⟨⟨_,rfl⟩,?_⟩;have nn:n ∉ (f9 ns).take i:=λhm=>by
     obtain ⟨j,hj,ej⟩:=List.mem_iff_getElem.mp hm;rw [List.length_take] at hj;obtain ⟨hi,ei⟩:=List.getElem?_eq_some_iff.mp en;rw [List.getElem_take] at ej;have:=List.pairwise_iff_getElem.mp (U7 ns) j i (by omega) hi (by omega)
     omega
    rw [b0z,b2s _ (by rw [a4j,if_neg nn]),List.take_add_one,en];unfold A7;rw [List.map_append]
    rfl
  ·rintro _ _ ⟨⟨v2,rfl⟩,rfl⟩;rw [List.length_map,List.take_length];refine q d _ hd (λb o e n=>?_) ⟨⟨dy,by rw [d5 nxd];exact hxs⟩,a8⟩;rw [d5 (c6 e hd)];exact K2 b o e n
def Q7 (C:Addr)(H:Hp)(x d:Addr)(ks L:List Int):Prop:=a3J C H x d ks (λk=>(L.count k:Int))/\ks.Pairwise (· < ·)/\(∀ y∈L,y∈ks)/\ks.length <= 1000
theorem Q7.keep {C:Addr}{H H':Hp}{x d:Addr}{ks L:List Int}(t:Q7 C H x d ks L)(h1:∀ o,H x=some o->H' x=some o)(h2:∀ o,H d=some o->H' d=some o):Q7 C H' x d ks L :=
 ⟨⟨let ⟨dy,e⟩:=t.1.1;⟨dy,h1 _ e⟩,h2 _ t.1.2⟩,t.2⟩
theorem Q7.same {C:Addr}{H H':Hp}{x d:Addr}{ks L:List Int}(t:Q7 C H x d ks L)(s:i9 H H'):Q7 C H' x d ks L:=t.keep (λo e=>s _ _ e) λo e=>s _ _ e
theorem Q7.ne {C:Addr}{H:Hp}{x d:Addr}{ks L:List Int}(t:Q7 C H x d ks L):x≠d:=by
 obtain ⟨dy,e⟩:=t.1.1;exact B2 e t.1.2 λz=>by cases z
theorem Q7.nodup {C:Addr}{H:Hp}{x d:Addr}{ks L:List Int}(t:Q7 C H x d ks L):ks.Nodup:=t.2.1.imp λh=>Int.ne_of_lt h
theorem b0T {C:Addr}{H:Hp}{x d:Addr}{ks L:List Int}{n:Int}{Q:VK}{E:XK}(t:Q7 C H x d ks L)(hn:n∈ks)(q:∀ H',Q7 C H' x d ks (L ++ [n])->c7 d H H'->Q .non H'):b9H C [.ref x,.int n] H Q E:=by
 refine ⟨x,d,ks,_,n,rfl,t.1,hn,t.2.2.2,?_⟩;have e:(λk=>if k=n then (L.count k:Int) + 1 else (L.count k:Int))=λk=>((L ++ [n]).count k:Int):=by
  funext k
  rw [List.count_append]
  by_cases z:k=n
  ·subst z;rw [if_pos rfl];simp
  ·rw [if_neg z,List.count_singleton];have:¬ (n=k):=λe=>z e.symm
   simp [this]
 rw [e];obtain ⟨dy,hx⟩:=t.1.1;refine q _ ⟨⟨⟨dy,by rw [d5 t.ne];exact hx⟩,a8⟩,t.2.1,λy hy=>?_,t.2.2.2⟩ λb o e n=>by rw [d5 n];exact e
 rcases List.mem_append.mp hy with z | z
 ·exact t.2.2.1 y z
 ·have:y=n:=by simpa using z
  rw [this];exact hn
theorem b0J {C:Addr}{H:Hp}{x d:Addr}{ks L:List Int}{n:Int}{Q:VK}{E:XK}(t:Q7 C H x d ks L)(hn:n∈L)(q:∀ H',Q7 C H' x d ks (L.erase n)->c7 d H H'->Q .non H'):b7q C [.ref x,.int n] H Q E:=by
 have hc:0 < L.count n:=List.count_pos_iff.mpr hn;refine ⟨x,d,ks,_,n,rfl,t.1,t.2.2.1 n hn,(by show (0:Int) < (L.count n:Int);omega),t.2.2.2,?_⟩;have e:(λk=>if k=n then (L.count k:Int) - 1 else (L.count k:Int))=λk=>((L.erase n).count k:Int):=by
  funext k
  by_cases z:k=n
  ·subst z;rw [if_pos rfl,List.count_erase_self];omega
  ·rw [if_neg z,List.count_erase_of_ne z]
 rw [e];obtain ⟨dy,hx⟩:=t.1.1;exact q _ ⟨⟨⟨dy,by rw [d5 t.ne];exact hx⟩,a8⟩,t.2.1,λy hy=>t.2.2.1 y (List.mem_of_mem_erase hy),t.2.2.2⟩ λb o e n=>by rw [d5 n];exact e
theorem b7M {C:Addr}{H:Hp}{x d:Addr}{ks L:List Int}{Q:VK}{E:XK}(t:Q7 C H x d ks L)(q:Q (.int L.length) H):b0r C [.ref x] H Q E :=
 ⟨x,d,ks,_,rfl,t.1,by rw [a4l t.nodup t.2.2.1];exact q⟩
theorem b8T {C:Addr}{H:Hp}{x d:Addr}{ks L:List Int}{pl:Int}{Q:VK}{E:XK}(t:Q7 C H x d ks L)(p0:0<=pl)(p1:pl < L.length)(q:∀ (k:Int) (H':Hp),i9 H H'->(o0 L)[pl.toNat]? = some k->Q (.int k) H'):b0I C [.ref x,.int pl] H Q E :=
 ⟨x,d,ks,_,pl,rfl,t.1,p0,by rw [a4l t.nodup t.2.2.1];exact p1,t.2.2.2,λi k H' s hk h2 hb=>q k H' s (b0j t.2.1 t.2.2.1 p0 hk h2 hb)⟩
theorem b8M {C:Addr}{H:Hp}{p:Addr}{ns:List Int}{Q:VK}(hp:H p=some (.tup (ns.map V.int)))(hn:ns.length <= 1000)(q:∀ (x d:Addr) (H':Hp),H x=none->H d=none->i9 H H'->Q7 C H' x d (f9 ns) []->Q (.ref x) H') :
  ∀ x dx,H x=none->H dx=none->dx≠x->a0Y C [.ref x,.ref p] (upd (upd H dx (.own x)) x (.ins C dx [])) (λv H2=>v = .non /\ Q (.ref x) H2) E0:=by
 intro x dx hx hdx ne;have s1:i9 H (upd (upd H dx (.own x)) x (.ins C dx [])):=λb o e=>by rw [d5 (c6 e hx),d5 (c6 e hdx)];exact e
 refine ⟨x,dx,p,ns,rfl,a8,s1 _ _ hp,hn,λd H' hd k t=>⟨rfl,?_⟩⟩;have nd:H d=none:=by
  cases e:H d with
  | none=>rfl
  | some o=>rw [s1 _ _ e] at hd;cases hd
 refine q x d H' hx nd (λb o e=>k b o (s1 b o e) (c6 e hx)) ⟨?_,U7 ns,(λy hy=>by cases hy),?_⟩
 ·have:(λ_:Int=>(0:Int))=λk=>(([]:List Int).count k:Int):=by funext k;simp
  rw [← this];exact t
 ·unfold f9;have:=MwSet.a8q ns;rw [E5];omega
theorem b9M {C:Addr}{H:Hp}{p:Addr}{ns:List Int}{Q:Addr->Hp->Prop}(hp:H p=some (.tup (ns.map V.int)))(hn:ns.length <= 1000)(q:∀ (x d:Addr) (H':Hp),H x=none->H d=none->i9 H H'->Q7 C H' x d (f9 ns) []->Q x H') :
  ∀ x dx,H x=none->H dx=none->dx≠x->a0Y C [.ref x,.ref p] (upd (upd H dx (.own x)) x (.ins C dx [])) (λv H2=>v = .non /\ Q x H2) E0:=by
 intro x dx a b c;have:=b8M (Q:=λv H'=>∃ x,v = .ref x/\Q x H') hp hn (λx d H' a b c e=>⟨x,rfl,q x d H' a b c e⟩) x dx a b c;obtain ⟨x',dx',p',ns',e1,e2,e3,e4,e5⟩:=this;exact ⟨x',dx',p',ns',e1,e2,e3,e4,λd H' u k t=>⟨(e5 d H' u k t).1,by
  obtain ⟨_,y,ey,hq⟩:=e5 d H' u k t;cases ey;exact hq⟩⟩
theorem b9D {d:Addr} {m:Str} (h:(m == ("often" : Str))=false):List.lookup m [(("often" : Str),V.ref d)]=none:=by
 rw [List.lookup,h];rfl
theorem b8w (w:Nat):u5 0 w=(List.range w).map (λj:Nat=>V.int (j:Int)):=by
 unfold u5;refine List.map_congr_left λj _=>?_;rw [Int.zero_add]
def b9J:Sp:=λvs H Q _=>∃ (h w:Nat),vs=[.int h,.int w]/\h<=100/\w<=100 /\
 ∀ (l:Addr) (ys:List V) (H':Hp),H l=none->i9 H H'->H' l=some (.lst ys)->IsDs H' ys (a7u w (h * w))->Q (.ref l) H'
theorem b4G (T:Txt K mg C Ck):Df P w K mg base 1 "path" ["height","width"] b9J:=by
 refine T.d_path.ok a9w (λvs H Q E h=>?_) (λf cdv A outer s H vs Q E hr h=>?_)
 ·obtain ⟨h,w,rfl,_⟩:=h
  rfl
 ·obtain ⟨h,wd,rfl,bh,bw,q⟩:=h;refine ⟨_,(@a9 _ _ _ _ _ (@e9 _ _ 2 _ _ _ _ a9w.nd rfl (by trivial) (@u3 _ _ _ _ a7) (by rfl) (by first | exact .inl rfl | exact .inr rfl))
   (@a9 _ _ _ _ _ (@r6 _ _ _ _ _ _ _ _ PassesOwn.never rfl (B1 (by rfl) T.n_range (@a6 _ _ _ _ _ (pv 0) a7 (by rfl))) (i7 (i:=3) a9w.nd rfl (by trivial)) (@a9 _ _ _ _ _ (@e9 _ _ 4 _ _ _ _ a9w.nd rfl (by trivial) (@m9 _ _ _ _ _ _ _ _ _ (A8.or (X5 (K:=K) rfl) (M4 rfl)) (by rfl) T.n_list a6x (@a6 _ _ _ _ _ (@m9 _ _ _ _ _ _ _ _ _ a2O (by rfl) T.n_range a6V (@a6 _ _ _ _ _ (pv 1) a7 (by rfl)) (by decide) (by decide) (by rfl) (by rfl)) a7 d4) (by decide) (by decide) (by rfl) (by rfl)) (by rfl) (by first | exact .inl rfl | exact .inr rfl))
   (@a9 _ _ _ _ _ (@p4 _ _ _ _ _ _ _ _ (@i8 _ _ _ _ _ _ _ _ (A6 hr.units) (@g0 _ _ _ _ _ _ _ _ J0 (pv 3) b6) b6 (l7 _)) (@b9 _ _ _ (@x9 _ _ _ _ (@b7L _ _ _ _ _ _ _ _ _ PySem.F.plainAttrs_list PySem.F.slot_list_reverse PySem.F.type_list_reverse a9Z (pv 4) (by rfl) (by rfl)) (by rfl))) j5)
   (@b9 _ _ _ (@x9 _ _ _ _ (@N9 _ _ _ _ _ _ _ _ _ _ _ _ PySem.F.plainAttrs_list PySem.F.slot_list_extend PySem.F.type_list_extend (MtR.or a3j W8) (pv 2) (@a6 _ _ _ _ _ (C6 (M:=["i"]) (idx:=[3]) rfl (q9 (K:=K) rfl (pv 4)) (Q3 (by kernel_rfl)) (by decide +kernel) (by trivial) (λ_ _ _ _ _=>a8o) (λ_ _ _ _ _=>(@u7 _ _ _ _ _ (@a6 _ _ _ _ _ (pv 1) (@a6 _ _ _ _ _ (pv 0) a7 (by rfl)) (by rfl))))) a7 G7) (by rfl) (by rfl) (by rfl) (by rfl) (by rfl)) (by rfl))))) (by intro _;rfl))
   (@b9 _ _ _ (@d8 _ _ _ _ (pv 2))))),?_⟩
  refine ⟨(by show 0<=sizeLine;decide),λc hc=>?_⟩;have keepH:∀ {H':Hp},c7 c (upd H c (.lst [])) H'->i9 H H':=λk b o e=>k b o (b8 hc b o e) (c6 e hc);refine ⟨_,rfl,_,rfl,by omega,by omega,?_⟩;refine y6 (λi σ H'=>∃ (v3 v4:Option V) (ys:List V),σ=[some (.int h),some (.int wd),some (.ref c),v3,v4]/\c7 c (upd H c (.lst [])) H'/\H' c=some (.lst ys)/\IsDs H' ys (a7u wd (i * wd)))
   ⟨none,none,[],rfl,c7.refl _ _,a8,by rw [Nat.zero_mul];exact .nil⟩ ?_ ?_
  ·rintro i _ H1 hi ⟨v3,v4,ys,rfl,k1,hc1,iy⟩;have hi':i < h:=by have:i < (h:Int).toNat:=hi;omega
   refine ⟨_,rfl,_,rfl,λrg hrg=>?_⟩;refine Or.inr ⟨_,_,_,rfl,a8,⟨by decide,by decide,by omega,by omega⟩,by omega,λlc hlc=>?_⟩;have hlc1:H1 lc=none:=(b8 hrg).free hlc;have s2:i9 H1 _:=(b8 hrg).trans (b8 (o:=.lst (u5 0 ((wd:Int) - 0).toNat)) hlc);have e2:upd (upd H1 rg (.rng 0 wd)) lc (.lst (u5 0 ((wd:Int) - 0).toNat)) lc=some (.lst ((List.range wd).map (λj:Nat=>V.int (j:Int)))):=by
    rw [a8,show ((wd:Int) - 0).toNat=wd by omega,b8w]
   dsimp only [List.set];generalize upd (upd H1 rg (.rng 0 wd)) lc (.lst (u5 0 ((wd:Int) - 0).toNat))=H2 at s2 e2 ⊢;have i0:(0:Int) + (i:Int)=((i:Nat):Int):=by omega
   refine O7 (fun σ' H'=>σ'=[some (.int h),some (.int wd),some (.ref c),some (.int (i:Nat)),some (.ref lc)]/\i9 H1 H'/\H' lc=some (.lst ((N7 wd i).map (λj:Nat=>V.int (j:Int))))) ?_ (λrest=>?_)
   ·rintro _ H3 ⟨rfl,s3,e3⟩;have hc3:=s3 _ _ hc1;refine ⟨_,rfl,Or.inl ⟨rfl,_,SqL.of hc3⟩,?_⟩;refine Or.inl ?_;refine ⟨_,rfl,_,rfl,⟨_,SqL.of e3⟩,?_⟩;refine Q2 (xs:=(N7 wd i).map (λj:Nat=>V.int (j:Int))) (λb zs H'=>IsDs H' zs (((N7 wd i).take b).map λj=>C7 ((i:Int),(j:Nat)))/\i9 H3 H')
     ⟨.nil,i9.refl _⟩ (by rw [List.length_map,Q4];exact Nat.le_trans bw (by decide)) (λb zs H' _ ⟨_,s⟩=>SqL.of (s _ _ e3)) ?_ ?_
    ·rintro b x zs H4 hx ⟨iz,s4⟩;obtain ⟨j,ej,rfl⟩:∃ j:Nat,(N7 wd i)[b]? = some j/\V.int (j:Int)=x:=by
      rw [List.getElem?_map] at hx;cases e:(N7 wd i)[b]? with
      | none=>rw [e] at hx;cases hx
      | some j=>rw [e] at hx;exact ⟨j,rfl,Option.some.inj hx⟩
     refine b3t ?_;refine ⟨_,rfl,_,rfl,(by show 2<=sizeLine;decide),λt ht=>?_⟩;have st:=b8 (o:=.tup [.int (i:Nat),.int (j:Int)]) ht;refine ⟨?_,s4.trans st⟩;rw [List.take_add_one,ej,List.map_append];exact (iz.keep st.tups).append (.cons (a3p a8) .nil)
    ·rintro zs H4 ⟨iz,s4⟩ l4 hl4;have s5:=s4.trans (b8 (o:=.lst zs) hl4);have hcz:=s5 _ _ hc3;rw [List.length_map,Q4,List.take_of_length_le (by rw [Q4];exact Nat.le_refl _)] at iz;have lz:zs.length=wd:=by rw [iz.length,List.length_map,Q4]
     have ly:ys.length=i * wd:=by rw [iy.length,a7G]
     have lw:i * wd<=100 * 100:=Nat.mul_le_mul (by omega) bw;refine Or.inl ⟨_,_,_,_,rfl,rfl,hcz,a8,(by rw [ly,lz];exact Nat.le_trans (show i * wd + wd<=20000 by omega) (by decide)),?_⟩;have kc:Q5 (upd H4 l4 (.lst zs)) (upd (upd H4 l4 (.lst zs)) c (.lst (ys ++ zs))):=λa xs e=>by rw [d5 (B2 e hcz λz=>by cases z)];exact e
     refine ⟨_,_,_,rfl,?_,a8,?_⟩
     ·intro b o e n;rw [d5 n];exact s5 _ _ (s3 _ _ (k1 b o e n))
     ·rw [b6l];exact ((iy.keep (s3.trans s5).tups).append (iz.keep (b8 hl4).tups)).keep kc
   ·refine ⟨_,rfl,_,_,rfl,rfl,(by show (0:Int) < 2;decide),Or.inl ⟨rfl,_,rfl,?_⟩⟩;refine G1 (λz=>?_) (λz=>?_)
    ·have z1:=b7T z;refine ⟨_,rfl,Or.inl ⟨rfl,_,SqL.of e2⟩,?_⟩;refine ⟨_,_,rfl,rfl,e2,?_⟩;refine rest _ _ ⟨by dsimp only [List.set];rw [i0],λb o e=>?_,?_⟩
     ·rw [d5 (c6 e hlc1)];exact s2 _ _ e
     ·rw [a8];unfold N7;rw [if_pos (by omega),List.map_reverse]
    ·have z1:=b6M z;refine rest _ _ ⟨by dsimp only [List.set];rw [i0],s2,?_⟩;rw [e2];unfold N7;rw [if_neg (by omega)]
  ·rintro _ H1 ⟨v3,v4,ys,rfl,k1,hc1,iy⟩;exact ⟨_,rfl,q c ys H1 hc (keepH k1) hc1 iy⟩
def u6 (X:Addr->Prop)(H:Hp)(v:V)(A:L7):Prop:=∃ t a b,v = .ref t/\H t=some (.tup [.ref a,.ref b])/\H a=some (.lst (A.1.map V.int))/\H b=some (.lst (A.2.map V.int))/\¬ X a/\¬ X b
theorem u6.same {X:Addr->Prop}{H H':Hp}{v:V}{A:L7}(h:u6 X H v A)(s:i9 H H'):u6 X H' v A :=
 let ⟨t,a,b,e,h1,h2,h3,n1,n2⟩:=h;⟨t,a,b,e,s _ _ h1,s _ _ h2,s _ _ h3,n1,n2⟩
theorem u6.but {X:Addr->Prop}{x:Addr}{H H':Hp}{v:V}{A:L7}{xs:List V}(h:u6 X H v A)(X1:X x)(hx:H x=some (.lst xs))(s:c7 x H H'):u6 X H' v A :=
 let ⟨t,a,b,e,h1,h2,h3,n1,n2⟩:=h;⟨t,a,b,e,s _ _ h1 (B2 h1 hx λz=>by cases z),s _ _ h2 λz=>n1 (z ▸ X1),s _ _ h3 λz=>n2 (z ▸ X1),n1,n2⟩
theorem u6.one {X:Addr->Prop}{x:Addr}{H:Hp}{v:V}{A:L7}(h:u6 X H v A)(X1:X x):a8C x H v A :=
 let ⟨t,a,b,e,h1,h2,h3,n1,n2⟩:=h;⟨t,a,b,e,h1,h2,h3,λz=>n1 (z ▸ X1),λz=>n2 (z ▸ X1)⟩
theorem u6.past {X Y:Addr->Prop}{H H':Hp}{v:V}{A:L7}(h:u6 X H v A)(hY:∀ x,Y x->X x \/ ∀ xs,H x≠some (.lst xs))(ht:∀ x xs,Y x->H x≠some (.tup xs))(s:∀ b o,H b=some o->¬ Y b->H' b=some o):u6 X H' v A :=
 let ⟨t,a,b,e,h1,h2,h3,n1,n2⟩:=h
 ⟨t,a,b,e,s _ _ h1 λy=>ht _ _ y h1,s _ _ h2 λy=>(hY _ y).elim n1 λz=>z _ h2,s _ _ h3 λy=>(hY _ y).elim n2 λz=>z _ h3,n1,n2⟩
def G5 (X:Addr->Prop)(u d l r w:Nat)(H:Hp)(v:V)(k:Nat):Prop:=∃ t pv a b,v = .ref t/\H t=some (.tup [pv,a,b])/\IsD H pv (C7 (m8 w k))/\u6 X H a (y9 (l0 u d l r w k) (G8 u d l r w k))/\u6 X H b (y9 (G8 u d l r w k) (l0 u d l r w k))
theorem G5.same {X:Addr->Prop}{u d l r w k:Nat}{H H':Hp}{v:V}(h:G5 X u d l r w H v k)(s:i9 H H'):G5 X u d l r w H' v k :=
 let ⟨t,pv,a,b,e,h1,h2,h3,h4⟩:=h;⟨t,pv,a,b,e,s _ _ h1,h2.keep s.tups,h3.same s,h4.same s⟩
theorem G5.but {X:Addr->Prop}{x:Addr}{u d l r w k:Nat}{H H':Hp}{v:V}{xs:List V}(h:G5 X u d l r w H v k)(X1:X x)(hx:H x=some (.lst xs))(s:c7 x H H'):G5 X u d l r w H' v k :=
 let ⟨t,pv,a,b,e,h1,h2,h3,h4⟩:=h;⟨t,pv,a,b,e,s _ _ h1 (B2 h1 hx λz=>by cases z),h2.keep (s.tups hx),h3.but X1 hx s,h4.but X1 hx s⟩
theorem G5.past {X Y:Addr->Prop}{u d l r w k:Nat}{H H':Hp}{v:V}(h:G5 X u d l r w H v k)(hY:∀ x,Y x->X x \/ ∀ xs,H x≠some (.lst xs))(ht:∀ x xs,Y x->H x≠some (.tup xs))(s:∀ b o,H b=some o->¬ Y b->H' b=some o):G5 X u d l r w H' v k :=
 let ⟨t,pv,a,b,e,h1,h2,h3,h4⟩:=h
 ⟨t,pv,a,b,e,s _ _ h1 λy=>ht _ _ y h1,h2.keep (λc xs e=>s _ _ e λy=>ht _ _ y e),h3.past hY ht s,h4.past hY ht s⟩
def A5 (X:Addr->Prop)(u d l r w:Nat)(H:Hp)(vs:List V)(n:Nat):Prop:=vs.length=n/\∀ k,k < n->∃ v,vs[k]? = some v/\G5 X u d l r w H v k
theorem A5.nil {X:Addr->Prop}{u d l r w:Nat}{H:Hp}:A5 X u d l r w H [] 0:=⟨rfl,λk hk=>by omega⟩
theorem A5.but {X:Addr->Prop}{x:Addr}{u d l r w n:Nat}{H H':Hp}{vs xs:List V}(h:A5 X u d l r w H vs n)(X1:X x)(hx:H x=some (.lst xs))(s:c7 x H H'):A5 X u d l r w H' vs n :=
 ⟨h.1,λk hk=>let ⟨v,e,z⟩:=h.2 k hk;⟨v,e,z.but X1 hx s⟩⟩
theorem A5.same {X:Addr->Prop}{u d l r w n:Nat}{H H':Hp}{vs:List V}(h:A5 X u d l r w H vs n)(s:i9 H H'):A5 X u d l r w H' vs n :=
 ⟨h.1,λk hk=>let ⟨v,e,z⟩:=h.2 k hk;⟨v,e,z.same s⟩⟩
theorem A5.push {X:Addr->Prop}{u d l r w n:Nat}{H:Hp}{vs:List V}{v:V}(h:A5 X u d l r w H vs n)(hv:G5 X u d l r w H v n):A5 X u d l r w H (vs ++ [v]) (n + 1):=by
 refine ⟨by rw [List.length_append,h.1];rfl,λk hk=>?_⟩
 by_cases e:k < n
 ·obtain ⟨v',e1,z⟩:=h.2 k e;exact ⟨v',by rw [List.getElem?_append_left (by rw [h.1];exact e)];exact e1,z⟩
 ·have:k=n:=by omega
  subst this;refine ⟨v,?_,hv⟩;rw [List.getElem?_append_right (by rw [h.1];exact Nat.le_refl _),h.1,Nat.sub_self]
  rfl
def b1K:Sp:=λvs H Q _=>∃ (wv pv:V) (u d l r:Nat) (p:Int × Int),vs=[wv,pv]/\IsD H wv (a2l u d l r)/\IsD H pv (C7 p)/\(u<=100/\d<=100/\l<=100/\r<=100)/\(-(2 ^ 50) < p.1 /\ p.1 < 2 ^ 50)/\(-(2 ^ 50) < p.2 /\ p.2 < 2 ^ 50) /\
 ∀ (v:V) (H':Hp),i9 H H'->(∀ X:Addr->Prop,(∀ x,X x->∃ o,H x=some o)->u6 X H' v (ups (p.1 - u) (u + d + 1),ups (p.2 - l) (l + r + 1)))->Q v H'
theorem a8x (lo:Int)(n:Nat):u5 lo n=(ups lo n).map V.int:=by
 unfold u5 ups;rw [List.map_map]
 rfl
theorem a6N (T:Txt K mg C Ck):Df P w K mg base 2 "area_held" ["window","place"] b1K:=by
 refine T.d_area_held.ok V9 (λvs H Q E h=>?_) (λf cdv A outer s H vs Q E hr h=>?_)
 ·obtain ⟨wv,pv,u,d,l,r,p,rfl,_⟩:=h
  rfl
 ·obtain ⟨wv,pv,u,d,l,r,p,rfl,hw,hp,⟨bu,bd,bl,br⟩,b1,b2,q⟩:=h;obtain ⟨wa,rfl,hwa⟩:=U9 hw;obtain ⟨pa,rfl,hpa⟩:=R9 hp;refine ⟨_,(@a9 _ _ _ _ _ (@e9 _ _ 2 _ _ _ _ V9.nd rfl (by trivial) (@f7 _ _ _ _ _ _ _ _ _ _ (y7 T) (hr.mono (by decide)) (@a6 _ _ _ _ _ (@j4 _ _ _ _ _ _ _ (c9 (K:=K) rfl) (pv 1) b6 (λ_ _=>rfl)) (@a6 _ _ _ _ _ (@j4 _ _ _ _ _ _ _ (c9 (K:=K) rfl) (pv 0) b6 (λ_ _=>rfl)) (@a6 _ _ _ _ _ (@j4 _ _ _ _ _ _ _ (c9 (K:=K) rfl) (pv 0) b6 (λ_ _=>rfl)) a7 f6) f6) f6) (by rfl) (by decide) (by rfl) (by rfl)) (by rfl) (by first | exact .inl rfl | exact .inr rfl))
   (@a9 _ _ _ _ _ (@e9 _ _ 3 _ _ _ _ V9.nd rfl (by trivial) (@f7 _ _ _ _ _ _ _ _ _ _ (y7 T) (hr.mono (by decide)) (@a6 _ _ _ _ _ (@j4 _ _ _ _ _ _ _ (c9 (K:=K) rfl) (pv 1) b6 (λ_ _=>rfl)) (@a6 _ _ _ _ _ (@j4 _ _ _ _ _ _ _ (c9 (K:=K) rfl) (pv 0) b6 (λ_ _=>rfl)) (@a6 _ _ _ _ _ (@j4 _ _ _ _ _ _ _ (c9 (K:=K) rfl) (pv 0) b6 (λ_ _=>rfl)) a7 f6) f6) f6) (by rfl) (by decide) (by rfl) (by rfl)) (by rfl) (by first | exact .inl rfl | exact .inr rfl))
   (@b9 _ _ _ (@d8 _ _ _ _ (@u7 _ _ _ _ _ (@a6 _ _ _ _ _ (pv 2) (@a6 _ _ _ _ _ (pv 3) a7 (by rfl)) (by rfl))))))),?_⟩
  refine ⟨_,rfl,Or.inr (Or.inl ⟨_,_,_,_,rfl,rfl,SqT.of hpa,rfl,_,rfl,Or.inr (Or.inl ⟨_,_,_,_,rfl,rfl,SqT.of hwa,rfl,_,rfl,Or.inr (Or.inl ⟨_,_,_,_,rfl,rfl,SqT.of hwa,rfl,?_⟩)⟩)⟩)⟩;refine ⟨_,_,_,rfl,⟨by omega,by omega⟩,bu,bd,λla H1 fa s1 ha=>?_⟩;have hwa1:=s1 _ _ hwa;have hpa1:=s1 _ _ hpa;refine ⟨_,rfl,Or.inr (Or.inl ⟨_,_,_,_,rfl,rfl,SqT.of hpa1,rfl,_,rfl,Or.inr (Or.inl ⟨_,_,_,_,rfl,rfl,SqT.of hwa1,rfl,_,rfl,Or.inr (Or.inl ⟨_,_,_,_,rfl,rfl,SqT.of hwa1,rfl,?_⟩)⟩)⟩)⟩;refine ⟨_,_,_,rfl,⟨by omega,by omega⟩,bl,br,λlb H2 fb s2 hb=>?_⟩;refine ⟨_,rfl,_,rfl,(by show 2<=sizeLine;decide),λt ht=>?_⟩;have st:=b8 (o:=.tup [.ref la,.ref lb]) ht;refine q (.ref t) _ ((s1.trans s2).trans st) λX hX=>⟨t,la,lb,rfl,a8,?_,?_,λz=>(by obtain ⟨o,e⟩:=hX _ z;rw [fa] at e;cases e),λz=>(by obtain ⟨o,e⟩:=hX _ z;rw [s1 _ _ e] at fb;cases fb)⟩
  ·rw [(s2.trans st) _ _ ha,a8x]
  ·rw [st _ _ hb,a8x]
def b5A:Sp:=λvs H Q _=>∃ (a b:Addr) (xs ys:List Int),vs=[.ref a,.ref b]/\H a=some (.lst (xs.map V.int))/\H b=some (.lst (ys.map V.int))/\xs.length <= 1000 /\
 ∀ (l:Addr) (H':Hp),H l=none->i9 H H'->H' l=some (.lst ((G0 xs ys).map V.int))->Q (.ref l) H'
theorem a1I (T:Txt K mg C Ck):Df P w K mg base 1 "not_in" ["places","others"] b5A:=by
 refine T.d_not_in.ok b9k (λvs H Q E h=>?_) (λf cdv A outer s H vs Q E hr h=>?_)
 ·obtain ⟨a,b,xs,ys,rfl,_⟩:=h
  rfl
 ·obtain ⟨a,b,xs,ys,rfl,ha,hb,bl,q⟩:=h;refine ⟨_,(@b9 _ _ _ (@d8 _ _ _ _ (C6 (M:=["others"]) (idx:=[1]) rfl (q9 (K:=K) rfl (pv 0)) (Q3 (by kernel_rfl)) (by decide +kernel) (by trivial) (λ_ _ _ _ _=>a1j (@i8 _ _ _ _ _ _ _ _ (a7E (K:=K) rfl) (pv 0) (pv 1) (by rfl))) (λ_ _ _ _ _=>(pv 0))))),?_⟩;refine Or.inl ?_;refine ⟨_,rfl,_,rfl,⟨_,SqL.of ha⟩,?_⟩;refine Q2 (xs:=xs.map V.int) (λi zs H'=>H'=H/\zs=(G0 (xs.take i) ys).map V.int) ⟨rfl,rfl⟩ (by rw [List.length_map];exact Nat.le_trans bl (by decide)) (λi zs H' _ ⟨e,_⟩=>by rw [e];exact SqL.of ha) ?_ ?_
  ·rintro i x zs _ hx ⟨rfl,rfl⟩;obtain ⟨z,ez,rfl⟩:∃ z,xs[i]? = some z/\V.int z=x:=by
    rw [List.getElem?_map] at hx;cases e:xs[i]? with
    | none=>rw [e] at hx;cases hx
    | some z=>rw [e] at hx;exact ⟨z,rfl,Option.some.inj hx⟩
   refine ⟨_,rfl,_,rfl,_,_,rfl,Or.inl (SqL.of hb),rfl,b7n ys,_,rfl,?_⟩;have e1:G0 (xs.take (i + 1)) ys=G0 (xs.take i) ys ++ (if (!decide (z∈ys))=true then [z] else []):=by
    unfold G0;rw [List.take_add_one,ez,List.filter_append]
    congr 1
    show List.filter _ [z]=_
    rw [List.filter_cons]
    rfl
   rw [e1,b9u]
   show (if (!decide (z∈ys))=true then _ else _)
   refine G1 (λy=>?_) (λy=>?_)
   ·refine ⟨_,rfl,rfl,?_⟩;rw [if_pos y,List.map_append]
    rfl
   ·refine ⟨rfl,?_⟩;rw [if_neg y]
    simp
  ·rintro zs _ ⟨rfl,rfl⟩ l hl;rw [List.length_map,List.take_of_length_le (Nat.le_refl _)];exact q l _ hl (b8 hl) a8
def b5k:Sp:=λvs H Q _=>∃ (v u:V) (X:Addr->Prop) (A B:L7),vs=[v,u]/\(∀ x,X x->∃ o,H x=some o)/\u6 X H v A/\u6 X H u B/\a0r A /\
 ∀ (v':V) (H':Hp),i9 H H'->u6 X H' v' (y9 A B)->Q v' H'
theorem a5i (T:Txt K mg C Ck):Df P w K mg base 2 "area_beyond" ["area","other"] b5k:=by
 refine T.d_area_beyond.ok a8y (λvs H Q E h=>?_) (λf cdv A outer s H vs Q E hr h=>?_)
 ·obtain ⟨v,u,X,A,B,rfl,_⟩:=h
  rfl
 ·obtain ⟨v,u,X,A,B,rfl,hX,⟨t,a,b,rfl,ht,ha,hb,na,nb⟩,⟨t2,a2,b2,rfl,ht2,ha2,hb2,na2,nb2⟩,⟨sm1,sm2,_⟩,q⟩:=h;refine ⟨_,(@a9 _ _ _ _ _ (@p4 _ _ _ _ _ _ _ _ (@i8 _ _ _ _ _ _ _ _ (a7Z hr.units) (@j4 _ _ _ _ _ _ _ (c9 (K:=K) rfl) (pv 0) b6 (λ_ _=>rfl)) (@j4 _ _ _ _ _ _ _ (c9 (K:=K) rfl) (pv 1) b6 (λ_ _=>rfl)) (l7 _)) (@b9 _ _ _ (@d8 _ _ _ _ (@u7 _ _ _ _ _ (@a6 _ _ _ _ _ (@j4 _ _ _ _ _ _ _ (c9 (K:=K) rfl) (pv 0) b6 (λ_ _=>rfl)) (@a6 _ _ _ _ _ (@f7 _ _ _ _ _ _ _ _ _ _ (a1I T) (hr.mono (by decide)) (@a6 _ _ _ _ _ (@j4 _ _ _ _ _ _ _ (c9 (K:=K) rfl) (pv 0) b6 (λ_ _=>rfl)) (@a6 _ _ _ _ _ (@j4 _ _ _ _ _ _ _ (c9 (K:=K) rfl) (pv 1) b6 (λ_ _=>rfl)) a7 f6) f6) (by rfl) (by decide) (by rfl) (by rfl)) a7 d4) f6)))) j5)
   (@b9 _ _ _ (@d8 _ _ _ _ (@u7 _ _ _ _ _ (@a6 _ _ _ _ _ (@f7 _ _ _ _ _ _ _ _ _ _ (a1I T) (hr.mono (by decide)) (@a6 _ _ _ _ _ (@j4 _ _ _ _ _ _ _ (c9 (K:=K) rfl) (pv 0) b6 (λ_ _=>rfl)) (@a6 _ _ _ _ _ (@j4 _ _ _ _ _ _ _ (c9 (K:=K) rfl) (pv 1) b6 (λ_ _=>rfl)) a7 f6) f6) (by rfl) (by decide) (by rfl) (by rfl)) (@a6 _ _ _ _ _ (@j4 _ _ _ _ _ _ _ (c9 (K:=K) rfl) (pv 0) b6 (λ_ _=>rfl)) a7 f6) d4))))),?_⟩
  refine ⟨_,rfl,Or.inr (Or.inl ⟨_,_,_,_,rfl,rfl,SqT.of ht,rfl,_,rfl,Or.inr (Or.inl ⟨_,_,_,_,rfl,rfl,SqT.of ht2,rfl,Or.inr (b1G ha ha2 ⟨_,rfl,?_⟩)⟩)⟩)⟩;refine G1 (λz=>?_) (λz=>?_)
  ·have e:=of_decide_eq_true z;have e2:y9 A B=(A.1,G0 A.2 B.2):=by unfold y9;rw [if_pos e]
   rw [e2] at q;refine ⟨_,rfl,Or.inr (Or.inl ⟨_,_,_,_,rfl,rfl,SqT.of ht,rfl,_,rfl,Or.inr (Or.inl ⟨_,_,_,_,rfl,rfl,SqT.of ht,rfl,_,rfl,Or.inr (Or.inl ⟨_,_,_,_,rfl,rfl,SqT.of ht2,rfl,?_⟩)⟩)⟩)⟩;refine ⟨_,_,_,_,rfl,hb,hb2,sm2,λl H1 fl s1 hl=>?_⟩;refine ⟨(by show 2<=sizeLine;decide),λt3 ht3=>?_⟩;have st:=b8 (o:=.tup [.ref a,.ref l]) ht3;exact q (.ref t3) _ (s1.trans st) ⟨t3,a,l,rfl,a8,(s1.trans st) _ _ ha,st _ _ hl,na,λz=>(by obtain ⟨o,e⟩:=hX _ z;rw [fl] at e;cases e)⟩
  ·have e:=of_decide_eq_false (Bool.eq_false_iff.mpr z);have e2:y9 A B=(G0 A.1 B.1,A.2):=by unfold y9;rw [if_neg e]
   rw [e2] at q;refine ⟨_,rfl,Or.inr (Or.inl ⟨_,_,_,_,rfl,rfl,SqT.of ht,rfl,_,rfl,Or.inr (Or.inl ⟨_,_,_,_,rfl,rfl,SqT.of ht2,rfl,?_⟩)⟩)⟩;refine ⟨_,_,_,_,rfl,ha,ha2,sm1,λl H1 fl s1 hl=>?_⟩;refine ⟨_,rfl,Or.inr (Or.inl ⟨_,_,_,_,rfl,rfl,SqT.of (s1 _ _ ht),rfl,(by show 2<=sizeLine;decide),λt3 ht3=>?_⟩)⟩;have st:=b8 (o:=.tup [.ref l,.ref b]) ht3;exact q (.ref t3) _ (s1.trans st) ⟨t3,l,b,rfl,a8,st _ _ hl,(s1.trans st) _ _ hb,λz=>(by obtain ⟨o,e⟩:=hX _ z;rw [fl] at e;cases e),nb⟩
def b7h (h w u d l r:Nat):Prop:=h<=100/\w<=100/\u<=100/\d<=100/\l<=100/\r<=100
def b2A:Sp:=λvs H Q _=>∃ (wv:V) (h w u d l r:Nat),vs=[.int h,.int w,wv]/\IsD H wv (a2l u d l r)/\b7h h w u d l r/\1<=w /\
 ∀ (a:Addr) (ys:List V) (H':Hp),i9 H H'->H a=none->H' a=some (.lst ys)->A5 (λx=>x=a \/ ∃ o,H x=some o) u d l r w H' ys (h * w)->Q (.ref a) H'
theorem a5U (T:Txt K mg C Ck):Df P w K mg base 3 "steps" ["height","width","window"] b2A:=by
 refine T.d_steps.ok U4 (λvs H Q E h=>?_) (λf cdv A outer s H vs Q E hr h=>?_)
 ·obtain ⟨wv,h,w,u,d,l,r,rfl,_⟩:=h
  rfl
 ·obtain ⟨wv,h,wd,u,d,l,r,rfl,hw,⟨bh,bw,bu,bd,bl,br⟩,w1,q⟩:=h;refine ⟨_,(@a9 _ _ _ _ _ (@e9 _ _ 3 _ _ _ _ U4.nd rfl (by trivial) (@u3 _ _ _ _ a7) (by rfl) (by first | exact .inl rfl | exact .inr rfl))
   (@a9 _ _ _ _ _ (@e9 _ _ 4 _ _ _ _ U4.nd rfl (by trivial) (@u7 _ _ _ _ _ (@a6 _ _ _ _ _ (@u3 _ _ _ _ a7) (@a6 _ _ _ _ _ (@u3 _ _ _ _ a7) a7 a3Q) a3Q)) (by rfl) (by first | exact .inl rfl | exact .inr rfl))
   (@a9 _ _ _ _ _ (@r6 _ _ _ _ _ _ _ _ PassesOwn.never rfl (q9 (K:=K) rfl (@f7 _ _ _ _ _ _ _ _ _ _ (b4G T) (hr.mono (by decide)) (@a6 _ _ _ _ _ (pv 0) (@a6 _ _ _ _ _ (pv 1) a7 (by rfl)) (by rfl)) (by rfl) (by decide) (by rfl) (by rfl))) (i7 (i:=5) U4.nd rfl (by trivial)) (@a9 _ _ _ _ _ (@e9 _ _ 6 _ _ _ _ U4.nd rfl (by trivial) (@f7 _ _ _ _ _ _ _ _ _ _ (a6N T) (hr.mono (by decide)) (@a6 _ _ _ _ _ (pv 2) (@a6 _ _ _ _ _ (pv 5) a7 (by rfl)) (by rfl)) (by rfl) (by decide) (by rfl) (by rfl)) (by rfl) (by first | exact .inl rfl | exact .inr rfl))
   (@a9 _ _ _ _ _ (@x9 _ _ _ _ (@N9 _ _ _ _ _ _ _ _ _ _ _ _ PySem.F.plainAttrs_list PySem.F.slot_list_append PySem.F.type_list_append z9 (pv 3) (@a6 _ _ _ _ _ (@u7 _ _ _ _ _ (@a6 _ _ _ _ _ (pv 5) (@a6 _ _ _ _ _ (@f7 _ _ _ _ _ _ _ _ _ _ (a5i T) (hr.mono (by decide)) (@a6 _ _ _ _ _ (pv 6) (@a6 _ _ _ _ _ (pv 4) a7 (by rfl)) (by rfl)) (by rfl) (by decide) (by rfl) (by rfl)) (@a6 _ _ _ _ _ (@f7 _ _ _ _ _ _ _ _ _ _ (a5i T) (hr.mono (by decide)) (@a6 _ _ _ _ _ (pv 4) (@a6 _ _ _ _ _ (pv 6) a7 (by rfl)) (by rfl)) (by rfl) (by decide) (by rfl) (by rfl)) a7 d4) d4) (by rfl))) a7 a9n) (by rfl) (by rfl) (by rfl) (by rfl) (by rfl)) (by rfl))
   (@b9 _ _ _ (@e9 _ _ 4 _ _ _ _ U4.nd rfl (by trivial) (pv 6) (by rfl) (by first | exact .inl rfl | exact .inr rfl))))) (by intro _;rfl))
   (@b9 _ _ _ (@d8 _ _ _ _ (pv 3)))))),?_⟩
  refine ⟨(by show 0<=sizeLine;decide),λc hc=>?_⟩;refine ⟨(by show 0<=sizeLine;decide),λo1 ho1=>?_⟩;refine ⟨(by show 0<=sizeLine;decide),λo2 ho2=>?_⟩;refine ⟨(by show 2<=sizeLine;decide),λo3 ho3=>?_⟩;have sc:=b8 (o:=.lst []) hc;have so1:=b8 (o:=.lst []) ho1;have so2:=b8 (o:=.lst []) ho2;have so3:=b8 (o:=.tup [.ref o1,.ref o2]) ho3;have S3:=so1.trans (so2.trans so3);have hc0:upd H c (.lst []) c=some (.lst []):=a8;have old0:u6 (λx=>x=c \/ ∃ o,H x=some o) (upd (upd (upd (upd H c (.lst [])) o1 (.lst [])) o2 (.lst [])) o3 (.tup [.ref o1,.ref o2])) (.ref o3) (G8 u d l r wd 0) :=
   ⟨o3,o1,o2,rfl,a8,(so2.trans so3) _ _ a8,so3 _ _ a8,(λz=>z.elim (c6 hc0 ho1).symm λ⟨o,e⟩=>by rw [sc _ _ e] at ho1;cases ho1),λz=>z.elim (c6 (so1 _ _ hc0) ho2).symm λ⟨o,e⟩=>by rw [so1 _ _ (sc _ _ e)] at ho2;cases ho2⟩
  have hc3:=S3 _ _ hc0;have SH:=sc.trans S3;generalize upd (upd (upd (upd H c (.lst [])) o1 (.lst [])) o2 (.lst [])) o3 (.tup [.ref o1,.ref o2])=H3 at old0 hc3 SH ⊢;refine Or.inl ?_;refine ⟨_,rfl,_,rfl,_,_,rfl,bh,bw,λlp ps H4 flp s4 hlp ip=>?_⟩;refine ⟨_,rfl,⟨_,SqL.of hlp⟩,?_⟩;have nlp:lp≠c:=(c6 hc3 flp).symm;have hc4:=s4 _ _ hc3;have keepH:∀ {H':Hp},c7 c H4 H'->i9 H H':=λk b o e=>k b o ((SH.trans s4) b o e) (c6 e hc);have lps:ps.length=h * wd:=by rw [ip.length,a7G]
  have hwn:h * wd<=100 * 100:=Nat.mul_le_mul bh bw;refine C5 (xs:=ps) (λk σ H'=>∃ (v5 v6:Option V) (ov:V) (ys:List V),σ=[some (.int h),some (.int wd),some wv,some (.ref c),some ov,v5,v6]/\c7 c H4 H'/\H' c=some (.lst ys)/\A5 (λx=>x=c \/ ∃ o,H x=some o) u d l r wd H' ys k/\u6 (λx=>x=c \/ ∃ o,H x=some o) H' ov (G8 u d l r wd k))
   ⟨none,none,_,[],rfl,c7.refl _ _,hc4,A5.nil,old0.same s4⟩ (λk σ H' _ ⟨_,_,_,_,_,kb,_⟩=>SqL.of (kb _ _ hlp nlp)) ?_ ?_
  ·rintro k y _ H5 hy ⟨v5,v6,ov,ys,rfl,k5,hc5,is5,io5⟩;have hk:k < h * wd:=by rw [← lps];exact (List.getElem?_eq_some_iff.mp hy).1
   have iy:IsD H5 y (C7 (m8 wd k)):=by
    obtain ⟨y',e',z⟩:=ip.get (i:=k) (d:=C7 (m8 wd k)) (by unfold a7u;simp [hk]);rw [hy] at e';cases e';exact z.keep (k5.tups hc4)
   have pin:=a5R (h:=h) w1 hk;have bb:b7h h wd u d l r:=⟨bh,bw,bu,bd,bl,br⟩;refine ⟨_,rfl,_,rfl,_,_,_,_,_,_,_,rfl,hw.keep (keepH k5).tups,iy,⟨bu,bd,bl,br⟩,⟨by omega,by omega⟩,⟨by omega,by omega⟩,λnv H6 s6 hn6=>?_⟩;have alive:∀ x,(x=c \/ ∃ o,H x=some o)->∃ o,H5 x=some o:=λx z=>z.elim (λe=>⟨.lst ys,e ▸ hc5⟩) λ⟨o,e⟩=>⟨o,keepH k5 _ _ e⟩;have in6:u6 (λx=>x=c \/ ∃ o,H x=some o) H6 nv (l0 u d l r wd k):=hn6 _ alive;have alive6:∀ x,(x=c \/ ∃ o,H x=some o)->∃ o,H6 x=some o:=λx z=>let ⟨o,e⟩:=alive x z;⟨o,s6 _ _ e⟩;have hc6:=s6 _ _ hc5;refine ⟨_,rfl,Or.inl ⟨rfl,_,SqL.of hc6⟩,?_⟩;refine ⟨_,rfl,_,rfl,_,rfl,_,_,_,_,_,rfl,alive6,in6,io5.same s6,K5 bb w1 hk,λva H7 s7 ia7=>?_⟩;refine ⟨_,rfl,_,rfl,_,_,_,_,_,rfl,(λx z=>let ⟨o,e⟩:=alive6 x z;⟨o,s7 _ _ e⟩),(io5.same s6).same s7,in6.same s7,a0j bb w1 hk,λvb H8 s8 ib8=>?_⟩;refine ⟨(by show 3<=sizeLine;decide),λt ht=>?_⟩;have st:=b8 (o:=.tup [y,va,vb]) ht;have S9:=(s6.trans (s7.trans s8)).trans st;have hc9:=S9 _ _ hc5;have step:G5 (λx=>x=c \/ ∃ o,H x=some o) u d l r wd (upd H8 t (.tup [y,va,vb])) (.ref t) k:=⟨t,y,va,vb,rfl,a8,iy.keep S9.tups,(ia7.same s8).same st,ib8.same st⟩;have ns:ys.length < sizeLine:=by rw [is5.1];exact Nat.lt_of_lt_of_le (show k < 20000 by omega) (by decide)
   refine ⟨_,_,_,rfl,rfl,hc9,ns,?_⟩;have kk:c7 c (upd H8 t (.tup [y,va,vb])) (upd (upd H8 t (.tup [y,va,vb])) c (.lst (ys ++ [.ref t]))):=λb o e n=>by rw [d5 n];exact e
   refine ⟨_,rfl,?_⟩;refine ⟨_,_,nv,ys ++ [.ref t],rfl,(k5.trans (S9.but c)).trans kk,a8,((is5.same S9).push step).but (.inl rfl) hc9 kk,?_⟩;exact ((in6.same ((s7.trans s8).trans st))).but (.inl rfl) hc9 kk
  ·rintro _ H5 ⟨v5,v6,ov,ys,rfl,k5,hc5,is5,io5⟩;rw [lps] at is5;exact ⟨_,rfl,q c ys H5 (keepH k5) hc hc5 is5⟩
def b1k:Sp:=λvs H Q _=>∃ (a:Addr) (xs:List Int) (n:Nat),vs=[.ref a,.int n]/\H a=some (.lst (xs.map V.int))/\xs.length <= 1000 /\
 ∀ H',i9 H H'->Q (.int ((xs.filter (btw 0 ((n:Int) - 1))).length:Nat)) H'
theorem a0C (xs:List Int){i:Nat}{z x y:Int}(ez:xs[i]? = some z):(xs.take (i + 1)).filter (btw x y)=(xs.take i).filter (btw x y) ++ (if btw x y z=true then [z] else []):=by
 rw [List.take_add_one,ez,List.filter_append]
 congr 1
 show List.filter _ [z]=_
 rw [List.filter_cons]
 rfl
theorem Q0 (T:Txt K mg C Ck):Df P w K mg base 1 "how_many_inside" ["places","length"] b1k:=by
 refine T.d_how_many_inside.ok a8l (λvs H Q E h=>?_) (λf cdv A outer s H vs Q E hr h=>?_)
 ·obtain ⟨a,xs,n,rfl,_⟩:=h
  rfl
 ·obtain ⟨a,xs,n,rfl,ha,bl,q⟩:=h;refine ⟨_,(@b9 _ _ _ (@d8 _ _ _ _ (@f8 _ _ _ _ _ _ _ _ _ (j9 (K:=K) rfl) (by rfl) T.n_len u2 (@a6 _ _ _ _ _ (C6 (M:=["length"]) (idx:=[1]) rfl (q9 (K:=K) rfl (pv 0)) (Q3 (by kernel_rfl)) (by decide +kernel) (by trivial) (λ_ _ _ _ _=>a1j (a9o a8G a0p b6 (pv 0) (pv 1))) (λ_ _ _ _ _=>(pv 0))) a7 G7) (by decide) (by decide) (by rfl) (by rfl)))),?_⟩;refine Or.inl ?_;refine ⟨_,rfl,_,rfl,⟨_,SqL.of ha⟩,?_⟩;refine Q2 (xs:=xs.map V.int) (λi zs H'=>H'=H/\zs=((xs.take i).filter (btw 0 ((n:Int) - 1))).map V.int) ⟨rfl,rfl⟩ (by rw [List.length_map];exact Nat.le_trans bl (by decide)) (λi zs H' _ ⟨e,_⟩=>by rw [e];exact SqL.of ha) ?_ ?_
  ·rintro i x zs _ hx ⟨rfl,rfl⟩;obtain ⟨z,ez,rfl⟩:∃ z,xs[i]? = some z/\V.int z=x:=by
    rw [List.getElem?_map] at hx;cases e:xs[i]? with
    | none=>rw [e] at hx;cases hx
    | some z=>rw [e] at hx;exact ⟨z,rfl,Option.some.inj hx⟩
   refine ⟨_,rfl,_,_,rfl,rfl,_,rfl,?_⟩;refine G1 (λy=>?_) (λy=>?_)
   ·refine ⟨_,rfl,_,_,rfl,rfl,_,rfl,?_⟩;have y':=of_decide_eq_true y;refine G1 (λy2=>?_) (λy2=>?_)
    ·have y3:z < (n:Int):=of_decide_eq_true y2;have hb:btw 0 ((n:Int) - 1) z=true:=by
      unfold btw;rw [decide_eq_true y',decide_eq_true (show z<=(n:Int) - 1 by omega)]
      rfl
     refine ⟨_,rfl,rfl,?_⟩;rw [a0C xs ez,if_pos hb,List.map_append]
     rfl
    ·have y3:¬ z < (n:Int):=of_decide_eq_false (Bool.eq_false_iff.mpr y2);have hb:¬ btw 0 ((n:Int) - 1) z=true:=by
      unfold btw;rw [decide_eq_false (show ¬ z<=(n:Int) - 1 by omega),Bool.and_false];exact Bool.false_ne_true
     refine ⟨rfl,?_⟩;rw [a0C xs ez,if_neg hb]
     simp
   ·have y':=of_decide_eq_false (Bool.eq_false_iff.mpr y);have hb:¬ btw 0 ((n:Int) - 1) z=true:=by
     unfold btw;rw [decide_eq_false y',Bool.false_and];exact Bool.false_ne_true
    refine ⟨_,rfl,y8 ⟨rfl,?_⟩⟩;rw [a0C xs ez,if_neg hb]
    simp
  ·rintro zs _ ⟨rfl,rfl⟩ l hl;refine ⟨_,_,rfl,Or.inl ⟨_,SqL.of a8,rfl⟩,?_⟩;rw [List.length_map,List.length_map,List.take_of_length_le (Nat.le_refl _)];exact q _ (b8 hl)
def b0B:Sp:=λvs H Q _=>∃ (rv av:V) (ru:l9) (h w:Nat) (x:Addr) (A:L7),vs=[.int h,.int w,rv,av]/\IsD H rv (D0 ru)/\a8C x H av A/\a0r A/\h<=100/\w<=100 /\
 ∀ H',i9 H H'->Q (.int (cnt (F3 (u0 ru)) (F1 (u0 ru) h) (F3 (u0 ru)) (F1 (u0 ru) w) A)) H'
theorem a3i (T:Txt K mg C Ck):Df P w K mg base 2 "how_many_at" ["height","width","rule","area"] b0B:=by
 refine T.d_how_many_at.ok a7y (λvs H Q E h=>?_) (λf cdv A outer s H vs Q E hr h=>?_)
 ·obtain ⟨rv,av,ru,h,w,x,A,rfl,_⟩:=h
  rfl
 ·obtain ⟨rv,av,ru,h,wd,x,A,rfl,hru,⟨t,a,b,rfl,ht,ha,hb,na,nb⟩,⟨sm1,sm2,sm3,sm4⟩,bh,bw,q⟩:=h;refine ⟨_,(@a9 _ _ _ _ _ (@p4 _ _ _ _ _ _ _ _ (b3I (@i8 _ _ _ _ _ _ _ _ (A6 hr.units) (pv 2) B6 (l7 _)) (b1s (@i8 _ _ _ _ _ _ _ _ (A6 hr.units) (pv 2) (@u7 _ _ _ _ _ (@a6 _ _ _ _ _ B6 (@a6 _ _ _ _ _ P6 a7 (by rfl)) (by rfl))) (l7 _)))).pt (@b9 _ _ _ (@d8 _ _ _ _ (@g0 _ _ _ _ _ _ _ _ F7 (@f7 _ _ _ _ _ _ _ _ _ _ (Q0 T) (hr.mono (by decide)) (@a6 _ _ _ _ _ (@j4 _ _ _ _ _ _ _ (c9 (K:=K) rfl) (pv 3) b6 (λ_ _=>rfl)) (@a6 _ _ _ _ _ (pv 0) a7 (by rfl)) f6) (by rfl) (by decide) (by rfl) (by rfl)) (@f7 _ _ _ _ _ _ _ _ _ _ (Q0 T) (hr.mono (by decide)) (@a6 _ _ _ _ _ (@j4 _ _ _ _ _ _ _ (c9 (K:=K) rfl) (pv 3) b6 (λ_ _=>rfl)) (@a6 _ _ _ _ _ (pv 1) a7 (by rfl)) f6) (by rfl) (by decide) (by rfl) (by rfl))))) j5)
   (@b9 _ _ _ (@d8 _ _ _ _ (@g0 _ _ _ _ _ _ _ _ F7 (@f8 _ _ _ _ _ _ _ _ _ (j9 (K:=K) rfl) (by rfl) T.n_len u2 (@a6 _ _ _ _ _ (@j4 _ _ _ _ _ _ _ (c9 (K:=K) rfl) (pv 3) b6 (λ_ _=>rfl)) a7 f6) (by decide) (by decide) (by rfl) (by rfl)) (@f8 _ _ _ _ _ _ _ _ _ (j9 (K:=K) rfl) (by rfl) T.n_len u2 (@a6 _ _ _ _ _ (@j4 _ _ _ _ _ _ _ (c9 (K:=K) rfl) (pv 3) b6 (λ_ _=>rfl)) a7 f6) (by decide) (by decide) (by rfl) (by rfl)))))),?_⟩
  refine b4z (u0 ru) (λR hR=>?_) (λhc H1 s1=>?_) (λhc H1 s1=>?_)
  ·refine ⟨_,rfl,Or.inr ⟨_,b0q,hru,.str _,⟨a6v ru,by decide +kernel,a4B ru⟩,_,rfl,?_⟩⟩;rw [b9n];have more:∀ (b:Bool),b=b2O ru->u0 ru=b->∀ t2,H t2=none->rEq rv (.ref t2) (upd H t2 (.tup [.str "told",.non])) (λx H'=>∃ k,x = .bl k/\R k H') \/ b1l 0 rv (.ref t2) (upd H t2 (.tup [.str "told",.non])) (λx H'=>∃ k,x = .bl k/\R k H'):=by
    intro b hb hcb t2 ht2;have st:=b8 (o:=.tup [.str "told",.non]) ht2;refine Or.inr ⟨_,a4r,hru.keep st.tups,.tup a8 (.cons (.str _) (.cons .non .nil)),⟨a6v ru,by decide +kernel,a4B ru⟩,_,rfl,?_⟩;rw [a6M,← hb,← hcb];exact hR _ st
   cases ru with
   | there=>exact U8 (hR _ (i9.refl _))
   | near=>exact y8 ⟨_,rfl,(by show 2<=sizeLine;decide),λt2 ht2=>more false rfl rfl t2 ht2⟩
   | turned=>exact y8 ⟨_,rfl,(by show 2<=sizeLine;decide),λt2 ht2=>more false rfl rfl t2 ht2⟩
   | round=>exact y8 ⟨_,rfl,(by show 2<=sizeLine;decide),λt2 ht2=>more false rfl rfl t2 ht2⟩
   | told c =>
    cases c with
    | none=>exact y8 ⟨_,rfl,(by show 2<=sizeLine;decide),λt2 ht2=>more true rfl rfl t2 ht2⟩
    | some i=>exact y8 ⟨_,rfl,(by show 2<=sizeLine;decide),λt2 ht2=>more false rfl rfl t2 ht2⟩
  ·rw [hc] at q;refine ⟨_,rfl,Or.inr (Or.inl ⟨_,_,_,_,rfl,rfl,SqT.of (s1 _ _ ht),rfl,_,rfl,?_⟩)⟩;refine ⟨_,_,_,rfl,s1 _ _ ha,sm1,λH2 s2=>?_⟩;have s12:=s1.trans s2;refine ⟨_,rfl,Or.inr (Or.inl ⟨_,_,_,_,rfl,rfl,SqT.of (s12 _ _ ht),rfl,_,rfl,?_⟩)⟩;refine ⟨_,_,_,rfl,s12 _ _ hb,sm2,λH3 s3=>?_⟩;have l1:(A.1.filter (btw 0 ((h:Int) - 1))).length <= A.1.length:=List.length_filter_le _ _;refine ⟨_,_,rfl,rfl,Or.inl ⟨by omega,by omega⟩,?_⟩;exact q _ (s12.trans s3)
  ·rw [hc] at q;refine ⟨_,rfl,Or.inr (Or.inl ⟨_,_,_,_,rfl,rfl,SqT.of (s1 _ _ ht),rfl,_,_,rfl,Or.inl ⟨_,SqL.of (s1 _ _ ha),rfl⟩,?_⟩)⟩;refine ⟨_,rfl,Or.inr (Or.inl ⟨_,_,_,_,rfl,rfl,SqT.of (s1 _ _ ht),rfl,_,_,rfl,Or.inl ⟨_,SqL.of (s1 _ _ hb),rfl⟩,?_⟩)⟩;refine ⟨_,_,rfl,rfl,Or.inl ⟨by rw [List.length_map];omega,by rw [List.length_map];omega⟩,?_⟩;have e:cnt (F3 false) (F1 false h) (F3 false) (F1 false wd) A=(A.1.length:Int) * (A.2.length:Int):=by
    unfold cnt F3 F1;simp only [Bool.false_eq_true,if_false];rw [a2i sm3,a2i sm4]
   rw [e] at q;rw [List.length_map,List.length_map];exact q _ s1
def b6A:Sp:=λvs H Q _=>∃ (wv rv:V) (ru:l9) (h w u d l r:Nat),vs=[.int h,.int w,wv,rv]/\IsD H wv (a2l u d l r)/\IsD H rv (D0 ru)/\b7h h w u d l r/\1<=w /\
 ∀ H',i9 H H'->Q (.int (b1f (u0 ru) h w u d l r)) H'
theorem b5w (T:Txt K mg C Ck):Df P w K mg base 4 "moves" ["height","width","window","rule"] b6A:=by
 refine T.d_moves.ok O8 (λvs H Q E h=>?_) (λf cdv A outer s H vs Q E hr h=>?_)
 ·obtain ⟨wv,rv,ru,h,w,u,d,l,r,rfl,_⟩:=h
  rfl
 ·obtain ⟨wv,rv,ru,h,wd,u,d,l,r,rfl,hw,hru,bb,w1,q⟩:=h;refine ⟨_,(@a9 _ _ _ _ _ (@e9 _ _ 4 _ _ _ _ O8.nd rfl (by trivial) b6 (by rfl) (by first | exact .inl rfl | exact .inr rfl))
   (@a9 _ _ _ _ _ (@r6 _ _ _ _ _ _ _ _ PassesOwn.never rfl (q9 (K:=K) rfl (@f7 _ _ _ _ _ _ _ _ _ _ (a5U T) (hr.mono (by decide)) (@a6 _ _ _ _ _ (pv 0) (@a6 _ _ _ _ _ (pv 1) (@a6 _ _ _ _ _ (pv 2) a7 (by rfl)) (by rfl)) (by rfl)) (by rfl) (by decide) (by rfl) (by rfl))) (W7 (K:=K) rfl rfl (o9 (i7 (i:=5) O8.nd rfl (by trivial)) (o9 (i7 (i:=6) O8.nd rfl (by trivial)) (o9 (i7 (i:=7) O8.nd rfl (by trivial)) R4)))) (@a9 _ _ _ _ _ (a6z (i:=4) O8.nd rfl (by trivial) (@f7 _ _ _ _ _ _ _ _ _ _ (a3i T) (hr.mono (by decide)) (@a6 _ _ _ _ _ (pv 0) (@a6 _ _ _ _ _ (pv 1) (@a6 _ _ _ _ _ (pv 3) (@a6 _ _ _ _ _ (pv 6) a7 (by rfl)) (by rfl)) (by rfl)) (by rfl)) (by rfl) (by decide) (by rfl) (by rfl)) a6A)
   (@b9 _ _ _ (a6z (i:=4) O8.nd rfl (by trivial) (@f7 _ _ _ _ _ _ _ _ _ _ (a3i T) (hr.mono (by decide)) (@a6 _ _ _ _ _ (pv 0) (@a6 _ _ _ _ _ (pv 1) (@a6 _ _ _ _ _ (pv 3) (@a6 _ _ _ _ _ (pv 7) a7 (by rfl)) (by rfl)) (by rfl)) (by rfl)) (by rfl) (by decide) (by rfl) (by rfl)) a6A))) (by intro _;rfl))
   (@b9 _ _ _ (@d8 _ _ _ _ (pv 4))))),?_⟩
  refine Or.inl ?_;refine ⟨_,rfl,_,rfl,_,rfl,_,_,_,_,_,_,_,rfl,hw,bb,w1,λa ys H1 s1 fa ha is1=>?_⟩;refine ⟨_,rfl,⟨_,SqL.of ha⟩,?_⟩;refine C5 (xs:=ys) (λk σ H'=>∃ (v5 v6 v7:Option V),σ=[some (.int h),some (.int wd),some wv,some rv,some (.int (Y9 (a0A (F3 (u0 ru)) (F1 (u0 ru) h) (F3 (u0 ru)) (F1 (u0 ru) wd) u d l r wd) k)),v5,v6,v7]/\i9 H1 H')
   ⟨none,none,none,rfl,i9.refl _⟩ (λk σ H' _ ⟨_,_,_,_,s⟩=>SqL.of (s _ _ ha)) ?_ ?_
  ·rintro k y _ H2 hy ⟨v5,v6,v7,rfl,s2⟩;have hk:k < h * wd:=by rw [← is1.1];exact (List.getElem?_eq_some_iff.mp hy).1
   obtain ⟨y',e',z⟩:=is1.2 k hk;rw [hy] at e';cases e';obtain ⟨t,pv,va,vb,rfl,ht,ip,iva,ivb⟩:=z.same s2;refine ⟨_,_,rfl,SqT.of ht,rfl,_,_,rfl,_,_,rfl,_,_,rfl,rfl,?_⟩;refine ⟨_,rfl,_,rfl,_,rfl,_,rfl,_,rfl,?_⟩;refine ⟨_,_,_,_,_,_,_,rfl,hru.keep (s1.trans s2).tups,iva.one (.inl rfl),(K5 bb w1 hk).beyond,bb.1,bb.2.1,λH3 s3=>?_⟩;refine ⟨_,_,rfl,rfl,?_⟩;refine ⟨_,rfl,_,rfl,_,rfl,_,rfl,_,rfl,?_⟩;refine ⟨_,_,_,_,_,_,_,rfl,(hru.keep (s1.trans s2).tups).keep s3.tups,(ivb.one (.inl rfl)).same s3,(a0j bb w1 hk).beyond,bb.1,bb.2.1,λH4 s4=>?_⟩;refine ⟨_,_,rfl,rfl,?_⟩;refine ⟨some pv,some va,some vb,?_,s2.trans (s3.trans s4)⟩
   show _=[_,_,_,_,some (V.int (Y9 _ k + a0A _ _ _ _ u d l r wd k)),_,_,_]
   unfold a0A;rw [← Int.add_assoc]
   rfl
  ·rintro _ H2 ⟨v5,v6,v7,rfl,s2⟩;rw [is1.1];exact ⟨_,rfl,q H2 (s1.trans s2)⟩
def b0k:Sp:=λvs H Q _=>∃ (fv rv:V) (F:List (List (Option Int))) (ru:l9),vs=[fv,rv]/\F9 F/\F.length <= 12/\d9 F<=12/\IsD H fv (i6 F)/\IsD H rv (D0 ru) /\
 ∀ (t:Addr) (H':Hp),i9 H H'->H' t=some (.tup (((y4 F ru).filterMap id).map V.int))->(y4 F ru).length <= 145->Q (.ref t) H'
theorem b6n {F:List (List (Option Int))}{i:Nat}{r:List (Option Int)}(h:F[i]? = some r):(F.take (i + 1)).flatten=(F.take i).flatten ++ r:=by
 rw [List.take_add_one,h,List.flatten_append]
 simp
theorem b3b {F:List (List (Option Int))}{m:Nat}(h:∀ r∈F,r.length <= m):F.flatten.length <= F.length * m:=by
 induction F with
 | nil=>simp
 | cons r F ih =>
  have h1:=ih λx hx=>h x (by simp [hx]);have h2:=h r (by simp);rw [List.flatten_cons,List.length_append,List.length_cons,Nat.succ_mul];omega
theorem a9U (T:Txt K mg C Ck):Df P w K mg base 2 "kinds_of" ["field","rule"] b0k:=by
 refine T.d_kinds_of.ok Z3 (λvs H Q E h=>?_) (λf cdv A outer s H vs Q E hr h=>?_)
 ·obtain ⟨fv,rv,F,ru,rfl,_⟩:=h
  rfl
 ·obtain ⟨fv,rv,F,ru,rfl,R,hH,hW,hf,hru,q⟩:=h;obtain ⟨fa,xs,rfl,hfa,hxs⟩:=w4 hf;have lxs:xs.length=F.length:=by rw [hxs.length,List.length_map]
  unfold d9 at hW;have fb:∀ i,(F.take i).flatten.length <= 144:=λi=>by
   have h1:=b3b (F:=F.take i) (m:=12) λr hr=>by
    have:=R.row r (List.mem_of_mem_take hr);omega
   have h2:(F.take i).length <= 12:=by rw [List.length_take];omega
   have:=Nat.mul_le_mul_right 12 h2
   omega
  refine ⟨_,(@a9 _ _ _ _ _ (@e9 _ _ 2 _ _ _ _ Z3.nd rfl (by trivial) (@u3 _ _ _ _ a7) (by rfl) (by first | exact .inl rfl | exact .inr rfl))
   (@a9 _ _ _ _ _ (@r6 _ _ _ _ _ _ _ _ PassesOwn.never rfl (q9 (K:=K) rfl (pv 0)) (i7 (i:=3) Z3.nd rfl (by trivial)) (@b9 _ _ _ (@x9 _ _ _ _ (@N9 _ _ _ _ _ _ _ _ _ _ _ _ PySem.F.plainAttrs_list PySem.F.slot_list_extend PySem.F.type_list_extend (MtR.or a3j W8) (pv 2) (@a6 _ _ _ _ _ (pv 3) a7 (by rfl)) (by rfl) (by rfl) (by rfl) (by rfl) (by rfl)) (by rfl))) (by intro _;rfl))
   (@a9 _ _ _ _ _ (@p4 _ _ _ _ _ _ _ _ (@a4L _ _ _ (@f8 _ _ _ _ _ _ _ _ _ (a5q (K:=K) rfl) (by rfl) T.n_isinstance a0l (@a6 _ _ _ _ _ (pv 1) (@a6 _ _ _ _ _ (b5e (v:=.ty "tuple") (by rfl) T.n_tuple w6 rfl) a7 (by rfl)) (by rfl)) (by decide) (by decide) (by rfl) (by rfl)) (by intro _;rfl)) (@b9 _ _ _ (@x9 _ _ _ _ (@N9 _ _ _ _ _ _ _ _ _ _ _ _ PySem.F.plainAttrs_list PySem.F.slot_list_append PySem.F.type_list_append z9 (pv 2) (@a6 _ _ _ _ _ (@j4 _ _ _ _ _ _ _ (c9 (K:=K) rfl) (pv 1) b6 (λ_ _=>rfl)) a7 f6) (by rfl) (by rfl) (by rfl) (by rfl) (by rfl)) (by rfl))) j5)
   (@b9 _ _ _ (@d8 _ _ _ _ (@f7 _ _ _ _ _ _ _ _ _ _ (E8 T) (hr.mono (by decide)) (@a6 _ _ _ _ _ (pv 2) a7 (by rfl)) (by rfl) (by decide) (by rfl) (by rfl))))))),?_⟩
  refine ⟨(by show 0<=sizeLine;decide),λc hc=>?_⟩;have s1:=b8 (o:=.lst []) hc;have hc1:upd H c (.lst []) c=some (.lst []):=a8;have keepH:∀ {H':Hp},c7 c (upd H c (.lst [])) H'->i9 H H':=λk b o e=>k b o (s1 b o e) (c6 e hc);generalize upd H c (.lst [])=H1 at s1 hc1 keepH ⊢;refine Or.inr ?_;refine ⟨_,rfl,_,rfl,⟨_,SqT.of (s1 _ _ hfa)⟩,?_⟩;refine b4g (K:=K) (xs:=xs) (λi σ H'=>∃ v3:Option V,σ=[some (.ref fa),some rv,some (.ref c),v3]/\c7 c H1 H'/\H' c=some (.lst ((F.take i).flatten.map d6))) ⟨none,rfl,c7.refl _ _,hc1⟩ (λi σ H' _ ⟨_,_,k,_⟩=>SqT.of (keepH k _ _ hfa)) ?_ ?_
  ·rintro i y _ H2 hy ⟨v3,rfl,k2,hc2⟩;have hi:i < F.length:=by rw [← lxs];exact (List.getElem?_eq_some_iff.mp hy).1
   obtain ⟨ra,era,hra⟩:=B7 hxs hi;obtain rfl:y = .ref ra:=by rw [hy] at era;exact Option.some.inj era
   refine ⟨_,rfl,Or.inl ⟨rfl,_,SqL.of hc2⟩,_,rfl,?_⟩;have lr:=R.row _ (List.getElem_mem hi);refine Or.inr ⟨_,_,_,_,rfl,rfl,hc2,keepH k2 _ _ hra,?_,?_⟩
   ·rw [List.length_map,List.length_map];have:=fb i;exact Nat.le_trans (show _<=20000 by omega) (by decide)
   ·refine ⟨_,rfl,λb o e n=>by rw [d5 n];exact k2 b o e n,?_⟩;rw [a8,b6n (List.getElem?_eq_getElem hi),List.map_append]
  rintro _ H2 ⟨v3,rfl,k2,hc2⟩;rw [List.take_of_length_le (by omega)] at hc2;have fbF:=fb F.length;rw [List.take_length] at fbF;have S2:=keepH k2;dsimp only;refine O7 (fun σ' H'=>σ'=[some (.ref fa),some rv,some (.ref c),v3]/\i9 H H'/\H' c=some (.lst ((y4 F ru).map d6))) ?_ (λrest=>?_)
  ·rintro _ H3 ⟨rfl,s3,hc3⟩;have lk:(y4 F ru).length <= 145:=by
    unfold y4;rw [List.length_append];cases ru with
    | told c=>show _ + 1<=_;omega
    | _=>show _ + 0<=_;omega
   exact ⟨_,rfl,c,y4 F ru,rfl,.inr hc3,by omega,λt H4 s4 ht=>q t H4 (s3.trans s4) ht lk⟩
  ·cases ru with
   | told cl =>
    obtain ⟨ta,ys,rfl,hta,hys⟩:=hru.tuple_inv;refine ⟨_,rfl,_,_,_,_,rfl,Or.inl ⟨rfl,_,S2 _ _ hta⟩,rfl,_,rfl,?_⟩;refine U8 ?_;have ey:ys=[.str "told",d6 cl]:=by
     cases hys with
     | cons a1 h2=>cases a1;cases h2 with
      | cons a2 h2=>cases h2;congr 1;congr 1;cases cl with
       | none=>cases a2;rfl
       | some n=>cases a2;rfl
    subst ey;refine ⟨_,rfl,Or.inl ⟨rfl,_,SqL.of hc2⟩,_,rfl,Or.inr (Or.inl ⟨_,_,_,_,rfl,rfl,SqT.of (S2 _ _ hta),rfl,?_⟩)⟩;refine ⟨_,_,_,rfl,rfl,hc2,(by rw [List.length_map];exact Nat.lt_of_le_of_lt (show _<=10000 by omega) (by decide)),?_⟩;refine rest _ _ ⟨rfl,λb o e=>?_,?_⟩
    ·rw [d5 (c6 e hc)];exact S2 _ _ e
    ·rw [a8]
     show _=some (HO.lst ((F.flatten ++ [cl]).map d6))
     rw [List.map_append];rfl
   | _ =>
    have e:=B0 hru;subst e;refine ⟨_,rfl,_,_,_,_,rfl,rfl,rfl,_,rfl,?_⟩;refine y8 ?_;refine rest _ _ ⟨rfl,S2,?_⟩;rw [hc2]
    show _=some (HO.lst ((F.flatten ++ []).map d6))
    rw [List.append_nil]
def a6Q:Sp:=λvs H Q _=>∃ (fv rv av:V) (F:List (List (Option Int))) (ru:l9) (X:Addr->Prop) (A:L7),vs=[fv,rv,av]/\F9 F/\IsD H fv (i6 F)/\IsD H rv (D0 ru)/\u6 X H av A/\a0r A /\
 ∀ (l:Addr) (H':Hp),H l=none->i9 H H'->H' l=some (.lst ((j6 F ru A).map V.int))->Q (.ref l) H'
theorem a0B {f:Int->List Int}{R:List Int}{i:Nat}{z:Int}(h:R[i]? = some z):(R.take (i + 1)).flatMap f=(R.take i).flatMap f ++ f z:=by
 rw [List.take_add_one,h,List.flatMap_append]
 simp
theorem a7k (T:Txt K mg C Ck):Df P w K mg base 3 "numbers_at" ["field","rule","area"] a6Q:=by
 refine T.d_numbers_at.ok L8 (λvs H Q E h=>?_) (λf cdv A outer s H vs Q E hr h=>?_)
 ·obtain ⟨fv,rv,av,F,ru,X,A,rfl,_⟩:=h
  rfl
 ·obtain ⟨fv,rv,av,F,ru,X,A,rfl,R,hf,hru,⟨t,la,lb,rfl,ht,ha,hb,_,_⟩,⟨sm1,sm2,_⟩,q⟩:=h;refine ⟨_,(@a9 _ _ _ _ _ (@e9 _ _ 3 _ _ _ _ L8.nd rfl (by trivial) (@u3 _ _ _ _ a7) (by rfl) (by first | exact .inl rfl | exact .inr rfl))
   (@a9 _ _ _ _ _ (@r6 _ _ _ _ _ _ _ _ PassesOwn.never rfl (q9 (K:=K) rfl (@j4 _ _ _ _ _ _ _ (c9 (K:=K) rfl) (pv 2) b6 (λ_ _=>rfl))) (i7 (i:=4) L8.nd rfl (by trivial)) (@b9 _ _ _ (@r6 _ _ _ _ _ _ _ _ PassesOwn.never rfl (q9 (K:=K) rfl (@j4 _ _ _ _ _ _ _ (c9 (K:=K) rfl) (pv 2) b6 (λ_ _=>rfl))) (i7 (i:=5) L8.nd rfl (by trivial)) (@b9 _ _ _ (@x9 _ _ _ _ (@N9 _ _ _ _ _ _ _ _ _ _ _ _ PySem.F.plainAttrs_list PySem.F.slot_list_extend PySem.F.type_list_extend (MtR.or a3j W8) (pv 3) (@a6 _ _ _ _ _ (@f7 _ _ _ _ _ _ _ _ _ _ (E8 T) (hr.mono (by decide)) (@a6 _ _ _ _ _ (@f7 _ _ _ _ _ _ _ _ _ _ (O2 T) (hr.mono (by decide)) (@a6 _ _ _ _ _ (pv 0) (@a6 _ _ _ _ _ (pv 1) (@a6 _ _ _ _ _ (pv 4) (@a6 _ _ _ _ _ (pv 5) a7 (by rfl)) (by rfl)) (by rfl)) (by rfl)) (by rfl) (by decide) (by rfl) (by rfl)) a7 d4) (by rfl) (by decide) (by rfl) (by rfl)) a7 d4) (by rfl) (by rfl) (by rfl) (by rfl) (by rfl)) (by rfl))) (by intro _;rfl))) (by intro _;rfl))
   (@b9 _ _ _ (@d8 _ _ _ _ (pv 3))))),?_⟩
  refine ⟨(by show 0<=sizeLine;decide),λc hc=>?_⟩;have s1:=b8 (o:=.lst []) hc;have hc1:upd H c (.lst []) c=some (.lst []):=a8;have keepH:∀ {H':Hp},c7 c (upd H c (.lst [])) H'->i9 H H':=λk b o e=>k b o (s1 b o e) (c6 e hc);generalize upd H c (.lst [])=H1 at s1 hc1 keepH ⊢;have bnd:∀ i,((A.1.take i).flatMap λi=>A.2.flatMap λj=>F2 F ru i j).length <= 1000000:=λi=>by
   have h1:=a9V F ru (A.1.take i,A.2);have h2:(A.1.take i).length <= 1000:=by rw [List.length_take];omega
   have h3:=Nat.mul_le_mul h2 sm2;exact Nat.le_trans h1 h3
  refine Or.inl ?_;refine ⟨_,rfl,Or.inr (Or.inl ⟨_,_,_,_,rfl,rfl,SqT.of (s1 _ _ ht),rfl,?_⟩)⟩;refine ⟨_,rfl,⟨_,SqL.of (s1 _ _ ha)⟩,?_⟩;refine C5 (K:=K) (xs:=A.1.map V.int) (λi σ H'=>∃ v4 v5:Option V,σ=[some fv,some rv,some (.ref t),some (.ref c),v4,v5]/\c7 c H1 H'/\H' c=some (.lst (((A.1.take i).flatMap λi=>A.2.flatMap λj=>F2 F ru i j).map V.int))) ⟨none,none,rfl,c7.refl _ _,hc1⟩ (λi σ H' _ ⟨_,_,_,k,_⟩=>SqL.of (keepH k _ _ ha)) ?_ ?_
  ·rintro i y _ H2 hy ⟨v4,v5,rfl,k2,hc2⟩;obtain ⟨z,ez,rfl⟩:=a0i hy;have S2:=keepH k2;refine Or.inl ?_;refine ⟨_,rfl,Or.inr (Or.inl ⟨_,_,_,_,rfl,rfl,SqT.of (S2 _ _ ht),rfl,?_⟩)⟩;refine ⟨_,rfl,⟨_,SqL.of (S2 _ _ hb)⟩,?_⟩;refine C5 (K:=K) (xs:=A.2.map V.int) (λj σ H'=>∃ v5:Option V,σ=[some fv,some rv,some (.ref t),some (.ref c),some (.int z),v5]/\c7 c H1 H'/\H' c=some (.lst ((((A.1.take i).flatMap λi=>A.2.flatMap λj=>F2 F ru i j) ++ (A.2.take j).flatMap λj=>F2 F ru z j).map V.int))) ⟨v5,rfl,k2,by rw [hc2];simp⟩ (λj σ H' _ ⟨_,_,k,_⟩=>SqL.of (keepH k _ _ hb)) ?_ ?_
   ·rintro j y _ H3 hy ⟨v5,rfl,k3,hc3⟩;obtain ⟨z2,ez2,rfl⟩:=a0i hy;have S3:=keepH k3;refine ⟨_,rfl,Or.inl ⟨rfl,_,SqL.of hc3⟩,?_⟩;refine ⟨_,rfl,_,rfl,_,rfl,_,rfl,_,_,F,ru,_,_,rfl,R,hf.keep S3.tups,hru.keep S3.tups,λp hp=>?_⟩;have s4:=b8 (o:=.tup ((k0 F ru z z2).map d6)) hp;refine ⟨_,_,rfl,.inl a8,Nat.le_trans (E2 F ru z z2) (by decide),λp5 H5 s5 hp5=>?_⟩;have hc5:=s5 _ _ (s4 _ _ hc3);refine Or.inr ⟨_,_,_,_,rfl,rfl,hc5,hp5,?_,?_⟩
    ·have h1:=bnd i;have h2:=a8p (f:=λj=>F2 F ru z j) (a4s F ru z) (A.2.take j);have h3:(A.2.take j).length <= 1000:=by rw [List.length_take];omega
     have h4:=a4s F ru z z2;unfold F2 at h4;rw [List.length_map,List.length_map,List.length_append];exact Nat.le_trans (show _<=2000000 by omega) (by decide)
    ·refine ⟨_,rfl,λb o e n=>by rw [d5 n];exact s5 _ _ (s4 _ _ (k3 b o e n)),?_⟩;rw [a8,a0B ez2,← List.append_assoc];simp only [List.map_append]
     rfl
   ·rintro _ H3 ⟨v5,rfl,k3,hc3⟩;rw [List.length_map,List.take_length] at hc3;refine ⟨_,_,rfl,k3,?_⟩;rw [hc3,a0B ez]
  ·rintro _ H2 ⟨v4,v5,rfl,k2,hc2⟩;rw [List.length_map,List.take_length] at hc2;exact ⟨_,rfl,q c H2 hc (keepH k2) hc2⟩
def b0A (C:Addr):Sp:=λvs H Q _=>∃ (x d:Addr) (sv:V) (ks L:List Int) (a b:Int),vs=[.ref x,sv]/\Q7 C H x d ks L/\IsD H sv (C7 (a,b))/\M9 a b/\L.length <= 1000000/\∀ H',i9 H H'->Q (d6 (p7 L a b)) H'
theorem b8b (T:Txt K mg C Ck):Df P w K mg base 2 "told_of" ["tally","share"] (b0A C):=by
 refine T.d_told_of.ok a6y (λvs H Q E h=>?_) (λf cdv A outer s H vs Q E hr h=>?_)
 ·obtain ⟨x,d,sv,ks,L,a,b,rfl,_⟩:=h
  rfl
 ·obtain ⟨x,d,sv,ks,L,a,b,rfl,t,hs,hS,hL,q⟩:=h;refine ⟨_,(@a9 _ _ _ _ _ (@e9 _ _ 2 _ _ _ _ a6y.nd rfl (by trivial) (@b0t _ _ _ _ _ _ _ _ _ _ _ (a6i T) T.cl_Tally (hr.mono (by decide)) (pv 0) (by rfl)) (by rfl) (by first | exact .inl rfl | exact .inr rfl))
   (@a9 _ _ _ _ _ (@p4 _ _ _ _ _ _ _ _ (@i8 _ _ _ _ _ _ _ _ (A6 hr.units) (pv 2) b6 (l7 _)) (@b9 _ _ _ (@d8 _ _ _ _ P6)) j5)
   (@b9 _ _ _ (@d8 _ _ _ _ (@b1t _ _ _ _ _ _ _ _ _ _ _ _ _ _ (a4w T) T.cl_Tally (hr.mono (by decide)) (pv 0) (@a6 _ _ _ _ _ (@f7 _ _ _ _ _ _ _ _ _ _ (J2 T) (hr.mono (by decide)) (@a6 _ _ _ _ _ (pv 2) (@a6 _ _ _ _ _ (pv 1) a7 (by rfl)) (by rfl)) (by rfl) (by decide) (by rfl) (by rfl)) a7 d4) (by rfl) (by rfl) (by rfl)))))),?_⟩
  obtain ⟨dy,hx⟩:=t.1.1;refine ⟨_,rfl,x,dy,_,rfl,hx,b9D (by decide +kernel),?_⟩;dsimp only [a6D,List.nil_append,List.cons_append];refine b7M t ?_;refine ⟨_,rfl,Or.inl ⟨rfl,_,rfl,?_⟩⟩
  by_cases z:L=[]
  ·subst z;refine U8 ?_;have:=q H (i9.refl _);rw [R7] at this;exact this
  ·have lp:1<=L.length:=List.length_pos_iff.mpr z;rw [decide_eq_false (λe=>by have:=V.int.inj e;omega)];refine y8 ?_;refine ⟨_,rfl,x,dy,_,rfl,hx,b9D (by decide +kernel),?_⟩;refine ⟨_,rfl,_,rfl,L.length,sv,a,b,rfl,Shr.of hs,hS,?_⟩;dsimp only [a6D,List.nil_append,List.cons_append];obtain ⟨hpl,em⟩:=O1 hS z;have pb:=E6 hS lp;refine b8T t pb.1 pb.2 λk H6 s6 hk=>?_;have ek:p7 L a b=some k:=by
    rw [em,← hk];exact (List.getElem?_eq_getElem hpl).symm
   have:=q H6 s6;rw [ek] at this;exact this
def b9x (F:List (List (Option Int))):Prop:=F.length <= 12/\d9 F<=12
def b7J (C:Addr):Sp:=λvs H Q _=>∃ (fv wv rv sv:V) (F:List (List (Option Int))) (ru:l9) (u d l r:Nat) (a b:Int),vs=[fv,wv,rv,sv]/\F9 F/\b9x F/\IsD H fv (i6 F)/\IsD H wv (a2l u d l r)/\IsD H rv (D0 ru)/\IsD H sv (C7 (a,b))/\M9 a b /\
 (u<=100/\d<=100/\l<=100/\r<=100)/\∀ (t:Addr) (v:V) (H':Hp),i9 H H'->H' t=some (.tup [v,.int (R6 F ru u d l r (d9 F) (F.length * d9 F))])->IsD H' v (i6 (fil F ru u d l r a b))->Q (.ref t) H'
structure b4X (F G:List (List (Option Int)))(w k:Nat)(rs:List Addr)(H:Hp):Prop where
 row:∀ i x,rs[i]? = some x->H x=some (.lst ((B8 F G w k i).map d6))
theorem fil_cell {F:List (List (Option Int))}{ru:l9}{u d l r:Nat}{a b:Int}{i j:Nat}(hi:i < F.length)(hj:j < d9 F):m5 (fil F ru u d l r a b) i j=G2 F ru u d l r a b i j:=by
 refine a9B (a5j hi) ?_;rw [List.getElem?_map,List.getElem?_range hj];rfl
theorem b3G (T:Txt K mg C Ck):Df P w K mg base 5 "slid" ["field","window","rule","share"] (b7J C):=by
 refine T.d_slid.ok G4 (λvs H Q E h=>?_) (λf cdv A outer s H vs Q E hr h=>?_)
 ·obtain ⟨fv,wv,rv,sv,F,ru,u,d,l,r,a,b,rfl,_⟩:=h
  rfl
 ·obtain ⟨fv,wv,rv,sv,F,ru,u,d,l,r,a,b,rfl,R,⟨hH,hW⟩,hf,hw,hru,hs,hS,bb,q⟩:=h;obtain ⟨fa,xs,rfl,hfa,hxs⟩:=w4 hf;have lxs:xs.length=F.length:=by rw [hxs.length,List.length_map]
  have h1:=R.h1;have w1:1<=d9 F:=R.w1;refine ⟨_,(@a9 _ _ _ _ _ (@e9 _ _ 4 _ _ _ _ G4.nd rfl (by trivial) (b9s (a4F T) (hr.mono (by decide)) T.g_Tally (@a6 _ _ _ _ _ (@f7 _ _ _ _ _ _ _ _ _ _ (a9U T) (hr.mono (by decide)) (@a6 _ _ _ _ _ (pv 0) (@a6 _ _ _ _ _ (pv 2) a7 (by rfl)) (by rfl)) (by rfl) (by decide) (by rfl) (by rfl)) a7 d4)) (by rfl) (by first | exact .inl rfl | exact .inr rfl))
   (@a9 _ _ _ _ _ (a1Z (i:=5) G4.nd rfl (by trivial) (M:=[]) (idx:=[]) rfl (q9 (K:=K) rfl (pv 0)) (Q3 (by kernel_rfl)) (by decide +kernel) (by trivial) (λ_ _ _ _ _=>a8o) (λ_ _ _ _ _=>(@m9 _ _ _ _ _ _ _ _ _ (A8.or (X5 (K:=K) rfl) (M4 rfl)) (by rfl) T.n_list a6x (@a6 _ _ _ _ _ (pv 0) a7 (by rfl)) (by decide) (by decide) (by rfl) (by rfl))))
   (@a9 _ _ _ _ _ (@e9 _ _ 6 _ _ _ _ G4.nd rfl (by trivial) b6 (by rfl) (by first | exact .inl rfl | exact .inr rfl))
   (@a9 _ _ _ _ _ (@r6 _ _ _ _ _ _ _ _ PassesOwn.never rfl (q9 (K:=K) rfl (@f7 _ _ _ _ _ _ _ _ _ _ (a5U T) (hr.mono (by decide)) (@a6 _ _ _ _ _ (@f8 _ _ _ _ _ _ _ _ _ (j9 (K:=K) rfl) (by rfl) T.n_len u2 (@a6 _ _ _ _ _ (pv 0) a7 (by rfl)) (by decide) (by decide) (by rfl) (by rfl)) (@a6 _ _ _ _ _ (@f8 _ _ _ _ _ _ _ _ _ (j9 (K:=K) rfl) (by rfl) T.n_len u2 (@a6 _ _ _ _ _ (@j4 _ _ _ _ _ _ _ (c9 (K:=K) rfl) (pv 0) b6 (λ_ _=>rfl)) a7 f6) (by decide) (by decide) (by rfl) (by rfl)) (@a6 _ _ _ _ _ (pv 1) a7 (by rfl)) d4) d4) (by rfl) (by decide) (by rfl) (by rfl))) (W7 (K:=K) rfl rfl (o9 (i7 (i:=7) G4.nd rfl (by trivial)) (o9 (i7 (i:=8) G4.nd rfl (by trivial)) (o9 (i7 (i:=9) G4.nd rfl (by trivial)) R4)))) (@a9 _ _ _ _ _ (@e9 _ _ 10 _ _ _ _ G4.nd rfl (by trivial) (@f7 _ _ _ _ _ _ _ _ _ _ (a7k T) (hr.mono (by decide)) (@a6 _ _ _ _ _ (pv 0) (@a6 _ _ _ _ _ (pv 2) (@a6 _ _ _ _ _ (pv 8) a7 (by rfl)) (by rfl)) (by rfl)) (by rfl) (by decide) (by rfl) (by rfl)) (by rfl) (by first | exact .inl rfl | exact .inr rfl))
   (@a9 _ _ _ _ _ (@e9 _ _ 11 _ _ _ _ G4.nd rfl (by trivial) (@f7 _ _ _ _ _ _ _ _ _ _ (a7k T) (hr.mono (by decide)) (@a6 _ _ _ _ _ (pv 0) (@a6 _ _ _ _ _ (pv 2) (@a6 _ _ _ _ _ (pv 9) a7 (by rfl)) (by rfl)) (by rfl)) (by rfl) (by decide) (by rfl) (by rfl)) (by rfl) (by first | exact .inl rfl | exact .inr rfl))
   (@a9 _ _ _ _ _ (@r6 _ _ _ _ _ _ _ _ PassesOwn.never rfl (q9 (K:=K) rfl (pv 10)) (i7 (i:=12) G4.nd rfl (by trivial)) (@b9 _ _ _ (@x9 _ _ _ _ (@b1t _ _ _ _ _ _ _ _ _ _ _ _ _ _ (a3w T) T.cl_Tally (hr.mono (by decide)) (pv 4) (@a6 _ _ _ _ _ (pv 12) a7 (by rfl)) (by rfl) (by rfl) (by rfl)) (by rfl))) (by intro _;rfl))
   (@a9 _ _ _ _ _ (@r6 _ _ _ _ _ _ _ _ PassesOwn.never rfl (q9 (K:=K) rfl (pv 11)) (i7 (i:=12) G4.nd rfl (by trivial)) (@b9 _ _ _ (@x9 _ _ _ _ (@b1t _ _ _ _ _ _ _ _ _ _ _ _ _ _ (a2q T) T.cl_Tally (hr.mono (by decide)) (pv 4) (@a6 _ _ _ _ _ (pv 12) a7 (by rfl)) (by rfl) (by rfl) (by rfl)) (by rfl))) (by intro _;rfl))
   (@a9 _ _ _ _ _ (a6z (i:=6) G4.nd rfl (by trivial) (@g0 _ _ _ _ _ _ _ _ u9 (@f8 _ _ _ _ _ _ _ _ _ (j9 (K:=K) rfl) (by rfl) T.n_len u2 (@a6 _ _ _ _ _ (pv 10) a7 (by rfl)) (by decide) (by decide) (by rfl) (by rfl)) (@f8 _ _ _ _ _ _ _ _ _ (j9 (K:=K) rfl) (by rfl) T.n_len u2 (@a6 _ _ _ _ _ (pv 11) a7 (by rfl)) (by decide) (by decide) (by rfl) (by rfl))) a6A)
   (@b9 _ _ _ (@a1s _ _ _ _ _ _ (@f7 _ _ _ _ _ _ _ _ _ _ (b8b T) (hr.mono (by decide)) (@a6 _ _ _ _ _ (pv 4) (@a6 _ _ _ _ _ (pv 3) a7 (by rfl)) (by rfl)) (by rfl) (by decide) (by rfl) (by rfl)) (a4Z (@j4 _ _ _ _ _ _ _ (c9 (K:=K) rfl) (pv 5) (@j4 _ _ _ _ _ _ _ (c9 (K:=K) rfl) (pv 7) b6 (λ_ _=>rfl)) (λ_ _=>rfl)) (@j4 _ _ _ _ _ _ _ (c9 (K:=K) rfl) (pv 7) b6 (λ_ _=>rfl)) a4y) (by rfl) (by rfl) (by rfl)))))))) (by intro _;rfl))
   (@b9 _ _ _ (@d8 _ _ _ _ (@u7 _ _ _ _ _ (@a6 _ _ _ _ _ (@m9 _ _ _ _ _ _ _ _ _ (o6 (K:=K) rfl) (by rfl) T.n_tuple w6 (@a6 _ _ _ _ _ (C6 (M:=[]) (idx:=[]) rfl (q9 (K:=K) rfl (pv 5)) (Q3 (by kernel_rfl)) (by decide +kernel) (by trivial) (λ_ _ _ _ _=>a8o) (λ_ _ _ _ _=>(@m9 _ _ _ _ _ _ _ _ _ (o6 (K:=K) rfl) (by rfl) T.n_tuple w6 (@a6 _ _ _ _ _ (pv 0) a7 (by rfl)) (by decide) (by decide) (by rfl) (by rfl)))) a7 G7) (by decide) (by decide) (by rfl) (by rfl)) (@a6 _ _ _ _ _ (pv 6) a7 (by rfl)) d4)))))))),?_⟩
  refine ⟨_,rfl,_,rfl,.ref fa,rv,F,ru,rfl,R,hH,hW,hf,hru,λkt H1 s1 hkt lk=>?_⟩;dsimp only [a6D,List.nil_append,List.cons_append];have lks:((y4 F ru).filterMap id).length <= 1000:=by
   have:=List.length_filterMap_le id (y4 F ru)
   omega
  refine b9M hkt lks λx td H2 fx ftd s2 T2=>?_;have hmem:∀ A:L7,∀ n∈j6 F ru A,n∈f9 ((y4 F ru).filterMap id):=λA n hn=>O4.mpr (b6o hn);generalize f9 ((y4 F ru).filterMap id)=ks at T2 hmem;have S2:=s1.trans s2;refine O6 (K:=K) (xs:=xs) (λk h=>⟨_,rfl,h⟩) (.inl (S2 _ _ hfa)) (λi zs H'=>∃ rs:List Addr,zs=rs.map V.ref /\ rs.length=i/\rs.Nodup /\ i9 H2 H'/\(∀ y∈rs,H2 y=none)/\(∀ y∈rs,∃ o,H' y=some o)/\∀ j y,rs[j]? = some y->H' y=some (.lst ((F.getD j []).map d6))) ⟨[],rfl,rfl,List.Pairwise.nil,i9.refl _,(λy hy=>by cases hy),(λy hy=>by cases hy),λj y h=>by simp at h⟩ (by rw [lxs];exact Nat.le_trans (show _<=1000 by omega) (by decide)) (λi zs H' _ ⟨_,_,_,_,e,_⟩=>by rw [e _ _ (S2 _ _ hfa),S2 _ _ hfa]) ?_ ?_
  ·rintro i y zs H3 hy ⟨rs,rfl,lr,nd,s3,fr,al,rw3⟩;have hi:i < F.length:=by rw [← lxs];exact (List.getElem?_eq_some_iff.mp hy).1
   obtain ⟨ra,era,hra⟩:=B7 hxs hi;obtain rfl:y = .ref ra:=by rw [hy] at era;exact Option.some.inj era
   refine b3t ?_;refine ⟨_,rfl,Or.inl ⟨_,_,rfl,Or.inr (SqT.of (s3 _ _ (S2 _ _ hra))),λl3 hl3=>?_⟩⟩;have s4:=b8 (o:=.lst (F[i].map d6)) hl3;have nin:l3 ∉ rs:=λh=>by obtain ⟨o,e⟩:=al _ h;rw [hl3] at e;cases e
   refine ⟨rs ++ [l3],by rw [List.map_append];rfl,by rw [List.length_append,lr];rfl,?_,s3.trans s4,λy hy=>?_,λy hy=>?_,λj y hyj=>?_⟩
   ·exact List.nodup_append.mpr ⟨nd,by simp,λa ha b hb=>by
     have:b=l3:=by simpa using hb
     subst this;exact λe=>nin (e ▸ ha)⟩
   ·rcases List.mem_append.mp hy with m | m
    ·exact fr y m
    ·have:y=l3:=by simpa using m
     subst this;exact s3.free hl3
   ·rcases List.mem_append.mp hy with m | m
    ·obtain ⟨o,e⟩:=al y m;exact ⟨o,s4 _ _ e⟩
    ·have:y=l3:=by simpa using m
     subst this;exact ⟨_,a8⟩
   ·by_cases z:j < rs.length
    ·rw [List.getElem?_append_left z] at hyj;exact s4 _ _ (rw3 j y hyj)
    ·have hj:j=i:=by
      have:=(List.getElem?_eq_some_iff.mp hyj).1;rw [List.length_append] at this;have:[l3].length=1:=rfl
      omega
     subst hj;rw [List.getElem?_append_right (by omega),show j - rs.length=0 by omega] at hyj;have:l3=y:=by simpa using hyj
     subst this;rw [a8,List.getD_eq_getElem?_getD,List.getElem?_eq_getElem hi]
     rfl
  rintro zs H3 ⟨rs,rfl,lr,nd,s3,fr,al,rw3⟩ tl htl;rw [lxs] at lr;have s4:=b8 (o:=.lst (rs.map V.ref)) htl;have e4:upd H3 tl (.lst (rs.map V.ref)) tl=some (.lst (rs.map V.ref)):=a8;have ntr:∀ y∈rs,y≠tl:=λy hy=>by obtain ⟨o,e⟩:=al y hy;exact c6 e htl
  have row4:∀ j y,rs[j]? = some y->upd H3 tl (.lst (rs.map V.ref)) y=some (.lst ((F.getD j []).map d6)):=λj y h=>s4 _ _ (rw3 j y h);have S4:i9 H2 (upd H3 tl (.lst (rs.map V.ref))):=s3.trans s4;generalize upd H3 tl (.lst (rs.map V.ref))=H4 at e4 row4 S4 ⊢;have S24:=S2.trans S4;obtain ⟨fa',xs',b0,ys0,efa,hfa0,la0,hb0,hb0',lb0⟩:=B4 R hf;cases efa;refine Or.inl ?_;refine ⟨_,rfl,_,_,rfl,Or.inr ⟨_,SqT.of (S24 _ _ hfa),rfl⟩,?_⟩;refine ⟨_,rfl,Or.inr (Or.inl ⟨_,_,_,_,rfl,rfl,SqT.of (S24 _ _ hfa0),hb0,_,_,rfl,Or.inr ⟨_,SqT.of (S24 _ _ hb0'),rfl⟩,?_⟩)⟩;refine ⟨_,rfl,wv,F.length,d9 F,u,d,l,r,by rw [lxs,lb0];rfl,hw.keep S24.tups,⟨by omega,by omega,bb.1,bb.2.1,bb.2.2.1,bb.2.2.2⟩,w1,λsl ys H5 s5 fsl hsl is5=>?_⟩;have bs:b7h F.length (d9 F) u d l r:=⟨by omega,by omega,bb.1,bb.2.1,bb.2.2.1,bb.2.2.2⟩;have S5:=S24.trans s5;have T5:=(T2.same S4).same s5;obtain ⟨dy,hx5⟩:=T5.1.1;have e5:=s5 _ _ e4;have row5:∀ j y,rs[j]? = some y->H5 y=some (.lst ((F.getD j []).map d6)):=λj y h=>s5 _ _ (row4 j y h);have rsl:∀ y∈rs,∃ zs,H5 y=some (.lst zs):=λy hy=>by
   obtain ⟨j,hj⟩:=List.getElem?_of_mem hy;exact ⟨_,row5 j y hj⟩
  have nXr:∀ y∈rs,y≠sl:=λy hy=>by
   obtain ⟨j,hj⟩:=List.getElem?_of_mem hy;exact c6 (row4 j y hj) fsl
  have hYX:∀ y,(y∈rs \/ y=td)->(y=sl \/ ∃ o,H4 y=some o) \/ ∀ zs,H5 y≠some (.lst zs):=λy hy=>by
   rcases hy with h | h
   ·obtain ⟨j,hj⟩:=List.getElem?_of_mem h;exact .inl (.inr ⟨_,row4 j y hj⟩)
   ·subst h;exact .inr λzs e=>by rw [T5.1.2] at e;cases e
  have hYt:∀ y zs,(y∈rs \/ y=td)->H5 y≠some (.tup zs):=λy zs hy e=>by
   rcases hy with h | h
   ·obtain ⟨zs',e'⟩:=rsl y h;rw [e'] at e;cases e
   ·subst h;rw [T5.1.2] at e;cases e
  have keepY:∀ {H':Hp},(∀ b o,H5 b=some o->¬ (b∈rs \/ b=td)->H' b=some o)->Q5 H H':=λk c zs e=>k _ _ (S5 _ _ e) λy=>hYt _ _ y (S5 _ _ e);have nxY:¬ (x∈rs \/ x=td):=λy=>by
   rcases y with h | h
   ·obtain ⟨zs,e⟩:=rsl x h;rw [hx5] at e;cases e
   ·exact T5.ne h
  have nslY:¬ (sl∈rs \/ sl=td):=λy=>by
   rcases y with h | h
   ·exact nXr sl h rfl
   ·rw [h,T5.1.2] at hsl;cases hsl
  have ntlY:¬ (tl∈rs \/ tl=td):=λy=>by
   rcases y with h | h
   ·exact ntr tl h rfl
   ·rw [h,T5.1.2] at e5;cases e5
  have ntd:td ∉ rs:=λh=>by obtain ⟨zs,e⟩:=rsl td h;rw [T5.1.2] at e;cases e
  have gz:∀ j,j < F.length -> B8 F (fil F ru u d l r a b) (d9 F) 0 j=F.getD j []:=λj hj=>by
   have lj:(F.getD j []).length=d9 F:=by
    rw [List.getD_eq_getElem?_getD,List.getElem?_eq_getElem hj];exact R.row _ (List.getElem_mem hj)
   apply List.ext_getElem
   ·rw [a1i,lj]
   ·intro n h2 h3;rw [a5M,if_neg (by omega)];have e:F[j]? = some (F.getD j []):=by rw [List.getD_eq_getElem?_getD,List.getElem?_eq_getElem hj];rfl
    exact a9B e (List.getElem?_eq_getElem h3)
  refine ⟨_,rfl,⟨_,SqL.of hsl⟩,?_⟩;refine C5 (K:=K) (xs:=ys) (λk σ H'=>∃ (v7 v8 v9 v10 v11 v12:Option V) (L:List Int),σ=[some (.ref fa),some wv,some rv,some sv,some (.ref x),some (.ref tl),some (.int (R6 F ru u d l r (d9 F) k)),v7,v8,v9,v10,v11,v12] /\
    Q7 C H' x td ks L/\L.Perm (j6 F ru (G8 u d l r (d9 F) k))/\b4X F (fil F ru u d l r a b) (d9 F) k rs H'/\∀ b o,H5 b=some o->¬ (b∈rs \/ b=td)->H' b=some o)
   ⟨none,none,none,none,none,none,[],rfl,T5,List.Perm.refl _,⟨λj y h=>by
    have hj:j < F.length:=by rw [← lr];exact (List.getElem?_eq_some_iff.mp h).1
    rw [gz j hj];exact row5 j y h⟩,λb o e _=>e⟩ (λk σ H' _ ⟨_,_,_,_,_,_,_,_,_,_,_,kp⟩=>SqL.of (kp _ _ hsl nslY)) ?_ ?_
  ·rintro k y _ H6 hy ⟨v7,v8,v9,v10,v11,v12,L,rfl,T6,pe6,g6,k6⟩;have hk:k < F.length * d9 F:=by rw [← is5.1];exact (List.getElem?_eq_some_iff.mp hy).1
   obtain ⟨y',e',z⟩:=is5.2 k hk;rw [hy] at e';cases e';obtain ⟨t,pv,va,vb,rfl,ht,ip,iva,ivb⟩:=z.past hYX hYt k6;refine ⟨_,_,rfl,SqT.of ht,rfl,_,_,rfl,_,_,rfl,_,_,rfl,rfl,?_⟩;have kT:=keepY k6;refine ⟨_,rfl,_,rfl,_,rfl,.ref fa,rv,va,F,ru,_,_,rfl,R,hf.keep kT,hru.keep kT,iva,(K5 bs w1 hk).beyond,λcl H7 fcl s7 hcl=>?_⟩;refine ⟨_,rfl,_,rfl,_,rfl,.ref fa,rv,vb,F,ru,_,_,rfl,R,(hf.keep kT).keep s7.tups,(hru.keep kT).keep s7.tups,ivb.same s7,(a0j bs w1 hk).beyond,λgl H8 fgl s8 hgl=>?_⟩;have s78:=s7.trans s8;have hcl8:=s8 _ _ hcl;have T8:=T6.same s78;obtain ⟨dy8,hx8⟩:=T8.1.1;have st:=b4o (F:=F) (ru:=ru) (u:=u) (d:=d) (l:=l) (r:=r) (k:=k) w1;have smA:=a9V F ru (l0 u d l r (d9 F) k);generalize hc:j6 F ru (y9 (l0 u d l r (d9 F) k) (G8 u d l r (d9 F) k))=cm at hcl8 st;generalize hg:j6 F ru (y9 (G8 u d l r (d9 F) k) (l0 u d l r (d9 F) k))=gm at hgl st;have ncd:cl≠td:=B2 hcl8 T8.1.2 λz=>by cases z
   have ngd:gl≠td:=B2 hgl T8.1.2 λz=>by cases z
   have nxd:=T8.ne;have hmc:∀ n∈cm,n∈ks:=λn hn=>hmem _ n (by rw [hc];exact hn);refine Or.inl ?_;refine ⟨_,rfl,_,rfl,⟨_,SqL.of hcl8⟩,?_⟩;refine C5 (K:=K) (xs:=cm.map V.int) (λi σ H'=>∃ v12:Option V,σ=[some (.ref fa),some wv,some rv,some sv,some (.ref x),some (.ref tl),some (.int (R6 F ru u d l r (d9 F) k)),some pv,some va,some vb,some (.ref cl),some (.ref gl),v12]/\Q7 C H' x td ks (L ++ cm.take i)/\c7 td H8 H') ⟨v12,rfl,by rw [List.take_zero,List.append_nil];exact T8,c7.refl _ _⟩ (λi σ H' _ ⟨_,_,_,kb⟩=>SqL.of (kb _ _ hcl8 ncd)) ?_ ?_
   ·rintro i v _ H9 hv ⟨v12,rfl,t9,k9⟩;obtain ⟨n,en,rfl⟩:=a0i hv;refine ⟨_,rfl,x,dy8,_,rfl,k9 _ _ hx8 nxd,b9D (by decide +kernel),_,rfl,?_⟩;dsimp only [a6D,List.nil_append,List.cons_append];refine b0T t9 (hmc _ (List.mem_of_getElem? en)) λH10 t10 k10=>?_;refine ⟨_,rfl,?_,k9.trans k10⟩;rw [List.take_add_one,en,← List.append_assoc];exact t10
   rintro _ H9 ⟨v12,rfl,t9,k9⟩;rw [List.length_map,List.take_length] at t9;have pe9:(L ++ cm).Perm (j6 F ru (l0 u d l r (d9 F) k) ++ gm):=(pe6.append_right cm).trans st;dsimp only;refine Or.inl ?_;refine ⟨_,rfl,_,rfl,⟨_,SqL.of (k9 _ _ hgl ngd)⟩,?_⟩;refine C5 (K:=K) (xs:=gm.map V.int) (λi σ H'=>∃ (v12:Option V) (M:List Int),σ=[some (.ref fa),some wv,some rv,some sv,some (.ref x),some (.ref tl),some (.int (R6 F ru u d l r (d9 F) k)),some pv,some va,some vb,some (.ref cl),some (.ref gl),v12]/\Q7 C H' x td ks M/\M.Perm (j6 F ru (l0 u d l r (d9 F) k) ++ gm.drop i)/\c7 td H8 H') ⟨v12,L ++ cm,rfl,t9,pe9,k9⟩ (λi σ H' _ ⟨_,_,_,_,_,kb⟩=>SqL.of (kb _ _ hgl ngd)) ?_ ?_
   ·rintro i v _ H10 hv ⟨v12,M,rfl,t10,pe10,k10⟩;obtain ⟨n,en,rfl⟩:=a0i hv;have ed:gm.drop i=n :: gm.drop (i + 1):=by
     obtain ⟨hi,ei⟩:=List.getElem?_eq_some_iff.mp en;rw [List.drop_eq_getElem_cons hi,ei]
    rw [ed] at pe10;have hnM:n∈M:=pe10.mem_iff.mpr (by simp);refine ⟨_,rfl,x,dy8,_,rfl,k10 _ _ hx8 nxd,b9D (by decide +kernel),_,rfl,?_⟩;dsimp only [a6D,List.nil_append,List.cons_append];refine b0J t10 hnM λH11 t11 k11=>?_;refine ⟨_,M.erase n,rfl,t11,?_,k10.trans k11⟩;have h2:M.Perm (n :: (j6 F ru (l0 u d l r (d9 F) k) ++ gm.drop (i + 1))):=pe10.trans List.perm_middle;have h3:=h2.erase n;rw [List.erase_cons_head] at h3;exact h3
   rintro _ H10 ⟨v12,M,rfl,t10,pe10,k10⟩;rw [List.length_map,List.drop_length,List.append_nil] at pe10;dsimp only;refine ⟨_,rfl,_,rfl,_,_,rfl,Or.inl ⟨_,SqL.of (k10 _ _ hcl8 ncd),rfl⟩,_,rfl,_,_,rfl,Or.inl ⟨_,SqL.of (k10 _ _ hgl ngd),rfl⟩,_,_,rfl,rfl,_,_,rfl,rfl,?_⟩;have kY10:∀ b o,H5 b=some o->¬ (b∈rs \/ b=td)->H10 b=some o:=λb o e n=>k10 _ _ (s78 _ _ (k6 b o e n)) λz=>n (.inr z);have kT10:=keepY kY10;have lM:M.length <= 1000000:=by
    rw [pe10.length_eq];have sm:=K5 bs w1 hk;exact Nat.le_trans smA (Nat.mul_le_mul sm.1 sm.2.1)
   refine ⟨_,rfl,_,rfl,x,td,sv,ks,M,a,b,rfl,t10,hs.keep kT10,hS,lM,λH11 s11=>?_⟩;obtain ⟨pa,rfl,hpa⟩:=R9 ip;obtain ⟨pi,pj,epl,hj,hst,hpi⟩:=a8D (w:=d9 F) (k:=k) w1;rw [epl] at hpa;have hpi':pi < F.length:=by rw [hpi];exact (Nat.div_lt_iff_lt_mul w1).mpr hk
   obtain ⟨ry,hry⟩:∃ ry,rs[pi]? = some ry:=⟨_,List.getElem?_eq_getElem (by omega)⟩;have hrm:=List.mem_of_getElem? hry;have nrt:ry≠td:=λe=>ntd (e ▸ hrm);have up:∀ {b:Addr} {o:HO},H6 b=some o->b≠td->H11 b=some o:=λe n=>s11 _ _ (k10 _ _ (s78 _ _ e) n);have hpa11:=up hpa (B2 hpa T6.1.2 λz=>by cases z);have tl11:=s11 _ _ (kY10 _ _ e5 ntlY);have row11:=up (g6.row pi ry hry) nrt;have eat:atI (rs.map V.ref) (pi:Int)=some (.ref ry):=J5 (by rw [List.getElem?_map,hry];rfl);refine ⟨_,rfl,_,rfl,Or.inr (Or.inl ⟨_,_,_,_,rfl,rfl,SqT.of hpa11,rfl,Or.inl ⟨_,_,_,_,rfl,rfl,SqL.of tl11,eat,?_⟩⟩)⟩;refine ⟨_,rfl,Or.inr (Or.inl ⟨_,_,_,_,rfl,rfl,SqT.of hpa11,rfl,?_⟩)⟩;have eix:ixN ((B8 F (fil F ru u d l r a b) (d9 F) k pi).map d6).length (pj:Int)=some pj:=by
    unfold ixN;rw [List.length_map,a1i,if_pos (by omega),if_pos (by omega)]
    rfl
   refine ⟨ry,_,pj,pj,rfl,rfl,row11,eix,?_⟩;have eM:p7 M a b=m5 (fil F ru u d l r a b) pi pj:=by
    rw [fil_cell hpi' hj];unfold G2;have:=b0m F ru u d l r (d9 F) k;rw [epl] at this;rw [← this];exact a8E pe10 a b
   have t11:=t10.same s11;refine ⟨some (.ref pa),some va,some vb,some (.ref cl),some (.ref gl),v12,M,?_,t11.keep (λo e=>by rw [d5 (λz=>nxY (.inl (by rw [z];exact hrm)))];exact e) (λo e=>by rw [d5 nrt.symm];exact e),pe10,⟨λi y hi=>?_⟩,λb o e n=>?_⟩
   ·have em:R6 F ru u d l r (d9 F) (k + 1)=R6 F ru u d l r (d9 F) k + (((cm.map V.int).length:Int) + ((gm.map V.int).length:Int)):=by
     rw [List.length_map,List.length_map,← hc,← hg]
     rfl
    rw [em]
    rfl
   ·by_cases zi:i=pi
    ·subst zi;rw [hry] at hi;cases hi;rw [a8,b3n hj hst,List.map_set,eM]
    ·have nyr:y≠ry:=λe=>by
      subst e;obtain ⟨h2,h3⟩:=List.getElem?_eq_some_iff.mp hi;obtain ⟨h4,h5⟩:=List.getElem?_eq_some_iff.mp hry
      rcases Nat.lt_or_gt_of_ne zi with z1 | z1
      ·exact List.pairwise_iff_getElem.mp nd i pi h2 h4 z1 (h3.trans h5.symm)
      ·exact List.pairwise_iff_getElem.mp nd pi i h4 h2 z1 (h5.trans h3.symm)
     rw [d5 nyr,b9a hj hst zi];exact up (g6.row i y hi) λe=>ntd (e ▸ List.mem_of_getElem? hi)
   ·rw [d5 λz=>n (.inl (by rw [z];exact hrm))];exact s11 _ _ (kY10 b o e n)
  ·rintro _ H6 ⟨v7,v8,v9,v10,v11,v12,L,rfl,T6,pe6,g6,k6⟩;rw [is5.1] at g6 ⊢;have SH:i9 H H6:=λb o e=>k6 b o (S5 b o e) λy=>by
    rcases y with h | h
    ·have:=fr b h;rw [S2 _ _ e] at this;cases this
    ·subst h;rw [s1 _ _ e] at ftd;cases ftd
   dsimp only;refine Or.inl ?_;have tl6:=k6 _ _ e5 ntlY;refine ⟨_,rfl,_,rfl,⟨_,SqL.of tl6⟩,?_⟩;refine Q2 (xs:=rs.map V.ref) (λi zs H'=>i9 H6 H'/\IsDs H' zs (((fil F ru u d l r a b).take i).map E1)) ⟨i9.refl _,.nil⟩ (by rw [List.length_map,lr];exact Nat.le_trans (show _<=1000 by omega) (by decide)) (λi zs H' _ ⟨s7,_⟩=>SqL.of (s7 _ _ tl6)) ?_ ?_
   ·rintro i y zs H7 hy ⟨s7,iz⟩;obtain ⟨ry,hry,rfl⟩:∃ ry,rs[i]? = some ry/\V.ref ry=y:=by
     rw [List.getElem?_map] at hy;cases e:rs[i]? with
     | none=>rw [e] at hy;cases hy
     | some z=>rw [e] at hy;exact ⟨z,rfl,Option.some.inj hy⟩
    have hi:i < F.length:=by rw [← lr];exact (List.getElem?_eq_some_iff.mp hry).1
    have er:B8 F (fil F ru u d l r a b) (d9 F) (F.length * d9 F) i=(List.range (d9 F)).map λj:Nat=>G2 F ru u d l r a b (i:Int) (j:Int):=by
     unfold B8;refine List.map_congr_left λj hj=>?_;have hj':=List.mem_range.mp hj;rw [if_pos (b8z hi hj'),fil_cell hi hj']
    have row7:=s7 _ _ (g6.row i ry hry);rw [er] at row7;refine b3t ?_;refine ⟨_,rfl,_,_,rfl,Or.inl ⟨SqL.of row7,λt8 ht8=>?_⟩⟩;have s8:=b8 (o:=.tup (((List.range (d9 F)).map λj:Nat=>G2 F ru u d l r a b (i:Int) (j:Int)).map d6)) ht8;refine ⟨s7.trans s8,?_⟩;rw [List.take_add_one,a5j hi,List.map_append];exact (iz.keep s8.tups).append (.cons (.tup a8 (D4 _)) .nil)
   ·rintro zs H7 ⟨s7,iz⟩ l8 hl8;rw [List.length_map,lr,← L9 F ru u d l r a b,List.take_length] at iz;have s8:=b8 (o:=.lst zs) hl8;refine ⟨_,_,rfl,Or.inl ⟨SqL.of a8,λt9 ht9=>?_⟩⟩;have s9:=b8 (o:=.tup zs) ht9;refine ⟨_,rfl,(by show 2<=sizeLine;decide),λt10 ht10=>?_⟩;have s10:=b8 (o:=.tup [.ref t9,.int (R6 F ru u d l r (d9 F) (F.length * d9 F))]) ht10;have S89:=s8.trans (s9.trans s10);exact q t10 (.ref t9) _ (SH.trans (s7.trans S89)) a8 (.tup (s10 _ _ a8) (iz.keep S89.tups))
def wTo (F:List (List (Option Int)))(ru:l9)(C:List (List Int))(u l r:Nat)(i j:Int)(k:Nat):List Int:=(List.range k).flatMap λp=>a8v F ru C l (i - u + (p:Nat)) j p (l + r + 1)
def a2Y:Sp:=λvs H Q _=>∃ (fv wv cv rv:V) (F:List (List (Option Int))) (ru:l9) (C:List (List Int)) (u d l r:Nat) (i j:Int),vs=[fv,wv,cv,rv,.int i,.int j]/\F9 F/\a4D C (u + d + 1) (l + r + 1)/\IsD H fv (i6 F)/\IsD H wv (a2l u d l r)/\IsD H cv (b9w C)/\IsD H rv (D0 ru) /\
 (-(2 ^ 50) < i/\i < 2 ^ 50)/\(-(2 ^ 50) < j/\j < 2 ^ 50)/\(u<=7/\d<=7/\l<=7/\r<=7) /\
 ∀ (x:Addr) (H':Hp),H x=none->i9 H H'->H' x=some (.dK (G3 (a2k F ru C u d l r i j)))->Q (.ref x) H'
theorem b5H {lo:Int}{n k:Nat}{x:V}(h:(u5 lo n)[k]? = some x):x = .int (lo + (k:Nat))/\k < n:=by
 unfold u5 at h;rw [List.getElem?_map] at h;cases e:(List.range n)[k]? with
 | none=>rw [e] at h;cases h
 | some m =>
  rw [e] at h;have hk:k < n:=by have:=(List.getElem?_eq_some_iff.mp e).1;rwa [List.length_range] at this
  rw [List.getElem?_range hk] at e;cases e;exact ⟨(Option.some.inj h).symm,hk⟩
theorem a7J (lo:Int)(n:Nat):(u5 lo n).length=n:=by unfold u5;rw [List.length_map,List.length_range]
theorem a5N (T:Txt K mg C Ck):Df P w K mg base 3 "counts_at" ["field","window","counts","rule","i","j"] a2Y:=by
 refine T.d_counts_at.ok A1 (λvs H Q E h=>?_) (λf cdv A outer s H vs Q E hr h=>?_)
 ·obtain ⟨fv,wv,cv,rv,F,ru,C,u,d,l,r,i,j,rfl,_⟩:=h
  rfl
 ·obtain ⟨fv,wv,cv,rv,F,ru,C,u,dn,l,r,i,j,rfl,R,ok,hf,hw,hc,hru,bi,bj,⟨bu,bd,bl,br⟩,q⟩:=h;refine ⟨_,(@a9 _ _ _ _ _ (@e9 _ _ 6 _ _ _ _ A1.nd rfl (by trivial) a7R (by rfl) (by first | exact .inl rfl | exact .inr rfl))
   (@a9 _ _ _ _ _ (@e9 _ _ 7 _ _ _ _ A1.nd rfl (by trivial) (@f7 _ _ _ _ _ _ _ _ _ _ (y7 T) (hr.mono (by decide)) (@a6 _ _ _ _ _ (pv 5) (@a6 _ _ _ _ _ (@j4 _ _ _ _ _ _ _ (c9 (K:=K) rfl) (pv 1) b6 (λ_ _=>rfl)) (@a6 _ _ _ _ _ (@j4 _ _ _ _ _ _ _ (c9 (K:=K) rfl) (pv 1) b6 (λ_ _=>rfl)) a7 f6) f6) (by rfl)) (by rfl) (by decide) (by rfl) (by rfl)) (by rfl) (by first | exact .inl rfl | exact .inr rfl))
   (@a9 _ _ _ _ _ (@r6 _ _ _ _ _ _ _ _ PassesOwn.never rfl (b0e (by rfl) T.n_zip (@a6 _ _ _ _ _ (@f7 _ _ _ _ _ _ _ _ _ _ (y7 T) (hr.mono (by decide)) (@a6 _ _ _ _ _ (pv 4) (@a6 _ _ _ _ _ (@j4 _ _ _ _ _ _ _ (c9 (K:=K) rfl) (pv 1) b6 (λ_ _=>rfl)) (@a6 _ _ _ _ _ (@j4 _ _ _ _ _ _ _ (c9 (K:=K) rfl) (pv 1) b6 (λ_ _=>rfl)) a7 f6) f6) (by rfl)) (by rfl) (by decide) (by rfl) (by rfl)) (@a6 _ _ _ _ _ (pv 2) a7 (by rfl)) d4)) (W7 (K:=K) rfl rfl (o9 (i7 (i:=8) A1.nd rfl (by trivial)) (o9 (i7 (i:=9) A1.nd rfl (by trivial)) R4))) (@b9 _ _ _ (@r6 _ _ _ _ _ _ _ _ PassesOwn.never rfl (b0e (by rfl) T.n_zip (@a6 _ _ _ _ _ (pv 7) (@a6 _ _ _ _ _ (pv 9) a7 (by rfl)) (by rfl))) (W7 (K:=K) rfl rfl (o9 (i7 (i:=10) A1.nd rfl (by trivial)) (o9 (i7 (i:=11) A1.nd rfl (by trivial)) R4))) (@b9 _ _ _ (@r6 _ _ _ _ _ _ _ _ PassesOwn.never rfl (q9 (K:=K) rfl (@f7 _ _ _ _ _ _ _ _ _ _ (E8 T) (hr.mono (by decide)) (@a6 _ _ _ _ _ (@f7 _ _ _ _ _ _ _ _ _ _ (O2 T) (hr.mono (by decide)) (@a6 _ _ _ _ _ (pv 0) (@a6 _ _ _ _ _ (pv 3) (@a6 _ _ _ _ _ (pv 8) (@a6 _ _ _ _ _ (pv 10) a7 (by rfl)) (by rfl)) (by rfl)) (by rfl)) (by rfl) (by decide) (by rfl) (by rfl)) a7 d4) (by rfl) (by decide) (by rfl) (by rfl))) (i7 (i:=12) A1.nd rfl (by trivial)) (@b9 _ _ _ (@p4 _ _ _ _ _ _ _ _ (@i8 _ _ _ _ _ _ _ _ b9e (pv 11) b6 (l7 _)) (@b9 _ _ _ (b7d (a6p hr) (pv 6) (pv 12) (@g0 _ _ _ _ _ _ _ _ u9 (a8R (a6p hr) (pv 6) (pv 12) b6 ⟨by rfl,by rfl,by rfl,by rfl⟩) (pv 11)) rfl)) j5)) (by intro _;rfl))) (by intro _;rfl))) (by intro _;rfl))
   (@b9 _ _ _ (@d8 _ _ _ _ (pv 6)))))),?_⟩
  intro d hd;have s1:=b8 (o:=.dK []) hd;have hd1:upd H d (.dK []) d=some (.dK []):=a8;generalize upd H d (.dK [])=H1 at s1 hd1 ⊢;obtain ⟨wa,rfl,hwa⟩:=U9 hw;refine ⟨_,rfl,_,rfl,Or.inr (Or.inl ⟨_,_,_,_,rfl,rfl,SqT.of (s1 _ _ hwa),rfl,?_⟩)⟩;refine ⟨_,rfl,Or.inr (Or.inl ⟨_,_,_,_,rfl,rfl,SqT.of (s1 _ _ hwa),rfl,?_⟩)⟩;refine ⟨j,l,r,rfl,⟨by omega,by omega⟩,by omega,by omega,λcl H2 fcl s2 hcl=>?_⟩;have S2:=s1.trans s2;refine ⟨_,rfl,_,rfl,Or.inr (Or.inl ⟨_,_,_,_,rfl,rfl,SqT.of (S2 _ _ hwa),rfl,?_⟩)⟩;refine ⟨_,rfl,Or.inr (Or.inl ⟨_,_,_,_,rfl,rfl,SqT.of (S2 _ _ hwa),rfl,?_⟩)⟩;refine ⟨i,u,dn,rfl,⟨by omega,by omega⟩,by omega,by omega,λrl H3 frl s3 hrl=>?_⟩;have S3:=S2.trans s3;obtain ⟨ca,cs,rfl,hca,hcs⟩:=w4 (hc.keep S3.tups);have lcs:cs.length=u + dn + 1:=by rw [hcs.length,List.length_map,List.length_map,ok.len]
  have hd3:=s3 _ _ (s2 _ _ hd1);have hcl3:=s3 _ _ hcl;have ncd:cl≠d:=B2 hcl3 hd3 λz=>by cases z
  have nrd:rl≠d:=B2 hrl hd3 λz=>by cases z
  have old:∀ {H':Hp},c7 d H3 H'->i9 H H':=λk b o e=>k b o (S3 b o e) (c6 e hd);refine ⟨_,rfl,_,_,_,_,rfl,hrl,hca,?_⟩;refine a6T (xs:=u5 (i - u) (u + dn + 1)) (ys:=cs) (by rw [a7J,lcs]) (λp σ H'=>∃ (v8 v9 v10 v11 v12:Option V),σ=[some fv,some (.ref wa),some (.ref ca),some rv,some (.int i),some (.int j),some (.ref d),some (.ref cl),v8,v9,v10,v11,v12]/\c7 d H3 H'/\H' d=some (.dK (G3 (wTo F ru C u l r i j p)))) ⟨none,none,none,none,none,rfl,c7.refl _ _,hd3⟩ (λp σ H' _ ⟨_,_,_,_,_,_,k,_⟩=>⟨k _ _ hrl nrd,k _ _ hca (B2 hca hd3 λz=>by cases z)⟩) ?_ ?_
  ·rintro p x y _ H4 t hx hy ⟨v8,v9,v10,v11,v12,rfl,k4,hd4⟩ ht;obtain ⟨rfl,hp⟩:=b5H hx;have hpC:p < (C.map λr=>r.map some).length:=by rw [List.length_map,ok.len];exact hp
   obtain ⟨ra,era,hra⟩:=B7 hcs hpC;obtain rfl:y = .ref ra:=by rw [hy] at era;exact Option.some.inj era
   have hpC':p < C.length:=by rw [ok.len];exact hp
   have eC:(C.map λr=>r.map some)[p]=C[p].map some:=by simp
   rw [eC,← a3V] at hra;have lC:C[p].length=l + r + 1:=ok.row _ (List.getElem_mem hpC');have st:=b8 (o:=.tup [.int (i - u + (p:Nat)),.ref ra]) ht;have k5:c7 d H3 (upd H4 t (.tup [.int (i - u + (p:Nat)),.ref ra])):=k4.upd ht;have hd5:=st _ _ hd4;have et:upd H4 t (.tup [.int (i - u + (p:Nat)),.ref ra]) t=some (.tup [.int (i - u + (p:Nat)),.ref ra]):=a8;generalize upd H4 t (.tup [.int (i - u + (p:Nat)),.ref ra])=H5 at k5 hd5 et ⊢;refine ⟨_,_,rfl,SqT.of et,rfl,_,_,rfl,_,_,rfl,rfl,?_⟩;have kt5:Q5 H3 H5:=λb xs e=>k5 _ _ e (B2 e hd3 λz=>by cases z);have hra5:=kt5 _ _ hra;refine ⟨_,rfl,_,rfl,_,_,_,_,rfl,k5 _ _ hcl3 ncd,hra5,?_⟩;refine a6T (xs:=u5 (j - l) (l + r + 1)) (ys:=C[p].map V.int) (by rw [a7J,List.length_map,lC]) (λm σ H'=>∃ (v10 v11 v12:Option V),σ=[some fv,some (.ref wa),some (.ref ca),some rv,some (.int i),some (.int j),some (.ref d),some (.ref cl),some (.int (i - u + (p:Nat))),some (.ref ra),v10,v11,v12]/\c7 d H5 H'/\H' d=some (.dK (G3 (wTo F ru C u l r i j p ++ a8v F ru C l (i - u + (p:Nat)) j p m)))) ⟨v10,v11,v12,rfl,c7.refl _ _,by rw [hd5];simp [a8v]⟩ (λm σ H' _ ⟨_,_,_,_,k,_⟩=>⟨k _ _ (k5 _ _ hcl3 ncd) ncd,k _ _ hra5 (B2 hra5 hd5 λz=>by cases z)⟩) ?_ ?_
   ·rintro m x y _ H6 t6 hx hy ⟨v10,v11,v12,rfl,k6,hd6⟩ ht6;obtain ⟨rfl,hm⟩:=b5H hx;obtain ⟨c,ec,rfl⟩:=a0i hy;have hcc:cAt C p m=c:=by unfold cAt;rw [List.getElem?_eq_getElem hpC'];simp [ec]
    have cb:=ok.at_ p m;rw [hcc] at cb;have st6:=b8 (o:=.tup [.int (j - l + (m:Nat)),.int c]) ht6;have k7:c7 d H5 (upd H6 t6 (.tup [.int (j - l + (m:Nat)),.int c])):=k6.upd ht6;have hd7:=st6 _ _ hd6;have et7:upd H6 t6 (.tup [.int (j - l + (m:Nat)),.int c]) t6=some (.tup [.int (j - l + (m:Nat)),.int c]):=a8;generalize upd H6 t6 (.tup [.int (j - l + (m:Nat)),.int c])=H7 at k7 hd7 et7 ⊢;refine ⟨_,_,rfl,SqT.of et7,rfl,_,_,rfl,_,_,rfl,rfl,?_⟩;have S7:i9 H H7:=old (k5.trans k7);refine Or.inr ?_;refine ⟨_,rfl,_,rfl,_,rfl,_,rfl,_,_,F,ru,_,_,rfl,R,hf.keep S7.tups,hru.keep S7.tups,λps hps=>?_⟩;have s8:=b8 (o:=.tup ((k0 F ru (i - u + (p:Nat)) (j - l + (m:Nat))).map d6)) hps;have sl:=E2 F ru (i - u + (p:Nat)) (j - l + (m:Nat));refine ⟨ps,k0 F ru (i - u + (p:Nat)) (j - l + (m:Nat)),rfl,.inl a8,by omega,λt9 H9 s9 ht9=>?_⟩;have S79:=s8.trans s9;have hd9:=S79 _ _ hd7;have ntd:t9≠d:=B2 ht9 hd9 λz=>by cases z
    generalize hL:wTo F ru C u l r i j p ++ a8v F ru C l (i - u + (p:Nat)) j p m=L at hd9;have lL:L.length <= 7 * 2 * 6000 + 6000:=by
     rw [← hL,List.length_append];have a1:=b3i (F:=F) (ru:=ru) ok u l r i j p;have a2:=a3P (F:=F) (ru:=ru) ok l (i - u + (p:Nat)) j p m;have a3:p * ((l + r + 1) * 400)<=14 * 6000:=Nat.mul_le_mul (by omega) (by omega);have a4:m * 400<=6000:=by omega
     have a5:(wTo F ru C u l r i j p).length <= p * ((l + r + 1) * 400):=a1
     omega
    have wl:=a4P F ru c (i - u + (p:Nat)) (j - l + (m:Nat));have eW:a8v F ru C l (i - u + (p:Nat)) j p (m + 1)=a8v F ru C l (i - u + (p:Nat)) j p m ++ a5P F ru c (i - u + (p:Nat)) (j - l + (m:Nat)):=by
     unfold a8v;rw [A2,hcc]
    unfold a5P at wl eW;generalize (k0 F ru (i - u + (p:Nat)) (j - l + (m:Nat))).filterMap id=ns at ht9 wl eW;refine ⟨t9,rfl,⟨_,SqT.of ht9⟩,?_⟩;refine b4g (xs:=ns.map V.int) (λk σ H'=>∃ v12:Option V,σ=[some fv,some (.ref wa),some (.ref ca),some rv,some (.int i),some (.int j),some (.ref d),some (.ref cl),some (.int (i - u + (p:Nat))),some (.ref ra),some (.int (j - l + (m:Nat))),some (.int c),v12]/\c7 d H9 H'/\H' d=some (.dK (G3 (L ++ (ns.take k).flatMap λx=>List.replicate c.toNat x)))) ⟨v12,rfl,c7.refl _ _,by rw [hd9];simp⟩ (λk σ H' _ ⟨_,_,kb,_⟩=>SqT.of (kb _ _ ht9 ntd)) ?_ ?_
    ·rintro k x _ H10 hx ⟨v12,rfl,k10,hd10⟩;obtain ⟨n,en,rfl⟩:=a0i hx;have e1:(ns.take (k + 1)).flatMap (λx=>List.replicate c.toNat x)=(ns.take k).flatMap (λx=>List.replicate c.toNat x) ++ List.replicate c.toNat n:=by
      rw [List.take_add_one,en,List.flatMap_append]
      simp
     rw [e1,← List.append_assoc];generalize hM:L ++ (ns.take k).flatMap (λx=>List.replicate c.toNat x)=M at hd10;have lM:M.length <= 100000:=by
      rw [← hM,List.length_append];have:((ns.take k).flatMap λx=>List.replicate c.toNat x).length <= (ns.flatMap λx=>List.replicate c.toNat x).length:=by
       have:ns=ns.take k ++ ns.drop k:=(List.take_append_drop k ns).symm;rw [this,List.flatMap_append,List.length_append,← this];exact Nat.le_add_right _ _
      omega
     refine ⟨_,rfl,_,_,rfl,rfl,_,rfl,?_⟩;refine G1 (λz=>?_) (λz=>?_)
     ·have hc0:0 < c:=of_decide_eq_true z;refine ⟨_,rfl,d,rfl,.inl ⟨_,.inl hd10⟩,_,rfl,_,X6.k (k:=Sum.inl n) hd10,?_⟩;rw [b9G];refine ⟨_,rfl,_,_,rfl,rfl,_,rfl,_,rfl,d,_,rfl,a1D.k (k:=Sum.inl n) hd10 ?_,?_⟩
      ·exact Nat.lt_of_le_of_lt (Nat.le_trans (b8G M) lM) (by decide)
      ·refine ⟨_,rfl,λb o e nb=>by rw [d5 nb];exact k10 b o e nb,?_⟩;obtain ⟨c',rfl⟩:∃ c':Nat,c=((c' + 1:Nat):Int):=⟨c.toNat - 1,by omega⟩;rw [a8,Int.toNat_natCast,← a2V]
     ·have hc0:¬ 0 < c:=of_decide_eq_false (Bool.eq_false_iff.mpr z);have e0:c.toNat=0:=by omega
      refine ⟨_,rfl,k10,?_⟩;rw [hd10,e0]
      simp
    ·rintro _ H10 ⟨v12,rfl,k10,hd10⟩;rw [List.length_map,List.take_length] at hd10;refine ⟨_,_,_,rfl,λb o e nb=>k10 b o (S79 _ _ (k7 b o e nb)) nb,?_⟩;rw [hd10,← hL,eW,List.append_assoc]
   ·rintro _ H6 ⟨v10,v11,v12,rfl,k6,hd6⟩;rw [a7J] at hd6;refine ⟨_,_,_,_,_,rfl,k5.trans k6,?_⟩;rw [hd6];unfold wTo;rw [A2]
  ·rintro _ H4 ⟨v8,v9,v10,v11,v12,rfl,k4,hd4⟩;rw [a7J] at hd4;exact ⟨_,rfl,q d H4 hd (old k4) hd4⟩
def b1A (K:PySem.W.Frag):Sp:=λvs H Q _=>∃ (d:Addr) (sv:V) (L:List Int) (a b:Int),vs=[.ref d,sv]/\H d=some (.dK (G3 L))/\Shr K H sv a b/\M9 a b/\∀ H',i9 H H'->Q (d6 (p7 L a b)) H'
theorem a0q (T:Txt K mg C Ck):Df P w K mg base 2 "told_of_counts" ["often","share"] (b1A K):=by
 refine T.d_told_of_counts.ok C9 (λvs H Q E h=>?_) (λf cdv A outer s H vs Q E hr h=>?_)
 ·obtain ⟨d,sv,L,a,b,rfl,_⟩:=h
  rfl
 ·obtain ⟨d,sv,L,a,b,rfl,hd,hs,hS,q⟩:=h;refine ⟨_,(@a9 _ _ _ _ _ (@e9 _ _ 2 _ _ _ _ C9.nd rfl (by trivial) (@f7 _ _ _ _ _ _ _ _ _ _ (J2 T) (hr.mono (by decide)) (@a6 _ _ _ _ _ (b1e rfl (by rfl) T.n_sum (pv 0)) (@a6 _ _ _ _ _ (pv 1) a7 (by rfl)) d4) (by rfl) (by decide) (by rfl) (by rfl)) (by rfl) (by first | exact .inl rfl | exact .inr rfl))
   (@a9 _ _ _ _ _ (@r6 _ _ _ _ _ _ _ _ PassesOwn.never rfl (q9 (K:=K) rfl (@f8 _ _ _ _ _ _ _ _ _ (a4t rfl) (by rfl) T.n_sorted a7j (@a6 _ _ _ _ _ (pv 0) a7 (by rfl)) (by decide) (by decide) (by rfl) (by rfl))) (i7 (i:=3) C9.nd rfl (by trivial)) (@a9 _ _ _ _ _ (@p4 _ _ _ _ _ _ _ _ (@i8 _ _ _ _ _ _ _ _ a0p (pv 2) (b3e (a6p hr) (pv 0) (pv 3) (λ_ _=>rfl)) (l7 _)) (@b9 _ _ _ (@d8 _ _ _ _ (pv 3))) j5)
   (@b9 _ _ _ (a6z (i:=2) C9.nd rfl (by trivial) (b3e (a6p hr) (pv 0) (pv 3) (λ_ _=>rfl)) b8u))) (by intro _;rfl))
   (@b9 _ _ _ (@d8 _ _ _ _ P6)))),?_⟩
  have es:((MwSet.C8 L).map λk=>(L.count k:Int)).sum=L.length:=a4l (MwSet.a4C L) (λx hx=>MwSet.U6.mpr hx);refine ⟨_,rfl,d,G3 L,(MwSet.C8 L).map λk=>(L.count k:Int),rfl,hd,by unfold G3;rw [List.map_map,List.map_map];rfl,?_⟩;rw [es];refine ⟨_,rfl,L.length,_,a,b,rfl,hs,hS,?_⟩;refine Or.inl ⟨_,rfl,d,G3 L,MwSet.C8 L,rfl,hd,b0x L,λl hl=>?_⟩;have s1:=b8 (o:=.lst ((f9 L).map V.int)) hl;have hd1:=s1 _ _ hd;have hl1:upd H l (.lst ((f9 L).map V.int)) l=some (.lst ((f9 L).map V.int)):=a8;refine ⟨_,rfl,⟨_,SqL.of hl1⟩,?_⟩
  show ∃ W:Nat->Nat->St->Hp->Prop,(∃ m,W 0 m _ (upd H l (.lst ((f9 L).map V.int))))/\_
  generalize upd H l (.lst ((f9 L).map V.int))=H1 at s1 hd1 hl1 ⊢;refine C5 (xs:=(f9 L).map V.int) (λi σ H'=>(∃ v3:Option V,σ=[some (.ref d),some sv,some (.int (p6 L.length a b - (q8 L i:Int))),v3]/\H'=H1)/\∀ j,j < i->¬ (p6 L.length a b < (q8 L (j + 1):Int))) ⟨⟨none,by rw [a0S,show p6 L.length a b - ((0:Nat):Int)=p6 L.length a b by omega];rfl,rfl⟩,λj hj=>by omega⟩ (λi σ H' _ ⟨⟨_,_,e⟩,_⟩=>e ▸ SqL.of hl1) ?_ ?_
  ·rintro i x _ H1 hx ⟨⟨v3,rfl,rfl⟩,hb⟩;obtain ⟨n,en,rfl⟩:=a0i hx;obtain ⟨hi,en'⟩:=List.getElem?_eq_some_iff.mp en;have hm:n∈L:=O4.mp (List.mem_of_getElem? en);have g:X6 H1 d (.int n) (some (.int (L.count n))):=by
    have:=X6.k (k:=Sum.inl n) hd1;rw [a0O,if_pos hm] at this;exact this
   have e:(q8 L i:Int) + (L.count n:Int)=(q8 L (i + 1):Int):=by rw [a1S L hi,en'];omega
   refine ⟨_,rfl,_,rfl,_,rfl,d,_,rfl,g,_,_,rfl,rfl,_,rfl,?_⟩;refine G1 (λz=>?_) (λz=>?_)
   ·have z':p6 L.length a b - (q8 L i:Int) < (L.count n:Int):=of_decide_eq_true z;have:=b8i hS hi (λj hj=>hb j hj) (by omega);rw [en'] at this;have q2:=q _ s1;rw [this] at q2;exact ⟨_,rfl,q2⟩
   ·have z':¬ p6 L.length a b - (q8 L i:Int) < (L.count n:Int):=of_decide_eq_false (Bool.eq_false_iff.mpr z);refine ⟨_,rfl,_,rfl,_,rfl,d,_,rfl,g,_,_,rfl,rfl,⟨some (.int n),?_,rfl⟩,λj hj=>?_⟩
    ·have e2:p6 L.length a b - (q8 L i:Int) - (L.count n:Int)=p6 L.length a b - (q8 L (i + 1):Int):=by omega
     rw [← e2]
     rfl
    ·rcases Nat.lt_or_ge j i with z2 | z2
     ·exact hb j z2
     ·have:j=i:=by omega
      subst this
      omega
  ·rintro _ H1 ⟨⟨v3,rfl,rfl⟩,hb⟩;rw [List.length_map] at hb
   by_cases e:L=[]
   ·have q2:=q _ s1;rw [e,R7] at q2;exact q2
   ·exfalso
    have hl1:1<=L.length:=by
     cases L with
     | nil=>exact absurd rfl e
     | cons x l=>simp
    have hk:1<=(f9 L).length:=by
     cases hks:f9 L with
     | nil =>
      obtain ⟨x,hx⟩:=List.exists_mem_of_ne_nil L e;have:=O4.mpr hx;rw [hks] at this;cases this
     | cons x l=>simp
    have:=hb ((f9 L).length - 1) (by omega);rw [show (f9 L).length - 1 + 1=(f9 L).length by omega,a5Z] at this;have:=(E6 hS hl1).2
    omega
theorem a6P (F:List (List (Option Int)))(ru:l9)(C:List (List Int))(u d l r:Nat)(a b:Int):(a5D F ru C u d l r a b).length=F.length:=by unfold a5D;simp
theorem b5p {F:List (List (Option Int))}{ru:l9}{C:List (List Int)}{u d l r:Nat}{a b:Int}{i:Nat}(hi:i < F.length):(a5D F ru C u d l r a b)[i]? = some ((List.range (d9 F)).map λj:Nat=>p7 (a2k F ru C u d l r (i:Int) (j:Int)) a b):=by
 unfold a5D;rw [List.getElem?_map,List.getElem?_range hi];rfl
def a8X (K:PySem.W.Frag):Sp:=λvs H Q _=>∃ (fv wv cv rv sv:V) (F:List (List (Option Int))) (ru:l9) (C:List (List Int)) (u d l r:Nat) (a b:Int),vs=[fv,wv,cv,rv,sv]/\F9 F/\a4D C (u + d + 1) (l + r + 1)/\IsD H fv (i6 F)/\IsD H wv (a2l u d l r)/\IsD H cv (b9w C)/\IsD H rv (D0 ru)/\Shr K H sv a b/\M9 a b/\(u<=7/\d<=7/\l<=7/\r<=7) /\
 ∀ (v:V) (H':Hp),i9 H H'->IsD H' v (i6 (a5D F ru C u d l r a b))->Q v H'
theorem a4U (T:Txt K mg C Ck):Df P w K mg base 4 "weighted" ["field","window","counts","rule","share"] (a8X K):=by
 refine T.d_weighted.ok M5 (λvs H Q E h=>?_) (λf cdv A outer s H vs Q E hr h=>?_)
 ·obtain ⟨fv,wv,cv,rv,sv,F,ru,C,u,d,l,r,a,b,rfl,_⟩:=h
  rfl
 ·obtain ⟨fv,wv,cv,rv,sv,F,ru,C,u,d,l,r,a,b,rfl,R,ok,hf,hw,hcv,hru,hs,hS,bb,q⟩:=h;obtain ⟨fa,xs,rfl,hfa,hxs⟩:=w4 hf;have lxs:xs.length=F.length:=by rw [hxs.length,List.length_map]
  have hW:=R.ws;have hH:=R.hs;refine ⟨_,(@a9 _ _ _ _ _ (@e9 _ _ 5 _ _ _ _ M5.nd rfl (by trivial) (@u3 _ _ _ _ a7) (by rfl) (by first | exact .inl rfl | exact .inr rfl))
   (@a9 _ _ _ _ _ (@r6 _ _ _ _ _ _ _ _ PassesOwn.never rfl (B1 (by rfl) T.n_range (@a6 _ _ _ _ _ (@f8 _ _ _ _ _ _ _ _ _ (j9 (K:=K) rfl) (by rfl) T.n_len u2 (@a6 _ _ _ _ _ (pv 0) a7 (by rfl)) (by decide) (by decide) (by rfl) (by rfl)) a7 d4)) (i7 (i:=6) M5.nd rfl (by trivial)) (@a9 _ _ _ _ _ (@e9 _ _ 7 _ _ _ _ M5.nd rfl (by trivial) (@u3 _ _ _ _ a7) (by rfl) (by first | exact .inl rfl | exact .inr rfl))
   (@a9 _ _ _ _ _ (@r6 _ _ _ _ _ _ _ _ PassesOwn.never rfl (B1 (by rfl) T.n_range (@a6 _ _ _ _ _ (@f8 _ _ _ _ _ _ _ _ _ (j9 (K:=K) rfl) (by rfl) T.n_len u2 (@a6 _ _ _ _ _ (@j4 _ _ _ _ _ _ _ (c9 (K:=K) rfl) (pv 0) (pv 6) (λ_ _=>rfl)) a7 f6) (by decide) (by decide) (by rfl) (by rfl)) a7 d4)) (i7 (i:=8) M5.nd rfl (by trivial)) (@b9 _ _ _ (@x9 _ _ _ _ (@N9 _ _ _ _ _ _ _ _ _ _ _ _ PySem.F.plainAttrs_list PySem.F.slot_list_append PySem.F.type_list_append z9 (pv 7) (@a6 _ _ _ _ _ (@f7 _ _ _ _ _ _ _ _ _ _ (a0q T) (hr.mono (by decide)) (@a6 _ _ _ _ _ (@f7 _ _ _ _ _ _ _ _ _ _ (a5N T) (hr.mono (by decide)) (@a6 _ _ _ _ _ (pv 0) (@a6 _ _ _ _ _ (pv 1) (@a6 _ _ _ _ _ (pv 2) (@a6 _ _ _ _ _ (pv 3) (@a6 _ _ _ _ _ (pv 6) (@a6 _ _ _ _ _ (pv 8) a7 (by rfl)) (by rfl)) (by rfl)) (by rfl)) (by rfl)) (by rfl)) (by rfl) (by decide) (by rfl) (by rfl)) (@a6 _ _ _ _ _ (pv 4) a7 (by rfl)) d4) (by rfl) (by decide) (by rfl) (by rfl)) a7 d4) (by rfl) (by rfl) (by rfl) (by rfl) (by rfl)) (by rfl))) (by intro _;rfl))
   (@b9 _ _ _ (@x9 _ _ _ _ (@N9 _ _ _ _ _ _ _ _ _ _ _ _ PySem.F.plainAttrs_list PySem.F.slot_list_append PySem.F.type_list_append z9 (pv 5) (@a6 _ _ _ _ _ (@m9 _ _ _ _ _ _ _ _ _ (o6 (K:=K) rfl) (by rfl) T.n_tuple w6 (@a6 _ _ _ _ _ (pv 7) a7 (by rfl)) (by decide) (by decide) (by rfl) (by rfl)) a7 d4) (by rfl) (by rfl) (by rfl) (by rfl) (by rfl)) (by rfl))))) (by intro _;rfl))
   (@b9 _ _ _ (@d8 _ _ _ _ (@m9 _ _ _ _ _ _ _ _ _ (o6 (K:=K) rfl) (by rfl) T.n_tuple w6 (@a6 _ _ _ _ _ (pv 5) a7 (by rfl)) (by decide) (by decide) (by rfl) (by rfl)))))),?_⟩
  refine ⟨(by show 0<=sizeLine;decide),λc hc=>?_⟩;have s1:=b8 (o:=.lst []) hc;have oldne:∀ b o,H b=some o->b≠c:=λb o e=>c6 e hc;have keepH:∀ {H':Hp},c7 c (upd H c (.lst [])) H'->i9 H H':=λk b o e=>k b o (s1 b o e) (oldne b o e);refine ⟨_,rfl,_,_,rfl,Or.inr ⟨_,SqT.of (s1 _ _ hfa),rfl⟩,_,rfl,by omega,by omega,?_⟩;have hc1:upd H c (.lst []) c=some (.lst []):=a8;generalize upd H c (.lst [])=H1 at s1 hc1 keepH ⊢;refine y6 (n:=((xs.length:Nat):Int).toNat) (λi σ H'=>∃ (v6 v7 v8:Option V) (ys:List V),σ=[some (.ref fa),some wv,some cv,some rv,some sv,some (.ref c),v6,v7,v8]/\c7 c H1 H'/\H' c=some (.lst ys)/\IsDs H' ys (((a5D F ru C u d l r a b).take i).map E1)) ⟨none,none,none,[],rfl,c7.refl _ _,hc1,.nil⟩ ?_ ?_
  ·rintro i _ H2 hi ⟨v6,v7,v8,ys,rfl,k2,hc2,hys⟩;have hi':i < F.length:=by
    have:i < ((xs.length:Nat):Int).toNat:=hi
    omega
   have S2:=keepH k2;have e0:(0:Int) + (i:Int)=(i:Int):=by omega
   rw [e0];obtain ⟨ra,era,hra⟩:=B7 hxs hi';have eW:F[i].length=(F.headD []).length:=R.row _ (List.getElem_mem _);refine ⟨(by show 0<=sizeLine;decide),λe he=>?_⟩;have s3:=b8 (o:=.lst []) he;have ne:e≠c:=(c6 hc2 he).symm;refine ⟨_,rfl,_,rfl,Or.inr (Or.inl ⟨_,_,_,_,rfl,rfl,SqT.of (s3 _ _ (S2 _ _ hfa)),J5 era,_,_,rfl,Or.inr ⟨_,SqT.of (s3 _ _ (S2 _ _ hra)),rfl⟩,_,rfl,by rw [List.length_map];omega,by rw [List.length_map];omega,?_⟩)⟩;have he3:upd H2 e (.lst []) e=some (.lst []):=a8;have hc3:=s3 _ _ hc2;have hys3:=hys.keep s3.tups;have S3:=S2.trans s3;have K3:c7 c H1 (upd H2 e (.lst [])):=λb' o e' n=>s3 _ _ (k2 b' o e' n);have old3:∀ b' o,H2 b'=some o->b'≠e:=λb' o e'=>c6 e' he;have el:(F[i].map d6).length=d9 F:=by rw [List.length_map];exact eW
   generalize upd H2 e (.lst [])=H3 at s3 he3 hc3 hys3 S3 K3 ⊢;refine y6 (n:=((((F[i].map d6).length:Nat):Int).toNat)) (λj σ H'=>∃ (v8:Option V),σ=[some (.ref fa),some wv,some cv,some rv,some sv,some (.ref c),some (.int i),some (.ref e),v8]/\c7 e H3 H'/\H' e=some (.lst (((List.range j).map λj:Nat=>p7 (a2k F ru C u d l r (i:Int) (j:Int)) a b).map d6))) ⟨v8,rfl,c7.refl _ _,he3⟩ ?_ ?_
   ·rintro j _ H4 hj ⟨v8,rfl,k4,he4⟩;have hj':j < d9 F:=by
     have:j < ((((F[i].map d6).length:Nat):Int).toNat):=hj
     omega
    have e0:(0:Int) + (j:Int)=(j:Int):=by omega
    rw [e0];have S4:i9 H H4:=λb' o e'=>k4 b' o (S3 b' o e') (old3 b' o (S2 b' o e'));have hjw:j < (F.headD []).length:=hj';refine ⟨_,rfl,Or.inl ⟨rfl,_,SqL.of he4⟩,?_⟩;refine ⟨_,rfl,_,rfl,_,rfl,_,rfl,_,rfl,_,rfl,_,_,_,_,F,ru,C,u,d,l,r,_,_,rfl,R,ok,hf.keep S4.tups,hw.keep S4.tups,hcv.keep S4.tups,hru.keep S4.tups,⟨by omega,by omega⟩,⟨by omega,by omega⟩,bb,λx H5 fx s5 hx=>?_⟩;have S5:=S4.trans s5;have he5:=s5 _ _ he4;refine ⟨_,rfl,x,sv,_,a,b,rfl,hx,hs.keep S5.tups,hS,λH7 s7=>?_⟩;have he7:=s7 _ _ he5;refine ⟨_,_,_,rfl,rfl,he7,?_,?_⟩
    ·rw [List.length_map,List.length_map,List.length_range];exact Nat.lt_of_lt_of_le (show j < 1001 by omega) (by decide)
    ·refine ⟨_,rfl,λb' o e' n=>?_,?_⟩
     ·rw [d5 n];exact s7 _ _ (s5 _ _ (k4 b' o e' n))
     ·rw [a8,List.range_succ,List.map_append,List.map_append]
      rfl
   ·rintro _ H4 ⟨v8,rfl,k4,he4⟩;rw [show ((((F[i].map d6).length:Nat):Int).toNat)=d9 F by omega] at he4;have hc4:=k4 _ _ hc3 ne.symm;refine ⟨_,rfl,Or.inl ⟨rfl,_,SqL.of hc4⟩,_,rfl,_,_,rfl,Or.inl ⟨SqL.of he4,λt ht=>?_⟩⟩;have st:=b8 (o:=.tup (((List.range (d9 F)).map λj:Nat=>p7 (a2k F ru C u d l r (i:Int) (j:Int)) a b).map d6)) ht;have hct:=st _ _ hc4;have ly:ys.length=i:=by rw [hys.length,List.length_map,List.length_take,a6P];omega
    refine ⟨_,_,_,rfl,rfl,hct,(by rw [ly];exact Nat.lt_of_lt_of_le (show i < 1001 by omega) (by decide)),?_⟩;refine ⟨_,_,_,ys ++ [.ref t],rfl,λb' o e' n=>?_,a8,?_⟩
    ·rw [d5 n];exact st _ _ (k4 b' o (K3 b' o e' n) (old3 b' o (k2 b' o e' n)))
    ·rw [List.take_add_one,b5p hi',List.map_append];have tt:t≠c:=(c6 hc4 ht).symm;have u1:upd (upd H4 t (.tup (((List.range (d9 F)).map λj:Nat=>p7 (a2k F ru C u d l r (i:Int) (j:Int)) a b).map d6))) c (.lst (ys ++ [.ref t])) t=some (.tup (((List.range (d9 F)).map λj:Nat=>p7 (a2k F ru C u d l r (i:Int) (j:Int)) a b).map d6)):=by rw [d5 tt];exact a8
     have kt:∀ b' zs,H3 b'=some (.tup zs)->upd (upd H4 t (.tup (((List.range (d9 F)).map λj:Nat=>p7 (a2k F ru C u d l r (i:Int) (j:Int)) a b).map d6))) c (.lst (ys ++ [.ref t])) b'=some (.tup zs):=λb' zs e'=>by
      have n1:b'≠c:=B2 e' hc3 λz=>by cases z
      have n2:b'≠e:=B2 e' he3 λz=>by cases z
      rw [d5 n1];exact st _ _ (k4 _ _ e' n2)
     exact (hys3.keep kt).append (.cons (.tup u1 (D4 _)) .nil)
  ·rintro _ H2 ⟨v6,v7,v8,ys,rfl,k2,hc2,hys⟩;refine ⟨_,rfl,_,_,rfl,Or.inl ⟨SqL.of hc2,λt ht=>?_⟩⟩;have st:=b8 (o:=.tup ys) ht;refine q (.ref t) _ ((keepH k2).trans st) (.tup a8 ?_);have:(a5D F ru C u d l r a b).take ((xs.length:Nat):Int).toNat=a5D F ru C u d l r a b:=List.take_of_length_le (by rw [a6P];omega);rw [this] at hys;exact hys.keep st.tups
def kpF (fv wv rv sv tv cv:V):List (Str × V):=[("field",fv),("window",wv),("rule",rv),("share",sv),("told",tv),("touched",cv)]
theorem U5 (f:Str)(v:V):∀ (fs:List (Str × V)) (ns:List Str),fs.map (·.1)=ns->(ns.all λg=>!decide (g=f))=true->N5 f v fs=fs ++ [(f,v)]
 | [],_,_,_=>rfl
 | (g,x) :: r,ns,e,h=>by
  subst e;rw [List.map_cons,List.all_cons,Bool.and_eq_true] at h;have ng:¬ g=f:=λe=>by
   have:=h.1;rw [decide_eq_true (show g=f from e)] at this;exact absurd this (by decide)
  show (if g=f then (g,v) :: r else (g,x) :: N5 f v r)=_
  rw [if_neg ng,U5 f v r _ rfl h.2]
  rfl
def b7A (K:PySem.W.Frag)(Ck:Addr):Sp:=λvs H Q _=>∃ (x dy:Addr) (fv wv rv sv:V) (F:List (List (Option Int))) (ru:l9) (u d l r:Nat) (a b:Int),vs=[.ref x,fv,wv,rv,sv]/\H x=some (.ins Ck dy [])/\F9 F/\IsD H fv (i6 F)/\IsD H wv (a2l u d l r)/\IsD H rv (D0 ru)/\IsD H sv (C7 (a,b))/\M9 a b/\(u<=100/\d<=100/\l<=100/\r<=100)/\(u + d + 1) * (l + r + 1)<=100000 /\
 ∀ (tv:V) (cp:Addr) (H':Hp),c7 x H H'->H' x=some (.ins Ck dy (kpF fv wv rv sv tv (.ref cp)))->IsD H' tv (i6 (fil F ru u d l r a b))->H' cp=some (.tup [])->Q .non H'
theorem a3q (T:Txt K mg C Ck):DfI P w K mg base 5 Ck ["self","field","window","rule","share"] (b7A K Ck):=by
 refine T.m_KeptField_init.ok a6o (λvs H Q E h=>?_) (λf cdv A outer s H vs Q E hr h=>?_)
 ·obtain ⟨x,dy,fv,wv,rv,sv,F,ru,u,d,l,r,a,b,rfl,_⟩:=h
  rfl
 ·obtain ⟨x,dy,fv,wv,rv,sv,F,ru,u,d,l,r,a,b,rfl,hx,R,hf,hw,hru,hs,hS,bb,few,q⟩:=h;refine ⟨_,(@a9 _ _ _ _ _ (a7m (pv 0) (pv 1) rfl)
   (@a9 _ _ _ _ _ (a7m (pv 0) (pv 2) rfl)
   (@a9 _ _ _ _ _ (a7m (pv 0) (pv 3) rfl)
   (@a9 _ _ _ _ _ (a7m (pv 0) (pv 4) rfl)
   (@a9 _ _ _ _ _ (a7m (pv 0) (@f7 _ _ _ _ _ _ _ _ _ _ (a4i T) (hr.mono (by decide)) (@a6 _ _ _ _ _ (pv 1) (@a6 _ _ _ _ _ (pv 2) (@a6 _ _ _ _ _ (pv 3) (@a6 _ _ _ _ _ (pv 4) a7 (by rfl)) (by rfl)) (by rfl)) (by rfl)) (by rfl) (by decide) (by rfl) (by rfl)) rfl)
   (@b9 _ _ _ (a7m (pv 0) (@u7 _ _ _ _ _ a7) rfl))))))),?_⟩
  have put:∀ {H:Hp} {fs gs:List (Str × V)},H x=some (.ins Ck dy fs)->upd H x (.ins Ck dy gs) x=some (.ins Ck dy gs)/\c7 x H (upd H x (.ins Ck dy gs))/\Q5 H (upd H x (.ins Ck dy gs)):=λ{H fs gs} h=>⟨a8,λb o e n=>by rw [d5 n];exact e,λb ws e=>by rw [d5 (B2 e h λz=>by cases z)];exact e⟩;refine ⟨_,rfl,_,rfl,x,Ck,dy,_,rfl,hx,T.cl_KeptField,T.a_field,(by show 0 < 1000;decide),?_⟩;rw [show N5 "field" fv []=[(("field" : Str),fv)] from rfl];obtain ⟨x1,k1,t1⟩:=put (gs:=[(("field" : Str),fv)]) hx;generalize upd H x (.ins Ck dy [(("field" : Str),fv)])=H1 at x1 k1 t1 ⊢;refine ⟨_,rfl,_,rfl,x,Ck,dy,_,rfl,x1,T.cl_KeptField,T.a_window,(by show 1 < 1000;decide),?_⟩;rw [show N5 "window" wv [(("field" : Str),fv)]=[(("field" : Str),fv),("window",wv)] from U5 _ _ _ ["field"] rfl (by decide +kernel)];obtain ⟨x2,k2,t2⟩:=put (gs:=[(("field" : Str),fv),("window",wv)]) x1;generalize upd H1 x (.ins Ck dy [(("field" : Str),fv),("window",wv)])=H2 at x2 k2 t2 ⊢;refine ⟨_,rfl,_,rfl,x,Ck,dy,_,rfl,x2,T.cl_KeptField,T.a_rule,(by show 2 < 1000;decide),?_⟩;rw [show N5 "rule" rv [(("field" : Str),fv),("window",wv)]=[(("field" : Str),fv),("window",wv),("rule",rv)] from U5 _ _ _ ["field","window"] rfl (by decide +kernel)];obtain ⟨x3,k3,t3⟩:=put (gs:=[(("field" : Str),fv),("window",wv),("rule",rv)]) x2;generalize upd H2 x (.ins Ck dy [(("field" : Str),fv),("window",wv),("rule",rv)])=H3 at x3 k3 t3 ⊢;refine ⟨_,rfl,_,rfl,x,Ck,dy,_,rfl,x3,T.cl_KeptField,T.a_share,(by show 3 < 1000;decide),?_⟩;rw [show N5 "share" sv [(("field" : Str),fv),("window",wv),("rule",rv)]=[(("field" : Str),fv),("window",wv),("rule",rv),("share",sv)] from U5 _ _ _ ["field","window","rule"] rfl (by decide +kernel)];obtain ⟨x4,k4,t4⟩:=put (gs:=[(("field" : Str),fv),("window",wv),("rule",rv),("share",sv)]) x3;generalize upd H3 x (.ins Ck dy [(("field" : Str),fv),("window",wv),("rule",rv),("share",sv)])=H4 at x4 k4 t4 ⊢;have t:Q5 H H4:=λb ws e=>t4 _ _ (t3 _ _ (t2 _ _ (t1 _ _ e)));have k:c7 x H H4:=((k1.trans k2).trans k3).trans k4;refine ⟨_,rfl,_,rfl,_,rfl,_,rfl,fv,wv,rv,sv,F,ru,u,d,l,r,a,b,rfl,R,hf.keep t,hw.keep t,hru.keep t,(Shr.of hs).keep t,hS,bb,λtv H5 s5 htv=>?_⟩;refine ⟨_,rfl,x,Ck,dy,_,rfl,s5 _ _ x4,T.cl_KeptField,T.a_told,(by show 4 < 1000;decide),?_⟩;rw [show N5 "told" tv [(("field" : Str),fv),("window",wv),("rule",rv),("share",sv)]=[(("field" : Str),fv),("window",wv),("rule",rv),("share",sv),("told",tv)] from U5 _ _ _ ["field","window","rule","share"] rfl (by decide +kernel)];obtain ⟨x6,k6,t6⟩:=put (gs:=[(("field" : Str),fv),("window",wv),("rule",rv),("share",sv),("told",tv)]) (s5 _ _ x4);generalize upd H5 x (.ins Ck dy [(("field" : Str),fv),("window",wv),("rule",rv),("share",sv),("told",tv)])=H6 at x6 k6 t6 ⊢;refine ⟨(by show 0<=sizeLine;decide),λcp hcp=>?_⟩;have s7:=b8 (o:=.tup []) hcp;refine ⟨_,rfl,x,Ck,dy,_,rfl,s7 _ _ x6,T.cl_KeptField,T.a_touched,(by show 5 < 1000;decide),?_⟩;rw [show N5 "touched" (V.ref cp) [(("field" : Str),fv),("window",wv),("rule",rv),("share",sv),("told",tv)]=kpF fv wv rv sv tv (.ref cp) from U5 _ _ _ ["field","window","rule","share","told"] rfl (by decide +kernel)];obtain ⟨x8,k8,t8⟩:=put (gs:=kpF fv wv rv sv tv (.ref cp)) (s7 _ _ x6);have nc:cp≠x:=(c6 x6 hcp).symm;refine q tv cp _ ?_ x8 (((htv.keep t6).keep s7.tups).keep t8) ?_
  ·exact (((k.trans (s5.but x)).trans k6).trans (s7.but x)).trans k8
  ·exact t8 _ _ a8
section
variable (fv wv rv sv tv cv v:V)
theorem b8E:(kpF fv wv rv sv tv cv).lookup ("told" : Str)=some tv:=rfl
end
def b0K (Ck:Addr)(g:V->V->V->V):Sp:=λvs H Q _=>∃ (x dy:Addr) (fv wv rv sv tv cv:V),vs=[.ref x]/\H x=some (.ins Ck dy (kpF fv wv rv sv tv cv))/\Q (g fv tv cv) H
theorem Y4 (T:Txt K mg C Ck):DfM P w K mg base 1 Ck "told_now" ["self"] (b0K Ck λ_ t _=>t):=by
 refine T.m_KeptField_told_now.ok Y2 (λvs H Q E h=>?_) (λf cdv A outer s H vs Q E hr h=>?_)
 ·obtain ⟨x,dy,fv,wv,rv,sv,tv,cv,rfl,_⟩:=h
  rfl
 ·obtain ⟨x,dy,fv,wv,rv,sv,tv,cv,rfl,hx,q⟩:=h;exact ⟨_,(@b9 _ _ _ (@d8 _ _ _ _ (R5 (K:=K) rfl (pv 0) (by rfl)))),_,rfl,x,Ck,dy,_,_,rfl,hx,T.cl_KeptField,T.a_told,b8E ..,q⟩
def itF (g:Fld->Fld)(F:Fld):Nat->Fld
 | 0=>F
 | k + 1=>g (itF g F k)
theorem b1F (g:Fld->Fld)(F:Fld)(j:Nat):∀ i,itF g (itF g F j) i=itF g F (j + i)
 | 0=>rfl
 | i + 1=>by
  show g (itF g (itF g F j) i)=g (itF g F (j + i))
  rw [b1F g F j i]
def Opn (g:Fld->Fld)(F:Fld)(m:Nat):Prop:=∀ i i',i < i'->i'<=m->itF g F i≠itF g F i'
structure b7Q (g:Fld->Fld)(F:Fld)(j k:Nat):Prop where
 lt:j < k
 eq:itF g F k=itF g F j
 nd:∀ i i',i < i'->i' < k->itF g F i≠itF g F i'
def tlD (s:Str)(F:Fld)(ns:List Int):PyData:=.tuple (.str s :: i6 F :: (ns.map some).map w5)
inductive TD (g:Fld->Fld)(F:Fld)(m:Nat):PyData->Prop
 | opn:Opn g F m->TD g F m (tlD "open" (itF g F m) [])
 | still {j:Nat}:b7Q g F j (j + 1)->j + 1<=m->TD g F m (tlD "still" (itF g F j) [(j:Int)])
 | round {j k:Nat}:b7Q g F j k->k<=m->j + 2<=k->TD g F m (tlD "round" (itF g F j) [(j:Int),(k:Int) - (j:Int)])
def J6 (g:Fld->Fld)(F:Fld)(i:Nat)(xs:List (Fld × Addr × Int)):Prop:=xs.map (λx=>(x.1,x.2.2))=(List.range (i + 1)).map λk:Nat=>(itF g F k,(k:Int))
theorem a1J {g:Fld->Fld}{F:Fld}{i:Nat}{xs:List (Fld × Addr × Int)}(h:J6 g F i xs)(G:Fld):atF xs G=((List.range (i + 1)).find? λk=>decide (itF g F k=G)).map λk:Nat=>(k:Int):=by
 unfold J6 at h;have e1:atF xs G=((xs.map (λx=>(x.1,x.2.2))).find? λy=>decide (y.1=G)).map (·.2):=by
  rw [List.find?_map,Option.map_map]
  rfl
 rw [e1,h,List.find?_map,Option.map_map]
 rfl
theorem a2X {g:Fld->Fld}{F:Fld}{i:Nat}{xs:List (Fld × Addr × Int)}(h:J6 g F i xs){G:Fld}(e:atF xs G=none):∀ k,k<=i->itF g F k≠G:=λk hk=>by
 rw [a1J h] at e;have:=List.find?_eq_none.mp (Option.map_eq_none_iff.mp e) k (List.mem_range.mpr (by omega))
 simpa using this
theorem a0X {g:Fld->Fld}{F:Fld}{i:Nat}{xs:List (Fld × Addr × Int)}(h:J6 g F i xs){G:Fld}{n:Int}(e:atF xs G=some n):∃ k:Nat,k<=i/\n=k/\itF g F k=G:=by
 rw [a1J h] at e;obtain ⟨k,e1,e2⟩:=Option.map_eq_some_iff.mp e;have m:=List.mem_of_find?_eq_some e1;have p:=List.find?_some e1;exact ⟨k,by have:=List.mem_range.mp m;omega,e2.symm,by simpa using p⟩
theorem a1X {g:Fld->Fld}{F:Fld}{i:Nat}{xs:List (Fld × Addr × Int)}(h:J6 g F i xs)(b:Addr):J6 g F (i + 1) (xs ++ [(itF g F (i + 1),b,((i + 1:Nat):Int))]):=by
 unfold J6 at h ⊢;rw [List.map_append,h,List.range_succ (n:=i + 1),List.map_append]
 rfl
theorem b9i {g:Fld->Fld}{F:Fld}{i:Nat}{xs:List (Fld × Addr × Int)}(h:J6 g F i xs):xs.length=i + 1:=by
 have:=congrArg List.length h
 rwa [List.length_map,List.length_map,List.length_range] at this
theorem a3X {g:Fld->Fld}{F:Fld}{i:Nat}{xs:List (Fld × Addr × Int)}(h:J6 g F i xs):xs.map (·.1)=(List.range (i + 1)).map (itF g F):=by
 have:=congrArg (List.map Prod.fst) h;rw [List.map_map,List.map_map] at this;exact this
def gf (ru:l9)(u d l r:Nat)(a b:Int):Fld->Fld:=λF=>fil F ru u d l r a b
theorem a4T {F:Fld}(R:F9 F)(ru:l9)(u d l r:Nat)(a b:Int):∀ k,F9 (itF (gf ru u d l r a b) F k)
 | 0=>R
 | k + 1=>(a4T R ru u d l r a b k).fil _ _ _ _ _ _ _
def b3K:Sp:=λvs H Q _=>∃ (fv:V) (F:Fld) (t r:Int),vs=[fv,.int t,.int r]/\IsD H fv (i6 F)/\∀ (v:V) (H':Hp),i9 H H'->IsD H' v (if r=1 then tlD "still" F [t] else tlD "round" F [t,r])->Q v H'
theorem a3F (T:Txt K mg C Ck):Df P w K mg base 1 "come_again" ["field","times","ring"] b3K:=by
 refine T.d_come_again.ok a4E (λvs H Q E h=>?_) (λf cdv A outer s H vs Q E hr h=>?_)
 ·obtain ⟨fv,F,t,r,rfl,_⟩:=h
  rfl
 ·obtain ⟨fv,F,t,r,rfl,hf,q⟩:=h;refine ⟨_,(@a9 _ _ _ _ _ (@p4 _ _ _ _ _ _ _ _ (@i8 _ _ _ _ _ _ _ _ (A6 hr.units) (pv 2) b6 (l7 _)) (@b9 _ _ _ (@d8 _ _ _ _ (@u7 _ _ _ _ _ (@a6 _ _ _ _ _ B6 (@a6 _ _ _ _ _ (pv 0) (@a6 _ _ _ _ _ (pv 1) a7 (by rfl)) (by rfl)) (by rfl))))) j5)
   (@b9 _ _ _ (@d8 _ _ _ _ (@u7 _ _ _ _ _ (@a6 _ _ _ _ _ B6 (@a6 _ _ _ _ _ (pv 0) (@a6 _ _ _ _ _ (pv 1) (@a6 _ _ _ _ _ (pv 2) a7 (by rfl)) (by rfl)) (by rfl)) (by rfl)))))),?_⟩
  refine ⟨_,rfl,Or.inl ⟨rfl,_,rfl,?_⟩⟩;refine G1 (λz=>?_) (λz=>?_)
  ·have z':r=1:=V.int.inj (of_decide_eq_true z);refine ⟨_,rfl,_,rfl,(by show 3<=sizeLine;decide),λp hp=>?_⟩;have st:=b8 (o:=.tup [.str "still",fv,.int t]) hp;refine q _ _ st ?_;rw [if_pos z'];exact .tup a8 (.cons (.str _) (.cons (hf.keep st.tups) (.cons (.int _) .nil)))
  ·have z':r≠1:=λe=>z (decide_eq_true (by rw [e]));refine ⟨_,rfl,_,rfl,_,rfl,(by show 4<=sizeLine;decide),λp hp=>?_⟩;have st:=b8 (o:=.tup [.str "round",fv,.int t,.int r]) hp;refine q _ _ st ?_;rw [if_neg z'];exact .tup a8 (.cons (.str _) (.cons (hf.keep st.tups) (.cons (.int _) (.cons (.int _) .nil))))
def b2B (K:PySem.W.Frag):Sp:=λvs H Q _=>∃ (fv wv rv sv:V) (F:Fld) (ru:l9) (u d l r m:Nat) (a b:Int),vs=[fv,wv,rv,sv,.int m]/\F9 F/\IsD H fv (i6 F)/\IsD H wv (a2l u d l r)/\IsD H rv (D0 ru)/\Shr K H sv a b/\M9 a b /\
 (u<=100/\d<=100/\l<=100/\r<=100)/\m<=100/\∀ (v:V) (H':Hp) (D:PyData),i9 H H'->TD (gf ru u d l r a b) F m D->IsD H' v D->Q v H'
theorem b6w (T:Txt K mg C Ck):Df P w K mg base 5 "again" ["field","window","rule","share","most"] (b2B K):=by
 refine T.d_again.ok Z4 (λvs H Q E h=>?_) (λf cdv A outer s H vs Q E hr h=>?_)
 ·obtain ⟨fv,wv,rv,sv,F,ru,u,d,l,r,m,a,b,rfl,_⟩:=h
  rfl
 ·obtain ⟨fv,wv,rv,sv,F,ru,u,d,l,r,m,a,b,rfl,R,hf,hw,hru,hs,hS,bb,hm,q⟩:=h;obtain ⟨fa,xs,rfl,hfa,hxs⟩:=w4 hf;refine ⟨_,(@a9 _ _ _ _ _ (@e9 _ _ 5 _ _ _ _ Z4.nd rfl (by trivial) (pv 0) (by rfl) (by first | exact .inl rfl | exact .inr rfl))
   (@a9 _ _ _ _ _ (@e9 _ _ 6 _ _ _ _ Z4.nd rfl (by trivial) (b6L (b0v hr) (b5s (pv 5) b6 b7C)) (by rfl) (by first | exact .inl rfl | exact .inr rfl))
   (@a9 _ _ _ _ _ (@r6 _ _ _ _ _ _ _ _ PassesOwn.never rfl (a3s (by rfl) T.n_range (@a6 _ _ _ _ _ b6 (@a6 _ _ _ _ _ (@g0 _ _ _ _ _ _ _ _ u9 (pv 4) b6) a7 o8) (by rfl))) (i7 (i:=7) Z4.nd rfl (by trivial)) (@a9 _ _ _ _ _ (@e9 _ _ 5 _ _ _ _ Z4.nd rfl (by trivial) (@f7 _ _ _ _ _ _ _ _ _ _ (a4i T) (hr.mono (by decide)) (@a6 _ _ _ _ _ (pv 5) (@a6 _ _ _ _ _ (pv 1) (@a6 _ _ _ _ _ (pv 2) (@a6 _ _ _ _ _ (pv 3) a7 (by rfl)) (by rfl)) (by rfl)) (by rfl)) (by rfl) (by decide) (by rfl) (by rfl)) (by rfl) (by first | exact .inl rfl | exact .inr rfl))
   (@a9 _ _ _ _ _ (@p4 _ _ _ _ _ _ _ _ (@i8 _ _ _ _ _ _ _ _ (b2M (b0v hr)) (pv 5) (pv 6) (by rfl)) (@b9 _ _ _ (@d8 _ _ _ _ (@f7 _ _ _ _ _ _ _ _ _ _ (a3F T) (hr.mono (by decide)) (@a6 _ _ _ _ _ (pv 5) (@a6 _ _ _ _ _ (b2e (b0v hr) (pv 6) (pv 5) (λ_ _=>rfl)) (@a6 _ _ _ _ _ (@g0 _ _ _ _ _ _ _ _ G6 (pv 7) (b2e (b0v hr) (pv 6) (pv 5) (λ_ _=>rfl))) a7 o8) f6) (by rfl)) (by rfl) (by decide) (by rfl) (by rfl)))) j5)
   (@b9 _ _ _ (b6C (b0v hr) (pv 6) (pv 5) (pv 7) rfl)))) (by intro _;rfl))
   (@b9 _ _ _ (@d8 _ _ _ _ (@u7 _ _ _ _ _ (@a6 _ _ _ _ _ B6 (@a6 _ _ _ _ _ (pv 5) a7 (by rfl)) (by rfl)))))))),?_⟩
  refine ⟨_,rfl,λc hc=>?_⟩;have s0:=b8 (o:=V7 c []) hc;refine ⟨_,rfl,F,fa,0,rfl,hf.keep s0.tups,a8,?_⟩;have s1:i9 H (upd (upd H c (V7 c [])) c (V7 c [(F,fa,0)])):=λb' o e=>by
   rw [d5 (c6 e hc),d5 (c6 e hc)];exact e
  have oldne:∀ b' o,H b'=some o->b'≠c:=λb' o e=>c6 e hc;have hc1:upd (upd H c (V7 c [])) c (V7 c [(F,fa,0)]) c=some (V7 c [(F,fa,0)]):=a8;generalize upd (upd H c (V7 c [])) c (V7 c [(F,fa,0)])=H1 at s1 hc1 ⊢;have keepH:∀ {H':Hp},c7 c H1 H'->i9 H H':=λk b' o e=>k b' o (s1 b' o e) (oldne b' o e);have g1:J6 (gf ru u d l r a b) F 0 [(F,fa,0)]:=rfl;refine ⟨_,rfl,_,_,rfl,rfl,_,_,rfl,⟨by omega,by omega,by omega,by omega⟩,?_⟩;refine y6 (n:=((m:Int) + 1 - 1).toNat) (λi σ H'=>∃ (nv:V) (v7:Option V) (xs:List (Fld × Addr × Int)),σ=[some (.ref fa),some wv,some rv,some sv,some (.int m),some nv,some (.ref c),v7]/\c7 c H1 H'/\H' c=some (V7 c xs)/\a1l H' xs/\J6 (gf ru u d l r a b) F i xs/\IsD H' nv (i6 (itF (gf ru u d l r a b) F i))/\Opn (gf ru u d l r a b) F i)
   ⟨_,none,_,rfl,c7.refl _ _,hc1,⟨λx hx=>?_,by simp⟩,g1,hf.keep s1.tups,λi i' h1 h2=>by omega⟩ ?_ ?_
  ·obtain rfl:x=(F,fa,0):=by simpa using hx
   exact hf.keep s1.tups
  ·rintro i _ H2 hi ⟨nv,v7,ys,rfl,k2,hc2,hk2,ht2,hn2,ho2⟩;have hi':i < m:=by
    have:i < ((m:Int) + 1 - 1).toNat:=hi
    omega
   have S2:=keepH k2;have RI:=a4T R ru u d l r a b i;refine ⟨_,rfl,_,rfl,_,rfl,_,rfl,_,_,_,_,_,ru,u,d,l,r,a,b,rfl,RI,hn2,hw.keep S2.tups,hru.keep S2.tups,hs.keep S2.tups,hS,bb,λv H3 s3 hv=>?_⟩;have S3:=S2.trans s3;have hc3:=s3 _ _ hc2;have hk3:=hk2.keep s3.tups;obtain ⟨va,_,rfl,_,_⟩:=w4 hv;have hv':IsD H3 (.ref va) (i6 (itF (gf ru u d l r a b) F (i + 1))):=hv;have ask:b4Q H3 (.ref c) (.ref va) ys (itF (gf ru u d l r a b) F (i + 1)):=⟨c,va,rfl,hc3,hk3,rfl,hv'⟩;refine ⟨_,rfl,_,rfl,_,_,ask,_,rfl,?_⟩;cases e:atF ys (itF (gf ru u d l r a b) F (i + 1)) with
   | some n =>
    refine U8 ?_;obtain ⟨k,hk,rfl,ek⟩:=a0X ht2 e;have bk:b7Q (gf ru u d l r a b) F k (i + 1):=⟨by omega,ek.symm,λx y h1 h2=>ho2 x y h1 (by omega)⟩;refine ⟨_,rfl,_,rfl,_,rfl,_,_,_,ask,e,_,rfl,_,rfl,_,rfl,_,_,_,ask,e,_,_,rfl,rfl,_,_,_,_,rfl,hv',λv H4 s4 h4=>?_⟩;refine q v H4 _ (S3.trans s4) ?_ h4
    by_cases z:(1:Int) + (i:Int) - (k:Int)=1
    ·rw [if_pos z];have:k=i:=by omega
     subst this;have:=TD.still bk hi';rw [show itF (gf ru u d l r a b) F (k + 1)=itF (gf ru u d l r a b) F k from ek.symm];exact this
    ·rw [if_neg z];have:=TD.round bk hi' (by omega);rw [← ek];have e2:(1:Int) + (i:Int) - (k:Int)=((i + 1:Nat):Int) - (k:Int):=by omega
     rw [e2];exact this
   | none =>
    refine y8 ?_;have non:=a2X ht2 e;have l2:=b9i ht2;refine ⟨_,rfl,_,rfl,_,rfl,ys,_,(1:Int) + (i:Int),c,va,rfl,hc3,hk3,rfl,hv',rfl,e,by omega,?_⟩;have kt:Q5 H3 (upd H3 c (V7 c (ys ++ [(itF (gf ru u d l r a b) F (i + 1),va,(1:Int) + (i:Int))]))):=λb' zs e'=>by
     rw [d5 (B2 e' hc3 λz=>by cases z)];exact e'
    have e2:(1:Int) + (i:Int)=((i + 1:Nat):Int):=by omega
    refine ⟨_,_,_,rfl,λb' o e' n=>?_,a8,⟨λx hx=>?_,?_⟩,by rw [e2];exact a1X ht2 va,hv'.keep kt,λx y h1 h2=>?_⟩
    ·rw [d5 n];exact s3 _ _ (k2 b' o e' n)
    ·rcases List.mem_append.mp hx with z | z
     ·exact (hk3.at_ x z).keep kt
     ·obtain rfl:=List.mem_singleton.mp z;exact hv'.keep kt
    ·rw [List.map_append,List.nodup_append];refine ⟨hk2.nd,by simp,λx hx y hy=>?_⟩;rw [a3X ht2] at hx;obtain ⟨k,hk,rfl⟩:=List.mem_map.mp hx;obtain rfl:y=itF (gf ru u d l r a b) F (i + 1):=by simpa using hy
     exact non k (by have:=List.mem_range.mp hk;omega)
    ·by_cases z:y<=i
     ·exact ho2 x y h1 z
     ·obtain rfl:y=i + 1:=by omega
      exact non x (by omega)
  ·rintro _ H2 ⟨nv,v7,ys,rfl,k2,hc2,hk2,ht2,hn2,ho2⟩;have em:((m:Int) + 1 - 1).toNat=m:=by omega
   rw [em] at hn2 ho2;refine ⟨_,rfl,(by show 2<=sizeLine;decide),λp hp=>?_⟩;have st:=b8 (o:=.tup [.str "open",nv]) hp;exact q _ _ _ ((keepH k2).trans st) (.opn ho2) (.tup a8 (.cons (.str _) (.cons (hn2.keep st.tups) .nil)))
theorem b8B {H:Hp}{p:Addr}{r:List Int}(h:H p=some (.tup (r.map V.int))):IsD H (.ref p) (E1 (r.map some)):=by
 refine .tup h ?_;clear h
 induction r with
 | nil=>exact .nil
 | cons x r ih=>exact .cons (.int x) ih
theorem b4F (cs:List (Option Int)):inV .non (cs.map d6)=decide (none∈cs):=by
 induction cs with
 | nil=>rfl
 | cons c cs ih =>
  unfold inV at ih ⊢;rw [List.map_cons,List.any_cons,ih];cases c <;> simp [d6,eqV]
theorem b0G (cs:List (Option Int)):(cs.map d6).all a5k=true:=by
 rw [List.all_eq_true];intro x hx;obtain ⟨c,_,rfl⟩:=List.mem_map.mp hx;cases c <;> rfl
theorem b7b {H:Hp}{p q:Addr}{xs:List V}{G:List (List (Option Int))}{Q:VK}(hp:H p=some (.lst xs))(hx:IsDs H xs (G.map E1))(hq:H q=some (.lst []))(h:Q (.bl (decide (G=[]))) H):b0s (.ref p) (.ref q) H Q:=by
 refine ⟨p,q,_,_,G.map E1,[],rfl,rfl,hp,hq,hx,.nil,⟨a8i G,rfl,?_⟩,?_⟩
 ·have:=X3 G
  show PyData.depthAll (G.map E1) + 1<=20
  omega
 ·cases G with
  | nil=>exact h
  | cons r G=>exact h
theorem b8o {g:Fld->Fld} {F:Fld} {D:PyData} (h:TD g F 1 D) (ne:g F≠F):D=tlD "open" (g F) []:=by
 cases h with
 | opn _=>rfl
 | @still j b hj =>
  obtain rfl:j=0:=by omega
  exact absurd b.eq ne
 | round b hk hj=>omega
theorem b0E {H:Hp} {x y:V} {F:Fld} {Q:VK} (hx:IsD H x (tlD "open" F [])) (hy:IsD H y (tlD "open" F [])) (q:Q (.bl false) H):rNe x y H Q \/ a2L 0 x y H Q:=by
 have c:(tlD "open" F []).canLay0=true:=by
  show PyData.canLayAll0 [.str "open",i6 F]=true
  rw [PyData.canLayAll0,PyData.canLayAll0,PyData.canLayAll0,J4]
  decide +kernel
 refine Or.inr ⟨_,_,hx,hy,⟨c,c,?_⟩,?_⟩
 ·have h1:(i6 F).depth <= 2:=Nat.succ_le_succ (X3 F)
  show PyData.depthAll [.str "open",i6 F] + 1<=20
  rw [PyData.depthAll,PyData.depthAll,PyData.depthAll,PyData.depth]
  omega
 ·have e:PyData.eqv (tlD "open" F []) (tlD "open" F [])=true:=by
   show PyData.eqvAll [.str "open",i6 F] [.str "open",i6 F]=true
   rw [PyData.eqvAll,PyData.eqvAll,PyData.eqvAll,a6j,decide_eq_true rfl]
   rfl
  rw [e];exact q
theorem i40 {k:Nat}(h:k < 13):-(2 ^ 40) < (k:Int)/\(k:Int) < 2 ^ 40:=by omega
theorem i60 {k:Nat}(h:k < 13):-(2 ^ 60) < (k:Int)/\(k:Int) < 2 ^ 60:=by omega
theorem b3E {a b:Nat}(h:a<=6)(k:b<=6):a + b + 1<=13:=by omega
def b7j:Sp:=λvs H Q _=>∃ (fv wv rv sv:V) (F:List (List (Option Int))) (ru:l9) (u d l r:Nat) (a b:Int),vs=[fv,wv,rv,sv]/\F9 F/\b9x F/\IsD H fv (i6 F)/\IsD H wv (a2l u d l r)/\IsD H rv (D0 ru)/\IsD H sv (C7 (a,b))/\M9 a b/\(u<=6/\d<=6/\l<=6/\r<=6)/\∀ H',i9 H H'->Q (.bl true) H'
theorem a1N (T:Txt K mg C Ck):Df P w K mg base 8 "_law_right" ["field","window","rule","share"] b7j:=by
 refine T.d_law_right.ok m6 (λvs H Q E h=>?_) (λf cdv A outer s H vs Q E hr h=>?_)
 ·obtain ⟨fv,wv,rv,sv,F,ru,u,d,l,r,a,b,rfl,_⟩:=h
  rfl
 ·obtain ⟨fv,wv,rv,sv,F,ru,u,d,l,r,a,b,rfl,R,Sz,hf,hw,hru,hs,hS,⟨bu,bd,bl,br⟩,q⟩:=h;refine ⟨_,(@a9 _ _ _ _ _ (@e9 _ _ 4 _ _ _ _ m6.nd rfl (by trivial) (@f7 _ _ _ _ _ _ _ _ _ _ (a2w T) (hr.mono (by decide)) (@a6 _ _ _ _ _ (pv 0) (@a6 _ _ _ _ _ (pv 1) (@a6 _ _ _ _ _ (pv 2) (@a6 _ _ _ _ _ (pv 3) a7 (by rfl)) (by rfl)) (by rfl)) (by rfl)) (by rfl) (by decide) (by rfl) (by rfl)) (by rfl) (by first | exact .inl rfl | exact .inr rfl))
   (@a9 _ _ _ _ _ (@e9 _ _ 5 _ _ _ _ m6.nd rfl (by trivial) (@f7 _ _ _ _ _ _ _ _ _ _ (b3G T) (hr.mono (by decide)) (@a6 _ _ _ _ _ (pv 0) (@a6 _ _ _ _ _ (pv 1) (@a6 _ _ _ _ _ (pv 2) (@a6 _ _ _ _ _ (pv 3) a7 (by rfl)) (by rfl)) (by rfl)) (by rfl)) (by rfl) (by decide) (by rfl) (by rfl)) (by rfl) (by first | exact .inl rfl | exact .inr rfl))
   (@a9 _ _ _ _ _ (@p4 _ _ _ _ _ _ _ _ (b3I (@i8 _ _ _ _ _ _ _ _ (P7 hr.units) (@f7 _ _ _ _ _ _ _ _ _ _ (a4i T) (hr.mono (by decide)) (@a6 _ _ _ _ _ (pv 0) (@a6 _ _ _ _ _ (pv 1) (@a6 _ _ _ _ _ (pv 2) (@a6 _ _ _ _ _ (pv 3) a7 (by rfl)) (by rfl)) (by rfl)) (by rfl)) (by rfl) (by decide) (by rfl) (by rfl)) (pv 4) (l7 _)) (b1s (@i8 _ _ _ _ _ _ _ _ (P7 hr.units) (@j4 _ _ _ _ _ _ _ (c9 (K:=K) rfl) (pv 5) b6 (λ_ _=>rfl)) (pv 4) (l7 _)))).pt (@b9 _ _ _ (@d8 _ _ _ _ a7h)) j5)
   (@a9 _ _ _ _ _ (@a1s _ _ _ _ _ _ (pv 1) (W7 (K:=K) rfl rfl (o9 (i7 (i:=6) m6.nd rfl (by trivial)) (o9 (i7 (i:=7) m6.nd rfl (by trivial)) (o9 (i7 (i:=8) m6.nd rfl (by trivial)) (o9 (i7 (i:=9) m6.nd rfl (by trivial)) R4))))) (by rfl) (by rfl) (by rfl))
   (@a9 _ _ _ _ _ (@e9 _ _ 10 _ _ _ _ m6.nd rfl (by trivial) (@g0 _ _ _ _ _ _ _ _ (b8e (K:=K) rfl) (@u7 _ _ _ _ _ (@a6 _ _ _ _ _ (@g0 _ _ _ _ _ _ _ _ (b8e (K:=K) rfl) (@u7 _ _ _ _ _ (@a6 _ _ _ _ _ b6 a7 (by rfl))) (@g0 _ _ _ _ _ _ _ _ u9 (@g0 _ _ _ _ _ _ _ _ u9 (pv 8) (pv 9)) b6)) a7 o8)) (@g0 _ _ _ _ _ _ _ _ u9 (@g0 _ _ _ _ _ _ _ _ u9 (pv 6) (pv 7)) b6)) (by rfl) (by first | exact .inl rfl | exact .inr rfl))
   (@a9 _ _ _ _ _ (@p4 _ _ _ _ _ _ _ _ (@i8 _ _ _ _ _ _ _ _ (P7 hr.units) (@f7 _ _ _ _ _ _ _ _ _ _ (a4U T) (hr.mono (by decide)) (@a6 _ _ _ _ _ (pv 0) (@a6 _ _ _ _ _ (pv 1) (@a6 _ _ _ _ _ (pv 10) (@a6 _ _ _ _ _ (pv 2) (@a6 _ _ _ _ _ (pv 3) a7 (by rfl)) (by rfl)) (by rfl)) (by rfl)) (by rfl)) (by rfl) (by decide) (by rfl) (by rfl)) (pv 4) (l7 _)) (@b9 _ _ _ (@d8 _ _ _ _ a7h)) j5)
   (@a9 _ _ _ _ _ (@e9 _ _ 11 _ _ _ _ m6.nd rfl (by trivial) (b9s (a3q T) (hr.mono (by decide)) T.g_KeptField (@a6 _ _ _ _ _ (pv 0) (@a6 _ _ _ _ _ (pv 1) (@a6 _ _ _ _ _ (pv 2) (@a6 _ _ _ _ _ (pv 3) a7 (by rfl)) (by rfl)) (by rfl)) (by rfl))) (by rfl) (by first | exact .inl rfl | exact .inr rfl))
   (@a9 _ _ _ _ _ (@p4 _ _ _ _ _ _ _ _ (@i8 _ _ _ _ _ _ _ _ (P7 hr.units) (@b0t _ _ _ _ _ _ _ _ _ _ _ (Y4 T) T.cl_KeptField (hr.mono (by decide)) (pv 11) (by rfl)) (pv 4) (l7 _)) (@b9 _ _ _ (@d8 _ _ _ _ a7h)) j5)
   (@a9 _ _ _ _ _ (@e9 _ _ 12 _ _ _ _ m6.nd rfl (by trivial) (@b4e _ _ _ _ _ _ _ _ (a7Z hr.units) (C6 (M:=[]) (idx:=[]) rfl (q9 (K:=K) rfl (pv 0)) (Q3 (by kernel_rfl)) (by decide +kernel) (by trivial) (λ_ _ _ _ _=>a1j (@i8 _ _ _ _ _ _ _ _ (a6Z (K:=K) rfl) P6 (pv 0) (by rfl))) (λ_ _ _ _ _=>(pv 0))) (@u3 _ _ _ _ a7) (l7 _)) (by rfl) (by first | exact .inl rfl | exact .inr rfl))
   (@a9 _ _ _ _ _ (@e9 _ _ 13 _ _ _ _ m6.nd rfl (by trivial) (@u3 _ _ _ _ (@a6 _ _ _ _ _ (@f8 _ _ _ _ _ _ _ _ _ (j9 (K:=K) rfl) (by rfl) T.n_len u2 (@a6 _ _ _ _ _ (pv 0) a7 (by rfl)) (by decide) (by decide) (by rfl) (by rfl)) (@a6 _ _ _ _ _ (@f8 _ _ _ _ _ _ _ _ _ (j9 (K:=K) rfl) (by rfl) T.n_len u2 (@a6 _ _ _ _ _ (@j4 _ _ _ _ _ _ _ (c9 (K:=K) rfl) (pv 0) b6 (λ_ _=>rfl)) a7 f6) (by decide) (by decide) (by rfl) (by rfl)) a7 d4) d4)) (by rfl) (by first | exact .inl rfl | exact .inr rfl))
   (@a9 _ _ _ _ _ (@p4 _ _ _ _ _ _ _ _ (a3L (b3l (K:=K) rfl (pv 12) (λ_=>rfl)) (a0x (@i8 _ _ _ _ _ _ _ _ (P7 hr.units) (@j4 _ _ _ _ _ _ _ (c9 (K:=K) rfl) (pv 5) b6 (λ_ _=>rfl)) (@f7 _ _ _ _ _ _ _ _ _ _ (b5w T) (hr.mono (by decide)) (@a6 _ _ _ _ _ (@j4 _ _ _ _ _ _ _ (c9 (K:=K) rfl) (pv 13) b6 (λ_ _=>rfl)) (@a6 _ _ _ _ _ (@j4 _ _ _ _ _ _ _ (c9 (K:=K) rfl) (pv 13) b6 (λ_ _=>rfl)) (@a6 _ _ _ _ _ (pv 1) (@a6 _ _ _ _ _ (pv 2) a7 (by rfl)) (by rfl)) f6) f6) (by rfl) (by decide) (by rfl) (by rfl)) (l7 _)))).pt (@b9 _ _ _ (@d8 _ _ _ _ a7h)) j5)
   (@a9 _ _ _ _ _ (@p4 _ _ _ _ _ _ _ _ (@i8 _ _ _ _ _ _ _ _ (P7 hr.units) (pv 4) (pv 0) (l7 _)) (@a9 _ _ _ _ _ (@e9 _ _ 14 _ _ _ _ m6.nd rfl (by trivial) (@f7 _ _ _ _ _ _ _ _ _ _ (b6w T) (hr.mono (by decide)) (@a6 _ _ _ _ _ (pv 0) (@a6 _ _ _ _ _ (pv 1) (@a6 _ _ _ _ _ (pv 2) (@a6 _ _ _ _ _ (pv 3) (@a6 _ _ _ _ _ b6 a7 (by rfl)) (by rfl)) (by rfl)) (by rfl)) (by rfl)) (by rfl) (by decide) (by rfl) (by rfl)) (by rfl) (by first | exact .inl rfl | exact .inr rfl))
   (@b9 _ _ _ (@p4 _ _ _ _ _ _ _ _ (@i8 _ _ _ _ _ _ _ _ (P7 hr.units) (pv 14) (@u7 _ _ _ _ _ (@a6 _ _ _ _ _ B6 (@a6 _ _ _ _ _ (pv 4) a7 (by rfl)) (by rfl))) (l7 _)) (@b9 _ _ _ (@d8 _ _ _ _ a7h)) j5))) j5)
   (@a9 _ _ _ _ _ (@r6 _ _ _ _ _ _ _ _ PassesOwn.never rfl (B1 (by rfl) T.n_range (@a6 _ _ _ _ _ (@f8 _ _ _ _ _ _ _ _ _ (j9 (K:=K) rfl) (by rfl) T.n_len u2 (@a6 _ _ _ _ _ (pv 0) a7 (by rfl)) (by decide) (by decide) (by rfl) (by rfl)) a7 d4)) (i7 (i:=15) m6.nd rfl (by trivial)) (@a9 _ _ _ _ _ (@e9 _ _ 16 _ _ _ _ m6.nd rfl (by trivial) (@g0 _ _ _ _ _ _ _ _ J0 (@g0 _ _ _ _ _ _ _ _ u9 (@g0 _ _ _ _ _ _ _ _ F7 (pv 15) b6) b6) (@f8 _ _ _ _ _ _ _ _ _ (j9 (K:=K) rfl) (by rfl) T.n_len u2 (@a6 _ _ _ _ _ (@j4 _ _ _ _ _ _ _ (c9 (K:=K) rfl) (pv 0) b6 (λ_ _=>rfl)) a7 f6) (by decide) (by decide) (by rfl) (by rfl))) (by rfl) (by first | exact .inl rfl | exact .inr rfl))
   (@a9 _ _ _ _ _ (@e9 _ _ 17 _ _ _ _ m6.nd rfl (by trivial) (@f7 _ _ _ _ _ _ _ _ _ _ (Y0 T) (hr.mono (by decide)) (@a6 _ _ _ _ _ (pv 0) (@a6 _ _ _ _ _ (pv 1) (@a6 _ _ _ _ _ (pv 2) (@a6 _ _ _ _ _ (pv 15) (@a6 _ _ _ _ _ (pv 16) a7 (by rfl)) (by rfl)) (by rfl)) (by rfl)) (by rfl)) (by rfl) (by decide) (by rfl) (by rfl)) (by rfl) (by first | exact .inl rfl | exact .inr rfl))
   (@a9 _ _ _ _ _ (@p4 _ _ _ _ _ _ _ _ (@i8 _ _ _ _ _ _ _ _ (b9L hr.units) (@m9 _ _ _ _ _ _ _ _ _ (A8.or (X5 (K:=K) rfl) (M4 rfl)) (by rfl) T.n_list a6x (@a6 _ _ _ _ _ (pv 17) a7 (by rfl)) (by decide) (by decide) (by rfl) (by rfl)) (@f7 _ _ _ _ _ _ _ _ _ _ (V4 T) (hr.mono (by decide)) (@a6 _ _ _ _ _ (pv 0) (@a6 _ _ _ _ _ (pv 1) (@a6 _ _ _ _ _ (pv 2) (@a6 _ _ _ _ _ (pv 15) (@a6 _ _ _ _ _ (pv 16) a7 (by rfl)) (by rfl)) (by rfl)) (by rfl)) (by rfl)) (by rfl) (by decide) (by rfl) (by rfl)) (l7 _)) (@b9 _ _ _ (@d8 _ _ _ _ a7h)) j5)
   (@a9 _ _ _ _ _ (@p4 _ _ _ _ _ _ _ _ (@i8 _ _ _ _ _ _ _ _ (P7 hr.units) (@f7 _ _ _ _ _ _ _ _ _ _ (O2 T) (hr.mono (by decide)) (@a6 _ _ _ _ _ (pv 0) (@a6 _ _ _ _ _ (pv 2) (@a6 _ _ _ _ _ (pv 15) (@a6 _ _ _ _ _ (pv 16) a7 (by rfl)) (by rfl)) (by rfl)) (by rfl)) (by rfl) (by decide) (by rfl) (by rfl)) (@u7 _ _ _ _ _ (@a6 _ _ _ _ _ (@j4 _ _ _ _ _ _ _ (c9 (K:=K) rfl) (@j4 _ _ _ _ _ _ _ (c9 (K:=K) rfl) (pv 0) (pv 15) (λ_ _=>rfl)) (pv 16) (λ_ _=>rfl)) a7 f6)) (l7 _)) (@b9 _ _ _ (@d8 _ _ _ _ a7h)) j5)
   (@a9 _ _ _ _ _ (@e9 _ _ 18 _ _ _ _ m6.nd rfl (by trivial) (@m9 _ _ _ _ _ _ _ _ _ (o6 (K:=K) rfl) (by rfl) T.n_tuple w6 (@a6 _ _ _ _ _ (C6 (M:=[]) (idx:=[]) rfl (q9 (K:=K) rfl (pv 17)) (Q3 (by kernel_rfl)) (by decide +kernel) (by trivial) (λ_ _ _ _ _=>a1j (@i8 _ _ _ _ _ _ _ _ a6L (pv 0) P6 (l7 _))) (λ_ _ _ _ _=>(pv 0))) a7 G7) (by decide) (by decide) (by rfl) (by rfl)) (by rfl) (by first | exact .inl rfl | exact .inr rfl))
   (@b9 _ _ _ (@p4 _ _ _ _ _ _ _ _ (@i8 _ _ _ _ _ _ _ _ (P7 hr.units) (@f7 _ _ _ _ _ _ _ _ _ _ (a6k T) (hr.mono (by decide)) (@a6 _ _ _ _ _ (pv 18) (@a6 _ _ _ _ _ (pv 3) a7 (by rfl)) (by rfl)) (by rfl) (by decide) (by rfl) (by rfl)) (@j4 _ _ _ _ _ _ _ (c9 (K:=K) rfl) (@j4 _ _ _ _ _ _ _ (c9 (K:=K) rfl) (pv 4) (pv 15) (λ_ _=>rfl)) (pv 16) (λ_ _=>rfl)) (l7 _)) (@b9 _ _ _ (@d8 _ _ _ _ a7h)) j5))))))) (by intro _;rfl))
   (@b9 _ _ _ (@d8 _ _ _ _ a7h))))))))))))))),?_⟩
  obtain ⟨fh,fw⟩:=id Sz;have b7:u<=7/\d<=7/\l<=7/\r<=7:=⟨Nat.le_succ_of_le bu,Nat.le_succ_of_le bd,Nat.le_succ_of_le bl,Nat.le_succ_of_le br⟩;have h6:(6:Nat)<=100:=by decide
  have b100:u<=100/\d<=100/\l<=100/\r<=100:=⟨Nat.le_trans bu h6,Nat.le_trans bd h6,Nat.le_trans bl h6,Nat.le_trans br h6⟩;have bs:F.length <= 100/\d9 F<=100/\u<=100/\d<=100/\l<=100/\r<=100:=⟨Nat.le_trans fh (by decide),Nat.le_trans fw (by decide),b100⟩;refine ⟨_,rfl,_,rfl,_,rfl,_,rfl,?_⟩;refine ⟨fv,wv,rv,sv,F,ru,u,d,l,r,a,b,rfl,R,hf,hw,hru,hs,hS,b100,λdv H1 s1 hdv=>?_⟩;dsimp only [F4,List.set];refine ⟨_,rfl,_,rfl,_,rfl,_,rfl,?_⟩;refine ⟨fv,wv,rv,sv,F,ru,u,d,l,r,a,b,rfl,R,Sz,hf.keep s1.tups,hw.keep s1.tups,hru.keep s1.tups,hs.keep s1.tups,hS,b100,λft v2 H2 s2 hft hv2=>?_⟩;dsimp only [F4,List.set];have S2:=s1.trans s2;refine ⟨_,rfl,_,rfl,_,rfl,_,rfl,?_⟩;refine ⟨fv,wv,rv,sv,F,ru,u,d,l,r,a,b,rfl,R,hf.keep S2.tups,hw.keep S2.tups,hru.keep S2.tups,(Shr.of hs).keep S2.tups,hS,b100,λv3 H3 s3 hv3=>?_⟩;have S3:=S2.trans s3;have d3:=hdv.keep (s2.trans s3).tups;refine ⟨_,rfl,a2j hv3 d3 rfl ⟨_,rfl,y8 ?_⟩⟩;refine ⟨_,rfl,Or.inr (Or.inl ⟨_,_,_,_,rfl,rfl,SqT.of (s3 _ _ hft),rfl,?_⟩)⟩;refine ⟨_,rfl,a2j (hv2.keep s3.tups) d3 rfl ⟨_,rfl,y8 ?_⟩⟩;dsimp only [a9F,a0Q];obtain ⟨wa,rfl,hwa⟩:=U9 hw;refine ⟨_,rfl,_,_,rfl,SqT.of (S3 _ _ hwa),rfl,_,_,rfl,_,_,rfl,_,_,rfl,_,_,rfl,rfl,?_⟩;dsimp only [F4,List.set];refine ⟨(by show 1<=sizeLine;decide),λt4 ht4=>?_⟩;have s4:=b8 (o:=.tup [.int 1]) ht4;have e4:upd H3 t4 (.tup [.int 1]) t4=some (.tup [.int 1]):=a8;generalize upd H3 t4 (.tup [.int 1])=H4 at s4 e4 ⊢;refine ⟨_,rfl,_,rfl,_,_,rfl,rfl,_,_,rfl,rfl,?_⟩;refine ⟨t4,l + r + 1,.int 1,rfl,(by show V.int _=V.int _;congr 1),e4,by omega,λt5 H5 s5 e5=>?_⟩;refine ⟨(by show 1<=sizeLine;decide),λt6 ht6=>?_⟩;have s6:=b8 (o:=.tup [.ref t5]) ht6;have e6:upd H5 t6 (.tup [.ref t5]) t6=some (.tup [.ref t5]):=a8;generalize upd H5 t6 (.tup [.ref t5])=H6 at s6 e6 ⊢;refine ⟨_,rfl,_,rfl,_,_,rfl,rfl,_,_,rfl,rfl,?_⟩;refine ⟨t6,u + d + 1,.ref t5,rfl,(by show V.int _=V.int _;congr 1),e6,by omega,λct H7 s7 e7=>?_⟩;dsimp only [F4,List.set];have e57:=(s6.trans s7) _ _ e5;have hct:IsD H7 (.ref ct) (b9w (a2p (u + d + 1) (l + r + 1))):=by
   refine .tup e7 ?_;unfold a2p;rw [List.map_replicate,List.map_replicate];have hrow:IsD H7 (.ref t5) (E1 ((List.replicate (l + r + 1) (1:Int)).map some)):=b8B (by rw [e57,List.map_replicate]);generalize u + d + 1=n
   induction n with
   | zero=>exact .nil
   | succ n ih=>rw [List.replicate_succ,List.replicate_succ];exact .cons hrow ih
  have S7:i9 H H7:=(((S3.trans s4).trans s5).trans s6).trans s7;have d7:=d3.keep (((s4.trans s5).trans s6).trans s7).tups;have ft7:=((((s3.trans s4).trans s5).trans s6).trans s7) _ _ hft;refine ⟨_,rfl,_,rfl,_,rfl,_,rfl,_,rfl,?_⟩;refine ⟨_,_,_,_,_,F,ru,a2p (u + d + 1) (l + r + 1),u,d,l,r,a,b,rfl,R,b6D _ _,hf.keep S7.tups,hw.keep S7.tups,hct,hru.keep S7.tups,(Shr.of hs).keep S7.tups,hS,b7,λv8 H8 s8 hv8=>?_⟩;have S8:=S7.trans s8;refine ⟨_,rfl,a2j hv8 (d7.keep s8.tups) (b4i F ru u d l r a b) ⟨_,rfl,y8 ?_⟩⟩;dsimp only [a9F,a0Q];refine ⟨_,rfl,_,rfl,_,rfl,_,rfl,?_⟩;dsimp only [a6D,List.nil_append,List.cons_append,List.append_nil];intro x dx hx hdx ne;have s9:i9 H8 (upd (upd H8 dx (.own x)) x (.ins Ck dx [])):=λb o e=>by rw [d5 (c6 e hx),d5 (c6 e hdx)];exact e
  have S9:=S8.trans s9;refine ⟨x,dx,fv,_,rv,sv,F,ru,u,d,l,r,a,b,rfl,a8,R,hf.keep S9.tups,hw.keep S9.tups,hru.keep S9.tups,hs.keep S9.tups,hS,b100,Nat.le_trans (Nat.mul_le_mul (b3E bu bd) (b3E bl br)) (by decide),λtv cp H10 kb e10 ht10 _=>⟨rfl,?_⟩⟩;have s10:i9 H8 H10:=λb o e=>kb b o (s9 b o e) (c6 e hx);have S10:=S8.trans s10;have d10:=(d7.keep s8.tups).keep s10.tups;have ft10:=(s8.trans s10) _ _ ft7;dsimp only [F4,List.set];refine ⟨_,rfl,x,dx,_,rfl,e10,rfl,?_⟩;dsimp only [a6D,List.nil_append,List.cons_append,List.append_nil];refine ⟨x,dx,_,_,_,_,tv,_,rfl,e10,?_⟩;refine ⟨_,rfl,a2j ht10 d10 rfl ⟨_,rfl,y8 ?_⟩⟩;dsimp only [a9F,a0Q];clear s4 s5 s6 s7 s8 s9 e4 e5 e6 e7 e57 hct S7 S8 S9 S3 S2 s1 s2 s3 hv3 hv2 hv8 kb;obtain ⟨fa,xs,b0,ys0,rfl,hfa,la,hb0,hb,lb⟩:=B4 R hf;have lb':ys0.length=d9 F:=lb;obtain ⟨fa',xs',e',hfa',hxs⟩:=w4 hf;obtain rfl:fa=fa':=by cases e';rfl
  obtain rfl:xs=xs':=by rw [hfa] at hfa';cases hfa';rfl
  have h1:=R.h1;have w1:1<=d9 F:=R.w1;refine O6 (K:=K) (xs:=xs) (λk h=>⟨_,rfl,h⟩) (.inl (S10 _ _ hfa)) (λi zs H'=>H'=H10/\IsDs H10 zs (((F.take i).filter λr=>decide (none∈r)).map E1)) ⟨rfl,.nil⟩ (by rw [la];exact Nat.le_trans R.hs (by decide)) (λi zs H' _ ⟨e,_⟩=>by rw [e]) ?_ ?_
  ·rintro i x zs _ hx ⟨rfl,hzs⟩;have hi:i < F.length:=by rw [← la];exact (List.getElem?_eq_some_iff.mp hx).1
   obtain ⟨ra,era,hra⟩:=B7 hxs hi;obtain rfl:x = .ref ra:=by rw [hx] at era;exact Option.some.inj era
   refine ⟨_,rfl,_,_,rfl,Or.inr (SqT.of (S10 _ _ hra)),rfl,b0G _,_,rfl,?_⟩;rw [List.take_succ_eq_append_getElem hi,List.filter_append,List.map_append,List.filter_cons,List.filter_nil]
   show if inV .non ((F[i]).map d6)=true then _ else _
   rw [b4F];refine G1 (λy=>?_) (λy=>?_)
   ·rw [y];refine ⟨_,rfl,rfl,hzs.append (.cons (.tup (S10 _ _ hra) (D4 _)) .nil)⟩
   ·rw [Bool.eq_false_iff.mpr y];refine ⟨rfl,?_⟩
    show IsDs _ (zs ++ []) (_ ++ [])
    rw [List.append_nil,List.append_nil];exact hzs
  rintro zs H' ⟨e',hzs⟩ l11 hl11;subst e';rw [la,List.take_length] at hzs;have s11:=b8 (o:=.lst zs) hl11;refine ⟨(by show 0<=sizeLine;decide),λl12 hl12=>?_⟩;have s12:=b8 (o:=.lst []) hl12;have S12:=s11.trans s12;refine Or.inr (b7b (s12 _ _ a8) (hzs.keep S12.tups) a8 ?_);generalize upd (upd H' l11 (.lst zs)) l12 (.lst [])=H12 at S12 ⊢;clear s11 s12 hzs;have T12:=S10.trans S12;dsimp only [F4,List.set];refine ⟨_,rfl,_,_,rfl,Or.inr ⟨_,SqT.of (T12 _ _ hfa),rfl⟩,?_⟩;refine ⟨_,rfl,Or.inr (Or.inl ⟨_,_,_,_,rfl,rfl,SqT.of (T12 _ _ hfa),hb0,_,_,rfl,Or.inr ⟨_,SqT.of (T12 _ _ hb),rfl⟩,?_⟩)⟩;refine ⟨(by show 2<=sizeLine;decide),λl13 hl13=>?_⟩;have s13:=b8 (o:=.lst [.int (xs.length:Int),.int (ys0.length:Int)]) hl13;have e13:upd H12 l13 (.lst [.int (xs.length:Int),.int (ys0.length:Int)]) l13=some (.lst [.int (xs.length:Int),.int (ys0.length:Int)]):=a8;generalize upd H12 l13 (.lst [.int (xs.length:Int),.int (ys0.length:Int)])=H13 at s13 e13 ⊢;rw [la,lb'] at e13;have T13:=T12.trans s13;have f13:=(S12.trans s13) _ _ ft10;have d13:=d10.keep (S12.trans s13).tups;dsimp only [F4,List.set];clear S10 S12 T12 s13;refine O7 (fun σ' H'=>σ'=[some (.ref fa),some (.ref wa),some rv,some sv,some dv,some (.ref ft),some (.int (u:Int)),some (.int (d:Int)),some (.int (l:Int)),some (.int (r:Int)),some (.ref ct),some (.ref x),some (.bl (decide ((F.filter λr=>decide (none∈r))=[]))),some (.ref l13),none,none,none,none,none]/\i9 H13 H') ?_ (λrest=>?_)
  rotate_left
  ·refine ⟨_,rfl,_,rfl,?_⟩;refine G1 (λy=>?_) (λy=>?_)
   ·have y':=of_decide_eq_true y;have nh:∀ r∈F,none ∉ r:=λr hr hn=>by
     have:r∈F.filter λr=>decide (none∈r):=List.mem_filter.mpr ⟨hr,decide_eq_true hn⟩;rw [y'] at this;cases this
    refine ⟨_,rfl,Or.inr (Or.inl ⟨_,_,_,_,rfl,rfl,SqT.of f13,rfl,?_⟩)⟩;refine ⟨_,rfl,Or.inl ⟨_,_,_,_,rfl,rfl,SqL.of e13,rfl,?_⟩⟩;refine ⟨_,rfl,Or.inl ⟨_,_,_,_,rfl,rfl,SqL.of e13,rfl,?_⟩⟩;refine ⟨_,rfl,_,rfl,?_⟩;refine ⟨_,_,ru,F.length,d9 F,u,d,l,r,rfl,hw.keep T13.tups,hru.keep T13.tups,bs,w1,λH14 s14=>?_⟩;refine Or.inl ⟨rfl,_,rfl,?_⟩;rw [b0a R nh bs,decide_eq_true rfl];exact y8 (rest _ _ ⟨rfl,s14⟩)
   ·exact y8 (rest _ _ ⟨rfl,i9.refl _⟩)
  rintro _ H14 ⟨rfl,s14⟩;have T14:=T13.trans s14;have d14:=d13.keep s14.tups;refine O7 (fun σ' H'=>∃ v14:Option V,σ'=[some (.ref fa),some (.ref wa),some rv,some sv,some dv,some (.ref ft),some (.int (u:Int)),some (.int (d:Int)),some (.int (l:Int)),some (.int (r:Int)),some (.ref ct),some (.ref x),some (.bl (decide ((F.filter λr=>decide (none∈r))=[]))),some (.ref l13),v14,none,none,none,none]/\i9 H14 H') ?_ (λrest=>?_)
  rotate_left
  ·refine ⟨_,rfl,_,rfl,Or.inr ⟨i6 _,i6 F,d14,hf.keep T14.tups,a5I _ _,?_⟩⟩;rw [a6j];refine ⟨_,rfl,?_⟩;refine G1 (λy=>?_) (λy=>?_)
   ·have y':fil F ru u d l r a b≠F:=λe=>by rw [decide_eq_true e] at y;cases y
    refine ⟨_,rfl,_,rfl,_,rfl,_,rfl,?_⟩;refine ⟨_,_,_,_,F,ru,u,d,l,r,1,a,b,rfl,R,hf.keep T14.tups,hw.keep T14.tups,hru.keep T14.tups,(Shr.of hs).keep T14.tups,hS,b100,by decide,λv15 H15 D15 s15 td15 h15=>?_⟩;dsimp only [F4,List.set];rw [b8o td15 y'] at h15;refine ⟨_,rfl,_,rfl,(by show 2<=sizeLine;decide),λp16 hp16=>?_⟩;have s16:=b8 (o:=.tup [.str "open",dv]) hp16;refine b0E (F:=fil F ru u d l r a b) (h15.keep s16.tups) (.tup a8 (.cons (.str _) (.cons ((d14.keep s15.tups).keep s16.tups) .nil))) ⟨_,rfl,y8 ?_⟩;exact rest _ _ ⟨_,rfl,s15.trans s16⟩
   ·exact rest _ _ ⟨_,rfl,i9.refl _⟩
  rintro _ H15 ⟨v14,rfl,s15⟩;have T15:=T14.trans s15;have d15:=d14.keep s15.tups;clear T13 T14 s14 s15 d13 d14 d10 f13 e13 ft10 ht10 e10 d7 ft7 d3;refine ⟨_,rfl,_,_,rfl,Or.inr ⟨_,SqT.of (T15 _ _ hfa),rfl⟩,_,rfl,by omega,by omega,?_⟩;refine y6 (n:=(xs.length:Int).toNat) (λm σ H'=>∃ v15 v16 v17 v18:Option V,σ=[some (.ref fa),some (.ref wa),some rv,some sv,some dv,some (.ref ft),some (.int (u:Int)),some (.int (d:Int)),some (.int (l:Int)),some (.int (r:Int)),some (.ref ct),some (.ref x),some (.bl (decide ((F.filter λr=>decide (none∈r))=[]))),some (.ref l13),v14,v15,v16,v17,v18]/\i9 H15 H') ⟨none,none,none,none,rfl,i9.refl _⟩ ?_ ?_
  rotate_left
  ·rintro _ H16 ⟨v15,v16,v17,v18,rfl,s16⟩;exact q _ (T15.trans s16)
  rintro m _ H16 hm ⟨v15,v16,v17,v18,rfl,s16⟩;have T16:=T15.trans s16;have hm':m < F.length:=by
   rw [← la];exact hm
  dsimp only [F4,List.set];rw [Int.zero_add];refine ⟨_,rfl,_,_,rfl,rfl,Or.inr ⟨by decide,by decide⟩,_,_,rfl,rfl,?_⟩;refine ⟨_,rfl,Or.inr (Or.inl ⟨_,_,_,_,rfl,rfl,SqT.of (T16 _ _ hfa),hb0,_,_,rfl,Or.inr ⟨_,SqT.of (T16 _ _ hb),rfl⟩,?_⟩)⟩;rw [lb'];refine ⟨_,_,rfl,rfl,by omega,?_⟩;obtain ⟨n,en,hn⟩:∃ n:Nat,((m:Int) * 5 + 3) % (d9 F:Int)=(n:Int)/\n < d9 F:=by
   have h0:=Int.emod_nonneg ((m:Int) * 5 + 3) (show (d9 F:Int)≠0 from Int.ofNat_ne_zero.mpr (Nat.ne_of_gt w1));have h2:=Int.emod_lt_of_pos ((m:Int) * 5 + 3) (show (0:Int) < (d9 F:Int) from Int.ofNat_lt.mpr w1);exact ⟨_,(Int.toNat_of_nonneg h0).symm,(Int.toNat_lt h0).mpr h2⟩
  dsimp only [F4,List.set];rw [en];have m13:m < 13:=Nat.lt_of_lt_of_le hm' (Nat.le_trans fh (by decide));have n13:n < 13:=Nat.lt_of_lt_of_le hn (Nat.le_trans fw (by decide));refine ⟨_,rfl,_,rfl,_,rfl,_,rfl,_,rfl,?_⟩;refine ⟨_,_,_,F,ru,u,d,l,r,_,_,rfl,R,hf.keep T16.tups,hw.keep T16.tups,hru.keep T16.tups,i60 m13,i60 n13,b100,λp17 H17 s17 e17=>?_⟩;dsimp only [F4,List.set];have T17:=T16.trans s17;refine ⟨_,rfl,Or.inl ⟨p17,_,rfl,Or.inr (SqT.of e17),λl18 hl18=>?_⟩⟩;have s18:=b8 (o:=.lst ((wc F ru u d l r (m:Int) (n:Int)).map d6)) hl18;have e18:upd H17 l18 (.lst ((wc F ru u d l r (m:Int) (n:Int)).map d6)) l18=some (.lst ((wc F ru u d l r (m:Int) (n:Int)).map d6)):=a8;generalize upd H17 l18 (.lst ((wc F ru u d l r (m:Int) (n:Int)).map d6))=H18 at s18 e18 ⊢;have T18:=T17.trans s18;refine ⟨_,rfl,_,rfl,_,rfl,_,rfl,_,rfl,?_⟩;refine ⟨_,_,_,F,ru,u,d,l,r,_,_,rfl,R,hf.keep T18.tups,hw.keep T18.tups,hru.keep T18.tups,i40 m13,i40 n13,b100,λp19 H19 s19 e19=>?_⟩;have T19:=T18.trans s19;refine Or.inr ⟨l18,p19,_,_,_,_,rfl,rfl,s19 _ _ e18,e19,D4 _,D4 _,⟨C0 _,C0 _,by show PyData.depthAll _ + 1<=20;rw [M7];decide⟩,?_⟩;rw [V3,decide_eq_true rfl];refine ⟨_,rfl,y8 ?_⟩;dsimp only [a9F,a0Q];have hin:inF F (m:Int) (n:Int)=true:=by
   unfold inF;have e:d9 F=(F.headD []).length:=rfl;rw [decide_eq_true (Int.natCast_nonneg m),decide_eq_true (Int.ofNat_lt.mpr hm'),decide_eq_true (Int.natCast_nonneg n),decide_eq_true (Int.ofNat_lt.mpr (e ▸ hn))]
   rfl
  refine ⟨_,rfl,_,rfl,_,rfl,_,rfl,?_⟩;refine ⟨_,_,F,ru,_,_,rfl,R,hf.keep T19.tups,hru.keep T19.tups,λp20 hp20=>?_⟩;rw [b3j ru hin];have s20:=b8 (o:=.tup ([m5 F (m:Int) (n:Int)].map d6)) hp20;have e20:upd H19 p20 (.tup ([m5 F (m:Int) (n:Int)].map d6)) p20=some (.tup ([m5 F (m:Int) (n:Int)].map d6)):=a8;generalize upd H19 p20 (.tup ([m5 F (m:Int) (n:Int)].map d6))=H20 at s20 e20 ⊢;have T20:=T19.trans s20;obtain ⟨fa2,xs2,ra,ys,ef,g1,g2,g3,g4⟩:=field_cell R (hf.keep T20.tups) hm' hn;cases ef;refine ⟨_,rfl,_,rfl,Or.inr (Or.inl ⟨_,_,_,_,rfl,rfl,SqT.of g1,g2,_,rfl,Or.inr (Or.inl ⟨_,_,_,_,rfl,rfl,SqT.of g3,g4,?_⟩)⟩)⟩;refine ⟨(by show 1<=sizeLine;decide),λp21 hp21=>?_⟩;have s21:=b8 (o:=.tup [d6 (m5 F (m:Int) (n:Int))]) hp21;have e21:upd H20 p21 (.tup [d6 (m5 F (m:Int) (n:Int))]) p21=some (.tup [d6 (m5 F (m:Int) (n:Int))]):=a8;generalize upd H20 p21 (.tup [d6 (m5 F (m:Int) (n:Int))])=H21 at s21 e21 ⊢;refine Or.inr ⟨E1 [m5 F (m:Int) (n:Int)],E1 [m5 F (m:Int) (n:Int)],.tup (s21 _ _ e20) (D4 _),.tup e21 (D4 [m5 F (m:Int) (n:Int)]),b0H _ _,?_⟩;rw [b6g,decide_eq_true rfl];refine ⟨_,rfl,y8 ?_⟩;dsimp only [a9F,a0Q];have T21:=T20.trans s21;have s1721:i9 H17 H21:=((s18.trans s19).trans s20).trans s21;have p21':=s1721 _ _ e17;have lw:=a3W F ru u d l r (m:Int) (n:Int);have lw2:(u + d + 1) * (l + r + 1)<=13 * 13:=Nat.mul_le_mul (b3E bu bd) (b3E bl br);refine O6 (K:=K) (xs:=(wc F ru u d l r (m:Int) (n:Int)).map d6) (λk h=>⟨_,rfl,h⟩) (.inl p21') (λi zs H'=>H'=H21/\zs=(((wc F ru u d l r (m:Int) (n:Int)).take i).filterMap id).map V.int) ⟨rfl,rfl⟩ (by rw [List.length_map];exact Nat.le_trans (Nat.le_trans lw lw2) (by decide)) (λi zs H' _ ⟨e,_⟩=>by rw [e]) ?_ ?_
  ·rintro i y zs _ hy ⟨rfl,rfl⟩;rw [List.getElem?_map] at hy;obtain ⟨cl,ec,rfl⟩:=Option.map_eq_some_iff.mp hy;refine ⟨_,rfl,rfl,_,rfl,?_⟩;rw [List.take_add_one,ec,List.filterMap_append,List.map_append];cases cl with
   | none=>exact y8 ⟨rfl,rfl⟩
   | some z=>exact U8 ⟨_,rfl,rfl,rfl⟩
  rintro zs H' ⟨e',ez⟩ l22 hl22;subst e' ez;rw [List.length_map,List.take_of_length_le (Nat.le_refl _)];refine ⟨_,_,rfl,Or.inl ⟨SqL.of a8,λt23 ht23=>?_⟩⟩;have s23:=(b8 (o:=.lst (((wc F ru u d l r (m:Int) (n:Int)).filterMap id).map V.int)) hl22).trans (b8 (o:=.tup (((wc F ru u d l r (m:Int) (n:Int)).filterMap id).map V.int)) ht23);have e23:upd (upd H' l22 (.lst (((wc F ru u d l r (m:Int) (n:Int)).filterMap id).map V.int))) t23 (.tup (((wc F ru u d l r (m:Int) (n:Int)).filterMap id).map V.int)) t23=some (.tup (((wc F ru u d l r (m:Int) (n:Int)).filterMap id).map V.int)):=a8;generalize upd (upd H' l22 (.lst (((wc F ru u d l r (m:Int) (n:Int)).filterMap id).map V.int))) t23 (.tup (((wc F ru u d l r (m:Int) (n:Int)).filterMap id).map V.int))=H23 at s23 e23 ⊢;have T23:=T21.trans s23;dsimp only [F4,List.set];refine ⟨_,rfl,_,rfl,?_⟩;refine ⟨t23,_,_,a,b,rfl,.inl e23,(Shr.of hs).keep T23.tups,hS,λH24 s24=>?_⟩;have T24:=T23.trans s24;have d24:IsD H24 dv (i6 (fil F ru u d l r a b)):=by
   refine d15.keep ?_;exact ((((s16.trans s17).trans s1721).trans s23).trans s24).tups
  have RF:=R.fil ru u d l r a b;have lF:(fil F ru u d l r a b).length=F.length:=by unfold fil;rw [List.length_map,List.length_range]
  have wF:d9 (fil F ru u d l r a b)=d9 F:=a9p R;obtain ⟨fa3,xs3,ra3,ys3,ef3,k1,k2,k3,k4⟩:=field_cell (i:=m) (j:=n) RF d24 (by rw [lF];exact hm') (by rw [show ((fil F ru u d l r a b).headD []).length=d9 F from wF];exact hn);subst ef3;rw [fil_cell (i:=m) (j:=n) hm' hn] at k4;refine ⟨_,rfl,_,rfl,Or.inr (Or.inl ⟨_,_,_,_,rfl,rfl,SqT.of k1,k2,_,rfl,Or.inr (Or.inl ⟨_,_,_,_,rfl,rfl,SqT.of k3,k4,?_⟩)⟩)⟩;refine a8L ⟨_,rfl,y8 ?_⟩;exact ⟨_,_,_,_,rfl,((((s16.trans s17).trans s1721).trans s23).trans s24)⟩
def b3k (K:PySem.W.Frag):Sp:=λvs H Q _=>∃ (a:Addr) (ns:List Int),vs=[.ref a,.int 2]/\SqL K H a (ns.map V.int)/\ns.length <= 63/\∀ (p:Addr) (zs:List V) (H':Hp),i9 H H'->H' p=some (.lst zs)->(∀ x∈zs,∃ z:Int,x = .int z)->Q (.ref p) H'
theorem a3N (T:Txt K mg C Ck):Df P w K mg base 1 "_law_cells" ["script","many"] (b3k K):=by
 refine T.d_law_cells.ok a3K (λvs H Q E h=>?_) (λf cdv A outer s H vs Q E hr h=>?_)
 ·obtain ⟨a,ns,rfl,_⟩:=h
  rfl
 ·obtain ⟨a,ns,rfl,hS,hl,q⟩:=h;refine ⟨_,(@b9 _ _ _ (@d8 _ _ _ _ (@g0 _ _ _ _ _ _ _ _ b5M (b8s (b9V (K:=K) rfl) (pv 0) b9C (b8C (pv 1))) (@u3 _ _ _ _ (@a6 _ _ _ _ _ (@f8 _ _ _ _ _ _ _ _ _ (j9 (K:=K) rfl) (by rfl) T.n_len u2 (@a6 _ _ _ _ _ (pv 0) a7 (by rfl)) (by decide) (by decide) (by rfl) (by rfl)) a7 d4))))),?_⟩;refine ⟨_,rfl,_,rfl,_,rfl,Or.inl ⟨_,_,rfl,hS,λp hp=>?_⟩⟩;have s1:=b8 (o:=.lst (a3t (ns.map V.int) none (some 2))) hp;refine ⟨_,rfl,_,_,rfl,Or.inl ⟨_,s1.seq hS,rfl⟩,?_⟩;refine ⟨(by show 1<=sizeLine;decide),λp2 hp2=>?_⟩;have lc:=b7G (ns.map V.int) none (some 2);rw [List.length_map] at lc ⊢;have s2:=b8 (o:=.lst [.int (ns.length:Int)]) hp2;refine ⟨_,_,_,_,rfl,rfl,s2 _ _ a8,a8,(by exact Nat.le_trans (show _ + 1<=64 by omega) (by decide)),λp3 hp3=>?_⟩;refine q p3 _ _ ((s1.trans s2).trans (b8 hp3)) a8 λx hx=>?_
  rcases List.mem_append.mp hx with y | y
  ·obtain ⟨z,_,e⟩:=List.mem_map.mp (b6G y);exact ⟨z,e.symm⟩
  ·exact ⟨_,by simpa using y⟩
theorem b1P (T:Txt K mg C Ck):Df P w K mg base 9 "law" ["script"] (b8x K):=by
 refine T.d_law.ok Z2 (λvs H Q E h=>?_) (λf cdv A outer s H vs Q E hr h=>?_)
 ·obtain ⟨a,ns,rfl,_⟩:=h
  rfl
 ·obtain ⟨a,ns,rfl,hS,hl,q⟩:=h;refine ⟨_,(@a9 _ _ _ _ _ (@r6 _ _ _ _ _ _ _ _ PassesOwn.never rfl (q9 (K:=K) rfl (@f7 _ _ _ _ _ _ _ _ _ _ (a3N T) (hr.mono (by decide)) (@a6 _ _ _ _ _ (pv 0) (@a6 _ _ _ _ _ b6 a7 (by rfl)) (by rfl)) (by rfl) (by decide) (by rfl) (by rfl))) (i7 (i:=1) Z2.nd rfl (by trivial)) (@a9 _ _ _ _ _ (@e9 _ _ 2 _ _ _ _ Z2.nd rfl (by trivial) (@f7 _ _ _ _ _ _ _ _ _ _ (a7U T) (hr.mono (by decide)) (@a6 _ _ _ _ _ (pv 1) a7 (by rfl)) (by rfl) (by decide) (by rfl) (by rfl)) (by rfl) (by first | exact .inl rfl | exact .inr rfl))
   (@a9 _ _ _ _ _ (@a1s _ _ _ _ _ _ (@f7 _ _ _ _ _ _ _ _ _ _ (a9M T) (hr.mono (by decide)) (@a6 _ _ _ _ _ (pv 2) a7 (by rfl)) (by rfl) (by decide) (by rfl) (by rfl)) (b1D (K:=K) rfl rfl (o9 (i7 (i:=3) Z2.nd rfl (by trivial)) (o9 (i7 (i:=4) Z2.nd rfl (by trivial)) R4))) (by rfl) (by rfl) (by rfl))
   (@a9 _ _ _ _ _ (@e9 _ _ 5 _ _ _ _ Z2.nd rfl (by trivial) (@f7 _ _ _ _ _ _ _ _ _ _ (a2N T) (hr.mono (by decide)) (@a6 _ _ _ _ _ (pv 2) (@a6 _ _ _ _ _ (pv 3) (@a6 _ _ _ _ _ (pv 4) (@a6 _ _ _ _ _ (@f7 _ _ _ _ _ _ _ _ _ _ (l6 T) (hr.mono (by decide)) (@a6 _ _ _ _ _ (pv 2) (@a6 _ _ _ _ _ b6 a7 (by rfl)) (by rfl)) (by rfl) (by decide) (by rfl) (by rfl)) a7 d4) (by rfl)) (by rfl)) (by rfl)) (by rfl) (by decide) (by rfl) (by rfl)) (by rfl) (by first | exact .inl rfl | exact .inr rfl))
   (@a9 _ _ _ _ _ (@e9 _ _ 6 _ _ _ _ Z2.nd rfl (by trivial) (@f7 _ _ _ _ _ _ _ _ _ _ (a2F T) (hr.mono (by decide)) (@a6 _ _ _ _ _ (pv 2) a7 (by rfl)) (by rfl) (by decide) (by rfl) (by rfl)) (by rfl) (by first | exact .inl rfl | exact .inr rfl))
   (@a9 _ _ _ _ _ (@p4 _ _ _ _ _ _ _ _ (@i8 _ _ _ _ _ _ _ _ b9e (@g0 _ _ _ _ _ _ _ _ F7 (pv 3) (pv 4)) b6 (l7 _)) (@b9 _ _ _ (@e9 _ _ 6 _ _ _ _ Z2.nd rfl (by trivial) (@m9 _ _ _ _ _ _ _ _ _ (o6 (K:=K) rfl) (by rfl) T.n_tuple w6 (@a6 _ _ _ _ _ (C6 (M:=[]) (idx:=[]) rfl (q9 (K:=K) rfl (pv 6)) (Q3 (by kernel_rfl)) (by decide +kernel) (by trivial) (λ_ _ _ _ _=>a8o) (λ_ _ _ _ _=>(@f8 _ _ _ _ _ _ _ _ _ (V5 rfl) (by rfl) T.n_min a1C (@a6 _ _ _ _ _ (pv 0) (@a6 _ _ _ _ _ b6 a7 (by rfl)) (by rfl)) (by decide) (by decide) (by rfl) (by rfl)))) a7 G7) (by decide) (by decide) (by rfl) (by rfl)) (by rfl) (by first | exact .inl rfl | exact .inr rfl))) j5)
   (@b9 _ _ _ (@p4 _ _ _ _ _ _ _ _ (@b8K _ _ _ _ (@a4L _ _ _ (@f7 _ _ _ _ _ _ _ _ _ _ (a1N T) (hr.mono (by decide)) (@a6 _ _ _ _ _ (pv 5) (@a6 _ _ _ _ _ (pv 6) (@a6 _ _ _ _ _ (@f7 _ _ _ _ _ _ _ _ _ _ (a8U T) (hr.mono (by decide)) (@a6 _ _ _ _ _ (pv 2) a7 (by rfl)) (by rfl) (by decide) (by rfl) (by rfl)) (@a6 _ _ _ _ _ (@f7 _ _ _ _ _ _ _ _ _ _ (a0N T) (hr.mono (by decide)) (@a6 _ _ _ _ _ (pv 2) a7 (by rfl)) (by rfl) (by decide) (by rfl) (by rfl)) a7 d4) d4) (by rfl)) (by rfl)) (by rfl) (by decide) (by rfl) (by rfl)) (by intro _;rfl))) (@b9 _ _ _ (@d8 _ _ _ _ a7h)) j5))))))) (by intro _;rfl))
   (@b9 _ _ _ (@d8 _ _ _ _ a7h))),?_⟩
  refine Or.inl ?_;refine ⟨_,rfl,_,ns,rfl,hS,hl,λp3 zs H3 s3 e3 hz=>?_⟩;refine ⟨_,rfl,⟨_,SqL.of e3⟩,?_⟩;refine C5 (xs:=zs) (λk σ H'=>∃ (v1 v2 v3 v4 v5 v6:Option V),σ=[some (.ref a),v1,v2,v3,v4,v5,v6]/\i9 H3 H')
   ⟨none,none,none,none,none,none,rfl,i9.refl _⟩ (λk σ H' _ ⟨_,_,_,_,_,_,_,s⟩=>SqL.of (s _ _ e3)) ?_ ?_
  ·rintro k x _ H4 hx ⟨v1,v2,v3,v4,v5,v6,rfl,s4⟩;obtain ⟨z,rfl⟩:=hz x (List.mem_of_getElem? hx);refine ⟨_,rfl,_,rfl,λsd H5 fd D5 s5=>?_⟩;refine ⟨_,rfl,_,rfl,D5,λps hh wd H6 hps h1 h12 w1 w12 D6 k6=>?_⟩;refine ⟨_,_,rfl,SqL.of hps,rfl,_,_,rfl,_,_,rfl,rfl,?_⟩;refine ⟨_,rfl,_,rfl,_,rfl,_,rfl,_,_,rfl,D6,(by decide),(by decide),λho H7 a1 b1 D7 k7=>?_⟩;refine ⟨_,_,_,_,rfl,D7,h1,h12,w1,w12,λfv F H8 hfv R lF wF D8 k8=>?_⟩;refine ⟨_,rfl,_,rfl,D8,λwt u dn l r H9 bu bd bl br hwt D9 k9=>?_⟩;have kt9:Q5 H8 H9:=k9.tups D8.lst.choose_spec;have K9:c7 sd H5 H9:=((k6.trans k7).trans k8).trans k9;dsimp only [F4,List.set];refine O7 (fun σ' H'=>∃ (t:Addr) (u dn l r:Nat),σ'=[some (.ref a),some (.int z),some (.ref sd),some (.int hh),some (.int wd),some fv,some (.ref t)]/\H' t=some (.tup [.int u,.int dn,.int l,.int r])/\(u<=6/\dn<=6/\l<=6/\r<=6)/\i9 H9 H') ?_ (λrest=>?_)
   ·rintro _ H10 ⟨t,u,dn,l,r,rfl,ht,bw,s10⟩;have D10:=D9.keep s10;refine ⟨_,rfl,_,rfl,_,rfl,_,rfl,D10,λrv ru H11 hru D11 k11=>?_⟩;have kt11:Q5 H10 H11:=k11.tups D10.lst.choose_spec;refine ⟨_,rfl,_,rfl,D11,λsv sa sb H12 hsv hSh D12 k12=>?_⟩;have kt12:Q5 H11 H12:=k12.tups D11.lst.choose_spec;refine ⟨_,_,_,_,F,ru,u,dn,l,r,sa,sb,rfl,R,⟨by omega,by have e:d9 F=(F.headD []).length:=rfl;omega⟩,(((hfv.keep kt9).keep s10.tups).keep kt11).keep kt12,((b9T ht).keep kt11).keep kt12,hru.keep kt12,hsv,hSh,bw,λH13 s13=>?_⟩;refine ⟨_,rfl,?_⟩;refine y8 ?_;refine ⟨_,_,_,_,_,_,rfl,λb o e=>?_⟩;have e4:=s4 b o e;exact ((((K9.trans (s10.but sd)).trans k11).trans k12).trans (s13.but sd)) b o (s5 b o e4) (c6 e4 fd)
   ·refine ⟨_,rfl,_,rfl,_,_,rfl,rfl,Or.inl ⟨by omega,by omega⟩,_,_,rfl,rfl,_,rfl,?_⟩;refine G1 (λz2=>?_) (λz2=>?_)
    ·refine O6 (K:=K) (xs:=[V.int u,.int dn,.int l,.int r]) (λk h=>⟨_,rfl,h⟩) (.inl hwt) (λi ys H'=>H'=H9/\ys=([V.int ((min u 2:Nat):Int),.int ((min dn 2:Nat):Int),.int ((min l 2:Nat):Int),.int ((min r 2:Nat):Int)]).take i) ⟨rfl,rfl⟩ (by show 4<=sizeLine;decide) (λi ys H' _ ⟨e,_⟩=>by rw [e]) ?_ ?_
     ·rintro i x ys _ hx ⟨rfl,rfl⟩;have mn:∀ n:Nat,(if (2:Int) < (n:Int) then (2:Int) else (n:Int))=((min n 2:Nat):Int):=λn=>by split <;> omega
      obtain ⟨n,rfl,en⟩:∃ n:Nat,x = .int n/\([V.int ((min u 2:Nat):Int),.int ((min dn 2:Nat):Int),.int ((min l 2:Nat):Int),.int ((min r 2:Nat):Int)])[i]? = some (.int ((min n 2:Nat):Int)):=by
       match i,hx with
       | 0,e=>exact ⟨u,(Option.some.inj e).symm,rfl⟩
       | 1,e=>exact ⟨dn,(Option.some.inj e).symm,rfl⟩
       | 2,e=>exact ⟨l,(Option.some.inj e).symm,rfl⟩
       | 3,e=>exact ⟨r,(Option.some.inj e).symm,rfl⟩
       | n + 4,e=>simp at e
      refine b3t ?_;refine ⟨_,rfl,_,_,rfl,rfl,?_⟩;rw [List.take_add_one,en,mn]
     ·rintro ys H10 ⟨e10,rfl⟩ ls hls;subst e10;refine ⟨_,_,rfl,Or.inl ⟨SqL.of a8,λt ht=>?_⟩⟩;have st:=(b8 (o:=.lst [V.int ((min u 2:Nat):Int),.int ((min dn 2:Nat):Int),.int ((min l 2:Nat):Int),.int ((min r 2:Nat):Int)]) hls).trans (b8 (o:=.tup [V.int ((min u 2:Nat):Int),.int ((min dn 2:Nat):Int),.int ((min l 2:Nat):Int),.int ((min r 2:Nat):Int)]) ht);exact rest _ _ ⟨t,min u 2,min dn 2,min l 2,min r 2,rfl,a8,⟨by omega,by omega,by omega,by omega⟩,st⟩
    ·exact rest _ _ ⟨wt,u,dn,l,r,rfl,hwt,⟨bu,bd,bl,br⟩,i9.refl _⟩
  ·rintro _ H4 ⟨v1,v2,v3,v4,v5,v6,rfl,s4⟩;exact q _
end
def A4 (K:PySem.W.Frag)(mg:Str->Option Value)(x:Str)(st:Stmt):Prop:=∃ (f:Addr) (fd:FuncData),Fun K x x st f fd/\mg x=some (.ref f)
theorem j7 {K:PySem.W.Frag}{mg:Str->Option Value}{x:Str}{st:Stmt}{ps:List Str}(R:A4 K mg x st)(h:∀ (kV doc pm:Value) (an:Option Addr) (cdv ct:Value) (us:List Value),us.length=ps.length -> bindArgs (PySem.W.fnOf x x (J3 st) (B9 st) (c8 st) .none kV doc pm an cdv ct) ⟨us,[]⟩=pure (ps.zip us)):Raw K mg x ps st :=
 let ⟨f,fd,F,m⟩:=R
 ⟨f,fd,F,m,Fun.binds F h⟩
theorem j8 {K:PySem.W.Frag}{h:Heap}{mg:Str->Option Value}(X:K.In h)(G:h.Ns mainGlobals mg){x:Str}{st:Stmt}{f:Addr}{oc:Value}{od an:Option Addr}{osl:Array (Option Value)}{kV doc pm cdv ct:Value}(a:PySem.W.nsIn K mainGlobals x=some (some (.ref f)))(l:K.lookup f=some ⟨oc,od,.func (PySem.W.fnOf x x (J3 st) (B9 st) (c8 st) .none kV doc pm an cdv ct),osl⟩)
  (c:PySem.W.codeIn K cdv x=true) (k:PySem.W.keepIn K (.ref f)=true):A4 K mg x st:=⟨_,_,b2b l c k,PySem.W.mg_of X G a⟩
def a5C (K:PySem.W.Frag)(C:Addr)(m qual:Str)(st:Stmt):Prop:=∃ f fd,b5c K C m f/\Fun K m qual st f fd
theorem a7o {K:PySem.W.Frag}{C:Addr}{m qual:Str}{st:Stmt}{ps:List Str}(R:a5C K C m qual st)(h:∀ (kV doc pm:Value) (an:Option Addr) (cdv ct:Value) (us:List Value),us.length=ps.length -> bindArgs (PySem.W.fnOf m qual (J3 st) (B9 st) (c8 st) .none kV doc pm an cdv ct) ⟨us,[]⟩=pure (ps.zip us)):a0W K C m qual ps st :=
 let ⟨f,fd,M,F⟩:=R
 ⟨f,fd,M,F,Fun.binds F h⟩
theorem a5h {K:PySem.W.Frag}{C:Addr}{m qual:Str}{st:Stmt}{f:Addr}{oc:Value}{od an:Option Addr}{osl:Array (Option Value)}{kV doc pm cdv ct:Value}(a:PySem.W.findIn K (.ref C) m=some (some (.ref f)))(i:PySem.W.isFn K (.ref f)=true)(l:K.lookup f=some ⟨oc,od,.func (PySem.W.fnOf m qual (J3 st) (B9 st) (c8 st) .none kV doc pm an cdv ct),osl⟩)
  (c:PySem.W.codeIn K cdv qual=true) (k:PySem.W.keepIn K (.ref f)=true):a5C K C m qual st:=⟨_,_,⟨a,i,k⟩,b2b l c k⟩
def b8h (K:PySem.W.Frag) (C:Addr) (qual:Str) (st:Stmt):Prop:=∃ f fd,L2.Mk K C f/\Fun K "__init__" qual st f fd
theorem b6d {K:PySem.W.Frag} {C:Addr} {qual:Str} {st:Stmt} {ps:List Str} (R:b8h K C qual st) (h:∀ (kV doc pm:Value) (an:Option Addr) (cdv ct:Value) (us:List Value),us.length=ps.length -> bindArgs (PySem.W.fnOf "__init__" qual (J3 st) (B9 st) (c8 st) .none kV doc pm an cdv ct) ⟨us,[]⟩=pure (ps.zip us)):b0y K C qual ps st :=
 let ⟨f,fd,M,F⟩:=R
 ⟨f,fd,M,F,Fun.binds F h⟩
theorem a1R {K:PySem.W.Frag} {C:Addr} {qual:Str} {st:Stmt} {f:Addr} {oc:Value} {od an:Option Addr} {osl:Array (Option Value)} {kV doc pm cdv ct:Value} (mkC:PySem.W.makesIn K C=true) (kc:PySem.W.keepIn K (.ref C)=true) (a:PySem.W.findIn K (.ref C) "__init__" = some (some (.ref f))) (i:PySem.W.isFn K (.ref f)=true) (l:K.lookup f=some ⟨oc,od,.func (PySem.W.fnOf "__init__" qual (J3 st) (B9 st) (c8 st) .none kV doc pm an cdv ct),osl⟩)
  (c:PySem.W.codeIn K cdv qual=true) (k:PySem.W.keepIn K (.ref f)=true):b8h K C qual st:=⟨_,_,⟨mkC,a,i,kc⟩,b2b l c k⟩
theorem b8I {K:W.Frag}{h:Heap}{mg:Str->Option Value}(X:K.In h)(G:h.Ns mainGlobals mg){Ck:Addr}{C:Addr}
  (a0a:A4 K mg "is_inside" a1h)
  (a1a:A4 K mg "brought_inside" L3)
  (a2a:A4 K mg "stands_at" Z6)
  (a3a:A4 K mg "places_around" N3)
  (a4a:A4 K mg "window_cells" O9)
  (a5a:A4 K mg "place_by_share" L1)
  (a6a:A4 K mg "so_manieth" W0)
  (a7a:A4 K mg "without_holes" N1)
  (a8a:A4 K mg "told_of_cells" N2)
  (a9a:A4 K mg "filtered" a5m)
  (a0b:A4 K mg "come_again" W4)
  (a1b:A4 K mg "again" a0L)
  (a2b:A4 K mg "path" a8Y)
  (a3b:A4 K mg "area_held" a3h)
  (a4b:A4 K mg "not_in" a1z)
  (a5b:A4 K mg "area_beyond" T7)
  (a6b:A4 K mg "steps" a6K)
  (a7b:A4 K mg "numbers_at" W1)
  (a8b:A4 K mg "kinds_of" a4m)
  (a9b:A4 K mg "told_of" a0s)
  (a0c:A4 K mg "slid" a7Y)
  (a1c:A4 K mg "how_many_inside" I0)
  (a2c:A4 K mg "how_many_at" T4)
  (a3c:A4 K mg "moves" a9K)
  (a4c:A4 K mg "counts_at" a2h)
  (a5c:A4 K mg "told_of_counts" L0)
  (a6c:A4 K mg "weighted" a9l)
  (a7c:A4 K mg "_law_seed" a1m)
  (a8c:A4 K mg "_law_draw" a3m)
  (a9c:A4 K mg "_law_cells" a0h)
  (a0d:A4 K mg "_law_number" W3)
  (a1d:A4 K mg "_law_field" a9g)
  (a2d:A4 K mg "_law_sizes" Z7)
  (a3d:A4 K mg "_law_window" W2)
  (a4d:A4 K mg "_law_rule" a2m)
  (a5d:A4 K mg "_law_share" Z8)
  (a6d:A4 K mg "_law_index" a8g)
  (a7d:A4 K mg "_law_window_at" N4)
  (a8d:A4 K mg "_law_told" a0m)
  (a9d:A4 K mg "_law_filtered" P0)
  (a0e:A4 K mg "_law_right" Z9)
  (a1e:A4 K mg "law" b4d)
  (aCk:W.nsIn K mainGlobals "KeptField" = some (some (.ref Ck)))
  (pgk:W.plainGet K Ck Str.empty=true) (hdk:W.hasDictIn K Ck=true) (pok:W.plainOver K Ck=true) (sak:W.findIn K (.ref Ck) "__setattr__" = some (some (.builtin "object.__setattr__")))
  (aC:W.nsIn K mainGlobals "Tally" = some (some (.ref C)))
  (pg:W.plainGet K C Str.empty=true) (hd:W.hasDictIn K C=true) (po:W.plainOver K C=true) (sa:W.findIn K (.ref C) "__setattr__" = some (some (.builtin "object.__setattr__")))
  (a2e:W.findIn K (.ref Ck) "field" = some none)
  (a3e:W.findIn K (.ref C) "often" = some none)
  (a4e:W.findIn K (.ref Ck) "rule" = some none)
  (a5e:W.findIn K (.ref Ck) "share" = some none)
  (a6e:W.findIn K (.ref Ck) "told" = some none)
  (a7e:W.findIn K (.ref Ck) "touched" = some none)
  (a8e:W.findIn K (.ref Ck) "window" = some none)
  (a9e:b8h K Ck "KeptField.__init__" L5)
  (a0f:a5C K Ck "told_now" "KeptField.told_now" E4)
  (a1f:b8h K C "Tally.__init__" W5)
  (a2f:a5C K C "put_in" "Tally.put_in" P1)
  (a3f:a5C K C "take_out" "Tally.take_out" L4)
  (a4f:a5C K C "how_many_in" "Tally.how_many_in" F6)
  (a5f:a5C K C "nth_in" "Tally.nth_in" P2)
  (a6f:W.nsIn K mainGlobals "len" = some none)
  (a7f:W.nsIn K mainGlobals "sum" = some none)
  (a8f:W.nsIn K mainGlobals "max" = some none)
  (a9f:W.nsIn K mainGlobals "min" = some none)
  (a0g:W.nsIn K mainGlobals "tuple" = some none)
  (a1g:W.nsIn K mainGlobals "list" = some none)
  (a2g:W.nsIn K mainGlobals "int" = some none)
  (a3g:W.nsIn K mainGlobals "isinstance" = some none)
  (a4g:W.nsIn K mainGlobals "range" = some none)
  (a5g:W.nsIn K mainGlobals "sorted" = some none)
  (a6g:W.nsIn K mainGlobals "set" = some none)
  (a7g:W.nsIn K mainGlobals "zip" = some none):Txt K mg C Ck where
  d_is_inside:=j7 a0a (ps:=["field","i","j"]) λ_ _ _ _ _ _ us hl=>match us,hl with | [_,_,_],_=>rfl
  d_brought_inside:=j7 a1a (ps:=["rule","place","length"]) λ_ _ _ _ _ _ us hl=>match us,hl with | [_,_,_],_=>rfl
  d_stands_at:=j7 a2a (ps:=["field","rule","i","j"]) λ_ _ _ _ _ _ us hl=>match us,hl with | [_,_,_,_],_=>rfl
  d_places_around:=j7 a3a (ps:=["place","ahead","behind"]) λ_ _ _ _ _ _ us hl=>match us,hl with | [_,_,_],_=>rfl
  d_window_cells:=j7 a4a (ps:=["field","window","rule","i","j"]) λ_ _ _ _ _ _ us hl=>match us,hl with | [_,_,_,_,_],_=>rfl
  d_place_by_share:=j7 a5a (ps:=["how_many","share"]) λ_ _ _ _ _ _ us hl=>match us,hl with | [_,_],_=>rfl
  d_so_manieth:=j7 a6a (ps:=["numbers","share"]) λ_ _ _ _ _ _ us hl=>match us,hl with | [_,_],_=>rfl
  d_without_holes:=j7 a7a (ps:=["cells"]) λ_ _ _ _ _ _ us hl=>match us,hl with | [_],_=>rfl
  d_told_of_cells:=j7 a8a (ps:=["cells","share"]) λ_ _ _ _ _ _ us hl=>match us,hl with | [_,_],_=>rfl
  d_filtered:=j7 a9a (ps:=["field","window","rule","share"]) λ_ _ _ _ _ _ us hl=>match us,hl with | [_,_,_,_],_=>rfl
  d_come_again:=j7 a0b (ps:=["field","times","ring"]) λ_ _ _ _ _ _ us hl=>match us,hl with | [_,_,_],_=>rfl
  d_again:=j7 a1b (ps:=["field","window","rule","share","most"]) λ_ _ _ _ _ _ us hl=>match us,hl with | [_,_,_,_,_],_=>rfl
  d_path:=j7 a2b (ps:=["height","width"]) λ_ _ _ _ _ _ us hl=>match us,hl with | [_,_],_=>rfl
  d_area_held:=j7 a3b (ps:=["window","place"]) λ_ _ _ _ _ _ us hl=>match us,hl with | [_,_],_=>rfl
  d_not_in:=j7 a4b (ps:=["places","others"]) λ_ _ _ _ _ _ us hl=>match us,hl with | [_,_],_=>rfl
  d_area_beyond:=j7 a5b (ps:=["area","other"]) λ_ _ _ _ _ _ us hl=>match us,hl with | [_,_],_=>rfl
  d_steps:=j7 a6b (ps:=["height","width","window"]) λ_ _ _ _ _ _ us hl=>match us,hl with | [_,_,_],_=>rfl
  d_numbers_at:=j7 a7b (ps:=["field","rule","area"]) λ_ _ _ _ _ _ us hl=>match us,hl with | [_,_,_],_=>rfl
  d_kinds_of:=j7 a8b (ps:=["field","rule"]) λ_ _ _ _ _ _ us hl=>match us,hl with | [_,_],_=>rfl
  d_told_of:=j7 a9b (ps:=["tally","share"]) λ_ _ _ _ _ _ us hl=>match us,hl with | [_,_],_=>rfl
  d_slid:=j7 a0c (ps:=["field","window","rule","share"]) λ_ _ _ _ _ _ us hl=>match us,hl with | [_,_,_,_],_=>rfl
  d_how_many_inside:=j7 a1c (ps:=["places","length"]) λ_ _ _ _ _ _ us hl=>match us,hl with | [_,_],_=>rfl
  d_how_many_at:=j7 a2c (ps:=["height","width","rule","area"]) λ_ _ _ _ _ _ us hl=>match us,hl with | [_,_,_,_],_=>rfl
  d_moves:=j7 a3c (ps:=["height","width","window","rule"]) λ_ _ _ _ _ _ us hl=>match us,hl with | [_,_,_,_],_=>rfl
  d_counts_at:=j7 a4c (ps:=["field","window","counts","rule","i","j"]) λ_ _ _ _ _ _ us hl=>match us,hl with | [_,_,_,_,_,_],_=>rfl
  d_told_of_counts:=j7 a5c (ps:=["often","share"]) λ_ _ _ _ _ _ us hl=>match us,hl with | [_,_],_=>rfl
  d_weighted:=j7 a6c (ps:=["field","window","counts","rule","share"]) λ_ _ _ _ _ _ us hl=>match us,hl with | [_,_,_,_,_],_=>rfl
  d_law_seed:=j7 a7c (ps:=["cell"]) λ_ _ _ _ _ _ us hl=>match us,hl with | [_],_=>rfl
  d_law_draw:=j7 a8c (ps:=["seed","most"]) λ_ _ _ _ _ _ us hl=>match us,hl with | [_,_],_=>rfl
  d_law_cells:=j7 a9c (ps:=["script","many"]) λ_ _ _ _ _ _ us hl=>match us,hl with | [_,_],_=>rfl
  d_law_number:=j7 a0d (ps:=["seed","kind"]) λ_ _ _ _ _ _ us hl=>match us,hl with | [_,_],_=>rfl
  d_law_field:=j7 a1d (ps:=["seed","height","width","holes"]) λ_ _ _ _ _ _ us hl=>match us,hl with | [_,_,_,_],_=>rfl
  d_law_sizes:=j7 a2d (ps:=["seed"]) λ_ _ _ _ _ _ us hl=>match us,hl with | [_],_=>rfl
  d_law_window:=j7 a3d (ps:=["seed"]) λ_ _ _ _ _ _ us hl=>match us,hl with | [_],_=>rfl
  d_law_rule:=j7 a4d (ps:=["seed"]) λ_ _ _ _ _ _ us hl=>match us,hl with | [_],_=>rfl
  d_law_share:=j7 a5d (ps:=["seed"]) λ_ _ _ _ _ _ us hl=>match us,hl with | [_],_=>rfl
  d_law_index:=j7 a6d (ps:=["rule","k","size"]) λ_ _ _ _ _ _ us hl=>match us,hl with | [_,_,_],_=>rfl
  d_law_window_at:=j7 a7d (ps:=["field","window","rule","i","j"]) λ_ _ _ _ _ _ us hl=>match us,hl with | [_,_,_,_,_],_=>rfl
  d_law_told:=j7 a8d (ps:=["cells","share"]) λ_ _ _ _ _ _ us hl=>match us,hl with | [_,_],_=>rfl
  d_law_filtered:=j7 a9d (ps:=["field","window","rule","share"]) λ_ _ _ _ _ _ us hl=>match us,hl with | [_,_,_,_],_=>rfl
  d_law_right:=j7 a0e (ps:=["field","window","rule","share"]) λ_ _ _ _ _ _ us hl=>match us,hl with | [_,_,_,_],_=>rfl
  d_law:=j7 a1e (ps:=["script"]) λ_ _ _ _ _ _ us hl=>match us,hl with | [_],_=>rfl
  g_KeptField:=W.mg_of X G aCk
  cl_KeptField:=⟨pgk,hdk,pok,sak⟩
  g_Tally:=W.mg_of X G aC
  cl_Tally:=⟨pg,hd,po,sa⟩
  a_field:=a2e
  a_often:=a3e
  a_rule:=a4e
  a_share:=a5e
  a_told:=a6e
  a_touched:=a7e
  a_window:=a8e
  m_KeptField_init:=b6d a9e (ps:=["self","field","window","rule","share"]) λ_ _ _ _ _ _ us hl=>match us,hl with | [_,_,_,_,_],_=>rfl
  m_KeptField_told_now:=a7o a0f (ps:=["self"]) λ_ _ _ _ _ _ us hl=>match us,hl with | [_],_=>rfl
  m_Tally_init:=b6d a1f (ps:=["self","kinds"]) λ_ _ _ _ _ _ us hl=>match us,hl with | [_,_],_=>rfl
  m_Tally_put_in:=a7o a2f (ps:=["self","number"]) λ_ _ _ _ _ _ us hl=>match us,hl with | [_,_],_=>rfl
  m_Tally_take_out:=a7o a3f (ps:=["self","number"]) λ_ _ _ _ _ _ us hl=>match us,hl with | [_,_],_=>rfl
  m_Tally_how_many_in:=a7o a4f (ps:=["self"]) λ_ _ _ _ _ _ us hl=>match us,hl with | [_],_=>rfl
  m_Tally_nth_in:=a7o a5f (ps:=["self","place"]) λ_ _ _ _ _ _ us hl=>match us,hl with | [_,_],_=>rfl
  n_len:=W.mg_none_of X G a6f
  n_sum:=W.mg_none_of X G a7f
  n_max:=W.mg_none_of X G a8f
  n_min:=W.mg_none_of X G a9f
  n_tuple:=W.mg_none_of X G a0g
  n_list:=W.mg_none_of X G a1g
  n_int:=W.mg_none_of X G a2g
  n_isinstance:=W.mg_none_of X G a3g
  n_range:=W.mg_none_of X G a4g
  n_sorted:=W.mg_none_of X G a5g
  n_set:=W.mg_none_of X G a6g
  n_zip:=W.mg_none_of X G a7g
end Mw
namespace PySem.W.Fast
theorem tw10003303759742955849:True:=⟨⟩
theorem tw10066194757889887075:True:=⟨⟩
theorem tw10098004710168283938:True:=⟨⟩
theorem tw10109081403224736445:True:=⟨⟩
theorem tw10171542113933544908:True:=⟨⟩
theorem tw10177045398426338171:True:=⟨⟩
theorem tw10179808415567695607:True:=⟨⟩
theorem tw10179827273248547635:True:=⟨⟩
theorem tw10204822058043933555:True:=⟨⟩
theorem tw10239461200875870414:True:=⟨⟩
theorem tw10271868360129299079:True:=⟨⟩
theorem tw10405733708141234697:True:=⟨⟩
theorem tw10463538273211038499:True:=⟨⟩
theorem tw10480612637879308351:True:=⟨⟩
theorem tw10528744172483581819:True:=⟨⟩
theorem tw1059942610943799467:True:=⟨⟩
theorem tw10627217170877093138:True:=⟨⟩
theorem tw10674568569421933553:True:=⟨⟩
theorem tw10772691657889113032:True:=⟨⟩
theorem tw10819904088917639936:True:=⟨⟩
theorem tw1086710631183637433:True:=⟨⟩
theorem tw10936260952952864479:True:=⟨⟩
theorem tw10937261034618984715:True:=⟨⟩
theorem tw10946624666926772928:True:=⟨⟩
theorem tw10955631591876310850:True:=⟨⟩
theorem tw11091660484823485110:True:=⟨⟩
theorem tw11118845705603397115:True:=⟨⟩
theorem tw11152019350340155909:True:=⟨⟩
theorem tw11226596934293828390:True:=⟨⟩
theorem tw11284044812245485455:True:=⟨⟩
theorem tw11369906525597580605:True:=⟨⟩
theorem tw11471858174130490750:True:=⟨⟩
theorem tw11569940462385903796:True:=⟨⟩
theorem tw11580978628295669103:True:=⟨⟩
theorem tw1158378140095166634:True:=⟨⟩
theorem tw11622579383330682713:True:=⟨⟩
theorem tw11642569623140891339:True:=⟨⟩
theorem tw11646226155542745389:True:=⟨⟩
theorem tw11671061564412874139:True:=⟨⟩
theorem tw11693538743067465363:True:=⟨⟩
theorem tw11760503680576100681:True:=⟨⟩
theorem tw1176534377025904846:True:=⟨⟩
theorem tw11808605920017213922:True:=⟨⟩
theorem tw11822965824960629995:True:=⟨⟩
theorem tw11837244284929537170:True:=⟨⟩
theorem tw1186308883369578441:True:=⟨⟩
theorem tw11923637360459829939:True:=⟨⟩
theorem tw11988324847424718937:True:=⟨⟩
theorem tw12038369795620225601:True:=⟨⟩
theorem tw12042951264260657221:True:=⟨⟩
theorem tw12055908224733179554:True:=⟨⟩
theorem tw12100923264161618554:True:=⟨⟩
theorem tw12100944628998793699:True:=⟨⟩
theorem tw12110135430310745024:True:=⟨⟩
theorem tw12185237054750169882:True:=⟨⟩
theorem tw1218755604449772070:True:=⟨⟩
theorem tw12227588985830498228:True:=⟨⟩
theorem tw12265039575432549171:True:=⟨⟩
theorem tw12266885762244234966:True:=⟨⟩
theorem tw12354835282185927184:True:=⟨⟩
theorem tw12371912457486640625:True:=⟨⟩
theorem tw12410484312957227992:True:=⟨⟩
theorem tw12470465808992749220:True:=⟨⟩
theorem tw1255493940780187996:True:=⟨⟩
theorem tw12565941197461432516:True:=⟨⟩
theorem tw12571910924050068217:True:=⟨⟩
theorem tw12573863193683785042:True:=⟨⟩
theorem tw12626567512870213325:True:=⟨⟩
theorem tw12645480798639634598:True:=⟨⟩
theorem tw12701348848729662096:True:=⟨⟩
theorem tw12702878509010332730:True:=⟨⟩
theorem tw12707796371612484160:True:=⟨⟩
theorem tw12733193451070743520:True:=⟨⟩
theorem tw12772102626729448432:True:=⟨⟩
theorem tw1277484388305611807:True:=⟨⟩
theorem tw12831256746321317873:True:=⟨⟩
theorem tw12832395402724931685:True:=⟨⟩
theorem tw12940064523701111606:True:=⟨⟩
theorem tw12961439620565939644:True:=⟨⟩
theorem tw13017240417034218031:True:=⟨⟩
theorem tw13020954660207540975:True:=⟨⟩
theorem tw13179302033400303488:True:=⟨⟩
theorem tw13287244572449718490:True:=⟨⟩
theorem tw13356730958159003493:True:=⟨⟩
theorem tw13369499434862334540:True:=⟨⟩
theorem tw13413079653907831699:True:=⟨⟩
theorem tw1344144736109910249:True:=⟨⟩
theorem tw13452039689998956460:True:=⟨⟩
theorem tw13456772382808240203:True:=⟨⟩
theorem tw13560995780202938816:True:=⟨⟩
theorem tw1362280094897784522:True:=⟨⟩
theorem tw13683684972592844054:True:=⟨⟩
theorem tw13691147291030212739:True:=⟨⟩
theorem tw137203039508556253:True:=⟨⟩
theorem tw1399102815511596585:True:=⟨⟩
theorem tw14091815349434477875:True:=⟨⟩
theorem tw14121326535124133349:True:=⟨⟩
theorem tw14129075433861701055:True:=⟨⟩
theorem tw14202407933640957121:True:=⟨⟩
theorem tw1423176734648515620:True:=⟨⟩
theorem tw14239389236310281693:True:=⟨⟩
theorem tw14314261529848138934:True:=⟨⟩
theorem tw14324024360514500004:True:=⟨⟩
theorem tw14333134898840691418:True:=⟨⟩
theorem tw14561771718204739775:True:=⟨⟩
theorem tw14573842812778963189:True:=⟨⟩
theorem tw14645936803109125562:True:=⟨⟩
theorem tw14647691350161348696:True:=⟨⟩
theorem tw14827436320041375232:True:=⟨⟩
theorem tw14833928512692207689:True:=⟨⟩
theorem tw14870112834612765235:True:=⟨⟩
theorem tw14871046707066167342:True:=⟨⟩
theorem tw14902352563598425231:True:=⟨⟩
theorem tw14938470424896363631:True:=⟨⟩
theorem tw14943244068809318028:True:=⟨⟩
theorem tw14945071335719602618:True:=⟨⟩
theorem tw15118801953231905719:True:=⟨⟩
theorem tw15198670825274320:True:=⟨⟩
theorem tw1524479046159298146:True:=⟨⟩
theorem tw15279707184934653637:True:=⟨⟩
theorem tw15307335048836514619:True:=⟨⟩
theorem tw15361963857603446485:True:=⟨⟩
theorem tw15369104128977264790:True:=⟨⟩
theorem tw15379476144502350458:True:=⟨⟩
theorem tw15473342408768882826:True:=⟨⟩
theorem tw15474326202538278128:True:=⟨⟩
theorem tw15502978021114124079:True:=⟨⟩
theorem tw15503417215526290559:True:=⟨⟩
theorem tw15520580228693141023:True:=⟨⟩
theorem tw15559804184709786147:True:=⟨⟩
theorem tw15596784207201564904:True:=⟨⟩
theorem tw15627318786265160192:True:=⟨⟩
theorem tw15685239840707329820:True:=⟨⟩
theorem tw15712384865954488384:True:=⟨⟩
theorem tw15729662190359026881:True:=⟨⟩
theorem tw1574467885975208057:True:=⟨⟩
theorem tw15769607312291505230:True:=⟨⟩
theorem tw15815073234272007365:True:=⟨⟩
theorem tw15842585102411286248:True:=⟨⟩
theorem tw15878858657086702256:True:=⟨⟩
theorem tw15899732899201612629:True:=⟨⟩
theorem tw15967273314319573470:True:=⟨⟩
theorem tw16038579065289559363:True:=⟨⟩
theorem tw16090383597136030108:True:=⟨⟩
theorem tw16126282529494799350:True:=⟨⟩
theorem tw16169602757267512382:True:=⟨⟩
theorem tw16169717098674925913:True:=⟨⟩
theorem tw16178752935658186929:True:=⟨⟩
theorem tw16275983315380202320:True:=⟨⟩
theorem tw16303552556264866875:True:=⟨⟩
theorem tw16362731573648115498:True:=⟨⟩
theorem tw16363684837895591848:True:=⟨⟩
theorem tw16414344719485119688:True:=⟨⟩
theorem tw16420104504725120442:True:=⟨⟩
theorem tw1651472979306369710:True:=⟨⟩
theorem tw16525931313705733707:True:=⟨⟩
theorem tw16554187893847810951:True:=⟨⟩
theorem tw16583344691323412999:True:=⟨⟩
theorem tw16586605473592831787:True:=⟨⟩
theorem tw16618360497782157285:True:=⟨⟩
theorem tw16625709642536648448:True:=⟨⟩
theorem tw16632515069845593349:True:=⟨⟩
theorem tw16644013899060761975:True:=⟨⟩
theorem tw16675284689256637459:True:=⟨⟩
theorem tw16704913678004933870:True:=⟨⟩
theorem tw1682226002856497176:True:=⟨⟩
theorem tw1692484859764536642:True:=⟨⟩
theorem tw16941787749873361998:True:=⟨⟩
theorem tw17074392986593335886:True:=⟨⟩
theorem tw17127801790107622630:True:=⟨⟩
theorem tw1712915283029010123:True:=⟨⟩
theorem tw17143405840973946929:True:=⟨⟩
theorem tw17144579051088814534:True:=⟨⟩
theorem tw17195238069271089847:True:=⟨⟩
theorem tw17201542144565656487:True:=⟨⟩
theorem tw17202582279584369580:True:=⟨⟩
theorem tw17207377749662297815:True:=⟨⟩
theorem tw17292894173072234814:True:=⟨⟩
theorem tw17320435368135601376:True:=⟨⟩
theorem tw17332670382252796781:True:=⟨⟩
theorem tw1739771668255471944:True:=⟨⟩
theorem tw17456799761671273169:True:=⟨⟩
theorem tw17481847708474358482:True:=⟨⟩
theorem tw17483076117899665331:True:=⟨⟩
theorem tw17579549223215956124:True:=⟨⟩
theorem tw1762234684611818289:True:=⟨⟩
theorem tw17637558000867038887:True:=⟨⟩
theorem tw17845689116349429128:True:=⟨⟩
theorem tw17866837489403179273:True:=⟨⟩
theorem tw17881571436462222776:True:=⟨⟩
theorem tw17969934721059062552:True:=⟨⟩
theorem tw17989953203021661365:True:=⟨⟩
theorem tw17999716854770142571:True:=⟨⟩
theorem tw18003224998944221303:True:=⟨⟩
theorem tw18027919618758573945:True:=⟨⟩
theorem tw18072610476629131311:True:=⟨⟩
theorem tw18155936507439384575:True:=⟨⟩
theorem tw18179039104261873172:True:=⟨⟩
theorem tw18245427128530102083:True:=⟨⟩
theorem tw18257345625288799103:True:=⟨⟩
theorem tw18262198374152439424:True:=⟨⟩
theorem tw18288117986023077198:True:=⟨⟩
theorem tw18293274771608912717:True:=⟨⟩
theorem tw18369876015886719971:True:=⟨⟩
theorem tw18389733257750621264:True:=⟨⟩
theorem tw1839554237846168680:True:=⟨⟩
theorem tw18420179920890391596:True:=⟨⟩
theorem tw18429838581122218534:True:=⟨⟩
theorem tw2063368358000626605:True:=⟨⟩
theorem tw2116641505254993484:True:=⟨⟩
theorem tw2164616217493803478:True:=⟨⟩
theorem tw218844234999353530:True:=⟨⟩
theorem tw22304492662251281:True:=⟨⟩
theorem tw2265114601825001505:True:=⟨⟩
theorem tw2284964794092469268:True:=⟨⟩
theorem tw2289478291223322689:True:=⟨⟩
theorem tw2381350823418884300:True:=⟨⟩
theorem tw2397340923719418371:True:=⟨⟩
theorem tw2468326053078315950:True:=⟨⟩
theorem tw24844270068271762:True:=⟨⟩
theorem tw2518505225321654184:True:=⟨⟩
theorem tw258749686055656451:True:=⟨⟩
theorem tw2649796251018606670:True:=⟨⟩
theorem tw2650173443380688814:True:=⟨⟩
theorem tw2671829583034909477:True:=⟨⟩
theorem tw2676952427934379515:True:=⟨⟩
theorem tw2718015726353712037:True:=⟨⟩
theorem tw2816569860486050136:True:=⟨⟩
theorem tw2911798046860265015:True:=⟨⟩
theorem tw2936451719886824012:True:=⟨⟩
theorem tw2969129630727152930:True:=⟨⟩
theorem tw2977548455585051179:True:=⟨⟩
theorem tw3011613183987552605:True:=⟨⟩
theorem tw3039750499731013273:True:=⟨⟩
theorem tw3044822566922140029:True:=⟨⟩
theorem tw3114340513736724401:True:=⟨⟩
theorem tw3116539499899213436:True:=⟨⟩
theorem tw3118406663008836477:True:=⟨⟩
theorem tw3136434570921904197:True:=⟨⟩
theorem tw3202080116602619199:True:=⟨⟩
theorem tw3349387743213397023:True:=⟨⟩
theorem tw3389370888183466086:True:=⟨⟩
theorem tw3456196663450604431:True:=⟨⟩
theorem tw3462171996248083406:True:=⟨⟩
theorem tw3504360184256491045:True:=⟨⟩
theorem tw3521293325240758244:True:=⟨⟩
theorem tw3583064495494446446:True:=⟨⟩
theorem tw3611550107508794051:True:=⟨⟩
theorem tw3638955360501608595:True:=⟨⟩
theorem tw3715120570015821104:True:=⟨⟩
theorem tw3736792330984993017:True:=⟨⟩
theorem tw3776887001539421903:True:=⟨⟩
theorem tw3782477341147237074:True:=⟨⟩
theorem tw3784670330726107:True:=⟨⟩
theorem tw3796292461472078648:True:=⟨⟩
theorem tw381450000590209210:True:=⟨⟩
theorem tw3842437982682561120:True:=⟨⟩
theorem tw3846415736966282595:True:=⟨⟩
theorem tw3855068011927835166:True:=⟨⟩
theorem tw3864611454373776302:True:=⟨⟩
theorem tw3872220242623228073:True:=⟨⟩
theorem tw392234750974544916:True:=⟨⟩
theorem tw3958318537584074615:True:=⟨⟩
theorem tw395936943650917991:True:=⟨⟩
theorem tw4039833829123421207:True:=⟨⟩
theorem tw4050598014957105520:True:=⟨⟩
theorem tw4071732771371279070:True:=⟨⟩
theorem tw4095653312838346499:True:=⟨⟩
theorem tw4115587628852661479:True:=⟨⟩
theorem tw4124817464198203853:True:=⟨⟩
theorem tw4129598230729657599:True:=⟨⟩
theorem tw4261074199740595994:True:=⟨⟩
theorem tw4295481328189843182:True:=⟨⟩
theorem tw4298582152538945089:True:=⟨⟩
theorem tw4315885361733897205:True:=⟨⟩
theorem tw432988253309437807:True:=⟨⟩
theorem tw4332372542418730558:True:=⟨⟩
theorem tw4352958864998800173:True:=⟨⟩
theorem tw4566206310301319017:True:=⟨⟩
theorem tw4575060918431865786:True:=⟨⟩
theorem tw4616776891844433857:True:=⟨⟩
theorem tw4627096396602580982:True:=⟨⟩
theorem tw4715996860739199409:True:=⟨⟩
theorem tw4728972299422776044:True:=⟨⟩
theorem tw4755698968953616124:True:=⟨⟩
theorem tw4780106724627055087:True:=⟨⟩
theorem tw4873685498574181257:True:=⟨⟩
theorem tw4890894372209936763:True:=⟨⟩
theorem tw4902707283373439572:True:=⟨⟩
theorem tw491088639348995747:True:=⟨⟩
theorem tw5005535541458953955:True:=⟨⟩
theorem tw5011436392019732743:True:=⟨⟩
theorem tw5072080878198672887:True:=⟨⟩
theorem tw5091425321202606231:True:=⟨⟩
theorem tw512498883394569933:True:=⟨⟩
theorem tw5132092048111837659:True:=⟨⟩
theorem tw5147102002082162347:True:=⟨⟩
theorem tw5174906050657859418:True:=⟨⟩
theorem tw5196250568746532540:True:=⟨⟩
theorem tw5205546082015341910:True:=⟨⟩
theorem tw5222435375017203696:True:=⟨⟩
theorem tw5278963636510575427:True:=⟨⟩
theorem tw5285646620298925325:True:=⟨⟩
theorem tw5294555559700487552:True:=⟨⟩
theorem tw5295743147509984902:True:=⟨⟩
theorem tw5377078393987096526:True:=⟨⟩
theorem tw5394147574981780288:True:=⟨⟩
theorem tw5396609282982389308:True:=⟨⟩
theorem tw545983284723714957:True:=⟨⟩
theorem tw5527094623515487952:True:=⟨⟩
theorem tw5581383071799643018:True:=⟨⟩
theorem tw5644193547286436954:True:=⟨⟩
theorem tw5705574638115398712:True:=⟨⟩
theorem tw5705656674724772922:True:=⟨⟩
theorem tw5815850137894528134:True:=⟨⟩
theorem tw5822697582785080807:True:=⟨⟩
theorem tw58650062432680890:True:=⟨⟩
theorem tw5884235012018642950:True:=⟨⟩
theorem tw6038219361825001643:True:=⟨⟩
theorem tw6089048019256909631:True:=⟨⟩
theorem tw6215657861990183300:True:=⟨⟩
theorem tw6235404048653523363:True:=⟨⟩
theorem tw6312498344665146204:True:=⟨⟩
theorem tw6367008828282269726:True:=⟨⟩
theorem tw6395415988566693189:True:=⟨⟩
theorem tw6414153667620554044:True:=⟨⟩
theorem tw6429536704224229169:True:=⟨⟩
theorem tw6478851945320467262:True:=⟨⟩
theorem tw6529685637188981047:True:=⟨⟩
theorem tw6559324139962405418:True:=⟨⟩
theorem tw6602143423403750972:True:=⟨⟩
theorem tw6611575730551157287:True:=⟨⟩
theorem tw6633392982304669791:True:=⟨⟩
theorem tw6633752634806862459:True:=⟨⟩
theorem tw675977148579697484:True:=⟨⟩
theorem tw6795589933462668128:True:=⟨⟩
theorem tw6870244515050071267:True:=⟨⟩
theorem tw6916723394339414440:True:=⟨⟩
theorem tw6924689506659599400:True:=⟨⟩
theorem tw6945626451355511517:True:=⟨⟩
theorem tw7051896330279578766:True:=⟨⟩
theorem tw7057201058599984519:True:=⟨⟩
theorem tw7058021360795575889:True:=⟨⟩
theorem tw7104087977107131678:True:=⟨⟩
theorem tw7108361211407188728:True:=⟨⟩
theorem tw7139971620244048065:True:=⟨⟩
theorem tw7150774522362662030:True:=⟨⟩
theorem tw7207244373570741920:True:=⟨⟩
theorem tw7258242809603991574:True:=⟨⟩
theorem tw7303804417789229532:True:=⟨⟩
theorem tw7317008757813950462:True:=⟨⟩
theorem tw7368545777865304703:True:=⟨⟩
theorem tw7431839607943493160:True:=⟨⟩
theorem tw7556501840863059230:True:=⟨⟩
theorem tw7597515723151680167:True:=⟨⟩
theorem tw7618996393441405199:True:=⟨⟩
theorem tw7636015206854132950:True:=⟨⟩
theorem tw7660889292315049419:True:=⟨⟩
theorem tw768868507622483310:True:=⟨⟩
theorem tw7693763678640904643:True:=⟨⟩
theorem tw7736130152110156398:True:=⟨⟩
theorem tw7747237788631544874:True:=⟨⟩
theorem tw7754222851002711428:True:=⟨⟩
theorem tw7796888953358065671:True:=⟨⟩
theorem tw7812497946982976200:True:=⟨⟩
theorem tw7839237056777135964:True:=⟨⟩
theorem tw7854623432495839860:True:=⟨⟩
theorem tw787430010485352756:True:=⟨⟩
theorem tw7907239945425624017:True:=⟨⟩
theorem tw8022148709471150385:True:=⟨⟩
theorem tw8178598635046066067:True:=⟨⟩
theorem tw8193117493232886418:True:=⟨⟩
theorem tw8194582609336445011:True:=⟨⟩
theorem tw8195282920757972439:True:=⟨⟩
theorem tw8267003022923177253:True:=⟨⟩
theorem tw8269233544821384037:True:=⟨⟩
theorem tw8352707115214654526:True:=⟨⟩
theorem tw8485918652995042213:True:=⟨⟩
theorem tw8488714674468345537:True:=⟨⟩
theorem tw8548062684275358962:True:=⟨⟩
theorem tw864117939801914611:True:=⟨⟩
theorem tw8649754259710186446:True:=⟨⟩
theorem tw8719918049254678670:True:=⟨⟩
theorem tw8739507567309518542:True:=⟨⟩
theorem tw8763766382160280899:True:=⟨⟩
theorem tw8783744654037114985:True:=⟨⟩
theorem tw8838256522991758459:True:=⟨⟩
theorem tw8853389819106112045:True:=⟨⟩
theorem tw8860003506998346022:True:=⟨⟩
theorem tw8873966958864087836:True:=⟨⟩
theorem tw8881652974076326134:True:=⟨⟩
theorem tw8893161291275655589:True:=⟨⟩
theorem tw8920458757434577055:True:=⟨⟩
theorem tw8926172733732404381:True:=⟨⟩
theorem tw8994427539523111251:True:=⟨⟩
theorem tw9012149078631419846:True:=⟨⟩
theorem tw9013030696853412400:True:=⟨⟩
theorem tw904672830415409258:True:=⟨⟩
theorem tw9085951741703721965:True:=⟨⟩
theorem tw9096464740134288385:True:=⟨⟩
theorem tw9121848115730692110:True:=⟨⟩
theorem tw9301522159959208903:True:=⟨⟩
theorem tw9341209245260497519:True:=⟨⟩
theorem tw9343284540069667190:True:=⟨⟩
theorem tw9388641721137014842:True:=⟨⟩
theorem tw9416246641637867785:True:=⟨⟩
theorem tw9582355552623734040:True:=⟨⟩
theorem tw9587023492590867735:True:=⟨⟩
theorem tw9628104879835963990:True:=⟨⟩
theorem tw9700094977047516914:True:=⟨⟩
theorem tw9747519356867162688:True:=⟨⟩
theorem tw9842850096835007362:True:=⟨⟩
theorem tw9904171256458087619:True:=⟨⟩
theorem tw994768422879948710:True:=⟨⟩
theorem tw9964347814605066017:True:=⟨⟩
end PySem.W.Fast
open PySem PySem.W PyProof.Rows
set_option maxHeartbeats 0 in
theorem PySem.Challenge.cw_midwindow_k39_whole_all_roads_holds : PySem.Challenge.rw_midwindow_k39_whole_all_roads.Holds := by
 w_on;o_law;k_head;(case hw=>w_witness2)
 k_fill
 refine L2.b7y (l:=PySem.Challenge.rw_midwindow_k39_whole_all_roads) (k:=9) (st:=Mw.b4d) rfl rfl rfl ⟨rfl,by decide,by decide⟩ (fun w h Y=>W.kIn_of Y) (fun _ _ _ _ _ _ _=>rfl) ?F
 case F =>
  intro w mg h KX G
  have T:∃ C Ck,Mw.Txt (L2.KOf KX) mg C Ck:=by
   dsimp only [L2.KOf]
   refine' ⟨_,⟨_,Mw.b8I KX G (Mw.j8 KX G ?h0 ?h1 ?h2 ?h3) (Mw.j8 KX G ?h4 ?h5 ?h6 ?h7) (Mw.j8 KX G ?h8 ?h9 ?h10 ?h11) (Mw.j8 KX G ?h12 ?h13 ?h14 ?h15) (Mw.j8 KX G ?h16 ?h17 ?h18 ?h19) (Mw.j8 KX G ?h20 ?h21 ?h22 ?h23) (Mw.j8 KX G ?h24 ?h25 ?h26 ?h27) (Mw.j8 KX G ?h28 ?h29 ?h30 ?h31) (Mw.j8 KX G ?h32 ?h33 ?h34 ?h35) (Mw.j8 KX G ?h36 ?h37 ?h38 ?h39) (Mw.j8 KX G ?h40 ?h41 ?h42 ?h43) (Mw.j8 KX G ?h44 ?h45 ?h46 ?h47) (Mw.j8 KX G ?h48 ?h49 ?h50 ?h51) (Mw.j8 KX G ?h52 ?h53 ?h54 ?h55) (Mw.j8 KX G ?h56 ?h57 ?h58 ?h59) (Mw.j8 KX G ?h60 ?h61 ?h62 ?h63) (Mw.j8 KX G ?h64 ?h65 ?h66 ?h67) (Mw.j8 KX G ?h68 ?h69 ?h70 ?h71) (Mw.j8 KX G ?h72 ?h73 ?h74 ?h75) (Mw.j8 KX G ?h76 ?h77 ?h78 ?h79) (Mw.j8 KX G ?h80 ?h81 ?h82 ?h83) (Mw.j8 KX G ?h84 ?h85 ?h86 ?h87) (Mw.j8 KX G ?h88 ?h89 ?h90 ?h91) (Mw.j8 KX G ?h92 ?h93 ?h94 ?h95) (Mw.j8 KX G ?h96 ?h97 ?h98 ?h99) (Mw.j8 KX G ?h100 ?h101 ?h102 ?h103) (Mw.j8 KX G ?h104 ?h105 ?h106 ?h107) (Mw.j8 KX G ?h108 ?h109 ?h110 ?h111) (Mw.j8 KX G ?h112 ?h113 ?h114 ?h115) (Mw.j8 KX G ?h116 ?h117 ?h118 ?h119) (Mw.j8 KX G ?h120 ?h121 ?h122 ?h123) (Mw.j8 KX G ?h124 ?h125 ?h126 ?h127) (Mw.j8 KX G ?h128 ?h129 ?h130 ?h131) (Mw.j8 KX G ?h132 ?h133 ?h134 ?h135) (Mw.j8 KX G ?h136 ?h137 ?h138 ?h139) (Mw.j8 KX G ?h140 ?h141 ?h142 ?h143) (Mw.j8 KX G ?h144 ?h145 ?h146 ?h147) (Mw.j8 KX G ?h148 ?h149 ?h150 ?h151) (Mw.j8 KX G ?h152 ?h153 ?h154 ?h155) (Mw.j8 KX G ?h156 ?h157 ?h158 ?h159) (Mw.j8 KX G ?h160 ?h161 ?h162 ?h163) (Mw.j8 KX G ?h164 ?h165 ?h166 ?h167) ?aCk ?pgk ?hdk ?pok ?sak ?aC ?pg ?hd ?po ?sa ?a2e ?a3e ?a4e ?a5e ?a6e ?a7e ?a8e (Mw.a1R ?h168 ?h169 ?h170 ?h171 ?h172 ?h173 ?h174) (Mw.a5h ?h175 ?h176 ?h177 ?h178 ?h179) (Mw.a1R ?h180 ?h181 ?h182 ?h183 ?h184 ?h185 ?h186) (Mw.a5h ?h187 ?h188 ?h189 ?h190 ?h191) (Mw.a5h ?h192 ?h193 ?h194 ?h195 ?h196) (Mw.a5h ?h197 ?h198 ?h199 ?h200 ?h201) (Mw.a5h ?h202 ?h203 ?h204 ?h205 ?h206) ?a6f ?a7f ?a8f ?a9f ?a0g ?a1g ?a2g ?a3g ?a4g ?a5g ?a6g ?a7g⟩⟩
   (case h0=>k_is)
   (case h1=>k_is)
   (case h2=>k_is)
   (case h3=>k_is)
   (case h4=>k_is)
   (case h5=>k_is)
   (case h6=>k_is)
   (case h7=>k_is)
   (case h8=>k_is)
   (case h9=>k_is)
   (case h10=>k_is)
   (case h11=>k_is)
   (case h12=>k_is)
   (case h13=>k_is)
   (case h14=>k_is)
   (case h15=>k_is)
   (case h16=>k_is)
   (case h17=>k_is)
   (case h18=>k_is)
   (case h19=>k_is)
   (case h20=>k_is)
   (case h21=>k_is)
   (case h22=>k_is)
   (case h23=>k_is)
   (case h24=>k_is)
   (case h25=>k_is)
   (case h26=>k_is)
   (case h27=>k_is)
   (case h28=>k_is)
   (case h29=>k_is)
   (case h30=>k_is)
   (case h31=>k_is)
   (case h32=>k_is)
   (case h33=>k_is)
   (case h34=>k_is)
   (case h35=>k_is)
   (case h36=>k_is)
   (case h37=>k_is)
   (case h38=>k_is)
   (case h39=>k_is)
   (case h40=>k_is)
   (case h41=>k_is)
   (case h42=>k_is)
   (case h43=>k_is)
   (case h44=>k_is)
   (case h45=>k_is)
   (case h46=>k_is)
   (case h47=>k_is)
   (case h48=>k_is)
   (case h49=>k_is)
   (case h50=>k_is)
   (case h51=>k_is)
   (case h52=>k_is)
   (case h53=>k_is)
   (case h54=>k_is)
   (case h55=>k_is)
   (case h56=>k_is)
   (case h57=>k_is)
   (case h58=>k_is)
   (case h59=>k_is)
   (case h60=>k_is)
   (case h61=>k_is)
   (case h62=>k_is)
   (case h63=>k_is)
   (case h64=>k_is)
   (case h65=>k_is)
   (case h66=>k_is)
   (case h67=>k_is)
   (case h68=>k_is)
   (case h69=>k_is)
   (case h70=>k_is)
   (case h71=>k_is)
   (case h72=>k_is)
   (case h73=>k_is)
   (case h74=>k_is)
   (case h75=>k_is)
   (case h76=>k_is)
   (case h77=>k_is)
   (case h78=>k_is)
   (case h79=>k_is)
   (case h80=>k_is)
   (case h81=>k_is)
   (case h82=>k_is)
   (case h83=>k_is)
   (case h84=>k_is)
   (case h85=>k_is)
   (case h86=>k_is)
   (case h87=>k_is)
   (case h88=>k_is)
   (case h89=>k_is)
   (case h90=>k_is)
   (case h91=>k_is)
   (case h92=>k_is)
   (case h93=>k_is)
   (case h94=>k_is)
   (case h95=>k_is)
   (case h96=>k_is)
   (case h97=>k_is)
   (case h98=>k_is)
   (case h99=>k_is)
   (case h100=>k_is)
   (case h101=>k_is)
   (case h102=>k_is)
   (case h103=>k_is)
   (case h104=>k_is)
   (case h105=>k_is)
   (case h106=>k_is)
   (case h107=>k_is)
   (case h108=>k_is)
   (case h109=>k_is)
   (case h110=>k_is)
   (case h111=>k_is)
   (case h112=>k_is)
   (case h113=>k_is)
   (case h114=>k_is)
   (case h115=>k_is)
   (case h116=>k_is)
   (case h117=>k_is)
   (case h118=>k_is)
   (case h119=>k_is)
   (case h120=>k_is)
   (case h121=>k_is)
   (case h122=>k_is)
   (case h123=>k_is)
   (case h124=>k_is)
   (case h125=>k_is)
   (case h126=>k_is)
   (case h127=>k_is)
   (case h128=>k_is)
   (case h129=>k_is)
   (case h130=>k_is)
   (case h131=>k_is)
   (case h132=>k_is)
   (case h133=>k_is)
   (case h134=>k_is)
   (case h135=>k_is)
   (case h136=>k_is)
   (case h137=>k_is)
   (case h138=>k_is)
   (case h139=>k_is)
   (case h140=>k_is)
   (case h141=>k_is)
   (case h142=>k_is)
   (case h143=>k_is)
   (case h144=>k_is)
   (case h145=>k_is)
   (case h146=>k_is)
   (case h147=>k_is)
   (case h148=>k_is)
   (case h149=>k_is)
   (case h150=>k_is)
   (case h151=>k_is)
   (case h152=>k_is)
   (case h153=>k_is)
   (case h154=>k_is)
   (case h155=>k_is)
   (case h156=>k_is)
   (case h157=>k_is)
   (case h158=>k_is)
   (case h159=>k_is)
   (case h160=>k_is)
   (case h161=>k_is)
   (case h162=>k_is)
   (case h163=>k_is)
   (case h164=>k_is)
   (case h165=>k_is)
   (case h166=>k_is)
   (case h167=>k_is)
   (case aCk=>k_is)
   (case pgk=>k_is)
   (case hdk=>k_is)
   (case pok=>k_is)
   (case sak=>k_is)
   (case aC=>k_is)
   (case pg=>k_is)
   (case hd=>k_is)
   (case po=>k_is)
   (case sa=>k_is)
   (case a2e=>k_is)
   (case a3e=>k_is)
   (case a4e=>k_is)
   (case a5e=>k_is)
   (case a6e=>k_is)
   (case a7e=>k_is)
   (case a8e=>k_is)
   (case h168=>k_is)
   (case h169=>k_is)
   (case h170=>k_is)
   (case h171=>k_is)
   (case h172=>k_is)
   (case h173=>k_is)
   (case h174=>k_is)
   (case h175=>k_is)
   (case h176=>k_is)
   (case h177=>k_is)
   (case h178=>k_is)
   (case h179=>k_is)
   (case h180=>k_is)
   (case h181=>k_is)
   (case h182=>k_is)
   (case h183=>k_is)
   (case h184=>k_is)
   (case h185=>k_is)
   (case h186=>k_is)
   (case h187=>k_is)
   (case h188=>k_is)
   (case h189=>k_is)
   (case h190=>k_is)
   (case h191=>k_is)
   (case h192=>k_is)
   (case h193=>k_is)
   (case h194=>k_is)
   (case h195=>k_is)
   (case h196=>k_is)
   (case h197=>k_is)
   (case h198=>k_is)
   (case h199=>k_is)
   (case h200=>k_is)
   (case h201=>k_is)
   (case h202=>k_is)
   (case h203=>k_is)
   (case h204=>k_is)
   (case h205=>k_is)
   (case h206=>k_is)
   (case a6f=>k_is)
   (case a7f=>k_is)
   (case a8f=>k_is)
   (case a9f=>k_is)
   (case a0g=>k_is)
   (case a1g=>k_is)
   (case a2g=>k_is)
   (case a3g=>k_is)
   (case a4g=>k_is)
   (case a5g=>k_is)
   (case a6g=>k_is)
   (case a7g=>k_is)
  obtain ⟨C,Ck,T⟩:=T
  exact ⟨T.d_law,fun base=>Mw.b1P T⟩
