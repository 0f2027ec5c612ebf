import PyProof.Rows.All
import Wide.All
import OpenK.AllK
import Wide.FinOn
import Lean
import PyProof.EqAt
import PyProof.EqKinds
import PyProof.TupleCall
import KE.LcSums
import PyProof.StrReplace2
import PyProof.FitsReplace
import PyProof.RulesAs
import PyProof.NsDelKeeps
import PyProof.Rows.Catch
import OpenK.KOwn
import KE.KTryMore
import PyProof.ExcArgs
import KE.KUnpack
import PyProof.P3In
import PyProof.Rows.SortRuns
import PyProof.Rows.SortShell
import PyProof.TupleOfSeq
import PyProof.SetKind
import PyProof.Rows.SetFrom
import PyProof.WalksMore
import PyProof.DictIter
import PyProof.SetRoads
import KE.KDictSum
import KE.KSortedM
import KE.KIntText
import PyProof.StrWalks
import PyProof.EnumMake
import PyProof.EnumStmt
import PyProof.SliceStr2
import PyProof.StrLawsTight
import PyProof.StrLawsChain
import PyProof.ZipIter
import KE.KPairComp
import PyProof.DictItems
import PyProof.DictWalks
import PyProof.SumAny
import KE.KFind
import PyProof.EnumIter
import PyProof.ListMulAny
import PyProof.FactsAll.tuple
import PyProof.P3Eq
import PyProof.TupleKey
import PyProof.FactsAll.NoneType
import PyProof.DictRoadsH
import PyProof.Rows.TupDisplay
import KE.KSortTup
import PyProof.InstStoreFacts
import PyProof.ExcInit
import PyProof.LayNew
import OpenK.KCls
import PySem.Challenge.RW_midwindow_k02_no_field
set_option Elab.async false
set_option linter.all false
set_option maxRecDepth 100000
set_option maxHeartbeats 4000000
namespace L2
open PySem PySem.Spec PyProof.Rows
abbrev Key := Sum Int Str
def keyIs : Key → Value → Bool
  | .inl k, v => Value.isInt k v
  | .inr x, v => Value.isStrOf x v
def keyH (w : World) : Key → Int
  | .inl k => hashInt k
  | .inr x => hashStr w x
theorem keyIs_shape : ∀ {k : Key} {v : Value}, keyIs k v = true → (∃ i t, k = Sum.inl i ∧ v = Value.int i t) ∨ (∃ x t, k = Sum.inr x ∧ v = Value.str x t)
  | .inl i, v, h => by
    obtain ⟨t, e⟩ := Value.isInt_shape (k := i) (v := v) h
    exact .inl ⟨i, t, rfl, e⟩
  | .inr x, v, h => by
    obtain ⟨t, e⟩ := Value.isStrOf_shape (x := x) (v := v) h
    exact .inr ⟨x, t, rfl, e⟩
theorem key_ll (a b : Int) : decide ((Sum.inl a : Key) = Sum.inl b) = (a == b) := by
  by_cases e : a = b
  · subst e; simp
  · have h : ¬ (Sum.inl a : Key) = Sum.inl b := fun q => e (Sum.inl.inj q)
    rw [decide_eq_false h]
    exact (beq_eq_false_iff_ne.mpr e).symm
theorem key_rr (a b : Str) : decide ((Sum.inr a : Key) = Sum.inr b) = decide (a = b) := by
  by_cases e : a = b
  · subst e; simp
  · have h : ¬ (Sum.inr a : Key) = Sum.inr b := fun q => e (Sum.inr.inj q)
    rw [decide_eq_false h, decide_eq_false e]
theorem key_lr (a : Int) (b : Str) : decide ((Sum.inl a : Key) = Sum.inr b) = false := decide_eq_false (fun q => nomatch q)
theorem key_rl (a : Str) (b : Int) : decide ((Sum.inr a : Key) = Sum.inl b) = false := decide_eq_false (fun q => nomatch q)
def mixKind (prog : Program) (w : World) : PySem.KeyKind prog w Key where
  is := keyIs
  hash := keyH w
  inj := fun v a b ha hb => by
    rcases keyIs_shape ha with ⟨i, t, rfl, rfl⟩ | ⟨x, t, rfl, rfl⟩
    · rcases keyIs_shape hb with ⟨j, u, rfl, e⟩ | ⟨y, u, rfl, e⟩
      · injection e with e1 _; rw [e1]
      · exact nomatch e
    · rcases keyIs_shape hb with ⟨j, u, rfl, e⟩ | ⟨y, u, rfl, e⟩
      · exact nomatch e
      · injection e with e1 _; rw [e1]
  byValue := fun k v h => by
    rcases keyIs_shape h with ⟨i, t, rfl, rfl⟩ | ⟨x, t, rfl, rfl⟩ <;> rfl
  pyHash := fun hv h => by
    rcases keyIs_shape hv with ⟨i, t, rfl, rfl⟩ | ⟨x, t, rfl, rfl⟩
    · exact wpAny_pyHash_int h
    · exact wpAny_pyHash_str h
  eqBool := fun hu hv h => by
    rcases keyIs_shape hu with ⟨i, t, rfl, rfl⟩ | ⟨x, t, rfl, rfl⟩
    · rcases keyIs_shape hv with ⟨j, u, rfl, rfl⟩ | ⟨y, u, rfl, rfl⟩
      · rw [key_ll] at h; exact wpAny_eqBool_int h
      · rw [key_lr] at h; exact SeqAt.EqAt.int_str i t y u _ _ _ _ h
    · rcases keyIs_shape hv with ⟨j, u, rfl, rfl⟩ | ⟨y, u, rfl, rfl⟩
      · rw [key_rl] at h; exact SeqAt.EqAt.str_int x t j u _ _ _ _ h
      · rw [key_rr] at h; exact wpAny_eqBool_str h
  «strs» := fun k x t v h => by
    rcases keyIs_shape h with ⟨i, u, rfl, e⟩ | ⟨y, u, rfl, e⟩
    · exact nomatch e
    · injection e with e1 _
      subst e1
      cases v <;> rfl
end L2
namespace L2
open PySem PySem.Spec PyProof.Rows
inductive V where
  | non | bl (b : Bool) | int (i : Int) | str (x : Str) | byt (b : Str) | flt (b : UInt64) | ref (a : Addr) | ty (n : String)
  deriving DecidableEq
def RelV : V → Value → Prop
  | .non, u => u = Value.none
  | .bl b, u => u = Value.bool b
  | .int i, u => ∃ t, u = Value.int i t
  | .str x, u => ∃ t, u = Value.str x t
  | .byt b, u => ∃ t, u = Value.str b (t + 1)
  | .flt b, u => ∃ t, u = Value.float b t
  | .ref a, u => u = Value.ref a
  | .ty n, u => u = Value.type n
abbrev Vals : List V → List Value → Prop := Paired RelV
theorem Vals.length {xs : List V} {us : List Value} (r : Vals xs us) : xs.length = us.length := Paired.length r
theorem Vals.get : ∀ {xs : List V} {us : List Value} {i : Nat} {x : V}, Vals xs us → xs[i]? = some x → ∃ u, us[i]? = some u ∧ RelV x u
  | _, _, _, _, .nil, e => by simp at e
  | _, _, 0, _, .cons r _, e => by simp at e; subst e; exact ⟨_, rfl, r⟩
  | _, _, i + 1, x, .cons _ t, e => by
    obtain ⟨u, h1, h2⟩ := Vals.get (i := i) (x := x) t (by simpa using e)
    exact ⟨u, by simpa using h1, h2⟩
theorem Vals.set {x : V} {u : Value} (r : RelV x u) : ∀ {xs : List V} {us : List Value} (i : Nat), Vals xs us → Vals (xs.set i x) (us.set i u)
  | _, _, _, .nil => .nil
  | _, _, 0, .cons _ t => .cons r t
  | _, _, i + 1, .cons q t => .cons q (Vals.set r i t)
theorem Vals.append : ∀ {xs ys : List V} {us ws : List Value}, Vals xs us → Vals ys ws → Vals (xs ++ ys) (us ++ ws)
  | _, _, _, _, .nil, s => s
  | _, _, _, _, .cons r t, s => .cons r (Vals.append t s)
theorem Vals.take : ∀ {xs : List V} {us : List Value} (n : Nat), Vals xs us → Vals (xs.take n) (us.take n)
  | _, _, 0, _ => .nil
  | _, _, _ + 1, .nil => .nil
  | _, _, n + 1, .cons r t => .cons r (Vals.take n t)
theorem Vals.drop : ∀ {xs : List V} {us : List Value} (n : Nat), Vals xs us → Vals (xs.drop n) (us.drop n)
  | _, _, 0, r => r
  | _, _, _ + 1, .nil => .nil
  | _, _, n + 1, .cons _ t => Vals.drop n t
def RelO : Option V → Option Value → Prop
  | some v, some u => RelV v u
  | none, none => True
  | _, _ => False
def KV {κ : Type} : List (κ × V) → List (κ × Value) → Prop := Paired fun (p : κ × V) (q : κ × Value) => p.1 = q.1 ∧ RelV p.2 q.2
def kV : Key → V
  | .inl i => .int i
  | .inr x => .str x
inductive HO where
  /-- a list -/
  | lst (xs : List V)
  /-- a tuple (never changes) -/
  | tup (xs : List V)
  /-- a dict whose keys are ints and texts; one whose keys are tuples of ints and texts (the empty one is both) -/
  | dK (kvs : List (Key × V)) | dT (kvs : List (List Key × V))
  /-- a set of ints: its members, its size -/
  | set (S : Int → Bool) (n : Nat)
  /-- an instance of the class at C, its dict at dx, its attributes -/
  | ins (C dx : Addr) (fs : List (Str × V))
  /-- the dict of the instance at x -/
  | own (x : Addr)
  /-- the dict of an exception -/
  | xd (fs : List (Str × V))
  /-- a bound method, f of x -/
  | met (f x : Addr)
  /-- a range object lo, lo + 1, .. below hi -/
  | rng (lo hi : Int)
  /-- a thing that is known to the object (the script; a dict while a loop walks it): read, never written while it is so -/
  | frz (o : Obj) (u : HO)
  /-- a code object's table -/
  | tbl (ps : Array Value)
  /-- any other thing, by what is true of its one object (a def of one's own: SetO a S n := HO.ext fun h => ..) -/
  | ext (φ : Heap → Prop)
abbrev Hp := Addr → Option HO
def upd (H : Hp) (a : Addr) (o : HO) : Hp := fun b => if b = a then some o else H b
theorem upd_same {H : Hp} {a : Addr} {o : HO} : upd H a o a = some o := by unfold upd; rw [if_pos rfl]
theorem upd_ne {H : Hp} {a b : Addr} {o : HO} (h : b ≠ a) : upd H a o b = H b := by unfold upd; rw [if_neg h]
theorem upd_upd {H : Hp} {a : Addr} {o u : HO} : upd (upd H a o) a u = upd H a u := by
  funext b; unfold upd; split <;> rfl
theorem ne_of {H : Hp} {a b : Addr} {o u : HO} (h : H a = some o) (h' : H b = some u) (d : o ≠ u) : a ≠ b := by
  intro e; subst e; rw [h] at h'; exact d (Option.some.inj h')
theorem ne_of_none {H : Hp} {a b : Addr} {o : HO} (h : H a = some o) (h' : H b = none) : a ≠ b := by
  intro e; subst e; rw [h] at h'; cases h'
section
variable (P : Program) (w : World)
def ObjOk (H : Hp) (h : Heap) (a : Addr) : HO → Prop
  | .lst xs => xs.length ≤ sizeLine ∧ ∃ (its : List Value) (n : Nat), Vals xs its ∧ h.get? a = some { cls := .type "list", data := .seq its.toArray n }
  | .tup xs => xs.length ≤ sizeLine ∧ ∃ its : List Value, Vals xs its ∧ IsTup h a its.toArray
  | .dK kvs => kvs.length ≤ sizeLine ∧ (a == sysModules) = false ∧ ∃ vs, KV kvs vs ∧ h.DictOf (mixKind P w) a vs
  | .dT kvs => kvs.length ≤ sizeLine ∧ (a == sysModules) = false ∧ ∃ xs : List (List Key × Addr × Value),
      Paired (fun (p : List Key × V) (q : List Key × Addr × Value) => p.1 = q.1 ∧ H q.2.1 = some (.tup (p.1.map kV)) ∧ RelV p.2 q.2.2) kvs xs ∧
      ∃ o es ep, h.get? a = some o ∧ o.ExactDict ∧ o.data = .dict es ep ∧ es.toList = xs.map (entryOfKey (tupleKind (mixKind P w))) ∧ (xs.map (·.1)).Nodup
  | .set S n => h.SetOf (intKind P w) a S n
  | .ins C dx fs => H dx = some (.own a) ∧ fs.length ≤ 1000 ∧ dx ≠ a ∧ h.get? a = some (PySem.W.instObj C dx) ∧
      ∃ mA, h.Ns1 dx mA ∧ (∀ f, RelO (fs.lookup f) (mA f)) ∧ PySem.Within mA (fs.map (·.1))
  | .own _ => ∃ o, h.get? a = some o
  | .xd fs => ∃ mA, h.Ns1 a mA ∧ ∀ f, RelO (fs.lookup f) (mA f)
  | .rng lo hi => ∃ t u v, h.get? a = some { cls := .type "range", data := .fields #[.int lo t, .int hi u, .int 1 v] }
  | .frz o u => h.get? a = some o ∧ ObjOk H h a u
  | .tbl ps => h.get? a = some { cls := .none, data := .fields ps }
  | .met f x => h.get? a = some (PySem.W.methodObj (.ref f) (.ref x))
  | .ext φ => φ h ∧ (∃ o, h.get? a = some o) ∧ ∀ h1 h2 : Heap, φ h1 → (∀ o, h1.get? a = some o → h2.get? a = some o) → φ h2
def HOk (H : Hp) (h : Heap) : Prop := ∀ a o, H a = some o → ObjOk P w H h a o
end
section
variable {P : Program} {w : World} {H H' : Hp} {h h' : Heap} {a : Addr} {o : HO}
theorem ObjOk.lt (x : ObjOk P w H h a o) : a < h.objs.size := by
  cases o with
  | lst xs => obtain ⟨_, _, _, _, e⟩ := x; exact Heap.lt_size e
  | tup xs => obtain ⟨_, _, _, p⟩ := x; exact p.lt
  | dK kvs => obtain ⟨_, _, _, _, o, _, _, e, _⟩ := x; exact Heap.lt_size e
  | dT kvs => obtain ⟨_, _, _, _, o, _, _, e, _⟩ := x; exact Heap.lt_size e
  | set S n => obtain ⟨o, _, _, _, e, _⟩ := x; exact Heap.lt_size e
  | ins C dx fs => obtain ⟨_, _, _, e, _⟩ := x; exact Heap.lt_size e
  | own y => obtain ⟨_, e⟩ := x; exact Heap.lt_size e
  | xd fs => obtain ⟨_, ⟨_, _, _, e, _⟩, _⟩ := x; exact Heap.lt_size e
  | rng lo hi => obtain ⟨_, _, _, e⟩ := x; exact Heap.lt_size e
  | frz ob u => obtain ⟨e, _⟩ := x; exact Heap.lt_size e
  | tbl ps => exact Heap.lt_size (show h.get? a = some _ from x)
  | met f y => exact Heap.lt_size (show h.get? a = some _ from x)
  | ext φ => obtain ⟨_, ⟨_, e⟩, _⟩ := x; exact Heap.lt_size e
theorem Paired.mapP {α β : Type} {F G : α → β → Prop} : ∀ {l₁ : List α} {l₂ : List β}, Paired F l₁ l₂ → (∀ a b, F a b → G a b) → Paired G l₁ l₂
  | _, _, .nil, _ => .nil
  | _, _, .cons r t, f => .cons (f _ _ r) (Paired.mapP t f)
theorem ObjOk.stay (x : ObjOk P w H h a o) (k : ∀ b u, (b = a ∨ H b = some (.own a)) → h.get? b = some u → h'.get? b = some u)
    (ho : ∀ b, H b = some (.own a) → H' b = some (.own a)) (ht : ∀ b xs, H b = some (.tup xs) → H' b = some (.tup xs)) : ObjOk P w H' h' a o := by
  induction o with
  | lst xs => obtain ⟨z, its, n, r, e⟩ := x; exact ⟨z, its, n, r, k _ _ (.inl rfl) e⟩
  | tup xs => obtain ⟨z, its, r, ob, e, c⟩ := x; exact ⟨z, its, r, ob, k _ _ (.inl rfl) e, c⟩
  | dK kvs => obtain ⟨z, y, vs, r, ob, es, ep, e, c⟩ := x; exact ⟨z, y, vs, r, ob, es, ep, k _ _ (.inl rfl) e, c⟩
  | dT kvs =>
    obtain ⟨z, y, xs, r, ob, es, ep, e, c⟩ := x
    exact ⟨z, y, xs, Paired.mapP r fun p q z => ⟨z.1, ht _ _ z.2.1, z.2.2⟩, ob, es, ep, k _ _ (.inl rfl) e, c⟩
  | set S n => obtain ⟨ob, es, ep, t, e, c⟩ := x; exact ⟨ob, es, ep, t, k _ _ (.inl rfl) e, c⟩
  | ins C dx fs =>
    obtain ⟨d, z, ne, e, mA, ⟨od, es, ep, e2, c⟩, r⟩ := x
    exact ⟨ho _ d, z, ne, k _ _ (.inl rfl) e, mA, ⟨od, es, ep, k _ _ (.inr d) e2, c⟩, r⟩
  | own y => obtain ⟨ob, e⟩ := x; exact ⟨ob, k _ _ (.inl rfl) e⟩
  | xd fs => obtain ⟨mA, ⟨od, es, ep, e, c⟩, r⟩ := x; exact ⟨mA, ⟨od, es, ep, k _ _ (.inl rfl) e, c⟩, r⟩
  | rng lo hi => obtain ⟨t, u, v, e⟩ := x; exact ⟨t, u, v, k _ _ (.inl rfl) e⟩
  | frz ob u ih => obtain ⟨e, q⟩ := x; exact ⟨k _ _ (.inl rfl) e, ih q⟩
  | tbl ps =>
    have e : h.get? a = some { cls := .none, data := .fields ps } := x
    show h'.get? a = some { cls := .none, data := .fields ps }
    exact k a _ (.inl rfl) e
  | met f y =>
    have e : h.get? a = some (PySem.W.methodObj (.ref f) (.ref y)) := x
    show h'.get? a = some (PySem.W.methodObj (.ref f) (.ref y))
    exact k a _ (.inl rfl) e
  | ext φ => obtain ⟨p, ⟨o, e⟩, st⟩ := x; exact ⟨st _ _ p fun o q => k _ _ (.inl rfl) q, ⟨o, k _ _ (.inl rfl) e⟩, st⟩
theorem HOk.lt (x : HOk P w H h) (e : H a = some o) : a < h.objs.size := (x a o e).lt
theorem HOk.fresh (x : HOk P w H h) (e : h.objs.size ≤ a) : H a = none := by
  cases q : H a with
  | none => rfl
  | some u => exact absurd (Nat.lt_of_lt_of_le (x.lt q) e) (Nat.lt_irrefl _)
theorem HOk.kept (x : HOk P w H h) (k : ∀ b u, h.get? b = some u → h'.get? b = some u) : HOk P w H h' := fun a o e =>
  (x a o e).stay (fun b u _ q => k b u q) (fun _ q => q) fun _ _ q => q
theorem HOk.laid (x : HOk P w H h) (k : ∀ b u, h.get? b = some u → h'.get? b = some u) (hp : h.objs.size ≤ a) (new : ObjOk P w (upd H a o) h' a o) : HOk P w (upd H a o) h' := fun b u e => by
  have hn := x.fresh hp
  by_cases hb : b = a
  · subst hb; rw [upd_same] at e; cases e; exact new
  · rw [upd_ne hb] at e
    exact (x b u e).stay (fun c v _ q => k c v q) (fun c q => by rw [upd_ne (ne_of_none q hn)]; exact q) fun c xs q => by rw [upd_ne (ne_of_none q hn)]; exact q
end
def Rd (H : Hp) (a : Addr) (u : HO) : Prop := H a = some u ∨ ∃ o, H a = some (.frz o u)
theorem Rd.ok {P : Program} {w : World} {H : Hp} {h : Heap} {a : Addr} {u : HO} (r : Rd H a u) (x : HOk P w H h) : ObjOk P w H h a u := by
  rcases r with r | ⟨o, r⟩
  · exact x a u r
  · obtain ⟨_, q⟩ := x a _ r
    exact q
def Mut : Option HO → Prop
  | some (.lst _) => True
  | some (.dK _) => True
  | some (.dT _) => True
  | some (.set _ _) => True
  | some (.ins _ _ _) => True
  | some (.ext _) => True
  | _ => False
section
variable {P : Program} {w : World} {H : Hp} {h h' : Heap} {x e : Addr} {o' : HO}
theorem HOk.write (ok : HOk P w H h) (mu : Mut (H x)) (he : e = x ∨ H e = some (.own x)) (k : ∀ b u, b ≠ e → h.get? b = some u → h'.get? b = some u) (heo : ∃ u, h'.get? e = some u)
    (new : ObjOk P w (upd H x o') h' x o') : HOk P w (upd H x o') h' := fun b u q => by
  have nown : ∀ c y, H c = some (.own y) → c ≠ x := fun c y r z => by subst z; rw [r] at mu; exact mu
  have ntup : ∀ c xs, H c = some (.tup xs) → c ≠ x := fun c xs r z => by subst z; rw [r] at mu; exact mu
  by_cases hb : b = x
  · subst hb; rw [upd_same] at q; cases q; exact new
  · rw [upd_ne hb] at q
    by_cases hbe : b = e
    · have q' : H b = some (.own x) := by
        rcases he with z | z
        · exact absurd (hbe.trans z) hb
        · rw [hbe]; exact z
      rw [q] at q'; cases q'
      obtain ⟨v, hv⟩ := heo
      exact ⟨v, by rw [hbe]; exact hv⟩
    · refine (ok b u q).stay (fun c v hc r => k c v ?_ r) (fun c r => by rw [upd_ne (nown c b r)]; exact r) fun c xs r => by rw [upd_ne (ntup c xs r)]; exact r
      rcases hc with rfl | hc
      · exact hbe
      · rintro rfl
        rcases he with z | z
        · exact nown c b hc z
        · rw [hc] at z; cases z; exact hb rfl
end
structure Un (fs ex : List Addr) (H H' : Hp) (h h' : Heap) : Prop where
  keep : ∀ b o, h.get? b = some o → H b = none → b ∉ fs → b ∉ ex → h'.get? b = some o
  slot : ∀ b o, h.get? b = some o → H b = none → b ∈ fs → b ∉ ex → ∃ sl, h'.get? b = some { o with slots := sl }
  free : ∀ b o, h.get? b = some o → H b = none → b ∉ ex → H' b = none
  there : ∀ b o, h.get? b = some o → b ∉ ex → ∃ o', h'.get? b = some o'
  tups : ∀ b xs, H b = some (.tup xs) → H' b = some (.tup xs)
  frzs : ∀ b o u, H b = some (.frz o u) → H' b = some (.frz o u)
  tbls : ∀ b ps, H b = some (.tbl ps) → ∃ more, H' b = some (.tbl (ps ++ more))
section
variable {fs fs' ex ex' : List Addr} {H H1 H2 : Hp} {h h1 h2 h' : Heap} {a x e : Addr} {o : HO}
theorem Un.any (u : Un fs ex H H1 h h1) {b : Addr} {ob : Obj} (q : h.get? b = some ob) (n : H b = none) (hx : b ∉ ex) : ∃ sl, h1.get? b = some { ob with slots := sl } := by
  by_cases hb : b ∈ fs
  · exact u.slot b ob q n hb hx
  · exact ⟨ob.slots, u.keep b ob q n hb hx⟩
theorem Un.kept (k : ∀ b u, h.get? b = some u → h'.get? b = some u) : Un fs ex H H h h' :=
  ⟨fun b ob q _ _ _ => k b ob q, fun b ob q _ _ _ => ⟨ob.slots, k b ob q⟩, fun _ _ _ n _ => n, fun b ob q _ => ⟨ob, k b ob q⟩, fun _ _ q => q, fun _ _ _ q => q, fun _ ps q => ⟨#[], by rw [q]; simp⟩⟩
theorem Un.refl : Un fs ex H H h h := Un.kept fun _ _ q => q
theorem Un.laid (k : ∀ b u, h.get? b = some u → h'.get? b = some u) (hp : h.objs.size ≤ a) (hn : H a = none) : Un fs ex H (upd H a o) h h' where
  keep := fun b u q _ _ _ => k b u q
  slot := fun b u q _ _ _ => ⟨u.slots, k b u q⟩
  free := fun b u q n _ => by rw [upd_ne (Nat.ne_of_lt (Nat.lt_of_lt_of_le (Heap.lt_size q) hp))]; exact n
  there := fun b u q _ => ⟨u, k b u q⟩
  tups := fun b xs q => by rw [upd_ne (ne_of_none q hn)]; exact q
  frzs := fun b u xs q => by rw [upd_ne (ne_of_none q hn)]; exact q
  tbls := fun b ps q => ⟨#[], by rw [upd_ne (ne_of_none q hn), q]; simp⟩
theorem Un.write (mu : Mut (H x)) (he : e = x ∨ H e = some (.own x)) (k : ∀ b u, b ≠ e → h.get? b = some u → h'.get? b = some u) (heo : ∃ u, h'.get? e = some u) : Un fs ex H (upd H x o) h h' := by
  have hx : ∀ b, H b = none → b ≠ x := fun b n z => by subst z; rw [n] at mu; exact mu
  have hb : ∀ b, H b = none → b ≠ e := fun b n z => by
    subst z
    rcases he with r | r
    · exact hx b n r
    · rw [n] at r; cases r
  have hm : ∀ b u, H b = some u → ¬ Mut (some u) → b ≠ x := fun b u q nm z => by subst z; rw [q] at mu; exact nm mu
  refine ⟨fun b u q n _ _ => k b u (hb b n) q, fun b u q n _ _ => ⟨u.slots, k b u (hb b n) q⟩, fun b u q n _ => by rw [upd_ne (hx b n)]; exact n, fun b u q _ => ?_,
    fun b xs q => by rw [upd_ne (hm b _ q fun z => z)]; exact q, fun b u xs q => by rw [upd_ne (hm b _ q fun z => z)]; exact q, fun b ps q => ⟨#[], by rw [upd_ne (hm b _ q fun z => z), q]; simp⟩⟩
  by_cases hbe : b = e
  · subst hbe; exact heo
  · exact ⟨u, k b u hbe q⟩
end
def trk (h : Heap) (H : Hp) : List Addr := (List.range h.objs.size).filter fun a => (H a).isSome
def hidT (h : Heap) (H : Hp) : Heap := PySem.W.hideAll h (trk h H)
theorem hidT_size (h : Heap) (H : Hp) : (hidT h H).objs.size = h.objs.size := PySem.W.hideAll_size _ _
theorem hidT_get {h : Heap} {H : Hp} {b : Addr} {o : Obj} (e : h.get? b = some o) (n : H b = none) : (hidT h H).get? b = some o :=
  PySem.W.hideAll_get _ e fun hm => by
    have q : (H b).isSome = true := (List.mem_filter.mp hm).2
    rw [n] at q; simp at q
theorem of_hidT {h : Heap} {H : Hp} {b : Addr} {o : Obj} (e : (hidT h H).get? b = some o) : h.get? b = some o ∧ H b = none := by
  have e' : h.get? b = some o := PySem.W.of_hideAll (trk h H) e
  refine ⟨e', ?_⟩
  cases q : H b with
  | none => rfl
  | some x =>
    have hm : b ∈ trk h H := List.mem_filter.mpr ⟨List.mem_range.mpr (Heap.lt_size e'), by simp [q]⟩
    have z : (hidT h H).get? b = none := PySem.W.hideAll_none (trk h H) hm
    rw [z] at e; cases e
end L2
namespace L2
open PySem PySem.Spec PyProof.Rows
structure Mod (K : PySem.W.Frag) (mg : Str → Option Value) (base : Heap) : Prop where
  kin : K.In base
  glob : base.Ns mainGlobals mg
  blt : ∃ mb, base.Ns builtinsNs mb ∧ ∀ x : Str, x ≠ "__name__" → mb x = bootBuiltins x
  nolimit : base.NoLimit
structure Cx where
  prog : Program
  w : World
  K : PySem.W.Frag
  mg : Str → Option Value
  base : Heap
  A : Around
  N : List Str
  sZ : Shared
  HZ : Hp
  env : Env
  outer : List Env
  stack : List Env
  ex : List Addr
  fn : Str → Bool
  calm : Bool
  pn : List (Addr × Obj)
  xe : Value → Shared → Prop
def frs (l : List Env) : List Addr := l.filterMap (·.frame)
abbrev Cx.fs (X : Cx) : List Addr := frs X.outer
def Vis (sc : Scope) (x : Str) : Prop := sc.names.lookup x = some .local ∨ sc.names.lookup x = some .cell ∨ sc.names.lookup x = some .free
def Loc (sc : Scope) (x : Str) : Prop := sc.names.lookup x = some .local ∨ sc.names.lookup x = some .cell
def Look (env : Env) (h : Heap) (m : Str → Option Value) (x : Str) (u : Value) : Prop :=
  (env.kindOf x = some .local ∧ m x = some u) ∨ ((env.kindOf x = some .cell ∨ env.kindOf x = some .free) ∧ ∃ c, env.cells.lookup x = some c ∧ h.IsCell c (some u))
structure Cx.Ok (X : Cx) : Prop where
  mod : Mod X.K X.mg X.base
  kind : X.env.scope.kind = .function
  glob : X.env.globals = mainGlobals
  blt : X.env.builtins = builtinsNs
  above : X.sZ.heap.objs.size ≤ X.env.locals
  inj : ∀ x y c, X.env.cells.lookup x = some c → X.env.cells.lookup y = some c → x = y
  has : ∀ x, (X.env.kindOf x = some .cell ∨ X.env.kindOf x = some .free) → ∃ c, X.env.cells.lookup x = some c
  cab : ∀ x c, X.fn x = true → X.env.cells.lookup x = some c → X.sZ.heap.objs.size ≤ c
  hd : X.calm = true → X.A.handled = none
  frames : X.A.frames = some X.stack
  stk : X.stack = X.outer ∨ (X.stack = X.env :: X.outer ∧ X.env.frame = some X.env.locals)
  exf : ∀ b ∈ X.ex, b ≠ X.env.locals ∧ ∀ x c, X.env.cells.lookup x = some c → c ≠ b
  bs : ∀ b o, X.base.get? b = some o → X.sZ.heap.get? b = some o ∧ X.HZ b = none
  bsz : X.base.objs.size ≤ X.sZ.heap.objs.size
  noex : ∀ b o, X.base.get? b = some o → b ∉ X.ex
  exfs : ∀ b ∈ X.ex, b ∉ X.fs
  funs : X.sZ.heap.FunFrames X.base X.outer
  frf : ∀ b ∈ X.fs, X.HZ b = none
structure Inv (X : Cx) (pins : List (Addr × Obj)) (σ : List (Option V)) (H : Hp) (s : Shared) : Prop where
  ok : X.Ok
  os : s.os = X.sZ.os
  bare : AllBare s.gens
  base : Un X.fs X.ex X.HZ H X.sZ.heap s.heap
  loc : ∃ m, s.heap.Ns X.env.locals m ∧ ∀ (i : Nat) (x : Str) (v : V), X.N[i]? = some x → σ[i]? = some (some v) → Vis X.env.scope x → ∃ u, RelV v u ∧ Look X.env s.heap m x u
  cell : ∀ x c, X.env.cells.lookup x = some c → ∃ v, s.heap.IsCell c v
  free : H X.env.locals = none
  freeC : ∀ x c, X.env.cells.lookup x = some c → H c = none
  pin : ∀ p ∈ X.pn ++ pins, s.heap.get? p.1 = some p.2 ∧ H p.1 = none ∧ p.1 ≠ X.env.locals ∧ p.1 ∉ X.fs ∧ ∀ v, p.2.data ≠ .cell v
  hok : HOk X.prog X.w H s.heap
  len : σ.length = X.N.length
section
variable {X : Cx} {pins : List (Addr × Obj)} {σ : List (Option V)} {H H' : Hp} {s : Shared} {h' : Heap}
theorem Cx.Ok.nofr (ok : X.Ok) {b : Addr} {o : Obj} (e : X.base.get? b = some o) : b ∉ X.fs := fun hb => by
  have := (ok.funs.mem hb).1
  rw [e] at this; cases this
theorem Inv.bs (I : Inv X pins σ H s) : ∀ b o, X.base.get? b = some o → s.heap.get? b = some o ∧ H b = none := fun b o e =>
  ⟨I.base.keep b o (I.ok.bs b o e).1 (I.ok.bs b o e).2 (I.ok.nofr e) (I.ok.noex b o e), I.base.free b o (I.ok.bs b o e).1 (I.ok.bs b o e).2 (I.ok.noex b o e)⟩
theorem Inv.bk (I : Inv X pins σ H s) : ∀ b o, X.base.get? b = some o → s.heap.get? b = some o := fun b o e => (I.bs b o e).1
theorem Inv.mod (I : Inv X pins σ H s) : Mod X.K X.mg X.base := I.ok.mod
theorem Inv.kIn (I : Inv X pins σ H s) : X.K.In s.heap := I.ok.mod.kin.keeps I.bk
theorem Inv.nolimit (I : Inv X pins σ H s) : s.heap.NoLimit := I.ok.mod.nolimit.keeps I.bk
theorem Inv.fr (I : Inv X pins σ H s) : ∃ m, Fr X.base X.env.locals s.heap m :=
  let ⟨m, hn, _⟩ := I.loc
  ⟨m, hn, I.bk, Nat.le_trans I.ok.bsz I.ok.above⟩
theorem Inv.lt (I : Inv X pins σ H s) : X.env.locals < s.heap.objs.size := let ⟨_, hn, _⟩ := I.loc; hn.lt
theorem Inv.sz (I : Inv X pins σ H s) : X.sZ.heap.objs.size ≤ s.heap.objs.size := Nat.le_trans I.ok.above (Nat.le_of_lt I.lt)
theorem Inv.nofs (I : Inv X pins σ H s) {a : Addr} (h : s.heap.objs.size ≤ a) : a ∉ X.fs := fun hb => by
  obtain ⟨_, o, ho, _⟩ := I.ok.funs.mem hb
  exact absurd (Nat.lt_of_lt_of_le (Heap.lt_size ho) (Nat.le_trans I.sz h)) (Nat.lt_irrefl _)
theorem Inv.cne (I : Inv X pins σ H s) : ∀ x c, X.env.cells.lookup x = some c → c ≠ X.env.locals := fun x c e z => by
  obtain ⟨v, o, ho, hd⟩ := I.cell x c e
  obtain ⟨m, ⟨o', es, ep, ho', hd', _⟩, _⟩ := I.loc
  rw [z, ho'] at ho; cases ho; rw [hd'] at hd; cases hd
theorem Inv.funs (I : Inv X pins σ H s) : s.heap.FunFrames X.base X.outer := by
  have all : ∀ (l : List Env), (∀ b ∈ frs l, b ∈ X.fs) → X.sZ.heap.FunFrames X.base l → s.heap.FunFrames X.base l := by
    intro l
    induction l with
    | nil => intro _ _; trivial
    | cons env r ih =>
      intro hs hl
      obtain ⟨hk, ⟨L, o, hf, hn, ho, hd⟩, hr⟩ := hl
      have hL : L ∈ X.fs := hs L (by unfold frs; rw [List.filterMap_cons, hf]; exact List.mem_cons_self)
      obtain ⟨sl, e⟩ := I.base.slot L o ho (I.ok.frf L hL) hL fun z => I.ok.exfs L z hL
      exact ⟨hk, ⟨L, _, hf, hn, e, hd⟩, ih (fun b hb => hs b (by unfold frs; rw [List.filterMap_cons, hf]; exact List.mem_cons_of_mem _ hb)) hr⟩
  exact all X.outer (fun _ hb => hb) I.ok.funs
theorem Inv.stack (I : Inv X pins σ H s) : s.heap.FunFrames X.base X.stack := by
  rcases I.ok.stk with e | ⟨e, hf⟩
  · rw [e]; exact I.funs
  · rw [e]
    obtain ⟨m, hn, _⟩ := I.loc
    refine .cons (by rw [I.ok.kind]; decide) hf hn ?_ I.funs
    exact Heap.get?_none_of_le (Nat.le_trans I.ok.bsz I.ok.above)
theorem Inv.stkSub (I : Inv X pins σ H s) : ∀ b ∈ frs X.stack, b ∈ X.env.locals :: X.fs := fun b hb => by
  rcases I.ok.stk with e | ⟨e, hf⟩
  · rw [e] at hb; exact List.mem_cons_of_mem _ hb
  · rw [e] at hb
    unfold frs at hb
    rw [List.filterMap_cons, hf] at hb
    exact hb
theorem Inv.stkFree (I : Inv X pins σ H s) : ∀ b ∈ frs X.stack, H b = none := fun b hb => by
  rcases List.mem_cons.mp (I.stkSub b hb) with e | hb
  · rw [e]; exact I.free
  · obtain ⟨_, o, ho, _⟩ := I.ok.funs.mem hb
    exact I.base.free b o ho (I.ok.frf b hb) fun z => I.ok.exfs b z hb
theorem Inv.step {g' : Array GenState} {t' : Nat} {d' : Drawn} {ch : List Addr} (I : Inv X pins σ H s)
    (hch : ∀ b ∈ ch, (b ∈ X.ex ∨ X.sZ.heap.objs.size ≤ b) ∧ b ≠ X.env.locals ∧ (∀ x c, X.env.cells.lookup x = some c → c ≠ b) ∧ ∀ p ∈ X.pn ++ pins, p.1 ≠ b)
    (keep : ∀ b o, b ≠ X.env.locals → b ∉ X.fs → b ∉ ch → s.heap.get? b = some o → H b = none → h'.get? b = some o)
    (slot : ∀ b o, b ≠ X.env.locals → b ∈ X.fs → b ∉ ch → s.heap.get? b = some o → H b = none → ∃ sl, h'.get? b = some { o with slots := sl }) (free : ∀ b o, b ∉ ch → s.heap.get? b = some o → H b = none → H' b = none)
    (there : ∀ b o, b ∉ ch → s.heap.get? b = some o → ∃ o', h'.get? b = some o')
    (tups : ∀ b xs, H b = some (.tup xs) → H' b = some (.tup xs)) (frzs : ∀ b o u, H b = some (.frz o u) → H' b = some (.frz o u)) (tbls : ∀ b ps, H b = some (.tbl ps) → ∃ more, H' b = some (.tbl (ps ++ more)))
    (ns : ∀ m, s.heap.Ns X.env.locals m → h'.Ns X.env.locals m) (hok : HOk X.prog X.w H' h') (hg : AllBare g') :
    Inv X pins σ H' { s with heap := h', gens := g', drawn := d', toks := t' } := by
  have neL : ∀ b o, X.sZ.heap.get? b = some o → b ≠ X.env.locals := fun b o e => Nat.ne_of_lt (Nat.lt_of_lt_of_le (Heap.lt_size e) I.ok.above)
  have neC : ∀ b o, X.sZ.heap.get? b = some o → b ∉ X.ex → b ∉ ch := fun b o e hx hb => by
    rcases (hch b hb).1 with z | z
    · exact hx z
    · exact absurd (Nat.lt_of_lt_of_le (Heap.lt_size e) z) (Nat.lt_irrefl _)
  have cellK : ∀ x c, X.env.cells.lookup x = some c → ∀ v, s.heap.IsCell c v → h'.IsCell c v := fun x c e v ⟨o, ho, hd⟩ => by
    have nch : c ∉ ch := fun z => (hch c z).2.2.1 x c e rfl
    by_cases hc : c ∈ X.fs
    · obtain ⟨sl, q⟩ := slot c o (I.cne x c e) hc nch ho (I.freeC x c e)
      exact ⟨_, q, hd⟩
    · exact ⟨o, keep c o (I.cne x c e) hc nch ho (I.freeC x c e), hd⟩
  refine ⟨I.ok, I.os, hg, ⟨fun b o e n hb hx => ?_, fun b o e n hb hx => ?_, fun b o e n hx => ?_, fun b o e hx => ?_, fun b xs e => tups b xs (I.base.tups b xs e), fun b o xs e => frzs b o xs (I.base.frzs b o xs e), fun b ps e => ?_⟩, ?_, fun x c e => ?_, ?_, fun x c e => ?_, fun p hp => ?_, hok, I.len⟩
  · exact keep b o (neL b o e) hb (neC b o e hx) (I.base.keep b o e n hb hx) (I.base.free b o e n hx)
  · obtain ⟨sl, e1⟩ := I.base.slot b o e n hb hx
    obtain ⟨sl', e2⟩ := slot b _ (neL b o e) hb (neC b o e hx) e1 (I.base.free b o e n hx)
    exact ⟨sl', e2⟩
  · obtain ⟨o', e1⟩ := I.base.there b o e hx
    exact free b o' (neC b o e hx) e1 (I.base.free b o e n hx)
  · obtain ⟨o', e1⟩ := I.base.there b o e hx
    exact there b o' (neC b o e hx) e1
  · obtain ⟨m1, e1⟩ := I.base.tbls b ps e
    obtain ⟨m2, e2⟩ := tbls b _ e1
    exact ⟨m1 ++ m2, by rw [e2, Array.append_assoc]⟩
  · obtain ⟨m, hn, hl⟩ := I.loc
    refine ⟨m, ns m hn, fun i x v e1 e2 e3 => ?_⟩
    obtain ⟨u, r, l⟩ := hl i x v e1 e2 e3
    refine ⟨u, r, ?_⟩
    rcases l with l | ⟨k, c, e, z⟩
    · exact .inl l
    · exact .inr ⟨k, c, e, cellK x c e _ z⟩
  · obtain ⟨v, z⟩ := I.cell x c e
    exact ⟨v, cellK x c e v z⟩
  · obtain ⟨m, ⟨o, _, _, ho, _⟩, _⟩ := I.loc
    exact free _ o (fun z => (hch _ z).2.1 rfl) ho I.free
  · obtain ⟨v, o, ho, hd⟩ := I.cell x c e
    exact free c o (fun z => (hch c z).2.2.1 x c e rfl) ho (I.freeC x c e)
  · obtain ⟨e, n, ne, nf, d⟩ := I.pin p hp
    have nch : p.1 ∉ ch := fun z => (hch p.1 z).2.2.2 p hp rfl
    exact ⟨keep p.1 p.2 ne nf nch e n, free p.1 p.2 nch e n, ne, nf, d⟩
theorem Inv.un {t' : Nat} (I : Inv X pins σ H s) (u : Un X.fs [] H H' s.heap h') (hok : HOk X.prog X.w H' h') : Inv X pins σ H' { s with heap := h', toks := t' } := by
  obtain ⟨m, ⟨o, es, ep, ho, r⟩, _⟩ := id I.loc
  obtain ⟨sl, hL⟩ := u.any ho I.free (by simp)
  exact I.step (g' := s.gens) (d' := s.drawn) (ch := []) (fun _ z => nomatch z) (fun b o _ hb _ e n => u.keep b o e n hb (by simp)) (fun b o _ hb _ e n => u.slot b o e n hb (by simp)) (fun b o _ e n => u.free b o e n (by simp)) (fun b o _ e => u.there b o e (by simp)) u.tups u.frzs u.tbls (fun m' hm => by
    obtain ⟨o', es', ep', ho', r'⟩ := hm
    rw [ho] at ho'; cases ho'
    exact ⟨_, es', ep', hL, r'⟩) hok I.bare
theorem Inv.call {g' : Array GenState} {t' : Nat} {d' : Drawn} {ch : List Addr} (I : Inv X pins σ H s) (u : Un (frs X.stack) ch H H' s.heap h') (hok : HOk X.prog X.w H' h') (hg : AllBare g')
    (hch : ∀ b ∈ ch, (b ∈ X.ex ∨ X.sZ.heap.objs.size ≤ b) ∧ b ≠ X.env.locals ∧ (∀ x c, X.env.cells.lookup x = some c → c ≠ b) ∧ ∀ p ∈ X.pn ++ pins, p.1 ≠ b) :
    Inv X pins σ H' { s with heap := h', gens := g', drawn := d', toks := t' } := by
  obtain ⟨m, ⟨o, es, ep, ho, r⟩, _⟩ := id I.loc
  obtain ⟨sl, hL⟩ := u.any ho I.free fun z => (hch _ z).2.1 rfl
  exact I.step (ch := ch) hch (fun b o hL hb hc e n => u.keep b o e n (fun z => (List.mem_cons.mp (I.stkSub b z)).elim hL hb) hc) (fun b o _ _ hc e n => u.any e n hc) (fun b o hc e n => u.free b o e n hc) (fun b o hc e => u.there b o e hc) u.tups u.frzs u.tbls (fun m' hm => by
    obtain ⟨o', es', ep', ho', r'⟩ := hm
    rw [ho] at ho'; cases ho'
    exact ⟨_, es', ep', hL, r'⟩) hok hg
theorem Inv.turned {t' : Nat} {it : Addr} (I : Inv X pins σ H s) (k : ∀ b o, b ≠ it → s.heap.get? b = some o → h'.get? b = some o) (hn : H it = none) (hL : it ≠ X.env.locals)
    (h1 : it ∈ X.ex ∨ X.sZ.heap.objs.size ≤ it) (h2 : ∀ x c, X.env.cells.lookup x = some c → c ≠ it) (h3 : ∀ p ∈ X.pn ++ pins, p.1 ≠ it) : Inv X pins σ H { s with heap := h', toks := t' } := by
  have nit : ∀ b u, H b = some u → b ≠ it := fun b u e z => by rw [z, hn] at e; cases e
  refine I.step (g' := s.gens) (d' := s.drawn) (ch := [it]) (fun b hb => ?_) (fun b o _ _ hc e _ => k b o (fun z => hc (by simp [z])) e) (fun b o _ _ hc e _ => ⟨o.slots, k b o (fun z => hc (by simp [z])) e⟩) (fun _ _ _ _ n => n)
    (fun b o hc e => ⟨o, k b o (fun z => hc (by simp [z])) e⟩) (fun _ _ e => e) (fun _ _ _ e => e) (fun b ps e => ⟨#[], by rw [e]; simp⟩) (fun m hm => ?_) (fun b u e => ?_) I.bare
  · have e : b = it := by simpa using hb
    subst e
    exact ⟨h1, hL, h2, h3⟩
  · obtain ⟨o, es, ep, ho, r⟩ := hm
    exact ⟨o, es, ep, k _ o (Ne.symm hL) ho, r⟩
  · refine (I.hok b u e).stay (fun c v hc q => k c v ?_ q) (fun _ q => q) fun _ _ q => q
    rcases hc with z | z
    · rw [z]; exact nit b u e
    · exact nit c _ z
theorem Inv.tok (I : Inv X pins σ H s) (t : Nat) : Inv X pins σ H { s with toks := t } := I.un (h' := s.heap) (t' := t) Un.refl I.hok
theorem Inv.kept {t' : Nat} (I : Inv X pins σ H s) (k : ∀ b u, s.heap.get? b = some u → h'.get? b = some u) : Inv X pins σ H { s with heap := h', toks := t' } := I.un (Un.kept k) (I.hok.kept k)
theorem Inv.laid {a : Addr} {o : HO} {t' : Nat} (I : Inv X pins σ H s) (k : ∀ b u, s.heap.get? b = some u → h'.get? b = some u) (hp : s.heap.objs.size ≤ a) (new : ObjOk X.prog X.w (upd H a o) h' a o) :
    Inv X pins σ (upd H a o) { s with heap := h', toks := t' } := I.un (Un.laid k hp (I.hok.fresh hp)) (I.hok.laid k hp new)
theorem Inv.write {x e : Addr} {o : HO} {t' : Nat} (I : Inv X pins σ H s) (mu : Mut (H x)) (he : e = x ∨ H e = some (.own x)) (k : ∀ b u, b ≠ e → s.heap.get? b = some u → h'.get? b = some u) (heo : ∃ u, h'.get? e = some u)
    (new : ObjOk X.prog X.w (upd H x o) h' x o) : Inv X pins σ (upd H x o) { s with heap := h', toks := t' } := I.un (Un.write mu he k heo) (I.hok.write mu he k heo new)
theorem Inv.weak {σ' : List (Option V)} (I : Inv X pins σ H s) (hl : σ'.length = σ.length) (w : ∀ (i : Nat) v, σ'[i]? = some (some v) → σ[i]? = some (some v)) : Inv X pins σ' H s :=
  ⟨I.ok, I.os, I.bare, I.base, let ⟨m, hn, hl'⟩ := I.loc; ⟨m, hn, fun i x v e1 e2 e3 => hl' i x v e1 (w i v e2) e3⟩, I.cell, I.free, I.freeC, I.pin, I.hok, hl.trans I.len⟩
theorem Inv.pins_of {pins' : List (Addr × Obj)} (I : Inv X pins σ H s) (h : ∀ p ∈ pins', s.heap.get? p.1 = some p.2 ∧ H p.1 = none ∧ p.1 ≠ X.env.locals ∧ p.1 ∉ X.fs ∧ ∀ v, p.2.data ≠ .cell v) : Inv X pins' σ H s :=
  ⟨I.ok, I.os, I.bare, I.base, I.loc, I.cell, I.free, I.freeC, fun p hp => (List.mem_append.mp hp).elim (fun z => I.pin p (List.mem_append_left _ z)) (h p), I.hok, I.len⟩
theorem nodup_ix {N : List Str} (hN : N.Nodup) {i j : Nat} {x : Str} (a : N[i]? = some x) (b : N[j]? = some x) : i = j := by
  obtain ⟨h1, e1⟩ := List.getElem?_eq_some_iff.mp a
  obtain ⟨h2, e2⟩ := List.getElem?_eq_some_iff.mp b
  exact (List.getElem_inj hN).mp (e1.trans e2.symm)
theorem store_ok2 {M : Model} {A : Around} {E : Value → Shared → Prop} {i : Nat} {x : Str} {v : V} {u : Value} {Q : Unit → Shared → Prop} (I : Inv X pins σ H s) (hN : X.N.Nodup) (hi : X.N[i]? = some x) (hx : Loc X.env.scope x) (r : RelV v u)
    (h : ∀ s', Inv X pins (σ.set i (some v)) H s' → (∃ a, Heap.SameBut a s.heap s'.heap ∧ (a = X.env.locals ∨ X.env.cells.lookup x = some a)) → Q () s') (hf : X.fn x = true ∨ X.env.scope.names.lookup x = some .local := by first | exact .inl rfl | exact .inr rfl | assumption) : wpAny M A (storeName X.env x u) Q E s := by
  obtain ⟨m, hn, hl⟩ := id I.loc
  have hcls : (X.env.scope.kind == .class || (X.env.scope.kind == .module && X.env.locals != X.env.globals)) = false := by rw [I.ok.kind]; rfl
  have hiσ : i < σ.length := by rw [I.len]; exact (List.getElem?_eq_some_iff.mp hi).1
  have cne := I.cne
  have tracked : ∀ {a : Addr} {h' : Heap}, (∃ o, s.heap.get? a = some o ∧ H a = none) → Heap.SameBut a s.heap h' → HOk X.prog X.w H h' := fun {a h'} ha hs b ob e => by
    obtain ⟨_, _, hfree⟩ := ha
    refine (I.hok b ob e).stay (fun c w' hc q => (hs.2 c ?_).trans q) (fun _ q => q) fun _ _ q => q
    rintro rfl
    rcases hc with rfl | hc
    · rw [hfree] at e; cases e
    · rw [hfree] at hc; cases hc
  rcases hx with hk | hk
  · refine wpAny_storeName_local hk hn (fun h' hn' hs => ?_) hcls
    obtain ⟨oL, _, _, hoL, _⟩ := id hn
    refine h _ ⟨I.ok, I.os, I.bare, ⟨fun b o e n hb hx => ?_, fun b o e n hb hx => ?_, I.base.free, fun b o e hx => ?_, I.base.tups, I.base.frzs, I.base.tbls⟩, ⟨_, hn', fun j y v' e1 e2 e3 => ?_⟩, fun y c e => ?_, I.free, I.freeC, fun p hp => ?_, tracked ⟨oL, hoL, I.free⟩ hs, by simpa using I.len⟩ ⟨_, hs, .inl rfl⟩
    · exact (hs.2 b (Nat.ne_of_lt (Nat.lt_of_lt_of_le (Heap.lt_size e) I.ok.above))).trans (I.base.keep b o e n hb hx)
    · obtain ⟨sl, e1⟩ := I.base.slot b o e n hb hx
      exact ⟨sl, (hs.2 b (Nat.ne_of_lt (Nat.lt_of_lt_of_le (Heap.lt_size e) I.ok.above))).trans e1⟩
    · obtain ⟨o', e1⟩ := I.base.there b o e hx
      exact ⟨o', (hs.2 b (Nat.ne_of_lt (Nat.lt_of_lt_of_le (Heap.lt_size e) I.ok.above))).trans e1⟩
    · by_cases hj : j = i
      · subst hj
        rw [hi] at e1; cases e1
        rw [List.getElem?_set_self hiσ] at e2
        cases e2
        exact ⟨u, r, .inl ⟨hk, by simp⟩⟩
      · rw [List.getElem?_set_ne (Ne.symm hj)] at e2
        obtain ⟨u', r', q⟩ := hl j y v' e1 e2 e3
        refine ⟨u', r', ?_⟩
        rcases q with ⟨k, e⟩ | ⟨k, c, e, z⟩
        · refine .inl ⟨k, ?_⟩
          have : y ≠ x := fun e => hj (nodup_ix hN e1 (e ▸ hi))
          simp [this, e]
        · exact .inr ⟨k, c, e, z.sameBut hs (cne y c e)⟩
    · obtain ⟨w', z⟩ := I.cell y c e
      exact ⟨w', z.sameBut hs (cne y c e)⟩
    · obtain ⟨e, n, ne, nf, d⟩ := I.pin p hp
      exact ⟨(hs.2 p.1 ne).trans e, n, ne, nf, d⟩
  · have hfn : X.fn x = true := by
      rcases hf with z | z
      · exact z
      · rw [z] at hk; cases hk
    obtain ⟨c, hc⟩ := I.ok.has x (.inl hk)
    obtain ⟨w', z⟩ := I.cell x c hc
    refine wpAny_storeName_cell I.ok.kind hk hc z (fun h' hc' hs => ?_)
    obtain ⟨oc, hoc, hocd⟩ := id z
    refine h { s with heap := h' } ⟨I.ok, I.os, I.bare, ⟨fun b o e n hb hx => ?_, fun b o e n hb hx => ?_, I.base.free, fun b o e hx => ?_, I.base.tups, I.base.frzs, I.base.tbls⟩, ⟨m, hn.sameBut hs (Ne.symm (cne x c hc)), fun j y v' e1 e2 e3 => ?_⟩, fun y c' e => ?_, I.free, I.freeC, fun p hp => ?_, tracked ⟨oc, hoc, I.freeC x c hc⟩ hs, by simpa using I.len⟩ ⟨c, hs, .inr hc⟩
    · exact (hs.2 b (Nat.ne_of_lt (Nat.lt_of_lt_of_le (Heap.lt_size e) (I.ok.cab x c hfn hc)))).trans (I.base.keep b o e n hb hx)
    · obtain ⟨sl, e1⟩ := I.base.slot b o e n hb hx
      exact ⟨sl, (hs.2 b (Nat.ne_of_lt (Nat.lt_of_lt_of_le (Heap.lt_size e) (I.ok.cab x c hfn hc)))).trans e1⟩
    · obtain ⟨o', e1⟩ := I.base.there b o e hx
      exact ⟨o', (hs.2 b (Nat.ne_of_lt (Nat.lt_of_lt_of_le (Heap.lt_size e) (I.ok.cab x c hfn hc)))).trans e1⟩
    · by_cases hj : j = i
      · subst hj
        rw [hi] at e1; cases e1
        rw [List.getElem?_set_self hiσ] at e2
        cases e2
        exact ⟨u, r, .inr ⟨.inl hk, c, hc, hc'⟩⟩
      · rw [List.getElem?_set_ne (Ne.symm hj)] at e2
        obtain ⟨u', r', q⟩ := hl j y v' e1 e2 e3
        refine ⟨u', r', ?_⟩
        rcases q with q | ⟨k, c', e, z'⟩
        · exact .inl q
        · refine .inr ⟨k, c', e, z'.sameBut hs ?_⟩
          rintro rfl
          exact hj (nodup_ix hN e1 (I.ok.inj _ _ _ e hc ▸ hi))
    · by_cases hcc : c' = c
      · subst hcc; exact ⟨_, hc'⟩
      · obtain ⟨w2, z2⟩ := I.cell y c' e
        exact ⟨w2, z2.sameBut hs hcc⟩
    · obtain ⟨e, n, ne, nf, d⟩ := I.pin p hp
      refine ⟨(hs.2 p.1 ?_).trans e, n, ne, nf, d⟩
      intro q
      rw [q, hoc] at e
      have q' : oc = p.2 := Option.some.inj e
      exact d w' (by rw [← q']; exact hocd)
theorem store_ok {M : Model} {A : Around} {E : Value → Shared → Prop} {i : Nat} {x : Str} {v : V} {u : Value} {Q : Unit → Shared → Prop} (I : Inv X pins σ H s) (hN : X.N.Nodup) (hi : X.N[i]? = some x) (hx : Loc X.env.scope x) (r : RelV v u)
    (h : ∀ s', Inv X pins (σ.set i (some v)) H s' → Q () s') (hf : X.fn x = true ∨ X.env.scope.names.lookup x = some .local := by first | exact .inl rfl | exact .inr rfl | assumption) : wpAny M A (storeName X.env x u) Q E s :=
  store_ok2 I hN hi hx r (fun s' I' _ => h s' I') hf
theorem Inv.call' {s' : Shared} {ch : List Addr} (I : Inv X pins σ H s) (ho : s'.os = s.os) (u : Un (frs X.stack) ch H H' s.heap s'.heap) (hok : HOk X.prog X.w H' s'.heap) (hg : AllBare s'.gens)
    (hch : ∀ b ∈ ch, (b ∈ X.ex ∨ X.sZ.heap.objs.size ≤ b) ∧ b ≠ X.env.locals ∧ (∀ x c, X.env.cells.lookup x = some c → c ≠ b) ∧ ∀ p ∈ X.pn ++ pins, p.1 ≠ b) : Inv X pins σ H' s' := by
  obtain ⟨h', g', d', t', o'⟩ := s'
  have e : o' = s.os := ho
  subst e
  exact I.call (g' := g') (t' := t') (d' := d') u hok hg hch
end
abbrev XK := Value → Option Addr → Hp → Prop
abbrev St := List (Option V)
abbrev VK := V → Hp → Prop
abbrev TE := St → Hp → VK → Prop
abbrev TT := St → Hp → (Bool → Hp → Prop) → Prop
abbrev TA := St → Hp → (List V → Hp → Prop) → Prop
structure Ends where
  nx : St → Hp → Prop
  rt : VK
  bk : St → Hp → Prop := fun _ _ => False
  ct : St → Hp → Prop := fun _ _ => False
abbrev TS := Ends → St → Hp → Prop
def EP (X : Cx) (pins : List (Addr × Obj)) (σ : St) (Q : VK) (u : Value) (s' : Shared) : Prop := ∃ v H', Inv X pins σ H' s' ∧ RelV v u ∧ Q v H'
def TP (X : Cx) (pins : List (Addr × Obj)) (σ : St) (Q : Bool → Hp → Prop) (b : Bool) (s' : Shared) : Prop := ∃ H', Inv X pins σ H' s' ∧ Q b H'
def AP (X : Cx) (pins : List (Addr × Obj)) (σ : St) (Q : List V → Hp → Prop) (us : List Value) (s' : Shared) : Prop := ∃ vs H', Inv X pins σ H' s' ∧ Vals vs us ∧ Q vs H'
def SP (X : Cx) (pins : List (Addr × Obj)) (D : Ends) (f : Flow) (s' : Shared) : Prop :=
  match f with
  | .next => ∃ σ' H', Inv X pins σ' H' s' ∧ D.nx σ' H'
  | .brk => ∃ σ' H', Inv X pins σ' H' s' ∧ D.bk σ' H'
  | .cont => ∃ σ' H', Inv X pins σ' H' s' ∧ D.ct σ' H'
  | .ret u => ∃ v σ' H', Inv X pins σ' H' s' ∧ RelV v u ∧ D.rt v H'
def PE (X : Cx) (e : Expr) (t : TE) : Prop :=
  ∀ (pins : List (Addr × Obj)) (s : Shared) (σ : St) (H : Hp) (Q : VK), Inv X pins σ H s → t σ H Q → wpAny (model X.prog X.w) X.A (eval e X.env) (EP X pins σ Q) X.xe s
def PT (X : Cx) (e : Expr) (t : TT) : Prop :=
  ∀ (pins : List (Addr × Obj)) (s : Shared) (σ : St) (H : Hp) (Q : Bool → Hp → Prop), Inv X pins σ H s → t σ H Q → wpAny (model X.prog X.w) X.A (isTrue e X.env (eval e X.env)) (TP X pins σ Q) X.xe s
def PW (X : Cx) (e : Expr) (t : TT) : Prop :=
  ∀ (whole : Sem Value) (pins : List (Addr × Obj)) (s : Shared) (σ : St) (H : Hp) (Q : Bool → Hp → Prop), Inv X pins σ H s → t σ H Q → wpAny (model X.prog X.w) X.A (isTrue e X.env whole) (TP X pins σ Q) X.xe s
theorem PW.pt {X : Cx} {e : Expr} {t : TT} (h : PW X e t) : PT X e t := h _
def PA (X : Cx) (es : List Expr) (t : TA) : Prop :=
  ∀ (pos : Pos) (pins : List (Addr × Obj)) (s : Shared) (σ : St) (H : Hp) (Q : List V → Hp → Prop), Inv X pins σ H s → t σ H Q → wpAny (model X.prog X.w) X.A (spliced (backTo pos (starEach es X.env))) (AP X pins σ Q) X.xe s
def PS (X : Cx) (st : Stmt) (t : TS) : Prop :=
  ∀ (pins : List (Addr × Obj)) (s : Shared) (σ : St) (H : Hp) (D : Ends), Inv X pins σ H s → t D σ H → wpAny (model X.prog X.w) X.A (exec st X.env) (SP X pins D) X.xe s
def PSs (X : Cx) (st : List Stmt) (t : TS) : Prop :=
  ∀ (pins : List (Addr × Obj)) (s : Shared) (σ : St) (H : Hp) (D : Ends), Inv X pins σ H s → t D σ H → wpAny (model X.prog X.w) X.A (execs st X.env) (SP X pins D) X.xe s
theorem thn {α : Type} {t : Sem α} {Q Q' : α → Shared → Prop} {M : Model} {A : Around} {E : Value → Shared → Prop} {s : Shared} (h : wpAny M A t Q E s) (hQ : ∀ a s, Q a s → Q' a s) : wpAny M A t Q' E s := wpAny_mono h hQ fun _ _ x => x
end L2
namespace L2
open PySem PySem.Spec PyProof.Rows
section
variable {X : Cx}
theorem bin {a b : Expr} {ta tb : TE} (ha : PE X a ta) (hb : PE X b tb) {pins : List (Addr × Obj)} {s : Shared} {σ : St} {H : Hp} {R : V → V → Hp → Prop} (I : Inv X pins σ H s) (h : ta σ H fun x H1 => tb σ H1 fun y H2 => R x y H2)
    {α : Type} {Q : α → Shared → Prop} {f : Value → Value → Sem α}
    (hf : ∀ v u s2 x y H2, Inv X pins σ H2 s2 → RelV x v → RelV y u → R x y H2 → wpAny (model X.prog X.w) X.A (f v u) Q X.xe s2) :
    wpAny (model X.prog X.w) X.A (eval a X.env) (fun v s₁ => wpAny (model X.prog X.w) X.A (eval b X.env) (fun u s₂ => wpAny (model X.prog X.w) X.A (f v u) Q X.xe s₂) X.xe s₁) X.xe s := by
  refine thn (ha pins s σ H _ I h) fun v s1 ⟨x, H1, I1, r1, q1⟩ => ?_
  refine thn (hb pins s1 σ H1 _ I1 q1) fun u s2 ⟨y, H2, I2, r2, q2⟩ => ?_
  exact hf v u s2 x y H2 I2 r1 r2 q2
def tVar (i : Nat) : TE := fun σ H Q => ∃ v, σ[i]? = some (some v) ∧ Q v H
def tC (v : V) : TE := fun _ H Q => Q v H
theorem pe_var {i : Nat} {x : Str} {pos : Pos} (hN : X.N[i]? = some x) (hv : Vis X.env.scope x) (hd : (x == ("__debug__" : Str)) = false := by decide) (hcd : (x == ("__classdict__" : Str)) = false := by decide) : PE X (.Name x pos) (tVar i) := by
  intro pins s σ H Q I h
  obtain ⟨v, e, h⟩ := h
  obtain ⟨m, hn, hl⟩ := I.loc
  obtain ⟨u, r, l⟩ := hl i x v hN e hv
  have fin : EP X pins σ Q u s := ⟨v, H, I, r, h⟩
  rcases l with ⟨hk, hm⟩ | ⟨hk, c, hc, hcell⟩
  · exact wpAny_Name (wpAny_loadName_local I.ok.kind hk hn hm fin) hd
  · rcases hk with hk | hk
    · exact wpAny_Name (wpAny_loadName_cell I.ok.kind hk hc hcell fin) hd
    · exact wpAny_Name (wpAny_loadName_free I.ok.kind hk hc hcell fin hcd) hd
theorem pe_int {i j pos} : PE X (.Constant (.int i) j pos) (tC (.int i)) := fun _ _ _ H _ I h => wpAny_Constant_int ⟨.int i, H, I.tok _, ⟨_, rfl⟩, h⟩
theorem pe_bl {b j pos} : PE X (.Constant (.bool b) j pos) (tC (.bl b)) := fun _ _ _ H _ I h => Constant_bool ⟨.bl b, H, I, rfl, h⟩
theorem pe_non {j pos} : PE X (.Constant .none j pos) (tC .non) := fun _ _ _ H _ I h => Constant_none ⟨.non, H, I, rfl, h⟩
theorem pe_str {x j pos} : PE X (.Constant (.str x) j pos) (tC (.str x)) := fun _ _ _ H _ I h => Calls.Constant_str ⟨.str x, H, I.tok _, ⟨_, rfl⟩, h⟩
def Gl (X : Cx) (x : Str) : Prop := X.env.kindOf x = some .globalImplicit
theorem ld_glob {E : Value → Shared → Prop} {pins : List (Addr × Obj)} {s : Shared} {σ : St} {H : Hp} {x : Str} {u : Value} {pos : Pos} {Q : Value → Shared → Prop} (I : Inv X pins σ H s) (hg : Gl X x) (hm : X.mg x = some u) (h : Q u s)
    (hd : (x == ("__debug__" : Str)) = false := by decide) : wpAny (model X.prog X.w) X.A (eval (.Name x pos) X.env) Q E s :=
  Calls.Name_function_global I.ok.kind hg (Calls.loadGlobal_global (by rw [I.ok.glob]; exact I.mod.glob.keeps I.bk) hm h) hd
theorem ld_blt {E : Value → Shared → Prop} {pins : List (Addr × Obj)} {s : Shared} {σ : St} {H : Hp} {x : Str} {u : Value} {pos : Pos} {Q : Value → Shared → Prop} (I : Inv X pins σ H s) (hg : Gl X x) (hm : X.mg x = none) (hv : bootBuiltins x = some u) (h : Q u s)
    (hn : x ≠ "__name__" := by decide) (hd : (x == ("__debug__" : Str)) = false := by decide) : wpAny (model X.prog X.w) X.A (eval (.Name x pos) X.env) Q E s := by
  obtain ⟨mb, h1, h2⟩ := I.mod.blt
  exact Calls.Name_function_global I.ok.kind hg (Calls.loadGlobal_builtin (by rw [I.ok.glob]; exact I.mod.glob.keeps I.bk) hm (by rw [I.ok.blt]; exact h1.keeps I.bk) ((h2 x hn).trans hv) h) hd
theorem pe_glob {x : Str} {v : V} {u : Value} {pos : Pos} (hg : Gl X x) (hm : X.mg x = some u) (r : RelV v u) (hd : (x == ("__debug__" : Str)) = false := by decide) : PE X (.Name x pos) (tC v) :=
  fun _ _ _ H _ I h => ld_glob I hg hm ⟨v, H, I, r, h⟩ hd
theorem pe_bltn {x : Str} {v : V} {u : Value} {pos : Pos} (hg : Gl X x) (hm : X.mg x = none) (hv : bootBuiltins x = some u) (r : RelV v u) (hn : x ≠ "__name__" := by decide) (hd : (x == ("__debug__" : Str)) = false := by decide) : PE X (.Name x pos) (tC v) :=
  fun _ _ _ H _ I h => ld_blt I hg hm hv ⟨v, H, I, r, h⟩ hn hd
variable {a b : Expr} {ta tb : TE} {pos : Pos}
def PC (X : Cx) (op : CmpOp) (a b : Expr) (t : TE) : Prop :=
  ∀ (pins : List (Addr × Obj)) (s : Shared) (σ : St) (H : Hp) (Q : VK), Inv X pins σ H s → t σ H Q →
    wpAny (model X.prog X.w) X.A (eval a X.env) (fun v s₁ => wpAny (model X.prog X.w) X.A (eval b X.env) (fun u s₂ => wpAny (model X.prog X.w) X.A (compareOp op v u) (EP X pins σ Q) X.xe s₂) X.xe s₁) X.xe s
def tB (t : TE) : TT := fun σ H Q => t σ H fun x H1 => ∃ c, x = .bl c ∧ Q c H1
theorem pt_cmp {op : CmpOp} {t : TE} (h : PC X op a b t) (h1 : behindInMarks op b = false := by first | exact nobehind _ (by decide) (by decide) | rfl) : PT X (.Compare a [op] [b] pos) (tB t) := by
  intro pins s σ H Q I hw
  refine wpAny_isTrue_Compare1 (thn (h pins s σ H _ I hw) fun v s1 h1 => thn h1 fun u s2 h2 => thn h2 fun c s3 ⟨x, H1, I1, r1, q1⟩ => ?_) h1
  obtain ⟨d, rfl, q⟩ := q1
  cases r1
  exact wpAny_truthy_bool ⟨H1, I1, q⟩
theorem pt_val {e : Expr} {t : TE} (h : PE X e t) (he : ∀ whole, isTrue e X.env whole = (do let v ← whole; standAt e.pos; holding [v] (truthy v)) := by intro _; rfl) : PT X e (tB t) := by
  intro pins s σ H Q I hw
  refine isTrue_plain (thn (h pins s σ H _ I hw) fun v s1 ⟨x, H1, I1, r1, q1⟩ => ?_) (he _)
  obtain ⟨d, rfl, q⟩ := q1
  cases r1
  exact wpAny_truthy_bool ⟨H1, I1, q⟩
variable {tA tB' : TT} {rest : List Expr}
def tAnd (t u : TT) : TT := fun σ H Q => t σ H fun c H1 => if c = true then u σ H1 Q else Q false H1
def tOr (t u : TT) : TT := fun σ H Q => t σ H fun c H1 => if c = true then Q true H1 else u σ H1 Q
def tNot (t : TT) : TT := fun σ H Q => t σ H fun c H1 => Q (!c) H1
theorem pw_and1 (ha : PT X a tA) : PW X (.BoolOp .And [a] pos) tA := by
  intro wh pins s σ H Q I h
  refine isTrue_and (thn (ha pins s σ H Q I h) fun c s1 e => ?_)
  cases c with
  | true => exact isTrue_and_nil e
  | false => exact e
theorem pw_or1 (ha : PT X a tA) : PW X (.BoolOp .Or [a] pos) tA := by
  intro wh pins s σ H Q I h
  refine isTrue_or (thn (ha pins s σ H Q I h) fun c s1 e => ?_)
  cases c with
  | false => exact isTrue_or_nil e
  | true => exact e
theorem pw_and (ha : PT X a tA) (hb : PW X (.BoolOp .And (b :: rest) pos) tB') : PW X (.BoolOp .And (a :: b :: rest) pos) (tAnd tA tB') := by
  intro wh pins s σ H Q I h
  refine isTrue_and (thn (ha pins s σ H _ I h) fun c s1 ⟨H1, I1, q1⟩ => ?_)
  cases c with
  | true => exact hb wh pins s1 σ H1 Q I1 q1
  | false => exact ⟨H1, I1, q1⟩
theorem pw_or (ha : PT X a tA) (hb : PW X (.BoolOp .Or (b :: rest) pos) tB') : PW X (.BoolOp .Or (a :: b :: rest) pos) (tOr tA tB') := by
  intro wh pins s σ H Q I h
  refine isTrue_or (thn (ha pins s σ H _ I h) fun c s1 ⟨H1, I1, q1⟩ => ?_)
  cases c with
  | true => exact ⟨H1, I1, q1⟩
  | false => exact hb wh pins s1 σ H1 Q I1 q1
theorem pt_not (ha : PT X a tA) : PT X (.UnaryOp .Not a pos) (tNot tA) := by
  intro pins s σ H Q I h
  exact isTrue_not (ha pins s σ H (fun c H1 => Q (!c) H1) I h)
def tAndV (ta tb : TE) : TE := fun σ H Q => ta σ H fun x H1 => ∃ c, x = .bl c ∧ if c = true then tb σ H1 Q else Q (.bl false) H1
def tOrV (ta tb : TE) : TE := fun σ H Q => ta σ H fun x H1 => ∃ c, x = .bl c ∧ if c = true then Q (.bl true) H1 else tb σ H1 Q
theorem pe_one {op} {t : TE} (h : PE X a t) : PE X (.BoolOp op [a] pos) t := fun pins s σ H Q I hw => BoolOp_one (h pins s σ H Q I hw)
theorem pe_and (ha : PE X a ta) (hb : PE X (.BoolOp .And (b :: rest) pos) tb) : PE X (.BoolOp .And (a :: b :: rest) pos) (tAndV ta tb) := by
  intro pins s σ H Q I h
  refine BoolOp_and (thn (ha pins s σ H _ I h) fun v s1 ⟨x, H1, I1, r1, q1⟩ => ?_)
  obtain ⟨c, rfl, q1⟩ := q1
  cases r1
  refine wpAny_truthy_bool ?_
  cases c with
  | true => exact hb pins s1 σ H1 Q I1 q1
  | false => exact ⟨.bl false, H1, I1, rfl, q1⟩
theorem pe_or (ha : PE X a ta) (hb : PE X (.BoolOp .Or (b :: rest) pos) tb) : PE X (.BoolOp .Or (a :: b :: rest) pos) (tOrV ta tb) := by
  intro pins s σ H Q I h
  refine BoolOp_or (thn (ha pins s σ H _ I h) fun v s1 ⟨x, H1, I1, r1, q1⟩ => ?_)
  obtain ⟨c, rfl, q1⟩ := q1
  cases r1
  refine wpAny_truthy_bool ?_
  cases c with
  | false => exact hb pins s1 σ H1 Q I1 q1
  | true => exact ⟨.bl true, H1, I1, rfl, q1⟩
def tIf (t : TT) (ta tb : TE) : TE := fun σ H Q => t σ H fun c H1 => if c = true then ta σ H1 Q else tb σ H1 Q
theorem pe_ifExp {c : Expr} (hc : PT X c tA) (ha : PE X a ta) (hb : PE X b tb) : PE X (.IfExp c a b pos) (tIf tA ta tb) := by
  intro pins s σ H Q I h
  refine wpAny_IfExp (thn (hc pins s σ H _ I h) fun d s1 ⟨H1, I1, q1⟩ => ?_)
  cases d with
  | true => exact ha pins s1 σ H1 Q I1 q1
  | false => exact hb pins s1 σ H1 Q I1 q1
end
end L2
namespace L2
open PySem PySem.Spec PyProof.Rows
def absV : Value → Option V
  | .none => some .non
  | .bool b => some (.bl b)
  | .int i _ => some (.int i)
  | .str x _ => some (.str x)
  | .float b _ => some (.flt b)
  | .ref a => some (.ref a)
  | .type n => some (.ty n)
  | _ => none
theorem relV_of_abs {x : V} {u : Value} (h : absV u = some x) : RelV x u := by
  cases u <;> cases h <;> first | exact rfl | exact ⟨_, rfl⟩
def KVals : List V → List Value → Prop := Paired fun x u => absV u = some x
theorem KVals.vals : ∀ {xs : List V} {us : List Value}, KVals xs us → Vals xs us
  | _, _, .nil => .nil
  | _, _, .cons r t => .cons (relV_of_abs r) (KVals.vals t)
theorem KVals.inj : ∀ {xs ys : List V} {us : List Value}, KVals xs us → KVals ys us → xs = ys
  | _, _, _, .nil, .nil => rfl
  | _, _, _, .cons r t, .cons r' t' => by rw [Option.some.inj (r.symm.trans r'), KVals.inj t t']
theorem KVals.ints : ∀ {ns : List Int} {us : List Value}, Vals (ns.map V.int) us → KVals (ns.map V.int) us
  | [], _, .nil => .nil
  | n :: ns, _, .cons ⟨_, e⟩ t => .cons (by rw [e]; rfl) (KVals.ints (ns := ns) t)
def SqL (K : PySem.W.Frag) (H : Hp) (a : Addr) (xs : List V) : Prop :=
  Rd H a (.lst xs) ∨
    ∃ (o : Obj) (its : Array Value) (n : Nat), K.lookup a = some o ∧ o.cls = .type "list" ∧ o.dict = none ∧ o.data = .seq its n ∧ its.size ≤ sizeLine ∧ KVals xs its.toList
def SqT (K : PySem.W.Frag) (H : Hp) (a : Addr) (xs : List V) : Prop :=
  Rd H a (.tup xs) ∨
    ∃ (o : Obj) (its : Array Value) (n : Nat), K.lookup a = some o ∧ o.cls = .type "tuple" ∧ o.data = .seq its n ∧ its.size ≤ sizeLine ∧ KVals xs its.toList
section
variable {X : Cx} {pins : List (Addr × Obj)} {σ : St} {H : Hp} {s : Shared} {a : Addr} {xs ys : List V}
theorem SqL.of {K : PySem.W.Frag} (h : H a = some (.lst xs)) : SqL K H a xs := .inl (.inl h)
theorem SqT.of {K : PySem.W.Frag} (h : H a = some (.tup xs)) : SqT K H a xs := .inl (.inl h)
theorem Inv.list (I : Inv X pins σ H s) (h : SqL X.K H a xs) : ∃ its : List Value, Vals xs its ∧ PlainL s.heap a its.toArray ∧ xs.length ≤ sizeLine := by
  rcases h with h | ⟨o, its, n, hk, hc, hd, hs, hz, r⟩
  · obtain ⟨z, its, n, r, e⟩ := h.ok I.hok
    exact ⟨its, r, ⟨_, n, e, rfl, rfl, rfl⟩, z⟩
  · refine ⟨its.toList, r.vals, ⟨o, n, I.kIn a o hk, hc, hd, by simpa using hs⟩, ?_⟩
    have e := r.vals.length
    simp only [Array.length_toList] at e
    omega
theorem Inv.tuple (I : Inv X pins σ H s) (h : SqT X.K H a xs) : ∃ its : List Value, Vals xs its ∧ IsTup s.heap a its.toArray ∧ xs.length ≤ sizeLine := by
  rcases h with h | ⟨o, its, n, hk, hc, hs, hz, r⟩
  · obtain ⟨z, its, r, p⟩ := h.ok I.hok
    exact ⟨its, r, p, z⟩
  · refine ⟨its.toList, r.vals, ⟨o, I.kIn a o hk, hc, n, by simpa using hs⟩, ?_⟩
    have e := r.vals.length
    simp only [Array.length_toList] at e
    omega
theorem Rd.one {H : Hp} {a : Addr} {o u : HO} (ho : ∀ x y, o ≠ .frz x y) (hu : ∀ x y, u ≠ .frz x y) (h : Rd H a o) (h' : Rd H a u) : o = u := by
  rcases h with h | ⟨ob, h⟩ <;> rcases h' with h' | ⟨ob', h'⟩ <;> rw [h] at h' <;> cases h'
  · rfl
  · exact absurd rfl (ho _ _)
  · exact absurd rfl (hu _ _)
  · rfl
theorem Rd.some {H : Hp} {a : Addr} {o : HO} (h : Rd H a o) (n : H a = none) : False := by
  rcases h with h | ⟨ob, h⟩ <;> rw [n] at h <;> cases h
theorem Inv.knone (I : Inv X pins σ H s) {o : Obj} (hk : X.K.lookup a = some o) : H a = none := (I.bs a o (I.ok.mod.kin a o hk)).2
theorem Inv.list_inj (I : Inv X pins σ H s) (h : SqL X.K H a xs) (h' : SqL X.K H a ys) : xs = ys := by
  rcases h with h | ⟨o, its, n, hk, _, _, d, _, r⟩ <;> rcases h' with h' | ⟨o', its', n', hk', _, _, d', _, r'⟩
  · exact HO.lst.inj (Rd.one (fun _ _ z => by cases z) (fun _ _ z => by cases z) h h')
  · exact (h.some (I.knone hk')).elim
  · exact (h'.some (I.knone hk)).elim
  · rw [hk] at hk'; cases hk'
    rw [d] at d'
    injection d' with d1 _
    subst d1
    exact r.inj r'
theorem Inv.tuple_inj (I : Inv X pins σ H s) (h : SqT X.K H a xs) (h' : SqT X.K H a ys) : xs = ys := by
  rcases h with h | ⟨o, its, n, hk, _, d, _, r⟩ <;> rcases h' with h' | ⟨o', its', n', hk', _, d', _, r'⟩
  · exact HO.tup.inj (Rd.one (fun _ _ z => by cases z) (fun _ _ z => by cases z) h h')
  · exact (h.some (I.knone hk')).elim
  · exact (h'.some (I.knone hk)).elim
  · rw [hk] at hk'; cases hk'
    rw [d] at d'
    injection d' with d1 _
    subst d1
    exact r.inj r'
end
abbrev Cx.wish (X : Cx) (E : Value → Shared → Prop) : Cx := { X with xe := E }
abbrev Cx.nox (X : Cx) : Cx := X.wish fun _ _ => False
theorem Cx.Ok.wish {X : Cx} (ok : X.Ok) (E : Value → Shared → Prop) : (X.wish E).Ok :=
  ⟨ok.mod, ok.kind, ok.glob, ok.blt, ok.above, ok.inj, ok.has, ok.cab, ok.hd, ok.frames, ok.stk, ok.exf, ok.bs, ok.bsz, ok.noex, ok.exfs, ok.funs, ok.frf⟩
theorem Cx.Ok.unwish {X : Cx} {E : Value → Shared → Prop} (ok : (X.wish E).Ok) : X.Ok :=
  ⟨ok.mod, ok.kind, ok.glob, ok.blt, ok.above, ok.inj, ok.has, ok.cab, ok.hd, ok.frames, ok.stk, ok.exf, ok.bs, ok.bsz, ok.noex, ok.exfs, ok.funs, ok.frf⟩
section
variable {X : Cx} {pins : List (Addr × Obj)} {σ : St} {H : Hp} {s : Shared} {E : Value → Shared → Prop}
theorem Inv.wish (I : Inv X pins σ H s) (E : Value → Shared → Prop) : Inv (X.wish E) pins σ H s := ⟨I.ok.wish E, I.os, I.bare, I.base, I.loc, I.cell, I.free, I.freeC, I.pin, I.hok, I.len⟩
theorem Inv.unwish (I : Inv (X.wish E) pins σ H s) : Inv X pins σ H s := ⟨I.ok.unwish, I.os, I.bare, I.base, I.loc, I.cell, I.free, I.freeC, I.pin, I.hok, I.len⟩
theorem SP.unwish {D : Ends} {f : Flow} {s' : Shared} (h : SP (X.wish E) pins D f s') : SP X pins D f s' := by
  cases f with
  | next => obtain ⟨σ', H', I, q⟩ := h; exact ⟨σ', H', I.unwish, q⟩
  | brk => obtain ⟨σ', H', I, q⟩ := h; exact ⟨σ', H', I.unwish, q⟩
  | cont => obtain ⟨σ', H', I, q⟩ := h; exact ⟨σ', H', I.unwish, q⟩
  | ret u => obtain ⟨v, σ', H', I, r, q⟩ := h; exact ⟨v, σ', H', I.unwish, r, q⟩
theorem PT.nox {e : Expr} {t : TT} (h : PT X.nox e t) : PT X e t := fun pins s σ H Q I hw =>
  wpAny_mono (h pins s σ H Q (I.wish _) hw) (fun _ _ ⟨H', I', q⟩ => ⟨H', I'.unwish, q⟩) fun _ _ z => False.elim z
theorem PSs.nox {st : List Stmt} {t : TS} (h : PSs X.nox st t) : PSs X st t := fun pins s σ H D I hw =>
  wpAny_mono (h pins s σ H D (I.wish _) hw) (fun _ _ q => q.unwish) fun _ _ z => False.elim z
end
section
variable {X : Cx} {st : Stmt} {rest : List Stmt} {t u : TS} {e : Expr} {te : TE} {pos : Pos}
def tNext : TS := fun D σ H => D.nx σ H
def tSeq (t u : TS) : TS := fun D σ H => t { D with nx := u D } σ H
theorem pss_nil : PSs X [] tNext := fun _ _ σ H _ I h => wpAny_execs_nil ⟨σ, H, I, h⟩
theorem pss_cons (h1 : PS X st t) (h2 : PSs X rest u) : PSs X (st :: rest) (tSeq t u) := by
  intro pins s σ H D I h
  refine wpAny_execs_cons (thn (h1 pins s σ H { D with nx := u D } I h) fun f s1 q => ?_)
  cases f with
  | next =>
    obtain ⟨σ', H', I', q⟩ := q
    exact h2 pins s1 σ' H' D I' q
  | ret v => exact q
  | brk => exact q
  | cont => exact q
theorem pss_one (h1 : PS X st t) : PSs X [st] t := by
  intro pins s σ H D I h
  refine wpAny_execs_cons (thn (h1 pins s σ H D I h) fun f s1 q => ?_)
  cases f with
  | next => exact wpAny_execs_nil q
  | ret v => exact q
  | brk => exact q
  | cont => exact q
theorem Inv.quiet {pins : List (Addr × Obj)} {σ : St} {H : Hp} {s : Shared} (I : Inv X pins σ H s) : interactive X.env = false := by simp [interactive, I.ok.kind]
def tDrop (te : TE) : TS := fun D σ H => te σ H fun _ H1 => D.nx σ H1
theorem ps_expr (he : PE X e te) (hs : swapsWith e none pos.line X.env = pure false := by rfl) : PS X (.Expr e pos) (tDrop te) := by
  intro pins s σ H D I h
  exact wpAny_Expr_any (thn (he pins s σ H _ I h) fun v s1 ⟨x, H1, I1, r1, q1⟩ => ⟨σ, H1, I1, q1⟩) I.quiet hs
def tRet (te : TE) : TS := fun D σ H => te σ H D.rt
theorem ps_ret (he : PE X e te) : PS X (.Return (some e) pos) (tRet te) := by
  intro pins s σ H D I h
  exact wpAny_Return_some (thn (he pins s σ H _ I h) fun v s1 ⟨x, H1, I1, r1, q1⟩ => ⟨x, σ, H1, I1, r1, q1⟩)
def tIfS (c : TT) (t u : TS) : TS := fun D σ H => c σ H fun b H1 => if b = true then t D σ H1 else u D σ H1
theorem ps_if {c : Expr} {a b : List Stmt} {tc : TT} (hc : PT X c tc) (ha : PSs X a t) (hb : PSs X b u) : PS X (.If c a b pos) (tIfS tc t u) := by
  intro pins s σ H D I h
  refine wpAny_If (thn (hc pins s σ H _ I h) fun d s1 ⟨H1, I1, q1⟩ => ?_)
  cases d with
  | true => exact ha pins s1 σ H1 D I1 q1
  | false => exact hb pins s1 σ H1 D I1 q1
end
abbrev TG := V → St → Hp → (St → Hp → Prop) → Prop
abbrev TGs := List V → St → Hp → (St → Hp → Prop) → Prop
def PG (X : Cx) (target : Expr) (t : TG) : Prop :=
  ∀ (pins : List (Addr × Obj)) (s : Shared) (σ : St) (H : Hp) (v : V) (u : Value) (Q : St → Hp → Prop), Inv X pins σ H s → RelV v u → t v σ H Q →
    wpAny (model X.prog X.w) X.A (assign target X.env u) (fun _ s' => ∃ σ' H', Inv X pins σ' H' s' ∧ Q σ' H') X.xe s
def PGs (X : Cx) (ts : List Expr) (t : TGs) : Prop :=
  ∀ (pins : List (Addr × Obj)) (s : Shared) (σ : St) (H : Hp) (vs : List V) (us : List Value) (Q : St → Hp → Prop), Inv X pins σ H s → Vals vs us → t vs σ H Q →
    wpAny (model X.prog X.w) X.A (assignInOrder ((assignEach ts X.env).map (·.2)) us) (fun _ s' => ∃ σ' H', Inv X pins σ' H' s' ∧ Q σ' H') X.xe s
abbrev TSet := V → V → V → Hp → (Hp → Prop) → Prop
def PSet (X : Cx) (t : TSet) : Prop :=
  ∀ (pins : List (Addr × Obj)) (s : Shared) (σ : St) (H : Hp) (o i v : V) (ov iv u : Value) (Q : Hp → Prop), Inv X pins σ H s → RelV o ov → RelV i iv → RelV v u → t o i v H Q →
    wpAny (model X.prog X.w) X.A (setItem ov iv u) (fun _ s' => ∃ H', Inv X pins σ H' s' ∧ Q H') X.xe s
section
variable {X : Cx} {pos : Pos}
def gName (i : Nat) : TG := fun v σ H Q => Q (σ.set i (some v)) H
theorem pg_name {i : Nat} {x : Str} (hN : X.N.Nodup) (hi : X.N[i]? = some x) (hx : Loc X.env.scope x) (hf : X.fn x = true ∨ X.env.scope.names.lookup x = some .local := by first | exact .inl rfl | exact .inr rfl | assumption) : PG X (.Name x pos) (gName i) := by
  intro pins s σ H v u Q I r h
  exact wpAny_assign_Name (store_ok I hN hi hx r (fun s' I' => ⟨_, H, I', h⟩) hf)
def gNil : TGs := fun vs σ H Q => vs = [] ∧ Q σ H
def gCons (t : TG) (u : TGs) : TGs := fun vs σ H Q => ∃ v r, vs = v :: r ∧ t v σ H fun σ' H' => u r σ' H' Q
theorem pgs_nil : PGs X [] gNil := by
  intro pins s σ H vs us Q I r h
  obtain ⟨e, h⟩ := h
  subst e
  cases r
  exact assignInOrder_nil ⟨σ, H, I, h⟩
theorem pgs_cons {e : Expr} {es : List Expr} {t : TG} {u : TGs} (h1 : PG X e t) (h2 : PGs X es u)
    (hs : (assignEach (e :: es) X.env).map (·.2) = assign e X.env :: (assignEach es X.env).map (·.2) := by rfl) : PGs X (e :: es) (gCons t u) := by
  intro pins s σ H vs us Q I r h
  obtain ⟨v, vr, e1, h⟩ := h
  subst e1
  cases r with
  | cons r rr =>
    rw [hs]
    refine assignInOrder_cons (thn (h1 pins s σ H _ _ _ I r h) fun _ s1 ⟨σ1, H1, I1, q1⟩ => ?_)
    exact h2 pins s1 σ1 H1 _ _ Q I1 rr q1
def gTup (K : PySem.W.Frag) (n : Nat) (t : TGs) : TG := fun v σ H Q => ∃ a xs, v = .ref a ∧ SqT K H a xs ∧ xs.length = n ∧ t xs σ H Q
theorem pg_tup {es : List Expr} {k : Nat} {t : TGs} {n : Nat} (hc : X.calm = true) (h : PGs X es t)
    (hn : (assignEach es X.env).length = n := by rfl) (hst : (assignEach es X.env).findIdx? (·.1) = none := by rfl) : PG X (.Tuple es k pos) (gTup X.K n t) := by
  intro pins s σ H v u Q I r hw
  obtain ⟨a, xs, e1, hq, hl, hw⟩ := hw
  subst e1
  cases r
  obtain ⟨its, rv, ht, hz⟩ := I.tuple hq
  refine assign_Tuple_tuple (I.ok.hd hc) ht (by simp [hn, ← hl, rv.length]) hst fun h' hx => ?_
  have I1 : Inv X pins σ H { s with heap := h' } := I.kept (t' := s.toks) fun b o e => hx b o (Nat.ne_of_lt (Heap.lt_size e)) e
  exact h pins _ σ H xs _ Q I1 (by simpa using rv) hw
def gSub (to ti : TE) (t : TSet) : TG := fun v σ H Q => to σ H fun o H1 => ti σ H1 fun i H2 => t o i v H2 fun H3 => Q σ H3
theorem pg_sub {o i : Expr} {to ti : TE} {t : TSet} (ho : PE X o to) (hi : PE X i ti) (hs : PSet X t)
    (ha : ∀ v, assign (.Subscript o i pos) X.env v = (do
      let ov ← holding [v] (eval o X.env)
      let iv ← holding [v, ov] (eval i X.env)
      standAt pos
      holding [v, ov, iv] (setItem ov iv v)
      release [v, ov, iv] []) := by intro _; rfl) : PG X (.Subscript o i pos) (gSub to ti t) := by
  intro pins s σ H v u Q I r h
  rw [ha]
  refine wpAny_bind (wpAny_holding (thn (ho pins s σ H _ I h) fun ov s1 ⟨x, H1, I1, r1, q1⟩ => ?_))
  refine wpAny_bind (wpAny_holding (thn (hi pins s1 σ H1 _ I1 q1) fun iv s2 ⟨y, H2, I2, r2, q2⟩ => ?_))
  refine wpAny_bind (wpAny_standAt (wpAny_bind (wpAny_holding (thn (hs pins s2 σ H2 x y v ov iv u _ I2 r1 r2 r q2) fun _ s3 ⟨H3, I3, q3⟩ => ?_))))
  exact wpAny_release ⟨σ, H3, I3, q3⟩
def tAsg (te : TE) (g : TG) : TS := fun D σ H => te σ H fun x H1 => g x σ H1 D.nx
theorem ps_asg {tg e : Expr} {te : TE} {g : TG} (he : PE X e te) (hg : PG X tg g) (hs : swapsWithSole [tg] e pos.line X.env = pure false := by rfl) (hw : swappedStores [tg] e X.env = pure none := by rfl)
    (h1 : (assignEach [tg] X.env).map (·.2) = [assign tg X.env] := by rfl) : PS X (.Assign [tg] e pos) (tAsg te g) := by
  intro pins s σ H D I h
  refine wpAny_Assign_stores (thn (he pins s σ H _ I h) fun v s1 ⟨x, H1, I1, r1, q1⟩ => ?_) hs hw
  rw [h1]
  exact thn (hg pins s1 σ H1 x v _ I1 r1 q1) fun _ s2 q => q
theorem ps_set {i : Nat} {x : Str} {e : Expr} {te : TE} {pos' : Pos} (hN : X.N.Nodup) (hi : X.N[i]? = some x) (hx : Loc X.env.scope x) (he : PE X e te) (hs : swapsWith e (some (.Name x pos')) pos.line X.env = pure false := by rfl) (hf : X.fn x = true ∨ X.env.scope.names.lookup x = some .local := by first | exact .inl rfl | exact .inr rfl | assumption) :
    PS X (.Assign [.Name x pos'] e pos) (tAsg te (gName i)) := by
  intro pins s σ H D I h
  refine wpAny_Assign_Name (thn (he pins s σ H _ I h) fun v s1 ⟨y, H1, I1, r1, q1⟩ => ?_) hs
  exact store_ok I1 hN hi hx r1 (fun s2 I2 => ⟨_, H1, I2, q1⟩) hf
end
structure It where
  go : Nat → Hp → Prop
  yld : Nat → Hp → V → Hp → Prop
  stop : Nat → Hp → Prop
def FpOk (X : Cx) (pins : List (Addr × Obj)) (H : Hp) (b : Addr) : Prop :=
  H b = none ∧ b ≠ X.env.locals ∧ b ∉ X.fs ∧ (b ∈ X.ex ∨ X.sZ.heap.objs.size ≤ b) ∧ (∀ x c, X.env.cells.lookup x = some c → c ≠ b) ∧ ∀ p ∈ X.pn ++ pins, p.1 ≠ b
theorem Inv.fpOk {X : Cx} {pins : List (Addr × Obj)} {σ : St} {H H' : Hp} {s : Shared} {b : Addr} (I : Inv X pins σ H s) (hb : s.heap.objs.size ≤ b) (hn : H' b = none) : FpOk X pins H' b := by
  refine ⟨hn, Nat.ne_of_gt (Nat.lt_of_lt_of_le I.lt hb), I.nofs hb, .inr (Nat.le_trans I.sz hb), fun x c e z => ?_, fun p hp z => ?_⟩
  · obtain ⟨v, q⟩ := I.cell x c e
    exact absurd (Nat.lt_of_lt_of_le q.lt (by rw [z]; exact hb)) (Nat.lt_irrefl _)
  · exact absurd (Nat.lt_of_lt_of_le (Heap.lt_size (I.pin p hp).1) (by rw [z]; exact hb)) (Nat.lt_irrefl _)
structure Turn (P : Program) (w : World) (K : PySem.W.Frag) (tg : Expr) (J : It) (fp : List Addr) (it : Addr) (tn : Nat → Heap → Prop) : Prop where
  mem : it ∈ fp
  obj : ∀ i h, tn i h → ∀ b ∈ fp, ∃ o, h.get? b = some o ∧ ∀ v, o.data ≠ .cell v
  keep : ∀ i h h', tn i h → (∀ b ∈ fp, ∀ o, h.get? b = some o → h'.get? b = some o) → tn i h'
  item : ∀ (X : Cx), X.prog = P → X.w = w → X.K = K → X.calm = true → ∀ (i : Nat) (pins : List (Addr × Obj)) (s : Shared) (σ : St) (H : Hp) (E : Value → Shared → Prop), Inv X pins σ H s → (∀ b ∈ fp, FpOk X pins H b) → tn i s.heap → J.go i H →
    wpAny (model P w) X.A (pyNext (.ref it)) (fun r s1 => ∃ u, r = some u ∧
      wpAny (model P w) X.A (letOwnedTupleGo tg (.ref it) u) (fun _ s2 => ∃ x H', Inv X pins σ H' s2 ∧ RelV x u ∧ J.yld i H x H' ∧ tn (i + 1) s2.heap ∧ ∀ b ∈ fp, H' b = none) E s1) E s
  done : ∀ (X : Cx), X.prog = P → X.w = w → X.K = K → X.calm = true → ∀ (i : Nat) (pins : List (Addr × Obj)) (s : Shared) (σ : St) (H : Hp) (E : Value → Shared → Prop), Inv X pins σ H s → (∀ b ∈ fp, FpOk X pins H b) → tn i s.heap → J.stop i H →
    wpAny (model P w) X.A (pyNext (.ref it)) (fun r s1 => r = none ∧ Inv X pins σ H s1) E s
  self : ∀ (A : Around) (i : Nat) (s : Shared) (Q : Value → Shared → Prop) (E : Value → Shared → Prop), tn i s.heap → Q (.ref it) s → wpAny (model P w) A (pyIter (.ref it)) Q E s
abbrev TI := St → Hp → (It → Hp → Prop) → Prop
def PIE (X : Cx) (pins : List (Addr × Obj)) (σ : St) (tg : Expr) (R : It → Hp → Prop) (itv : Value) (s2 : Shared) : Prop :=
  ∃ (it : Addr) (fp : List Addr) (tn : Nat → Heap → Prop) (J : It) (H' : Hp), itv = .ref it ∧ Inv X pins σ H' s2 ∧ Turn X.prog X.w X.K tg J fp it tn ∧ tn 0 s2.heap ∧ (∀ b ∈ fp, FpOk X pins H' b) ∧ R J H'
def PI (X : Cx) (tg iter : Expr) (wi : TI) : Prop :=
  ∀ (pins : List (Addr × Obj)) (s : Shared) (σ : St) (H : Hp) (R : It → Hp → Prop), Inv X pins σ H s → wi σ H R →
    wpAny (model X.prog X.w) X.A (eval iter X.env) (fun v s1 => wpAny (model X.prog X.w) X.A (pyIter v) (PIE X pins σ tg R) X.xe s1) X.xe s
theorem go_of {M : Model} {A : Around} {E : Value → Shared → Prop} {s : Shared} {tg : Expr} {it : Addr} {u : Value} {o : Obj} {n : String} {vs : Array Value} {Q : Unit → Shared → Prop} (ho : s.heap.get? it = some o) (hc : o.cls = .type n) (hd : o.data = .fields vs)
    (hn : ["enumerate", "zip", "dict_itemiterator", "dict_reverseitemiterator", "odict_iterator", "itertools.zip_longest", "itertools.pairwise"].contains n = false) (hQ : Q () s) : wpAny M A (letOwnedTupleGo tg (.ref it) u) Q E s := by
  unfold letOwnedTupleGo
  cases tg <;> first
    | exact wpAny_pure hQ
    | (cases u <;> first
        | exact wpAny_pure hQ
        | (refine wpAny_bind (wpAny_load ho ?_)
           rw [hc, hd]
           show wpAny M A (if (["enumerate", "zip", "dict_itemiterator", "dict_reverseitemiterator", "odict_iterator", "itertools.zip_longest", "itertools.pairwise"].contains n && vs[0]? == some (rawInt _)) = true then _ else _) Q E s
           rw [if_neg (by intro h; rw [hn, Bool.false_and] at h; cases h)]
           exact wpAny_pure hQ))
def Itl (K : PySem.W.Frag) (a : Addr) : It :=
  ⟨fun i H => ∃ xs x, SqL K H a xs ∧ xs[i]? = some x, fun i H x H' => H' = H ∧ ∀ xs, SqL K H a xs → xs[i]? = some x, fun i H => ∃ xs, SqL K H a xs ∧ xs.length ≤ i⟩
def Itt (K : PySem.W.Frag) (a : Addr) : It :=
  ⟨fun i H => ∃ xs x, SqT K H a xs ∧ xs[i]? = some x, fun i H x H' => H' = H ∧ ∀ xs, SqT K H a xs → xs[i]? = some x, fun i H => ∃ xs, SqT K H a xs ∧ xs.length ≤ i⟩
def Itr (lo : Int) (n : Nat) : It := ⟨fun i _ => i < n, fun i H x H' => H' = H ∧ x = .int (lo + i), fun i _ => n ≤ i⟩
theorem turn_list {P : Program} {w : World} {K : PySem.W.Frag} {tg : Expr} (a it : Addr) : Turn P w K tg (Itl K a) [it] it (fun i h => h.IsListIter it a i) where
  mem := by simp
  obj := fun i h st b hb => by
    have e : b = it := by simpa using hb
    subst e
    obtain ⟨o, e, c, d⟩ := st
    exact ⟨o, e, fun v z => by rw [d] at z; cases z⟩
  keep := fun i h h' st k => st.at fun o e => k it (by simp) o e
  item := by
    intro X hP hw hK hc i pins s σ H E I hf st hg
    subst hP hw hK
    obtain ⟨xs, x, hq, hx⟩ := hg
    obtain ⟨its, rv, p, hz⟩ := I.list hq
    obtain ⟨u, hu, ru⟩ := rv.get hx
    obtain ⟨f0, f1, f2, f3, f4, f5⟩ := hf it (by simp)
    refine wpAny_pyNext_list_item st p.isList (x := u) (by simpa using hu) fun h' st' sb => ?_
    have I1 : Inv X pins σ H { s with heap := h' } := I.turned (t' := s.toks) (fun b o hb e => (sb.2 b hb).trans e) f0 f1 f3 f4 f5
    obtain ⟨o, e, c, d⟩ := id st'
    exact ⟨u, rfl, go_of (s := { s with heap := h' }) e c d (by decide) ⟨x, H, I1, ru, ⟨rfl, fun ys hy => by rw [I.list_inj hy hq]; exact hx⟩, st', fun b hb => (hf b hb).1⟩⟩
  done := by
    intro X hP hw hK hc i pins s σ H E I hf st hg
    subst hP hw hK
    obtain ⟨xs, hq, hx⟩ := hg
    obtain ⟨its, rv, p, hz⟩ := I.list hq
    obtain ⟨f0, f1, f2, f3, f4, f5⟩ := hf it (by simp)
    have hl := rv.length
    exact wpAny_pyNext_list_end (I.ok.hd hc) st p.isList (by simp; omega) fun h' eb => ⟨rfl, I.turned (t' := s.toks) (fun b o hb e => eb b o hb e) f0 f1 f3 f4 f5⟩
  self := fun _ _ _ _ _ st h => wpAny_pyIter_listiter st h
theorem turn_tuple {P : Program} {w : World} {K : PySem.W.Frag} {tg : Expr} (a it : Addr) : Turn P w K tg (Itt K a) [it] it (fun i h => h.IsTupleIter it a i) where
  mem := by simp
  obj := fun i h st b hb => by
    have e : b = it := by simpa using hb
    subst e
    obtain ⟨o, e, c, d⟩ := st
    exact ⟨o, e, fun v z => by rw [d] at z; cases z⟩
  keep := fun i h h' st k => st.at fun o e => k it (by simp) o e
  item := by
    intro X hP hw hK hc i pins s σ H E I hf st hg
    subst hP hw hK
    obtain ⟨xs, x, hq, hx⟩ := hg
    obtain ⟨its, rv, p, hz⟩ := I.tuple hq
    obtain ⟨u, hu, ru⟩ := rv.get hx
    obtain ⟨f0, f1, f2, f3, f4, f5⟩ := hf it (by simp)
    refine wpAny_pyNext_tuple_item st (show s.heap.IsTuple a its.toArray from p) (x := u) (by simpa using hu) fun h' st' sb => ?_
    have I1 : Inv X pins σ H { s with heap := h' } := I.turned (t' := s.toks) (fun b o hb e => (sb.2 b hb).trans e) f0 f1 f3 f4 f5
    obtain ⟨o, e, c, d⟩ := id st'
    exact ⟨u, rfl, go_of (s := { s with heap := h' }) e c d (by decide) ⟨x, H, I1, ru, ⟨rfl, fun ys hy => by rw [I.tuple_inj hy hq]; exact hx⟩, st', fun b hb => (hf b hb).1⟩⟩
  done := by
    intro X hP hw hK hc i pins s σ H E I hf st hg
    subst hP hw hK
    obtain ⟨xs, hq, hx⟩ := hg
    obtain ⟨its, rv, p, hz⟩ := I.tuple hq
    obtain ⟨f0, f1, f2, f3, f4, f5⟩ := hf it (by simp)
    have hl := rv.length
    exact wpAny_pyNext_tuple_end (I.ok.hd hc) st (show s.heap.IsTuple a its.toArray from p) (by simp; omega) fun h' eb => ⟨rfl, I.turned (t' := s.toks) (fun b o hb e => eb b o hb e) f0 f1 f3 f4 f5⟩
  self := fun _ _ _ _ _ st h => wpAny_pyIter_tupleiter st h
theorem turn_range {P : Program} {w : World} {K : PySem.W.Frag} {tg : Expr} (it : Addr) (lo : Int) (n : Nat) : Turn P w K tg (Itr lo n) [it] it (fun i h => IsRangeIter h it (lo + (i : Nat) * 1) ((n : Int) - (i : Nat)) 1) where
  mem := by simp
  obj := fun i h st b hb => by
    have e : b = it := by simpa using hb
    subst e
    exact ⟨_, st, fun v z => by
      have z' : Data.fields _ = Data.cell v := z
      cases z'⟩
  keep := fun i h h' st k => k it (by simp) _ st
  item := by
    intro X hP hw hK hc i pins s σ H E I hf st hg
    subst hP hw hK
    obtain ⟨f0, f1, f2, f3, f4, f5⟩ := hf it (by simp)
    have W := Walks.range (prog := X.prog) (w := X.w) (I.ok.hd hc) it lo 1 n
    refine W.item i s _ _ hg st fun v h' tk hv st' kk => ?_
    obtain ⟨t, rfl⟩ := hv
    have I1 : Inv X pins σ H { s with heap := h', toks := tk } := I.turned (fun b o hb e => kk b o (by simpa using hb) e) f0 f1 f3 f4 f5
    refine ⟨_, rfl, go_of (s := { s with heap := h', toks := tk }) (n := "range_iterator") st' rfl rfl (by decide) ⟨.int (lo + i), H, I1, ⟨t, ?_⟩, ⟨rfl, rfl⟩, st', fun b hb => (hf b hb).1⟩⟩
    rw [Int.mul_one]
  done := by
    intro X hP hw hK hc i pins s σ H E I hf st hg
    subst hP hw hK
    obtain ⟨f0, f1, f2, f3, f4, f5⟩ := hf it (by simp)
    exact wpAny_pyNext_range_end (I.ok.hd hc) st (by have : n ≤ i := hg; omega) fun h' eb => ⟨rfl, I.turned (t' := s.toks) (fun b o hb e => eb b o hb e) f0 f1 f3 f4 f5⟩
  self := fun _ _ _ _ _ st h => wpAny_pyIter_rangeiter st h
end L2
namespace L2
open PySem PySem.Spec PyProof.Rows
section
variable {X : Cx} {tg : Expr}
def iList (K : PySem.W.Frag) (tl : TE) : TI := fun σ H R => tl σ H fun x H1 => ∃ a, x = .ref a ∧ (∃ xs, SqL K H1 a xs) ∧ R (Itl K a) H1
def iTup (K : PySem.W.Frag) (tl : TE) : TI := fun σ H R => tl σ H fun x H1 => ∃ a, x = .ref a ∧ (∃ xs, SqT K H1 a xs) ∧ R (Itt K a) H1
theorem pi_list {l : Expr} {tl : TE} (hl : PE X l tl) : PI X tg l (iList X.K tl) := by
  intro pins s σ H R I h
  refine thn (hl pins s σ H _ I h) fun v s1 ⟨x, H1, I1, r1, q1⟩ => ?_
  obtain ⟨a, e, ⟨xs, hq⟩, q⟩ := q1
  subst e
  cases r1
  obtain ⟨its, rv, p, hz⟩ := I1.list hq
  refine wpAny_pyIter_list p.isList ?_
  refine ⟨s1.heap.objs.size, [s1.heap.objs.size], _, _, H1, rfl, I1.kept (t' := s1.toks) fun b o e => Heap.get?_push_of_some _ e, turn_list a _, ⟨_, Heap.get?_push_size _ rfl, rfl, rfl⟩, fun b hb => ?_, q⟩
  have e : b = s1.heap.objs.size := by simpa using hb
  subst e
  exact I1.fpOk (Nat.le_refl _) (I1.hok.fresh (Nat.le_refl _))
theorem pi_tup {l : Expr} {tl : TE} (hl : PE X l tl) : PI X tg l (iTup X.K tl) := by
  intro pins s σ H R I h
  refine thn (hl pins s σ H _ I h) fun v s1 ⟨x, H1, I1, r1, q1⟩ => ?_
  obtain ⟨a, e, ⟨xs, hq⟩, q⟩ := q1
  subst e
  cases r1
  obtain ⟨its, rv, p, hz⟩ := I1.tuple hq
  refine wpAny_pyIter_tuple (show s1.heap.IsTuple a its.toArray from p) ?_
  refine ⟨s1.heap.objs.size, [s1.heap.objs.size], _, _, H1, rfl, I1.kept (t' := s1.toks) fun b o e => Heap.get?_push_of_some _ e, turn_tuple a _, ⟨_, Heap.get?_push_size _ rfl, rfl, rfl⟩, fun b hb => ?_, q⟩
  have e : b = s1.heap.objs.size := by simpa using hb
  subst e
  exact I1.fpOk (Nat.le_refl _) (I1.hok.fresh (Nat.le_refl _))
theorem range_it {pins : List (Addr × Obj)} {σ : St} {H : Hp} {s : Shared} {R : It → Hp → Prop} {E : Value → Shared → Prop} {lo hi : Int} {t u v : Tok} {tk : Nat} (I : Inv X pins σ H s) (h1 : -(2 ^ 62) ≤ lo) (h2 : lo < 2 ^ 62) (h3 : -(2 ^ 62) ≤ hi) (h4 : hi < 2 ^ 62)
    (q : R (Itr lo (hi - lo).toNat) H) : wpAny (model X.prog X.w) X.A (pyIter (.ref s.heap.objs.size)) (PIE X pins σ tg R) E { s with heap := s.heap.push { cls := .type "range", data := .fields #[.int lo t, .int hi u, .int 1 v] }, toks := tk } := by
  refine wpAny_pyIter_range (IsRange.new ..) (small_one h1 h2 h3 h4) ?_
  have I1 : Inv X pins σ H { s with heap := s.heap.push { cls := .type "range", data := .fields #[.int lo t, .int hi u, .int 1 v] }, toks := tk } := I.kept fun b o e => Heap.get?_push_of_some _ e
  refine ⟨(s.heap.push { cls := .type "range", data := .fields #[.int lo t, .int hi u, .int 1 v] }).objs.size, [(s.heap.push { cls := .type "range", data := .fields #[.int lo t, .int hi u, .int 1 v] }).objs.size], _, _, H, rfl,
    I1.kept (t' := tk) fun b o e => Heap.get?_push_of_some _ e, turn_range _ lo (hi - lo).toNat, ?_, fun b hb => ?_, q⟩
  · have e1 : lo + ((0 : Nat) : Int) * 1 = lo := by simp
    have e2 : (((hi - lo).toNat : Nat) : Int) - ((0 : Nat) : Int) = Builtin.Range.rangeSize lo hi 1 := by rw [rangeSize_one]; split <;> omega
    show IsRangeIter _ _ (lo + ((0 : Nat) : Int) * 1) ((((hi - lo).toNat : Nat) : Int) - ((0 : Nat) : Int)) 1
    rw [e1, e2]
    exact Heap.get?_push_size _ rfl
  · have e : b = (s.heap.push { cls := .type "range", data := .fields #[.int lo t, .int hi u, .int 1 v] }).objs.size := by simpa using hb
    subst e
    exact I1.fpOk (Nat.le_refl _) (I1.hok.fresh (Nat.le_refl _))
def iRng1 (ta : TA) : TI := fun σ H R => ta σ H fun vs H1 => ∃ j : Int, vs = [.int j] ∧ -(2 ^ 62) ≤ j ∧ j < 2 ^ 62 ∧ R (Itr 0 j.toNat) H1
theorem pi_range1 {a : Expr} {ta : TA} {p pos : Pos} (hg : Gl X "range") (hm : X.mg "range" = none) (ha : PA X [a] ta) (hs : starEach [a] X.env = [(false, eval a X.env)] := by rfl) : PI X tg (.Call (.Name "range" p) [a] [] pos) (iRng1 ta) := by
  intro pins s σ H R I h
  refine Call_ (ld_blt I hg hm boot_range (PyProof.Rows.callWith_type1 (thn (ha pos pins s σ H _ I h) fun us s1 ⟨vs, H1, I1, r1, q1⟩ => ?_) hs rfl))
  obtain ⟨j, e, q1, q2, q⟩ := q1
  subst e
  cases r1 with
  | cons r rr =>
    cases rr
    obtain ⟨t, rfl⟩ := r
    exact call_range_1 (range_it I1 (by omega) (by omega) q1 q2 (by simpa using q))
def tFor (wi : TI) (g : TG) (tb : TS) : TS := fun D σ H => wi σ H fun J H1 => ∃ W : Nat → Nat → St → Hp → Prop, (∃ m, W 0 m σ H1) ∧ ∀ i m σ H, W i m σ H →
  (J.stop i H ∧ D.nx σ H) ∨ (J.go i H ∧ ∃ N : St → Hp → Prop, (∀ σ' H', N σ' H' → ∃ m', m' < m ∧ W (i + 1) m' σ' H') ∧ ∀ x H', J.yld i H x H' → g x σ H' fun σ2 H2 => tb { D with nx := N, ct := N, bk := D.nx } σ2 H2)
def pinsAt (fp : List Addr) (h : Heap) : List (Addr × Obj) := fp.filterMap fun b => (h.get? b).map fun o => (b, o)
theorem mem_pinsAt {fp : List Addr} {h : Heap} {b : Addr} {o : Obj} (hb : b ∈ fp) (e : h.get? b = some o) : (b, o) ∈ pinsAt fp h := List.mem_filterMap.mpr ⟨b, hb, by rw [e]; rfl⟩
theorem of_pinsAt {fp : List Addr} {h : Heap} {p : Addr × Obj} (hp : p ∈ pinsAt fp h) : p.1 ∈ fp ∧ h.get? p.1 = some p.2 := by
  obtain ⟨b, hb, e⟩ := List.mem_filterMap.mp hp
  cases q : h.get? b with
  | none => rw [q] at e; cases e
  | some o =>
    rw [q] at e
    have e' : (b, o) = p := Option.some.inj e
    subst e'
    exact ⟨hb, q⟩
theorem Inv.pinned {pins : List (Addr × Obj)} {σ : St} {H : Hp} {s : Shared} {fp : List Addr} (I : Inv X pins σ H s) (hf : ∀ b ∈ fp, FpOk X pins H b) (ho : ∀ b ∈ fp, ∃ o, s.heap.get? b = some o ∧ ∀ v, o.data ≠ .cell v) : Inv X (pins ++ pinsAt fp s.heap) σ H s :=
  I.pins_of fun p hp => (List.mem_append.mp hp).elim (fun z => I.pin p (List.mem_append_right _ z)) fun z => by
    obtain ⟨hb, e⟩ := of_pinsAt z
    obtain ⟨f0, f1, f2, _⟩ := hf p.1 hb
    obtain ⟨o, e', d⟩ := ho p.1 hb
    rw [e] at e'; cases e'
    exact ⟨e, f0, f1, f2, d⟩
theorem Inv.unpinned {pins pl : List (Addr × Obj)} {σ : St} {H : Hp} {s : Shared} (I : Inv X (pins ++ pl) σ H s) : Inv X pins σ H s := I.pins_of fun p hp => I.pin p (List.mem_append_right _ (List.mem_append_left _ hp))
theorem ps_for {iter : Expr} {body : List Stmt} {wi : TI} {g : TG} {tb : TS} {pos : Pos} (hp : PassesOwn (model X.prog X.w) X.A X.env X.xe) (hc : X.calm = true) (hi : PI X tg iter wi) (hg : PG X tg g) (hb : PSs X body tb)
    (hs : ∀ x, foldedSetIterable iter X.env x = pure x := by intro _; rfl) : PS X (.For tg iter body [] pos) (tFor wi g tb) := by
  intro pins s σ H D I h
  refine wpAny_For (thn (hi pins s σ H _ I h) fun v s1 h1 => thn h1 fun itv s2 h2 => ?_) hs
  obtain ⟨it, fp, tn, J, H2, e, I2, T, st2, f2, W, ⟨m0, w0⟩, turn⟩ := h2
  subst e
  have stat : ∀ {H' : Hp}, (∀ b ∈ fp, H' b = none) → ∀ b ∈ fp, FpOk X pins H' b := fun hn b hb => ⟨hn b hb, (f2 b hb).2⟩
  refine codeAny_forLoop_any (fun n s' => ∃ i σ' H', Inv X pins σ' H' s' ∧ tn i s'.heap ∧ (∀ b ∈ fp, H' b = none) ∧ W i n σ' H') ?_ m0 ⟨0, σ, H2, I2, st2, fun b hb => (f2 b hb).1, w0⟩
  rintro n s3 ⟨i, σ3, H3, I3, st3, fr3, w3⟩
  rcases turn i n σ3 H3 w3 with ⟨stop, qn⟩ | ⟨go, N, hN, step⟩
  · refine wpAny_passesOwn hp (thn (T.done X rfl rfl rfl hc i pins s3 σ3 H3 X.xe I3 (stat fr3) st3 stop) fun r s4 ⟨hr, I4⟩ => ?_)
    subst hr
    exact wpAny_execs_nil ⟨σ3, H3, I4, qn⟩
  · refine wpAny_passesOwn hp (thn (T.item X rfl rfl rfl hc i pins s3 σ3 H3 X.xe I3 (stat fr3) st3 go) fun r s4 ⟨u, hr, h4⟩ => ?_)
    subst hr
    refine wpAny_passesOwn hp (thn h4 fun _ s5 ⟨x, H5, I5, r5, y5, st5, fr5⟩ => ?_)
    have I5' := I5.pinned (stat fr5) (T.obj _ _ st5)
    refine wpAny_passesOwn hp (thn (hg _ s5 σ3 H5 x u _ I5' r5 (step x H5 y5)) fun _ s6 ⟨σ6, H6, I6, q6⟩ => ?_)
    refine wpAny_passesOwn hp (thn (hb _ s6 σ6 H6 _ I6 q6) fun f s7 q7 => ?_)
    have again : ∀ {σ7 : St} {H7 : Hp}, Inv X (pins ++ pinsAt fp s5.heap) σ7 H7 s7 → N σ7 H7 → ∃ m, m < n ∧ ∃ i σ' H', Inv X pins σ' H' s7 ∧ tn i s7.heap ∧ (∀ b ∈ fp, H' b = none) ∧ W i m σ' H' := fun {σ7 H7} I7 n7 => by
      obtain ⟨m', hm, w7⟩ := hN σ7 H7 n7
      refine ⟨m', hm, i + 1, σ7, H7, I7.unpinned, T.keep _ _ _ st5 fun b hb o e => (I7.pin (b, o) (List.mem_append_right _ (List.mem_append_right _ (mem_pinsAt hb e)))).1, fun b hb => ?_, w7⟩
      obtain ⟨o, e, d⟩ := T.obj _ _ st5 b hb
      exact (I7.pin (b, o) (List.mem_append_right _ (List.mem_append_right _ (mem_pinsAt hb e)))).2.1
    cases f with
    | next => obtain ⟨σ7, H7, I7, n7⟩ := q7; exact again I7 n7
    | cont => obtain ⟨σ7, H7, I7, n7⟩ := q7; exact again I7 n7
    | brk => obtain ⟨σ7, H7, I7, q7⟩ := q7; exact ⟨σ7, H7, I7.unpinned, q7⟩
    | ret v => obtain ⟨x7, σ7, H7, I7, r7, q7⟩ := q7; exact ⟨x7, σ7, H7, I7.unpinned, r7, q7⟩
end
theorem for_list {K : PySem.W.Frag} {a : Addr} {xs : List V} {g : TG} {tb : TS} {D : Ends} {σ : St} {H : Hp} (Pv : Nat → St → Hp → Prop) (h0 : Pv 0 σ H) (hl : ∀ i σ H, i ≤ xs.length → Pv i σ H → SqL K H a xs)
    (hs : ∀ i x σ H, xs[i]? = some x → Pv i σ H → g x σ H fun σ2 H2 => tb { D with nx := Pv (i + 1), ct := Pv (i + 1), bk := D.nx } σ2 H2) (hd : ∀ σ H, Pv xs.length σ H → D.nx σ H) :
    ∃ W : Nat → Nat → St → Hp → Prop, (∃ m, W 0 m σ H) ∧ ∀ i m σ H, W i m σ H →
      ((Itl K a).stop i H ∧ D.nx σ H) ∨ ((Itl K a).go i H ∧ ∃ N : St → Hp → Prop, (∀ σ' H', N σ' H' → ∃ m', m' < m ∧ W (i + 1) m' σ' H') ∧ ∀ x H', (Itl K a).yld i H x H' → g x σ H' fun σ2 H2 => tb { D with nx := N, ct := N, bk := D.nx } σ2 H2) := by
  refine ⟨fun i m σ H => m = xs.length - i ∧ i ≤ xs.length ∧ Pv i σ H, ⟨xs.length, by simp, Nat.zero_le _, h0⟩, ?_⟩
  rintro i m σ H ⟨rfl, hi, p⟩
  have q := hl i σ H hi p
  by_cases hlt : i < xs.length
  · refine .inr ⟨⟨xs, xs[i], q, by simp [hlt]⟩, Pv (i + 1), fun σ' H' p' => ⟨xs.length - (i + 1), by omega, rfl, hlt, p'⟩, fun x H' y => ?_⟩
    obtain ⟨e, y⟩ := y
    subst e
    exact hs i x σ _ (y xs q) p
  · have e : i = xs.length := by omega
    subst e
    exact .inl ⟨⟨xs, q, Nat.le_refl _⟩, hd σ H p⟩
theorem for_range {lo : Int} {n : Nat} {g : TG} {tb : TS} {D : Ends} {σ : St} {H : Hp} (Pv : Nat → St → Hp → Prop) (h0 : Pv 0 σ H)
    (hs : ∀ i σ H, i < n → Pv i σ H → g (.int (lo + i)) σ H fun σ2 H2 => tb { D with nx := Pv (i + 1), ct := Pv (i + 1), bk := D.nx } σ2 H2) (hd : ∀ σ H, Pv n σ H → D.nx σ H) :
    ∃ W : Nat → Nat → St → Hp → Prop, (∃ m, W 0 m σ H) ∧ ∀ i m σ H, W i m σ H →
      ((Itr lo n).stop i H ∧ D.nx σ H) ∨ ((Itr lo n).go i H ∧ ∃ N : St → Hp → Prop, (∀ σ' H', N σ' H' → ∃ m', m' < m ∧ W (i + 1) m' σ' H') ∧ ∀ x H', (Itr lo n).yld i H x H' → g x σ H' fun σ2 H2 => tb { D with nx := N, ct := N, bk := D.nx } σ2 H2) := by
  refine ⟨fun i m σ H => m = n - i ∧ i ≤ n ∧ Pv i σ H, ⟨n, by simp, Nat.zero_le _, h0⟩, ?_⟩
  rintro i m σ H ⟨rfl, hi, p⟩
  by_cases hlt : i < n
  · refine .inr ⟨hlt, Pv (i + 1), fun σ' H' p' => ⟨n - (i + 1), by omega, rfl, hlt, p'⟩, fun x H' y => ?_⟩
    obtain ⟨e, y⟩ := y
    subst e y
    exact hs i σ _ hlt p
  · have e : i = n := by omega
    subst e
    exact .inl ⟨Nat.le_refl _, hd σ H p⟩
end L2
namespace L2
open PySem PySem.Spec PyProof.Rows
abbrev R2 := V → V → Hp → VK → Prop
def OpR (X : Cx) (f : Value → Value → Sem Value) (r : R2) : Prop :=
  ∀ (pins : List (Addr × Obj)) (s : Shared) (σ : St) (H : Hp) (x y : V) (v u : Value) (Q : VK), Inv X pins σ H s → RelV x v → RelV y u → r x y H Q →
    wpAny (model X.prog X.w) X.A (f v u) (EP X pins σ Q) X.xe s
def UnR (X : Cx) (f : Value → Sem Value) (r : V → Hp → VK → Prop) : Prop :=
  ∀ (pins : List (Addr × Obj)) (s : Shared) (σ : St) (H : Hp) (x : V) (v : Value) (Q : VK), Inv X pins σ H s → RelV x v → r x H Q →
    wpAny (model X.prog X.w) X.A (f v) (EP X pins σ Q) X.xe s
def CallR (X : Cx) (f : Value) (r : List V → Hp → VK → Prop) : Prop :=
  ∀ (pins : List (Addr × Obj)) (s : Shared) (σ : St) (H : Hp) (xs : List V) (us : List Value) (Q : VK), Inv X pins σ H s → Vals xs us → r xs H Q →
    wpAny (model X.prog X.w) X.A (call f us) (EP X pins σ Q) X.xe s
def TruR (X : Cx) (r : V → Hp → (Bool → Hp → Prop) → Prop) : Prop :=
  ∀ (pins : List (Addr × Obj)) (s : Shared) (σ : St) (H : Hp) (x : V) (v : Value) (Q : Bool → Hp → Prop), Inv X pins σ H s → RelV x v → r x H Q →
    wpAny (model X.prog X.w) X.A (truthy v) (TP X pins σ Q) X.xe s
def tOp (r : R2) (ta tb : TE) : TE := fun σ H Q => ta σ H fun x H1 => tb σ H1 fun y H2 => r x y H2 Q
def tUn (r : V → Hp → VK → Prop) (ta : TE) : TE := fun σ H Q => ta σ H fun x H1 => r x H1 Q
def rI (C : Int → Int → Prop) (g : Int → Int → V) : R2 := fun x y H Q => ∃ i j, x = .int i ∧ y = .int j ∧ C i j ∧ Q (g i j) H
def rI0 (g : Int → Int → V) : R2 := fun x y H Q => ∃ i j, x = .int i ∧ y = .int j ∧ Q (g i j) H
def rU (g : Int → V) : V → Hp → VK → Prop := fun x H Q => ∃ i, x = .int i ∧ Q (g i) H
section
variable {X : Cx} {a b c : Expr} {ta tb tc : TE} {pos : Pos}
theorem binT (ha : PE X a ta) (hb : PE X b tb) {pins : List (Addr × Obj)} {s : Shared} {σ : St} {H : Hp} {R : V → V → Hp → Prop} (I : Inv X pins σ H s)
    (h : ta σ H fun x H1 => tb σ H1 fun y H2 => R x y H2) {Q : Value → Shared → Prop} {f : Value → Value → Sem Value}
    (hf : ∀ v u s2 x y H2, Inv X pins σ H2 s2 → RelV x v → RelV y u → R x y H2 → wpAny (model X.prog X.w) X.A (f v u) Q X.xe s2) :
    wpAny (model X.prog X.w) X.A (eval a X.env) (fun v s₁ => wpAny (model X.prog X.w) X.A (eval b X.env) (fun u s₂ => wpAny (model X.prog X.w) X.A (f v u) Q X.xe s₂) X.xe s₁) X.xe s := by
  refine thn (ha pins s σ H _ I h) fun v s1 ⟨x, H1, I1, r1, q1⟩ => ?_
  refine thn (hb pins s1 σ H1 _ I1 q1) fun u s2 ⟨y, H2, I2, r2, q2⟩ => ?_
  exact hf v u s2 x y H2 I2 r1 r2 q2
theorem pe_op {op : Operator} {r : R2} (ho : OpR X (binaryOp op) r) (ha : PE X a ta) (hb : PE X b tb) : PE X (.BinOp a op b pos) (tOp r ta tb) := by
  intro pins s σ H Q I h
  exact wpAny_BinOp (binT ha hb I h fun v u s2 x y H2 I2 rx ry q => ho pins s2 σ H2 x y v u Q I2 rx ry q)
theorem pe_un {op : UnaryOp} {r : V → Hp → VK → Prop} (ho : UnR X (unaryOp op) r) (ha : PE X a ta) : PE X (.UnaryOp op a pos) (tUn r ta) := by
  intro pins s σ H Q I h
  exact UnaryOp_ (thn (ha pins s σ H _ I h) fun v s1 ⟨x, H1, I1, r1, q1⟩ => ho pins s1 σ H1 x v Q I1 r1 q1)
theorem opI {f : Value → Value → Sem Value} {C : Int → Int → Prop} {g : Int → Int → Int}
    (rule : ∀ (i j : Int) (t u : Tok) (s : Shared) (Q : Value → Shared → Prop) (E : Value → Shared → Prop), C i j → Q (.int (g i j) s.toks) { s with toks := s.toks + 1 } → wpAny (model X.prog X.w) X.A (f (.int i t) (.int j u)) Q E s) :
    OpR X f (rI C fun i j => .int (g i j)) := by
  intro pins s σ H x y v u Q I rx ry h
  obtain ⟨i, j, rfl, rfl, hc, q⟩ := h
  obtain ⟨t, rfl⟩ := rx
  obtain ⟨t', rfl⟩ := ry
  exact rule i j t t' s _ _ hc ⟨.int (g i j), H, I.tok _, ⟨_, rfl⟩, q⟩
theorem opI0 {f : Value → Value → Sem Value} {g : Int → Int → Int}
    (rule : ∀ (i j : Int) (t u : Tok) (s : Shared) (Q : Value → Shared → Prop) (E : Value → Shared → Prop), Q (.int (g i j) s.toks) { s with toks := s.toks + 1 } → wpAny (model X.prog X.w) X.A (f (.int i t) (.int j u)) Q E s) :
    OpR X f (rI0 fun i j => .int (g i j)) := by
  intro pins s σ H x y v u Q I rx ry h
  obtain ⟨i, j, rfl, rfl, q⟩ := h
  obtain ⟨t, rfl⟩ := rx
  obtain ⟨t', rfl⟩ := ry
  exact rule i j t t' s _ _ ⟨.int (g i j), H, I.tok _, ⟨_, rfl⟩, q⟩
theorem opB0 {f : Value → Value → Sem Value} {g : Int → Int → Bool}
    (rule : ∀ (i j : Int) (t u : Tok) (s : Shared) (Q : Value → Shared → Prop) (E : Value → Shared → Prop), Q (.bool (g i j)) s → wpAny (model X.prog X.w) X.A (f (.int i t) (.int j u)) Q E s) :
    OpR X f (rI0 fun i j => .bl (g i j)) := by
  intro pins s σ H x y v u Q I rx ry h
  obtain ⟨i, j, rfl, rfl, q⟩ := h
  obtain ⟨t, rfl⟩ := rx
  obtain ⟨t', rfl⟩ := ry
  exact rule i j t t' s _ _ ⟨.bl (g i j), H, I, rfl, q⟩
def CPow (i j : Int) : Prop := 0 ≤ j ∧ j ≤ 1000000 ∧ i.natAbs < 2 ^ 64
def CMul (i j : Int) : Prop := (-(2 ^ 64) < i ∧ i < 2 ^ 64) ∨ (-(2 ^ 64) < j ∧ j < 2 ^ 64)
theorem CMul.ok {i j : Int} (h : CMul i j) : IntMulOk i j := by
  rcases h with ⟨h1, h2⟩ | ⟨h1, h2⟩
  · exact .of_left (intBits_le_64 h1 h2)
  · exact .of_right (intBits_le_64 h1 h2)
theorem op_add : OpR X (binaryOp .Add) (rI0 fun i j => .int (i + j)) := opI0 fun _ _ _ _ _ _ _ q => add_int q
theorem op_sub : OpR X (binaryOp .Sub) (rI0 fun i j => .int (i - j)) := opI0 fun _ _ _ _ _ _ _ q => sub_int q
theorem op_mul : OpR X (binaryOp .Mult) (rI CMul fun i j => .int (i * j)) := opI fun _ _ _ _ _ _ _ hc q => mul_int q hc.ok
theorem op_mod : OpR X (binaryOp .Mod) (rI (fun _ j => 0 < j) fun i j => .int (i % j)) := opI fun i j _ _ _ _ _ hc q => by
  have h1 : (0 : Int) < j := hc
  exact mod_int' (by omega) (by rw [Int.fmod_eq_emod_of_nonneg i (by omega)]; exact q)
theorem op_pow : OpR X (binaryOp .Pow) (rI CPow fun i j => .int (i ^ j.toNat)) := opI fun _ _ _ _ _ _ _ hc q => pow_int_small hc.1 hc.2.1 hc.2.2 q
theorem unI {f : Value → Sem Value} {g : Int → Int}
    (rule : ∀ (i : Int) (t : Tok) (s : Shared) (Q : Value → Shared → Prop) (E : Value → Shared → Prop), Q (.int (g i) s.toks) { s with toks := s.toks + 1 } → wpAny (model X.prog X.w) X.A (f (.int i t)) Q E s) :
    UnR X f (rU fun i => .int (g i)) := by
  intro pins s σ H x v Q I rx h
  obtain ⟨i, rfl, q⟩ := h
  obtain ⟨t, rfl⟩ := rx
  exact rule i t s _ _ ⟨.int (g i), H, I.tok _, ⟨_, rfl⟩, q⟩
theorem un_neg : UnR X (unaryOp .USub) (rU fun i => .int (-i)) := unI fun _ _ _ _ _ q => neg_int q
end
def scal : V → V → Bool
  | .non, .non => true | .non, .int _ => true | .int _, .non => true | .non, .bl _ => true | .bl _, .non => true | .non, .str _ => true | .str _, .non => true
  | .int _, .int _ => true | .bl _, .bl _ => true | .str _, .str _ => true
  | .int _, .str _ => true | .str _, .int _ => true | .bl _, .str _ => true | .str _, .bl _ => true
  | _, _ => false
def rEq : R2 := fun x y H Q => scal x y = true ∧ Q (.bl (decide (x = y))) H
def rNe : R2 := fun x y H Q => scal x y = true ∧ Q (.bl (!decide (x = y))) H
theorem dec_int {i j : Int} : decide (V.int i = V.int j) = (i == j) := by
  rw [Bool.eq_iff_iff]
  simp
theorem dec_bl {i j : Bool} : decide (V.bl i = V.bl j) = (i == j) := by
  rw [Bool.eq_iff_iff]
  simp
theorem dec_str {i j : Str} : decide (V.str i = V.str j) = (i == j) := by
  rw [Bool.eq_iff_iff]
  simp
section
variable {X : Cx} {a b c : Expr} {ta tb tc : TE} {pos : Pos}
theorem fin_bl {pins : List (Addr × Obj)} {σ : St} {H : Hp} {s : Shared} {Q : VK} {k k' : Bool} (I : Inv X pins σ H s) (q : Q (.bl k) H) (e : k = k') : EP X pins σ Q (.bool k') s := by
  subst e
  exact ⟨.bl k, H, I, rfl, q⟩
theorem op_eq : OpR X (compareOp .Eq) rEq := by
  intro pins s σ H x y v u Q I rx ry h
  obtain ⟨hs, q⟩ := h
  cases x with
  | non =>
    cases rx
    cases y with
    | non => cases ry; exact PySem.EqNone.eq_none_none (fin_bl I q (by simp))
    | bl j => cases ry; exact PySem.EqNone.eq_none_bool (fin_bl I q (by simp))
    | int j => obtain ⟨t', rfl⟩ := ry; exact PySem.EqNone.eq_none_int (fin_bl I q (by simp))
    | str j => obtain ⟨t', rfl⟩ := ry; exact PySem.EqNone.eq_none_str (fin_bl I q (by simp))
    | _ => exact absurd (show false = true from hs) Bool.false_ne_true
  | bl i =>
    cases rx
    cases y with
    | non => cases ry; exact PySem.EqNone.eq_bool_none (fin_bl I q (by simp))
    | bl j => cases ry; exact eq_bool (fin_bl I q dec_bl)
    | str j => obtain ⟨t', rfl⟩ := ry; exact PySem.EqMixed.eq_bool_str (fin_bl I q (by simp))
    | _ => exact absurd (show false = true from hs) Bool.false_ne_true
  | int i =>
    obtain ⟨t, rfl⟩ := rx
    cases y with
    | non => cases ry; exact PySem.EqNone.eq_int_none (fin_bl I q (by simp))
    | int j => obtain ⟨t', rfl⟩ := ry; exact eq_int (fin_bl I q dec_int)
    | str j => obtain ⟨t', rfl⟩ := ry; exact PySem.EqMixed.eq_int_str (fin_bl I q (by simp))
    | _ => exact absurd (show false = true from hs) Bool.false_ne_true
  | str i =>
    obtain ⟨t, rfl⟩ := rx
    cases y with
    | non => cases ry; exact PySem.EqNone.eq_str_none (fin_bl I q (by simp))
    | bl j => cases ry; exact PySem.EqMixed.eq_str_bool (fin_bl I q (by simp))
    | int j => obtain ⟨t', rfl⟩ := ry; exact PySem.EqMixed.eq_str_int (fin_bl I q (by simp))
    | str j => obtain ⟨t', rfl⟩ := ry; exact eq_str (fin_bl I q dec_str)
    | _ => exact absurd (show false = true from hs) Bool.false_ne_true
  | _ => cases y <;> exact absurd (show false = true from hs) Bool.false_ne_true
theorem op_ne : OpR X (compareOp .NotEq) rNe := by
  intro pins s σ H x y v u Q I rx ry h
  obtain ⟨hs, q⟩ := h
  cases x with
  | non =>
    cases rx
    cases y with
    | non => cases ry; exact PySem.EqNone.ne_none_none (fin_bl I q (by simp))
    | bl j => cases ry; exact PySem.EqNone.ne_none_bool (fin_bl I q (by simp))
    | int j => obtain ⟨t', rfl⟩ := ry; exact PySem.EqNone.ne_none_int (fin_bl I q (by simp))
    | str j => obtain ⟨t', rfl⟩ := ry; exact PySem.EqNone.ne_none_str (fin_bl I q (by simp))
    | _ => exact absurd (show false = true from hs) Bool.false_ne_true
  | bl i =>
    cases rx
    cases y with
    | non => cases ry; exact PySem.EqNone.ne_bool_none (fin_bl I q (by simp))
    | bl j => cases ry; exact ne_bool (fin_bl I q (congrArg not dec_bl))
    | str j => obtain ⟨t', rfl⟩ := ry; exact PySem.EqMixed.ne_bool_str (fin_bl I q (by simp))
    | _ => exact absurd (show false = true from hs) Bool.false_ne_true
  | int i =>
    obtain ⟨t, rfl⟩ := rx
    cases y with
    | non => cases ry; exact PySem.EqNone.ne_int_none (fin_bl I q (by simp))
    | int j => obtain ⟨t', rfl⟩ := ry; exact ne_int (fin_bl I q (congrArg not dec_int))
    | str j => obtain ⟨t', rfl⟩ := ry; exact PySem.EqMixed.ne_int_str (fin_bl I q (by simp))
    | _ => exact absurd (show false = true from hs) Bool.false_ne_true
  | str i =>
    obtain ⟨t, rfl⟩ := rx
    cases y with
    | non => cases ry; exact PySem.EqNone.ne_str_none (fin_bl I q (by simp))
    | bl j => cases ry; exact PySem.EqMixed.ne_str_bool (fin_bl I q (by simp))
    | int j => obtain ⟨t', rfl⟩ := ry; exact PySem.EqMixed.ne_str_int (fin_bl I q (by simp))
    | str j => obtain ⟨t', rfl⟩ := ry; exact ne_str (fin_bl I q (congrArg not dec_str))
    | _ => exact absurd (show false = true from hs) Bool.false_ne_true
  | _ => cases y <;> exact absurd (show false = true from hs) Bool.false_ne_true
theorem op_lt : OpR X (compareOp .Lt) (rI0 fun i j => .bl (decide (i < j))) := opB0 fun _ _ _ _ _ _ _ q => lt_int q
theorem op_gt : OpR X (compareOp .Gt) (rI0 fun i j => .bl (decide (j < i))) := opB0 fun _ _ _ _ _ _ _ q => gt_int q
theorem op_in_str : OpR X (compareOp .In) (fun x y H Q => ∃ i j, x = .str i ∧ y = .str j ∧ Q (.bl (!(Builtin.Str.occurrences j i 0 j.length 1).isEmpty)) H) := by
  intro pins s σ H x y v u Q I rx ry h
  obtain ⟨i, j, rfl, rfl, q⟩ := h
  obtain ⟨t, rfl⟩ := rx
  obtain ⟨t', rfl⟩ := ry
  exact in_str (fin_bl I q rfl)
theorem op_isN : OpR X (compareOp .Is) (fun x y H Q => y = .non ∧ Q (.bl (decide (x = .non))) H) := by
  intro pins s σ H x y v u Q I rx ry h
  obtain ⟨rfl, q⟩ := h
  cases ry
  refine is_none_gen (fin_bl I q ?_)
  cases x <;> first
    | (cases rx; rfl)
    | (obtain ⟨t, rfl⟩ := rx; rfl)
theorem OpR.or {f : Value → Value → Sem Value} {r r' : R2} (h : OpR X f r) (h' : OpR X f r') : OpR X f (fun x y H Q => r x y H Q ∨ r' x y H Q) := by
  intro pins s σ H x y v u Q I rx ry q
  rcases q with q | q
  · exact h pins s σ H x y v u Q I rx ry q
  · exact h' pins s σ H x y v u Q I rx ry q
theorem nomark (b : Expr) {op : CmpOp} (h : op ≠ .In := by decide) (h2 : op ≠ .NotIn := by decide) : behindInMarks op b = false := by
  have e1 : (op == CmpOp.In) = false := by cases op <;> first | rfl | exact absurd rfl h
  have e2 : (op == CmpOp.NotIn) = false := by cases op <;> first | rfl | exact absurd rfl h2
  cases b <;> simp [behindInMarks, e1, e2]
theorem pe_cmpR {op : CmpOp} {r : R2} (ho : OpR X (compareOp op) r) (ha : PE X a ta) (hb : PE X b tb) (hm : behindInMarks op b = false) : PE X (.Compare a [op] [b] pos) (tOp r ta tb) := by
  intro pins s σ H Q I h
  exact wpAny_Compare1 (binT ha hb I h fun v u s2 x y H2 I2 rx ry q => ho pins s2 σ H2 x y v u Q I2 rx ry q) hm
def tTest (t : TE) : TT := fun σ H Q => t σ H fun x H' => ∃ k, x = .bl k ∧ Q k H'
theorem pt_cmpR {op : CmpOp} {r : R2} (ho : OpR X (compareOp op) r) (ha : PE X a ta) (hb : PE X b tb) (hm : behindInMarks op b = false) : PT X (.Compare a [op] [b] pos) (tTest (tOp r ta tb)) := by
  intro pins s σ H Q I h
  refine wpAny_isTrue_Compare1 (thn (ha pins s σ H _ I h) fun v s1 ⟨x, H1, I1, r1, q1⟩ => thn (hb pins s1 σ H1 _ I1 q1) fun u s2 ⟨y, H2, I2, r2, q2⟩ =>
    thn (ho pins s2 σ H2 x y v u _ I2 r1 r2 q2) fun c s3 ⟨z, H3, I3, r3, k, e, q3⟩ => ?_) hm
  subst e
  cases r3
  exact wpAny_truthy_bool ⟨H3, I3, q3⟩
def TruV (K : PySem.W.Frag) (x : V) (H : Hp) (k : Bool) : Prop :=
  match x with
  | .non => k = false
  | .bl b => k = b
  | .int i => k = (i != 0)
  | .str y => y.length ≤ sizeLine ∧ k = ((y.length : Int) != 0)
  | .ref p => (∃ xs, SqL K H p xs ∧ k = !xs.isEmpty) ∨ (∃ xs, SqT K H p xs ∧ k = !xs.isEmpty) ∨ ∃ kvs, H p = some (.dK kvs) ∧ k = !kvs.isEmpty
  | _ => False
theorem isEmpty_kv {κ : Type} {kvs : List (κ × V)} {vs : List (κ × Value)} (r : KV kvs vs) : (!vs.isEmpty) = !kvs.isEmpty := by
  cases r <;> rfl
theorem isEmpty_of {xs : List V} {its : List Value} (r : Vals xs its) : (!its.toArray.isEmpty) = !xs.isEmpty := by
  cases r <;> simp
theorem line63 : (sizeLine : Nat) < 2 ^ 63 := by rw [sizeLine_eq]; decide
theorem tru_ok : TruR X (fun x H Q => ∃ k, TruV X.K x H k ∧ Q k H) := by
  intro pins s σ H x v Q I rx h
  obtain ⟨k, e, q⟩ := h
  have hl := line63
  have hs : sizeLine = 16777216 := sizeLine_eq
  cases x with
  | non =>
    cases rx
    have e' : k = false := e
    subst e'
    exact truthy_none ⟨H, I, q⟩
  | bl b =>
    cases rx
    have e' : k = b := e
    subst e'
    exact wpAny_truthy_bool ⟨H, I, q⟩
  | int i =>
    obtain ⟨t, rfl⟩ := rx
    have e' : k = (i != 0) := e
    subst e'
    exact PySem.P.truthy_int ⟨H, I, q⟩
  | str y =>
    obtain ⟨t, rfl⟩ := rx
    obtain ⟨hy, e'⟩ : y.length ≤ sizeLine ∧ k = ((y.length : Int) != 0) := e
    subst e'
    exact PySem.P.truthy_str (by omega) ⟨H, I.tok _, q⟩
  | ref p =>
    cases rx
    have e' : (∃ xs, SqL X.K H p xs ∧ k = !xs.isEmpty) ∨ (∃ xs, SqT X.K H p xs ∧ k = !xs.isEmpty) ∨ ∃ kvs, H p = some (.dK kvs) ∧ k = !kvs.isEmpty := e
    rcases e' with ⟨xs, hx, e'⟩ | ⟨xs, hx, e'⟩ | ⟨kvs, hx, e'⟩
    · subst e'
      obtain ⟨its, r, pl, hz⟩ := I.list hx
      have hlen := r.length
      exact wpAny_truthy_list pl.isList (by simp only [List.size_toArray]; omega) ⟨H, I.tok _, by rw [isEmpty_of r]; exact q⟩
    · subst e'
      obtain ⟨its, r, pl, hz⟩ := I.tuple hx
      have hlen := r.length
      exact truthy_tuple pl (by simp only [List.size_toArray]; omega) ⟨H, I.tok _, by rw [isEmpty_of r]; exact q⟩
    · subst e'
      obtain ⟨hz, hS, vs, r, m⟩ : kvs.length ≤ sizeLine ∧ (p == sysModules) = false ∧ ∃ vs, KV kvs vs ∧ s.heap.DictOf (mixKind X.prog X.w) p vs := I.hok p _ hx
      have hlen : kvs.length = vs.length := Paired.length r
      exact wpAny_truthy_dict hS m (by omega) ⟨H, I.tok _, by rw [isEmpty_kv r]; exact q⟩
  | _ => exact (show False from e).elim
theorem pt_truth (ha : PE X a ta) (he : ∀ whole, isTrue a X.env whole = (do let v ← whole; standAt a.pos; holding [v] (truthy v))) :
    PT X a (fun σ H Q => ta σ H fun x H' => ∃ k, TruV X.K x H' k ∧ Q k H') := by
  intro pins s σ H Q I h
  exact isTrue_plain (thn (ha pins s σ H _ I h) fun v s1 ⟨x, H1, I1, r1, q1⟩ => tru_ok pins s1 σ H1 x v Q I1 r1 q1) (he _)
theorem op_add_str : OpR X (binaryOp .Add) (fun x y H Q => ∃ i j, x = .str i ∧ y = .str j ∧ i.length + j.length ≤ sizeLine ∧ Q (.str (i ++ j)) H) := by
  intro pins s σ H x y v u Q I rx ry h
  obtain ⟨i, j, rfl, rfl, hz, q⟩ := h
  obtain ⟨t, rfl⟩ := rx
  obtain ⟨t', rfl⟩ := ry
  exact add_str (fun t' tk => ⟨.str (i ++ j), H, I.tok _, ⟨_, rfl⟩, q⟩) hz
def PlainIxT (b : Expr) : Prop := ∀ o i, subscripted b false o i = operate [o, i] (getItem o i)
theorem vals1 {x : V} {us : List Value} (r : Vals [x] us) : ∃ u, us = [u] ∧ RelV x u := by
  cases r with
  | cons r1 r2 => cases r2; exact ⟨_, rfl, r1⟩
theorem vals2 {x y : V} {us : List Value} (r : Vals [x, y] us) : ∃ u w', us = [u, w'] ∧ RelV x u ∧ RelV y w' := by
  cases r with
  | cons r1 r2 =>
    cases r2 with
    | cons r3 r4 => cases r4; exact ⟨_, _, rfl, r1, r3⟩
theorem call_abs : CallR X (.builtin "abs") (fun xs H Q => ∃ i, xs = [.int i] ∧ Q (.int (if i < 0 then -i else i)) H) := by
  intro pins s σ H xs us Q I r h
  obtain ⟨i, rfl, q⟩ := h
  obtain ⟨u, rfl, t, rfl⟩ := vals1 r
  exact call_abs_int fun u tk => ⟨.int (if i < 0 then -i else i), H, I.tok _, ⟨_, rfl⟩, q⟩
theorem call_max2 (hc : X.calm = true) : CallR X (.builtin "max") (fun xs H Q => ∃ i j, xs = [.int i, .int j] ∧ Q (.int (if j > i then j else i)) H) := by
  intro pins s σ H xs us Q I r h
  obtain ⟨i, j, rfl, q⟩ := h
  obtain ⟨u, w', rfl, ⟨t, rfl⟩, ⟨t', rfl⟩⟩ := vals2 r
  refine max_two_ints (I.ok.hd hc) fun h' tk k => ⟨_, H, I.kept k, ?_, q⟩
  by_cases hj : j > i
  · rw [if_pos hj, if_pos hj]; exact ⟨_, rfl⟩
  · rw [if_neg hj, if_neg hj]; exact ⟨_, rfl⟩
theorem call_int1 : CallR X (.type "int") (fun xs H Q => (∃ i, xs = [.int i] ∧ Q (.int i) H) ∨ ∃ k, xs = [.bl k] ∧ Q (.int (if k then 1 else 0)) H) := by
  intro pins s σ H xs us Q I r h
  rcases h with ⟨i, rfl, q⟩ | ⟨k, rfl, q⟩
  · obtain ⟨u, rfl, t, rfl⟩ := vals1 r
    exact call_int_int ⟨.int i, H, I, ⟨_, rfl⟩, q⟩
  · obtain ⟨u, rfl, r1⟩ := vals1 r
    cases r1
    exact call_int_bool ⟨.int (if k then 1 else 0), H, I.tok _, ⟨_, rfl⟩, q⟩
def LenV (K : PySem.W.Frag) (x : V) (H : Hp) (n : Nat) : Prop :=
  match x with
  | .str y => y.length ≤ sizeLine ∧ n = y.length
  | .ref p => (∃ xs, SqL K H p xs ∧ n = xs.length) ∨ ∃ xs, SqT K H p xs ∧ n = xs.length
  | _ => False
theorem call_len : CallR X (.builtin "len") (fun xs H Q => ∃ x n, xs = [x] ∧ LenV X.K x H n ∧ Q (.int n) H) := by
  intro pins s σ H xs us Q I r h
  obtain ⟨x, n, rfl, e, q⟩ := h
  obtain ⟨u, rfl, rx⟩ := vals1 r
  have hl := line63
  have hs : sizeLine = 16777216 := sizeLine_eq
  cases x with
  | str y =>
    obtain ⟨t, rfl⟩ := rx
    obtain ⟨hy, e'⟩ : y.length ≤ sizeLine ∧ n = y.length := e
    subst e'
    exact len_str (by omega) ⟨.int _, H, I.tok _, ⟨_, rfl⟩, q⟩
  | ref p =>
    cases rx
    have e' : (∃ xs, SqL X.K H p xs ∧ n = xs.length) ∨ ∃ xs, SqT X.K H p xs ∧ n = xs.length := e
    rcases e' with ⟨xs, hx, e'⟩ | ⟨xs, hx, e'⟩
    · subst e'
      obtain ⟨its, r', pl, hz⟩ := I.list hx
      have hlen := r'.length
      exact Calls.call_len_list pl.isList (by simp only [List.size_toArray]; omega) ⟨.int xs.length, H, I.tok _, ⟨_, by simp only [List.size_toArray]; rw [hlen]⟩, q⟩
    · subst e'
      obtain ⟨its, r', pl, hz⟩ := I.tuple hx
      have hlen := r'.length
      exact len_tuple pl (by simp only [List.size_toArray]; omega) ⟨.int xs.length, H, I.tok _, ⟨_, by simp only [List.size_toArray]; rw [hlen]⟩, q⟩
  | _ => exact (show False from e).elim
end
end L2
namespace L2
open PySem PySem.Spec PyProof.Rows
structure ObjM (h : Heap) (x dx C : Addr) (mA : Str → Option Value) : Prop where
  obj : h.get? x = some (PySem.W.instObj C dx)
  ns : h.Ns1 dx mA
  ne : dx ≠ x
theorem lookIn_ns {h : Heap} {dx : Addr} {mA : Str → Option Value} (n : h.Ns1 dx mA) : ∃ od, h.get? dx = some od ∧ ∀ name, PySem.W.lookIn name od = some (mA name) := by
  obtain ⟨o, es, ep, ho, hd, hk, _, hm⟩ := n
  refine ⟨o, ho, fun name => ?_⟩
  have e := hm name
  unfold nsFind findBy at e
  rw [← Array.find?_toList] at e
  unfold PySem.W.lookIn
  rw [hd]
  dsimp only
  split
  · rename_i y q
    rw [q] at e
    exact congrArg some e
  · rename_i q
    rw [q] at e
    have a : es.toList.any (·.refKey) = false := by
      rw [List.any_eq_false]
      intro y hy
      obtain ⟨z, t, hkey⟩ := hk y (Array.mem_toList_iff.mp hy)
      simp [DictEntry.refKey, hkey]
    have a' : ¬ es.toList.any (·.refKey) = true := by rw [a]; exact Bool.false_ne_true
    rw [if_neg a']
    exact congrArg some e
theorem ObjM.look {h : Heap} {x dx C : Addr} {mA : Str → Option Value} (I : ObjM h x dx C mA) : ∃ od, PySem.W.InstAt h x (PySem.W.instObj C dx) C (some od) ∧ ∀ name, PySem.W.lookIn name od = some (mA name) :=
  let ⟨od, ho, hl⟩ := lookIn_ns I.ns
  ⟨od, ⟨I.obj, rfl, rfl, ho⟩, hl⟩
theorem RelO.some_of {v : V} {o : Option Value} (r : RelO (some v) o) : ∃ u, o = some u ∧ RelV v u := by
  cases o with
  | none => exact (show False from r).elim
  | some u => exact ⟨u, rfl, r⟩
theorem handed_of {v : V} {u : Value} (r : RelV v u) : PySem.W.handedIn u = true := by
  cases v with
  | non => cases (show u = Value.none from r); rfl
  | bl b => cases (show u = Value.bool b from r); rfl
  | int i => obtain ⟨t, e⟩ := (show ∃ t, u = Value.int i t from r); cases e; rfl
  | str x => obtain ⟨t, e⟩ := (show ∃ t, u = Value.str x t from r); cases e; rfl
  | byt b => obtain ⟨t, e⟩ := (show ∃ t, u = Value.str b (t + 1) from r); cases e; rfl
  | flt b => obtain ⟨t, e⟩ := (show ∃ t, u = Value.float b t from r); cases e; rfl
  | ref a => cases (show u = Value.ref a from r); rfl
  | ty n => cases (show u = Value.type n from r); rfl
section
variable {P : Program} {w : World} {H H' : Hp} {h h' : Heap} {a C dx : Addr} {fs fs' : List (Str × V)}
theorem ins_get (hok : HOk P w H h) (e : H a = some (.ins C dx fs)) : ∃ mA, ObjM h a dx C mA ∧ (∀ f, RelO (fs.lookup f) (mA f)) ∧ PySem.Within mA (fs.map (·.1)) ∧ fs.length ≤ 1000 ∧ H dx = some (.own a) := by
  obtain ⟨d, z, ne, ob, mA, n, r, q⟩ := (show ObjOk P w H h a (.ins C dx fs) from hok a _ e)
  exact ⟨mA, ⟨ob, n, ne⟩, r, q, z, d⟩
end
structure Cls (K : PySem.W.Frag) (C : Addr) : Prop where
  pg : PySem.W.plainGet K C Str.empty = true
  hd : PySem.W.hasDictIn K C = true
  po : PySem.W.plainOver K C = true
  sa : PySem.W.findIn K (.ref C) "__setattr__" = some (some (.builtin "object.__setattr__"))
theorem Cls.get {K : PySem.W.Frag} {C : Addr} (c : Cls K C) (f : Str) : PySem.W.plainGet K C f = true := c.pg
def NoAttr (K : PySem.W.Frag) (C : Addr) (f : Str) : Prop := PySem.W.findIn K (.ref C) f = some none
section
variable {X : Cx} {pins : List (Addr × Obj)} {σ : St} {H : Hp} {s : Shared} {a C dx : Addr} {fs : List (Str × V)} {f : Str} {v : V} {A : Around} {E : Value → Shared → Prop}
theorem attr_of {prog : Program} {w : World} {env : Env} {e : Expr} {f : Str} {pos : Pos} {s : Shared} {Q : Value → Shared → Prop} (hb : attributeBase e f env (eval e env) = eval e env)
    (h : wpAny (model prog w) A (eval e env) (fun o s₁ => wpAny (model prog w) A (getAttr o f true) Q E s₁) E s) : wpAny (model prog w) A (eval (.Attribute e f pos) env) Q E s :=
  Attribute_any_ h (by rw [arm_eval_Attribute, hb])
end
section
variable {X : Cx} {pins : List (Addr × Obj)} {σ : St} {H : Hp} {s : Shared} {A : Around} {E : Value → Shared → Prop} {Q : Value → Shared → Prop} {c : Value} {b : Bool}
inductive TyOf (K : PySem.W.Frag) (H : Hp) : V → Value → Prop where
  | non : TyOf K H .non (.type "NoneType")
  | bl (x : Bool) : TyOf K H (.bl x) (.type "bool")
  | int (i : Int) : TyOf K H (.int i) (.type "int")
  | str (x : Str) : TyOf K H (.str x) (.type "str")
  | flt (x : UInt64) : TyOf K H (.flt x) (.type "float")
  | lst {a : Addr} {xs : List V} (e : H a = some (.lst xs)) : TyOf K H (.ref a) (.type "list")
  | frz {a : Addr} {o : Obj} {xs : List V} (e : H a = some (.frz o (.lst xs))) : TyOf K H (.ref a) (.type "list")
  | tup {a : Addr} {xs : List V} (e : H a = some (.tup xs)) : TyOf K H (.ref a) (.type "tuple")
  | dK {a : Addr} {kvs : List (Key × V)} (e : H a = some (.dK kvs)) : TyOf K H (.ref a) (.type "dict")
  | dT {a : Addr} {kvs : List (List Key × V)} (e : H a = some (.dT kvs)) : TyOf K H (.ref a) (.type "dict")
  | ins {a C dx : Addr} {fs : List (Str × V)} (e : H a = some (.ins C dx fs)) (cl : Cls K C) (ha : PySem.W.findIn K (.ref C) "__class__" = some (some (.builtin "object.__class__")))
      (hn : PySem.W.specialIn K (.builtin "object.__class__") "__get__" = some (some (.builtin "getset_descriptor.__get__"))) (htk : PySem.W.takesIn K (.builtin "object.__class__") = some true)
      (hm : PySem.W.mroIn K C (.type "object") = some true) : TyOf K H (.ref a) (.ref C)
theorem isinst_ok {x : V} {u t : Value} (I : Inv X pins σ H s) (rx : RelV x u) (ty : TyOf X.K H x t) (e : PySem.W.kitOne X.K t c = some b) (h : ∀ tk, Q (.bool b) { s with toks := tk }) :
    wpAny (model X.prog X.w) A (call (.builtin "isinstance") [u, c]) Q E s := by
  cases ty with
  | non => cases (show u = Value.none from rx); exact PySem.W.kia_one PySem.W.kitx_none I.kIn True.intro e (fun z => nomatch z) h
  | bl y => cases (show u = Value.bool y from rx); exact PySem.W.kia_one PySem.W.kitx_bool I.kIn True.intro e (fun z => nomatch z) h
  | int i => obtain ⟨t, q⟩ := (show ∃ t, u = Value.int i t from rx); cases q; exact PySem.W.kia_one PySem.W.kitx_int I.kIn True.intro e (fun z => nomatch z) h
  | str y => obtain ⟨t, q⟩ := (show ∃ t, u = Value.str y t from rx); cases q; exact PySem.W.kia_one PySem.W.kitx_str I.kIn True.intro e (fun z => nomatch z) h
  | flt y => obtain ⟨t, q⟩ := (show ∃ t, u = Value.float y t from rx); cases q; exact PySem.W.kia_one PySem.W.kitx_float I.kIn True.intro e (fun z => nomatch z) h
  | @lst a xs ea =>
    cases (show u = Value.ref a from rx)
    obtain ⟨_, _, n, _, h1⟩ := (show ObjOk X.prog X.w H s.heap a (.lst xs) from I.hok a _ ea)
    exact PySem.W.kia_one PySem.W.kitx_list I.kIn ⟨_, h1, rfl⟩ e (fun z => nomatch z) h
  | @frz a ob xs ea =>
    cases (show u = Value.ref a from rx)
    obtain ⟨_, _, _, n, _, h1⟩ := (show ObjOk X.prog X.w H s.heap a (.frz ob (.lst xs)) from I.hok a _ ea)
    exact PySem.W.kia_one PySem.W.kitx_list I.kIn ⟨_, h1, rfl⟩ e (fun z => nomatch z) h
  | @tup a xs ea =>
    cases (show u = Value.ref a from rx)
    obtain ⟨_, _, _, p⟩ := (show ObjOk X.prog X.w H s.heap a (.tup xs) from I.hok a _ ea)
    obtain ⟨o, h1, h2, _⟩ := p
    exact PySem.W.kia_one PySem.W.kitx_tuple I.kIn ⟨o, h1, h2⟩ e (fun z => nomatch z) h
  | @dK a kvs ea =>
    cases (show u = Value.ref a from rx)
    obtain ⟨_, _, vs, _, p⟩ := (show ObjOk X.prog X.w H s.heap a (.dK kvs) from I.hok a _ ea)
    obtain ⟨o, es, ep, h1, h2, _⟩ := p
    exact PySem.W.kia_one PySem.W.kitx_dict I.kIn ⟨o, h1, h2.1⟩ e (fun z => nomatch z) h
  | @dT a kvs ea =>
    cases (show u = Value.ref a from rx)
    obtain ⟨_, _, xs, _, o, es, ep, h1, h2, _⟩ := (show ObjOk X.prog X.w H s.heap a (.dT kvs) from I.hok a _ ea)
    exact PySem.W.kia_one PySem.W.kitx_dict I.kIn ⟨o, h1, h2.1⟩ e (fun z => nomatch z) h
  | @ins a C dx fs ea cl ha hn htk hm =>
    cases (show u = Value.ref a from rx)
    obtain ⟨mA, O, _⟩ := ins_get I.hok ea
    obtain ⟨od, J, _⟩ := O.look
    exact PySem.W.kia_one (PySem.W.kitx_own (cl.get _) cl.hd ha hn htk hm) I.kIn J e (fun z => nomatch z) h
end
end L2
namespace L2
open PySem PySem.Spec PyProof.Rows
structure Room (k : Nat) (A : Around) : Prop where
  hd : A.handled = none
  dp : A.depth + 3 * k + 5 < recursionLimit
  un : A.units + 16 * k + 200 < cLine
theorem Room.mono {j k : Nat} {A : Around} (r : Room k A) (h : j ≤ k) : Room j A := ⟨r.hd, by have := r.dp; omega, by have := r.un; omega⟩
theorem Room.deeper {k : Nat} {A : Around} (r : Room (k + 1) A) (env : Env) : Room k (A.deeper env) :=
  ⟨r.hd, by have := r.dp; show A.depth + 1 + 3 * k + 5 < _; omega, by have := r.un; show A.units + 3 + 16 * k + 200 < _; omega⟩
theorem make_depth {A : Around} {C : Addr} {us : List Value} {kw : List (Str × Value)} : (A.under (.builtin "type.__call__" ⟨.ref C :: us, kw⟩)).depth = A.depth + 1 := by
  first | rfl | simp [Around.under, Code.weight, Code.isCreation, Code.isGuard, Code.isCaller, Code.frames, Code.isFrame, guardIds]
theorem make_units {A : Around} {C : Addr} {us : List Value} {kw : List (Str × Value)} : (A.under (.builtin "type.__call__" ⟨.ref C :: us, kw⟩)).units = A.units + 1 := by
  first | rfl | simp [Around.under, Code.cUnits, Code.frames, Code.isFrame]
theorem Room.make {k : Nat} {A : Around} (r : Room (k + 1) A) (C : Addr) (us : List Value) (kw : List (Str × Value)) : Room k (A.under (.builtin "type.__call__" ⟨.ref C :: us, kw⟩)) :=
  ⟨r.hd, by have := r.dp; rw [make_depth]; omega, by have := r.un; rw [make_units]; omega⟩
theorem Room.depth {k : Nat} {A : Around} (r : Room k A) : A.depth < recursionLimit := by have := r.dp; omega
theorem Room.units {k : Nat} {A : Around} (r : Room k A) : A.units + 64 < cLine := by have := r.un; omega
def tNil : TA := fun _ H Q => Q [] H
def tCons (ta : TE) (tr : TA) : TA := fun σ H Q => ta σ H fun x H1 => tr σ H1 fun xs H2 => Q (x :: xs) H2
section
variable {X : Cx} {e : Expr} {es : List Expr} {te : TE} {t : TA} {pos : Pos}
theorem pa_nil : PA X [] tNil := fun _ _ _ _ H Q I h => Calls.spliced_nil ⟨[], H, I, .nil, h⟩
theorem pa_cons (ha : PE X e te) (hr : PA X es t) (hs : starEach (e :: es) X.env = (false, eval e X.env) :: starEach es X.env := by rfl) : PA X (e :: es) (tCons te t) := by
  intro pos pins s σ H Q I h
  rw [hs]
  show wpAny _ _ (spliced ((false, eval e X.env) :: backTo pos (starEach es X.env))) _ _ s
  refine Calls.spliced_cons (thn (ha pins s σ H _ I h) fun u s1 ⟨x, H1, I1, r1, q1⟩ => ?_)
  exact thn (hr pos pins s1 σ H1 _ I1 q1) fun us s2 ⟨xs, H2, I2, r2, q2⟩ => ⟨x :: xs, H2, I2, .cons r1 r2, q2⟩
def tTup (t : TA) : TE := fun σ H Q => t σ H fun xs H1 => xs.length ≤ sizeLine ∧ ∀ p, H1 p = none → Q (.ref p) (upd H1 p (.tup xs))
def tLst (t : TA) : TE := fun σ H Q => t σ H fun xs H1 => xs.length ≤ sizeLine ∧ ∀ p, H1 p = none → Q (.ref p) (upd H1 p (.lst xs))
theorem pe_tup {x1} (h : PA X es t) : PE X (.Tuple es x1 pos) (tTup t) := by
  intro pins s σ H Q I hq
  refine wpAny_Tuple_spliced (thn (h pos pins s σ H _ I hq) fun us s1 ⟨xs, H1, I1, r, z, q⟩ => ⟨by rw [← r.length]; exact z, ?_⟩)
  have hf : H1 s1.heap.objs.size = none := I1.hok.fresh (Nat.le_refl _)
  refine ⟨.ref s1.heap.objs.size, upd H1 s1.heap.objs.size (.tup xs), I1.laid (t' := s1.toks) (fun b u e => Heap.get?_push_of_some _ e) (Nat.le_refl _) ?_, rfl, q _ hf⟩
  exact ⟨z, us, r, ⟨_, Heap.get?_push_size _ rfl, rfl, _, rfl⟩⟩
theorem pe_lst (h : PA X es t) : PE X (.List es pos) (tLst t) := by
  intro pins s σ H Q I hq
  refine wpAny_List_spliced (thn (h pos pins s σ H _ I hq) fun us s1 ⟨xs, H1, I1, r, z, q⟩ => ⟨by rw [← r.length]; exact z, ?_⟩)
  have hf : H1 s1.heap.objs.size = none := I1.hok.fresh (Nat.le_refl _)
  refine ⟨.ref s1.heap.objs.size, upd H1 s1.heap.objs.size (.lst xs), I1.laid (t' := s1.toks) (fun b u e => Heap.get?_push_of_some _ e) (Nat.le_refl _) ?_, rfl, q _ hf⟩
  exact ⟨z, us, 0, r, Heap.get?_push_size _ rfl⟩
end
abbrev Sp := List V → Hp → VK → XK → Prop
abbrev CXT := List Env → Hp → Shared → XK → Value → Shared → Prop
structure Env0 (P : Program) (w : World) (K : PySem.W.Frag) (mg : Str → Option Value) (base : Heap) (A : Around) (outer : List Env) (s : Shared) (H : Hp) : Prop where
  frames : A.frames = some outer
  mod : Mod K mg base
  bs : ∀ b o, base.get? b = some o → s.heap.get? b = some o ∧ H b = none
  bsz : base.objs.size ≤ s.heap.objs.size
  funs : s.heap.FunFrames base outer
  frf : ∀ b ∈ frs outer, H b = none
  hok : HOk P w H s.heap
  bare : AllBare s.gens
def CE (outer : List Env) (P : Program) (w : World) (H : Hp) (s : Shared) (Q : VK) (u : Value) (s' : Shared) : Prop :=
  ∃ v H', s'.os = s.os ∧ AllBare s'.gens ∧ Un (frs outer) [] H H' s.heap s'.heap ∧ HOk P w H' s'.heap ∧ RelV v u ∧ Q v H'
def CR (CX : CXT) (outer : List Env) (P : Program) (w : World) (H : Hp) (s : Shared) (Q : VK) (E : XK) (r : Result) (s' : Shared) : Prop :=
  match r with
  | .ok (.ret u) => CE outer P w H s Q u s'
  | .ok _ => False
  | .error e => CX outer H s E e s'
structure FnOk (P : Program) (w : World) (K : PySem.W.Frag) (mg : Str → Option Value) (base : Heap) (CX : CXT) (k : Nat) (f : Addr) (fd : FuncData) (ps : List Str) (sp : Sp) : Prop where
  len : ∀ vs H Q E, sp vs H Q E → vs.length = ps.length
  run : ∀ (A : Around) (outer : List Env) (s : Shared) (H : Hp) (args : Args) (us : List Value) (vs : List V) (Q : VK) (E : XK), Room k A → Env0 P w K mg base A outer s H → BindsTo s fd args (ps.zip us) → Vals vs us → sp vs H Q E →
    codeAny (model P w) A (.call (.ref f) args) (CR CX outer P w H s Q E) s
theorem Env0.make {P : Program} {w : World} {K : PySem.W.Frag} {mg : Str → Option Value} {base : Heap} {A : Around} {outer : List Env} {s : Shared} {H : Hp} (e : Env0 P w K mg base A outer s H) (C : Addr) (us : List Value) (kw : List (Str × Value)) :
    Env0 P w K mg base (A.under (.builtin "type.__call__" ⟨.ref C :: us, kw⟩)) outer s H := ⟨by first | exact e.frames | (simpa [Around.under, Code.envs, Code.isFrame, pushEnvs] using e.frames), e.mod, e.bs, e.bsz, e.funs, e.frf, e.hok, e.bare⟩
section
variable {X : Cx} {pins : List (Addr × Obj)} {σ : St} {H : Hp} {s s' : Shared}
theorem Inv.env0 (I : Inv X pins σ H s) : Env0 X.prog X.w X.K X.mg X.base X.A X.stack s H :=
  ⟨I.ok.frames, I.ok.mod, I.bs, Nat.le_trans I.ok.bsz I.sz, I.stack, I.stkFree, I.hok, I.bare⟩
theorem Inv.after {Q : VK} {u : Value} (I : Inv X pins σ H s) (h : CE X.stack X.prog X.w H s Q u s') : EP X pins σ Q u s' := by
  obtain ⟨v, H', os, bare, un, hok, r, q⟩ := h
  obtain ⟨hh, g, d, t, os'⟩ := s'
  obtain rfl : os' = s.os := os
  exact ⟨v, H', I.call (h' := hh) (g' := g) (d' := d) (t' := t) (ch := []) un hok bare (fun b z => absurd z (by simp)), r, q⟩
end
def tCall (sp : Sp) (dvs : List V) (E : XK) (t : TA) : TE := fun σ H Q => t σ H fun vs H1 => sp (vs ++ dvs) H1 Q E
def Binds (K : PySem.W.Frag) (fd : FuncData) (ps : List Str) (ds : List Value) : Prop :=
  ∀ (s : Shared) (us : List Value), K.In s.heap → (us ++ ds).length = ps.length → BindsTo s fd ⟨us, []⟩ (ps.zip (us ++ ds))
theorem Binds.all {K : PySem.W.Frag} {fd : FuncData} {ps : List Str} (h : ∀ us : List Value, us.length = ps.length → bindArgs fd ⟨us, []⟩ = pure (ps.zip us)) : Binds K fd ps [] := fun s us _ hl => by
  rw [List.append_nil] at hl ⊢
  exact .of_eq (h us hl)
def Passes (CX : CXT) (X : Cx) (E : XK) : Prop := ∀ (pins : List (Addr × Obj)) (σ : St) (H : Hp) (s : Shared) (e : Value) (s' : Shared), Inv X pins σ H s → CX X.stack H s E e s' → X.xe e s'
section
variable {X : Cx} {CX : CXT} {k : Nat} {f C : Addr} {fd : FuncData} {ps : List Str} {sp : Sp} {dvs : List V} {ds : List Value} {E : XK} {x m : Str} {p pos apos : Pos} {e o : Expr} {es : List Expr} {ta : TE} {t : TA}
theorem run_fn {pins : List (Addr × Obj)} {σ : St} {H : Hp} {s : Shared} {Q : VK} {us : List Value} {vs : List V} (F : FnOk X.prog X.w X.K X.mg X.base CX k f fd ps sp) (hr : Room k X.A) (hb : Binds X.K fd ps ds) (hd : Vals dvs ds) (hx : Passes CX X E)
    (I : Inv X pins σ H s) (r : Vals vs us) (h : sp (vs ++ dvs) H Q E) : wpAny (model X.prog X.w) X.A (call (.ref f) us) (EP X pins σ Q) X.xe s := by
  have r2 : Vals (vs ++ dvs) (us ++ ds) := r.append hd
  have hl : (us ++ ds).length = ps.length := by rw [← r2.length]; exact F.len _ _ _ _ h
  refine wpAny_call (codeAny_mono (F.run X.A X.stack s H ⟨us, []⟩ (us ++ ds) (vs ++ dvs) Q E hr I.env0 (hb s us I.kIn hl) r2 h) fun r s' hq => ?_)
  cases r with
  | error e => exact hx pins σ H s e s' I hq
  | ok fl =>
    cases fl with
    | ret u => exact I.after hq
    | next => exact False.elim hq
    | brk => exact False.elim hq
    | cont => exact False.elim hq
theorem pe_call (F : FnOk X.prog X.w X.K X.mg X.base CX k f fd ps sp) (hr : Room k X.A) (hg : Gl X x) (hm : X.mg x = some (.ref f)) (hk : PySem.W.keepIn X.K (.ref f) = true) (hb : Binds X.K fd ps ds) (hd : Vals dvs ds) (hx : Passes CX X E)
    (ha : PA X (e :: es) t) (hdb : (x == ("__debug__" : Str)) = false := by decide) (he : starEach (e :: es) X.env = (false, eval e X.env) :: starEach es X.env := by rfl) (hpl : (backTo pos (starEach es X.env)).any (·.1) = false := by rfl) :
    PE X (.Call (.Name x p) (e :: es) [] pos) (tCall sp dvs E t) := by
  intro pins s σ H Q I h
  refine wpAny_Call_Name_kw (ld_glob I hg hm ?_ hdb)
  refine PySem.W.callWith_K (h₀ := X.base) I.ok.mod.kin hk (thn (ha pos pins s σ H _ I h) fun us s1 ⟨vs, H1, I1, r, q⟩ => ⟨I1.kIn, ?_⟩) he hpl
  exact run_fn F hr hb hd hx I1 r q
end
structure FnScope (N P : List Str) (sc : Scope) : Prop where
  kind : sc.kind = .function
  co : sc.isCoroutine = false
  gen : sc.isGenerator = false
  nd : N.Nodup
  pre : N.take P.length = P
  par : ∀ x ∈ P, sc.names.lookup x = some .local ∨ sc.names.lookup x = some .cell
  nofree : ∀ y ∈ sc.names, y.2 ≠ .free
theorem bindL_out {kindOf : Str → Option NameKind} {x : Str} : ∀ {binds : List (Str × Value)} {m : Str → Option Value}, (∀ v, (x, v) ∉ binds) → bindL kindOf binds m x = m x
  | [], _, _ => rfl
  | (n, v) :: r, m, h => by
    unfold bindL
    rw [bindL_out fun w hw => h w (List.mem_cons_of_mem _ hw)]
    split
    · have : x ≠ n := by rintro rfl; exact h v List.mem_cons_self
      simp [this]
    · rfl
theorem bindC_out {kindOf : Str → Option NameKind} {x : Str} : ∀ {binds : List (Str × Value)} {m : Str → Option Value}, (∀ v, (x, v) ∉ binds) → bindC kindOf binds m x = m x
  | [], _, _ => rfl
  | (n, v) :: r, m, h => by
    unfold bindC
    rw [bindC_out fun w hw => h w (List.mem_cons_of_mem _ hw)]
    split
    · rfl
    · have : x ≠ n := by rintro rfl; exact h v List.mem_cons_self
      simp [this]
theorem bindL_get {kindOf : Str → Option NameKind} {x : Str} {v : Value} : ∀ {P : List Str} {vs : List Value} {i : Nat} {m : Str → Option Value}, P.Nodup → P[i]? = some x → vs[i]? = some v → kindOf x = some .local →
    bindL kindOf (P.zip vs) m x = some v
  | [], _, _, _, _, h, _, _ => by simp at h
  | _ :: _, [], _, _, _, _, h, _ => by simp at h
  | p :: P, w :: vs, 0, m, nd, h1, h2, hk => by
    simp at h1 h2; subst h1; subst h2
    show bindL kindOf ((p, w) :: P.zip vs) m p = _
    unfold bindL
    rw [bindL_out fun v hv => (List.nodup_cons.mp nd).1 (List.of_mem_zip hv).1, if_pos hk]
    simp
  | p :: P, w :: vs, i + 1, m, nd, h1, h2, hk => by
    show bindL kindOf ((p, w) :: P.zip vs) m x = _
    unfold bindL
    exact bindL_get (i := i) (List.nodup_cons.mp nd).2 (by simpa using h1) (by simpa using h2) hk
theorem bindC_get {kindOf : Str → Option NameKind} {x : Str} {v : Value} : ∀ {P : List Str} {vs : List Value} {i : Nat} {m : Str → Option Value}, P.Nodup → P[i]? = some x → vs[i]? = some v → kindOf x ≠ some .local →
    bindC kindOf (P.zip vs) m x = some v
  | [], _, _, _, _, h, _, _ => by simp at h
  | _ :: _, [], _, _, _, _, h, _ => by simp at h
  | p :: P, w :: vs, 0, m, nd, h1, h2, hk => by
    simp at h1 h2; subst h1; subst h2
    show bindC kindOf ((p, w) :: P.zip vs) m p = _
    unfold bindC
    rw [bindC_out fun v hv => (List.nodup_cons.mp nd).1 (List.of_mem_zip hv).1, if_neg hk]
    simp
  | p :: P, w :: vs, i + 1, m, nd, h1, h2, hk => by
    show bindC kindOf ((p, w) :: P.zip vs) m x = _
    unfold bindC
    exact bindC_get (i := i) (List.nodup_cons.mp nd).2 (by simpa using h1) (by simpa using h2) hk
def start (N : List Str) (vs : List V) : St := vs.map some ++ List.replicate (N.length - vs.length) none
def cxOf (CX : CXT) (P : Program) (w : World) (K : PySem.W.Frag) (mg : Str → Option Value) (base : Heap) (N : List Str) (qual : Str) (scope : Scope) (f : Addr) (cd : Value) (A : Around) (outer : List Env) (s : Shared) (H : Hp) (E : XK) : Cx where
  prog := P
  w := w
  K := K
  mg := mg
  base := base
  A := A.deeper (envOfC qual scope s.heap.objs.size f cd)
  N := N
  sZ := s
  HZ := H
  env := envOfC qual scope s.heap.objs.size f cd
  outer := outer
  stack := envOfC qual scope s.heap.objs.size f cd :: outer
  ex := []
  calm := true
  fn := fun _ => true
  pn := []
  xe := fun e s' => wpAny (model P w) (A.deeper (envOfC qual scope s.heap.objs.size f cd)) (leaving (envOfC qual scope s.heap.objs.size f cd) e) (fun _ s'' => CX outer H s E e s'') (fun e' s'' => CX outer H s E e' s'') s'
theorem cell_has {sc : Scope} {n : Nat} {x : Str} (h : sc.names.lookup x = some .cell) : ∃ c, (cellsFrom n sc.names []).lookup x = some c := by
  have q := PySem.W.cellsFrom_some sc.names n [] (.inl h)
  exact Option.isSome_iff_exists.mp q
theorem inv_start {CX : CXT} {P : Program} {w : World} {K : PySem.W.Frag} {mg : Str → Option Value} {base : Heap} {N ps : List Str} {qual : Str} {scope : Scope} {f : Addr} {cd : Value} {A : Around} {outer : List Env} {s s1 : Shared} {H : Hp} {E : XK} {us : List Value} {vs : List V}
    (S : FnScope N ps scope) (hd : A.handled = none) (e0 : Env0 P w K mg base A outer s H) (hl : vs.length = ps.length) (r : Vals vs us)
    (x : InCallC s s.heap.objs.size (bindL (envOfC qual scope s.heap.objs.size f cd).kindOf (ps.zip us) fun _ => none) (cellsFrom (s.heap.objs.size + 1) scope.names []) (bindC (envOfC qual scope s.heap.objs.size f cd).kindOf (ps.zip us) fun _ => none) s1) :
    Inv (cxOf CX P w K mg base N qual scope f cd A outer s H E) [] (start N vs) H s1 := by
  have hpl : ps.length ≤ N.length := by have := congrArg List.length S.pre; rw [List.length_take] at this; omega
  obtain ⟨h1, tk, rfl, hk⟩ := x.done
  have noA : ∀ b : Addr, b ∉ (cxOf CX P w K mg base N qual scope f cd A outer s H E).ex := fun b z => absurd (show b ∈ ([] : List Addr) from z) (by simp)
  refine ⟨⟨e0.mod, S.kind, rfl, rfl, Nat.le_refl _, fun y z c h1 h2 => ?_, fun y hy => ?_, fun y c _ h => ?_, fun _ => hd, Around.frames_deeper e0.frames, .inr ⟨rfl, rfl⟩, fun b z => absurd z (noA b), e0.bs, e0.bsz, fun b _ _ => noA b, fun b z => absurd z (noA b), e0.funs, e0.frf⟩,
    rfl, e0.bare, Un.kept hk, ⟨_, x.toInCall.ns, fun i y v h1 h2 h3 => ?_⟩, fun y c h => ⟨_, x.cell y c h⟩, e0.hok.fresh (Nat.le_refl _), fun y c h => ?_, fun p hp => absurd (show p ∈ ([] : List (Addr × Obj)) from hp) (by simp), e0.hok.kept hk, ?_⟩
  · exact name_of_addr x.apart (PySem.mem_of_lookup h1) (PySem.mem_of_lookup h2)
  · have hy : scope.names.lookup y = some .cell ∨ scope.names.lookup y = some .free := hy
    rcases hy with hy | hy
    · exact cell_has hy
    · exact absurd rfl (S.nofree _ (PySem.mem_of_lookup hy))
  · exact Nat.le_of_lt (x.above y c (PySem.mem_of_lookup h))
  · have hi : i < vs.length := by
      unfold start at h2
      by_cases hi : i < vs.length
      · exact hi
      · rw [List.getElem?_append_right (by simpa using hi)] at h2
        rw [List.getElem?_replicate] at h2
        split at h2 <;> cases h2
    have ha : vs[i]? = some v := by
      unfold start at h2
      rw [List.getElem?_append_left (by simpa using hi), List.getElem?_map] at h2
      cases e : vs[i]? with
      | none => rw [e] at h2; cases h2
      | some a => rw [e] at h2; cases h2; rfl
    obtain ⟨u, hu, rv⟩ := r.get ha
    have hp : ps[i]? = some y := by
      rw [← S.pre, List.getElem?_take_of_lt (by omega)]; exact h1
    have ndP : ps.Nodup := by rw [← S.pre]; exact S.nd.sublist (List.take_sublist _ _)
    refine ⟨u, rv, ?_⟩
    rcases S.par y (List.mem_of_getElem? hp) with k | k
    · exact .inl ⟨k, bindL_get ndP hp hu k⟩
    · obtain ⟨c, e⟩ := cell_has (n := s.heap.objs.size + 1) k
      refine .inr ⟨.inl k, c, e, ?_⟩
      have q := x.cell y c e
      rw [bindC_get ndP hp hu (by show scope.names.lookup y ≠ _; rw [k]; decide)] at q
      exact q
  · exact e0.hok.fresh (Nat.le_of_lt (x.above y c (PySem.mem_of_lookup h)))
  · unfold start
    show _ = N.length
    rw [List.length_append, List.length_map, List.length_replicate]
    omega
theorem fn_of {CX : CXT} {P : Program} {w : World} {K : PySem.W.Frag} {mg : Str → Option Value} {base : Heap} {k : Nat} {f : Addr} {name qual : Str} {params : Arguments} {body : List Stmt} {scope : Scope} {dV kV doc pm cdv ct oc : Value} {an od : Option Addr}
    {osl : Array (Option Value)} {N ps : List Str} {sp : Sp} (lk : K.lookup f = some ⟨oc, od, .func (PySem.W.fnOf name qual params body scope dV kV doc pm an cdv ct), osl⟩) (hcd : PySem.W.codeIn K cdv qual = true) (S : FnScope N ps scope)
    (len : ∀ vs H Q E, sp vs H Q E → vs.length = ps.length)
    (hbody : ∀ (A : Around) (outer : List Env) (s : Shared) (H : Hp) (vs : List V) (Q : VK) (E : XK), Room k (A.deeper (envOfC qual scope s.heap.objs.size f cdv)) → sp vs H Q E →
      ∃ t, PSs (cxOf CX P w K mg base N qual scope f cdv A outer s H E) body t ∧ t { nx := fun _ H' => Q .non H', rt := Q } (start N vs) H) :
    FnOk P w K mg base CX (k + 1) f (PySem.W.fnOf name qual params body scope dV kV doc pm an cdv ct) ps sp := by
  refine ⟨len, fun A outer s H args us vs Q E hr e0 hb r hsp => ?_⟩
  have hl := len _ _ _ _ hsp
  have KX : K.In s.heap := e0.mod.kin.keeps fun b o e => (e0.bs b o e).1
  have lim : s.heap.NoLimit := e0.mod.nolimit.keeps fun b o e => (e0.bs b o e).1
  have hkind : ∀ y ∈ ps.zip us, scope.names.lookup y.1 = some .local ∨ (scope.names.lookup y.1 = some .cell ∧ ((cellsFrom (s.heap.objs.size + 1) scope.names []).lookup y.1).isSome = true) := fun ⟨n, v⟩ hy => by
    rcases S.par n (List.of_mem_zip hy).1 with q | q
    · exact .inl q
    · exact .inr ⟨q, PySem.W.cellsFrom_some _ _ _ (.inl q)⟩
  refine codeAny_call_function hr.depth (KX _ _ lk) rfl S.co S.gen rfl (PySem.W.codeRec_of KX hcd) (hb _ _ _ _ ?_)
  refine wpAny_newFunctionEnv_cells S.kind hkind fun env he s1 x => ?_
  subst he
  refine ⟨lim.keeps x.toInCall.keep, codeAny_func ?_⟩
  obtain ⟨t, ht, hq⟩ := hbody A outer s H vs Q E (hr.deeper _) hsp
  have I : Inv (cxOf CX P w K mg base N qual scope f cdv A outer s H E) [] (start N vs) H s1 := inv_start S hr.hd e0 hl r x
  refine wpAny_mono (ht [] s1 (start N vs) H _ I hq) (fun fl s' hs => ?_) fun e s' hs => hs
  have fin : ∀ {σ' : St} {H' : Hp} {v : V} {u : Value}, Inv (cxOf CX P w K mg base N qual scope f cdv A outer s H E) [] σ' H' s' → RelV v u → Q v H' → CE outer P w H s Q u s' :=
    fun {σ' H' v u} J rv q => ⟨v, H', J.os, J.bare, J.base, J.hok, rv, q⟩
  cases fl with
  | ret u =>
    obtain ⟨v, σ', H', J, rv, q⟩ := hs
    exact fin J rv q
  | next =>
    obtain ⟨σ', H', J, q⟩ := hs
    exact fin (v := V.non) (u := Value.none) J rfl q
  | brk =>
    obtain ⟨_, _, _, q⟩ := hs
    exact False.elim q
  | cont =>
    obtain ⟨_, _, _, q⟩ := hs
    exact False.elim q
end L2
namespace L2
open PySem PySem.Spec PyProof.Rows
section
variable {X : Cx} {x : Str} {p pos : Pos} {e : Expr} {es : List Expr} {t : TA} {id T : String} {r : List V → Hp → VK → Prop}
def tCB (r : List V → Hp → VK → Prop) (t : TA) : TE := fun σ H Q => t σ H fun vs H1 => r vs H1 Q
theorem pe_callB (hc : CallR X (.builtin id) r) (hg : Gl X x) (hm : X.mg x = none) (hv : bootBuiltins x = some (.builtin id)) (ha : PA X (e :: es) t) (hn : x ≠ "__name__" := by decide) (hdb : (x == ("__debug__" : Str)) = false := by decide)
    (he : starEach (e :: es) X.env = (false, eval e X.env) :: starEach es X.env := by rfl) (hpl : (backTo pos (starEach es X.env)).any (·.1) = false := by rfl) : PE X (.Call (.Name x p) (e :: es) [] pos) (tCB r t) := by
  intro pins s σ H Q I h
  refine wpAny_Call_Name_kw (ld_blt I hg hm hv ?_ hn hdb)
  exact PyProof.Rows.callWith_builtin1 (thn (ha pos pins s σ H _ I h) fun us s1 ⟨vs, H1, I1, r1, q1⟩ => hc pins s1 σ H1 vs us Q I1 r1 q1) he hpl
theorem pe_callTy (hc : CallR X (.type T) r) (hg : Gl X x) (hm : X.mg x = none) (hv : bootBuiltins x = some (.type T)) (ha : PA X (e :: es) t) (hn : x ≠ "__name__" := by decide) (hdb : (x == ("__debug__" : Str)) = false := by decide)
    (he : starEach (e :: es) X.env = (false, eval e X.env) :: starEach es X.env := by rfl) (hpl : (backTo pos (starEach es X.env)).any (·.1) = false := by rfl) : PE X (.Call (.Name x p) (e :: es) [] pos) (tCB r t) := by
  intro pins s σ H Q I h
  refine wpAny_Call_Name_kw (ld_blt I hg hm hv ?_ hn hdb)
  exact PyProof.Rows.callWith_type1 (thn (ha pos pins s σ H _ I h) fun us s1 ⟨vs, H1, I1, r1, q1⟩ => hc pins s1 σ H1 vs us Q I1 r1 q1) he hpl
end
end L2
namespace HT
open PySem PyProof.Rows
section
variable {prog : Program} {w : World} {A : Around} {E : Value → Shared → Prop} {s : Shared}
def sIx (n d : Nat) : Option Int → Nat
  | none => d
  | some v => if v < 0 then (v + (n : Int)).toNat else min v.toNat n
theorem sIx_nat (n d k : Nat) : sIx n d (some (k : Int)) = min k n := by
  show (if (k : Int) < 0 then ((k : Int) + (n : Int)).toNat else min (k : Int).toNat n) = min k n
  rw [if_neg (by omega), Int.toNat_natCast]
theorem sIx_le (n d : Nat) (hd : d ≤ n) (o : Option Int) : sIx n d o ≤ n := by
  cases o with
  | none => exact hd
  | some v =>
    show (if v < 0 then (v + (n : Int)).toNat else min v.toNat n) ≤ n
    by_cases hv : v < 0
    · rw [if_pos hv]; omega
    · rw [if_neg hv]; exact Nat.min_le_right _ _
theorem clip_eq (v : Int) (n d : Nat) : (if v < 0 then max (v + (n : Int)) 0 else min v (n : Int)) = ((sIx n d (some v) : Nat) : Int) := by
  show (if v < 0 then max (v + (n : Int)) 0 else min v (n : Int)) = (((if v < 0 then (v + (n : Int)).toNat else min v.toNat n) : Nat) : Int)
  by_cases hv : v < 0
  · simp only [if_pos hv]; omega
  · simp only [if_neg hv]; omega
theorem adjust_gen (lo hi : Option Int) (n : Nat) : Builtin.Slice.sliceAdjust lo hi 1 (n : Int) = (((sIx n 0 lo : Nat) : Int), ((sIx n n hi : Nat) : Int)) := by
  have h1 : ¬ ((1 : Int) < 0) := by omega
  unfold Builtin.Slice.sliceAdjust
  simp only [h1, if_false]
  refine Prod.ext ?_ ?_
  · cases lo with
    | none => rfl
    | some v => exact clip_eq v n 0
  · cases hi with
    | none => rfl
    | some v => exact clip_eq v n n
theorem places_gen (i j : Nat) : Builtin.Slice.slicePlaces (i : Int) (j : Int) 1 = j - i := by
  unfold Builtin.Slice.slicePlaces
  have h1 : (1 : Int) > 0 := by omega
  simp only [h1, if_true, Int.ediv_one]
  split <;> omega
theorem slicePart_ {v : Value} {o : Option Int} {Q : Option Int → Shared → Prop} (p : IsPart v o) (h : Q o s) : wpAny (model prog w) A (Builtin.Slice.slicePartIndex v) Q E s := by
  cases p with
  | none => exact slicePart_none h
  | int i t => exact slicePart_int h
theorem sliceApplied_gen {sl : Addr} {vl vu : Value} {lo hi : Option Int} {n : Nat} {Q : Int × Int × Nat → Shared → Prop} (hs : s.heap.IsSliceOf sl vl vu .none) (pl : IsPart vl lo) (pu : IsPart vu hi)
    (h : Q (((sIx n 0 lo : Nat) : Int), 1, sIx n n hi - sIx n 0 lo) s) : wpAny (model prog w) A (Builtin.Slice.sliceApplied (.ref sl) (pure (n : Int))) Q E s := by
  obtain ⟨os, hos, hcs, hds⟩ := id hs
  unfold Builtin.Slice.sliceApplied Builtin.Slice.sliceFields
  refine wpAny_bind (wpAny_bind (wpAny_field hos hds (x := vl) rfl (wpAny_bind (wpAny_field hos hds (x := vu) rfl (wpAny_bind (wpAny_field hos hds (x := .none) rfl (wpAny_pure ?_)))))))
  refine wpAny_bind (slicePart_none ?_)
  show wpAny _ _ (if ((1 : Int) == 0) = true then _ else _) _ _ s
  rw [if_neg (by decide)]
  refine wpAny_bind (slicePart_ pl (wpAny_bind (slicePart_ pu (wpAny_bind (wpAny_pure ?_)))))
  show wpAny _ _ (match Builtin.Slice.sliceAdjust lo hi 1 (n : Int) with | (lo, hi) => pure (lo, (1 : Int), Builtin.Slice.slicePlaces lo hi 1)) _ _ s
  rw [adjust_gen lo hi n]
  show wpAny _ _ (pure (((sIx n 0 lo : Nat) : Int), (1 : Int), Builtin.Slice.slicePlaces ((sIx n 0 lo : Nat) : Int) ((sIx n n hi : Nat) : Int) 1)) _ _ s
  rw [places_gen]
  exact wpAny_pure h
theorem pick_gen (xs : Array Value) (i k : Nat) : ((List.range k).filterMap fun (m : Nat) => xs[((i : Int) + (m : Int) * 1).toNat]?).toArray = ((xs.toList.drop i).take k).toArray := by
  have e : (fun (m : Nat) => xs[((i : Int) + (m : Int) * 1).toNat]?) = fun m => xs[i + m]? := by
    funext m
    have : ((i : Int) + (m : Int) * 1).toNat = i + m := by omega
    rw [this]
  rw [e]
  have := pick_run xs i k
  rw [List.filterMap_map] at this
  have e2 : ((fun x => xs[x]?) ∘ fun x => i + x) = fun m => xs[i + m]? := rfl
  rw [e2] at this
  rw [this]
theorem getItem_tuple_cut {t sl : Addr} {items : Array Value} {vl vu : Value} {lo hi : Option Int} {Q : Value → Shared → Prop} (ht : IsTup s.heap t items) (hs : s.heap.IsSliceOf sl vl vu .none) (pl : IsPart vl lo) (pu : IsPart vu hi)
    (hw : ¬ (sIx items.size 0 lo = 0 ∧ sIx items.size items.size hi = items.size))
    (h : Q (.ref s.heap.objs.size) { s with heap := s.heap.push { cls := .type "tuple", data := .seq ((items.toList.drop (sIx items.size 0 lo)).take (sIx items.size items.size hi - sIx items.size 0 lo)).toArray } })
    (hsz : items.size ≤ sizeLine) : wpAny (model prog w) A (getItem (.ref t) (.ref sl)) Q E s := by
  have htake : sizeOk (.seq ((items.toList.drop (sIx items.size 0 lo)).take (sIx items.size items.size hi - sIx items.size 0 lo)).toArray) := by
    show ((items.toList.drop (sIx items.size 0 lo)).take (sIx items.size items.size hi - sIx items.size 0 lo)).toArray.size ≤ sizeLine
    rw [List.size_toArray, List.length_take, List.length_drop, Array.length_toList]
    omega
  have hj : sIx items.size items.size hi ≤ items.size := sIx_le _ _ (Nat.le_refl _) hi
  obtain ⟨os, hos, hcs, hds⟩ := id hs
  have hTs : s.TypeIs (.ref sl) "slice" := ⟨os, hos, hcs⟩
  unfold getItem
  try with_reducible refine wpAny_holding ?_
  first | refine wpAny_bind (wpAny_pure ?_) | skip
  refine wpAny_bind (wpAny_sequenceKey ht.typeIs (by decide) ?_)
  refine wpAny_bind (wpAny_callSpecial?_slot (name := Str.ofString "__getitem__") ht.typeIs PyProof.Rows.slot_tuple_getitem
    (wpAny_call_entry PyProof.Rows.slot_tuple_getitem ht.typeIs entry_tuple_getitem ?_ (args_tuple_getitem _ _)))
  show wpAny _ _ (Builtin.Tuple.tupleItemsOf (.ref t) >>= _) _ _ s
  refine wpAny_bind (tupleItemsOf_ ht ?_)
  refine wpAny_bind (wpAny_typeOf hTs ?_)
  rw [if_pos (by decide)]
  refine wpAny_bind (sliceApplied_gen hs pl pu ?_)
  have hno : ¬ ((((sIx items.size 0 lo : Nat) : Int) == 0 && (1 : Int) == 1 && (sIx items.size items.size hi - sIx items.size 0 lo) == items.size) = true) := by
    intro q
    rw [Bool.and_eq_true, Bool.and_eq_true] at q
    have q1 : ((sIx items.size 0 lo : Nat) : Int) = 0 := eq_of_beq q.1.1
    have q2 : sIx items.size items.size hi - sIx items.size 0 lo = items.size := eq_of_beq q.2
    exact hw ⟨by omega, by omega⟩
  show wpAny _ _ (if (((sIx items.size 0 lo : Nat) : Int) == 0 && (1 : Int) == 1 && (sIx items.size items.size hi - sIx items.size 0 lo) == items.size) = true then _ else _) _ _ s
  rw [if_neg hno, pick_gen]
  first
    | exact wpAny_bind (m := Builtin.Tuple.tupleExact _) (wpAny_newObj_type (wpAny_pure ⟨_, rfl, wpAny_pure h⟩) htake)
    | exact wpAny_bind (m := Builtin.Tuple.tupleExact _) (wpAny_newObj_type (wpAny_bind (wpAny_pure (wpAny_pure ⟨_, rfl, wpAny_pure h⟩))) htake)
    | exact wpAny_bind (wpAny_bind (m := Builtin.Tuple.tupleExact _) (wpAny_newObj_type (wpAny_pure (wpAny_pure ⟨_, rfl, wpAny_pure h⟩)) htake))
    | exact wpAny_bind (wpAny_bind (m := Builtin.Tuple.tupleExact _) (wpAny_newObj_type (wpAny_pure ⟨_, rfl, wpAny_pure h⟩) htake))
end
end HT
namespace L2
open PySem PySem.Spec PyProof.Rows
abbrev TO := St → Hp → (Option Int → Hp → Prop) → Prop
def PO (X : Cx) (e : Option Expr) (t : TO) : Prop :=
  ∀ (pins : List (Addr × Obj)) (s : Shared) (σ : St) (H : Hp) (Q : Option Int → Hp → Prop), Inv X pins σ H s → t σ H Q →
    wpAny (model X.prog X.w) X.A (evalPart e X.env) (fun u s' => ∃ o H', Inv X pins σ H' s' ∧ IsPart u o ∧ Q o H') X.xe s
def tNoPart : TO := fun _ H Q => Q none H
def tPart (t : TE) : TO := fun σ H Q => t σ H fun x H1 => ∃ i, x = .int i ∧ Q (some i) H1
theorem intsAre_of {ns : List Int} : ∀ {us : List Value}, Vals (ns.map V.int) us → IntsAre us ns := by
  induction ns with
  | nil => intro us r; rw [List.map_nil] at r; cases r; exact .nil
  | cons n ns ih =>
    intro us r
    rw [List.map_cons] at r
    cases r with
    | cons r1 r2 =>
      obtain ⟨t, e⟩ := r1
      subst e
      exact .cons n t (ih r2)
section
variable {X : Cx} {e : Expr} {te : TE} {lo hi : Option Expr} {tl th : TO} {pos p2 : Pos}
theorem po_none : PO X none tNoPart := by
  intro pins s σ H Q I h
  rw [evalPart_none]
  exact wpAny_pure ⟨none, H, I, .none, h⟩
theorem po_some (h : PE X e te) : PO X (some e) (tPart te) := by
  intro pins s σ H Q I hw
  rw [evalPart_some]
  refine thn (h pins s σ H _ I hw) fun u s1 ⟨x, H1, I1, r1, q1⟩ => ?_
  obtain ⟨i, rfl, q⟩ := q1
  obtain ⟨t, rfl⟩ := r1
  exact ⟨some i, H1, I1, .int i t, q⟩
def SlR (X : Cx) (r : V → Option Int → Option Int → Hp → VK → Prop) : Prop :=
  ∀ (pins : List (Addr × Obj)) (s : Shared) (σ : St) (H : Hp) (x : V) (v vl vu : Value) (lo hi : Option Int) (sl : Addr) (Q : VK), Inv X pins σ H s → RelV x v → s.heap.IsSliceOf sl vl vu .none → IsPart vl lo → IsPart vu hi → r x lo hi H Q →
    ∃ T id, typeLookup (.type T) "__getitem__" = pure (some (.builtin id)) ∧ s.TypeIs v T ∧ wpAny (model X.prog X.w) X.A (getItem v (.ref sl)) (EP X pins σ Q) X.xe s
theorem SlR.or {r r' : V → Option Int → Option Int → Hp → VK → Prop} (h : SlR X r) (h' : SlR X r') : SlR X (fun x lo hi H Q => r x lo hi H Q ∨ r' x lo hi H Q) := by
  intro pins s σ H x v vl vu lo hi sl Q I rx hs pl pu q
  rcases q with q | q
  · exact h pins s σ H x v vl vu lo hi sl Q I rx hs pl pu q
  · exact h' pins s σ H x v vl vu lo hi sl Q I rx hs pl pu q
def tSl (r : V → Option Int → Option Int → Hp → VK → Prop) (te : TE) (tl th : TO) : TE := fun σ H Q => te σ H fun x H1 => tl σ H1 fun l H2 => th σ H2 fun u H3 => r x l u H3 Q
theorem pe_slice {r : V → Option Int → Option Int → Hp → VK → Prop} (hr : SlR X r) (he : PE X e te) (hl : PO X lo tl) (hu : PO X hi th) : PE X (.Subscript e (.Slice lo hi none p2) pos) (tSl r te tl th) := by
  intro pins s σ H Q I h
  refine Subscript_ (thn (he pins s σ H _ I h) fun v s1 ⟨x, H1, I1, r1, q1⟩ => ?_)
  refine wpAny_Slice (thn (hl pins s1 σ H1 _ I1 q1) fun vl s2 ⟨l, H2, I2, pl, q2⟩ => thn (hu pins s2 σ H2 _ I2 q2) fun vu s3 ⟨u, H3, I3, pu, q3⟩ => ?_)
  rw [evalPart_none]
  refine wpAny_pure ?_
  have I4 : Inv X pins σ H3 { s3 with heap := s3.heap.push { cls := .type "slice", data := .fields #[vl, vu, .none] } } := I3.kept (t' := s3.toks) fun b ob q => Heap.get?_push_of_some _ q
  obtain ⟨T, id, hT, ht, hg⟩ := hr pins { s3 with heap := s3.heap.push { cls := .type "slice", data := .fields #[vl, vu, .none] } } σ H3 x v vl vu l u s3.heap.objs.size Q I4 r1 (Heap.IsSliceOf.new ..) pl pu q3
  show wpAny (model X.prog X.w) X.A (subscriptTail e (.Slice lo hi none p2) v (.ref s3.heap.objs.size)) (EP X pins σ Q) X.xe { s3 with heap := s3.heap.push { cls := .type "slice", data := .fields #[vl, vu, .none] } }
  exact tail_any (ops := [.ref s3.heap.objs.size, v]) ht hT hg (by with_unfolding_all rfl)
def cutV (xs : List V) (lo hi : Option Int) : List V := (xs.drop (HT.sIx xs.length 0 lo)).take (HT.sIx xs.length xs.length hi - HT.sIx xs.length 0 lo)
theorem cutV_length (xs : List V) (lo hi : Option Int) : (cutV xs lo hi).length ≤ xs.length := by
  unfold cutV
  rw [List.length_take, List.length_drop]
  omega
def rSlT (K : PySem.W.Frag) : V → Option Int → Option Int → Hp → VK → Prop := fun x lo hi H Q => ∃ a xs, x = .ref a ∧ SqT K H a xs ∧
  ¬ (HT.sIx xs.length 0 lo = 0 ∧ HT.sIx xs.length xs.length hi = xs.length) ∧ ∀ p, H p = none → Q (.ref p) (upd H p (.tup (cutV xs lo hi)))
theorem sl_tup : SlR X (rSlT X.K) := by
  intro pins s σ H x v vl vu lo hi sl Q I rx hs pl pu h
  obtain ⟨a, xs, rfl, hx, hw, q⟩ := h
  cases rx
  obtain ⟨its, r, ht, hz⟩ := I.tuple hx
  have hlen : its.toArray.size = xs.length := by rw [List.size_toArray]; exact r.length.symm
  refine ⟨"tuple", _, PyProof.Rows.slot_tuple_getitem.lookup, ht.typeIs, ?_⟩
  refine HT.getItem_tuple_cut ht hs pl pu (by rw [hlen]; exact hw) ?_ (by rw [hlen]; exact hz)
  rw [hlen]
  refine ⟨.ref s.heap.objs.size, _, I.laid (t' := s.toks) (o := .tup (cutV xs lo hi)) (fun b ob q => Heap.get?_push_of_some _ q) (Nat.le_refl _) ?_, rfl, q _ (I.hok.fresh (Nat.le_refl _))⟩
  exact ⟨Nat.le_trans (cutV_length xs lo hi) hz, _, (r.drop (HT.sIx xs.length 0 lo)).take (HT.sIx xs.length xs.length hi - HT.sIx xs.length 0 lo), IsTup.new _ _⟩
end
end L2
namespace L2
open PySem PySem.Spec PyProof.Rows
def ixN (n : Nat) (i : Int) : Option Nat := if 0 ≤ i then (if i < n then some i.toNat else none) else if -(n : Int) ≤ i then some (i + n).toNat else none
def atI {α : Type} (xs : List α) (i : Int) : Option α := (ixN xs.length i).bind fun j => xs[j]?
theorem ixN_seq {n : Nat} {i : Int} {j : Nat} (h : ixN n i = some j) : seqIndex? i n = some j ∧ j < n ∧ -(n : Int) ≤ i ∧ i < n := by
  unfold ixN at h
  by_cases h0 : 0 ≤ i
  · rw [if_pos h0] at h
    by_cases h1 : i < n
    · rw [if_pos h1] at h
      have e : i.toNat = j := Option.some.inj h
      exact ⟨by rw [seqIndex_of h0 h1, e], by omega, by omega, h1⟩
    · rw [if_neg h1] at h; cases h
  · rw [if_neg h0] at h
    by_cases h1 : -(n : Int) ≤ i
    · rw [if_pos h1] at h
      have e : (i + n).toNat = j := Option.some.inj h
      exact ⟨by rw [seqIndex_neg (by omega) h1, e], by omega, h1, by omega⟩
    · rw [if_neg h1] at h; cases h
theorem atI_get {α : Type} {xs : List α} {i : Int} {v : α} (h : atI xs i = some v) : ∃ j, seqIndex? i xs.length = some j ∧ xs[j]? = some v ∧ j < xs.length ∧ -(xs.length : Int) ≤ i ∧ i < xs.length := by
  unfold atI at h
  cases e : ixN xs.length i with
  | none => rw [e] at h; cases h
  | some j =>
    rw [e] at h
    obtain ⟨h1, h2, h3, h4⟩ := ixN_seq e
    exact ⟨j, h1, h, h2, h3, h4⟩
theorem atI_nat {α : Type} {xs : List α} {j : Nat} {v : α} (h : xs[j]? = some v) : atI xs (j : Int) = some v := by
  have hj : j < xs.length := (List.getElem?_eq_some_iff.mp h).1
  have e : ixN xs.length (j : Int) = some j := by
    unfold ixN
    rw [if_pos (by omega), if_pos (by omega)]; simp
  unfold atI; rw [e]; exact h
def PlainIx (b : Expr) : Prop := ∀ o i, subscripted b false o i = operate [o, i] (getItem o i)
def IxR (X : Cx) (r : R2) : Prop :=
  ∀ (value slice : Expr) (pins : List (Addr × Obj)) (s : Shared) (σ : St) (H : Hp) (x y : V) (v u : Value) (Q : VK), Inv X pins σ H s → RelV x v → RelV y u → r x y H Q →
    subscripted slice false v u = operate [v, u] (getItem v u) → wpAny (model X.prog X.w) X.A (subscriptTail value slice v u) (EP X pins σ Q) X.xe s
def MtR (X : Cx) (id : String) (r : V → List V → Hp → VK → Prop) : Prop :=
  ∀ (pins : List (Addr × Obj)) (s : Shared) (σ : St) (H : Hp) (x : V) (xs : List V) (v : Value) (us : List Value) (Q : VK), Inv X pins σ H s → RelV x v → Vals xs us → r x xs H Q →
    wpAny (model X.prog X.w) X.A (call (.builtin id) (v :: us)) (EP X pins σ Q) X.xe s
section
variable {X : Cx} {a b : Expr} {ta tb : TE} {pos : Pos}
theorem IxR.or {r r' : R2} (h : IxR X r) (h' : IxR X r') : IxR X (fun x y H Q => r x y H Q ∨ r' x y H Q) := by
  intro value slice pins s σ H x y v u Q I rx ry q hs
  rcases q with q | q
  · exact h value slice pins s σ H x y v u Q I rx ry q hs
  · exact h' value slice pins s σ H x y v u Q I rx ry q hs
theorem pe_ix {r : R2} (hr : IxR X r) (ha : PE X a ta) (hb : PE X b tb) (hs : PlainIx b) : PE X (.Subscript a b pos) (tOp r ta tb) := by
  intro pins s σ H Q I h
  exact Subscript_ (binT ha hb I h fun v u s2 x y H2 I2 rx ry q => hr a b pins s2 σ H2 x y v u Q I2 rx ry q (hs _ _))
def rIxL (K : PySem.W.Frag) : R2 := fun x y H Q => ∃ p xs i v, x = .ref p ∧ y = .int i ∧ SqL K H p xs ∧ atI xs i = some v ∧ Q v H
def rIxT (K : PySem.W.Frag) : R2 := fun x y H Q => ∃ p xs i v, x = .ref p ∧ y = .int i ∧ SqT K H p xs ∧ atI xs i = some v ∧ Q v H
def rIxS : R2 := fun x y H Q => ∃ z i c, x = .str z ∧ y = .int i ∧ z.length ≤ sizeLine ∧ atI z.cps.toList i = some c ∧ Q (.str ⟨#[c]⟩) H
theorem ix_list : IxR X (rIxL X.K) := by
  intro value slice pins s σ H x y v u Q I rx ry h hs
  obtain ⟨p, xs, i, z, rfl, rfl, hq, he, q⟩ := h
  cases rx
  obtain ⟨t, rfl⟩ := ry
  obtain ⟨its, r, pl, hz⟩ := I.list hq
  obtain ⟨j, h1, h2, h3, h4, h5⟩ := atI_get he
  obtain ⟨w, ew, rw'⟩ := r.get h2
  have hl := r.length
  have hn := line63
  have fin : EP X pins σ Q w s := ⟨z, H, I, rw', q⟩
  by_cases h0 : 0 ≤ i
  · have hj : i.toNat = j := by
      rw [seqIndex_of h0 h5] at h1
      exact Option.some.inj h1
    exact item_listR pl.isList h0 (by omega) (by rw [hj]; simpa using ew) fin hs
  · have hj : (i + (its.toArray.size : Int)).toNat = j := by
      rw [seqIndex_neg (by omega) h4] at h1
      rw [List.size_toArray, ← hl]
      exact Option.some.inj h1
    exact subscriptTail_builtinR (x := w) pl.isList.typeIs slot_list_getitem.lookup
      (wpAny_getItem_list_neg (Q := fun r s' => r = w ∧ EP X pins σ Q r s') pl.isList (by omega) (by rw [List.size_toArray] <;> omega) (by omega) (by rw [hj]; simpa using ew) ⟨rfl, fin⟩) hs
theorem ix_tup : IxR X (rIxT X.K) := by
  intro value slice pins s σ H x y v u Q I rx ry h hs
  obtain ⟨p, xs, i, z, rfl, rfl, hq, he, q⟩ := h
  cases rx
  obtain ⟨t, rfl⟩ := ry
  obtain ⟨its, r, pl, hz⟩ := I.tuple hq
  obtain ⟨j, h1, h2, h3, h4, h5⟩ := atI_get he
  obtain ⟨w, ew, rw'⟩ := r.get h2
  have hl := r.length
  have hn := line63
  have fin : EP X pins σ Q w s := ⟨z, H, I, rw', q⟩
  exact subscriptTail_builtinR (x := w) pl.typeIs slot_tuple_getitem.lookup
    (getItem_tuple (j := j) (Q := fun r s' => r = w ∧ EP X pins σ Q r s') pl (by omega) (by omega) (by rw [List.size_toArray, ← hl]; exact h1) (by simpa using ew) ⟨rfl, fin⟩) hs
theorem ix_str : IxR X rIxS := by
  intro value slice pins s σ H x y v u Q I rx ry h hs
  obtain ⟨z, i, c, rfl, rfl, hz, he, q⟩ := h
  obtain ⟨t, rfl⟩ := rx
  obtain ⟨t', rfl⟩ := ry
  obtain ⟨j, h1, h2, h3, h4, h5⟩ := atI_get he
  have hl : z.cps.toList.length = z.length := by simp [Str.length]
  rw [hl] at h1 h4 h5
  have hn := line63
  exact tail_any (typeIs_str s z t) slot_str_getitem.lookup (getItem_str (c := c) (by
    have e1 : decide (i < -(2 ^ 63 : Int)) = false := decide_eq_false (by omega)
    have e2 : decide (i ≥ 2 ^ 63) = false := decide_eq_false (by omega)
    rw [e1, e2, Bool.or_false]) (by rw [h1]; simpa using h2) ⟨.str ⟨#[c]⟩, H, I.tok _, ⟨_, rfl⟩, q⟩) hs
def rIx (K : PySem.W.Frag) : R2 := fun x y H Q => rIxL K x y H Q ∨ rIxT K x y H Q ∨ rIxS x y H Q
theorem ix_seq : IxR X (rIx X.K) := ix_list.or (ix_tup.or ix_str)
theorem mapSeq_set (its : List Value) (n j : Nat) (u : Value) : Obj.mapSeq (·.setIfInBounds j u) { cls := .type "list", data := .seq its.toArray n } = { cls := .type "list", data := .seq (its.set j u).toArray n } := by
  simp [Obj.mapSeq]
theorem Inv.lst {pins : List (Addr × Obj)} {σ : St} {H : Hp} {s : Shared} {p : Addr} {xs : List V} (I : Inv X pins σ H s) (h : H p = some (.lst xs)) :
    ∃ (its : List Value) (n : Nat), Vals xs its ∧ s.heap.get? p = some { cls := .type "list", data := .seq its.toArray n } ∧ xs.length ≤ sizeLine := by
  obtain ⟨z, its, n, r, e⟩ := I.hok p _ h
  exact ⟨its, n, r, e, z⟩
theorem Inv.lstUpd {pins : List (Addr × Obj)} {σ : St} {H : Hp} {s : Shared} {p : Addr} {xs ys : List V} {its its' : List Value} {n n' : Nat} {f : Obj → Obj} (I : Inv X pins σ H s) (h : H p = some (.lst xs))
    (ho : s.heap.get? p = some { cls := .type "list", data := .seq its.toArray n }) (hf : f { cls := .type "list", data := .seq its.toArray n } = { cls := .type "list", data := .seq its'.toArray n' }) (r : Vals ys its') (hz : ys.length ≤ sizeLine) (t : Nat) :
    Inv X pins σ (upd H p (.lst ys)) { s with heap := s.heap.update p f, toks := t } := by
  have e : (s.heap.update p f).get? p = some { cls := .type "list", data := .seq its'.toArray n' } := by
    rw [Heap.get?_update_self f ho (by rw [hf] <;> rfl), hf]
  refine I.write (x := p) (e := p) (by rw [h]; trivial) (.inl rfl) (fun b u hb q => (Heap.get?_update_other _ _ (Ne.symm hb)).trans q) ⟨_, e⟩ ?_
  exact ⟨hz, its', n', r, e⟩
def rSetL : V → V → V → Hp → (Hp → Prop) → Prop := fun o i v H Q => ∃ p xs k j, o = .ref p ∧ i = .int k ∧ H p = some (.lst xs) ∧ ixN xs.length k = some j ∧ Q (upd H p (.lst (xs.set j v)))
theorem set_list : PSet X rSetL := by
  intro pins s σ H o i v ov iv u Q I ro ri rv h
  obtain ⟨p, xs, k, j, rfl, rfl, hp, hj, q⟩ := h
  cases ro
  obtain ⟨t, rfl⟩ := ri
  obtain ⟨its, n, r, ho, hz⟩ := I.lst hp
  obtain ⟨h1, h2, h3, h4⟩ := ixN_seq hj
  have hl := r.length
  have hn := line63
  have I' : Inv X pins σ (upd H p (.lst (xs.set j v))) { s with heap := s.heap.update p (Obj.mapSeq (·.setIfInBounds j u)) } :=
    I.lstUpd hp ho (mapSeq_set its n j u) (r.set rv j) (by rw [List.length_set]; exact hz) s.toks
  by_cases h0 : 0 ≤ k
  · have hk : k.toNat = j := by
      rw [seqIndex_of h0 h4] at h1
      exact Option.some.inj h1
    exact PySem.W.ki_setAt ho h0 (by omega) (by rw [List.size_toArray, ← hl]; exact h4) (by rw [hk]; exact ⟨_, I', q⟩)
  · have hk : (k + (its.toArray.size : Int)).toNat = j := by
      rw [seqIndex_neg (by omega) h3] at h1
      rw [List.size_toArray, ← hl]
      exact Option.some.inj h1
    exact PySem.W.ki_setBack ho (by omega) (by rw [List.size_toArray, ← hl]; exact h3) (by omega) (by rw [hk]; exact ⟨_, I', q⟩)
theorem slice_bounds (lo hi : Option Int) (n : Nat) : (sliceBounds lo hi none n).1 = ((HT.sIx n 0 lo : Nat) : Int) ∧ (sliceBounds lo hi none n).2.1 = ((HT.sIx n n hi : Nat) : Int) ∧ (sliceBounds lo hi none n).2.2 = 1 := by
  refine ⟨?_, ?_, rfl⟩
  · cases lo with
    | none => simp [sliceBounds, HT.sIx]
    | some i =>
      simp only [sliceBounds, HT.sIx, Option.getD_none, show (1 : Int) > 0 by decide, if_true]
      by_cases h : i < 0
      · simp only [h, if_true] <;> omega
      · simp only [h, if_false] <;> omega
  · cases hi with
    | none => simp [sliceBounds, HT.sIx]
    | some i =>
      simp only [sliceBounds, HT.sIx, Option.getD_none, show (1 : Int) > 0 by decide, if_true]
      by_cases h : i < 0
      · simp only [h, if_true] <;> omega
      · simp only [h, if_false] <;> omega
theorem slicePick_cut (its : List Value) (lo hi : Option Int) : slicePick its.toArray lo hi none = ((its.drop (HT.sIx its.length 0 lo)).take (HT.sIx its.length its.length hi - HT.sIx its.length 0 lo)).toArray := by
  obtain ⟨h1, h2, h3⟩ := slice_bounds lo hi its.toArray.size
  unfold slicePick
  rw [h1, h2, h3]
  simp only [sliceRange_one, pick_run, List.size_toArray] <;> rfl
def rSlL (K : PySem.W.Frag) : V → Option Int → Option Int → Hp → VK → Prop := fun x lo hi H Q => ∃ a xs, x = .ref a ∧ SqL K H a xs ∧ ∀ p, H p = none → Q (.ref p) (upd H p (.lst (cutV xs lo hi)))
theorem sl_list : SlR X (rSlL X.K) := by
  intro pins s σ H x v vl vu lo hi sl Q I rx hs pl pu h
  obtain ⟨a, xs, rfl, hx, q⟩ := h
  cases rx
  obtain ⟨its, r, ht, hz⟩ := I.list hx
  have hlen := r.length
  refine ⟨"list", _, slot_list_getitem.lookup, ht.isList.typeIs, ?_⟩
  refine wpAny_getItem_list_slice ht.isList hs pl pu .none (by simp) ?_ (by rw [List.size_toArray] <;> omega)
  rw [slicePick_cut, ← hlen]
  refine ⟨.ref s.heap.objs.size, _, I.laid (t' := s.toks) (o := .lst (cutV xs lo hi)) (fun b ob q => Heap.get?_push_of_some _ q) (Nat.le_refl _) ?_, rfl, q _ (I.hok.fresh (Nat.le_refl _))⟩
  exact ⟨Nat.le_trans (cutV_length xs lo hi) hz, _, 0, (r.drop (HT.sIx xs.length 0 lo)).take (HT.sIx xs.length xs.length hi - HT.sIx xs.length 0 lo), Heap.get?_push_size _ rfl⟩
theorem op_notIn_str : OpR X (compareOp .NotIn) (fun x y H Q => ∃ i j, x = .str i ∧ y = .str j ∧ Q (.bl (!(!(Builtin.Str.occurrences j i 0 j.length 1).isEmpty))) H) := by
  intro pins s σ H x y v u Q I rx ry h
  obtain ⟨i, j, rfl, rfl, q⟩ := h
  obtain ⟨t, rfl⟩ := rx
  obtain ⟨t', rfl⟩ := ry
  exact notIn_str ⟨.bl _, H, I, rfl, q⟩
theorem CallR.or {f : Value} {r r' : List V → Hp → VK → Prop} (h : CallR X f r) (h' : CallR X f r') : CallR X f (fun xs H Q => r xs H Q ∨ r' xs H Q) := by
  intro pins s σ H xs us Q I rs q
  rcases q with q | q
  · exact h pins s σ H xs us Q I rs q
  · exact h' pins s σ H xs us Q I rs q
theorem call_tuple_of : CallR X (.type "tuple") (fun xs H Q => ∃ p ys, xs = [.ref p] ∧ ((SqL X.K H p ys ∧ ∀ l, H l = none → Q (.ref l) (upd H l (.tup ys))) ∨ (SqT X.K H p ys ∧ Q (.ref p) H))) := by
  intro pins s σ H xs us Q I r h
  obtain ⟨p, ys, rfl, h⟩ := h
  obtain ⟨u, rfl, rx⟩ := vals1 r
  cases rx
  rcases h with ⟨hq, q⟩ | ⟨hq, q⟩
  · obtain ⟨its, r', pl, hz⟩ := I.list hq
    have hlen := r'.length
    refine call_tuple_list pl.isList (fun h' kp => ?_) (by simp only [List.size_toArray] <;> omega)
    have I1 : Inv X pins σ H { s with heap := h' } := I.kept (t' := s.toks) kp
    have I2 : Inv X pins σ (upd H h'.objs.size (.tup ys)) { s with heap := h'.push { cls := .type "tuple", data := .seq its.toArray } } :=
      I1.laid (t' := s.toks) (fun b o e => Heap.get?_push_of_some _ e) (Nat.le_refl _) (show ObjOk X.prog X.w _ _ _ (.tup ys) from ⟨hz, its, r', IsTup.new _ _⟩)
    exact ⟨.ref h'.objs.size, _, I2, rfl, q _ (I1.hok.fresh (Nat.le_refl _))⟩
  · obtain ⟨its, r', pl, hz⟩ := I.tuple hq
    exact call_tuple_same pl ⟨.ref p, H, I, rfl, q⟩
def tyV (K : PySem.W.Frag) (T : String) (x : V) (H : Hp) : Prop := match x with
  | .str _ => T = "str"
  | .int _ => T = "int"
  | .ref p => (T = "list" ∧ ∃ xs, SqL K H p xs) ∨ (T = "tuple" ∧ ∃ o, K.lookup p = some o ∧ o.cls = .type "tuple" ∧ o.dict = none) ∨
      (T = "dict" ∧ ((∃ kvs, H p = some (.dK kvs)) ∨ ∃ kvs, H p = some (.dT kvs))) ∨ (T = "set" ∧ ∃ S n, H p = some (.set S n))
  | _ => False
theorem tyV_is {pins : List (Addr × Obj)} {σ : St} {H : Hp} {s : Shared} {T : String} {x : V} {v : Value} (I : Inv X pins σ H s) (r : RelV x v) (ty : tyV X.K T x H) :
    s.TypeIs v T ∧ ∀ a, v = .ref a → ∃ ob, s.heap.get? a = some ob ∧ ob.dict = none := by
  cases x with
  | str z =>
    obtain ⟨t, rfl⟩ := r
    cases (show T = "str" from ty)
    exact ⟨typeIs_str s z t, fun _ e => nomatch e⟩
  | int i =>
    obtain ⟨t, rfl⟩ := r
    cases (show T = "int" from ty)
    exact ⟨typeIs_int s i t, fun _ e => nomatch e⟩
  | ref p =>
    cases r
    rcases ty with ⟨rfl, xs, hq⟩ | ⟨rfl, o, hk, hc, hd⟩ | ⟨rfl, hk⟩ | ⟨rfl, S, n, hk⟩
    · obtain ⟨its, _, pl, _⟩ := I.list hq
      refine ⟨pl.isList.typeIs, fun a e => ?_⟩
      cases e
      obtain ⟨o, n, e, c, hd, _⟩ := pl
      exact ⟨o, e, hd⟩
    · refine ⟨⟨o, I.kIn p o hk, hc⟩, fun a e => ?_⟩
      cases e
      exact ⟨o, I.kIn _ o hk, hd⟩
    · have z : ∃ o, s.heap.get? p = some o ∧ o.ExactDict := by
        rcases hk with ⟨kvs, hk⟩ | ⟨kvs, hk⟩
        · obtain ⟨_, _, _, _, o, _, _, e, ex, _⟩ := I.hok p _ hk
          exact ⟨o, e, ex⟩
        · obtain ⟨_, _, _, _, o, _, _, e, ex, _⟩ := I.hok p _ hk
          exact ⟨o, e, ex⟩
      obtain ⟨o, e, ex⟩ := z
      refine ⟨⟨o, e, ex.1⟩, fun a e2 => ?_⟩
      cases e2
      exact ⟨o, e, ex.2.1⟩
    · obtain ⟨o, _, _, _, e, ex, _⟩ := I.hok p _ hk
      refine ⟨⟨o, e, ex.1⟩, fun a e2 => ?_⟩
      cases e2
      exact ⟨o, e, ex.2.1⟩
  | _ => exact False.elim ty
def tBM (K : PySem.W.Frag) (T : String) (r : V → List V → Hp → VK → Prop) (to : TE) (t : TA) : TE := fun σ H Q => to σ H fun x H1 => tyV K T x H1 ∧ t σ H1 fun xs H2 => r x xs H2 Q
variable {o e : Expr} {es : List Expr} {to : TE} {t : TA} {name : Str} {apos cpos : Pos} {T id : String} {r : V → List V → Hp → VK → Prop}
theorem pe_bm (pa : PlainAttrs T) (slot : Slot T name id) (hty : typeOf (.builtin id) = pure (.type "method_descriptor")) (hm : MtR X id r) (ho : PE X o to) (ha : PA X (e :: es) t)
    (hbase : attributeBase o name X.env (eval o X.env) = eval o X.env := by rfl)
    (hfew : ((backTo cpos (starEach (e :: es) X.env)).all (fun x => !x.1) && (backToKw cpos (keywordEach [] X.env)).all (fun x => x.1.isSome)
      && decide ((e :: es).length + ([] : List Keyword).length + (if ([] : List Keyword).isEmpty then 0 else 1) < 30)) = true := by rfl)
    (hline : (apos.endLine == cpos.line) = true := by rfl) (hs : starEach (e :: es) X.env = (false, eval e X.env) :: starEach es X.env := by rfl) (hplain : (backTo cpos (starEach es X.env)).any (·.1) = false := by rfl) :
    PE X (.Call (.Attribute o name apos) (e :: es) [] cpos) (tBM X.K T r to t) := by
  intro pins s σ H Q I h
  refine wpAny_Call_method_late hbase hfew hline rfl (thn (ho pins s σ H _ I h) fun v s1 ⟨x, H1, I1, r1, ty, q1⟩ => ?_)
  obtain ⟨h1, h2⟩ := tyV_is I1 r1 ty
  refine ⟨T, id, pa, slot, hty, h1, h2, ?_⟩
  have hA := ha cpos pins s1 σ H1 _ I1 q1
  rw [hs] at hA ⊢
  refine Calls.callWith_builtin (by show (false || (backTo cpos (starEach es X.env)).any (·.1)) = false; rw [hplain] <;> rfl) (Calls.evalArgs_plain ?_)
  exact thn hA fun us s2 ⟨vs, H2, I2, r2, q2⟩ => hm pins s2 σ H2 x vs v us Q I2 r1 r2 q2
end
end L2
namespace L2
open PySem PySem.Spec PyProof.Rows
def MtM (X : Cx) (id : String) (r : V → List V → Hp → VK → Prop) : Prop :=
  ∀ (pins : List (Addr × Obj)) (s : Shared) (σ : St) (H : Hp) (x : V) (xs : List V) (v : Value) (us : List Value) (Q : VK), Inv X pins σ H s → RelV x v → Vals xs us → r x xs H Q →
    wpAny (model X.prog X.w) X.A (call (.builtin id) (v :: us)) (EP X pins σ Q) X.xe s
theorem Vals.one : ∀ {x : V} {us : List Value}, Vals [x] us → ∃ u, us = [u] ∧ RelV x u
  | _, _, .cons r .nil => ⟨_, rfl, r⟩
theorem Vals.two : ∀ {x y : V} {us : List Value}, Vals [x, y] us → ∃ u v, us = [u, v] ∧ RelV x u ∧ RelV y v
  | _, _, _, .cons r (.cons q .nil) => ⟨_, _, rfl, r, q⟩
theorem Vals.eraseIdx : ∀ {xs : List V} {us : List Value} (i : Nat), Vals xs us → Vals (xs.eraseIdx i) (us.eraseIdx i)
  | _, _, _, .nil => .nil
  | _, _, 0, .cons _ t => t
  | _, _, i + 1, .cons r t => .cons r (Vals.eraseIdx i t)
theorem len_erase {α : Type} : ∀ (l : List α) (i : Nat), (l.eraseIdx i).length ≤ l.length
  | [], _ => Nat.le_refl _
  | _ :: _, 0 => Nat.le_succ _
  | _ :: r, i + 1 => Nat.succ_le_succ (len_erase r i)
section
variable {X : Cx} {pins : List (Addr × Obj)} {σ : St} {H : Hp} {s : Shared} {l b : Addr} {xs ys zs : List V}
theorem Inv.lset {its its' : List Value} {n : Nat} {f : Array Value → Array Value} {t' : Nat} (I : Inv X pins σ H s) (hH : H l = some (.lst xs))
    (e : s.heap.get? l = some { cls := .type "list", data := .seq its.toArray n }) (hf : f its.toArray = its'.toArray) (hv : Vals ys its') (hz : ys.length ≤ sizeLine) :
    Inv X pins σ (upd H l (.lst ys)) { s with heap := s.heap.update l (Obj.mapSeq f), toks := t' } := by
  have q := PySem.IsL.update e f
  rw [hf] at q
  refine I.write (x := l) (e := l) (by rw [hH]; exact trivial) (.inl rfl) (fun b' u hb hu => (Heap.get?_update_other s.heap (Obj.mapSeq f) (Ne.symm hb)).trans hu) ⟨_, q⟩ ?_
  exact ⟨hz, its', _, hv, q⟩
theorem Inv.lnew {its : List Value} {t' : Nat} (I : Inv X pins σ H s) (hv : Vals ys its) (hz : ys.length ≤ sizeLine) :
    Inv X pins σ (upd H s.heap.objs.size (.lst ys)) { s with heap := s.heap.push { cls := .type "list", data := .seq its.toArray }, toks := t' } :=
  I.laid (fun _ _ q => Heap.get?_push_of_some _ q) (Nat.le_refl _) ⟨hz, its, 0, hv, Heap.get?_push_size _ rfl⟩
theorem Inv.fresh (I : Inv X pins σ H s) : H s.heap.objs.size = none := I.hok.fresh (Nat.le_refl _)
theorem Inv.lstM (I : Inv X pins σ H s) (hH : H l = some (.lst xs)) : xs.length ≤ sizeLine ∧ ∃ (its : List Value) (n : Nat), Vals xs its ∧ xs.length = its.length ∧ s.heap.get? l = some { cls := .type "list", data := .seq its.toArray n } := by
  obtain ⟨z, its, n, r, e⟩ := I.hok l _ hH
  exact ⟨z, its, n, r, r.length, e⟩
theorem notLongL {n : Nat} (h : n ≤ sizeLine) : Builtin.List.listTooLong n = false := by
  unfold Builtin.List.listTooLong
  exact decide_eq_false (by omega)
end
section
variable {X : Cx}
def rAppend : V → List V → Hp → VK → Prop := fun x vs H Q => ∃ l xs y, x = .ref l ∧ vs = [y] ∧ H l = some (.lst xs) ∧ xs.length < sizeLine ∧ Q .non (upd H l (.lst (xs ++ [y])))
theorem mt_append : MtM X "list.append" rAppend := by
  intro pins s σ H x vs v us Q I rx rv h
  obtain ⟨l, xs, y, rfl, rfl, hH, hz, q⟩ := h
  cases rx
  obtain ⟨u, rfl, ru⟩ := rv.one
  obtain ⟨z, its, n, r, hl, e⟩ := I.lstM hH
  refine call_meets F.slot_list_append ⟨_, e, rfl⟩ F.entry_list_append (F.args_list_append_2 _ _) (PySem.list_append l its.toArray n u (by rw [List.size_toArray]; omega)) ⟨e, ?_⟩
  refine ⟨.non, _, I.lset (its' := its ++ [u]) hH e (by simp) (r.append (.cons ru .nil)) ?_, rfl, q⟩
  rw [List.length_append, List.length_singleton]
  omega
def rExtend : V → List V → Hp → VK → Prop := fun x vs H Q => ∃ l b xs zs, x = .ref l ∧ vs = [.ref b] ∧ H l = some (.lst xs) ∧ H b = some (.lst zs) ∧ xs.length + zs.length ≤ sizeLine ∧ Q .non (upd H l (.lst (xs ++ zs)))
theorem mt_extend : MtM X "list.extend" rExtend := by
  intro pins s σ H x vs v us Q I rx rv h
  obtain ⟨l, b, xs, zs, rfl, rfl, hH, hB, hz, q⟩ := h
  cases rx
  obtain ⟨u, rfl, ru⟩ := rv.one
  cases ru
  obtain ⟨z, its, n, r, hl, e⟩ := I.lstM hH
  obtain ⟨z2, its2, n2, r2, hl2, e2⟩ := I.lstM hB
  have hsz : its.toArray.size + its2.toArray.size ≤ sizeLine := by rw [List.size_toArray, List.size_toArray]; omega
  have hlong : ¬ (!its.toArray.isEmpty && Builtin.List.listTooLong (its.toArray.size + its2.toArray.size)) = true := by
    rw [notLongL hsz, Bool.and_false]
    exact Bool.false_ne_true
  refine call_meets F.slot_list_extend ⟨_, e, rfl⟩ F.entry_list_extend (F.args_list_extend_2 _ _)
    (AutoSeq1.list_extend_list_list_0 l its.toArray n b its2.toArray n2 hlong (by rw [List.size_toArray]; omega) (by omega)) ⟨e, e2, ?_⟩
  refine ⟨.non, _, I.lset (its' := its ++ its2) hH e (by simp) (r.append r2) ?_, rfl, q⟩
  rw [List.length_append]
  omega
def rPopAt : V → List V → Hp → VK → Prop := fun x vs H Q => ∃ l xs i k y, x = .ref l ∧ vs = [.int i] ∧ H l = some (.lst xs) ∧ -(2 ^ 63) ≤ i ∧ i < 2 ^ 63 ∧ seqIndex? i xs.length = some k ∧ xs[k]? = some y ∧ Q y (upd H l (.lst (xs.eraseIdx k)))
theorem mt_popAt : MtM X "list.pop" rPopAt := by
  intro pins s σ H x vs v us Q I rx rv h
  obtain ⟨l, xs, i, k, y, rfl, rfl, hH, h1, h2, hk, hy, q⟩ := h
  cases rx
  obtain ⟨u, rfl, ru⟩ := rv.one
  obtain ⟨t, rfl⟩ := ru
  obtain ⟨z, its, n, r, hl, e⟩ := I.lstM hH
  obtain ⟨w, hw, rw'⟩ := r.get hy
  refine call_meets F.slot_list_pop ⟨_, e, rfl⟩ F.entry_list_pop (F.args_list_pop_2 _ _)
    (MeetsSeq.list_pop_at l its.toArray n i t k w (fitsIndex_both h1 h2) (by rw [List.size_toArray, ← hl]; exact hk) (by rw [← Array.getElem?_toList]; exact hw) (by rw [List.size_toArray]; omega)) ⟨e, ?_⟩
  refine ⟨y, _, I.lset (its' := its.eraseIdx k) hH e ?_ (r.eraseIdx k) ?_, rw', q⟩
  · show its.toArray.eraseIdxIfInBounds k = (its.eraseIdx k).toArray
    rw [List.eraseIdxIfInBounds_toArray]
  · have := len_erase xs k
    omega
def rCat : R2 := fun x y H Q => ∃ l b xs zs, x = .ref l ∧ y = .ref b ∧ H l = some (.lst xs) ∧ H b = some (.lst zs) ∧ xs.length + zs.length ≤ sizeLine ∧ ∀ p, H p = none → Q (.ref p) (upd H p (.lst (xs ++ zs)))
theorem op_cat : OpR X (binaryOp .Add) rCat := by
  intro pins s σ H x y v u Q I rx ry h
  obtain ⟨l, b, xs, zs, rfl, rfl, hH, hB, hz, q⟩ := h
  cases rx
  cases ry
  obtain ⟨z, its, n, r, hl, e⟩ := I.lstM hH
  obtain ⟨z2, its2, n2, r2, hl2, e2⟩ := I.lstM hB
  refine PySem.P.add_list e e2 ?_ (by rw [List.size_toArray, List.size_toArray]; omega)
  have ea : its.toArray ++ its2.toArray = (its ++ its2).toArray := by simp
  rw [ea]
  exact ⟨.ref _, _, I.lnew (t' := s.toks) (r.append r2) (by rw [List.length_append]; omega), rfl, q _ I.fresh⟩
end
end L2
namespace Att
open PySem PySem.W PySem.Calls PyProof.Rows
theorem ints_of_wellAll {P : Params} {h : Heap} : ∀ (ns : List Int) (vs : List Value), WellAll P h vs (ns.map WData.int) → IntsAre vs ns := by
  intro ns
  induction ns with
  | nil =>
    intro vs w
    rw [List.map_nil] at w
    cases w
    exact .nil
  | cons n ns ih =>
    intro vs w
    rw [List.map_cons] at w
    cases w with
    | cons a b =>
      cases a
      exact .cons _ _ (ih _ b)
theorem script_of {l : OpenLaw} {n : Nat} (hn : l.most = some n) {P : Params} {h : Heap} {args : List WData} {vals : List Value}
    (hpre : l.row.toRowW.claim.pre args = true) (hwl : WellAll P h vals args) :
    ∃ a vs ns, vals = [Value.ref a] ∧ args = [WData.list (ns.map WData.int)] ∧ h.get? a = some { cls := .type "list", data := .seq vs.toArray } ∧ IntsAre vs ns ∧ ns.length ≤ n := by
  have hsh : WShape.hasAll [] args [.list .int] = true := (pre_splitW hpre).1
  have hc : l.pre.holds [] { args := args } = true := (pre_splitW hpre).2
  obtain ⟨d, r, rfl, h1, h2⟩ := hasAllW_cons hsh
  obtain rfl := hasAllW_nil h2
  obtain ⟨xs, rfl, h3⟩ := hasW_list h1
  obtain ⟨ns, rfl⟩ := items_int h3
  have hlen : ns.length ≤ n := by
    unfold OpenLaw.pre at hc
    have h4 : (WTm.not (.lt (.lit (.int (n : Int))) (.len (.arg 0)))).holds [] { args := [.list (ns.map .int)] } = true := by
      have h4 := (holds_andW hc).1
      rw [hn] at h4
      exact h4
    have h5 := condW_of h4 (w_not (w_lt w_lit (w_len_list (w_arg rfl))))
    rw [List.length_map] at h5
    refine Nat.le_of_not_lt fun q => ?_
    have q' : (n : Int) < ((ns.length : Nat) : Int) := by omega
    first
      | (rw [decide_eq_true q'] at h5; exact absurd h5 (by decide))
      | (simp at h5; omega)
  cases hwl with
  | cons w1 w2 =>
    cases w2
    cases w1 with
    | list ho hall => exact ⟨_, _, ns, rfl, rfl, ho, ints_of_wellAll ns _ hall, hlen⟩
theorem post_true (l : OpenLaw) (args : List WData) : l.row.toRowW.claim.post args (.bool true) args = true :=
  postW_of (r := l.row.toRowW) (X := (true == true))
    (show WShape.has [] (.bool true) .bool = true by first | rfl | decide | simp [WShape.has, WShape.arms, WShape.armsAll])
    (show (WTm.eq .res (.lit (.bool true))).value [] { args := args, res := some (.bool true), after := args } = some (.bool (true == true)) from w_eq_bool (w_res rfl) w_lit) rfl
theorem attach_call {l : OpenLaw} {n : Nat} {q : Program} {loose : List Str} {XP : (Str → Option Value) → Heap → Prop} {YP : World → Heap → Prop} {d : DefRec}
    (hn : l.most = some n) (hdf : d.params.defaults = [])
    (call : ∀ (w : World) (sZ s₁ : Shared) (mg mb : Str → Option Value) (fa : Addr) (o : Obj) (pm cd doc : Value) (a : Addr) (vs : List Value) (ns : List Int),
      Ground q loose [] XP w sZ mg mb s₁.heap → YP w s₁.heap →
      s₁.heap.get? fa = some o → o.data = .func (docDef d.name d.params d.body d.scope pm cd doc) → s₁.heap.CodeRec cd d.name → mg d.name = some (.ref fa) →
      s₁.heap.get? a = some { cls := .type "list", data := .seq vs.toArray } → IntsAre vs ns → ns.length ≤ n → s₁.gens = #[] →
      codeAny (model l.prog w) callerA (.call (.ref fa) ⟨[.ref a], []⟩) (fun r s' => r = .ok (.ret (.bool true)) ∧ OldK s₁.heap s'.heap ∧ s'.os = s₁.os ∧ AllBare s'.gens) s₁) :
    WalkO q loose XP YP l.row.toRowW d [] (fun f vs => PySem.call f vs) := by
  intro w sZ s₁ mg mb G Y fa o pm cd doc dV kV ho hd hcd hD hmg hg args vals as hpre hlay hrd hwl hlo
  obtain rfl : dV = .none := Dflts.none hD hdf
  obtain rfl : kV = .none := Dflts.noKw hD
  obtain ⟨a, vs, ns, rfl, rfl, hobj, hints, hlen⟩ := script_of hn hpre hwl
  refine enter_call (codeAny_mono (call w sZ s₁ mg mb fa o pm cd doc a vs ns G Y ho (fd_plain hd) hcd hmg hobj hints hlen hg) fun r s' hq => ?_)
  obtain ⟨rfl, h2, h3, h4⟩ := hq
  exact ⟨.inl ⟨.bool true, .bool true, [], rfl, fun _ => rfl, .bool true, post_true l _, fun _ => ⟨List.Pairwise.nil, fun _ hm => (nomatch hm)⟩⟩, h2, h3, h4⟩
end Att
namespace L2
open PySem PySem.Spec PyProof.Rows
theorem vals_ints : ∀ {vs : List Value} {ns : List Int}, IntsAre vs ns → Vals (ns.map V.int) vs
  | _, _, .nil => .nil
  | _, _, .cons n t h => .cons ⟨t, rfl⟩ (vals_ints h)
def Only (H : Hp) : Prop := ∀ b, H b = none ∨ ∃ o xs, H b = some (.frz o (.lst xs))
theorem law_call {P : Program} {w : World} {K : PySem.W.Frag} {mg mb : Str → Option Value} {CX : CXT} {k : Nat} {fa a : Addr} {fd : FuncData} {x : Str} {sp : Sp} {s₁ : Shared} {vs : List Value} {ns : List Int}
    (KX : K.In s₁.heap) (hns : s₁.heap.Ns mainGlobals mg) (hb : s₁.heap.Ns builtinsNs mb) (hbb : ∀ x : Str, x ≠ "__name__" → mb x = bootBuiltins x) (hlim : s₁.heap.NoLimit) (hg : s₁.gens = #[])
    (ha : s₁.heap.get? a = some { cls := .type "list", data := .seq vs.toArray }) (hi : IntsAre vs ns) (hl : ns.length ≤ sizeLine) (hr : Room k callerA)
    (F : ∀ base : Heap, K.In base → base.Ns mainGlobals mg → FnOk P w K mg base CX k fa fd [x] sp) (hbind : ∀ (s : Shared) (u : Value), BindsTo s fd ⟨[u], []⟩ [(x, u)])
    (hsp : ∀ H : Hp, Only H → SqL K H a (ns.map V.int) → sp [.ref a] H (fun v _ => v = .bl true) fun _ _ _ => False)
    (hCX : ∀ H e s', CX [] H s₁ (fun _ _ _ => False) e s' → False) :
    codeAny (model P w) callerA (.call (.ref fa) ⟨[.ref a], []⟩) (fun r s' => r = .ok (.ret (.bool true)) ∧ OldK s₁.heap s'.heap ∧ s'.os = s₁.os ∧ AllBare s'.gens) s₁ := by
  have rv := vals_ints hi
  have lenV := hi.length
  have core : ∀ H : Hp, Only H → SqL K H a (ns.map V.int) → HOk P w H s₁.heap → (∀ b, H b ≠ none → b = a) → (H a ≠ none → K.lookup a = none) →
      codeAny (model P w) callerA (.call (.ref fa) ⟨[.ref a], []⟩) (fun r s' => r = .ok (.ret (.bool true)) ∧ OldK s₁.heap s'.heap ∧ s'.os = s₁.os ∧ AllBare s'.gens) s₁ := by
    intro H hO hS hok hA hK
    have base_of : ∀ {b : Addr} {o : Obj}, s₁.heap.get? b = some o → H b = none → (hidT s₁.heap H).get? b = some o := fun e n => hidT_get e n
    have noA : ∀ {b : Addr} {o : Obj} {es : Array DictEntry} {ep : Nat}, s₁.heap.get? b = some o → o.data = .dict es ep → H b = none := fun {b o es ep} e d => by
      cases q : H b with
      | none => rfl
      | some u =>
        have e' : b = a := hA b (by rw [q]; simp)
        subst e'
        rw [ha] at e; cases e
        have d' : Data.seq vs.toArray _ = Data.dict es ep := d
        cases d'
    have nsK : ∀ {b : Addr} {m : Str → Option Value}, s₁.heap.Ns b m → (hidT s₁.heap H).Ns b m := fun {b m} ⟨o, es, ep, e, d, r⟩ => ⟨o, es, ep, base_of e (noA e d), d, r⟩
    have hKb : K.In (hidT s₁.heap H) := fun b o e => base_of (KX b o e) (by
      cases q : H b with
      | none => rfl
      | some u =>
        have e' : b = a := hA b (by rw [q]; simp)
        subst e'
        rw [hK (by rw [q]; simp)] at e; cases e)
    have hM : Mod K mg (hidT s₁.heap H) := ⟨hKb, nsK hns, ⟨mb, nsK hb, hbb⟩, let ⟨mc, h1, h2⟩ := hlim; ⟨mc, nsK h1, h2⟩⟩
    have e0 : Env0 P w K mg (hidT s₁.heap H) callerA [] s₁ H := ⟨rfl, hM, fun b o e => of_hidT e, Nat.le_of_eq (hidT_size _ _), trivial, fun b hb => absurd (show b ∈ ([] : List Addr) from hb) (by simp), hok, .of_eq hg⟩
    refine codeAny_mono ((F _ hKb (nsK hns)).run callerA [] s₁ H ⟨[.ref a], []⟩ [.ref a] [.ref a] _ _ hr e0 (hbind s₁ (.ref a)) (.cons rfl .nil) (hsp H hO hS)) fun r s' h => ?_
    cases r with
    | error e => exact (hCX H e s' h).elim
    | ok fl =>
      cases fl with
      | next => exact False.elim h
      | brk => exact False.elim h
      | cont => exact False.elim h
      | ret u =>
        obtain ⟨v, H', os, bare, un, hok', r', q⟩ := h
        have q' : v = .bl true := q
        subst q'
        obtain rfl : u = Value.bool true := r'
        refine ⟨rfl, OldK.of_keep fun b o e => ?_, os, bare⟩
        cases q : H b with
        | none => exact un.keep b o e q (by intro z; exact absurd (show b ∈ ([] : List Addr) from z) (by simp)) (by simp)
        | some u =>
          rcases hO b with z | ⟨ob, xs, z⟩
          · rw [q] at z; cases z
          · have z2 := un.frzs b ob _ z
            obtain ⟨e1, _⟩ := hok b _ z
            obtain ⟨e2, _⟩ := hok' b _ z2
            rw [e] at e1; cases e1
            exact e2
  cases hk : K.lookup a with
  | some o =>
    have e := KX a o hk
    rw [ha] at e
    cases e
    refine core (fun _ => none) (fun _ => .inl rfl) (.inr ⟨_, vs.toArray, _, hk, rfl, rfl, rfl, by rw [List.size_toArray, lenV]; exact hl, by simpa using KVals.ints rv⟩) (fun b u z => by have z' : (none : Option HO) = some u := z; cases z') (fun b z => absurd rfl z) fun z => absurd rfl z
  | none =>
    refine core (fun b => if b = a then some (.frz { cls := .type "list", data := .seq vs.toArray } (.lst (ns.map V.int))) else none) (fun b => ?_) (.inl (.inr ⟨{ cls := .type "list", data := .seq vs.toArray }, if_pos rfl⟩)) (fun b u z => ?_) (fun b z => ?_) fun _ => hk
    · by_cases hb : b = a
      · exact .inr ⟨_, _, if_pos hb⟩
      · exact .inl (if_neg hb)
    · by_cases hb : b = a
      · have z' := (if_pos hb).symm.trans z
        cases z'
        subst hb
        exact ⟨ha, by rw [List.length_map]; exact hl, vs, _, rv, ha⟩
      · have z' := (if_neg hb).symm.trans z
        cases z'
    · by_cases hb : b = a
      · exact hb
      · exact absurd (if_neg hb) z
end L2
namespace L2
open PySem PySem.Spec PyProof.Rows
abbrev KOf {K : PySem.W.Frag} {h : Heap} (_ : K.In h) : PySem.W.Frag := K
theorem walk_of {l : PySem.W.OpenLaw} {n k : Nat} {q : Program} {loose : List Str} {XP : (Str → Option Value) → Heap → Prop} {YP : World → Heap → Prop} {d : DefRec} {K : Params → PySem.W.Frag} {CX : World → CXT} {sp : World → Sp} {x : Str}
    (hn : l.most = some n) (hn2 : n ≤ sizeLine) (hdf : d.params.defaults = []) (hr : Room k callerA)
    (hY : ∀ (w : World) (h : Heap), YP w h → (K w.params).In h)
    (F : ∀ (w : World) (mg : Str → Option Value) (fa : Addr) (h : Heap), (K w.params).In h → h.Ns mainGlobals mg → mg d.name = some (.ref fa) →
      ∃ fd : FuncData, (∀ (s : Shared) (u : Value), BindsTo s fd ⟨[u], []⟩ [(x, u)]) ∧
        ∀ base : Heap, (K w.params).In base → base.Ns mainGlobals mg → FnOk l.prog w (K w.params) mg base (CX w) k fa fd [x] (sp w))
    (hsp : ∀ (w : World) (H : Hp) (a : Addr) (ns : List Int), ns.length ≤ n → Only H → SqL (K w.params) H a (ns.map V.int) → sp w [.ref a] H (fun v _ => v = .bl true) fun _ _ _ => False)
    (hCX : ∀ (w : World) (H : Hp) (s : Shared) (e : Value) (s' : Shared), CX w [] H s (fun _ _ _ => False) e s' → False) :
    PySem.W.WalkO q loose XP YP l.row.toRowW d [] (fun f vs => PySem.call f vs) := by
  refine Att.attach_call hn hdf fun w sZ s₁ mg mb fa o pm cd doc a vs ns G Y ho hd hcd hmg hobj hints hlen hg => ?_
  have KX := hY w _ Y
  obtain ⟨fd, hb, hF⟩ := F w mg fa _ KX G.T.g hmg
  exact law_call KX G.T.g G.T.b G.T.builtins G.T.nolimit hg hobj hints (Nat.le_trans hlen hn2) hr hF hb (fun H hO hS => hsp w H a ns hlen hO hS) fun H e s' => hCX w H s₁ e s'
end L2
namespace L2
open PySem PySem.Spec PyProof.Rows
def inClass (s : Stmt) (j : Nat) : Stmt := match s with
  | .ClassDef _ _ _ body _ _ _ _ _ _ _ => body.getD j (.Pass ⟨0, 0, 0, 0⟩)
  | _ => .Pass ⟨0, 0, 0, 0⟩
def defArgs (s : Stmt) : Arguments := match s with
  | .FunctionDef _ a _ _ _ _ _ _ _ _ => a
  | _ => { posonlyargs := [], args := [], vararg := none, kwonlyargs := [], kw_defaults := [], kwarg := none, defaults := [] }
def defBody (s : Stmt) : List Stmt := match s with
  | .FunctionDef _ _ b _ _ _ _ _ _ _ => b
  | _ => []
def defScope (s : Stmt) : Scope := match s with
  | .FunctionDef _ _ _ _ _ _ sc _ _ _ => sc
  | _ => { kind := .function, names := [], isGenerator := false, isCoroutine := false }
abbrev CX0 : CXT := fun _ _ _ _ _ _ => False
abbrev E0 : XK := fun _ _ _ => False
theorem pass0 {X : Cx} : Passes CX0 X E0 := fun _ _ _ _ _ _ _ h => h.elim
structure Fun (K : PySem.W.Frag) (x qual : Str) (st : Stmt) (f : Addr) (fd : FuncData) : Prop where
  ex : ∃ (oc : Value) (od : Option Addr) (kV doc pm : Value) (an : Option Addr) (cdv ct : Value) (osl : Array (Option Value)),
    fd = PySem.W.fnOf x qual (defArgs st) (defBody st) (defScope st) .none kV doc pm an cdv ct ∧ K.lookup f = some ⟨oc, od, .func fd, osl⟩ ∧ PySem.W.codeIn K cdv qual = true
  kp : PySem.W.keepIn K (.ref f) = true
section
variable {P : Program} {w : World} {K : PySem.W.Frag} {mg : Str → Option Value} {base : Heap}
theorem Fun.ok {x qual : Str} {st : Stmt} {f : Addr} {fd : FuncData} {N ps : List Str} {k : Nat} {sp : Sp} (F : Fun K x qual st f fd) (S : FnScope N ps (defScope st)) (len : ∀ vs H Q E, sp vs H Q E → vs.length = ps.length)
    (hbody : ∀ (cdv : Value) (A : Around) (outer : List Env) (s : Shared) (H : Hp) (vs : List V) (Q : VK) (E : XK), Room k (A.deeper (envOfC qual (defScope st) s.heap.objs.size f cdv)) → sp vs H Q E →
      ∃ t, PSs (cxOf CX0 P w K mg base N qual (defScope st) f cdv A outer s H E).nox (defBody st) t ∧ t { nx := fun _ H' => Q .non H', rt := Q } (start N vs) H) : FnOk P w K mg base CX0 (k + 1) f fd ps sp := by
  obtain ⟨oc, od, kV, doc, pm, an, cdv, ct, osl, rfl, lk, hcd⟩ := F.ex
  refine fn_of lk hcd S len fun A outer s H vs Q E hr hsp => ?_
  obtain ⟨t, h, q⟩ := hbody cdv A outer s H vs Q E hr hsp
  exact ⟨t, h.nox, q⟩
theorem Fun.binds {x qual : Str} {st : Stmt} {f : Addr} {fd : FuncData} {ps : List Str} (F : Fun K x qual st f fd)
    (h : ∀ (kV doc pm : Value) (an : Option Addr) (cdv ct : Value) (us : List Value), us.length = ps.length → bindArgs (PySem.W.fnOf x qual (defArgs st) (defBody st) (defScope st) .none kV doc pm an cdv ct) ⟨us, []⟩ = pure (ps.zip us)) : Binds K fd ps [] := by
  obtain ⟨oc, od, kV, doc, pm, an, cdv, ct, osl, rfl, lk, hcd⟩ := F.ex
  exact .all (h kV doc pm an cdv ct)
theorem fun_mk {x qual : Str} {st : Stmt} {f : Addr} {oc : Value} {od an : Option Addr} {osl : Array (Option Value)} {kV doc pm cdv ct : Value} (l : K.lookup f = some ⟨oc, od, .func (PySem.W.fnOf x qual (defArgs st) (defBody st) (defScope st) .none kV doc pm an cdv ct), osl⟩)
    (c : PySem.W.codeIn K cdv qual = true) (k : PySem.W.keepIn K (.ref f) = true) : Fun K x qual st f (PySem.W.fnOf x qual (defArgs st) (defBody st) (defScope st) .none kV doc pm an cdv ct) := ⟨⟨oc, od, kV, doc, pm, an, cdv, ct, osl, rfl, l, c⟩, k⟩
end
section
variable {X : Cx}
theorem pv (i : Nat) {x : Str} {pos : Pos} (hN : X.N[i]? = some x := by rfl) (hv : Vis X.env.scope x := by first | exact Or.inl rfl | exact Or.inr (Or.inl rfl) | exact Or.inr (Or.inr rfl)) (hd : (x == ("__debug__" : Str)) = false := by decide)
    (hcd : (x == ("__classdict__" : Str)) = false := by decide) : PE X (.Name x pos) (tVar i) := pe_var hN hv hd hcd
end
theorem iteF {A B : Prop} (h : B) : if false = true then A else B := by
  rw [if_neg Bool.false_ne_true]
  exact h
theorem iteT {A B : Prop} (h : A) : if true = true then A else B := by
  rw [if_pos rfl]
  exact h
theorem ite2 {c A B : Prop} [Decidable c] (h1 : c → A) (h2 : ¬ c → B) : if c then A else B := by
  by_cases h : c
  · rw [if_pos h]
    exact h1 h
  · rw [if_neg h]
    exact h2 h
def Same (H H' : Hp) : Prop := ∀ b o, H b = some o → H' b = some o
theorem Same.refl (H : Hp) : Same H H := fun _ _ h => h
theorem Same.trans {H H1 H2 : Hp} (a : Same H H1) (b : Same H1 H2) : Same H H2 := fun c o h => b c o (a c o h)
theorem Same.free {H H' : Hp} (e : Same H H') {l : Addr} (h : H' l = Option.none) : H l = Option.none := by
  cases q : H l with
  | none => rfl
  | some o =>
    rw [e l o q] at h
    cases h
theorem Same.seq {K : PySem.W.Frag} {H H' : Hp} {a : Addr} {xs : List V} (e : Same H H') (h : SqL K H a xs) : SqL K H' a xs := by
  rcases h with (h | ⟨o, h⟩) | h
  · exact .inl (.inl (e _ _ h))
  · exact .inl (.inr ⟨o, e _ _ h⟩)
  · exact .inr h
end L2
namespace L2
open PySem PySem.Spec PyProof.Rows
def clOf (cells : List (Str × Addr)) : List (Str × NameKind) → List (Str × Addr) → List (Str × Addr)
  | [], acc => acc
  | (n, k) :: r, acc => if k == .free then (match cells.lookup n with | some a => clOf cells r ((n, a) :: acc) | none => clOf cells r acc) else clOf cells r acc
theorem clOf_for {env : Env} (f : Str × NameKind → List (Str × Addr) → Sem (ForInStep (List (Str × Addr))))
    (hf : ∀ n k cs, f (n, k) cs = if k == .free then (do let a ← cellOf env n; pure (.yield ((n, a) :: cs))) else pure (.yield cs)) :
    ∀ (names : List (Str × NameKind)) (acc : List (Str × Addr)), (∀ y ∈ names, y.2 = .free → ∃ c, env.cells.lookup y.1 = some c) → forIn names acc f = pure (clOf env.cells names acc)
  | [], acc, _ => by rw [List.forIn_nil]; rfl
  | (n, k) :: r, acc, h => by
    have hr : ∀ y ∈ r, y.2 = .free → ∃ c, env.cells.lookup y.1 = some c := fun y hy => h y (List.mem_cons_of_mem _ hy)
    rw [List.forIn_cons, hf]
    unfold clOf
    by_cases hk : k = .free
    · subst hk
      obtain ⟨c, hc⟩ := h (n, .free) List.mem_cons_self rfl
      have hc' : env.cells.lookup n = some c := hc
      have e1 : cellOf env n = pure c := by unfold cellOf; rw [hc']
      have ef : (NameKind.free == NameKind.free) = true := rfl
      rw [if_pos ef, if_pos ef, e1, hc']
      exact clOf_for f hf r ((n, c) :: acc) hr
    · have hb : (k == NameKind.free) = false := by simpa using hk
      rw [hb, if_neg Bool.false_ne_true, if_neg Bool.false_ne_true]
      exact clOf_for f hf r acc hr
theorem closureFor_cl {scope : Scope} {env : Env} (h : ∀ y ∈ scope.names, y.2 = .free → ∃ c, env.cells.lookup y.1 = some c) : closureFor scope env = pure (clOf env.cells scope.names []) := by
  have e := clOf_for (env := env) (fun x cs => match x with | (n, k) => if k == .free then (do let a ← cellOf env n; pure (.yield ((n, a) :: cs))) else pure (.yield cs)) (fun _ _ _ => rfl) scope.names [] h
  show (forIn scope.names [] _ >>= fun cs => pure cs) = _
  refine Eq.trans (congrArg (· >>= fun cs => pure cs) (Eq.trans ?_ e)) rfl
  refine congrArg _ (funext fun x => funext fun cs => ?_)
  obtain ⟨n, k⟩ := x
  cases hk : k == NameKind.free <;> simp [hk]
theorem lookup_clOf {cells : List (Str × Addr)} : ∀ {names : List (Str × NameKind)} {acc : List (Str × Addr)}, (∀ n c, acc.lookup n = some c → cells.lookup n = some c) → ∀ n c, (clOf cells names acc).lookup n = some c → cells.lookup n = some c
  | [], _, h, n, c, e => h n c e
  | (m, k) :: r, acc, h, n, c, e => by
    unfold clOf at e
    split at e
    · split at e
      · rename_i a ha
        refine lookup_clOf (names := r) (acc := (m, a) :: acc) (fun x d q => ?_) n c e
        rw [List.lookup_cons] at q
        cases hb : x == m with
        | true => rw [hb] at q; cases q; rw [beq_iff_eq.mp hb]; exact ha
        | false => rw [hb] at q; exact h x d q
      · exact lookup_clOf (names := r) h n c e
    · exact lookup_clOf (names := r) h n c e
theorem clOf_acc {cells : List (Str × Addr)} {n : Str} : ∀ {names : List (Str × NameKind)} {acc : List (Str × Addr)}, (∃ c, acc.lookup n = some c) → ∃ c, (clOf cells names acc).lookup n = some c
  | [], _, h => h
  | (m, k) :: r, acc, h => by
    unfold clOf
    split
    · split
      · rename_i a ha
        refine clOf_acc (names := r) ?_
        rw [List.lookup_cons]
        cases hb : n == m with
        | true => exact ⟨a, rfl⟩
        | false => exact h
      · exact clOf_acc (names := r) h
    · exact clOf_acc (names := r) h
theorem clOf_has {cells : List (Str × Addr)} {n : Str} {c : Addr} (hc : cells.lookup n = some c) : ∀ {names : List (Str × NameKind)} {acc : List (Str × Addr)}, (n, NameKind.free) ∈ names → ∃ d, (clOf cells names acc).lookup n = some d
  | (m, k) :: r, acc, h => by
    unfold clOf
    rcases List.mem_cons.mp h with e | h
    · cases e
      rw [if_pos (show (NameKind.free == NameKind.free) = true from rfl), hc]
      exact clOf_acc (names := r) ⟨c, by rw [List.lookup_cons, beq_self_eq_true]⟩
    · split
      · split
        · exact clOf_has hc h
        · exact clOf_has hc h
      · exact clOf_has hc h
theorem cellsFrom_not {y : Str} : ∀ {names : List (Str × NameKind)} {n : Nat} {acc : List (Str × Addr)}, (∀ p ∈ names, p.2 = .cell → p.1 ≠ y) → (cellsFrom n names acc).lookup y = acc.lookup y
  | [], _, _, _ => rfl
  | (m, k) :: r, n, acc, h => by
    have hr : ∀ p ∈ r, p.2 = .cell → p.1 ≠ y := fun p hp => h p (List.mem_cons_of_mem _ hp)
    unfold cellsFrom
    by_cases hk : k = .cell
    · subst hk
      rw [if_pos (show (NameKind.cell == NameKind.cell) = true from rfl), cellsFrom_not hr, List.lookup_cons]
      have : (y == m) = false := by simpa using Ne.symm (h (m, .cell) List.mem_cons_self rfl)
      rw [this]
    · rw [if_neg (by simpa using hk)]
      exact cellsFrom_not hr
theorem cellsFrom_new : ∀ {names : List (Str × NameKind)} {h : Heap} {acc : List (Str × Addr)} {y : Str} {c : Addr}, (cellsFrom h.objs.size names acc).lookup y = some c →
    (h.objs.size ≤ c ∧ (pushCells h names).IsCell c none) ∨ acc.lookup y = some c
  | [], _, _, _, _, e => .inr e
  | (m, k) :: r, h, acc, y, c, e => by
    unfold cellsFrom at e
    unfold pushCells
    by_cases hk : (k == NameKind.cell) = true
    · rw [if_pos hk] at e ⊢
      have e' : (cellsFrom (h.push { cls := .type "cell", data := .cell none }).objs.size r ((m, h.objs.size) :: acc)).lookup y = some c := by rw [Heap.size_push]; exact e
      rcases cellsFrom_new e' with ⟨q1, q2⟩ | q
      · rw [Heap.size_push] at q1
        exact .inl ⟨Nat.le_of_succ_le q1, q2⟩
      · rw [List.lookup_cons] at q
        cases hb : y == m with
        | true =>
          rw [hb] at q; cases q
          exact .inl ⟨Nat.le_refl _, Heap.IsCell.keeps ⟨_, Heap.get?_push_size _ rfl, rfl⟩ (pushCells_keeps _ _)⟩
        | false => rw [hb] at q; exact .inr q
    · rw [if_neg hk] at e ⊢
      exact cellsFrom_new e
theorem cellsFrom_inj : ∀ {names : List (Str × NameKind)} {n : Nat} {acc : List (Str × Addr)}, (∀ x y c, acc.lookup x = some c → acc.lookup y = some c → x = y) → (∀ x c, acc.lookup x = some c → c < n) →
    ∀ x y c, (cellsFrom n names acc).lookup x = some c → (cellsFrom n names acc).lookup y = some c → x = y
  | [], _, _, h, _ => h
  | (m, k) :: r, n, acc, h, lt => by
    unfold cellsFrom
    by_cases hk : (k == NameKind.cell) = true
    · rw [if_pos hk]
      have one : ∀ x c, ((m, n) :: acc).lookup x = some c → (x = m ∧ c = n) ∨ acc.lookup x = some c := fun x c e => by
        rw [List.lookup_cons] at e
        cases hb : x == m with
        | true => rw [hb] at e; cases e; exact .inl ⟨beq_iff_eq.mp hb, rfl⟩
        | false => rw [hb] at e; exact .inr e
      refine cellsFrom_inj (fun x y c ex ey => ?_) fun x c e => ?_
      · rcases one x c ex with ⟨a1, a2⟩ | a <;> rcases one y c ey with ⟨b1, b2⟩ | b
        · rw [a1, b1]
        · exact absurd (lt y c b) (by rw [a2]; exact Nat.lt_irrefl _)
        · exact absurd (lt x c a) (by rw [b2]; exact Nat.lt_irrefl _)
        · exact h x y c a b
      · rcases one x c e with ⟨_, a2⟩ | a
        · rw [a2]; exact Nat.lt_succ_self _
        · exact Nat.lt_succ_of_lt (lt x c a)
    · rw [if_neg hk]
      exact cellsFrom_inj h lt
theorem cellsFrom_acc {y : Str} : ∀ {names : List (Str × NameKind)} {n : Nat} {acc : List (Str × Addr)}, (∃ c, acc.lookup y = some c) → ∃ c, (cellsFrom n names acc).lookup y = some c
  | [], _, _, h => h
  | (m, k) :: r, n, acc, h => by
    unfold cellsFrom
    split
    · refine cellsFrom_acc ?_
      rw [List.lookup_cons]
      cases y == m with
      | true => exact ⟨_, rfl⟩
      | false => exact h
    · exact cellsFrom_acc h
theorem cellsFrom_has {y : Str} : ∀ {names : List (Str × NameKind)} {n : Nat} {acc : List (Str × Addr)}, (y, NameKind.cell) ∈ names → ∃ c, (cellsFrom n names acc).lookup y = some c
  | (m, k) :: r, n, acc, h => by
    unfold cellsFrom
    rcases List.mem_cons.mp h with e | h
    · cases e
      rw [if_pos (show (NameKind.cell == NameKind.cell) = true from rfl)]
      exact cellsFrom_acc ⟨n, by rw [List.lookup_cons, beq_self_eq_true]⟩
    · split
      · exact cellsFrom_has h
      · exact cellsFrom_has h
theorem cellsFrom_ge {y : Str} {lo : Nat} : ∀ {names : List (Str × NameKind)} {n : Nat} {acc : List (Str × Addr)} {c : Addr}, lo ≤ n → ((y, NameKind.cell) ∈ names ∨ ∀ d, acc.lookup y = some d → lo ≤ d) → (cellsFrom n names acc).lookup y = some c → lo ≤ c
  | [], n, acc, c, hn, h, e => h.elim (fun z => nomatch z) fun z => z c e
  | (m, k) :: r, n, acc, c, hn, h, e => by
    unfold cellsFrom at e
    by_cases hk : (k == NameKind.cell) = true
    · rw [if_pos hk] at e
      have k' : k = .cell := beq_iff_eq.mp hk
      subst k'
      refine cellsFrom_ge (names := r) (Nat.le_succ_of_le hn) ?_ e
      by_cases hm : (y, NameKind.cell) ∈ r
      · exact .inl hm
      · refine .inr fun d q => ?_
        rw [List.lookup_cons] at q
        cases hb : y == m with
        | true => rw [hb] at q; cases q; exact hn
        | false =>
          rw [hb] at q
          rcases h with z | z
          · rcases List.mem_cons.mp z with z | z
            · cases z; simp at hb
            · exact absurd z hm
          · exact z d q
    · rw [if_neg hk] at e
      refine cellsFrom_ge (names := r) hn ?_ e
      rcases h with z | z
      · rcases List.mem_cons.mp z with z | z
        · cases z; exact absurd rfl hk
        · exact .inl z
      · exact .inr z
section
variable {M : Model} {A : Around} {E : Value → Shared → Prop} {s : Shared}
theorem newCompEnv {scope : Scope} {globals : Addr} {cl : List (Str × Addr)} {qual : Str} {env : Env} {Q : Env → Shared → Prop}
    (h : Q { scope := scope, locals := s.heap.objs.size, globals := globals, cells := cellsFrom (s.heap.objs.size + 1) scope.names cl, qual := qual, func := none, code := env.code, frame := env.frame, builtins := env.builtins }
      { s with heap := pushCells (s.heap.push { cls := .type "dict", data := .dict #[] }) scope.names }) :
    wpAny M A (newFunctionEnv scope globals cl [] qual none .none (some env)) Q E s := by
  simp only [newFunctionEnv, Option.isSome_some, if_true]
  refine wpAny_bind (wpAny_alloc ?_)
  refine wpAny_bind (wpAny_layCells _ (fun name kind cells => by cases hkc : kind == NameKind.cell <;> simp [hkc]) _ _ _ _ ?_)
  rw [show ({ s with heap := s.heap.push { cls := .type "dict", data := .dict #[] } } : Shared).heap.objs.size = s.heap.objs.size + 1 from Heap.size_push ..]
  refine wpAny_bind ?_
  rw [List.forIn_nil]
  exact wpAny_pure (wpAny_pure h)
end
theorem kindOf_relabel {env : Env} : ∀ (names : List (Str × NameKind)) (x : Str),
    (names.map fun (n, k) => if (k == NameKind.free && env.scope.kind == .function && env.kindOf n == some .cell) then (n, NameKind.cell) else (n, k)).lookup x =
      (names.lookup x).map fun k => if (k == NameKind.free && env.scope.kind == .function && env.kindOf x == some .cell) then NameKind.cell else k
  | [], _ => rfl
  | (n, k) :: r, x => by
    rw [List.map_cons]
    show List.lookup x ((if (k == NameKind.free && env.scope.kind == .function && env.kindOf n == some .cell) = true then (n, NameKind.cell) else (n, k)) :: _) = _
    cases hx : x == n with
    | true =>
      have e := beq_iff_eq.mp hx
      subst e
      by_cases hc : (k == NameKind.free && env.scope.kind == .function && env.kindOf x == some .cell) = true
      · rw [if_pos hc, List.lookup_cons, List.lookup_cons, beq_self_eq_true]
        show _ = some (if (k == NameKind.free && env.scope.kind == .function && env.kindOf x == some .cell) = true then NameKind.cell else k)
        rw [if_pos hc]
      · rw [if_neg hc, List.lookup_cons, List.lookup_cons, beq_self_eq_true]
        show _ = some (if (k == NameKind.free && env.scope.kind == .function && env.kindOf x == some .cell) = true then NameKind.cell else k)
        rw [if_neg hc]
    | false =>
      have ih := kindOf_relabel (env := env) r x
      by_cases hc : (k == NameKind.free && env.scope.kind == .function && env.kindOf n == some .cell) = true
      · rw [if_pos hc, List.lookup_cons, List.lookup_cons, hx]; exact ih
      · rw [if_neg hc, List.lookup_cons, List.lookup_cons, hx]; exact ih
def sel (idx : List Nat) (σ : St) : St := idx.map fun j => (σ[j]?).join
def Cx.comp (X : Cx) (scope : Scope) (cells : List (Str × Addr)) (C : Addr) (N' : List Str) (s2 : Shared) (H2 : Hp) (fp : List Addr) : Cx where
  prog := X.prog
  w := X.w
  K := X.K
  mg := X.mg
  base := X.base
  A := X.A
  N := N'
  sZ := s2
  HZ := H2
  env := compEnvC scope cells C X.env
  outer := X.stack
  stack := X.stack
  ex := fp
  fn := fun y => scope.names.lookup y == some .cell
  calm := X.calm
  pn := []
  xe := fun _ _ => False
structure CompOk (X : Cx) (scope : Scope) (M : List Str) (idx : List Nat) : Prop where
  kind : scope.kind = .function
  loc : ∀ y ∈ scope.names, y.2 = .local → scope.names.lookup y.1 = some .local
  cel : ∀ y ∈ scope.names, y.2 = .cell → scope.names.lookup y.1 = some .cell
  fre : ∀ y ∈ scope.names, y.2 = .free → X.env.kindOf y.1 = some .cell ∨ X.env.kindOf y.1 = some .free
  len : idx.length = M.length
  cap : ∀ (j : Nat) (y : Str), M[j]? = some y → scope.names.lookup y = some .free ∧ ∃ k, idx[j]? = some k ∧ X.N[k]? = some y
theorem sel_get {idx : List Nat} {σ : St} {j : Nat} {v : V} (h : (sel idx σ)[j]? = some (some v)) : ∃ k, idx[j]? = some k ∧ σ[k]? = some (some v) := by
  unfold sel at h
  rw [List.getElem?_map] at h
  cases e : idx[j]? with
  | none => rw [e] at h; cases h
  | some k =>
    rw [e] at h
    refine ⟨k, rfl, ?_⟩
    have h' : (σ[k]?).join = some v := Option.some.inj h
    cases q : σ[k]? with
    | none => rw [q] at h'; cases h'
    | some o =>
      rw [q] at h'
      have h'' : o = some v := h'
      rw [h'']
section
variable {X : Cx} {pins : List (Addr × Obj)} {σ : St} {H : Hp} {s : Shared}
theorem comp_start {scope : Scope} {M : List Str} {idx : List Nat} {fp : List Addr} {x : Str} (ok : CompOk X scope M idx) (hc : X.calm = true) (I : Inv X pins σ H s) (hf : ∀ b ∈ fp, FpOk X pins H b)
    (ho : ∀ b ∈ fp, ∃ o, s.heap.get? b = some o) :
    Inv (X.comp scope (cellsFrom (s.heap.objs.size + 2) scope.names (clOf X.env.cells scope.names [])) (s.heap.objs.size + 1) (x :: M) s H fp) [] (none :: sel idx σ) H
      { s with heap := pushCells ((s.heap.push { cls := .type "list", dict := none, data := .seq ([] : List Value).toArray }).push { cls := .type "dict", data := .dict #[] }) scope.names } := by
  have sz2 : ((s.heap.push { cls := .type "list", dict := none, data := .seq ([] : List Value).toArray }).push { cls := .type "dict", data := .dict #[] }).objs.size = s.heap.objs.size + 2 := by rw [Heap.size_push, Heap.size_push]
  have keep : ∀ b o, s.heap.get? b = some o → (pushCells ((s.heap.push { cls := .type "list", dict := none, data := .seq ([] : List Value).toArray }).push { cls := .type "dict", data := .dict #[] }) scope.names).get? b = some o :=
    fun b o e => pushCells_keeps _ _ _ _ (Heap.get?_push_of_some _ (Heap.get?_push_of_some _ e))
  have clLook : ∀ n c, (clOf X.env.cells scope.names []).lookup n = some c → X.env.cells.lookup n = some c := lookup_clOf fun n c e => by simp at e
  have clLt : ∀ n c, (clOf X.env.cells scope.names []).lookup n = some c → c < s.heap.objs.size := fun n c e => by
    obtain ⟨v, z⟩ := I.cell n c (clLook n c e)
    exact z.lt
  have look : ∀ n c, (cellsFrom (s.heap.objs.size + 2) scope.names (clOf X.env.cells scope.names [])).lookup n = some c →
      (s.heap.objs.size + 2 ≤ c ∧ (pushCells ((s.heap.push { cls := .type "list", dict := none, data := .seq ([] : List Value).toArray }).push { cls := .type "dict", data := .dict #[] }) scope.names).IsCell c none) ∨ X.env.cells.lookup n = some c := fun n c e => by
    have e' : (cellsFrom ((s.heap.push { cls := .type "list", dict := none, data := .seq ([] : List Value).toArray }).push { cls := .type "dict", data := .dict #[] }).objs.size scope.names (clOf X.env.cells scope.names [])).lookup n = some c := by rw [sz2]; exact e
    rcases cellsFrom_new e' with ⟨q1, q2⟩ | q
    · rw [sz2] at q1; exact .inl ⟨q1, q2⟩
    · exact .inr (clLook n c q)
  have fresh : ∀ a, s.heap.objs.size ≤ a → H a = none := fun a h => I.hok.fresh h
  have fpLt : ∀ b ∈ fp, b < s.heap.objs.size := fun b hb => let ⟨_, e⟩ := ho b hb; Heap.lt_size e
  have fpStk : ∀ b ∈ fp, b ∉ frs X.stack := fun b hb z => by
    obtain ⟨_, f1, f2, _⟩ := hf b hb
    exact (List.mem_cons.mp (I.stkSub b z)).elim f1 f2
  have hasFree : ∀ y ∈ scope.names, y.2 = .free → ∃ c, X.env.cells.lookup y.1 = some c := fun y hy e => I.ok.has y.1 (ok.fre y hy e)
  have kindR : ∀ y, (compEnvC scope (cellsFrom (s.heap.objs.size + 2) scope.names (clOf X.env.cells scope.names [])) (s.heap.objs.size + 1) X.env).kindOf y =
      (scope.names.lookup y).map fun k => if (k == NameKind.free && X.env.scope.kind == .function && X.env.kindOf y == some .cell) then NameKind.cell else k := fun y => kindOf_relabel scope.names y
  refine ⟨⟨I.ok.mod, ok.kind, I.ok.glob, I.ok.blt, Nat.le_succ _, ?_, fun y hy => ?_, fun y c hfn e => ?_, I.ok.hd, I.ok.frames, .inl rfl, fun b hb => ⟨?_, fun y c e => ?_⟩, I.bs, Nat.le_trans I.ok.bsz I.sz, fun b o e hb => ?_, fun b hb => fpStk b hb, I.stack, I.stkFree⟩,
    rfl, I.bare, Un.kept keep, ⟨fun _ => none, ?_, fun i y v h1 h2 h3 => ?_⟩, fun y c e => ?_, fresh _ (Nat.le_succ _), fun y c e => ?_, fun p hp => absurd (show p ∈ ([] : List (Addr × Obj)) from hp) (by simp), I.hok.kept keep, ?_⟩
  · exact cellsFrom_inj (fun a b c h1 h2 => I.ok.inj a b c (clLook a c h1) (clLook b c h2)) fun a c h1 => Nat.lt_of_lt_of_le (clLt a c h1) (Nat.le_add_right _ _)
  · -- has
    rw [show (X.comp scope (cellsFrom (s.heap.objs.size + 2) scope.names (clOf X.env.cells scope.names [])) (s.heap.objs.size + 1) (x :: M) s H fp).env.kindOf y = _ from kindR y] at hy
    show ∃ c, (cellsFrom (s.heap.objs.size + 2) scope.names (clOf X.env.cells scope.names [])).lookup y = some c
    cases hk : scope.names.lookup y with
    | none => rw [hk] at hy; rcases hy with z | z <;> cases z
    | some k =>
      have mem := PySem.mem_of_lookup hk
      by_cases k1 : k = .cell
      · subst k1; exact cellsFrom_has mem
      by_cases k2 : k = .free
      · subst k2
        obtain ⟨c, ec⟩ := hasFree _ mem rfl
        exact cellsFrom_acc (clOf_has ec mem)
      · rw [hk] at hy
        have hb : (k == NameKind.free) = false := by simpa using k2
        rw [Option.map_some, hb, Bool.false_and, Bool.false_and, if_neg Bool.false_ne_true] at hy
        rcases hy with z | z
        · exact absurd (Option.some.inj z) k1
        · exact absurd (Option.some.inj z) k2
  · -- cab
    have hl : scope.names.lookup y = some .cell := by simpa [Cx.comp] using hfn
    exact cellsFrom_ge (lo := s.heap.objs.size) (by omega) (.inl (PySem.mem_of_lookup hl)) e
  · -- exf
    exact Nat.ne_of_lt (Nat.lt_succ_of_lt (fpLt b hb))
  · rcases look y c e with ⟨q, _⟩ | q
    · exact fun z => absurd (fpLt b hb) (by rw [← z]; exact Nat.not_lt.mpr (Nat.le_trans (Nat.le_add_right _ 2) q))
    · exact (hf b hb).2.2.2.2.1 y c q
  · -- noex
    rcases (hf b hb).2.2.2.1 with z | z
    · exact I.ok.noex b o e z
    · exact absurd (Nat.lt_of_lt_of_le (Heap.lt_size e) (Nat.le_trans I.ok.bsz z)) (Nat.lt_irrefl _)
  · -- the new map
    have e0 : (s.heap.push { cls := .type "list", dict := none, data := .seq ([] : List Value).toArray }).objs.size = s.heap.objs.size + 1 := Heap.size_push ..
    have q := (Heap.Ns.new (s.heap.push { cls := .type "list", dict := none, data := .seq ([] : List Value).toArray }) (.type "dict")).keeps (pushCells_keeps scope.names _)
    rw [e0] at q
    exact q
  · -- names
    cases i with
    | zero => cases h2
    | succ j =>
      have h2' : (sel idx σ)[j]? = some (some v) := h2
      have h1' : M[j]? = some y := h1
      obtain ⟨k, ek, ev⟩ := sel_get h2'
      obtain ⟨hl, k', ek', eN⟩ := ok.cap j y h1'
      rw [ek] at ek'; cases ek'
      have mem := PySem.mem_of_lookup hl
      have hk := ok.fre _ mem rfl
      obtain ⟨m, hn, hloc⟩ := I.loc
      have vis : Vis X.env.scope y := hk.elim (fun z => .inr (.inl z)) fun z => .inr (.inr z)
      obtain ⟨u, r, l⟩ := hloc k y v eN ev vis
      refine ⟨u, r, ?_⟩
      rcases l with ⟨z, _⟩ | ⟨_, c, ec, hcell⟩
      · rw [z] at hk; rcases hk with z | z <;> cases z
      · refine .inr ⟨?_, c, ?_, hcell.keeps keep⟩
        · rw [show (X.comp scope (cellsFrom (s.heap.objs.size + 2) scope.names (clOf X.env.cells scope.names [])) (s.heap.objs.size + 1) (x :: M) s H fp).env.kindOf y = _ from kindR y, hl, Option.map_some]
          by_cases hcc : (NameKind.free == NameKind.free && X.env.scope.kind == .function && X.env.kindOf y == some .cell) = true
          · rw [if_pos hcc]; exact .inl rfl
          · rw [if_neg hcc]; exact .inr rfl
        · show (cellsFrom (s.heap.objs.size + 2) scope.names (clOf X.env.cells scope.names [])).lookup y = some c
          rw [cellsFrom_not]
          · obtain ⟨d, ed⟩ := clOf_has (acc := []) ec mem
            rw [ed, ← clLook y d ed, ec]
          · intro p hp hpc hpy
            have := ok.cel p hp hpc
            rw [hpy, hl] at this
            cases this
  · rcases look y c e with ⟨_, q⟩ | q
    · exact ⟨_, q⟩
    · obtain ⟨v, z⟩ := I.cell y c q
      exact ⟨v, z.keeps keep⟩
  · rcases look y c e with ⟨q, _⟩ | q
    · exact fresh _ (by omega)
    · exact I.freeC y c q
  · show (none :: sel idx σ).length = (x :: M).length
    unfold sel
    rw [List.length_cons, List.length_cons, List.length_map, ok.len]
theorem compLoop_any {prog : Program} {w : World} {A : Around} {R : Result → Shared → Prop} {s : Shared} {elt target iter : Expr} {ifs : List Expr} {scope : Scope} {pos : Pos} {it acc : Value} {env : Env} (I : Nat → Shared → Prop)
    (turn : ∀ n s, I n s → wpAny (model prog w) A (pyNext it) (fun r s₁ => match r with
      | none => R (.ok .next) s₁
      | some v => wpAny (model prog w) A (letOwnedTupleGo target it v) (fun _ s₁' => wpAny (model prog w) A (assign target env v) (fun _ s₂ =>
          wpAny (model prog w) A (forIn ifs true fun c r => if r = true then do let ok ← isTrue c env (eval c env); pure (ForInStep.yield ok) else pure (ForInStep.yield r)) (fun ok s₃ =>
            if ok = true then wpAny (model prog w) A (eval elt env) (fun x s₄ =>
              wpAny (model prog w) A (call (.builtin "list.append") [acc, x]) (fun _ s₅ => ∃ m, m < n ∧ I m s₅) (fun _ _ => False) s₄) (fun _ _ => False) s₃
            else ∃ m, m < n ∧ I m s₃) (fun _ _ => False) s₂) (fun _ _ => False) s₁') (fun _ _ => False) s₁) (fun _ _ => False) s)
    (n : Nat) (h : I n s) :
    codeAny (model prog w) A (.compLoop (.ListComp elt [⟨target, iter, ifs, 0⟩] scope pos) 0 it acc env) R s := by
  refine codeAny_loop rfl I (fun n s hI => ?_) n h
  show wpAny _ A ((compTurn (.ListComp elt [⟨target, iter, ifs, 0⟩] scope pos) 0 it acc env).onRaise (fun x => do noteFrame x env; theTreesLotGoes x)) _ _ s
  refine wpAny_noted ?_
  rw [compTurn_list]
  refine wpAny_bind (wpAny_standAt (wpAny_bind (wpAny_mono (turn n s hI) (fun r s₁ h₁ => ?_) fun _ _ h' => h'.elim)))
  cases r with
  | none => exact wpAny_pure h₁
  | some v =>
    refine wpAny_bind (wpAny_mono h₁ (fun _ s₁' h₁' => ?_) fun _ _ h' => h'.elim)
    refine wpAny_bind (wpAny_mono h₁' (fun _ s₂ h₂ => wpAny_bind (wpAny_mono h₂ (fun ok s₃ h₃ => ?_) fun _ _ h' => h'.elim)) fun _ _ h' => h'.elim)
    cases ok with
    | false => exact wpAny_pure ⟨rfl, h₃⟩
    | true =>
      exact wpAny_bind (wpAny_bind (wpAny_mono h₃ (fun x s₄ h₄ => wpAny_bind (wpAny_mono h₄ (fun _ s₅ h₅ => wpAny_pure (wpAny_pure ⟨rfl, h₅⟩)) fun _ _ h' => h'.elim)) fun _ _ h' => h'.elim))
def PTs (X : Cx) (cs : List Expr) (t : TT) : Prop :=
  ∀ (pins : List (Addr × Obj)) (s : Shared) (σ : St) (H : Hp) (Q : Bool → Hp → Prop), Inv X pins σ H s → t σ H Q →
    wpAny (model X.prog X.w) X.A (forIn cs true fun c r => if r = true then do let ok ← isTrue c X.env (eval c X.env); pure (ForInStep.yield ok) else pure (ForInStep.yield r)) (TP X pins σ Q) X.xe s
def ttTrue : TT := fun _ H Q => Q true H
theorem pts_nil : PTs X [] ttTrue := fun _ _ _ H _ I h => wpAny_tests_nil ⟨H, I, h⟩
theorem pts_one {c : Expr} {t : TT} (h : PT X c t) : PTs X [c] t := fun pins s σ H Q I hq => wpAny_tests_one (h pins s σ H Q I hq)
def CompW (J : It) (H1 : Hp) (one : V → Hp → (Option V → Hp → Prop) → Prop) (Q : List V → Hp → Prop) : Prop :=
  ∃ (n : Nat) (W : Nat → List V → Hp → Prop), W 0 [] H1 ∧ n ≤ sizeLine ∧ ∀ i ys H', W i ys H' → (J.stop i H' ∧ Q ys H') ∨
    (J.go i H' ∧ i < n ∧ ∃ N : Option V → Hp → Prop, (∀ o H3, N o H3 → W (i + 1) (ys ++ o.toList) H3) ∧ ∀ x H2, J.yld i H' x H2 → one x H2 N)
def oneOf (tc : TT) (te : TE) (σ : St) (x : V) (H : Hp) (k : Option V → Hp → Prop) : Prop :=
  tc (some x :: σ) H fun b H1 => if b = true then te (some x :: σ) H1 fun v H2 => k (some v) H2 else k none H1
def tCompIf (wi : TI) (idx : List Nat) (tc : TT) (te : TE) : TE := fun σ H Q => wi σ H fun J H1 => CompW J H1 (oneOf tc te (sel idx σ)) fun ys H' => ∀ p, H' p = none → Q (.ref p) (upd H' p (.lst ys))
theorem comp_block {elt iter : Expr} {ifs : List Expr} {scope : Scope} {pos : Pos} {x : Str} {px : Pos} {M : List Str} {idx : List Nat} {tc : TT} {te : TE} {itv : Value} {Q : List V → Hp → Prop}
    {RR : Value → Addr → Result → Shared → Prop} 
    (hc : X.calm = true) (ok : CompOk X scope M idx) (hN : (x :: M).Nodup) (hx : scope.names.lookup x = some .local ∨ scope.names.lookup x = some .cell)
    (ht : ∀ cells C s2 H2 fp, PTs (X.comp scope cells C (x :: M) s2 H2 fp) ifs tc) (he : ∀ cells C s2 H2 fp, PE (X.comp scope cells C (x :: M) s2 H2 fp) elt te)
    (h : PIE X pins σ (.Name x px) (fun J H1 => CompW J H1 (oneOf tc te (sel idx σ)) Q) itv s)
    (hR : ∀ (D C : Addr) (ys : List V) (H' : Hp) (s' : Shared), s.heap.objs.size ≤ D → s.heap.objs.size ≤ C → D ≠ C → H' D = none → H' C = none → Q ys H' → (∃ m, s'.heap.Ns C m) →
      (∀ h' tk, Heap.SameBut C s'.heap h' → Inv X pins σ (upd H' D (.lst ys)) { s' with heap := h', toks := tk }) → RR (.ref D) C (.ok .next) s') :
    wpAny (model X.prog X.w) X.A (newList []) (fun acc s₃ => wpAny (model X.prog X.w) X.A (newFunctionEnv scope X.env.globals (clOf X.env.cells scope.names []) [] X.env.qual none .none (some X.env)) (fun cenv s₄ =>
      codeAny (model X.prog X.w) X.A (.compStart (.ListComp elt [⟨.Name x px, iter, ifs, 0⟩] scope pos) 0 itv acc { cenv with scope := relabel scope X.env }) (RR acc cenv.locals) s₄) X.xe s₃) X.xe s := by
  obtain ⟨it, fp, tn, J, H2, e, I2, T, st2, f2, n, W, w0, hn, turn⟩ := h
  subst e
  have ho : ∀ b ∈ fp, ∃ o, s.heap.get? b = some o := fun b hb => let ⟨o, e, _⟩ := T.obj 0 _ st2 b hb; ⟨o, e⟩
  have I3 := comp_start (x := x) ok hc I2 f2 ho
  have sz1 : (s.heap.push { cls := .type "list", dict := none, data := .seq ([] : List Value).toArray }).objs.size = s.heap.objs.size + 1 := Heap.size_push ..
  have keep0 : ∀ b o, s.heap.get? b = some o → (pushCells ((s.heap.push { cls := .type "list", dict := none, data := .seq ([] : List Value).toArray }).push { cls := .type "dict", data := .dict #[] }) scope.names).get? b = some o :=
    fun b o e => pushCells_keeps _ _ _ _ (Heap.get?_push_of_some _ (Heap.get?_push_of_some _ e))
  have acc0 : (pushCells ((s.heap.push { cls := .type "list", dict := none, data := .seq ([] : List Value).toArray }).push { cls := .type "dict", data := .dict #[] }) scope.names).PlainList s.heap.objs.size ([] : List Value).toArray :=
    ⟨_, pushCells_keeps _ _ _ _ (Heap.get?_push_of_some _ (Heap.get?_push_size _ rfl))⟩
  have fpLt : ∀ b ∈ fp, b < s.heap.objs.size := fun b hb => let ⟨_, e⟩ := ho b hb; Heap.lt_size e
  refine wpAny_newList ?_
  refine newCompEnv ?_
  dsimp only
  rw [sz1]
  generalize hcells : cellsFrom (s.heap.objs.size + 1 + 1) scope.names (clOf X.env.cells scope.names []) = cells
  have hcells' : cellsFrom (s.heap.objs.size + 2) scope.names (clOf X.env.cells scope.names []) = cells := hcells
  rw [hcells'] at I3
  generalize hh : pushCells ((s.heap.push { cls := .type "list", dict := none, data := .seq ([] : List Value).toArray }).push { cls := .type "dict", data := .dict #[] }) scope.names = h1 at I3 keep0 acc0 ⊢
  have ht := ht cells (s.heap.objs.size + 1) s H2 fp
  have he := he cells (s.heap.objs.size + 1) s H2 fp
  have st3 : tn 0 h1 := T.keep 0 _ _ st2 fun b hb o e => keep0 b o e
  have hg : PG (X.comp scope cells (s.heap.objs.size + 1) (x :: M) s H2 fp) (.Name x px) (gName 0) := by
    refine pg_name hN rfl ?_ ?_
    · show (relabel scope X.env).names.lookup x = some .local ∨ (relabel scope X.env).names.lookup x = some .cell
      rw [show (relabel scope X.env).names.lookup x = _ from kindOf_relabel scope.names x]
      rcases hx with z | z
      · rw [z]; exact .inl rfl
      · rw [z]; exact .inr rfl
    · rcases hx with z | z
      · refine .inr ?_
        show (relabel scope X.env).names.lookup x = some .local
        rw [show (relabel scope X.env).names.lookup x = _ from kindOf_relabel scope.names x, z]
        rfl
      · refine .inl ?_
        show (scope.names.lookup x == some .cell) = true
        rw [z]; rfl
  have stat : ∀ {pins' : List (Addr × Obj)} {H' : Hp}, (∀ p ∈ pins', p.1 = s.heap.objs.size) → (∀ b ∈ fp, H' b = none) → ∀ b ∈ fp, FpOk (X.comp scope cells (s.heap.objs.size + 1) (x :: M) s H2 fp) pins' H' b := fun {pins' H'} hp hn b hb =>
    ⟨hn b hb, (I3.ok.exf b hb).1, I3.ok.exfs b hb, .inl hb, (I3.ok.exf b hb).2, fun p hp' => by
      have e := hp p (show p ∈ pins' from by simpa [Cx.comp] using hp')
      rw [e]; exact Nat.ne_of_gt (fpLt b hb)⟩
  have loop : ∀ (s₄ : Shared), s₄ = { s with heap := h1 } → codeAny (model X.prog X.w) X.A (.compLoop (.ListComp elt [⟨.Name x px, iter, ifs, 0⟩] scope pos) 0 (.ref it) (.ref s.heap.objs.size) (compEnvC scope cells (s.heap.objs.size + 1) X.env))
      (RR (.ref s.heap.objs.size) (s.heap.objs.size + 1)) s₄ := by
    rintro s₄ rfl
    refine compLoop_any (fun k s' => ∃ (i : Nat) (ys : List V) (its : List Value) (H' : Hp), Inv (X.comp scope cells (s.heap.objs.size + 1) (x :: M) s H2 fp) [] (none :: sel idx σ) H' s' ∧ tn i s'.heap ∧ (∀ b ∈ fp, H' b = none) ∧ H' s.heap.objs.size = none ∧
      s'.heap.PlainList s.heap.objs.size its.toArray ∧ Vals ys its ∧ ys.length ≤ i ∧ i ≤ n ∧ W i ys H' ∧ k = n - i) ?_ n ⟨0, [], [], H2, I3, st3, fun b hb => (f2 b hb).1, I2.hok.fresh (Nat.le_refl _), acc0, .nil, Nat.le_refl _, Nat.zero_le _, w0, rfl⟩
    rintro k s' ⟨i, ys, its, H', I', st', fr', hD', hpl', hv', hlen, hlin, w', rfl⟩
    obtain ⟨nn, hobj⟩ := id hpl'
    have pinD : ∀ {H5 : Hp} {s5 : Shared} {σ5 : St} {P5 : List (Addr × Obj)}, Inv (X.comp scope cells (s.heap.objs.size + 1) (x :: M) s H2 fp) P5 σ5 H5 s5 → s5.heap.get? s.heap.objs.size = some { cls := .type "list", data := .seq its.toArray nn } → H5 s.heap.objs.size = none →
        ∀ p ∈ [(s.heap.objs.size, ({ cls := .type "list", data := .seq its.toArray nn } : Obj))], s5.heap.get? p.1 = some p.2 ∧ H5 p.1 = none ∧ p.1 ≠ (X.comp scope cells (s.heap.objs.size + 1) (x :: M) s H2 fp).env.locals ∧ p.1 ∉ (X.comp scope cells (s.heap.objs.size + 1) (x :: M) s H2 fp).fs ∧ ∀ v, p.2.data ≠ .cell v :=
      fun {H5 s5 σ5 P5} I5 e5 n5 p hp => by
        have ep : p = (s.heap.objs.size, ({ cls := .type "list", data := .seq its.toArray nn } : Obj)) := by simpa using hp
        subst ep
        refine ⟨e5, n5, Nat.ne_of_lt (Nat.lt_succ_self _), fun z => ?_, fun v z => by cases z⟩
        obtain ⟨_, o, ho, _⟩ := I5.ok.funs.mem z
        exact absurd (Heap.lt_size ho) (Nat.lt_irrefl _)
    have ID := I'.pins_of (pinD I' hobj hD')
    have ndp : ∀ p ∈ [(s.heap.objs.size, ({ cls := .type "list", data := .seq its.toArray nn } : Obj))], p.1 = s.heap.objs.size := fun p hp => by
      have ep : p = (s.heap.objs.size, ({ cls := .type "list", data := .seq its.toArray nn } : Obj)) := by simpa using hp
      rw [ep]
    rcases turn i ys H' w' with ⟨stop, qn⟩ | ⟨go, hin, N, hNW, step⟩
    · refine thn (T.done (X.comp scope cells (s.heap.objs.size + 1) (x :: M) s H2 fp) rfl rfl rfl hc i _ s' _ H' (fun _ _ => False) ID (stat ndp fr') st' stop) fun r s4 ⟨hr, I4⟩ => ?_
      subst hr
      have pin4 := I4.pin (s.heap.objs.size, ({ cls := .type "list", data := .seq its.toArray nn } : Obj)) (by simp [Cx.comp])
      obtain ⟨m4, hm4, _⟩ := id I4.loc
      refine hR s.heap.objs.size (s.heap.objs.size + 1) ys H' s4 (Nat.le_refl _) (Nat.le_succ _) (Nat.ne_of_lt (Nat.lt_succ_self _)) pin4.2.1 I4.free qn ⟨m4, hm4⟩ fun h' tk hs' => ?_
      have neC : ∀ b, b < s.heap.objs.size → b ≠ s.heap.objs.size + 1 := fun b hb => Nat.ne_of_lt (Nat.lt_succ_of_lt hb)
      have neD : ∀ b, b < s.heap.objs.size → b ≠ s.heap.objs.size := fun b hb => Nat.ne_of_lt hb
      have u4 := I4.base
      refine I2.call' (s' := { s4 with heap := h', toks := tk }) (ch := fp) I4.os ?_ ?_ I4.bare fun b hb => ?_
      · refine ⟨fun b o e1 e2 e3 e4 => ?_, fun b o e1 e2 e3 e4 => ?_, fun b o e1 e2 e3 => ?_, fun b o e1 e2 => ?_, fun b xs e1 => ?_, fun b o u e1 => ?_, fun b ps e1 => ?_⟩
        · exact (hs'.2 b (neC b (Heap.lt_size e1))).trans (u4.keep b o e1 e2 e3 e4)
        · obtain ⟨sl, q⟩ := u4.slot b o e1 e2 e3 e4
          exact ⟨sl, (hs'.2 b (neC b (Heap.lt_size e1))).trans q⟩
        · rw [upd_ne (neD b (Heap.lt_size e1))]; exact u4.free b o e1 e2 e3
        · obtain ⟨o', q⟩ := u4.there b o e1 e2
          exact ⟨o', (hs'.2 b (neC b (Heap.lt_size e1))).trans q⟩
        · have q := u4.tups b xs e1
          rw [upd_ne (ne_of_none q pin4.2.1)]; exact q
        · have q := u4.frzs b o u e1
          rw [upd_ne (ne_of_none q pin4.2.1)]; exact q
        · obtain ⟨more, q⟩ := u4.tbls b ps e1
          exact ⟨more, by rw [upd_ne (ne_of_none q pin4.2.1)]; exact q⟩
      · intro b o e1
        by_cases hb : b = s.heap.objs.size
        · subst hb
          rw [upd_same] at e1; cases e1
          exact ⟨Nat.le_trans hlen (Nat.le_trans hlin hn), its, nn, hv', (hs'.2 _ (Nat.ne_of_lt (Nat.lt_succ_self _))).trans pin4.1⟩
        · rw [upd_ne hb] at e1
          refine (I4.hok b o e1).stay (fun c u hcu q => (hs'.2 c ?_).trans q) (fun c q => by rw [upd_ne (ne_of_none q pin4.2.1)]; exact q) fun c xs q => by rw [upd_ne (ne_of_none q pin4.2.1)]; exact q
          rintro rfl
          rcases hcu with z | z
          · rw [← z] at e1
            have z2 := I4.free
            rw [show (X.comp scope cells (s.heap.objs.size + 1) (x :: M) s H2 fp).env.locals = s.heap.objs.size + 1 from rfl, e1] at z2
            cases z2
          · have z2 := I4.free
            rw [show (X.comp scope cells (s.heap.objs.size + 1) (x :: M) s H2 fp).env.locals = s.heap.objs.size + 1 from rfl, z] at z2
            cases z2
      · obtain ⟨_, g1, g2, g3, g4, g5⟩ := f2 b hb
        exact ⟨g3, g1, g4, g5⟩
    · refine thn (T.item (X.comp scope cells (s.heap.objs.size + 1) (x :: M) s H2 fp) rfl rfl rfl hc i _ s' _ H' (fun _ _ => False) ID (stat ndp fr') st' go) fun r s4 ⟨u, hr, h4⟩ => ?_
      subst hr
      refine thn h4 fun _ s5 ⟨y, H5, I5, r5, y5, st5, fr5⟩ => ?_
      have I5' := I5.pinned (stat ndp fr5) (T.obj _ _ st5)
      refine thn (hg _ s5 _ H5 y u (fun σ' H6 => σ' = some y :: sel idx σ ∧ H6 = H5) I5' r5 ⟨rfl, rfl⟩) fun _ s6 ⟨σ6, H6, I6, e6, e6'⟩ => ?_
      subst e6 e6'
      have fin : ∀ {H8 : Hp} {s8 : Shared} {σ8 : St}, Inv (X.comp scope cells (s.heap.objs.size + 1) (x :: M) s H2 fp) ([(s.heap.objs.size, ({ cls := .type "list", data := .seq its.toArray nn } : Obj))] ++ pinsAt fp s5.heap) σ8 H8 s8 →
          s8.heap.PlainList s.heap.objs.size its.toArray ∧ H8 s.heap.objs.size = none ∧ tn (i + 1) s8.heap ∧ ∀ b ∈ fp, H8 b = none := fun {H8 s8 σ8} I8 => by
        have p8 := I8.pin (s.heap.objs.size, ({ cls := .type "list", data := .seq its.toArray nn } : Obj)) (by simp [Cx.comp])
        refine ⟨⟨nn, p8.1⟩, p8.2.1, T.keep _ _ _ st5 fun b hb o e => (I8.pin (b, o) (List.mem_append_right _ (List.mem_append_right _ (mem_pinsAt hb e)))).1, fun b hb => ?_⟩
        obtain ⟨o, e, _⟩ := T.obj _ _ st5 b hb
        exact (I8.pin (b, o) (List.mem_append_right _ (List.mem_append_right _ (mem_pinsAt hb e)))).2.1
      have back : ∀ {H8 : Hp} {s8 : Shared} {P8 : List (Addr × Obj)}, Inv (X.comp scope cells (s.heap.objs.size + 1) (x :: M) s H2 fp) P8 (some y :: sel idx σ) H8 s8 → Inv (X.comp scope cells (s.heap.objs.size + 1) (x :: M) s H2 fp) [] (none :: sel idx σ) H8 s8 := fun I8 =>
        (I8.pins_of fun p hp => absurd hp (by simp)).weak rfl fun j v e => by
          cases j with
          | zero => cases e
          | succ j => exact e
      refine thn (ht _ s6 _ _ _ I6 (step y _ y5)) fun b s7 ⟨H7, I7, q7⟩ => ?_
      cases b with
      | false =>
        have q7' : W (i + 1) (ys ++ []) H7 := hNW none H7 q7
        rw [List.append_nil] at q7'
        obtain ⟨g1, g2, g3, g4⟩ := fin I7
        refine show (if false = true then _ else _) from ?_
        rw [if_neg Bool.false_ne_true]
        exact ⟨n - (i + 1), by omega, i + 1, ys, its, H7, back I7, g3, g4, g2, g1, hv', Nat.le_succ_of_le hlen, hin, q7', rfl⟩
      | true =>
        refine show (if true = true then _ else _) from ?_
        rw [if_pos rfl]
        have q7' : te (some y :: sel idx σ) H7 fun v H3 => N (some v) H3 := q7
        refine thn (he _ s7 _ _ _ I7 q7') fun u8 s8 ⟨v8, H8, I8, r8, w8⟩ => ?_
        have w8 : W (i + 1) (ys ++ [v8]) H8 := hNW (some v8) H8 w8
        obtain ⟨g1, g2, g3, g4⟩ := fin I8
        refine wpAny_list_append_plain g1 (fun h' hpl hs' => ?_) (by
          rw [List.size_toArray, ← hv'.length]
          exact Nat.le_trans hlen (Nat.le_trans hlin hn))
        have I9 := back I8
        have hpl2 : h'.PlainList s.heap.objs.size (its ++ [u8]).toArray := by
          have e : (its ++ [u8]).toArray = its.toArray.push u8 := by simp
          rw [e]; exact hpl
        refine ⟨n - (i + 1), by omega, i + 1, ys ++ [v8], its ++ [u8], H8, I9.turned (it := s.heap.objs.size) (t' := s8.toks) (fun b o hb e => (hs'.2 b hb).trans e) g2 (Nat.ne_of_lt (Nat.lt_succ_self _)) (.inr (Nat.le_refl _)) (fun z c ec hcz => ?_) (fun p hp => absurd hp (by simp [Cx.comp])),
          T.keep _ _ _ g3 (fun b hb o e => (hs'.2 b (Nat.ne_of_lt (fpLt b hb))).trans e), g4, g2, hpl2, hv'.append (.cons r8 .nil), by rw [List.length_append]; exact Nat.succ_le_succ hlen, hin, w8, rfl⟩
        obtain ⟨v, o, ho, hd⟩ := I9.cell z c ec
        obtain ⟨n9, g9⟩ := g1
        rw [hcz, g9] at ho
        cases ho
        cases hd
  exact codeAny_compStart_list (loop _ rfl) (T.self _ 0 _ _ _ st3 (loop _ rfl))
theorem pe_compIf {elt iter : Expr} {ifs : List Expr} {scope : Scope} {pos : Pos} {x : Str} {px : Pos} {M : List Str} {idx : List Nat} {wi : TI} {tc : TT} {te : TE}
    (hc : X.calm = true) (hi : PI X (.Name x px) iter wi) (ok : CompOk X scope M idx) (hN : (x :: M).Nodup) (hx : scope.names.lookup x = some .local ∨ scope.names.lookup x = some .cell)
    (ht : ∀ cells C s2 H2 fp, PTs (X.comp scope cells C (x :: M) s2 H2 fp) ifs tc) (he : ∀ cells C s2 H2 fp, PE (X.comp scope cells C (x :: M) s2 H2 fp) elt te)
    (hs : ∀ x, foldedSetIterable iter X.env x = pure x := by intro _; rfl) : PE X (.ListComp elt [⟨.Name x px, iter, ifs, 0⟩] scope pos) (tCompIf wi idx tc te) := by
  intro pins s σ H Q I h
  rw [eval_ListComp]
  refine wpAny_comprehension_free (use := none) rfl hs (closureFor_cl fun y hy e => I.ok.has y.1 (ok.fre y hy e)) ok.kind ok.loc (thn (hi pins s σ H _ I h) fun v s1 h1 => thn h1 fun itv s2 h2 => ?_)
  refine comp_block (RR := fun acc C => compPost (model X.prog X.w) X.A X.xe none (EP X pins σ Q) acc C) hc ok hN hx ht he h2 fun D C ys H' s' hD hC hDC nD nC q hm hI => ?_
  obtain ⟨m, hm⟩ := hm
  exact ⟨m, hm, fun h' hs' => ⟨.ref D, upd H' D (.lst ys), hI h' s'.toks hs', rfl, q D nD⟩⟩
def tSetComp (i : Nat) (t : TE) : TS := fun D σ H => t σ H fun v H1 => D.nx (σ.set i (some v)) H1
theorem ps_setComp {elt iter : Expr} {ifs : List Expr} {scope : Scope} {pos spos py : Pos} {x y : Str} {px : Pos} {M : List Str} {idx : List Nat} {wi : TI} {tc : TT} {te : TE} {i : Nat}
    (hNd : X.N.Nodup) (hi' : X.N[i]? = some y) (hy : Loc X.env.scope y)
    (hc : X.calm = true) (hi : PI X (.Name x px) iter wi) (ok : CompOk X scope M idx) (hN : (x :: M).Nodup) (hx : scope.names.lookup x = some .local ∨ scope.names.lookup x = some .cell)
    (ht : ∀ cells C s2 H2 fp, PTs (X.comp scope cells C (x :: M) s2 H2 fp) ifs tc) (he : ∀ cells C s2 H2 fp, PE (X.comp scope cells C (x :: M) s2 H2 fp) elt te)
    (hs : ∀ x, foldedSetIterable iter X.env x = pure x := by intro _; rfl)
    (hsw : swapsWith (.ListComp elt [⟨.Name x px, iter, ifs, 0⟩] scope pos) (some (.Name y py)) spos.line X.env = pure true := by rfl)
    (hf : X.fn y = true ∨ X.env.scope.names.lookup y = some .local := by first | exact .inl rfl | exact .inr rfl | assumption) :
    PS X (.Assign [.Name y py] (.ListComp elt [⟨.Name x px, iter, ifs, 0⟩] scope pos) spos) (tSetComp i (tCompIf wi idx tc te)) := by
  intro pins s σ H D I h
  rw [exec_Assign_Name_used _ _ _ _ hsw]
  refine wpAny_bind (wpAny_standAt (wpAny_bind ?_))
  show wpAny _ X.A (do let _ ← comprehension (.ListComp elt [⟨.Name x px, iter, ifs, 0⟩] scope pos) scope X.env _ (newList []) false (eval iter X.env) (some (assign (.Name y py) X.env))) _ _ s
  refine wpAny_bind (wpAny_mono (wpAny_comprehension_free (use := some (assign (.Name y py) X.env)) (Q := fun _ s' => SP X pins D .next s') rfl hs (closureFor_cl fun y hy e => I.ok.has y.1 (ok.fre y hy e)) ok.kind ok.loc
    (thn (hi pins s σ H _ I h) fun v s1 h1 => thn h1 fun itv s2 h2 => ?_)) (fun _ s' hq => wpAny_pure (wpAny_pure hq)) fun _ _ e => e)
  have I2 : ∃ H', Inv X pins σ H' s2 := let ⟨_, _, _, _, H', _, I2, _⟩ := h2; ⟨H', I2⟩
  refine comp_block (RR := fun acc C => compPost (model X.prog X.w) X.A X.xe (some (assign (.Name y py) X.env)) (fun _ s' => SP X pins D .next s') acc C) hc ok hN hx ht he h2 fun L C ys H' s' hD hC hDC nD nC q hm hI => ?_
  obtain ⟨H2, I2⟩ := I2
  obtain ⟨m, hm⟩ := hm
  have I5 : Inv X pins σ (upd H' L (.lst ys)) s' := hI s'.heap s'.toks (Heap.SameBut.refl ..)
  obtain ⟨mL, hmL, _⟩ := id I2.loc
  have ltL : X.env.locals < s2.heap.objs.size := hmL.lt
  have neL : C ≠ X.env.locals := Nat.ne_of_gt (Nat.lt_of_lt_of_le ltL hC)
  have neCell : ∀ z c, X.env.cells.lookup z = some c → c ≠ C := fun z c e => by
    obtain ⟨v, q⟩ := I2.cell z c e
    exact Nat.ne_of_lt (Nat.lt_of_lt_of_le q.lt hC)
  show wpAny _ X.A (assign (.Name y py) X.env (.ref L)) _ _ _
  refine wpAny_assign_Name (store_ok2 (v := .ref L) I5 hNd hi' hy rfl (fun s6 I6 hch => ?_) hf)
  obtain ⟨a, hsa, ha⟩ := hch
  have neA : C ≠ a := by
    rcases ha with e | e
    · rw [e]; exact neL
    · exact Ne.symm (neCell y a e)
  refine ⟨m, hm.sameBut hsa neA, fun h' hs' => ?_⟩
  refine ⟨_, _, I6.turned (it := C) (t' := s6.toks) (fun b o hb e => (hs'.2 b hb).trans e) (by rw [upd_ne (Ne.symm hDC)]; exact nC) neL (.inr (Nat.le_trans I2.sz hC)) neCell (fun p hp z => ?_), q L nD⟩
  have e2 := (I2.pin p hp).1
  exact absurd (Nat.lt_of_lt_of_le (Heap.lt_size e2) hC) (by rw [z]; exact Nat.lt_irrefl _)
end
theorem compW_list {K : PySem.W.Frag} {a : Addr} {xs : List V} {H : Hp} {one : V → Hp → (Option V → Hp → Prop) → Prop} {Q : List V → Hp → Prop} (Pv : Nat → List V → Hp → Prop) (h0 : Pv 0 [] H) (hn : xs.length ≤ sizeLine)
    (hl : ∀ i ys H, i ≤ xs.length → Pv i ys H → SqL K H a xs) (hs : ∀ i x ys H, xs[i]? = some x → Pv i ys H → one x H fun o H2 => Pv (i + 1) (ys ++ o.toList) H2) (hd : ∀ ys H, Pv xs.length ys H → Q ys H) : CompW (Itl K a) H one Q := by
  refine ⟨xs.length, fun i ys H => i ≤ xs.length ∧ Pv i ys H, ⟨Nat.zero_le _, h0⟩, hn, ?_⟩
  rintro i ys H ⟨hi, p⟩
  have q := hl i ys H hi p
  by_cases hlt : i < xs.length
  · refine .inr ⟨⟨xs, xs[i], q, by simp [hlt]⟩, hlt, fun o H3 => Pv (i + 1) (ys ++ o.toList) H3, fun o H3 z => ⟨hlt, z⟩, fun x H2 y => ?_⟩
    obtain ⟨e, y⟩ := y
    subst e
    exact hs i x ys _ (y xs q) p
  · have e : i = xs.length := by omega
    subst e
    exact .inl ⟨⟨xs, q, Nat.le_refl _⟩, hd ys H p⟩
theorem compW_tup {K : PySem.W.Frag} {a : Addr} {xs : List V} {H : Hp} {one : V → Hp → (Option V → Hp → Prop) → Prop} {Q : List V → Hp → Prop} (Pv : Nat → List V → Hp → Prop) (h0 : Pv 0 [] H) (hn : xs.length ≤ sizeLine)
    (hl : ∀ i ys H, i ≤ xs.length → Pv i ys H → SqT K H a xs) (hs : ∀ i x ys H, xs[i]? = some x → Pv i ys H → one x H fun o H2 => Pv (i + 1) (ys ++ o.toList) H2) (hd : ∀ ys H, Pv xs.length ys H → Q ys H) : CompW (Itt K a) H one Q := by
  refine ⟨xs.length, fun i ys H => i ≤ xs.length ∧ Pv i ys H, ⟨Nat.zero_le _, h0⟩, hn, ?_⟩
  rintro i ys H ⟨hi, p⟩
  have q := hl i ys H hi p
  by_cases hlt : i < xs.length
  · refine .inr ⟨⟨xs, xs[i], q, by simp [hlt]⟩, hlt, fun o H3 => Pv (i + 1) (ys ++ o.toList) H3, fun o H3 z => ⟨hlt, z⟩, fun x H2 y => ?_⟩
    obtain ⟨e, y⟩ := y
    subst e
    exact hs i x ys _ (y xs q) p
  · have e : i = xs.length := by omega
    subst e
    exact .inl ⟨⟨xs, q, Nat.le_refl _⟩, hd ys H p⟩
theorem compW_range {lo : Int} {n : Nat} {H : Hp} {one : V → Hp → (Option V → Hp → Prop) → Prop} {Q : List V → Hp → Prop} (Pv : Nat → List V → Hp → Prop) (h0 : Pv 0 [] H) (hn : n ≤ sizeLine)
    (hs : ∀ i ys H, i < n → Pv i ys H → one (.int (lo + i)) H fun o H2 => Pv (i + 1) (ys ++ o.toList) H2) (hd : ∀ ys H, Pv n ys H → Q ys H) : CompW (Itr lo n) H one Q := by
  refine ⟨n, fun i ys H => i ≤ n ∧ Pv i ys H, ⟨Nat.zero_le _, h0⟩, hn, ?_⟩
  rintro i ys H ⟨hi, p⟩
  by_cases hlt : i < n
  · refine .inr ⟨hlt, hlt, fun o H3 => Pv (i + 1) (ys ++ o.toList) H3, fun o H3 z => ⟨hlt, z⟩, fun x H2 y => ?_⟩
    obtain ⟨e, y⟩ := y
    subst e y
    exact hs i ys _ hlt p
  · have e : i = n := by omega
    subst e
    exact .inl ⟨Nat.le_refl _, hd ys H p⟩
end L2
namespace L2
open PySem PySem.Spec PyProof.Rows
mutual
inductive IsD (H : Hp) : V → PyData → Prop
  | non : IsD H .non .none
  | bl (b : Bool) : IsD H (.bl b) (.bool b)
  | int (i : Int) : IsD H (.int i) (.int i)
  | str (x : Str) : IsD H (.str x) (.str x)
  | tup {a : Addr} {xs : List V} {ds : List PyData} : H a = some (.tup xs) → IsDs H xs ds → IsD H (.ref a) (.tuple ds)
inductive IsDs (H : Hp) : List V → List PyData → Prop
  | nil : IsDs H [] []
  | cons {x : V} {xs : List V} {d : PyData} {ds : List PyData} : IsD H x d → IsDs H xs ds → IsDs H (x :: xs) (d :: ds)
end
def KeepT (H H' : Hp) : Prop := ∀ a xs, H a = some (.tup xs) → H' a = some (.tup xs)
theorem KeepT.trans {H H1 H2 : Hp} (a : KeepT H H1) (b : KeepT H1 H2) : KeepT H H2 := fun c xs h => b c xs (a c xs h)
mutual
theorem IsD.keep {H H' : Hp} (k : KeepT H H') : ∀ {v : V} {d : PyData}, IsD H v d → IsD H' v d
  | _, _, .non => .non
  | _, _, .bl b => .bl b
  | _, _, .int i => .int i
  | _, _, .str x => .str x
  | _, _, .tup h r => .tup (k _ _ h) (IsDs.keep k r)
theorem IsDs.keep {H H' : Hp} (k : KeepT H H') : ∀ {xs : List V} {ds : List PyData}, IsDs H xs ds → IsDs H' xs ds
  | _, _, .nil => .nil
  | _, _, .cons h r => .cons (IsD.keep k h) (IsDs.keep k r)
end
theorem IsDs.length {H : Hp} : ∀ {xs : List V} {ds : List PyData}, IsDs H xs ds → xs.length = ds.length
  | _, _, .nil => rfl
  | _, _, .cons _ r => by rw [List.length_cons, List.length_cons, IsDs.length r]
theorem IsDs.get {H : Hp} : ∀ {xs : List V} {ds : List PyData} {i : Nat} {d : PyData}, IsDs H xs ds → ds[i]? = some d → ∃ x, xs[i]? = some x ∧ IsD H x d
  | _, _, i, d, .nil, e => by simp at e
  | _, _, 0, d, .cons h _, e => by simp at e; subst e; exact ⟨_, rfl, h⟩
  | _, _, i + 1, d, .cons _ r, e => by
    obtain ⟨x, e1, h⟩ := IsDs.get (i := i) (d := d) r (by simpa using e)
    exact ⟨x, by simpa using e1, h⟩
theorem IsDs.append {H : Hp} : ∀ {xs ys : List V} {ds es : List PyData}, IsDs H xs ds → IsDs H ys es → IsDs H (xs ++ ys) (ds ++ es)
  | _, _, _, _, .nil, s => s
  | _, _, _, _, .cons h r, s => .cons h (IsDs.append r s)
theorem IsD.tuple_inv {H : Hp} {v : V} {ds : List PyData} (h : IsD H v (.tuple ds)) : ∃ a xs, v = .ref a ∧ H a = some (.tup xs) ∧ IsDs H xs ds := by
  cases h with
  | tup e r => exact ⟨_, _, rfl, e, r⟩
section
variable {X : Cx} {pins : List (Addr × Obj)} {σ : St} {H : Hp} {s : Shared}
mutual
theorem IsD.reads {P : Program} {w : World} {h : Heap} {H : Hp} (I : HOk P w H h) : ∀ {v : V} {d : PyData} {u : Value}, IsD H v d → RelV v u → ∃ as, Reads h u d as
  | _, _, u, .non, r => by cases (show u = Value.none from r); exact ⟨_, .none⟩
  | _, _, u, .bl b, r => by cases (show u = Value.bool b from r); exact ⟨_, .bool b⟩
  | _, _, u, .int i, r => by obtain ⟨t, rfl⟩ := (show ∃ t, u = Value.int i t from r); exact ⟨_, .int i t⟩
  | _, _, u, .str x, r => by obtain ⟨t, rfl⟩ := (show ∃ t, u = Value.str x t from r); exact ⟨_, .str x t⟩
  | _, _, u, .tup (a := a) (xs := xs) e rs, r => by
    cases (show u = Value.ref a from r)
    obtain ⟨_, its, rv, o, h1, h2, n, h3⟩ := (show ObjOk P w H h a (.tup xs) from I a _ e)
    obtain ⟨as, hr⟩ := IsDs.reads I rs rv
    exact ⟨as, .tuple h1 h2 h3 (by simpa using hr)⟩
theorem IsDs.reads {P : Program} {w : World} {h : Heap} {H : Hp} (I : HOk P w H h) : ∀ {xs : List V} {ds : List PyData} {us : List Value}, IsDs H xs ds → Vals xs us → ∃ as, ReadsAll h us ds as
  | _, _, _, .nil, .nil => ⟨_, .nil⟩
  | _, _, _, .cons h r, .cons v vs => by
    obtain ⟨as, h1⟩ := IsD.reads I h v
    obtain ⟨bs, h2⟩ := IsDs.reads I r vs
    exact ⟨_, .cons h1 h2⟩
end
def CmpD (u : Nat) (dx dy : PyData) : Prop := dx.canLay0 = true ∧ dy.canLay0 = true ∧ dx.depth ≤ 20
def rEqD (u : Nat) : R2 := fun x y H Q => ∃ dx dy, IsD H x dx ∧ IsD H y dy ∧ CmpD u dx dy ∧ Q (.bl (PyData.eqv dx dy)) H
def rNeD (u : Nat) : R2 := fun x y H Q => ∃ dx dy, IsD H x dx ∧ IsD H y dy ∧ CmpD u dx dy ∧ Q (.bl (!PyData.eqv dx dy)) H
theorem unitsD {A : Around} {a b : Nat} (hu : A.units + 64 < cLine) (h : a ≤ 20) : A.units + min a b < cLine := by
  have : min a b ≤ a := Nat.min_le_left _ _
  omega
theorem op_eqD (hu : X.A.units + 64 < cLine) : OpR X (compareOp .Eq) (rEqD 0) := by
  intro pins s σ H x y v u Q I rx ry h
  obtain ⟨dx, dy, hx, hy, ⟨c1, c2, c3⟩, q⟩ := h
  obtain ⟨as, r1⟩ := hx.reads I.hok rx
  obtain ⟨bs, r2⟩ := hy.reads I.hok ry
  exact PySem.SeqAt.compareEq_reads r1 r2 c1 c2 (unitsD hu c3) ⟨.bl _, H, I, rfl, q⟩
theorem op_neD (hu : X.A.units + 64 < cLine) : OpR X (compareOp .NotEq) (rNeD 0) := by
  intro pins s σ H x y v u Q I rx ry h
  obtain ⟨dx, dy, hx, hy, ⟨c1, c2, c3⟩, q⟩ := h
  obtain ⟨as, r1⟩ := hx.reads I.hok rx
  obtain ⟨bs, r2⟩ := hy.reads I.hok ry
  exact PySem.SeqAt.compareNe_reads r1 r2 c1 c2 (unitsD hu c3) ⟨.bl _, H, I, rfl, q⟩
theorem call_sum (hc : X.calm = true) : CallR X (.builtin "sum") (fun xs H Q => ∃ (p : Addr) (ns : List Int), xs = [.ref p] ∧ SqL X.K H p (ns.map V.int) ∧ Q (.int ns.sum) H) := by
  intro pins s σ H xs us Q I r h
  obtain ⟨p, ns, rfl, hS, q⟩ := h
  obtain ⟨u, rfl, e⟩ := vals1 r
  obtain rfl : u = Value.ref p := e
  obtain ⟨its, hv, ⟨o, n, h1, h2, h3, h4⟩, _⟩ := I.list hS
  have hi : IntsAre its ns := intsAre_of hv
  obtain ⟨xs, hx⟩ := hi.allInts.items
  have hl : s.heap.IsList p its.toArray := ⟨o, h1, h2, n, h4⟩
  refine sum_intListG (I.ok.hd hc) (hx ▸ hl) fun h' tk t' hk => ⟨.int ns.sum, H, I.kept hk, ⟨t', ?_⟩, q⟩
  have e1 : ns = xs.toList.map (·.1) := by
    rw [← nums_intItems, ← hx]
    exact (show numsOf its.toArray.toList = ns from hi.numsOf).symm
  rw [preSum_eq, List.take_of_length_le (by simp), e1]
theorem bools_of : ∀ {bs : List Bool} {us : List Value}, Vals (bs.map V.bl) us → LSm.BoolsAre us bs
  | [], _, .nil => .nil
  | b :: bs, _, .cons r t => by
    cases (show _ = Value.bool b from r)
    exact .cons b (bools_of t)
theorem call_all (hc : X.calm = true) : CallR X (.builtin "all") (fun xs H Q => ∃ (p : Addr) (bs : List Bool), xs = [.ref p] ∧ SqL X.K H p (bs.map V.bl) ∧ Q (.bl (bs.all id)) H) := by
  intro pins s σ H xs us Q I r h
  obtain ⟨p, bs, rfl, hS, q⟩ := h
  obtain ⟨u, rfl, e⟩ := vals1 r
  obtain rfl : u = Value.ref p := e
  obtain ⟨its, hv, ⟨o, n, h1, h2, h3, h4⟩, _⟩ := I.list hS
  have hb := bools_of hv
  have hl : s.heap.IsList p its.toArray := ⟨o, h1, h2, n, h4⟩
  have hlt : p < s.heap.objs.size := Heap.lt_size h1
  refine call_all_walk (wpAny_pyIter_list hl ?_)
  refine ⟨s.heap.objs.size, [s.heap.objs.size, p], [s.heap.objs.size], its.toArray.size, _, _, fun i => (bs[i]?).getD true, rfl, Walks.list (A := X.A.in1) (I.ok.hd hc) _ p (Nat.ne_of_lt hlt) its.toArray,
    ⟨⟨_, Heap.get?_push_size _ rfl, rfl, rfl⟩, hl.push _⟩, fun i v s' Q' E' hP hQ => ?_, fun h' tk hk => ?_⟩
  · obtain ⟨b, e, rfl⟩ := hb.get i v (by simpa using hP)
    simp only [e, Option.getD_some] at hQ
    exact wpAny_truthy_bool hQ
  · have e : ((List.range its.toArray.size).all fun i => (bs[i]?).getD true) = bs.all id := by
      rw [List.size_toArray, hb.length]; exact LSm.range_all bs
    rw [e]
    exact ⟨.bl _, H, I.kept (LSm.kept_iter hk), rfl, q⟩
def kindV (K : PySem.W.Frag) (H : Hp) (x : V) (T : String) : Prop := match x with
  | .non => T = "NoneType"
  | .bl _ => T = "bool"
  | .int _ => T = "int"
  | .str _ => T = "str"
  | .ref a => (T = "tuple" ∧ ∃ xs, H a = some (.tup xs)) ∨ (T = "list" ∧ ∃ xs, H a = some (.lst xs))
  | _ => False
theorem kind_ty {K : PySem.W.Frag} {H : Hp} {x : V} {T : String} (h : kindV K H x T) : TyOf K H x (.type T) := by
  cases x with
  | non => cases (show T = _ from h); exact .non
  | bl b => cases (show T = _ from h); exact .bl b
  | int i => cases (show T = _ from h); exact .int i
  | str i => cases (show T = _ from h); exact .str i
  | ref a =>
    rcases h with ⟨rfl, xs, e⟩ | ⟨rfl, xs, e⟩
    · exact .tup e
    · exact .lst e
  | byt b => exact h.elim
  | flt b => exact h.elim
  | ty n => exact h.elim
theorem call_isinst : CallR X (.builtin "isinstance") (fun xs H Q => ∃ (x : V) (T C : String) (b : Bool), xs = [x, .ty C] ∧ kindV X.K H x T ∧ PySem.W.kitOne X.K (.type T) (.type C) = some b ∧ Q (.bl b) H) := by
  intro pins s σ H xs us Q I r h
  obtain ⟨x, T, C, b, rfl, ty, e, q⟩ := h
  obtain ⟨u, c, rfl, rx, rc⟩ := vals2 r
  cases (show c = Value.type C from rc)
  exact isinst_ok I rx (kind_ty ty) e fun tk => ⟨.bl b, H, I.tok tk, rfl, q⟩
theorem op_fdivB : OpR X (binaryOp .FloorDiv) (rI (fun _ j => 0 < j ∧ j < 2 ^ 62) fun i j => .int (i / j)) := opI fun i j _ _ _ _ _ hc q => by
  rw [← Int.fdiv_eq_ediv_of_nonneg i (Int.le_of_lt hc.1)] at q
  refine floordiv_int (by omega) q (.inl (PyProof.noPylong_of_log2 ?_))
  have h1 : j.natAbs < 2 ^ 62 := by omega
  have h2 : j.natAbs ≠ 0 := by omega
  have := (Nat.log2_lt h2).mpr h1
  omega
end
end L2
namespace L2
open PySem PySem.Spec PyProof.Rows
def Raw (K : PySem.W.Frag) (mg : Str → Option Value) (x : Str) (ps : List Str) (st : Stmt) : Prop :=
  ∃ (f : Addr) (fd : FuncData), Fun K x x st f fd ∧ mg x = some (.ref f) ∧ Binds K fd ps []
def Df (P : Program) (w : World) (K : PySem.W.Frag) (mg : Str → Option Value) (base : Heap) (k : Nat) (x : Str) (ps : List Str) (sp : Sp) : Prop :=
  ∃ (f : Addr) (fd : FuncData), FnOk P w K mg base CX0 k f fd ps sp ∧ mg x = some (.ref f) ∧ PySem.W.keepIn K (.ref f) = true ∧ Binds K fd ps [] ∧ ∃ st, Fun K x x st f fd
section
variable {P : Program} {w : World} {K : PySem.W.Frag} {mg : Str → Option Value} {base : Heap}
theorem Raw.ok {x : Str} {ps N : List Str} {st : Stmt} {k : Nat} {sp : Sp} (R : Raw K mg x ps st) (S : FnScope N ps (defScope st)) (len : ∀ vs H Q E, sp vs H Q E → vs.length = ps.length)
    (hbody : ∀ (f : Addr) (cdv : Value) (A : Around) (outer : List Env) (s : Shared) (H : Hp) (vs : List V) (Q : VK) (E : XK), Room k (A.deeper (envOfC x (defScope st) s.heap.objs.size f cdv)) → sp vs H Q E →
      ∃ t, PSs (cxOf CX0 P w K mg base N x (defScope st) f cdv A outer s H E).nox (defBody st) t ∧ t { nx := fun _ H' => Q .non H', rt := Q } (start N vs) H) : Df P w K mg base (k + 1) x ps sp := by
  obtain ⟨f, fd, F, m, b⟩ := R
  exact ⟨f, fd, F.ok S len (fun cdv A outer s H vs Q E hr h => hbody f cdv A outer s H vs Q E hr h), m, F.kp, b, st, F⟩
end
theorem pe_df {X : Cx} {k : Nat} {x : Str} {ps : List Str} {sp : Sp} {p pos : Pos} {e : Expr} {es : List Expr} {t : TA} (D : Df X.prog X.w X.K X.mg X.base k x ps sp) (hr : Room k X.A) (ha : PA X (e :: es) t) (hg : Gl X x := by rfl)
    (hdb : (x == ("__debug__" : Str)) = false := by decide) (he : starEach (e :: es) X.env = (false, eval e X.env) :: starEach es X.env := by rfl) (hpl : (backTo pos (starEach es X.env)).any (·.1) = false := by rfl) :
    PE X (.Call (.Name x p) (e :: es) [] pos) (tCall sp [] E0 t) := by
  obtain ⟨f, fd, F, m, kp, b, _⟩ := D
  exact pe_call F hr hg m kp b .nil pass0 ha hdb he hpl
def KeepBut (d : Addr) (H H' : Hp) : Prop := ∀ b o, H b = some o → b ≠ d → H' b = some o
theorem KeepBut.refl (d : Addr) (H : Hp) : KeepBut d H H := fun _ _ h _ => h
theorem KeepBut.trans {d : Addr} {H H1 H2 : Hp} (a : KeepBut d H H1) (b : KeepBut d H1 H2) : KeepBut d H H2 := fun c o h n => b c o (a c o h n) n
theorem KeepBut.upd {d p : Addr} {H H1 : Hp} {o : HO} (a : KeepBut d H H1) (hp : H1 p = none) : KeepBut d H (upd H1 p o) := fun c u h n => by
  rw [upd_ne (ne_of_none (a c u h n) hp)]; exact a c u h n
structure DeckAt (H : Hp) (d c : Addr) (ns : List Int) (k : Nat) (r : Int) (m : Nat) (t : Int) : Prop where
  deck : H d = some (.lst [.ref c, .int k, .int r, .int m, .int t])
  cut : H c = some (.lst (ns.map V.int))
  kle : k ≤ ns.length
  few : ns.length ≤ 63
  rnn : 0 ≤ r
def Deck (H : Hp) (d : Addr) (n : Nat) : Prop := ∃ c ns k r m t, DeckAt H d c ns k r m t ∧ m ≤ n
theorem DeckAt.ne {H : Hp} {d c : Addr} {ns : List Int} {k : Nat} {r : Int} {m : Nat} {t : Int} (D : DeckAt H d c ns k r m t) : d ≠ c := by
  refine ne_of D.deck D.cut fun z => ?_
  have e := HO.lst.inj z
  cases ns with
  | nil => cases e
  | cons a b => cases (List.cons.inj e).1
theorem Deck.more {H : Hp} {d : Addr} {n m : Nat} (D : Deck H d n) (h : n ≤ m) : Deck H d m := let ⟨c, ns, k, r, j, t, D, hj⟩ := D; ⟨c, ns, k, r, j, t, D, Nat.le_trans hj h⟩
theorem Deck.lst {H : Hp} {d : Addr} {n : Nat} (D : Deck H d n) : ∃ xs, H d = some (.lst xs) := let ⟨_, _, _, _, _, _, D, _⟩ := D; ⟨_, D.deck⟩
theorem Deck.keep {H H' : Hp} {d : Addr} {n : Nat} (D : Deck H d n) (h : Same H H') : Deck H' d n :=
  let ⟨c, ns, k, r, m, t, D, hm⟩ := D; ⟨c, ns, k, r, m, t, ⟨h _ _ D.deck, h _ _ D.cut, D.kle, D.few, D.rnn⟩, hm⟩
theorem Deck.upd {H : Hp} {d p : Addr} {n : Nat} {o : HO} (D : Deck H d n) (hp : H p = none) : Deck (upd H p o) d n := D.keep fun b u e => by rw [upd_ne (ne_of_none e hp)]; exact e
theorem KeepBut.tups {d : Addr} {H H' : Hp} {xs : List V} (k : KeepBut d H H') (hd : H d = some (.lst xs)) : KeepT H H' := fun a ys e => k a _ e (ne_of e hd fun z => by cases z)
theorem same_upd {H : Hp} {p : Addr} {o : HO} (hp : H p = none) : Same H (upd H p o) := fun b u e => by rw [upd_ne (ne_of_none e hp)]; exact e
theorem Same.tups {H H' : Hp} (s : Same H H') : KeepT H H' := fun a xs e => s a _ e
theorem Same.but {H H' : Hp} (s : Same H H') (d : Addr) : KeepBut d H H' := fun a o e _ => s a o e
end L2
namespace L2
open PySem PySem.Spec PyProof.Rows
section
variable {X : Cx} {tg l : Expr}
theorem op_eqA (hu : X.A.units + 64 < cLine) : OpR X (compareOp .Eq) (fun x y H Q => rEq x y H Q ∨ rEqD 0 x y H Q) := op_eq.or (op_eqD hu)
theorem op_neA (hu : X.A.units + 64 < cLine) : OpR X (compareOp .NotEq) (fun x y H Q => rNe x y H Q ∨ rNeD 0 x y H Q) := op_ne.or (op_neD hu)
theorem pi_or {w1 w2 : TI} (h1 : PI X tg l w1) (h2 : PI X tg l w2) : PI X tg l (fun σ H R => w1 σ H R ∨ w2 σ H R) := fun pins s σ H R I h => h.elim (h1 pins s σ H R I) (h2 pins s σ H R I)
theorem pi_seq {tl : TE} (hl : PE X l tl) : PI X tg l (fun σ H R => iList X.K tl σ H R ∨ iTup X.K tl σ H R) := pi_or (pi_list hl) (pi_tup hl)
end
theorem bt_tuple : bootBuiltins "tuple" = some (.type "tuple") := by decide +kernel
theorem bt_int : bootBuiltins "int" = some (.type "int") := by decide +kernel
theorem bt_bool : bootBuiltins "bool" = some (.type "bool") := by decide +kernel
theorem bt_len : bootBuiltins "len" = some (.builtin "len") := by decide +kernel
theorem bt_sum : bootBuiltins "sum" = some (.builtin "sum") := by decide +kernel
theorem bt_all : bootBuiltins "all" = some (.builtin "all") := by decide +kernel
theorem bt_max : bootBuiltins "max" = some (.builtin "max") := by decide +kernel
theorem bt_abs : bootBuiltins "abs" = some (.builtin "abs") := by decide +kernel
theorem bt_isinstance : bootBuiltins "isinstance" = some (.builtin "isinstance") := by decide +kernel
end L2
namespace L2
open PySem PySem.Spec PyProof.Rows
def compB (outer : List (Str × NameKind)) (scope : Scope) (M : List Str) (idx : List Nat) (N : List Str) : Bool :=
  scope.kind == .function && (scope.names.all fun y => (y.2 != .local || scope.names.lookup y.1 == some .local) && (y.2 != .cell || scope.names.lookup y.1 == some .cell) && (y.2 != .free || (outer.lookup y.1 == some .cell || outer.lookup y.1 == some .free)))
    && idx.length == M.length && (M.zip idx).all fun p => scope.names.lookup p.1 == some .free && N[p.2]? == some p.1
theorem compOk {X : Cx} {scope : Scope} {M : List Str} {idx : List Nat} (h : compB X.env.scope.names scope M idx X.N = true) : CompOk X scope M idx := by
  unfold compB at h
  simp only [Bool.and_eq_true] at h
  obtain ⟨⟨⟨h1, h2⟩, h3⟩, h4⟩ := h
  have h2' := List.all_eq_true.mp h2
  refine ⟨by simpa using h1, fun y hy e => ?_, fun y hy e => ?_, fun y hy e => ?_, by simpa using h3, fun j y ej => ?_⟩
  · have := h2' y hy
    simp [e] at this
    exact this
  · have := h2' y hy
    simp [e] at this
    exact this
  · have := h2' y hy
    simp [e] at this
    exact this
  · have hl : idx.length = M.length := by simpa using h3
    have hj : j < M.length := (List.getElem?_eq_some_iff.mp ej).1
    have hk : idx[j]? = some (idx[j]'(by omega)) := by simp [hl, hj]
    have hz : (M.zip idx)[j]? = some (y, idx[j]'(by omega)) := by
      rw [List.getElem?_zip_eq_some]
      exact ⟨ej, hk⟩
    have := List.all_eq_true.mp h4 _ (List.mem_of_getElem? hz)
    simp only [Bool.and_eq_true, beq_iff_eq] at this
    exact ⟨this.1, _, hk, this.2⟩
end L2
namespace L2
open PySem PySem.Spec PyProof.Rows
def SpLaw (K : PySem.W.Frag) : Sp := fun vs H Q _ => ∃ (a : Addr) (ns : List Int), vs = [.ref a] ∧ SqL K H a (ns.map V.int) ∧ ns.length ≤ 63 ∧ ∀ H', Q (.bl true) H'
theorem walk_df {l : PySem.W.OpenLaw} {k : Nat} {q : Program} {loose : List Str} {XP : (Str → Option Value) → Heap → Prop} {YP : World → Heap → Prop} {d : DefRec} {K : Params → PySem.W.Frag} {st : Stmt}
    (hn : l.most = some 63) (hdf : d.params.defaults = []) (hdn : d.name = "law") (hr : Room k callerA)
    (hY : ∀ (w : World) (h : Heap), YP w h → (K w.params).In h)
    (hbind : ∀ (kV doc pm : Value) (an : Option Addr) (cdv ct v : Value), bindArgs (PySem.W.fnOf "law" "law" (defArgs st) (defBody st) (defScope st) .none kV doc pm an cdv ct) ⟨[v], []⟩ = pure [(("script" : Str), v)])
    (F : ∀ (w : World) (mg : Str → Option Value) (h : Heap), (K w.params).In h → h.Ns mainGlobals mg → Raw (K w.params) mg "law" ["script"] st ∧ ∀ base : Heap, Df l.prog w (K w.params) mg base k "law" ["script"] (SpLaw (K w.params))) :
    PySem.W.WalkO q loose XP YP l.row.toRowW d [] (fun f vs => PySem.call f vs) := by
  refine L2.walk_of (n := 63) (k := k) (x := "script") (CX := fun _ => CX0) (sp := fun w => SpLaw (K w.params)) hn (by decide) hdf hr hY (fun w mg fa h KX G hmg => ?_) (fun w H a ns hl _ hS => ⟨a, ns, rfl, hS, hl, fun _ => rfl⟩) fun _ _ _ _ _ z => z
  obtain ⟨⟨f, fd, R, m, b⟩, D⟩ := F w mg h KX G
  rw [hdn] at hmg
  have e := hmg.symm.trans m
  cases e
  obtain ⟨oc, od, kV, doc, pm, an, cdv, ct, osl, e1, e2, _⟩ := R.ex
  refine ⟨fd, fun s v => .of_eq (by rw [e1]; exact hbind kV doc pm an cdv ct v), fun base _ _ => ?_⟩
  obtain ⟨f', fd', G', m', _, _, st', R'⟩ := D base
  have e := hmg.symm.trans m'
  cases e
  obtain ⟨oc', od', kV', doc', pm', an', cdv', ct', osl', e1', e2', _⟩ := R'.ex
  rw [e2] at e2'
  cases e2'
  exact G'
end L2
namespace L2
open PySem PySem.Spec PyProof.Rows
theorem cut63 {ns : List Int} (h : ns.length ≤ 63) : cutV (ns.map V.int) none (some 63) = ns.map V.int := by
  unfold cutV
  rw [show HT.sIx (ns.map V.int).length 0 none = 0 from rfl, show (some 63 : Option Int) = some ((63 : Nat) : Int) from rfl, HT.sIx_nat]
  rw [List.length_map, Nat.min_eq_right h, List.drop_zero, Nat.sub_zero]
  exact List.take_of_length_le (by rw [List.length_map]; exact Nat.le_refl _)
theorem ofInt {i j : Int} (h : decide (V.int i = V.int j) = true) : i = j := V.int.inj (of_decide_eq_true h)
end L2
namespace L2
theorem tSeq_cut {t u : TS} {D : Ends} {σ : St} {H : Hp} (R : St → Hp → Prop) (hu : ∀ σ H, R σ H → u D σ H) (ht : (∀ σ H, R σ H → u D σ H) → t { D with nx := u D } σ H) : tSeq t u D σ H := ht hu
end L2
namespace L2
open PySem PySem.Spec PyProof.Rows
section
variable {X : Cx} {K : PySem.W.Frag} {tg l a b : Expr} {ta tb tl : TE} {pos : Pos}
theorem call_lenK (h : X.K = K) : CallR X (.builtin "len") (fun xs H Q => ∃ x n, xs = [x] ∧ LenV K x H n ∧ Q (.int n) H) := by subst h; exact call_len
theorem call_tupleK (h : X.K = K) : CallR X (.type "tuple") (fun xs H Q => ∃ p ys, xs = [.ref p] ∧ ((SqL K H p ys ∧ ∀ l, H l = none → Q (.ref l) (upd H l (.tup ys))) ∨ (SqT K H p ys ∧ Q (.ref p) H))) := by subst h; exact call_tuple_of
theorem call_sumK (h : X.K = K) (hc : X.calm = true) : CallR X (.builtin "sum") (fun xs H Q => ∃ (p : Addr) (ns : List Int), xs = [.ref p] ∧ SqL K H p (ns.map V.int) ∧ Q (.int ns.sum) H) := by subst h; exact call_sum hc
theorem call_allK (h : X.K = K) (hc : X.calm = true) : CallR X (.builtin "all") (fun xs H Q => ∃ (p : Addr) (bs : List Bool), xs = [.ref p] ∧ SqL K H p (bs.map V.bl) ∧ Q (.bl (bs.all id)) H) := by subst h; exact call_all hc
theorem call_isinstK (h : X.K = K) : CallR X (.builtin "isinstance") (fun xs H Q => ∃ (x : V) (T C : String) (b : Bool), xs = [x, .ty C] ∧ kindV K H x T ∧ PySem.W.kitOne K (.type T) (.type C) = some b ∧ Q (.bl b) H) := by subst h; exact call_isinst
theorem ix_seqK (h : X.K = K) : IxR X (rIx K) := by subst h; exact ix_seq
theorem pi_seqK (h : X.K = K) (hl : PE X l tl) : PI X tg l (fun σ H R => iList K tl σ H R ∨ iTup K tl σ H R) := by subst h; exact pi_seq hl
theorem pt_truthK (h : X.K = K) (ha : PE X a ta) (he : ∀ whole, isTrue a X.env whole = (do let v ← whole; standAt a.pos; holding [v] (truthy v))) :
    PT X a (fun σ H Q => ta σ H fun x H' => ∃ k, TruV K x H' k ∧ Q k H') := by subst h; exact pt_truth ha he
theorem pg_tupK {es : List Expr} {k : Nat} {t : TGs} {n : Nat} (h : X.K = K) (hc : X.calm = true) (hg : PGs X es t)
    (hn : (assignEach es X.env).length = n := by rfl) (hst : (assignEach es X.env).findIdx? (·.1) = none := by rfl) : PG X (.Tuple es k pos) (gTup K n t) := by subst h; exact pg_tup hc hg hn hst
end
end L2
namespace L2
theorem oneT {te : TE} {σ : St} {x : V} {H : Hp} {k : Option V → Hp → Prop} (h : te (some x :: σ) H fun v H2 => k (some v) H2) : oneOf ttTrue te σ x H k := by
  show if true = true then (te (some x :: σ) H fun v H2 => k (some v) H2) else k none H
  rw [if_pos rfl]
  exact h
end L2
namespace L2
open PySem PySem.Spec PyProof.Rows
end L2
namespace L2
end L2
namespace L2
end L2
namespace L2
open PySem PySem.Spec PyProof.Rows
def cellV : Option Int → V
  | none => .non
  | some i => .int i
def cellD : Option Int → PyData
  | none => .none
  | some i => .int i
def rowD (r : List (Option Int)) : PyData := .tuple (r.map cellD)
def fieldD (F : List (List (Option Int))) : PyData := .tuple (F.map rowD)
theorem isCell {H : Hp} : ∀ c : Option Int, IsD H (cellV c) (cellD c)
  | none => .non
  | some i => .int i
theorem isCells {H : Hp} : ∀ r : List (Option Int), IsDs H (r.map cellV) (r.map cellD)
  | [] => .nil
  | c :: r => .cons (isCell c) (isCells r)
theorem IsD.cell_inv {H : Hp} {v : V} : ∀ {c : Option Int}, IsD H v (cellD c) → v = cellV c
  | none, h => by cases h; rfl
  | some i, h => by cases h; rfl
theorem IsDs.cells_inv {H : Hp} : ∀ {xs : List V} {r : List (Option Int)}, IsDs H xs (r.map cellD) → xs = r.map cellV
  | _, [], h => by cases h; rfl
  | _, c :: r, h => by
    cases h with
    | cons h1 h2 => rw [IsD.cell_inv h1, IsDs.cells_inv h2]; rfl
theorem isRow_inv {H : Hp} {v : V} {r : List (Option Int)} (h : IsD H v (rowD r)) : ∃ a, v = .ref a ∧ H a = some (.tup (r.map cellV)) := by
  obtain ⟨a, xs, e, h1, h2⟩ := h.tuple_inv
  rw [IsDs.cells_inv h2] at h1
  exact ⟨a, e, h1⟩
theorem isField_inv {H : Hp} {v : V} {F : List (List (Option Int))} (h : IsD H v (fieldD F)) : ∃ a xs, v = .ref a ∧ H a = some (.tup xs) ∧ IsDs H xs (F.map rowD) := h.tuple_inv
theorem isRows_get {H : Hp} {xs : List V} {F : List (List (Option Int))} {i : Nat} (h : IsDs H xs (F.map rowD)) (hi : i < F.length) : ∃ a, xs[i]? = some (.ref a) ∧ H a = some (.tup (F[i].map cellV)) := by
  obtain ⟨x, e1, e2⟩ := h.get (i := i) (d := rowD F[i]) (by simp [hi])
  obtain ⟨a, e3, e4⟩ := isRow_inv e2
  exact ⟨a, by rw [e1, e3], e4⟩
def CellOk (c : Option Int) : Prop := ∀ i, c = some i → -1000000000 ≤ i ∧ i ≤ 1000000000
structure FieldOk (F : List (List (Option Int))) (h w : Nat) : Prop where
  len : F.length = h
  h1 : 1 ≤ h
  h12 : h ≤ 12
  w1 : 1 ≤ w
  w12 : w ≤ 12
  row : ∀ r ∈ F, r.length = w
  cell : ∀ r ∈ F, ∀ c ∈ r, CellOk c
theorem atI_mem {α : Type} {xs : List α} {i : Int} (h0 : 0 ≤ i) (h1 : i < xs.length) : ∃ v, atI xs i = some v ∧ v ∈ xs := by
  obtain ⟨j, rfl⟩ := Int.eq_ofNat_of_zero_le h0
  have hj : j < xs.length := by omega
  exact ⟨xs[j], atI_nat (by simp [hj]), List.getElem_mem hj⟩
theorem canLay_cell (c : Option Int) : (cellD c).canLay0 = true := by cases c <;> rfl
theorem canLay_cells : ∀ r : List (Option Int), PyData.canLayAll0 (r.map cellD) = true
  | [] => rfl
  | c :: r => by rw [List.map_cons, PyData.canLayAll0, canLay_cell, canLay_cells r]; rfl
theorem canLay_row (r : List (Option Int)) : (rowD r).canLay0 = true := canLay_cells r
theorem canLay_rows : ∀ F : List (List (Option Int)), PyData.canLayAll0 (F.map rowD) = true
  | [] => rfl
  | c :: r => by rw [List.map_cons, PyData.canLayAll0, canLay_row, canLay_rows r]; rfl
theorem canLay_field (F : List (List (Option Int))) : (fieldD F).canLay0 = true := canLay_rows F
theorem depth_cell (c : Option Int) : (cellD c).depth = 0 := by cases c <;> rfl
theorem depth_cells : ∀ r : List (Option Int), PyData.depthAll (r.map cellD) = 0
  | [] => rfl
  | c :: r => by rw [List.map_cons, PyData.depthAll, depth_cell, depth_cells r]; rfl
theorem depth_row (r : List (Option Int)) : (rowD r).depth = 1 := by
  show PyData.depthAll (r.map cellD) + 1 = 1
  rw [depth_cells]
theorem depth_rows : ∀ F : List (List (Option Int)), PyData.depthAll (F.map rowD) ≤ 1
  | [] => Nat.zero_le _
  | c :: r => by rw [List.map_cons, PyData.depthAll, depth_row]; exact Nat.max_le.mpr ⟨Nat.le_refl _, depth_rows r⟩
theorem depth_field (F : List (List (Option Int))) : (fieldD F).depth ≤ 20 := by
  have := depth_rows F
  show PyData.depthAll (F.map rowD) + 1 ≤ 20
  omega
theorem eqv_cell (a b : Option Int) : PyData.eqv (cellD a) (cellD b) = decide (a = b) := by
  cases a with
  | none => cases b <;> rfl
  | some i =>
    cases b with
    | none => rfl
    | some j =>
      show (i == j) = decide (some i = some j)
      by_cases h : i = j
      · subst h; simp
      · have : ¬ (some i = some j) := fun e => h (Option.some.inj e)
        rw [decide_eq_false this]; simpa using h
theorem eqv_cells : ∀ a b : List (Option Int), PyData.eqvAll (a.map cellD) (b.map cellD) = decide (a = b)
  | [], [] => rfl
  | [], _ :: _ => rfl
  | _ :: _, [] => rfl
  | x :: a, y :: b => by
    rw [List.map_cons, List.map_cons, PyData.eqvAll, eqv_cell, eqv_cells a b]
    by_cases h1 : x = y
    · by_cases h2 : a = b
      · simp [h1, h2]
      · simp [h1, h2]
    · simp [h1]
theorem eqv_row (a b : List (Option Int)) : PyData.eqv (rowD a) (rowD b) = decide (a = b) := by
  show PyData.eqv (.tuple _) (.tuple _) = _
  rw [PyData.eqv]; exact eqv_cells a b
theorem eqv_rows : ∀ a b : List (List (Option Int)), PyData.eqvAll (a.map rowD) (b.map rowD) = decide (a = b)
  | [], [] => rfl
  | [], _ :: _ => rfl
  | _ :: _, [] => rfl
  | x :: a, y :: b => by
    rw [List.map_cons, List.map_cons, PyData.eqvAll, eqv_row, eqv_rows a b]
    by_cases h1 : x = y
    · by_cases h2 : a = b
      · simp [h1, h2]
      · simp [h1, h2]
    · simp [h1]
theorem eqv_field (a b : List (List (Option Int))) : PyData.eqv (fieldD a) (fieldD b) = decide (a = b) := by
  show PyData.eqv (.tuple _) (.tuple _) = _
  rw [PyData.eqv]; exact eqv_rows a b
theorem cmp_field {u : Nat} (a b : List (List (Option Int))) : CmpD u (fieldD a) (fieldD b) := ⟨canLay_field a, canLay_field b, depth_field a⟩
end L2
namespace L2
open PySem PySem.Spec PyProof.Rows
end L2
namespace L2
open PySem PySem.Spec PyProof.Rows
end L2
namespace L2
open PySem PySem.Spec PyProof.Rows
end L2
namespace L2
open PySem PySem.Spec PyProof.Rows
end L2
namespace L2
open PySem PySem.Spec PyProof.Rows
end L2
namespace L2
open PySem PySem.Spec PyProof.Rows
end L2
namespace L2
end L2
namespace HT
open PySem PyProof.Rows
section
variable {prog : Program} {w : World} {A : Around} {E : Value → Shared → Prop} {s : Shared}
set_option maxHeartbeats 4000000 in
theorem getItem_tuple_whole {t sl : Addr} {items : Array Value} {vl vu : Value} {lo hi : Option Int} {Q : Value → Shared → Prop} (ht : IsTup s.heap t items) (hs : s.heap.IsSliceOf sl vl vu .none) (pl : IsPart vl lo) (pu : IsPart vu hi)
    (hw : sIx items.size 0 lo = 0 ∧ sIx items.size items.size hi = items.size) (h : Q (.ref t) s) : wpAny (model prog w) A (getItem (.ref t) (.ref sl)) Q E s := by
  obtain ⟨os, hos, hcs, hds⟩ := id hs
  have hTs : s.TypeIs (.ref sl) "slice" := ⟨os, hos, hcs⟩
  unfold getItem
  try with_reducible refine wpAny_holding ?_
  first | refine wpAny_bind (wpAny_pure ?_) | skip
  refine wpAny_bind (wpAny_sequenceKey ht.typeIs (by decide) ?_)
  refine wpAny_bind (wpAny_callSpecial?_slot (name := Str.ofString "__getitem__") ht.typeIs PyProof.Rows.slot_tuple_getitem
    (wpAny_call_entry PyProof.Rows.slot_tuple_getitem ht.typeIs entry_tuple_getitem ?_ (args_tuple_getitem _ _)))
  show wpAny _ _ (Builtin.Tuple.tupleItemsOf (.ref t) >>= _) _ _ s
  refine wpAny_bind (tupleItemsOf_ ht ?_)
  refine wpAny_bind (wpAny_typeOf hTs ?_)
  rw [if_pos (by decide)]
  refine wpAny_bind (sliceApplied_gen hs pl pu ?_)
  rw [hw.1, hw.2]
  show wpAny _ _ (if ((((0 : Nat) : Int) == 0 && (1 : Int) == 1 && (items.size - 0) == items.size) = true) then _ else _) _ _ s
  rw [if_pos (by simp)]
  refine wpAny_bind ?_
  unfold Builtin.Tuple.tupleIsExact
  refine wpAny_bind (wpAny_typeOf ht.typeIs (wpAny_pure ?_))
  rw [if_pos (by decide)]
  first
    | exact wpAny_bind (wpAny_rule (wpAny_bind (wpAny_pure (wpAny_pure ⟨_, rfl, wpAny_pure h⟩))))
    | exact wpAny_bind (wpAny_rule (wpAny_pure ⟨_, rfl, wpAny_pure h⟩))
    | exact wpAny_rule (wpAny_bind (wpAny_pure (wpAny_pure ⟨_, rfl, wpAny_pure h⟩)))
end
end HT
namespace L2
open PySem PySem.Spec PyProof.Rows
section
variable {X : Cx}
def rSlTA : V → Option Int → Option Int → Hp → VK → Prop := fun x lo hi H Q => ∃ a xs, x = .ref a ∧ H a = some (.tup xs) ∧ ∀ p H', Same H H' → H' p = some (.tup (cutV xs lo hi)) → Q (.ref p) H'
theorem sl_tupA : SlR X rSlTA := by
  intro pins s σ H x v vl vu lo hi sl Q I rx hs pl pu h
  obtain ⟨a, xs, rfl, hx, q⟩ := h
  by_cases hw : HT.sIx xs.length 0 lo = 0 ∧ HT.sIx xs.length xs.length hi = xs.length
  · cases rx
    obtain ⟨its, r, ht, hz⟩ := I.tuple (SqT.of hx)
    have hlen : its.toArray.size = xs.length := by rw [List.size_toArray]; exact r.length.symm
    refine ⟨"tuple", _, PyProof.Rows.slot_tuple_getitem.lookup, ht.typeIs, ?_⟩
    refine HT.getItem_tuple_whole ht hs pl pu (by rw [hlen]; exact hw) ⟨.ref a, H, I, rfl, q a H (Same.refl H) ?_⟩
    rw [hx]
    unfold cutV
    rw [hw.1, hw.2, List.drop_zero, Nat.sub_zero, List.take_of_length_le (Nat.le_refl _)]
  · exact sl_tup pins s σ H _ v vl vu lo hi sl Q I rx hs pl pu ⟨a, xs, rfl, SqT.of hx, hw, fun p hp => q p _ (same_upd hp) upd_same⟩
def rNeL : R2 := fun x y H Q => ∃ p q xs ys dx dy, x = .ref p ∧ y = .ref q ∧ H p = some (.lst xs) ∧ H q = some (.lst ys) ∧ IsDs H xs dx ∧ IsDs H ys dy ∧ CmpD 0 (.list dx) (.list dy) ∧ Q (.bl (!PyData.eqvAll dx dy)) H
def rEqL : R2 := fun x y H Q => ∃ p q xs ys dx dy, x = .ref p ∧ y = .ref q ∧ H p = some (.lst xs) ∧ H q = some (.lst ys) ∧ IsDs H xs dx ∧ IsDs H ys dy ∧ CmpD 0 (.list dx) (.list dy) ∧ Q (.bl (PyData.eqvAll dx dy)) H
theorem list_reads {P : Program} {w : World} {H : Hp} {h : Heap} (I : HOk P w H h) {p : Addr} {xs : List V} {dx : List PyData} (hp : H p = some (.lst xs)) (hd : IsDs H xs dx) : ∃ as, Reads h (.ref p) (.list dx) as := by
  obtain ⟨_, its, n, r, e⟩ := (show ObjOk P w H h p (.lst xs) from I p _ hp)
  obtain ⟨as, hr⟩ := hd.reads I r
  exact ⟨_, .list e rfl rfl (by simpa using hr)⟩
theorem op_neL (hu : X.A.units + 64 < cLine) : OpR X (compareOp .NotEq) rNeL := by
  intro pins s σ H x y v u Q I rx ry h
  obtain ⟨p, q, xs, ys, dx, dy, rfl, rfl, hp, hq, hx, hy, ⟨c1, c2, c3⟩, qq⟩ := h
  cases rx
  cases ry
  obtain ⟨as, r1⟩ := list_reads I.hok hp hx
  obtain ⟨bs, r2⟩ := list_reads I.hok hq hy
  exact PySem.SeqAt.compareNe_reads r1 r2 c1 c2 (unitsD hu c3) ⟨.bl _, H, I, rfl, qq⟩
theorem op_eqL (hu : X.A.units + 64 < cLine) : OpR X (compareOp .Eq) rEqL := by
  intro pins s σ H x y v u Q I rx ry h
  obtain ⟨p, q, xs, ys, dx, dy, rfl, rfl, hp, hq, hx, hy, ⟨c1, c2, c3⟩, qq⟩ := h
  cases rx
  cases ry
  obtain ⟨as, r1⟩ := list_reads I.hok hp hx
  obtain ⟨bs, r2⟩ := list_reads I.hok hq hy
  exact PySem.SeqAt.compareEq_reads r1 r2 c1 c2 (unitsD hu c3) ⟨.bl _, H, I, rfl, qq⟩
theorem op_neX (hu : X.A.units + 64 < cLine) : OpR X (compareOp .NotEq) (fun x y H Q => (rNe x y H Q ∨ rNeD 0 x y H Q) ∨ rNeL x y H Q) := (op_neA hu).or (op_neL hu)
theorem op_eqX (hu : X.A.units + 64 < cLine) : OpR X (compareOp .Eq) (fun x y H Q => (rEq x y H Q ∨ rEqD 0 x y H Q) ∨ rEqL x y H Q) := (op_eqA hu).or (op_eqL hu)
theorem sl_X {K : PySem.W.Frag} (h : X.K = K) : SlR X (fun x lo hi H Q => rSlL K x lo hi H Q ∨ rSlTA x lo hi H Q) := by subst h; exact sl_list.or sl_tupA
end
end L2
namespace L2
open PySem PySem.Spec PyProof.Rows
end L2
namespace L2
open PySem PySem.Spec PyProof.Rows PySem.Builtin PySem.Builtin.Str
section
variable {X : Cx}
theorem vals_strsFrom : ∀ (xs : List Str) (t : Nat), Vals (xs.map V.str) (strsFrom t xs)
  | [], _ => .nil
  | x :: xs, t => .cons ⟨t, rfl⟩ (vals_strsFrom xs (t + 1))
def rSplit : V → List V → Hp → VK → Prop := fun x vs H Q => ∃ a b : Str, x = .str a ∧ vs = [.str b] ∧ (b.length == 0) = false ∧ a.length ≤ 1000000 ∧ ∀ l, H l = none → Q (.ref l) (upd H l (.lst ((Txt.split a b).map V.str)))
theorem mt_split : MtM X "str.split" rSplit := by
  intro pins s σ H x vs v us Q I rx rv h
  obtain ⟨a, b, rfl, rfl, hb, ha, q⟩ := h
  obtain ⟨t, rfl⟩ := rx
  obtain ⟨u, rfl, ⟨t', rfl⟩⟩ := rv.one
  have fin : ∀ (its : List Value) (tk : Nat), Vals ((Txt.split a b).map V.str) its → EP X pins σ Q (.ref s.heap.objs.size) { s with heap := s.heap.push { cls := .type "list", data := .seq its.toArray }, toks := tk } := fun its tk hv =>
    ⟨.ref s.heap.objs.size, _, I.laid (o := .lst ((Txt.split a b).map V.str)) (fun c o e => Heap.get?_push_of_some _ e) (Nat.le_refl _) ⟨by
      rw [List.length_map]
      exact Nat.le_trans (split_le a b) (Nat.le_trans (show a.length + 2 ≤ 1000002 by omega) (by decide)), its, _, hv, Heap.get?_push_size _ rfl⟩, rfl, q _ (I.hok.fresh (Nat.le_refl _))⟩
  have hsz : a.length ≤ sizeLine := Nat.le_trans ha (by decide)
  by_cases h1 : (decide (a.length < b.length) || decide (strKind a < strKind b)) = true
  · have e : Txt.split a b = [a] := by unfold Txt.split; rw [if_pos h1]
    refine call_meets F.slot_str_split (typeIs_str s a t) F.entry_str_split (F.args_str_split_2 _ _) (meets_str_split_cannot_occur a b t t' h1) ?_
    exact fin [.str a t] s.toks (by rw [e]; exact .cons ⟨t, rfl⟩ .nil)
  · have h1' : (decide (a.length < b.length) || decide (strKind a < strKind b)) = false := by simpa using h1
    by_cases h2 : (occurrences a b 0 a.length (a.length + 1)).isEmpty = true
    · have e : Txt.split a b = [a] := by unfold Txt.split; rw [if_neg h1, if_pos h2]
      refine call_meets F.slot_str_split (typeIs_str s a t) F.entry_str_split (F.args_str_split_2 _ _) (meets_str_split_not_found a b t t' h1' hb h2) ?_
      exact fin [.str a t] s.toks (by rw [e]; exact .cons ⟨t, rfl⟩ .nil)
    · have e : Txt.split a b = partsBetween a (occurrences a b 0 a.length (a.length + 1)) b.length := by unfold Txt.split; rw [if_neg h1, if_neg h2]
      have hn : (partsBetween a (occurrences a b 0 a.length (a.length + 1)) b.length).length ≤ sizeLine := by
        rw [← e]
        exact Nat.le_trans (split_le a b) (Nat.le_trans (show a.length + 2 ≤ 1000002 by omega) (by decide))
      refine call_meets F.slot_str_split (typeIs_str s a t) F.entry_str_split (F.args_str_split_2 _ _) (meets_str_split_sep a b t t' h1' hb (by simpa using h2) hsz hn) ?_
      exact fin _ _ (by rw [e]; exact vals_strsFrom _ _)
def rStarts : V → List V → Hp → VK → Prop := fun x vs H Q => ∃ a b : Str, x = .str a ∧ vs = [.str b] ∧ Q (.bl (decide (0 + b.length ≤ a.length) && subAt a b 0)) H
theorem mt_startswith : MtM X "str.startswith" rStarts := by
  intro pins s σ H x vs v us Q I rx rv h
  obtain ⟨a, b, rfl, rfl, q⟩ := h
  obtain ⟨t, rfl⟩ := rx
  obtain ⟨u, rfl, ⟨t', rfl⟩⟩ := rv.one
  exact call_gives F.slot_str_startswith (typeIs_str s a t) F.entry_str_startswith (F.args_str_startswith_2 _ _) (gives_str_startswith a b t t') ⟨.bl _, H, I, rfl, q⟩
def rJoin (K : PySem.W.Frag) : V → List V → Hp → VK → Prop := fun x vs H Q => ∃ (a : Str) (p : Addr) (ys : List Str), x = .str a ∧ vs = [.ref p] ∧ SqL K H p (ys.map V.str) ∧ (ys.map (·.length)).sum + ys.length * a.length ≤ 1000000 ∧ Q (.str (Txt.join a ys)) H
theorem strs_of : ∀ {ys : List Str} {us : List Value}, Vals (ys.map V.str) us → StrsAre us ys
  | [], _, .nil => .nil
  | y :: ys, _, .cons r t => by
    obtain ⟨k, rfl⟩ := r
    exact .cons _ _ (strs_of t)
theorem mt_join : MtM X "str.join" (rJoin X.K) := by
  intro pins s σ H x vs v us Q I rx rv h
  obtain ⟨a, p, ys, rfl, rfl, hS, hz, q⟩ := h
  obtain ⟨t, rfl⟩ := rx
  obtain ⟨u, rfl, e⟩ := rv.one
  cases (show u = Value.ref p from e)
  obtain ⟨its, hv, ⟨o, n, h1, h2, h3, h4⟩, _⟩ := I.list hS
  exact join_list ⟨o, h1, h2, n, h4⟩ (strs_of hv) (Nat.le_trans hz (by decide)) fun t' k => ⟨.str _, H, I.tok _, ⟨_, rfl⟩, q⟩
end
end L2
namespace L2
open PySem PySem.Spec PyProof.Rows
end L2
namespace HT
open PySem PyProof.Rows
end HT
namespace L2
open PySem PySem.Spec PyProof.Rows
end L2
namespace L2
open PySem PySem.Spec PyProof.Rows
end L2
namespace L2
open PySem
def dg (n : Nat) : List Nat := if h : n < 10 then [48 + n] else dg (n / 10) ++ [48 + n % 10]
termination_by n
decreasing_by omega
theorem dg_low {n : Nat} (h : n < 10) : dg n = [48 + n] := by rw [dg, dif_pos h]
theorem dg_high {n : Nat} (h : ¬ n < 10) : dg n = dg (n / 10) ++ [48 + n % 10] := by rw [dg, dif_neg h]
theorem dg_ind {p : Nat → Prop} (h1 : ∀ n, n < 10 → p n) (h2 : ∀ n, ¬ n < 10 → p (n / 10) → p n) (n : Nat) : p n := by
  induction n using Nat.strongRecOn with
  | ind n ih =>
    by_cases h : n < 10
    · exact h1 n h
    · exact h2 n h (ih (n / 10) (by omega))
theorem dg_all (n : Nat) : ∀ c ∈ dg n, 48 ≤ c ∧ c ≤ 57 := by
  induction n using dg_ind with
  | h1 n h =>
    rw [dg_low h]
    intro c hc
    have : c = 48 + n := by simpa using hc
    omega
  | h2 n h ih =>
    rw [dg_high h]
    intro c hc
    rcases List.mem_append.mp hc with z | z
    · exact ih c z
    · have : c = 48 + n % 10 := by simpa using z
      omega
theorem dg_ne (n : Nat) : dg n ≠ [] := by
  by_cases h : n < 10
  · rw [dg_low h]; simp
  · rw [dg_high h]; simp
theorem dg_val (n : Nat) : (dg n).foldl (fun acc c => acc * 10 + (c - 48)) 0 = n := by
  induction n using dg_ind with
  | h1 n h => rw [dg_low h]; simp
  | h2 n h ih =>
    rw [dg_high h, List.foldl_append, ih]
    simp
    omega
theorem dg_len : ∀ (k n : Nat), n < 10 ^ (k + 1) → (dg n).length ≤ k + 1
  | 0, n, h => by rw [dg_low (by simpa using h)]; simp
  | k + 1, n, h => by
    by_cases z : n < 10
    · rw [dg_low z]; simp
    · rw [dg_high z, List.length_append]
      have := dg_len k (n / 10) (by rw [Nat.pow_succ] at h; omega)
      simp
      omega
def dgInit (n : Nat) : List Nat := if n < 10 then [] else dg (n / 10)
theorem dg_init (n : Nat) : dg n = dgInit n ++ [48 + n % 10] := by
  unfold dgInit
  by_cases h : n < 10
  · rw [dg_low h, if_pos h]; simp; omega
  · rw [dg_high h, if_neg h]
def wordL : Option Int → List Nat
  | none => [46]
  | some i => (if i < 0 then [45] else []) ++ dg i.natAbs
def wordOf (c : Option Int) : Str := ⟨(wordL c).toArray⟩
theorem wordL_len (c : Option Int) (h : ∀ i, c = some i → -10000000000 < i ∧ i < 10000000000) : (wordL c).length ≤ 11 := by
  cases c with
  | none => simp [wordL]
  | some i =>
    have := h i rfl
    have := dg_len 9 i.natAbs (by show i.natAbs < 10000000000; omega)
    unfold wordL
    rw [List.length_append]
    split <;> simp <;> omega
def joinL (c : Nat) : List (List Nat) → List Nat
  | [] => []
  | [x] => x
  | x :: y :: r => x ++ c :: joinL c (y :: r)
theorem joinL_cons (c : Nat) (x : List Nat) {r : List (List Nat)} (h : r ≠ []) : joinL c (x :: r) = x ++ c :: joinL c r := by
  cases r with
  | nil => exact absurd rfl h
  | cons y r => rfl
theorem take_free {c : Nat} : ∀ {x y r s : List Nat}, c ∉ x → c ∉ y → x ++ c :: r = y ++ c :: s → x = y ∧ r = s
  | [], [], r, s, _, _, h => by simpa using h
  | [], b :: y, r, s, _, hy, h => by
    have : c = b := by simpa using (List.cons.inj h).1
    exact absurd (by simp [this]) hy
  | a :: x, [], r, s, hx, _, h => by
    have : a = c := by simpa using (List.cons.inj h).1
    exact absurd (by simp [this]) hx
  | a :: x, b :: y, r, s, hx, hy, h => by
    have e := List.cons.inj h
    have := take_free (x := x) (y := y) (fun z => hx (List.mem_cons_of_mem _ z)) (fun z => hy (List.mem_cons_of_mem _ z)) e.2
    exact ⟨by rw [e.1, this.1], this.2⟩
theorem mem_joinL {c : Nat} {x y : List Nat} (r : List (List Nat)) : c ∈ joinL c (x :: y :: r) := by
  show c ∈ x ++ c :: joinL c (y :: r)
  simp
theorem joinL_inj {c : Nat} : ∀ {p q : List (List Nat)}, p ≠ [] → q ≠ [] → (∀ x ∈ p, c ∉ x) → (∀ x ∈ q, c ∉ x) → joinL c p = joinL c q → p = q
  | [], _, h, _, _, _, _ => absurd rfl h
  | _, [], _, h, _, _, _ => absurd rfl h
  | [x], [y], _, _, _, _, h => by rw [show x = y from h]
  | [x], y :: z :: r, _, _, hx, _, h => absurd (show c ∈ x from by rw [show x = _ from h]; exact mem_joinL r) (hx x (by simp))
  | x :: z :: r, [y], _, _, _, hy, h => absurd (show c ∈ y from by rw [← show _ = y from h]; exact mem_joinL r) (hy y (by simp))
  | x :: x2 :: r, y :: y2 :: s, _, _, hx, hy, h => by
    have e := take_free (hx x (by simp)) (hy y (by simp)) h
    have := joinL_inj (p := x2 :: r) (q := y2 :: s) (by simp) (by simp) (fun z hz => hx z (List.mem_cons_of_mem _ hz)) (fun z hz => hy z (List.mem_cons_of_mem _ hz)) e.2
    rw [e.1, this]
theorem join_cps (c : Nat) : ∀ p : List Str, (Str.join ⟨#[c]⟩ p).cps.toList = joinL c (p.map (·.cps.toList))
  | [] => rfl
  | [x] => rfl
  | x :: y :: r => by
    show ((x ++ ⟨#[c]⟩ ++ Str.join ⟨#[c]⟩ (y :: r) : Str)).cps.toList = x.cps.toList ++ c :: joinL c ((y :: r).map (·.cps.toList))
    rw [← join_cps c (y :: r)]
    show (x.cps ++ #[c] ++ (Str.join ⟨#[c]⟩ (y :: r)).cps).toList = _
    simp
theorem split_join (c : Nat) {p : List Str} (h : p ≠ []) (hp : ∀ x ∈ p, c ∉ x.cps.toList) : Txt.split (Str.join ⟨#[c]⟩ p) ⟨#[c]⟩ = p := by
  have e := StrLaws.join_split (Str.join ⟨#[c]⟩ p) ⟨#[c]⟩
  have f := StrLaws.split_free (Str.join ⟨#[c]⟩ p) c
  have n : Txt.split (Str.join ⟨#[c]⟩ p) ⟨#[c]⟩ ≠ [] := by
    unfold Txt.split
    split
    · simp
    · split
      · simp
      · unfold PySem.Builtin.Str.partsBetween
        simp
  generalize Txt.split (Str.join ⟨#[c]⟩ p) ⟨#[c]⟩ = q at e f n
  have e2 := congrArg (fun x : Str => x.cps.toList) e
  simp only [join_cps] at e2
  have := joinL_inj (c := c) (by simpa using n) (by simpa using h) (by simpa using f) (by simpa using hp) e2
  refine (List.map_inj_right (fun a b h => ?_)).mp this
  cases a
  cases b
  exact congrArg Str.mk (Array.toList_inj.mp h)
theorem toDigits_dg (m : Nat) : (Nat.toDigits 10 m).map Char.toNat = dg m := by
  have back : ∀ d : Nat, d < 10 → (Nat.digitChar d).toNat = 48 + d := by decide
  induction m using dg_ind with
  | h1 m h =>
    rw [Nat.toDigits_of_lt_base h, dg_low h]
    show [(Nat.digitChar m).toNat] = _
    rw [back m h]
  | h2 m h ih =>
    have hm : m % 10 < 10 := Nat.mod_lt m (by decide)
    have t : Nat.toDigits 10 (m / 10) ++ Nat.toDigits 10 (m % 10) = Nat.toDigits 10 (10 * (m / 10) + m % 10) := Nat.toDigits_append_toDigits (by decide) (by omega) hm
    rw [Nat.div_add_mod] at t
    rw [← t, List.map_append, Nat.toDigits_of_lt_base hm, ih, dg_high h]
    show _ ++ [(Nat.digitChar (m % 10)).toNat] = _
    rw [back _ hm]
theorem str_word (i : Int) : Str.ofString (toString i) = wordOf (some i) := by
  rw [Str.ofString_eq_toList]
  unfold wordOf wordL
  congr 1
  cases i with
  | ofNat m =>
    show ((Nat.repr m).toList.map Char.toNat).toArray = _
    rw [Nat.toList_repr, toDigits_dg]
    dsimp only
    rw [if_neg (by show ¬ ((m : Int) < 0); omega)]
    rfl
  | negSucc m =>
    show (("-" ++ Nat.repr (m + 1)).toList.map Char.toNat).toArray = _
    rw [String.toList_append, List.map_append, Nat.toList_repr, toDigits_dg]
    dsimp only
    rw [if_pos (Int.negSucc_lt_zero m)]
    rfl
end L2
namespace L2
open PySem PySem.Spec PyProof.Rows
section
variable {X : Cx} {pins : List (Addr × Obj)} {σ : St} {H : Hp} {s : Shared} {h' : Heap}
theorem Inv.turnedL {t' : Nat} {fp : List Addr} (I : Inv X pins σ H s) (k : ∀ b o, b ∉ fp → s.heap.get? b = some o → h'.get? b = some o) (hf : ∀ b ∈ fp, FpOk X pins H b) : Inv X pins σ H { s with heap := h', toks := t' } := by
  have nit : ∀ b u, H b = some u → b ∉ fp := fun b u e z => by rw [(hf b z).1] at e; cases e
  refine I.step (g' := s.gens) (d' := s.drawn) (ch := fp) (fun b hb => ?_) (fun b o _ _ hc e _ => k b o hc e) (fun b o _ _ hc e _ => ⟨o.slots, k b o hc e⟩) (fun _ _ _ _ n => n)
    (fun b o hc e => ⟨o, k b o hc e⟩) (fun _ _ e => e) (fun _ _ _ e => e) (fun b ps e => ⟨#[], by rw [e]; simp⟩) (fun m hm => ?_) (fun b u e => ?_) I.bare
  · obtain ⟨f0, f1, f2, f3, f4, f5⟩ := hf b hb
    exact ⟨f3, f1, f4, f5⟩
  · obtain ⟨o, es, ep, ho, r⟩ := hm
    exact ⟨o, es, ep, k _ o (fun z => (hf _ z).2.1 rfl) ho, r⟩
  · refine (I.hok b u e).stay (fun c v hc q => k c v ?_ q) (fun _ q => q) fun _ _ q => q
    rcases hc with z | z
    · rw [z]; exact nit b u e
    · exact nit c _ z
end
def Ite (K : PySem.W.Frag) (a : Addr) : It :=
  ⟨fun i H => ∃ xs x, SqL K H a xs ∧ xs[i]? = some x, fun i H v H' => ∃ t y, H t = none ∧ v = .ref t ∧ H' = upd H t (.tup [.int i, y]) ∧ ∀ xs, SqL K H a xs → xs[i]? = some y, fun i H => ∃ xs, SqL K H a xs ∧ xs.length ≤ i⟩
theorem turn_enum {P : Program} {w : World} {K : PySem.W.Frag} {elts : List Expr} {k : Nat} {pos : Pos} (a e it : Addr) (hei : e ≠ it) :
    Turn P w K (.Tuple elts k pos) (Ite K a) [e, it] e (fun i h => (∃ old, IsEnum h e it i old) ∧ h.IsListIter it a i) where
  mem := by simp
  obj := fun i h st b hb => by
    obtain ⟨⟨old, he⟩, o, e', c, d⟩ := st
    rcases List.mem_cons.mp hb with rfl | hb
    · exact ⟨_, he, fun v z => by cases z⟩
    · have : b = it := by simpa using hb
      subst this
      exact ⟨o, e', fun v z => by rw [d] at z; cases z⟩
  keep := fun i h h' st kk => by
    obtain ⟨⟨old, he⟩, hit⟩ := st
    exact ⟨⟨old, kk e (by simp) _ he⟩, hit.at fun o x => kk it (by simp) o x⟩
  item := by
    intro X hP hw hK hc i pins s σ H E I hf st hg
    subst hP hw hK
    obtain ⟨xs, x, hq, hx⟩ := hg
    obtain ⟨its, rv, p, hz⟩ := I.list hq
    obtain ⟨u, hu, ru⟩ := rv.get hx
    obtain ⟨⟨old, he⟩, hit⟩ := st
    have helt : e < s.heap.objs.size := Heap.lt_size he
    have hilt : it < s.heap.objs.size := by obtain ⟨_, z, _⟩ := hit; exact Heap.lt_size z
    refine wpAny_pyNext_enum_item he hit p.isList (x := u) (by simpa using hu) hei fun h' ho hit' hT hsz hk => ?_
    refine ⟨_, rfl, wpAny_letOwnedTupleGo_enum ho fun h2 he2 sb => ?_⟩
    have T2 : h2.get? s.heap.objs.size = some { cls := .type "tuple", data := .seq #[.int i s.toks, u] } := (sb.2 _ (Nat.ne_of_gt helt)).trans hT
    have new : ObjOk X.prog X.w (upd H s.heap.objs.size (.tup [.int i, x])) (s.heap.push { cls := .type "tuple", data := .seq #[.int i s.toks, u] }) s.heap.objs.size (.tup [.int i, x]) :=
      ⟨(by show 2 ≤ sizeLine; decide), [.int i s.toks, u], .cons ⟨_, rfl⟩ (.cons ru .nil), _, Heap.get?_push_size _ rfl, rfl, _, rfl⟩
    have I1 : Inv X pins σ (upd H s.heap.objs.size (.tup [.int i, x])) { s with heap := s.heap.push { cls := .type "tuple", data := .seq #[.int i s.toks, u] }, toks := s.toks + 1 } :=
      I.laid (fun b o z => Heap.get?_push_of_some _ z) (Nat.le_refl _) new
    have hf1 : ∀ b ∈ [e, it], FpOk X pins (upd H s.heap.objs.size (.tup [.int i, x])) b := fun b hb => by
      obtain ⟨f0, f⟩ := hf b hb
      refine ⟨?_, f⟩
      have : b ≠ s.heap.objs.size := by
        rcases List.mem_cons.mp hb with rfl | hb
        · exact Nat.ne_of_lt helt
        · have : b = it := by simpa using hb
          subst this
          exact Nat.ne_of_lt hilt
      rw [upd_ne this]
      exact f0
    have I2 : Inv X pins σ (upd H s.heap.objs.size (.tup [.int i, x])) { s with heap := h2, toks := s.toks + 1 } := by
      have I3 := I1.turnedL (t' := s.toks + 1) (h' := h2) (fp := [e, it]) (fun b o hb z => ?_) hf1
      · exact I3
      have b1 : b ≠ e := fun z => hb (by simp [z])
      have b2 : b ≠ it := fun z => hb (by simp [z])
      rcases Heap.get?_push_cases z with ⟨rfl, rfl⟩ | z
      · exact T2
      · exact (sb.2 b b1).trans (hk b o b1 b2 z)
    refine ⟨.ref s.heap.objs.size, _, I2, rfl, ⟨s.heap.objs.size, x, I.hok.fresh (Nat.le_refl _), rfl, rfl, fun ys hy => by rw [I.list_inj hy hq]; exact hx⟩, ⟨⟨_, by simpa using he2⟩, hit'.at fun o z => (sb.2 it hei.symm).trans z⟩, fun b hb => (hf1 b hb).1⟩
  done := by
    intro X hP hw hK hc i pins s σ H E I hf st hg
    subst hP hw hK
    obtain ⟨xs, hq, hx⟩ := hg
    obtain ⟨its, rv, p, hz⟩ := I.list hq
    obtain ⟨⟨old, he⟩, hit⟩ := st
    have hl := rv.length
    exact wpAny_pyNext_enum_end (I.ok.hd hc) he hit p.isList (by simp; omega) fun h' eb => ⟨rfl, I.turnedL (t' := s.toks) (fp := [e, it]) (fun b o hb z => eb b o (fun y => hb (by simp [y])) z) hf⟩
  self := fun _ _ _ _ _ st h => by
    obtain ⟨⟨old, he⟩, _⟩ := st
    exact wpAny_pyIter_enum he h
theorem bt_enumerate : bootBuiltins "enumerate" = some (.type "enumerate") := by decide +kernel
def iEnum (K : PySem.W.Frag) (ta : TA) : TI := fun σ H R => ta σ H fun vs H1 => ∃ a, vs = [.ref a] ∧ (∃ xs, SqL K H1 a xs) ∧ R (Ite K a) H1
section
variable {X : Cx}
theorem pi_enum {K : PySem.W.Frag} {elts : List Expr} {k : Nat} {pt : Pos} {a : Expr} {ta : TA} {p pos : Pos} (hK : X.K = K) (hg : Gl X "enumerate") (hm : X.mg "enumerate" = none) (ha : PA X [a] ta) (hs : starEach [a] X.env = [(false, eval a X.env)] := by rfl) :
    PI X (.Tuple elts k pt) (.Call (.Name "enumerate" p) [a] [] pos) (iEnum K ta) := by
  subst hK
  intro pins s σ H R I h
  refine Call_ (ld_blt I hg hm bt_enumerate (PyProof.Rows.callWith_type1 (thn (ha pos pins s σ H _ I h) fun us s1 ⟨vs, H1, I1, r1, q1⟩ => ?_) hs rfl))
  obtain ⟨l, rfl, ⟨xs, hq⟩, q⟩ := q1
  obtain ⟨u, rfl, e⟩ := vals1 r1
  obtain rfl : u = Value.ref l := e
  obtain ⟨its, rv, pl, hz⟩ := I1.list hq
  refine call_enumerate_list pl.isList fun h' he hit hsz hk => ?_
  refine wpAny_pyIter_enum he ?_
  refine ⟨s1.heap.objs.size + 1, [s1.heap.objs.size + 1, s1.heap.objs.size], _, _, H1, rfl, I1.kept (t' := s1.toks) hk, turn_enum l _ _ (Nat.ne_of_gt (Nat.lt_succ_self _)), ⟨⟨_, he⟩, hit⟩, fun b hb => ?_, q⟩
  rcases List.mem_cons.mp hb with rfl | hb
  · exact I1.fpOk (Nat.le_succ _) (I1.hok.fresh (Nat.le_succ _))
  · have : b = s1.heap.objs.size := by simpa using hb
    subst this
    exact I1.fpOk (Nat.le_refl _) (I1.hok.fresh (Nat.le_refl _))
end
theorem for_enum {K : PySem.W.Frag} {a : Addr} {xs : List V} {g : TG} {tb : TS} {D : Ends} {σ : St} {H : Hp} (Pv : Nat → St → Hp → Prop) (h0 : Pv 0 σ H) (hl : ∀ i σ H, i ≤ xs.length → Pv i σ H → SqL K H a xs)
    (hs : ∀ i x σ H t, xs[i]? = some x → Pv i σ H → H t = none → g (.ref t) σ (upd H t (.tup [.int i, x])) fun σ2 H2 => tb { D with nx := Pv (i + 1), ct := Pv (i + 1), bk := D.nx } σ2 H2) (hd : ∀ σ H, Pv xs.length σ H → D.nx σ H) :
    ∃ W : Nat → Nat → St → Hp → Prop, (∃ m, W 0 m σ H) ∧ ∀ i m σ H, W i m σ H →
      ((Ite K a).stop i H ∧ D.nx σ H) ∨ ((Ite K a).go i H ∧ ∃ N : St → Hp → Prop, (∀ σ' H', N σ' H' → ∃ m', m' < m ∧ W (i + 1) m' σ' H') ∧ ∀ x H', (Ite K a).yld i H x H' → g x σ H' fun σ2 H2 => tb { D with nx := N, ct := N, bk := D.nx } σ2 H2) := by
  refine ⟨fun i m σ H => m = xs.length - i ∧ i ≤ xs.length ∧ Pv i σ H, ⟨xs.length, by simp, Nat.zero_le _, h0⟩, ?_⟩
  rintro i m σ H ⟨rfl, hi, p⟩
  have q := hl i σ H hi p
  by_cases hlt : i < xs.length
  · refine .inr ⟨⟨xs, xs[i], q, by simp [hlt]⟩, Pv (i + 1), fun σ' H' p' => ⟨xs.length - (i + 1), by omega, rfl, hlt, p'⟩, fun x H' y => ?_⟩
    obtain ⟨t, z, ht, rfl, rfl, y⟩ := y
    exact hs i z σ H t (y xs q) p ht
  · have e : i = xs.length := by omega
    subst e
    exact .inl ⟨⟨xs, q, Nat.le_refl _⟩, hd σ H p⟩
def Itx (x : Str) : It := ⟨fun i _ => i < x.cps.size, fun i H v H' => H' = H ∧ ∃ c, x.cps[i]? = some c ∧ v = .str ⟨#[c]⟩, fun i _ => x.cps.size ≤ i⟩
theorem turn_str {P : Program} {w : World} {K : PySem.W.Frag} {tg : Expr} (it : Addr) (x : Str) (t : Tok) : Turn P w K tg (Itx x) [it] it (fun i h => h.IsStrIter it "str_ascii_iterator" x t i) where
  mem := by simp
  obj := fun i h st b hb => by
    have e : b = it := by simpa using hb
    subst e
    obtain ⟨o, e, c, d⟩ := st
    exact ⟨o, e, fun v z => by rw [d] at z; cases z⟩
  keep := fun i h h' st k => let ⟨o, e, r⟩ := st; ⟨o, k it (by simp) o e, r⟩
  item := by
    intro X hP hw hK hc i pins s σ H E I hf st hg
    subst hP hw hK
    obtain ⟨f0, f1, f2, f3, f4, f5⟩ := hf it (by simp)
    have hi : i < x.cps.size := hg
    refine wpAny_pyNext_ascii_item st (c := x.cps[i]) (by simp [hi]) fun h' st' sb => ?_
    have I1 : Inv X pins σ H { s with heap := h', toks := s.toks + 1 } := I.turned (t' := s.toks + 1) (fun b o hb e => (sb.2 b hb).trans e) f0 f1 f3 f4 f5
    obtain ⟨o, e, c, d⟩ := id st'
    exact ⟨_, rfl, go_of (s := { s with heap := h', toks := s.toks + 1 }) e c d (by decide) ⟨.str ⟨#[x.cps[i]]⟩, H, I1, ⟨_, rfl⟩, ⟨rfl, _, by simp [hi], rfl⟩, st', fun b hb => (hf b hb).1⟩⟩
  done := by
    intro X hP hw hK hc i pins s σ H E I hf st hg
    subst hP hw hK
    obtain ⟨f0, f1, f2, f3, f4, f5⟩ := hf it (by simp)
    have hi : x.cps.size ≤ i := hg
    exact wpAny_pyNext_ascii_end (I.ok.hd hc) st (by simp [hi]) fun h' eb => ⟨rfl, I.turned (t' := s.toks) (fun b o hb e => eb b o hb e) f0 f1 f3 f4 f5⟩
  self := fun _ _ _ _ _ st h => wpAny_pyIter_striter_ascii st h
def iStr (tl : TE) : TI := fun σ H R => tl σ H fun v H1 => ∃ x, v = .str x ∧ x.cps.all (· < 128) = true ∧ R (Itx x) H1
section
variable {X : Cx} {tg : Expr}
theorem pi_str {l : Expr} {tl : TE} (hl : PE X l tl) : PI X tg l (iStr tl) := by
  intro pins s σ H R I h
  refine thn (hl pins s σ H _ I h) fun v s1 ⟨x, H1, I1, r1, q1⟩ => ?_
  obtain ⟨y, rfl, ha, q⟩ := q1
  obtain ⟨t, rfl⟩ := r1
  refine wpAny_pyIter_ascii ha ?_
  refine ⟨s1.heap.objs.size, [s1.heap.objs.size], _, _, H1, rfl, I1.kept (t' := s1.toks) fun b o e => Heap.get?_push_of_some _ e, turn_str _ y t, ⟨_, Heap.get?_push_size _ rfl, rfl, rfl⟩, fun b hb => ?_, q⟩
  have e : b = s1.heap.objs.size := by simpa using hb
  subst e
  exact I1.fpOk (Nat.le_refl _) (I1.hok.fresh (Nat.le_refl _))
end
theorem compW_str {x : Str} {H : Hp} {one : V → Hp → (Option V → Hp → Prop) → Prop} {Q : List V → Hp → Prop} (Pv : Nat → List V → Hp → Prop) (h0 : Pv 0 [] H) (hn : x.cps.size ≤ sizeLine)
    (hs : ∀ i c ys H, x.cps[i]? = some c → Pv i ys H → one (.str ⟨#[c]⟩) H fun o H2 => Pv (i + 1) (ys ++ o.toList) H2) (hd : ∀ ys H, Pv x.cps.size ys H → Q ys H) : CompW (Itx x) H one Q := by
  refine ⟨x.cps.size, fun i ys H => i ≤ x.cps.size ∧ Pv i ys H, ⟨Nat.zero_le _, h0⟩, hn, ?_⟩
  rintro i ys H ⟨hi, p⟩
  by_cases hlt : i < x.cps.size
  · refine .inr ⟨hlt, hlt, fun o H3 => Pv (i + 1) (ys ++ o.toList) H3, fun o H3 z => ⟨hlt, z⟩, fun v H2 y => ?_⟩
    obtain ⟨e, c, hc, rfl⟩ := y
    subst e
    exact hs i c ys _ hc p
  · have e : i = x.cps.size := by omega
    subst e
    exact .inl ⟨Nat.le_refl _, hd ys H p⟩
section
variable {X : Cx} {K : PySem.W.Frag}
theorem call_int_text : CallR X (.type "int") (fun xs H Q => ∃ (x : Str) (n : Int), xs = [.str x] ∧ PySem.intText? x = some n ∧ x.length ≤ 640 ∧ Q (.int n) H) := by
  intro pins s σ H xs us Q I r h
  obtain ⟨x, n, rfl, hn, hl, q⟩ := h
  obtain ⟨u, rfl, ⟨t, rfl⟩⟩ := vals1 r
  exact PySem.W.KIN.call_text hn hl ⟨.int n, H, I.tok _, ⟨_, rfl⟩, q⟩
theorem slice1 (n : Nat) (h : 1 ≤ n) : Builtin.Str.strSliceIndices (some 1) none 1 n = (List.range (n - 1)).map (fun k => 1 + k) := by
  rw [← PySem.StrLaws.strSliceIndices_plain (a := 1) (b := n) h (Nat.le_refl _)]
  have h2 : ¬ ((n : Int) < 0) := by omega
  have e1 : max (0 : Int) (min (n : Int) (n : Int)) = n := by omega
  simp only [Builtin.Str.strSliceIndices, sliceRange, h2, if_false, e1, show ((1 : Int) > 0) = True from by simp, if_true]
  rfl
def rSl1 : V → Option Int → Option Int → Hp → VK → Prop := fun x lo hi H Q => ∃ z : Str, x = .str z ∧ lo = some 1 ∧ hi = none ∧ 1 ≤ z.length ∧ z.length ≤ sizeLine ∧ Q (.str ⟨(z.cps.toList.drop 1).toArray⟩) H
theorem sl_str1 : SlR X rSl1 := by
  intro pins s σ H x v vl vu lo hi sl Q I rx hs pl pu h
  obtain ⟨z, rfl, rfl, rfl, h1, h2, q⟩ := h
  obtain ⟨t, rfl⟩ := rx
  obtain ⟨tl, rfl⟩ : ∃ tl, vl = .int 1 tl := by cases pl; exact ⟨_, rfl⟩
  obtain rfl : vu = .none := by cases pu; rfl
  refine ⟨"str", _, PySem.F.slot_str_getitem.lookup, typeIs_str s z t, ?_⟩
  obtain ⟨o, ho, hc, hd⟩ := hs
  refine wpAny_getItem_str_slice (l := some (1, tl)) (u := none) (st := none) ⟨o, ho, hc, hd⟩ rfl ?_
  have e : slicePicked z (some (1, tl)) none none = (List.range (z.length - 1)).map (fun k => 1 + k) := slice1 _ h1
  have e3 : ((List.range (z.length - 1)).map (fun k => 1 + k)).filterMap (z.cps[·]?) = z.cps.toList.drop 1 := by
    have := PySem.StrLaws.picks z.cps.toList (z.length - 1) 1 (by simp [Str.length] at h1 ⊢; omega)
    rw [List.take_of_length_le (by simp [Str.length])] at this
    simpa using this
  unfold sliceMade
  rw [e, if_neg (by rw [List.length_map, List.length_range, Bool.and_eq_true]; intro z2; have := z2.2; simp at this; omega), e3]
  refine ⟨?_, ⟨.str _, H, I.tok _, ⟨_, rfl⟩, q⟩⟩
  show (List.drop 1 z.cps.toList).toArray.size ≤ sizeLine
  rw [List.size_toArray, List.length_drop]
  have : z.cps.toList.length = z.length := by simp [Str.length]
  omega
theorem mt_joinK (h : X.K = K) : MtM X "str.join" (rJoin K) := by subst h; exact mt_join
theorem int_word {i : Int} (h : -10000000000 < i ∧ i < 10000000000) : PySem.intText? (wordOf (some i)) = some i := by
  have l := wordL_len (some i) (fun j e => by cases e; exact h)
  have hl : (wordOf (some i)).length ≤ 4300 := by
    show (wordL (some i)).toArray.size ≤ 4300
    rw [List.size_toArray]; omega
  by_cases hi : i < 0
  · have e : (wordOf (some i)).cps.toList = 45 :: dg i.natAbs := by
      show (wordL (some i)).toArray.toList = _
      unfold wordL
      dsimp only
      rw [if_pos hi]
      simp
    rw [PySem.intText_neg e (dg_all _) (dg_ne _) hl]
    have : PySem.NumText.digitsVal (dg i.natAbs) = i.natAbs := dg_val _
    rw [this]
    congr 1
    omega
  · have e : (wordOf (some i)).cps.toList = dg i.natAbs := by
      show (wordL (some i)).toArray.toList = _
      unfold wordL
      dsimp only
      rw [if_neg hi]
      simp
    rw [PySem.intText_digits (by rw [e]; exact dg_all _) (by rw [e]; exact dg_ne _) hl, e]
    have : PySem.NumText.digitsVal (dg i.natAbs) = i.natAbs := dg_val _
    rw [this]
    congr 1
    omega
theorem pe_bmK {o e : Expr} {es : List Expr} {to : TE} {t : TA} {name : Str} {apos cpos : Pos} {T id : String} {r : V → List V → Hp → VK → Prop} (hK : X.K = K) (pa : PlainAttrs T) (slot : Slot T name id) (hty : typeOf (.builtin id) = pure (.type "method_descriptor")) (hm : MtR X id r) (ho : PE X o to) (ha : PA X (e :: es) t)
    (hbase : attributeBase o name X.env (eval o X.env) = eval o X.env := by rfl)
    (hfew : ((backTo cpos (starEach (e :: es) X.env)).all (fun x => !x.1) && (backToKw cpos (keywordEach [] X.env)).all (fun x => x.1.isSome)
      && decide ((e :: es).length + ([] : List Keyword).length + (if ([] : List Keyword).isEmpty then 0 else 1) < 30)) = true := by rfl)
    (hline : (apos.endLine == cpos.line) = true := by rfl) (hs : starEach (e :: es) X.env = (false, eval e X.env) :: starEach es X.env := by rfl) (hplain : (backTo cpos (starEach es X.env)).any (·.1) = false := by rfl) :
    PE X (.Call (.Attribute o name apos) (e :: es) [] cpos) (tBM K T r to t) := by
  subst hK
  exact pe_bm pa slot hty hm ho ha hbase hfew hline hs hplain
theorem pe_globE {x : Str} {v : V} {pos : Pos} (hg : Gl X x) (h : ∃ u, X.mg x = some u ∧ RelV v u) (hd : (x == ("__debug__" : Str)) = false := by decide) : PE X (.Name x pos) (tC v) := by
  obtain ⟨u, hm, r⟩ := h
  exact pe_glob hg hm r hd
theorem word_none : wordOf none = ("." : Str) := by decide +kernel
theorem word_dot (i : Int) : ¬ wordOf (some i) = ("." : Str) := by
  intro h
  have e := congrArg (fun x : Str => x.cps.toList) h
  have e2 : (wordOf (some i)).cps.toList = wordL (some i) := by show (wordL (some i)).toArray.toList = _; simp
  have e3 : (("." : Str)).cps.toList = [46] := by decide +kernel
  simp only [e2, e3] at e
  unfold wordL at e
  dsimp only at e
  have a := dg_all i.natAbs
  have n := dg_ne i.natAbs
  cases hd : dg i.natAbs with
  | nil => exact n hd
  | cons c r =>
    rw [hd] at e a
    have := a c (by simp)
    by_cases hi : i < 0
    · rw [if_pos hi] at e; simp at e
    · rw [if_neg hi] at e
      have : c = 46 := by simpa using (List.cons.inj e).1
      omega
def tFv (ta : TE) : TE := fun σ H Q => ta σ H fun x H1 => ∃ i : Int, x = .int i ∧ i.natAbs.log2 < 1920 ∧ Q (.str (Str.ofString (toString i))) H1
theorem pe_fv {a : Expr} {ta : TE} {pos : Pos} (ha : PE X a ta) : PE X (.FormattedValue a (-1) none pos) (tFv ta) := by
  intro pins s σ H Q I h
  refine wpAny_FormattedValue_plain (thn (ha pins s σ H _ I h) fun v s1 ⟨x, H1, I1, r1, q1⟩ => ?_)
  obtain ⟨i, rfl, hi, q⟩ := q1
  obtain ⟨t, rfl⟩ := r1
  exact wpAny_formatField_int hi ⟨.str _, H1, I1.tok _, ⟨_, rfl⟩, q⟩
abbrev TJ := Str → St → Hp → VK → Prop
def PJ (X : Cx) (es : List Expr) (t : TJ) : Prop := ∀ (acc : Str) (pins : List (Addr × Obj)) (s : Shared) (σ : St) (H : Hp) (Q : VK), Inv X pins σ H s → t acc σ H Q →
  Joins (model X.prog X.w) X.A X.xe (evalEach es X.env) acc (fun out s1 => out.length ≤ sizeLine ∧ EP X pins σ Q (.str out s1.toks) { s1 with toks := s1.toks + 1 }) s
theorem pj_nil : PJ X [] (fun acc _ H Q => acc.length ≤ sizeLine ∧ Q (.str acc) H) := by
  intro acc pins s σ H Q I h
  exact ⟨h.1, .str acc, H, I.tok _, ⟨_, rfl⟩, h.2⟩
theorem pj_cons {e : Expr} {es : List Expr} {te : TE} {t : TJ} (he : PE X e te) (hr : PJ X es t) : PJ X (e :: es) (fun acc σ H Q => te σ H fun x H1 => ∃ y : Str, x = .str y ∧ (acc ++ y).length ≤ sizeLine ∧ t (acc ++ y) σ H1 Q) := by
  intro acc pins s σ H Q I h
  show wpAny _ _ (eval e X.env) _ _ s
  refine thn (he pins s σ H _ I h) fun v s1 ⟨x, H1, I1, r1, q1⟩ => ?_
  obtain ⟨y, rfl, hz, q⟩ := q1
  obtain ⟨t', rfl⟩ := r1
  exact ⟨y, t', rfl, hz, hr _ pins s1 σ H1 Q I1 q⟩
theorem pe_fstr {e1 e2 : Expr} {es : List Expr} {t : TJ} {pos : Pos} (h : PJ X (e1 :: e2 :: es) t) : PE X (.JoinedStr (e1 :: e2 :: es) pos) (fun σ H Q => t Str.empty σ H Q) := by
  intro pins s σ H Q I hq
  exact wpAny_JoinedStr (h Str.empty pins s σ H Q I hq)
end
end L2
set_option maxHeartbeats 2000000
namespace MwRep
open PySem Builtin
end MwRep
namespace L2
open PySem PySem.Spec PyProof.Rows
end L2
namespace L2
open PySem PySem.Spec PyProof.Rows
section
variable {X : Cx}
theorem call_maxB {K : PySem.W.Frag} (hK : X.K = K) (hc : X.calm = true) : CallR X (.builtin "max") (fun xs H Q => ∃ (p : Addr) (ns : List Int), xs = [.ref p] ∧ SqL K H p (ns.map V.int) ∧ ns ≠ [] ∧ ∀ M : Int, M ∈ ns → (∀ x ∈ ns, x ≤ M) → Q (.int M) H) := by
  subst hK
  intro pins s σ H xs us Q I r h
  obtain ⟨p, ns, rfl, hS, hne, q⟩ := h
  obtain ⟨u, rfl, e⟩ := vals1 r
  obtain rfl : u = Value.ref p := e
  obtain ⟨its, hv, ⟨o, n, h1, h2, h3, h4⟩, _⟩ := I.list hS
  have hi : IntsAre its ns := intsAre_of hv
  obtain ⟨xs, hx⟩ := hi.allInts.items
  have hl : s.heap.IsList p its.toArray := ⟨o, h1, h2, n, h4⟩
  have hz : 0 < xs.size := by
    have e1 : its.toArray.size = xs.size := by rw [hx]; simp [intItems]
    have e2 := hi.length
    rw [List.size_toArray] at e1
    have : 0 < ns.length := List.length_pos_iff.mpr hne
    omega
  refine max_intList (I.ok.hd hc) (hx ▸ hl) hz fun v h' tk hv' hk => ?_
  obtain ⟨t, rfl⟩ := intItems_at hv'
  have e1 : ns = xs.toList.map (·.1) := by
    rw [← nums_intItems, ← hx]
    exact (show numsOf its.toArray.toList = ns from hi.numsOf).symm
  obtain ⟨b1, b2⟩ := argBest_gt (numAt xs) (xs.size - 1)
  refine ⟨.int _, H, I.kept hk, ⟨t, rfl⟩, q _ ?_ fun x hx' => ?_⟩
  · rw [numAt_eq, e1]
    exact getD_mem (by rw [List.length_map, Array.length_toList]; omega)
  · rw [e1] at hx'
    obtain ⟨k, hk', e2⟩ := List.getElem_of_mem hx'
    rw [List.length_map, Array.length_toList] at hk'
    have := b2 k (by omega)
    rw [numAt_eq, List.getD_eq_getElem?_getD, List.getElem?_eq_getElem (by rw [List.length_map, Array.length_toList]; exact hk')] at this
    rw [← e2]
    exact this
end
end L2
namespace L2
open PySem
variable {rest es : List Expr} {env : Env} {p : Pos} {a b c : Expr}
theorem star_tup {x} : starEach (Expr.Tuple es x p :: rest) env = (false, eval (.Tuple es x p) env) :: starEach rest env := by rfl
theorem star_sub : starEach (Expr.Subscript a b p :: rest) env = (false, eval (.Subscript a b p) env) :: starEach rest env := by rfl
theorem star_call {ks} : starEach (Expr.Call a es ks p :: rest) env = (false, eval (.Call a es ks p) env) :: starEach rest env := by rfl
theorem star_bin {o} : starEach (Expr.BinOp a o b p :: rest) env = (false, eval (.BinOp a o b p) env) :: starEach rest env := by rfl
theorem star_un {o} : starEach (Expr.UnaryOp o a p :: rest) env = (false, eval (.UnaryOp o a p) env) :: starEach rest env := by rfl
theorem star_comp {g s} : starEach (Expr.ListComp a g s p :: rest) env = (false, eval (.ListComp a g s p) env) :: starEach rest env := by rfl
theorem star_cmp {o} : starEach (Expr.Compare a o es p :: rest) env = (false, eval (.Compare a o es p) env) :: starEach rest env := by rfl
end L2
namespace L2
def many (lo hi : Int) : Int := max 0 (hi - lo + 1)
end L2
namespace L2
open PySem PySem.Spec PyProof.Rows
def Seed (H : Hp) (d : Addr) : Prop := ∃ a b n c : Int, H d = some (.lst [.int a, .int b, .int n, .int c])
theorem Seed.keep {H H' : Hp} {d : Addr} (D : Seed H d) (h : Same H H') : Seed H' d := let ⟨a, b, n, c, e⟩ := D; ⟨a, b, n, c, h _ _ e⟩
theorem Seed.upd {H : Hp} {d p : Addr} {o : HO} (D : Seed H d) (hp : H p = none) : Seed (upd H p o) d := D.keep (same_upd hp)
end L2
set_option maxHeartbeats 2000000
namespace MwSet
open PySem
def Rs (xs : Array Nat) : Prop := xs.toList.Pairwise (· < ·)
structure TabOk (byText : Bool) (t : SetTable) : Prop where
  led : t.led = !byText
  rs : t.plain = true → Rs t.place
end MwSet
set_option maxHeartbeats 2000000
namespace MwSet
open PySem PyProof.Rows
def byT (w : World) : Bool := w.params.followText "set-order"
abbrev setObj (es : Array (Int × Value)) (ep : Nat) (t : SetTable) : Obj := { cls := .type "set", dict := none, data := .set es ep t, slots := #[] }
def nums (es : Array (Int × Value)) : List Int := es.toList.map fun e => numOf e.2
def IntEl (es : Array (Int × Value)) : Prop := ∀ e ∈ es.toList, ∃ k u, e = (hashInt k, Value.int k u)
def SetG (w : World) (h : Heap) (a : Addr) (ks : List Int) : Prop :=
  ∃ es ep t, h.get? a = some (setObj es ep t) ∧ IntEl es ∧ (nums es).Perm ks ∧ ks.Nodup ∧ es.size < scanBound ∧ t.fits es.size = true ∧ TabOk (byT w) t
theorem SetG.at {w : World} {h h' : Heap} {a : Addr} {ks : List Int} (S : SetG w h a ks) (k : ∀ o, h.get? a = some o → h'.get? a = some o) : SetG w h' a ks := let ⟨es, ep, t, e, r⟩ := S; ⟨es, ep, t, k _ e, r⟩
end MwSet
set_option maxHeartbeats 3200000
namespace MwSet
open PySem PySem.Spec PyProof.Rows
end MwSet
set_option maxHeartbeats 3200000
namespace MwSet
open PySem PySem.Spec PyProof.Rows
end MwSet
set_option maxHeartbeats 2000000
namespace MwSortR
open PySem PyProof.Rows
class Ranks where
  ρ : Value → Int
  κ : SortKind
  V : Value → Prop
variable [Ranks]
def K (xs : Array Keyed) (i : Nat) : Int := match xs[i]? with
  | some p => Ranks.ρ p.1
  | none => 0
end MwSortR
namespace MwSortR
open PySem PyProof.Rows
variable [Ranks]
def kf (p : Keyed) : Int := Ranks.ρ p.1
def Rise (l : List Keyed) : Prop := l.Pairwise (fun x y => kf x ≤ kf y)
def Ahead (l r : List Keyed) : Prop := ∀ x ∈ l, ∀ y ∈ r, kf x ≤ kf y
structure MI (a b out : List Keyed) (ia ib : Nat) : Prop where
  perm : out.Perm (a.take ia ++ b.take ib)
  rise : Rise out
  ahA : Ahead out (a.drop ia)
  ahB : Ahead out (b.drop ib)
theorem MI.len {a b out : List Keyed} {ia ib : Nat} (h : MI a b out ia ib) (h1 : ia ≤ a.length) (h2 : ib ≤ b.length) : out.length = ia + ib := by
  have := h.perm.length_eq
  rw [List.length_append, List.length_take, List.length_take] at this
  omega
end MwSortR
set_option maxHeartbeats 2000000
namespace MwSortR
open PySem PyProof.Rows
variable [Ranks]
theorem bindC {α β : Type} {x y : StateT SortSt Sem α} {f g : α → StateT SortSt Sem β} (h1 : x = y) (h2 : ∀ c, f c = g c) : (x >>= f) = (y >>= g) := by rw [h1, funext h2]
def Stay (st st' : SortSt) : Prop := kindOf st' = kindOf st ∧ arrOf st' = arrOf st ∧ pendingOf st' = pendingOf st ∧ failedOf st' = failedOf st
theorem Stay.rfl {st : SortSt} : Stay st st := ⟨_root_.rfl, _root_.rfl, _root_.rfl, _root_.rfl⟩
end MwSortR
set_option maxHeartbeats 2000000
namespace MwSortR
open PySem PyProof.Rows
variable [Ranks]
end MwSortR
set_option maxHeartbeats 2000000
namespace MwSortR
open PySem PyProof.Rows
variable [Ranks]
end MwSortR
set_option maxHeartbeats 2000000
namespace MwSortR
open PySem PyProof.Rows
variable [Ranks]
structure Moved (lo : Nat) (st st' : SortSt) : Prop where
  kind : kindOf st' = kindOf st
  failed : failedOf st' = failedOf st
  pend : pendingOf st' = pendingOf st
  perm : (arrOf st').Perm (arrOf st)
  out : ∀ k, k < lo → K (arrOf st') k = K (arrOf st) k
theorem Moved.rfl {lo : Nat} {st : SortSt} : Moved lo st st := ⟨_root_.rfl, _root_.rfl, _root_.rfl, Array.Perm.refl _, fun _ _ => _root_.rfl⟩
end MwSortR
set_option maxHeartbeats 2000000
namespace MwSortR
open PySem PyProof.Rows
variable [Ranks]
end MwSortR
set_option maxHeartbeats 2000000
namespace MwSort
open PySem PyProof.Rows
end MwSort
set_option maxHeartbeats 3200000
namespace MwSet
open PySem PySem.Spec PyProof.Rows
end MwSet
namespace L2
open PySem PySem.Spec PyProof.Rows
end L2
namespace L2
open PySem PySem.Spec PyProof.Rows
end L2
namespace L2
open PySem PySem.Spec PyProof.Rows
end L2
namespace L2
open PySem PySem.Spec PyProof.Rows
end L2
namespace L2
open PySem PySem.Spec PyProof.Rows
end L2
namespace L2
open PySem PySem.Spec PyProof.Rows
end L2
namespace L2
open PySem PySem.Spec PyProof.Rows
end L2
namespace L2
open PySem PySem.Spec PyProof.Rows
end L2
namespace L2
open PySem PySem.Spec PyProof.Rows
end L2
namespace L2
open PySem PySem.Spec PyProof.Rows
end L2
namespace L2
open PySem PySem.Spec PyProof.Rows
end L2
namespace L2
open PySem PySem.Spec PyProof.Rows
section
variable {κ : Type} [DecidableEq κ]
def valV (kvs : List (κ × V)) (k : κ) : Option V := (kvs.find? fun kv => decide (kv.1 = k)).map (·.2)
def putK (kvs : List (κ × V)) (k : κ) (v : V) : List (κ × V) :=
  if (kvs.any fun kv => decide (kv.1 = k)) = true then kvs.map (fun kv => if kv.1 = k then (kv.1, v) else kv) else kvs ++ [(k, v)]
end
def DGet (H : Hp) (a : Addr) (y : V) (r : Option V) : Prop :=
  (∃ kvs k, Rd H a (.dK kvs) ∧ y = kV k ∧ r = valV kvs k) ∨ ∃ kvs k b, Rd H a (.dT kvs) ∧ y = .ref b ∧ H b = some (.tup (k.map kV)) ∧ r = valV kvs k
def DPut (H : Hp) (a : Addr) (y v : V) (H' : Hp) : Prop :=
  (∃ kvs k, H a = some (.dK kvs) ∧ y = kV k ∧ kvs.length < sizeLine ∧ H' = upd H a (.dK (putK kvs k v))) ∨
  ∃ kvs k b, H a = some (.dT kvs) ∧ y = .ref b ∧ H b = some (.tup (k.map kV)) ∧ kvs.length < sizeLine ∧ H' = upd H a (.dT (putK kvs k v))
theorem DGet.k {H : Hp} {a : Addr} {kvs : List (Key × V)} {k : Key} (e : H a = some (.dK kvs)) : DGet H a (kV k) (valV kvs k) := .inl ⟨kvs, k, .inl e, rfl, rfl⟩
theorem DGet.t {H : Hp} {a b : Addr} {kvs : List (List Key × V)} {k : List Key} (e : H a = some (.dT kvs)) (eb : H b = some (.tup (k.map kV))) : DGet H a (.ref b) (valV kvs k) := .inr ⟨kvs, k, b, .inl e, rfl, eb, rfl⟩
theorem DPut.k {H : Hp} {a : Addr} {kvs : List (Key × V)} {k : Key} {v : V} (e : H a = some (.dK kvs)) (hl : kvs.length < sizeLine) : DPut H a (kV k) v (upd H a (.dK (putK kvs k v))) := .inl ⟨kvs, k, e, rfl, hl, rfl⟩
theorem DPut.t {H : Hp} {a b : Addr} {kvs : List (List Key × V)} {k : List Key} {v : V} (e : H a = some (.dT kvs)) (eb : H b = some (.tup (k.map kV))) (hl : kvs.length < sizeLine) :
    DPut H a (.ref b) v (upd H a (.dT (putK kvs k v))) := .inr ⟨kvs, k, b, e, rfl, eb, hl, rfl⟩
end L2
namespace Att
open PySem PySem.W PySem.Calls PyProof.Rows
end Att
namespace L2
open PySem PySem.Spec PyProof.Rows
end L2
namespace L2
open PySem PySem.Spec PyProof.Rows
end L2
namespace L2
open PySem PySem.Spec PyProof.Rows
end L2
namespace L2
open PySem PySem.Spec PyProof.Rows
end L2
namespace L2
open PySem PySem.Spec PyProof.Rows MwSet
end L2
namespace L2
open PySem PySem.Spec PyProof.Rows MwSet
def SeqV (H : Hp) (p : Addr) (xs : List V) : Prop := H p = some (.tup xs) ∨ H p = some (.lst xs)
theorem SeqV.len {K : PySem.W.Frag} {H : Hp} {p : Addr} {xs : List V} (h : SeqV H p xs) : LenV K (.ref p) H xs.length := h.elim (fun e => .inr ⟨_, SqT.of e, rfl⟩) fun e => .inl ⟨_, SqL.of e, rfl⟩
end L2
namespace L2
open PySem PySem.Spec PyProof.Rows
end L2
namespace L2
open PySem PySem.Spec PyProof.Rows
end L2
namespace L2
open PySem PySem.Spec PyProof.Rows
inductive LeN : List Int → List Int → Prop
  | nil : LeN [] []
  | cons {x y : Int} {xs ys : List Int} : x ≤ y → LeN xs ys → LeN (x :: xs) (y :: ys)
theorem LeN.len : ∀ {xs ys : List Int}, LeN xs ys → xs.length = ys.length
  | _, _, .nil => rfl
  | _, _, .cons _ t => by simp [t.len]
end L2
namespace L2
open PySem PySem.Spec PyProof.Rows
end L2
namespace L2
open PySem PySem.Spec PyProof.Rows
end L2
namespace L2
open PySem PySem.Spec PyProof.Rows
end L2
namespace L2
open PySem PySem.Spec PyProof.Rows
end L2
namespace L2
open PySem PySem.Spec PyProof.Rows
end L2
namespace L2
open PySem PySem.Spec PyProof.Rows
end L2
namespace L2
open PySem PySem.Spec PyProof.Rows
end L2
namespace L2
open PySem PySem.Spec PyProof.Rows
end L2
namespace L2
open PySem PySem.Spec PyProof.Rows
end L2
namespace L2
open PySem
def figL (w : List Nat) : List Nat := if w.head? = some 45 then w.tail else w
def digC (c : Nat) : Bool := decide (48 ≤ c) && decide (c ≤ 57)
def valL (f : List Nat) : Nat := f.foldl (fun acc c => acc * 10 + (c - 48)) 0
def numB (w : List Nat) : Bool := (figL w).all digC && decide (figL w ≠ []) && (decide ((figL w).head? ≠ some 48) || decide (w = [48]))
def numOf (w : List Nat) : Int := if w.head? = some 45 then -(valL (figL w) : Int) else (valL (figL w) : Int)
def cellB (w : List Nat) : Bool := decide (w = [46]) || numB w
def celOf (w : List Nat) : Option Int := if w = [46] then none else some (numOf w)
theorem valL_snoc (f : List Nat) (c : Nat) : valL (f ++ [c]) = valL f * 10 + (c - 48) := by unfold valL; rw [List.foldl_append]; rfl
theorem valL_le (f : List Nat) : ∀ a : Nat, a ≤ f.foldl (fun acc c => acc * 10 + (c - 48)) a := by
  induction f with
  | nil => intro a; exact Nat.le_refl _
  | cons c f ih =>
    intro a
    exact Nat.le_trans (show a ≤ a * 10 + (c - 48) by omega) (ih _)
theorem valL_pos {f : List Nat} (h : f.all digC = true) (n : f ≠ []) (z : f.head? ≠ some 48) : 1 ≤ valL f := by
  cases f with
  | nil => exact absurd rfl n
  | cons c f =>
    rw [List.all_cons, Bool.and_eq_true] at h
    have hc := h.1
    unfold digC at hc
    simp only [Bool.and_eq_true, decide_eq_true_eq] at hc
    have : c ≠ 48 := fun e => z (by rw [e]; rfl)
    unfold valL
    rw [List.foldl_cons]
    exact Nat.le_trans (show 1 ≤ 0 * 10 + (c - 48) by omega) (valL_le f _)
theorem dg_valL : ∀ (n : Nat) (f : List Nat), f.length = n → f.all digC = true → f ≠ [] → f.head? ≠ some 48 → dg (valL f) = f := by
  intro n
  induction n with
  | zero => intro f h _ ne; exact absurd (List.length_eq_zero_iff.mp h) ne
  | succ n ih =>
    intro f hl h ne z
    obtain ⟨g, c, rfl⟩ : ∃ g c, f = g ++ [c] := ⟨f.dropLast, f.getLast ne, (List.dropLast_concat_getLast ne).symm⟩
    rw [List.all_append, Bool.and_eq_true] at h
    have hc := h.2
    simp only [List.all_cons, List.all_nil, Bool.and_true] at hc
    unfold digC at hc
    simp only [Bool.and_eq_true, decide_eq_true_eq] at hc
    rw [valL_snoc]
    by_cases hg : g = []
    · subst hg
      show dg (0 * 10 + (c - 48)) = [c]
      rw [dg_low (by omega)]
      congr 1
      omega
    · have zg : g.head? ≠ some 48 := fun e => z (by
        cases g with
        | nil => exact absurd rfl hg
        | cons a g => exact e)
      have lg : g.length = n := by rw [List.length_append] at hl; simpa using hl
      have p := valL_pos h.1 hg zg
      rw [dg_high (by omega), show (valL g * 10 + (c - 48)) / 10 = valL g by omega, show (valL g * 10 + (c - 48)) % 10 = c - 48 by omega, ih g lg h.1 hg zg, show 48 + (c - 48) = c by omega]
theorem numB_word {w : List Nat} (h : numB w = true) : w = wordL (some (numOf w)) := by
  unfold numB at h
  simp only [Bool.and_eq_true, Bool.or_eq_true, decide_eq_true_eq] at h
  obtain ⟨⟨h1, h2⟩, h3⟩ := h
  unfold numOf
  by_cases m : w.head? = some 45
  · rw [if_pos m]
    have ew : w = 45 :: figL w := by
      unfold figL
      rw [if_pos m]
      cases w with
      | nil => cases m
      | cons a w => rw [show a = 45 from Option.some.inj m]; rfl
    have z : (figL w).head? ≠ some 48 := by
      rcases h3 with z | z
      · exact z
      · rw [z] at m; cases m
    have p := valL_pos h1 h2 z
    have d := dg_valL _ (figL w) rfl h1 h2 z
    unfold wordL
    dsimp only
    rw [if_pos (by omega), show (-(valL (figL w) : Int)).natAbs = valL (figL w) by omega, d]
    exact ew
  · rw [if_neg m]
    have ew : figL w = w := by unfold figL; rw [if_neg m]
    rw [ew] at h1 h2 h3 ⊢
    unfold wordL
    dsimp only
    rw [if_neg (by omega), show ((valL w : Int)).natAbs = valL w by omega]
    rcases h3 with z | z
    · exact (dg_valL _ w rfl h1 h2 z).symm
    · rw [z]
      decide +kernel
theorem cellB_word {w : List Nat} (h : cellB w = true) : w = wordL (celOf w) := by
  unfold celOf
  by_cases e : w = [46]
  · rw [if_pos e, e]; rfl
  · rw [if_neg e]
    unfold cellB at h
    rw [decide_eq_false e, Bool.false_or] at h
    exact numB_word h
def Asc (x : Str) : Prop := ∀ c ∈ x.cps.toList, c < 128
def wordsIn (x : Str) : List Str := Txt.split x ⟨#[32]⟩
def linesAt (x : Str) : List Str := Txt.split x ⟨#[10]⟩
def cpsOf (x : Str) : List Nat := x.cps.toList
def lineC (x : Str) : List (List Nat) := (wordsIn x).map cpsOf
theorem joinL_mem {c : Nat} : ∀ {p : List (List Nat)} {x : List Nat}, x ∈ p → ∀ d ∈ x, d ∈ joinL c p
  | [], _, h, _, _ => absurd h (by simp)
  | [y], x, h, d, hd => by rw [List.mem_singleton.mp h] at hd; exact hd
  | y :: z :: r, x, h, d, hd => by
    show d ∈ y ++ c :: joinL c (z :: r)
    rcases List.mem_cons.mp h with e | e
    · rw [e] at hd; exact List.mem_append_left _ hd
    · exact List.mem_append_right _ (List.mem_cons_of_mem _ (joinL_mem e d hd))
theorem joinL_le {c : Nat} : ∀ {p : List (List Nat)} {x : List Nat}, x ∈ p → x.length ≤ (joinL c p).length
  | [], _, h => absurd h (by simp)
  | [y], x, h => by rw [List.mem_singleton.mp h]; exact Nat.le_refl _
  | y :: z :: r, x, h => by
    show x.length ≤ (y ++ c :: joinL c (z :: r)).length
    rw [List.length_append, List.length_cons]
    rcases List.mem_cons.mp h with e | e
    · rw [e]; omega
    · have := joinL_le (c := c) e; omega
theorem split_cps (x : Str) (c : Nat) : joinL c ((Txt.split x ⟨#[c]⟩).map cpsOf) = cpsOf x := by
  have e := congrArg cpsOf (StrLaws.join_split x ⟨#[c]⟩)
  unfold cpsOf at e ⊢
  rw [join_cps] at e
  exact e
theorem split_part {x y : Str} {c : Nat} (h : y ∈ Txt.split x ⟨#[c]⟩) : (∀ d ∈ cpsOf y, d ∈ cpsOf x) ∧ y.length ≤ x.length := by
  have m : cpsOf y ∈ (Txt.split x ⟨#[c]⟩).map cpsOf := List.mem_map.mpr ⟨y, h, rfl⟩
  have e := split_cps x c
  refine ⟨fun d hd => by rw [← e]; exact joinL_mem m d hd, ?_⟩
  have l := joinL_le (c := c) m
  rw [e] at l
  have q : ∀ z : Str, (cpsOf z).length = z.length := fun z => by unfold cpsOf; simp [Str.length]
  rw [q, q] at l
  exact l
theorem split_ne (x : Str) (c : Nat) : Txt.split x ⟨#[c]⟩ ≠ [] := by
  unfold Txt.split
  split
  · simp
  · split
    · simp
    · unfold PySem.Builtin.Str.partsBetween
      simp
theorem Asc.part {x y : Str} {c : Nat} (a : Asc x) (h : y ∈ Txt.split x ⟨#[c]⟩) : Asc y := fun d hd => a d ((split_part h).1 d hd)
def rdL : List (List (List Nat)) → List (List (Option Int)) → Sum (List (List (Option Int))) Nat
  | [], rows => .inl rows
  | ws :: r, rows => if (ws.all cellB && (decide (rows = []) || decide (ws.length = (rows.headD []).length))) = true then rdL r (rows ++ [ws.map celOf]) else .inr rows.length
def rdT (x : Str) : Sum (List (List (Option Int))) Nat := rdL ((linesAt x).map lineC) []
end L2
namespace L2
open PySem PySem.Spec PyProof.Rows
structure FlyB (P : Program) (w : World) (outer : List Env) (H H' : Hp) (hA B : Heap) : Prop where
  hok : HOk P w H' B
  keep : ∀ b o, hA.get? b = some o → H b = none → b ∉ frs outer → B.get? b = some o
  free : ∀ b o, hA.get? b = some o → H b = none → H' b = none
  there : ∀ b o, hA.get? b = some o → b ∉ frs outer → ∃ u, B.get? b = some u
  tups : ∀ b xs, H b = some (.tup xs) → H' b = some (.tup xs)
  frzs : ∀ b o u, H b = some (.frz o u) → H' b = some (.frz o u)
  tbls : ∀ b ps, H b = some (.tbl ps) → ∃ more, H' b = some (.tbl (ps ++ more))
def Fly (P : Program) (w : World) (outer : List Env) (H H' : Hp) (hA h : Heap) (x : Addr) (C : Value) : Prop :=
  ∃ B arg, FlyB P w outer H H' hA B ∧ Heap.FlyingW B outer x C arg h ∧ ∀ b o, hA.get? b = some o → b ∈ frs outer → ∃ sl, h.get? b = some { o with slots := sl }
section
variable {P : Program} {w : World} {outer : List Env} {H H' : Hp} {hA h : Heap} {x : Addr} {C : Value}
theorem Fly.un (F : Fly P w outer H H' hA h x C) : Un (frs outer) [] H H' hA h ∧ HOk P w H' h := by
  obtain ⟨B, arg, b, f, fr⟩ := F
  exact ⟨⟨fun c o e n hc _ => f.1 _ _ (b.keep c o e n hc), fun c o e n hc _ => fr c o e hc, fun c o e n _ => b.free c o e n, fun c o e _ => by
    by_cases hc : c ∈ frs outer
    · obtain ⟨sl, e2⟩ := fr c o e hc
      exact ⟨_, e2⟩
    · obtain ⟨u, e2⟩ := b.there c o e hc
      exact ⟨u, f.1 _ _ e2⟩, b.tups, b.frzs, b.tbls⟩, b.hok.kept f.1⟩
end
abbrev bmV : List Value := [.type "ValueError", .type "Exception", .type "BaseException", .type "object"]
abbrev nidV : String := "ValueError.__new__"
end L2
namespace L2
open PySem PySem.Spec PyProof.Rows
def ExAt (x : Addr) (C : Value) (h : Heap) : Prop := ∃ o, h.get? x = some o ∧ o.cls = C
def excKit (K : PySem.W.Frag) (D : Addr) : Bool :=
  PySem.W.findIn K (.ref D) "__getattribute__" == some (some (.builtin "BaseException.__getattribute__")) && PySem.W.findIn K (.ref D) "__getattr__" == some none && PySem.W.mroIn K D (.type "BaseException") == some true && (PySem.W.clsIn K D).isSome && PySem.W.findIn K (.ref D) "__class__" == some (some (.builtin "object.__class__")) &&
    PySem.W.specialIn K (.builtin "object.__class__") "__get__" == some (some (.builtin "getset_descriptor.__get__")) && PySem.W.takesIn K (.builtin "object.__class__") == some true && PySem.W.mroIn K D (.type "object") == some true
section
open PySem.W PySem.Calls PySem.Builtin PySem.Builtin.ObjectAttr PySem.Builtin.Getset_descriptor
variable {K : PySem.W.Frag} {x D : Addr}
theorem exAt_ty {M : Model} {h : Heap} {C : Value} (p : ExAt x C h) : Looks M h (typeOf (.ref x)) C := by
  obtain ⟨o, h1, h2⟩ := p
  exact h2 ▸ (Looks.ld h1).andThen .now
theorem kitx_exc (q : excKit K D = true) : KitX K (.ref x) (.ref D) (ExAt x (.ref D)) := by
  unfold excKit at q
  simp only [Bool.and_eq_true, beq_iff_eq] at q
  obtain ⟨⟨⟨⟨⟨⟨⟨hga, hgn⟩, hmb⟩, hc⟩, ha⟩, hn⟩, htk⟩, hm⟩ := q
  have there : ∀ h : Heap, K.In h → ∃ c d cd sl, h.get? D = some ⟨c, d, .cls cd, sl⟩ := fun h X => by
    unfold clsIn at hc
    split at hc
    · rename_i c' d' cd' sl' ho
      exact ⟨c', d', cd', sl', X _ _ ho⟩
    · cases hc
  refine ⟨fun _ _ _ p => exAt_ty p, fun M h X _ => ?_, fun h tp dd its n sl X htp => ?_, fun {prog w A E Q s} X p k => ?_⟩
  · obtain ⟨c, d, cd, sl, ho⟩ := there h X
    intro A' Q' E' s' k q
    unfold isType loadHead
    exact wpAny_bind (wpAny_loadPart (k _ _ ho) (wpAny_pure q))
  · obtain ⟨c, d, cd, sl', ho⟩ := there h X
    refine Bool.eq_false_iff.mpr fun q => ?_
    have e : D = tp := Value.ref.inj (beq_iff_eq.mp q)
    subst e
    have z := ho.symm.trans htp
    cases z
  · obtain ⟨hh, g, dr, t, os⟩ := s
    have L0 := exAt_ty (M := model prog w) p
    have L1 := looks_findIn (M := model prog w) X hga
    have L3 := looks_mroIn (M := model prog w) X hm
    have LB := looks_mroIn (M := model prog w) X hmb
    have LF : Looks (model prog w) hh (find (.ref x) (.ref D) "__class__") (.bind (.builtin "getset_descriptor.__get__") (.builtin "object.__class__")) := by
      refine (looks_findIn X ha).andThen ((looks_specialIn X hn).andThen ?_)
      exact (show Looks _ hh (dataDescriptor? (some (.builtin "object.__class__")) (some (.builtin "getset_descriptor.__get__"))) _ from (looks_takesIn X htk).andThen .now).andThen (Looks.tag .now)
    unfold getAttr? getAttrBy? getAttrBy
    refine wpAny_bind (wpAny_mkText (wpAny_bind (wpAny_attempt (wpAny_holding (wpAny_bind (L0.at (wpAny_bind (L1.at ?_))))))))
    show wpAny _ _ (getAttrByItsOwn (.ref x) (.str "__class__" t) (.ref D) (.builtin "BaseException.__getattribute__") false false) _ _ _
    unfold getAttrByItsOwn callGetattribute boundAndCalled
    refine wpAny_bind ((looks_hook X (show (if onTheHeap (.ref D) then findIn K (.ref D) "__getattr__" else some none) = some none from hgn)).at ?_)
    refine wpAny_bind (wpAny_attempt (wpAny_holding ?_))
    show wpAny _ _ (bindSpecial (.builtin "BaseException.__getattribute__") (.ref x) >>= _) _ _ _
    refine wpAny_bind (wpAny_of_eq (F.excAttr_ValueError.ga.bind _) ?_)
    show wpAny _ _ (call (.builtin "BaseException.__getattribute__") [.ref x, .str "__class__" t]) _ _ _
    refine wpAny_call (codeAny_call_builtin F.excAttr_ValueError.ga.plain F.entry_bexc_ga (check_slot (i := "BaseException.__getattribute__") (owner := "BaseException") (n := "__getattribute__") (by decide +kernel) (by decide +kernel) (L0.andThen LB) (F.args_bexc_ga _ _) ?_))
    unfold Builtin.«object.__getattribute__»
    refine wpAny_bind (wpAny_pure (wpAny_bind (wpAny_pure (wpAny_bind (L0.at (wpAny_bind (LF.at ?_)))))))
    refine wpAny_bind (wpAny_holding (wpAny_call ?_))
    refine codeAny_call_builtin KF.slot_gs.plain KF.entry_gs (KF.slot_gs.check _ _ _ _ _ _ _ _ KF.type_class (KF.args_gs _ _ _) ?_)
    unfold Builtin.«getset_descriptor.__get__» descrGet
    rw [dga_obj]
    refine wpAny_bind (wpAny_pure ?_)
    unfold descrGetter descrCheckInstance descrNameAndClass isInstance
    simp only [KF.owner_class]
    repeat lk
    refine ⟨Code.quiet_builtin _ (by decide +kernel), codeAny_builtin KF.entry_class ?_⟩
    unfold Builtin.«object.__class__» shownTypeOf
    repeat lk
    exact k
end
section
variable {P : Program} {w : World} {H : Hp} {h : Heap} {a : Addr} {o : HO}
theorem ObjOk.there (x : ObjOk P w H h a o) : ∃ u, h.get? a = some u := by
  cases o with
  | lst xs => obtain ⟨_, _, _, _, e⟩ := x; exact ⟨_, e⟩
  | tup xs => obtain ⟨_, _, _, p⟩ := x; obtain ⟨u, e, _⟩ := p; exact ⟨u, e⟩
  | dK kvs => obtain ⟨_, _, _, _, o, _, _, e, _⟩ := x; exact ⟨_, e⟩
  | dT kvs => obtain ⟨_, _, _, _, o, _, _, e, _⟩ := x; exact ⟨_, e⟩
  | set S n => obtain ⟨o, _, _, _, e, _⟩ := x; exact ⟨_, e⟩
  | ins C dx fs => obtain ⟨_, _, _, e, _⟩ := x; exact ⟨_, e⟩
  | own y => exact x
  | xd fs => obtain ⟨_, ⟨_, _, _, e, _⟩, _⟩ := x; exact ⟨_, e⟩
  | rng lo hi => obtain ⟨_, _, _, e⟩ := x; exact ⟨_, e⟩
  | frz ob u => obtain ⟨e, _⟩ := x; exact ⟨_, e⟩
  | tbl ps => exact ⟨_, show h.get? a = some _ from x⟩
  | met f y => exact ⟨_, show h.get? a = some _ from x⟩
  | ext φ => exact x.2.1
end
def Cx.markX (X : Cx) (v : Value) : Cx := { X with A := X.A.mark (some v), calm := false, xe := fun _ _ => False }
def PassesS (CX : CXT) (X : Cx) (W : St → XK) : Prop := ∀ (pins : List (Addr × Obj)) (σ : St) (H : Hp) (s : Shared) (e : Value) (s' : Shared), Inv X pins σ H s → CX X.stack H s (W σ) e s' → X.xe e s'
section
variable {X : Cx} {pins : List (Addr × Obj)} {σ : St} {H : Hp} {s : Shared} {W : St → XK}
theorem Cx.Ok.mark {v : Value} (o : X.Ok) : (X.markX v).Ok := ⟨o.mod, o.kind, o.glob, o.blt, o.above, o.inj, o.has, o.cab, (fun z => by cases z), o.frames, o.stk, o.exf, o.bs, o.bsz, o.noex, o.exfs, o.funs, o.frf⟩
theorem Inv.markIn {v : Value} (I : Inv X pins σ H s) : Inv (X.markX v) pins σ H s := ⟨I.ok.mark, I.os, I.bare, I.base, I.loc, I.cell, I.free, I.freeC, I.pin, I.hok, I.len⟩
theorem Inv.markOut {v : Value} (I : Inv (X.markX v) pins σ H s) (o : X.Ok) : Inv X pins σ H s := ⟨o, I.os, I.bare, I.base, I.loc, I.cell, I.free, I.freeC, I.pin, I.hok, I.len⟩
theorem caught {H0 H' : Hp} {s0 s1 : Shared} {B h : Heap} {x : Addr} {C arg : Value} (I0 : Inv X pins σ H0 s0) (hex : X.ex = []) (os : s1.os = s0.os) (bare : AllBare s1.gens) (b : FlyB X.prog X.w X.stack H0 H' s0.heap B)
    (fl0 : Heap.FlyingW B X.stack x C arg s1.heap) (fr : ∀ b o, s0.heap.get? b = some o → b ∈ frs X.stack → ∃ sl, s1.heap.get? b = some { o with slots := sl }) (fl : Heap.FlyingW B X.stack x C arg h) (up : s1.heap.UpToSlots h) :
    Inv X pins σ (upd H' x (.ext (ExAt x C))) { s1 with heap := h } ∧ H' x = none := by
  have F : Fly X.prog X.w X.stack H0 H' s0.heap h x C := ⟨B, arg, b, fl, fun c o e hc => by
    obtain ⟨sl, e1⟩ := fr c o e hc
    have hd : ∀ vs, o.data ≠ .fields vs := fun vs z => by
      obtain ⟨_, o', ho', hnd⟩ := fl0.2.2.1.mem (b := c) hc
      rw [e1] at ho'
      cases ho'
      exact hnd vs z
    obtain ⟨sl2, e2⟩ := up c _ e1 hd
    exact ⟨sl2, e2⟩⟩
  obtain ⟨un, hok⟩ := F.un
  have I1 : Inv X pins σ H' { s1 with heap := h } := I0.call' os un hok bare (fun b z => by cases z)
  have hn : H' x = none := by
    cases e : H' x with
    | none => rfl
    | some o =>
      obtain ⟨u, hu⟩ := (b.hok x o e).there
      rw [fl.2.1] at hu
      cases hu
  have new0 : ∀ o, s0.heap.get? x ≠ some o := fun o e => by
    by_cases hc : x ∈ frs X.stack
    · obtain ⟨_, o', ho', hnd⟩ := fl.2.2.1.mem (b := x) hc
      obtain ⟨oe, vs, _, _, _, he, _, hd, _⟩ := fl.2.2.2
      rw [he] at ho'
      cases ho'
      exact hnd vs hd
    · obtain ⟨u, hu⟩ := b.there x o e hc
      rw [fl.2.1] at hu
      cases hu
  have noE : ∀ b : Addr, b ∉ X.ex := fun b z => by rw [hex] at z; cases z
  refine ⟨⟨I1.ok, I1.os, I1.bare, ⟨I1.base.keep, I1.base.slot, fun c o e n hx => ?_, I1.base.there, fun c xs q => ?_, fun c o u q => ?_, fun c ps q => ?_⟩, I1.loc, I1.cell, ?_, fun y c e => ?_, fun p hp => ?_, fun c o q => ?_, I1.len⟩, hn⟩
  · have q := I1.base.free c o e n hx
    rw [upd_ne ?_]
    · exact q
    · rintro rfl
      obtain ⟨o', e'⟩ := I0.base.there _ o e hx
      exact new0 o' e'
  · have q := I1.base.tups c xs q
    rw [upd_ne (ne_of_none q hn)]; exact q
  · have q := I1.base.frzs c o u q
    rw [upd_ne (ne_of_none q hn)]; exact q
  · obtain ⟨more, q⟩ := I1.base.tbls c ps q
    exact ⟨more, by rw [upd_ne (ne_of_none q hn)]; exact q⟩
  · obtain ⟨m, ⟨o, es, ep, ho, _⟩, _⟩ := I0.loc
    rw [upd_ne (fun z => new0 o (by rw [← z]; exact ho))]
    exact I1.free
  · obtain ⟨v, o, ho, _⟩ := I0.cell y c e
    rw [upd_ne (fun z => new0 o (by rw [← z]; exact ho))]
    exact I1.freeC y c e
  · obtain ⟨e, n, ne, nf, d⟩ := I1.pin p hp
    obtain ⟨e0, _⟩ := I0.pin p hp
    exact ⟨e, by rw [upd_ne (fun z => new0 p.2 (by rw [← z]; exact e0))]; exact n, ne, nf, d⟩
  · by_cases hc : c = x
    · subst hc
      rw [upd_same] at q
      cases q
      have ex : ExAt c C h := fl.there
      obtain ⟨o, ho, hcl⟩ := ex
      exact ⟨⟨o, ho, hcl⟩, ⟨o, ho⟩, fun h1 h2 ⟨o1, e1, c1⟩ k => ⟨o1, k o1 e1, c1⟩⟩
    · rw [upd_ne hc] at q
      exact (I1.hok c o q).stay (fun _ _ _ z => z) (fun d z => by rw [upd_ne (ne_of_none z hn)]; exact z) fun d xs z => by rw [upd_ne (ne_of_none z hn)]; exact z
theorem gone_ok {M : Model} {A : Around} {E : Value → Shared → Prop} {i : Nat} {n : Str} {pos : Pos} {Q : Unit → Shared → Prop} (I : Inv X pins σ H s) (hN : X.N.Nodup) (hi : X.N[i]? = some n) (hk : X.env.kindOf n = some .local)
    (h : ∀ s', Inv X pins (σ.set i none) H s' → Q () s') : wpAny M A (do bindName X.env n .none; unbindBehindTheSuite X.env n pos) Q E s := by
  obtain ⟨m, hn, hl⟩ := id I.loc
  have hcls : (X.env.scope.kind == .class || (X.env.scope.kind == .module && X.env.locals != X.env.globals)) = false := by rw [I.ok.kind]; rfl
  have hiσ : i < σ.length := by rw [I.len]; exact (List.getElem?_eq_some_iff.mp hi).1
  have cne := I.cne
  obtain ⟨oL, _, _, hoL, _⟩ := id hn
  refine wpAny_nameGoes_keeps hk hn hcls fun h' v hn' hs => h _ ⟨I.ok, I.os, I.bare, ⟨fun b o e n hb hx => ?_, fun b o e n hb hx => ?_, I.base.free, fun b o e hx => ?_, I.base.tups, I.base.frzs, I.base.tbls⟩, ⟨_, hn', fun j y v' e1 e2 e3 => ?_⟩, fun y c e => ?_, I.free, I.freeC, fun p hp => ?_, fun b ob e => ?_, by simpa using I.len⟩
  · exact (hs.2 b (Nat.ne_of_lt (Nat.lt_of_lt_of_le (Heap.lt_size e) I.ok.above))).trans (I.base.keep b o e n hb hx)
  · obtain ⟨sl, e1⟩ := I.base.slot b o e n hb hx
    exact ⟨sl, (hs.2 b (Nat.ne_of_lt (Nat.lt_of_lt_of_le (Heap.lt_size e) I.ok.above))).trans e1⟩
  · obtain ⟨o', e1⟩ := I.base.there b o e hx
    exact ⟨o', (hs.2 b (Nat.ne_of_lt (Nat.lt_of_lt_of_le (Heap.lt_size e) I.ok.above))).trans e1⟩
  · by_cases hj : j = i
    · subst hj
      rw [List.getElem?_set_self hiσ] at e2
      cases e2
    · rw [List.getElem?_set_ne (Ne.symm hj)] at e2
      obtain ⟨u', r', q⟩ := hl j y v' e1 e2 e3
      refine ⟨u', r', ?_⟩
      rcases q with ⟨k, e⟩ | ⟨k, c, e, z⟩
      · refine .inl ⟨k, ?_⟩
        have : y ≠ n := fun e => hj (nodup_ix hN e1 (e ▸ hi))
        simp [this, e]
      · exact .inr ⟨k, c, e, z.sameBut hs (cne y c e)⟩
  · obtain ⟨w', z⟩ := I.cell y c e
    exact ⟨w', z.sameBut hs (cne y c e)⟩
  · obtain ⟨e, n, ne, nf, d⟩ := I.pin p hp
    exact ⟨(hs.2 p.1 ne).trans e, n, ne, nf, d⟩
  · refine (I.hok b ob e).stay (fun c w' hc q => (hs.2 c ?_).trans q) (fun _ q => q) fun _ _ q => q
    have hfree := I.free
    rintro rfl
    rcases hc with rfl | hc
    · rw [hfree] at e; cases e
    · rw [hfree] at hc; cases hc
end
def tCallS (sp : Sp) (dvs : List V) (W : St → XK) (t : TA) : TE := fun σ => tCall sp dvs (W σ) t σ
section
variable {X : Cx} {CX : CXT} {k : Nat} {f C : Addr} {fd : FuncData} {ps : List Str} {sp : Sp} {dvs : List V} {ds : List Value} {E : XK} {W : St → XK} {x m : Str} {p pos apos : Pos} {e o : Expr} {es : List Expr} {ta : TE} {t : TA}
theorem run_fnS {pins : List (Addr × Obj)} {σ : St} {H : Hp} {s : Shared} {Q : VK} {us : List Value} {vs : List V} (F : FnOk X.prog X.w X.K X.mg X.base CX k f fd ps sp) (hr : Room k X.A) (hb : Binds X.K fd ps ds) (hd : Vals dvs ds) (hx : ∀ e s', CX X.stack H s E e s' → X.xe e s')
    (I : Inv X pins σ H s) (r : Vals vs us) (h : sp (vs ++ dvs) H Q E) : wpAny (model X.prog X.w) X.A (call (.ref f) us) (EP X pins σ Q) X.xe s := by
  have r2 : Vals (vs ++ dvs) (us ++ ds) := r.append hd
  have hl : (us ++ ds).length = ps.length := by rw [← r2.length]; exact F.len _ _ _ _ h
  refine wpAny_call (codeAny_mono (F.run X.A X.stack s H ⟨us, []⟩ (us ++ ds) (vs ++ dvs) Q E hr I.env0 (hb s us I.kIn hl) r2 h) fun r s' hq => ?_)
  cases r with
  | error e => exact hx e s' hq
  | ok fl =>
    cases fl with
    | ret u => exact I.after hq
    | next => exact False.elim hq
    | brk => exact False.elim hq
    | cont => exact False.elim hq
end
def cV : V → Value
  | .ref a => .ref a
  | .ty n => .type n
  | _ => .none
def isCls : V → Bool
  | .ref _ => true
  | .ty _ => true
  | _ => false
theorem cV_of {c : V} {u : Value} (r : RelV c u) (h : isCls c = true) : u = cV c := by
  cases c <;> first | exact r | cases h
theorem cV_all : ∀ {cs : List V} {us : List Value}, Vals cs us → cs.all isCls = true → us = cs.map cV
  | _, _, .nil, _ => rfl
  | _, _, .cons r t, h => by
    rw [List.all_cons, Bool.and_eq_true] at h
    rw [List.map_cons, cV_of r h.1, cV_all t h.2]
theorem bt_ValueError : bootBuiltins "ValueError" = some (.type "ValueError") := by decide +kernel
def excAll (K : PySem.W.Frag) (aN aF aM aP aW : Addr) : Bool := [excKit K aN, PySem.W.exmOne K (.ref aN) (.ref aW) == some true, PySem.W.kitOne K (.ref aN) (.type "ValueError") == some true, excKit K aF, PySem.W.exmOne K (.ref aF) (.ref aW) == some true, PySem.W.kitOne K (.ref aF) (.type "ValueError") == some true, excKit K aM, PySem.W.exmOne K (.ref aM) (.ref aW) == some true, PySem.W.kitOne K (.ref aM) (.type "ValueError") == some true, excKit K aP, PySem.W.exmOne K (.ref aP) (.ref aW) == some true, PySem.W.kitOne K (.ref aP) (.type "ValueError") == some true, PySem.W.kitOne K (.ref aN) (.ref aN) == some true, PySem.W.kitOne K (.ref aN) (.ref aF) == some false, PySem.W.kitOne K (.ref aN) (.ref aM) == some false, PySem.W.kitOne K (.ref aN) (.ref aP) == some false, PySem.W.kitOne K (.ref aF) (.ref aN) == some false, PySem.W.kitOne K (.ref aF) (.ref aF) == some true, PySem.W.kitOne K (.ref aF) (.ref aM) == some false, PySem.W.kitOne K (.ref aF) (.ref aP) == some false, PySem.W.kitOne K (.ref aM) (.ref aN) == some false, PySem.W.kitOne K (.ref aM) (.ref aF) == some false, PySem.W.kitOne K (.ref aM) (.ref aM) == some true, PySem.W.kitOne K (.ref aM) (.ref aP) == some false, PySem.W.kitOne K (.ref aP) (.ref aN) == some false, PySem.W.kitOne K (.ref aP) (.ref aF) == some false, PySem.W.kitOne K (.ref aP) (.ref aM) == some false, PySem.W.kitOne K (.ref aP) (.ref aP) == some true, PySem.W.excIn K aN bmV nidV, PySem.W.excIn K aP bmV nidV].all id
structure ExcAll (K : PySem.W.Frag) (mg : Str → Option Value) (aN aF aM aP aW : Addr) : Prop where
  ask : mg "NoAsk" = some (.ref aN)
  field : mg "NoField" = some (.ref aF)
  number : mg "NoNumber" = some (.ref aM)
  place : mg "NoPlace" = some (.ref aP)
  win : mg "WindowError" = some (.ref aW)
  kitN : excKit K aN = true
  exmN : PySem.W.exmOne K (.ref aN) (.ref aW) = some true
  veN : PySem.W.kitOne K (.ref aN) (.type "ValueError") = some true
  kitF : excKit K aF = true
  exmF : PySem.W.exmOne K (.ref aF) (.ref aW) = some true
  veF : PySem.W.kitOne K (.ref aF) (.type "ValueError") = some true
  kitM : excKit K aM = true
  exmM : PySem.W.exmOne K (.ref aM) (.ref aW) = some true
  veM : PySem.W.kitOne K (.ref aM) (.type "ValueError") = some true
  kitP : excKit K aP = true
  exmP : PySem.W.exmOne K (.ref aP) (.ref aW) = some true
  veP : PySem.W.kitOne K (.ref aP) (.type "ValueError") = some true
  kNN : PySem.W.kitOne K (.ref aN) (.ref aN) = some true
  kNF : PySem.W.kitOne K (.ref aN) (.ref aF) = some false
  kNM : PySem.W.kitOne K (.ref aN) (.ref aM) = some false
  kNP : PySem.W.kitOne K (.ref aN) (.ref aP) = some false
  kFN : PySem.W.kitOne K (.ref aF) (.ref aN) = some false
  kFF : PySem.W.kitOne K (.ref aF) (.ref aF) = some true
  kFM : PySem.W.kitOne K (.ref aF) (.ref aM) = some false
  kFP : PySem.W.kitOne K (.ref aF) (.ref aP) = some false
  kMN : PySem.W.kitOne K (.ref aM) (.ref aN) = some false
  kMF : PySem.W.kitOne K (.ref aM) (.ref aF) = some false
  kMM : PySem.W.kitOne K (.ref aM) (.ref aM) = some true
  kMP : PySem.W.kitOne K (.ref aM) (.ref aP) = some false
  kPN : PySem.W.kitOne K (.ref aP) (.ref aN) = some false
  kPF : PySem.W.kitOne K (.ref aP) (.ref aF) = some false
  kPM : PySem.W.kitOne K (.ref aP) (.ref aM) = some false
  kPP : PySem.W.kitOne K (.ref aP) (.ref aP) = some true
  inN : PySem.W.excIn K aN bmV nidV = true
  inP : PySem.W.excIn K aP bmV nidV = true
theorem ExcAll.of {K : PySem.W.Frag} {mg : Str → Option Value} {aN aF aM aP aW : Addr} (h1 : mg "NoAsk" = some (.ref aN)) (h2 : mg "NoField" = some (.ref aF)) (h3 : mg "NoNumber" = some (.ref aM)) (h4 : mg "NoPlace" = some (.ref aP)) (h5 : mg "WindowError" = some (.ref aW))
    (h : excAll K aN aF aM aP aW = true) : ExcAll K mg aN aF aM aP aW := by
  unfold excAll at h
  simp only [List.all_cons, List.all_nil, id, Bool.and_eq_true, beq_iff_eq] at h
  obtain ⟨z0, z1, z2, z3, z4, z5, z6, z7, z8, z9, z10, z11, z12, z13, z14, z15, z16, z17, z18, z19, z20, z21, z22, z23, z24, z25, z26, z27, z28, z29, _⟩ := h
  exact ⟨h1, h2, h3, h4, h5, z0, z1, z2, z3, z4, z5, z6, z7, z8, z9, z10, z11, z12, z13, z14, z15, z16, z17, z18, z19, z20, z21, z22, z23, z24, z25, z26, z27, z28, z29⟩
theorem kitAny_no {K : PySem.W.Frag} {t c : Value} {r : List Value} {b : Bool} (h : PySem.W.kitOne K t c = some false) (hr : PySem.W.kitAny K t r = some b) : PySem.W.kitAny K t (c :: r) = some b := by
  unfold PySem.W.kitAny
  rw [h]
  exact hr
end L2
namespace L2
open PySem PySem.Spec PyProof.Rows
section
open PySem.W PySem.Calls PySem.Builtin PySem.Builtin.ObjectAttr PySem.Builtin.Getset_descriptor
variable {prog : Program} {w : World} {A : Around} {E : Value → Shared → Prop} {s : Shared} {K : PySem.W.Frag} {x D dx : Addr} {f : Str} {mA : Str → Option Value} {v : Value}
theorem getx {b : Bool} {ox od : Obj} {Q : Value → Shared → Prop} (X : K.In s.heap) (q : excKit K D = true) (hh : hasDictIn K D = true) (I : InstAt s.heap x ox D (some od)) (ha : findIn K (.ref D) f = some none)
    (hl : lookIn f od = some (some v)) (hv : handedIn v = true) (k : Q v { s with toks := s.toks + 1 }) : wpAny (model prog w) A (getAttr (.ref x) f b) Q E s := by
  unfold excKit at q
  simp only [Bool.and_eq_true, beq_iff_eq] at q
  obtain ⟨⟨⟨⟨⟨⟨⟨hga, hgn⟩, hmb⟩, hc⟩, _⟩, _⟩, _⟩, hm⟩ := q
  obtain ⟨hp, g, dr, t, os⟩ := s
  have L0 : Looks (model prog w) hp (typeOf (.ref x)) (.ref D) := I.type
  have L1 := looks_findIn (M := model prog w) X hga
  have LB := looks_mroIn (M := model prog w) X hmb
  have LF : Looks (model prog w) hp (find (.ref x) (.ref D) f) (.value v) := looks_find X I (findObj_own hh ha rfl hl)
  unfold getAttr getAttrBy
  refine wpAny_bind (wpAny_mkText (wpAny_holding (wpAny_bind (L0.at (wpAny_bind (L1.at ?_))))))
  show wpAny _ _ (getAttrByItsOwn (.ref x) (.str f t) (.ref D) (.builtin "BaseException.__getattribute__") true b) _ _ _
  unfold getAttrByItsOwn callGetattribute boundAndCalled
  refine wpAny_bind ((looks_hook X (show (if onTheHeap (.ref D) then findIn K (.ref D) "__getattr__" else some none) = some none from hgn)).at ?_)
  rw [if_neg (by cases b <;> decide)]
  refine wpAny_bind (wpAny_attempt (wpAny_holding ?_))
  show wpAny _ _ (bindSpecial (.builtin "BaseException.__getattribute__") (.ref x) >>= _) _ _ _
  refine wpAny_bind (wpAny_of_eq (F.excAttr_ValueError.ga.bind _) ?_)
  show wpAny _ _ (call (.builtin "BaseException.__getattribute__") [.ref x, .str f t]) _ _ _
  refine wpAny_call (codeAny_call_builtin F.excAttr_ValueError.ga.plain F.entry_bexc_ga (check_slot (i := "BaseException.__getattribute__") (owner := "BaseException") (n := "__getattribute__") (by decide +kernel) (by decide +kernel) (L0.andThen LB) (F.args_bexc_ga _ _) ?_))
  unfold Builtin.«object.__getattribute__»
  refine wpAny_bind (wpAny_pure (wpAny_bind (wpAny_pure (wpAny_bind (L0.at (wpAny_bind (LF.at ?_)))))))
  refine wpAny_pure ?_
  show wpAny _ _ (handedOut v) _ _ _
  rw [handedOut_of hv]
  exact wpAny_pure k
def ownVE : List Value → Bool
  | .ref _ :: r => ownVE r
  | l => l == [.type "ValueError", .type "Exception", .type "BaseException", .type "object"]
theorem refuse_ve (self : Value) : ∀ {l : List Value}, ownVE l = true → PySem.refuseLoop self "__setattr__" l = pure ()
  | .ref c :: r, e => by rw [PySem.refuseLoop_ref]; exact refuse_ve self (show ownVE r = true from e)
  | [], e => by cases e
  | .type n :: r, e => by
    have e : (.type n :: r) = [Value.type "ValueError", .type "Exception", .type "BaseException", .type "object"] := beq_iff_eq.mp e
    rw [e]
    exact F.store_ValueError.passes self
  | .none :: _, e => by cases e
  | .ellipsis :: _, e => by cases e
  | .notImplemented :: _, e => by cases e
  | .bool _ :: _, e => by cases e
  | .int _ _ :: _, e => by cases e
  | .float _ _ :: _, e => by cases e
  | .str _ _ :: _, e => by cases e
  | .builtin _ :: _, e => by cases e
theorem ve_has : ∀ {l : List Value}, ownVE l = true → l.contains (.type "object") = true
  | .ref c :: r, e => by rw [List.contains_cons, ve_has (l := r) (show ownVE r = true from e), Bool.or_true]
  | [], e => by cases e
  | .type n :: r, e => by
    have e : (.type n :: r) = [Value.type "ValueError", .type "Exception", .type "BaseException", .type "object"] := beq_iff_eq.mp e
    rw [e]
    decide +kernel
  | .none :: _, e => by cases e
  | .ellipsis :: _, e => by cases e
  | .notImplemented :: _, e => by cases e
  | .bool _ :: _, e => by cases e
  | .int _ _ :: _, e => by cases e
  | .float _ _ :: _, e => by cases e
  | .str _ _ :: _, e => by cases e
  | .builtin _ :: _, e => by cases e
theorem setx {ox : Obj} {cd : ClassData} {Q : Unit → Shared → Prop} (X : K.In s.heap) (I : InstAt s.heap x ox D none) (hs : findIn K (.ref D) "__setattr__" = some (some (.builtin "object.__setattr__"))) (hc : clsIn K D = some cd)
    (hm : ownVE cd.mro = true) (hd : cd.hasDict = true) (ha : findIn K (.ref D) f = some none)
    (h : ∀ h' tk, h'.Ns1 s.heap.objs.size (fun y => if y = f then some v else none) → h'.get? x = some { ox with dict := some s.heap.objs.size } → (∀ b o, s.heap.get? b = some o → b ≠ x → h'.get? b = some o) → Q () { s with heap := h', toks := tk }) :
    wpAny (model prog w) A (setAttr (.ref x) f v) Q E s := by
  obtain ⟨hp, g, dr, t, os⟩ := s
  have SF := PySem.F.store_object
  have ne : cd.mro.isEmpty = false := by cases e : cd.mro with | nil => rw [e] at hm; cases hm | cons _ _ => rfl
  have sub : Looks (model prog w) hp (isInstance (.ref x) (.type "object")) true := I.type.andThen (looks_mroIn X (by unfold mroIn; rw [hc, Option.bind_some, if_neg (by rw [ne]; decide), ve_has hm]))
  have LM : Looks (model prog w) hp (mroOf (.ref D)) cd.mro := (looks_clsIn X hc).andThen .now
  refine set_plain X I hs ?_
  refine codeAny_call_builtin SF.slot.plain SF.entry (@check_slot (model prog w) _ _ ⟨hp, g, dr, t + 1, os⟩ "object.__setattr__" "object" "__setattr__" (.ref x) [.str f t, v] [] _ SF.kind SF.split sub (SF.args (.ref x) (.str f t) v) ?_)
  rw [osa_eq, PySem.refuse_eq]
  refine wpAny_bind (wpAny_bind (I.type.at (wpAny_bind (LM.at ?_))))
  rw [refuse_ve _ hm]
  refine wpAny_pure (wpAny_bind (I.type.at (wpAny_bind ((looks_findIn X ha).at (wpAny_bind (wpAny_pure ?_))))))
  show wpAny _ _ (storeInOwnDict (.ref x) (.ref D) (.str f t) f v false) _ _ _
  unfold storeInOwnDict ownDictForStores instanceDict
  obtain ⟨hx, hcl, hno, hdx⟩ := I
  obtain ⟨oc, odi, oda, osl⟩ := ox
  dsimp only at hcl
  subst hcl
  have hdn : odi = none := by cases odi with | none => rfl | some _ => cases hdx
  subst hdn
  refine wpAny_bind (wpAny_pure ?_)
  have nm : ¬ (Value.ref D == Value.type "module") = true := by simp
  rw [if_neg nm]
  refine wpAny_bind (wpAny_bind (wpAny_loadPart (show Heap.get? hp x = some _ from hx) ?_))
  dsimp only
  refine wpAny_bind ((looks_clsIn X hc).at ?_)
  rw [hd, if_neg (by decide), if_neg (by simp [typeHasDict])]
  have nc : ∀ c, oda ≠ Data.cls c := fun c e => by subst e; cases hno
  have xs : x ≠ hp.objs.size := Nat.ne_of_lt (Heap.lt_size hx)
  have hx1 : (hp.push { cls := .type "dict", data := .dict #[] }).get? x = some ⟨.ref D, none, oda, osl⟩ := Heap.get?_push_of_some _ hx
  have go : wpAny (model prog w) A.in1 (do
      let d ← alloc { cls := Value.type "dict", data := Data.dict #[] }
      update x fun o => { cls := o.cls, dict := some d, data := o.data, slots := o.slots }
      dictMade (.ref D) x d) (fun r s' => wpAny (model prog w) A.in1 (match r with | some d => storeInDict d (Value.str f t) f v | none => noDictFor (Value.ref x) (Value.ref D) f false) (fun fin s' => match fin with | .done fl => (match Except.ok fl with | .ok (.ret _) => Q () s' | .ok _ => False | .error e => E e s') | .again c' => c'.quiet = true ∧ codeAny (model prog w) A c' (fun r s' => match r with | .ok (.ret _) => Q () s' | .ok _ => False | .error e => E e s') s') (fun e s' => E e s') s') (fun e s' => E e s') ⟨hp, g, dr, t + 1, os⟩ := by
    refine wpAny_bind (wpAny_alloc' ?_)
    refine wpAny_bind (wpAny_update' hx1 ?_)
    refine wpAny_pure ?_
    have gx : ((hp.push { cls := .type "dict", data := .dict #[] }).update x fun o => { cls := o.cls, dict := some hp.objs.size, data := o.data, slots := o.slots }).get? x = some ⟨.ref D, some hp.objs.size, oda, osl⟩ := by
      refine Heap.get?_update_self _ hx1 ?_
      have fr := (Heap.get?_some_iff.mp hx).2
      cases oda <;> first | rfl | exact fr
    have gd : ((hp.push { cls := .type "dict", data := .dict #[] }).update x fun o => { cls := o.cls, dict := some hp.objs.size, data := o.data, slots := o.slots }).get? hp.objs.size = some { cls := .type "dict", data := .dict #[] } := by
      rw [Heap.get?_update_ne _ _ _ _ xs.symm]
      exact Heap.get?_push_at rfl rfl
    have gb : ∀ b o, hp.get? b = some o → b ≠ x → ((hp.push { cls := .type "dict", data := .dict #[] }).update x fun o => { cls := o.cls, dict := some hp.objs.size, data := o.data, slots := o.slots }).get? b = some o := fun b o e n => by
      rw [Heap.get?_update_ne _ _ _ _ n]
      exact Heap.get?_push_of_some _ e
    generalize ((hp.push { cls := .type "dict", data := .dict #[] }).update x fun o => { cls := o.cls, dict := some hp.objs.size, data := o.data, slots := o.slots }) = h2 at gx gd gb
    have nd : h2.Ns hp.objs.size (fun _ => none) := ⟨_, #[], _, gd, rfl, fun e he => absurd he (by simp), fun _ => rfl⟩
    show wpAny _ _ (storeInDict hp.objs.size (.str f t) f v) _ _ _
    unfold storeInDict newKeyGuard
    refine wpAny_bind (wpAny_pure (wpAny_bind ?_))
    refine wpAny_nsSet1 (Heap.Ns1.of_empty nd) fun h3 n3 s3 => ?_
    obtain ⟨oD, eD, pD, q1, q2, q3⟩ := n3.count (PySem.Within.cons f v PySem.Within.nil)
    have small : oD.data.pastItsLine = none := by
      rw [q2]
      refine pastItsLine_dict (Nat.le_trans q3 ?_)
      rw [List.length_cons, List.length_nil, sizeLine_eq]
      omega
    refine wpAny_bind (wpAny_lookBehind q1 small ?_)
    refine wpAny_pure (h h3 _ n3 ?_ fun b o e n => ?_)
    · rw [s3.2 x xs]
      exact gx
    · rw [s3.2 b (Nat.ne_of_lt (Heap.lt_size e))]
      exact gb b o e n
  cases oda with
  | cls c => exact absurd rfl (nc c)
  | _ => exact go
end
end L2
namespace L2
open PySem PySem.Spec PyProof.Rows
section
open PySem.W
variable {prog : Program} {w : World} {A : Around} {E : Value → Shared → Prop} {h : Heap} {g : Array GenState} {d : Drawn} {t : Nat} {os : OsState}
variable {nm qn : Str} {C N fI : Addr} {bs bm : List Value} {hdc : Bool} {sn : List Str} {sub : List Value} {ab : Bool} {col : Option Bool} {dd : Option Addr} {k0 k1 k2 k3 k5 : Option Value}
abbrev blank (C : Addr) (tp : Addr) : Obj := { cls := .ref C, data := .fields #[.ref tp, .none, .none, .none, .bool false, .none] }
theorem xnew {R : Result → Shared → Prop} {rest : List Value} {kw : List (Str × Value)} (T : OwnTail h bmV bm) (hC : h.get? C = some (excClassObj nm qn C N bs bm hdc sn sub ab col dd k0 k1 k2 k3 k5 nidV)) (hz : rest.length ≤ sizeLine)
    (hR : R (.ok (.ret (.ref (h.objs.size + 1)))) ⟨(h.push { cls := .type "tuple", data := .seq rest.toArray }).push (blank C h.objs.size), g, d, t, os⟩) :
    codeAny (model prog w) A (.builtin nidV ⟨.ref C :: rest, kw⟩) R ⟨h, g, d, t, os⟩ := by
  have F := PySem.F.excBase_ValueError
  have c1 : (Value.ref C :: bm).contains (.type "ValueError") = true := by rw [List.contains_cons, T.hasType F.hasB, Bool.or_true]
  have c2 : (Value.ref C :: bm).contains (.type "AttributeError") = false := by rw [List.contains_cons, T.hasType F.noAttr]; rfl
  have c3 : (Value.ref C :: bm).contains (.type "NameError") = false := by rw [List.contains_cons, T.hasType F.noName]; rfl
  have en := F.ends
  refine codeAny_builtinAt F.entry ?_
  unfold Builtin.«BaseException.__new__»
  refine PySem.wpAt_bind ?_
  show PySem.wpAt _ _ _ (stack >>= _) _ _ _
  refine PySem.wpAt_bind (PySem.wpAt_stack fun _ _ => PySem.wpAt_of_wpAny ?_)
  wp_walk
  refine PySem.wpAt_of_wpAny ?_
  rw [F.owner]
  repeat (first
    | with_reducible refine wpAny_madeHere_exc F.canon hC ?_
    | with_reducible refine wpAny_loadPart_at hC ?_
    | (with_reducible refine wpAny_isSubtype_exc hC ?_; first | rw [c1] | rw [c2] | rw [c3])
    | wp_step)
  show R _ _
  rw [Heap.size_push]
  exact hR
theorem xcheck {M : Model} {rest : List Value} {kw : List (Str × Value)} {Q : Unit → Shared → Prop} (T : OwnTail h bmV bm) (hC : h.get? C = some (excClassObj nm qn C N bs bm hdc sn sub ab col dd k0 k1 k2 k3 k5 nidV)) (hq : Q () ⟨h, g, d, t, os⟩) :
    wpAny M A (checkBuiltinCall nidV ⟨.ref C :: rest, kw⟩) Q E ⟨h, g, d, t, os⟩ := by
  have F := PySem.F.excBase_ValueError
  have c1 : (Value.ref C :: bm).contains (.type "ValueError") = true := by rw [List.contains_cons, T.hasType F.hasB, Bool.or_true]
  have st := F.noStar
  simp only [checkBuiltinCall, F.newKind, F.newSplit, F.newRow]
  repeat (first
    | refine wpAny_loadPart_at hC ?_
    | (refine wpAny_isSubtype_exc hC ?_; rw [c1])
    | refine wpAny_staticBase_exc hC ?_
    | refine wpAny_madeBy_exc hC ?_
    | simp only [bne_self_eq_false, Bool.false_eq_true, if_false]
    | wp_step)
  exact hq
theorem xtype {mN : Str → Option Value} {rest : List Value} {kw : List (Str × Value)} {oI : Obj} {Q : PySem.Fin → Shared → Prop} (T : OwnTail h bmV bm) (hC : h.get? C = some (excClassObj nm qn C N bs bm hdc sn sub ab col dd k0 k1 k2 k3 k5 nidV)) (hn : h.Ns N mN)
    (hi : mN "__init__" = some (.ref fI)) (hf : h.get? fI = some oI) (hfc : oI.cls = .type "function") (hz : rest.length ≤ sizeLine)
    (hq : ∀ h' e, Heap.MadeExcOf h h' e (.ref C) rest → h.objs.size ≤ e → wpAny (model prog w) A (call (.ref fI) (.ref e :: rest) kw) (fun r s' => r = .none ∧ Q (.done (.ret (.ref e))) s') E ⟨h', g, d, t, os⟩) :
    wpAny (model prog w) A (Builtin.«type.__call__» ⟨.ref C :: rest, kw⟩) Q E ⟨h, g, d, t, os⟩ := by
  have F := PySem.F.excBase_ValueError
  repeat (first
    | with_reducible refine wpAny_loadPart_at hC ?_
    | with_reducible refine wpAny_madeBy_exc hC ?_
    | wp_step)
  refine codeAny_call_builtin_code (Code.quiet_builtin _ F.quiet) (xcheck T hC ?_)
  refine xnew T hC hz ?_
  show wpAny _ _ _ _ _ _
  have up : ∀ b o, h.get? b = some o → ((h.push { cls := .type "tuple", data := .seq rest.toArray }).push (blank C h.objs.size)).get? b = some o := fun b o e => Heap.get?_push_of_some _ (Heap.get?_push_of_some _ e)
  have ge : ((h.push { cls := .type "tuple", data := .seq rest.toArray }).push (blank C h.objs.size)).get? (h.objs.size + 1) = some (blank C h.objs.size) := by heap_get
  have gt : ((h.push { cls := .type "tuple", data := .seq rest.toArray }).push (blank C h.objs.size)).get? h.objs.size = some { cls := .type "tuple", data := .seq rest.toArray } := Heap.get?_push_of_some _ (Heap.get?_push_at rfl rfl)
  have hq1 := hq _ (h.objs.size + 1) ⟨up, Heap.get?_none_of_le (Nat.le_succ _), h.objs.size, ge, Heap.get?_none_of_le (Nat.le_refl _), gt⟩ (Nat.le_succ _)
  generalize (h.push { cls := .type "tuple", data := .seq rest.toArray }).push (blank C h.objs.size) = h2 at up ge gt hq1 ⊢
  have C2 := up _ _ hC
  have n2 := hn.keeps up
  have T2 := T.keeps up
  have f2 := up _ _ hf
  have cC : (Value.ref C :: bm).contains (.ref C) = true := by simp
  unfold isInstance
  repeat (first
    | with_reducible refine wpAny_loadPart_at ge ?_
    | (with_reducible refine wpAny_isSubtype_exc C2 ?_; rw [cC])
    | wp_step)
  show wpAny _ _ (typeLookup (.ref C) _) _ _ _
  refine wpAny_typeLookup_tail C2 n2 T2 F.mroIs F.init.lookup ?_
  rw [hi]
  refine wpAny_holding (wpAny_bind ?_)
  unfold bindSpecial
  refine wpAny_bind (wpAny_typeOf (T := "function") ⟨oI, f2, hfc⟩ ?_)
  rw [if_pos (by decide)]
  refine wpAny_pure (wpAny_bind (wpAny_mono hq1 (fun r s' hr => ?_) fun _ _ z => z))
  obtain ⟨rfl, hQ⟩ := hr
  wp_walk
  exact hQ
theorem xcall {mN : Str → Option Value} {rest : List Value} {kw : List (Str × Value)} {oI : Obj} {Q : Value → Shared → Prop} (T : OwnTail h bmV bm) (hC : h.get? C = some (excClassObj nm qn C N bs bm hdc sn sub ab col dd k0 k1 k2 k3 k5 nidV)) (hn : h.Ns N mN)
    (hi : mN "__init__" = some (.ref fI)) (hf : h.get? fI = some oI) (hfc : oI.cls = .type "function") (hz : rest.length ≤ sizeLine)
    (hq : ∀ h' e, Heap.MadeExcOf h h' e (.ref C) rest → h.objs.size ≤ e → wpAny (model prog w) (A.under (.builtin "type.__call__" ⟨.ref C :: rest, kw⟩)) (call (.ref fI) (.ref e :: rest) kw) (fun r s' => r = .none ∧ Q (.ref e) s') E ⟨h', g, d, t, os⟩) :
    wpAny (model prog w) A (call (.ref C) rest kw) Q E ⟨h, g, d, t, os⟩ := by
  have f1 := tc_lookup
  have f2 := tc_bind (.ref C)
  have hT : (⟨h, g, d, t, os⟩ : Shared).TypeIs (.ref C) "type" := ⟨_, hC, rfl⟩
  have L : Looks (model prog w) h (isInstance (.ref C) (.type "type")) true := (show Looks (model prog w) h (typeOf (.ref C)) (.type "type") from (Looks.ld hC).andThen .now).andThen (Looks.of_pure tc_sub)
  refine wpAny_call (codeAny_of_tree ?_)
  show wpAny _ _ (callAny (.ref C) _) _ _ _
  repeat (any_goals (first | assumption | with_reducible refine wpAny_loadPart_at hC ?_ | wp_step))
  refine ⟨rfl, ?_⟩
  refine codeAny_call_builtin_at (Code.quiet_builtin _ (by decide +kernel)) entry_typeCall (check_slot tc_kind tc_split L (tc_args _ _ _) ?_)
  exact xtype T hC hn hi hf hfc hz fun h' e hm he => hq h' e hm he
end
end L2
namespace L2
open PySem PySem.Spec PyProof.Rows
def ExA (x : Addr) (C : Value) (od : Option Addr) (h : Heap) : Prop := ∃ o vs, h.get? x = some o ∧ o.cls = C ∧ o.data = .fields vs ∧ o.dict = od
def ExN (x : Addr) (C : Value) (od : Option Addr) (h : Heap) : Prop := ∃ o vs tp, h.get? x = some o ∧ o.cls = C ∧ o.data = .fields vs ∧ vs[0]? = some (.ref tp) ∧ vs[1]? = some .none ∧ o.dict = od
theorem ExN.a {x : Addr} {C : Value} {od : Option Addr} {h : Heap} (e : ExN x C od h) : ExA x C od h := let ⟨o, vs, _, a, b, c, _, _, d⟩ := e; ⟨o, vs, a, b, c, d⟩
theorem exN_ok {P : Program} {w : World} {H : Hp} {x : Addr} {C : Value} {od : Option Addr} {h : Heap} (e : ExN x C od h) : ObjOk P w H h x (.ext (ExN x C od)) := by
  obtain ⟨o, vs, tp, a, r⟩ := e
  exact ⟨⟨o, vs, tp, a, r⟩, ⟨o, a⟩, fun h1 h2 ⟨o, vs, tp, a, r⟩ k => ⟨o, vs, tp, k o a, r⟩⟩
theorem exA_ok {P : Program} {w : World} {H : Hp} {x : Addr} {C : Value} {od : Option Addr} {h : Heap} (e : ExA x C od h) : ObjOk P w H h x (.ext (ExA x C od)) := by
  obtain ⟨o, vs, a, r⟩ := e
  exact ⟨⟨o, vs, a, r⟩, ⟨o, a⟩, fun h1 h2 ⟨o, vs, a, r⟩ k => ⟨o, vs, k o a, r⟩⟩
def excPut (K : PySem.W.Frag) (D : Addr) : Bool := excKit K D && PySem.W.findIn K (.ref D) "__setattr__" == some (some (.builtin "object.__setattr__")) && (PySem.W.clsIn K D).any fun cd => ownVE cd.mro && cd.hasDict
section
variable {X : Cx} {pins : List (Addr × Obj)} {σ : St} {H : Hp} {s : Shared} {x D dx : Addr} {f : Str} {fs : List (Str × V)} {v : V} {φ : Heap → Prop} {A : Around} {E : Value → Shared → Prop}
theorem excPut_of {K : PySem.W.Frag} (q : excPut K D = true) : excKit K D = true ∧ PySem.W.findIn K (.ref D) "__setattr__" = some (some (.builtin "object.__setattr__")) ∧ ∃ cd, PySem.W.clsIn K D = some cd ∧ ownVE cd.mro = true ∧ cd.hasDict = true := by
  unfold excPut at q
  simp only [Bool.and_eq_true, beq_iff_eq] at q
  obtain ⟨⟨a, b⟩, c⟩ := q
  obtain ⟨cd, e, c⟩ := PySem.W.any_some c
  rw [Bool.and_eq_true] at c
  exact ⟨a, b, cd, e, c.1, c.2⟩
theorem xget_ok {b : Bool} {Q : Value → Shared → Prop} (I : Inv X pins σ H s) (e : H x = some (.ext φ)) (hφ : ∀ h, φ h → ExA x (.ref D) (some dx) h) (ed : H dx = some (.xd fs)) (q : excPut X.K D = true) (n : NoAttr X.K D f) (l : fs.lookup f = some v)
    (h : ∀ u s', Inv X pins σ H s' → RelV v u → Q u s') : wpAny (model X.prog X.w) A (getAttr (.ref x) f b) Q E s := by
  obtain ⟨q1, q2, cd, q3, q4, q5⟩ := excPut_of q
  obtain ⟨hp, _, _⟩ := I.hok x _ e
  obtain ⟨o, vs, ho, hc, hd, hdi⟩ := hφ _ hp
  obtain ⟨mA, hn, hr⟩ := I.hok dx _ ed
  obtain ⟨od, hod, hlk⟩ := lookIn_ns hn
  obtain ⟨u, hu, ru⟩ := RelO.some_of (v := v) (o := mA f) (by rw [← l]; exact hr f)
  obtain ⟨oc, odi, oda, osl⟩ := o
  dsimp only at hc hd hdi
  subst hc hd hdi
  exact getx I.kIn q1 (by unfold PySem.W.hasDictIn; rw [q3]; exact q5) ⟨ho, rfl, rfl, hod⟩ n (by rw [hlk, hu]) (handed_of ru) (h u _ (I.tok _) ru)
theorem xset_ok {y : V} {u : Value} {Q : Unit → Shared → Prop} (I : Inv X pins σ H s) (e : H x = some (.ext (ExN x (.ref D) none))) (q : excPut X.K D = true) (n : NoAttr X.K D f) (ry : RelV y u)
    (h : ∀ dx s', H dx = none → dx ≠ x → Inv X pins σ (upd (upd H dx (.xd [(f, y)])) x (.ext (ExN x (.ref D) (some dx)))) s' → Q () s') : wpAny (model X.prog X.w) A (setAttr (.ref x) f u) Q E s := by
  obtain ⟨q1, q2, cd, q3, q4, q5⟩ := excPut_of q
  obtain ⟨⟨o, vs, tp, ho, hc, hd, h0, h1, hdi⟩, _, _⟩ := I.hok x _ e
  obtain ⟨oc, odi, oda, osl⟩ := o
  dsimp only at hc hd hdi
  subst hc hd hdi
  refine setx I.kIn ⟨ho, rfl, rfl, trivial⟩ q2 q3 q4 q5 n fun h' tk hn hx hk => ?_
  have ne : s.heap.objs.size ≠ x := Nat.ne_of_gt (Heap.lt_size ho)
  have hf := I.fresh
  refine h s.heap.objs.size _ hf ne ?_
  obtain ⟨oD, es, ep, eo, r⟩ := id hn
  have fr := (Heap.get?_some_iff.mp eo).2
  have I1 := I.laid (a := s.heap.objs.size) (o := .xd [(f, y)]) (h' := s.heap.push oD) (t' := s.toks) (fun b u z => Heap.get?_push_of_some _ z) (Nat.le_refl _) ⟨_, ⟨oD, es, ep, Heap.get?_push_size _ fr, r⟩, fun g => by
    show RelO (List.lookup g [(f, y)]) (if g = f then some u else none)
    by_cases z : g = f
    · subst z
      rw [if_pos rfl, List.lookup_cons, show (g == g) = true from beq_iff_eq.mpr rfl]
      exact ry
    · rw [if_neg z, List.lookup_cons, show (g == f) = false from beq_eq_false_iff_ne.mpr z]
      trivial⟩
  refine I1.write (x := x) (e := x) (o := .ext (ExN x (.ref D) (some s.heap.objs.size))) (by rw [upd_ne ne.symm, e]; trivial) (.inl rfl) (fun b u hb z => ?_) ⟨_, hx⟩ (exN_ok ⟨_, _, tp, hx, rfl, rfl, h0, h1, rfl⟩)
  rcases Heap.get?_push_cases z with ⟨rfl, rfl⟩ | z
  · exact eo
  · exact hk b u z hb
end
def tXget (K : PySem.W.Frag) (ta : TE) (f : Str) : TE := fun σ H Q => ta σ H fun x H1 => ∃ a D dx fs v φ, x = .ref a ∧ H1 a = some (.ext φ) ∧ (∀ h, φ h → ExA a (.ref D) (some dx) h) ∧ H1 dx = some (.xd fs) ∧ excPut K D = true ∧ NoAttr K D f ∧ fs.lookup f = some v ∧ Q v H1
def sXput (K : PySem.W.Frag) (ta tv : TE) (f : Str) : TS := fun D σ H => tv σ H fun y H1 => ta σ H1 fun x H2 => ∃ a C, x = .ref a ∧ H2 a = some (.ext (ExN a (.ref C) none)) ∧ excPut K C = true ∧ NoAttr K C f ∧
  ∀ dx, H2 dx = none → dx ≠ a → D.nx σ (upd (upd H2 dx (.xd [(f, y)])) a (.ext (ExN a (.ref C) (some dx))))
section
variable {X : Cx} {K : PySem.W.Frag} {o e value : Expr} {f : Str} {pos pos' : Pos} {ta tv : TE}
theorem pe_xget (hK : X.K = K) (he : PE X e ta) (hb : attributeBase e f X.env (eval e X.env) = eval e X.env) : PE X (.Attribute e f pos) (tXget K ta f) := by
  subst hK
  intro pins s σ H Q I h
  refine attr_of hb (thn (he pins s σ H _ I h) fun u s1 ⟨x, H1, I1, rx, a, D, dx, fs, v, φ, ex, ea, hφ, ed, q, n, l, k⟩ => ?_)
  subst ex
  obtain rfl : u = Value.ref a := rx
  exact xget_ok I1 ea hφ ed q n l fun u' s2 I2 ru => ⟨v, H1, I2, ru, k⟩
theorem ps_xput (hK : X.K = K) (ha : PE X o ta) (hv : PE X value tv) (hs : swapsWith value (some (.Attribute o f pos')) pos.line X.env = pure false) : PS X (.Assign [.Attribute o f pos'] value pos) (sXput K ta tv f) := by
  subst hK
  intro pins s σ H D I h
  refine plainObj_wpAny_Assign_Attribute (thn (hv pins s σ H _ I h) fun u s1 ⟨y, H1, I1, ry, q⟩ => thn (ha pins s1 σ H1 _ I1 q) fun ov s2 ⟨x, H2, I2, rx, a, C, ex, ea, c, n, q2⟩ => ?_) hs
  subst ex
  obtain rfl : ov = Value.ref a := rx
  exact xset_ok I2 ea c n ry fun dx s3 hd ne I3 => ⟨σ, _, I3, q2 dx hd ne⟩
end
end L2
namespace L2
open PySem PySem.Spec PyProof.Rows
def excMade (K : PySem.W.Frag) (C fI : Addr) : Bool := match K.lookup C with
  | some ⟨.type "type", _, .cls c, sl⟩ => (match c.mro, sl.toList with
    | .ref D :: tl, [_, _, _, _, some (.builtin m), _] => D == C && m == nidV && !c.hasDel && PySem.W.tailIn K bmV tl && PySem.W.nsOkIn K c.ns && PySem.W.nsIn K c.ns "__init__" == some (some (.ref fI))
    | _, _ => false)
  | _ => false
theorem ns_some {K : PySem.W.Frag} {h : Heap} {N : Addr} {m : Str → Option Value} {n : Str} {v : Value} (kin : K.In h) (G : h.Ns N m) (e : PySem.W.nsIn K N n = some (some v)) : m n = some v := by
  obtain ⟨ob, ents, k, look, dat, _, all⟩ := G
  unfold PySem.W.nsIn at e
  split at e
  · rename_i c d ents' k' sl found
    have same := kin _ _ found
    rw [look] at same
    cases same
    cases dat
    split at e
    · rename_i one is
      cases e
      rw [← all, nsFind, findBy, ← Array.find?_toList, is]
      rfl
    · split at e <;> cases e
  · cases e
theorem exc_at2 {K : PySem.W.Frag} {h : Heap} {C fI : Addr} (kin : K.In h) (q : excMade K C fI = true) :
    ∃ bm N nm qn bs hdc sn sub ab col dd k0 k1 k2 k3 k5 mN, h.get? C = some (excClassObj nm qn C N bs bm hdc sn sub ab col dd k0 k1 k2 k3 k5 nidV) ∧ h.Ns N mN ∧ mN "__init__" = some (.ref fI) ∧ OwnTail h bmV bm := by
  unfold excMade at q
  split at q
  · rename_i dd data sl look
    split at q
    · rename_i C1 bm k0 k1 k2 k3 n k5 hmro hslots
      simp only [beq_iff_eq, Bool.and_eq_true, Bool.not_eq_true'] at q
      obtain ⟨⟨⟨⟨⟨e1, e2⟩, e3⟩, e4⟩, e5⟩, e6⟩ := q
      subst e1 e2
      obtain ⟨nm, bs, mro, ns, qn, hdc, sn, sub, ab, col, del⟩ := data
      dsimp only at hmro e3 e5 e6
      subst hmro e3
      obtain ⟨ls⟩ := sl
      have e7 : ls = [k0, k1, k2, k3, some (.builtin nidV), k5] := hslots
      subst e7
      refine ⟨bm, ns, nm, qn, bs, hdc, sn, sub, ab, col, dd, k0, k1, k2, k3, k5, _, kin _ _ look, .of_isNs (PySem.W.isNs_of_in kin e5), ns_some kin (.of_isNs (PySem.W.isNs_of_in kin e5)) e6, PySem.W.tail_of_in kin e4⟩
    · cases q
  · cases q
section
variable {prog : Program} {w : World} {A : Around} {E : Value → Shared → Prop} {s : Shared} {K : PySem.W.Frag} {x C fI : Addr}
theorem initx {u : Value} {o : Obj} {vs : Array Value} {tp : Addr} {Q : Value → Shared → Prop} (kin : K.In s.heap) (q : excMade K C fI = true) (ho : s.heap.get? x = some o) (hc : o.cls = .ref C) (hd : o.data = .fields vs) (h0 : vs[0]? = some (.ref tp))
    (h : Q .none { s with heap := (s.heap.push { cls := .type "tuple", data := .seq #[u] }).update x (Obj.mapFields (·.setIfInBounds 0 (.ref s.heap.objs.size))) }) :
    wpAny (model prog w) A (call (.builtin "ValueError.__init__") [.ref x, u]) Q E s := by
  obtain ⟨bm, N, nm, qn, bs, hdc, sn, sub, ab, col, dd, k0, k1, k2, k3, k5, mN, hC, hN, hi, tl⟩ := exc_at2 kin q
  obtain ⟨hp, g, dr, t, os⟩ := s
  have F := PySem.F.excBase_ValueError
  refine wpAny_call (codeAny_call_builtin F.init.plain F.initEntry (wpAny_check_init_subT F tl hC ho hc ?_))
  unfold Builtin.«BaseException.__init__»
  dsimp only
  rw [if_neg (by simp)]
  unfold newTuple Builtin.BaseException.bexcPut
  have z : 0 < vs.size := (Array.getElem?_eq_some_iff.mp h0).1
  have o1 := Heap.get?_push_of_some (h := hp) { cls := .type "tuple", data := .seq #[u] } ho
  refine wpAny_bind (wpAny_newObj_type ?_ (by show 1 ≤ sizeLine; decide))
  refine wpAny_bind (wpAny_bind (wpAny_field o1 hd h0 (wpAny_bind ?_)))
  refine wpAny_setField o1 hd z ?_
  exact wpAny_letGo (wpAny_pure h)
end
theorem dict_mapFields (o : Obj) (f : Array Value → Array Value) : (o.mapFields f).dict = o.dict := by
  obtain ⟨c, d, da, sl⟩ := o
  cases da <;> rfl
def winIn (K : PySem.W.Frag) (W : Addr) : Bool := PySem.W.specialIn K (.ref W) "__getattribute__" == some (some (.builtin "type.__getattribute__")) && PySem.W.readsIn K W (.type "type") &&
  (match PySem.W.findCls K (.ref W) (.type "type") "__init__" with | some (.val v) => v == .builtin "ValueError.__init__" | _ => false)
def tWinit (K : PySem.W.Frag) (t : TA) : TE := fun σ H Q => t σ H fun vs H1 => ∃ a C fI od v, vs = [.ref a, v] ∧ H1 a = some (.ext (ExN a (.ref C) od)) ∧ excMade K C fI = true ∧ Q .non H1
section
variable {X : Cx} {K : PySem.W.Frag} {W : Addr} {x : Str} {e : Expr} {es : List Expr} {t : TA} {np apos pos : Pos}
theorem pe_winit {pl : Sem Bool} (hK : X.K = K) (hm : X.mg x = some (.ref W)) (q : winIn K W = true) (ha : PA X (e :: es) t) (hg : Gl X x := by rfl) (hdb : (x == ("__debug__" : Str)) = false := by decide)
    (hst : starEach (e :: es) X.env = (false, eval e X.env) :: starEach es X.env := by rfl) (hpl : (backTo pos (starEach es X.env)).any (·.1) = false := by rfl)
    (ht : eval (.Call (.Attribute (.Name x np) "__init__" apos) (e :: es) [] pos) X.env = (do
      let ov ← eval (.Name x np) X.env
      standAt apos.atName
      let (f, first) ← holding [ov] (getMethod ov "__init__" pl)
      callWith pos f first (backTo pos (starEach (e :: es) X.env)) (backToKw pos (keywordEach [] X.env))) := by rfl) :
    PE X (.Call (.Attribute (.Name x np) "__init__" apos) (e :: es) [] pos) (tWinit K t) := by
  subst hK
  intro pins s σ H Q I h
  unfold winIn at q
  simp only [Bool.and_eq_true, beq_iff_eq] at q
  obtain ⟨⟨q1, q2⟩, q3⟩ := q
  have q4 : PySem.W.findCls X.K (.ref W) (.type "type") "__init__" = some (.val (.builtin "ValueError.__init__")) := by
    split at q3
    · rename_i v hv
      rw [hv, beq_iff_eq.mp q3]
    · cases q3
  refine PySem.W.methodCall_KW (pl := pl) (ld_glob I hg hm ?_ hdb) ht
  refine PySem.W.method_cls I.kIn q1 (PySem.W.cls_value I.kIn q2 q4 rfl ?_)
  have I1 : Inv X pins σ H { s with toks := s.toks + 1 } := I.tok _
  have hA := ha pos pins _ σ H _ I1 h
  rw [hst] at hA ⊢
  refine Calls.callWith_builtin (by show (false || (backTo pos (starEach es X.env)).any (·.1)) = false; rw [hpl] <;> rfl) (Calls.evalArgs_plain ?_)
  refine thn hA fun us s2 ⟨vs, H2, I2, r2, a, C, fI, od, v, ev, ea, qe, q2⟩ => ?_
  subst ev
  obtain ⟨u1, u2, rfl, r1, _⟩ := r2.two
  obtain rfl : u1 = Value.ref a := r1
  obtain ⟨⟨o, ws, tp, ho, hc, hd, h0, h1, hdi⟩, _, _⟩ := I2.hok a _ ea
  refine initx I2.kIn qe ho hc hd h0 ⟨.non, H2, ?_, rfl, q2⟩
  have ux : upd H2 a (.ext (ExN a (.ref C) od)) = H2 := by
    funext b
    by_cases z : b = a
    · rw [z, upd_same, ea]
    · rw [upd_ne z]
  have o1 := Heap.get?_push_of_some (h := s2.heap) { cls := .type "tuple", data := .seq #[u2] } ho
  have hd2 := Obj.data_mapFields hd (·.setIfInBounds 0 (Value.ref s2.heap.objs.size))
  have o2 := Heap.get?_update_self (Obj.mapFields (·.setIfInBounds 0 (Value.ref s2.heap.objs.size))) o1 (Obj.isFreed_of_fields hd2)
  have z0 : 0 < ws.size := (Array.getElem?_eq_some_iff.mp h0).1
  have key := I2.write (x := a) (e := a) (t' := s2.toks) (o := .ext (ExN a (.ref C) od)) (by rw [ea]; trivial) (.inl rfl) (fun b u hb z => (Heap.get?_update_other _ _ (Ne.symm hb)).trans (Heap.get?_push_of_some _ z)) ⟨_, o2⟩
    (exN_ok ⟨_, _, s2.heap.objs.size, o2, by rw [Obj.cls_mapFields]; exact hc, hd2, by simp [z0], by rw [Array.getElem?_setIfInBounds_ne (by decide)]; exact h1, ?_⟩)
  · rw [ux] at key
    exact key
  · rw [dict_mapFields]
    exact hdi
end
end L2
namespace L2
open PySem PySem.Spec PyProof.Rows
def DfE (P : Program) (w : World) (K : PySem.W.Frag) (mg : Str → Option Value) (base : Heap) (k : Nat) (C : Addr) (ps : List Str) (sp : Sp) : Prop :=
  ∃ (f : Addr) (fd : FuncData), FnOk P w K mg base CX0 k f fd ps sp ∧ (excMade K C f = true ∧ PySem.W.isFn K (.ref f) = true ∧ PySem.W.keepIn K (.ref C) = true) ∧ Binds K fd ps [] ∧ ∃ qual st, Fun K "__init__" qual st f fd
def RawE (K : PySem.W.Frag) (C : Addr) (qual : Str) (ps : List Str) (st : Stmt) : Prop := ∃ f fd, (excMade K C f = true ∧ PySem.W.isFn K (.ref f) = true ∧ PySem.W.keepIn K (.ref C) = true) ∧ Fun K "__init__" qual st f fd ∧ Binds K fd ps []
theorem RawE.ok {P : Program} {w : World} {K : PySem.W.Frag} {mg : Str → Option Value} {base : Heap} {C : Addr} {qual : Str} {ps N : List Str} {st : Stmt} {k : Nat} {sp : Sp} (R : RawE K C qual ps st) (S : FnScope N ps (defScope st)) (len : ∀ vs H Q E, sp vs H Q E → vs.length = ps.length)
    (hbody : ∀ (f : Addr) (cdv : Value) (A : Around) (outer : List Env) (s : Shared) (H : Hp) (vs : List V) (Q : VK) (E : XK), Room k (A.deeper (envOfC qual (defScope st) s.heap.objs.size f cdv)) → sp vs H Q E →
      ∃ t, PSs (cxOf CX0 P w K mg base N qual (defScope st) f cdv A outer s H E).nox (defBody st) t ∧ t { nx := fun _ H' => Q .non H', rt := Q } (start N vs) H) : DfE P w K mg base (k + 1) C ps sp := by
  obtain ⟨f, fd, M, F, b⟩ := R
  exact ⟨f, fd, F.ok S len (fun cdv A outer s H vs Q E hr h => hbody f cdv A outer s H vs Q E hr h), M, b, _, _, F⟩
def xNew (C : Addr) (sp : Sp) (vs : List V) (H : Hp) (Q : VK) : Prop := vs.length ≤ sizeLine ∧ ∀ x, H x = none → sp (.ref x :: vs) (upd H x (.ext (ExN x (.ref C) none))) (fun v H2 => v = .non ∧ Q (.ref x) H2) E0
section
variable {X : Cx} {k : Nat} {C f : Addr} {fd : FuncData} {ps : List Str} {sp : Sp}
theorem run_newX {pins : List (Addr × Obj)} {σ : St} {H : Hp} {s : Shared} {Q : VK} {us zs : List Value} {kw : List (Str × Value)} {vs : List V} (F : FnOk X.prog X.w X.K X.mg X.base CX0 k f fd ps sp) (q : excMade X.K C f = true) (fn : PySem.W.isFn X.K (.ref f) = true)
    (hr : Room (k + 1) X.A) (hex : X.ex = []) (I : Inv X pins σ H s) (hz : us.length ≤ sizeLine) (r : Vals vs zs)
    (bt : ∀ (e : Addr) (s3 : Shared), X.K.In s3.heap → (Value.ref e :: zs).length = ps.length → BindsTo s3 fd ⟨.ref e :: us, kw⟩ (ps.zip (Value.ref e :: zs)))
    (h : ∀ x, H x = none → X.sZ.heap.get? x = none → sp (.ref x :: vs) (upd H x (.ext (ExN x (.ref C) none))) (fun v H2 => v = .non ∧ Q (.ref x) H2) E0) : wpAny (model X.prog X.w) X.A (call (.ref C) us kw) (EP X pins σ Q) X.xe s := by
  obtain ⟨bm, N, nm, qn, bs, hdc, sn, sub, ab, col, dd, k0, k1, k2, k3, k5, mN, hC, hN, hi, tl⟩ := exc_at2 I.kIn q
  have ft : PySem.W.typeIn X.K (.ref f) = some (.type "function") := beq_iff_eq.mp fn
  obtain ⟨oI, hoI, hcI⟩ := Option.map_eq_some_iff.mp ft
  have kin := I.kIn
  obtain ⟨hp, g, dr, t, os⟩ := s
  refine xcall tl hC hN hi (kin _ _ hoI) hcI hz fun h' e hm hle => ?_
  obtain ⟨tp, he, _, _⟩ := hm.there
  have hn : H e = none := I.hok.fresh hle
  have I2 : Inv X pins σ (upd H e (.ext (ExN e (.ref C) none))) ⟨h', g, dr, t, os⟩ := I.laid (a := e) (o := .ext (ExN e (.ref C) none)) (h' := h') (t' := t) hm.keeps hle (exN_ok ⟨_, _, tp, he, rfl, rfl, rfl, rfl, rfl⟩)
  have en : X.sZ.heap.get? e = none := by
    cases z : X.sZ.heap.get? e with
    | none => rfl
    | some o =>
      obtain ⟨u, eu⟩ := I.base.there e o z (by rw [hex]; exact fun w => by cases w)
      exact absurd (Heap.lt_size eu) (Nat.not_lt.mpr hle)
  have hq := h e hn en
  have r2 : Vals (V.ref e :: vs) (Value.ref e :: zs) := .cons rfl r
  have hl : (Value.ref e :: zs).length = ps.length := by rw [← r2.length]; exact F.len _ _ _ _ hq
  refine wpAny_call (codeAny_mono (F.run _ X.stack _ _ ⟨.ref e :: us, kw⟩ (.ref e :: zs) _ _ E0 (hr.make C us kw) (I2.env0.make C us kw) (bt e _ I2.kIn hl) r2 hq) fun r s' hq' => ?_)
  cases r with
  | error e' => exact pass0 pins σ _ _ e' s' I2 hq'
  | ok fl =>
    cases fl with
    | ret u =>
      obtain ⟨v, H', I3, rv, ev, q3⟩ := I2.after hq'
      subst ev
      exact ⟨rv, ⟨V.ref e, H', I3, rfl, q3⟩⟩
    | next => exact False.elim hq'
    | brk => exact False.elim hq'
    | cont => exact False.elim hq'
def tMakeX (C : Addr) (sp : Sp) (t : TA) : TE := fun σ H Q => t σ H fun vs H1 => xNew C sp vs H1 Q
variable {x qual : Str} {ks : List Str} {st : Stmt} {e : Expr} {es : List Expr} {t tk : TA} {p pos : Pos} {kws : List Keyword} {g : List Value → List Value} {gV : List V → List V}
theorem pe_newX (D : DfE X.prog X.w X.K X.mg X.base k C ps sp) (hr : Room (k + 1) X.A) (hm : X.mg x = some (.ref C)) (ha : PA X (e :: es) t) (hg : Gl X x := by rfl)
    (hdb : (x == ("__debug__" : Str)) = false := by decide) (he : starEach (e :: es) X.env = (false, eval e X.env) :: starEach es X.env := by rfl) (hpl : (backTo pos (starEach es X.env)).any (·.1) = false := by rfl) (hex : X.ex = [] := by rfl) :
    PE X (.Call (.Name x p) (e :: es) [] pos) (tMakeX C sp t) := by
  obtain ⟨f, fd, F, ⟨q1, q2, q3⟩, b, _⟩ := D
  intro pins s σ H Q I h
  refine wpAny_Call_Name_kw (ld_glob I hg hm ?_ hdb)
  refine PySem.W.callWith_K (h₀ := X.base) I.ok.mod.kin q3 (thn (ha pos pins s σ H _ I h) fun us s1 ⟨vs, H1, I1, r, q⟩ => ⟨I1.kIn, ?_⟩) he hpl
  refine run_newX (zs := us) F q1 q2 hr hex I1 (by show us.length ≤ sizeLine; rw [← r.length]; exact q.1) r (fun e s3 k3 hl => ?_) fun x hx _ => q.2 x hx
  have := b s3 (.ref e :: us) k3 (by rw [List.append_nil]; exact hl)
  rw [List.append_nil] at this
  exact this
end
end L2
namespace L2
open PySem PySem.Spec PyProof.Rows
def KD {α : Type} : Sem α → Prop
  | .pure _ => True
  | .raise _ => True
  | .unsupported _ => True
  | .finish _ => True
  | .rule _ k => KD (k ())
  | .at _ k => KD (k ())
  | .point _ k => KD (k ())
  | .load _ _ k => ∀ o, KD (k o)
  | .update _ _ f k => (∀ o : Obj, (f o).dict = o.dict) ∧ KD (k ())
  | .loadIfAlive _ k => ∀ o, KD (k o)
  | .alloc _ k => ∀ a, KD (k a)
  | .fresh k => ∀ t, KD (k t)
  | .ask k => ∀ c, KD (k c)
  | .handled _ k => ∀ v, KD (k v)
  | .stack k => ∀ l, KD (k l)
  | .thread k => ∀ n, KD (k n)
  | _ => False
def DKh (x : Addr) (h h' : Heap) : Prop := ∀ o, h.objs[x]? = some o → ∃ o', h'.objs[x]? = some o' ∧ o'.dict = o.dict
theorem DKh.refl (x : Addr) (h : Heap) : DKh x h h := fun o e => ⟨o, e, rfl⟩
theorem DKh.trans {x : Addr} {h h1 h2 : Heap} (a : DKh x h h1) (b : DKh x h1 h2) : DKh x h h2 := fun o e => by
  obtain ⟨o1, e1, d1⟩ := a o e
  obtain ⟨o2, e2, d2⟩ := b o1 e1
  exact ⟨o2, e2, d2.trans d1⟩
theorem dkh_update (x : Addr) (h : Heap) (a : Addr) {f : Obj → Obj} (hf : ∀ o : Obj, (f o).dict = o.dict) : DKh x h (h.update a f) := fun o e => by
  cases h with
  | mk objs l =>
    show ∃ o', (objs.modify a f)[x]? = some o' ∧ _
    rw [Array.getElem?_modify]
    by_cases z : a = x
    · rw [if_pos z]
      exact ⟨f o, by rw [show objs[x]? = some o from e]; rfl, hf o⟩
    · rw [if_neg z]
      exact ⟨o, e, rfl⟩
theorem dkh_push (x : Addr) (h : Heap) (u : Obj) : DKh x h (h.push u) := fun o e => by
  cases h with
  | mk objs l =>
    refine ⟨o, ?_, rfl⟩
    show (objs.push u)[x]? = some o
    have lt : x < objs.size := (Array.getElem?_eq_some_iff.mp e).1
    rw [Array.getElem?_push_lt lt]
    exact (Array.getElem?_eq_getElem lt).symm.trans e
theorem wp_KD {α : Type} {M : Model} {Γ : PySem.Ctx} {x : Addr} : ∀ (t : Sem α), KD t → ∀ {Q : α → Pos → Shared → Prop} {E : Value → Pos → Shared → Prop} {p : Pos} {s : Shared}, Sem.wp M Γ t Q E p s →
    Sem.wp M Γ t (fun a p' s' => Q a p' s' ∧ DKh x s.heap s'.heap) (fun e p' s' => E e p' s' ∧ DKh x s.heap s'.heap) p s := by
  intro t
  have step : ∀ {t : Sem α} {Q : α → Pos → Shared → Prop} {E : Value → Pos → Shared → Prop} {p : Pos} {s s1 : Shared}, DKh x s.heap s1.heap → Sem.wp M Γ t (fun a p' s' => Q a p' s' ∧ DKh x s1.heap s'.heap) (fun e p' s' => E e p' s' ∧ DKh x s1.heap s'.heap) p s1 →
      Sem.wp M Γ t (fun a p' s' => Q a p' s' ∧ DKh x s.heap s'.heap) (fun e p' s' => E e p' s' ∧ DKh x s.heap s'.heap) p s1 := fun d h =>
    Sem.wp_mono M Γ _ (fun a p' s' z => ⟨z.1, d.trans z.2⟩) (fun e p' s' z => ⟨z.1, d.trans z.2⟩) _ _ h
  induction t with
  | pure a => intro _ Q E p s h; exact ⟨h, DKh.refl _ _⟩
  | raise e => intro _ Q E p s h; exact ⟨h, DKh.refl _ _⟩
  | unsupported w => intro _ Q E p s h; exact h
  | finish e => intro _ Q E p s h; exact h
  | rule tag k ih => intro kd Q E p s h; exact ih () kd h
  | «at» p' k ih => intro kd Q E p s h; exact ih () kd h
  | point l k ih => intro kd Q E p s h; exact ih () kd h
  | load a part k ih =>
    intro kd Q E p s h
    obtain ⟨o, ho, hw⟩ := h
    exact ⟨o, ho, ih o (kd o) hw⟩
  | update a part f k ih =>
    intro kd Q E p s h
    obtain ⟨ho, hw⟩ := h
    exact ⟨ho, step (dkh_update x s.heap a kd.1) (ih () kd.2 hw)⟩
  | loadIfAlive a k ih => intro kd Q E p s h; exact ih _ (kd _) h
  | alloc o k ih => intro kd Q E p s h; exact step (s1 := { s with heap := s.heap.push o }) (dkh_push x s.heap o) (ih s.heap.objs.size (kd _) h)
  | fresh k ih => intro kd Q E p s h; exact ih _ (kd _) h
  | ask k ih => intro kd Q E p s h; exact ih _ (kd _) h
  | handled own k ih => intro kd Q E p s h; exact ih _ (kd _) h
  | stack k ih => intro kd Q E p s h; exact ih _ (kd _) h
  | thread k ih => intro kd Q E p s h; exact ih _ (kd _) h
  | _ => intro kd; exact False.elim kd
theorem KD.bind {α β : Type} {m : Sem α} {f : α → Sem β} (hm : KD m) (hf : ∀ a, KD (f a)) : KD (m >>= f) := by
  show KD (Sem.bind m f)
  induction m with
  | pure a => exact hf a
  | raise e => exact trivial
  | unsupported w => exact trivial
  | finish e => exact trivial
  | rule tag k ih => exact ih () hm
  | «at» p' k ih => exact ih () hm
  | point l k ih => exact ih () hm
  | load a part k ih => exact fun o => ih o (hm o)
  | update a part g k ih => exact ⟨hm.1, ih () hm.2⟩
  | loadIfAlive a k ih => exact fun o => ih o (hm o)
  | alloc o k ih => exact fun a => ih a (hm a)
  | fresh k ih => exact fun a => ih a (hm a)
  | ask k ih => exact fun a => ih a (hm a)
  | handled own k ih => exact fun a => ih a (hm a)
  | stack k ih => exact fun a => ih a (hm a)
  | thread k ih => exact fun a => ih a (hm a)
  | _ => exact False.elim hm
theorem kd_field (v : Value) (i : Nat) : KD (field v i) := by
  unfold field fieldsOf
  refine KD.bind ?_ fun a => ?_
  · cases v with
    | ref a =>
      refine KD.bind (m := load a) (fun _ => trivial) fun o => ?_
      split <;> trivial
    | _ => trivial
  · split <;> trivial
theorem kd_setField (v : Value) (i : Nat) (x : Value) : KD (setField v i x) := by
  unfold setField
  cases v with
  | ref a =>
    unfold updateField
    refine KD.bind (m := load a) (fun _ => trivial) fun o => ?_
    split
    · split
      · exact ⟨fun o => dict_mapFields o _, trivial⟩
      · trivial
    · trivial
  | _ => trivial
theorem kd_setFlight (e : Value) (fr : Option Addr) : KD (setFlight e fr) := by
  unfold setFlight
  refine KD.bind (kd_field _ _) fun tb => ?_
  split
  · exact kd_setField _ _ _
  · trivial
theorem kd_ready : ∀ l : List Env, KD (readyFrames l)
  | [] => trivial
  | env :: outer => by
    unfold readyFrames
    cases env.frame with
    | none => trivial
    | some f =>
      refine KD.bind (m := load f) (fun _ => trivial) fun o => ?_
      split
      · trivial
      · refine KD.bind ?_ fun im => KD.bind ?_ fun bk => KD.bind (m := update f _) ⟨fun _ => rfl, trivial⟩ fun _ => kd_ready outer
        · unfold behindIsImport
          split
          · trivial
          · split
            · trivial
            · exact KD.bind (kd_field _ _) fun _ => trivial
        · unfold keptBack
          split
          · split
            · trivial
            · exact KD.bind (KD.bind (m := stack) (fun _ => trivial) fun _ => trivial) fun _ => trivial
          · trivial
theorem kd_noteFrame (env : Env) (v : Value) : KD (noteFrame v env) := by
  unfold noteFrame
  cases env.frame with
  | none => trivial
  | some f =>
    have rest : ∀ hd : Value, KD (do setField v 1 (← EntryCells.newEntry hd (← PySem.frameOf env) .none (rawInt f) .none (← entryPlaceOf f (hd != .none)))) := fun hd => by
      refine KD.bind ?_ fun fr => KD.bind ?_ fun pl => KD.bind ?_ fun en => kd_setField _ _ _
      · unfold PySem.frameOf
        refine KD.bind ?_ fun l => KD.bind ?_ fun r => ?_
        · exact KD.bind (m := stack) (fun _ => trivial) fun _ => trivial
        · unfold frameObject
          split
          · trivial
          · exact KD.bind (kd_ready _) fun _ => trivial
        · split <;> trivial
      · unfold entryPlaceOf
        refine KD.bind (m := stack) (fun _ => trivial) fun l => ?_
        split <;> trivial
      · unfold EntryCells.newEntry newFields newObj newObjAsIs
        dsimp only
        split <;> split <;> first
          | exact KD.bind (m := unsupported _) trivial fun _ => KD.bind (m := alloc _) (fun _ => trivial) fun _ => trivial
          | exact KD.bind (m := alloc _) (fun _ => trivial) fun _ => trivial
    refine KD.bind (kd_field _ _) fun hd => ?_
    split
    · refine KD.bind (kd_field _ _) fun x => ?_
      split
      · trivial
      · exact KD.bind (kd_setField _ _ _) fun _ => rest hd
    · exact rest hd
theorem kd_leaving (env : Env) (v : Value) : KD (leaving env v) := by
  unfold leaving
  exact KD.bind (kd_noteFrame _ _) fun _ => kd_setFlight _ _
theorem wpAny_KD {α : Type} {M : Model} {A : Around} {t : Sem α} {Q : α → Shared → Prop} {E : Value → Shared → Prop} {s : Shared} (x : Addr) (kd : KD t) (h : wpAny M A t Q E s) : wpAny M A t (fun a s' => Q a s' ∧ DKh x s.heap s'.heap) (fun e s' => E e s' ∧ DKh x s.heap s'.heap) s :=
  fun Γ p hΓ => wp_KD t kd (h Γ p hΓ)
def DictIs (x : Addr) (od : Option Addr) (h : Heap) : Prop := ∃ o, h.get? x = some o ∧ o.dict = od
theorem DictIs.dk {x : Addr} {od : Option Addr} {h h' : Heap} (d : DictIs x od h) (k : DKh x h h') {o' : Obj} (e : h'.get? x = some o') : DictIs x od h' := by
  obtain ⟨o, ho, hd⟩ := d
  obtain ⟨o1, e1, d1⟩ := k o (Heap.get?_some_iff.mp ho).1
  rw [(Heap.get?_some_iff.mp e).1] at e1
  cases e1
  exact ⟨o', e, d1.trans hd⟩
end L2
namespace L2
open PySem PySem.Spec PyProof.Rows
def wipe (H : Hp) (x : Addr) : Hp := fun b => if b = x then none else H b
theorem wipe_same {H : Hp} {x : Addr} : wipe H x x = none := by unfold wipe; rw [if_pos rfl]
theorem wipe_ne {H : Hp} {x b : Addr} (n : b ≠ x) : wipe H x b = H b := by unfold wipe; rw [if_neg n]
theorem wipe_some {H : Hp} {x b : Addr} {o : HO} (e : wipe H x b = some o) : b ≠ x ∧ H b = some o := by
  by_cases z : b = x
  · rw [z, wipe_same] at e; cases e
  · exact ⟨z, by rw [wipe_ne z] at e; exact e⟩
def CXD (P : Program) (w : World) : CXT := fun outer H s E e s' => ∃ (x : Addr) (C : Value) (od : Option Addr) (H' : Hp), e = .ref x ∧ s'.os = s.os ∧ AllBare s'.gens ∧ Fly P w outer H H' s.heap s'.heap x C ∧ DictIs x od s'.heap ∧ E C od H'
section
variable {P : Program} {w : World} {K : PySem.W.Frag} {mg : Str → Option Value} {base : Heap} {N : List Str} {qual : Str} {scope : Scope} {f : Addr} {cd : Value} {A : Around} {outer : List Env} {s : Shared} {H : Hp} {E : XK}
theorem raise_outD {pins : List (Addr × Obj)} {σ : St} {H1 : Hp} {s1 : Shared} {x : Addr} {C : Value} {od : Option Addr} (I : Inv (cxOf (CXD P w) P w K mg base N qual scope f cd A outer s H E) pins σ H1 s1)
    (hx : H1 x = some (.ext (ExN x C od))) (newx : s.heap.get? x = none) (hE : E C od (wipe H1 x)) : (cxOf (CXD P w) P w K mg base N qual scope f cd A outer s H E).xe (.ref x) s1 := by
  let st := envOfC qual scope s.heap.objs.size f cd :: outer
  have hst : frs st = s.heap.objs.size :: frs outer := rfl
  have hfr : (A.deeper (envOfC qual scope s.heap.objs.size f cd)).frames = some st := I.ok.frames
  have hfun : s1.heap.FunFrames base st := I.stack
  have free : ∀ b ∈ frs st, H1 b = none := I.stkFree
  have ub : Un (frs outer) [] H H1 s.heap s1.heap := I.base
  have noE : ∀ b : Addr, b ∉ ([] : List Addr) := fun b z => by cases z
  have hin : ∀ env ∈ st, ∀ b, env.frame = some b → b ∈ x :: frs st := fun env he b hb => List.mem_cons_of_mem _ (List.mem_filterMap.mpr ⟨env, he, hb⟩)
  obtain ⟨⟨ox, vs, tp, e1, e2, e3, e4, e5, e6⟩, _, _⟩ := I.hok x _ hx
  show wpAny (model P w) (A.deeper (envOfC qual scope s.heap.objs.size f cd)) (leaving (envOfC qual scope s.heap.objs.size f cd) (.ref x)) (fun _ s'' => CXD P w outer H s E (.ref x) s'') (fun e' s'' => CXD P w outer H s E e' s'') s1
  generalize hB : PySem.W.hideAll s1.heap (x :: frs st) = B
  have outB : B.get? x = none := by
    rw [← hB]
    exact PySem.W.hideAll_none _ List.mem_cons_self
  have hkb : B.StaysIn s1.heap := fun b o q => by rw [← hB] at q; exact PySem.W.of_hideAll _ q
  have inB : ∀ b o, s1.heap.get? b = some o → b ≠ x → b ∉ frs st → B.get? b = some o := fun b o q m n => by
    rw [← hB]
    exact PySem.W.hideAll_get _ q fun z => (List.mem_cons.mp z).elim m n
  have hl : s1.heap.FunFrames B st := by rw [← hB]; exact PySem.W.funFrames_hide hfun hin
  have nL : ∀ b o, s.heap.get? b = some o → b ∉ frs outer → b ∉ frs st := fun b o e n z => by
    rw [hst] at z
    rcases List.mem_cons.mp z with q | q
    · exact absurd (Heap.lt_size e) (by rw [q]; exact Nat.lt_irrefl _)
    · exact n q
  have nx : ∀ b o, s.heap.get? b = some o → b ≠ x := fun b o e z => by rw [z, newx] at e; cases e
  have go := wpAny_leaving_firstW (M := model P w) (A := A.deeper (envOfC qual scope s.heap.objs.size f cd)) (E := fun _ _ => False) (s := s1) (Q := fun _ s' => ∃ h', s' = { s1 with heap := h' } ∧ Heap.LeftW B st x ox.cls (.ref tp) s1.heap h') hfr hl rfl e1 hkb outB e3 e5 e4 fun h' L => ⟨h', rfl, L⟩
  refine wpAny_mono (wpAny_KD x (kd_leaving _ _) go) (fun _ s' z => ?_) fun _ _ z => z.1.elim
  obtain ⟨⟨h', rfl, k1, ⟨_, _, k2⟩, k3, k4⟩, dk⟩ := z
  have thx : ∃ ob, h'.get? x = some ob := by
    obtain ⟨oe, _, _, _, _, he, _⟩ := k3
    exact ⟨oe, he⟩
  obtain ⟨ob, hob⟩ := thx
  subst e2
  refine ⟨x, _, od, wipe H1 x, rfl, I.os, I.bare, ⟨B, _, ⟨fun a o ea => ?_, fun b o q n hb => inB b o (ub.keep b o q n hb (noE b)) (nx b o q) (nL b o q hb), fun b o q n => ?_, fun b o q hb => ?_, fun b xs q => ?_, fun b o u q => ?_, fun b ps q => ?_⟩, ⟨k1, outB, k2, k3⟩, fun b o q hb => ?_⟩, DictIs.dk ⟨ox, e1, e6⟩ dk hob, hE⟩
  · obtain ⟨na, ea'⟩ := wipe_some ea
    refine (I.hok a o ea').stay (fun b u hb q => inB b u q (fun z => ?_) fun z => ?_) (fun b q => ?_) fun b xs q => ?_
    · rcases hb with rfl | hb
      · exact na z
      · rw [z, hx] at hb; cases hb
    · rcases hb with rfl | hb
      · rw [free _ z] at ea'; cases ea'
      · rw [free _ z] at hb; cases hb
    · rw [wipe_ne (fun z => by rw [z, hx] at q; cases q)]; exact q
    · rw [wipe_ne (fun z => by rw [z, hx] at q; cases q)]; exact q
  · rw [wipe_ne (nx b o q)]
    exact ub.free b o q n (noE b)
  · obtain ⟨u, eu⟩ := ub.there b o q (noE b)
    exact ⟨u, inB b u eu (nx b o q) (nL b o q hb)⟩
  · have q1 := ub.tups b xs q
    rw [wipe_ne (fun z => by rw [z, hx] at q1; cases q1)]; exact q1
  · have q1 := ub.frzs b o u q
    rw [wipe_ne (fun z => by rw [z, hx] at q1; cases q1)]; exact q1
  · obtain ⟨more, q1⟩ := ub.tbls b ps q
    exact ⟨more, by rw [wipe_ne (fun z => by rw [z, hx] at q1; cases q1)]; exact q1⟩
  · have hz : H b = none := I.ok.frf b hb
    obtain ⟨sl, f1⟩ := ub.slot b o q hz hb (noE b)
    have hd : ∀ vs, o.data ≠ .fields vs := fun vs z => by
      obtain ⟨_, o', ho', hnd⟩ := hfun.mem (b := b) (List.mem_cons_of_mem _ hb)
      rw [f1] at ho'
      cases ho'
      exact hnd vs z
    obtain ⟨sl2, f3⟩ := k4 b _ f1 hd
    exact ⟨sl2, f3⟩
theorem pass_outD : Passes (CXD P w) (cxOf (CXD P w) P w K mg base N qual scope f cd A outer s H E) E := by
  intro pins σ H1 s1 e s2 I hc
  obtain ⟨x, C, od, H2, rfl, os, bare, ⟨B, arg, b, hfl, fr⟩, di, hE⟩ := hc
  have hst : frs (envOfC qual scope s.heap.objs.size f cd :: outer) = s.heap.objs.size :: frs outer := rfl
  have hfr : (A.deeper (envOfC qual scope s.heap.objs.size f cd)).frames = some (envOfC qual scope s.heap.objs.size f cd :: outer) := I.ok.frames
  have hfun : s1.heap.FunFrames base (envOfC qual scope s.heap.objs.size f cd :: outer) := I.stack
  show wpAny (model P w) (A.deeper (envOfC qual scope s.heap.objs.size f cd)) (leaving (envOfC qual scope s.heap.objs.size f cd) (.ref x)) (fun _ s'' => CXD P w outer H s E (.ref x) s'') (fun e' s'' => CXD P w outer H s E e' s'') s2
  have nL : ∀ b o, s.heap.get? b = some o → b ∉ frs outer → b ∉ frs (envOfC qual scope s.heap.objs.size f cd :: outer) := fun b o e n z => by
    rw [hst] at z
    rcases List.mem_cons.mp z with q | q
    · exact absurd (Heap.lt_size e) (by rw [q]; exact Nat.lt_irrefl _)
    · exact n q
  have ub : Un (frs outer) [] H H1 s.heap s1.heap := I.base
  have noE : ∀ b : Addr, b ∉ ([] : List Addr) := fun b z => by cases z
  have go := wpAny_leaves_onW (M := model P w) (A := A.deeper (envOfC qual scope s.heap.objs.size f cd)) (E := fun _ _ => False) (s := s2) (base := B) (Q := fun _ s' => ∃ h', s' = { s2 with heap := h' } ∧ Heap.FlyingW B outer x C arg h' ∧ s2.heap.UpToSlots h') hfr rfl hfl fun h' u v => ⟨h', rfl, u, v⟩
  refine wpAny_mono (wpAny_KD x (kd_leaving _ _) go) (fun _ s' z => ?_) fun _ _ z => z.1.elim
  obtain ⟨⟨h', rfl, hfl', hup⟩, dk⟩ := z
  obtain ⟨ob, hob, _⟩ := hfl'.there
  refine ⟨x, C, od, H2, rfl, os.trans I.os, bare, ⟨B, arg, ⟨b.hok, fun c o q n hc => b.keep c o (ub.keep c o q n hc (noE c)) (ub.free c o q n (noE c)) (nL c o q hc), fun c o q n => ?_, fun c o q hc => ?_, fun c xs q => b.tups c xs (ub.tups c xs q), fun c o u q => b.frzs c o u (ub.frzs c o u q), fun c ps q => ?_⟩, hfl', fun c o q hc => ?_⟩, di.dk dk hob, hE⟩
  · obtain ⟨u, eu⟩ := ub.there c o q (noE c)
    exact b.free c u eu (ub.free c o q n (noE c))
  · obtain ⟨u, eu⟩ := ub.there c o q (noE c)
    exact b.there c u eu (nL c o q hc)
  · obtain ⟨m1, e1⟩ := ub.tbls c ps q
    obtain ⟨m2, e2⟩ := b.tbls c _ e1
    exact ⟨m1 ++ m2, by rw [← Array.append_assoc]; exact e2⟩
  · have hz : H c = none := I.ok.frf c hc
    obtain ⟨sl, e1⟩ := ub.slot c o q hz hc (noE c)
    obtain ⟨sl1, e2⟩ := fr c _ e1 (List.mem_cons_of_mem _ hc)
    have hd : ∀ vs, o.data ≠ .fields vs := fun vs z => by
      obtain ⟨_, o', ho', hnd⟩ := hfun.mem (b := c) (List.mem_cons_of_mem _ hc)
      rw [e1] at ho'
      cases ho'
      exact hnd vs z
    obtain ⟨sl2, e3⟩ := hup c _ e2 hd
    exact ⟨sl2, e3⟩
end
def DfXD (P : Program) (w : World) (K : PySem.W.Frag) (mg : Str → Option Value) (base : Heap) (k : Nat) (x : Str) (ps : List Str) (sp : Sp) : Prop :=
  ∃ (f : Addr) (fd : FuncData), FnOk P w K mg base (CXD P w) k f fd ps sp ∧ mg x = some (.ref f) ∧ PySem.W.keepIn K (.ref f) = true ∧ Binds K fd ps []
section
variable {P : Program} {w : World} {K : PySem.W.Frag} {mg : Str → Option Value} {base : Heap}
theorem Raw.okXD {x : Str} {ps N : List Str} {st : Stmt} {k : Nat} {sp : Sp} (R : Raw K mg x ps st) (S : FnScope N ps (defScope st)) (len : ∀ vs H Q E, sp vs H Q E → vs.length = ps.length)
    (hbody : ∀ (f : Addr) (cdv : Value) (A : Around) (outer : List Env) (s : Shared) (H : Hp) (vs : List V) (Q : VK) (E : XK), Room k (A.deeper (envOfC x (defScope st) s.heap.objs.size f cdv)) → sp vs H Q E →
      ∃ t, PSs (cxOf (CXD P w) P w K mg base N x (defScope st) f cdv A outer s H E) (defBody st) t ∧ t { nx := fun _ H' => Q .non H', rt := Q } (start N vs) H) : DfXD P w K mg base (k + 1) x ps sp := by
  obtain ⟨f, fd, F, m, b⟩ := R
  have kp := F.kp
  obtain ⟨oc, od, kV, doc, pm, an, cdv, ct, osl, rfl, lk, hcd⟩ := F.ex
  exact ⟨f, _, fn_of lk hcd S len fun A outer s H vs Q E hr hsp => hbody f cdv A outer s H vs Q E hr hsp, m, kp, b⟩
end
section
variable {X : Cx} {k : Nat} {C : Addr} {m x : Str} {ps : List Str} {sp : Sp} {o e : Expr} {es : List Expr} {ta : TE} {t : TA} {p apos pos : Pos} {E : XK}
theorem pe_dfXD (D : DfXD X.prog X.w X.K X.mg X.base k x ps sp) (hr : Room k X.A) (hx : Passes (CXD X.prog X.w) X E) (ha : PA X (e :: es) t) (hg : Gl X x := by rfl)
    (hdb : (x == ("__debug__" : Str)) = false := by decide) (he : starEach (e :: es) X.env = (false, eval e X.env) :: starEach es X.env := by rfl) (hpl : (backTo pos (starEach es X.env)).any (·.1) = false := by rfl) :
    PE X (.Call (.Name x p) (e :: es) [] pos) (tCall sp [] E t) := by
  obtain ⟨f, fd, F, m, kp, b⟩ := D
  exact pe_call F hr hg m kp b .nil hx ha hdb he hpl
end
end L2
namespace L2
open PySem PySem.Spec PyProof.Rows
def ClsX (C : Addr) (h : Heap) : Prop := ∃ bm N nm qn bs hdc sn sub ab col dd k0 k1 k2 k3 k5, h.get? C = some (excClassObj nm qn C N bs bm hdc sn sub ab col dd k0 k1 k2 k3 k5 nidV) ∧ bm.contains (.type "BaseException") = true
theorem xraise {M : Model} {A : Around} {E : Value → Shared → Prop} {env : Env} {s : Shared} {x : Sem Value} {Q : Flow → Shared → Prop} (hh : A.handled = none)
    (h : wpAny M A x (fun v s1 => ∃ e o vs C, v = .ref e ∧ ClsX C s1.heap ∧ s1.heap.get? e = some o ∧ o.cls = .ref C ∧ o.data = .fields vs ∧ vs[1]? = some .none ∧ E (.ref e) s1) E s) :
    wpAny M A (raiseStmt env (some x) none) Q E s := by
  unfold raiseStmt
  refine wpAny_bind (wpAny_mono h (fun v s1 z => ?_) fun _ _ z => z)
  obtain ⟨e, o, vs, C, rfl, ⟨bm, N, nm, qn, bs, hdc, sn, sub, ab, col, dd, k0, k1, k2, k3, k5, hC, hb⟩, he, hc, hd, h1, hE⟩ := z
  have cB : (Value.ref C :: bm).contains (.type "BaseException") = true := by rw [List.contains_cons, hb, Bool.or_true]
  obtain ⟨oc, od, oda, osl⟩ := o
  dsimp only at hc hd
  subst hc hd
  obtain ⟨hp, g, dr, tk, os⟩ := s1
  repeat (first
    | with_reducible refine wpAny_loadPart_at he ?_
    | with_reducible refine wpAny_loadPart_at hC ?_
    | (with_reducible refine wpAny_isSubtype_exc hC ?_; rw [cB])
    | wp_step)
  rw [h1]
  refine wpAny_pure ?_
  rw [if_neg (by decide)]
  exact wpAny_pure (wpAny_raiseNew_none hh hE)
def tRaiseD (X : Cx) (te : TE) (E : XK) : TS := fun _ σ H => te σ H fun v H1 => ∃ x C fI od, v = .ref x ∧ H1 x = some (.ext (ExN x (.ref C) od)) ∧ excMade X.K C fI = true ∧ X.sZ.heap.get? x = none ∧ E (.ref C) od (wipe H1 x)
section
variable {X : Cx} {E : XK} {ex : Expr} {te : TE} {pos : Pos}
def ThrowsD (X : Cx) (E : XK) : Prop := ∀ (pins : List (Addr × Obj)) (σ : St) (H1 : Hp) (s1 : Shared) (x : Addr) (C : Value) (od : Option Addr), Inv X pins σ H1 s1 → H1 x = some (.ext (ExN x C od)) → X.sZ.heap.get? x = none → E C od (wipe H1 x) → X.xe (.ref x) s1
theorem throwsD_out {P : Program} {w : World} {K : PySem.W.Frag} {mg : Str → Option Value} {base : Heap} {N : List Str} {qual : Str} {scope : Scope} {f : Addr} {cd : Value} {A : Around} {outer : List Env} {s : Shared} {H : Hp} {E : XK} :
    ThrowsD (cxOf (CXD P w) P w K mg base N qual scope f cd A outer s H E) E := fun _ _ _ _ _ _ _ I hx hn hE => raise_outD I hx hn hE
theorem ps_raiseD (hc : X.calm = true) (hx : ThrowsD X E) (he : PE X ex te) : PS X (.Raise (some ex) none pos) (tRaiseD X te E) := by
  intro pins s σ H D I h
  rw [arm_exec_Raise]
  refine wpAny_bind (wpAny_standAt (xraise (I.ok.hd hc) ?_))
  refine wpAny_bind (wpAny_mono (he pins s σ H _ I h) (fun u s1 z => wpAny_bind (wpAny_standAt (wpAny_pure ?_))) fun _ _ z => z)
  obtain ⟨v, H1, I1, rv, x, C, fI, od, rfl, e1, e2, e3, e4⟩ := z
  obtain rfl : u = Value.ref x := rv
  obtain ⟨bm, N, nm, qn, bs, hdc, sn, sub, ab, col, dd, k0, k1, k2, k3, k5, mN, hC, hN, hi, tl⟩ := exc_at2 I1.kIn e2
  obtain ⟨⟨o, vs, tp, ho, hcl, hd, h0, h1, hdi⟩, _, _⟩ := I1.hok x _ e1
  exact ⟨x, o, vs, C, rfl, ⟨bm, N, nm, qn, bs, hdc, sn, sub, ab, col, dd, k0, k1, k2, k3, k5, hC, tl.hasType (by decide +kernel)⟩, ho, hcl, hd, h1, hx pins σ H1 s1 x _ od I1 e1 e3 e4⟩
end
def tMakeXD (X : Cx) (C : Addr) (sp : Sp) (t : TA) : TE := fun σ H Q => t σ H fun vs H1 => vs.length ≤ sizeLine ∧ ∀ x, H1 x = none → X.sZ.heap.get? x = none → sp (.ref x :: vs) (upd H1 x (.ext (ExN x (.ref C) none))) (fun v H2 => v = .non ∧ Q (.ref x) H2) E0
section
variable {X : Cx} {k : Nat} {C : Addr} {ps : List Str} {sp : Sp} {x : Str} {e : Expr} {es : List Expr} {t : TA} {p pos : Pos}
theorem pe_newXD (D : DfE X.prog X.w X.K X.mg X.base k C ps sp) (hr : Room (k + 1) X.A) (hm : X.mg x = some (.ref C)) (ha : PA X (e :: es) t) (hg : Gl X x := by rfl)
    (hdb : (x == ("__debug__" : Str)) = false := by decide) (he : starEach (e :: es) X.env = (false, eval e X.env) :: starEach es X.env := by rfl) (hpl : (backTo pos (starEach es X.env)).any (·.1) = false := by rfl) (hex : X.ex = [] := by rfl) :
    PE X (.Call (.Name x p) (e :: es) [] pos) (tMakeXD X C sp t) := by
  obtain ⟨f, fd, F, ⟨q1, q2, q3⟩, b, _⟩ := D
  intro pins s σ H Q I h
  refine wpAny_Call_Name_kw (ld_glob I hg hm ?_ hdb)
  refine PySem.W.callWith_K (h₀ := X.base) I.ok.mod.kin q3 (thn (ha pos pins s σ H _ I h) fun us s1 ⟨vs, H1, I1, r, q⟩ => ⟨I1.kIn, ?_⟩) he hpl
  refine run_newX (zs := us) F q1 q2 hr hex I1 (by show us.length ≤ sizeLine; rw [← r.length]; exact q.1) r (fun e s3 k3 hl => ?_) q.2
  have z := b s3 (.ref e :: us) k3 (by rw [List.append_nil]; exact hl)
  rw [List.append_nil] at z
  exact z
end
end L2
namespace L2
open PySem PySem.Spec PyProof.Rows
def Cx.tryD (X : Cx) (pins : List (Addr × Obj)) (W : St → XK) : Cx :=
  { X with pn := X.pn ++ pins, xe := fun e s' => ∃ (σ : St) (H0 H' : Hp) (s0 : Shared) (x : Addr) (C : Value) (od : Option Addr), e = .ref x ∧ Inv X pins σ H0 s0 ∧ s'.os = s0.os ∧ AllBare s'.gens ∧ Fly X.prog X.w X.stack H0 H' s0.heap s'.heap x C ∧ DictIs x od s'.heap ∧ W σ C od H' }
section
variable {X : Cx} {pins : List (Addr × Obj)} {σ : St} {H : Hp} {s : Shared} {W : St → XK}
theorem Cx.Ok.tryInD (o : X.Ok) : (X.tryD pins W).Ok := ⟨o.mod, o.kind, o.glob, o.blt, o.above, o.inj, o.has, o.cab, o.hd, o.frames, o.stk, o.exf, o.bs, o.bsz, o.noex, o.exfs, o.funs, o.frf⟩
theorem Cx.Ok.tryOutD (o : (X.tryD pins W).Ok) : X.Ok := ⟨o.mod, o.kind, o.glob, o.blt, o.above, o.inj, o.has, o.cab, o.hd, o.frames, o.stk, o.exf, o.bs, o.bsz, o.noex, o.exfs, o.funs, o.frf⟩
theorem Inv.tryInD (I : Inv X pins σ H s) : Inv (X.tryD pins W) [] σ H s := ⟨I.ok.tryInD, I.os, I.bare, I.base, I.loc, I.cell, I.free, I.freeC, fun p hp => I.pin p (by rw [List.append_nil] at hp; exact hp), I.hok, I.len⟩
theorem Inv.tryOutD {pins' : List (Addr × Obj)} (I : Inv (X.tryD pins W) pins' σ H s) : Inv X pins σ H s := ⟨I.ok.tryOutD, I.os, I.bare, I.base, I.loc, I.cell, I.free, I.freeC, fun p hp => I.pin p (List.mem_append_left _ hp), I.hok, I.len⟩
theorem passSD : PassesS (CXD X.prog X.w) (X.tryD pins W) W := fun _ σ H s _ _ I ⟨x, C, od, H', q, os, bare, F, di, hE⟩ => ⟨σ, H, H', s, x, C, od, q, I.tryOutD, os, bare, F, di, hE⟩
end
theorem kn_exA {X : Cx} {pins : List (Addr × Obj)} {σ : St} {H : Hp} {s : Shared} {x : Addr} {C : Value} {od : Option Addr} (I : Inv X pins σ (upd H x (.ext (ExAt x C))) s) (e : ExA x C od s.heap) : Inv X pins σ (upd H x (.ext (ExA x C od))) s := by
  obtain ⟨o, vs, ho, r⟩ := id e
  have z := I.write (x := x) (e := x) (o := .ext (ExA x C od)) (h' := s.heap) (t' := s.toks) (by rw [upd_same]; trivial) (.inl rfl) (fun b u _ q => q) ⟨o, ho⟩ (exA_ok e)
  rw [upd_upd] at z
  exact z
section
variable {X : Cx} {CX : CXT} {k : Nat} {f C : Addr} {fd : FuncData} {ps : List Str} {sp : Sp} {dvs : List V} {ds : List Value} {E : XK} {W : St → XK} {x m : Str} {p pos apos : Pos} {e o : Expr} {es : List Expr} {ta : TE} {t : TA}
theorem pe_dfSD (D : DfXD X.prog X.w X.K X.mg X.base k x ps sp) (hr : Room k X.A) (hx : PassesS (CXD X.prog X.w) X W) (ha : PA X (e :: es) t) (hg : Gl X x := by rfl)
    (hdb : (x == ("__debug__" : Str)) = false := by decide) (he : starEach (e :: es) X.env = (false, eval e X.env) :: starEach es X.env := by rfl) (hpl : (backTo pos (starEach es X.env)).any (·.1) = false := by rfl) :
    PE X (.Call (.Name x p) (e :: es) [] pos) (tCallS sp [] W t) := by
  obtain ⟨f, fd, F, m, kp, b⟩ := D
  intro pins s σ H Q I h
  refine wpAny_Call_Name_kw (ld_glob I hg m ?_ hdb)
  refine PySem.W.callWith_K (h₀ := X.base) I.ok.mod.kin kp (thn (ha pos pins s σ H _ I h) fun us s1 ⟨vs, H1, I1, r, q⟩ => ⟨I1.kIn, ?_⟩) he hpl
  exact run_fnS F hr b .nil (fun e s' z => hx pins σ H1 s1 e s' I1 z) I1 r q
end
def wTryD (K : PySem.W.Frag) (Wc : Addr) (ie : Nat) (th : TS) (D : Ends) : St → XK := fun σ C od H => PySem.W.exmOne K C (.ref Wc) = some true ∧
  ∀ x, H x = none → th { nx := fun σ2 H2 => D.nx (σ2.set ie none) H2, rt := D.rt, bk := fun σ2 H2 => D.bk (σ2.set ie none) H2, ct := fun σ2 H2 => D.ct (σ2.set ie none) H2 } (σ.set ie (some (.ref x))) (upd H x (.ext (ExA x C od)))
def tTryAsD (K : PySem.W.Frag) (Wc : Addr) (ie : Nat) (t : (St → XK) → TS) (th : TS) : TS := fun D σ H => t (wTryD K Wc ie th D) D σ H
section
variable {X : Cx} {K : PySem.W.Frag} {Wc : Addr} {wn n : Str} {ie : Nat} {body suite : List Stmt} {b0 : Stmt} {t : (St → XK) → TS} {th : TS} {np hp pos : Pos}
theorem ps_tryAsD (hK : X.K = K) (hex : X.ex = []) (hst : X.stack = X.env :: X.outer) (hfr : X.env.frame = some X.env.locals) (hN : X.N.Nodup) (hi : X.N[ie]? = some n) (hk : X.env.kindOf n = some .local) (hm : X.mg wn = some (.ref Wc))
    (hb : ∀ pins W, PSs (X.tryD pins W) body (t W)) (hh : ∀ v, PSs (X.markX v) (b0 :: suite) th) (hg : Gl X wn := by rfl) (hd : (wn == ("__debug__" : Str)) = false := by decide) :
    PS X (.Try body [.ExceptHandler (some (.Name wn np)) (some n) (b0 :: suite) hp] [] [] pos) (tTryAsD K Wc ie t th) := by
  subst hK
  intro pins s σ H D I h
  refine wpAny_Try_except (wpAny_mono (hb pins _ [] s σ H D I.tryInD h) (fun f s1 q => ?_) fun e s1 q => ?_)
  · cases f with
    | next =>
      obtain ⟨σ', H', I', q⟩ := q
      exact wpAny_execs_nil ⟨σ', H', I'.tryOutD, q⟩
    | brk => obtain ⟨σ', H', I', q⟩ := q; exact ⟨σ', H', I'.tryOutD, q⟩
    | cont => obtain ⟨σ', H', I', q⟩ := q; exact ⟨σ', H', I'.tryOutD, q⟩
    | ret u => obtain ⟨v, σ', H', I', q⟩ := q; exact ⟨v, σ', H', I'.tryOutD, q⟩
  · obtain ⟨σ', H0, H', s0, x, C, od, rfl, I0, os, bare, ⟨B, arg, b, fl, fr⟩, di, hm1, hW⟩ := q
    have frames : X.A.frames = some (X.env :: X.outer) := by rw [← hst]; exact I0.ok.frames
    have go1 := wpAny_looks_onW (M := model X.prog X.w) (A := X.A) (E := fun _ _ => False) (s := s1) (base := B) (Q := fun _ s' => ∃ h', s' = { s1 with heap := h' } ∧ Heap.HeldW B (X.env :: X.outer) x C arg X.env.locals h' ∧ s1.heap.UpToSlots h') frames hfr (by rw [← hst]; exact fl) fun h' u v => ⟨h', rfl, u, v⟩
    refine wpAny_mono (wpAny_KD x (kd_noteFrame _ _) go1) (fun _ s' z => ?_) fun _ _ z => z.1.elim
    obtain ⟨⟨h1, rfl, held, up1⟩, dk1⟩ := z
    have go2 := wpAny_landsW (M := model X.prog X.w) (A := X.A) (E := fun _ _ => False) (s := { s1 with heap := h1 }) (Q := fun _ s' => ∃ h', s' = { s1 with heap := h' } ∧ Heap.FlyingW B (X.env :: X.outer) x C arg h' ∧ h1.UpToSlots h') held fun h' u v => ⟨h', rfl, u, v⟩
    refine wpAny_mono (wpAny_KD x (kd_setFlight _ _) go2) (fun _ s' z => ?_) fun _ _ z => z.1.elim
    obtain ⟨⟨h2, rfl, fl2, up2⟩, dk2⟩ := z
    rw [← hst] at fl2
    obtain ⟨I2, hn⟩ := caught (s1 := s1) (h := h2) I0 hex os bare b fl fr fl2 (up1.trans up2)
    refine wpAny_handleBy_cons (s := { s1 with heap := h2 }) (codeAny_handlers_test ?_) (by intro z; cases z)
    refine Calls.Name_function_global I2.ok.kind hg (Calls.loadGlobal_global (by rw [I2.ok.glob]; exact I2.mod.glob.keeps I2.bk) hm ?_) hd
    have L : PySem.W.Looks (model X.prog X.w) h2 (excMatches (.ref x) (.ref Wc)) true := PySem.W.exm_one I2.kIn (exAt_ty fl2.there) hm1
    refine L.at ?_
    refine codeAny_handlers_suite_as (s := { s1 with heap := h2 }) ?_
    have go3 := lands_againW (M := model X.prog X.w) (A := X.A.mark (some (.ref x))) (E := fun _ _ => False) (s := { s1 with heap := h2 }) (Q := fun _ s' => ∃ h', s' = { s1 with heap := h' } ∧ Heap.FlyingW B X.stack x C arg h' ∧ h2.UpToSlots h') fl2 fun h' u v => ⟨h', rfl, u, v⟩
    refine wpAny_mono (wpAny_KD x (kd_setFlight _ _) go3) (fun _ s' z => ?_) fun _ _ z => z.1.elim
    obtain ⟨⟨h3, rfl, fl3, up3⟩, dk3⟩ := z
    obtain ⟨I3', _⟩ := caught (s1 := s1) (h := h3) I0 hex os bare b fl fr fl3 ((up1.trans up2).trans up3)
    obtain ⟨oe, ws, T, oT, ts, he, ⟨hcls, _⟩, hd3, _⟩ := fl3.2.2.2
    obtain ⟨oe', he', hde⟩ := di.dk ((dk1.trans dk2).trans dk3) he
    rw [he] at he'
    cases he'
    have I3 := kn_exA I3' ⟨oe, ws, he, hcls, hd3, hde⟩
    refine store_ok (s := { s1 with heap := h3 }) I3 hN hi (.inl hk) (v := .ref x) rfl (fun s4 I4 => ?_) (.inr hk)
    refine wpAny_mono (hh (.ref x) pins s4 _ _ _ I4.markIn (hW x hn)) (fun f s5 q => ?_) fun e' s5 q => q.elim
    cases f with
    | next => obtain ⟨σ5, H5, I5, q⟩ := q; exact gone_ok (I5.markOut I0.ok) hN hi hk fun s6 I6 => ⟨_, H5, I6, q⟩
    | brk => obtain ⟨σ5, H5, I5, q⟩ := q; exact gone_ok (I5.markOut I0.ok) hN hi hk fun s6 I6 => ⟨_, H5, I6, q⟩
    | cont => obtain ⟨σ5, H5, I5, q⟩ := q; exact gone_ok (I5.markOut I0.ok) hN hi hk fun s6 I6 => ⟨_, H5, I6, q⟩
    | ret u => obtain ⟨v, σ5, H5, I5, r, q⟩ := q; exact gone_ok (I5.markOut I0.ok) hN hi hk fun s6 I6 => ⟨v, _, H5, I6, r, q⟩
end
section
variable {X : Cx} {K : PySem.W.Frag}
theorem call_isinstD (h : X.K = K) : CallR X (.builtin "isinstance") (fun xs H Q => ∃ (x D : Addr) (c : V) (b : Bool) (φ : Heap → Prop), xs = [.ref x, c] ∧ H x = some (.ext φ) ∧ (∀ h, φ h → ExAt x (.ref D) h) ∧ excKit K D = true ∧
    ((isCls c = true ∧ PySem.W.kitOne K (.ref D) (cV c) = some b) ∨ ∃ p cs, c = .ref p ∧ H p = some (.tup cs) ∧ cs.all isCls = true ∧ PySem.W.kitAny K (.ref D) (cs.map cV) = some b) ∧ Q (.bl b) H) := by
  subst h
  intro pins s σ H xs us Q I r ⟨x, D, c, b, φ, e, hx, hφ, kit, how, q⟩
  subst e
  obtain ⟨u, v, rfl, r1, r2⟩ := r.two
  obtain rfl : u = Value.ref x := r1
  have p : ExAt x (.ref D) s.heap := hφ _ (I.hok x _ hx).1
  rcases how with ⟨hc, hb⟩ | ⟨p', cs, rfl, hp, hall, hb⟩
  · rw [cV_of r2 hc]
    exact PySem.W.kia_one (kitx_exc kit) I.kIn p hb (by intro z; cases z) fun tk => ⟨.bl b, H, I.tok _, rfl, q⟩
  · obtain rfl : v = Value.ref p' := r2
    obtain ⟨_, its, rv, o, ho, hcl, n, hd⟩ := I.hok p' _ hp
    obtain ⟨oc, od, odt, osl⟩ := o
    have e1 : oc = .type "tuple" := hcl
    have e2 : odt = .seq its.toArray n := hd
    subst e1 e2
    have e3 := cV_all rv hall
    subst e3
    exact PySem.W.kia_tup (kitx_exc kit) I.kIn p ho hb (by intro z; cases z) fun tk => ⟨.bl b, H, I.tok _, rfl, q⟩
end
theorem PS.nox {X : Cx} {st : Stmt} {t : TS} (h : PS X.nox st t) : PS X st t := fun pins s σ H D I q =>
  wpAny_mono (h pins s σ H D (I.wish _) q) (fun _ _ z => z.unwish) fun _ _ z => z.elim
end L2
namespace L2
open PySem PySem.Spec PyProof.Rows
theorem kit_of_exm {K : PySem.W.Frag} {t c : Value} (h : PySem.W.exmOne K t c = some true) : PySem.W.kitOne K t c = some true := by
  unfold PySem.W.exmOne at h
  unfold PySem.W.kitOne
  split at h
  · split
    · rfl
    · exact h
  · cases h
end L2
namespace L2
open PySem PySem.Spec PyProof.Rows
theorem runs_toks {M : Model} {Γ : PySem.Ctx} {p : Pos} {t : Sem Fin} {fs : List PySem.Frame} {s s' : Shared} {e : PySem.End} (h : PySem.Runs M Γ p t fs s e s') : s.toks ≤ s'.toks := by
  induction h with
  | done => exact Nat.le_refl _
  | raise => exact Nat.le_refl _
  | «yield» => exact Nat.le_refl _
  | fresh _ ih => exact Nat.le_trans (Nat.le_succ _) ih
  | call _ _ a b => exact Nat.le_trans a b
  | callSusp _ a => exact a
  | resumeFresh _ _ _ _ a b => exact Nat.le_trans a b
  | resumeSuspended _ _ _ _ a b => exact Nat.le_trans a b
  | segRet _ _ a b => exact Nat.le_trans a b
  | segGen _ _ a b => exact Nat.le_trans a b
  | segSuspOut _ _ a => exact a
  | segSuspGen _ _ _ _ a b => exact Nat.le_trans a b
  | _ => assumption
theorem wakes_toks {M : Model} {Γ : PySem.Ctx} {p : Pos} {g : Nat} {r : Resume} {s s' : Shared} {res : GenResult} (h : PySem.Wakes M Γ p g r s res s') : s.toks ≤ s'.toks := by
  unfold PySem.Wakes at h
  split at h
  · exact h.elim
  · split at h
    · obtain ⟨e, s1, h1, _, _, rfl⟩ := h
      have := runs_toks h1
      exact this
    · obtain ⟨_, rfl⟩ := h; exact Nat.le_refl _
    · obtain ⟨_, rfl⟩ := h; exact Nat.le_refl _
  · obtain ⟨e, s1, h1, _, _, rfl⟩ := h
    have := runs_toks h1
    exact this
  · obtain ⟨_, rfl⟩ := h; exact Nat.le_refl _
  · obtain ⟨_, rfl⟩ := h; exact Nat.le_refl _
theorem wp_toks {α : Type} {M : Model} {Γ : PySem.Ctx} : ∀ (t : Sem α) {Q : α → Pos → Shared → Prop} {E : Value → Pos → Shared → Prop} {p : Pos} {s : Shared} (n : Nat), n ≤ s.toks → Sem.wp M Γ t Q E p s →
    Sem.wp M Γ t (fun a p' s' => n ≤ s'.toks ∧ Q a p' s') E p s := by
  intro t
  induction t with
  | pure a => intro Q E p s n l h; exact ⟨l, h⟩
  | raise e => intro Q E p s n l h; exact h
  | unsupported w => intro Q E p s n l h; exact h
  | finish e => intro Q E p s n l h; exact h
  | rule tag k ih => intro Q E p s n l h; exact ih () n l h
  | «at» p' k ih => intro Q E p s n l h; exact ih () n l h
  | point q k ih => intro Q E p s n l h; exact ih () n l h
  | load a part k ih =>
    intro Q E p s n l h
    obtain ⟨o, ho, hw⟩ := h
    exact ⟨o, ho, ih o n l hw⟩
  | update a part f k ih =>
    intro Q E p s n l h
    obtain ⟨ho, hw⟩ := h
    exact ⟨ho, ih () n l hw⟩
  | loadIfAlive a k ih => intro Q E p s n l h; exact ih _ n l h
  | alloc o k ih => intro Q E p s n l h; exact ih _ n l h
  | fresh k ih => intro Q E p s n l h; exact ih _ n (Nat.le_succ_of_le l) h
  | ask k ih => intro Q E p s n l h; exact ih _ n l h
  | handled own k ih => intro Q E p s n l h; exact ih _ n l h
  | stack k ih => intro Q E p s n l h; exact ih _ n l h
  | thread k ih => intro Q E p s n l h; exact ih _ n l h
  | choose src m k ih =>
    intro Q E p s n l h
    exact ⟨h.1, ih _ n l h.2⟩
  | os q x k ih => intro Q E p s n l h; exact ih _ n l h
  | call c hd g x k ih =>
    intro Q E p s n l h
    obtain ⟨r, s1, hr, hw⟩ := h
    exact ⟨r, s1, hr, ih _ n (Nat.le_trans l (runs_toks hr)) hw⟩
  | genState g k ih =>
    intro Q E p s n l h
    obtain ⟨st, h1, h2⟩ := h
    exact ⟨st, h1, ih _ n l h2⟩
  | newGen c k ih => intro Q E p s n l h; exact ih _ n l h
  | resume g r x k ih =>
    intro Q E p s n l h
    obtain ⟨res, s1, hr, hw⟩ := h
    exact ⟨res, s1, hr, ih _ n (Nat.le_trans l (wakes_toks hr)) hw⟩
  | _ => intro Q E p s n l h; exact h.elim
theorem wpAny_toks {α : Type} {M : Model} {A : Around} {t : Sem α} {Q : α → Shared → Prop} {E : Value → Shared → Prop} {s : Shared} {n : Nat} (l : n ≤ s.toks) (h : wpAny M A t Q E s) :
    wpAny M A t (fun a s' => n ≤ s'.toks ∧ Q a s') E s := fun Γ p hΓ => wp_toks t n l (h Γ p hΓ)
end L2
namespace L2
open PySem PySem.Spec PyProof.Rows Builtin Builtin.Str
theorem nb_of {X : Cx} {pins : List (Addr × Obj)} {σ : St} {H : Hp} {s : Shared} (I : Inv X pins σ H s) (e : PySem.W.nsIn X.K cStatics sharingNotToldKey = some none) : NoneBooked s.heap := by
  obtain ⟨mc, hn, _⟩ := I.nolimit
  refine ⟨mc, hn, ?_⟩
  obtain ⟨o, es, ep, ho, hd, _, hf⟩ := hn
  unfold PySem.W.nsIn at e
  split at e
  · rename_i c d es' n' sl q
    have := I.kIn _ _ q
    rw [ho] at this
    cases this
    cases hd
    split at e
    · cases e
    · rename_i he
      rw [← hf]
      unfold nsFind findBy
      rw [← Array.find?_toList, he]
      rfl
  · cases e
theorem glued_asc {z : Str} {ps : List Str} (hz : Asc z) (hp : ∀ p ∈ ps, Asc p) : Asc (glued z ps) := by
  unfold glued
  have key : ∀ (l : List Str) (acc : Array Nat), (∀ c ∈ acc.toList, c < 128) → (∀ p ∈ l, Asc p) → ∀ c ∈ (l.foldl (fun acc p => acc ++ z.cps ++ p.cps) acc).toList, c < 128 := by
    intro l
    induction l with
    | nil => intro acc h _; exact h
    | cons p l ih =>
      intro acc h hl
      refine ih _ (fun c hc => ?_) fun q hq => hl q (List.mem_cons_of_mem _ hq)
      rw [Array.toList_append, Array.toList_append, List.mem_append, List.mem_append] at hc
      rcases hc with (hc | hc) | hc
      · exact h c hc
      · exact hz c hc
      · exact hl p (List.mem_cons_self ..) c hc
  refine key _ _ ?_ fun p h => hp p (List.mem_of_mem_drop h)
  cases ps with
  | nil => intro c hc; exact absurd hc (by simp [Str.empty])
  | cons p ps => exact hp p (List.mem_cons_self ..)
theorem sub_asc {x : Str} (hx : Asc x) (i j : Nat) : Asc (strSub x i j) := by
  intro c hc
  refine hx c ?_
  unfold strSub at hc
  rw [Array.toList_extract] at hc
  exact List.mem_of_mem_drop (List.mem_of_mem_take hc)
theorem repl_asc {x z : Str} (hx : Asc x) (hz : Asc z) (cuts : List Nat) (w : Nat) : Asc (glued z (partsBetween x cuts w)) := by
  refine glued_asc hz fun p hp => ?_
  unfold partsBetween at hp
  obtain ⟨q, _, rfl⟩ := List.mem_map.mp hp
  exact sub_asc hx _ _
theorem repl_len (x y z : Str) (n : Nat) : (glued z (partsBetween x (occurrences x y 0 x.length n) y.length)).length ≤ x.length + n * z.length := by
  have h1 := StrLaws.occ_length_le x y 0 x.length n
  have hy : (glued y (partsBetween x (occurrences x y 0 x.length n) y.length)).length = x.length := by rw [StrLaws.glued_between_self]
  rw [size_glued, length_partsBetween, Nat.add_sub_cancel] at hy
  rw [size_glued, length_partsBetween, Nat.add_sub_cancel]
  have h2 : (occurrences x y 0 x.length n).length * z.length ≤ n * z.length := Nat.mul_le_mul_right _ h1
  omega
def ReplOk (x z : Str) (n : Nat) (r : Str) : Prop := (Asc x → Asc z → Asc r) ∧ r.length ≤ x.length + n * z.length
theorem gives_repl (x y z : Str) (t u v : Tok) (n : Nat) (hu : u ≠ 0) (hv : v ≠ 0) (hl : x.length + n * z.length ≤ 16777216) (B : Sem Fin)
    (hB : B = (if ((occurrences x y 0 x.length n).isEmpty || (y.length == 0 && z.length == 0)) = true then (do rule "str.replace.nothing"; ret (.str x t)) else
          (do let same ← isSame (.str y u) (.str z v)
              if same = true then (do rule "str.replace.old-is-new"; ret (.str x t)) else
              if tooLong (x.length + (occurrences x y 0 x.length n).length * z.length) = true then unsupported "str.replace:memory" else
              retStr (glued z (partsBetween x (occurrences x y 0 x.length n) y.length))))) :
    GivesAt (fun s => NoneBooked s.heap) B (.either (.val (.str x t)) (.str (glued z (partsBetween x (occurrences x y 0 x.length n) y.length)))) := by
  subst hB
  have hl2 : tooLong (x.length + (occurrences x y 0 x.length n).length * z.length) = false := by
    have h1 := StrLaws.occ_length_le x y 0 x.length n
    have h2 : (occurrences x y 0 x.length n).length * z.length ≤ n * z.length := Nat.mul_le_mul_right _ h1
    unfold tooLong sizeLine
    exact decide_eq_false (by omega)
  intro prog w A R s hb hq
  cases hc : ((occurrences x y 0 x.length n).isEmpty || (y.length == 0 && z.length == 0))
  · rw [if_neg Bool.false_ne_true]
    refine wpAny_bind (wpAny_isSame_str (by simp [hu, hv]) hb fun b => ?_)
    cases b
    · rw [if_neg Bool.false_ne_true, hl2, if_neg Bool.false_ne_true]
      exact wpAny_bind (wpAny_mkStr (wpAny_pure hq.2.2) hq.2.1)
    · exact wpAny_bind (wpAny_rule (wpAny_pure hq.1))
  · rw [if_pos rfl]
    exact wpAny_bind (wpAny_rule (wpAny_pure hq.1))
def rRepl : V → List V → Hp → VK → Prop := fun x vs H Q => ∃ a b c : Str, x = .str a ∧ a.length + (a.length + 1) * c.length ≤ 16777216 ∧
  ((vs = [.byt b, .byt c] ∧ ∀ r, ReplOk a c (a.length + 1) r → Q (.str r) H) ∨ (vs = [.byt b, .byt c, .int 1] ∧ ∀ r, ReplOk a c 1 r → Q (.str r) H))
theorem mt_replace {X : Cx} (nb : PySem.W.nsIn X.K cStatics sharingNotToldKey = some none) : MtM X "str.replace" rRepl := by
  intro pins s σ H x vs v us Q I rx rv h
  obtain ⟨a, b, c, rfl, hl, h⟩ := h
  obtain ⟨t, rfl⟩ := rx
  rcases h with ⟨rfl, q⟩ | ⟨rfl, q⟩
  · cases rv with
    | cons r1 r2 =>
      obtain ⟨tb, rfl⟩ := r1
      cases r2 with
      | cons r3 r4 =>
        obtain ⟨tc, rfl⟩ := r3
        cases r4
        refine call_givesAt F.slot_str_replace (typeIs_str _ _ _) F.entry_str_replace (F.args_str_replace_3 _ _ _) (gives_repl a b c t (tb + 1) (tc + 1) (a.length + 1) (Nat.succ_ne_zero _) (Nat.succ_ne_zero _) hl _ rfl) (nb_of I nb) ?_
        refine ⟨⟨.str a, H, I, ⟨_, rfl⟩, q a ⟨fun h _ => h, Nat.le_add_right _ _⟩⟩, ?_, ⟨.str _, H, I.tok _, ⟨_, rfl⟩, q _ ⟨fun h1 h2 => repl_asc h1 h2 _ _, repl_len a b c _⟩⟩⟩
        have := repl_len a b c (a.length + 1)
        rw [sizeLine_eq]
        omega
  · cases rv with
    | cons r1 r2 =>
      obtain ⟨tb, rfl⟩ := r1
      cases r2 with
      | cons r3 r4 =>
        obtain ⟨tc, rfl⟩ := r3
        cases r4 with
        | cons r5 r6 =>
          obtain ⟨td, rfl⟩ := r5
          cases r6
          have hl1 : a.length + 1 * c.length ≤ 16777216 := Nat.le_trans (Nat.add_le_add_left (Nat.mul_le_mul_right _ (by omega)) _) hl
          refine call_givesAt F.slot_str_replace (typeIs_str _ _ _) F.entry_str_replace (F.args_str_replace_4 _ _ _ _) (gives_repl a b c t (tb + 1) (tc + 1) 1 (Nat.succ_ne_zero _) (Nat.succ_ne_zero _) hl1 _ rfl) (nb_of I nb) ?_
          refine ⟨⟨.str a, H, I, ⟨_, rfl⟩, q a ⟨fun h _ => h, Nat.le_add_right _ _⟩⟩, ?_, ⟨.str _, H, I.tok _, ⟨_, rfl⟩, q _ ⟨fun h1 h2 => repl_asc h1 h2 _ _, repl_len a b c _⟩⟩⟩
          have := repl_len a b c 1
          rw [sizeLine_eq]
          omega
def PEp (X : Cx) (e : Expr) (t : TE) : Prop :=
  ∀ (pins : List (Addr × Obj)) (s : Shared) (σ : St) (H : Hp) (Q : VK), Inv X pins σ H s → t σ H Q → wpAny (model X.prog X.w) X.A (eval e X.env) (fun u s' => 1 ≤ s'.toks ∧ EP X pins σ Q u s') X.xe s
def PEk (X : Cx) (e : Expr) (t : TE) : Prop :=
  ∀ (pins : List (Addr × Obj)) (s : Shared) (σ : St) (H : Hp) (Q : VK), Inv X pins σ H s → 1 ≤ s.toks → t σ H Q → wpAny (model X.prog X.w) X.A (eval e X.env) (fun u s' => 1 ≤ s'.toks ∧ EP X pins σ Q u s') X.xe s
def PAp (X : Cx) (es : List Expr) (t : TA) : Prop :=
  ∀ (pos : Pos) (pins : List (Addr × Obj)) (s : Shared) (σ : St) (H : Hp) (Q : List V → Hp → Prop), Inv X pins σ H s → t σ H Q → wpAny (model X.prog X.w) X.A (spliced (backTo pos (starEach es X.env))) (fun us s' => 1 ≤ s'.toks ∧ AP X pins σ Q us s') X.xe s
def PAk (X : Cx) (es : List Expr) (t : TA) : Prop :=
  ∀ (pos : Pos) (pins : List (Addr × Obj)) (s : Shared) (σ : St) (H : Hp) (Q : List V → Hp → Prop), Inv X pins σ H s → 1 ≤ s.toks → t σ H Q → wpAny (model X.prog X.w) X.A (spliced (backTo pos (starEach es X.env))) (fun us s' => 1 ≤ s'.toks ∧ AP X pins σ Q us s') X.xe s
section
variable {X : Cx} {e a b : Expr} {es : List Expr} {te ta tb : TE} {t : TA} {pos : Pos}
theorem PE.k (h : PE X e te) : PEk X e te := fun pins s σ H Q I l q => wpAny_toks l (h pins s σ H Q I q)
theorem PA.k (h : PA X es t) : PAk X es t := fun pos pins s σ H Q I l q => wpAny_toks l (h pos pins s σ H Q I q)
theorem pek_str {x : Str} {j : Nat} : PEk X (.Constant (.str x) j pos) (tC (.byt x)) := fun pins s σ H Q I l h => by
  refine Calls.Constant_str ⟨Nat.le_add_left 1 _, .byt x, H, I.tok _, ⟨s.toks - 1, ?_⟩, h⟩
  rw [Nat.sub_add_cancel l]
theorem pep_str {x : Str} {j : Nat} : PEp X (.Constant (.str x) j pos) (tC (.str x)) := fun pins s σ H Q I h =>
  Calls.Constant_str ⟨Nat.le_add_left 1 _, .str x, H, I.tok _, ⟨_, rfl⟩, h⟩
theorem pap_cons (ha : PEp X e te) (hr : PAk X es t) (hs : starEach (e :: es) X.env = (false, eval e X.env) :: starEach es X.env := by rfl) : PAp X (e :: es) (tCons te t) := by
  intro pos pins s σ H Q I h
  rw [hs]
  show wpAny _ _ (spliced ((false, eval e X.env) :: backTo pos (starEach es X.env))) _ _ s
  refine Calls.spliced_cons (thn (ha pins s σ H _ I h) fun u s1 ⟨l1, x, H1, I1, r1, q1⟩ => ?_)
  exact thn (hr pos pins s1 σ H1 _ I1 l1 q1) fun us s2 ⟨l2, xs, H2, I2, r2, q2⟩ => ⟨l2, x :: xs, H2, I2, .cons r1 r2, q2⟩
theorem pak_cons (ha : PEk X e te) (hr : PAk X es t) (hs : starEach (e :: es) X.env = (false, eval e X.env) :: starEach es X.env := by rfl) : PAk X (e :: es) (tCons te t) := by
  intro pos pins s σ H Q I l h
  rw [hs]
  show wpAny _ _ (spliced ((false, eval e X.env) :: backTo pos (starEach es X.env))) _ _ s
  refine Calls.spliced_cons (thn (ha pins s σ H _ I l h) fun u s1 ⟨l1, x, H1, I1, r1, q1⟩ => ?_)
  exact thn (hr pos pins s1 σ H1 _ I1 l1 q1) fun us s2 ⟨l2, xs, H2, I2, r2, q2⟩ => ⟨l2, x :: xs, H2, I2, .cons r1 r2, q2⟩
theorem pep_op {op : Operator} {r : R2} (ho : OpR X (binaryOp op) r) (ha : PEp X a ta) (hb : PE X b tb) : PEp X (.BinOp a op b pos) (tOp r ta tb) := by
  intro pins s σ H Q I h
  refine wpAny_BinOp (thn (ha pins s σ H _ I h) fun v s1 ⟨l1, x, H1, I1, r1, q1⟩ => ?_)
  refine thn (wpAny_toks l1 (hb pins s1 σ H1 _ I1 q1)) fun u s2 ⟨l2, y, H2, I2, r2, q2⟩ => ?_
  exact wpAny_toks l2 (ho pins s2 σ H2 x y v u Q I2 r1 r2 q2)
theorem pep_op2 {op : Operator} {r : R2} (ho : OpR X (binaryOp op) r) (ha : PE X a ta) (hb : PEp X b tb) : PEp X (.BinOp a op b pos) (tOp r ta tb) := by
  intro pins s σ H Q I h
  refine wpAny_BinOp (thn (ha pins s σ H _ I h) fun v s1 ⟨x, H1, I1, r1, q1⟩ => ?_)
  refine thn (hb pins s1 σ H1 _ I1 q1) fun u s2 ⟨l2, y, H2, I2, r2, q2⟩ => ?_
  exact wpAny_toks l2 (ho pins s2 σ H2 x y v u Q I2 r1 r2 q2)
theorem pep_lst (h : PAp X es t) : PEp X (.List es pos) (tLst t) := by
  intro pins s σ H Q I hq
  refine wpAny_List_spliced (thn (h pos pins s σ H _ I hq) fun us s1 ⟨l1, xs, H1, I1, r, z, q⟩ => ⟨by rw [← r.length]; exact z, ?_⟩)
  have hf : H1 s1.heap.objs.size = none := I1.hok.fresh (Nat.le_refl _)
  exact ⟨l1, .ref s1.heap.objs.size, upd H1 s1.heap.objs.size (.lst xs), I1.laid (t' := s1.toks) (fun b u e => Heap.get?_push_of_some _ e) (Nat.le_refl _) ⟨z, us, 0, r, Heap.get?_push_size _ rfl⟩, rfl, q _ hf⟩
theorem pek_lst (h : PAk X es t) : PEk X (.List es pos) (tLst t) := by
  intro pins s σ H Q I l hq
  refine wpAny_List_spliced (thn (h pos pins s σ H _ I l hq) fun us s1 ⟨l1, xs, H1, I1, r, z, q⟩ => ⟨by rw [← r.length]; exact z, ?_⟩)
  have hf : H1 s1.heap.objs.size = none := I1.hok.fresh (Nat.le_refl _)
  exact ⟨l1, .ref s1.heap.objs.size, upd H1 s1.heap.objs.size (.lst xs), I1.laid (t' := s1.toks) (fun b u e => Heap.get?_push_of_some _ e) (Nat.le_refl _) ⟨z, us, 0, r, Heap.get?_push_size _ rfl⟩, rfl, q _ hf⟩
theorem pek_bm {o : Expr} {to : TE} {name : Str} {apos cpos : Pos} {T id : String} {r : V → List V → Hp → VK → Prop} (pa : PlainAttrs T) (slot : Slot T name id) (hty : typeOf (.builtin id) = pure (.type "method_descriptor")) (hm : MtM X id r) (ho : PE X o to) (ha : PAk X (e :: es) t)
    (hbase : attributeBase o name X.env (eval o X.env) = eval o X.env := by rfl)
    (hfew : ((backTo cpos (starEach (e :: es) X.env)).all (fun x => !x.1) && (backToKw cpos (keywordEach [] X.env)).all (fun x => x.1.isSome)
      && decide ((e :: es).length + ([] : List Keyword).length + (if ([] : List Keyword).isEmpty then 0 else 1) < 30)) = true := by rfl)
    (hline : (apos.endLine == cpos.line) = true := by rfl) (hs : starEach (e :: es) X.env = (false, eval e X.env) :: starEach es X.env := by rfl) (hplain : (backTo cpos (starEach es X.env)).any (·.1) = false := by rfl) :
    PEk X (.Call (.Attribute o name apos) (e :: es) [] cpos) (tBM X.K T r to t) := by
  intro pins s σ H Q I l h
  refine wpAny_Call_method_late hbase hfew hline rfl (thn (wpAny_toks l (ho pins s σ H _ I h)) fun v s1 ⟨l1, x, H1, I1, r1, ty, q1⟩ => ?_)
  obtain ⟨h1, h2⟩ := tyV_is I1 r1 ty
  refine ⟨T, id, pa, slot, hty, h1, h2, ?_⟩
  have hA := ha cpos pins s1 σ H1 _ I1 l1 q1
  rw [hs] at hA ⊢
  refine Calls.callWith_builtin (by show (false || (backTo cpos (starEach es X.env)).any (·.1)) = false; rw [hplain] <;> rfl) (Calls.evalArgs_plain ?_)
  exact thn hA fun us s2 ⟨l2, vs, H2, I2, r2, q2⟩ => wpAny_toks l2 (hm pins s2 σ H2 x vs v us Q I2 r1 r2 q2)
theorem pek_item (ha : PE X a ta) (hb : PE X b tb) (hs : PlainIxT b) :
    PEk X (.Subscript a b pos) (tOp (fun x y H Q => ∃ z i c, x = .str z ∧ y = .int i ∧ 0 ≤ i ∧ i < 2 ^ 63 ∧ i < z.length ∧ z.cps[i.toNat]? = some c ∧ Q (.byt ⟨#[c]⟩) H) ta tb) := by
  intro pins s σ H Q I l h
  refine Subscript_ (thn (wpAny_toks l (ha pins s σ H _ I h)) fun v s1 ⟨l1, x, H1, I1, rx, q1⟩ => ?_)
  refine thn (wpAny_toks l1 (hb pins s1 σ H1 _ I1 q1)) fun u s2 ⟨l2, y, H2, I2, ry, q⟩ => ?_
  obtain ⟨z, i, c, rfl, rfl, h0, h63, h1, hc, q⟩ := q
  obtain ⟨t, rfl⟩ := rx
  obtain ⟨t', rfl⟩ := ry
  have e : seqIndex? i z.length = some i.toNat := PySem.StrLaws.seqIndex_nonneg h0 h1
  refine tail_any (typeIs_str s2 z t) slot_str_getitem.lookup (getItem_str (c := c) (by
    have e1 : decide (i < -(2 ^ 63 : Int)) = false := decide_eq_false (by omega)
    have e2 : decide (i ≥ 2 ^ 63) = false := decide_eq_false (by omega)
    rw [e1, e2] <;> rfl) (by rw [e]; exact hc) ⟨Nat.le_add_left 1 _, .byt ⟨#[c]⟩, H2, I2.tok _, ⟨s2.toks - 1, ?_⟩, q⟩) (hs _ _)
  rw [Nat.sub_add_cancel l2]
def PSp (X : Cx) (st : Stmt) (t : TS) : Prop :=
  ∀ (pins : List (Addr × Obj)) (s : Shared) (σ : St) (H : Hp) (D : Ends), Inv X pins σ H s → t D σ H → wpAny (model X.prog X.w) X.A (exec st X.env) (fun f s' => 1 ≤ s'.toks ∧ SP X pins D f s') X.xe s
def PSk (X : Cx) (st : Stmt) (t : TS) : Prop :=
  ∀ (pins : List (Addr × Obj)) (s : Shared) (σ : St) (H : Hp) (D : Ends), Inv X pins σ H s → 1 ≤ s.toks → t D σ H → wpAny (model X.prog X.w) X.A (exec st X.env) (SP X pins D) X.xe s
theorem pss_pk {st st2 : Stmt} {rest : List Stmt} {t u v : TS} (h1 : PSp X st t) (h2 : PSk X st2 u) (h3 : PSs X rest v) : PSs X (st :: st2 :: rest) (tSeq t (tSeq u v)) := by
  intro pins s σ H D I h
  refine wpAny_execs_cons (thn (h1 pins s σ H { D with nx := tSeq u v D } I h) fun f s1 ⟨l1, q⟩ => ?_)
  cases f with
  | next =>
    obtain ⟨σ', H', I', q⟩ := q
    refine wpAny_execs_cons (thn (h2 pins s1 σ' H' { D with nx := v D } I' l1 q) fun f s2 q => ?_)
    cases f with
    | next =>
      obtain ⟨σ', H', I', q⟩ := q
      exact h3 pins s2 σ' H' D I' q
    | ret v => exact q
    | brk => exact q
    | cont => exact q
  | ret v => exact q
  | brk => exact q
  | cont => exact q
theorem psp_set {i : Nat} {x : Str} {pos' : Pos} (hN : X.N.Nodup) (hi : X.N[i]? = some x) (hx : Loc X.env.scope x) (he : PEp X e te) (hs : swapsWith e (some (.Name x pos')) pos.line X.env = pure false := by rfl) (hf : X.fn x = true ∨ X.env.scope.names.lookup x = some .local := by first | exact .inl rfl | exact .inr rfl | assumption) :
    PSp X (.Assign [.Name x pos'] e pos) (tAsg te (gName i)) := by
  intro pins s σ H D I h
  refine wpAny_Assign_Name (thn (he pins s σ H _ I h) fun v s1 ⟨l1, y, H1, I1, r1, q1⟩ => ?_) hs
  exact wpAny_toks l1 (store_ok I1 hN hi hx r1 (fun s2 I2 => ⟨_, H1, I2, q1⟩) hf)
theorem psk_ret (he : PEk X e te) : PSk X (.Return (some e) pos) (tRet te) := by
  intro pins s σ H D I l h
  exact wpAny_Return_some (thn (he pins s σ H _ I l h) fun v s1 ⟨_, x, H1, I1, r1, q1⟩ => ⟨x, σ, H1, I1, r1, q1⟩)
def unT (v : V) : V := match v with | .byt x => .str x | v => v
theorem unT_rel {v : V} {u : Value} (r : RelV v u) : RelV (unT v) u := by
  cases v with
  | byt x => obtain ⟨t, e⟩ := r; exact ⟨_, e⟩
  | _ => exact r
theorem pe_unT (he : PE X e te) : PE X e (fun σ H Q => te σ H fun v H1 => Q (unT v) H1) := fun pins s σ H Q I h =>
  thn (he pins s σ H _ I h) fun u s1 ⟨v, H1, I1, r1, q1⟩ => ⟨unT v, H1, I1, unT_rel r1, q1⟩
def PIk (X : Cx) (tg iter : Expr) (wi : TI) : Prop :=
  ∀ (pins : List (Addr × Obj)) (s : Shared) (σ : St) (H : Hp) (R : It → Hp → Prop), Inv X pins σ H s → 1 ≤ s.toks → wi σ H R →
    wpAny (model X.prog X.w) X.A (eval iter X.env) (fun v s1 => wpAny (model X.prog X.w) X.A (pyIter v) (PIE X pins σ tg R) X.xe s1) X.xe s
theorem pik_list {tg l : Expr} {tl : TE} (hl : PEk X l tl) : PIk X tg l (iList X.K tl) := by
  intro pins s σ H R I lt h
  refine thn (hl pins s σ H _ I lt h) fun v s1 ⟨_, x, H1, I1, r1, q1⟩ => ?_
  obtain ⟨a, e, ⟨xs, hq⟩, q⟩ := q1
  subst e
  cases r1
  obtain ⟨its, rv, p, hz⟩ := I1.list hq
  refine wpAny_pyIter_list p.isList ?_
  refine ⟨s1.heap.objs.size, [s1.heap.objs.size], _, _, H1, rfl, I1.kept (t' := s1.toks) fun b o e => Heap.get?_push_of_some _ e, turn_list a _, ⟨_, Heap.get?_push_size _ rfl, rfl, rfl⟩, fun b hb => ?_, q⟩
  obtain rfl : b = s1.heap.objs.size := by simpa using hb
  exact I1.fpOk (Nat.le_refl _) (I1.hok.fresh (Nat.le_refl _))
theorem psk_for {tg iter : Expr} {body : List Stmt} {wi : TI} {g : TG} {tb : TS} (hp : PassesOwn (model X.prog X.w) X.A X.env X.xe) (hc : X.calm = true) (hi : PIk X tg iter wi) (hg : PG X tg g) (hb : PSs X body tb)
    (hs : ∀ x, foldedSetIterable iter X.env x = pure x := by intro _; rfl) : PSk X (.For tg iter body [] pos) (tFor wi g tb) := by
  intro pins s σ H D I l h
  refine wpAny_For (thn (hi pins s σ H _ I l h) fun v s1 h1 => thn h1 fun itv s2 h2 => ?_) hs
  obtain ⟨it, fp, tn, J, H2, e, I2, T, st2, f2, W, ⟨m0, w0⟩, turn⟩ := h2
  subst e
  have stat : ∀ {H' : Hp}, (∀ b ∈ fp, H' b = none) → ∀ b ∈ fp, FpOk X pins H' b := fun hn b hb => ⟨hn b hb, (f2 b hb).2⟩
  refine codeAny_forLoop_any (fun n s' => ∃ i σ' H', Inv X pins σ' H' s' ∧ tn i s'.heap ∧ (∀ b ∈ fp, H' b = none) ∧ W i n σ' H') ?_ m0 ⟨0, σ, H2, I2, st2, fun b hb => (f2 b hb).1, w0⟩
  rintro n s3 ⟨i, σ3, H3, I3, st3, fr3, w3⟩
  rcases turn i n σ3 H3 w3 with ⟨stop, qn⟩ | ⟨go, N, hN, step⟩
  · refine wpAny_passesOwn hp (thn (T.done X rfl rfl rfl hc i pins s3 σ3 H3 X.xe I3 (stat fr3) st3 stop) fun r s4 ⟨hr, I4⟩ => ?_)
    subst hr
    exact wpAny_execs_nil ⟨σ3, H3, I4, qn⟩
  · refine wpAny_passesOwn hp (thn (T.item X rfl rfl rfl hc i pins s3 σ3 H3 X.xe I3 (stat fr3) st3 go) fun r s4 ⟨u, hr, h4⟩ => ?_)
    subst hr
    refine wpAny_passesOwn hp (thn h4 fun _ s5 ⟨x, H5, I5, r5, y5, st5, fr5⟩ => ?_)
    have I5' := I5.pinned (stat fr5) (T.obj _ _ st5)
    refine wpAny_passesOwn hp (thn (hg _ s5 σ3 H5 x u _ I5' r5 (step x H5 y5)) fun _ s6 ⟨σ6, H6, I6, q6⟩ => ?_)
    refine wpAny_passesOwn hp (thn (hb _ s6 σ6 H6 _ I6 q6) fun f s7 q7 => ?_)
    have again : ∀ {σ7 : St} {H7 : Hp}, Inv X (pins ++ pinsAt fp s5.heap) σ7 H7 s7 → N σ7 H7 → ∃ m, m < n ∧ ∃ i σ' H', Inv X pins σ' H' s7 ∧ tn i s7.heap ∧ (∀ b ∈ fp, H' b = none) ∧ W i m σ' H' := fun {σ7 H7} I7 n7 => by
      obtain ⟨m', hm, w7⟩ := hN σ7 H7 n7
      refine ⟨m', hm, i + 1, σ7, H7, I7.unpinned, T.keep _ _ _ st5 fun b hb o e => (I7.pin (b, o) (List.mem_append_right _ (List.mem_append_right _ (mem_pinsAt hb e)))).1, fun b hb => ?_, w7⟩
      obtain ⟨o, e, d⟩ := T.obj _ _ st5 b hb
      exact (I7.pin (b, o) (List.mem_append_right _ (List.mem_append_right _ (mem_pinsAt hb e)))).2.1
    cases f with
    | next => obtain ⟨σ7, H7, I7, n7⟩ := q7; exact again I7 n7
    | cont => obtain ⟨σ7, H7, I7, n7⟩ := q7; exact again I7 n7
    | brk => obtain ⟨σ7, H7, I7, q7⟩ := q7; exact ⟨σ7, H7, I7.unpinned, q7⟩
    | ret v => obtain ⟨x7, σ7, H7, I7, r7, q7⟩ := q7; exact ⟨x7, σ7, H7, I7.unpinned, r7, q7⟩
end
end L2
namespace L2
open PySem PySem.Spec PyProof.Rows
def sA (l : Option Nat) (n : Nat) : Nat := min (l.getD 0) n
def sB (u : Option Nat) (n : Nat) : Nat := min (u.getD n) n
def oI : Option Nat → Option Int
  | none => none
  | some k => some (k : Int)
theorem sliceG (l u : Option Nat) (n : Nat) : Builtin.Str.strSliceIndices (oI l) (oI u) 1 n = (List.range (sB u n - sA l n)).map (fun j => sA l n + j) := by
  have key : ∀ a b : Nat, sliceRange (a : Int) (b : Int) 1 = (List.range (b - a)).map (fun j => a + j) := fun a b => by
    unfold sliceRange
    have e : (if (1 : Int) > 0 then (if (a : Int) < b then ((b : Int) - a + 1 - 1) / 1 else 0) else (if (a : Int) > b then ((a : Int) - b - 1 - 1) / (-1) else 0)).toNat = b - a := by
      rw [if_pos (by decide)]
      by_cases h : (a : Int) < b
      · rw [if_pos h, Int.ediv_one]; omega
      · rw [if_neg h]; show (0 : Int).toNat = _; simp; omega
    dsimp only
    rw [e]
    refine List.map_congr_left fun k _ => ?_
    omega
  rw [← key]
  unfold Builtin.Str.strSliceIndices sA sB
  cases l with
  | none =>
    cases u with
    | none => simp [oI]
    | some b =>
      have h : ¬ ((b : Int) < 0) := by omega
      simp only [oI, Option.getD_none, Option.getD_some, h, if_false, show ((1 : Int) > 0) = True from by simp, if_true, Nat.zero_min]
      congr 1
      omega
  | some a =>
    have ha : ¬ ((a : Int) < 0) := by omega
    cases u with
    | none =>
      simp only [oI, Option.getD_none, Option.getD_some, ha, if_false, show ((1 : Int) > 0) = True from by simp, if_true, Nat.min_self]
      congr 1
      omega
    | some b =>
      have h : ¬ ((b : Int) < 0) := by omega
      simp only [oI, Option.getD_none, Option.getD_some, h, ha, if_false, show ((1 : Int) > 0) = True from by simp, if_true]
      congr 1
      · omega
      · omega
def subS (z : Str) (l u : Option Nat) : Str := ⟨((z.cps.toList.take (sB u z.length)).drop (sA l z.length)).toArray⟩
def rSlG : V → Option Int → Option Int → Hp → VK → Prop := fun x lo hi H Q => ∃ (z : Str) (l u : Option Nat), x = .str z ∧ lo = oI l ∧ hi = oI u ∧ z.length ≤ sizeLine ∧ Q (.str (subS z l u)) H
theorem len_cps' (z : Str) : z.cps.toList.length = z.length := by simp [Str.length]
theorem sl_strG {X : Cx} : SlR X rSlG := by
  intro pins s σ H x v vl vu lo hi sl Q I rx hs pl pu h
  obtain ⟨z, l, u, rfl, rfl, rfl, h2, q⟩ := h
  obtain ⟨t, rfl⟩ := rx
  obtain ⟨pL, el, rfl⟩ : ∃ p : Option (Int × Tok), p.map (·.1) = oI l ∧ vl = partValue p := by
    cases l with
    | none => cases pl; exact ⟨none, rfl, rfl⟩
    | some k => cases pl; exact ⟨some ((k : Int), _), rfl, rfl⟩
  obtain ⟨pU, eu, rfl⟩ : ∃ p : Option (Int × Tok), p.map (·.1) = oI u ∧ vu = partValue p := by
    cases u with
    | none => cases pu; exact ⟨none, rfl, rfl⟩
    | some k => cases pu; exact ⟨some ((k : Int), _), rfl, rfl⟩
  refine ⟨"str", _, PySem.F.slot_str_getitem.lookup, typeIs_str s z t, ?_⟩
  obtain ⟨o, ho, hc, hd⟩ := hs
  refine wpAny_getItem_str_slice (l := pL) (u := pU) (st := none) ⟨o, ho, hc, hd⟩ rfl ?_
  have e : slicePicked z pL pU none = (List.range (sB u z.length - sA l z.length)).map (fun j => sA l z.length + j) := by
    show Builtin.Str.strSliceIndices (pL.map (·.1)) (pU.map (·.1)) 1 z.length = _
    rw [el, eu]
    exact sliceG l u z.length
  have hb : sB u z.length ≤ z.length := Nat.min_le_right _ _
  have ha : sA l z.length ≤ z.length := Nat.min_le_right _ _
  have lz := len_cps' z
  have e3 : ((List.range (sB u z.length - sA l z.length)).map (fun j => sA l z.length + j)).filterMap (z.cps[·]?) = (z.cps.toList.take (sB u z.length)).drop (sA l z.length) := by
    by_cases hab : sA l z.length ≤ sB u z.length
    · have := PySem.StrLaws.picks z.cps.toList (sB u z.length - sA l z.length) (sA l z.length) (by rw [lz]; omega)
      rw [List.drop_take]
      simpa using this
    · have e0 : sB u z.length - sA l z.length = 0 := by omega
      rw [e0, List.drop_eq_nil_of_le (by rw [List.length_take]; omega)]
      rfl
  unfold sliceMade
  rw [e, e3]
  by_cases w : ((((none : Option (Int × Tok)).map (·.1)).getD 1 == 1 && ((List.range (sB u z.length - sA l z.length)).map (fun j => sA l z.length + j)).length == z.length) = true)
  · rw [if_pos w]
    rw [Bool.and_eq_true, beq_iff_eq, beq_iff_eq, List.length_map, List.length_range] at w
    have : subS z l u = z := by
      unfold subS
      have e1 : sB u z.length = z.length := by omega
      rw [e1, List.take_of_length_le (by rw [lz]; exact Nat.le_refl _)]
      by_cases h0 : z.length = 0
      · have : z.cps.toList = [] := List.length_eq_zero_iff.mp (lz.trans h0)
        rw [this, List.drop_nil, ← this, Array.toArray_toList]
      · have e2 : sA l z.length = 0 := by omega
        rw [e2, List.drop_zero, Array.toArray_toList]
    rw [this] at q
    exact ⟨.str z, H, I, ⟨_, rfl⟩, q⟩
  · rw [if_neg w]
    refine ⟨?_, ⟨.str _, H, I.tok _, ⟨_, rfl⟩, q⟩⟩
    show (List.drop _ _).toArray.size ≤ sizeLine
    rw [List.size_toArray, List.length_drop, List.length_take]
    omega
theorem subS_asc {z : Str} (h : Asc z) (l u : Option Nat) : Asc (subS z l u) := fun c hc => by
  have hc' : c ∈ (z.cps.toList.take (sB u z.length)).drop (sA l z.length) := by simpa [subS] using hc
  exact h c (List.mem_of_mem_take (List.mem_of_mem_drop hc'))
end L2
namespace L2
open PySem PySem.Spec PyProof.Rows
def firstAt : List Nat → Int
  | i :: _ => (i : Int)
  | [] => -1
def rFind : V → List V → Hp → VK → Prop := fun x vs H Q => ∃ a b : Str, x = .str a ∧ vs = [.str b] ∧ Q (.int (firstAt (Builtin.Str.occurrences a b 0 a.length 1))) H
theorem mt_find {X : Cx} : MtM X "str.find" rFind := by
  intro pins s σ H x vs v us Q I rx rv h
  obtain ⟨a, b, rfl, rfl, q⟩ := h
  obtain ⟨t, rfl⟩ := rx
  obtain ⟨u, rfl, ⟨t', rfl⟩⟩ := rv.one
  exact call_gives F.slot_str_find (typeIs_str s a t) F.entry_str_find (F.args_str_find_2 _ _) (gives_str_find a b t t') ⟨.int (firstAt (Builtin.Str.occurrences a b 0 a.length 1)), H, I.tok _, ⟨_, by unfold firstAt; rfl⟩, q⟩
def rInsert : V → List V → Hp → VK → Prop := fun x vs H Q => ∃ (l : Addr) (xs : List V) (i : Int) (k : Nat) (y : V), x = .ref l ∧ vs = [.int i, y] ∧ i = (k : Int) ∧ H l = some (.lst xs) ∧ k ≤ xs.length ∧ xs.length ≤ 1000000 ∧ Q .non (upd H l (.lst (xs.take k ++ y :: xs.drop k)))
theorem mt_insert {X : Cx} : MtM X "list.insert" rInsert := by
  intro pins s σ H x vs v us Q I rx rv h
  obtain ⟨l, xs, i, k, y, rfl, rfl, ei, hH, hk, hz, q⟩ := h
  cases rx
  obtain ⟨u1, u, rfl, ⟨t, rfl⟩, r3⟩ := vals2 rv
  obtain ⟨z, its, n, r, hl, e⟩ := I.lstM hH
  have hs : sizeLine = 16777216 := sizeLine_eq
  have hf : ¬ (!Builtin.List.listFitsIndex i) = true := by
    unfold Builtin.List.listFitsIndex
    rw [decide_eq_true (show -(2 ^ 63 : Int) ≤ i by omega), decide_eq_true (show i < 2 ^ 63 by omega)]
    decide
  have hz2 : its.toArray.size ≤ sizeLine := by rw [List.size_toArray]; omega
  have m := AutoSeq1.list_insert_list_int_val_1 l its.toArray n i t u hf hz2
  refine call_meets F.slot_list_insert ⟨_, e, rfl⟩ F.entry_list_insert (F.args_list_insert_3 _ _ _) m ⟨e, ?_⟩
  refine ⟨.non, _, I.lset (its' := its.take k ++ u :: its.drop k) hH e ?_ ((r.take k).append (.cons r3 (r.drop k))) ?_, rfl, q⟩
  · dsimp only
    rw [if_neg (by omega), List.size_toArray, show min i.toNat its.length = k by omega]
    apply Array.ext'
    simp [List.extract_eq_take_drop]
    exact List.take_of_length_le (by rw [List.length_drop]; exact Nat.le_refl _)
  · rw [List.length_append, List.length_cons, List.length_take, List.length_drop]
    omega
theorem for_str {x : Str} {g : TG} {tb : TS} {D : Ends} {σ : St} {H : Hp} (Pv : Nat → St → Hp → Prop) (h0 : Pv 0 σ H)
    (hs : ∀ i c σ H, x.cps[i]? = some c → Pv i σ H → g (.str ⟨#[c]⟩) σ H fun σ2 H2 => tb { D with nx := Pv (i + 1), ct := Pv (i + 1), bk := D.nx } σ2 H2) (hd : ∀ σ H, Pv x.cps.size σ H → D.nx σ H) :
    ∃ W : Nat → Nat → St → Hp → Prop, (∃ m, W 0 m σ H) ∧ ∀ i m σ H, W i m σ H →
      ((Itx x).stop i H ∧ D.nx σ H) ∨ ((Itx x).go i H ∧ ∃ N : St → Hp → Prop, (∀ σ' H', N σ' H' → ∃ m', m' < m ∧ W (i + 1) m' σ' H') ∧ ∀ v H', (Itx x).yld i H v H' → g v σ H' fun σ2 H2 => tb { D with nx := N, ct := N, bk := D.nx } σ2 H2) := by
  refine ⟨fun i m σ H => i ≤ x.cps.size ∧ m = x.cps.size - i ∧ Pv i σ H, ⟨_, Nat.zero_le _, rfl, h0⟩, ?_⟩
  rintro i m σ H ⟨hi, rfl, p⟩
  by_cases hlt : i < x.cps.size
  · refine .inr ⟨hlt, Pv (i + 1), fun σ' H' z => ⟨_, by omega, hlt, rfl, z⟩, fun v H' y => ?_⟩
    obtain ⟨rfl, c, hc, rfl⟩ := y
    exact hs i c σ _ hc p
  · obtain rfl : i = x.cps.size := by omega
    exact .inl ⟨Nat.le_refl _, hd σ H p⟩
end L2
namespace L2
open PySem PySem.Spec PyProof.Rows
def WL (ws : List Str) (t : Nat) : Prop := (∀ w ∈ ws, Asc w) ∧ (ws.map (·.length)).sum + ws.length ≤ t
theorem joinL_length {c : Nat} : ∀ p : List (List Nat), (joinL c p).length + 1 = (p.map (·.length)).sum + p.length + (if p = [] then 1 else 0)
  | [] => rfl
  | [y] => by simp [joinL]
  | y :: z :: r => by
    have := joinL_length (c := c) (z :: r)
    rw [if_neg (by simp)] at this ⊢
    show (y ++ c :: joinL c (z :: r)).length + 1 = _
    rw [List.length_append, List.length_cons]
    simp only [List.map_cons, List.sum_cons, List.length_cons] at this ⊢
    omega
theorem joinL_sub {c : Nat} : ∀ {p : List (List Nat)} {d : Nat}, d ∈ joinL c p → d = c ∨ ∃ x ∈ p, d ∈ x
  | [], d, h => absurd h (by simp [joinL])
  | [y], d, h => .inr ⟨y, by simp, h⟩
  | y :: z :: r, d, h => by
    have h' : d ∈ y ++ c :: joinL c (z :: r) := h
    rcases List.mem_append.mp h' with e | e
    · exact .inr ⟨y, by simp, e⟩
    · rcases List.mem_cons.mp e with e | e
      · exact .inl e
      · rcases joinL_sub e with e | ⟨x, hx, e⟩
        · exact .inl e
        · exact .inr ⟨x, List.mem_cons_of_mem _ hx, e⟩
theorem map_len (ws : List Str) : ((ws.map cpsOf).map (·.length)) = ws.map (·.length) := by
  rw [List.map_map]
  refine List.map_congr_left fun w _ => ?_
  show w.cps.toList.length = w.length
  exact len_cps' w
theorem WL.split {x : Str} (a : Asc x) (c : Nat) : WL (Txt.split x ⟨#[c]⟩) (x.length + 1) := by
  refine ⟨fun w hw => a.part hw, ?_⟩
  have e := split_cps x c
  have l := joinL_length (c := c) ((Txt.split x ⟨#[c]⟩).map cpsOf)
  rw [e, map_len, List.length_map, if_neg (fun z => split_ne x c (List.map_eq_nil_iff.mp z))] at l
  have : (cpsOf x).length = x.length := len_cps' x
  omega
theorem WL.le {ws : List Str} {t u : Nat} (h : WL ws t) (l : t ≤ u) : WL ws u := ⟨h.1, Nat.le_trans h.2 l⟩
theorem WL.len {ws : List Str} {t : Nat} (h : WL ws t) : ws.length ≤ t := by have := h.2; omega
theorem sum_get : ∀ {l : List Nat} {i x : Nat}, l[i]? = some x → x ≤ l.sum
  | [], i, x, h => by simp at h
  | a :: l, 0, x, h => by simp at h; subst h; simp
  | a :: l, i + 1, x, h => by
    have := sum_get (l := l) (i := i) (x := x) (by simpa using h)
    simp only [List.sum_cons]
    omega
theorem WL.get {ws : List Str} {t i : Nat} {w : Str} (h : WL ws t) (e : ws[i]? = some w) : Asc w ∧ w.length + 1 ≤ t := by
  refine ⟨h.1 w (List.mem_of_getElem? e), ?_⟩
  have := sum_get (l := ws.map (·.length)) (i := i) (x := w.length) (by rw [List.getElem?_map, e]; rfl)
  have l := (List.getElem?_eq_some_iff.mp e).1
  have := h.2
  omega
theorem sum_erase : ∀ (l : List Str) (i : Nat), ((l.eraseIdx i).map (·.length)).sum ≤ (l.map (·.length)).sum
  | [], _ => by simp
  | a :: l, 0 => by simp
  | a :: l, i + 1 => by
    have := sum_erase l i
    simp only [List.eraseIdx_cons_succ, List.map_cons, List.sum_cons]
    omega
theorem WL.erase {ws : List Str} {t : Nat} (h : WL ws t) (i : Nat) : WL (ws.eraseIdx i) t := by
  refine ⟨fun w hw => h.1 w (List.mem_of_mem_eraseIdx hw), ?_⟩
  have e : ((ws.eraseIdx i).map (·.length)).sum ≤ (ws.map (·.length)).sum := sum_erase _ _
  have l : (ws.eraseIdx i).length ≤ ws.length := List.length_eraseIdx_le ..
  have := h.2
  omega
theorem WL.insert {ws : List Str} {t : Nat} {y : Str} (h : WL ws t) (a : Asc y) (k : Nat) : WL (ws.take k ++ y :: ws.drop k) (t + y.length + 1) := by
  refine ⟨fun w hw => ?_, ?_⟩
  · rcases List.mem_append.mp hw with e | e
    · exact h.1 w (List.mem_of_mem_take e)
    · rcases List.mem_cons.mp e with e | e
      · rw [e]; exact a
      · exact h.1 w (List.mem_of_mem_drop e)
  · have e1 : (ws.map (·.length)).sum = ((ws.take k).map (·.length)).sum + ((ws.drop k).map (·.length)).sum := by
      rw [← List.sum_append, ← List.map_append, List.take_append_drop]
    have e2 : ws.length = (ws.take k).length + (ws.drop k).length := by rw [← List.length_append, List.take_append_drop]
    rw [List.map_append, List.map_cons, List.sum_append, List.sum_cons, List.length_append, List.length_cons]
    have := h.2
    omega
theorem sum_set : ∀ {l : List Nat} {i x y : Nat}, l[i]? = some x → (l.set i y).sum + x = l.sum + y
  | [], i, x, y, h => by simp at h
  | a :: l, 0, x, y, h => by simp at h; subst h; simp; omega
  | a :: l, i + 1, x, y, h => by
    have := sum_set (l := l) (i := i) (x := x) (y := y) (by simpa using h)
    simp only [List.set_cons_succ, List.sum_cons]
    omega
theorem WL.set {ws : List Str} {t i : Nat} {y : Str} (h : WL ws t) (a : Asc y) : WL (ws.set i y) (t + y.length) := by
  refine ⟨fun w hw => ?_, ?_⟩
  · rcases List.mem_or_eq_of_mem_set hw with e | e
    · exact h.1 w e
    · rw [e]; exact a
  · by_cases hi : i < ws.length
    · have := sum_set (l := ws.map (·.length)) (i := i) (x := ws[i].length) (y := y.length) (by rw [List.getElem?_map, List.getElem?_eq_getElem hi]; rfl)
      rw [List.map_set, List.length_set]
      have := h.2
      omega
    · rw [List.set_eq_of_length_le (by omega)]
      have := h.2
      omega
theorem WL.swap {ws : List Str} {t i j : Nat} {a b : Str} (h : WL ws t) (ea : ws[i]? = some a) (eb : ws[j]? = some b) : WL ((ws.set i b).set j a) t := by
  have ha := (h.get ea).1
  have hb := (h.get eb).1
  refine ⟨fun w hw => ?_, ?_⟩
  · rcases List.mem_or_eq_of_mem_set hw with e | e
    · rcases List.mem_or_eq_of_mem_set e with e | e
      · exact h.1 w e
      · rw [e]; exact hb
    · rw [e]; exact ha
  · have e1 := sum_set (l := ws.map (·.length)) (i := i) (x := a.length) (y := b.length) (by rw [List.getElem?_map, ea]; rfl)
    have gj : ((ws.set i b).map (·.length))[j]? = some b.length := by
      rw [List.getElem?_map, List.getElem?_set]
      by_cases z : i = j
      · subst z
        rw [if_pos rfl, if_pos (List.getElem?_eq_some_iff.mp ea).1]
        rfl
      · rw [if_neg z, eb]
        rfl
    have e2 := sum_set (y := a.length) gj
    rw [List.map_set] at e2
    rw [List.map_set, List.length_set, List.length_set, List.map_set]
    have := h.2
    omega
theorem WL.join {ws : List Str} {t c : Nat} (h : WL ws t) (hc : c < 128) : Asc (Txt.join ⟨#[c]⟩ ws) ∧ (Txt.join ⟨#[c]⟩ ws).length ≤ t := by
  rw [show Txt.join ⟨#[c]⟩ ws = Str.join ⟨#[c]⟩ ws from PySem.StrLaws.glued_eq_join _ ws]
  have e := join_cps c ws
  constructor
  · intro d hd
    rw [e] at hd
    rcases joinL_sub hd with z | ⟨y, hy, z⟩
    · rw [z]; exact hc
    · obtain ⟨w, hw, rfl⟩ := List.mem_map.mp hy
      exact h.1 w hw d z
  · have l := joinL_length (c := c) (ws.map cpsOf)
    rw [map_len, List.length_map] at l
    have e2 : (Str.join ⟨#[c]⟩ ws).length = (joinL c (ws.map cpsOf)).length := by rw [← len_cps', e]; rfl
    have := h.2
    by_cases z : ws.map cpsOf = []
    · rw [if_pos z] at l; omega
    · rw [if_neg z] at l; omega
end L2
set_option maxHeartbeats 4000000
namespace Mw
open PySem L2
def top (i : Nat) : Stmt := PySem.Challenge.pw_midwindow_k02_no_field.main.body.getD i (.Pass ⟨0, 0, 0, 0⟩)
abbrev s_is_number : Stmt := top 9
theorem sc_is_number : FnScope ["word", "figures"] ["word"] (defScope s_is_number) := ⟨rfl, rfl, rfl, by decide +kernel, rfl, by decide +kernel, by decide +kernel⟩
abbrev s_is_cell : Stmt := top 10
theorem sc_is_cell : FnScope ["word"] ["word"] (defScope s_is_cell) := ⟨rfl, rfl, rfl, by decide +kernel, rfl, by decide +kernel, by decide +kernel⟩
abbrev s_cell_read : Stmt := top 11
theorem sc_cell_read : FnScope ["word"] ["word"] (defScope s_cell_read) := ⟨rfl, rfl, rfl, by decide +kernel, rfl, by decide +kernel, by decide +kernel⟩
abbrev s_read_rows : Stmt := top 12
theorem sc_read_rows : FnScope ["lines", "rows", "row", "line", "words"] ["lines"] (defScope s_read_rows) := ⟨rfl, rfl, rfl, by decide +kernel, rfl, by decide +kernel, by decide +kernel⟩
abbrev s_read_field : Stmt := top 13
theorem sc_read_field : FnScope ["text"] ["text"] (defScope s_read_field) := ⟨rfl, rfl, rfl, by decide +kernel, rfl, by decide +kernel, by decide +kernel⟩
abbrev s_law_mix : Stmt := top 15
theorem sc_law_mix : FnScope ["cell", "k", "number"] ["cell", "k"] (defScope s_law_mix) := ⟨rfl, rfl, rfl, by decide +kernel, rfl, by decide +kernel, by decide +kernel⟩
abbrev s_law_deck : Stmt := top 16
theorem sc_law_deck : FnScope ["script"] ["script"] (defScope s_law_deck) := ⟨rfl, rfl, rfl, by decide +kernel, rfl, by decide +kernel, by decide +kernel⟩
abbrev s_law_next : Stmt := top 17
theorem sc_law_next : FnScope ["deck", "many", "cell", "found"] ["deck", "many"] (defScope s_law_next) := ⟨rfl, rfl, rfl, by decide +kernel, rfl, by decide +kernel, by decide +kernel⟩
abbrev s_law_cell : Stmt := top 18
theorem sc_law_cell : FnScope ["deck", "way"] ["deck"] (defScope s_law_cell) := ⟨rfl, rfl, rfl, by decide +kernel, rfl, by decide +kernel, by decide +kernel⟩
abbrev s_law_field : Stmt := top 19
theorem sc_law_field : FnScope ["deck", "height", "width"] ["deck"] (defScope s_law_field) := ⟨rfl, rfl, rfl, by decide +kernel, rfl, by decide +kernel, by decide +kernel⟩
abbrev s_law_word : Stmt := top 20
theorem sc_law_word : FnScope ["cell", "number", "text", "k"] ["cell"] (defScope s_law_word) := ⟨rfl, rfl, rfl, by decide +kernel, rfl, by decide +kernel, by decide +kernel⟩
abbrev s_law_text : Stmt := top 21
theorem sc_law_text : FnScope ["field"] ["field"] (defScope s_law_text) := ⟨rfl, rfl, rfl, by decide +kernel, rfl, by decide +kernel, by decide +kernel⟩
abbrev s_law_number : Stmt := top 22
theorem sc_law_number : FnScope ["word", "sign", "figures", "number", "figure"] ["word"] (defScope s_law_number) := ⟨rfl, rfl, rfl, by decide +kernel, rfl, by decide +kernel, by decide +kernel⟩
abbrev s_law_due : Stmt := top 23
theorem sc_law_due : FnScope ["text", "rows", "line", "cells", "word", "some"] ["text"] (defScope s_law_due) := ⟨rfl, rfl, rfl, by decide +kernel, rfl, by decide +kernel, by decide +kernel⟩
abbrev s_law_sign : Stmt := top 24
theorem sc_law_sign : FnScope ["deck", "signs"] ["deck"] (defScope s_law_sign) := ⟨rfl, rfl, rfl, by decide +kernel, rfl, by decide +kernel, by decide +kernel⟩
abbrev s_law_spoilt_line : Stmt := top 25
theorem sc_law_spoilt_line : FnScope ["deck", "line", "words", "at", "there", "some", "way", "text", "cut"] ["deck", "line"] (defScope s_law_spoilt_line) := ⟨rfl, rfl, rfl, by decide +kernel, rfl, by decide +kernel, by decide +kernel⟩
abbrev s_law_spoilt : Stmt := top 26
theorem sc_law_spoilt : FnScope ["deck", "field", "lines", "k", "at", "way"] ["deck", "field"] (defScope s_law_spoilt) := ⟨rfl, rfl, rfl, by decide +kernel, rfl, by decide +kernel, by decide +kernel⟩
abbrev s_law_beyond : Stmt := top 27
theorem sc_law_beyond : FnScope ["text", "lines", "numbers", "word"] ["text"] (defScope s_law_beyond) := ⟨rfl, rfl, rfl, by decide +kernel, rfl, by decide +kernel, by decide +kernel⟩
abbrev s_law_right : Stmt := top 28
theorem sc_law_right : FnScope ["text", "due", "found", "caught", "e"] ["text"] (defScope s_law_right) := ⟨rfl, rfl, rfl, by decide +kernel, rfl, by decide +kernel, by decide +kernel⟩
abbrev s_law : Stmt := top 29
theorem sc_law : FnScope ["script", "deck", "turn", "field", "text", "some", "old", "odd", "fixed"] ["script"] (defScope s_law) := ⟨rfl, rfl, rfl, by decide +kernel, rfl, by decide +kernel, by decide +kernel⟩
abbrev s_NoField_init : Stmt := inClass (top 4) 0
theorem sc_NoField_init : FnScope ["self", "row"] ["self", "row"] (defScope s_NoField_init) := ⟨rfl, rfl, rfl, by decide +kernel, rfl, by decide +kernel, by decide +kernel⟩
structure Txt (K : PySem.W.Frag) (mg : Str → Option Value) : Prop where
  d_is_number : Raw K mg "is_number" ["word"] s_is_number
  d_is_cell : Raw K mg "is_cell" ["word"] s_is_cell
  d_cell_read : Raw K mg "cell_read" ["word"] s_cell_read
  d_read_rows : Raw K mg "read_rows" ["lines"] s_read_rows
  d_read_field : Raw K mg "read_field" ["text"] s_read_field
  d_law_mix : Raw K mg "_law_mix" ["cell", "k"] s_law_mix
  d_law_deck : Raw K mg "_law_deck" ["script"] s_law_deck
  d_law_next : Raw K mg "_law_next" ["deck", "many"] s_law_next
  d_law_cell : Raw K mg "_law_cell" ["deck"] s_law_cell
  d_law_field : Raw K mg "_law_field" ["deck"] s_law_field
  d_law_word : Raw K mg "_law_word" ["cell"] s_law_word
  d_law_text : Raw K mg "_law_text" ["field"] s_law_text
  d_law_number : Raw K mg "_law_number" ["word"] s_law_number
  d_law_due : Raw K mg "_law_due" ["text"] s_law_due
  d_law_sign : Raw K mg "_law_sign" ["deck"] s_law_sign
  d_law_spoilt_line : Raw K mg "_law_spoilt_line" ["deck", "line"] s_law_spoilt_line
  d_law_spoilt : Raw K mg "_law_spoilt" ["deck", "field"] s_law_spoilt
  d_law_beyond : Raw K mg "_law_beyond" ["text"] s_law_beyond
  d_law_right : Raw K mg "_law_right" ["text"] s_law_right
  d_law : Raw K mg "law" ["script"] s_law
  g_HOLE : ∃ u, mg "HOLE" = some u ∧ RelV (.str ".") u
  g_FIGURES : ∃ u, mg "FIGURES" = some u ∧ RelV (.str "0123456789") u
  n_booked : PySem.W.nsIn K cStatics sharingNotToldKey = some none
  x_exc : ∃ aN aF aM aP aW, ExcAll K mg aN aF aM aP aW
  e_NoField : ∃ D, mg "NoField" = some (.ref D) ∧ excPut K D = true ∧ NoAttr K D "row" ∧ RawE K D "NoField.__init__" ["self", "row"] s_NoField_init
  e_win : ∃ W, mg "WindowError" = some (.ref W) ∧ winIn K W = true
  n_len : mg "len" = none
  n_sum : mg "sum" = none
  n_all : mg "all" = none
  n_max : mg "max" = none
  n_abs : mg "abs" = none
  n_tuple : mg "tuple" = none
  n_int : mg "int" = none
  n_bool : mg "bool" = none
  n_isinstance : mg "isinstance" = none
  n_range : mg "range" = none
  n_enumerate : mg "enumerate" = none
  n_ValueError : mg "ValueError" = none
section
variable {P : Program} {w : World} {K : PySem.W.Frag} {mg : Str → Option Value} {base : Heap}
def spMix : Sp := fun vs H Q _ => ∃ (c k : Int), vs = [.int c, .int k] ∧ 0 ≤ k ∧ k < 2 ^ 50 ∧ ∀ x : Int, 0 ≤ x → Q (.int x) H
theorem df_law_mix (T : Txt K mg) : Df P w K mg base 1 "_law_mix" ["cell", "k"] spMix := by
  refine T.d_law_mix.ok sc_law_mix (fun vs H Q E h => ?_) (fun f cdv A outer s H vs Q E hr h => ?_)
  · obtain ⟨c, k, rfl, _⟩ := h
    rfl
  · obtain ⟨c, k, rfl, h0, h1, q⟩ := h
    refine ⟨_, (@pss_cons _ _ _ _ _ (@ps_set _ _ 2 _ _ _ _ sc_law_mix.nd rfl (by first | exact Or.inl rfl | exact Or.inr rfl) (@pe_op _ _ _ _ _ _ _ _ op_add (@pe_op _ _ _ _ _ _ _ _ op_mod (pv 0) pe_int) (@pe_op _ _ _ _ _ _ _ _ op_mul (@pe_op _ _ _ _ _ _ _ _ op_mul pe_int (pv 1)) (pv 1))) (by rfl) (by first | exact .inl rfl | exact .inr rfl))
      (@pss_cons _ _ _ _ _ (@ps_set _ _ 2 _ _ _ _ sc_law_mix.nd rfl (by first | exact Or.inl rfl | exact Or.inr rfl) (@pe_op _ _ _ _ _ _ _ _ op_mod (@pe_op _ _ _ _ _ _ _ _ op_add (pv 2) (@pe_op _ _ _ _ _ _ _ _ op_mul pe_int (pv 1))) pe_int) (by rfl) (by first | exact .inl rfl | exact .inr rfl))
      (@pss_cons _ _ _ _ _ (@ps_set _ _ 2 _ _ _ _ sc_law_mix.nd rfl (by first | exact Or.inl rfl | exact Or.inr rfl) (@pe_op _ _ _ _ _ _ _ _ op_mod (@pe_op _ _ _ _ _ _ _ _ op_mul (pv 2) (pv 2)) pe_int) (by rfl) (by first | exact .inl rfl | exact .inr rfl))
      (@pss_one _ _ _ (@ps_ret _ _ _ _ (@pe_op _ _ _ _ _ _ _ _ op_fdivB (@pe_op _ _ _ _ _ _ _ _ op_mod (@pe_op _ _ _ _ _ _ _ _ op_mul (pv 2) (@pe_op _ _ _ _ _ _ _ _ op_add (pv 2) pe_int)) pe_int) pe_int)))))), ?_⟩
    refine ⟨_, rfl, _, _, rfl, rfl, (by show (0 : Int) < 2147483629; decide), _, rfl, _, _, rfl, rfl, .inr ⟨by omega, by omega⟩, _, rfl, _, _, rfl, rfl, .inr ⟨by omega, by omega⟩, _, _, rfl, rfl, ?_⟩
    refine ⟨_, rfl, _, rfl, _, _, rfl, rfl, .inr ⟨by omega, by omega⟩, _, _, rfl, rfl, _, _, rfl, rfl, (by show (0 : Int) < 2147483629; decide), ?_⟩
    have a1 : (0 : Int) ≤ (c % 2147483629 + 1000003 * k * k + 7919 * k) % 2147483629 := Int.emod_nonneg _ (by decide)
    have a2 : (c % 2147483629 + 1000003 * k * k + 7919 * k) % 2147483629 < (2147483629 : Int) := Int.emod_lt_of_pos _ (by decide)
    generalize (c % 2147483629 + 1000003 * k * k + 7919 * k) % 2147483629 = n1 at a1 a2
    refine ⟨_, rfl, _, rfl, _, _, rfl, rfl, .inr ⟨by omega, by omega⟩, _, _, rfl, rfl, (by show (0 : Int) < 2147483587; decide), ?_⟩
    have b1 : (0 : Int) ≤ (n1 * n1) % 2147483587 := Int.emod_nonneg _ (by decide)
    have b2 : (n1 * n1) % 2147483587 < (2147483587 : Int) := Int.emod_lt_of_pos _ (by decide)
    generalize (n1 * n1) % 2147483587 = n2 at b1 b2
    refine ⟨_, rfl, _, rfl, _, _, rfl, rfl, _, _, rfl, rfl, .inl ⟨by omega, by omega⟩, _, _, rfl, rfl, (by show (0 : Int) < 2147483563; decide), _, _, rfl, rfl, ⟨(by show (0 : Int) < 4; decide), by show (4 : Int) < 2 ^ 62; decide⟩, ?_⟩
    refine q _ ?_
    exact Int.ediv_nonneg (Int.emod_nonneg _ (by decide)) (by decide)
def spDeck (K : PySem.W.Frag) : Sp := fun vs H Q _ => ∃ (a : Addr) (ns : List Int), vs = [.ref a] ∧ SqL K H a (ns.map V.int) ∧ ns.length ≤ 63 ∧ ∀ (d : Addr) (H' : Hp), H d = none → Deck H' d 0 → Same H H' → Q (.ref d) H'
theorem df_law_deck (T : Txt K mg) : Df P w K mg base 1 "_law_deck" ["script"] (spDeck K) := by
  refine T.d_law_deck.ok sc_law_deck (fun vs H Q E h => ?_) (fun f cdv A outer s H vs Q E hr h => ?_)
  · obtain ⟨a, ns, rfl, _⟩ := h
    rfl
  · obtain ⟨a, ns, rfl, hS, hl, q⟩ := h
    refine ⟨_, (@pss_one _ _ _ (@ps_ret _ _ _ _ (@pe_lst _ _ _ _ (@pa_cons _ _ _ _ _ (pe_slice (sl_X (K := K) rfl) (pv 0) po_none (po_some pe_int)) (@pa_cons _ _ _ _ _ pe_int (@pa_cons _ _ _ _ _ pe_int (@pa_cons _ _ _ _ _ pe_int (@pa_cons _ _ _ _ _ (@pe_callB _ _ _ _ _ _ _ _ _ (call_sumK (K := K) rfl rfl) (by rfl) T.n_sum bt_sum (@pa_cons _ _ _ _ _ (pe_slice (sl_X (K := K) rfl) (pv 0) po_none (po_some pe_int)) pa_nil star_sub) (by decide) (by decide) (by rfl) (by rfl)) pa_nil star_call) (by rfl)) (by rfl)) (by rfl)) star_sub)))), ?_⟩
    refine ⟨_, rfl, _, rfl, Or.inl ⟨_, _, rfl, hS, fun p hp => ?_⟩⟩
    have hS1 := (same_upd (o := .lst (cutV (ns.map V.int) none (some 63))) hp).seq hS
    refine ⟨_, rfl, _, rfl, Or.inl ⟨_, _, rfl, hS1, fun p2 hp2 => ?_⟩⟩
    rw [cut63 hl] at hp2 ⊢
    refine ⟨_, _, rfl, SqL.of upd_same, (by show 5 ≤ sizeLine; decide), fun d hd => ?_⟩
    have s1 := same_upd (o := .lst (ns.map V.int)) hp
    have s2 := same_upd (o := .lst (ns.map V.int)) hp2
    have s3 := same_upd (o := .lst [.ref p, .int 0, .int 0, .int 0, .int ns.sum]) hd
    refine q d _ ((s1.trans s2).free hd) ⟨p, ns, 0, 0, 0, ns.sum, ⟨upd_same, s3 _ _ (s2 _ _ upd_same), Nat.zero_le _, hl, Int.le_refl _⟩, Nat.le_refl _⟩ ((s1.trans s2).trans s3)
def spNext : Sp := fun vs H Q _ => ∃ (d : Addr) (many : Int) (n : Nat), vs = [.ref d, .int many] ∧ Deck H d n ∧ 0 < many ∧ many < 2 ^ 40 ∧ n < 2 ^ 40 ∧
  ∀ (x : Int) (H' : Hp), 0 ≤ x → x < many → Deck H' d (n + 1) → KeepBut d H H' → Q (.int x) H'
theorem df_law_next (T : Txt K mg) : Df P w K mg base 2 "_law_next" ["deck", "many"] spNext := by
  refine T.d_law_next.ok sc_law_next (fun vs H Q E h => ?_) (fun f cdv A outer s H vs Q E hr h => ?_)
  · obtain ⟨d, many, n, rfl, _⟩ := h
    rfl
  · obtain ⟨d, many, n, rfl, ⟨c, ns, k, r, m, t, DA, hmn⟩, m0, m1, hn, q⟩ := h
    refine ⟨_, (@pss_cons _ _ _ _ _ (@ps_if _ _ _ _ _ _ _ _ (pw_and (@pt_cmpR _ _ _ _ _ _ _ _ (op_eqA hr.units) (@pe_ix _ _ _ _ _ _ _ (ix_seqK (K := K) rfl) (pv 0) pe_int (fun _ _ => rfl)) pe_int (nomark _)) (pw_and1 (@pt_cmpR _ _ _ _ _ _ _ _ op_lt (@pe_ix _ _ _ _ _ _ _ (ix_seqK (K := K) rfl) (pv 0) pe_int (fun _ _ => rfl)) (@pe_callB _ _ _ _ _ _ _ _ _ (call_lenK (K := K) rfl) (by rfl) T.n_len bt_len (@pa_cons _ _ _ _ _ (@pe_ix _ _ _ _ _ _ _ (ix_seqK (K := K) rfl) (pv 0) pe_int (fun _ _ => rfl)) pa_nil star_sub) (by decide) (by decide) (by rfl) (by rfl)) (nomark _)))).pt (@pss_cons _ _ _ _ _ (@ps_set _ _ 2 _ _ _ _ sc_law_next.nd rfl (by first | exact Or.inl rfl | exact Or.inr rfl) (@pe_ix _ _ _ _ _ _ _ (ix_seqK (K := K) rfl) (@pe_ix _ _ _ _ _ _ _ (ix_seqK (K := K) rfl) (pv 0) pe_int (fun _ _ => rfl)) (@pe_ix _ _ _ _ _ _ _ (ix_seqK (K := K) rfl) (pv 0) pe_int (fun _ _ => rfl)) (fun _ _ => rfl)) (by rfl) (by first | exact .inl rfl | exact .inr rfl))
      (@pss_cons _ _ _ _ _ (@ps_asg _ _ _ _ _ _ (@pe_op _ _ _ _ _ _ _ _ op_add (@pe_ix _ _ _ _ _ _ _ (ix_seqK (K := K) rfl) (pv 0) pe_int (fun _ _ => rfl)) pe_int) (pg_sub (pv 0) pe_int set_list) (by rfl) (by rfl) (by rfl))
      (@pss_cons _ _ _ _ _ (@ps_if _ _ _ _ _ _ _ _ (@pt_cmpR _ _ _ _ _ _ _ _ op_lt (pv 2) (@pe_op _ _ _ _ _ _ _ _ op_pow pe_int pe_int) (nomark _)) (@pss_one _ _ _ (@ps_ret _ _ _ _ (@pe_op _ _ _ _ _ _ _ _ op_mod (@pe_df _ _ _ _ _ _ _ _ _ _ (df_law_mix T) (hr.mono (by decide)) (@pa_cons _ _ _ _ _ (pv 2) (@pa_cons _ _ _ _ _ (@pe_ix _ _ _ _ _ _ _ (ix_seqK (K := K) rfl) (pv 0) pe_int (fun _ _ => rfl)) pa_nil star_sub) (by rfl)) (by rfl) (by decide) (by rfl) (by rfl)) (pv 1)))) pss_nil)
      (@pss_one _ _ _ (@ps_asg _ _ _ _ _ _ (pv 2) (pg_sub (pv 0) pe_int set_list) (by rfl) (by rfl) (by rfl)))))) pss_nil)
      (@pss_cons _ _ _ _ _ (@ps_if _ _ _ _ _ _ _ _ (@pt_cmpR _ _ _ _ _ _ _ _ op_gt (@pe_ix _ _ _ _ _ _ _ (ix_seqK (K := K) rfl) (pv 0) pe_int (fun _ _ => rfl)) pe_int (nomark _)) (@pss_cons _ _ _ _ _ (@ps_set _ _ 3 _ _ _ _ sc_law_next.nd rfl (by first | exact Or.inl rfl | exact Or.inr rfl) (@pe_op _ _ _ _ _ _ _ _ op_mod (@pe_ix _ _ _ _ _ _ _ (ix_seqK (K := K) rfl) (pv 0) pe_int (fun _ _ => rfl)) (pv 1)) (by rfl) (by first | exact .inl rfl | exact .inr rfl))
      (@pss_cons _ _ _ _ _ (@ps_asg _ _ _ _ _ _ (@pe_op _ _ _ _ _ _ _ _ op_fdivB (@pe_ix _ _ _ _ _ _ _ (ix_seqK (K := K) rfl) (pv 0) pe_int (fun _ _ => rfl)) (pv 1)) (pg_sub (pv 0) pe_int set_list) (by rfl) (by rfl) (by rfl))
      (@pss_one _ _ _ (@ps_ret _ _ _ _ (pv 3))))) pss_nil)
      (@pss_cons _ _ _ _ _ (@ps_asg _ _ _ _ _ _ (@pe_op _ _ _ _ _ _ _ _ op_add (@pe_ix _ _ _ _ _ _ _ (ix_seqK (K := K) rfl) (pv 0) pe_int (fun _ _ => rfl)) pe_int) (pg_sub (pv 0) pe_int set_list) (by rfl) (by rfl) (by rfl))
      (@pss_one _ _ _ (@ps_ret _ _ _ _ (@pe_op _ _ _ _ _ _ _ _ op_mod (@pe_df _ _ _ _ _ _ _ _ _ _ (df_law_mix T) (hr.mono (by decide)) (@pa_cons _ _ _ _ _ (@pe_ix _ _ _ _ _ _ _ (ix_seqK (K := K) rfl) (pv 0) pe_int (fun _ _ => rfl)) (@pa_cons _ _ _ _ _ (@pe_op _ _ _ _ _ _ _ _ op_add (@pe_ix _ _ _ _ _ _ _ (ix_seqK (K := K) rfl) (pv 0) pe_int (fun _ _ => rfl)) pe_int) pa_nil star_bin) star_sub) (by rfl) (by decide) (by rfl) (by rfl)) (pv 1))))))), ?_⟩
    have hdc := DA.ne
    refine tSeq_cut (fun σ' H' => ∃ (k' : Nat) (r' : Int) (cl fo : Option V), σ' = [some (.ref d), some (.int many), cl, fo] ∧ DeckAt H' d c ns k' r' m t ∧ KeepBut d H H') ?_ (fun rest => ?_)
    · -- behind the first if
      rintro _ H1 ⟨k1, r1, cl, fo, rfl, D1, kb1⟩
      refine ⟨_, rfl, Or.inl ⟨_, _, _, _, rfl, rfl, SqL.of D1.deck, rfl, _, _, rfl, rfl, _, rfl, ?_⟩⟩
      refine ite2 (fun hz => ?_) (fun hz => ?_)
      · have hp : 0 < r1 := of_decide_eq_true hz
        refine ⟨_, rfl, Or.inl ⟨_, _, _, _, rfl, rfl, SqL.of D1.deck, rfl, _, rfl, _, _, rfl, rfl, m0, ?_⟩⟩
        refine ⟨_, rfl, Or.inl ⟨_, _, _, _, rfl, rfl, SqL.of D1.deck, rfl, _, rfl, _, _, rfl, rfl, ⟨m0, by omega⟩, ?_⟩⟩
        refine ⟨_, rfl, _, _, _, 2, rfl, rfl, D1.deck, rfl, _, rfl, ?_⟩
        refine q _ _ (Int.emod_nonneg _ (by omega)) (Int.emod_lt_of_pos _ m0) ⟨c, ns, k1, r1 / many, m, t, ⟨upd_same, by rw [upd_ne hdc.symm]; exact D1.cut, D1.kle, D1.few, Int.ediv_nonneg (by omega) (by omega)⟩, by omega⟩ fun b o e hb => ?_
        rw [upd_ne hb]
        exact kb1 b o e hb
      · refine ⟨_, rfl, Or.inl ⟨_, _, _, _, rfl, rfl, SqL.of D1.deck, rfl, _, _, rfl, rfl, ?_⟩⟩
        refine ⟨_, rfl, _, _, _, 3, rfl, rfl, D1.deck, rfl, ?_⟩
        refine ⟨_, rfl, Or.inl ⟨_, _, _, _, rfl, rfl, SqL.of upd_same, rfl, ?_⟩⟩
        refine ⟨_, rfl, Or.inl ⟨_, _, _, _, rfl, rfl, SqL.of upd_same, rfl, _, _, rfl, rfl, _, _, rfl, by omega, by omega, fun x hx => ?_⟩⟩
        refine ⟨_, rfl, _, _, rfl, rfl, m0, ?_⟩
        refine q _ _ (Int.emod_nonneg _ (by omega)) (Int.emod_lt_of_pos _ m0) ⟨c, ns, k1, r1, m + 1, t, ⟨by rw [upd_same]; rfl, by rw [upd_ne hdc.symm]; exact D1.cut, D1.kle, D1.few, D1.rnn⟩, by omega⟩ fun b o e hb => ?_
        rw [upd_ne hb]
        exact kb1 b o e hb
    · -- deck[2] == 0 and deck[1] < len(deck[0])
      refine ⟨_, rfl, Or.inl ⟨_, _, _, _, rfl, rfl, SqL.of DA.deck, rfl, Or.inl ⟨rfl, _, rfl, ?_⟩⟩⟩
      refine ite2 (fun hz => ?_) (fun hz => iteF (rest _ _ ⟨k, r, none, none, rfl, DA, KeepBut.refl _ _⟩))
      have r0 := ofInt hz
      subst r0
      refine ⟨_, rfl, Or.inl ⟨_, _, _, _, rfl, rfl, SqL.of DA.deck, rfl, _, rfl, Or.inl ⟨_, _, _, _, rfl, rfl, SqL.of DA.deck, rfl, _, _, rfl, Or.inl ⟨_, SqL.of DA.cut, rfl⟩, _, _, rfl, rfl, _, rfl, ?_⟩⟩⟩
      refine ite2 (fun hk => ?_) (fun _ => rest _ _ ⟨k, 0, none, none, rfl, DA, KeepBut.refl _ _⟩)
      have hk2 : (k : Int) < (ns.map V.int).length := of_decide_eq_true hk
      rw [List.length_map] at hk2
      have hk3 : k < ns.length := by omega
      have hat : (ns.map V.int)[k]? = some (.int ns[k]) := by simp [hk3]
      refine ⟨_, rfl, Or.inl ⟨_, _, _, _, rfl, rfl, SqL.of DA.deck, rfl, _, rfl, Or.inl ⟨_, _, _, _, rfl, rfl, SqL.of DA.deck, rfl, Or.inl ⟨_, _, _, _, rfl, rfl, SqL.of DA.cut, atI_nat hat, ?_⟩⟩⟩⟩
      refine ⟨_, rfl, Or.inl ⟨_, _, _, _, rfl, rfl, SqL.of DA.deck, rfl, _, _, rfl, rfl, _, rfl, _, _, _, 1, rfl, rfl, DA.deck, rfl, ?_⟩⟩
      have D1 : DeckAt (upd H d (.lst [.ref c, .int ((k + 1 : Nat) : Int), .int 0, .int m, .int t])) d c ns (k + 1) 0 m t := ⟨upd_same, by rw [upd_ne hdc.symm]; exact DA.cut, hk3, DA.few, Int.le_refl _⟩
      have kb1 : KeepBut d H (upd H d (.lst [.ref c, .int ((k + 1 : Nat) : Int), .int 0, .int m, .int t])) := fun b o e hb => by rw [upd_ne hb]; exact e
      show tSeq _ _ _ _ (upd H d (.lst [.ref c, .int ((k + 1 : Nat) : Int), .int 0, .int m, .int t]))
      generalize upd H d (.lst [.ref c, .int ((k + 1 : Nat) : Int), .int 0, .int m, .int t]) = H1 at D1 kb1
      refine ⟨_, rfl, _, _, rfl, rfl, ⟨by decide, by decide, by decide⟩, _, _, rfl, rfl, _, rfl, ?_⟩
      refine ite2 (fun _ => ?_) (fun hc => ?_)
      · refine ⟨_, rfl, _, rfl, Or.inl ⟨_, _, _, _, rfl, rfl, SqL.of D1.deck, rfl, _, _, rfl, by omega, by have := D1.kle; have := D1.few; omega, fun x hx => ?_⟩⟩
        refine ⟨_, rfl, _, _, rfl, rfl, m0, ?_⟩
        exact q _ _ (Int.emod_nonneg _ (by omega)) (Int.emod_lt_of_pos _ m0) ⟨c, ns, k + 1, 0, m, t, D1, by omega⟩ kb1
      · have hc2 : ¬ ns[k] < (10 : Int) ^ (18 : Int).toNat := fun z => hc (decide_eq_true z)
        have hc3 : (10 : Int) ^ (18 : Int).toNat ≤ ns[k] := Int.not_lt.mp hc2
        have hc4 : (0 : Int) ≤ ns[k] := Int.le_trans (by decide) hc3
        refine ⟨_, rfl, _, rfl, _, _, _, 2, rfl, rfl, D1.deck, rfl, ?_⟩
        refine rest _ _ ⟨k + 1, ns[k], some (.int ns[k]), none, rfl, ⟨upd_same, by rw [upd_ne hdc.symm]; exact D1.cut, D1.kle, D1.few, hc4⟩, fun b o e hb => ?_⟩
        rw [upd_ne hb]
        exact kb1 b o e hb
def spCell : Sp := fun vs H Q _ => ∃ (d : Addr) (n : Nat), vs = [.ref d] ∧ Deck H d n ∧ n + 2 < 2 ^ 40 ∧
  ∀ (c : Option Int) (H' : Hp), CellOk c → Deck H' d (n + 2) → KeepBut d H H' → Q (cellV c) H'
theorem df_law_cell (T : Txt K mg) : Df P w K mg base 3 "_law_cell" ["deck"] spCell := by
  refine T.d_law_cell.ok sc_law_cell (fun vs H Q E h => ?_) (fun f cdv A outer s H vs Q E hr h => ?_)
  · obtain ⟨d, n, rfl, _⟩ := h
    rfl
  · obtain ⟨d, n, rfl, D, hn, q⟩ := h
    refine ⟨_, (@pss_cons _ _ _ _ _ (@ps_set _ _ 1 _ _ _ _ sc_law_cell.nd rfl (by first | exact Or.inl rfl | exact Or.inr rfl) (@pe_df _ _ _ _ _ _ _ _ _ _ (df_law_next T) (hr.mono (by decide)) (@pa_cons _ _ _ _ _ (pv 0) (@pa_cons _ _ _ _ _ pe_int pa_nil (by rfl)) (by rfl)) (by rfl) (by decide) (by rfl) (by rfl)) (by rfl) (by first | exact .inl rfl | exact .inr rfl))
      (@pss_cons _ _ _ _ _ (@ps_if _ _ _ _ _ _ _ _ (@pt_cmpR _ _ _ _ _ _ _ _ (op_eqA hr.units) (pv 1) pe_int (nomark _)) (@pss_one _ _ _ (@ps_ret _ _ _ _ pe_non)) pss_nil)
      (@pss_cons _ _ _ _ _ (@ps_if _ _ _ _ _ _ _ _ (@pt_cmpR _ _ _ _ _ _ _ _ op_lt (pv 1) pe_int (nomark _)) (@pss_one _ _ _ (@ps_ret _ _ _ _ (@pe_op _ _ _ _ _ _ _ _ op_sub (@pe_df _ _ _ _ _ _ _ _ _ _ (df_law_next T) (hr.mono (by decide)) (@pa_cons _ _ _ _ _ (pv 0) (@pa_cons _ _ _ _ _ pe_int pa_nil (by rfl)) (by rfl)) (by rfl) (by decide) (by rfl) (by rfl)) pe_int))) pss_nil)
      (@pss_cons _ _ _ _ _ (@ps_if _ _ _ _ _ _ _ _ (@pt_cmpR _ _ _ _ _ _ _ _ (op_eqA hr.units) (pv 1) pe_int (nomark _)) (@pss_one _ _ _ (@ps_ret _ _ _ _ (@pe_ix _ _ _ _ _ _ _ (ix_seqK (K := K) rfl) (@pe_lst _ _ _ _ (@pa_cons _ _ _ _ _ (@pe_op _ _ _ _ _ _ _ _ op_pow pe_int pe_int) (@pa_cons _ _ _ _ _ (@pe_op _ _ _ _ _ _ _ _ op_sub pe_int (@pe_op _ _ _ _ _ _ _ _ op_pow pe_int pe_int)) (@pa_cons _ _ _ _ _ pe_int (@pa_cons _ _ _ _ _ pe_int (@pa_cons _ _ _ _ _ (@pe_un _ _ _ _ _ _ un_neg pe_int) pa_nil star_un) (by rfl)) (by rfl)) star_bin) star_bin)) (@pe_df _ _ _ _ _ _ _ _ _ _ (df_law_next T) (hr.mono (by decide)) (@pa_cons _ _ _ _ _ (pv 0) (@pa_cons _ _ _ _ _ pe_int pa_nil (by rfl)) (by rfl)) (by rfl) (by decide) (by rfl) (by rfl)) (fun _ _ => rfl)))) pss_nil)
      (@pss_cons _ _ _ _ _ (@ps_if _ _ _ _ _ _ _ _ (@pt_cmpR _ _ _ _ _ _ _ _ (op_eqA hr.units) (pv 1) pe_int (nomark _)) (@pss_one _ _ _ (@ps_ret _ _ _ _ (@pe_op _ _ _ _ _ _ _ _ op_sub (@pe_df _ _ _ _ _ _ _ _ _ _ (df_law_next T) (hr.mono (by decide)) (@pa_cons _ _ _ _ _ (pv 0) (@pa_cons _ _ _ _ _ (@pe_op _ _ _ _ _ _ _ _ op_add (@pe_op _ _ _ _ _ _ _ _ op_mul pe_int (@pe_op _ _ _ _ _ _ _ _ op_pow pe_int pe_int)) pe_int) pa_nil star_bin) (by rfl)) (by rfl) (by decide) (by rfl) (by rfl)) (@pe_op _ _ _ _ _ _ _ _ op_pow pe_int pe_int)))) pss_nil)
      (@pss_one _ _ _ (@ps_ret _ _ _ _ (@pe_op _ _ _ _ _ _ _ _ op_sub (@pe_df _ _ _ _ _ _ _ _ _ _ (df_law_next T) (hr.mono (by decide)) (@pa_cons _ _ _ _ _ (pv 0) (@pa_cons _ _ _ _ _ pe_int pa_nil (by rfl)) (by rfl)) (by rfl) (by decide) (by rfl) (by rfl)) pe_int)))))))), ?_⟩
    refine ⟨_, rfl, _, _, _, rfl, D, (by decide), (by decide), by omega, fun way H1 w0 w1 D1 k1 => ?_⟩
    refine ⟨_, rfl, Or.inl ⟨rfl, _, rfl, ?_⟩⟩
    refine ite2 (fun _ => q none H1 (fun i e => by cases e) (D1.more (by omega)) k1) (fun _ => ?_)
    refine ⟨_, rfl, _, _, rfl, rfl, _, rfl, ?_⟩
    refine ite2 (fun _ => ?_) (fun _ => ?_)
    · refine ⟨_, rfl, _, _, _, rfl, D1, (by decide), (by decide), by omega, fun x H2 x0 x1 D2 k2 => ?_⟩
      refine ⟨_, _, rfl, rfl, ?_⟩
      exact q (some (x - 3)) H2 (fun i e => by cases e; omega) D2 (k1.trans k2)
    refine ⟨_, rfl, Or.inl ⟨rfl, _, rfl, ?_⟩⟩
    refine ite2 (fun _ => ?_) (fun _ => ?_)
    · refine ⟨_, _, rfl, rfl, ⟨by decide, by decide, by decide⟩, _, _, rfl, rfl, ⟨by decide, by decide, by decide⟩, _, _, rfl, rfl, _, rfl, (by show 5 ≤ sizeLine; decide), fun p hp => ?_⟩
      refine ⟨_, rfl, _, _, _, rfl, D1.upd hp, (by decide), (by decide), by omega, fun x H2 x0 x1 D2 k2 => ?_⟩
      have hpd : p ≠ d := by
        obtain ⟨xs, e⟩ := D1.lst
        exact (ne_of_none e hp).symm
      have e2 := k2 p _ upd_same hpd
      obtain ⟨v, e3, e4⟩ := atI_mem (xs := [V.int ((10 : Int) ^ (9 : Int).toNat), V.int (0 - (10 : Int) ^ (9 : Int).toNat), V.int 0, V.int 10, V.int (-1)]) x0 (by exact x1)
      refine Or.inl ⟨_, _, _, _, rfl, rfl, SqL.of e2, e3, ?_⟩
      have kk : KeepBut d H H2 := fun b o e hb => k2 b o (by rw [upd_ne (ne_of_none (k1 b o e hb) hp)]; exact k1 b o e hb) hb
      have ten : (10 : Int) ^ (9 : Int).toNat = 1000000000 := by decide
      rw [ten] at e4
      simp only [List.mem_cons, List.not_mem_nil, or_false] at e4
      rcases e4 with e | e | e | e | e
      · rw [e]; exact q (some 1000000000) H2 (fun i e => by cases e; omega) D2 kk
      · rw [e]; exact q (some (0 - 1000000000)) H2 (fun i e => by cases e; omega) D2 kk
      · rw [e]; exact q (some 0) H2 (fun i e => by cases e; omega) D2 kk
      · rw [e]; exact q (some 10) H2 (fun i e => by cases e; omega) D2 kk
      · rw [e]; exact q (some (-1)) H2 (fun i e => by cases e; omega) D2 kk
    refine ⟨_, rfl, Or.inl ⟨rfl, _, rfl, ?_⟩⟩
    refine ite2 (fun _ => ?_) (fun _ => ?_)
    · refine ⟨_, rfl, _, _, rfl, rfl, ⟨by decide, by decide, by decide⟩, _, _, rfl, rfl, Or.inl ⟨by decide, by decide⟩, _, _, rfl, rfl, ?_⟩
      refine ⟨_, _, _, rfl, D1, (by decide), (by decide), by omega, fun x H2 x0 x1 D2 k2 => ?_⟩
      refine ⟨_, _, rfl, rfl, ⟨by decide, by decide, by decide⟩, _, _, rfl, rfl, ?_⟩
      have ten : (10 : Int) ^ (9 : Int).toNat = 1000000000 := by decide
      rw [ten] at x1 ⊢
      exact q (some (x - 1000000000)) H2 (fun i e => by cases e; omega) D2 (k1.trans k2)
    · refine ⟨_, rfl, _, _, _, rfl, D1, (by decide), (by decide), by omega, fun x H2 x0 x1 D2 k2 => ?_⟩
      refine ⟨_, _, rfl, rfl, ?_⟩
      exact q (some (x - 1000)) H2 (fun i e => by cases e; omega) D2 (k1.trans k2)
def spField : Sp := fun vs H Q _ => ∃ (d : Addr) (n : Nat), vs = [.ref d] ∧ Deck H d n ∧ n + 300 < 2 ^ 40 ∧
  ∀ (v : V) (F : List (List (Option Int))) (h w : Nat) (H' : Hp), FieldOk F h w → IsD H' v (fieldD F) → Deck H' d (n + 300) → KeepBut d H H' → Q v H'
theorem size_of {x y z : Int} (x0 : 0 ≤ x) (x1 : x < 12) (y0 : 0 ≤ y) (y1 : y < 4) (z0 : 0 ≤ z) (z1 : z < 4) :
    ∃ h : Nat, atI [V.int (1 + x), V.int (1 + y), V.int 12, V.int 1] z = some (.int h) ∧ 1 ≤ h ∧ h ≤ 12 := by
  obtain ⟨v, e3, e4⟩ := atI_mem (xs := [V.int (1 + x), V.int (1 + y), V.int 12, V.int 1]) z0 (by exact z1)
  simp only [List.mem_cons, List.not_mem_nil, or_false] at e4
  rcases e4 with e | e | e | e
  · refine ⟨(1 + x).toNat, ?_, by omega, by omega⟩
    rw [e3, e]; congr 2; omega
  · refine ⟨(1 + y).toNat, ?_, by omega, by omega⟩
    rw [e3, e]; congr 2; omega
  · exact ⟨12, by rw [e3, e]; rfl, by omega, by omega⟩
  · exact ⟨1, by rw [e3, e]; rfl, by omega, by omega⟩
theorem df_law_field (T : Txt K mg) : Df P w K mg base 4 "_law_field" ["deck"] spField := by
  refine T.d_law_field.ok sc_law_field (fun vs H Q E h => ?_) (fun f cdv A outer s H vs Q E hr h => ?_)
  · obtain ⟨d, n, rfl, _⟩ := h
    rfl
  · obtain ⟨d, n, rfl, D, hn, q⟩ := h
    obtain ⟨_, Dl⟩ := id D.lst
    refine ⟨_, (@pss_cons _ _ _ _ _ (@ps_set _ _ 1 _ _ _ _ sc_law_field.nd rfl (by first | exact Or.inl rfl | exact Or.inr rfl) (@pe_ix _ _ _ _ _ _ _ (ix_seqK (K := K) rfl) (@pe_lst _ _ _ _ (@pa_cons _ _ _ _ _ (@pe_op _ _ _ _ _ _ _ _ op_add pe_int (@pe_df _ _ _ _ _ _ _ _ _ _ (df_law_next T) (hr.mono (by decide)) (@pa_cons _ _ _ _ _ (pv 0) (@pa_cons _ _ _ _ _ pe_int pa_nil (by rfl)) (by rfl)) (by rfl) (by decide) (by rfl) (by rfl))) (@pa_cons _ _ _ _ _ (@pe_op _ _ _ _ _ _ _ _ op_add pe_int (@pe_df _ _ _ _ _ _ _ _ _ _ (df_law_next T) (hr.mono (by decide)) (@pa_cons _ _ _ _ _ (pv 0) (@pa_cons _ _ _ _ _ pe_int pa_nil (by rfl)) (by rfl)) (by rfl) (by decide) (by rfl) (by rfl))) (@pa_cons _ _ _ _ _ pe_int (@pa_cons _ _ _ _ _ pe_int pa_nil (by rfl)) (by rfl)) star_bin) star_bin)) (@pe_df _ _ _ _ _ _ _ _ _ _ (df_law_next T) (hr.mono (by decide)) (@pa_cons _ _ _ _ _ (pv 0) (@pa_cons _ _ _ _ _ pe_int pa_nil (by rfl)) (by rfl)) (by rfl) (by decide) (by rfl) (by rfl)) (fun _ _ => rfl)) (by rfl) (by first | exact .inl rfl | exact .inr rfl))
      (@pss_cons _ _ _ _ _ (@ps_set _ _ 2 _ _ _ _ sc_law_field.nd rfl (by first | exact Or.inl rfl | exact Or.inr rfl) (@pe_ix _ _ _ _ _ _ _ (ix_seqK (K := K) rfl) (@pe_lst _ _ _ _ (@pa_cons _ _ _ _ _ (@pe_op _ _ _ _ _ _ _ _ op_add pe_int (@pe_df _ _ _ _ _ _ _ _ _ _ (df_law_next T) (hr.mono (by decide)) (@pa_cons _ _ _ _ _ (pv 0) (@pa_cons _ _ _ _ _ pe_int pa_nil (by rfl)) (by rfl)) (by rfl) (by decide) (by rfl) (by rfl))) (@pa_cons _ _ _ _ _ (@pe_op _ _ _ _ _ _ _ _ op_add pe_int (@pe_df _ _ _ _ _ _ _ _ _ _ (df_law_next T) (hr.mono (by decide)) (@pa_cons _ _ _ _ _ (pv 0) (@pa_cons _ _ _ _ _ pe_int pa_nil (by rfl)) (by rfl)) (by rfl) (by decide) (by rfl) (by rfl))) (@pa_cons _ _ _ _ _ pe_int (@pa_cons _ _ _ _ _ pe_int pa_nil (by rfl)) (by rfl)) star_bin) star_bin)) (@pe_df _ _ _ _ _ _ _ _ _ _ (df_law_next T) (hr.mono (by decide)) (@pa_cons _ _ _ _ _ (pv 0) (@pa_cons _ _ _ _ _ pe_int pa_nil (by rfl)) (by rfl)) (by rfl) (by decide) (by rfl) (by rfl)) (fun _ _ => rfl)) (by rfl) (by first | exact .inl rfl | exact .inr rfl))
      (@pss_one _ _ _ (@ps_ret _ _ _ _ (@pe_callTy _ _ _ _ _ _ _ _ _ (call_tupleK (K := K) rfl) (by rfl) T.n_tuple bt_tuple (@pa_cons _ _ _ _ _ (pe_compIf (M := ["width", "deck"]) (idx := [2, 0]) rfl (pi_range1 (by rfl) T.n_range (@pa_cons _ _ _ _ _ (pv 1) pa_nil (by rfl))) (compOk (by kernel_rfl)) (by decide +kernel) (by first | exact Or.inl rfl | exact Or.inr rfl) (fun _ _ _ _ _ => pts_nil) (fun _ _ _ _ _ => (@pe_callTy _ _ _ _ _ _ _ _ _ (call_tupleK (K := K) rfl) (by rfl) T.n_tuple bt_tuple (@pa_cons _ _ _ _ _ (pe_compIf (M := ["deck"]) (idx := [2]) rfl (pi_range1 (by rfl) T.n_range (@pa_cons _ _ _ _ _ (pv 1) pa_nil (by rfl))) (compOk (by kernel_rfl)) (by decide +kernel) (by first | exact Or.inl rfl | exact Or.inr rfl) (fun _ _ _ _ _ => pts_nil) (fun _ _ _ _ _ => (@pe_df _ _ _ _ _ _ _ _ _ _ (df_law_cell T) (hr.mono (by decide)) (@pa_cons _ _ _ _ _ (pv 1) pa_nil (by rfl)) (by rfl) (by decide) (by rfl) (by rfl)))) pa_nil star_comp) (by decide) (by decide) (by rfl) (by rfl)))) pa_nil star_comp) (by decide) (by decide) (by rfl) (by rfl)))))), ?_⟩
    refine ⟨_, rfl, _, _, _, rfl, D, (by decide), (by decide), by omega, fun x1 H1 a1 b1 D1 k1 => ?_⟩
    refine ⟨_, _, rfl, rfl, _, rfl, _, _, _, rfl, D1, (by decide), (by decide), by omega, fun x2 H2 a2 b2 D2 k2 => ?_⟩
    refine ⟨_, _, rfl, rfl, (by show 4 ≤ sizeLine; decide), fun p hp => ?_⟩
    have hpd : p ≠ d := by
      obtain ⟨xs, e⟩ := D2.lst
      exact (ne_of_none e hp).symm
    refine ⟨_, rfl, _, _, _, rfl, D2.upd hp, (by decide), (by decide), by omega, fun x3 H3 a3 b3 D3 k3 => ?_⟩
    obtain ⟨h, eh, h1, h12⟩ := size_of a1 b1 a2 b2 a3 b3
    refine Or.inl ⟨_, _, _, _, rfl, rfl, SqL.of (k3 p _ upd_same hpd), eh, ?_⟩
    have K3 : KeepBut d H H3 := (k1.trans k2).upd hp |>.trans k3
    refine ⟨_, rfl, _, _, _, rfl, D3, (by decide), (by decide), by omega, fun x4 H4 a4 b4 D4 k4 => ?_⟩
    refine ⟨_, _, rfl, rfl, _, rfl, _, _, _, rfl, D4, (by decide), (by decide), by omega, fun x5 H5 a5 b5 D5 k5 => ?_⟩
    refine ⟨_, _, rfl, rfl, (by show 4 ≤ sizeLine; decide), fun p2 hp2 => ?_⟩
    have hpd2 : p2 ≠ d := by
      obtain ⟨xs, e⟩ := D5.lst
      exact (ne_of_none e hp2).symm
    refine ⟨_, rfl, _, _, _, rfl, D5.upd hp2, (by decide), (by decide), by omega, fun x6 H6 a6 b6 D6 k6 => ?_⟩
    obtain ⟨wd, ew, w1, w12⟩ := size_of a4 b4 a5 b5 a6 b6
    refine Or.inl ⟨_, _, _, _, rfl, rfl, SqL.of (k6 p2 _ upd_same hpd2), ew, ?_⟩
    have K6 : KeepBut d H H6 := (((K3.trans k4).trans k5).upd hp2).trans k6
    refine ⟨_, rfl, _, rfl, by omega, by omega, ?_⟩
    refine compW_range (fun i ys H' => ∃ rows : List (List (Option Int)), rows.length = i ∧ IsDs H' ys (rows.map rowD) ∧ (∀ r ∈ rows, r.length = wd) ∧ (∀ r ∈ rows, ∀ c ∈ r, CellOk c) ∧ Deck H' d (n + 6 + 24 * i) ∧ KeepBut d H H')
      ⟨[], rfl, .nil, fun r hr => absurd hr (by simp), fun r hr => absurd hr (by simp), D6.more (by omega), K6⟩ (by show h ≤ sizeLine; exact Nat.le_trans h12 (by decide)) ?_ ?_
    · rintro i ys H7 hi ⟨rows, rl, ry, rw, rc, D7, K7⟩
      have hi' : i < 12 := by have : i < (h : Int).toNat := hi; omega
      refine oneT ?_
      refine ⟨_, rfl, _, rfl, by omega, by omega, ?_⟩
      refine compW_range (fun j zs H' => ∃ r : List (Option Int), r.length = j ∧ zs = r.map cellV ∧ (∀ c ∈ r, CellOk c) ∧ Deck H' d (n + 6 + 24 * i + 2 * j) ∧ KeepBut d H7 H')
        ⟨[], rfl, rfl, fun c hc => absurd hc (by simp), D7.more (by omega), KeepBut.refl _ _⟩ (by show wd ≤ sizeLine; exact Nat.le_trans w12 (by decide)) ?_ ?_
      · rintro j zs H8 hj ⟨r, lr, er, cr, D8, K8⟩
        have hj' : j < 12 := by have : j < (wd : Int).toNat := hj; omega
        refine oneT ?_
        refine ⟨_, rfl, _, _, rfl, D8, by omega, fun c H9 oc D9 k9 => ?_⟩
        refine ⟨r ++ [c], by rw [List.length_append, lr]; rfl, by rw [er, List.map_append]; rfl, fun c' hc' => ?_, D9.more (by omega), K8.trans k9⟩
        rcases List.mem_append.mp hc' with z | z
        · exact cr c' z
        · have : c' = c := by simpa using z
          rw [this]; exact oc
      · rintro zs H8 ⟨r, lr, er, cr, D8, K8⟩ p3 hp3
        refine ⟨_, _, rfl, Or.inl ⟨SqL.of upd_same, fun l hl => ?_⟩⟩
        have lr' : r.length = wd := lr
        have k8 : KeepT H7 H8 := by
          obtain ⟨xs, e⟩ := D7.lst
          exact K8.tups e
        have kk : Same H8 (upd (upd H8 p3 (.lst zs)) l (.tup zs)) := (same_upd hp3).trans (same_upd hl)
        refine ⟨rows ++ [r], by rw [List.length_append, rl]; rfl, ?_, fun r' hr' => ?_, fun r' hr' => ?_, (D8.keep kk).more (by rw [lr'] at lr; have : (wd : Int).toNat ≤ 12 := (by omega); omega), ((K7.trans K8).trans (kk.but d))⟩
        · rw [List.map_append]
          refine (ry.keep (k8.trans kk.tups)).append (.cons (.tup upd_same ?_) .nil)
          rw [er]
          exact isCells r
        · rcases List.mem_append.mp hr' with z | z
          · exact rw r' z
          · have : r' = r := by simpa using z
            rw [this]; exact lr'
        · rcases List.mem_append.mp hr' with z | z
          · exact rc r' z
          · have : r' = r := by simpa using z
            rw [this]; exact cr
    · rintro ys H7 ⟨rows, rl, ry, rw, rc, D7, K7⟩ p3 hp3
      refine ⟨_, _, rfl, Or.inl ⟨SqL.of upd_same, fun l hl => ?_⟩⟩
      have rl' : rows.length = h := rl
      have kk : Same H7 (upd (upd H7 p3 (.lst ys)) l (.tup ys)) := (same_upd hp3).trans (same_upd hl)
      exact q (.ref l) rows h wd _ ⟨rl', h1, h12, w1, w12, rw, rc⟩ (.tup upd_same (ry.keep kk.tups)) ((D7.keep kk).more (by have : (h : Int).toNat ≤ 12 := (by omega); omega)) (K7.trans (kk.but d))
theorem eqS {x y : Str} (h : x = y) : decide (V.str x = V.str y) = true := decide_eq_true (by rw [h])
theorem neS {x y : Str} (h : ¬ x = y) : decide (V.str x = V.str y) = false := decide_eq_false fun e => h (V.str.inj e)
theorem str_ext {a b : Str} (h : a.cps.toList = b.cps.toList) : a = b := by
  cases a
  cases b
  exact congrArg Str.mk (Array.toList_inj.mp h)
theorem starts_minus (x : Str) : (decide (0 + (("-" : Str)).length ≤ x.length) && Builtin.Str.subAt x ("-" : Str) 0) = decide (x.cps.toList.head? = some 45) := by
  rw [PySem.StrLaws.subAt_eq]
  have e1 : (("-" : Str)).length = 1 := by decide +kernel
  have e2 : (("-" : Str)).cps.toList = [45] := by decide +kernel
  rw [e1, e2, List.drop_zero]
  have e3 : x.length = x.cps.toList.length := by simp [Str.length]
  rw [e3]
  cases h : x.cps.toList with
  | nil => simp
  | cons c r => by_cases hc : c = 45 <;> simp [hc]
theorem in_fig128 : ((List.range 128).all fun c => (!(Builtin.Str.occurrences ("0123456789" : Str) ⟨#[c]⟩ 0 (("0123456789" : Str)).length 1).isEmpty) == digC c) = true := by decide +kernel
theorem in_figB {c : Nat} (h : c < 128) : (!(Builtin.Str.occurrences ("0123456789" : Str) ⟨#[c]⟩ 0 (("0123456789" : Str)).length 1).isEmpty) = digC c := by
  have := List.all_eq_true.mp in_fig128 c (List.mem_range.mpr h)
  simpa using this
def figS (x : Str) : Str := ⟨(figL (cpsOf x)).toArray⟩
theorem figS_cps (x : Str) : (figS x).cps.toList = figL (cpsOf x) := by show (figL (cpsOf x)).toArray.toList = _; simp
theorem str_is (x y : Str) : decide (V.str x = V.str y) = decide (cpsOf x = cpsOf y) := by
  by_cases h : x = y
  · rw [h, decide_eq_true rfl, decide_eq_true rfl]
  · rw [decide_eq_false fun e => h (V.str.inj e), decide_eq_false (show ¬ cpsOf x = cpsOf y from fun e => h (str_ext e))]
theorem cps_0 : cpsOf ("0" : Str) = [48] := by decide +kernel
theorem cps_e : cpsOf ("" : Str) = [] := by decide +kernel
theorem cps_dot : cpsOf ("." : Str) = [46] := by decide +kernel
theorem len_cps (x : Str) : (cpsOf x).length = x.length := by unfold cpsOf; simp [Str.length]
theorem figL_sub (w : List Nat) : ∀ c ∈ figL w, c ∈ w := fun c hc => by
  unfold figL at hc
  split at hc
  · exact List.mem_of_mem_tail hc
  · exact hc
theorem figL_len (w : List Nat) : (figL w).length ≤ w.length := by
  unfold figL
  split
  · rw [List.length_tail]; omega
  · exact Nat.le_refl _
def spIsNumX : Sp := fun vs H Q _ => ∃ (x : Str), vs = [.str x] ∧ Asc x ∧ x.length ≤ 1000000 ∧ ∀ H', Same H H' → Q (.bl (numB (cpsOf x))) H'
theorem df_is_number (T : Txt K mg) : Df P w K mg base 1 "is_number" ["word"] spIsNumX := by
  refine T.d_is_number.ok sc_is_number (fun vs H Q E h => ?_) (fun f cdv A outer s H vs Q E hr h => ?_)
  · obtain ⟨x, rfl, _⟩ := h
    rfl
  · obtain ⟨x, rfl, asc, wl, q⟩ := h
    refine ⟨_, (@pss_cons _ _ _ _ _ (@ps_set _ _ 1 _ _ _ _ sc_is_number.nd rfl (by first | exact Or.inl rfl | exact Or.inr rfl) (pe_ifExp (@pt_val _ _ _ (pe_bmK (K := K) rfl PySem.F.plainAttrs_str PySem.F.slot_str_startswith PySem.F.type_str_startswith mt_startswith (pv 0) (@pa_cons _ _ _ _ _ pe_str pa_nil (by rfl))) (by intro _; rfl)) (pe_slice sl_str1 (pv 0) (po_some pe_int) po_none) (pv 0)) (by rfl) (by first | exact .inl rfl | exact .inr rfl))
      (@pss_cons _ _ _ _ _ (@ps_if _ _ _ _ _ _ _ _ (@pt_cmpR _ _ _ _ _ _ _ _ (op_eqA hr.units) (pv 1) pe_str (nomark _)) (@pss_one _ _ _ (@ps_ret _ _ _ _ (@pe_cmpR _ _ _ _ _ _ _ _ (op_eqA hr.units) (pv 0) pe_str (nomark _)))) pss_nil)
      (@pss_cons _ _ _ _ _ (@ps_if _ _ _ _ _ _ _ _ (pw_or (@pt_cmpR _ _ _ _ _ _ _ _ (op_eqA hr.units) (pv 1) pe_str (nomark _)) (pw_or1 (@pt_cmpR _ _ _ _ _ _ _ _ (op_eqA hr.units) (@pe_ix _ _ _ _ _ _ _ (ix_seqK (K := K) rfl) (pv 1) pe_int (fun _ _ => rfl)) pe_str (nomark _)))).pt (@pss_one _ _ _ (@ps_ret _ _ _ _ pe_bl)) pss_nil)
      (@pss_one _ _ _ (@ps_ret _ _ _ _ (@pe_callB _ _ _ _ _ _ _ _ _ (call_allK (K := K) rfl rfl) (by rfl) T.n_all bt_all (@pa_cons _ _ _ _ _ (pe_compIf (M := []) (idx := []) rfl (pi_str (pv 1)) (compOk (by kernel_rfl)) (by decide +kernel) (by first | exact Or.inl rfl | exact Or.inr rfl) (fun _ _ _ _ _ => pts_nil) (fun _ _ _ _ _ => (@pe_cmpR _ _ _ _ _ _ _ _ op_in_str (pv 0) (pe_globE (by rfl) T.g_FIGURES) (by rfl)))) pa_nil star_comp) (by decide) (by decide) (by rfl) (by rfl))))))), ?_⟩
    have fl : (figL (cpsOf x)).length ≤ 1000000 := by have := figL_len (cpsOf x); rw [len_cps] at this; omega
    refine tSeq_cut (fun σ' H' => σ' = [some (.str x), some (.str (figS x))] ∧ H' = H) ?_ (fun rest => ?_)
    · rintro _ H ⟨rfl, rfl⟩
      refine ⟨_, rfl, Or.inl ⟨rfl, _, rfl, ?_⟩⟩
      rw [str_is, cps_0, show cpsOf (figS x) = figL (cpsOf x) from figS_cps x]
      refine ite2 (fun z => ?_) (fun z => ?_)
      · have z0 : figL (cpsOf x) = [48] := of_decide_eq_true z
        refine ⟨_, rfl, Or.inl ⟨rfl, ?_⟩⟩
        have := q _ (Same.refl _)
        unfold numB at this
        rw [z0] at this
        rw [str_is, cps_0]
        simpa [digC] using this
      · have z0 : ¬ figL (cpsOf x) = [48] := fun e => z (decide_eq_true e)
        refine ⟨_, rfl, Or.inl ⟨rfl, _, rfl, ?_⟩⟩
        rw [str_is, cps_e, show cpsOf (figS x) = figL (cpsOf x) from figS_cps x]
        refine ite2 (fun y => ?_) (fun y => ?_)
        · have y0 : figL (cpsOf x) = [] := of_decide_eq_true y
          refine iteT ?_
          have := q _ (Same.refl _)
          unfold numB at this
          rw [y0] at this
          show Q (.bl false) H
          simpa using this
        · have y0 : ¬ figL (cpsOf x) = [] := fun e => y (decide_eq_true e)
          obtain ⟨c, r, hd⟩ : ∃ c r, figL (cpsOf x) = c :: r := by
            cases h : figL (cpsOf x) with
            | nil => exact absurd h y0
            | cons c r => exact ⟨c, r, rfl⟩
          have at0 : atI (figS x).cps.toList 0 = some c := by rw [figS_cps, hd]; show atI (c :: r) ((0 : Nat) : Int) = some c; exact atI_nat rfl
          refine ⟨_, rfl, Or.inr (Or.inr ⟨_, _, _, rfl, rfl, ?_, at0, Or.inl ⟨rfl, _, rfl, ?_⟩⟩)⟩
          · show (figL (cpsOf x)).toArray.size ≤ sizeLine
            rw [List.size_toArray]
            exact Nat.le_trans fl (by decide)
          rw [str_is, cps_0, show cpsOf (⟨#[c]⟩ : Str) = [c] from rfl]
          refine ite2 (fun e => ?_) (fun e => ?_)
          · have e0 : c = 48 := by have := of_decide_eq_true e; simpa using this
            have := q _ (Same.refl _)
            unfold numB at this
            have hx : ¬ cpsOf x = [48] := fun e2 => z0 (by rw [e2]; rfl)
            rw [hd, e0, decide_eq_false hx] at this
            show Q (.bl false) H
            simpa using this
          · have e0 : c ≠ 48 := fun e2 => e (by rw [e2]; rfl)
            refine ⟨_, rfl, _, rfl, ?_, ?_⟩
            · show (figL (cpsOf x)).toArray.all (· < 128) = true
              rw [← Array.all_toList, List.all_eq_true]
              intro d hdm
              have hdm' : d ∈ figL (cpsOf x) := by simpa using hdm
              have := asc d (figL_sub (cpsOf x) d hdm')
              simpa using this
            have sz : (figS x).cps.size = (figL (cpsOf x)).length := by show (figL (cpsOf x)).toArray.size = _; simp
            refine compW_str (x := figS x) (fun k zs H' => H' = H ∧ zs = (((figL (cpsOf x)).take k).map digC).map V.bl) ⟨rfl, rfl⟩ (by rw [sz]; exact Nat.le_trans fl (by decide)) ?_ ?_
            · rintro k d zs _ hd' ⟨rfl, rfl⟩
              refine oneT ?_
              have hm : (figL (cpsOf x))[k]? = some d := by
                rw [← figS_cps, Array.getElem?_toList]
                exact hd'
              have h128 : d < 128 := asc d (figL_sub _ d (List.mem_of_getElem? hm))
              refine ⟨_, rfl, _, _, rfl, rfl, ?_⟩
              rw [in_figB h128]
              refine ⟨rfl, ?_⟩
              rw [List.take_add_one, hm, List.map_append, List.map_append]
              rfl
            · rintro zs _ ⟨rfl, rfl⟩ l hl
              rw [sz, List.take_length]
              refine ⟨_, (figL (cpsOf x)).map digC, rfl, SqL.of upd_same, ?_⟩
              have := q _ (same_upd (o := .lst (((figL (cpsOf x)).map digC).map V.bl)) hl)
              unfold numB at this
              rw [decide_eq_true y0, decide_eq_true (show (figL (cpsOf x)).head? ≠ some 48 from fun e2 => e0 (by rw [hd] at e2; exact Option.some.inj e2)), Bool.true_or, Bool.and_true, Bool.and_true] at this
              rw [List.all_map]
              exact this
    · refine ⟨_, rfl, rfl, _, _, rfl, rfl, _, rfl, ?_⟩
      rw [starts_minus]
      by_cases neg : x.cps.toList.head? = some 45
      · rw [decide_eq_true neg]
        refine iteT ?_
        have ef : figL (cpsOf x) = (cpsOf x).tail := by unfold figL cpsOf; rw [if_pos neg]
        refine ⟨_, rfl, _, rfl, _, rfl, rfl, rfl, ?_, Nat.le_trans wl (by decide), ?_⟩
        · rw [← len_cps]
          unfold cpsOf
          cases h : x.cps.toList with
          | nil => rw [h] at neg; cases neg
          | cons c r => simp
        · refine rest _ _ ⟨?_, rfl⟩
          show [some (V.str x), some (V.str ⟨(x.cps.toList.drop 1).toArray⟩)] = [some (V.str x), some (V.str (figS x))]
          unfold figS
          rw [ef, List.drop_one]
          rfl
      · rw [decide_eq_false neg]
        refine iteF ?_
        refine ⟨_, rfl, rest _ _ ⟨?_, rfl⟩⟩
        have ef : figS x = x := str_ext (by rw [figS_cps]; unfold figL cpsOf; rw [if_neg neg])
        show [some (V.str x), some (V.str x)] = [some (V.str x), some (V.str (figS x))]
        rw [ef]
def spIsCellX : Sp := fun vs H Q _ => ∃ (x : Str), vs = [.str x] ∧ Asc x ∧ x.length ≤ 1000000 ∧ ∀ H', Same H H' → Q (.bl (cellB (cpsOf x))) H'
theorem df_is_cell (T : Txt K mg) : Df P w K mg base 2 "is_cell" ["word"] spIsCellX := by
  refine T.d_is_cell.ok sc_is_cell (fun vs H Q E h => ?_) (fun f cdv A outer s H vs Q E hr h => ?_)
  · obtain ⟨x, rfl, _⟩ := h
    rfl
  · obtain ⟨x, rfl, asc, wl, q⟩ := h
    refine ⟨_, (@pss_one _ _ _ (@ps_ret _ _ _ _ (pe_or (@pe_cmpR _ _ _ _ _ _ _ _ (op_eqA hr.units) (pv 0) (pe_globE (by rfl) T.g_HOLE) (nomark _)) (pe_one (@pe_df _ _ _ _ _ _ _ _ _ _ (df_is_number T) (hr.mono (by decide)) (@pa_cons _ _ _ _ _ (pv 0) pa_nil (by rfl)) (by rfl) (by decide) (by rfl) (by rfl)))))), ?_⟩
    refine ⟨_, rfl, Or.inl ⟨rfl, ?_⟩⟩
    rw [str_is, cps_dot]
    by_cases e : cpsOf x = [46]
    · rw [decide_eq_true e]
      have := q _ (Same.refl _)
      unfold cellB at this
      rw [decide_eq_true e, Bool.true_or] at this
      exact ⟨_, rfl, iteT this⟩
    · rw [decide_eq_false e]
      refine ⟨_, rfl, iteF ⟨_, rfl, x, rfl, asc, wl, fun H' s => ?_⟩⟩
      have := q H' s
      unfold cellB at this
      rw [decide_eq_false e, Bool.false_or] at this
      exact this
def Wide (i : Int) : Prop := -10000000000 < i ∧ i < 10000000000
def CellW (c : Option Int) : Prop := ∀ i, c = some i → Wide i
theorem word_cps (c : Option Int) : (wordOf c).cps.toList = wordL c := by show (wordL c).toArray.toList = _; simp
theorem word_len {c : Option Int} (h : CellW c) : (wordOf c).length ≤ 11 := by
  show (wordL c).toArray.size ≤ 11
  rw [List.size_toArray]
  exact wordL_len c fun i e => h i e
theorem app_len (x y : Str) : (x ++ y).length = x.length + y.length := by
  show (x.cps ++ y.cps).size = _
  rw [Array.size_append]
  rfl
theorem log_small {n : Int} (h : Wide n) : n.natAbs.log2 < 1920 := by
  have h1 : n.natAbs < 2 ^ 40 := by unfold Wide at h; omega
  rcases Nat.eq_zero_or_pos n.natAbs with z | z
  · rw [z]; decide
  · exact Nat.lt_trans ((Nat.log2_lt (by omega)).mpr h1) (by decide)
theorem nf_len (n : Int) (h : Wide n) : (Str.empty ++ ("line " : Str) ++ Str.ofString (toString n) ++ (" is no row of this field" : Str)).length ≤ 100 := by
  have e0 : (Str.empty).length = 0 := rfl
  have e1 : (" is no row of this field" : Str).length = 24 := by decide +kernel
  have e3 : ("line " : Str).length = 5 := by decide +kernel
  have e2 : (Str.ofString (toString n)).length ≤ 11 := by rw [str_word]; exact word_len fun i e => by cases e; exact h
  simp only [app_len, e0, e1, e3]
  omega
def spNFInit (D : Addr) : Sp := fun vs H Q _ => ∃ (x : Addr) (n : Int), vs = [.ref x, .int n] ∧ H x = some (.ext (ExN x (.ref D) none)) ∧ Wide n ∧
  ∀ dx, H dx = none → dx ≠ x → Q .non (upd (upd H dx (.xd [(("row" : Str), .int n)])) x (.ext (ExN x (.ref D) (some dx))))
theorem df_NoField_init (T : Txt K mg) {D : Addr} (pD : excPut K D = true) (nD : NoAttr K D "row") (RD : RawE K D "NoField.__init__" ["self", "row"] s_NoField_init) : DfE P w K mg base 1 D ["self", "row"] (spNFInit D) := by
  obtain ⟨W, gW, qW⟩ := T.e_win
  obtain ⟨fI, fd0, ⟨m1, m2, m3⟩, F0, b0⟩ := id RD
  refine RD.ok sc_NoField_init (fun vs H Q E h => ?_) (fun f cdv A outer s H vs Q E hr h => ?_)
  · obtain ⟨x, n, rfl, _⟩ := h
    rfl
  · obtain ⟨x, n, rfl, hx, hn, q⟩ := h
    refine ⟨_, (@pss_cons _ _ _ _ _ (@ps_expr _ _ _ _ (pe_winit (K := K) rfl gW qW (@pa_cons _ _ _ _ _ (pv 0) (@pa_cons _ _ _ _ _ (pe_fstr (pj_cons pe_str (pj_cons (pe_fv (pv 1)) (pj_cons pe_str pj_nil)))) pa_nil (by rfl)) (by rfl))) (by rfl))
      (@pss_one _ _ _ (ps_xput (K := K) rfl (pv 0) (pv 1) rfl))), ?_⟩
    have l := nf_len n hn
    have fits : ∀ {n : Nat}, n ≤ 100 → n ≤ sizeLine := fun h => Nat.le_trans h (by decide)
    have l2 := l
    simp only [app_len] at l2
    refine ⟨_, rfl, _, rfl, fits (by simp only [app_len]; omega), _, rfl, n, rfl, log_small hn, _, rfl, fits (by simp only [app_len]; omega), _, rfl, fits l, fits l, x, D, fI, none, _, rfl, hx, m1, ?_⟩
    exact ⟨_, rfl, _, rfl, x, D, rfl, hx, pD, nD, fun dx hd ne => q dx hd ne⟩
theorem told_wipe {H : Hp} {y dx : Addr} {o1 o2 o3 : HO} (hy : H y = none) (hd : upd H y o1 dx = none) (ne : dx ≠ y) :
    Same H (wipe (upd (upd (upd H y o1) dx o2) y o3) y) ∧ H dx = none ∧ wipe (upd (upd (upd H y o1) dx o2) y o3) y dx = some o2 := by
  have h0 : H dx = none := by rw [upd_ne ne] at hd; exact hd
  refine ⟨fun b o e => ?_, h0, ?_⟩
  · have n1 := ne_of_none e hy
    have n2 := ne_of_none e h0
    rw [wipe_ne n1, upd_ne n1, upd_ne n2, upd_ne n1]
    exact e
  · rw [wipe_ne ne, upd_ne ne]
    exact upd_same
def ToldR (D : Addr) (n : Int) (H : Hp) (E : XK) : Prop := ∀ (dx : Addr) (H' : Hp), Same H H' → H' dx = some (.xd [(("row" : Str), .int n)]) → E (.ref D) (some dx) H'
def spCellRead : Sp := fun vs H Q _ => ∃ (c : Option Int), vs = [.str (wordOf c)] ∧ CellW c ∧ Q (cellV c) H
theorem df_cell_read (T : Txt K mg) : Df P w K mg base 1 "cell_read" ["word"] spCellRead := by
  refine T.d_cell_read.ok sc_cell_read (fun vs H Q E h => ?_) (fun f cdv A outer s H vs Q E hr h => ?_)
  · obtain ⟨c, rfl, _⟩ := h
    rfl
  · obtain ⟨c, rfl, hc, q⟩ := h
    refine ⟨_, (@pss_one _ _ _ (@ps_ret _ _ _ _ (pe_ifExp (@pt_cmpR _ _ _ _ _ _ _ _ (op_eqA hr.units) (pv 0) (pe_globE (by rfl) T.g_HOLE) (nomark _)) pe_non (@pe_callTy _ _ _ _ _ _ _ _ _ call_int_text (by rfl) T.n_int bt_int (@pa_cons _ _ _ _ _ (pv 0) pa_nil (by rfl)) (by decide) (by decide) (by rfl) (by rfl))))), ?_⟩
    refine ⟨_, rfl, Or.inl ⟨rfl, _, rfl, ?_⟩⟩
    cases c with
    | none =>
      rw [eqS word_none]
      exact iteT q
    | some i =>
      rw [neS (word_dot i)]
      refine iteF ?_
      refine ⟨_, rfl, _, i, rfl, int_word (hc i rfl), Nat.le_trans (word_len (c := some i) hc) (by decide), q⟩
theorem str_blank : ((" " : Str)) = ⟨#[32]⟩ := by decide +kernel
theorem str_nl : (("\n" : Str)) = ⟨#[10]⟩ := by decide +kernel
def spRowsX (mg : Str → Option Value) : Sp := fun vs H Q E => ∃ (ll : Addr) (xs : List Str), vs = [.ref ll] ∧ H ll = some (.lst (xs.map V.str)) ∧ (∀ x ∈ xs, Asc x ∧ x.length ≤ 100000) ∧ xs.length ≤ 200000 ∧ (∀ x ∈ xs, ∀ w ∈ lineC x, numB w = true → Wide (numOf w)) ∧
  (∀ F, rdL (xs.map lineC) [] = .inl F → ∀ (v : V) (H' : Hp), Same H H' → IsD H' v (fieldD F) → Q v H') ∧ ∀ (k : Nat), rdL (xs.map lineC) [] = .inr k → ∀ D, mg "NoField" = some (.ref D) → ToldR D k H E
theorem df_X_read_rows (T : Txt K mg) : DfXD P w K mg base 4 "read_rows" ["lines"] (spRowsX mg) := by
  obtain ⟨D, gD, pD, nD, RD⟩ := T.e_NoField
  obtain ⟨fI, fd0, ⟨m1, m2, m3⟩, F0, b0⟩ := id RD
  refine T.d_read_rows.okXD sc_read_rows (fun vs H Q E h => ?_) (fun f cdv A outer s H vs Q E hr h => ?_)
  · obtain ⟨ll, xs, rfl, _⟩ := h
    rfl
  · obtain ⟨ll, xs, rfl, hll, hx, lxs, hwide, qF, qE⟩ := h
    refine ⟨_, (@pss_cons _ _ _ _ _ (PS.nox (@ps_set _ _ 1 _ _ _ _ sc_read_rows.nd rfl (by first | exact Or.inl rfl | exact Or.inr rfl) (@pe_lst _ _ _ _ pa_nil) (by rfl) (by first | exact .inl rfl | exact .inr rfl)))
      (@pss_cons _ _ _ _ _ (@ps_for _ _ _ _ _ _ _ _ PassesOwn.leaving rfl (pi_enum (K := K) rfl (by rfl) T.n_enumerate (@pa_cons _ _ _ _ _ (pv 0) pa_nil (by rfl))) (pg_tupK (K := K) rfl rfl (pgs_cons (pg_name (i := 2) sc_read_rows.nd rfl (by first | exact Or.inl rfl | exact Or.inr rfl)) (pgs_cons (pg_name (i := 3) sc_read_rows.nd rfl (by first | exact Or.inl rfl | exact Or.inr rfl)) pgs_nil))) (@pss_cons _ _ _ _ _ (PS.nox (@ps_set _ _ 4 _ _ _ _ sc_read_rows.nd rfl (by first | exact Or.inl rfl | exact Or.inr rfl) (pe_bmK (K := K) rfl PySem.F.plainAttrs_str PySem.F.slot_str_split PySem.F.type_str_split mt_split (pv 3) (@pa_cons _ _ _ _ _ pe_str pa_nil (by rfl))) (by rfl) (by first | exact .inl rfl | exact .inr rfl)))
      (@pss_cons _ _ _ _ _ (@ps_if _ _ _ _ _ _ _ _ (PT.nox (@pt_not _ _ _ _ (@pt_val _ _ _ (@pe_callB _ _ _ _ _ _ _ _ _ (call_allK (K := K) rfl rfl) (by rfl) T.n_all bt_all (@pa_cons _ _ _ _ _ (pe_compIf (M := []) (idx := []) rfl (pi_seqK (K := K) rfl (pv 4)) (compOk (by kernel_rfl)) (by decide +kernel) (by first | exact Or.inl rfl | exact Or.inr rfl) (fun _ _ _ _ _ => pts_nil) (fun _ _ _ _ _ => (@pe_df _ _ _ _ _ _ _ _ _ _ (df_is_cell T) (hr.mono (by decide)) (@pa_cons _ _ _ _ _ (pv 0) pa_nil (by rfl)) (by rfl) (by decide) (by rfl) (by rfl)))) pa_nil star_comp) (by decide) (by decide) (by rfl) (by rfl)) (by intro _; rfl)))) (@pss_one _ _ _ (ps_raiseD rfl throwsD_out (pe_newXD (df_NoField_init T pD nD RD) (hr.mono (by decide)) gD (@pa_cons _ _ _ _ _ (pv 2) pa_nil (by rfl))))) pss_nil)
      (@pss_cons _ _ _ _ _ (@ps_if _ _ _ _ _ _ _ _ (PT.nox (pw_and (pt_truthK (K := K) rfl (pv 1) (fun _ => rfl)) (pw_and1 (@pt_cmpR _ _ _ _ _ _ _ _ (op_neA hr.units) (@pe_callB _ _ _ _ _ _ _ _ _ (call_lenK (K := K) rfl) (by rfl) T.n_len bt_len (@pa_cons _ _ _ _ _ (pv 4) pa_nil (by rfl)) (by decide) (by decide) (by rfl) (by rfl)) (@pe_callB _ _ _ _ _ _ _ _ _ (call_lenK (K := K) rfl) (by rfl) T.n_len bt_len (@pa_cons _ _ _ _ _ (@pe_ix _ _ _ _ _ _ _ (ix_seqK (K := K) rfl) (pv 1) pe_int (fun _ _ => rfl)) pa_nil star_sub) (by decide) (by decide) (by rfl) (by rfl)) (nomark _)))).pt) (@pss_one _ _ _ (ps_raiseD rfl throwsD_out (pe_newXD (df_NoField_init T pD nD RD) (hr.mono (by decide)) gD (@pa_cons _ _ _ _ _ (pv 2) pa_nil (by rfl))))) pss_nil)
      (@pss_one _ _ _ (PS.nox (@ps_expr _ _ _ _ (@pe_bm _ _ _ _ _ _ _ _ _ _ _ _ PySem.F.plainAttrs_list PySem.F.slot_list_append PySem.F.type_list_append mt_append (pv 1) (@pa_cons _ _ _ _ _ (@pe_callTy _ _ _ _ _ _ _ _ _ (call_tupleK (K := K) rfl) (by rfl) T.n_tuple bt_tuple (@pa_cons _ _ _ _ _ (pe_compIf (M := []) (idx := []) rfl (pi_seqK (K := K) rfl (pv 4)) (compOk (by kernel_rfl)) (by decide +kernel) (by first | exact Or.inl rfl | exact Or.inr rfl) (fun _ _ _ _ _ => pts_nil) (fun _ _ _ _ _ => (@pe_df _ _ _ _ _ _ _ _ _ _ (df_cell_read T) (hr.mono (by decide)) (@pa_cons _ _ _ _ _ (pv 0) pa_nil (by rfl)) (by rfl) (by decide) (by rfl) (by rfl)))) pa_nil star_comp) (by decide) (by decide) (by rfl) (by rfl)) pa_nil star_call) (by rfl) (by rfl) (by rfl) (by rfl) (by rfl)) (by rfl))))))) (by intro _; rfl))
      (@pss_one _ _ _ (PS.nox (@ps_ret _ _ _ _ (@pe_callTy _ _ _ _ _ _ _ _ _ (call_tupleK (K := K) rfl) (by rfl) T.n_tuple bt_tuple (@pa_cons _ _ _ _ _ (pv 1) pa_nil (by rfl)) (by decide) (by decide) (by rfl) (by rfl))))))), ?_⟩
    refine ⟨(by show 0 ≤ sizeLine; decide), fun c hc => ?_⟩
    have hc1 : upd H c (.lst []) c = some (.lst []) := upd_same
    have S1 : Same H (upd H c (.lst [])) := same_upd hc
    have el := S1 _ _ hll
    have nl : ll ≠ c := ne_of_none hll hc
    generalize upd H c (.lst []) = H1 at hc1 el S1 ⊢
    have keepH : ∀ {H' : Hp}, KeepBut c H1 H' → Same H H' := fun k b o e => k b o (S1 b o e) (ne_of_none e hc)
    refine ⟨_, rfl, _, rfl, ⟨_, SqL.of el⟩, ?_⟩
    refine for_enum (xs := xs.map V.str) (fun k σ H' => ∃ (v2 v3 v4 : Option V) (ys : List V) (rows : List (List (Option Int))), σ = [some (.ref ll), some (.ref c), v2, v3, v4] ∧ KeepBut c H1 H' ∧ H' c = some (.lst ys) ∧ IsDs H' ys (rows.map rowD) ∧ rows.length = k ∧ rdL (xs.map lineC) [] = rdL ((xs.drop k).map lineC) rows)
      ⟨none, none, none, [], [], rfl, KeepBut.refl _ _, hc1, .nil, rfl, rfl⟩ (fun k σ H' _ ⟨_, _, _, _, _, _, kb, _⟩ => SqL.of (kb _ _ el nl)) ?_ ?_
    · rintro k x _ H2 t hxk ⟨v2, v3, v4, ys, rows, rfl, k2, hc2, iy, lr, er⟩ ht
      have kx : k < xs.length := by have := (List.getElem?_eq_some_iff.mp hxk).1; rwa [List.length_map] at this
      obtain rfl : V.str xs[k] = x := by rw [List.getElem?_map, List.getElem?_eq_getElem kx] at hxk; exact Option.some.inj hxk
      have ed : xs.drop k = xs[k] :: xs.drop (k + 1) := List.drop_eq_getElem_cons kx
      rw [ed, List.map_cons] at er
      obtain ⟨asc, ln⟩ := hx xs[k] (List.getElem_mem kx)
      have hw := hwide xs[k] (List.getElem_mem kx)
      generalize xs[k] = line at asc ln hw er ht ⊢
      have st := same_upd (o := .tup [.int (k : Nat), .str line]) ht
      refine ⟨_, _, rfl, SqT.of upd_same, rfl, _, _, rfl, _, _, rfl, rfl, ?_⟩
      have hc3 := st _ _ hc2
      have k3 : KeepBut c H1 (upd H2 t (.tup [.int (k : Nat), .str line])) := k2.upd ht
      have iy3 := iy.keep st.tups
      generalize upd H2 t (.tup [.int (k : Nat), .str line]) = H3 at hc3 k3 iy3 ⊢
      refine ⟨_, rfl, rfl, _, _, rfl, rfl, by decide +kernel, by omega, fun lw hlw => ?_⟩
      rw [str_blank]
      show _
      have ew : upd H3 lw (.lst ((wordsIn line).map V.str)) lw = some (.lst ((wordsIn line).map V.str)) := upd_same
      have sw := same_upd (o := .lst ((wordsIn line).map V.str)) hlw
      have hc4 := sw _ _ hc3
      have k4 : KeepBut c H1 (upd H3 lw (.lst ((wordsIn line).map V.str))) := k3.upd hlw
      have iy4 := iy3.keep sw.tups
      have nw : lw ≠ c := (ne_of_none hc3 hlw).symm
      have lws : (wordsIn line).length ≤ 100002 := by have := PyProof.Rows.split_le line ⟨#[32]⟩; unfold wordsIn; omega
      have wp : ∀ w ∈ wordsIn line, Asc w ∧ w.length ≤ 1000000 := fun w hw => ⟨asc.part hw, by have := (split_part hw).2; omega⟩
      dsimp only [List.set]
      change tSeq _ _ _ _ (upd H3 lw (.lst ((wordsIn line).map V.str)))
      generalize upd H3 lw (.lst ((wordsIn line).map V.str)) = H4 at ew hc4 k4 iy4 ⊢
      refine Or.inl ?_
      refine ⟨_, rfl, _, rfl, ⟨_, SqL.of ew⟩, ?_⟩
      refine compW_list (xs := (wordsIn line).map V.str) (fun j zs H' => Same H4 H' ∧ zs = (((wordsIn line).take j).map fun w => cellB (cpsOf w)).map V.bl) ⟨Same.refl _, rfl⟩ (by rw [List.length_map]; exact Nat.le_trans lws (by decide)) (fun j zs H' _ ⟨s, _⟩ => SqL.of (s _ _ ew)) ?_ ?_
      · rintro j y zs H5 hy ⟨s5, rfl⟩
        rw [List.getElem?_map] at hy
        obtain ⟨wd, ec, rfl⟩ := Option.map_eq_some_iff.mp hy
        refine oneT ?_
        obtain ⟨a1, a2⟩ := wp wd (List.mem_of_getElem? ec)
        refine ⟨_, rfl, wd, rfl, a1, a2, fun H6 s6 => ⟨s5.trans s6, ?_⟩⟩
        rw [List.take_add_one, ec, List.map_append, List.map_append]
        rfl
      rintro zs H5 ⟨s5, rfl⟩ l5 hl5
      rw [List.length_map, List.take_of_length_le (Nat.le_refl _)]
      have s6 := s5.trans (same_upd (o := .lst (((wordsIn line).map fun w => cellB (cpsOf w)).map V.bl)) hl5)
      refine ⟨_, (wordsIn line).map fun w => cellB (cpsOf w), rfl, SqL.of upd_same, _, rfl, ?_⟩
      have eall : ((wordsIn line).map fun w => cellB (cpsOf w)).all id = (lineC line).all cellB := by unfold lineC; rw [List.all_map, List.all_map]; rfl
      rw [eall]
      have hc6 := s6 _ _ hc4
      have ew6 := s6 _ _ ew
      have iy6 := iy4.keep s6.tups
      have k6 : KeepBut c H1 (upd H5 l5 (.lst (((wordsIn line).map fun w => cellB (cpsOf w)).map V.bl))) := k4.trans (s6.but c)
      generalize upd H5 l5 (.lst (((wordsIn line).map fun w => cellB (cpsOf w)).map V.bl)) = H6 at s6 hc6 ew6 iy6 k6 ⊢
      have wk : Wide ((k : Nat) : Int) := by unfold Wide; omega
      have S6 := keepH k6
      have fin : rdL (xs.map lineC) [] = .inr k → ∀ (y dx : Addr) (hy : H6 y = none) (hdx : upd H6 y (.ext (ExN y (.ref D) none)) dx = none) (ne : dx ≠ y), E (.ref D) (some dx) (wipe (upd (upd (upd H6 y (.ext (ExN y (.ref D) none))) dx (.xd [(("row" : Str), .int ((k : Nat) : Int))])) y (.ext (ExN y (.ref D) (some dx)))) y) := fun e y dx hy hdx ne => by
        obtain ⟨a1, a2, a3⟩ := told_wipe (o1 := .ext (ExN y (.ref D) none)) (o2 := .xd [(("row" : Str), .int ((k : Nat) : Int))]) (o3 := .ext (ExN y (.ref D) (some dx))) hy hdx ne
        exact qE k e D gD dx _ (S6.trans a1) a3
      cases ac : (lineC line).all cellB with
      | false =>
        have e1 : rdL (xs.map lineC) [] = .inr k := by
          rw [er]
          unfold rdL
          rw [ac, Bool.false_and, if_neg Bool.false_ne_true, lr]
        refine iteT ?_
        exact ⟨_, rfl, (by show 1 ≤ sizeLine; decide), fun y hy ny => ⟨y, _, rfl, upd_same, wk, fun dx hdx ne => ⟨rfl, y, D, fI, some dx, rfl, upd_same, m1, ny, fin e1 y dx hy hdx ne⟩⟩⟩
      | true =>
        refine iteF ?_
        dsimp only [tNext]
        have lC : (lineC line).length = (wordsIn line).length := by unfold lineC; rw [List.length_map]
        refine tSeq_cut (fun σ' H' => σ' = [some (.ref ll), some (.ref c), some (.int ((k : Nat) : Int)), some (.str line), some (.ref lw)] ∧ H' = H6 ∧ (decide (rows = []) || decide ((lineC line).length = (rows.headD []).length)) = true) ?_ (fun rest => ?_)
        · rintro _ H6' ⟨rfl, eH6, hlen⟩
          rw [eH6]
          clear eH6 H6'
          have e1 : rdL (xs.map lineC) [] = rdL ((xs.drop (k + 1)).map lineC) (rows ++ [(lineC line).map celOf]) := by
            rw [er]
            show (if ((lineC line).all cellB && (decide (rows = []) || decide ((lineC line).length = (rows.headD []).length))) = true then _ else _) = _
            rw [ac, Bool.true_and, if_pos hlen]
          refine ⟨_, rfl, Or.inl ⟨rfl, _, SqL.of hc6⟩, ?_⟩
          refine Or.inl ?_
          refine ⟨_, rfl, _, rfl, ⟨_, SqL.of ew6⟩, ?_⟩
          refine compW_list (xs := (wordsIn line).map V.str) (fun j zs H' => H' = H6 ∧ zs = (((wordsIn line).take j).map fun w => celOf (cpsOf w)).map cellV) ⟨rfl, rfl⟩ (by rw [List.length_map]; exact Nat.le_trans lws (by decide)) (fun j zs H' _ ⟨e, _⟩ => by rw [e]; exact SqL.of ew6) ?_ ?_
          · rintro j y zs _ hy ⟨rfl, rfl⟩
            rw [List.getElem?_map] at hy
            obtain ⟨wd, ec, rfl⟩ := Option.map_eq_some_iff.mp hy
            have mw := List.mem_of_getElem? ec
            have ml : cpsOf wd ∈ lineC line := List.mem_map.mpr ⟨wd, mw, rfl⟩
            have cb : cellB (cpsOf wd) = true := List.all_eq_true.mp ac _ ml
            have ewd : wd = wordOf (celOf (cpsOf wd)) := str_ext (by rw [word_cps]; exact cellB_word cb)
            have cw : CellW (celOf (cpsOf wd)) := fun i e => by
              unfold celOf at e
              split at e
              · cases e
              · rename_i nd
                have nb : numB (cpsOf wd) = true := by unfold cellB at cb; rw [decide_eq_false nd, Bool.false_or] at cb; exact cb
                rw [← Option.some.inj e]
                exact hw _ ml nb
            refine oneT ?_
            refine ⟨_, rfl, celOf (cpsOf wd), (by show [V.str wd] = [V.str (wordOf (celOf (cpsOf wd)))]; rw [← ewd]), cw, rfl, ?_⟩
            rw [List.take_add_one, ec, List.map_append, List.map_append]
            rfl
          · rintro zs H' ⟨eH, rfl⟩ l7 hl7
            subst eH
            rw [List.length_map, List.take_of_length_le (Nat.le_refl _)]
            have er2 : ((wordsIn line).map fun w => celOf (cpsOf w)) = (lineC line).map celOf := by unfold lineC; rw [List.map_map]; rfl
            rw [er2]
            refine ⟨_, _, rfl, Or.inl ⟨SqL.of upd_same, fun t8 ht8 => ?_⟩⟩
            have s8 := (same_upd (o := .lst (((lineC line).map celOf).map cellV)) hl7).trans (same_upd (o := .tup (((lineC line).map celOf).map cellV)) ht8)
            have hc8 := s8 _ _ hc6
            have ly : ys.length = k := by rw [iy.length, List.length_map, lr]
            refine ⟨_, _, _, rfl, rfl, hc8, (by rw [ly]; exact Nat.lt_of_lt_of_le (show k < 200001 by omega) (by decide)), ?_⟩
            have kc : KeepT (upd (upd H' l7 (.lst (((lineC line).map celOf).map cellV))) t8 (.tup (((lineC line).map celOf).map cellV))) (upd (upd (upd H' l7 (.lst (((lineC line).map celOf).map cellV))) t8 (.tup (((lineC line).map celOf).map cellV))) c (.lst (ys ++ [.ref t8]))) := fun a xs e => by rw [upd_ne (ne_of e hc8 fun z => by cases z)]; exact e
            refine ⟨_, _, _, _, rows ++ [(lineC line).map celOf], rfl, ?_, upd_same, ?_, by rw [List.length_append, lr]; rfl, e1⟩
            · intro b o e n
              rw [upd_ne n]
              exact s8 _ _ (k6 b o e n)
            · rw [List.map_append]
              exact ((iy6.keep s8.tups).append (.cons (.tup upd_same (isCells _)) .nil)).keep kc
        · refine ⟨_, rfl, _, Or.inl ⟨_, SqL.of hc6, rfl⟩, ?_⟩
          cases ys with
          | nil =>
            have r0 : rows = [] := by have := iy.length; rw [List.length_map] at this; exact List.length_eq_zero_iff.mp this.symm
            exact iteF (iteF (rest _ _ ⟨rfl, rfl, by rw [r0]; rfl⟩))
          | cons y0 ys =>
            refine iteT ?_
            obtain ⟨r0, rows', erw⟩ : ∃ r0 rows', rows = r0 :: rows' := by
              cases rows with
              | nil => cases iy
              | cons r0 rows' => exact ⟨r0, rows', rfl⟩
            have i0 : IsD H6 y0 (rowD r0) := by
              rw [erw] at iy6
              cases iy6 with
              | cons a _ => exact a
            obtain ⟨a0, rfl, ha0⟩ := isRow_inv i0
            refine ⟨_, rfl, _, _, rfl, Or.inl ⟨_, SqL.of ew6, rfl⟩, _, rfl, Or.inl ⟨_, _, _, _, rfl, rfl, SqL.of hc6, (show atI (V.ref a0 :: ys) ((0 : Nat) : Int) = some (V.ref a0) from atI_nat rfl), _, _, rfl, Or.inr ⟨_, SqT.of ha0, rfl⟩, ?_⟩⟩
            rw [List.length_map, List.length_map]
            refine Or.inl ⟨rfl, _, rfl, ?_⟩
            by_cases el : (lineC line).length = r0.length
            · rw [decide_eq_true (by rw [← lC, el])]
              exact iteF (rest _ _ ⟨rfl, rfl, by rw [erw]; simp [el]⟩)
            · rw [decide_eq_false (fun e => el (by have := V.int.inj e; omega))]
              refine iteT ?_
              have e1 : rdL (xs.map lineC) [] = .inr k := by
                rw [er]
                show (if ((lineC line).all cellB && (decide (rows = []) || decide ((lineC line).length = (rows.headD []).length))) = true then _ else _) = _
                rw [if_neg (by rw [erw]; simp [el]), lr]
              exact ⟨_, rfl, (by show 1 ≤ sizeLine; decide), fun y hy ny => ⟨y, _, rfl, upd_same, wk, fun dx hdx ne => ⟨rfl, y, D, fI, some dx, rfl, upd_same, m1, ny, fin e1 y dx hy hdx ne⟩⟩⟩
    · rintro _ H2 ⟨v2, v3, v4, ys, rows, rfl, k2, hc2, iy, lr, er⟩
      rw [List.length_map, List.drop_length] at er
      refine ⟨_, rfl, _, _, rfl, Or.inl ⟨SqL.of hc2, fun t ht => ?_⟩⟩
      exact qF rows er (.ref t) _ ((keepH k2).trans (same_upd ht)) (.tup upd_same (iy.keep (same_upd ht).tups))
theorem sub_one (x : Str) : cpsOf (subS x none (some 1)) = (cpsOf x).take 1 := by
  show ((List.take (min 1 x.length) x.cps.toList).drop (min 0 x.length)).toArray.toList = x.cps.toList.take 1
  rw [Nat.zero_min, List.drop_zero]
  have e := len_cps' x
  show List.take (min 1 x.length) x.cps.toList = _
  rw [← e, ← List.take_take, List.take_length]
theorem sub_from (x : Str) (k : Nat) : cpsOf (subS x (some k) none) = (cpsOf x).drop k := by
  show ((List.take (min x.length x.length) x.cps.toList).drop (min k x.length)).toArray.toList = x.cps.toList.drop k
  have e := len_cps' x
  rw [Nat.min_self, List.take_of_length_le (by rw [e]; exact Nat.le_refl _)]
  show List.drop (min k x.length) x.cps.toList = _
  by_cases h : k ≤ x.length
  · rw [Nat.min_eq_left h]
  · rw [Nat.min_eq_right (by omega), List.drop_eq_nil_of_le (by omega), List.drop_eq_nil_of_le (by omega)]
theorem head_one (x : Str) : decide (V.str (subS x none (some 1)) = V.str ("-" : Str)) = decide ((cpsOf x).head? = some 45) := by
  rw [str_is, sub_one, show cpsOf ("-" : Str) = [45] by decide +kernel]
  cases cpsOf x with
  | nil => rfl
  | cons c r => by_cases h : c = 45 <;> simp [h]
theorem seq_asgC {v : V} {i : Nat} {u : TS} {D : Ends} {σ : St} {H : Hp} (h : u D (σ.set i (some v)) H) : tSeq (tAsg (tC v) (gName i)) u D σ H := h
def sgn (x : Str) : Int := if (cpsOf x).head? = some 45 then -1 else 1
theorem fig_from {x : Str} : subS x (some (if (cpsOf x).head? = some 45 then 1 else 0)) none = figS x := by
  refine str_ext ?_
  show cpsOf _ = (figS x).cps.toList
  rw [sub_from, figS_cps]
  unfold figL
  by_cases h : (cpsOf x).head? = some 45
  · rw [if_pos h, if_pos h]; exact List.drop_one
  · rw [if_neg h, if_neg h]; rfl
theorem find_fig128 : ((List.range 128).all fun c => !digC c || decide (firstAt (Builtin.Str.occurrences ("0123456789" : Str) ⟨#[c]⟩ 0 (("0123456789" : Str)).length 1) = ((c - 48 : Nat) : Int))) = true := by decide +kernel
theorem find_fig {c : Nat} (h : digC c = true) : firstAt (Builtin.Str.occurrences ("0123456789" : Str) ⟨#[c]⟩ 0 (("0123456789" : Str)).length 1) = ((c - 48 : Nat) : Int) := by
  have hc : c < 128 := by
    unfold digC at h
    rw [Bool.and_eq_true, decide_eq_true_eq, decide_eq_true_eq] at h
    omega
  have := List.all_eq_true.mp find_fig128 c (List.mem_range.mpr hc)
  rw [h] at this
  simpa using this
def spNumL : Sp := fun vs H Q _ => ∃ x : Str, vs = [.str x] ∧ Asc x ∧ x.length ≤ 20000 ∧ ∀ (l : Addr) (H' : Hp), H l = none → Same H H' → H' l = some (.lst (if numB (cpsOf x) = true then [V.int (numOf (cpsOf x))] else [])) → Q (.ref l) H'
theorem df_law_number (T : Txt K mg) : Df P w K mg base 1 "_law_number" ["word"] spNumL := by
  refine T.d_law_number.ok sc_law_number (fun vs H Q E h => ?_) (fun f cdv A outer s H vs Q E hr h => ?_)
  · obtain ⟨x, rfl, _⟩ := h
    rfl
  · obtain ⟨x, rfl, asc, ln, q⟩ := h
    have lz : x.length ≤ sizeLine := Nat.le_trans ln (by decide)
    refine ⟨_, (@pss_cons _ _ _ _ _ (@ps_set _ _ 1 _ _ _ _ sc_law_number.nd rfl (by first | exact Or.inl rfl | exact Or.inr rfl) (@pe_ix _ _ _ _ _ _ _ (ix_seqK (K := K) rfl) (@pe_lst _ _ _ _ (@pa_cons _ _ _ _ _ pe_int (@pa_cons _ _ _ _ _ (@pe_un _ _ _ _ _ _ un_neg pe_int) pa_nil star_un) (by rfl))) (@pe_callTy _ _ _ _ _ _ _ _ _ call_int1 (by rfl) T.n_int bt_int (@pa_cons _ _ _ _ _ (@pe_cmpR _ _ _ _ _ _ _ _ (op_eqA hr.units) (pe_slice sl_strG (pv 0) po_none (po_some pe_int)) pe_str (nomark _)) pa_nil star_cmp) (by decide) (by decide) (by rfl) (by rfl)) (fun _ _ => rfl)) (by rfl) (by first | exact .inl rfl | exact .inr rfl))
      (@pss_cons _ _ _ _ _ (@ps_set _ _ 2 _ _ _ _ sc_law_number.nd rfl (by first | exact Or.inl rfl | exact Or.inr rfl) (pe_slice sl_strG (pv 0) (po_some (@pe_callTy _ _ _ _ _ _ _ _ _ call_int1 (by rfl) T.n_int bt_int (@pa_cons _ _ _ _ _ (@pe_cmpR _ _ _ _ _ _ _ _ op_lt (pv 1) pe_int (nomark _)) pa_nil star_cmp) (by decide) (by decide) (by rfl) (by rfl))) po_none) (by rfl) (by first | exact .inl rfl | exact .inr rfl))
      (@pss_cons _ _ _ _ _ (@ps_set _ _ 3 _ _ _ _ sc_law_number.nd rfl (by first | exact Or.inl rfl | exact Or.inr rfl) pe_int (by rfl) (by first | exact .inl rfl | exact .inr rfl))
      (@pss_cons _ _ _ _ _ (@ps_for _ _ _ _ _ _ _ _ PassesOwn.never rfl (pi_str (pv 2)) (pg_name (i := 4) sc_law_number.nd rfl (by first | exact Or.inl rfl | exact Or.inr rfl)) (@pss_cons _ _ _ _ _ (@ps_if _ _ _ _ _ _ _ _ (@pt_cmpR _ _ _ _ _ _ _ _ op_notIn_str (pv 4) pe_str (by rfl)) (@pss_one _ _ _ (@ps_ret _ _ _ _ (@pe_lst _ _ _ _ pa_nil))) pss_nil)
      (@pss_one _ _ _ (@ps_set _ _ 3 _ _ _ _ sc_law_number.nd rfl (by first | exact Or.inl rfl | exact Or.inr rfl) (@pe_op _ _ _ _ _ _ _ _ op_add (@pe_op _ _ _ _ _ _ _ _ op_mul pe_int (pv 3)) (pe_bmK (K := K) rfl PySem.F.plainAttrs_str PySem.F.slot_str_find PySem.F.type_str_find mt_find pe_str (@pa_cons _ _ _ _ _ (pv 4) pa_nil (by rfl)))) (by rfl) (by first | exact .inl rfl | exact .inr rfl)))) (by intro _; rfl))
      (@pss_cons _ _ _ _ _ (@ps_if _ _ _ _ _ _ _ _ (pw_or (@pt_cmpR _ _ _ _ _ _ _ _ (op_eqA hr.units) (pv 2) pe_str (nomark _)) (pw_or1 (pw_and (@pt_cmpR _ _ _ _ _ _ _ _ (op_eqA hr.units) (@pe_ix _ _ _ _ _ _ _ (ix_seqK (K := K) rfl) (pv 2) pe_int (fun _ _ => rfl)) pe_str (nomark _)) (pw_and1 (@pt_cmpR _ _ _ _ _ _ _ _ (op_neA hr.units) (pv 0) pe_str (nomark _)))).pt)).pt (@pss_one _ _ _ (@ps_ret _ _ _ _ (@pe_lst _ _ _ _ pa_nil))) pss_nil)
      (@pss_one _ _ _ (@ps_ret _ _ _ _ (@pe_lst _ _ _ _ (@pa_cons _ _ _ _ _ (@pe_op _ _ _ _ _ _ _ _ op_mul (pv 1) (pv 3)) pa_nil star_bin))))))))), ?_⟩
    refine tSeq_cut (fun σ' H' => σ' = [some (.str x), some (.int (sgn x)), none, none, none] ∧ Same H H') ?_ (fun rest => ?_)
    rotate_left
    · refine ⟨_, rfl, (by show 2 ≤ sizeLine; decide), fun l1 hl1 => ?_⟩
      refine ⟨_, rfl, _, rfl, x, none, some 1, rfl, rfl, rfl, lz, Or.inl ⟨rfl, Or.inr ⟨_, rfl, ?_⟩⟩⟩
      rw [head_one]
      refine Or.inl ⟨_, _, _, _, rfl, rfl, SqL.of upd_same, ?_, rest _ _ ⟨rfl, same_upd hl1⟩⟩
      unfold sgn
      by_cases h : (cpsOf x).head? = some 45
      · rw [decide_eq_true h, if_pos h]; rfl
      · rw [decide_eq_false h, if_neg h]; rfl
    rintro _ H1 ⟨rfl, s1⟩
    refine ⟨_, rfl, _, rfl, _, _, rfl, rfl, Or.inr ⟨_, rfl, _, rfl, x, some (if (cpsOf x).head? = some 45 then 1 else 0), none, rfl, ?_, rfl, lz, ?_⟩⟩
    · unfold sgn
      by_cases h : (cpsOf x).head? = some 45
      · rw [if_pos h, if_pos h]; rfl
      · rw [if_neg h, if_neg h]; rfl
    rw [fig_from]
    dsimp only [gName, List.set]
    have fl : (figL (cpsOf x)).length ≤ 20000 := by have := figL_len (cpsOf x); rw [len_cps] at this; omega
    have sz : (figS x).cps.size = (figL (cpsOf x)).length := by show (figL (cpsOf x)).toArray.size = _; simp
    refine seq_asgC ?_
    dsimp only [List.set]
    refine tSeq_cut (fun σ' H' => H' = H1 ∧ (figL (cpsOf x)).all digC = true ∧ ∃ v4, σ' = [some (.str x), some (.int (sgn x)), some (.str (figS x)), some (.int (valL (figL (cpsOf x)) : Int)), v4]) ?_ (fun rest => ?_)
    rotate_left
    · refine ⟨_, rfl, _, rfl, ?_, ?_⟩
      · show (figL (cpsOf x)).toArray.all (· < 128) = true
        rw [← Array.all_toList, List.all_eq_true]
        intro d hdm
        have hdm' : d ∈ figL (cpsOf x) := by simpa using hdm
        have := asc d (figL_sub (cpsOf x) d hdm')
        simpa using this
      refine for_str (x := figS x) (fun i σ H' => H' = H1 ∧ ((figL (cpsOf x)).take i).all digC = true ∧ ∃ v4, σ = [some (.str x), some (.int (sgn x)), some (.str (figS x)), some (.int (valL ((figL (cpsOf x)).take i) : Int)), v4]) ⟨rfl, rfl, none, rfl⟩ ?_ ?_
      · rintro i c _ _ hc ⟨rfl, ha, v4, rfl⟩
        dsimp only [gName, List.set]
        have hm : (figL (cpsOf x))[i]? = some c := by
          rw [← figS_cps, Array.getElem?_toList]
          exact hc
        have h128 : c < 128 := asc c (figL_sub _ c (List.mem_of_getElem? hm))
        refine ⟨_, rfl, _, _, rfl, rfl, _, rfl, ?_⟩
        rw [in_figB h128]
        have hv : ((figL (cpsOf x)).take (i + 1)).all digC = (((figL (cpsOf x)).take i).all digC && digC c) := by rw [List.take_add_one, hm, List.all_append]; simp
        refine ite2 (fun z => ?_) (fun z => ?_)
        · have dc : digC c = false := by
            cases h : digC c with
            | false => rfl
            | true => rw [h] at z; cases z
          refine ⟨(by show 0 ≤ sizeLine; decide), fun l hl => ?_⟩
          refine q l _ ?_ (s1.trans (same_upd hl)) ?_
          · cases h : H l with
            | none => rfl
            | some o => have := s1 _ _ h; rw [hl] at this; cases this
          · rw [upd_same, if_neg]
            unfold numB
            intro hn
            simp only [Bool.and_eq_true] at hn
            have := List.all_eq_true.mp hn.1.1 c (List.mem_of_getElem? hm)
            rw [dc] at this
            cases this
        · have dc : digC c = true := by
            cases h : digC c with
            | true => rfl
            | false => rw [h] at z; exact absurd rfl z
          refine ⟨_, rfl, _, _, rfl, rfl, Or.inl ⟨by decide, by decide⟩, rfl, _, rfl, _, _, rfl, rfl, _, _, rfl, rfl, ?_⟩
          rw [find_fig dc]
          refine ⟨rfl, by rw [hv, ha, dc]; rfl, some (.str ⟨#[c]⟩), ?_⟩
          dsimp only [gName, List.set]
          rw [List.take_add_one, hm]
          have e : valL ((figL (cpsOf x)).take i ++ (some c).toList) = valL ((figL (cpsOf x)).take i) * 10 + (c - 48) := valL_snoc _ _
          rw [e]
          have e2 : 10 * (valL ((figL (cpsOf x)).take i) : Int) + ((c - 48 : Nat) : Int) = ((valL ((figL (cpsOf x)).take i) * 10 + (c - 48) : Nat) : Int) := by
            rw [Int.natCast_add, Int.natCast_mul]
            omega
          rw [← e2]
      · rintro _ _ ⟨rfl, ha, v4, rfl⟩
        rw [sz, List.take_length] at ha ⊢
        exact rest _ _ ⟨rfl, ha, v4, rfl⟩
    rintro _ _ ⟨rfl, ha, v4, rfl⟩
    have fre : ∀ {l : Addr} {H1 : Hp}, Same H H1 → H1 l = none → H l = none := fun {l H1} s hl => by
      cases h : H l with
      | none => rfl
      | some o => have := s _ _ h; rw [hl] at this; cases this
    have none_ : ∀ (l : Addr), numB (cpsOf x) = false → ∀ H1, Same H H1 → H1 l = none → Q (.ref l) (upd H1 l (.lst [])) := fun l hn H1 s hl => by
      refine q l _ (fre s hl) (s.trans (same_upd hl)) ?_
      rw [upd_same, hn]
      rfl
    have some_ : ∀ (l : Addr), numB (cpsOf x) = true → ∀ H1, Same H H1 → H1 l = none → Q (.ref l) (upd H1 l (.lst [.int (sgn x * (valL (figL (cpsOf x)) : Int))])) := fun l hn H1 s hl => by
      refine q l _ (fre s hl) (s.trans (same_upd hl)) ?_
      rw [upd_same, if_pos hn]
      unfold sgn numOf
      by_cases h : (cpsOf x).head? = some 45
      · rw [if_pos h, if_pos h, Int.neg_mul, Int.one_mul]
      · rw [if_neg h, if_neg h, Int.one_mul]
    have sg : -(2 ^ 64) < sgn x ∧ sgn x < 2 ^ 64 := by unfold sgn; split <;> decide
    refine ⟨_, rfl, Or.inl ⟨rfl, _, rfl, ?_⟩⟩
    rw [str_is, cps_e, show cpsOf (figS x) = figL (cpsOf x) from figS_cps x]
    refine ite2 (fun y => ?_) (fun y => ?_)
    · have y0 : figL (cpsOf x) = [] := of_decide_eq_true y
      refine iteT ?_
      refine ⟨(by show 0 ≤ sizeLine; decide), fun l hl => none_ l ?_ _ s1 hl⟩
      unfold numB
      rw [y0]
      rfl
    · have y0 : ¬ figL (cpsOf x) = [] := fun e => y (decide_eq_true e)
      obtain ⟨c, r, hd⟩ : ∃ c r, figL (cpsOf x) = c :: r := by
        cases h : figL (cpsOf x) with
        | nil => exact absurd h y0
        | cons c r => exact ⟨c, r, rfl⟩
      have at0 : atI (figS x).cps.toList 0 = some c := by rw [figS_cps, hd]; show atI (c :: r) ((0 : Nat) : Int) = some c; exact atI_nat rfl
      refine ⟨_, rfl, Or.inr (Or.inr ⟨_, _, _, rfl, rfl, ?_, at0, Or.inl ⟨rfl, _, rfl, ?_⟩⟩)⟩
      · show (figL (cpsOf x)).toArray.size ≤ sizeLine
        rw [List.size_toArray]
        exact Nat.le_trans fl (by decide)
      rw [str_is, cps_0, show cpsOf (⟨#[c]⟩ : Str) = [c] from rfl]
      refine ite2 (fun e => ?_) (fun e => ?_)
      · have e0 : c = 48 := by have := of_decide_eq_true e; simpa using this
        refine ⟨_, rfl, Or.inl ⟨rfl, _, rfl, ?_⟩⟩
        rw [str_is, cps_0]
        by_cases hx : cpsOf x = [48]
        · rw [decide_eq_true hx]
          refine iteF ?_
          refine ⟨_, rfl, _, rfl, _, _, rfl, rfl, Or.inl sg, (by show 1 ≤ sizeLine; decide), fun l hl => some_ l ?_ _ s1 hl⟩
          rw [hx]
          decide
        · rw [decide_eq_false hx]
          refine iteT ?_
          refine ⟨(by show 0 ≤ sizeLine; decide), fun l hl => none_ l ?_ _ s1 hl⟩
          unfold numB
          rw [decide_eq_false hx, hd, e0]
          simp
      · have e0 : c ≠ 48 := fun e2 => e (by rw [e2]; rfl)
        refine iteF ?_
        refine ⟨_, rfl, _, rfl, _, _, rfl, rfl, Or.inl sg, (by show 1 ≤ sizeLine; decide), fun l hl => some_ l ?_ _ s1 hl⟩
        unfold numB
        rw [ha, decide_eq_true y0, decide_eq_true (show (figL (cpsOf x)).head? ≠ some 48 from fun e2 => e0 (by rw [hd] at e2; exact Option.some.inj e2))]
        rfl
theorem str_nl2 : (("\n" : Str)) = ⟨#[10]⟩ := by decide +kernel
def svOf (w : Str) : List (Option Int) := if cellB (cpsOf w) = true then [celOf (cpsOf w)] else []
theorem sv_num {w : Str} (h : ¬ cpsOf w = [46]) : (if numB (cpsOf w) = true then [V.int (numOf (cpsOf w))] else []) = (svOf w).map cellV := by
  unfold svOf cellB celOf
  rw [decide_eq_false h, Bool.false_or, if_neg h]
  cases numB (cpsOf w) <;> rfl
theorem sv_dot {w : Str} (h : cpsOf w = [46]) : (svOf w).map cellV = [V.non] := by
  unfold svOf cellB celOf
  rw [decide_eq_true h, Bool.true_or, if_pos h]
  rfl
def spDue : Sp := fun vs H Q _ => ∃ x : Str, vs = [.str x] ∧ Asc x ∧ x.length ≤ 20000 ∧ (∀ F, rdT x = .inl F → ∀ (v : V) (H' : Hp), Same H H' → IsD H' v (fieldD F) → Q v H') ∧ ∀ k : Nat, rdT x = .inr k → ∀ H' : Hp, Same H H' → Q (.int (k : Int)) H'
theorem df_law_due (T : Txt K mg) : Df P w K mg base 3 "_law_due" ["text"] spDue := by
  refine T.d_law_due.ok sc_law_due (fun vs H Q E h => ?_) (fun f cdv A outer s H vs Q E hr h => ?_)
  · obtain ⟨x, rfl, _⟩ := h
    rfl
  · obtain ⟨x, rfl, asc, ln, qF, qE⟩ := h
    refine ⟨_, (@pss_cons _ _ _ _ _ (@ps_set _ _ 1 _ _ _ _ sc_law_due.nd rfl (by first | exact Or.inl rfl | exact Or.inr rfl) (@pe_lst _ _ _ _ pa_nil) (by rfl) (by first | exact .inl rfl | exact .inr rfl))
      (@pss_cons _ _ _ _ _ (@ps_for _ _ _ _ _ _ _ _ PassesOwn.never rfl (pi_seqK (K := K) rfl (pe_bmK (K := K) rfl PySem.F.plainAttrs_str PySem.F.slot_str_split PySem.F.type_str_split mt_split (pv 0) (@pa_cons _ _ _ _ _ pe_str pa_nil (by rfl)))) (pg_name (i := 2) sc_law_due.nd rfl (by first | exact Or.inl rfl | exact Or.inr rfl)) (@pss_cons _ _ _ _ _ (@ps_set _ _ 3 _ _ _ _ sc_law_due.nd rfl (by first | exact Or.inl rfl | exact Or.inr rfl) (@pe_lst _ _ _ _ pa_nil) (by rfl) (by first | exact .inl rfl | exact .inr rfl))
      (@pss_cons _ _ _ _ _ (@ps_for _ _ _ _ _ _ _ _ PassesOwn.never rfl (pi_seqK (K := K) rfl (pe_bmK (K := K) rfl PySem.F.plainAttrs_str PySem.F.slot_str_split PySem.F.type_str_split mt_split (pv 2) (@pa_cons _ _ _ _ _ pe_str pa_nil (by rfl)))) (pg_name (i := 4) sc_law_due.nd rfl (by first | exact Or.inl rfl | exact Or.inr rfl)) (@pss_cons _ _ _ _ _ (@ps_set _ _ 5 _ _ _ _ sc_law_due.nd rfl (by first | exact Or.inl rfl | exact Or.inr rfl) (@pe_df _ _ _ _ _ _ _ _ _ _ (df_law_number T) (hr.mono (by decide)) (@pa_cons _ _ _ _ _ (pv 4) pa_nil (by rfl)) (by rfl) (by decide) (by rfl) (by rfl)) (by rfl) (by first | exact .inl rfl | exact .inr rfl))
      (@pss_cons _ _ _ _ _ (@ps_if _ _ _ _ _ _ _ _ (@pt_cmpR _ _ _ _ _ _ _ _ (op_eqA hr.units) (pv 4) pe_str (nomark _)) (@pss_one _ _ _ (@ps_set _ _ 5 _ _ _ _ sc_law_due.nd rfl (by first | exact Or.inl rfl | exact Or.inr rfl) (@pe_lst _ _ _ _ (@pa_cons _ _ _ _ _ pe_non pa_nil (by rfl))) (by rfl) (by first | exact .inl rfl | exact .inr rfl))) pss_nil)
      (@pss_cons _ _ _ _ _ (@ps_if _ _ _ _ _ _ _ _ (@pt_cmpR _ _ _ _ _ _ _ _ (op_eqX hr.units) (pv 5) (@pe_lst _ _ _ _ pa_nil) (nomark _)) (@pss_one _ _ _ (@ps_ret _ _ _ _ (@pe_callB _ _ _ _ _ _ _ _ _ (call_lenK (K := K) rfl) (by rfl) T.n_len bt_len (@pa_cons _ _ _ _ _ (pv 1) pa_nil (by rfl)) (by decide) (by decide) (by rfl) (by rfl)))) pss_nil)
      (@pss_one _ _ _ (@ps_set _ _ 3 _ _ _ _ sc_law_due.nd rfl (by first | exact Or.inl rfl | exact Or.inr rfl) (@pe_op _ _ _ _ _ _ _ _ op_cat (pv 3) (pv 5)) (by rfl) (by first | exact .inl rfl | exact .inr rfl)))))) (by intro _; rfl))
      (@pss_cons _ _ _ _ _ (@ps_if _ _ _ _ _ _ _ _ (pw_and (@pt_cmpR _ _ _ _ _ _ _ _ (op_neX hr.units) (pv 1) (@pe_lst _ _ _ _ pa_nil) (nomark _)) (pw_and1 (@pt_cmpR _ _ _ _ _ _ _ _ (op_neA hr.units) (@pe_callB _ _ _ _ _ _ _ _ _ (call_lenK (K := K) rfl) (by rfl) T.n_len bt_len (@pa_cons _ _ _ _ _ (@pe_ix _ _ _ _ _ _ _ (ix_seqK (K := K) rfl) (pv 1) pe_int (fun _ _ => rfl)) pa_nil star_sub) (by decide) (by decide) (by rfl) (by rfl)) (@pe_callB _ _ _ _ _ _ _ _ _ (call_lenK (K := K) rfl) (by rfl) T.n_len bt_len (@pa_cons _ _ _ _ _ (pv 3) pa_nil (by rfl)) (by decide) (by decide) (by rfl) (by rfl)) (nomark _)))).pt (@pss_one _ _ _ (@ps_ret _ _ _ _ (@pe_callB _ _ _ _ _ _ _ _ _ (call_lenK (K := K) rfl) (by rfl) T.n_len bt_len (@pa_cons _ _ _ _ _ (pv 1) pa_nil (by rfl)) (by decide) (by decide) (by rfl) (by rfl)))) pss_nil)
      (@pss_one _ _ _ (@ps_expr _ _ _ _ (@pe_bm _ _ _ _ _ _ _ _ _ _ _ _ PySem.F.plainAttrs_list PySem.F.slot_list_append PySem.F.type_list_append mt_append (pv 1) (@pa_cons _ _ _ _ _ (@pe_callTy _ _ _ _ _ _ _ _ _ (call_tupleK (K := K) rfl) (by rfl) T.n_tuple bt_tuple (@pa_cons _ _ _ _ _ (pv 3) pa_nil (by rfl)) (by decide) (by decide) (by rfl) (by rfl)) pa_nil star_call) (by rfl) (by rfl) (by rfl) (by rfl) (by rfl)) (by rfl)))))) (by intro _; rfl))
      (@pss_one _ _ _ (@ps_ret _ _ _ _ (@pe_callTy _ _ _ _ _ _ _ _ _ (call_tupleK (K := K) rfl) (by rfl) T.n_tuple bt_tuple (@pa_cons _ _ _ _ _ (pv 1) pa_nil (by rfl)) (by decide) (by decide) (by rfl) (by rfl)))))), ?_⟩
    refine ⟨(by show 0 ≤ sizeLine; decide), fun c hc => ?_⟩
    have hc1 : upd H c (.lst []) c = some (.lst []) := upd_same
    have S1 : Same H (upd H c (.lst [])) := same_upd hc
    have keep0 : ∀ {H' : Hp}, KeepBut c (upd H c (.lst [])) H' → Same H H' := fun k b o e => k b o (S1 b o e) (ne_of_none e hc)
    generalize upd H c (.lst []) = H1 at hc1 S1 keep0 ⊢
    refine Or.inl ?_
    refine ⟨_, rfl, rfl, _, _, rfl, rfl, by decide +kernel, by omega, fun ll hll => ?_⟩
    rw [str_nl2]
    refine ⟨_, rfl, ⟨_, SqL.of upd_same⟩, ?_⟩
    have el : upd H1 ll (.lst ((linesAt x).map V.str)) ll = some (.lst ((linesAt x).map V.str)) := upd_same
    have hc2 := same_upd (o := .lst ((linesAt x).map V.str)) hll _ _ hc1
    have k2 : KeepBut c H1 (upd H1 ll (.lst ((linesAt x).map V.str))) := (same_upd hll).but c
    have nl : ll ≠ c := (ne_of_none hc1 hll).symm
    refine for_list (K := K) (xs := (linesAt x).map V.str) (fun k σ H' => ∃ (v2 v3 v4 v5 : Option V) (ys : List V) (rows : List (List (Option Int))), σ = [some (.str x), some (.ref c), v2, v3, v4, v5] ∧ KeepBut c H1 H' ∧ H' ll = some (.lst ((linesAt x).map V.str)) ∧ H' c = some (.lst ys) ∧ IsDs H' ys (rows.map rowD) ∧ rows.length = k ∧ rdT x = rdL (((linesAt x).drop k).map lineC) rows)
      ⟨none, none, none, none, [], [], rfl, k2, el, hc2, .nil, rfl, rfl⟩ (fun k σ H' _ ⟨_, _, _, _, _, _, _, _, e, _⟩ => SqL.of e) ?_ ?_
    · clear el hc2 k2
      rintro k y _ H3 hy ⟨v2, v3, v4, v5, ys, rows, rfl, k3, el3, hc3, iy, lr, er⟩
      have kx : k < (linesAt x).length := by have := (List.getElem?_eq_some_iff.mp hy).1; rwa [List.length_map] at this
      obtain rfl : V.str (linesAt x)[k] = y := by rw [List.getElem?_map, List.getElem?_eq_getElem kx] at hy; exact Option.some.inj hy
      have ed : (linesAt x).drop k = (linesAt x)[k] :: (linesAt x).drop (k + 1) := List.drop_eq_getElem_cons kx
      rw [ed, List.map_cons] at er
      have hm := List.getElem_mem kx
      have lasc : Asc (linesAt x)[k] := asc.part hm
      have lln : ((linesAt x)[k]).length ≤ 20000 := by have := (split_part hm).2; omega
      have kl : k ≤ 20002 := by
        have := PyProof.Rows.split_le x ⟨#[10]⟩
        have e : (linesAt x).length ≤ x.length + 2 := this
        omega
      generalize (linesAt x)[k] = line at er lasc lln ⊢
      have ly : ys.length = k := by rw [iy.length, List.length_map, lr]
      dsimp only [gName, List.set]
      refine ⟨(by show 0 ≤ sizeLine; decide), fun d hd => ?_⟩
      have sd := same_upd (o := .lst []) hd
      have ed0 : upd H3 d (.lst []) d = some (.lst []) := upd_same
      generalize upd H3 d (.lst []) = H4 at sd ed0 ⊢
      dsimp only [gName, List.set]
      have lws : (wordsIn line).length ≤ 20002 := by have := PyProof.Rows.split_le line ⟨#[32]⟩; unfold wordsIn; omega
      refine tSeq_cut (fun σ' H' => ∃ (v4 v5 : Option V) (e : Addr), σ' = [some (.str x), some (.ref c), some (.str line), some (.ref e), v4, v5] ∧ Same H3 H' ∧ H' e = some (.lst (((lineC line).map celOf).map cellV)) ∧ (lineC line).all cellB = true) ?_ (fun rest => ?_)
      rotate_left
      · refine Or.inl ?_
        refine ⟨_, rfl, rfl, _, _, rfl, rfl, by decide +kernel, by omega, fun lw hlw => ?_⟩
        rw [str_blank]
        refine ⟨_, rfl, ⟨_, SqL.of upd_same⟩, ?_⟩
        have ew : upd H4 lw (.lst ((wordsIn line).map V.str)) lw = some (.lst ((wordsIn line).map V.str)) := upd_same
        have sw := same_upd (o := .lst ((wordsIn line).map V.str)) hlw
        have s5 := sd.trans sw
        have ed5 := sw _ _ ed0
        refine for_list (K := K) (xs := (wordsIn line).map V.str) (fun j σ H' => ∃ (v4 v5 : Option V) (e : Addr), σ = [some (.str x), some (.ref c), some (.str line), some (.ref e), v4, v5] ∧ Same H3 H' ∧ H' lw = some (.lst ((wordsIn line).map V.str)) ∧ H' e = some (.lst ((((wordsIn line).take j).map fun w => celOf (cpsOf w)).map cellV)) ∧ ((wordsIn line).take j).all (fun w => cellB (cpsOf w)) = true)
          ⟨v4, v5, d, rfl, s5, ew, ed5, rfl⟩ (fun j σ H' _ ⟨_, _, _, _, _, e, _⟩ => SqL.of e) ?_ ?_
        · clear ew sw s5 ed5 ed0 sd
          rintro j y _ H5 hy ⟨v4, v5, e, rfl, s5, ew, ee, ac⟩
          rw [List.getElem?_map] at hy
          obtain ⟨wd, ec, rfl⟩ := Option.map_eq_some_iff.mp hy
          have mw := List.mem_of_getElem? ec
          have jl : j < (wordsIn line).length := (List.getElem?_eq_some_iff.mp ec).1
          dsimp only [gName, List.set]
          refine ⟨_, rfl, wd, rfl, lasc.part mw, (by have := (split_part mw).2; omega), fun l H6 fl s6 el6 => ?_⟩
          dsimp only [gName, List.set]
          refine tSeq_cut (fun σ' H' => ∃ l' : Addr, σ' = [some (.str x), some (.ref c), some (.str line), some (.ref e), some (.str wd), some (.ref l')] ∧ Same H5 H' ∧ H' l' = some (.lst ((svOf wd).map cellV))) ?_ (fun rest2 => ?_)
          rotate_left
          · refine ⟨_, rfl, Or.inl ⟨rfl, _, rfl, ?_⟩⟩
            rw [str_is, cps_dot]
            refine ite2 (fun z => ?_) (fun z => ?_)
            · refine ⟨(by show 1 ≤ sizeLine; decide), fun l2 hl2 => ?_⟩
              exact rest2 _ _ ⟨l2, rfl, s6.trans (same_upd hl2), by rw [upd_same, sv_dot (of_decide_eq_true z)]⟩
            · exact rest2 _ _ ⟨l, rfl, s6, by rw [el6, sv_num fun e => z (decide_eq_true e)]⟩
          rintro _ H7 ⟨l', rfl, s7, e7⟩
          refine ⟨_, rfl, (by show 0 ≤ sizeLine; decide), fun q hq => ?_⟩
          have sq := same_upd (o := .lst []) hq
          refine Or.inr ⟨l', q, _, _, (svOf wd).map cellD, ([] : List (Option Int)).map cellD, rfl, rfl, sq _ _ e7, upd_same, isCells _, .nil, ⟨canLay_cells _, rfl, by show PyData.depthAll _ + 1 ≤ 20; rw [depth_cells]; decide⟩, _, rfl, ?_⟩
          rw [eqv_cells]
          have s8 := s7.trans sq
          have e8 := sq _ _ e7
          generalize upd H7 q (.lst []) = H8 at s8 e8 ⊢
          have hc8 := s8 _ _ (s5 _ _ hc3)
          refine ite2 (fun z => ?_) (fun z => ?_)
          · have z0 : svOf wd = [] := of_decide_eq_true z
            have cb : cellB (cpsOf wd) = false := by
              cases h : cellB (cpsOf wd) with
              | false => rfl
              | true => unfold svOf at z0; rw [if_pos h] at z0; cases z0
            refine ⟨_, rfl, _, _, rfl, Or.inl ⟨_, SqL.of hc8, rfl⟩, ?_⟩
            rw [ly]
            refine qE k ?_ _ ((keep0 k3).trans (s5.trans s8))
            rw [er]
            unfold rdL
            have na : (lineC line).all cellB = false := by
              cases h : (lineC line).all cellB with
              | false => rfl
              | true =>
                have := List.all_eq_true.mp h (cpsOf wd) (List.mem_map.mpr ⟨wd, mw, rfl⟩)
                rw [cb] at this
                cases this
            rw [na, Bool.false_and, if_neg Bool.false_ne_true, lr]
          · have cb : cellB (cpsOf wd) = true := by
              cases h : cellB (cpsOf wd) with
              | true => rfl
              | false => exact absurd (decide_eq_true (show svOf wd = [] by unfold svOf; rw [if_neg (by rw [h]; exact Bool.false_ne_true)])) z
            have sv1 : svOf wd = [celOf (cpsOf wd)] := by unfold svOf; rw [if_pos cb]
            refine ⟨_, rfl, _, rfl, e, l', _, _, rfl, rfl, s8 _ _ ee, e8, ?_, fun p hp => ?_⟩
            · rw [List.length_map, List.length_map, List.length_map, sv1, List.length_take]
              exact Nat.le_trans (show _ ≤ 20003 by simp; omega) (by decide)
            · refine ⟨_, _, p, rfl, (s5.trans s8).trans (same_upd hp), same_upd hp _ _ (s8 _ _ ew), ?_, ?_⟩
              · rw [upd_same, sv1, List.take_add_one, ec, List.map_append, List.map_append]
                rfl
              · rw [List.take_add_one, ec, List.all_append, ac]
                simp [cb]
        · rintro _ H5 ⟨v4, v5, e, rfl, s5, ew, ee, ac⟩
          rw [List.length_map, List.take_of_length_le (Nat.le_refl _)] at ee ac
          refine rest _ _ ⟨v4, v5, e, rfl, s5, ?_, ?_⟩
          · rw [ee]
            unfold lineC
            rw [List.map_map, List.map_map, List.map_map]
            rfl
          · unfold lineC
            rw [List.all_map]
            exact ac
      clear ed0 sd
      rintro _ H5 ⟨v4, v5, e, rfl, s5, ee, ac⟩
      have hc5 := s5 _ _ hc3
      have iy5 := iy.keep s5.tups
      have lC : (((lineC line).map celOf).map cellV).length = (lineC line).length := by rw [List.length_map, List.length_map]
      refine tSeq_cut (fun σ' H' => σ' = [some (.str x), some (.ref c), some (.str line), some (.ref e), v4, v5] ∧ Same H5 H' ∧ (decide (rows = []) || decide ((lineC line).length = (rows.headD []).length)) = true) ?_ (fun rest => ?_)
      rotate_left
      · refine ⟨_, rfl, (by show 0 ≤ sizeLine; decide), fun q hq => ?_⟩
        have sq := same_upd (o := .lst []) hq
        refine Or.inr ⟨c, q, ys, [], rows.map rowD, [], rfl, rfl, sq _ _ hc5, upd_same, iy5.keep sq.tups, .nil, ⟨canLay_rows rows, rfl, ?_⟩, _, rfl, ?_⟩
        · have := depth_rows rows
          show PyData.depthAll (rows.map rowD) + 1 ≤ 20
          omega
        have hc6 := sq _ _ hc5
        have iy6 := iy5.keep sq.tups
        have ee6 := sq _ _ ee
        have s6 := sq
        generalize upd H5 q (.lst []) = H6 at sq s6 hc6 iy6 ee6 ⊢
        cases rows with
        | nil => exact iteF (iteF (rest _ _ ⟨rfl, s6, rfl⟩))
        | cons r0 rows' =>
          refine iteT ?_
          cases ys with
          | nil => cases iy6
          | cons y0 ys' =>
            have i0 : IsD H6 y0 (rowD r0) := by
              cases iy6 with
              | cons a _ => exact a
            obtain ⟨a0, rfl, ha0⟩ := isRow_inv i0
            refine ⟨_, rfl, Or.inl ⟨_, _, _, _, rfl, rfl, SqL.of hc6, (show atI (V.ref a0 :: ys') ((0 : Nat) : Int) = some (V.ref a0) from atI_nat rfl), _, _, rfl, Or.inr ⟨_, SqT.of ha0, rfl⟩, _, rfl, _, _, rfl, Or.inl ⟨_, SqL.of ee6, rfl⟩, Or.inl ⟨rfl, _, rfl, ?_⟩⟩⟩
            rw [lC, List.length_map]
            by_cases el : (lineC line).length = r0.length
            · rw [decide_eq_true (by rw [el])]
              exact iteF (rest _ _ ⟨rfl, s6, by simp [el]⟩)
            · rw [decide_eq_false (fun e => el (by have := V.int.inj e; omega))]
              refine iteT ?_
              refine ⟨_, rfl, _, _, rfl, Or.inl ⟨_, SqL.of hc6, rfl⟩, ?_⟩
              rw [ly]
              refine qE k ?_ _ ((keep0 k3).trans (s5.trans s6))
              rw [er]
              show (if ((lineC line).all cellB && (decide (r0 :: rows' = []) || decide ((lineC line).length = ((r0 :: rows').headD []).length))) = true then _ else _) = _
              rw [if_neg (by simp [el]), lr]
      rintro _ H6 ⟨rfl, s6, hlen⟩
      have hc6 := s6 _ _ hc5
      have iy6 := iy5.keep s6.tups
      have ee6 := s6 _ _ ee
      have e1 : rdT x = rdL (((linesAt x).drop (k + 1)).map lineC) (rows ++ [(lineC line).map celOf]) := by
        rw [er]
        show (if ((lineC line).all cellB && (decide (rows = []) || decide ((lineC line).length = (rows.headD []).length))) = true then _ else _) = _
        rw [ac, Bool.true_and, if_pos hlen]
      refine ⟨_, rfl, Or.inl ⟨rfl, _, SqL.of hc6⟩, _, rfl, _, _, rfl, Or.inl ⟨SqL.of ee6, fun t8 ht8 => ?_⟩⟩
      have s8 := same_upd (o := .tup (((lineC line).map celOf).map cellV)) ht8
      have hc8 := s8 _ _ hc6
      refine ⟨_, _, _, rfl, rfl, hc8, (by rw [ly]; exact Nat.lt_of_lt_of_le (show k < 200001 by omega) (by decide)), ?_⟩
      have kc : KeepT (upd H6 t8 (.tup (((lineC line).map celOf).map cellV))) (upd (upd H6 t8 (.tup (((lineC line).map celOf).map cellV))) c (.lst (ys ++ [.ref t8]))) := fun a xs e => by rw [upd_ne (ne_of e hc8 fun z => by cases z)]; exact e
      refine ⟨_, _, _, _, _, rows ++ [(lineC line).map celOf], rfl, ?_, ?_, upd_same, ?_, by rw [List.length_append, lr]; rfl, e1⟩
      · intro b o e n
        rw [upd_ne n]
        exact s8 _ _ (s6 _ _ (s5 _ _ (k3 b o e n)))
      · rw [upd_ne nl]
        exact s8 _ _ (s6 _ _ (s5 _ _ el3))
      · rw [List.map_append]
        exact ((iy6.keep s8.tups).append (.cons (.tup upd_same (isCells _)) .nil)).keep kc
    · rintro _ H2 ⟨v2, v3, v4, v5, ys, rows, rfl, k2, _, hc2, iy, lr, er⟩
      rw [List.length_map, List.drop_length] at er
      refine ⟨_, rfl, _, _, rfl, Or.inl ⟨SqL.of hc2, fun t ht => ?_⟩⟩
      exact qF rows er (.ref t) _ ((keep0 k2).trans (same_upd ht)) (.tup upd_same (iy.keep (same_upd ht).tups))
def spFieldX (mg : Str → Option Value) : Sp := fun vs H Q E => ∃ x : Str, vs = [.str x] ∧ Asc x ∧ x.length ≤ 20000 ∧ (∀ l ∈ linesAt x, ∀ w ∈ lineC l, numB w = true → Wide (numOf w)) ∧
  (∀ F, rdT x = .inl F → ∀ (v : V) (H' : Hp), Same H H' → IsD H' v (fieldD F) → Q v H') ∧ ∀ (k : Nat), rdT x = .inr k → ∀ D, mg "NoField" = some (.ref D) → ToldR D k H E
theorem df_X_read_field (T : Txt K mg) : DfXD P w K mg base 5 "read_field" ["text"] (spFieldX mg) := by
  refine T.d_read_field.okXD sc_read_field (fun vs H Q E h => ?_) (fun f cdv A outer s H vs Q E hr h => ?_)
  · obtain ⟨x, rfl, _⟩ := h
    rfl
  · obtain ⟨x, rfl, asc, ln, hw, qF, qE⟩ := h
    refine ⟨_, (@pss_one _ _ _ (@ps_ret _ _ _ _ (pe_dfXD (df_X_read_rows T) (hr.mono (by decide)) pass_outD (@pa_cons _ _ _ _ _ (pe_bmK (K := K) rfl PySem.F.plainAttrs_str PySem.F.slot_str_split PySem.F.type_str_split mt_split (pv 0) (@pa_cons _ _ _ _ _ pe_str pa_nil (by rfl))) pa_nil star_call)))), ?_⟩
    refine ⟨_, rfl, rfl, _, _, rfl, rfl, by decide +kernel, by omega, fun ll hll => ?_⟩
    rw [str_nl2]
    have sl := same_upd (o := .lst ((linesAt x).map V.str)) hll
    have e : (linesAt x).length ≤ x.length + 2 := PyProof.Rows.split_le x ⟨#[10]⟩
    refine ⟨ll, linesAt x, rfl, upd_same, fun l hl => ⟨asc.part hl, by have := (split_part hl).2; omega⟩, by omega, hw, fun F hF v H' s hv => qF F hF v H' (sl.trans s) hv, fun k hk D gD => ?_⟩
    exact fun dx H' s e => qE k hk D gD dx H' (sl.trans s) e
def spRight02 : Sp := fun vs H Q _ => ∃ x : Str, vs = [.str x] ∧ Asc x ∧ x.length ≤ 20000 ∧ (∀ l ∈ linesAt x, ∀ w ∈ lineC l, numB w = true → Wide (numOf w)) ∧ ∀ H' : Hp, Same H H' → Q (.bl true) H'
theorem df_law_right (T : Txt K mg) : Df P w K mg base 6 "_law_right" ["text"] spRight02 := by
  refine T.d_law_right.ok sc_law_right (fun vs H Q E h => ?_) (fun f cdv A outer s H vs Q E hr h => ?_)
  · obtain ⟨x, rfl, _⟩ := h
    rfl
  · obtain ⟨x, rfl, asc, ln, hw, q⟩ := h
    obtain ⟨aN, aF, aM, aP, aW, XX⟩ := T.x_exc
    obtain ⟨D, gD, pD, nD, RD⟩ := T.e_NoField
    refine ⟨_, (@pss_cons _ _ _ _ _ (@ps_set _ _ 1 _ _ _ _ sc_law_right.nd rfl (by first | exact Or.inl rfl | exact Or.inr rfl) (@pe_df _ _ _ _ _ _ _ _ _ _ (df_law_due T) (hr.mono (by decide)) (@pa_cons _ _ _ _ _ (pv 0) pa_nil (by rfl)) (by rfl) (by decide) (by rfl) (by rfl)) (by rfl) (by first | exact .inl rfl | exact .inr rfl))
      (@pss_cons _ _ _ _ _ (@ps_set _ _ 2 _ _ _ _ sc_law_right.nd rfl (by first | exact Or.inl rfl | exact Or.inr rfl) pe_non (by rfl) (by first | exact .inl rfl | exact .inr rfl))
      (@pss_cons _ _ _ _ _ (@ps_set _ _ 3 _ _ _ _ sc_law_right.nd rfl (by first | exact Or.inl rfl | exact Or.inr rfl) pe_non (by rfl) (by first | exact .inl rfl | exact .inr rfl))
      (@pss_cons _ _ _ _ _ (ps_tryAsD (K := K) rfl rfl rfl rfl sc_law_right.nd (ie := 4) rfl rfl XX.win (fun pins W => (@pss_one _ _ _ (@ps_set _ _ 2 _ _ _ _ sc_law_right.nd rfl (by first | exact Or.inl rfl | exact Or.inr rfl) (pe_dfSD (df_X_read_field T) (hr.mono (by decide)) passSD (@pa_cons _ _ _ _ _ (pv 0) pa_nil (by rfl))) (by rfl) (by first | exact .inl rfl | exact .inr rfl)))) (fun v => (@pss_one _ _ _ (@ps_set _ _ 3 _ _ _ _ sc_law_right.nd rfl (by first | exact Or.inl rfl | exact Or.inr rfl) (pv 4) (by rfl) (by first | exact .inl rfl | exact .inr rfl)))))
      (@pss_cons _ _ _ _ _ (@ps_if _ _ _ _ _ _ _ _ (@pt_val _ _ _ (@pe_callB _ _ _ _ _ _ _ _ _ (CallR.or (call_isinstK (K := K) rfl) (call_isinstD (K := K) rfl)) (by rfl) T.n_isinstance bt_isinstance (@pa_cons _ _ _ _ _ (pv 1) (@pa_cons _ _ _ _ _ (pe_bltn (v := .ty "tuple") (by rfl) T.n_tuple bt_tuple rfl) pa_nil (by rfl)) (by rfl)) (by decide) (by decide) (by rfl) (by rfl)) (by intro _; rfl)) (@pss_one _ _ _ (@ps_ret _ _ _ _ (pe_and (@pe_cmpR _ _ _ _ _ _ _ _ op_isN (pv 3) pe_non (nomark _)) (pe_one (@pe_cmpR _ _ _ _ _ _ _ _ (op_eqA hr.units) (pv 2) (pv 1) (nomark _)))))) pss_nil)
      (@pss_cons _ _ _ _ _ (@ps_if _ _ _ _ _ _ _ _ (pw_or (@pt_val _ _ _ (@pe_callB _ _ _ _ _ _ _ _ _ (CallR.or (call_isinstK (K := K) rfl) (call_isinstD (K := K) rfl)) (by rfl) T.n_isinstance bt_isinstance (@pa_cons _ _ _ _ _ (pv 3) (@pa_cons _ _ _ _ _ (@pe_tup _ _ _ _ _ (@pa_cons _ _ _ _ _ (pe_glob (v := .ref _) (by rfl) XX.ask rfl) (@pa_cons _ _ _ _ _ (pe_glob (v := .ref _) (by rfl) XX.number rfl) (@pa_cons _ _ _ _ _ (pe_glob (v := .ref _) (by rfl) XX.place rfl) pa_nil (by rfl)) (by rfl)) (by rfl))) pa_nil star_tup) (by rfl)) (by decide) (by decide) (by rfl) (by rfl)) (by intro _; rfl)) (pw_or1 (@pt_not _ _ _ _ (@pt_val _ _ _ (@pe_callB _ _ _ _ _ _ _ _ _ (CallR.or (call_isinstK (K := K) rfl) (call_isinstD (K := K) rfl)) (by rfl) T.n_isinstance bt_isinstance (@pa_cons _ _ _ _ _ (pv 3) (@pa_cons _ _ _ _ _ (pe_glob (v := .ref _) (by rfl) XX.field rfl) pa_nil (by rfl)) (by rfl)) (by decide) (by decide) (by rfl) (by rfl)) (by intro _; rfl))))).pt (@pss_one _ _ _ (@ps_ret _ _ _ _ pe_bl)) pss_nil)
      (@pss_cons _ _ _ _ _ (@ps_if _ _ _ _ _ _ _ _ (pw_or (@pt_not _ _ _ _ (@pt_val _ _ _ (@pe_callB _ _ _ _ _ _ _ _ _ (CallR.or (call_isinstK (K := K) rfl) (call_isinstD (K := K) rfl)) (by rfl) T.n_isinstance bt_isinstance (@pa_cons _ _ _ _ _ (pv 3) (@pa_cons _ _ _ _ _ (pe_bltn (v := .ty "ValueError") (by rfl) T.n_ValueError bt_ValueError rfl) pa_nil (by rfl)) (by rfl)) (by decide) (by decide) (by rfl) (by rfl)) (by intro _; rfl))) (pw_or1 (@pt_val _ _ _ (@pe_callB _ _ _ _ _ _ _ _ _ (CallR.or (call_isinstK (K := K) rfl) (call_isinstD (K := K) rfl)) (by rfl) T.n_isinstance bt_isinstance (@pa_cons _ _ _ _ _ (pe_xget (K := K) rfl (pv 3) (by rfl)) (@pa_cons _ _ _ _ _ (pe_bltn (v := .ty "bool") (by rfl) T.n_bool bt_bool rfl) pa_nil (by rfl)) (by rfl)) (by decide) (by decide) (by rfl) (by rfl)) (by intro _; rfl)))).pt (@pss_one _ _ _ (@ps_ret _ _ _ _ pe_bl)) pss_nil)
      (@pss_one _ _ _ (@ps_ret _ _ _ _ (pe_and (@pe_callB _ _ _ _ _ _ _ _ _ (CallR.or (call_isinstK (K := K) rfl) (call_isinstD (K := K) rfl)) (by rfl) T.n_isinstance bt_isinstance (@pa_cons _ _ _ _ _ (pe_xget (K := K) rfl (pv 3) (by rfl)) (@pa_cons _ _ _ _ _ (pe_bltn (v := .ty "int") (by rfl) T.n_int bt_int rfl) pa_nil (by rfl)) (by rfl)) (by decide) (by decide) (by rfl) (by rfl)) (pe_one (@pe_cmpR _ _ _ _ _ _ _ _ (op_eqA hr.units) (pe_xget (K := K) rfl (pv 3) (by rfl)) (pv 1) (nomark _))))))))))))), ?_⟩
    refine ⟨_, rfl, x, rfl, asc, ln, ?_, ?_⟩
    · intro F hF v H1 s1 hv
      dsimp only [gName, List.set]
      refine seq_asgC (seq_asgC ?_)
      obtain ⟨ta, xs, rfl, hta, hxs⟩ := isField_inv hv
      refine ⟨_, rfl, x, rfl, asc, ln, hw, fun F' hF' v2 H2 s2 hv2 => ?_, fun k hk => by rw [hF] at hk; cases hk⟩
      obtain rfl : F = F' := by rw [hF] at hF'; cases hF'; rfl
      dsimp only [gName, List.set]
      refine ⟨_, rfl, Or.inl ⟨_, _, _, _, rfl, Or.inl ⟨rfl, _, s2 _ _ hta⟩, rfl, _, rfl, iteT ?_⟩⟩
      refine ⟨_, rfl, rfl, _, rfl, iteT ?_⟩
      refine ⟨_, rfl, _, rfl, Or.inr ⟨fieldD F, fieldD F, hv2, hv.keep s2.tups, cmp_field _ _, ?_⟩⟩
      rw [eqv_field, decide_eq_true rfl]
      exact q _ (s1.trans s2)
    · intro k hk H1 s1
      dsimp only [gName, List.set]
      refine seq_asgC (seq_asgC ?_)
      refine ⟨_, rfl, x, rfl, asc, ln, hw, fun F' hF' => by (rw [hk] at hF'; cases hF'), fun k' hk' D' gD' dx H2 s2 e2 => ?_⟩
      obtain rfl : k = k' := by rw [hk] at hk'; cases hk'; rfl
      obtain rfl : D' = aF := by have z := gD'.symm.trans XX.field; cases z; rfl
      obtain rfl : D = D' := by have z := gD.symm.trans gD'; cases z; rfl
      have S2 := s1.trans s2
      refine ⟨XX.exmF, fun y hy => ?_⟩
      have tt : ∀ {D : Addr} {o : Option Addr} (h : Heap), ExA y (.ref D) o h → ExAt y (.ref D) h := fun h ⟨o, _, ho, hc, _⟩ => ⟨o, ho, hc⟩
      have s3 := same_upd (o := .ext (ExA y (.ref D) (some dx))) hy
      have ey : upd H2 y (.ext (ExA y (.ref D) (some dx))) y = some (.ext (ExA y (.ref D) (some dx))) := upd_same
      have ex := s3 _ _ e2
      have S3 := S2.trans s3
      generalize upd H2 y (.ext (ExA y (.ref D) (some dx))) = H3 at s3 ey ex S3 ⊢
      refine ⟨_, rfl, ?_⟩
      dsimp only [gName, List.set]
      refine ⟨_, rfl, Or.inl ⟨_, _, _, _, rfl, rfl, rfl, _, rfl, iteF ?_⟩⟩
      refine ⟨_, rfl, (by show 3 ≤ sizeLine; decide), fun p2 hp2 => Or.inr ⟨y, D, .ref p2, false, _, rfl, same_upd hp2 _ _ ey, tt, XX.kitF, Or.inr ⟨p2, _, rfl, upd_same, rfl, kitAny_no XX.kFN (kitAny_no XX.kFM (kitAny_no XX.kFP rfl))⟩, _, rfl, iteF ?_⟩⟩
      have s4 := same_upd (o := .tup [.ref aN, .ref aM, .ref aP]) hp2
      have ey4 := s4 _ _ ey
      have ex4 := s4 _ _ ex
      have S4 := S3.trans s4
      generalize upd H3 p2 (.tup [.ref aN, .ref aM, .ref aP]) = H4 at ey4 ex4 S4 ⊢
      refine ⟨_, rfl, Or.inr ⟨y, D, _, true, _, rfl, ey4, tt, XX.kitF, Or.inl ⟨rfl, XX.kFF⟩, _, rfl, iteF ?_⟩⟩
      refine ⟨_, rfl, Or.inr ⟨y, D, _, true, _, rfl, ey4, tt, XX.kitF, Or.inl ⟨rfl, XX.veF⟩, _, rfl, iteF ?_⟩⟩
      refine ⟨_, rfl, y, D, dx, _, _, _, rfl, ey4, fun h z => z, ex4, pD, nD, rfl, Or.inl ⟨_, _, _, _, rfl, rfl, rfl, _, rfl, iteF ?_⟩⟩
      refine ⟨_, rfl, y, D, dx, _, _, _, rfl, ey4, fun h z => z, ex4, pD, nD, rfl, Or.inl ⟨_, _, _, _, rfl, rfl, rfl, _, rfl, iteT ?_⟩⟩
      refine ⟨_, rfl, y, D, dx, _, _, _, rfl, ey4, fun h z => z, ex4, pD, nD, rfl, _, rfl, Or.inl ⟨rfl, ?_⟩⟩
      rw [decide_eq_true rfl]
      exact q _ S4
theorem sign_lt {x : Str} (h : x.cps.all (· < 128) = true) (i : Nat) (hi : i < x.cps.size) : x.cps[i] < 128 := by
  have := Array.all_eq_true.mp h i hi
  simpa using this
def spSign : Sp := fun vs H Q _ => ∃ (d : Addr) (n : Nat), vs = [.ref d] ∧ Deck H d n ∧ n + 1 < 2 ^ 40 ∧ ∀ (c : Nat) (H' : Hp), c < 128 → Deck H' d (n + 1) → KeepBut d H H' → Q (.byt ⟨#[c]⟩) H'
theorem df_law_sign (T : Txt K mg) : Df P w K mg base 3 "_law_sign" ["deck"] spSign := by
  refine T.d_law_sign.ok sc_law_sign (fun vs H Q E h => ?_) (fun f cdv A outer s H vs Q E hr h => ?_)
  · obtain ⟨d, n, rfl, _⟩ := h
    rfl
  · obtain ⟨d, n, rfl, D, hn, q⟩ := h
    refine ⟨_, (pss_pk (psp_set (i := 1) sc_law_sign.nd rfl (by first | exact Or.inl rfl | exact Or.inr rfl) pep_str) (psk_ret (pek_item (pv 1) (@pe_df _ _ _ _ _ _ _ _ _ _ (df_law_next T) (hr.mono (by decide)) (@pa_cons _ _ _ _ _ (pv 0) (@pa_cons _ _ _ _ _ (@pe_callB _ _ _ _ _ _ _ _ _ (call_lenK (K := K) rfl) (by rfl) T.n_len bt_len (@pa_cons _ _ _ _ _ (pv 1) pa_nil (by rfl)) (by decide) (by decide) (by rfl) (by rfl)) pa_nil star_call) (by rfl)) (by rfl) (by decide) (by rfl) (by rfl)) (fun _ _ => rfl))) pss_nil), ?_⟩
    refine seq_asgC ?_
    refine ⟨_, rfl, _, rfl, _, rfl, _, _, rfl, ⟨by decide +kernel, rfl⟩, ?_⟩
    refine ⟨d, _, n, rfl, D, by decide +kernel, by decide +kernel, by omega, fun x H1 x0 x1 D1 k1 => ?_⟩
    obtain ⟨i, rfl⟩ : ∃ i : Nat, x = (i : Int) := ⟨x.toNat, by omega⟩
    have hi := Int.ofNat_lt.mp x1
    refine ⟨_, _, _, rfl, rfl, x0, ?_, x1, (by rw [Int.toNat_natCast]; exact Array.getElem?_eq_getElem (show i < Array.size _ from hi)), q _ H1 ?_ D1 k1⟩
    · exact Int.lt_trans x1 (by decide +kernel)
    · exact sign_lt (by decide +kernel) i hi
def oddW : List Str := [".", "0", "-0", "00", "07", "-07", "-", "", "..", "+1", "1.0", "1_0", "a", "--1", "7", "-12", "1000000000"]
theorem oddW_ok {y : Str} (h : y ∈ oddW) : Asc y ∧ y.length ≤ 10 := by
  have a : (oddW.all fun w => w.cps.all (· < 128) && decide (w.length ≤ 10)) = true := by decide +kernel
  have := List.all_eq_true.mp a y h
  rw [Bool.and_eq_true, decide_eq_true_eq] at this
  refine ⟨fun c hc => ?_, this.2⟩
  have z := this.1
  rw [← Array.all_toList, List.all_eq_true] at z
  simpa using z c hc
theorem ix_nat {n k : Nat} (h : k < n) : ixN n (k : Int) = some k := by
  unfold ixN
  rw [if_pos (by omega), if_pos (by omega)]
  simp
theorem mapErase {α β : Type} (f : α → β) : ∀ (l : List α) (k : Nat), (l.map f).eraseIdx k = (l.eraseIdx k).map f
  | [], _ => rfl
  | a :: l, 0 => rfl
  | a :: l, k + 1 => by simp [mapErase f l k]
theorem deck_upd {H : Hp} {d p : Addr} {n : Nat} {o : HO} {ws : List Str} (D : Deck H d n) (hp : H p = some (.lst (ws.map V.str))) (hw : 1 ≤ ws.length) (ne : p ≠ d) : Deck (upd H p o) d n := by
  obtain ⟨c, ns, k, r, m, t, DA, hm⟩ := D
  have nc : c ≠ p := by
    refine ne_of DA.cut hp fun z => ?_
    have e := HO.lst.inj z
    cases ws with
    | nil => simp at hw
    | cons w ws =>
      cases ns with
      | nil => cases e
      | cons a b => cases (List.cons.inj e).1
  exact ⟨c, ns, k, r, m, t, ⟨by rw [upd_ne ne.symm]; exact DA.deck, by rw [upd_ne nc]; exact DA.cut, DA.kle, DA.few, DA.rnn⟩, hm⟩
theorem asc_app {a b : Str} (ha : Asc a) (hb : Asc b) : Asc (a ++ b) := fun c hc => by
  have e : (a ++ b).cps.toList = a.cps.toList ++ b.cps.toList := by show (a.cps ++ b.cps).toList = _; simp
  rw [e] at hc
  rcases List.mem_append.mp hc with h | h
  · exact ha c h
  · exact hb c h
theorem len_app (a b : Str) : (a ++ b).length = a.length + b.length := by show (a.cps ++ b.cps).size = _; simp [Str.length]
theorem len_sub (z : Str) (l u : Option Nat) : (subS z l u).length = sB u z.length - sA l z.length := by
  show (List.drop _ _).toArray.size = _
  rw [List.size_toArray, List.length_drop, List.length_take, len_cps' z]
  have : sB u z.length ≤ z.length := Nat.min_le_right _ _
  omega
theorem asc_one {c : Nat} (h : c < 128) : Asc ⟨#[c]⟩ := fun d hd => by
  have : d = c := by simpa using hd
  omega
def spLine : Sp := fun vs H Q _ => ∃ (d : Addr) (x : Str) (n : Nat), vs = [.ref d, .str x] ∧ Deck H d n ∧ n + 10 < 2 ^ 40 ∧ Asc x ∧ x.length ≤ 20000 ∧ ∀ (r : Str) (H' : Hp), Asc r → r.length ≤ 2 * x.length + 13 → Deck H' d (n + 10) → KeepBut d H H' → Q (.str r) H'
theorem df_law_spoilt_line (T : Txt K mg) : Df P w K mg base 4 "_law_spoilt_line" ["deck", "line"] spLine := by
  refine T.d_law_spoilt_line.ok sc_law_spoilt_line (fun vs H Q E h => ?_) (fun f cdv A outer s H vs Q E hr h => ?_)
  · obtain ⟨d, x, n, rfl, _⟩ := h
    rfl
  · obtain ⟨d, x, n, rfl, D, hn, asc, ln, q⟩ := h
    refine ⟨_, (@pss_cons _ _ _ _ _ (@ps_set _ _ 2 _ _ _ _ sc_law_spoilt_line.nd rfl (by first | exact Or.inl rfl | exact Or.inr rfl) (pe_bmK (K := K) rfl PySem.F.plainAttrs_str PySem.F.slot_str_split PySem.F.type_str_split mt_split (pv 1) (@pa_cons _ _ _ _ _ pe_str pa_nil (by rfl))) (by rfl) (by first | exact .inl rfl | exact .inr rfl))
      (@pss_cons _ _ _ _ _ (@ps_set _ _ 3 _ _ _ _ sc_law_spoilt_line.nd rfl (by first | exact Or.inl rfl | exact Or.inr rfl) (@pe_df _ _ _ _ _ _ _ _ _ _ (df_law_next T) (hr.mono (by decide)) (@pa_cons _ _ _ _ _ (pv 0) (@pa_cons _ _ _ _ _ (@pe_callB _ _ _ _ _ _ _ _ _ (call_lenK (K := K) rfl) (by rfl) T.n_len bt_len (@pa_cons _ _ _ _ _ (pv 2) pa_nil (by rfl)) (by decide) (by decide) (by rfl) (by rfl)) pa_nil star_call) (by rfl)) (by rfl) (by decide) (by rfl) (by rfl)) (by rfl) (by first | exact .inl rfl | exact .inr rfl))
      (@pss_cons _ _ _ _ _ (@ps_set _ _ 4 _ _ _ _ sc_law_spoilt_line.nd rfl (by first | exact Or.inl rfl | exact Or.inr rfl) (@pe_df _ _ _ _ _ _ _ _ _ _ (df_law_next T) (hr.mono (by decide)) (@pa_cons _ _ _ _ _ (pv 0) (@pa_cons _ _ _ _ _ (@pe_callB _ _ _ _ _ _ _ _ _ (call_lenK (K := K) rfl) (by rfl) T.n_len bt_len (@pa_cons _ _ _ _ _ (pv 2) pa_nil (by rfl)) (by decide) (by decide) (by rfl) (by rfl)) pa_nil star_call) (by rfl)) (by rfl) (by decide) (by rfl) (by rfl)) (by rfl) (by first | exact .inl rfl | exact .inr rfl))
      (@pss_cons _ _ _ _ _ (@ps_set _ _ 5 _ _ _ _ sc_law_spoilt_line.nd rfl (by first | exact Or.inl rfl | exact Or.inr rfl) (@pe_lst _ _ _ _ (@pa_cons _ _ _ _ _ pe_str (@pa_cons _ _ _ _ _ pe_str (@pa_cons _ _ _ _ _ pe_str (@pa_cons _ _ _ _ _ pe_str (@pa_cons _ _ _ _ _ pe_str (@pa_cons _ _ _ _ _ pe_str (@pa_cons _ _ _ _ _ pe_str (@pa_cons _ _ _ _ _ pe_str (@pa_cons _ _ _ _ _ pe_str (@pa_cons _ _ _ _ _ pe_str (@pa_cons _ _ _ _ _ pe_str (@pa_cons _ _ _ _ _ pe_str (@pa_cons _ _ _ _ _ pe_str (@pa_cons _ _ _ _ _ pe_str (@pa_cons _ _ _ _ _ pe_str (@pa_cons _ _ _ _ _ pe_str (@pa_cons _ _ _ _ _ pe_str pa_nil (by rfl)) (by rfl)) (by rfl)) (by rfl)) (by rfl)) (by rfl)) (by rfl)) (by rfl)) (by rfl)) (by rfl)) (by rfl)) (by rfl)) (by rfl)) (by rfl)) (by rfl)) (by rfl)) (by rfl))) (by rfl) (by first | exact .inl rfl | exact .inr rfl))
      (@pss_cons _ _ _ _ _ (@ps_set _ _ 6 _ _ _ _ sc_law_spoilt_line.nd rfl (by first | exact Or.inl rfl | exact Or.inr rfl) (@pe_df _ _ _ _ _ _ _ _ _ _ (df_law_next T) (hr.mono (by decide)) (@pa_cons _ _ _ _ _ (pv 0) (@pa_cons _ _ _ _ _ pe_int pa_nil (by rfl)) (by rfl)) (by rfl) (by decide) (by rfl) (by rfl)) (by rfl) (by first | exact .inl rfl | exact .inr rfl))
      (@pss_cons _ _ _ _ _ (@ps_if _ _ _ _ _ _ _ _ (@pt_cmpR _ _ _ _ _ _ _ _ (op_eqA hr.units) (pv 6) pe_int (nomark _)) (@pss_one _ _ _ (@ps_expr _ _ _ _ (pe_bmK (K := K) rfl PySem.F.plainAttrs_list PySem.F.slot_list_pop PySem.F.type_list_pop mt_popAt (pv 2) (@pa_cons _ _ _ _ _ (pv 3) pa_nil (by rfl))) (by rfl))) (@pss_one _ _ _ (@ps_if _ _ _ _ _ _ _ _ (@pt_cmpR _ _ _ _ _ _ _ _ (op_eqA hr.units) (pv 6) pe_int (nomark _)) (@pss_one _ _ _ (@ps_expr _ _ _ _ (@pe_bm _ _ _ _ _ _ _ _ _ _ _ _ PySem.F.plainAttrs_list PySem.F.slot_list_insert PySem.F.type_list_insert mt_insert (pv 2) (@pa_cons _ _ _ _ _ (pv 4) (@pa_cons _ _ _ _ _ (@pe_ix _ _ _ _ _ _ _ (ix_seqK (K := K) rfl) (pv 2) (pv 3) (fun _ _ => rfl)) pa_nil star_sub) (by rfl)) (by rfl) (by rfl) (by rfl) (by rfl) (by rfl)) (by rfl))) (@pss_one _ _ _ (@ps_if _ _ _ _ _ _ _ _ (@pt_cmpR _ _ _ _ _ _ _ _ (op_eqA hr.units) (pv 6) pe_int (nomark _)) (@pss_one _ _ _ (@ps_asg _ _ _ _ _ _ (@pe_tup _ _ _ _ _ (@pa_cons _ _ _ _ _ (@pe_ix _ _ _ _ _ _ _ (ix_seqK (K := K) rfl) (pv 2) (pv 4) (fun _ _ => rfl)) (@pa_cons _ _ _ _ _ (@pe_ix _ _ _ _ _ _ _ (ix_seqK (K := K) rfl) (pv 2) (pv 3) (fun _ _ => rfl)) pa_nil star_sub) star_sub)) (pg_tupK (K := K) rfl rfl (pgs_cons (pg_sub (pv 2) (pv 3) set_list) (pgs_cons (pg_sub (pv 2) (pv 4) set_list) pgs_nil))) (by rfl) (by rfl) (by rfl))) (@pss_one _ _ _ (@ps_if _ _ _ _ _ _ _ _ (@pt_cmpR _ _ _ _ _ _ _ _ (op_eqA hr.units) (pv 6) pe_int (nomark _)) (@pss_one _ _ _ (@ps_asg _ _ _ _ _ _ (@pe_ix _ _ _ _ _ _ _ (ix_seqK (K := K) rfl) (pv 5) (@pe_df _ _ _ _ _ _ _ _ _ _ (df_law_next T) (hr.mono (by decide)) (@pa_cons _ _ _ _ _ (pv 0) (@pa_cons _ _ _ _ _ (@pe_callB _ _ _ _ _ _ _ _ _ (call_lenK (K := K) rfl) (by rfl) T.n_len bt_len (@pa_cons _ _ _ _ _ (pv 5) pa_nil (by rfl)) (by decide) (by decide) (by rfl) (by rfl)) pa_nil star_call) (by rfl)) (by rfl) (by decide) (by rfl) (by rfl)) (fun _ _ => rfl)) (pg_sub (pv 2) (pv 3) set_list) (by rfl) (by rfl) (by rfl))) (@pss_one _ _ _ (@ps_if _ _ _ _ _ _ _ _ (@pt_cmpR _ _ _ _ _ _ _ _ (op_eqA hr.units) (pv 6) pe_int (nomark _)) (@pss_one _ _ _ (@ps_expr _ _ _ _ (@pe_bm _ _ _ _ _ _ _ _ _ _ _ _ PySem.F.plainAttrs_list PySem.F.slot_list_insert PySem.F.type_list_insert mt_insert (pv 2) (@pa_cons _ _ _ _ _ (pv 3) (@pa_cons _ _ _ _ _ (@pe_ix _ _ _ _ _ _ _ (ix_seqK (K := K) rfl) (pv 5) (@pe_df _ _ _ _ _ _ _ _ _ _ (df_law_next T) (hr.mono (by decide)) (@pa_cons _ _ _ _ _ (pv 0) (@pa_cons _ _ _ _ _ (@pe_callB _ _ _ _ _ _ _ _ _ (call_lenK (K := K) rfl) (by rfl) T.n_len bt_len (@pa_cons _ _ _ _ _ (pv 5) pa_nil (by rfl)) (by decide) (by decide) (by rfl) (by rfl)) pa_nil star_call) (by rfl)) (by rfl) (by decide) (by rfl) (by rfl)) (fun _ _ => rfl)) pa_nil star_sub) (by rfl)) (by rfl) (by rfl) (by rfl) (by rfl) (by rfl)) (by rfl))) pss_nil)))))))))
      (@pss_cons _ _ _ _ _ (@ps_set _ _ 7 _ _ _ _ sc_law_spoilt_line.nd rfl (by first | exact Or.inl rfl | exact Or.inr rfl) (pe_bmK (K := K) rfl PySem.F.plainAttrs_str PySem.F.slot_str_join PySem.F.type_str_join (mt_joinK (K := K) rfl) pe_str (@pa_cons _ _ _ _ _ (pv 2) pa_nil (by rfl))) (by rfl) (by first | exact .inl rfl | exact .inr rfl))
      (@pss_cons _ _ _ _ _ (@ps_set _ _ 8 _ _ _ _ sc_law_spoilt_line.nd rfl (by first | exact Or.inl rfl | exact Or.inr rfl) (@pe_df _ _ _ _ _ _ _ _ _ _ (df_law_next T) (hr.mono (by decide)) (@pa_cons _ _ _ _ _ (pv 0) (@pa_cons _ _ _ _ _ (@pe_op _ _ _ _ _ _ _ _ op_add (@pe_callB _ _ _ _ _ _ _ _ _ (call_lenK (K := K) rfl) (by rfl) T.n_len bt_len (@pa_cons _ _ _ _ _ (pv 7) pa_nil (by rfl)) (by decide) (by decide) (by rfl) (by rfl)) pe_int) pa_nil star_bin) (by rfl)) (by rfl) (by decide) (by rfl) (by rfl)) (by rfl) (by first | exact .inl rfl | exact .inr rfl))
      (@pss_cons _ _ _ _ _ (@ps_if _ _ _ _ _ _ _ _ (@pt_cmpR _ _ _ _ _ _ _ _ (op_eqA hr.units) (pv 6) pe_int (nomark _)) (@pss_one _ _ _ (@ps_ret _ _ _ _ (@pe_op _ _ _ _ _ _ _ _ op_add_str (@pe_op _ _ _ _ _ _ _ _ op_add_str (pe_slice sl_strG (pv 7) po_none (po_some (pv 8))) (@pe_ix _ _ _ _ _ _ _ (ix_seqK (K := K) rfl) (@pe_lst _ _ _ _ (@pa_cons _ _ _ _ _ (@pe_ix _ _ _ _ _ _ _ (ix_seqK (K := K) rfl) pe_str (@pe_df _ _ _ _ _ _ _ _ _ _ (df_law_next T) (hr.mono (by decide)) (@pa_cons _ _ _ _ _ (pv 0) (@pa_cons _ _ _ _ _ pe_int pa_nil (by rfl)) (by rfl)) (by rfl) (by decide) (by rfl) (by rfl)) (fun _ _ => rfl)) (@pa_cons _ _ _ _ _ (pe_unT (@pe_df _ _ _ _ _ _ _ _ _ _ (df_law_sign T) (hr.mono (by decide)) (@pa_cons _ _ _ _ _ (pv 0) pa_nil (by rfl)) (by rfl) (by decide) (by rfl) (by rfl))) pa_nil star_call) star_sub)) (@pe_df _ _ _ _ _ _ _ _ _ _ (df_law_next T) (hr.mono (by decide)) (@pa_cons _ _ _ _ _ (pv 0) (@pa_cons _ _ _ _ _ pe_int pa_nil (by rfl)) (by rfl)) (by rfl) (by decide) (by rfl) (by rfl)) (fun _ _ => rfl))) (pe_slice sl_strG (pv 7) (po_some (pv 8)) po_none)))) pss_nil)
      (@pss_cons _ _ _ _ _ (@ps_if _ _ _ _ _ _ _ _ (@pt_cmpR _ _ _ _ _ _ _ _ (op_eqA hr.units) (pv 6) pe_int (nomark _)) (@pss_one _ _ _ (@ps_ret _ _ _ _ (@pe_op _ _ _ _ _ _ _ _ op_add_str (pe_slice sl_strG (pv 7) po_none (po_some (pv 8))) (pe_slice sl_strG (pv 7) (po_some (@pe_op _ _ _ _ _ _ _ _ op_add (pv 8) pe_int)) po_none)))) pss_nil)
      (@pss_one _ _ _ (@ps_ret _ _ _ _ (pv 7))))))))))))), ?_⟩
    have W0 : WL (wordsIn x) (x.length + 1) := WL.split asc 32
    have wne : 1 ≤ (wordsIn x).length := List.length_pos_iff.mpr (split_ne x 32)
    have wle : (wordsIn x).length ≤ 20001 := Nat.le_trans W0.len (by omega)
    refine ⟨_, rfl, rfl, _, _, rfl, rfl, by decide +kernel, by omega, fun lw hlw => ?_⟩
    rw [str_blank]
    have e1 : upd H lw (.lst ((wordsIn x).map V.str)) lw = some (.lst ((wordsIn x).map V.str)) := upd_same
    have D1 : Deck (upd H lw (.lst ((wordsIn x).map V.str))) d n := D.upd hlw
    have k1 : KeepBut d H (upd H lw (.lst ((wordsIn x).map V.str))) := (same_upd hlw).but d
    have nd : lw ≠ d := by obtain ⟨zs, e⟩ := D.lst; exact (ne_of_none e hlw).symm
    show tSeq _ _ _ _ (upd H lw (.lst ((wordsIn x).map V.str)))
    generalize upd H lw (.lst ((wordsIn x).map V.str)) = H1 at e1 D1 k1 ⊢
    try dsimp only [gName, List.set]
    refine ⟨_, rfl, _, rfl, _, _, rfl, Or.inl ⟨_, SqL.of e1, rfl⟩, d, _, n, rfl, D1, by rw [List.length_map]; omega, by rw [List.length_map]; omega, by omega, fun at_ H2 a0 a1 D2 k2 => ?_⟩
    rw [List.length_map] at a1
    have e2 := k2 _ _ e1 nd
    try dsimp only [gName, List.set]
    refine ⟨_, rfl, _, rfl, _, _, rfl, Or.inl ⟨_, SqL.of e2, rfl⟩, d, _, n + 1, rfl, D2, by rw [List.length_map]; omega, by rw [List.length_map]; omega, by omega, fun th H3 t0 t1 D3 k3 => ?_⟩
    rw [List.length_map] at t1
    have e3 := k3 _ _ e2 nd
    try dsimp only [gName, List.set]
    obtain ⟨i, rfl⟩ : ∃ i : Nat, at_ = (i : Int) := ⟨at_.toNat, by omega⟩
    obtain ⟨j, rfl⟩ : ∃ j : Nat, th = (j : Int) := ⟨th.toNat, by omega⟩
    have hi : i < (wordsIn x).length := Int.ofNat_lt.mp a1
    have hj : j < (wordsIn x).length := Int.ofNat_lt.mp t1
    refine ⟨(by show 17 ≤ sizeLine; decide), fun ls hls => ?_⟩
    have s4 := same_upd (o := .lst (oddW.map V.str)) hls
    have e4 : upd H3 ls (.lst (oddW.map V.str)) ls = some (.lst (oddW.map V.str)) := upd_same
    have D4 : Deck (upd H3 ls (.lst (oddW.map V.str))) d (n + 2) := D3.upd hls
    have f4 := s4 _ _ e3
    have K4 : KeepBut d H (upd H3 ls (.lst (oddW.map V.str))) := ((k1.trans k2).trans k3).trans (s4.but d)
    have nls : ls ≠ d := by obtain ⟨zs, e⟩ := D3.lst; exact (ne_of_none e hls).symm
    change tSeq _ _ _ _ (upd H3 ls (.lst (oddW.map V.str)))
    generalize upd H3 ls (.lst (oddW.map V.str)) = H4 at e4 D4 f4 K4 ⊢
    clear s4 e1 e2 e3 D D1 D2 D3 k1 k2 k3 hls
    try dsimp only [gName, List.set]
    refine ⟨_, rfl, d, 7, n + 2, rfl, D4, by decide, by decide, by omega, fun way H5 w0 w1 D5 k5 => ?_⟩
    have e5 := k5 _ _ f4 nd
    have o5 := k5 _ _ e4 nls
    have K5 := K4.trans k5
    clear e4 f4 D4 K4 k5
    try dsimp only [gName, List.set]
    have gi : ((wordsIn x).map V.str)[i]? = some (V.str (wordsIn x)[i]) := by rw [List.getElem?_map, List.getElem?_eq_getElem hi]; rfl
    have gj : ((wordsIn x).map V.str)[j]? = some (V.str (wordsIn x)[j]) := by rw [List.getElem?_map, List.getElem?_eq_getElem hj]; rfl
    have ai := W0.get (List.getElem?_eq_getElem hi)
    have aj := W0.get (List.getElem?_eq_getElem hj)
    refine tSeq_cut (fun σ' H' => ∃ ws2 : List Str, σ' = [some (.ref d), some (.str x), some (.ref lw), some (.int (i : Int)), some (.int (j : Int)), some (.ref ls), some (.int way), none, none] ∧ H' lw = some (.lst (ws2.map V.str)) ∧ WL ws2 (2 * x.length + 12) ∧ Deck H' d (n + 4) ∧ KeepBut d H H') ?_ (fun rest => ?_)
    rotate_left
    · have put : ∀ (H' : Hp) (ws2 : List Str), H' lw = some (.lst ((wordsIn x).map V.str)) → Deck H' d (n + 4) → KeepBut d H H' → WL ws2 (2 * x.length + 12) → (upd H' lw (.lst (ws2.map V.str))) lw = some (.lst (ws2.map V.str)) ∧ WL ws2 (2 * x.length + 12) ∧ Deck (upd H' lw (.lst (ws2.map V.str))) d (n + 4) ∧ KeepBut d H (upd H' lw (.lst (ws2.map V.str))) := fun H' ws2 e D k W =>
        ⟨upd_same, W, deck_upd D e wne nd, fun b o e nb => by rw [upd_ne (ne_of_none e hlw)]; exact k b o e nb⟩
      have D5' := D5.more (show n + 2 + 1 ≤ n + 4 by omega)
      have odd : ∀ {r : Int}, 0 ≤ r → r < 17 → ∃ y : Str, atI (oddW.map V.str) r = some (V.str y) ∧ Asc y ∧ y.length ≤ 10 := fun r0 r1 => by
        obtain ⟨v, e3, e4⟩ := atI_mem (xs := oddW.map V.str) r0 (by rw [List.length_map]; exact r1)
        obtain ⟨y, hy, rfl⟩ := List.mem_map.mp e4
        exact ⟨y, e3, oddW_ok hy⟩
      refine ⟨_, rfl, Or.inl ⟨rfl, _, rfl, ?_⟩⟩
      refine ite2 (fun _ => ?_) (fun _ => ?_)
      · refine ⟨_, rfl, Or.inl ⟨rfl, _, SqL.of e5⟩, _, rfl, lw, _, (i : Int), i, V.str (wordsIn x)[i], rfl, rfl, e5, by omega, by omega, ?_, gi, ?_⟩
        · rw [List.length_map, PySem.StrLaws.seqIndex_nonneg (by omega) (by omega), Int.toNat_natCast]
        · rw [mapErase]
          exact rest _ _ ⟨_, rfl, put _ _ e5 D5' K5 ((W0.erase i).le (by omega))⟩
      refine ⟨_, rfl, Or.inl ⟨rfl, _, rfl, ?_⟩⟩
      refine ite2 (fun _ => ?_) (fun _ => ?_)
      · refine ⟨_, rfl, Or.inl ⟨rfl, _, SqL.of e5⟩, _, rfl, _, rfl, _, rfl, Or.inl ⟨lw, _, (i : Int), _, rfl, rfl, SqL.of e5, atI_nat gi, lw, _, (j : Int), j, _, rfl, rfl, rfl, e5, by rw [List.length_map]; omega, by rw [List.length_map]; omega, ?_⟩⟩
        have e : ((wordsIn x).map V.str).take j ++ V.str (wordsIn x)[i] :: ((wordsIn x).map V.str).drop j = ((wordsIn x).take j ++ (wordsIn x)[i] :: (wordsIn x).drop j).map V.str := by simp [List.map_append, List.map_take, List.map_drop]
        rw [e]
        exact rest _ _ ⟨_, rfl, put _ _ e5 D5' K5 ((W0.insert ai.1 j).le (by omega))⟩
      refine ⟨_, rfl, Or.inl ⟨rfl, _, rfl, ?_⟩⟩
      refine ite2 (fun _ => ?_) (fun _ => ?_)
      · refine ⟨_, rfl, _, rfl, Or.inl ⟨lw, _, (j : Int), _, rfl, rfl, SqL.of e5, atI_nat gj, _, rfl, _, rfl, Or.inl ⟨lw, _, (i : Int), _, rfl, rfl, SqL.of e5, atI_nat gi, (by show 2 ≤ sizeLine; decide), fun p hp => ?_⟩⟩⟩
        have s6 := same_upd (o := .tup [V.str (wordsIn x)[j], V.str (wordsIn x)[i]]) hp
        refine ⟨_, _, rfl, SqT.of upd_same, rfl, _, _, rfl, _, rfl, _, rfl, lw, _, (i : Int), i, rfl, rfl, s6 _ _ e5, ix_nat (by rw [List.length_map]; exact hi), _, _, rfl, _, rfl, _, rfl, lw, _, (j : Int), j, rfl, rfl, upd_same, ix_nat (by rw [List.length_set, List.length_map]; exact hj), rfl, ?_⟩
        rw [upd_upd]
        have e : ((((wordsIn x).map V.str).set i (V.str (wordsIn x)[j])).set j (V.str (wordsIn x)[i])) = (((wordsIn x).set i (wordsIn x)[j]).set j (wordsIn x)[i]).map V.str := by rw [List.map_set, List.map_set]
        rw [e]
        exact rest _ _ ⟨_, rfl, put _ _ (s6 _ _ e5) (D5'.upd hp) (K5.trans (s6.but d)) ((W0.swap (List.getElem?_eq_getElem hi) (List.getElem?_eq_getElem hj)).le (by omega))⟩
      refine ⟨_, rfl, Or.inl ⟨rfl, _, rfl, ?_⟩⟩
      refine ite2 (fun _ => ?_) (fun _ => ?_)
      · refine ⟨_, rfl, _, rfl, _, rfl, _, _, rfl, Or.inl ⟨_, SqL.of o5, rfl⟩, d, _, n + 3, rfl, D5, by decide, by decide, by omega, fun r H6 r0 r1 D6 k6 => ?_⟩
        obtain ⟨y, ey, ya, yl⟩ := odd r0 r1
        refine Or.inl ⟨ls, _, r, _, rfl, rfl, SqL.of (k6 _ _ o5 nls), ey, ?_⟩
        refine ⟨_, rfl, _, rfl, lw, _, (i : Int), i, rfl, rfl, k6 _ _ e5 nd, ix_nat (by rw [List.length_map]; exact hi), ?_⟩
        rw [← List.map_set]
        exact rest _ _ ⟨_, rfl, put _ _ (k6 _ _ e5 nd) D6 (K5.trans k6) ((W0.set ya).le (by omega))⟩
      refine ⟨_, rfl, Or.inl ⟨rfl, _, rfl, ?_⟩⟩
      refine ite2 (fun _ => ?_) (fun _ => ?_)
      · refine ⟨_, rfl, Or.inl ⟨rfl, _, SqL.of e5⟩, _, rfl, _, rfl, _, rfl, _, rfl, _, _, rfl, Or.inl ⟨_, SqL.of o5, rfl⟩, d, _, n + 3, rfl, D5, by decide, by decide, by omega, fun r H6 r0 r1 D6 k6 => ?_⟩
        obtain ⟨y, ey, ya, yl⟩ := odd r0 r1
        refine Or.inl ⟨ls, _, r, _, rfl, rfl, SqL.of (k6 _ _ o5 nls), ey, lw, _, (i : Int), i, _, rfl, rfl, rfl, k6 _ _ e5 nd, by rw [List.length_map]; omega, by rw [List.length_map]; omega, ?_⟩
        have e : ((wordsIn x).map V.str).take i ++ V.str y :: ((wordsIn x).map V.str).drop i = ((wordsIn x).take i ++ y :: (wordsIn x).drop i).map V.str := by simp [List.map_append, List.map_take, List.map_drop]
        rw [e]
        exact rest _ _ ⟨_, rfl, put _ _ (k6 _ _ e5 nd) D6 (K5.trans k6) ((W0.insert ya i).le (by omega))⟩
      · exact rest _ _ ⟨_, rfl, e5, W0.le (by omega), D5', K5⟩
    rintro _ H6 ⟨ws2, rfl, e6, W6, D6, K6⟩
    refine ⟨rfl, _, rfl, _, lw, ws2, rfl, rfl, SqL.of e6, ?_, ?_⟩
    · have := W6.2
      show _ + ws2.length * 1 ≤ 1000000
      omega
    obtain ⟨ja, jl⟩ := W6.join (c := 32) (by decide)
    generalize Txt.join ⟨#[32]⟩ ws2 = text at ja jl ⊢
    have ltx : text.length ≤ sizeLine := Nat.le_trans (show text.length ≤ 50000 by omega) (by decide)
    have bigL : ∀ {m : Nat}, m ≤ 60000 → m ≤ sizeLine := fun h => Nat.le_trans h (by decide)
    try dsimp only [gName, List.set]
    refine ⟨_, rfl, _, rfl, _, _, rfl, ⟨ltx, rfl⟩, _, _, rfl, rfl, d, _, n + 4, rfl, D6, by omega, by omega, by omega, fun cut H7 c0 c1 D7 k7 => ?_⟩
    obtain ⟨c, rfl⟩ : ∃ c : Nat, cut = (c : Int) := ⟨cut.toNat, by omega⟩
    have K7 := K6.trans k7
    clear c0 k7 K6 D6 e6
    try dsimp only [gName, List.set]
    refine ⟨_, rfl, Or.inl ⟨rfl, _, rfl, ?_⟩⟩
    refine ite2 (fun _ => ?_) (fun _ => ?_)
    · refine ⟨_, rfl, _, rfl, _, rfl, text, none, some c, rfl, rfl, rfl, ltx, ?_⟩
      refine ⟨_, rfl, d, 6, n + 5, rfl, D7, by decide, by decide, by omega, fun a H8 a0 a1 D8 k8 => ?_⟩
      obtain ⟨m1, em1, hm1⟩ : ∃ m : Nat, atI ((" 0-.a\n" : Str)).cps.toList a = some m ∧ m < 128 := by
        obtain ⟨v, e3, e4⟩ := atI_mem (xs := ((" 0-.a\n" : Str)).cps.toList) a0 (by rw [show ((" 0-.a\n" : Str)).cps.toList.length = 6 by decide +kernel]; exact a1)
        refine ⟨v, e3, ?_⟩
        have z : (((" 0-.a\n" : Str)).cps.toList.all (· < 128)) = true := by decide +kernel
        simpa using List.all_eq_true.mp z v e4
      refine Or.inr (Or.inr ⟨_, _, _, rfl, rfl, (by show ((" 0-.a\n" : Str)).cps.size ≤ sizeLine; decide +kernel), em1, ?_⟩)
      refine ⟨_, rfl, d, n + 6, rfl, D8, by omega, fun m2 H9 hm2 D9 k9 => ?_⟩
      refine ⟨(by show 2 ≤ sizeLine; decide), fun l hl => ?_⟩
      have nl : l ≠ d := by obtain ⟨zs, e⟩ := D9.lst; exact (ne_of_none e hl).symm
      refine ⟨_, rfl, d, 2, n + 7, rfl, D9.upd hl, by decide, by decide, by omega, fun b H10 b0 b1 D10 k10 => ?_⟩
      obtain ⟨m3, em3, hm3⟩ : ∃ m : Nat, atI [V.str ⟨#[m1]⟩, V.str ⟨#[m2]⟩] b = some (V.str ⟨#[m]⟩) ∧ m < 128 := by
        obtain ⟨v, e3, e4⟩ := atI_mem (xs := [V.str ⟨#[m1]⟩, V.str ⟨#[m2]⟩]) b0 b1
        simp only [List.mem_cons, List.not_mem_nil, or_false] at e4
        rcases e4 with e | e
        · exact ⟨m1, by rw [e3, e], hm1⟩
        · exact ⟨m2, by rw [e3, e], hm2⟩
      refine Or.inl ⟨l, _, b, _, rfl, rfl, SqL.of (k10 _ _ upd_same nl), em3, ?_⟩
      have l1 := len_sub text none (some c)
      have l2 := len_sub text (some c) none
      have b1' : sB (some c) text.length = min c text.length := rfl
      have b2 : sA none text.length = min 0 text.length := rfl
      have b3 : sB none text.length = min text.length text.length := rfl
      have b4 : sA (some c) text.length = min c text.length := rfl
      have o1 : (⟨#[m3]⟩ : Str).length = 1 := rfl
      refine ⟨_, _, rfl, rfl, bigL (by omega), ?_⟩
      refine ⟨_, rfl, _, rfl, _, rfl, text, some c, none, rfl, rfl, rfl, ltx, ?_⟩
      refine ⟨_, _, rfl, rfl, bigL (by rw [len_app]; omega), ?_⟩
      refine q _ _ (asc_app (asc_app (subS_asc ja _ _) (asc_one hm3)) (subS_asc ja _ _)) (by rw [len_app, len_app]; omega) (D10.more (by omega)) ?_
      exact (((K7.trans k8).trans k9).trans ((same_upd hl).but d)).trans k10
    refine ⟨_, rfl, Or.inl ⟨rfl, _, rfl, ?_⟩⟩
    refine ite2 (fun _ => ?_) (fun _ => ?_)
    · refine ⟨_, rfl, _, rfl, _, rfl, text, none, some c, rfl, rfl, rfl, ltx, ?_⟩
      refine ⟨_, rfl, _, rfl, _, _, rfl, rfl, _, rfl, text, some (c + 1), none, rfl, ?_, rfl, ltx, ?_⟩
      · show some ((c : Int) + 1) = some (((c + 1 : Nat)) : Int)
        rw [Int.natCast_add]
        rfl
      have l1 := len_sub text none (some c)
      have l2 := len_sub text (some (c + 1)) none
      have b1' : sB (some c) text.length = min c text.length := rfl
      have b2 : sA none text.length = min 0 text.length := rfl
      have b3 : sB none text.length = min text.length text.length := rfl
      have b4 : sA (some (c + 1)) text.length = min (c + 1) text.length := rfl
      refine ⟨_, _, rfl, rfl, bigL (by omega), ?_⟩
      exact q _ _ (asc_app (subS_asc ja _ _) (subS_asc ja _ _)) (by rw [len_app]; omega) (D7.more (by omega)) K7
    · exact ⟨_, rfl, q _ _ ja (by omega) (D7.more (by omega)) K7⟩
theorem tjoin (a : Str) (ys : List Str) : PySem.Txt.join a ys = Str.join a ys := PySem.StrLaws.glued_eq_join a ys
def lineOf (r : List (Option Int)) : Str := Str.join ⟨#[32]⟩ (r.map wordOf)
def textOf (F : List (List (Option Int))) : Str := Str.join ⟨#[10]⟩ (F.map lineOf)
def RectW (F : List (List (Option Int))) : Prop := F ≠ [] ∧ F.length ≤ 100 ∧ (∀ r ∈ F, r.length = (F.headD []).length) ∧ 1 ≤ (F.headD []).length ∧ (F.headD []).length ≤ 100 ∧ ∀ r ∈ F, ∀ c ∈ r, CellW c
theorem wordL_neg {i : Int} (h : i < 0) : wordL (some i) = 45 :: dg i.natAbs := by
  unfold wordL
  dsimp only
  rw [if_pos h]
  rfl
theorem wordL_nn {i : Int} (h : ¬ i < 0) : wordL (some i) = dg i.natAbs := by
  unfold wordL
  dsimp only
  rw [if_neg h]
  rfl
theorem joinL_len (c m : Nat) : ∀ p : List (List Nat), (∀ x ∈ p, x.length ≤ m) → (joinL c p).length ≤ p.length * (m + 1)
  | [], _ => by simp [joinL]
  | [x], h => by have := h x (by simp); simp [joinL]; omega
  | x :: y :: r, h => by
    have a := h x (by simp)
    have b := joinL_len c m (y :: r) fun u hu => h u (List.mem_cons_of_mem _ hu)
    show (x ++ c :: joinL c (y :: r)).length ≤ _
    rw [List.length_append, List.length_cons, List.length_cons, Nat.succ_mul]
    omega
theorem line_len {r : List (Option Int)} (hr : r.length ≤ 100) (h : ∀ c ∈ r, CellW c) : (lineOf r).length ≤ 1200 := by
  have e : (lineOf r).length = (lineOf r).cps.toList.length := by simp [Str.length]
  rw [e]
  unfold lineOf
  rw [join_cps]
  have := joinL_len 32 11 ((r.map wordOf).map (·.cps.toList)) (fun x hx => by
    obtain ⟨y, hy, rfl⟩ := List.mem_map.mp hx
    obtain ⟨c, hc, rfl⟩ := List.mem_map.mp hy
    show (wordOf c).cps.toList.length ≤ 11
    rw [word_cps]
    exact wordL_len c fun i e => h c hc i e)
  rw [List.length_map, List.length_map] at this
  omega
theorem dig_at {m : Nat} (h : m < 10) : atI (("0123456789" : Str)).cps.toList (m : Int) = some (48 + m) := by
  have : m = 0 ∨ m = 1 ∨ m = 2 ∨ m = 3 ∨ m = 4 ∨ m = 5 ∨ m = 6 ∨ m = 7 ∨ m = 8 ∨ m = 9 := by omega
  rcases this with rfl | rfl | rfl | rfl | rfl | rfl | rfl | rfl | rfl | rfl <;> decide +kernel
theorem dig_size : (("0123456789" : Str)).length ≤ sizeLine := by
  have : (("0123456789" : Str)).length = 10 := by decide +kernel
  rw [this]; decide
theorem pow_ten {k n : Nat} (h : n < 10 ^ (k + 1)) : n / 10 < 10 ^ k := by
  rw [Nat.pow_succ] at h
  exact Nat.div_lt_of_lt_mul (by omega)
def spWord : Sp := fun vs H Q _ => ∃ (c : Option Int), vs = [cellV c] ∧ CellOk c ∧ ∀ H', Same H H' → Q (.str (wordOf c)) H'
theorem df_law_word (T : Txt K mg) : Df P w K mg base 1 "_law_word" ["cell"] spWord := by
  refine T.d_law_word.ok sc_law_word (fun vs H Q E h => ?_) (fun f cdv A outer s H vs Q E hr h => ?_)
  · obtain ⟨c, rfl, _⟩ := h
    rfl
  · obtain ⟨c, rfl, hc, q⟩ := h
    refine ⟨_, (@pss_cons _ _ _ _ _ (@ps_if _ _ _ _ _ _ _ _ (@pt_cmpR _ _ _ _ _ _ _ _ op_isN (pv 0) pe_non (nomark _)) (@pss_one _ _ _ (@ps_ret _ _ _ _ pe_str)) pss_nil)
      (@pss_cons _ _ _ _ _ (@ps_set _ _ 1 _ _ _ _ sc_law_word.nd rfl (by first | exact Or.inl rfl | exact Or.inr rfl) (@pe_callB _ _ _ _ _ _ _ _ _ (call_max2 rfl) (by rfl) T.n_max bt_max (@pa_cons _ _ _ _ _ (pv 0) (@pa_cons _ _ _ _ _ (@pe_op _ _ _ _ _ _ _ _ op_sub pe_int (pv 0)) pa_nil star_bin) (by rfl)) (by decide) (by decide) (by rfl) (by rfl)) (by rfl) (by first | exact .inl rfl | exact .inr rfl))
      (@pss_cons _ _ _ _ _ (@ps_set _ _ 2 _ _ _ _ sc_law_word.nd rfl (by first | exact Or.inl rfl | exact Or.inr rfl) (@pe_ix _ _ _ _ _ _ _ (ix_seqK (K := K) rfl) pe_str (@pe_op _ _ _ _ _ _ _ _ op_mod (pv 1) pe_int) (fun _ _ => rfl)) (by rfl) (by first | exact .inl rfl | exact .inr rfl))
      (@pss_cons _ _ _ _ _ (@ps_for _ _ _ _ _ _ _ _ PassesOwn.never rfl (pi_range1 (by rfl) T.n_range (@pa_cons _ _ _ _ _ pe_int pa_nil (by rfl))) (pg_name (i := 3) sc_law_word.nd rfl (by first | exact Or.inl rfl | exact Or.inr rfl)) (@pss_one _ _ _ (@ps_if _ _ _ _ _ _ _ _ (@pt_cmpR _ _ _ _ _ _ _ _ op_gt (pv 1) pe_int (nomark _)) (@pss_cons _ _ _ _ _ (@ps_set _ _ 1 _ _ _ _ sc_law_word.nd rfl (by first | exact Or.inl rfl | exact Or.inr rfl) (@pe_op _ _ _ _ _ _ _ _ op_fdivB (pv 1) pe_int) (by rfl) (by first | exact .inl rfl | exact .inr rfl))
      (@pss_one _ _ _ (@ps_set _ _ 2 _ _ _ _ sc_law_word.nd rfl (by first | exact Or.inl rfl | exact Or.inr rfl) (@pe_op _ _ _ _ _ _ _ _ op_add_str (@pe_ix _ _ _ _ _ _ _ (ix_seqK (K := K) rfl) pe_str (@pe_op _ _ _ _ _ _ _ _ op_mod (pv 1) pe_int) (fun _ _ => rfl)) (pv 2)) (by rfl) (by first | exact .inl rfl | exact .inr rfl)))) pss_nil)) (by intro _; rfl))
      (@pss_one _ _ _ (@ps_ret _ _ _ _ (@pe_op _ _ _ _ _ _ _ _ op_add_str (@pe_ix _ _ _ _ _ _ _ (ix_seqK (K := K) rfl) (@pe_lst _ _ _ _ (@pa_cons _ _ _ _ _ pe_str (@pa_cons _ _ _ _ _ pe_str pa_nil (by rfl)) (by rfl))) (@pe_callTy _ _ _ _ _ _ _ _ _ call_int1 (by rfl) T.n_int bt_int (@pa_cons _ _ _ _ _ (@pe_cmpR _ _ _ _ _ _ _ _ op_lt (pv 0) pe_int (nomark _)) pa_nil star_cmp) (by decide) (by decide) (by rfl) (by rfl)) (fun _ _ => rfl)) (pv 2)))))))), ?_⟩
    cases c with
    | none =>
      refine ⟨_, rfl, rfl, _, rfl, ?_⟩
      refine iteT ?_
      rw [← word_none]
      exact q _ (Same.refl _)
    | some i =>
      have bi := hc i rfl
      refine ⟨_, rfl, rfl, _, rfl, ?_⟩
      refine iteF ?_
      refine ⟨_, rfl, _, rfl, _, _, rfl, rfl, _, _, rfl, ?_⟩
      have en : (if 0 - i > i then 0 - i else i) = (i.natAbs : Int) := by omega
      rw [en]
      generalize hN : i.natAbs = N
      have bN : N ≤ 1000000000 := by omega
      refine ⟨_, rfl, _, _, rfl, rfl, (by show (0 : Int) < 10; decide), ?_⟩
      dsimp only [List.set]
      rw [show ((N : Int) % 10) = ((N % 10 : Nat) : Int) by omega]
      refine Or.inr (Or.inr ⟨_, _, _, rfl, rfl, dig_size, dig_at (Nat.mod_lt _ (by decide)), ?_⟩)
      refine ⟨_, rfl, (by decide), (by decide), ?_⟩
      refine for_range (fun k σ H' => ∃ (n : Nat) (tx : List Nat) (v3 : Option V), σ = [some (.int i), some (.int n), some (.str ⟨tx.toArray⟩), v3] ∧ H' = H ∧ dg N = dgInit n ++ tx ∧ n < 10 ^ (10 - k) ∧ tx.length ≤ k + 1)
        ⟨N, [48 + N % 10], none, rfl, rfl, dg_init N, by show N < 10000000000; omega, by simp⟩ ?_ ?_
      · rintro k _ _ hk ⟨n, tx, v3, rfl, rfl, e1, e2, e3⟩
        have hk' : k < 9 := hk
        refine ⟨_, rfl, _, _, rfl, rfl, _, rfl, ?_⟩
        refine ite2 (fun z => ?_) (fun z => ?_)
        · have z' : (9 : Int) < (n : Int) := of_decide_eq_true z
          refine ⟨_, rfl, _, _, rfl, rfl, ⟨(by show (0 : Int) < 10; decide), by show (10 : Int) < 2 ^ 62; decide⟩, ?_⟩
          dsimp only [List.set]
          rw [show ((n : Int) / 10) = ((n / 10 : Nat) : Int) by omega]
          refine ⟨_, rfl, _, _, rfl, rfl, (by show (0 : Int) < 10; decide), ?_⟩
          dsimp only [List.set]
          rw [show (((n / 10 : Nat) : Int) % 10) = ((n / 10 % 10 : Nat) : Int) by omega]
          refine Or.inr (Or.inr ⟨_, _, _, rfl, rfl, dig_size, dig_at (Nat.mod_lt _ (by decide)), ?_⟩)
          refine ⟨_, rfl, _, _, rfl, rfl, ?_, ?_⟩
          · show (#[48 + n / 10 % 10] : Array Nat).size + tx.toArray.size ≤ sizeLine
            rw [List.size_toArray]
            exact Nat.le_trans (show 1 + tx.length ≤ 100 by omega) (by decide)
          · refine ⟨n / 10, (48 + n / 10 % 10) :: tx, some (V.int (0 + (k : Int))), ?_, rfl, ?_, ?_, by simp; omega⟩
            · dsimp only [List.set]
              have : ((⟨#[48 + n / 10 % 10]⟩ : Str) ++ (⟨tx.toArray⟩ : Str)) = ⟨((48 + n / 10 % 10) :: tx).toArray⟩ := by
                show (⟨#[48 + n / 10 % 10] ++ tx.toArray⟩ : Str) = _
                congr 1
                simp
              rw [this]
            · rw [e1]
              unfold dgInit
              rw [if_neg (show ¬ n < 10 by omega), dg_init (n / 10)]
              unfold dgInit
              simp
            · have : 10 - k = (10 - (k + 1)) + 1 := by omega
              rw [this] at e2
              exact pow_ten e2
        · have z' : ¬ (9 : Int) < (n : Int) := of_decide_eq_false (Bool.eq_false_iff.mpr z)
          refine ⟨n, tx, _, rfl, rfl, e1, ?_, by omega⟩
          have : 10 ^ 1 ≤ 10 ^ (10 - (k + 1)) := Nat.pow_le_pow_right (by decide) (by omega)
          omega
      · rintro _ _ ⟨n, tx, v3, rfl, rfl, e1, e2, e3⟩
        have n10 : n < 10 := e2
        have et : dg N = tx := by
          rw [e1]
          unfold dgInit
          rw [if_pos n10]
          rfl
        refine ⟨(by show 2 ≤ sizeLine; decide), fun p hp => ?_⟩
        refine ⟨_, rfl, _, _, rfl, rfl, Or.inr ⟨_, rfl, ?_⟩⟩
        by_cases neg : i < 0
        · have d1 : (if decide (i < 0) = true then (1 : Int) else 0) = 1 := by rw [if_pos (decide_eq_true neg)]
          rw [d1]
          refine Or.inl ⟨_, _, _, _, rfl, rfl, SqL.of upd_same, rfl, _, rfl, _, _, rfl, rfl, ?_, ?_⟩
          · show (("-" : Str)).length + tx.toArray.size ≤ sizeLine
            have : (("-" : Str)).length = 1 := by decide +kernel
            rw [this, List.size_toArray]
            exact Nat.le_trans (show 1 + tx.length ≤ 100 by omega) (by decide)
          · have : (("-" : Str)) ++ (⟨tx.toArray⟩ : Str) = wordOf (some i) := by
              refine str_ext ?_
              rw [word_cps]
              show ((("-" : Str)).cps ++ tx.toArray).toList = _
              have : (("-" : Str)).cps = #[45] := by decide +kernel
              rw [this]
              rw [wordL_neg neg, hN, et]
              simp
            rw [this]
            exact q _ (same_upd hp)
        · have d1 : (if decide (i < 0) = true then (1 : Int) else 0) = 0 := by rw [if_neg (by rw [decide_eq_false neg]; exact Bool.false_ne_true)]
          rw [d1]
          refine Or.inl ⟨_, _, _, _, rfl, rfl, SqL.of upd_same, rfl, _, rfl, _, _, rfl, rfl, ?_, ?_⟩
          · show (("" : Str)).length + tx.toArray.size ≤ sizeLine
            have : (("" : Str)).length = 0 := by decide +kernel
            rw [this, List.size_toArray]
            exact Nat.le_trans (show 0 + tx.length ≤ 100 by omega) (by decide)
          · have : (("" : Str)) ++ (⟨tx.toArray⟩ : Str) = wordOf (some i) := by
              refine str_ext ?_
              rw [word_cps]
              show ((("" : Str)).cps ++ tx.toArray).toList = _
              have : (("" : Str)).cps = #[] := by decide +kernel
              rw [this]
              rw [wordL_nn neg, hN, et]
              simp
            rw [this]
            exact q _ (same_upd hp)
def spText : Sp := fun vs H Q _ => ∃ (fv : V) (F : List (List (Option Int))), vs = [fv] ∧ IsD H fv (fieldD F) ∧ RectW F ∧ (∀ r ∈ F, ∀ c ∈ r, CellOk c) ∧ ∀ H', Same H H' → Q (.str (textOf F)) H'
theorem df_law_text (T : Txt K mg) : Df P w K mg base 2 "_law_text" ["field"] spText := by
  refine T.d_law_text.ok sc_law_text (fun vs H Q E h => ?_) (fun f cdv A outer s H vs Q E hr h => ?_)
  · obtain ⟨fv, F, rfl, _⟩ := h
    rfl
  · obtain ⟨fv, F, rfl, hF, R, ok, q⟩ := h
    obtain ⟨h0, h1, h2, h3, h4, h5⟩ := id R
    obtain ⟨fa, xs, rfl, hfa, hxs⟩ := isField_inv hF
    have lx : xs.length = F.length := by rw [hxs.length, List.length_map]
    refine ⟨_, (@pss_one _ _ _ (@ps_ret _ _ _ _ (pe_bmK (K := K) rfl PySem.F.plainAttrs_str PySem.F.slot_str_join PySem.F.type_str_join (mt_joinK (K := K) rfl) pe_str (@pa_cons _ _ _ _ _ (pe_compIf (M := []) (idx := []) rfl (pi_seqK (K := K) rfl (pv 0)) (compOk (by kernel_rfl)) (by decide +kernel) (by first | exact Or.inl rfl | exact Or.inr rfl) (fun _ _ _ _ _ => pts_nil) (fun _ _ _ _ _ => (pe_bmK (K := K) rfl PySem.F.plainAttrs_str PySem.F.slot_str_join PySem.F.type_str_join (mt_joinK (K := K) rfl) pe_str (@pa_cons _ _ _ _ _ (pe_compIf (M := []) (idx := []) rfl (pi_seqK (K := K) rfl (pv 0)) (compOk (by kernel_rfl)) (by decide +kernel) (by first | exact Or.inl rfl | exact Or.inr rfl) (fun _ _ _ _ _ => pts_nil) (fun _ _ _ _ _ => (@pe_df _ _ _ _ _ _ _ _ _ _ (df_law_word T) (hr.mono (by decide)) (@pa_cons _ _ _ _ _ (pv 0) pa_nil (by rfl)) (by rfl) (by decide) (by rfl) (by rfl)))) pa_nil star_comp)))) pa_nil star_comp)))), ?_⟩
    refine ⟨rfl, ?_⟩
    refine Or.inr ?_
    refine ⟨_, rfl, _, rfl, ⟨_, SqT.of hfa⟩, ?_⟩
    refine compW_tup (xs := xs) (fun k zs H' => Same H H' ∧ zs = ((F.take k).map lineOf).map V.str) ⟨Same.refl _, rfl⟩ (by rw [lx]; exact Nat.le_trans h1 (by decide)) (fun k zs H' _ ⟨s, _⟩ => SqT.of (s _ _ hfa)) ?_ ?_
    · rintro k y zs H1 hy ⟨s1, rfl⟩
      have kF : k < F.length := by rw [← lx]; exact (List.getElem?_eq_some_iff.mp hy).1
      obtain ⟨ra, er, hra⟩ := isRows_get hxs kF
      rw [hy] at er
      cases er
      have eg : F[k]? = some F[k] := List.getElem?_eq_getElem kF
      have hm := List.getElem_mem kF
      generalize F[k] = r at hra eg hm
      have hra1 := s1 _ _ hra
      have lr := h2 r hm
      refine oneT ?_
      refine ⟨rfl, ?_⟩
      refine Or.inr ?_
      refine ⟨_, rfl, _, rfl, ⟨_, SqT.of hra1⟩, ?_⟩
      refine compW_tup (xs := r.map cellV) (fun j zs H' => Same H1 H' ∧ zs = ((r.take j).map wordOf).map V.str) ⟨Same.refl _, rfl⟩ (by rw [List.length_map, lr]; exact Nat.le_trans h4 (by decide)) (fun j zs H' _ ⟨s, _⟩ => SqT.of (s _ _ hra1)) ?_ ?_
      · rintro j y zs H2 hy2 ⟨s2, rfl⟩
        obtain ⟨cl, ec, rfl⟩ : ∃ cl, r[j]? = some cl ∧ cellV cl = y := by
          rw [List.getElem?_map] at hy2
          cases e : r[j]? with
          | none => rw [e] at hy2; cases hy2
          | some cl => rw [e] at hy2; exact ⟨cl, rfl, Option.some.inj hy2⟩
        refine oneT ?_
        refine ⟨_, rfl, cl, rfl, ok r hm cl (List.mem_of_getElem? ec), fun H3 s3 => ⟨s2.trans s3, ?_⟩⟩
        rw [List.take_add_one, ec, List.map_append, List.map_append]
        rfl
      · rintro zs H2 ⟨s2, rfl⟩ l2 hl2
        rw [List.length_map, List.take_of_length_le (Nat.le_refl _)]
        refine ⟨_, _, r.map wordOf, rfl, rfl, SqL.of upd_same, ?_, ?_⟩
        · have hb : ∀ (ws : List Str), (∀ x ∈ ws, x.length ≤ 11) → (ws.map (·.length)).sum ≤ ws.length * 11 := by
            intro ws
            induction ws with
            | nil => intro _; simp
            | cons x ws ih =>
              intro h
              have := h x (by simp)
              have := ih fun y hy => h y (List.mem_cons_of_mem _ hy)
              rw [List.map_cons, List.sum_cons, List.length_cons, Nat.succ_mul]
              omega
          have := hb (r.map wordOf) (fun x hx => by
            obtain ⟨c, hc, rfl⟩ := List.mem_map.mp hx
            exact word_len (h5 r hm c hc))
          rw [List.length_map] at this ⊢
          have e1 : ((" " : Str)).length = 1 := by decide +kernel
          rw [e1]
          omega
        · rw [str_blank, tjoin]
          refine ⟨s1.trans (s2.trans (same_upd hl2)), ?_⟩
          rw [List.take_add_one, eg, List.map_append, List.map_append]
          rfl
    · rintro zs H1 ⟨s1, rfl⟩ l1 hl1
      rw [lx, List.take_of_length_le (Nat.le_refl _)]
      refine ⟨_, _, F.map lineOf, rfl, rfl, SqL.of upd_same, ?_, ?_⟩
      · have hb : ∀ (ws : List Str), (∀ x ∈ ws, x.length ≤ 1200) → (ws.map (·.length)).sum ≤ ws.length * 1200 := by
          intro ws
          induction ws with
          | nil => intro _; simp
          | cons x ws ih =>
            intro h
            have := h x (by simp)
            have := ih fun y hy => h y (List.mem_cons_of_mem _ hy)
            rw [List.map_cons, List.sum_cons, List.length_cons, Nat.succ_mul]
            omega
        have := hb (F.map lineOf) (fun x hx => by
          obtain ⟨r, hr, rfl⟩ := List.mem_map.mp hx
          exact line_len (by rw [h2 r hr]; exact h4) (h5 r hr))
        rw [List.length_map] at this ⊢
        have e1 : (("\n" : Str)).length = 1 := by decide +kernel
        rw [e1]
        omega
      · rw [str_nl, tjoin]
        exact q _ (s1.trans (same_upd hl1))
theorem tIfS_by {c : TT} {t u : TS} {D : Ends} {σ : St} {H : Hp} (P : Bool → Hp → Prop) (h : ∀ Q : Bool → Hp → Prop, (∀ b H1, P b H1 → Q b H1) → c σ H Q) (ht : ∀ H1, P true H1 → t D σ H1) (hu : ∀ H1, P false H1 → u D σ H1) : tIfS c t u D σ H :=
  h _ fun b H1 p => by
    cases b
    · exact iteF (hu H1 p)
    · exact iteT (ht H1 p)
theorem WL.all {b : Nat} : ∀ {ws : List Str}, (∀ w ∈ ws, Asc w ∧ w.length ≤ b) → WL ws (ws.length * (b + 1))
  | [], _ => ⟨fun w h => absurd h (by simp), by simp⟩
  | y :: ws, h => by
    have i := WL.all (ws := ws) fun w hw => h w (List.mem_cons_of_mem _ hw)
    have hy := h y (List.mem_cons_self ..)
    refine ⟨fun w hw => (h w hw).1, ?_⟩
    have := i.2
    simp only [List.map_cons, List.sum_cons, List.length_cons, Nat.succ_mul]
    omega
theorem WL.setX {ws : List Str} {t u i : Nat} {x y : Str} (h : WL ws t) (e : ws[i]? = some x) (a : Asc y) (l : t + y.length ≤ u + x.length) : WL (ws.set i y) u := by
  refine ⟨(h.set a).1, ?_⟩
  have := sum_set (l := ws.map (·.length)) (i := i) (x := x.length) (y := y.length) (by rw [List.getElem?_map, e]; rfl)
  rw [List.map_set, List.length_set]
  have := h.2
  omega
theorem word_asc {c : Option Int} : Asc (wordOf c) := fun d hd => by
  rw [word_cps] at hd
  cases c with
  | none =>
    have : d = 46 := by simpa [wordL] using hd
    omega
  | some i =>
    have key : ∀ e ∈ dg i.natAbs, e < 128 := fun e he => by
      have := dg_all i.natAbs e he
      omega
    by_cases h : i < 0
    · rw [wordL_neg h] at hd
      rcases List.mem_cons.mp hd with e | e
      · omega
      · exact key d e
    · rw [wordL_nn h] at hd
      exact key d hd
theorem text_ok {F : List (List (Option Int))} {h w : Nat} (FO : FieldOk F h w) : Asc (textOf F) ∧ (textOf F).length ≤ 1760 := by
  have line : ∀ r ∈ F, Asc (lineOf r) ∧ (lineOf r).length ≤ 145 := fun r hr => by
    have lr : r.length ≤ 12 := by rw [FO.row r hr]; exact FO.w12
    have W := WL.all (b := 11) (ws := r.map wordOf) fun z hz => by
      obtain ⟨c, hc, rfl⟩ := List.mem_map.mp hz
      exact ⟨word_asc, word_len (fun i e => by have := FO.cell r hr c hc i e; unfold Wide; omega)⟩
    obtain ⟨a, b⟩ := W.join (c := 32) (by decide)
    rw [List.length_map] at b
    rw [tjoin] at a b
    exact ⟨a, by unfold lineOf; omega⟩
  have W := WL.all (b := 145) (ws := F.map lineOf) fun z hz => by
    obtain ⟨r, hr, rfl⟩ := List.mem_map.mp hz
    exact line r hr
  obtain ⟨a, b⟩ := W.join (c := 10) (by decide)
  have lF : F.length ≤ 12 := by rw [FO.len]; exact FO.h12
  rw [List.length_map] at b
  rw [tjoin] at a b
  exact ⟨a, by unfold textOf; omega⟩
def tB : Nat → Nat
  | 0 => 1780
  | k + 1 => 2 * tB k + 20
theorem tB3 : ∀ {k : Nat}, k ≤ 3 → tB k ≤ 14380
  | 0, _ => by decide
  | 1, _ => by decide
  | 2, _ => by decide
  | 3, _ => by decide
  | k + 4, h => by omega
def lineW : List Str := ["", " ", "5", ". .", "1 "]
theorem lineW_ok {y : Str} (h : y ∈ lineW) : Asc y ∧ y.length ≤ 10 := by
  have a : (lineW.all fun w => w.cps.all (· < 128) && decide (w.length ≤ 10)) = true := by decide +kernel
  have := List.all_eq_true.mp a y h
  rw [Bool.and_eq_true, decide_eq_true_eq] at this
  refine ⟨fun c hc => ?_, this.2⟩
  have z := this.1
  rw [← Array.all_toList, List.all_eq_true] at z
  simpa using z c hc
theorem rectW_of {F : List (List (Option Int))} {h w : Nat} (FO : FieldOk F h w) : RectW F := by
  have ne : F ≠ [] := fun e => by have := FO.len; have := FO.h1; rw [e] at *; simp at *; omega
  have hd : (F.headD []).length = w := by
    cases F with
    | nil => exact absurd rfl ne
    | cons r F => exact FO.row r (List.mem_cons_self ..)
  refine ⟨ne, by rw [FO.len]; have := FO.h12; omega, fun r hr => by rw [hd]; exact FO.row r hr, by rw [hd]; exact FO.w1, by rw [hd]; have := FO.w12; omega, fun r hr c hc i e => by have := FO.cell r hr c hc i e; unfold Wide; omega⟩
def spSpoilt : Sp := fun vs H Q _ => ∃ (d : Addr) (fv : V) (F : List (List (Option Int))) (h w n : Nat), vs = [.ref d, fv] ∧ Deck H d n ∧ n + 100 < 2 ^ 40 ∧ IsD H fv (fieldD F) ∧ FieldOk F h w ∧ ∀ (r : Str) (H' : Hp), Asc r → r.length ≤ 19000 → Deck H' d (n + 100) → KeepBut d H H' → Q (.str r) H'
theorem df_law_spoilt (T : Txt K mg) : Df P w K mg base 5 "_law_spoilt" ["deck", "field"] spSpoilt := by
  refine T.d_law_spoilt.ok sc_law_spoilt (fun vs H Q E h => ?_) (fun f cdv A outer s H vs Q E hr h => ?_)
  · obtain ⟨d, fv, F, h, w, n, rfl, _⟩ := h
    rfl
  · obtain ⟨d, fv, F, h, w, n, rfl, D, hn, hf, FO, q⟩ := h
    obtain ⟨ta, tl⟩ := text_ok FO
    refine ⟨_, (@pss_cons _ _ _ _ _ (@ps_set _ _ 2 _ _ _ _ sc_law_spoilt.nd rfl (by first | exact Or.inl rfl | exact Or.inr rfl) (pe_bmK (K := K) rfl PySem.F.plainAttrs_str PySem.F.slot_str_split PySem.F.type_str_split mt_split (@pe_df _ _ _ _ _ _ _ _ _ _ (df_law_text T) (hr.mono (by decide)) (@pa_cons _ _ _ _ _ (pv 1) pa_nil (by rfl)) (by rfl) (by decide) (by rfl) (by rfl)) (@pa_cons _ _ _ _ _ pe_str pa_nil (by rfl))) (by rfl) (by first | exact .inl rfl | exact .inr rfl))
      (@pss_cons _ _ _ _ _ (@ps_for _ _ _ _ _ _ _ _ PassesOwn.never rfl (pi_range1 (by rfl) T.n_range (@pa_cons _ _ _ _ _ (@pe_op _ _ _ _ _ _ _ _ op_add pe_int (@pe_df _ _ _ _ _ _ _ _ _ _ (df_law_next T) (hr.mono (by decide)) (@pa_cons _ _ _ _ _ (pv 0) (@pa_cons _ _ _ _ _ pe_int pa_nil (by rfl)) (by rfl)) (by rfl) (by decide) (by rfl) (by rfl))) pa_nil star_bin)) (pg_name (i := 3) sc_law_spoilt.nd rfl (by first | exact Or.inl rfl | exact Or.inr rfl)) (@pss_cons _ _ _ _ _ (@ps_set _ _ 4 _ _ _ _ sc_law_spoilt.nd rfl (by first | exact Or.inl rfl | exact Or.inr rfl) (@pe_df _ _ _ _ _ _ _ _ _ _ (df_law_next T) (hr.mono (by decide)) (@pa_cons _ _ _ _ _ (pv 0) (@pa_cons _ _ _ _ _ (@pe_callB _ _ _ _ _ _ _ _ _ (call_lenK (K := K) rfl) (by rfl) T.n_len bt_len (@pa_cons _ _ _ _ _ (pv 2) pa_nil (by rfl)) (by decide) (by decide) (by rfl) (by rfl)) pa_nil star_call) (by rfl)) (by rfl) (by decide) (by rfl) (by rfl)) (by rfl) (by first | exact .inl rfl | exact .inr rfl))
      (@pss_cons _ _ _ _ _ (@ps_set _ _ 5 _ _ _ _ sc_law_spoilt.nd rfl (by first | exact Or.inl rfl | exact Or.inr rfl) (@pe_df _ _ _ _ _ _ _ _ _ _ (df_law_next T) (hr.mono (by decide)) (@pa_cons _ _ _ _ _ (pv 0) (@pa_cons _ _ _ _ _ pe_int pa_nil (by rfl)) (by rfl)) (by rfl) (by decide) (by rfl) (by rfl)) (by rfl) (by first | exact .inl rfl | exact .inr rfl))
      (@pss_one _ _ _ (@ps_if _ _ _ _ _ _ _ _ (pw_and (@pt_cmpR _ _ _ _ _ _ _ _ (op_eqA hr.units) (pv 5) pe_int (nomark _)) (pw_and1 (@pt_cmpR _ _ _ _ _ _ _ _ op_gt (@pe_callB _ _ _ _ _ _ _ _ _ (call_lenK (K := K) rfl) (by rfl) T.n_len bt_len (@pa_cons _ _ _ _ _ (pv 2) pa_nil (by rfl)) (by decide) (by decide) (by rfl) (by rfl)) pe_int (nomark _)))).pt (@pss_one _ _ _ (@ps_expr _ _ _ _ (pe_bmK (K := K) rfl PySem.F.plainAttrs_list PySem.F.slot_list_pop PySem.F.type_list_pop mt_popAt (pv 2) (@pa_cons _ _ _ _ _ (pv 4) pa_nil (by rfl))) (by rfl))) (@pss_one _ _ _ (@ps_if _ _ _ _ _ _ _ _ (@pt_cmpR _ _ _ _ _ _ _ _ (op_eqA hr.units) (pv 5) pe_int (nomark _)) (@pss_one _ _ _ (@ps_expr _ _ _ _ (@pe_bm _ _ _ _ _ _ _ _ _ _ _ _ PySem.F.plainAttrs_list PySem.F.slot_list_insert PySem.F.type_list_insert mt_insert (pv 2) (@pa_cons _ _ _ _ _ (pv 4) (@pa_cons _ _ _ _ _ (@pe_ix _ _ _ _ _ _ _ (ix_seqK (K := K) rfl) (pv 2) (pv 4) (fun _ _ => rfl)) pa_nil star_sub) (by rfl)) (by rfl) (by rfl) (by rfl) (by rfl) (by rfl)) (by rfl))) (@pss_one _ _ _ (@ps_if _ _ _ _ _ _ _ _ (@pt_cmpR _ _ _ _ _ _ _ _ (op_eqA hr.units) (pv 5) pe_int (nomark _)) (@pss_one _ _ _ (@ps_asg _ _ _ _ _ _ (@pe_ix _ _ _ _ _ _ _ (ix_seqK (K := K) rfl) (@pe_lst _ _ _ _ (@pa_cons _ _ _ _ _ pe_str (@pa_cons _ _ _ _ _ pe_str (@pa_cons _ _ _ _ _ pe_str (@pa_cons _ _ _ _ _ pe_str (@pa_cons _ _ _ _ _ pe_str pa_nil (by rfl)) (by rfl)) (by rfl)) (by rfl)) (by rfl))) (@pe_df _ _ _ _ _ _ _ _ _ _ (df_law_next T) (hr.mono (by decide)) (@pa_cons _ _ _ _ _ (pv 0) (@pa_cons _ _ _ _ _ pe_int pa_nil (by rfl)) (by rfl)) (by rfl) (by decide) (by rfl) (by rfl)) (fun _ _ => rfl)) (pg_sub (pv 2) (pv 4) set_list) (by rfl) (by rfl) (by rfl))) (@pss_one _ _ _ (@ps_asg _ _ _ _ _ _ (@pe_df _ _ _ _ _ _ _ _ _ _ (df_law_spoilt_line T) (hr.mono (by decide)) (@pa_cons _ _ _ _ _ (pv 0) (@pa_cons _ _ _ _ _ (@pe_ix _ _ _ _ _ _ _ (ix_seqK (K := K) rfl) (pv 2) (pv 4) (fun _ _ => rfl)) pa_nil star_sub) (by rfl)) (by rfl) (by decide) (by rfl) (by rfl)) (pg_sub (pv 2) (pv 4) set_list) (by rfl) (by rfl) (by rfl))))))))))) (by intro _; rfl))
      (@pss_one _ _ _ (@ps_ret _ _ _ _ (pe_bmK (K := K) rfl PySem.F.plainAttrs_str PySem.F.slot_str_join PySem.F.type_str_join (mt_joinK (K := K) rfl) pe_str (@pa_cons _ _ _ _ _ (pv 2) pa_nil (by rfl))))))), ?_⟩
    refine ⟨_, rfl, fv, F, rfl, hf, rectW_of FO, FO.cell, fun H1 s1 => ?_⟩
    refine ⟨rfl, _, _, rfl, rfl, by decide +kernel, by omega, fun ll hll => ?_⟩
    rw [str_nl2]
    have W0 := WL.split ta 10
    have n0 : 1 ≤ (Txt.split (textOf F) ⟨#[10]⟩).length := List.length_pos_iff.mpr (split_ne _ _)
    generalize Txt.split (textOf F) ⟨#[10]⟩ = ls0 at W0 n0 ⊢
    have D1 : Deck (upd H1 ll (.lst (ls0.map V.str))) d n := (D.keep s1).upd hll
    have e1 : upd H1 ll (.lst (ls0.map V.str)) ll = some (.lst (ls0.map V.str)) := upd_same
    have S1 : Same H (upd H1 ll (.lst (ls0.map V.str))) := s1.trans (same_upd hll)
    have hll0 : H ll = none := by
      cases z : H ll with
      | none => rfl
      | some o => have := s1 _ _ z; rw [hll] at this; cases this
    have nd : ll ≠ d := by obtain ⟨zs, e⟩ := D.lst; exact (ne_of_none e hll0).symm
    change tSeq _ _ _ _ (upd H1 ll (.lst (ls0.map V.str)))
    generalize upd H1 ll (.lst (ls0.map V.str)) = H2 at D1 e1 S1 ⊢
    try dsimp only [gName, List.set]
    refine ⟨_, rfl, d, 3, n, rfl, D1, by decide, by decide, by omega, fun z H3 z0 z1 D3 k3 => ?_⟩
    refine ⟨_, _, rfl, rfl, _, rfl, by omega, by omega, ?_⟩
    have e3 := k3 _ _ e1 nd
    have K3 : KeepBut d H H3 := (S1.but d).trans k3
    refine for_range (n := (1 + z).toNat) (fun k σ H' => ∃ (v3 v4 v5 : Option V) (ls : List Str), σ = [some (.ref d), some fv, some (.ref ll), v3, v4, v5] ∧ H' ll = some (.lst (ls.map V.str)) ∧ 1 ≤ ls.length ∧ WL ls (tB k) ∧ Deck H' d (n + 1 + 20 * k) ∧ KeepBut d H H')
      ⟨none, none, none, ls0, rfl, e3, n0, W0.le (by show _ ≤ 1780; omega), D3, K3⟩ ?_ ?_
    · clear e1 e3 D1 D3 k3 K3 S1
      rintro k _ H4 hk ⟨v3, v4, v5, ls, rfl, e4, n4, W4, D4, K4⟩
      have k3 : k < 3 := by omega
      have t4 := tB3 (k := k) (by omega)
      have t5 := tB3 (k := k + 1) (by omega)
      have tt : tB (k + 1) = 2 * tB k + 20 := rfl
      have l4 := W4.len
      try dsimp only [gName, List.set]
      refine ⟨_, rfl, _, rfl, _, _, rfl, Or.inl ⟨_, SqL.of e4, rfl⟩, d, _, _, rfl, D4, by rw [List.length_map]; omega, by rw [List.length_map]; omega, by omega, fun at_ H5 a0 a1 D5 k5 => ?_⟩
      rw [List.length_map] at a1
      obtain ⟨i, rfl⟩ : ∃ i : Nat, at_ = (i : Int) := ⟨at_.toNat, by omega⟩
      have hi : i < ls.length := Int.ofNat_lt.mp a1
      have e5 := k5 _ _ e4 nd
      try dsimp only [gName, List.set]
      refine ⟨_, rfl, d, 8, _, rfl, D5, by decide, by decide, by omega, fun way H6 w0 w1 D6 k6 => ?_⟩
      have e6 := k6 _ _ e5 nd
      have K6 := (K4.trans k5).trans k6
      clear e4 e5 D4 D5 K4 k5 k6
      try dsimp only [gName, List.set]
      have gi : (ls.map V.str)[i]? = some (V.str ls[i]) := by rw [List.getElem?_map, List.getElem?_eq_getElem hi]; rfl
      have ai := W4.get (List.getElem?_eq_getElem hi)
      have D6' := D6.more (show n + 1 + 20 * k + 1 + 1 ≤ n + 1 + 20 * (k + 1) by omega)
      have put : ∀ (H' : Hp) (ls2 : List Str), H' ll = some (.lst (ls.map V.str)) → Deck H' d (n + 1 + 20 * (k + 1)) → KeepBut d H H' → 1 ≤ ls2.length → WL ls2 (tB (k + 1)) → (upd H' ll (.lst (ls2.map V.str))) ll = some (.lst (ls2.map V.str)) ∧ 1 ≤ ls2.length ∧ WL ls2 (tB (k + 1)) ∧ Deck (upd H' ll (.lst (ls2.map V.str))) d (n + 1 + 20 * (k + 1)) ∧ KeepBut d H (upd H' ll (.lst (ls2.map V.str))) := fun H' ls2 e D k n W =>
        ⟨upd_same, n, W, deck_upd D e n4 nd, fun b o e nb => by rw [upd_ne (ne_of_none e hll0)]; exact k b o e nb⟩
      refine tIfS_by (fun b H7 => H7 = H6 ∧ (b = true → 2 ≤ ls.length)) (fun Q' hQ => ?_) ?_ ?_
      · refine ⟨_, rfl, Or.inl ⟨rfl, _, rfl, ?_⟩⟩
        refine ite2 (fun _ => ?_) (fun _ => hQ _ _ ⟨rfl, fun e => by cases e⟩)
        refine ⟨_, rfl, _, _, rfl, Or.inl ⟨_, SqL.of e6, rfl⟩, _, _, rfl, rfl, _, rfl, hQ _ _ ⟨rfl, fun e => ?_⟩⟩
        have := of_decide_eq_true e
        rw [List.length_map] at this
        omega
      · rintro _ ⟨rfl, two⟩
        have two := two rfl
        refine ⟨_, rfl, Or.inl ⟨rfl, _, SqL.of e6⟩, _, rfl, ll, _, (i : Int), i, V.str ls[i], rfl, rfl, e6, by omega, by omega, ?_, gi, ?_⟩
        · rw [List.length_map, PySem.StrLaws.seqIndex_nonneg (by omega) (by omega), Int.toNat_natCast]
        · rw [mapErase]
          exact ⟨_, _, _, _, rfl, put _ _ e6 D6' K6 (by rw [List.length_eraseIdx_of_lt hi]; omega) ((W4.erase i).le (by omega))⟩
      · rintro _ ⟨rfl, _⟩
        refine ⟨_, rfl, Or.inl ⟨rfl, _, rfl, ?_⟩⟩
        refine ite2 (fun _ => ?_) (fun _ => ?_)
        · refine ⟨_, rfl, Or.inl ⟨rfl, _, SqL.of e6⟩, _, rfl, _, rfl, _, rfl, Or.inl ⟨ll, _, (i : Int), _, rfl, rfl, SqL.of e6, atI_nat gi, ll, _, (i : Int), i, _, rfl, rfl, rfl, e6, by rw [List.length_map]; omega, by rw [List.length_map]; omega, ?_⟩⟩
          have e : (ls.map V.str).take i ++ V.str ls[i] :: (ls.map V.str).drop i = (ls.take i ++ ls[i] :: ls.drop i).map V.str := by simp [List.map_append, List.map_take, List.map_drop]
          rw [e]
          exact ⟨_, _, _, _, rfl, put _ _ e6 D6' K6 (by rw [List.length_append, List.length_cons]; omega) ((W4.insert ai.1 i).le (by omega))⟩
        refine ⟨_, rfl, Or.inl ⟨rfl, _, rfl, ?_⟩⟩
        refine ite2 (fun _ => ?_) (fun _ => ?_)
        · refine ⟨(by show 5 ≤ sizeLine; decide), fun lo hlo => ?_⟩
          have so := same_upd (o := .lst (lineW.map V.str)) hlo
          have no : lo ≠ d := by obtain ⟨zs, e⟩ := D6.lst; exact (ne_of_none e hlo).symm
          refine ⟨_, rfl, d, 5, _, rfl, D6.upd hlo, by decide, by decide, by omega, fun r H7 r0 r1 D7 k7 => ?_⟩
          obtain ⟨y, ey, ya, yl⟩ : ∃ y : Str, atI (lineW.map V.str) r = some (V.str y) ∧ Asc y ∧ y.length ≤ 10 := by
            obtain ⟨v, e3, e4⟩ := atI_mem (xs := lineW.map V.str) r0 (by rw [List.length_map]; exact r1)
            obtain ⟨y, hy, rfl⟩ := List.mem_map.mp e4
            exact ⟨y, e3, lineW_ok hy⟩
          have e7 := k7 _ _ (so _ _ e6) nd
          refine Or.inl ⟨lo, _, r, _, rfl, rfl, SqL.of (k7 lo (.lst (lineW.map V.str)) upd_same no), ey, ?_⟩
          refine ⟨_, rfl, _, rfl, ll, _, (i : Int), i, rfl, rfl, e7, ix_nat (by rw [List.length_map]; exact hi), ?_⟩
          rw [← List.map_set]
          exact ⟨_, _, _, _, rfl, put _ _ e7 (D7.more (by omega)) ((K6.trans (so.but d)).trans k7) (by rw [List.length_set]; exact n4) ((W4.set ya).le (by omega))⟩
        · refine ⟨_, rfl, _, rfl, _, rfl, Or.inl ⟨ll, _, (i : Int), _, rfl, rfl, SqL.of e6, atI_nat gi, d, ls[i], _, rfl, D6, by omega, ai.1, by omega, fun r H7 ra rl D7 k7 => ?_⟩⟩
          have e7 := k7 _ _ e6 nd
          refine ⟨_, rfl, _, rfl, ll, _, (i : Int), i, rfl, rfl, e7, ix_nat (by rw [List.length_map]; exact hi), ?_⟩
          rw [← List.map_set]
          exact ⟨_, _, _, _, rfl, put _ _ e7 (D7.more (by omega)) (K6.trans k7) (by rw [List.length_set]; exact n4) (WL.setX W4 (List.getElem?_eq_getElem hi) ra (by omega))⟩
    · rintro _ H4 ⟨v3, v4, v5, ls, rfl, e4, n4, W4, D4, K4⟩
      have t4 := tB3 (k := (1 + z).toNat) (by omega)
      refine ⟨rfl, _, rfl, _, ll, ls, rfl, rfl, SqL.of e4, ?_, ?_⟩
      · have := W4.2
        show _ + ls.length * 1 ≤ 1000000
        omega
      obtain ⟨ja, jl⟩ := W4.join (c := 10) (by decide)
      exact q _ _ ja (by omega) (D4.more (by omega)) K4
theorem joinL_app {c : Nat} : ∀ {a b : List (List Nat)}, a ≠ [] → b ≠ [] → joinL c (a ++ b) = joinL c a ++ c :: joinL c b
  | [], _, h, _ => absurd rfl h
  | [x], b, _, hb => by
    show joinL c (x :: b) = _
    rw [joinL_cons c x hb]
    rfl
  | x :: y :: r, b, _, hb => by
    show joinL c (x :: ((y :: r) ++ b)) = _
    rw [joinL_cons c x (by simp), joinL_app (by simp) hb, joinL_cons c x (by simp)]
    simp
theorem flat_ne {ls : List Str} (h : ls ≠ []) : ls.flatMap wordsIn ≠ [] := by
  cases ls with
  | nil => exact absurd rfl h
  | cons l ls =>
    intro e
    rw [List.flatMap_cons] at e
    exact split_ne l 32 (List.append_eq_nil_iff.mp e).1
theorem join_flatL : ∀ {ls : List Str}, ls ≠ [] → joinL 32 (ls.map cpsOf) = joinL 32 ((ls.flatMap wordsIn).map cpsOf)
  | [], h => absurd rfl h
  | [l], _ => by
    rw [List.flatMap_cons, List.flatMap_nil, List.append_nil]
    exact (split_cps l 32).symm
  | l :: m :: ls, _ => by
    rw [List.flatMap_cons, List.map_append, joinL_app (by rw [Ne, List.map_eq_nil_iff]; exact split_ne l 32) (by rw [Ne, List.map_eq_nil_iff]; exact flat_ne (by simp)), ← join_flatL (ls := m :: ls) (by simp), List.map_cons, joinL_cons 32 _ (by simp)]
    show cpsOf l ++ _ = _
    rw [show joinL 32 ((wordsIn l).map cpsOf) = cpsOf l from split_cps l 32]
theorem words_join {ls : List Str} (h : ls ≠ []) : Txt.split (Txt.join ⟨#[32]⟩ ls) ⟨#[32]⟩ = ls.flatMap wordsIn := by
  have e : Txt.join ⟨#[32]⟩ ls = Str.join ⟨#[32]⟩ (ls.flatMap wordsIn) := by
    rw [tjoin]
    refine str_ext ?_
    rw [join_cps, join_cps]
    exact join_flatL h
  rw [e]
  refine split_join 32 (flat_ne h) fun w hw => ?_
  obtain ⟨l, _, hl⟩ := List.mem_flatMap.mp hw
  exact PySem.StrLaws.split_free l 32 w hl
def spBeyond : Sp := fun vs H Q _ => ∃ x : Str, vs = [.str x] ∧ Asc x ∧ x.length ≤ 19990 ∧ (∀ H' : Hp, Same H H' → Q (.bl true) H') ∧ ((∀ l ∈ linesAt x, ∀ w ∈ lineC l, numB w = true → Wide (numOf w)) → ∀ H' : Hp, Same H H' → Q (.bl false) H')
theorem df_law_beyond (T : Txt K mg) : Df P w K mg base 3 "_law_beyond" ["text"] spBeyond := by
  refine T.d_law_beyond.ok sc_law_beyond (fun vs H Q E h => ?_) (fun f cdv A outer s H vs Q E hr h => ?_)
  · obtain ⟨x, rfl, _⟩ := h
    rfl
  · obtain ⟨x, rfl, asc, ln, qT, qF⟩ := h
    refine ⟨_, (@pss_cons _ _ _ _ _ (@ps_set _ _ 1 _ _ _ _ sc_law_beyond.nd rfl (by first | exact Or.inl rfl | exact Or.inr rfl) (pe_bmK (K := K) rfl PySem.F.plainAttrs_str PySem.F.slot_str_split PySem.F.type_str_split mt_split (pv 0) (@pa_cons _ _ _ _ _ pe_str pa_nil (by rfl))) (by rfl) (by first | exact .inl rfl | exact .inr rfl))
      (@pss_cons _ _ _ _ _ (@ps_if _ _ _ _ _ _ _ _ (pw_or (@pt_cmpR _ _ _ _ _ _ _ _ op_gt (@pe_callB _ _ _ _ _ _ _ _ _ (call_lenK (K := K) rfl) (by rfl) (by exact T.n_len) bt_len (@pa_cons _ _ _ _ _ (pv 1) pa_nil (by rfl)) (by decide) (by decide) (by rfl) (by rfl)) pe_int (nomark _)) (pw_or1 (@pt_cmpR _ _ _ _ _ _ _ _ op_gt (@pe_callB _ _ _ _ _ _ _ _ _ (call_maxB (K := K) rfl rfl) (by rfl) T.n_max bt_max (@pa_cons _ _ _ _ _ (pe_compIf (M := []) (idx := []) rfl (pi_seqK (K := K) rfl (pv 1)) (compOk (by kernel_rfl)) (by decide +kernel) (by first | exact Or.inl rfl | exact Or.inr rfl) (fun _ _ _ _ _ => pts_nil) (fun _ _ _ _ _ => (@pe_callB _ _ _ _ _ _ _ _ _ (call_lenK (K := K) rfl) (by rfl) (by exact T.n_len) bt_len (@pa_cons _ _ _ _ _ (pe_bmK (K := K) rfl PySem.F.plainAttrs_str PySem.F.slot_str_split PySem.F.type_str_split mt_split (pv 0) (@pa_cons _ _ _ _ _ pe_str pa_nil (by rfl))) pa_nil star_call) (by decide) (by decide) (by rfl) (by rfl)))) pa_nil star_comp) (by decide) (by decide) (by rfl) (by rfl)) pe_int (nomark _)))).pt (@pss_one _ _ _ (@ps_ret _ _ _ _ pe_bl)) pss_nil)
      (@pss_cons _ _ _ _ _ (@ps_set _ _ 2 _ _ _ _ sc_law_beyond.nd rfl (by first | exact Or.inl rfl | exact Or.inr rfl) (@pe_lst _ _ _ _ pa_nil) (by rfl) (by first | exact .inl rfl | exact .inr rfl))
      (@pss_cons _ _ _ _ _ (@ps_for _ _ _ _ _ _ _ _ PassesOwn.never rfl (pi_seqK (K := K) rfl (pe_bmK (K := K) rfl PySem.F.plainAttrs_str PySem.F.slot_str_split PySem.F.type_str_split mt_split (pe_bmK (K := K) rfl PySem.F.plainAttrs_str PySem.F.slot_str_join PySem.F.type_str_join (mt_joinK (K := K) rfl) pe_str (@pa_cons _ _ _ _ _ (pv 1) pa_nil (by rfl))) (@pa_cons _ _ _ _ _ pe_str pa_nil (by rfl)))) (pg_name (i := 3) sc_law_beyond.nd rfl (by first | exact Or.inl rfl | exact Or.inr rfl)) (@pss_one _ _ _ (@ps_set _ _ 2 _ _ _ _ sc_law_beyond.nd rfl (by first | exact Or.inl rfl | exact Or.inr rfl) (@pe_op _ _ _ _ _ _ _ _ op_cat (pv 2) (@pe_df _ _ _ _ _ _ _ _ _ _ (df_law_number T) (hr.mono (by decide)) (@pa_cons _ _ _ _ _ (pv 3) pa_nil (by rfl)) (by rfl) (by decide) (by rfl) (by rfl))) (by rfl) (by first | exact .inl rfl | exact .inr rfl))) (by intro _; rfl))
      (@pss_one _ _ _ (@ps_ret _ _ _ _ (@pe_cmpR _ _ _ _ _ _ _ _ op_gt (@pe_callB _ _ _ _ _ _ _ _ _ (call_maxB (K := K) rfl rfl) (by rfl) T.n_max bt_max (@pa_cons _ _ _ _ _ (@pe_op _ _ _ _ _ _ _ _ op_cat (@pe_lst _ _ _ _ (@pa_cons _ _ _ _ _ pe_int pa_nil (by rfl))) (pe_compIf (M := []) (idx := []) rfl (pi_seqK (K := K) rfl (pv 2)) (compOk (by kernel_rfl)) (by decide +kernel) (by first | exact Or.inl rfl | exact Or.inr rfl) (fun _ _ _ _ _ => pts_nil) (fun _ _ _ _ _ => (@pe_callB _ _ _ _ _ _ _ _ _ call_abs (by rfl) (by exact T.n_abs) bt_abs (@pa_cons _ _ _ _ _ (pv 0) pa_nil (by rfl)) (by decide) (by decide) (by rfl) (by rfl))))) pa_nil star_bin) (by decide) (by decide) (by rfl) (by rfl)) (@pe_op _ _ _ _ _ _ _ _ op_pow pe_int pe_int) (nomark _)))))))), ?_⟩
    refine ⟨_, rfl, rfl, _, _, rfl, rfl, by decide +kernel, by omega, fun ll hll => ?_⟩
    rw [str_nl2]
    have W0 : WL (linesAt x) (x.length + 1) := WL.split asc 10
    have n0 : linesAt x ≠ [] := split_ne x 10
    have l0 := W0.len
    have e1 : upd H ll (.lst ((linesAt x).map V.str)) ll = some (.lst ((linesAt x).map V.str)) := upd_same
    have S1 := same_upd (o := .lst ((linesAt x).map V.str)) hll
    dsimp only [gName, List.set]
    change tSeq (tIfS _ _ _) _ _ [some (.str x), some (.ref ll), none, none] (upd H ll (.lst ((linesAt x).map V.str)))
    generalize upd H ll (.lst ((linesAt x).map V.str)) = H1 at e1 S1 ⊢
    try dsimp only [gName, List.set]
    refine tSeq_cut (fun σ' H' => σ' = [some (.str x), some (.ref ll), none, none] ∧ Same H1 H') ?_ (fun rest => ?_)
    rotate_left
    · refine ⟨_, rfl, _, _, rfl, Or.inl ⟨_, SqL.of e1, rfl⟩, _, _, rfl, rfl, _, rfl, ?_⟩
      refine ite2 (fun _ => iteT (qT _ S1)) (fun _ => ?_)
      refine Or.inl ?_
      refine ⟨_, rfl, _, rfl, ⟨_, SqL.of e1⟩, ?_⟩
      refine compW_list (xs := (linesAt x).map V.str) (fun j zs H' => Same H1 H' ∧ zs = (((linesAt x).take j).map fun l => ((wordsIn l).length : Int)).map V.int) ⟨Same.refl _, rfl⟩ (by rw [List.length_map]; exact Nat.le_trans (show _ ≤ 30000 by omega) (by decide)) (fun j zs H' _ ⟨s, _⟩ => SqL.of (s _ _ e1)) ?_ ?_
      · rintro j y zs H5 hy ⟨s5, rfl⟩
        rw [List.getElem?_map] at hy
        obtain ⟨l, ec, rfl⟩ := Option.map_eq_some_iff.mp hy
        have ml := (W0.get ec).2
        refine oneT ?_
        refine ⟨_, rfl, rfl, _, _, rfl, rfl, by decide +kernel, by omega, fun l2 hl2 => ?_⟩
        refine ⟨_, _, rfl, Or.inl ⟨_, SqL.of upd_same, rfl⟩, s5.trans (same_upd hl2), ?_⟩
        rw [List.take_add_one, ec, List.map_append, List.map_append, List.length_map, str_blank]
        rfl
      · rintro zs H5 ⟨s5, rfl⟩ l5 hl5
        rw [List.length_map, List.take_of_length_le (Nat.le_refl _)]
        refine ⟨_, _, rfl, SqL.of upd_same, (by rw [Ne, List.map_eq_nil_iff]; exact n0), fun M _ _ => ⟨_, _, rfl, rfl, _, rfl, ?_⟩⟩
        have s6 := s5.trans (same_upd (o := .lst (((linesAt x).map fun l => ((wordsIn l).length : Int)).map V.int)) hl5)
        exact ite2 (fun _ => qT _ (S1.trans s6)) (fun _ => rest _ _ ⟨rfl, s6⟩)
    rintro _ H2 ⟨rfl, s2⟩
    refine ⟨(by show 0 ≤ sizeLine; decide), fun d hd => ?_⟩
    have sd := same_upd (o := .lst []) hd
    have ed : upd H2 d (.lst []) d = some (.lst []) := upd_same
    generalize upd H2 d (.lst []) = H3 at sd ed ⊢
    have S3 := (S1.trans s2).trans sd
    have e3 := sd _ _ (s2 _ _ e1)
    try dsimp only [gName, List.set]
    refine Or.inl ?_
    obtain ⟨ja, jl⟩ := W0.join (c := 32) (by decide)
    refine ⟨rfl, _, rfl, _, ll, linesAt x, rfl, rfl, SqL.of e3, ?_, ?_⟩
    · have := W0.2
      rw [str_blank]
      show _ + (linesAt x).length * 1 ≤ 1000000
      omega
    rw [str_blank]
    refine ⟨rfl, _, _, rfl, rfl, by decide +kernel, by omega, fun lj hlj => ?_⟩
    rw [words_join n0]
    refine ⟨_, rfl, ⟨_, SqL.of upd_same⟩, ?_⟩
    have wlen : ∀ w ∈ (linesAt x).flatMap wordsIn, Asc w ∧ w.length ≤ 20000 := fun w hw => by
      rw [← words_join n0] at hw
      exact ⟨ja.part hw, by have := (split_part hw).2; omega⟩
    have wcnt : ((linesAt x).flatMap wordsIn).length ≤ 20002 := by
      rw [← words_join n0]
      have := PyProof.Rows.split_le (Txt.join ⟨#[32]⟩ (linesAt x)) ⟨#[32]⟩
      omega
    generalize ew : (linesAt x).flatMap wordsIn = ws at wlen wcnt ⊢
    have sj := same_upd (o := .lst (ws.map V.str)) hlj
    refine for_list (K := K) (xs := ws.map V.str) (fun k σ H' => ∃ (v3 : Option V) (e : Addr) (ns : List Int), σ = [some (.str x), some (.ref ll), some (.ref e), v3] ∧ Same H3 H' ∧ H' lj = some (.lst (ws.map V.str)) ∧ H' e = some (.lst (ns.map V.int)) ∧ ns.length ≤ k ∧ ∀ w ∈ ws.take k, numB (cpsOf w) = true → numOf (cpsOf w) ∈ ns)
      ⟨none, d, [], rfl, sj, upd_same, sj _ _ ed, Nat.le_refl _, fun w hw => by simp at hw⟩ (fun k σ H' _ ⟨_, _, _, _, _, e, _⟩ => SqL.of e) ?_ ?_
    · rintro k y _ H4 hy ⟨v3, e, ns, rfl, s4, ej, ee, nk, hin⟩
      rw [List.getElem?_map] at hy
      obtain ⟨wd, ec, rfl⟩ := Option.map_eq_some_iff.mp hy
      have kl : k < ws.length := (List.getElem?_eq_some_iff.mp ec).1
      obtain ⟨wa, wl⟩ := wlen wd (List.mem_of_getElem? ec)
      try dsimp only [gName, List.set]
      refine ⟨_, rfl, _, rfl, wd, rfl, wa, wl, fun l H5 fl s5 e5 => ?_⟩
      have e5' : H5 l = some (.lst ((if numB (cpsOf wd) = true then [numOf (cpsOf wd)] else []).map V.int)) := by rw [e5]; split <;> rfl
      refine ⟨e, l, _, _, rfl, rfl, s5 _ _ ee, e5', ?_, fun p hp => ?_⟩
      · rw [List.length_map, List.length_map]
        have : (if numB (cpsOf wd) = true then [numOf (cpsOf wd)] else []).length ≤ 1 := by split <;> simp
        exact Nat.le_trans (show _ ≤ 30000 by omega) (by decide)
      · refine ⟨_, p, ns ++ (if numB (cpsOf wd) = true then [numOf (cpsOf wd)] else []), rfl, (s4.trans s5).trans (same_upd hp), same_upd hp _ _ (s5 _ _ ej), by rw [upd_same, List.map_append], ?_, fun w hw nw => ?_⟩
        · rw [List.length_append]
          have : (if numB (cpsOf wd) = true then [numOf (cpsOf wd)] else []).length ≤ 1 := by split <;> simp
          omega
        · rw [List.take_add_one, ec] at hw
          rcases List.mem_append.mp hw with z | z
          · exact List.mem_append_left _ (hin w z nw)
          · obtain rfl : w = wd := by simpa using z
            rw [if_pos nw]
            exact List.mem_append_right _ (by simp)
    · rintro _ H4 ⟨v3, e, ns, rfl, s4, ej, ee, nk, hin⟩
      rw [List.length_map] at nk hin
      rw [List.take_of_length_le (Nat.le_refl _)] at hin
      have S4 := S3.trans s4
      refine ⟨(by show 1 ≤ sizeLine; decide), fun p hp => ?_⟩
      have sp := same_upd (o := .lst [V.int 0]) hp
      have ep : upd H4 p (.lst [V.int 0]) p = some (.lst [V.int 0]) := upd_same
      have ee5 := sp _ _ ee
      generalize upd H4 p (.lst [V.int 0]) = H5 at sp ep ee5 ⊢
      refine Or.inl ?_
      refine ⟨_, rfl, _, rfl, ⟨_, SqL.of ee5⟩, ?_⟩
      refine compW_list (xs := ns.map V.int) (fun j zs H' => H' = H5 ∧ zs = ((ns.take j).map fun i => if i < 0 then -i else i).map V.int) ⟨rfl, rfl⟩ (by rw [List.length_map]; exact Nat.le_trans (show _ ≤ 30000 by omega) (by decide)) (fun j zs H' _ ⟨s, _⟩ => by rw [s]; exact SqL.of ee5) ?_ ?_
      · rintro j y zs _ hy ⟨rfl, rfl⟩
        rw [List.getElem?_map] at hy
        obtain ⟨i, ec, rfl⟩ := Option.map_eq_some_iff.mp hy
        refine oneT ?_
        refine ⟨_, rfl, i, rfl, rfl, ?_⟩
        rw [List.take_add_one, ec, List.map_append, List.map_append]
        rfl
      · rintro zs _ ⟨rfl, rfl⟩ l6 hl6
        rw [List.length_map, List.take_of_length_le (Nat.le_refl _)]
        have s6 := same_upd (o := .lst ((ns.map fun i => if i < 0 then -i else i).map V.int)) hl6
        refine ⟨p, l6, _, _, rfl, rfl, s6 _ _ ep, upd_same, ?_, fun p7 hp7 => ?_⟩
        · rw [List.length_map, List.length_map]
          exact Nat.le_trans (show _ ≤ 30000 by show 1 + _ ≤ _; omega) (by decide)
        refine ⟨p7, 0 :: (ns.map fun i => if i < 0 then -i else i), rfl, SqL.of upd_same, by simp, fun M _ hM => ?_⟩
        have S7 := ((S4.trans sp).trans s6).trans (same_upd (o := .lst ([V.int 0] ++ (ns.map fun i => if i < 0 then -i else i).map V.int)) hp7)
        refine ⟨_, _, rfl, rfl, ⟨by decide, by decide, by decide⟩, _, _, rfl, rfl, ?_⟩
        rw [show (10 : Int) ^ (9 : Int).toNat = 1000000000 by decide]
        show Q (V.bl (decide (1000000000 < M))) _
        by_cases big : 1000000000 < M
        · rw [decide_eq_true big]
          exact qT _ S7
        · rw [decide_eq_false big]
          refine qF (fun l hl w hw nw => ?_) _ S7
          obtain ⟨wd, hwd, rfl⟩ := List.mem_map.mp hw
          have m : numOf (cpsOf wd) ∈ ns := hin wd (by rw [← ew]; exact List.mem_flatMap.mpr ⟨l, hl, hwd⟩) nw
          have := hM _ (List.mem_cons_of_mem _ (List.mem_map.mpr ⟨_, m, rfl⟩))
          unfold Wide
          split at this <;> omega
theorem asc_of {x : Str} (h : x.cps.all (· < 128) = true) : Asc x := fun c hc => by
  rw [← Array.all_toList, List.all_eq_true] at h
  simpa using h c hc
def fixedW : List Str := ["", "\n", " ", "1\n\n2", "1 2\n3", "1\n2 3", "1 2\n3\n4 a", "a 1\n2", "-", "-0", "0 0\n0 00", "1\n", "..", "1;2", "1,2", "*", "_", "x", "1_0", "n", "?", "1 2;3 4", "#"]
theorem fixedW_all : (fixedW.all fun y => y.cps.all (· < 128) && decide (y.length ≤ 100) && (linesAt y).all fun l => (lineC l).all fun w => !numB w || (decide (-1000000000 < numOf w) && decide (numOf w < 1000000000))) = true := by decide +kernel
theorem fixedW_ok {y : Str} (h : y ∈ fixedW) : Asc y ∧ y.length ≤ 20000 ∧ ∀ l ∈ linesAt y, ∀ w ∈ lineC l, numB w = true → Wide (numOf w) := by
  have a := List.all_eq_true.mp fixedW_all y h
  simp only [Bool.and_eq_true, decide_eq_true_eq] at a
  refine ⟨asc_of a.1.1, by omega, fun l hl w hw nw => ?_⟩
  have b := List.all_eq_true.mp a.2 l hl
  have c := List.all_eq_true.mp b w hw
  rw [nw] at c
  simp only [Bool.not_true, Bool.false_or, Bool.and_eq_true, decide_eq_true_eq] at c
  unfold Wide
  omega
theorem df_law (T : Txt K mg) : Df P w K mg base 8 "law" ["script"] (SpLaw K) := by
  obtain ⟨aN, aF, aM, aP, aW, XX⟩ := T.x_exc
  obtain ⟨D, gD, pD, nD, RD⟩ := T.e_NoField
  refine T.d_law.ok sc_law (fun vs H Q E h => ?_) (fun f cdv A outer s H vs Q E hr h => ?_)
  · obtain ⟨a, ns, rfl, _⟩ := h
    rfl
  · obtain ⟨a, ns, rfl, hS, hl, q⟩ := h
    refine ⟨_, (@pss_cons _ _ _ _ _ (@ps_set _ _ 1 _ _ _ _ sc_law.nd rfl (by first | exact Or.inl rfl | exact Or.inr rfl) (@pe_df _ _ _ _ _ _ _ _ _ _ (df_law_deck T) (hr.mono (by decide)) (@pa_cons _ _ _ _ _ (pv 0) pa_nil (by rfl)) (by rfl) (by decide) (by rfl) (by rfl)) (by rfl) (by first | exact .inl rfl | exact .inr rfl))
      (@pss_cons _ _ _ _ _ (@ps_for _ _ _ _ _ _ _ _ PassesOwn.never rfl (pi_range1 (by rfl) T.n_range (@pa_cons _ _ _ _ _ pe_int pa_nil (by rfl))) (pg_name (i := 2) sc_law.nd rfl (by first | exact Or.inl rfl | exact Or.inr rfl)) (@pss_cons _ _ _ _ _ (@ps_set _ _ 3 _ _ _ _ sc_law.nd rfl (by first | exact Or.inl rfl | exact Or.inr rfl) (@pe_df _ _ _ _ _ _ _ _ _ _ (df_law_field T) (hr.mono (by decide)) (@pa_cons _ _ _ _ _ (pv 1) pa_nil (by rfl)) (by rfl) (by decide) (by rfl) (by rfl)) (by rfl) (by first | exact .inl rfl | exact .inr rfl))
      (@pss_cons _ _ _ _ _ (@ps_set _ _ 4 _ _ _ _ sc_law.nd rfl (by first | exact Or.inl rfl | exact Or.inr rfl) (@pe_df _ _ _ _ _ _ _ _ _ _ (df_law_text T) (hr.mono (by decide)) (@pa_cons _ _ _ _ _ (pv 3) pa_nil (by rfl)) (by rfl) (by decide) (by rfl) (by rfl)) (by rfl) (by first | exact .inl rfl | exact .inr rfl))
      (@pss_cons _ _ _ _ _ (ps_setComp (i := 5) sc_law.nd rfl (by first | exact Or.inl rfl | exact Or.inr rfl) (M := ["deck", "field"]) (idx := [1, 3]) rfl (pi_range1 (by rfl) T.n_range (@pa_cons _ _ _ _ _ pe_int pa_nil (by rfl))) (compOk (by kernel_rfl)) (by decide +kernel) (by first | exact Or.inl rfl | exact Or.inr rfl) (fun _ _ _ _ _ => pts_nil) (fun _ _ _ _ _ => (@pe_df _ _ _ _ _ _ _ _ _ _ (df_law_spoilt T) (hr.mono (by decide)) (@pa_cons _ _ _ _ _ (pv 1) (@pa_cons _ _ _ _ _ (pv 2) pa_nil (by rfl)) (by rfl)) (by rfl) (by decide) (by rfl) (by rfl))))
      (pss_pk (psp_set (i := 5) sc_law.nd rfl (by first | exact Or.inl rfl | exact Or.inr rfl) (pep_op2 op_cat (pv 5) (pep_lst (pap_cons (pep_op op_add_str pep_str (pv 4)) (pak_cons (PE.k (@pe_op _ _ _ _ _ _ _ _ op_add_str (pv 4) pe_str)) (pak_cons (PE.k (@pe_op _ _ _ _ _ _ _ _ op_add_str (pv 4) pe_str)) (pak_cons (PE.k (@pe_op _ _ _ _ _ _ _ _ op_add_str pe_str (pv 4))) (pak_cons (pek_bm PySem.F.plainAttrs_str PySem.F.slot_str_replace PySem.F.type_str_replace (mt_replace T.n_booked) (pv 4) (pak_cons pek_str (pak_cons pek_str (pak_cons (PE.k pe_int) (PA.k pa_nil))))) (pak_cons (PE.k (pv 4)) (PA.k pa_nil))))))))))
      (psk_for PassesOwn.never rfl (pik_list (pek_lst (pak_cons pek_str (pak_cons pek_str (PA.k pa_nil))))) (pg_name (i := 6) sc_law.nd rfl (by first | exact Or.inl rfl | exact Or.inr rfl)) (@pss_one _ _ _ (@ps_set _ _ 5 _ _ _ _ sc_law.nd rfl (by first | exact Or.inl rfl | exact Or.inr rfl) (@pe_op _ _ _ _ _ _ _ _ op_cat (pv 5) (@pe_lst _ _ _ _ (@pa_cons _ _ _ _ _ (pe_bmK (K := K) rfl PySem.F.plainAttrs_str PySem.F.slot_str_replace PySem.F.type_str_replace (mt_replace T.n_booked) (pv 4) (@pa_cons _ _ _ _ _ (pv 6) (@pa_cons _ _ _ _ _ (@pe_df _ _ _ _ _ _ _ _ _ _ (df_law_sign T) (hr.mono (by decide)) (@pa_cons _ _ _ _ _ (pv 1) pa_nil (by rfl)) (by rfl) (by decide) (by rfl) (by rfl)) pa_nil star_call) (by rfl))) (@pa_cons _ _ _ _ _ (pe_bmK (K := K) rfl PySem.F.plainAttrs_str PySem.F.slot_str_replace PySem.F.type_str_replace (mt_replace T.n_booked) (pv 4) (@pa_cons _ _ _ _ _ (pv 6) (@pa_cons _ _ _ _ _ (@pe_df _ _ _ _ _ _ _ _ _ _ (df_law_sign T) (hr.mono (by decide)) (@pa_cons _ _ _ _ _ (pv 1) pa_nil (by rfl)) (by rfl) (by decide) (by rfl) (by rfl)) (@pa_cons _ _ _ _ _ pe_int pa_nil (by rfl)) star_call) (by rfl))) pa_nil star_call) star_call))) (by rfl) (by first | exact .inl rfl | exact .inr rfl))))
      (@pss_cons _ _ _ _ _ (@ps_set _ _ 5 _ _ _ _ sc_law.nd rfl (by first | exact Or.inl rfl | exact Or.inr rfl) (@pe_op _ _ _ _ _ _ _ _ op_cat (pv 5) (@pe_lst _ _ _ _ (@pa_cons _ _ _ _ _ (pe_unT (@pe_df _ _ _ _ _ _ _ _ _ _ (df_law_sign T) (hr.mono (by decide)) (@pa_cons _ _ _ _ _ (pv 1) pa_nil (by rfl)) (by rfl) (by decide) (by rfl) (by rfl))) (@pa_cons _ _ _ _ _ (@pe_op _ _ _ _ _ _ _ _ op_add_str (pv 4) (pe_unT (@pe_df _ _ _ _ _ _ _ _ _ _ (df_law_sign T) (hr.mono (by decide)) (@pa_cons _ _ _ _ _ (pv 1) pa_nil (by rfl)) (by rfl) (by decide) (by rfl) (by rfl)))) pa_nil star_bin) star_call))) (by rfl) (by first | exact .inl rfl | exact .inr rfl))
      (@pss_one _ _ _ (@ps_for _ _ _ _ _ _ _ _ PassesOwn.never rfl (pi_seqK (K := K) rfl (pv 5)) (pg_name (i := 7) sc_law.nd rfl (by first | exact Or.inl rfl | exact Or.inr rfl)) (@pss_one _ _ _ (@ps_if _ _ _ _ _ _ _ _ (pw_and (@pt_not _ _ _ _ (@pt_val _ _ _ (@pe_df _ _ _ _ _ _ _ _ _ _ (df_law_beyond T) (hr.mono (by decide)) (@pa_cons _ _ _ _ _ (pv 7) pa_nil (by rfl)) (by rfl) (by decide) (by rfl) (by rfl)) (by intro _; rfl))) (pw_and1 (pw_or (@pt_not _ _ _ _ (@pt_val _ _ _ (@pe_df _ _ _ _ _ _ _ _ _ _ (df_law_right T) (hr.mono (by decide)) (@pa_cons _ _ _ _ _ (pv 7) pa_nil (by rfl)) (by rfl) (by decide) (by rfl) (by rfl)) (by intro _; rfl))) (pw_or1 (@pt_not _ _ _ _ (@pt_val _ _ _ (@pe_df _ _ _ _ _ _ _ _ _ _ (df_law_right T) (hr.mono (by decide)) (@pa_cons _ _ _ _ _ (pv 7) pa_nil (by rfl)) (by rfl) (by decide) (by rfl) (by rfl)) (by intro _; rfl))))).pt)).pt (@pss_one _ _ _ (@ps_ret _ _ _ _ pe_bl)) pss_nil)) (by intro _; rfl)))))))) (by intro _; rfl))
      (@pss_cons _ _ _ _ _ (@ps_set _ _ 8 _ _ _ _ sc_law.nd rfl (by first | exact Or.inl rfl | exact Or.inr rfl) (@pe_lst _ _ _ _ (@pa_cons _ _ _ _ _ pe_str (@pa_cons _ _ _ _ _ pe_str (@pa_cons _ _ _ _ _ pe_str (@pa_cons _ _ _ _ _ pe_str (@pa_cons _ _ _ _ _ pe_str (@pa_cons _ _ _ _ _ pe_str (@pa_cons _ _ _ _ _ pe_str (@pa_cons _ _ _ _ _ pe_str (@pa_cons _ _ _ _ _ pe_str (@pa_cons _ _ _ _ _ pe_str (@pa_cons _ _ _ _ _ pe_str (@pa_cons _ _ _ _ _ pe_str pa_nil (by rfl)) (by rfl)) (by rfl)) (by rfl)) (by rfl)) (by rfl)) (by rfl)) (by rfl)) (by rfl)) (by rfl)) (by rfl)) (by rfl))) (by rfl) (by first | exact .inl rfl | exact .inr rfl))
      (@pss_cons _ _ _ _ _ (@ps_set _ _ 8 _ _ _ _ sc_law.nd rfl (by first | exact Or.inl rfl | exact Or.inr rfl) (@pe_op _ _ _ _ _ _ _ _ op_cat (pv 8) (@pe_lst _ _ _ _ (@pa_cons _ _ _ _ _ pe_str (@pa_cons _ _ _ _ _ pe_str (@pa_cons _ _ _ _ _ pe_str (@pa_cons _ _ _ _ _ pe_str (@pa_cons _ _ _ _ _ pe_str (@pa_cons _ _ _ _ _ pe_str (@pa_cons _ _ _ _ _ pe_str (@pa_cons _ _ _ _ _ pe_str (@pa_cons _ _ _ _ _ pe_str (@pa_cons _ _ _ _ _ pe_str (@pa_cons _ _ _ _ _ pe_str pa_nil (by rfl)) (by rfl)) (by rfl)) (by rfl)) (by rfl)) (by rfl)) (by rfl)) (by rfl)) (by rfl)) (by rfl)) (by rfl)))) (by rfl) (by first | exact .inl rfl | exact .inr rfl))
      (@pss_cons _ _ _ _ _ (@ps_if _ _ _ _ _ _ _ _ (@pt_cmpR _ _ _ _ _ _ _ _ (op_neX hr.units) (pe_compIf (M := []) (idx := []) rfl (pi_seqK (K := K) rfl (pv 8)) (compOk (by kernel_rfl)) (by decide +kernel) (by first | exact Or.inl rfl | exact Or.inr rfl) (fun _ _ _ _ _ => pts_one (@pt_not _ _ _ _ (@pt_val _ _ _ (@pe_df _ _ _ _ _ _ _ _ _ _ (df_law_right T) (hr.mono (by decide)) (@pa_cons _ _ _ _ _ (pv 0) pa_nil (by rfl)) (by rfl) (by decide) (by rfl) (by rfl)) (by intro _; rfl)))) (fun _ _ _ _ _ => (pv 0))) (@pe_lst _ _ _ _ pa_nil) (nomark _)) (@pss_one _ _ _ (@ps_ret _ _ _ _ pe_bl)) pss_nil)
      (@pss_one _ _ _ (@ps_ret _ _ _ _ (pe_and (@pe_cmpR _ _ _ _ _ _ _ _ (op_eqA hr.units) (pe_xget (K := K) rfl (pe_newX (df_NoField_init T pD nD RD) (hr.mono (by decide)) gD (@pa_cons _ _ _ _ _ pe_int pa_nil (by rfl))) (by rfl)) pe_int (nomark _)) (pe_one (@pe_callB _ _ _ _ _ _ _ _ _ (CallR.or (call_isinstK (K := K) rfl) (call_isinstD (K := K) rfl)) (by rfl) T.n_isinstance bt_isinstance (@pa_cons _ _ _ _ _ (pe_newX (df_NoField_init T pD nD RD) (hr.mono (by decide)) gD (@pa_cons _ _ _ _ _ pe_int pa_nil (by rfl))) (@pa_cons _ _ _ _ _ (pe_glob (v := .ref _) (by rfl) XX.win rfl) pa_nil (by rfl)) star_call) (by decide) (by decide) (by rfl) (by rfl))))))))))), ?_⟩
    refine ⟨_, rfl, a, ns, rfl, hS, hl, fun d H1 hd D1 s1 => ?_⟩
    dsimp only [gName, List.set]
    refine tSeq_cut (fun σ' H' => ∃ v2 v3 v4 v5 v6 v7 : Option V, σ' = [some (.ref a), some (.ref d), v2, v3, v4, v5, v6, v7, none]) ?_ (fun rest => ?_)
    rotate_left
    · refine ⟨_, rfl, by decide, by decide, ?_⟩
      refine for_range (n := (4 : Int).toNat) (fun k σ H' => (∃ v2 v3 v4 v5 v6 v7 : Option V, σ = [some (.ref a), some (.ref d), v2, v3, v4, v5, v6, v7, none]) ∧ Deck H' d (k * 10000)) ⟨⟨none, none, none, none, none, none, rfl⟩, by simpa using D1⟩ ?_ (fun σ H' h => rest σ H' h.1)
      rintro k _ H2 hk ⟨⟨v2, v3, v4, v5, v6, v7, rfl⟩, D2⟩
      have hk : k < 4 := hk
      dsimp only [gName, List.set]
      refine ⟨_, rfl, d, _, rfl, D2, by omega, fun fv F h w H3 FO hf D3 k3 => ?_⟩
      dsimp only [gName, List.set]
      refine ⟨_, rfl, fv, F, rfl, hf, rectW_of FO, FO.cell, fun H4 s4 => ?_⟩
      obtain ⟨ta, tl⟩ := text_ok FO
      generalize textOf F = text at ta tl ⊢
      dsimp only [gName, List.set]
      have D4 := D3.keep s4
      have hf4 := hf.keep s4.tups
      refine ⟨_, rfl, by decide, by decide, ?_⟩
      refine compW_range (n := (3 : Int).toNat) (fun j zs H' => ∃ xs : List Str, xs.length = j ∧ zs = xs.map V.str ∧ (∀ y ∈ xs, Asc y ∧ y.length ≤ 19000) ∧ Deck H' d (k * 10000 + 300 + 100 * j) ∧ IsD H' fv (fieldD F)) ⟨[], rfl, rfl, fun y hy => by simp at hy, D4, hf4⟩ (by decide) ?_ ?_
      · rintro j zs H5 hj ⟨xs, lx, rfl, ax, D5, hf5⟩
        have hj : j < 3 := hj
        refine oneT ?_
        refine ⟨_, rfl, _, rfl, d, fv, F, h, w, _, rfl, D5, by omega, hf5, FO, fun r H6 ra rl D6 k6 => ?_⟩
        obtain ⟨zs, ez⟩ := D5.lst
        refine ⟨xs ++ [r], by rw [List.length_append, lx]; rfl, by rw [List.map_append]; rfl, fun y hy => ?_, D6.more (by omega), hf5.keep (k6.tups ez)⟩
        rcases List.mem_append.mp hy with z | z
        · exact ax y z
        · obtain rfl : y = r := by simpa using z
          exact ⟨ra, rl⟩
      rintro zs H5 ⟨xs, lx, rfl, ax, D5, hf5⟩ l5 hl5
      have big : ∀ {m : Nat}, m ≤ 60000 → m ≤ sizeLine := fun h => Nat.le_trans h (by decide)
      have sp1 : (((" " : Str)).length = 1 ∧ ((("\n" : Str)).length = 1)) ∧ ((("  " : Str)).length = 2) := by decide +kernel
      have sa : Asc (" " : Str) ∧ Asc ("\n" : Str) ∧ Asc ("  " : Str) := ⟨asc_of (by decide +kernel), asc_of (by decide +kernel), asc_of (by decide +kernel)⟩
      have e6 : upd H5 l5 (.lst (xs.map V.str)) l5 = some (.lst (xs.map V.str)) := upd_same
      have D6 : Deck (upd H5 l5 (.lst (xs.map V.str))) d (k * 10000 + 600) := D5.upd hl5
      change tSeq _ _ _ _ (upd H5 l5 (.lst (xs.map V.str)))
      generalize upd H5 l5 (.lst (xs.map V.str)) = H6 at e6 D6 ⊢
      try dsimp only [gName, List.set]
      refine ⟨_, rfl, _, rfl, _, _, rfl, rfl, big (by omega), _, rfl, _, _, rfl, rfl, big (by omega), _, rfl, _, _, rfl, rfl, big (by omega), _, rfl, _, _, rfl, rfl, big (by omega), _, rfl, rfl, text, _, _, rfl, by rw [sp1.2]; omega, Or.inr ⟨rfl, fun r5 R5 => ⟨_, rfl, (by show 6 ≤ sizeLine; decide), fun l7 hl7 => ?_⟩⟩⟩
      have s7 := same_upd (o := .lst [V.str ((" " : Str) ++ text), V.str (text ++ (" " : Str)), V.str (text ++ ("\n" : Str)), V.str (("\n" : Str) ++ text), V.str r5, V.str text]) hl7
      refine ⟨l5, l7, _, _, rfl, rfl, s7 _ _ e6, upd_same, (by rw [List.length_map, lx]; show 9 ≤ sizeLine; decide), fun l8 hl8 => ?_⟩
      have D8 := (D6.upd (o := .lst [V.str ((" " : Str) ++ text), V.str (text ++ (" " : Str)), V.str (text ++ ("\n" : Str)), V.str (("\n" : Str) ++ text), V.str r5, V.str text]) hl7).upd (o := .lst ((xs ++ [(" " : Str) ++ text, text ++ (" " : Str), text ++ ("\n" : Str), ("\n" : Str) ++ text, r5, text]).map V.str)) hl8
      have ex : xs.map V.str ++ [V.str ((" " : Str) ++ text), V.str (text ++ (" " : Str)), V.str (text ++ ("\n" : Str)), V.str (("\n" : Str) ++ text), V.str r5, V.str text] = (xs ++ [(" " : Str) ++ text, text ++ (" " : Str), text ++ ("\n" : Str), ("\n" : Str) ++ text, r5, text]).map V.str := by rw [List.map_append]; rfl
      rw [ex]
      have e8 : upd (upd H6 l7 (.lst [V.str ((" " : Str) ++ text), V.str (text ++ (" " : Str)), V.str (text ++ ("\n" : Str)), V.str (("\n" : Str) ++ text), V.str r5, V.str text])) l8 (.lst ((xs ++ [(" " : Str) ++ text, text ++ (" " : Str), text ++ ("\n" : Str), ("\n" : Str) ++ text, r5, text]).map V.str)) l8 = some (.lst ((xs ++ [(" " : Str) ++ text, text ++ (" " : Str), text ++ ("\n" : Str), ("\n" : Str) ++ text, r5, text]).map V.str)) := upd_same
      have a8 : ∀ y ∈ xs ++ [(" " : Str) ++ text, text ++ (" " : Str), text ++ ("\n" : Str), ("\n" : Str) ++ text, r5, text], Asc y ∧ y.length ≤ 19000 := fun y hy => by
        have r1 := R5.1 ta sa.2.2
        have r2 := R5.2
        rcases List.mem_append.mp hy with z | z
        · exact ax y z
        · simp only [List.mem_cons, List.not_mem_nil, or_false] at z
          rcases z with rfl | rfl | rfl | rfl | rfl | rfl
          · exact ⟨asc_app sa.1 ta, by rw [len_app]; omega⟩
          · exact ⟨asc_app ta sa.1, by rw [len_app]; omega⟩
          · exact ⟨asc_app ta sa.2.1, by rw [len_app]; omega⟩
          · exact ⟨asc_app sa.2.1 ta, by rw [len_app]; omega⟩
          · exact ⟨r1, by omega⟩
          · exact ⟨ta, by omega⟩
      have l8' : (xs ++ [(" " : Str) ++ text, text ++ (" " : Str), text ++ ("\n" : Str), ("\n" : Str) ++ text, r5, text]).length ≤ 9 := by rw [List.length_append, lx]; exact Nat.le_refl 9
      generalize xs ++ [(" " : Str) ++ text, text ++ (" " : Str), text ++ ("\n" : Str), ("\n" : Str) ++ text, r5, text] = ys at e8 a8 l8' D8 ⊢
      dsimp only [gName, List.set]
      generalize upd (upd H6 l7 _) l8 (.lst (ys.map V.str)) = H8 at e8 D8 ⊢
      clear s7 e6 D6 ex
      have n8 : l8 ≠ d := by
        obtain ⟨zs, e⟩ := D5.lst
        have e' := same_upd (o := .lst (xs.map V.str)) hl5 _ _ e
        intro z
        subst z
        exact absurd e8 (by
          obtain ⟨c, ns', k', r', m', t', DA, _⟩ := D8
          rw [DA.deck]
          intro z
          have z' := HO.lst.inj (Option.some.inj z)
          cases ys with
          | nil => cases z'
          | cons y ys => cases (List.cons.inj z').1)
      refine tSeq_cut (fun σ' H' => ∃ (v2 v6 v7 : Option V) (e : Addr) (ys : List Str), σ' = [some (.ref a), some (.ref d), v2, some fv, some (.str text), some (.ref e), v6, v7, none] ∧ H' e = some (.lst (ys.map V.str)) ∧ e ≠ d ∧ (∀ y ∈ ys, Asc y ∧ y.length ≤ 19000) ∧ ys.length ≤ 20 ∧ Deck H' d (k * 10000 + 700)) ?_ (fun rest2 => ?_)
      rotate_left
      · refine ⟨(by show 2 ≤ sizeLine; decide), fun lo hlo => ?_⟩
        refine ⟨_, rfl, ⟨_, SqL.of upd_same⟩, ?_⟩
        have so := same_upd (o := .lst [V.byt (" " : Str), V.byt ("\n" : Str)]) hlo
        have nlo : lo ≠ d := by obtain ⟨zs, e⟩ := D8.lst; exact (ne_of_none e hlo).symm
        refine for_list (xs := [V.byt (" " : Str), V.byt ("\n" : Str)]) (fun m σ H' => ∃ (v2 v6 v7 : Option V) (e : Addr) (ys : List Str), σ = [some (.ref a), some (.ref d), v2, some fv, some (.str text), some (.ref e), v6, v7, none] ∧ H' lo = some (.lst [V.byt (" " : Str), V.byt ("\n" : Str)]) ∧ H' e = some (.lst (ys.map V.str)) ∧ e ≠ d ∧ (∀ y ∈ ys, Asc y ∧ y.length ≤ 19000) ∧ ys.length ≤ 9 + 2 * m ∧ Deck H' d (k * 10000 + 600 + 2 * m))
          ⟨_, _, _, l8, ys, rfl, upd_same, so _ _ e8, n8, a8, l8', D8.upd hlo⟩ (fun m σ H' _ ⟨_, _, _, _, _, _, e, _⟩ => SqL.of e) ?_ ?_
        · rintro m y _ H9 hy ⟨v2, v6, v7, e, ys, rfl, elo, ee, ne, ay, ly, D9⟩
          have hm : m < 2 := (List.getElem?_eq_some_iff.mp hy).1
          obtain ⟨b, rfl⟩ : ∃ b : Str, y = .byt b := by
            have := List.mem_of_getElem? hy
            simp only [List.mem_cons, List.not_mem_nil, or_false] at this
            rcases this with z | z <;> exact ⟨_, z⟩
          dsimp only [gName, List.set]
          have one : ∀ c : Nat, (⟨#[c]⟩ : Str).length = 1 := fun c => rfl
          refine ⟨_, rfl, _, rfl, rfl, _, rfl, _, rfl, d, _, rfl, D9, by omega, fun c1 H10 hc1 D10 k10 => ?_⟩
          refine ⟨text, b, ⟨#[c1]⟩, rfl, by rw [one]; omega, Or.inl ⟨rfl, fun r1 R1 => ?_⟩⟩
          refine ⟨_, rfl, rfl, _, rfl, _, rfl, d, _, rfl, D10, by omega, fun c2 H11 hc2 D11 k11 => ?_⟩
          refine ⟨text, b, ⟨#[c2]⟩, rfl, by rw [one]; omega, Or.inr ⟨rfl, fun r2 R2 => ⟨(by show 2 ≤ sizeLine; decide), fun l12 hl12 => ?_⟩⟩⟩
          have s12 := same_upd (o := .lst [V.str r1, V.str r2]) hl12
          have e11 := k11 _ _ (k10 _ _ ee ne) ne
          have lo11 := k11 _ _ (k10 _ _ elo nlo) nlo
          refine ⟨e, l12, _, _, rfl, rfl, s12 _ _ e11, upd_same, (by rw [List.length_map]; exact big (by show _ + 2 ≤ _; omega)), fun l13 hl13 => ?_⟩
          have s13 := same_upd (o := .lst ((ys ++ [r1, r2]).map V.str)) hl13
          have D13 := (D11.upd (o := .lst [V.str r1, V.str r2]) hl12).upd (o := .lst ((ys ++ [r1, r2]).map V.str)) hl13
          have n13 : l13 ≠ d := by
            obtain ⟨zs, z⟩ := (D11.upd (o := .lst [V.str r1, V.str r2]) hl12).lst
            exact (ne_of_none z hl13).symm
          have ex : ys.map V.str ++ [V.str r1, V.str r2] = (ys ++ [r1, r2]).map V.str := by rw [List.map_append]; rfl
          rw [ex]
          refine ⟨_, _, _, l13, ys ++ [r1, r2], rfl, s13 _ _ (s12 _ _ lo11), upd_same, n13, fun y hy => ?_, by rw [List.length_append]; show _ + 2 ≤ _; omega, D13.more (by omega)⟩
          have q1 := R1.2
          have q2 := R2.2
          rw [one] at q1 q2
          rcases List.mem_append.mp hy with z | z
          · exact ay y z
          · simp only [List.mem_cons, List.not_mem_nil, or_false] at z
            rcases z with rfl | rfl
            · exact ⟨R1.1 ta (asc_one hc1), by omega⟩
            · exact ⟨R2.1 ta (asc_one hc2), by omega⟩
        · rintro _ H9 ⟨v2, v6, v7, e, ys, rfl, elo, ee, ne, ay, ly, D9⟩
          exact rest2 _ _ ⟨v2, v6, v7, e, ys, rfl, ee, ne, ay, Nat.le_trans ly (by decide), D9.more (by show _ + 2 * 2 ≤ _; omega)⟩
      rintro _ H9 ⟨v2, v6, v7, e, ys, rfl, ee, ne, ay, ly, D9⟩
      refine ⟨_, rfl, _, rfl, d, _, rfl, D9, by omega, fun c1 H10 hc1 D10 k10 => ?_⟩
      refine ⟨_, rfl, _, rfl, d, _, rfl, D10, by omega, fun c2 H11 hc2 D11 k11 => ?_⟩
      have one : ∀ c : Nat, (⟨#[c]⟩ : Str).length = 1 := fun c => rfl
      refine ⟨text, ⟨#[c2]⟩, rfl, rfl, big (by rw [one]; omega), (by show 2 ≤ sizeLine; decide), fun l12 hl12 => ?_⟩
      have s12 := same_upd (o := .lst [V.str ⟨#[c1]⟩, V.str (text ++ ⟨#[c2]⟩)]) hl12
      have e11 := k11 _ _ (k10 _ _ ee ne) ne
      refine ⟨e, l12, _, _, rfl, rfl, s12 _ _ e11, upd_same, (by rw [List.length_map]; exact big (by show _ + 2 ≤ _; omega)), fun l13 hl13 => ?_⟩
      have ex : ys.map V.str ++ [V.str ⟨#[c1]⟩, V.str (text ++ ⟨#[c2]⟩)] = (ys ++ [⟨#[c1]⟩, text ++ ⟨#[c2]⟩]).map V.str := by rw [List.map_append]; rfl
      have ex2 : ys.map V.str ++ [unT (V.byt ⟨#[c1]⟩), V.str (text ++ ⟨#[c2]⟩)] = (ys ++ [⟨#[c1]⟩, text ++ ⟨#[c2]⟩]).map V.str := ex
      try rw [ex2]
      try rw [ex]
      have D13 := (D11.upd (o := .lst [V.str ⟨#[c1]⟩, V.str (text ++ ⟨#[c2]⟩)]) hl12).upd (o := .lst ((ys ++ [⟨#[c1]⟩, text ++ ⟨#[c2]⟩]).map V.str)) hl13
      have az : ∀ y ∈ ys ++ [⟨#[c1]⟩, text ++ ⟨#[c2]⟩], Asc y ∧ y.length ≤ 19000 := fun y hy => by
        rcases List.mem_append.mp hy with z | z
        · exact ay y z
        · simp only [List.mem_cons, List.not_mem_nil, or_false] at z
          rcases z with rfl | rfl
          · exact ⟨asc_one hc1, by rw [one]; omega⟩
          · exact ⟨asc_app ta (asc_one hc2), by rw [len_app, one]; omega⟩
      have e13 : upd (upd H11 l12 (.lst [V.str ⟨#[c1]⟩, V.str (text ++ ⟨#[c2]⟩)])) l13 (.lst ((ys ++ [⟨#[c1]⟩, text ++ ⟨#[c2]⟩]).map V.str)) l13 = some (.lst ((ys ++ [⟨#[c1]⟩, text ++ ⟨#[c2]⟩]).map V.str)) := upd_same
      dsimp only [gName, List.set, unT]
      generalize upd (upd H11 l12 (.lst [V.str ⟨#[c1]⟩, V.str (text ++ ⟨#[c2]⟩)])) l13 (.lst ((ys ++ [⟨#[c1]⟩, text ++ ⟨#[c2]⟩]).map V.str)) = H13 at e13 D13 ⊢
      generalize ys ++ [⟨#[c1]⟩, text ++ ⟨#[c2]⟩] = zs at e13 az ⊢
      refine Or.inl ⟨_, rfl, _, rfl, ⟨_, SqL.of e13⟩, ?_⟩
      refine for_list (K := K) (xs := zs.map V.str) (fun m σ H' => ∃ (v7 : Option V), σ = [some (.ref a), some (.ref d), v2, some fv, some (.str text), some (.ref l13), v6, v7, none] ∧ Same H13 H') ⟨v7, rfl, Same.refl _⟩ (fun m σ H' _ ⟨_, _, s⟩ => SqL.of (s _ _ e13)) ?_ ?_
      · rintro m y _ H14 hy ⟨v7, rfl, s14⟩
        rw [List.getElem?_map] at hy
        obtain ⟨od, ec, rfl⟩ := Option.map_eq_some_iff.mp hy
        obtain ⟨oa, ol⟩ := az od (List.mem_of_getElem? ec)
        dsimp only [gName, List.set]
        refine tIfS_by (fun b H' => b = false ∧ Same H14 H') (fun Q' hQ => ?_) (fun H' h => absurd h.1 (by decide)) (fun H' h => ⟨_, rfl, s14.trans h.2⟩)
        refine ⟨_, rfl, od, rfl, oa, by omega, fun H15 s15 => ⟨_, rfl, iteF (hQ _ _ ⟨rfl, s15⟩)⟩, fun wide H15 s15 => ⟨_, rfl, iteT ?_⟩⟩
        refine ⟨_, rfl, od, rfl, oa, by omega, wide, fun H16 s16 => ⟨_, rfl, iteF ?_⟩⟩
        exact ⟨_, rfl, od, rfl, oa, by omega, wide, fun H17 s17 => ⟨_, rfl, hQ _ _ ⟨rfl, (s15.trans s16).trans s17⟩⟩⟩
      · rintro _ H14 ⟨v7, rfl, s14⟩
        exact ⟨⟨_, _, _, _, _, _, rfl⟩, (D13.keep s14).more (by omega)⟩
    · rintro _ H2 ⟨v2, v3, v4, v5, v6, v7, rfl⟩
      refine ⟨(by show 12 ≤ sizeLine; decide), fun l1 hl1 => ?_⟩
      dsimp only [gName, List.set]
      refine ⟨_, rfl, (by show 11 ≤ sizeLine; decide), fun l2 hl2 => ⟨l1, l2, _, _, rfl, rfl, same_upd hl2 _ _ upd_same, upd_same, (by show 23 ≤ sizeLine; decide), fun l3 hl3 => ?_⟩⟩
      dsimp only [gName, List.set]
      have e3 : ∀ {H0 : Hp}, upd H0 l3 (.lst (fixedW.map V.str)) l3 = some (.lst (fixedW.map V.str)) := upd_same
      refine tSeq_cut (fun σ' H' => True) ?_ (fun rest2 => ?_)
      rotate_left
      · refine Or.inl ?_
        refine ⟨_, rfl, _, rfl, ⟨_, SqL.of e3⟩, ?_⟩
        refine compW_list (xs := fixedW.map V.str) (fun j zs H' => zs = [] ∧ H' l3 = some (.lst (fixedW.map V.str))) ⟨rfl, e3⟩ (by decide) (fun j zs H' _ ⟨_, e⟩ => SqL.of e) ?_ ?_
        · rintro j y zs H5 hy ⟨rfl, e5⟩
          rw [List.getElem?_map] at hy
          obtain ⟨fx, ec, rfl⟩ := Option.map_eq_some_iff.mp hy
          obtain ⟨fa, fl, fw⟩ := fixedW_ok (List.mem_of_getElem? ec)
          exact ⟨_, rfl, fx, rfl, fa, fl, fw, fun H6 s6 => ⟨_, rfl, iteF ⟨rfl, s6 _ _ e5⟩⟩⟩
        · rintro zs H5 ⟨rfl, e5⟩ l6 hl6
          refine ⟨(by show 0 ≤ sizeLine; decide), fun l7 hl7 => ?_⟩
          refine Or.inr ⟨l6, l7, [], [], [], [], rfl, rfl, same_upd hl7 _ _ upd_same, upd_same, .nil, .nil, ⟨rfl, rfl, by decide⟩, _, rfl, iteF (rest2 _ _ trivial)⟩
      rintro _ H4 _
      obtain rfl : D = aF := by have z := gD.symm.trans XX.field; cases z; rfl
      refine ⟨(by show 1 ≤ sizeLine; decide), fun y hy => ⟨y, 3, rfl, upd_same, by unfold Wide; decide, fun dx hdx ne => ⟨rfl, ?_⟩⟩⟩
      refine ⟨y, D, dx, _, _, _, rfl, upd_same, fun h z => z.a, (by rw [upd_ne ne]; exact upd_same), pD, nD, rfl, ?_⟩
      refine Or.inl ⟨rfl, _, rfl, iteT ?_⟩
      refine ⟨(by show 1 ≤ sizeLine; decide), fun y2 hy2 => ⟨y2, 3, rfl, upd_same, by unfold Wide; decide, fun dx2 hdx2 ne2 => ⟨rfl, ?_⟩⟩⟩
      exact Or.inr ⟨y2, D, _, true, _, rfl, upd_same, fun h ⟨o, _, _, ho, hc, _⟩ => ⟨o, ho, hc⟩, XX.kitF, Or.inl ⟨rfl, kit_of_exm XX.exmF⟩, q _⟩
end
def RawN (K : PySem.W.Frag) (mg : Str → Option Value) (x : Str) (st : Stmt) : Prop := ∃ (f : Addr) (fd : FuncData), Fun K x x st f fd ∧ mg x = some (.ref f)
theorem rawn_of {K : PySem.W.Frag} {mg : Str → Option Value} {x : Str} {st : Stmt} {ps : List Str} (R : RawN K mg x st) (h : ∀ (kV doc pm : Value) (an : Option Addr) (cdv ct : Value) (us : List Value), us.length = ps.length → bindArgs (PySem.W.fnOf x x (defArgs st) (defBody st) (defScope st) .none kV doc pm an cdv ct) ⟨us, []⟩ = pure (ps.zip us)) : Raw K mg x ps st :=
  let ⟨f, fd, F, m⟩ := R
  ⟨f, fd, F, m, Fun.binds F h⟩
theorem raw_mk0 {K : PySem.W.Frag} {h : Heap} {mg : Str → Option Value} (X : K.In h) (G : h.Ns mainGlobals mg) {x : Str} {st : Stmt} {f : Addr} {oc : Value} {od an : Option Addr} {osl : Array (Option Value)} {kV doc pm cdv ct : Value} (a : PySem.W.nsIn K mainGlobals x = some (some (.ref f))) (l : K.lookup f = some ⟨oc, od, .func (PySem.W.fnOf x x (defArgs st) (defBody st) (defScope st) .none kV doc pm an cdv ct), osl⟩)
    (c : PySem.W.codeIn K cdv x = true) (k : PySem.W.keepIn K (.ref f) = true) : RawN K mg x st := ⟨_, _, fun_mk l c k, PySem.W.mg_of X G a⟩
def RawEN (K : PySem.W.Frag) (mg : Str → Option Value) (x attr qual : Str) (st : Stmt) : Prop := ∃ D, mg x = some (.ref D) ∧ excPut K D = true ∧ NoAttr K D attr ∧ ∃ f fd, (excMade K D f = true ∧ PySem.W.isFn K (.ref f) = true ∧ PySem.W.keepIn K (.ref D) = true) ∧ Fun K "__init__" qual st f fd
theorem rawe_of {K : PySem.W.Frag} {mg : Str → Option Value} {x attr qual : Str} {st : Stmt} {ps : List Str} (R : RawEN K mg x attr qual st) (h : ∀ (kV doc pm : Value) (an : Option Addr) (cdv ct : Value) (us : List Value), us.length = ps.length → bindArgs (PySem.W.fnOf "__init__" qual (defArgs st) (defBody st) (defScope st) .none kV doc pm an cdv ct) ⟨us, []⟩ = pure (ps.zip us)) : ∃ D, mg x = some (.ref D) ∧ excPut K D = true ∧ NoAttr K D attr ∧ RawE K D qual ps st :=
  let ⟨D, a, b, c, f, fd, M, F⟩ := R
  ⟨D, a, b, c, f, fd, M, F, Fun.binds F h⟩
theorem rawe_mk0 {K : PySem.W.Frag} {h : Heap} {mg : Str → Option Value} (X : K.In h) (G : h.Ns mainGlobals mg) {x attr qual : Str} {st : Stmt} {D f : Addr} {oc : Value} {od an : Option Addr} {osl : Array (Option Value)} {kV doc pm cdv ct : Value} (a : PySem.W.nsIn K mainGlobals x = some (some (.ref D))) (_i : PySem.W.findIn K (.ref D) "__init__" = some (some (.ref f))) (p : excPut K D = true) (n : PySem.W.findIn K (.ref D) attr = some none) (q : excMade K D f = true) (fn : PySem.W.isFn K (.ref f) = true) (kc : PySem.W.keepIn K (.ref D) = true) (l : K.lookup f = some ⟨oc, od, .func (PySem.W.fnOf "__init__" qual (defArgs st) (defBody st) (defScope st) .none kV doc pm an cdv ct), osl⟩)
    (c : PySem.W.codeIn K cdv qual = true) (k : PySem.W.keepIn K (.ref f) = true) : RawEN K mg x attr qual st := ⟨D, PySem.W.mg_of X G a, p, n, f, _, ⟨q, fn, kc⟩, fun_mk l c k⟩
theorem win_mk0 {K : PySem.W.Frag} {h : Heap} {mg : Str → Option Value} (X : K.In h) (G : h.Ns mainGlobals mg) {W : Addr} (a : PySem.W.nsIn K mainGlobals "WindowError" = some (some (.ref W))) (q : winIn K W = true) : ∃ W, mg "WindowError" = some (.ref W) ∧ winIn K W = true := ⟨W, PySem.W.mg_of X G a, q⟩
theorem txt_mk {K : PySem.W.Frag} {h : Heap} {mg : Str → Option Value} (X : K.In h) (G : h.Ns mainGlobals mg) {v_HOLE : Value} {v_FIGURES : Value} {x_aN x_aF x_aM x_aP x_aW : Addr}
    (r_is_number : RawN K mg "is_number" s_is_number)
    (r_is_cell : RawN K mg "is_cell" s_is_cell)
    (r_cell_read : RawN K mg "cell_read" s_cell_read)
    (r_read_rows : RawN K mg "read_rows" s_read_rows)
    (r_read_field : RawN K mg "read_field" s_read_field)
    (r_law_mix : RawN K mg "_law_mix" s_law_mix)
    (r_law_deck : RawN K mg "_law_deck" s_law_deck)
    (r_law_next : RawN K mg "_law_next" s_law_next)
    (r_law_cell : RawN K mg "_law_cell" s_law_cell)
    (r_law_field : RawN K mg "_law_field" s_law_field)
    (r_law_word : RawN K mg "_law_word" s_law_word)
    (r_law_text : RawN K mg "_law_text" s_law_text)
    (r_law_number : RawN K mg "_law_number" s_law_number)
    (r_law_due : RawN K mg "_law_due" s_law_due)
    (r_law_sign : RawN K mg "_law_sign" s_law_sign)
    (r_law_spoilt_line : RawN K mg "_law_spoilt_line" s_law_spoilt_line)
    (r_law_spoilt : RawN K mg "_law_spoilt" s_law_spoilt)
    (r_law_beyond : RawN K mg "_law_beyond" s_law_beyond)
    (r_law_right : RawN K mg "_law_right" s_law_right)
    (r_law : RawN K mg "law" s_law)
    (a_HOLE : PySem.W.nsIn K mainGlobals "HOLE" = some (some v_HOLE))
    (r_HOLE : RelV (.str ".") v_HOLE)
    (a_FIGURES : PySem.W.nsIn K mainGlobals "FIGURES" = some (some v_FIGURES))
    (r_FIGURES : RelV (.str "0123456789") v_FIGURES)
    (r_NoField : RawEN K mg "NoField" "row" "NoField.__init__" s_NoField_init)
    (r_win : ∃ W, mg "WindowError" = some (.ref W) ∧ winIn K W = true)
    (e_NoAsk : PySem.W.nsIn K mainGlobals "NoAsk" = some (some (.ref x_aN)))
    (e_NoField : PySem.W.nsIn K mainGlobals "NoField" = some (some (.ref x_aF)))
    (e_NoNumber : PySem.W.nsIn K mainGlobals "NoNumber" = some (some (.ref x_aM)))
    (e_NoPlace : PySem.W.nsIn K mainGlobals "NoPlace" = some (some (.ref x_aP)))
    (e_WindowError : PySem.W.nsIn K mainGlobals "WindowError" = some (some (.ref x_aW)))
    (e_all : excAll K x_aN x_aF x_aM x_aP x_aW = true)
    (z_booked : PySem.W.nsIn K cStatics sharingNotToldKey = some none)
    (z_len : PySem.W.nsIn K mainGlobals "len" = some none)
    (z_sum : PySem.W.nsIn K mainGlobals "sum" = some none)
    (z_all : PySem.W.nsIn K mainGlobals "all" = some none)
    (z_max : PySem.W.nsIn K mainGlobals "max" = some none)
    (z_abs : PySem.W.nsIn K mainGlobals "abs" = some none)
    (z_tuple : PySem.W.nsIn K mainGlobals "tuple" = some none)
    (z_int : PySem.W.nsIn K mainGlobals "int" = some none)
    (z_bool : PySem.W.nsIn K mainGlobals "bool" = some none)
    (z_isinstance : PySem.W.nsIn K mainGlobals "isinstance" = some none)
    (z_range : PySem.W.nsIn K mainGlobals "range" = some none)
    (z_enumerate : PySem.W.nsIn K mainGlobals "enumerate" = some none)
    (z_ValueError : PySem.W.nsIn K mainGlobals "ValueError" = some none) : Txt K mg where
    d_is_number := rawn_of r_is_number (ps := ["word"]) fun _ _ _ _ _ _ us hl => match us, hl with | [_], _ => rfl
    d_is_cell := rawn_of r_is_cell (ps := ["word"]) fun _ _ _ _ _ _ us hl => match us, hl with | [_], _ => rfl
    d_cell_read := rawn_of r_cell_read (ps := ["word"]) fun _ _ _ _ _ _ us hl => match us, hl with | [_], _ => rfl
    d_read_rows := rawn_of r_read_rows (ps := ["lines"]) fun _ _ _ _ _ _ us hl => match us, hl with | [_], _ => rfl
    d_read_field := rawn_of r_read_field (ps := ["text"]) fun _ _ _ _ _ _ us hl => match us, hl with | [_], _ => rfl
    d_law_mix := rawn_of r_law_mix (ps := ["cell", "k"]) fun _ _ _ _ _ _ us hl => match us, hl with | [_, _], _ => rfl
    d_law_deck := rawn_of r_law_deck (ps := ["script"]) fun _ _ _ _ _ _ us hl => match us, hl with | [_], _ => rfl
    d_law_next := rawn_of r_law_next (ps := ["deck", "many"]) fun _ _ _ _ _ _ us hl => match us, hl with | [_, _], _ => rfl
    d_law_cell := rawn_of r_law_cell (ps := ["deck"]) fun _ _ _ _ _ _ us hl => match us, hl with | [_], _ => rfl
    d_law_field := rawn_of r_law_field (ps := ["deck"]) fun _ _ _ _ _ _ us hl => match us, hl with | [_], _ => rfl
    d_law_word := rawn_of r_law_word (ps := ["cell"]) fun _ _ _ _ _ _ us hl => match us, hl with | [_], _ => rfl
    d_law_text := rawn_of r_law_text (ps := ["field"]) fun _ _ _ _ _ _ us hl => match us, hl with | [_], _ => rfl
    d_law_number := rawn_of r_law_number (ps := ["word"]) fun _ _ _ _ _ _ us hl => match us, hl with | [_], _ => rfl
    d_law_due := rawn_of r_law_due (ps := ["text"]) fun _ _ _ _ _ _ us hl => match us, hl with | [_], _ => rfl
    d_law_sign := rawn_of r_law_sign (ps := ["deck"]) fun _ _ _ _ _ _ us hl => match us, hl with | [_], _ => rfl
    d_law_spoilt_line := rawn_of r_law_spoilt_line (ps := ["deck", "line"]) fun _ _ _ _ _ _ us hl => match us, hl with | [_, _], _ => rfl
    d_law_spoilt := rawn_of r_law_spoilt (ps := ["deck", "field"]) fun _ _ _ _ _ _ us hl => match us, hl with | [_, _], _ => rfl
    d_law_beyond := rawn_of r_law_beyond (ps := ["text"]) fun _ _ _ _ _ _ us hl => match us, hl with | [_], _ => rfl
    d_law_right := rawn_of r_law_right (ps := ["text"]) fun _ _ _ _ _ _ us hl => match us, hl with | [_], _ => rfl
    d_law := rawn_of r_law (ps := ["script"]) fun _ _ _ _ _ _ us hl => match us, hl with | [_], _ => rfl
    g_HOLE := ⟨_, PySem.W.mg_of X G a_HOLE, r_HOLE⟩
    g_FIGURES := ⟨_, PySem.W.mg_of X G a_FIGURES, r_FIGURES⟩
    e_NoField := rawe_of r_NoField (ps := ["self", "row"]) fun _ _ _ _ _ _ us hl => match us, hl with | [_, _], _ => rfl
    e_win := r_win
    x_exc := ⟨_, _, _, _, _, ExcAll.of (PySem.W.mg_of X G e_NoAsk) (PySem.W.mg_of X G e_NoField) (PySem.W.mg_of X G e_NoNumber) (PySem.W.mg_of X G e_NoPlace) (PySem.W.mg_of X G e_WindowError) e_all⟩
    n_booked := z_booked
    n_len := PySem.W.mg_none_of X G z_len
    n_sum := PySem.W.mg_none_of X G z_sum
    n_all := PySem.W.mg_none_of X G z_all
    n_max := PySem.W.mg_none_of X G z_max
    n_abs := PySem.W.mg_none_of X G z_abs
    n_tuple := PySem.W.mg_none_of X G z_tuple
    n_int := PySem.W.mg_none_of X G z_int
    n_bool := PySem.W.mg_none_of X G z_bool
    n_isinstance := PySem.W.mg_none_of X G z_isinstance
    n_range := PySem.W.mg_none_of X G z_range
    n_enumerate := PySem.W.mg_none_of X G z_enumerate
    n_ValueError := PySem.W.mg_none_of X G z_ValueError
end Mw
namespace PySem.W.Fast
theorem tw10037612053002220989 : True := ⟨⟩
theorem tw10236541199289711503 : True := ⟨⟩
theorem tw10380152963258801013 : True := ⟨⟩
theorem tw10440923671472471512 : True := ⟨⟩
theorem tw10603732844620637420 : True := ⟨⟩
theorem tw1071481748522748778 : True := ⟨⟩
theorem tw10790763159180671798 : True := ⟨⟩
theorem tw10993747115894506218 : True := ⟨⟩
theorem tw11002191835960104802 : True := ⟨⟩
theorem tw11037269766615570726 : True := ⟨⟩
theorem tw11046995653672541156 : True := ⟨⟩
theorem tw11207549987129622624 : True := ⟨⟩
theorem tw11217310118304807335 : True := ⟨⟩
theorem tw11429545446042266499 : True := ⟨⟩
theorem tw11503279498823131001 : True := ⟨⟩
theorem tw11554228541755714952 : True := ⟨⟩
theorem tw11595868894289265056 : True := ⟨⟩
theorem tw11689057425131051101 : True := ⟨⟩
theorem tw11723413845891120721 : True := ⟨⟩
theorem tw11777368049861491224 : True := ⟨⟩
theorem tw11824009396107634243 : True := ⟨⟩
theorem tw11900463829319376000 : True := ⟨⟩
theorem tw11978310869151574908 : True := ⟨⟩
theorem tw12145349722562989485 : True := ⟨⟩
theorem tw12191034614032195426 : True := ⟨⟩
theorem tw12281317928691133253 : True := ⟨⟩
theorem tw12400946387799080096 : True := ⟨⟩
theorem tw12599186979614032026 : True := ⟨⟩
theorem tw12680844080307774111 : True := ⟨⟩
theorem tw13143470092710337931 : True := ⟨⟩
theorem tw13171664688508062209 : True := ⟨⟩
theorem tw13261290881602284433 : True := ⟨⟩
theorem tw13262519910898084819 : True := ⟨⟩
theorem tw135166311178517530 : True := ⟨⟩
theorem tw1356982402825818739 : True := ⟨⟩
theorem tw13643448383845184928 : True := ⟨⟩
theorem tw13648398096335995319 : True := ⟨⟩
theorem tw1372027816066199126 : True := ⟨⟩
theorem tw13744619232982391988 : True := ⟨⟩
theorem tw13891108443911840050 : True := ⟨⟩
theorem tw13916014860591620766 : True := ⟨⟩
theorem tw13962527016591715165 : True := ⟨⟩
theorem tw13983983161391011733 : True := ⟨⟩
theorem tw13997284011591893983 : True := ⟨⟩
theorem tw14022561815689099408 : True := ⟨⟩
theorem tw14024428486277182452 : True := ⟨⟩
theorem tw14032546410021114455 : True := ⟨⟩
theorem tw14080729299196365190 : True := ⟨⟩
theorem tw14136783350900429058 : True := ⟨⟩
theorem tw14161492487732951282 : True := ⟨⟩
theorem tw14232194978607897180 : True := ⟨⟩
theorem tw14323578297373564452 : True := ⟨⟩
theorem tw14421572732569181549 : True := ⟨⟩
theorem tw14427847166527499647 : True := ⟨⟩
theorem tw14551484191693054977 : True := ⟨⟩
theorem tw14600791958008795885 : True := ⟨⟩
theorem tw1463497268893925780 : True := ⟨⟩
theorem tw1470313927337517460 : True := ⟨⟩
theorem tw14837273221767465029 : True := ⟨⟩
theorem tw1510568855342372570 : True := ⟨⟩
theorem tw15119553968503182574 : True := ⟨⟩
theorem tw15230447209806089879 : True := ⟨⟩
theorem tw1523125935664465228 : True := ⟨⟩
theorem tw15298300449386345667 : True := ⟨⟩
theorem tw15300478196110883485 : True := ⟨⟩
theorem tw15307417261881082620 : True := ⟨⟩
theorem tw15375450407378414540 : True := ⟨⟩
theorem tw15426748225020264551 : True := ⟨⟩
theorem tw15482572076331924844 : True := ⟨⟩
theorem tw15506659105493010749 : True := ⟨⟩
theorem tw15517112529520017620 : True := ⟨⟩
theorem tw15518165136314931540 : True := ⟨⟩
theorem tw15545975988203097370 : True := ⟨⟩
theorem tw15554508165860377379 : True := ⟨⟩
theorem tw15560890140030835936 : True := ⟨⟩
theorem tw15840517021410970567 : True := ⟨⟩
theorem tw15895666887418101532 : True := ⟨⟩
theorem tw15939964777655118145 : True := ⟨⟩
theorem tw16155033810678191500 : True := ⟨⟩
theorem tw16359419737195775307 : True := ⟨⟩
theorem tw16489293635927474425 : True := ⟨⟩
theorem tw16520043001976236312 : True := ⟨⟩
theorem tw16529087129640410264 : True := ⟨⟩
theorem tw16669584970070714366 : True := ⟨⟩
theorem tw16758428620176283696 : True := ⟨⟩
theorem tw16783929527147495682 : True := ⟨⟩
theorem tw16807743932287674669 : True := ⟨⟩
theorem tw17014008599413182236 : True := ⟨⟩
theorem tw17067743891237580528 : True := ⟨⟩
theorem tw17178725252299990410 : True := ⟨⟩
theorem tw17225580885118018381 : True := ⟨⟩
theorem tw17299425695610003236 : True := ⟨⟩
theorem tw17372335230726274389 : True := ⟨⟩
theorem tw17493622158651605573 : True := ⟨⟩
theorem tw175090729714018825 : True := ⟨⟩
theorem tw17590213636384142212 : True := ⟨⟩
theorem tw17685883538135534612 : True := ⟨⟩
theorem tw17685969766975907964 : True := ⟨⟩
theorem tw17711467118896375457 : True := ⟨⟩
theorem tw17820557763004928689 : True := ⟨⟩
theorem tw18065352654347568172 : True := ⟨⟩
theorem tw18244111312004651514 : True := ⟨⟩
theorem tw18339161670631782932 : True := ⟨⟩
theorem tw18379739130535070667 : True := ⟨⟩
theorem tw18382709333694276041 : True := ⟨⟩
theorem tw1917534605057080507 : True := ⟨⟩
theorem tw2038761847166471135 : True := ⟨⟩
theorem tw2175981914059358194 : True := ⟨⟩
theorem tw2269829562848318015 : True := ⟨⟩
theorem tw2569248067412032828 : True := ⟨⟩
theorem tw2641180074796953195 : True := ⟨⟩
theorem tw2671661659697707571 : True := ⟨⟩
theorem tw2715190156672333897 : True := ⟨⟩
theorem tw2830948113799533009 : True := ⟨⟩
theorem tw2867334939237156103 : True := ⟨⟩
theorem tw3103042249070830306 : True := ⟨⟩
theorem tw3171870670816133454 : True := ⟨⟩
theorem tw3308962079463858745 : True := ⟨⟩
theorem tw3425547243230513105 : True := ⟨⟩
theorem tw3441858060548254335 : True := ⟨⟩
theorem tw3537580563388646099 : True := ⟨⟩
theorem tw3600534076276196248 : True := ⟨⟩
theorem tw3605892727924468684 : True := ⟨⟩
theorem tw381618627459093885 : True := ⟨⟩
theorem tw3989917737804267318 : True := ⟨⟩
theorem tw4001417660189521961 : True := ⟨⟩
theorem tw4002223423947732811 : True := ⟨⟩
theorem tw4031507118115328250 : True := ⟨⟩
theorem tw4111436092632814943 : True := ⟨⟩
theorem tw4264682871502572081 : True := ⟨⟩
theorem tw4266407956810111114 : True := ⟨⟩
theorem tw4321750419519794692 : True := ⟨⟩
theorem tw4483974328090204345 : True := ⟨⟩
theorem tw458956138861876169 : True := ⟨⟩
theorem tw4662987675628076402 : True := ⟨⟩
theorem tw4665243797624015777 : True := ⟨⟩
theorem tw4736873312892735997 : True := ⟨⟩
theorem tw4884159826253290698 : True := ⟨⟩
theorem tw4985176947142204347 : True := ⟨⟩
theorem tw507249693540966464 : True := ⟨⟩
theorem tw5171919444670913371 : True := ⟨⟩
theorem tw5276217172941230464 : True := ⟨⟩
theorem tw5478687019528909466 : True := ⟨⟩
theorem tw548941573011530902 : True := ⟨⟩
theorem tw5584620270248618062 : True := ⟨⟩
theorem tw5689924308069711638 : True := ⟨⟩
theorem tw5830130574826952083 : True := ⟨⟩
theorem tw5895437969566483073 : True := ⟨⟩
theorem tw6025379679573628377 : True := ⟨⟩
theorem tw6116554476624405219 : True := ⟨⟩
theorem tw6158323076134318510 : True := ⟨⟩
theorem tw6237190568895242061 : True := ⟨⟩
theorem tw6284700082079083769 : True := ⟨⟩
theorem tw6288223987320818421 : True := ⟨⟩
theorem tw6332402560922134159 : True := ⟨⟩
theorem tw633642009577366182 : True := ⟨⟩
theorem tw6384246704288319835 : True := ⟨⟩
theorem tw6416926617865200990 : True := ⟨⟩
theorem tw6428585373896270734 : True := ⟨⟩
theorem tw6482212870641928223 : True := ⟨⟩
theorem tw6500310222839492425 : True := ⟨⟩
theorem tw6520522675108783978 : True := ⟨⟩
theorem tw6657265713391436744 : True := ⟨⟩
theorem tw6686680740460533506 : True := ⟨⟩
theorem tw670899714642555398 : True := ⟨⟩
theorem tw6753932578065252104 : True := ⟨⟩
theorem tw6779108329139331690 : True := ⟨⟩
theorem tw6897750028979748634 : True := ⟨⟩
theorem tw6957881706917921485 : True := ⟨⟩
theorem tw7032552937336801017 : True := ⟨⟩
theorem tw7247651007687523719 : True := ⟨⟩
theorem tw7328887637252346676 : True := ⟨⟩
theorem tw733327916747868774 : True := ⟨⟩
theorem tw7418677028669378909 : True := ⟨⟩
theorem tw7576321616761862228 : True := ⟨⟩
theorem tw7591723209702572279 : True := ⟨⟩
theorem tw7709755624809507702 : True := ⟨⟩
theorem tw7771807092974844500 : True := ⟨⟩
theorem tw782036489888417006 : True := ⟨⟩
theorem tw7935913531322020889 : True := ⟨⟩
theorem tw7966260600356619056 : True := ⟨⟩
theorem tw8000122175244425369 : True := ⟨⟩
theorem tw8022071129333559445 : True := ⟨⟩
theorem tw8040680110405695160 : True := ⟨⟩
theorem tw8152175439216277750 : True := ⟨⟩
theorem tw8179481788149450005 : True := ⟨⟩
theorem tw8290613177309169244 : True := ⟨⟩
theorem tw8531743850057646892 : True := ⟨⟩
theorem tw8634461149416530670 : True := ⟨⟩
theorem tw8689929316105487455 : True := ⟨⟩
theorem tw8706392050469498719 : True := ⟨⟩
theorem tw8776658409527915045 : True := ⟨⟩
theorem tw8853836187990769067 : True := ⟨⟩
theorem tw8858301217814381866 : True := ⟨⟩
theorem tw8860443375031717654 : True := ⟨⟩
theorem tw9135791593894952233 : True := ⟨⟩
theorem tw9266537724029244754 : True := ⟨⟩
theorem tw9301303843524914234 : True := ⟨⟩
theorem tw9320078585056922416 : True := ⟨⟩
theorem tw9401058212864491591 : True := ⟨⟩
theorem tw9532971862345934923 : True := ⟨⟩
theorem tw9615657979088265073 : True := ⟨⟩
theorem tw9628944112705135574 : True := ⟨⟩
theorem tw9636764678278123779 : True := ⟨⟩
theorem tw9704111964721192716 : True := ⟨⟩
theorem tw973447688585302265 : True := ⟨⟩
theorem tw9741981588266692063 : True := ⟨⟩
theorem tw9777663610455108660 : True := ⟨⟩
theorem tw9902710494598120781 : True := ⟨⟩
theorem tw9910856701215832910 : True := ⟨⟩
theorem tw993764212966796926 : True := ⟨⟩
theorem tw9946793485359767901 : True := ⟨⟩
end PySem.W.Fast
open PySem PySem.W PyProof.Rows
set_option maxHeartbeats 0 in
theorem PySem.Challenge.cw_midwindow_k02_no_field_holds : PySem.Challenge.rw_midwindow_k02_no_field.Holds := by
  w_on; o_law; k_head; (case hw => w_witness2)
  k_fill
  refine L2.walk_df (l := PySem.Challenge.rw_midwindow_k02_no_field) (k := 8) (st := Mw.s_law) rfl rfl rfl ⟨rfl, by decide, by decide⟩ (fun w h Y => PySem.W.kIn_of Y) (fun _ _ _ _ _ _ _ => rfl) ?F
  case F =>
    intro w mg h KX G
    have T : Mw.Txt (L2.KOf KX) mg := by
      dsimp only [L2.KOf]
      refine' Mw.txt_mk KX G (Mw.raw_mk0 KX G ?h0 ?h1 ?h2 ?h3) (Mw.raw_mk0 KX G ?h4 ?h5 ?h6 ?h7) (Mw.raw_mk0 KX G ?h8 ?h9 ?h10 ?h11) (Mw.raw_mk0 KX G ?h12 ?h13 ?h14 ?h15) (Mw.raw_mk0 KX G ?h16 ?h17 ?h18 ?h19) (Mw.raw_mk0 KX G ?h20 ?h21 ?h22 ?h23) (Mw.raw_mk0 KX G ?h24 ?h25 ?h26 ?h27) (Mw.raw_mk0 KX G ?h28 ?h29 ?h30 ?h31) (Mw.raw_mk0 KX G ?h32 ?h33 ?h34 ?h35) (Mw.raw_mk0 KX G ?h36 ?h37 ?h38 ?h39) (Mw.raw_mk0 KX G ?h40 ?h41 ?h42 ?h43) (Mw.raw_mk0 KX G ?h44 ?h45 ?h46 ?h47) (Mw.raw_mk0 KX G ?h48 ?h49 ?h50 ?h51) (Mw.raw_mk0 KX G ?h52 ?h53 ?h54 ?h55) (Mw.raw_mk0 KX G ?h56 ?h57 ?h58 ?h59) (Mw.raw_mk0 KX G ?h60 ?h61 ?h62 ?h63) (Mw.raw_mk0 KX G ?h64 ?h65 ?h66 ?h67) (Mw.raw_mk0 KX G ?h68 ?h69 ?h70 ?h71) (Mw.raw_mk0 KX G ?h72 ?h73 ?h74 ?h75) (Mw.raw_mk0 KX G ?h76 ?h77 ?h78 ?h79) ?a_HOLE ?r_HOLE ?a_FIGURES ?r_FIGURES (Mw.rawe_mk0 KX G ?h80 ?h81 ?h82 ?h83 ?h84 ?h85 ?h86 ?h87 ?h88 ?h89) (Mw.win_mk0 KX G ?h90 ?h91) ?e_NoAsk ?e_NoField ?e_NoNumber ?e_NoPlace ?e_WindowError ?e_all ?z_booked ?z_len ?z_sum ?z_all ?z_max ?z_abs ?z_tuple ?z_int ?z_bool ?z_isinstance ?z_range ?z_enumerate ?z_ValueError
      (case h0 => k_is)
      (case h1 => k_is)
      (case h2 => k_is)
      (case h3 => k_is)
      (case h4 => k_is)
      (case h5 => k_is)
      (case h6 => k_is)
      (case h7 => k_is)
      (case h8 => k_is)
      (case h9 => k_is)
      (case h10 => k_is)
      (case h11 => k_is)
      (case h12 => k_is)
      (case h13 => k_is)
      (case h14 => k_is)
      (case h15 => k_is)
      (case h16 => k_is)
      (case h17 => k_is)
      (case h18 => k_is)
      (case h19 => k_is)
      (case h20 => k_is)
      (case h21 => k_is)
      (case h22 => k_is)
      (case h23 => k_is)
      (case h24 => k_is)
      (case h25 => k_is)
      (case h26 => k_is)
      (case h27 => k_is)
      (case h28 => k_is)
      (case h29 => k_is)
      (case h30 => k_is)
      (case h31 => k_is)
      (case h32 => k_is)
      (case h33 => k_is)
      (case h34 => k_is)
      (case h35 => k_is)
      (case h36 => k_is)
      (case h37 => k_is)
      (case h38 => k_is)
      (case h39 => k_is)
      (case h40 => k_is)
      (case h41 => k_is)
      (case h42 => k_is)
      (case h43 => k_is)
      (case h44 => k_is)
      (case h45 => k_is)
      (case h46 => k_is)
      (case h47 => k_is)
      (case h48 => k_is)
      (case h49 => k_is)
      (case h50 => k_is)
      (case h51 => k_is)
      (case h52 => k_is)
      (case h53 => k_is)
      (case h54 => k_is)
      (case h55 => k_is)
      (case h56 => k_is)
      (case h57 => k_is)
      (case h58 => k_is)
      (case h59 => k_is)
      (case h60 => k_is)
      (case h61 => k_is)
      (case h62 => k_is)
      (case h63 => k_is)
      (case h64 => k_is)
      (case h65 => k_is)
      (case h66 => k_is)
      (case h67 => k_is)
      (case h68 => k_is)
      (case h69 => k_is)
      (case h70 => k_is)
      (case h71 => k_is)
      (case h72 => k_is)
      (case h73 => k_is)
      (case h74 => k_is)
      (case h75 => k_is)
      (case h76 => k_is)
      (case h77 => k_is)
      (case h78 => k_is)
      (case h79 => k_is)
      (case a_HOLE => k_is)
      (case r_HOLE => exact ⟨_, rfl⟩)
      (case a_FIGURES => k_is)
      (case r_FIGURES => exact ⟨_, rfl⟩)
      (case h80 => k_is)
      (case h81 => k_is)
      (case h82 => kernel_rfl)
      (case h83 => k_is)
      (case h84 => kernel_rfl)
      (case h85 => k_is)
      (case h86 => k_is)
      (case h87 => k_is)
      (case h88 => k_is)
      (case h89 => k_is)
      (case h90 => k_is)
      (case h91 => kernel_rfl)
      (case e_NoAsk => k_is)
      (case e_NoField => k_is)
      (case e_NoNumber => k_is)
      (case e_NoPlace => k_is)
      (case e_WindowError => k_is)
      (case e_all => kernel_rfl)
      (case z_booked => kernel_rfl)
      (case z_len => k_is)
      (case z_sum => k_is)
      (case z_all => k_is)
      (case z_max => k_is)
      (case z_abs => k_is)
      (case z_tuple => k_is)
      (case z_int => k_is)
      (case z_bool => k_is)
      (case z_isinstance => k_is)
      (case z_range => k_is)
      (case z_enumerate => k_is)
      (case z_ValueError => k_is)
    exact ⟨T.d_law, fun base => Mw.df_law T⟩
