import PyProof.Rows.All
import Wide.All
import OpenK.AllK
import Wide.FinOn
import Lean
import PyProof.EqAt
import PyProof.EqKinds
import PyProof.TupleCall
import KE.LcSums
import KE.KUnpack
import PyProof.P3In
import PyProof.Rows.SortRuns
import PyProof.Rows.SortShell
import PyProof.TupleOfSeq
import PyProof.SetKind
import PyProof.Rows.SetFrom
import PyProof.WalksMore
import PyProof.DictIter
import PyProof.SetRoads
import KE.KDictSum
import KE.KSortedM
import KE.KIntText
import PyProof.StrWalks
import PyProof.EnumMake
import PyProof.EnumStmt
import PyProof.SliceStr2
import PyProof.StrLawsTight
import PyProof.StrLawsChain
import PyProof.ZipIter
import KE.KPairComp
import PyProof.DictItems
import PyProof.DictWalks
import PyProof.SumAny
import KE.KFind
import PyProof.EnumIter
import PyProof.ListMulAny
import PyProof.FactsAll.tuple
import PyProof.P3Eq
import PyProof.TupleKey
import PyProof.FactsAll.NoneType
import PyProof.DictRoadsH
import PyProof.Rows.TupDisplay
import KE.KSortTup
import PySem.Challenge.RW_midwindow_k22_weighted
set_option Elab.async false
set_option linter.all false
set_option maxRecDepth 100000
set_option maxHeartbeats 4000000
namespace L2
open PySem PySem.Spec PyProof.Rows
abbrev Key := Sum Int Str
def keyIs : Key → Value → Bool
  | .inl k, v => Value.isInt k v
  | .inr x, v => Value.isStrOf x v
def keyH (w : World) : Key → Int
  | .inl k => hashInt k
  | .inr x => hashStr w x
theorem keyIs_shape : ∀ {k : Key} {v : Value}, keyIs k v = true → (∃ i t, k = Sum.inl i ∧ v = Value.int i t) ∨ (∃ x t, k = Sum.inr x ∧ v = Value.str x t)
  | .inl i, v, h => by
    obtain ⟨t, e⟩ := Value.isInt_shape (k := i) (v := v) h
    exact .inl ⟨i, t, rfl, e⟩
  | .inr x, v, h => by
    obtain ⟨t, e⟩ := Value.isStrOf_shape (x := x) (v := v) h
    exact .inr ⟨x, t, rfl, e⟩
theorem keyIs_int (i : Int) (t : Tok) : keyIs (.inl i) (.int i t) = true := by simp [keyIs, Value.isInt]
theorem keyIs_str (x : Str) (t : Tok) : keyIs (.inr x) (.str x t) = true := by simp [keyIs, Value.isStrOf]
theorem key_ll (a b : Int) : decide ((Sum.inl a : Key) = Sum.inl b) = (a == b) := by
  by_cases e : a = b
  · subst e; simp
  · have h : ¬ (Sum.inl a : Key) = Sum.inl b := fun q => e (Sum.inl.inj q)
    rw [decide_eq_false h]
    exact (beq_eq_false_iff_ne.mpr e).symm
theorem key_rr (a b : Str) : decide ((Sum.inr a : Key) = Sum.inr b) = decide (a = b) := by
  by_cases e : a = b
  · subst e; simp
  · have h : ¬ (Sum.inr a : Key) = Sum.inr b := fun q => e (Sum.inr.inj q)
    rw [decide_eq_false h, decide_eq_false e]
theorem key_lr (a : Int) (b : Str) : decide ((Sum.inl a : Key) = Sum.inr b) = false := decide_eq_false (fun q => nomatch q)
theorem key_rl (a : Str) (b : Int) : decide ((Sum.inr a : Key) = Sum.inl b) = false := decide_eq_false (fun q => nomatch q)
def mixKind (prog : Program) (w : World) : PySem.KeyKind prog w Key where
  is := keyIs
  hash := keyH w
  inj := fun v a b ha hb => by
    rcases keyIs_shape ha with ⟨i, t, rfl, rfl⟩ | ⟨x, t, rfl, rfl⟩
    · rcases keyIs_shape hb with ⟨j, u, rfl, e⟩ | ⟨y, u, rfl, e⟩
      · injection e with e1 _; rw [e1]
      · exact nomatch e
    · rcases keyIs_shape hb with ⟨j, u, rfl, e⟩ | ⟨y, u, rfl, e⟩
      · exact nomatch e
      · injection e with e1 _; rw [e1]
  byValue := fun k v h => by
    rcases keyIs_shape h with ⟨i, t, rfl, rfl⟩ | ⟨x, t, rfl, rfl⟩ <;> rfl
  pyHash := fun hv h => by
    rcases keyIs_shape hv with ⟨i, t, rfl, rfl⟩ | ⟨x, t, rfl, rfl⟩
    · exact wpAny_pyHash_int h
    · exact wpAny_pyHash_str h
  eqBool := fun hu hv h => by
    rcases keyIs_shape hu with ⟨i, t, rfl, rfl⟩ | ⟨x, t, rfl, rfl⟩
    · rcases keyIs_shape hv with ⟨j, u, rfl, rfl⟩ | ⟨y, u, rfl, rfl⟩
      · rw [key_ll] at h; exact wpAny_eqBool_int h
      · rw [key_lr] at h; exact SeqAt.EqAt.int_str i t y u _ _ _ _ h
    · rcases keyIs_shape hv with ⟨j, u, rfl, rfl⟩ | ⟨y, u, rfl, rfl⟩
      · rw [key_rl] at h; exact SeqAt.EqAt.str_int x t j u _ _ _ _ h
      · rw [key_rr] at h; exact wpAny_eqBool_str h
  «strs» := fun k x t v h => by
    rcases keyIs_shape h with ⟨i, u, rfl, e⟩ | ⟨y, u, rfl, e⟩
    · exact nomatch e
    · injection e with e1 _
      subst e1
      cases v <;> rfl
theorem mixKind_int (prog : Program) (w : World) (i : Int) (t : Tok) : (mixKind prog w).is (.inl i) (.int i t) = true := keyIs_int i t
theorem mixKind_str (prog : Program) (w : World) (x : Str) (t : Tok) : (mixKind prog w).is (.inr x) (.str x t) = true := keyIs_str x t
end L2
namespace L2
open PySem PySem.Spec PyProof.Rows
inductive V where
  | non | bl (b : Bool) | int (i : Int) | str (x : Str) | byt (b : Array UInt8) | flt (b : UInt64) | ref (a : Addr) | ty (n : String)
  deriving DecidableEq
def RelV : V → Value → Prop
  | .non, u => u = Value.none
  | .bl b, u => u = Value.bool b
  | .int i, u => ∃ t, u = Value.int i t
  | .str x, u => ∃ t, u = Value.str x t
  | .byt b, u => ∃ t, u = Value.bytes b t
  | .flt b, u => ∃ t, u = Value.float b t
  | .ref a, u => u = Value.ref a
  | .ty n, u => u = Value.type n
abbrev Vals : List V → List Value → Prop := Paired RelV
theorem Vals.length {xs : List V} {us : List Value} (r : Vals xs us) : xs.length = us.length := Paired.length r
theorem Vals.get : ∀ {xs : List V} {us : List Value} {i : Nat} {x : V}, Vals xs us → xs[i]? = some x → ∃ u, us[i]? = some u ∧ RelV x u
  | _, _, _, _, .nil, e => by simp at e
  | _, _, 0, _, .cons r _, e => by simp at e; subst e; exact ⟨_, rfl, r⟩
  | _, _, i + 1, x, .cons _ t, e => by
    obtain ⟨u, h1, h2⟩ := Vals.get (i := i) (x := x) t (by simpa using e)
    exact ⟨u, by simpa using h1, h2⟩
theorem Vals.set {x : V} {u : Value} (r : RelV x u) : ∀ {xs : List V} {us : List Value} (i : Nat), Vals xs us → Vals (xs.set i x) (us.set i u)
  | _, _, _, .nil => .nil
  | _, _, 0, .cons _ t => .cons r t
  | _, _, i + 1, .cons q t => .cons q (Vals.set r i t)
theorem Vals.append : ∀ {xs ys : List V} {us ws : List Value}, Vals xs us → Vals ys ws → Vals (xs ++ ys) (us ++ ws)
  | _, _, _, _, .nil, s => s
  | _, _, _, _, .cons r t, s => .cons r (Vals.append t s)
theorem Vals.take : ∀ {xs : List V} {us : List Value} (n : Nat), Vals xs us → Vals (xs.take n) (us.take n)
  | _, _, 0, _ => .nil
  | _, _, _ + 1, .nil => .nil
  | _, _, n + 1, .cons r t => .cons r (Vals.take n t)
theorem Vals.drop : ∀ {xs : List V} {us : List Value} (n : Nat), Vals xs us → Vals (xs.drop n) (us.drop n)
  | _, _, 0, r => r
  | _, _, _ + 1, .nil => .nil
  | _, _, n + 1, .cons _ t => Vals.drop n t
def RelO : Option V → Option Value → Prop
  | some v, some u => RelV v u
  | none, none => True
  | _, _ => False
def KV {κ : Type} : List (κ × V) → List (κ × Value) → Prop := Paired fun (p : κ × V) (q : κ × Value) => p.1 = q.1 ∧ RelV p.2 q.2
def kV : Key → V
  | .inl i => .int i
  | .inr x => .str x
inductive HO where
  /-- a list -/
  | lst (xs : List V)
  /-- a tuple (never changes) -/
  | tup (xs : List V)
  /-- a dict whose keys are ints and texts; one whose keys are tuples of ints and texts (the empty one is both) -/
  | dK (kvs : List (Key × V)) | dT (kvs : List (List Key × V))
  /-- a set of ints: its members, its size -/
  | set (S : Int → Bool) (n : Nat)
  /-- an instance of the class at C, its dict at dx, its attributes -/
  | ins (C dx : Addr) (fs : List (Str × V))
  /-- the dict of the instance at x -/
  | own (x : Addr)
  /-- the dict of an exception -/
  | xd (fs : List (Str × V))
  /-- a bound method, f of x -/
  | met (f x : Addr)
  /-- a range object lo, lo + 1, .. below hi -/
  | rng (lo hi : Int)
  /-- a thing that is known to the object (the script; a dict while a loop walks it): read, never written while it is so -/
  | frz (o : Obj) (u : HO)
  /-- a code object's table -/
  | tbl (ps : Array Value)
  /-- any other thing, by what is true of its one object (a def of one's own: SetO a S n := HO.ext fun h => ..) -/
  | ext (φ : Heap → Prop)
abbrev Hp := Addr → Option HO
def upd (H : Hp) (a : Addr) (o : HO) : Hp := fun b => if b = a then some o else H b
theorem upd_same {H : Hp} {a : Addr} {o : HO} : upd H a o a = some o := by unfold upd; rw [if_pos rfl]
theorem upd_ne {H : Hp} {a b : Addr} {o : HO} (h : b ≠ a) : upd H a o b = H b := by unfold upd; rw [if_neg h]
theorem ne_of {H : Hp} {a b : Addr} {o u : HO} (h : H a = some o) (h' : H b = some u) (d : o ≠ u) : a ≠ b := by
  intro e; subst e; rw [h] at h'; exact d (Option.some.inj h')
theorem ne_of_none {H : Hp} {a b : Addr} {o : HO} (h : H a = some o) (h' : H b = none) : a ≠ b := by
  intro e; subst e; rw [h] at h'; cases h'
section
variable (P : Program) (w : World)
def ObjOk (H : Hp) (h : Heap) (a : Addr) : HO → Prop
  | .lst xs => xs.length ≤ sizeLine ∧ ∃ (its : List Value) (n : Nat), Vals xs its ∧ h.get? a = some { cls := .type "list", data := .seq its.toArray n }
  | .tup xs => xs.length ≤ sizeLine ∧ ∃ its : List Value, Vals xs its ∧ IsTup h a its.toArray
  | .dK kvs => kvs.length ≤ sizeLine ∧ (a == sysModules) = false ∧ ∃ vs, KV kvs vs ∧ h.DictOf (mixKind P w) a vs
  | .dT kvs => kvs.length ≤ sizeLine ∧ (a == sysModules) = false ∧ ∃ xs : List (List Key × Addr × Value),
      Paired (fun (p : List Key × V) (q : List Key × Addr × Value) => p.1 = q.1 ∧ H q.2.1 = some (.tup (p.1.map kV)) ∧ RelV p.2 q.2.2) kvs xs ∧
      ∃ o es ep, h.get? a = some o ∧ o.ExactDict ∧ o.data = .dict es ep ∧ es.toList = xs.map (entryOfKey (tupleKind (mixKind P w))) ∧ (xs.map (·.1)).Nodup
  | .set S n => h.SetOf (intKind P w) a S n
  | .ins C dx fs => H dx = some (.own a) ∧ fs.length ≤ 1000 ∧ dx ≠ a ∧ h.get? a = some (PySem.W.instObj C dx) ∧
      ∃ mA, h.Ns1 dx mA ∧ (∀ f, RelO (fs.lookup f) (mA f)) ∧ PySem.Within mA (fs.map (·.1))
  | .own _ => ∃ o, h.get? a = some o
  | .xd fs => ∃ mA, h.Ns1 a mA ∧ ∀ f, RelO (fs.lookup f) (mA f)
  | .rng lo hi => ∃ t u v, h.get? a = some { cls := .type "range", data := .fields #[.int lo t, .int hi u, .int 1 v] }
  | .frz o u => h.get? a = some o ∧ ObjOk H h a u
  | .tbl ps => h.get? a = some { cls := .none, data := .fields ps }
  | .met f x => h.get? a = some (PySem.W.methodObj (.ref f) (.ref x))
  | .ext φ => φ h ∧ (∃ o, h.get? a = some o) ∧ ∀ h1 h2 : Heap, φ h1 → (∀ o, h1.get? a = some o → h2.get? a = some o) → φ h2
def HOk (H : Hp) (h : Heap) : Prop := ∀ a o, H a = some o → ObjOk P w H h a o
end
section
variable {P : Program} {w : World} {H H' : Hp} {h h' : Heap} {a : Addr} {o : HO}
theorem ObjOk.lt (x : ObjOk P w H h a o) : a < h.objs.size := by
  cases o with
  | lst xs => obtain ⟨_, _, _, _, e⟩ := x; exact Heap.lt_size e
  | tup xs => obtain ⟨_, _, _, p⟩ := x; exact p.lt
  | dK kvs => obtain ⟨_, _, _, _, o, _, _, e, _⟩ := x; exact Heap.lt_size e
  | dT kvs => obtain ⟨_, _, _, _, o, _, _, e, _⟩ := x; exact Heap.lt_size e
  | set S n => obtain ⟨o, _, _, _, e, _⟩ := x; exact Heap.lt_size e
  | ins C dx fs => obtain ⟨_, _, _, e, _⟩ := x; exact Heap.lt_size e
  | own y => obtain ⟨_, e⟩ := x; exact Heap.lt_size e
  | xd fs => obtain ⟨_, ⟨_, _, _, e, _⟩, _⟩ := x; exact Heap.lt_size e
  | rng lo hi => obtain ⟨_, _, _, e⟩ := x; exact Heap.lt_size e
  | frz ob u => obtain ⟨e, _⟩ := x; exact Heap.lt_size e
  | tbl ps => exact Heap.lt_size (show h.get? a = some _ from x)
  | met f y => exact Heap.lt_size (show h.get? a = some _ from x)
  | ext φ => obtain ⟨_, ⟨_, e⟩, _⟩ := x; exact Heap.lt_size e
theorem Paired.mapP {α β : Type} {F G : α → β → Prop} : ∀ {l₁ : List α} {l₂ : List β}, Paired F l₁ l₂ → (∀ a b, F a b → G a b) → Paired G l₁ l₂
  | _, _, .nil, _ => .nil
  | _, _, .cons r t, f => .cons (f _ _ r) (Paired.mapP t f)
theorem ObjOk.stay (x : ObjOk P w H h a o) (k : ∀ b u, (b = a ∨ H b = some (.own a)) → h.get? b = some u → h'.get? b = some u)
    (ho : ∀ b, H b = some (.own a) → H' b = some (.own a)) (ht : ∀ b xs, H b = some (.tup xs) → H' b = some (.tup xs)) : ObjOk P w H' h' a o := by
  induction o with
  | lst xs => obtain ⟨z, its, n, r, e⟩ := x; exact ⟨z, its, n, r, k _ _ (.inl rfl) e⟩
  | tup xs => obtain ⟨z, its, r, ob, e, c⟩ := x; exact ⟨z, its, r, ob, k _ _ (.inl rfl) e, c⟩
  | dK kvs => obtain ⟨z, y, vs, r, ob, es, ep, e, c⟩ := x; exact ⟨z, y, vs, r, ob, es, ep, k _ _ (.inl rfl) e, c⟩
  | dT kvs =>
    obtain ⟨z, y, xs, r, ob, es, ep, e, c⟩ := x
    exact ⟨z, y, xs, Paired.mapP r fun p q z => ⟨z.1, ht _ _ z.2.1, z.2.2⟩, ob, es, ep, k _ _ (.inl rfl) e, c⟩
  | set S n => obtain ⟨ob, es, ep, t, e, c⟩ := x; exact ⟨ob, es, ep, t, k _ _ (.inl rfl) e, c⟩
  | ins C dx fs =>
    obtain ⟨d, z, ne, e, mA, ⟨od, es, ep, e2, c⟩, r⟩ := x
    exact ⟨ho _ d, z, ne, k _ _ (.inl rfl) e, mA, ⟨od, es, ep, k _ _ (.inr d) e2, c⟩, r⟩
  | own y => obtain ⟨ob, e⟩ := x; exact ⟨ob, k _ _ (.inl rfl) e⟩
  | xd fs => obtain ⟨mA, ⟨od, es, ep, e, c⟩, r⟩ := x; exact ⟨mA, ⟨od, es, ep, k _ _ (.inl rfl) e, c⟩, r⟩
  | rng lo hi => obtain ⟨t, u, v, e⟩ := x; exact ⟨t, u, v, k _ _ (.inl rfl) e⟩
  | frz ob u ih => obtain ⟨e, q⟩ := x; exact ⟨k _ _ (.inl rfl) e, ih q⟩
  | tbl ps =>
    have e : h.get? a = some { cls := .none, data := .fields ps } := x
    show h'.get? a = some { cls := .none, data := .fields ps }
    exact k a _ (.inl rfl) e
  | met f y =>
    have e : h.get? a = some (PySem.W.methodObj (.ref f) (.ref y)) := x
    show h'.get? a = some (PySem.W.methodObj (.ref f) (.ref y))
    exact k a _ (.inl rfl) e
  | ext φ => obtain ⟨p, ⟨o, e⟩, st⟩ := x; exact ⟨st _ _ p fun o q => k _ _ (.inl rfl) q, ⟨o, k _ _ (.inl rfl) e⟩, st⟩
theorem HOk.lt (x : HOk P w H h) (e : H a = some o) : a < h.objs.size := (x a o e).lt
theorem HOk.fresh (x : HOk P w H h) (e : h.objs.size ≤ a) : H a = none := by
  cases q : H a with
  | none => rfl
  | some u => exact absurd (Nat.lt_of_lt_of_le (x.lt q) e) (Nat.lt_irrefl _)
theorem HOk.kept (x : HOk P w H h) (k : ∀ b u, h.get? b = some u → h'.get? b = some u) : HOk P w H h' := fun a o e =>
  (x a o e).stay (fun b u _ q => k b u q) (fun _ q => q) fun _ _ q => q
theorem HOk.laid (x : HOk P w H h) (k : ∀ b u, h.get? b = some u → h'.get? b = some u) (hp : h.objs.size ≤ a) (new : ObjOk P w (upd H a o) h' a o) : HOk P w (upd H a o) h' := fun b u e => by
  have hn := x.fresh hp
  by_cases hb : b = a
  · subst hb; rw [upd_same] at e; cases e; exact new
  · rw [upd_ne hb] at e
    exact (x b u e).stay (fun c v _ q => k c v q) (fun c q => by rw [upd_ne (ne_of_none q hn)]; exact q) fun c xs q => by rw [upd_ne (ne_of_none q hn)]; exact q
end
def Rd (H : Hp) (a : Addr) (u : HO) : Prop := H a = some u ∨ ∃ o, H a = some (.frz o u)
theorem Rd.ok {P : Program} {w : World} {H : Hp} {h : Heap} {a : Addr} {u : HO} (r : Rd H a u) (x : HOk P w H h) : ObjOk P w H h a u := by
  rcases r with r | ⟨o, r⟩
  · exact x a u r
  · obtain ⟨_, q⟩ := x a _ r
    exact q
def Mut : Option HO → Prop
  | some (.lst _) => True
  | some (.dK _) => True
  | some (.dT _) => True
  | some (.set _ _) => True
  | some (.ins _ _ _) => True
  | some (.ext _) => True
  | _ => False
section
variable {P : Program} {w : World} {H : Hp} {h h' : Heap} {x e : Addr} {o' : HO}
theorem HOk.write (ok : HOk P w H h) (mu : Mut (H x)) (he : e = x ∨ H e = some (.own x)) (k : ∀ b u, b ≠ e → h.get? b = some u → h'.get? b = some u) (heo : ∃ u, h'.get? e = some u)
    (new : ObjOk P w (upd H x o') h' x o') : HOk P w (upd H x o') h' := fun b u q => by
  have nown : ∀ c y, H c = some (.own y) → c ≠ x := fun c y r z => by subst z; rw [r] at mu; exact mu
  have ntup : ∀ c xs, H c = some (.tup xs) → c ≠ x := fun c xs r z => by subst z; rw [r] at mu; exact mu
  by_cases hb : b = x
  · subst hb; rw [upd_same] at q; cases q; exact new
  · rw [upd_ne hb] at q
    by_cases hbe : b = e
    · have q' : H b = some (.own x) := by
        rcases he with z | z
        · exact absurd (hbe.trans z) hb
        · rw [hbe]; exact z
      rw [q] at q'; cases q'
      obtain ⟨v, hv⟩ := heo
      exact ⟨v, by rw [hbe]; exact hv⟩
    · refine (ok b u q).stay (fun c v hc r => k c v ?_ r) (fun c r => by rw [upd_ne (nown c b r)]; exact r) fun c xs r => by rw [upd_ne (ntup c xs r)]; exact r
      rcases hc with rfl | hc
      · exact hbe
      · rintro rfl
        rcases he with z | z
        · exact nown c b hc z
        · rw [hc] at z; cases z; exact hb rfl
end
structure Un (fs ex : List Addr) (H H' : Hp) (h h' : Heap) : Prop where
  keep : ∀ b o, h.get? b = some o → H b = none → b ∉ fs → b ∉ ex → h'.get? b = some o
  slot : ∀ b o, h.get? b = some o → H b = none → b ∈ fs → b ∉ ex → ∃ sl, h'.get? b = some { o with slots := sl }
  free : ∀ b o, h.get? b = some o → H b = none → b ∉ ex → H' b = none
  there : ∀ b o, h.get? b = some o → b ∉ ex → ∃ o', h'.get? b = some o'
  tups : ∀ b xs, H b = some (.tup xs) → H' b = some (.tup xs)
  frzs : ∀ b o u, H b = some (.frz o u) → H' b = some (.frz o u)
  tbls : ∀ b ps, H b = some (.tbl ps) → ∃ more, H' b = some (.tbl (ps ++ more))
section
variable {fs fs' ex ex' : List Addr} {H H1 H2 : Hp} {h h1 h2 h' : Heap} {a x e : Addr} {o : HO}
theorem Un.any (u : Un fs ex H H1 h h1) {b : Addr} {ob : Obj} (q : h.get? b = some ob) (n : H b = none) (hx : b ∉ ex) : ∃ sl, h1.get? b = some { ob with slots := sl } := by
  by_cases hb : b ∈ fs
  · exact u.slot b ob q n hb hx
  · exact ⟨ob.slots, u.keep b ob q n hb hx⟩
theorem Un.kept (k : ∀ b u, h.get? b = some u → h'.get? b = some u) : Un fs ex H H h h' :=
  ⟨fun b ob q _ _ _ => k b ob q, fun b ob q _ _ _ => ⟨ob.slots, k b ob q⟩, fun _ _ _ n _ => n, fun b ob q _ => ⟨ob, k b ob q⟩, fun _ _ q => q, fun _ _ _ q => q, fun _ ps q => ⟨#[], by rw [q]; simp⟩⟩
theorem Un.refl : Un fs ex H H h h := Un.kept fun _ _ q => q
theorem Un.laid (k : ∀ b u, h.get? b = some u → h'.get? b = some u) (hp : h.objs.size ≤ a) (hn : H a = none) : Un fs ex H (upd H a o) h h' where
  keep := fun b u q _ _ _ => k b u q
  slot := fun b u q _ _ _ => ⟨u.slots, k b u q⟩
  free := fun b u q n _ => by rw [upd_ne (Nat.ne_of_lt (Nat.lt_of_lt_of_le (Heap.lt_size q) hp))]; exact n
  there := fun b u q _ => ⟨u, k b u q⟩
  tups := fun b xs q => by rw [upd_ne (ne_of_none q hn)]; exact q
  frzs := fun b u xs q => by rw [upd_ne (ne_of_none q hn)]; exact q
  tbls := fun b ps q => ⟨#[], by rw [upd_ne (ne_of_none q hn), q]; simp⟩
theorem Un.write (mu : Mut (H x)) (he : e = x ∨ H e = some (.own x)) (k : ∀ b u, b ≠ e → h.get? b = some u → h'.get? b = some u) (heo : ∃ u, h'.get? e = some u) : Un fs ex H (upd H x o) h h' := by
  have hx : ∀ b, H b = none → b ≠ x := fun b n z => by subst z; rw [n] at mu; exact mu
  have hb : ∀ b, H b = none → b ≠ e := fun b n z => by
    subst z
    rcases he with r | r
    · exact hx b n r
    · rw [n] at r; cases r
  have hm : ∀ b u, H b = some u → ¬ Mut (some u) → b ≠ x := fun b u q nm z => by subst z; rw [q] at mu; exact nm mu
  refine ⟨fun b u q n _ _ => k b u (hb b n) q, fun b u q n _ _ => ⟨u.slots, k b u (hb b n) q⟩, fun b u q n _ => by rw [upd_ne (hx b n)]; exact n, fun b u q _ => ?_,
    fun b xs q => by rw [upd_ne (hm b _ q fun z => z)]; exact q, fun b u xs q => by rw [upd_ne (hm b _ q fun z => z)]; exact q, fun b ps q => ⟨#[], by rw [upd_ne (hm b _ q fun z => z), q]; simp⟩⟩
  by_cases hbe : b = e
  · subst hbe; exact heo
  · exact ⟨u, k b u hbe q⟩
end
def trk (h : Heap) (H : Hp) : List Addr := (List.range h.objs.size).filter fun a => (H a).isSome
def hidT (h : Heap) (H : Hp) : Heap := PySem.W.hideAll h (trk h H)
theorem hidT_size (h : Heap) (H : Hp) : (hidT h H).objs.size = h.objs.size := PySem.W.hideAll_size _ _
theorem hidT_get {h : Heap} {H : Hp} {b : Addr} {o : Obj} (e : h.get? b = some o) (n : H b = none) : (hidT h H).get? b = some o :=
  PySem.W.hideAll_get _ e fun hm => by
    have q : (H b).isSome = true := (List.mem_filter.mp hm).2
    rw [n] at q; simp at q
theorem of_hidT {h : Heap} {H : Hp} {b : Addr} {o : Obj} (e : (hidT h H).get? b = some o) : h.get? b = some o ∧ H b = none := by
  have e' : h.get? b = some o := PySem.W.of_hideAll (trk h H) e
  refine ⟨e', ?_⟩
  cases q : H b with
  | none => rfl
  | some x =>
    have hm : b ∈ trk h H := List.mem_filter.mpr ⟨List.mem_range.mpr (Heap.lt_size e'), by simp [q]⟩
    have z : (hidT h H).get? b = none := PySem.W.hideAll_none (trk h H) hm
    rw [z] at e; cases e
end L2
namespace L2
open PySem PySem.Spec PyProof.Rows
structure Mod (K : PySem.W.Frag) (mg : Str → Option Value) (base : Heap) : Prop where
  kin : K.In base
  glob : base.Ns mainGlobals mg
  blt : ∃ mb, base.Ns builtinsNs mb ∧ ∀ x : Str, x ≠ "__name__" → mb x = bootBuiltins x
  nolimit : base.NoLimit
structure Cx where
  prog : Program
  w : World
  K : PySem.W.Frag
  mg : Str → Option Value
  base : Heap
  A : Around
  N : List Str
  sZ : Shared
  HZ : Hp
  env : Env
  outer : List Env
  stack : List Env
  ex : List Addr
  fn : Str → Bool
  calm : Bool
  pn : List (Addr × Obj)
  xe : Value → Shared → Prop
def frs (l : List Env) : List Addr := l.filterMap (·.frame)
abbrev Cx.fs (X : Cx) : List Addr := frs X.outer
def Vis (sc : Scope) (x : Str) : Prop := sc.names.lookup x = some .local ∨ sc.names.lookup x = some .cell ∨ sc.names.lookup x = some .free
def Loc (sc : Scope) (x : Str) : Prop := sc.names.lookup x = some .local ∨ sc.names.lookup x = some .cell
def Look (env : Env) (h : Heap) (m : Str → Option Value) (x : Str) (u : Value) : Prop :=
  (env.kindOf x = some .local ∧ m x = some u) ∨ ((env.kindOf x = some .cell ∨ env.kindOf x = some .free) ∧ ∃ c, env.cells.lookup x = some c ∧ h.IsCell c (some u))
structure Cx.Ok (X : Cx) : Prop where
  mod : Mod X.K X.mg X.base
  kind : X.env.scope.kind = .function
  glob : X.env.globals = mainGlobals
  blt : X.env.builtins = builtinsNs
  above : X.sZ.heap.objs.size ≤ X.env.locals
  inj : ∀ x y c, X.env.cells.lookup x = some c → X.env.cells.lookup y = some c → x = y
  has : ∀ x, (X.env.kindOf x = some .cell ∨ X.env.kindOf x = some .free) → ∃ c, X.env.cells.lookup x = some c
  cab : ∀ x c, X.fn x = true → X.env.cells.lookup x = some c → X.sZ.heap.objs.size ≤ c
  hd : X.calm = true → X.A.handled = none
  frames : X.A.frames = some X.stack
  stk : X.stack = X.outer ∨ (X.stack = X.env :: X.outer ∧ X.env.frame = some X.env.locals)
  exf : ∀ b ∈ X.ex, b ≠ X.env.locals ∧ ∀ x c, X.env.cells.lookup x = some c → c ≠ b
  bs : ∀ b o, X.base.get? b = some o → X.sZ.heap.get? b = some o ∧ X.HZ b = none
  bsz : X.base.objs.size ≤ X.sZ.heap.objs.size
  noex : ∀ b o, X.base.get? b = some o → b ∉ X.ex
  exfs : ∀ b ∈ X.ex, b ∉ X.fs
  funs : X.sZ.heap.FunFrames X.base X.outer
  frf : ∀ b ∈ X.fs, X.HZ b = none
structure Inv (X : Cx) (pins : List (Addr × Obj)) (σ : List (Option V)) (H : Hp) (s : Shared) : Prop where
  ok : X.Ok
  os : s.os = X.sZ.os
  bare : AllBare s.gens
  base : Un X.fs X.ex X.HZ H X.sZ.heap s.heap
  loc : ∃ m, s.heap.Ns X.env.locals m ∧ ∀ (i : Nat) (x : Str) (v : V), X.N[i]? = some x → σ[i]? = some (some v) → Vis X.env.scope x → ∃ u, RelV v u ∧ Look X.env s.heap m x u
  cell : ∀ x c, X.env.cells.lookup x = some c → ∃ v, s.heap.IsCell c v
  free : H X.env.locals = none
  freeC : ∀ x c, X.env.cells.lookup x = some c → H c = none
  pin : ∀ p ∈ X.pn ++ pins, s.heap.get? p.1 = some p.2 ∧ H p.1 = none ∧ p.1 ≠ X.env.locals ∧ p.1 ∉ X.fs ∧ ∀ v, p.2.data ≠ .cell v
  hok : HOk X.prog X.w H s.heap
  len : σ.length = X.N.length
section
variable {X : Cx} {pins : List (Addr × Obj)} {σ : List (Option V)} {H H' : Hp} {s : Shared} {h' : Heap}
theorem Cx.Ok.nofr (ok : X.Ok) {b : Addr} {o : Obj} (e : X.base.get? b = some o) : b ∉ X.fs := fun hb => by
  have := (ok.funs.mem hb).1
  rw [e] at this; cases this
theorem Inv.bs (I : Inv X pins σ H s) : ∀ b o, X.base.get? b = some o → s.heap.get? b = some o ∧ H b = none := fun b o e =>
  ⟨I.base.keep b o (I.ok.bs b o e).1 (I.ok.bs b o e).2 (I.ok.nofr e) (I.ok.noex b o e), I.base.free b o (I.ok.bs b o e).1 (I.ok.bs b o e).2 (I.ok.noex b o e)⟩
theorem Inv.bk (I : Inv X pins σ H s) : ∀ b o, X.base.get? b = some o → s.heap.get? b = some o := fun b o e => (I.bs b o e).1
theorem Inv.mod (I : Inv X pins σ H s) : Mod X.K X.mg X.base := I.ok.mod
theorem Inv.kIn (I : Inv X pins σ H s) : X.K.In s.heap := I.ok.mod.kin.keeps I.bk
theorem Inv.fr (I : Inv X pins σ H s) : ∃ m, Fr X.base X.env.locals s.heap m :=
  let ⟨m, hn, _⟩ := I.loc
  ⟨m, hn, I.bk, Nat.le_trans I.ok.bsz I.ok.above⟩
theorem Inv.lt (I : Inv X pins σ H s) : X.env.locals < s.heap.objs.size := let ⟨_, hn, _⟩ := I.loc; hn.lt
theorem Inv.sz (I : Inv X pins σ H s) : X.sZ.heap.objs.size ≤ s.heap.objs.size := Nat.le_trans I.ok.above (Nat.le_of_lt I.lt)
theorem Inv.nofs (I : Inv X pins σ H s) {a : Addr} (h : s.heap.objs.size ≤ a) : a ∉ X.fs := fun hb => by
  obtain ⟨_, o, ho, _⟩ := I.ok.funs.mem hb
  exact absurd (Nat.lt_of_lt_of_le (Heap.lt_size ho) (Nat.le_trans I.sz h)) (Nat.lt_irrefl _)
theorem Inv.cne (I : Inv X pins σ H s) : ∀ x c, X.env.cells.lookup x = some c → c ≠ X.env.locals := fun x c e z => by
  obtain ⟨v, o, ho, hd⟩ := I.cell x c e
  obtain ⟨m, ⟨o', es, ep, ho', hd', _⟩, _⟩ := I.loc
  rw [z, ho'] at ho; cases ho; rw [hd'] at hd; cases hd
theorem Inv.funs (I : Inv X pins σ H s) : s.heap.FunFrames X.base X.outer := by
  have all : ∀ (l : List Env), (∀ b ∈ frs l, b ∈ X.fs) → X.sZ.heap.FunFrames X.base l → s.heap.FunFrames X.base l := by
    intro l
    induction l with
    | nil => intro _ _; trivial
    | cons env r ih =>
      intro hs hl
      obtain ⟨hk, ⟨L, o, hf, hn, ho, hd⟩, hr⟩ := hl
      have hL : L ∈ X.fs := hs L (by unfold frs; rw [List.filterMap_cons, hf]; exact List.mem_cons_self)
      obtain ⟨sl, e⟩ := I.base.slot L o ho (I.ok.frf L hL) hL fun z => I.ok.exfs L z hL
      exact ⟨hk, ⟨L, _, hf, hn, e, hd⟩, ih (fun b hb => hs b (by unfold frs; rw [List.filterMap_cons, hf]; exact List.mem_cons_of_mem _ hb)) hr⟩
  exact all X.outer (fun _ hb => hb) I.ok.funs
theorem Inv.stack (I : Inv X pins σ H s) : s.heap.FunFrames X.base X.stack := by
  rcases I.ok.stk with e | ⟨e, hf⟩
  · rw [e]; exact I.funs
  · rw [e]
    obtain ⟨m, hn, _⟩ := I.loc
    refine .cons (by rw [I.ok.kind]; decide) hf hn ?_ I.funs
    exact Heap.get?_none_of_le (Nat.le_trans I.ok.bsz I.ok.above)
theorem Inv.stkSub (I : Inv X pins σ H s) : ∀ b ∈ frs X.stack, b ∈ X.env.locals :: X.fs := fun b hb => by
  rcases I.ok.stk with e | ⟨e, hf⟩
  · rw [e] at hb; exact List.mem_cons_of_mem _ hb
  · rw [e] at hb
    unfold frs at hb
    rw [List.filterMap_cons, hf] at hb
    exact hb
theorem Inv.stkFree (I : Inv X pins σ H s) : ∀ b ∈ frs X.stack, H b = none := fun b hb => by
  rcases List.mem_cons.mp (I.stkSub b hb) with e | hb
  · rw [e]; exact I.free
  · obtain ⟨_, o, ho, _⟩ := I.ok.funs.mem hb
    exact I.base.free b o ho (I.ok.frf b hb) fun z => I.ok.exfs b z hb
theorem Inv.step {g' : Array GenState} {t' : Nat} {d' : Drawn} {ch : List Addr} (I : Inv X pins σ H s)
    (hch : ∀ b ∈ ch, (b ∈ X.ex ∨ X.sZ.heap.objs.size ≤ b) ∧ b ≠ X.env.locals ∧ (∀ x c, X.env.cells.lookup x = some c → c ≠ b) ∧ ∀ p ∈ X.pn ++ pins, p.1 ≠ b)
    (keep : ∀ b o, b ≠ X.env.locals → b ∉ X.fs → b ∉ ch → s.heap.get? b = some o → H b = none → h'.get? b = some o)
    (slot : ∀ b o, b ≠ X.env.locals → b ∈ X.fs → b ∉ ch → s.heap.get? b = some o → H b = none → ∃ sl, h'.get? b = some { o with slots := sl }) (free : ∀ b o, b ∉ ch → s.heap.get? b = some o → H b = none → H' b = none)
    (there : ∀ b o, b ∉ ch → s.heap.get? b = some o → ∃ o', h'.get? b = some o')
    (tups : ∀ b xs, H b = some (.tup xs) → H' b = some (.tup xs)) (frzs : ∀ b o u, H b = some (.frz o u) → H' b = some (.frz o u)) (tbls : ∀ b ps, H b = some (.tbl ps) → ∃ more, H' b = some (.tbl (ps ++ more)))
    (ns : ∀ m, s.heap.Ns X.env.locals m → h'.Ns X.env.locals m) (hok : HOk X.prog X.w H' h') (hg : AllBare g') :
    Inv X pins σ H' { s with heap := h', gens := g', drawn := d', toks := t' } := by
  have neL : ∀ b o, X.sZ.heap.get? b = some o → b ≠ X.env.locals := fun b o e => Nat.ne_of_lt (Nat.lt_of_lt_of_le (Heap.lt_size e) I.ok.above)
  have neC : ∀ b o, X.sZ.heap.get? b = some o → b ∉ X.ex → b ∉ ch := fun b o e hx hb => by
    rcases (hch b hb).1 with z | z
    · exact hx z
    · exact absurd (Nat.lt_of_lt_of_le (Heap.lt_size e) z) (Nat.lt_irrefl _)
  have cellK : ∀ x c, X.env.cells.lookup x = some c → ∀ v, s.heap.IsCell c v → h'.IsCell c v := fun x c e v ⟨o, ho, hd⟩ => by
    have nch : c ∉ ch := fun z => (hch c z).2.2.1 x c e rfl
    by_cases hc : c ∈ X.fs
    · obtain ⟨sl, q⟩ := slot c o (I.cne x c e) hc nch ho (I.freeC x c e)
      exact ⟨_, q, hd⟩
    · exact ⟨o, keep c o (I.cne x c e) hc nch ho (I.freeC x c e), hd⟩
  refine ⟨I.ok, I.os, hg, ⟨fun b o e n hb hx => ?_, fun b o e n hb hx => ?_, fun b o e n hx => ?_, fun b o e hx => ?_, fun b xs e => tups b xs (I.base.tups b xs e), fun b o xs e => frzs b o xs (I.base.frzs b o xs e), fun b ps e => ?_⟩, ?_, fun x c e => ?_, ?_, fun x c e => ?_, fun p hp => ?_, hok, I.len⟩
  · exact keep b o (neL b o e) hb (neC b o e hx) (I.base.keep b o e n hb hx) (I.base.free b o e n hx)
  · obtain ⟨sl, e1⟩ := I.base.slot b o e n hb hx
    obtain ⟨sl', e2⟩ := slot b _ (neL b o e) hb (neC b o e hx) e1 (I.base.free b o e n hx)
    exact ⟨sl', e2⟩
  · obtain ⟨o', e1⟩ := I.base.there b o e hx
    exact free b o' (neC b o e hx) e1 (I.base.free b o e n hx)
  · obtain ⟨o', e1⟩ := I.base.there b o e hx
    exact there b o' (neC b o e hx) e1
  · obtain ⟨m1, e1⟩ := I.base.tbls b ps e
    obtain ⟨m2, e2⟩ := tbls b _ e1
    exact ⟨m1 ++ m2, by rw [e2, Array.append_assoc]⟩
  · obtain ⟨m, hn, hl⟩ := I.loc
    refine ⟨m, ns m hn, fun i x v e1 e2 e3 => ?_⟩
    obtain ⟨u, r, l⟩ := hl i x v e1 e2 e3
    refine ⟨u, r, ?_⟩
    rcases l with l | ⟨k, c, e, z⟩
    · exact .inl l
    · exact .inr ⟨k, c, e, cellK x c e _ z⟩
  · obtain ⟨v, z⟩ := I.cell x c e
    exact ⟨v, cellK x c e v z⟩
  · obtain ⟨m, ⟨o, _, _, ho, _⟩, _⟩ := I.loc
    exact free _ o (fun z => (hch _ z).2.1 rfl) ho I.free
  · obtain ⟨v, o, ho, hd⟩ := I.cell x c e
    exact free c o (fun z => (hch c z).2.2.1 x c e rfl) ho (I.freeC x c e)
  · obtain ⟨e, n, ne, nf, d⟩ := I.pin p hp
    have nch : p.1 ∉ ch := fun z => (hch p.1 z).2.2.2 p hp rfl
    exact ⟨keep p.1 p.2 ne nf nch e n, free p.1 p.2 nch e n, ne, nf, d⟩
theorem Inv.un {t' : Nat} (I : Inv X pins σ H s) (u : Un X.fs [] H H' s.heap h') (hok : HOk X.prog X.w H' h') : Inv X pins σ H' { s with heap := h', toks := t' } := by
  obtain ⟨m, ⟨o, es, ep, ho, r⟩, _⟩ := id I.loc
  obtain ⟨sl, hL⟩ := u.any ho I.free (by simp)
  exact I.step (g' := s.gens) (d' := s.drawn) (ch := []) (fun _ z => nomatch z) (fun b o _ hb _ e n => u.keep b o e n hb (by simp)) (fun b o _ hb _ e n => u.slot b o e n hb (by simp)) (fun b o _ e n => u.free b o e n (by simp)) (fun b o _ e => u.there b o e (by simp)) u.tups u.frzs u.tbls (fun m' hm => by
    obtain ⟨o', es', ep', ho', r'⟩ := hm
    rw [ho] at ho'; cases ho'
    exact ⟨_, es', ep', hL, r'⟩) hok I.bare
theorem Inv.call {g' : Array GenState} {t' : Nat} {d' : Drawn} {ch : List Addr} (I : Inv X pins σ H s) (u : Un (frs X.stack) ch H H' s.heap h') (hok : HOk X.prog X.w H' h') (hg : AllBare g')
    (hch : ∀ b ∈ ch, (b ∈ X.ex ∨ X.sZ.heap.objs.size ≤ b) ∧ b ≠ X.env.locals ∧ (∀ x c, X.env.cells.lookup x = some c → c ≠ b) ∧ ∀ p ∈ X.pn ++ pins, p.1 ≠ b) :
    Inv X pins σ H' { s with heap := h', gens := g', drawn := d', toks := t' } := by
  obtain ⟨m, ⟨o, es, ep, ho, r⟩, _⟩ := id I.loc
  obtain ⟨sl, hL⟩ := u.any ho I.free fun z => (hch _ z).2.1 rfl
  exact I.step (ch := ch) hch (fun b o hL hb hc e n => u.keep b o e n (fun z => (List.mem_cons.mp (I.stkSub b z)).elim hL hb) hc) (fun b o _ _ hc e n => u.any e n hc) (fun b o hc e n => u.free b o e n hc) (fun b o hc e => u.there b o e hc) u.tups u.frzs u.tbls (fun m' hm => by
    obtain ⟨o', es', ep', ho', r'⟩ := hm
    rw [ho] at ho'; cases ho'
    exact ⟨_, es', ep', hL, r'⟩) hok hg
theorem Inv.turned {t' : Nat} {it : Addr} (I : Inv X pins σ H s) (k : ∀ b o, b ≠ it → s.heap.get? b = some o → h'.get? b = some o) (hn : H it = none) (hL : it ≠ X.env.locals)
    (h1 : it ∈ X.ex ∨ X.sZ.heap.objs.size ≤ it) (h2 : ∀ x c, X.env.cells.lookup x = some c → c ≠ it) (h3 : ∀ p ∈ X.pn ++ pins, p.1 ≠ it) : Inv X pins σ H { s with heap := h', toks := t' } := by
  have nit : ∀ b u, H b = some u → b ≠ it := fun b u e z => by rw [z, hn] at e; cases e
  refine I.step (g' := s.gens) (d' := s.drawn) (ch := [it]) (fun b hb => ?_) (fun b o _ _ hc e _ => k b o (fun z => hc (by simp [z])) e) (fun b o _ _ hc e _ => ⟨o.slots, k b o (fun z => hc (by simp [z])) e⟩) (fun _ _ _ _ n => n)
    (fun b o hc e => ⟨o, k b o (fun z => hc (by simp [z])) e⟩) (fun _ _ e => e) (fun _ _ _ e => e) (fun b ps e => ⟨#[], by rw [e]; simp⟩) (fun m hm => ?_) (fun b u e => ?_) I.bare
  · have e : b = it := by simpa using hb
    subst e
    exact ⟨h1, hL, h2, h3⟩
  · obtain ⟨o, es, ep, ho, r⟩ := hm
    exact ⟨o, es, ep, k _ o (Ne.symm hL) ho, r⟩
  · refine (I.hok b u e).stay (fun c v hc q => k c v ?_ q) (fun _ q => q) fun _ _ q => q
    rcases hc with z | z
    · rw [z]; exact nit b u e
    · exact nit c _ z
theorem Inv.tok (I : Inv X pins σ H s) (t : Nat) : Inv X pins σ H { s with toks := t } := I.un (h' := s.heap) (t' := t) Un.refl I.hok
theorem Inv.kept {t' : Nat} (I : Inv X pins σ H s) (k : ∀ b u, s.heap.get? b = some u → h'.get? b = some u) : Inv X pins σ H { s with heap := h', toks := t' } := I.un (Un.kept k) (I.hok.kept k)
theorem Inv.laid {a : Addr} {o : HO} {t' : Nat} (I : Inv X pins σ H s) (k : ∀ b u, s.heap.get? b = some u → h'.get? b = some u) (hp : s.heap.objs.size ≤ a) (new : ObjOk X.prog X.w (upd H a o) h' a o) :
    Inv X pins σ (upd H a o) { s with heap := h', toks := t' } := I.un (Un.laid k hp (I.hok.fresh hp)) (I.hok.laid k hp new)
theorem Inv.write {x e : Addr} {o : HO} {t' : Nat} (I : Inv X pins σ H s) (mu : Mut (H x)) (he : e = x ∨ H e = some (.own x)) (k : ∀ b u, b ≠ e → s.heap.get? b = some u → h'.get? b = some u) (heo : ∃ u, h'.get? e = some u)
    (new : ObjOk X.prog X.w (upd H x o) h' x o) : Inv X pins σ (upd H x o) { s with heap := h', toks := t' } := I.un (Un.write mu he k heo) (I.hok.write mu he k heo new)
theorem Inv.weak {σ' : List (Option V)} (I : Inv X pins σ H s) (hl : σ'.length = σ.length) (w : ∀ (i : Nat) v, σ'[i]? = some (some v) → σ[i]? = some (some v)) : Inv X pins σ' H s :=
  ⟨I.ok, I.os, I.bare, I.base, let ⟨m, hn, hl'⟩ := I.loc; ⟨m, hn, fun i x v e1 e2 e3 => hl' i x v e1 (w i v e2) e3⟩, I.cell, I.free, I.freeC, I.pin, I.hok, hl.trans I.len⟩
theorem Inv.pins_of {pins' : List (Addr × Obj)} (I : Inv X pins σ H s) (h : ∀ p ∈ pins', s.heap.get? p.1 = some p.2 ∧ H p.1 = none ∧ p.1 ≠ X.env.locals ∧ p.1 ∉ X.fs ∧ ∀ v, p.2.data ≠ .cell v) : Inv X pins' σ H s :=
  ⟨I.ok, I.os, I.bare, I.base, I.loc, I.cell, I.free, I.freeC, fun p hp => (List.mem_append.mp hp).elim (fun z => I.pin p (List.mem_append_left _ z)) (h p), I.hok, I.len⟩
theorem nodup_ix {N : List Str} (hN : N.Nodup) {i j : Nat} {x : Str} (a : N[i]? = some x) (b : N[j]? = some x) : i = j := by
  obtain ⟨h1, e1⟩ := List.getElem?_eq_some_iff.mp a
  obtain ⟨h2, e2⟩ := List.getElem?_eq_some_iff.mp b
  exact (List.getElem_inj hN).mp (e1.trans e2.symm)
theorem store_ok2 {M : Model} {A : Around} {E : Value → Shared → Prop} {i : Nat} {x : Str} {v : V} {u : Value} {Q : Unit → Shared → Prop} (I : Inv X pins σ H s) (hN : X.N.Nodup) (hi : X.N[i]? = some x) (hx : Loc X.env.scope x) (r : RelV v u)
    (h : ∀ s', Inv X pins (σ.set i (some v)) H s' → (∃ a, Heap.SameBut a s.heap s'.heap ∧ (a = X.env.locals ∨ X.env.cells.lookup x = some a)) → Q () s') (hf : X.fn x = true ∨ X.env.scope.names.lookup x = some .local := by first | exact .inl rfl | exact .inr rfl | assumption) : wpAny M A (storeName X.env x u) Q E s := by
  obtain ⟨m, hn, hl⟩ := id I.loc
  have hcls : (X.env.scope.kind == .class || (X.env.scope.kind == .module && X.env.locals != X.env.globals)) = false := by rw [I.ok.kind]; rfl
  have hiσ : i < σ.length := by rw [I.len]; exact (List.getElem?_eq_some_iff.mp hi).1
  have cne := I.cne
  have tracked : ∀ {a : Addr} {h' : Heap}, (∃ o, s.heap.get? a = some o ∧ H a = none) → Heap.SameBut a s.heap h' → HOk X.prog X.w H h' := fun {a h'} ha hs b ob e => by
    obtain ⟨_, _, hfree⟩ := ha
    refine (I.hok b ob e).stay (fun c w' hc q => (hs.2 c ?_).trans q) (fun _ q => q) fun _ _ q => q
    rintro rfl
    rcases hc with rfl | hc
    · rw [hfree] at e; cases e
    · rw [hfree] at hc; cases hc
  rcases hx with hk | hk
  · refine wpAny_storeName_local hk hn (fun h' hn' hs => ?_) hcls
    obtain ⟨oL, _, _, hoL, _⟩ := id hn
    refine h _ ⟨I.ok, I.os, I.bare, ⟨fun b o e n hb hx => ?_, fun b o e n hb hx => ?_, I.base.free, fun b o e hx => ?_, I.base.tups, I.base.frzs, I.base.tbls⟩, ⟨_, hn', fun j y v' e1 e2 e3 => ?_⟩, fun y c e => ?_, I.free, I.freeC, fun p hp => ?_, tracked ⟨oL, hoL, I.free⟩ hs, by simpa using I.len⟩ ⟨_, hs, .inl rfl⟩
    · exact (hs.2 b (Nat.ne_of_lt (Nat.lt_of_lt_of_le (Heap.lt_size e) I.ok.above))).trans (I.base.keep b o e n hb hx)
    · obtain ⟨sl, e1⟩ := I.base.slot b o e n hb hx
      exact ⟨sl, (hs.2 b (Nat.ne_of_lt (Nat.lt_of_lt_of_le (Heap.lt_size e) I.ok.above))).trans e1⟩
    · obtain ⟨o', e1⟩ := I.base.there b o e hx
      exact ⟨o', (hs.2 b (Nat.ne_of_lt (Nat.lt_of_lt_of_le (Heap.lt_size e) I.ok.above))).trans e1⟩
    · by_cases hj : j = i
      · subst hj
        rw [hi] at e1; cases e1
        rw [List.getElem?_set_self hiσ] at e2
        cases e2
        exact ⟨u, r, .inl ⟨hk, by simp⟩⟩
      · rw [List.getElem?_set_ne (Ne.symm hj)] at e2
        obtain ⟨u', r', q⟩ := hl j y v' e1 e2 e3
        refine ⟨u', r', ?_⟩
        rcases q with ⟨k, e⟩ | ⟨k, c, e, z⟩
        · refine .inl ⟨k, ?_⟩
          have : y ≠ x := fun e => hj (nodup_ix hN e1 (e ▸ hi))
          simp [this, e]
        · exact .inr ⟨k, c, e, z.sameBut hs (cne y c e)⟩
    · obtain ⟨w', z⟩ := I.cell y c e
      exact ⟨w', z.sameBut hs (cne y c e)⟩
    · obtain ⟨e, n, ne, nf, d⟩ := I.pin p hp
      exact ⟨(hs.2 p.1 ne).trans e, n, ne, nf, d⟩
  · have hfn : X.fn x = true := by
      rcases hf with z | z
      · exact z
      · rw [z] at hk; cases hk
    obtain ⟨c, hc⟩ := I.ok.has x (.inl hk)
    obtain ⟨w', z⟩ := I.cell x c hc
    refine wpAny_storeName_cell I.ok.kind hk hc z (fun h' hc' hs => ?_)
    obtain ⟨oc, hoc, hocd⟩ := id z
    refine h { s with heap := h' } ⟨I.ok, I.os, I.bare, ⟨fun b o e n hb hx => ?_, fun b o e n hb hx => ?_, I.base.free, fun b o e hx => ?_, I.base.tups, I.base.frzs, I.base.tbls⟩, ⟨m, hn.sameBut hs (Ne.symm (cne x c hc)), fun j y v' e1 e2 e3 => ?_⟩, fun y c' e => ?_, I.free, I.freeC, fun p hp => ?_, tracked ⟨oc, hoc, I.freeC x c hc⟩ hs, by simpa using I.len⟩ ⟨c, hs, .inr hc⟩
    · exact (hs.2 b (Nat.ne_of_lt (Nat.lt_of_lt_of_le (Heap.lt_size e) (I.ok.cab x c hfn hc)))).trans (I.base.keep b o e n hb hx)
    · obtain ⟨sl, e1⟩ := I.base.slot b o e n hb hx
      exact ⟨sl, (hs.2 b (Nat.ne_of_lt (Nat.lt_of_lt_of_le (Heap.lt_size e) (I.ok.cab x c hfn hc)))).trans e1⟩
    · obtain ⟨o', e1⟩ := I.base.there b o e hx
      exact ⟨o', (hs.2 b (Nat.ne_of_lt (Nat.lt_of_lt_of_le (Heap.lt_size e) (I.ok.cab x c hfn hc)))).trans e1⟩
    · by_cases hj : j = i
      · subst hj
        rw [hi] at e1; cases e1
        rw [List.getElem?_set_self hiσ] at e2
        cases e2
        exact ⟨u, r, .inr ⟨.inl hk, c, hc, hc'⟩⟩
      · rw [List.getElem?_set_ne (Ne.symm hj)] at e2
        obtain ⟨u', r', q⟩ := hl j y v' e1 e2 e3
        refine ⟨u', r', ?_⟩
        rcases q with q | ⟨k, c', e, z'⟩
        · exact .inl q
        · refine .inr ⟨k, c', e, z'.sameBut hs ?_⟩
          rintro rfl
          exact hj (nodup_ix hN e1 (I.ok.inj _ _ _ e hc ▸ hi))
    · by_cases hcc : c' = c
      · subst hcc; exact ⟨_, hc'⟩
      · obtain ⟨w2, z2⟩ := I.cell y c' e
        exact ⟨w2, z2.sameBut hs hcc⟩
    · obtain ⟨e, n, ne, nf, d⟩ := I.pin p hp
      refine ⟨(hs.2 p.1 ?_).trans e, n, ne, nf, d⟩
      intro q
      rw [q, hoc] at e
      have q' : oc = p.2 := Option.some.inj e
      exact d w' (by rw [← q']; exact hocd)
theorem store_ok {M : Model} {A : Around} {E : Value → Shared → Prop} {i : Nat} {x : Str} {v : V} {u : Value} {Q : Unit → Shared → Prop} (I : Inv X pins σ H s) (hN : X.N.Nodup) (hi : X.N[i]? = some x) (hx : Loc X.env.scope x) (r : RelV v u)
    (h : ∀ s', Inv X pins (σ.set i (some v)) H s' → Q () s') (hf : X.fn x = true ∨ X.env.scope.names.lookup x = some .local := by first | exact .inl rfl | exact .inr rfl | assumption) : wpAny M A (storeName X.env x u) Q E s :=
  store_ok2 I hN hi hx r (fun s' I' _ => h s' I') hf
theorem Inv.call' {s' : Shared} {ch : List Addr} (I : Inv X pins σ H s) (ho : s'.os = s.os) (u : Un (frs X.stack) ch H H' s.heap s'.heap) (hok : HOk X.prog X.w H' s'.heap) (hg : AllBare s'.gens)
    (hch : ∀ b ∈ ch, (b ∈ X.ex ∨ X.sZ.heap.objs.size ≤ b) ∧ b ≠ X.env.locals ∧ (∀ x c, X.env.cells.lookup x = some c → c ≠ b) ∧ ∀ p ∈ X.pn ++ pins, p.1 ≠ b) : Inv X pins σ H' s' := by
  obtain ⟨h', g', d', t', o'⟩ := s'
  have e : o' = s.os := ho
  subst e
  exact I.call (g' := g') (t' := t') (d' := d') u hok hg hch
end
abbrev XK := Value → Option Addr → Hp → Prop
abbrev St := List (Option V)
abbrev VK := V → Hp → Prop
abbrev TE := St → Hp → VK → Prop
abbrev TT := St → Hp → (Bool → Hp → Prop) → Prop
abbrev TA := St → Hp → (List V → Hp → Prop) → Prop
structure Ends where
  nx : St → Hp → Prop
  rt : VK
  bk : St → Hp → Prop := fun _ _ => False
  ct : St → Hp → Prop := fun _ _ => False
abbrev TS := Ends → St → Hp → Prop
def EP (X : Cx) (pins : List (Addr × Obj)) (σ : St) (Q : VK) (u : Value) (s' : Shared) : Prop := ∃ v H', Inv X pins σ H' s' ∧ RelV v u ∧ Q v H'
def TP (X : Cx) (pins : List (Addr × Obj)) (σ : St) (Q : Bool → Hp → Prop) (b : Bool) (s' : Shared) : Prop := ∃ H', Inv X pins σ H' s' ∧ Q b H'
def AP (X : Cx) (pins : List (Addr × Obj)) (σ : St) (Q : List V → Hp → Prop) (us : List Value) (s' : Shared) : Prop := ∃ vs H', Inv X pins σ H' s' ∧ Vals vs us ∧ Q vs H'
def SP (X : Cx) (pins : List (Addr × Obj)) (D : Ends) (f : Flow) (s' : Shared) : Prop :=
  match f with
  | .next => ∃ σ' H', Inv X pins σ' H' s' ∧ D.nx σ' H'
  | .brk => ∃ σ' H', Inv X pins σ' H' s' ∧ D.bk σ' H'
  | .cont => ∃ σ' H', Inv X pins σ' H' s' ∧ D.ct σ' H'
  | .ret u => ∃ v σ' H', Inv X pins σ' H' s' ∧ RelV v u ∧ D.rt v H'
def PE (X : Cx) (e : Expr) (t : TE) : Prop :=
  ∀ (pins : List (Addr × Obj)) (s : Shared) (σ : St) (H : Hp) (Q : VK), Inv X pins σ H s → t σ H Q → wpAny (model X.prog X.w) X.A (eval e X.env) (EP X pins σ Q) X.xe s
def PT (X : Cx) (e : Expr) (t : TT) : Prop :=
  ∀ (pins : List (Addr × Obj)) (s : Shared) (σ : St) (H : Hp) (Q : Bool → Hp → Prop), Inv X pins σ H s → t σ H Q → wpAny (model X.prog X.w) X.A (isTrue e X.env (eval e X.env)) (TP X pins σ Q) X.xe s
def PW (X : Cx) (e : Expr) (t : TT) : Prop :=
  ∀ (whole : Sem Value) (pins : List (Addr × Obj)) (s : Shared) (σ : St) (H : Hp) (Q : Bool → Hp → Prop), Inv X pins σ H s → t σ H Q → wpAny (model X.prog X.w) X.A (isTrue e X.env whole) (TP X pins σ Q) X.xe s
theorem PW.pt {X : Cx} {e : Expr} {t : TT} (h : PW X e t) : PT X e t := h _
def PA (X : Cx) (es : List Expr) (t : TA) : Prop :=
  ∀ (pos : Pos) (pins : List (Addr × Obj)) (s : Shared) (σ : St) (H : Hp) (Q : List V → Hp → Prop), Inv X pins σ H s → t σ H Q → wpAny (model X.prog X.w) X.A (spliced (backTo pos (starEach es X.env))) (AP X pins σ Q) X.xe s
def PS (X : Cx) (st : Stmt) (t : TS) : Prop :=
  ∀ (pins : List (Addr × Obj)) (s : Shared) (σ : St) (H : Hp) (D : Ends), Inv X pins σ H s → t D σ H → wpAny (model X.prog X.w) X.A (exec st X.env) (SP X pins D) X.xe s
def PSs (X : Cx) (st : List Stmt) (t : TS) : Prop :=
  ∀ (pins : List (Addr × Obj)) (s : Shared) (σ : St) (H : Hp) (D : Ends), Inv X pins σ H s → t D σ H → wpAny (model X.prog X.w) X.A (execs st X.env) (SP X pins D) X.xe s
theorem thn {α : Type} {t : Sem α} {Q Q' : α → Shared → Prop} {M : Model} {A : Around} {E : Value → Shared → Prop} {s : Shared} (h : wpAny M A t Q E s) (hQ : ∀ a s, Q a s → Q' a s) : wpAny M A t Q' E s := wpAny_mono h hQ fun _ _ x => x
end L2
namespace L2
open PySem PySem.Spec PyProof.Rows
section
variable {X : Cx}
theorem bin {a b : Expr} {ta tb : TE} (ha : PE X a ta) (hb : PE X b tb) {pins : List (Addr × Obj)} {s : Shared} {σ : St} {H : Hp} {R : V → V → Hp → Prop} (I : Inv X pins σ H s) (h : ta σ H fun x H1 => tb σ H1 fun y H2 => R x y H2)
    {α : Type} {Q : α → Shared → Prop} {f : Value → Value → Sem α}
    (hf : ∀ v u s2 x y H2, Inv X pins σ H2 s2 → RelV x v → RelV y u → R x y H2 → wpAny (model X.prog X.w) X.A (f v u) Q X.xe s2) :
    wpAny (model X.prog X.w) X.A (eval a X.env) (fun v s₁ => wpAny (model X.prog X.w) X.A (eval b X.env) (fun u s₂ => wpAny (model X.prog X.w) X.A (f v u) Q X.xe s₂) X.xe s₁) X.xe s := by
  refine thn (ha pins s σ H _ I h) fun v s1 ⟨x, H1, I1, r1, q1⟩ => ?_
  refine thn (hb pins s1 σ H1 _ I1 q1) fun u s2 ⟨y, H2, I2, r2, q2⟩ => ?_
  exact hf v u s2 x y H2 I2 r1 r2 q2
def tVar (i : Nat) : TE := fun σ H Q => ∃ v, σ[i]? = some (some v) ∧ Q v H
def tC (v : V) : TE := fun _ H Q => Q v H
theorem pe_var {i : Nat} {x : Str} {pos : Pos} (hN : X.N[i]? = some x) (hv : Vis X.env.scope x) (hd : (x == ("__debug__" : Str)) = false := by decide) (hcd : (x == ("__classdict__" : Str)) = false := by decide) : PE X (.Name x pos) (tVar i) := by
  intro pins s σ H Q I h
  obtain ⟨v, e, h⟩ := h
  obtain ⟨m, hn, hl⟩ := I.loc
  obtain ⟨u, r, l⟩ := hl i x v hN e hv
  have fin : EP X pins σ Q u s := ⟨v, H, I, r, h⟩
  rcases l with ⟨hk, hm⟩ | ⟨hk, c, hc, hcell⟩
  · exact wpAny_Name (wpAny_loadName_local I.ok.kind hk hn hm fin) hd
  · rcases hk with hk | hk
    · exact wpAny_Name (wpAny_loadName_cell I.ok.kind hk hc hcell fin) hd
    · exact wpAny_Name (wpAny_loadName_free I.ok.kind hk hc hcell fin hcd) hd
theorem pe_int {i j pos} : PE X (.Constant (.int i) j pos) (tC (.int i)) := fun _ _ _ H _ I h => wpAny_Constant_int ⟨.int i, H, I.tok _, ⟨_, rfl⟩, h⟩
theorem pe_bl {b j pos} : PE X (.Constant (.bool b) j pos) (tC (.bl b)) := fun _ _ _ H _ I h => Constant_bool ⟨.bl b, H, I, rfl, h⟩
theorem pe_non {j pos} : PE X (.Constant .none j pos) (tC .non) := fun _ _ _ H _ I h => Constant_none ⟨.non, H, I, rfl, h⟩
theorem pe_str {x j pos} : PE X (.Constant (.str x) j pos) (tC (.str x)) := fun _ _ _ H _ I h => Calls.Constant_str ⟨.str x, H, I.tok _, ⟨_, rfl⟩, h⟩
def Gl (X : Cx) (x : Str) : Prop := X.env.kindOf x = some .globalImplicit
theorem ld_glob {E : Value → Shared → Prop} {pins : List (Addr × Obj)} {s : Shared} {σ : St} {H : Hp} {x : Str} {u : Value} {pos : Pos} {Q : Value → Shared → Prop} (I : Inv X pins σ H s) (hg : Gl X x) (hm : X.mg x = some u) (h : Q u s)
    (hd : (x == ("__debug__" : Str)) = false := by decide) : wpAny (model X.prog X.w) X.A (eval (.Name x pos) X.env) Q E s :=
  Calls.Name_function_global I.ok.kind hg (Calls.loadGlobal_global (by rw [I.ok.glob]; exact I.mod.glob.keeps I.bk) hm h) hd
theorem ld_blt {E : Value → Shared → Prop} {pins : List (Addr × Obj)} {s : Shared} {σ : St} {H : Hp} {x : Str} {u : Value} {pos : Pos} {Q : Value → Shared → Prop} (I : Inv X pins σ H s) (hg : Gl X x) (hm : X.mg x = none) (hv : bootBuiltins x = some u) (h : Q u s)
    (hn : x ≠ "__name__" := by decide) (hd : (x == ("__debug__" : Str)) = false := by decide) : wpAny (model X.prog X.w) X.A (eval (.Name x pos) X.env) Q E s := by
  obtain ⟨mb, h1, h2⟩ := I.mod.blt
  exact Calls.Name_function_global I.ok.kind hg (Calls.loadGlobal_builtin (by rw [I.ok.glob]; exact I.mod.glob.keeps I.bk) hm (by rw [I.ok.blt]; exact h1.keeps I.bk) ((h2 x hn).trans hv) h) hd
theorem pe_bltn {x : Str} {v : V} {u : Value} {pos : Pos} (hg : Gl X x) (hm : X.mg x = none) (hv : bootBuiltins x = some u) (r : RelV v u) (hn : x ≠ "__name__" := by decide) (hd : (x == ("__debug__" : Str)) = false := by decide) : PE X (.Name x pos) (tC v) :=
  fun _ _ _ H _ I h => ld_blt I hg hm hv ⟨v, H, I, r, h⟩ hn hd
variable {a b : Expr} {ta tb : TE} {pos : Pos}
def PC (X : Cx) (op : CmpOp) (a b : Expr) (t : TE) : Prop :=
  ∀ (pins : List (Addr × Obj)) (s : Shared) (σ : St) (H : Hp) (Q : VK), Inv X pins σ H s → t σ H Q →
    wpAny (model X.prog X.w) X.A (eval a X.env) (fun v s₁ => wpAny (model X.prog X.w) X.A (eval b X.env) (fun u s₂ => wpAny (model X.prog X.w) X.A (compareOp op v u) (EP X pins σ Q) X.xe s₂) X.xe s₁) X.xe s
def tB (t : TE) : TT := fun σ H Q => t σ H fun x H1 => ∃ c, x = .bl c ∧ Q c H1
theorem pt_cmp {op : CmpOp} {t : TE} (h : PC X op a b t) (h1 : behindInMarks op b = false := by first | exact nobehind _ (by decide) (by decide) | rfl) : PT X (.Compare a [op] [b] pos) (tB t) := by
  intro pins s σ H Q I hw
  refine wpAny_isTrue_Compare1 (thn (h pins s σ H _ I hw) fun v s1 h1 => thn h1 fun u s2 h2 => thn h2 fun c s3 ⟨x, H1, I1, r1, q1⟩ => ?_) h1
  obtain ⟨d, rfl, q⟩ := q1
  cases r1
  exact wpAny_truthy_bool ⟨H1, I1, q⟩
theorem pt_val {e : Expr} {t : TE} (h : PE X e t) (he : ∀ whole, isTrue e X.env whole = (do let v ← whole; standAt e.pos; holding [v] (truthy v)) := by intro _; rfl) : PT X e (tB t) := by
  intro pins s σ H Q I hw
  refine isTrue_plain (thn (h pins s σ H _ I hw) fun v s1 ⟨x, H1, I1, r1, q1⟩ => ?_) (he _)
  obtain ⟨d, rfl, q⟩ := q1
  cases r1
  exact wpAny_truthy_bool ⟨H1, I1, q⟩
variable {tA tB' : TT} {rest : List Expr}
def tAnd (t u : TT) : TT := fun σ H Q => t σ H fun c H1 => if c = true then u σ H1 Q else Q false H1
def tOr (t u : TT) : TT := fun σ H Q => t σ H fun c H1 => if c = true then Q true H1 else u σ H1 Q
def tNot (t : TT) : TT := fun σ H Q => t σ H fun c H1 => Q (!c) H1
theorem pw_and1 (ha : PT X a tA) : PW X (.BoolOp .And [a] pos) tA := by
  intro wh pins s σ H Q I h
  refine isTrue_and (thn (ha pins s σ H Q I h) fun c s1 e => ?_)
  cases c with
  | true => exact isTrue_and_nil e
  | false => exact e
theorem pw_or1 (ha : PT X a tA) : PW X (.BoolOp .Or [a] pos) tA := by
  intro wh pins s σ H Q I h
  refine isTrue_or (thn (ha pins s σ H Q I h) fun c s1 e => ?_)
  cases c with
  | false => exact isTrue_or_nil e
  | true => exact e
theorem pw_and (ha : PT X a tA) (hb : PW X (.BoolOp .And (b :: rest) pos) tB') : PW X (.BoolOp .And (a :: b :: rest) pos) (tAnd tA tB') := by
  intro wh pins s σ H Q I h
  refine isTrue_and (thn (ha pins s σ H _ I h) fun c s1 ⟨H1, I1, q1⟩ => ?_)
  cases c with
  | true => exact hb wh pins s1 σ H1 Q I1 q1
  | false => exact ⟨H1, I1, q1⟩
theorem pw_or (ha : PT X a tA) (hb : PW X (.BoolOp .Or (b :: rest) pos) tB') : PW X (.BoolOp .Or (a :: b :: rest) pos) (tOr tA tB') := by
  intro wh pins s σ H Q I h
  refine isTrue_or (thn (ha pins s σ H _ I h) fun c s1 ⟨H1, I1, q1⟩ => ?_)
  cases c with
  | true => exact ⟨H1, I1, q1⟩
  | false => exact hb wh pins s1 σ H1 Q I1 q1
theorem pt_not (ha : PT X a tA) : PT X (.UnaryOp .Not a pos) (tNot tA) := by
  intro pins s σ H Q I h
  exact isTrue_not (ha pins s σ H (fun c H1 => Q (!c) H1) I h)
def tAndV (ta tb : TE) : TE := fun σ H Q => ta σ H fun x H1 => ∃ c, x = .bl c ∧ if c = true then tb σ H1 Q else Q (.bl false) H1
def tNotV (ta : TE) : TE := fun σ H Q => ta σ H fun x H1 => ∃ c, x = .bl c ∧ Q (.bl (!c)) H1
theorem pe_one {op} {t : TE} (h : PE X a t) : PE X (.BoolOp op [a] pos) t := fun pins s σ H Q I hw => BoolOp_one (h pins s σ H Q I hw)
theorem pe_and (ha : PE X a ta) (hb : PE X (.BoolOp .And (b :: rest) pos) tb) : PE X (.BoolOp .And (a :: b :: rest) pos) (tAndV ta tb) := by
  intro pins s σ H Q I h
  refine BoolOp_and (thn (ha pins s σ H _ I h) fun v s1 ⟨x, H1, I1, r1, q1⟩ => ?_)
  obtain ⟨c, rfl, q1⟩ := q1
  cases r1
  refine wpAny_truthy_bool ?_
  cases c with
  | true => exact hb pins s1 σ H1 Q I1 q1
  | false => exact ⟨.bl false, H1, I1, rfl, q1⟩
theorem pe_not (ha : PE X a ta) : PE X (.UnaryOp .Not a pos) (tNotV ta) := by
  intro pins s σ H Q I h
  refine UnaryOp_ (thn (ha pins s σ H _ I h) fun v s1 ⟨x, H1, I1, r1, q1⟩ => ?_)
  obtain ⟨c, rfl, q1⟩ := q1
  cases r1
  exact not_of (wpAny_truthy_bool ⟨.bl (!c), H1, I1, rfl, q1⟩)
def tIf (t : TT) (ta tb : TE) : TE := fun σ H Q => t σ H fun c H1 => if c = true then ta σ H1 Q else tb σ H1 Q
theorem pe_ifExp {c : Expr} (hc : PT X c tA) (ha : PE X a ta) (hb : PE X b tb) : PE X (.IfExp c a b pos) (tIf tA ta tb) := by
  intro pins s σ H Q I h
  refine wpAny_IfExp (thn (hc pins s σ H _ I h) fun d s1 ⟨H1, I1, q1⟩ => ?_)
  cases d with
  | true => exact ha pins s1 σ H1 Q I1 q1
  | false => exact hb pins s1 σ H1 Q I1 q1
end
end L2
namespace L2
open PySem PySem.Spec PyProof.Rows
def SqL (K : PySem.W.Frag) (H : Hp) (a : Addr) (xs : List V) : Prop :=
  Rd H a (.lst xs) ∨
    ∃ (o : Obj) (its : Array Value) (n : Nat), K.lookup a = some o ∧ o.cls = .type "list" ∧ o.dict = none ∧ o.data = .seq its n ∧ its.size ≤ sizeLine ∧ Vals xs its.toList
def SqT (K : PySem.W.Frag) (H : Hp) (a : Addr) (xs : List V) : Prop :=
  Rd H a (.tup xs) ∨
    ∃ (o : Obj) (its : Array Value) (n : Nat), K.lookup a = some o ∧ o.cls = .type "tuple" ∧ o.data = .seq its n ∧ its.size ≤ sizeLine ∧ Vals xs its.toList
def absV : Value → Option V
  | .none => some .non
  | .bool b => some (.bl b)
  | .int i _ => some (.int i)
  | .str x _ => some (.str x)
  | .bytes b _ => some (.byt b)
  | .float b _ => some (.flt b)
  | .ref a => some (.ref a)
  | .type n => some (.ty n)
  | _ => none
theorem RelV.abs {x : V} {u : Value} (r : RelV x u) : absV u = some x := by
  cases x with
  | non => cases r; rfl
  | bl _ => cases r; rfl
  | int _ => obtain ⟨t, rfl⟩ := r; rfl
  | str _ => obtain ⟨t, rfl⟩ := r; rfl
  | byt _ => obtain ⟨t, rfl⟩ := r; rfl
  | flt _ => obtain ⟨t, rfl⟩ := r; rfl
  | ref _ => cases r; rfl
  | ty _ => cases r; rfl
theorem RelV.inj {x y : V} {u : Value} (r : RelV x u) (q : RelV y u) : x = y := Option.some.inj (r.abs.symm.trans q.abs)
theorem Vals.inj : ∀ {xs ys : List V} {us : List Value}, Vals xs us → Vals ys us → xs = ys
  | _, _, _, .nil, .nil => rfl
  | _, _, _, .cons r t, .cons r' t' => by rw [r.inj r', Vals.inj t t']
section
variable {X : Cx} {pins : List (Addr × Obj)} {σ : St} {H : Hp} {s : Shared} {a : Addr} {xs ys : List V}
theorem SqL.of {K : PySem.W.Frag} (h : H a = some (.lst xs)) : SqL K H a xs := .inl (.inl h)
theorem SqT.of {K : PySem.W.Frag} (h : H a = some (.tup xs)) : SqT K H a xs := .inl (.inl h)
theorem Inv.list (I : Inv X pins σ H s) (h : SqL X.K H a xs) : ∃ its : List Value, Vals xs its ∧ PlainL s.heap a its.toArray ∧ xs.length ≤ sizeLine := by
  rcases h with h | ⟨o, its, n, hk, hc, hd, hs, hz, r⟩
  · obtain ⟨z, its, n, r, e⟩ := h.ok I.hok
    exact ⟨its, r, ⟨_, n, e, rfl, rfl, rfl⟩, z⟩
  · refine ⟨its.toList, r, ⟨o, n, I.kIn a o hk, hc, hd, by simpa using hs⟩, ?_⟩
    have e := r.length
    simp only [Array.length_toList] at e
    omega
theorem Inv.tuple (I : Inv X pins σ H s) (h : SqT X.K H a xs) : ∃ its : List Value, Vals xs its ∧ IsTup s.heap a its.toArray ∧ xs.length ≤ sizeLine := by
  rcases h with h | ⟨o, its, n, hk, hc, hs, hz, r⟩
  · obtain ⟨z, its, r, p⟩ := h.ok I.hok
    exact ⟨its, r, p, z⟩
  · refine ⟨its.toList, r, ⟨o, I.kIn a o hk, hc, n, by simpa using hs⟩, ?_⟩
    have e := r.length
    simp only [Array.length_toList] at e
    omega
theorem Inv.list_inj (I : Inv X pins σ H s) (h : SqL X.K H a xs) (h' : SqL X.K H a ys) : xs = ys := by
  obtain ⟨its, r, ⟨o, n, e, _, _, d⟩, _⟩ := I.list h
  obtain ⟨its', r', ⟨o', n', e', _, _, d'⟩, _⟩ := I.list h'
  rw [e] at e'; cases e'
  rw [d] at d'
  injection d' with d1 _
  have : its = its' := by simpa using congrArg Array.toList d1
  subst this
  exact r.inj r'
theorem Inv.tuple_inj (I : Inv X pins σ H s) (h : SqT X.K H a xs) (h' : SqT X.K H a ys) : xs = ys := by
  obtain ⟨its, r, ⟨o, e, _, n, d⟩, _⟩ := I.tuple h
  obtain ⟨its', r', ⟨o', e', _, n', d'⟩, _⟩ := I.tuple h'
  rw [e] at e'; cases e'
  rw [d] at d'
  injection d' with d1 _
  have : its = its' := by simpa using congrArg Array.toList d1
  subst this
  exact r.inj r'
end
abbrev Cx.wish (X : Cx) (E : Value → Shared → Prop) : Cx := { X with xe := E }
abbrev Cx.nox (X : Cx) : Cx := X.wish fun _ _ => False
theorem Cx.Ok.wish {X : Cx} (ok : X.Ok) (E : Value → Shared → Prop) : (X.wish E).Ok :=
  ⟨ok.mod, ok.kind, ok.glob, ok.blt, ok.above, ok.inj, ok.has, ok.cab, ok.hd, ok.frames, ok.stk, ok.exf, ok.bs, ok.bsz, ok.noex, ok.exfs, ok.funs, ok.frf⟩
theorem Cx.Ok.unwish {X : Cx} {E : Value → Shared → Prop} (ok : (X.wish E).Ok) : X.Ok :=
  ⟨ok.mod, ok.kind, ok.glob, ok.blt, ok.above, ok.inj, ok.has, ok.cab, ok.hd, ok.frames, ok.stk, ok.exf, ok.bs, ok.bsz, ok.noex, ok.exfs, ok.funs, ok.frf⟩
section
variable {X : Cx} {pins : List (Addr × Obj)} {σ : St} {H : Hp} {s : Shared} {E : Value → Shared → Prop}
theorem Inv.wish (I : Inv X pins σ H s) (E : Value → Shared → Prop) : Inv (X.wish E) pins σ H s := ⟨I.ok.wish E, I.os, I.bare, I.base, I.loc, I.cell, I.free, I.freeC, I.pin, I.hok, I.len⟩
theorem Inv.unwish (I : Inv (X.wish E) pins σ H s) : Inv X pins σ H s := ⟨I.ok.unwish, I.os, I.bare, I.base, I.loc, I.cell, I.free, I.freeC, I.pin, I.hok, I.len⟩
theorem SP.unwish {D : Ends} {f : Flow} {s' : Shared} (h : SP (X.wish E) pins D f s') : SP X pins D f s' := by
  cases f with
  | next => obtain ⟨σ', H', I, q⟩ := h; exact ⟨σ', H', I.unwish, q⟩
  | brk => obtain ⟨σ', H', I, q⟩ := h; exact ⟨σ', H', I.unwish, q⟩
  | cont => obtain ⟨σ', H', I, q⟩ := h; exact ⟨σ', H', I.unwish, q⟩
  | ret u => obtain ⟨v, σ', H', I, r, q⟩ := h; exact ⟨v, σ', H', I.unwish, r, q⟩
theorem PSs.nox {st : List Stmt} {t : TS} (h : PSs X.nox st t) : PSs X st t := fun pins s σ H D I hw =>
  wpAny_mono (h pins s σ H D (I.wish _) hw) (fun _ _ q => q.unwish) fun _ _ z => False.elim z
end
section
variable {X : Cx} {st : Stmt} {rest : List Stmt} {t u : TS} {e : Expr} {te : TE} {pos : Pos}
def tNext : TS := fun D σ H => D.nx σ H
def tSeq (t u : TS) : TS := fun D σ H => t { D with nx := u D } σ H
theorem pss_nil : PSs X [] tNext := fun _ _ σ H _ I h => wpAny_execs_nil ⟨σ, H, I, h⟩
theorem pss_cons (h1 : PS X st t) (h2 : PSs X rest u) : PSs X (st :: rest) (tSeq t u) := by
  intro pins s σ H D I h
  refine wpAny_execs_cons (thn (h1 pins s σ H { D with nx := u D } I h) fun f s1 q => ?_)
  cases f with
  | next =>
    obtain ⟨σ', H', I', q⟩ := q
    exact h2 pins s1 σ' H' D I' q
  | ret v => exact q
  | brk => exact q
  | cont => exact q
theorem pss_one (h1 : PS X st t) : PSs X [st] t := by
  intro pins s σ H D I h
  refine wpAny_execs_cons (thn (h1 pins s σ H D I h) fun f s1 q => ?_)
  cases f with
  | next => exact wpAny_execs_nil q
  | ret v => exact q
  | brk => exact q
  | cont => exact q
theorem Inv.quiet {pins : List (Addr × Obj)} {σ : St} {H : Hp} {s : Shared} (I : Inv X pins σ H s) : interactive X.env = false := by simp [interactive, I.ok.kind]
def tDrop (te : TE) : TS := fun D σ H => te σ H fun _ H1 => D.nx σ H1
theorem ps_expr (he : PE X e te) (hs : swapsWith e none pos.line X.env = pure false := by rfl) : PS X (.Expr e pos) (tDrop te) := by
  intro pins s σ H D I h
  exact wpAny_Expr_any (thn (he pins s σ H _ I h) fun v s1 ⟨x, H1, I1, r1, q1⟩ => ⟨σ, H1, I1, q1⟩) I.quiet hs
def tRet (te : TE) : TS := fun D σ H => te σ H D.rt
theorem ps_ret (he : PE X e te) : PS X (.Return (some e) pos) (tRet te) := by
  intro pins s σ H D I h
  exact wpAny_Return_some (thn (he pins s σ H _ I h) fun v s1 ⟨x, H1, I1, r1, q1⟩ => ⟨x, σ, H1, I1, r1, q1⟩)
def tIfS (c : TT) (t u : TS) : TS := fun D σ H => c σ H fun b H1 => if b = true then t D σ H1 else u D σ H1
theorem ps_if {c : Expr} {a b : List Stmt} {tc : TT} (hc : PT X c tc) (ha : PSs X a t) (hb : PSs X b u) : PS X (.If c a b pos) (tIfS tc t u) := by
  intro pins s σ H D I h
  refine wpAny_If (thn (hc pins s σ H _ I h) fun d s1 ⟨H1, I1, q1⟩ => ?_)
  cases d with
  | true => exact ha pins s1 σ H1 D I1 q1
  | false => exact hb pins s1 σ H1 D I1 q1
end
abbrev TG := V → St → Hp → (St → Hp → Prop) → Prop
abbrev TGs := List V → St → Hp → (St → Hp → Prop) → Prop
def PG (X : Cx) (target : Expr) (t : TG) : Prop :=
  ∀ (pins : List (Addr × Obj)) (s : Shared) (σ : St) (H : Hp) (v : V) (u : Value) (Q : St → Hp → Prop), Inv X pins σ H s → RelV v u → t v σ H Q →
    wpAny (model X.prog X.w) X.A (assign target X.env u) (fun _ s' => ∃ σ' H', Inv X pins σ' H' s' ∧ Q σ' H') X.xe s
def PGs (X : Cx) (ts : List Expr) (t : TGs) : Prop :=
  ∀ (pins : List (Addr × Obj)) (s : Shared) (σ : St) (H : Hp) (vs : List V) (us : List Value) (Q : St → Hp → Prop), Inv X pins σ H s → Vals vs us → t vs σ H Q →
    wpAny (model X.prog X.w) X.A (assignInOrder ((assignEach ts X.env).map (·.2)) us) (fun _ s' => ∃ σ' H', Inv X pins σ' H' s' ∧ Q σ' H') X.xe s
abbrev TSet := V → V → V → Hp → (Hp → Prop) → Prop
def PSet (X : Cx) (t : TSet) : Prop :=
  ∀ (pins : List (Addr × Obj)) (s : Shared) (σ : St) (H : Hp) (o i v : V) (ov iv u : Value) (Q : Hp → Prop), Inv X pins σ H s → RelV o ov → RelV i iv → RelV v u → t o i v H Q →
    wpAny (model X.prog X.w) X.A (setItem ov iv u) (fun _ s' => ∃ H', Inv X pins σ H' s' ∧ Q H') X.xe s
abbrev TIp := V → V → Hp → VK → Prop
def PIp (X : Cx) (op : Operator) (t : TIp) : Prop :=
  ∀ (pins : List (Addr × Obj)) (s : Shared) (σ : St) (H : Hp) (x y : V) (v u : Value) (Q : VK), Inv X pins σ H s → RelV x v → RelV y u → t x y H Q →
    wpAny (model X.prog X.w) X.A (inplaceOp op v u) (EP X pins σ Q) X.xe s
section
variable {X : Cx} {pos : Pos}
def gName (i : Nat) : TG := fun v σ H Q => Q (σ.set i (some v)) H
theorem pg_name {i : Nat} {x : Str} (hN : X.N.Nodup) (hi : X.N[i]? = some x) (hx : Loc X.env.scope x) (hf : X.fn x = true ∨ X.env.scope.names.lookup x = some .local := by first | exact .inl rfl | exact .inr rfl | assumption) : PG X (.Name x pos) (gName i) := by
  intro pins s σ H v u Q I r h
  exact wpAny_assign_Name (store_ok I hN hi hx r (fun s' I' => ⟨_, H, I', h⟩) hf)
def gNil : TGs := fun vs σ H Q => vs = [] ∧ Q σ H
def gCons (t : TG) (u : TGs) : TGs := fun vs σ H Q => ∃ v r, vs = v :: r ∧ t v σ H fun σ' H' => u r σ' H' Q
theorem pgs_nil : PGs X [] gNil := by
  intro pins s σ H vs us Q I r h
  obtain ⟨e, h⟩ := h
  subst e
  cases r
  exact assignInOrder_nil ⟨σ, H, I, h⟩
theorem pgs_cons {e : Expr} {es : List Expr} {t : TG} {u : TGs} (h1 : PG X e t) (h2 : PGs X es u)
    (hs : (assignEach (e :: es) X.env).map (·.2) = assign e X.env :: (assignEach es X.env).map (·.2) := by rfl) : PGs X (e :: es) (gCons t u) := by
  intro pins s σ H vs us Q I r h
  obtain ⟨v, vr, e1, h⟩ := h
  subst e1
  cases r with
  | cons r rr =>
    rw [hs]
    refine assignInOrder_cons (thn (h1 pins s σ H _ _ _ I r h) fun _ s1 ⟨σ1, H1, I1, q1⟩ => ?_)
    exact h2 pins s1 σ1 H1 _ _ Q I1 rr q1
def gTup (K : PySem.W.Frag) (n : Nat) (t : TGs) : TG := fun v σ H Q => ∃ a xs, v = .ref a ∧ SqT K H a xs ∧ xs.length = n ∧ t xs σ H Q
theorem pg_tup {es : List Expr} {k : Nat} {t : TGs} {n : Nat} (hc : X.calm = true) (h : PGs X es t)
    (hn : (assignEach es X.env).length = n := by rfl) (hst : (assignEach es X.env).findIdx? (·.1) = none := by rfl) : PG X (.Tuple es k pos) (gTup X.K n t) := by
  intro pins s σ H v u Q I r hw
  obtain ⟨a, xs, e1, hq, hl, hw⟩ := hw
  subst e1
  cases r
  obtain ⟨its, rv, ht, hz⟩ := I.tuple hq
  refine assign_Tuple_tuple (I.ok.hd hc) ht (by simp [hn, ← hl, rv.length]) hst fun h' hx => ?_
  have I1 : Inv X pins σ H { s with heap := h' } := I.kept (t' := s.toks) fun b o e => hx b o (Nat.ne_of_lt (Heap.lt_size e)) e
  exact h pins _ σ H xs _ Q I1 (by simpa using rv) hw
def gSub (to ti : TE) (t : TSet) : TG := fun v σ H Q => to σ H fun o H1 => ti σ H1 fun i H2 => t o i v H2 fun H3 => Q σ H3
theorem pg_sub {o i : Expr} {to ti : TE} {t : TSet} (ho : PE X o to) (hi : PE X i ti) (hs : PSet X t)
    (ha : ∀ v, assign (.Subscript o i pos) X.env v = (do
      let ov ← holding [v] (eval o X.env)
      let iv ← holding [v, ov] (eval i X.env)
      standAt pos
      holding [v, ov, iv] (setItem ov iv v)
      release [v, ov, iv] []) := by intro _; rfl) : PG X (.Subscript o i pos) (gSub to ti t) := by
  intro pins s σ H v u Q I r h
  rw [ha]
  refine wpAny_bind (wpAny_holding (thn (ho pins s σ H _ I h) fun ov s1 ⟨x, H1, I1, r1, q1⟩ => ?_))
  refine wpAny_bind (wpAny_holding (thn (hi pins s1 σ H1 _ I1 q1) fun iv s2 ⟨y, H2, I2, r2, q2⟩ => ?_))
  refine wpAny_bind (wpAny_standAt (wpAny_bind (wpAny_holding (thn (hs pins s2 σ H2 x y v ov iv u _ I2 r1 r2 r q2) fun _ s3 ⟨H3, I3, q3⟩ => ?_))))
  exact wpAny_release ⟨σ, H3, I3, q3⟩
def tAsg (te : TE) (g : TG) : TS := fun D σ H => te σ H fun x H1 => g x σ H1 D.nx
theorem ps_asg {tg e : Expr} {te : TE} {g : TG} (he : PE X e te) (hg : PG X tg g) (hs : swapsWithSole [tg] e pos.line X.env = pure false := by rfl) (hw : swappedStores [tg] e X.env = pure none := by rfl)
    (h1 : (assignEach [tg] X.env).map (·.2) = [assign tg X.env] := by rfl) : PS X (.Assign [tg] e pos) (tAsg te g) := by
  intro pins s σ H D I h
  refine wpAny_Assign_stores (thn (he pins s σ H _ I h) fun v s1 ⟨x, H1, I1, r1, q1⟩ => ?_) hs hw
  rw [h1]
  exact thn (hg pins s1 σ H1 x v _ I1 r1 q1) fun _ s2 q => q
theorem ps_set {i : Nat} {x : Str} {e : Expr} {te : TE} {pos' : Pos} (hN : X.N.Nodup) (hi : X.N[i]? = some x) (hx : Loc X.env.scope x) (he : PE X e te) (hs : swapsWith e (some (.Name x pos')) pos.line X.env = pure false := by rfl) (hf : X.fn x = true ∨ X.env.scope.names.lookup x = some .local := by first | exact .inl rfl | exact .inr rfl | assumption) :
    PS X (.Assign [.Name x pos'] e pos) (tAsg te (gName i)) := by
  intro pins s σ H D I h
  refine wpAny_Assign_Name (thn (he pins s σ H _ I h) fun v s1 ⟨y, H1, I1, r1, q1⟩ => ?_) hs
  exact store_ok I1 hN hi hx r1 (fun s2 I2 => ⟨_, H1, I2, q1⟩) hf
def tAug (i : Nat) (te : TE) (ti : TIp) : TS := fun D σ H => ∃ x, σ[i]? = some (some x) ∧ te σ H fun y H1 => ti x y H1 fun z H2 => D.nx (σ.set i (some z)) H2
theorem ps_aug {i : Nat} {x : Str} {e : Expr} {te : TE} {op : Operator} {ti : TIp} {pos' : Pos} (hN : X.N.Nodup) (hi : X.N[i]? = some x) (hx : Loc X.env.scope x) (he : PE X e te) (ho : PIp X op ti) (hf : X.fn x = true ∨ X.env.scope.names.lookup x = some .local := by first | exact .inl rfl | exact .inr rfl | assumption) :
    PS X (.AugAssign (.Name x pos') op e pos) (tAug i te ti) := by
  intro pins s σ H D I h
  obtain ⟨v, e1, h⟩ := h
  obtain ⟨m, hn, hl⟩ := I.loc
  have vis : Vis X.env.scope x := by rcases hx with k | k; exact .inl k; exact .inr (.inl k)
  obtain ⟨u, r, l⟩ := hl i x v hi e1 vis
  refine wpAny_AugAssign_Name ?_
  have go : wpAny (model X.prog X.w) X.A (eval e X.env) (fun w s₂ => wpAny (model X.prog X.w) X.A (inplaceOp op u w) (fun r s₃ => wpAny (model X.prog X.w) X.A (storeName X.env x r) (fun _ => SP X pins D .next) X.xe s₃) X.xe s₂) X.xe s := by
    refine thn (he pins s σ H _ I h) fun w s1 ⟨y, H1, I1, r1, q1⟩ => ?_
    refine thn (ho pins s1 σ H1 v y u w _ I1 r r1 q1) fun z s2 ⟨zv, H2, I2, r2, q2⟩ => ?_
    exact store_ok I2 hN hi hx r2 (fun s3 I3 => ⟨_, H2, I3, q2⟩) hf
  rcases l with ⟨hk, hm⟩ | ⟨hk, c, hc, hcell⟩
  · exact wpAny_loadName_local I.ok.kind hk hn hm go
  · rcases hk with hk | hk
    · exact wpAny_loadName_cell I.ok.kind hk hc hcell go
    · rcases hx with k | k
      · have : X.env.scope.names.lookup x = some .free := hk
        rw [k] at this; cases this
      · have : X.env.scope.names.lookup x = some .free := hk
        rw [k] at this; cases this
def ipI (f : Int → Int → Int) : TIp := fun x y H Q => ∃ i j, x = .int i ∧ y = .int j ∧ Q (.int (f i j)) H
theorem ip_sub : PIp X .Sub (ipI fun i j => i - j) := by
  intro pins s σ H x y v u Q I r1 r2 h
  obtain ⟨i, j, e1, e2, q⟩ := h
  subst e1; subst e2
  obtain ⟨t, rfl⟩ := r1
  obtain ⟨t', rfl⟩ := r2
  exact isub_int ⟨.int _, H, I.tok _, ⟨_, rfl⟩, q⟩
end
section
variable {X : Cx} {pos : Pos}
def tWhile (c : TT) (tb : TS) : TS := fun D σ H => ∃ W : Nat → St → Hp → Prop, (∃ m, W m σ H) ∧ ∀ m σ H, W m σ H →
  c σ H fun b H1 => if b = true then ∃ N : St → Hp → Prop, (∀ σ' H', N σ' H' → ∃ m', m' < m ∧ W m' σ' H') ∧ tb { D with nx := N, ct := N, bk := D.nx } σ H1 else D.nx σ H1
theorem ps_while {c : Expr} {body : List Stmt} {tc : TT} {tb : TS} (hp : PassesOwn (model X.prog X.w) X.A X.env X.xe) (hc : PT X c tc) (hb : PSs X body tb) : PS X (.While c body [] pos) (tWhile tc tb) := by
  intro pins s σ H D I h
  obtain ⟨W, ⟨m0, w0⟩, turn⟩ := h
  refine wpAny_While (codeAny_whileLoop (fun n s' => ∃ σ' H', Inv X pins σ' H' s' ∧ W n σ' H') ?_ m0 ⟨σ, H, I, w0⟩)
  rintro n s1 ⟨σ1, H1, I1, w1⟩
  refine wpAny_passesOwn hp (thn (hc pins s1 σ1 H1 _ I1 (turn n σ1 H1 w1)) fun b s2 ⟨H2, I2, q2⟩ => ?_)
  cases b with
  | true =>
    obtain ⟨N, hN, q2⟩ := q2
    rw [if_pos rfl]
    refine wpAny_passesOwn hp (thn (hb pins s2 σ1 H2 _ I2 q2) fun f s3 q3 => ?_)
    cases f with
    | next =>
      obtain ⟨σ3, H3, I3, n3⟩ := q3
      obtain ⟨m', hm, w3⟩ := hN σ3 H3 n3
      exact ⟨m', hm, σ3, H3, I3, w3⟩
    | cont =>
      obtain ⟨σ3, H3, I3, n3⟩ := q3
      obtain ⟨m', hm, w3⟩ := hN σ3 H3 n3
      exact ⟨m', hm, σ3, H3, I3, w3⟩
    | brk => exact q3
    | ret v => exact q3
  | false =>
    rw [if_neg Bool.false_ne_true]
    exact wpAny_execs_nil ⟨σ1, H2, I2, q2⟩
end
structure It where
  go : Nat → Hp → Prop
  yld : Nat → Hp → V → Hp → Prop
  stop : Nat → Hp → Prop
def FpOk (X : Cx) (pins : List (Addr × Obj)) (H : Hp) (b : Addr) : Prop :=
  H b = none ∧ b ≠ X.env.locals ∧ b ∉ X.fs ∧ (b ∈ X.ex ∨ X.sZ.heap.objs.size ≤ b) ∧ (∀ x c, X.env.cells.lookup x = some c → c ≠ b) ∧ ∀ p ∈ X.pn ++ pins, p.1 ≠ b
theorem Inv.fpOk {X : Cx} {pins : List (Addr × Obj)} {σ : St} {H H' : Hp} {s : Shared} {b : Addr} (I : Inv X pins σ H s) (hb : s.heap.objs.size ≤ b) (hn : H' b = none) : FpOk X pins H' b := by
  refine ⟨hn, Nat.ne_of_gt (Nat.lt_of_lt_of_le I.lt hb), I.nofs hb, .inr (Nat.le_trans I.sz hb), fun x c e z => ?_, fun p hp z => ?_⟩
  · obtain ⟨v, q⟩ := I.cell x c e
    exact absurd (Nat.lt_of_lt_of_le q.lt (by rw [z]; exact hb)) (Nat.lt_irrefl _)
  · exact absurd (Nat.lt_of_lt_of_le (Heap.lt_size (I.pin p hp).1) (by rw [z]; exact hb)) (Nat.lt_irrefl _)
structure Turn (P : Program) (w : World) (K : PySem.W.Frag) (tg : Expr) (J : It) (fp : List Addr) (it : Addr) (tn : Nat → Heap → Prop) : Prop where
  mem : it ∈ fp
  obj : ∀ i h, tn i h → ∀ b ∈ fp, ∃ o, h.get? b = some o ∧ ∀ v, o.data ≠ .cell v
  keep : ∀ i h h', tn i h → (∀ b ∈ fp, ∀ o, h.get? b = some o → h'.get? b = some o) → tn i h'
  item : ∀ (X : Cx), X.prog = P → X.w = w → X.K = K → X.calm = true → ∀ (i : Nat) (pins : List (Addr × Obj)) (s : Shared) (σ : St) (H : Hp) (E : Value → Shared → Prop), Inv X pins σ H s → (∀ b ∈ fp, FpOk X pins H b) → tn i s.heap → J.go i H →
    wpAny (model P w) X.A (pyNext (.ref it)) (fun r s1 => ∃ u, r = some u ∧
      wpAny (model P w) X.A (letOwnedTupleGo tg (.ref it) u) (fun _ s2 => ∃ x H', Inv X pins σ H' s2 ∧ RelV x u ∧ J.yld i H x H' ∧ tn (i + 1) s2.heap ∧ ∀ b ∈ fp, H' b = none) E s1) E s
  done : ∀ (X : Cx), X.prog = P → X.w = w → X.K = K → X.calm = true → ∀ (i : Nat) (pins : List (Addr × Obj)) (s : Shared) (σ : St) (H : Hp) (E : Value → Shared → Prop), Inv X pins σ H s → (∀ b ∈ fp, FpOk X pins H b) → tn i s.heap → J.stop i H →
    wpAny (model P w) X.A (pyNext (.ref it)) (fun r s1 => r = none ∧ Inv X pins σ H s1) E s
  self : ∀ (A : Around) (i : Nat) (s : Shared) (Q : Value → Shared → Prop) (E : Value → Shared → Prop), tn i s.heap → Q (.ref it) s → wpAny (model P w) A (pyIter (.ref it)) Q E s
abbrev TI := St → Hp → (It → Hp → Prop) → Prop
def PIE (X : Cx) (pins : List (Addr × Obj)) (σ : St) (tg : Expr) (R : It → Hp → Prop) (itv : Value) (s2 : Shared) : Prop :=
  ∃ (it : Addr) (fp : List Addr) (tn : Nat → Heap → Prop) (J : It) (H' : Hp), itv = .ref it ∧ Inv X pins σ H' s2 ∧ Turn X.prog X.w X.K tg J fp it tn ∧ tn 0 s2.heap ∧ (∀ b ∈ fp, FpOk X pins H' b) ∧ R J H'
def PI (X : Cx) (tg iter : Expr) (wi : TI) : Prop :=
  ∀ (pins : List (Addr × Obj)) (s : Shared) (σ : St) (H : Hp) (R : It → Hp → Prop), Inv X pins σ H s → wi σ H R →
    wpAny (model X.prog X.w) X.A (eval iter X.env) (fun v s1 => wpAny (model X.prog X.w) X.A (pyIter v) (PIE X pins σ tg R) X.xe s1) X.xe s
theorem go_of {M : Model} {A : Around} {E : Value → Shared → Prop} {s : Shared} {tg : Expr} {it : Addr} {u : Value} {o : Obj} {n : String} {vs : Array Value} {Q : Unit → Shared → Prop} (ho : s.heap.get? it = some o) (hc : o.cls = .type n) (hd : o.data = .fields vs)
    (hn : ["enumerate", "zip", "dict_itemiterator", "dict_reverseitemiterator", "odict_iterator", "itertools.zip_longest", "itertools.pairwise"].contains n = false) (hQ : Q () s) : wpAny M A (letOwnedTupleGo tg (.ref it) u) Q E s := by
  unfold letOwnedTupleGo
  cases tg <;> first
    | exact wpAny_pure hQ
    | (cases u <;> first
        | exact wpAny_pure hQ
        | (refine wpAny_bind (wpAny_load ho ?_)
           rw [hc, hd]
           show wpAny M A (if (["enumerate", "zip", "dict_itemiterator", "dict_reverseitemiterator", "odict_iterator", "itertools.zip_longest", "itertools.pairwise"].contains n && vs[0]? == some (rawInt _)) = true then _ else _) Q E s
           rw [if_neg (by intro h; rw [hn, Bool.false_and] at h; cases h)]
           exact wpAny_pure hQ))
def Itl (K : PySem.W.Frag) (a : Addr) : It :=
  ⟨fun i H => ∃ xs x, SqL K H a xs ∧ xs[i]? = some x, fun i H x H' => H' = H ∧ ∀ xs, SqL K H a xs → xs[i]? = some x, fun i H => ∃ xs, SqL K H a xs ∧ xs.length ≤ i⟩
def Itt (K : PySem.W.Frag) (a : Addr) : It :=
  ⟨fun i H => ∃ xs x, SqT K H a xs ∧ xs[i]? = some x, fun i H x H' => H' = H ∧ ∀ xs, SqT K H a xs → xs[i]? = some x, fun i H => ∃ xs, SqT K H a xs ∧ xs.length ≤ i⟩
def Itr (lo : Int) (n : Nat) : It := ⟨fun i _ => i < n, fun i H x H' => H' = H ∧ x = .int (lo + i), fun i _ => n ≤ i⟩
theorem turn_list {P : Program} {w : World} {K : PySem.W.Frag} {tg : Expr} (a it : Addr) : Turn P w K tg (Itl K a) [it] it (fun i h => h.IsListIter it a i) where
  mem := by simp
  obj := fun i h st b hb => by
    have e : b = it := by simpa using hb
    subst e
    obtain ⟨o, e, c, d⟩ := st
    exact ⟨o, e, fun v z => by rw [d] at z; cases z⟩
  keep := fun i h h' st k => st.at fun o e => k it (by simp) o e
  item := by
    intro X hP hw hK hc i pins s σ H E I hf st hg
    subst hP hw hK
    obtain ⟨xs, x, hq, hx⟩ := hg
    obtain ⟨its, rv, p, hz⟩ := I.list hq
    obtain ⟨u, hu, ru⟩ := rv.get hx
    obtain ⟨f0, f1, f2, f3, f4, f5⟩ := hf it (by simp)
    refine wpAny_pyNext_list_item st p.isList (x := u) (by simpa using hu) fun h' st' sb => ?_
    have I1 : Inv X pins σ H { s with heap := h' } := I.turned (t' := s.toks) (fun b o hb e => (sb.2 b hb).trans e) f0 f1 f3 f4 f5
    obtain ⟨o, e, c, d⟩ := id st'
    exact ⟨u, rfl, go_of (s := { s with heap := h' }) e c d (by decide) ⟨x, H, I1, ru, ⟨rfl, fun ys hy => by rw [I.list_inj hy hq]; exact hx⟩, st', fun b hb => (hf b hb).1⟩⟩
  done := by
    intro X hP hw hK hc i pins s σ H E I hf st hg
    subst hP hw hK
    obtain ⟨xs, hq, hx⟩ := hg
    obtain ⟨its, rv, p, hz⟩ := I.list hq
    obtain ⟨f0, f1, f2, f3, f4, f5⟩ := hf it (by simp)
    have hl := rv.length
    exact wpAny_pyNext_list_end (I.ok.hd hc) st p.isList (by simp; omega) fun h' eb => ⟨rfl, I.turned (t' := s.toks) (fun b o hb e => eb b o hb e) f0 f1 f3 f4 f5⟩
  self := fun _ _ _ _ _ st h => wpAny_pyIter_listiter st h
theorem turn_tuple {P : Program} {w : World} {K : PySem.W.Frag} {tg : Expr} (a it : Addr) : Turn P w K tg (Itt K a) [it] it (fun i h => h.IsTupleIter it a i) where
  mem := by simp
  obj := fun i h st b hb => by
    have e : b = it := by simpa using hb
    subst e
    obtain ⟨o, e, c, d⟩ := st
    exact ⟨o, e, fun v z => by rw [d] at z; cases z⟩
  keep := fun i h h' st k => st.at fun o e => k it (by simp) o e
  item := by
    intro X hP hw hK hc i pins s σ H E I hf st hg
    subst hP hw hK
    obtain ⟨xs, x, hq, hx⟩ := hg
    obtain ⟨its, rv, p, hz⟩ := I.tuple hq
    obtain ⟨u, hu, ru⟩ := rv.get hx
    obtain ⟨f0, f1, f2, f3, f4, f5⟩ := hf it (by simp)
    refine wpAny_pyNext_tuple_item st (show s.heap.IsTuple a its.toArray from p) (x := u) (by simpa using hu) fun h' st' sb => ?_
    have I1 : Inv X pins σ H { s with heap := h' } := I.turned (t' := s.toks) (fun b o hb e => (sb.2 b hb).trans e) f0 f1 f3 f4 f5
    obtain ⟨o, e, c, d⟩ := id st'
    exact ⟨u, rfl, go_of (s := { s with heap := h' }) e c d (by decide) ⟨x, H, I1, ru, ⟨rfl, fun ys hy => by rw [I.tuple_inj hy hq]; exact hx⟩, st', fun b hb => (hf b hb).1⟩⟩
  done := by
    intro X hP hw hK hc i pins s σ H E I hf st hg
    subst hP hw hK
    obtain ⟨xs, hq, hx⟩ := hg
    obtain ⟨its, rv, p, hz⟩ := I.tuple hq
    obtain ⟨f0, f1, f2, f3, f4, f5⟩ := hf it (by simp)
    have hl := rv.length
    exact wpAny_pyNext_tuple_end (I.ok.hd hc) st (show s.heap.IsTuple a its.toArray from p) (by simp; omega) fun h' eb => ⟨rfl, I.turned (t' := s.toks) (fun b o hb e => eb b o hb e) f0 f1 f3 f4 f5⟩
  self := fun _ _ _ _ _ st h => wpAny_pyIter_tupleiter st h
theorem turn_range {P : Program} {w : World} {K : PySem.W.Frag} {tg : Expr} (it : Addr) (lo : Int) (n : Nat) : Turn P w K tg (Itr lo n) [it] it (fun i h => IsRangeIter h it (lo + (i : Nat) * 1) ((n : Int) - (i : Nat)) 1) where
  mem := by simp
  obj := fun i h st b hb => by
    have e : b = it := by simpa using hb
    subst e
    exact ⟨_, st, fun v z => by
      have z' : Data.fields _ = Data.cell v := z
      cases z'⟩
  keep := fun i h h' st k => k it (by simp) _ st
  item := by
    intro X hP hw hK hc i pins s σ H E I hf st hg
    subst hP hw hK
    obtain ⟨f0, f1, f2, f3, f4, f5⟩ := hf it (by simp)
    have W := Walks.range (prog := X.prog) (w := X.w) (I.ok.hd hc) it lo 1 n
    refine W.item i s _ _ hg st fun v h' tk hv st' kk => ?_
    obtain ⟨t, rfl⟩ := hv
    have I1 : Inv X pins σ H { s with heap := h', toks := tk } := I.turned (fun b o hb e => kk b o (by simpa using hb) e) f0 f1 f3 f4 f5
    refine ⟨_, rfl, go_of (s := { s with heap := h', toks := tk }) (n := "range_iterator") st' rfl rfl (by decide) ⟨.int (lo + i), H, I1, ⟨t, ?_⟩, ⟨rfl, rfl⟩, st', fun b hb => (hf b hb).1⟩⟩
    rw [Int.mul_one]
  done := by
    intro X hP hw hK hc i pins s σ H E I hf st hg
    subst hP hw hK
    obtain ⟨f0, f1, f2, f3, f4, f5⟩ := hf it (by simp)
    exact wpAny_pyNext_range_end (I.ok.hd hc) st (by have : n ≤ i := hg; omega) fun h' eb => ⟨rfl, I.turned (t' := s.toks) (fun b o hb e => eb b o hb e) f0 f1 f3 f4 f5⟩
  self := fun _ _ _ _ _ st h => wpAny_pyIter_rangeiter st h
end L2
namespace L2
open PySem PySem.Spec PyProof.Rows
section
variable {X : Cx} {tg : Expr}
def iList (K : PySem.W.Frag) (tl : TE) : TI := fun σ H R => tl σ H fun x H1 => ∃ a, x = .ref a ∧ (∃ xs, SqL K H1 a xs) ∧ R (Itl K a) H1
def iTup (K : PySem.W.Frag) (tl : TE) : TI := fun σ H R => tl σ H fun x H1 => ∃ a, x = .ref a ∧ (∃ xs, SqT K H1 a xs) ∧ R (Itt K a) H1
theorem pi_list {l : Expr} {tl : TE} (hl : PE X l tl) : PI X tg l (iList X.K tl) := by
  intro pins s σ H R I h
  refine thn (hl pins s σ H _ I h) fun v s1 ⟨x, H1, I1, r1, q1⟩ => ?_
  obtain ⟨a, e, ⟨xs, hq⟩, q⟩ := q1
  subst e
  cases r1
  obtain ⟨its, rv, p, hz⟩ := I1.list hq
  refine wpAny_pyIter_list p.isList ?_
  refine ⟨s1.heap.objs.size, [s1.heap.objs.size], _, _, H1, rfl, I1.kept (t' := s1.toks) fun b o e => Heap.get?_push_of_some _ e, turn_list a _, ⟨_, Heap.get?_push_size _ rfl, rfl, rfl⟩, fun b hb => ?_, q⟩
  have e : b = s1.heap.objs.size := by simpa using hb
  subst e
  exact I1.fpOk (Nat.le_refl _) (I1.hok.fresh (Nat.le_refl _))
theorem pi_tup {l : Expr} {tl : TE} (hl : PE X l tl) : PI X tg l (iTup X.K tl) := by
  intro pins s σ H R I h
  refine thn (hl pins s σ H _ I h) fun v s1 ⟨x, H1, I1, r1, q1⟩ => ?_
  obtain ⟨a, e, ⟨xs, hq⟩, q⟩ := q1
  subst e
  cases r1
  obtain ⟨its, rv, p, hz⟩ := I1.tuple hq
  refine wpAny_pyIter_tuple (show s1.heap.IsTuple a its.toArray from p) ?_
  refine ⟨s1.heap.objs.size, [s1.heap.objs.size], _, _, H1, rfl, I1.kept (t' := s1.toks) fun b o e => Heap.get?_push_of_some _ e, turn_tuple a _, ⟨_, Heap.get?_push_size _ rfl, rfl, rfl⟩, fun b hb => ?_, q⟩
  have e : b = s1.heap.objs.size := by simpa using hb
  subst e
  exact I1.fpOk (Nat.le_refl _) (I1.hok.fresh (Nat.le_refl _))
theorem range_it {pins : List (Addr × Obj)} {σ : St} {H : Hp} {s : Shared} {R : It → Hp → Prop} {E : Value → Shared → Prop} {lo hi : Int} {t u v : Tok} {tk : Nat} (I : Inv X pins σ H s) (h1 : -(2 ^ 62) ≤ lo) (h2 : lo < 2 ^ 62) (h3 : -(2 ^ 62) ≤ hi) (h4 : hi < 2 ^ 62)
    (q : R (Itr lo (hi - lo).toNat) H) : wpAny (model X.prog X.w) X.A (pyIter (.ref s.heap.objs.size)) (PIE X pins σ tg R) E { s with heap := s.heap.push { cls := .type "range", data := .fields #[.int lo t, .int hi u, .int 1 v] }, toks := tk } := by
  refine wpAny_pyIter_range (IsRange.new ..) (small_one h1 h2 h3 h4) ?_
  have I1 : Inv X pins σ H { s with heap := s.heap.push { cls := .type "range", data := .fields #[.int lo t, .int hi u, .int 1 v] }, toks := tk } := I.kept fun b o e => Heap.get?_push_of_some _ e
  refine ⟨(s.heap.push { cls := .type "range", data := .fields #[.int lo t, .int hi u, .int 1 v] }).objs.size, [(s.heap.push { cls := .type "range", data := .fields #[.int lo t, .int hi u, .int 1 v] }).objs.size], _, _, H, rfl,
    I1.kept (t' := tk) fun b o e => Heap.get?_push_of_some _ e, turn_range _ lo (hi - lo).toNat, ?_, fun b hb => ?_, q⟩
  · have e1 : lo + ((0 : Nat) : Int) * 1 = lo := by simp
    have e2 : (((hi - lo).toNat : Nat) : Int) - ((0 : Nat) : Int) = Builtin.Range.rangeSize lo hi 1 := by rw [rangeSize_one]; split <;> omega
    show IsRangeIter _ _ (lo + ((0 : Nat) : Int) * 1) ((((hi - lo).toNat : Nat) : Int) - ((0 : Nat) : Int)) 1
    rw [e1, e2]
    exact Heap.get?_push_size _ rfl
  · have e : b = (s.heap.push { cls := .type "range", data := .fields #[.int lo t, .int hi u, .int 1 v] }).objs.size := by simpa using hb
    subst e
    exact I1.fpOk (Nat.le_refl _) (I1.hok.fresh (Nat.le_refl _))
def iRng1 (ta : TA) : TI := fun σ H R => ta σ H fun vs H1 => ∃ j : Int, vs = [.int j] ∧ -(2 ^ 62) ≤ j ∧ j < 2 ^ 62 ∧ R (Itr 0 j.toNat) H1
theorem pi_range1 {a : Expr} {ta : TA} {p pos : Pos} (hg : Gl X "range") (hm : X.mg "range" = none) (ha : PA X [a] ta) (hs : starEach [a] X.env = [(false, eval a X.env)] := by rfl) : PI X tg (.Call (.Name "range" p) [a] [] pos) (iRng1 ta) := by
  intro pins s σ H R I h
  refine Call_ (ld_blt I hg hm boot_range (PyProof.Rows.callWith_type1 (thn (ha pos pins s σ H _ I h) fun us s1 ⟨vs, H1, I1, r1, q1⟩ => ?_) hs rfl))
  obtain ⟨j, e, q1, q2, q⟩ := q1
  subst e
  cases r1 with
  | cons r rr =>
    cases rr
    obtain ⟨t, rfl⟩ := r
    exact call_range_1 (range_it I1 (by omega) (by omega) q1 q2 (by simpa using q))
def tFor (wi : TI) (g : TG) (tb : TS) : TS := fun D σ H => wi σ H fun J H1 => ∃ W : Nat → Nat → St → Hp → Prop, (∃ m, W 0 m σ H1) ∧ ∀ i m σ H, W i m σ H →
  (J.stop i H ∧ D.nx σ H) ∨ (J.go i H ∧ ∃ N : St → Hp → Prop, (∀ σ' H', N σ' H' → ∃ m', m' < m ∧ W (i + 1) m' σ' H') ∧ ∀ x H', J.yld i H x H' → g x σ H' fun σ2 H2 => tb { D with nx := N, ct := N, bk := D.nx } σ2 H2)
def pinsAt (fp : List Addr) (h : Heap) : List (Addr × Obj) := fp.filterMap fun b => (h.get? b).map fun o => (b, o)
theorem mem_pinsAt {fp : List Addr} {h : Heap} {b : Addr} {o : Obj} (hb : b ∈ fp) (e : h.get? b = some o) : (b, o) ∈ pinsAt fp h := List.mem_filterMap.mpr ⟨b, hb, by rw [e]; rfl⟩
theorem of_pinsAt {fp : List Addr} {h : Heap} {p : Addr × Obj} (hp : p ∈ pinsAt fp h) : p.1 ∈ fp ∧ h.get? p.1 = some p.2 := by
  obtain ⟨b, hb, e⟩ := List.mem_filterMap.mp hp
  cases q : h.get? b with
  | none => rw [q] at e; cases e
  | some o =>
    rw [q] at e
    have e' : (b, o) = p := Option.some.inj e
    subst e'
    exact ⟨hb, q⟩
theorem Inv.pinned {pins : List (Addr × Obj)} {σ : St} {H : Hp} {s : Shared} {fp : List Addr} (I : Inv X pins σ H s) (hf : ∀ b ∈ fp, FpOk X pins H b) (ho : ∀ b ∈ fp, ∃ o, s.heap.get? b = some o ∧ ∀ v, o.data ≠ .cell v) : Inv X (pins ++ pinsAt fp s.heap) σ H s :=
  I.pins_of fun p hp => (List.mem_append.mp hp).elim (fun z => I.pin p (List.mem_append_right _ z)) fun z => by
    obtain ⟨hb, e⟩ := of_pinsAt z
    obtain ⟨f0, f1, f2, _⟩ := hf p.1 hb
    obtain ⟨o, e', d⟩ := ho p.1 hb
    rw [e] at e'; cases e'
    exact ⟨e, f0, f1, f2, d⟩
theorem Inv.unpinned {pins pl : List (Addr × Obj)} {σ : St} {H : Hp} {s : Shared} (I : Inv X (pins ++ pl) σ H s) : Inv X pins σ H s := I.pins_of fun p hp => I.pin p (List.mem_append_right _ (List.mem_append_left _ hp))
theorem ps_for {iter : Expr} {body : List Stmt} {wi : TI} {g : TG} {tb : TS} {pos : Pos} (hp : PassesOwn (model X.prog X.w) X.A X.env X.xe) (hc : X.calm = true) (hi : PI X tg iter wi) (hg : PG X tg g) (hb : PSs X body tb)
    (hs : ∀ x, foldedSetIterable iter X.env x = pure x := by intro _; rfl) : PS X (.For tg iter body [] pos) (tFor wi g tb) := by
  intro pins s σ H D I h
  refine wpAny_For (thn (hi pins s σ H _ I h) fun v s1 h1 => thn h1 fun itv s2 h2 => ?_) hs
  obtain ⟨it, fp, tn, J, H2, e, I2, T, st2, f2, W, ⟨m0, w0⟩, turn⟩ := h2
  subst e
  have stat : ∀ {H' : Hp}, (∀ b ∈ fp, H' b = none) → ∀ b ∈ fp, FpOk X pins H' b := fun hn b hb => ⟨hn b hb, (f2 b hb).2⟩
  refine codeAny_forLoop_any (fun n s' => ∃ i σ' H', Inv X pins σ' H' s' ∧ tn i s'.heap ∧ (∀ b ∈ fp, H' b = none) ∧ W i n σ' H') ?_ m0 ⟨0, σ, H2, I2, st2, fun b hb => (f2 b hb).1, w0⟩
  rintro n s3 ⟨i, σ3, H3, I3, st3, fr3, w3⟩
  rcases turn i n σ3 H3 w3 with ⟨stop, qn⟩ | ⟨go, N, hN, step⟩
  · refine wpAny_passesOwn hp (thn (T.done X rfl rfl rfl hc i pins s3 σ3 H3 X.xe I3 (stat fr3) st3 stop) fun r s4 ⟨hr, I4⟩ => ?_)
    subst hr
    exact wpAny_execs_nil ⟨σ3, H3, I4, qn⟩
  · refine wpAny_passesOwn hp (thn (T.item X rfl rfl rfl hc i pins s3 σ3 H3 X.xe I3 (stat fr3) st3 go) fun r s4 ⟨u, hr, h4⟩ => ?_)
    subst hr
    refine wpAny_passesOwn hp (thn h4 fun _ s5 ⟨x, H5, I5, r5, y5, st5, fr5⟩ => ?_)
    have I5' := I5.pinned (stat fr5) (T.obj _ _ st5)
    refine wpAny_passesOwn hp (thn (hg _ s5 σ3 H5 x u _ I5' r5 (step x H5 y5)) fun _ s6 ⟨σ6, H6, I6, q6⟩ => ?_)
    refine wpAny_passesOwn hp (thn (hb _ s6 σ6 H6 _ I6 q6) fun f s7 q7 => ?_)
    have again : ∀ {σ7 : St} {H7 : Hp}, Inv X (pins ++ pinsAt fp s5.heap) σ7 H7 s7 → N σ7 H7 → ∃ m, m < n ∧ ∃ i σ' H', Inv X pins σ' H' s7 ∧ tn i s7.heap ∧ (∀ b ∈ fp, H' b = none) ∧ W i m σ' H' := fun {σ7 H7} I7 n7 => by
      obtain ⟨m', hm, w7⟩ := hN σ7 H7 n7
      refine ⟨m', hm, i + 1, σ7, H7, I7.unpinned, T.keep _ _ _ st5 fun b hb o e => (I7.pin (b, o) (List.mem_append_right _ (List.mem_append_right _ (mem_pinsAt hb e)))).1, fun b hb => ?_, w7⟩
      obtain ⟨o, e, d⟩ := T.obj _ _ st5 b hb
      exact (I7.pin (b, o) (List.mem_append_right _ (List.mem_append_right _ (mem_pinsAt hb e)))).2.1
    cases f with
    | next => obtain ⟨σ7, H7, I7, n7⟩ := q7; exact again I7 n7
    | cont => obtain ⟨σ7, H7, I7, n7⟩ := q7; exact again I7 n7
    | brk => obtain ⟨σ7, H7, I7, q7⟩ := q7; exact ⟨σ7, H7, I7.unpinned, q7⟩
    | ret v => obtain ⟨x7, σ7, H7, I7, r7, q7⟩ := q7; exact ⟨x7, σ7, H7, I7.unpinned, r7, q7⟩
end
theorem for_list {K : PySem.W.Frag} {a : Addr} {xs : List V} {g : TG} {tb : TS} {D : Ends} {σ : St} {H : Hp} (Pv : Nat → St → Hp → Prop) (h0 : Pv 0 σ H) (hl : ∀ i σ H, i ≤ xs.length → Pv i σ H → SqL K H a xs)
    (hs : ∀ i x σ H, xs[i]? = some x → Pv i σ H → g x σ H fun σ2 H2 => tb { D with nx := Pv (i + 1), ct := Pv (i + 1), bk := D.nx } σ2 H2) (hd : ∀ σ H, Pv xs.length σ H → D.nx σ H) :
    ∃ W : Nat → Nat → St → Hp → Prop, (∃ m, W 0 m σ H) ∧ ∀ i m σ H, W i m σ H →
      ((Itl K a).stop i H ∧ D.nx σ H) ∨ ((Itl K a).go i H ∧ ∃ N : St → Hp → Prop, (∀ σ' H', N σ' H' → ∃ m', m' < m ∧ W (i + 1) m' σ' H') ∧ ∀ x H', (Itl K a).yld i H x H' → g x σ H' fun σ2 H2 => tb { D with nx := N, ct := N, bk := D.nx } σ2 H2) := by
  refine ⟨fun i m σ H => m = xs.length - i ∧ i ≤ xs.length ∧ Pv i σ H, ⟨xs.length, by simp, Nat.zero_le _, h0⟩, ?_⟩
  rintro i m σ H ⟨rfl, hi, p⟩
  have q := hl i σ H hi p
  by_cases hlt : i < xs.length
  · refine .inr ⟨⟨xs, xs[i], q, by simp [hlt]⟩, Pv (i + 1), fun σ' H' p' => ⟨xs.length - (i + 1), by omega, rfl, hlt, p'⟩, fun x H' y => ?_⟩
    obtain ⟨e, y⟩ := y
    subst e
    exact hs i x σ _ (y xs q) p
  · have e : i = xs.length := by omega
    subst e
    exact .inl ⟨⟨xs, q, Nat.le_refl _⟩, hd σ H p⟩
theorem for_tup {K : PySem.W.Frag} {a : Addr} {xs : List V} {g : TG} {tb : TS} {D : Ends} {σ : St} {H : Hp} (Pv : Nat → St → Hp → Prop) (h0 : Pv 0 σ H) (hl : ∀ i σ H, i ≤ xs.length → Pv i σ H → SqT K H a xs)
    (hs : ∀ i x σ H, xs[i]? = some x → Pv i σ H → g x σ H fun σ2 H2 => tb { D with nx := Pv (i + 1), ct := Pv (i + 1), bk := D.nx } σ2 H2) (hd : ∀ σ H, Pv xs.length σ H → D.nx σ H) :
    ∃ W : Nat → Nat → St → Hp → Prop, (∃ m, W 0 m σ H) ∧ ∀ i m σ H, W i m σ H →
      ((Itt K a).stop i H ∧ D.nx σ H) ∨ ((Itt K a).go i H ∧ ∃ N : St → Hp → Prop, (∀ σ' H', N σ' H' → ∃ m', m' < m ∧ W (i + 1) m' σ' H') ∧ ∀ x H', (Itt K a).yld i H x H' → g x σ H' fun σ2 H2 => tb { D with nx := N, ct := N, bk := D.nx } σ2 H2) := by
  refine ⟨fun i m σ H => m = xs.length - i ∧ i ≤ xs.length ∧ Pv i σ H, ⟨xs.length, by simp, Nat.zero_le _, h0⟩, ?_⟩
  rintro i m σ H ⟨rfl, hi, p⟩
  have q := hl i σ H hi p
  by_cases hlt : i < xs.length
  · refine .inr ⟨⟨xs, xs[i], q, by simp [hlt]⟩, Pv (i + 1), fun σ' H' p' => ⟨xs.length - (i + 1), by omega, rfl, hlt, p'⟩, fun x H' y => ?_⟩
    obtain ⟨e, y⟩ := y
    subst e
    exact hs i x σ _ (y xs q) p
  · have e : i = xs.length := by omega
    subst e
    exact .inl ⟨⟨xs, q, Nat.le_refl _⟩, hd σ H p⟩
theorem for_range {lo : Int} {n : Nat} {g : TG} {tb : TS} {D : Ends} {σ : St} {H : Hp} (Pv : Nat → St → Hp → Prop) (h0 : Pv 0 σ H)
    (hs : ∀ i σ H, i < n → Pv i σ H → g (.int (lo + i)) σ H fun σ2 H2 => tb { D with nx := Pv (i + 1), ct := Pv (i + 1), bk := D.nx } σ2 H2) (hd : ∀ σ H, Pv n σ H → D.nx σ H) :
    ∃ W : Nat → Nat → St → Hp → Prop, (∃ m, W 0 m σ H) ∧ ∀ i m σ H, W i m σ H →
      ((Itr lo n).stop i H ∧ D.nx σ H) ∨ ((Itr lo n).go i H ∧ ∃ N : St → Hp → Prop, (∀ σ' H', N σ' H' → ∃ m', m' < m ∧ W (i + 1) m' σ' H') ∧ ∀ x H', (Itr lo n).yld i H x H' → g x σ H' fun σ2 H2 => tb { D with nx := N, ct := N, bk := D.nx } σ2 H2) := by
  refine ⟨fun i m σ H => m = n - i ∧ i ≤ n ∧ Pv i σ H, ⟨n, by simp, Nat.zero_le _, h0⟩, ?_⟩
  rintro i m σ H ⟨rfl, hi, p⟩
  by_cases hlt : i < n
  · refine .inr ⟨hlt, Pv (i + 1), fun σ' H' p' => ⟨n - (i + 1), by omega, rfl, hlt, p'⟩, fun x H' y => ?_⟩
    obtain ⟨e, y⟩ := y
    subst e y
    exact hs i σ _ hlt p
  · have e : i = n := by omega
    subst e
    exact .inl ⟨Nat.le_refl _, hd σ H p⟩
end L2
namespace L2
open PySem PySem.Spec PyProof.Rows
abbrev R2 := V → V → Hp → VK → Prop
def OpR (X : Cx) (f : Value → Value → Sem Value) (r : R2) : Prop :=
  ∀ (pins : List (Addr × Obj)) (s : Shared) (σ : St) (H : Hp) (x y : V) (v u : Value) (Q : VK), Inv X pins σ H s → RelV x v → RelV y u → r x y H Q →
    wpAny (model X.prog X.w) X.A (f v u) (EP X pins σ Q) X.xe s
def CallR (X : Cx) (f : Value) (r : List V → Hp → VK → Prop) : Prop :=
  ∀ (pins : List (Addr × Obj)) (s : Shared) (σ : St) (H : Hp) (xs : List V) (us : List Value) (Q : VK), Inv X pins σ H s → Vals xs us → r xs H Q →
    wpAny (model X.prog X.w) X.A (call f us) (EP X pins σ Q) X.xe s
def TruR (X : Cx) (r : V → Hp → (Bool → Hp → Prop) → Prop) : Prop :=
  ∀ (pins : List (Addr × Obj)) (s : Shared) (σ : St) (H : Hp) (x : V) (v : Value) (Q : Bool → Hp → Prop), Inv X pins σ H s → RelV x v → r x H Q →
    wpAny (model X.prog X.w) X.A (truthy v) (TP X pins σ Q) X.xe s
def tOp (r : R2) (ta tb : TE) : TE := fun σ H Q => ta σ H fun x H1 => tb σ H1 fun y H2 => r x y H2 Q
def rI (C : Int → Int → Prop) (g : Int → Int → V) : R2 := fun x y H Q => ∃ i j, x = .int i ∧ y = .int j ∧ C i j ∧ Q (g i j) H
def rI0 (g : Int → Int → V) : R2 := fun x y H Q => ∃ i j, x = .int i ∧ y = .int j ∧ Q (g i j) H
section
variable {X : Cx} {a b c : Expr} {ta tb tc : TE} {pos : Pos}
theorem binT (ha : PE X a ta) (hb : PE X b tb) {pins : List (Addr × Obj)} {s : Shared} {σ : St} {H : Hp} {R : V → V → Hp → Prop} (I : Inv X pins σ H s)
    (h : ta σ H fun x H1 => tb σ H1 fun y H2 => R x y H2) {Q : Value → Shared → Prop} {f : Value → Value → Sem Value}
    (hf : ∀ v u s2 x y H2, Inv X pins σ H2 s2 → RelV x v → RelV y u → R x y H2 → wpAny (model X.prog X.w) X.A (f v u) Q X.xe s2) :
    wpAny (model X.prog X.w) X.A (eval a X.env) (fun v s₁ => wpAny (model X.prog X.w) X.A (eval b X.env) (fun u s₂ => wpAny (model X.prog X.w) X.A (f v u) Q X.xe s₂) X.xe s₁) X.xe s := by
  refine thn (ha pins s σ H _ I h) fun v s1 ⟨x, H1, I1, r1, q1⟩ => ?_
  refine thn (hb pins s1 σ H1 _ I1 q1) fun u s2 ⟨y, H2, I2, r2, q2⟩ => ?_
  exact hf v u s2 x y H2 I2 r1 r2 q2
theorem pe_op {op : Operator} {r : R2} (ho : OpR X (binaryOp op) r) (ha : PE X a ta) (hb : PE X b tb) : PE X (.BinOp a op b pos) (tOp r ta tb) := by
  intro pins s σ H Q I h
  exact wpAny_BinOp (binT ha hb I h fun v u s2 x y H2 I2 rx ry q => ho pins s2 σ H2 x y v u Q I2 rx ry q)
theorem opI {f : Value → Value → Sem Value} {C : Int → Int → Prop} {g : Int → Int → Int}
    (rule : ∀ (i j : Int) (t u : Tok) (s : Shared) (Q : Value → Shared → Prop) (E : Value → Shared → Prop), C i j → Q (.int (g i j) s.toks) { s with toks := s.toks + 1 } → wpAny (model X.prog X.w) X.A (f (.int i t) (.int j u)) Q E s) :
    OpR X f (rI C fun i j => .int (g i j)) := by
  intro pins s σ H x y v u Q I rx ry h
  obtain ⟨i, j, rfl, rfl, hc, q⟩ := h
  obtain ⟨t, rfl⟩ := rx
  obtain ⟨t', rfl⟩ := ry
  exact rule i j t t' s _ _ hc ⟨.int (g i j), H, I.tok _, ⟨_, rfl⟩, q⟩
theorem opI0 {f : Value → Value → Sem Value} {g : Int → Int → Int}
    (rule : ∀ (i j : Int) (t u : Tok) (s : Shared) (Q : Value → Shared → Prop) (E : Value → Shared → Prop), Q (.int (g i j) s.toks) { s with toks := s.toks + 1 } → wpAny (model X.prog X.w) X.A (f (.int i t) (.int j u)) Q E s) :
    OpR X f (rI0 fun i j => .int (g i j)) := by
  intro pins s σ H x y v u Q I rx ry h
  obtain ⟨i, j, rfl, rfl, q⟩ := h
  obtain ⟨t, rfl⟩ := rx
  obtain ⟨t', rfl⟩ := ry
  exact rule i j t t' s _ _ ⟨.int (g i j), H, I.tok _, ⟨_, rfl⟩, q⟩
theorem opB0 {f : Value → Value → Sem Value} {g : Int → Int → Bool}
    (rule : ∀ (i j : Int) (t u : Tok) (s : Shared) (Q : Value → Shared → Prop) (E : Value → Shared → Prop), Q (.bool (g i j)) s → wpAny (model X.prog X.w) X.A (f (.int i t) (.int j u)) Q E s) :
    OpR X f (rI0 fun i j => .bl (g i j)) := by
  intro pins s σ H x y v u Q I rx ry h
  obtain ⟨i, j, rfl, rfl, q⟩ := h
  obtain ⟨t, rfl⟩ := rx
  obtain ⟨t', rfl⟩ := ry
  exact rule i j t t' s _ _ ⟨.bl (g i j), H, I, rfl, q⟩
def CPow (i j : Int) : Prop := 0 ≤ j ∧ j ≤ 1000000 ∧ i.natAbs < 2 ^ 64
def CMul (i j : Int) : Prop := (-(2 ^ 64) < i ∧ i < 2 ^ 64) ∨ (-(2 ^ 64) < j ∧ j < 2 ^ 64)
theorem CMul.ok {i j : Int} (h : CMul i j) : IntMulOk i j := by
  rcases h with ⟨h1, h2⟩ | ⟨h1, h2⟩
  · exact .of_left (intBits_le_64 h1 h2)
  · exact .of_right (intBits_le_64 h1 h2)
theorem op_add : OpR X (binaryOp .Add) (rI0 fun i j => .int (i + j)) := opI0 fun _ _ _ _ _ _ _ q => add_int q
theorem op_sub : OpR X (binaryOp .Sub) (rI0 fun i j => .int (i - j)) := opI0 fun _ _ _ _ _ _ _ q => sub_int q
theorem op_mul : OpR X (binaryOp .Mult) (rI CMul fun i j => .int (i * j)) := opI fun _ _ _ _ _ _ _ hc q => mul_int q hc.ok
theorem op_mod : OpR X (binaryOp .Mod) (rI (fun _ j => 0 < j) fun i j => .int (i % j)) := opI fun i j _ _ _ _ _ hc q => by
  have h1 : (0 : Int) < j := hc
  exact mod_int' (by omega) (by rw [Int.fmod_eq_emod_of_nonneg i (by omega)]; exact q)
theorem op_pow : OpR X (binaryOp .Pow) (rI CPow fun i j => .int (i ^ j.toNat)) := opI fun _ _ _ _ _ _ _ hc q => pow_int_small hc.1 hc.2.1 hc.2.2 q
end
def scal : V → V → Bool
  | .non, .non => true | .non, .int _ => true | .int _, .non => true | .non, .bl _ => true | .bl _, .non => true | .non, .str _ => true | .str _, .non => true
  | .int _, .int _ => true | .bl _, .bl _ => true | .str _, .str _ => true | .byt _, .byt _ => true
  | .int _, .str _ => true | .str _, .int _ => true | .bl _, .str _ => true | .str _, .bl _ => true
  | _, _ => false
def rEq : R2 := fun x y H Q => scal x y = true ∧ Q (.bl (decide (x = y))) H
def rNe : R2 := fun x y H Q => scal x y = true ∧ Q (.bl (!decide (x = y))) H
theorem dec_int {i j : Int} : decide (V.int i = V.int j) = (i == j) := by
  rw [Bool.eq_iff_iff]
  simp
theorem dec_bl {i j : Bool} : decide (V.bl i = V.bl j) = (i == j) := by
  rw [Bool.eq_iff_iff]
  simp
theorem dec_str {i j : Str} : decide (V.str i = V.str j) = (i == j) := by
  rw [Bool.eq_iff_iff]
  simp
theorem dec_byt {i j : Array UInt8} : decide (V.byt i = V.byt j) = (i.toList == j.toList) := by
  rw [Bool.eq_iff_iff]
  cases i
  cases j
  simp
section
variable {X : Cx} {a b c : Expr} {ta tb tc : TE} {pos : Pos}
theorem fin_bl {pins : List (Addr × Obj)} {σ : St} {H : Hp} {s : Shared} {Q : VK} {k k' : Bool} (I : Inv X pins σ H s) (q : Q (.bl k) H) (e : k = k') : EP X pins σ Q (.bool k') s := by
  subst e
  exact ⟨.bl k, H, I, rfl, q⟩
theorem op_eq : OpR X (compareOp .Eq) rEq := by
  intro pins s σ H x y v u Q I rx ry h
  obtain ⟨hs, q⟩ := h
  cases x with
  | non =>
    cases rx
    cases y with
    | non => cases ry; exact PySem.EqNone.eq_none_none (fin_bl I q (by simp))
    | bl j => cases ry; exact PySem.EqNone.eq_none_bool (fin_bl I q (by simp))
    | int j => obtain ⟨t', rfl⟩ := ry; exact PySem.EqNone.eq_none_int (fin_bl I q (by simp))
    | str j => obtain ⟨t', rfl⟩ := ry; exact PySem.EqNone.eq_none_str (fin_bl I q (by simp))
    | _ => exact absurd (show false = true from hs) Bool.false_ne_true
  | bl i =>
    cases rx
    cases y with
    | non => cases ry; exact PySem.EqNone.eq_bool_none (fin_bl I q (by simp))
    | bl j => cases ry; exact eq_bool (fin_bl I q dec_bl)
    | str j => obtain ⟨t', rfl⟩ := ry; exact PySem.EqMixed.eq_bool_str (fin_bl I q (by simp))
    | _ => exact absurd (show false = true from hs) Bool.false_ne_true
  | int i =>
    obtain ⟨t, rfl⟩ := rx
    cases y with
    | non => cases ry; exact PySem.EqNone.eq_int_none (fin_bl I q (by simp))
    | int j => obtain ⟨t', rfl⟩ := ry; exact eq_int (fin_bl I q dec_int)
    | str j => obtain ⟨t', rfl⟩ := ry; exact PySem.EqMixed.eq_int_str (fin_bl I q (by simp))
    | _ => exact absurd (show false = true from hs) Bool.false_ne_true
  | str i =>
    obtain ⟨t, rfl⟩ := rx
    cases y with
    | non => cases ry; exact PySem.EqNone.eq_str_none (fin_bl I q (by simp))
    | bl j => cases ry; exact PySem.EqMixed.eq_str_bool (fin_bl I q (by simp))
    | int j => obtain ⟨t', rfl⟩ := ry; exact PySem.EqMixed.eq_str_int (fin_bl I q (by simp))
    | str j => obtain ⟨t', rfl⟩ := ry; exact eq_str (fin_bl I q dec_str)
    | _ => exact absurd (show false = true from hs) Bool.false_ne_true
  | byt i =>
    obtain ⟨t, rfl⟩ := rx
    cases y with
    | byt j => obtain ⟨t', rfl⟩ := ry; exact PySem.W.eq_bytes (fin_bl I q dec_byt)
    | _ => exact absurd (show false = true from hs) Bool.false_ne_true
  | _ => cases y <;> exact absurd (show false = true from hs) Bool.false_ne_true
theorem op_ne : OpR X (compareOp .NotEq) rNe := by
  intro pins s σ H x y v u Q I rx ry h
  obtain ⟨hs, q⟩ := h
  cases x with
  | non =>
    cases rx
    cases y with
    | non => cases ry; exact PySem.EqNone.ne_none_none (fin_bl I q (by simp))
    | bl j => cases ry; exact PySem.EqNone.ne_none_bool (fin_bl I q (by simp))
    | int j => obtain ⟨t', rfl⟩ := ry; exact PySem.EqNone.ne_none_int (fin_bl I q (by simp))
    | str j => obtain ⟨t', rfl⟩ := ry; exact PySem.EqNone.ne_none_str (fin_bl I q (by simp))
    | _ => exact absurd (show false = true from hs) Bool.false_ne_true
  | bl i =>
    cases rx
    cases y with
    | non => cases ry; exact PySem.EqNone.ne_bool_none (fin_bl I q (by simp))
    | bl j => cases ry; exact ne_bool (fin_bl I q (congrArg not dec_bl))
    | str j => obtain ⟨t', rfl⟩ := ry; exact PySem.EqMixed.ne_bool_str (fin_bl I q (by simp))
    | _ => exact absurd (show false = true from hs) Bool.false_ne_true
  | int i =>
    obtain ⟨t, rfl⟩ := rx
    cases y with
    | non => cases ry; exact PySem.EqNone.ne_int_none (fin_bl I q (by simp))
    | int j => obtain ⟨t', rfl⟩ := ry; exact ne_int (fin_bl I q (congrArg not dec_int))
    | str j => obtain ⟨t', rfl⟩ := ry; exact PySem.EqMixed.ne_int_str (fin_bl I q (by simp))
    | _ => exact absurd (show false = true from hs) Bool.false_ne_true
  | str i =>
    obtain ⟨t, rfl⟩ := rx
    cases y with
    | non => cases ry; exact PySem.EqNone.ne_str_none (fin_bl I q (by simp))
    | bl j => cases ry; exact PySem.EqMixed.ne_str_bool (fin_bl I q (by simp))
    | int j => obtain ⟨t', rfl⟩ := ry; exact PySem.EqMixed.ne_str_int (fin_bl I q (by simp))
    | str j => obtain ⟨t', rfl⟩ := ry; exact ne_str (fin_bl I q (congrArg not dec_str))
    | _ => exact absurd (show false = true from hs) Bool.false_ne_true
  | byt i =>
    obtain ⟨t, rfl⟩ := rx
    cases y with
    | byt j => obtain ⟨t', rfl⟩ := ry; exact PySem.W.ne_bytes (fin_bl I q (congrArg not dec_byt))
    | _ => exact absurd (show false = true from hs) Bool.false_ne_true
  | _ => cases y <;> exact absurd (show false = true from hs) Bool.false_ne_true
theorem op_lt : OpR X (compareOp .Lt) (rI0 fun i j => .bl (decide (i < j))) := opB0 fun _ _ _ _ _ _ _ q => lt_int q
theorem op_le : OpR X (compareOp .LtE) (rI0 fun i j => .bl (decide (i ≤ j))) := opB0 fun _ _ _ _ _ _ _ q => le_int q
theorem op_gt : OpR X (compareOp .Gt) (rI0 fun i j => .bl (decide (j < i))) := opB0 fun _ _ _ _ _ _ _ q => gt_int q
theorem op_ge : OpR X (compareOp .GtE) (rI0 fun i j => .bl (decide (j ≤ i))) := opB0 fun _ _ _ _ _ _ _ q => ge_int q
theorem op_isN : OpR X (compareOp .Is) (fun x y H Q => y = .non ∧ Q (.bl (decide (x = .non))) H) := by
  intro pins s σ H x y v u Q I rx ry h
  obtain ⟨rfl, q⟩ := h
  cases ry
  refine is_none_gen (fin_bl I q ?_)
  cases x <;> first
    | (cases rx; rfl)
    | (obtain ⟨t, rfl⟩ := rx; rfl)
theorem op_notN : OpR X (compareOp .IsNot) (fun x y H Q => y = .non ∧ Q (.bl (!decide (x = .non))) H) := by
  intro pins s σ H x y v u Q I rx ry h
  obtain ⟨rfl, q⟩ := h
  cases ry
  refine isnot_none_gen (fin_bl I q ?_)
  cases x <;> first
    | (cases rx; rfl)
    | (obtain ⟨t, rfl⟩ := rx; rfl)
theorem OpR.or {f : Value → Value → Sem Value} {r r' : R2} (h : OpR X f r) (h' : OpR X f r') : OpR X f (fun x y H Q => r x y H Q ∨ r' x y H Q) := by
  intro pins s σ H x y v u Q I rx ry q
  rcases q with q | q
  · exact h pins s σ H x y v u Q I rx ry q
  · exact h' pins s σ H x y v u Q I rx ry q
theorem nomark (b : Expr) {op : CmpOp} (h : op ≠ .In := by decide) (h2 : op ≠ .NotIn := by decide) : behindInMarks op b = false := by
  have e1 : (op == CmpOp.In) = false := by cases op <;> first | rfl | exact absurd rfl h
  have e2 : (op == CmpOp.NotIn) = false := by cases op <;> first | rfl | exact absurd rfl h2
  cases b <;> simp [behindInMarks, e1, e2]
theorem pe_cmpR {op : CmpOp} {r : R2} (ho : OpR X (compareOp op) r) (ha : PE X a ta) (hb : PE X b tb) (hm : behindInMarks op b = false) : PE X (.Compare a [op] [b] pos) (tOp r ta tb) := by
  intro pins s σ H Q I h
  exact wpAny_Compare1 (binT ha hb I h fun v u s2 x y H2 I2 rx ry q => ho pins s2 σ H2 x y v u Q I2 rx ry q) hm
def tTest (t : TE) : TT := fun σ H Q => t σ H fun x H' => ∃ k, x = .bl k ∧ Q k H'
theorem pt_cmpR {op : CmpOp} {r : R2} (ho : OpR X (compareOp op) r) (ha : PE X a ta) (hb : PE X b tb) (hm : behindInMarks op b = false) : PT X (.Compare a [op] [b] pos) (tTest (tOp r ta tb)) := by
  intro pins s σ H Q I h
  refine wpAny_isTrue_Compare1 (thn (ha pins s σ H _ I h) fun v s1 ⟨x, H1, I1, r1, q1⟩ => thn (hb pins s1 σ H1 _ I1 q1) fun u s2 ⟨y, H2, I2, r2, q2⟩ =>
    thn (ho pins s2 σ H2 x y v u _ I2 r1 r2 q2) fun c s3 ⟨z, H3, I3, r3, k, e, q3⟩ => ?_) hm
  subst e
  cases r3
  exact wpAny_truthy_bool ⟨H3, I3, q3⟩
def tChain (r r' : R2) (ta tb tc : TE) : TE := fun σ H Q => ta σ H fun x H1 => tb σ H1 fun y H2 => r x y H2 fun z H3 => ∃ k, z = .bl k ∧
  (if k = true then tc σ H3 fun w' H4 => r' y w' H4 Q else Q (.bl false) H3)
theorem pe_chain {op op' : CmpOp} {r r' : R2} (ho : OpR X (compareOp op) r) (ho' : OpR X (compareOp op') r') (ha : PE X a ta) (hb : PE X b tb) (hc : PE X c tc)
    (hm : lastMarks [op, op'] [b, c] = false := by with_unfolding_all rfl) : PE X (.Compare a [op, op'] [b, c] pos) (tChain r r' ta tb tc) := by
  intro pins s σ H Q I h
  refine Compare_chain (thn (ha pins s σ H _ I h) fun v s1 ⟨x, H1, I1, r1, q1⟩ => chain_link (thn (hb pins s1 σ H1 _ I1 q1) fun u s2 ⟨y, H2, I2, r2, q2⟩ =>
    thn (ho pins s2 σ H2 x y v u _ I2 r1 r2 q2) fun d s3 ⟨z, H3, I3, r3, k, e, q3⟩ => ?_)) hm
  subst e
  cases r3
  refine wpAny_truthy_bool ?_
  cases k with
  | false => exact ite_ff ⟨.bl false, H3, I3, rfl, q3⟩
  | true => exact ite_tt (chain_last (thn (hc pins s3 σ H3 _ I3 q3) fun w' s4 ⟨z', H4, I4, r4, q4⟩ => ho' pins s4 σ H4 y z' u w' Q I4 r2 r4 q4))
def TruV (K : PySem.W.Frag) (x : V) (H : Hp) (k : Bool) : Prop :=
  match x with
  | .non => k = false
  | .bl b => k = b
  | .int i => k = (i != 0)
  | .str y => y.length ≤ sizeLine ∧ k = ((y.length : Int) != 0)
  | .byt y => y.size ≤ sizeLine ∧ k = ((y.size : Int) != 0)
  | .ref p => (∃ xs, SqL K H p xs ∧ k = !xs.isEmpty) ∨ (∃ xs, SqT K H p xs ∧ k = !xs.isEmpty) ∨ ∃ kvs, H p = some (.dK kvs) ∧ k = !kvs.isEmpty
  | _ => False
theorem isEmpty_kv {κ : Type} {kvs : List (κ × V)} {vs : List (κ × Value)} (r : KV kvs vs) : (!vs.isEmpty) = !kvs.isEmpty := by
  cases r <;> rfl
theorem isEmpty_of {xs : List V} {its : List Value} (r : Vals xs its) : (!its.toArray.isEmpty) = !xs.isEmpty := by
  cases r <;> simp
theorem line63 : (sizeLine : Nat) < 2 ^ 63 := by rw [sizeLine_eq]; decide
theorem tru_ok : TruR X (fun x H Q => ∃ k, TruV X.K x H k ∧ Q k H) := by
  intro pins s σ H x v Q I rx h
  obtain ⟨k, e, q⟩ := h
  have hl := line63
  have hs : sizeLine = 16777216 := sizeLine_eq
  cases x with
  | non =>
    cases rx
    have e' : k = false := e
    subst e'
    exact truthy_none ⟨H, I, q⟩
  | bl b =>
    cases rx
    have e' : k = b := e
    subst e'
    exact wpAny_truthy_bool ⟨H, I, q⟩
  | int i =>
    obtain ⟨t, rfl⟩ := rx
    have e' : k = (i != 0) := e
    subst e'
    exact PySem.P.truthy_int ⟨H, I, q⟩
  | str y =>
    obtain ⟨t, rfl⟩ := rx
    obtain ⟨hy, e'⟩ : y.length ≤ sizeLine ∧ k = ((y.length : Int) != 0) := e
    subst e'
    exact PySem.P.truthy_str (by omega) ⟨H, I.tok _, q⟩
  | byt y =>
    obtain ⟨t, rfl⟩ := rx
    obtain ⟨hy, e'⟩ : y.size ≤ sizeLine ∧ k = ((y.size : Int) != 0) := e
    subst e'
    exact PySem.W.truthy_bytes (by omega) ⟨H, I.tok _, q⟩
  | ref p =>
    cases rx
    have e' : (∃ xs, SqL X.K H p xs ∧ k = !xs.isEmpty) ∨ (∃ xs, SqT X.K H p xs ∧ k = !xs.isEmpty) ∨ ∃ kvs, H p = some (.dK kvs) ∧ k = !kvs.isEmpty := e
    rcases e' with ⟨xs, hx, e'⟩ | ⟨xs, hx, e'⟩ | ⟨kvs, hx, e'⟩
    · subst e'
      obtain ⟨its, r, pl, hz⟩ := I.list hx
      have hlen := r.length
      exact wpAny_truthy_list pl.isList (by simp only [List.size_toArray]; omega) ⟨H, I.tok _, by rw [isEmpty_of r]; exact q⟩
    · subst e'
      obtain ⟨its, r, pl, hz⟩ := I.tuple hx
      have hlen := r.length
      exact truthy_tuple pl (by simp only [List.size_toArray]; omega) ⟨H, I.tok _, by rw [isEmpty_of r]; exact q⟩
    · subst e'
      obtain ⟨hz, hS, vs, r, m⟩ : kvs.length ≤ sizeLine ∧ (p == sysModules) = false ∧ ∃ vs, KV kvs vs ∧ s.heap.DictOf (mixKind X.prog X.w) p vs := I.hok p _ hx
      have hlen : kvs.length = vs.length := Paired.length r
      exact wpAny_truthy_dict hS m (by omega) ⟨H, I.tok _, by rw [isEmpty_kv r]; exact q⟩
  | _ => exact (show False from e).elim
theorem vals1 {x : V} {us : List Value} (r : Vals [x] us) : ∃ u, us = [u] ∧ RelV x u := by
  cases r with
  | cons r1 r2 => cases r2; exact ⟨_, rfl, r1⟩
theorem vals2 {x y : V} {us : List Value} (r : Vals [x, y] us) : ∃ u w', us = [u, w'] ∧ RelV x u ∧ RelV y w' := by
  cases r with
  | cons r1 r2 =>
    cases r2 with
    | cons r3 r4 => cases r4; exact ⟨_, _, rfl, r1, r3⟩
theorem call_abs : CallR X (.builtin "abs") (fun xs H Q => ∃ i, xs = [.int i] ∧ Q (.int (if i < 0 then -i else i)) H) := by
  intro pins s σ H xs us Q I r h
  obtain ⟨i, rfl, q⟩ := h
  obtain ⟨u, rfl, t, rfl⟩ := vals1 r
  exact call_abs_int fun u tk => ⟨.int (if i < 0 then -i else i), H, I.tok _, ⟨_, rfl⟩, q⟩
theorem call_max2 (hc : X.calm = true) : CallR X (.builtin "max") (fun xs H Q => ∃ i j, xs = [.int i, .int j] ∧ Q (.int (if j > i then j else i)) H) := by
  intro pins s σ H xs us Q I r h
  obtain ⟨i, j, rfl, q⟩ := h
  obtain ⟨u, w', rfl, ⟨t, rfl⟩, ⟨t', rfl⟩⟩ := vals2 r
  refine max_two_ints (I.ok.hd hc) fun h' tk k => ⟨_, H, I.kept k, ?_, q⟩
  by_cases hj : j > i
  · rw [if_pos hj, if_pos hj]; exact ⟨_, rfl⟩
  · rw [if_neg hj, if_neg hj]; exact ⟨_, rfl⟩
theorem call_min2 (hc : X.calm = true) : CallR X (.builtin "min") (fun xs H Q => ∃ i j, xs = [.int i, .int j] ∧ Q (.int (if j < i then j else i)) H) := by
  intro pins s σ H xs us Q I r h
  obtain ⟨i, j, rfl, q⟩ := h
  obtain ⟨u, w', rfl, ⟨t, rfl⟩, ⟨t', rfl⟩⟩ := vals2 r
  refine min_two_ints (I.ok.hd hc) fun h' tk k => ⟨_, H, I.kept k, ?_, q⟩
  by_cases hj : j < i
  · rw [if_pos hj, if_pos hj]; exact ⟨_, rfl⟩
  · rw [if_neg hj, if_neg hj]; exact ⟨_, rfl⟩
theorem call_int1 : CallR X (.type "int") (fun xs H Q => (∃ i, xs = [.int i] ∧ Q (.int i) H) ∨ ∃ k, xs = [.bl k] ∧ Q (.int (if k then 1 else 0)) H) := by
  intro pins s σ H xs us Q I r h
  rcases h with ⟨i, rfl, q⟩ | ⟨k, rfl, q⟩
  · obtain ⟨u, rfl, t, rfl⟩ := vals1 r
    exact call_int_int ⟨.int i, H, I, ⟨_, rfl⟩, q⟩
  · obtain ⟨u, rfl, r1⟩ := vals1 r
    cases r1
    exact call_int_bool ⟨.int (if k then 1 else 0), H, I.tok _, ⟨_, rfl⟩, q⟩
def LenV (K : PySem.W.Frag) (x : V) (H : Hp) (n : Nat) : Prop :=
  match x with
  | .str y => y.length ≤ sizeLine ∧ n = y.length
  | .byt y => y.size ≤ sizeLine ∧ n = y.size
  | .ref p => (∃ xs, SqL K H p xs ∧ n = xs.length) ∨ ∃ xs, SqT K H p xs ∧ n = xs.length
  | _ => False
theorem call_len : CallR X (.builtin "len") (fun xs H Q => ∃ x n, xs = [x] ∧ LenV X.K x H n ∧ Q (.int n) H) := by
  intro pins s σ H xs us Q I r h
  obtain ⟨x, n, rfl, e, q⟩ := h
  obtain ⟨u, rfl, rx⟩ := vals1 r
  have hl := line63
  have hs : sizeLine = 16777216 := sizeLine_eq
  cases x with
  | str y =>
    obtain ⟨t, rfl⟩ := rx
    obtain ⟨hy, e'⟩ : y.length ≤ sizeLine ∧ n = y.length := e
    subst e'
    exact len_str (by omega) ⟨.int _, H, I.tok _, ⟨_, rfl⟩, q⟩
  | byt y =>
    obtain ⟨t, rfl⟩ := rx
    obtain ⟨hy, e'⟩ : y.size ≤ sizeLine ∧ n = y.size := e
    subst e'
    exact PySem.W.len_bytes (by omega) ⟨.int _, H, I.tok _, ⟨_, rfl⟩, q⟩
  | ref p =>
    cases rx
    have e' : (∃ xs, SqL X.K H p xs ∧ n = xs.length) ∨ ∃ xs, SqT X.K H p xs ∧ n = xs.length := e
    rcases e' with ⟨xs, hx, e'⟩ | ⟨xs, hx, e'⟩
    · subst e'
      obtain ⟨its, r', pl, hz⟩ := I.list hx
      have hlen := r'.length
      exact Calls.call_len_list pl.isList (by simp only [List.size_toArray]; omega) ⟨.int xs.length, H, I.tok _, ⟨_, by simp only [List.size_toArray]; rw [hlen]⟩, q⟩
    · subst e'
      obtain ⟨its, r', pl, hz⟩ := I.tuple hx
      have hlen := r'.length
      exact len_tuple pl (by simp only [List.size_toArray]; omega) ⟨.int xs.length, H, I.tok _, ⟨_, by simp only [List.size_toArray]; rw [hlen]⟩, q⟩
  | _ => exact (show False from e).elim
end
end L2
namespace L2
open PySem PySem.Spec PyProof.Rows
structure ObjM (h : Heap) (x dx C : Addr) (mA : Str → Option Value) : Prop where
  obj : h.get? x = some (PySem.W.instObj C dx)
  ns : h.Ns1 dx mA
  ne : dx ≠ x
theorem lookIn_ns {h : Heap} {dx : Addr} {mA : Str → Option Value} (n : h.Ns1 dx mA) : ∃ od, h.get? dx = some od ∧ ∀ name, PySem.W.lookIn name od = some (mA name) := by
  obtain ⟨o, es, ep, ho, hd, hk, _, hm⟩ := n
  refine ⟨o, ho, fun name => ?_⟩
  have e := hm name
  unfold nsFind findBy at e
  rw [← Array.find?_toList] at e
  unfold PySem.W.lookIn
  rw [hd]
  dsimp only
  split
  · rename_i y q
    rw [q] at e
    exact congrArg some e
  · rename_i q
    rw [q] at e
    have a : es.toList.any (·.refKey) = false := by
      rw [List.any_eq_false]
      intro y hy
      obtain ⟨z, t, hkey⟩ := hk y (Array.mem_toList_iff.mp hy)
      simp [DictEntry.refKey, hkey]
    have a' : ¬ es.toList.any (·.refKey) = true := by rw [a]; exact Bool.false_ne_true
    rw [if_neg a']
    exact congrArg some e
theorem ObjM.look {h : Heap} {x dx C : Addr} {mA : Str → Option Value} (I : ObjM h x dx C mA) : ∃ od, PySem.W.InstAt h x (PySem.W.instObj C dx) C (some od) ∧ ∀ name, PySem.W.lookIn name od = some (mA name) :=
  let ⟨od, ho, hl⟩ := lookIn_ns I.ns
  ⟨od, ⟨I.obj, rfl, rfl, ho⟩, hl⟩
theorem RelO.some_of {v : V} {o : Option Value} (r : RelO (some v) o) : ∃ u, o = some u ∧ RelV v u := by
  cases o with
  | none => exact (show False from r).elim
  | some u => exact ⟨u, rfl, r⟩
section
variable {P : Program} {w : World} {H H' : Hp} {h h' : Heap} {a C dx : Addr} {fs fs' : List (Str × V)}
theorem ins_get (hok : HOk P w H h) (e : H a = some (.ins C dx fs)) : ∃ mA, ObjM h a dx C mA ∧ (∀ f, RelO (fs.lookup f) (mA f)) ∧ PySem.Within mA (fs.map (·.1)) ∧ fs.length ≤ 1000 ∧ H dx = some (.own a) := by
  obtain ⟨d, z, ne, ob, mA, n, r, q⟩ := (show ObjOk P w H h a (.ins C dx fs) from hok a _ e)
  exact ⟨mA, ⟨ob, n, ne⟩, r, q, z, d⟩
end
structure Cls (K : PySem.W.Frag) (C : Addr) : Prop where
  pg : PySem.W.plainGet K C Str.empty = true
  hd : PySem.W.hasDictIn K C = true
  po : PySem.W.plainOver K C = true
  sa : PySem.W.findIn K (.ref C) "__setattr__" = some (some (.builtin "object.__setattr__"))
theorem Cls.get {K : PySem.W.Frag} {C : Addr} (c : Cls K C) (f : Str) : PySem.W.plainGet K C f = true := c.pg
section
variable {X : Cx} {pins : List (Addr × Obj)} {σ : St} {H : Hp} {s : Shared} {A : Around} {E : Value → Shared → Prop} {Q : Value → Shared → Prop} {c : Value} {b : Bool}
inductive TyOf (K : PySem.W.Frag) (H : Hp) : V → Value → Prop where
  | non : TyOf K H .non (.type "NoneType")
  | bl (x : Bool) : TyOf K H (.bl x) (.type "bool")
  | int (i : Int) : TyOf K H (.int i) (.type "int")
  | str (x : Str) : TyOf K H (.str x) (.type "str")
  | flt (x : UInt64) : TyOf K H (.flt x) (.type "float")
  | lst {a : Addr} {xs : List V} (e : H a = some (.lst xs)) : TyOf K H (.ref a) (.type "list")
  | frz {a : Addr} {o : Obj} {xs : List V} (e : H a = some (.frz o (.lst xs))) : TyOf K H (.ref a) (.type "list")
  | tup {a : Addr} {xs : List V} (e : H a = some (.tup xs)) : TyOf K H (.ref a) (.type "tuple")
  | dK {a : Addr} {kvs : List (Key × V)} (e : H a = some (.dK kvs)) : TyOf K H (.ref a) (.type "dict")
  | dT {a : Addr} {kvs : List (List Key × V)} (e : H a = some (.dT kvs)) : TyOf K H (.ref a) (.type "dict")
  | ins {a C dx : Addr} {fs : List (Str × V)} (e : H a = some (.ins C dx fs)) (cl : Cls K C) (ha : PySem.W.findIn K (.ref C) "__class__" = some (some (.builtin "object.__class__")))
      (hn : PySem.W.specialIn K (.builtin "object.__class__") "__get__" = some (some (.builtin "getset_descriptor.__get__"))) (htk : PySem.W.takesIn K (.builtin "object.__class__") = some true)
      (hm : PySem.W.mroIn K C (.type "object") = some true) : TyOf K H (.ref a) (.ref C)
theorem isinst_ok {x : V} {u t : Value} (I : Inv X pins σ H s) (rx : RelV x u) (ty : TyOf X.K H x t) (e : PySem.W.kitOne X.K t c = some b) (h : ∀ tk, Q (.bool b) { s with toks := tk }) :
    wpAny (model X.prog X.w) A (call (.builtin "isinstance") [u, c]) Q E s := by
  cases ty with
  | non => cases (show u = Value.none from rx); exact PySem.W.kia_one PySem.W.kitx_none I.kIn True.intro e (fun z => nomatch z) h
  | bl y => cases (show u = Value.bool y from rx); exact PySem.W.kia_one PySem.W.kitx_bool I.kIn True.intro e (fun z => nomatch z) h
  | int i => obtain ⟨t, q⟩ := (show ∃ t, u = Value.int i t from rx); cases q; exact PySem.W.kia_one PySem.W.kitx_int I.kIn True.intro e (fun z => nomatch z) h
  | str y => obtain ⟨t, q⟩ := (show ∃ t, u = Value.str y t from rx); cases q; exact PySem.W.kia_one PySem.W.kitx_str I.kIn True.intro e (fun z => nomatch z) h
  | flt y => obtain ⟨t, q⟩ := (show ∃ t, u = Value.float y t from rx); cases q; exact PySem.W.kia_one PySem.W.kitx_float I.kIn True.intro e (fun z => nomatch z) h
  | @lst a xs ea =>
    cases (show u = Value.ref a from rx)
    obtain ⟨_, _, n, _, h1⟩ := (show ObjOk X.prog X.w H s.heap a (.lst xs) from I.hok a _ ea)
    exact PySem.W.kia_one PySem.W.kitx_list I.kIn ⟨_, h1, rfl⟩ e (fun z => nomatch z) h
  | @frz a ob xs ea =>
    cases (show u = Value.ref a from rx)
    obtain ⟨_, _, _, n, _, h1⟩ := (show ObjOk X.prog X.w H s.heap a (.frz ob (.lst xs)) from I.hok a _ ea)
    exact PySem.W.kia_one PySem.W.kitx_list I.kIn ⟨_, h1, rfl⟩ e (fun z => nomatch z) h
  | @tup a xs ea =>
    cases (show u = Value.ref a from rx)
    obtain ⟨_, _, _, p⟩ := (show ObjOk X.prog X.w H s.heap a (.tup xs) from I.hok a _ ea)
    obtain ⟨o, h1, h2, _⟩ := p
    exact PySem.W.kia_one PySem.W.kitx_tuple I.kIn ⟨o, h1, h2⟩ e (fun z => nomatch z) h
  | @dK a kvs ea =>
    cases (show u = Value.ref a from rx)
    obtain ⟨_, _, vs, _, p⟩ := (show ObjOk X.prog X.w H s.heap a (.dK kvs) from I.hok a _ ea)
    obtain ⟨o, es, ep, h1, h2, _⟩ := p
    exact PySem.W.kia_one PySem.W.kitx_dict I.kIn ⟨o, h1, h2.1⟩ e (fun z => nomatch z) h
  | @dT a kvs ea =>
    cases (show u = Value.ref a from rx)
    obtain ⟨_, _, xs, _, o, es, ep, h1, h2, _⟩ := (show ObjOk X.prog X.w H s.heap a (.dT kvs) from I.hok a _ ea)
    exact PySem.W.kia_one PySem.W.kitx_dict I.kIn ⟨o, h1, h2.1⟩ e (fun z => nomatch z) h
  | @ins a C dx fs ea cl ha hn htk hm =>
    cases (show u = Value.ref a from rx)
    obtain ⟨mA, O, _⟩ := ins_get I.hok ea
    obtain ⟨od, J, _⟩ := O.look
    exact PySem.W.kia_one (PySem.W.kitx_own (cl.get _) cl.hd ha hn htk hm) I.kIn J e (fun z => nomatch z) h
end
end L2
namespace L2
open PySem PySem.Spec PyProof.Rows
structure Room (k : Nat) (A : Around) : Prop where
  hd : A.handled = none
  dp : A.depth + 3 * k + 5 < recursionLimit
  un : A.units + 16 * k + 200 < cLine
theorem Room.mono {j k : Nat} {A : Around} (r : Room k A) (h : j ≤ k) : Room j A := ⟨r.hd, by have := r.dp; omega, by have := r.un; omega⟩
theorem Room.deeper {k : Nat} {A : Around} (r : Room (k + 1) A) (env : Env) : Room k (A.deeper env) :=
  ⟨r.hd, by have := r.dp; show A.depth + 1 + 3 * k + 5 < _; omega, by have := r.un; show A.units + 3 + 16 * k + 200 < _; omega⟩
theorem Room.depth {k : Nat} {A : Around} (r : Room k A) : A.depth < recursionLimit := by have := r.dp; omega
theorem Room.units {k : Nat} {A : Around} (r : Room k A) : A.units + 64 < cLine := by have := r.un; omega
def tNil : TA := fun _ H Q => Q [] H
def tCons (ta : TE) (tr : TA) : TA := fun σ H Q => ta σ H fun x H1 => tr σ H1 fun xs H2 => Q (x :: xs) H2
section
variable {X : Cx} {e : Expr} {es : List Expr} {te : TE} {t : TA} {pos : Pos}
theorem pa_nil : PA X [] tNil := fun _ _ _ _ H Q I h => Calls.spliced_nil ⟨[], H, I, .nil, h⟩
theorem pa_cons (ha : PE X e te) (hr : PA X es t) (hs : starEach (e :: es) X.env = (false, eval e X.env) :: starEach es X.env := by rfl) : PA X (e :: es) (tCons te t) := by
  intro pos pins s σ H Q I h
  rw [hs]
  show wpAny _ _ (spliced ((false, eval e X.env) :: backTo pos (starEach es X.env))) _ _ s
  refine Calls.spliced_cons (thn (ha pins s σ H _ I h) fun u s1 ⟨x, H1, I1, r1, q1⟩ => ?_)
  exact thn (hr pos pins s1 σ H1 _ I1 q1) fun us s2 ⟨xs, H2, I2, r2, q2⟩ => ⟨x :: xs, H2, I2, .cons r1 r2, q2⟩
def tTup (t : TA) : TE := fun σ H Q => t σ H fun xs H1 => xs.length ≤ sizeLine ∧ ∀ p, H1 p = none → Q (.ref p) (upd H1 p (.tup xs))
def tLst (t : TA) : TE := fun σ H Q => t σ H fun xs H1 => xs.length ≤ sizeLine ∧ ∀ p, H1 p = none → Q (.ref p) (upd H1 p (.lst xs))
theorem pe_tup {x1} (h : PA X es t) : PE X (.Tuple es x1 pos) (tTup t) := by
  intro pins s σ H Q I hq
  refine wpAny_Tuple_spliced (thn (h pos pins s σ H _ I hq) fun us s1 ⟨xs, H1, I1, r, z, q⟩ => ⟨by rw [← r.length]; exact z, ?_⟩)
  have hf : H1 s1.heap.objs.size = none := I1.hok.fresh (Nat.le_refl _)
  refine ⟨.ref s1.heap.objs.size, upd H1 s1.heap.objs.size (.tup xs), I1.laid (t' := s1.toks) (fun b u e => Heap.get?_push_of_some _ e) (Nat.le_refl _) ?_, rfl, q _ hf⟩
  exact ⟨z, us, r, ⟨_, Heap.get?_push_size _ rfl, rfl, _, rfl⟩⟩
theorem pe_lst (h : PA X es t) : PE X (.List es pos) (tLst t) := by
  intro pins s σ H Q I hq
  refine wpAny_List_spliced (thn (h pos pins s σ H _ I hq) fun us s1 ⟨xs, H1, I1, r, z, q⟩ => ⟨by rw [← r.length]; exact z, ?_⟩)
  have hf : H1 s1.heap.objs.size = none := I1.hok.fresh (Nat.le_refl _)
  refine ⟨.ref s1.heap.objs.size, upd H1 s1.heap.objs.size (.lst xs), I1.laid (t' := s1.toks) (fun b u e => Heap.get?_push_of_some _ e) (Nat.le_refl _) ?_, rfl, q _ hf⟩
  exact ⟨z, us, 0, r, Heap.get?_push_size _ rfl⟩
end
abbrev Sp := List V → Hp → VK → XK → Prop
abbrev CXT := List Env → Hp → Shared → XK → Value → Shared → Prop
structure Env0 (P : Program) (w : World) (K : PySem.W.Frag) (mg : Str → Option Value) (base : Heap) (A : Around) (outer : List Env) (s : Shared) (H : Hp) : Prop where
  frames : A.frames = some outer
  mod : Mod K mg base
  bs : ∀ b o, base.get? b = some o → s.heap.get? b = some o ∧ H b = none
  bsz : base.objs.size ≤ s.heap.objs.size
  funs : s.heap.FunFrames base outer
  frf : ∀ b ∈ frs outer, H b = none
  hok : HOk P w H s.heap
  bare : AllBare s.gens
def CE (outer : List Env) (P : Program) (w : World) (H : Hp) (s : Shared) (Q : VK) (u : Value) (s' : Shared) : Prop :=
  ∃ v H', s'.os = s.os ∧ AllBare s'.gens ∧ Un (frs outer) [] H H' s.heap s'.heap ∧ HOk P w H' s'.heap ∧ RelV v u ∧ Q v H'
def CR (CX : CXT) (outer : List Env) (P : Program) (w : World) (H : Hp) (s : Shared) (Q : VK) (E : XK) (r : Result) (s' : Shared) : Prop :=
  match r with
  | .ok (.ret u) => CE outer P w H s Q u s'
  | .ok _ => False
  | .error e => CX outer H s E e s'
structure FnOk (P : Program) (w : World) (K : PySem.W.Frag) (mg : Str → Option Value) (base : Heap) (CX : CXT) (k : Nat) (f : Addr) (fd : FuncData) (ps : List Str) (sp : Sp) : Prop where
  len : ∀ vs H Q E, sp vs H Q E → vs.length = ps.length
  run : ∀ (A : Around) (outer : List Env) (s : Shared) (H : Hp) (args : Args) (us : List Value) (vs : List V) (Q : VK) (E : XK), Room k A → Env0 P w K mg base A outer s H → BindsTo s fd args (ps.zip us) → Vals vs us → sp vs H Q E →
    codeAny (model P w) A (.call (.ref f) args) (CR CX outer P w H s Q E) s
section
variable {X : Cx} {pins : List (Addr × Obj)} {σ : St} {H : Hp} {s s' : Shared}
theorem Inv.env0 (I : Inv X pins σ H s) : Env0 X.prog X.w X.K X.mg X.base X.A X.stack s H :=
  ⟨I.ok.frames, I.ok.mod, I.bs, Nat.le_trans I.ok.bsz I.sz, I.stack, I.stkFree, I.hok, I.bare⟩
theorem Inv.after {Q : VK} {u : Value} (I : Inv X pins σ H s) (h : CE X.stack X.prog X.w H s Q u s') : EP X pins σ Q u s' := by
  obtain ⟨v, H', os, bare, un, hok, r, q⟩ := h
  obtain ⟨hh, g, d, t, os'⟩ := s'
  obtain rfl : os' = s.os := os
  exact ⟨v, H', I.call (h' := hh) (g' := g) (d' := d) (t' := t) (ch := []) un hok bare (fun b z => absurd z (by simp)), r, q⟩
end
def tCall (sp : Sp) (dvs : List V) (E : XK) (t : TA) : TE := fun σ H Q => t σ H fun vs H1 => sp (vs ++ dvs) H1 Q E
def Binds (K : PySem.W.Frag) (fd : FuncData) (ps : List Str) (ds : List Value) : Prop :=
  ∀ (s : Shared) (us : List Value), K.In s.heap → (us ++ ds).length = ps.length → BindsTo s fd ⟨us, []⟩ (ps.zip (us ++ ds))
theorem Binds.all {K : PySem.W.Frag} {fd : FuncData} {ps : List Str} (h : ∀ us : List Value, us.length = ps.length → bindArgs fd ⟨us, []⟩ = pure (ps.zip us)) : Binds K fd ps [] := fun s us _ hl => by
  rw [List.append_nil] at hl ⊢
  exact .of_eq (h us hl)
def Passes (CX : CXT) (X : Cx) (E : XK) : Prop := ∀ (pins : List (Addr × Obj)) (σ : St) (H : Hp) (s : Shared) (e : Value) (s' : Shared), Inv X pins σ H s → CX X.stack H s E e s' → X.xe e s'
section
variable {X : Cx} {CX : CXT} {k : Nat} {f C : Addr} {fd : FuncData} {ps : List Str} {sp : Sp} {dvs : List V} {ds : List Value} {E : XK} {x m : Str} {p pos apos : Pos} {e o : Expr} {es : List Expr} {ta : TE} {t : TA}
theorem run_fn {pins : List (Addr × Obj)} {σ : St} {H : Hp} {s : Shared} {Q : VK} {us : List Value} {vs : List V} (F : FnOk X.prog X.w X.K X.mg X.base CX k f fd ps sp) (hr : Room k X.A) (hb : Binds X.K fd ps ds) (hd : Vals dvs ds) (hx : Passes CX X E)
    (I : Inv X pins σ H s) (r : Vals vs us) (h : sp (vs ++ dvs) H Q E) : wpAny (model X.prog X.w) X.A (call (.ref f) us) (EP X pins σ Q) X.xe s := by
  have r2 : Vals (vs ++ dvs) (us ++ ds) := r.append hd
  have hl : (us ++ ds).length = ps.length := by rw [← r2.length]; exact F.len _ _ _ _ h
  refine wpAny_call (codeAny_mono (F.run X.A X.stack s H ⟨us, []⟩ (us ++ ds) (vs ++ dvs) Q E hr I.env0 (hb s us I.kIn hl) r2 h) fun r s' hq => ?_)
  cases r with
  | error e => exact hx pins σ H s e s' I hq
  | ok fl =>
    cases fl with
    | ret u => exact I.after hq
    | next => exact False.elim hq
    | brk => exact False.elim hq
    | cont => exact False.elim hq
theorem pe_call (F : FnOk X.prog X.w X.K X.mg X.base CX k f fd ps sp) (hr : Room k X.A) (hg : Gl X x) (hm : X.mg x = some (.ref f)) (hk : PySem.W.keepIn X.K (.ref f) = true) (hb : Binds X.K fd ps ds) (hd : Vals dvs ds) (hx : Passes CX X E)
    (ha : PA X (e :: es) t) (hdb : (x == ("__debug__" : Str)) = false := by decide) (he : starEach (e :: es) X.env = (false, eval e X.env) :: starEach es X.env := by rfl) (hpl : (backTo pos (starEach es X.env)).any (·.1) = false := by rfl) :
    PE X (.Call (.Name x p) (e :: es) [] pos) (tCall sp dvs E t) := by
  intro pins s σ H Q I h
  refine wpAny_Call_Name_kw (ld_glob I hg hm ?_ hdb)
  refine PySem.W.callWith_K (h₀ := X.base) I.ok.mod.kin hk (thn (ha pos pins s σ H _ I h) fun us s1 ⟨vs, H1, I1, r, q⟩ => ⟨I1.kIn, ?_⟩) he hpl
  exact run_fn F hr hb hd hx I1 r q
end
def PK (X : Cx) (kws : List Keyword) (t : TA) : Prop :=
  ∀ (pos : Pos) (pins : List (Addr × Obj)) (s : Shared) (σ : St) (H : Hp) (Q : List V → Hp → Prop), Inv X pins σ H s → t σ H Q → wpAny (model X.prog X.w) X.A (evalAll ((backToKw pos (keywordEach kws X.env)).map (·.2))) (AP X pins σ Q) X.xe s
section
variable {X : Cx} {CX : CXT} {k : Nat} {f C : Addr} {fd : FuncData} {ps ks : List Str} {sp : Sp} {E : XK} {x m : Str} {p pos apos kpos : Pos} {e o : Expr} {es : List Expr} {kws : List Keyword} {te ta : TE} {t tk : TA} {nm : Option Str}
theorem pk_nil : PK X [] tNil := fun _ _ _ _ H Q I h => wpAny_evalAll_nil ⟨[], H, I, .nil, h⟩
theorem pk_cons (ha : PE X e te) (hr : PK X kws t) : PK X (⟨nm, e, kpos⟩ :: kws) (tCons te t) := by
  intro pos pins s σ H Q I h
  show wpAny _ _ (evalAll ((do let v ← eval e X.env; standAt pos; pure v) :: (backToKw pos (keywordEach kws X.env)).map (·.2))) _ _ s
  refine wpAny_evalAll_cons (wpAny_bind (thn (ha pins s σ H _ I h) fun u s1 ⟨x, H1, I1, r1, q1⟩ => wpAny_bind (wpAny_standAt (wpAny_pure ?_))))
  exact thn (hr pos pins s1 σ H1 _ I1 q1) fun us s2 ⟨xs, H2, I2, r2, q2⟩ => ⟨x :: xs, H2, I2, .cons r1 r2, q2⟩
def tCallK (sp : Sp) (gV : List V → List V → List V) (E : XK) (t tk : TA) : TE := fun σ H Q => t σ H fun vs H1 => tk σ H1 fun zs H2 => sp (gV vs zs) H2 Q E
variable {g : List Value → List Value → List Value} {gV : List V → List V → List V}
end
structure FnScope (N P : List Str) (sc : Scope) : Prop where
  kind : sc.kind = .function
  co : sc.isCoroutine = false
  gen : sc.isGenerator = false
  nd : N.Nodup
  pre : N.take P.length = P
  par : ∀ x ∈ P, sc.names.lookup x = some .local ∨ sc.names.lookup x = some .cell
  nofree : ∀ y ∈ sc.names, y.2 ≠ .free
theorem bindL_out {kindOf : Str → Option NameKind} {x : Str} : ∀ {binds : List (Str × Value)} {m : Str → Option Value}, (∀ v, (x, v) ∉ binds) → bindL kindOf binds m x = m x
  | [], _, _ => rfl
  | (n, v) :: r, m, h => by
    unfold bindL
    rw [bindL_out fun w hw => h w (List.mem_cons_of_mem _ hw)]
    split
    · have : x ≠ n := by rintro rfl; exact h v List.mem_cons_self
      simp [this]
    · rfl
theorem bindC_out {kindOf : Str → Option NameKind} {x : Str} : ∀ {binds : List (Str × Value)} {m : Str → Option Value}, (∀ v, (x, v) ∉ binds) → bindC kindOf binds m x = m x
  | [], _, _ => rfl
  | (n, v) :: r, m, h => by
    unfold bindC
    rw [bindC_out fun w hw => h w (List.mem_cons_of_mem _ hw)]
    split
    · rfl
    · have : x ≠ n := by rintro rfl; exact h v List.mem_cons_self
      simp [this]
theorem bindL_get {kindOf : Str → Option NameKind} {x : Str} {v : Value} : ∀ {P : List Str} {vs : List Value} {i : Nat} {m : Str → Option Value}, P.Nodup → P[i]? = some x → vs[i]? = some v → kindOf x = some .local →
    bindL kindOf (P.zip vs) m x = some v
  | [], _, _, _, _, h, _, _ => by simp at h
  | _ :: _, [], _, _, _, _, h, _ => by simp at h
  | p :: P, w :: vs, 0, m, nd, h1, h2, hk => by
    simp at h1 h2; subst h1; subst h2
    show bindL kindOf ((p, w) :: P.zip vs) m p = _
    unfold bindL
    rw [bindL_out fun v hv => (List.nodup_cons.mp nd).1 (List.of_mem_zip hv).1, if_pos hk]
    simp
  | p :: P, w :: vs, i + 1, m, nd, h1, h2, hk => by
    show bindL kindOf ((p, w) :: P.zip vs) m x = _
    unfold bindL
    exact bindL_get (i := i) (List.nodup_cons.mp nd).2 (by simpa using h1) (by simpa using h2) hk
theorem bindC_get {kindOf : Str → Option NameKind} {x : Str} {v : Value} : ∀ {P : List Str} {vs : List Value} {i : Nat} {m : Str → Option Value}, P.Nodup → P[i]? = some x → vs[i]? = some v → kindOf x ≠ some .local →
    bindC kindOf (P.zip vs) m x = some v
  | [], _, _, _, _, h, _, _ => by simp at h
  | _ :: _, [], _, _, _, _, h, _ => by simp at h
  | p :: P, w :: vs, 0, m, nd, h1, h2, hk => by
    simp at h1 h2; subst h1; subst h2
    show bindC kindOf ((p, w) :: P.zip vs) m p = _
    unfold bindC
    rw [bindC_out fun v hv => (List.nodup_cons.mp nd).1 (List.of_mem_zip hv).1, if_neg hk]
    simp
  | p :: P, w :: vs, i + 1, m, nd, h1, h2, hk => by
    show bindC kindOf ((p, w) :: P.zip vs) m x = _
    unfold bindC
    exact bindC_get (i := i) (List.nodup_cons.mp nd).2 (by simpa using h1) (by simpa using h2) hk
def start (N : List Str) (vs : List V) : St := vs.map some ++ List.replicate (N.length - vs.length) none
def cxOf (CX : CXT) (P : Program) (w : World) (K : PySem.W.Frag) (mg : Str → Option Value) (base : Heap) (N : List Str) (qual : Str) (scope : Scope) (f : Addr) (cd : Value) (A : Around) (outer : List Env) (s : Shared) (H : Hp) (E : XK) : Cx where
  prog := P
  w := w
  K := K
  mg := mg
  base := base
  A := A.deeper (envOfC qual scope s.heap.objs.size f cd)
  N := N
  sZ := s
  HZ := H
  env := envOfC qual scope s.heap.objs.size f cd
  outer := outer
  stack := envOfC qual scope s.heap.objs.size f cd :: outer
  ex := []
  calm := true
  fn := fun _ => true
  pn := []
  xe := fun e s' => wpAny (model P w) (A.deeper (envOfC qual scope s.heap.objs.size f cd)) (leaving (envOfC qual scope s.heap.objs.size f cd) e) (fun _ s'' => CX outer H s E e s'') (fun e' s'' => CX outer H s E e' s'') s'
theorem cell_has {sc : Scope} {n : Nat} {x : Str} (h : sc.names.lookup x = some .cell) : ∃ c, (cellsFrom n sc.names []).lookup x = some c := by
  have q := PySem.W.cellsFrom_some sc.names n [] (.inl h)
  exact Option.isSome_iff_exists.mp q
theorem inv_start {CX : CXT} {P : Program} {w : World} {K : PySem.W.Frag} {mg : Str → Option Value} {base : Heap} {N ps : List Str} {qual : Str} {scope : Scope} {f : Addr} {cd : Value} {A : Around} {outer : List Env} {s s1 : Shared} {H : Hp} {E : XK} {us : List Value} {vs : List V}
    (S : FnScope N ps scope) (hd : A.handled = none) (e0 : Env0 P w K mg base A outer s H) (hl : vs.length = ps.length) (r : Vals vs us)
    (x : InCallC s s.heap.objs.size (bindL (envOfC qual scope s.heap.objs.size f cd).kindOf (ps.zip us) fun _ => none) (cellsFrom (s.heap.objs.size + 1) scope.names []) (bindC (envOfC qual scope s.heap.objs.size f cd).kindOf (ps.zip us) fun _ => none) s1) :
    Inv (cxOf CX P w K mg base N qual scope f cd A outer s H E) [] (start N vs) H s1 := by
  have hpl : ps.length ≤ N.length := by have := congrArg List.length S.pre; rw [List.length_take] at this; omega
  obtain ⟨h1, tk, rfl, hk⟩ := x.done
  have noA : ∀ b : Addr, b ∉ (cxOf CX P w K mg base N qual scope f cd A outer s H E).ex := fun b z => absurd (show b ∈ ([] : List Addr) from z) (by simp)
  refine ⟨⟨e0.mod, S.kind, rfl, rfl, Nat.le_refl _, fun y z c h1 h2 => ?_, fun y hy => ?_, fun y c _ h => ?_, fun _ => hd, Around.frames_deeper e0.frames, .inr ⟨rfl, rfl⟩, fun b z => absurd z (noA b), e0.bs, e0.bsz, fun b _ _ => noA b, fun b z => absurd z (noA b), e0.funs, e0.frf⟩,
    rfl, e0.bare, Un.kept hk, ⟨_, x.toInCall.ns, fun i y v h1 h2 h3 => ?_⟩, fun y c h => ⟨_, x.cell y c h⟩, e0.hok.fresh (Nat.le_refl _), fun y c h => ?_, fun p hp => absurd (show p ∈ ([] : List (Addr × Obj)) from hp) (by simp), e0.hok.kept hk, ?_⟩
  · exact name_of_addr x.apart (PySem.mem_of_lookup h1) (PySem.mem_of_lookup h2)
  · have hy : scope.names.lookup y = some .cell ∨ scope.names.lookup y = some .free := hy
    rcases hy with hy | hy
    · exact cell_has hy
    · exact absurd rfl (S.nofree _ (PySem.mem_of_lookup hy))
  · exact Nat.le_of_lt (x.above y c (PySem.mem_of_lookup h))
  · have hi : i < vs.length := by
      unfold start at h2
      by_cases hi : i < vs.length
      · exact hi
      · rw [List.getElem?_append_right (by simpa using hi)] at h2
        rw [List.getElem?_replicate] at h2
        split at h2 <;> cases h2
    have ha : vs[i]? = some v := by
      unfold start at h2
      rw [List.getElem?_append_left (by simpa using hi), List.getElem?_map] at h2
      cases e : vs[i]? with
      | none => rw [e] at h2; cases h2
      | some a => rw [e] at h2; cases h2; rfl
    obtain ⟨u, hu, rv⟩ := r.get ha
    have hp : ps[i]? = some y := by
      rw [← S.pre, List.getElem?_take_of_lt (by omega)]; exact h1
    have ndP : ps.Nodup := by rw [← S.pre]; exact S.nd.sublist (List.take_sublist _ _)
    refine ⟨u, rv, ?_⟩
    rcases S.par y (List.mem_of_getElem? hp) with k | k
    · exact .inl ⟨k, bindL_get ndP hp hu k⟩
    · obtain ⟨c, e⟩ := cell_has (n := s.heap.objs.size + 1) k
      refine .inr ⟨.inl k, c, e, ?_⟩
      have q := x.cell y c e
      rw [bindC_get ndP hp hu (by show scope.names.lookup y ≠ _; rw [k]; decide)] at q
      exact q
  · exact e0.hok.fresh (Nat.le_of_lt (x.above y c (PySem.mem_of_lookup h)))
  · unfold start
    show _ = N.length
    rw [List.length_append, List.length_map, List.length_replicate]
    omega
theorem fn_of {CX : CXT} {P : Program} {w : World} {K : PySem.W.Frag} {mg : Str → Option Value} {base : Heap} {k : Nat} {f : Addr} {name qual : Str} {params : Arguments} {body : List Stmt} {scope : Scope} {dV kV doc pm cdv ct oc : Value} {an od : Option Addr}
    {osl : Array (Option Value)} {N ps : List Str} {sp : Sp} (lk : K.lookup f = some ⟨oc, od, .func (PySem.W.fnOf name qual params body scope dV kV doc pm an cdv ct), osl⟩) (hcd : PySem.W.codeIn K cdv qual = true) (S : FnScope N ps scope)
    (len : ∀ vs H Q E, sp vs H Q E → vs.length = ps.length)
    (hbody : ∀ (A : Around) (outer : List Env) (s : Shared) (H : Hp) (vs : List V) (Q : VK) (E : XK), Room k (A.deeper (envOfC qual scope s.heap.objs.size f cdv)) → sp vs H Q E →
      ∃ t, PSs (cxOf CX P w K mg base N qual scope f cdv A outer s H E) body t ∧ t { nx := fun _ H' => Q .non H', rt := Q } (start N vs) H) :
    FnOk P w K mg base CX (k + 1) f (PySem.W.fnOf name qual params body scope dV kV doc pm an cdv ct) ps sp := by
  refine ⟨len, fun A outer s H args us vs Q E hr e0 hb r hsp => ?_⟩
  have hl := len _ _ _ _ hsp
  have KX : K.In s.heap := e0.mod.kin.keeps fun b o e => (e0.bs b o e).1
  have lim : s.heap.NoLimit := e0.mod.nolimit.keeps fun b o e => (e0.bs b o e).1
  have hkind : ∀ y ∈ ps.zip us, scope.names.lookup y.1 = some .local ∨ (scope.names.lookup y.1 = some .cell ∧ ((cellsFrom (s.heap.objs.size + 1) scope.names []).lookup y.1).isSome = true) := fun ⟨n, v⟩ hy => by
    rcases S.par n (List.of_mem_zip hy).1 with q | q
    · exact .inl q
    · exact .inr ⟨q, PySem.W.cellsFrom_some _ _ _ (.inl q)⟩
  refine codeAny_call_function hr.depth (KX _ _ lk) rfl S.co S.gen rfl (PySem.W.codeRec_of KX hcd) (hb _ _ _ _ ?_)
  refine wpAny_newFunctionEnv_cells S.kind hkind fun env he s1 x => ?_
  subst he
  refine ⟨lim.keeps x.toInCall.keep, codeAny_func ?_⟩
  obtain ⟨t, ht, hq⟩ := hbody A outer s H vs Q E (hr.deeper _) hsp
  have I : Inv (cxOf CX P w K mg base N qual scope f cdv A outer s H E) [] (start N vs) H s1 := inv_start S hr.hd e0 hl r x
  refine wpAny_mono (ht [] s1 (start N vs) H _ I hq) (fun fl s' hs => ?_) fun e s' hs => hs
  have fin : ∀ {σ' : St} {H' : Hp} {v : V} {u : Value}, Inv (cxOf CX P w K mg base N qual scope f cdv A outer s H E) [] σ' H' s' → RelV v u → Q v H' → CE outer P w H s Q u s' :=
    fun {σ' H' v u} J rv q => ⟨v, H', J.os, J.bare, J.base, J.hok, rv, q⟩
  cases fl with
  | ret u =>
    obtain ⟨v, σ', H', J, rv, q⟩ := hs
    exact fin J rv q
  | next =>
    obtain ⟨σ', H', J, q⟩ := hs
    exact fin (v := V.non) (u := Value.none) J rfl q
  | brk =>
    obtain ⟨_, _, _, q⟩ := hs
    exact False.elim q
  | cont =>
    obtain ⟨_, _, _, q⟩ := hs
    exact False.elim q
end L2
namespace L2
open PySem PySem.Spec PyProof.Rows
section
variable {X : Cx} {x : Str} {p pos : Pos} {e : Expr} {es : List Expr} {t : TA} {id T : String} {r : List V → Hp → VK → Prop}
def tCB (r : List V → Hp → VK → Prop) (t : TA) : TE := fun σ H Q => t σ H fun vs H1 => r vs H1 Q
theorem pe_callB (hc : CallR X (.builtin id) r) (hg : Gl X x) (hm : X.mg x = none) (hv : bootBuiltins x = some (.builtin id)) (ha : PA X (e :: es) t) (hn : x ≠ "__name__" := by decide) (hdb : (x == ("__debug__" : Str)) = false := by decide)
    (he : starEach (e :: es) X.env = (false, eval e X.env) :: starEach es X.env := by rfl) (hpl : (backTo pos (starEach es X.env)).any (·.1) = false := by rfl) : PE X (.Call (.Name x p) (e :: es) [] pos) (tCB r t) := by
  intro pins s σ H Q I h
  refine wpAny_Call_Name_kw (ld_blt I hg hm hv ?_ hn hdb)
  exact PyProof.Rows.callWith_builtin1 (thn (ha pos pins s σ H _ I h) fun us s1 ⟨vs, H1, I1, r1, q1⟩ => hc pins s1 σ H1 vs us Q I1 r1 q1) he hpl
theorem pe_callTy (hc : CallR X (.type T) r) (hg : Gl X x) (hm : X.mg x = none) (hv : bootBuiltins x = some (.type T)) (ha : PA X (e :: es) t) (hn : x ≠ "__name__" := by decide) (hdb : (x == ("__debug__" : Str)) = false := by decide)
    (he : starEach (e :: es) X.env = (false, eval e X.env) :: starEach es X.env := by rfl) (hpl : (backTo pos (starEach es X.env)).any (·.1) = false := by rfl) : PE X (.Call (.Name x p) (e :: es) [] pos) (tCB r t) := by
  intro pins s σ H Q I h
  refine wpAny_Call_Name_kw (ld_blt I hg hm hv ?_ hn hdb)
  exact PyProof.Rows.callWith_type1 (thn (ha pos pins s σ H _ I h) fun us s1 ⟨vs, H1, I1, r1, q1⟩ => hc pins s1 σ H1 vs us Q I1 r1 q1) he hpl
end
end L2
namespace HT
open PySem PyProof.Rows
section
variable {prog : Program} {w : World} {A : Around} {E : Value → Shared → Prop} {s : Shared}
def sIx (n d : Nat) : Option Int → Nat
  | none => d
  | some v => if v < 0 then (v + (n : Int)).toNat else min v.toNat n
theorem sIx_nat (n d k : Nat) : sIx n d (some (k : Int)) = min k n := by
  show (if (k : Int) < 0 then ((k : Int) + (n : Int)).toNat else min (k : Int).toNat n) = min k n
  rw [if_neg (by omega), Int.toNat_natCast]
theorem sIx_le (n d : Nat) (hd : d ≤ n) (o : Option Int) : sIx n d o ≤ n := by
  cases o with
  | none => exact hd
  | some v =>
    show (if v < 0 then (v + (n : Int)).toNat else min v.toNat n) ≤ n
    by_cases hv : v < 0
    · rw [if_pos hv]; omega
    · rw [if_neg hv]; exact Nat.min_le_right _ _
theorem clip_eq (v : Int) (n d : Nat) : (if v < 0 then max (v + (n : Int)) 0 else min v (n : Int)) = ((sIx n d (some v) : Nat) : Int) := by
  show (if v < 0 then max (v + (n : Int)) 0 else min v (n : Int)) = (((if v < 0 then (v + (n : Int)).toNat else min v.toNat n) : Nat) : Int)
  by_cases hv : v < 0
  · simp only [if_pos hv]; omega
  · simp only [if_neg hv]; omega
theorem adjust_gen (lo hi : Option Int) (n : Nat) : Builtin.Slice.sliceAdjust lo hi 1 (n : Int) = (((sIx n 0 lo : Nat) : Int), ((sIx n n hi : Nat) : Int)) := by
  have h1 : ¬ ((1 : Int) < 0) := by omega
  unfold Builtin.Slice.sliceAdjust
  simp only [h1, if_false]
  refine Prod.ext ?_ ?_
  · cases lo with
    | none => rfl
    | some v => exact clip_eq v n 0
  · cases hi with
    | none => rfl
    | some v => exact clip_eq v n n
theorem places_gen (i j : Nat) : Builtin.Slice.slicePlaces (i : Int) (j : Int) 1 = j - i := by
  unfold Builtin.Slice.slicePlaces
  have h1 : (1 : Int) > 0 := by omega
  simp only [h1, if_true, Int.ediv_one]
  split <;> omega
theorem slicePart_ {v : Value} {o : Option Int} {Q : Option Int → Shared → Prop} (p : IsPart v o) (h : Q o s) : wpAny (model prog w) A (Builtin.Slice.slicePartIndex v) Q E s := by
  cases p with
  | none => exact slicePart_none h
  | int i t => exact slicePart_int h
theorem sliceApplied_gen {sl : Addr} {vl vu : Value} {lo hi : Option Int} {n : Nat} {Q : Int × Int × Nat → Shared → Prop} (hs : s.heap.IsSliceOf sl vl vu .none) (pl : IsPart vl lo) (pu : IsPart vu hi)
    (h : Q (((sIx n 0 lo : Nat) : Int), 1, sIx n n hi - sIx n 0 lo) s) : wpAny (model prog w) A (Builtin.Slice.sliceApplied (.ref sl) (pure (n : Int))) Q E s := by
  obtain ⟨os, hos, hcs, hds⟩ := id hs
  unfold Builtin.Slice.sliceApplied Builtin.Slice.sliceFields
  refine wpAny_bind (wpAny_bind (wpAny_field hos hds (x := vl) rfl (wpAny_bind (wpAny_field hos hds (x := vu) rfl (wpAny_bind (wpAny_field hos hds (x := .none) rfl (wpAny_pure ?_)))))))
  refine wpAny_bind (slicePart_none ?_)
  show wpAny _ _ (if ((1 : Int) == 0) = true then _ else _) _ _ s
  rw [if_neg (by decide)]
  refine wpAny_bind (slicePart_ pl (wpAny_bind (slicePart_ pu (wpAny_bind (wpAny_pure ?_)))))
  show wpAny _ _ (match Builtin.Slice.sliceAdjust lo hi 1 (n : Int) with | (lo, hi) => pure (lo, (1 : Int), Builtin.Slice.slicePlaces lo hi 1)) _ _ s
  rw [adjust_gen lo hi n]
  show wpAny _ _ (pure (((sIx n 0 lo : Nat) : Int), (1 : Int), Builtin.Slice.slicePlaces ((sIx n 0 lo : Nat) : Int) ((sIx n n hi : Nat) : Int) 1)) _ _ s
  rw [places_gen]
  exact wpAny_pure h
theorem pick_gen (xs : Array Value) (i k : Nat) : ((List.range k).filterMap fun (m : Nat) => xs[((i : Int) + (m : Int) * 1).toNat]?).toArray = ((xs.toList.drop i).take k).toArray := by
  have e : (fun (m : Nat) => xs[((i : Int) + (m : Int) * 1).toNat]?) = fun m => xs[i + m]? := by
    funext m
    have : ((i : Int) + (m : Int) * 1).toNat = i + m := by omega
    rw [this]
  rw [e]
  have := pick_run xs i k
  rw [List.filterMap_map] at this
  have e2 : ((fun x => xs[x]?) ∘ fun x => i + x) = fun m => xs[i + m]? := rfl
  rw [e2] at this
  rw [this]
theorem getItem_tuple_cut {t sl : Addr} {items : Array Value} {vl vu : Value} {lo hi : Option Int} {Q : Value → Shared → Prop} (ht : IsTup s.heap t items) (hs : s.heap.IsSliceOf sl vl vu .none) (pl : IsPart vl lo) (pu : IsPart vu hi)
    (hw : ¬ (sIx items.size 0 lo = 0 ∧ sIx items.size items.size hi = items.size))
    (h : Q (.ref s.heap.objs.size) { s with heap := s.heap.push { cls := .type "tuple", data := .seq ((items.toList.drop (sIx items.size 0 lo)).take (sIx items.size items.size hi - sIx items.size 0 lo)).toArray } })
    (hsz : items.size ≤ sizeLine) : wpAny (model prog w) A (getItem (.ref t) (.ref sl)) Q E s := by
  have htake : sizeOk (.seq ((items.toList.drop (sIx items.size 0 lo)).take (sIx items.size items.size hi - sIx items.size 0 lo)).toArray) := by
    show ((items.toList.drop (sIx items.size 0 lo)).take (sIx items.size items.size hi - sIx items.size 0 lo)).toArray.size ≤ sizeLine
    rw [List.size_toArray, List.length_take, List.length_drop, Array.length_toList]
    omega
  have hj : sIx items.size items.size hi ≤ items.size := sIx_le _ _ (Nat.le_refl _) hi
  obtain ⟨os, hos, hcs, hds⟩ := id hs
  have hTs : s.TypeIs (.ref sl) "slice" := ⟨os, hos, hcs⟩
  unfold getItem
  try with_reducible refine wpAny_holding ?_
  first | refine wpAny_bind (wpAny_pure ?_) | skip
  refine wpAny_bind (wpAny_sequenceKey ht.typeIs (by decide) ?_)
  refine wpAny_bind (wpAny_callSpecial?_slot (name := Str.ofString "__getitem__") ht.typeIs PyProof.Rows.slot_tuple_getitem
    (wpAny_call_entry PyProof.Rows.slot_tuple_getitem ht.typeIs entry_tuple_getitem ?_ (args_tuple_getitem _ _)))
  show wpAny _ _ (Builtin.Tuple.tupleItemsOf (.ref t) >>= _) _ _ s
  refine wpAny_bind (tupleItemsOf_ ht ?_)
  refine wpAny_bind (wpAny_typeOf hTs ?_)
  rw [if_pos (by decide)]
  refine wpAny_bind (sliceApplied_gen hs pl pu ?_)
  have hno : ¬ ((((sIx items.size 0 lo : Nat) : Int) == 0 && (1 : Int) == 1 && (sIx items.size items.size hi - sIx items.size 0 lo) == items.size) = true) := by
    intro q
    rw [Bool.and_eq_true, Bool.and_eq_true] at q
    have q1 : ((sIx items.size 0 lo : Nat) : Int) = 0 := eq_of_beq q.1.1
    have q2 : sIx items.size items.size hi - sIx items.size 0 lo = items.size := eq_of_beq q.2
    exact hw ⟨by omega, by omega⟩
  show wpAny _ _ (if (((sIx items.size 0 lo : Nat) : Int) == 0 && (1 : Int) == 1 && (sIx items.size items.size hi - sIx items.size 0 lo) == items.size) = true then _ else _) _ _ s
  rw [if_neg hno, pick_gen]
  first
    | exact wpAny_bind (m := Builtin.Tuple.tupleExact _) (wpAny_newObj_type (wpAny_pure ⟨_, rfl, wpAny_pure h⟩) htake)
    | exact wpAny_bind (m := Builtin.Tuple.tupleExact _) (wpAny_newObj_type (wpAny_bind (wpAny_pure (wpAny_pure ⟨_, rfl, wpAny_pure h⟩))) htake)
    | exact wpAny_bind (wpAny_bind (m := Builtin.Tuple.tupleExact _) (wpAny_newObj_type (wpAny_pure (wpAny_pure ⟨_, rfl, wpAny_pure h⟩)) htake))
    | exact wpAny_bind (wpAny_bind (m := Builtin.Tuple.tupleExact _) (wpAny_newObj_type (wpAny_pure ⟨_, rfl, wpAny_pure h⟩) htake))
end
end HT
namespace L2
open PySem PySem.Spec PyProof.Rows
abbrev TO := St → Hp → (Option Int → Hp → Prop) → Prop
def PO (X : Cx) (e : Option Expr) (t : TO) : Prop :=
  ∀ (pins : List (Addr × Obj)) (s : Shared) (σ : St) (H : Hp) (Q : Option Int → Hp → Prop), Inv X pins σ H s → t σ H Q →
    wpAny (model X.prog X.w) X.A (evalPart e X.env) (fun u s' => ∃ o H', Inv X pins σ H' s' ∧ IsPart u o ∧ Q o H') X.xe s
def tNoPart : TO := fun _ H Q => Q none H
def tPart (t : TE) : TO := fun σ H Q => t σ H fun x H1 => ∃ i, x = .int i ∧ Q (some i) H1
theorem intsAre_of {ns : List Int} : ∀ {us : List Value}, Vals (ns.map V.int) us → IntsAre us ns := by
  induction ns with
  | nil => intro us r; rw [List.map_nil] at r; cases r; exact .nil
  | cons n ns ih =>
    intro us r
    rw [List.map_cons] at r
    cases r with
    | cons r1 r2 =>
      obtain ⟨t, e⟩ := r1
      subst e
      exact .cons n t (ih r2)
section
variable {X : Cx} {e : Expr} {te : TE} {lo hi : Option Expr} {tl th : TO} {pos p2 : Pos}
theorem po_none : PO X none tNoPart := by
  intro pins s σ H Q I h
  rw [evalPart_none]
  exact wpAny_pure ⟨none, H, I, .none, h⟩
theorem po_some (h : PE X e te) : PO X (some e) (tPart te) := by
  intro pins s σ H Q I hw
  rw [evalPart_some]
  refine thn (h pins s σ H _ I hw) fun u s1 ⟨x, H1, I1, r1, q1⟩ => ?_
  obtain ⟨i, rfl, q⟩ := q1
  obtain ⟨t, rfl⟩ := r1
  exact ⟨some i, H1, I1, .int i t, q⟩
def SlR (X : Cx) (r : V → Option Int → Option Int → Hp → VK → Prop) : Prop :=
  ∀ (pins : List (Addr × Obj)) (s : Shared) (σ : St) (H : Hp) (x : V) (v vl vu : Value) (lo hi : Option Int) (sl : Addr) (Q : VK), Inv X pins σ H s → RelV x v → s.heap.IsSliceOf sl vl vu .none → IsPart vl lo → IsPart vu hi → r x lo hi H Q →
    ∃ T id, typeLookup (.type T) "__getitem__" = pure (some (.builtin id)) ∧ s.TypeIs v T ∧ wpAny (model X.prog X.w) X.A (getItem v (.ref sl)) (EP X pins σ Q) X.xe s
theorem SlR.or {r r' : V → Option Int → Option Int → Hp → VK → Prop} (h : SlR X r) (h' : SlR X r') : SlR X (fun x lo hi H Q => r x lo hi H Q ∨ r' x lo hi H Q) := by
  intro pins s σ H x v vl vu lo hi sl Q I rx hs pl pu q
  rcases q with q | q
  · exact h pins s σ H x v vl vu lo hi sl Q I rx hs pl pu q
  · exact h' pins s σ H x v vl vu lo hi sl Q I rx hs pl pu q
def tSl (r : V → Option Int → Option Int → Hp → VK → Prop) (te : TE) (tl th : TO) : TE := fun σ H Q => te σ H fun x H1 => tl σ H1 fun l H2 => th σ H2 fun u H3 => r x l u H3 Q
theorem pe_slice {r : V → Option Int → Option Int → Hp → VK → Prop} (hr : SlR X r) (he : PE X e te) (hl : PO X lo tl) (hu : PO X hi th) : PE X (.Subscript e (.Slice lo hi none p2) pos) (tSl r te tl th) := by
  intro pins s σ H Q I h
  refine Subscript_ (thn (he pins s σ H _ I h) fun v s1 ⟨x, H1, I1, r1, q1⟩ => ?_)
  refine wpAny_Slice (thn (hl pins s1 σ H1 _ I1 q1) fun vl s2 ⟨l, H2, I2, pl, q2⟩ => thn (hu pins s2 σ H2 _ I2 q2) fun vu s3 ⟨u, H3, I3, pu, q3⟩ => ?_)
  rw [evalPart_none]
  refine wpAny_pure ?_
  have I4 : Inv X pins σ H3 { s3 with heap := s3.heap.push { cls := .type "slice", data := .fields #[vl, vu, .none] } } := I3.kept (t' := s3.toks) fun b ob q => Heap.get?_push_of_some _ q
  obtain ⟨T, id, hT, ht, hg⟩ := hr pins { s3 with heap := s3.heap.push { cls := .type "slice", data := .fields #[vl, vu, .none] } } σ H3 x v vl vu l u s3.heap.objs.size Q I4 r1 (Heap.IsSliceOf.new ..) pl pu q3
  show wpAny (model X.prog X.w) X.A (subscriptTail e (.Slice lo hi none p2) v (.ref s3.heap.objs.size)) (EP X pins σ Q) X.xe { s3 with heap := s3.heap.push { cls := .type "slice", data := .fields #[vl, vu, .none] } }
  exact tail_any (ops := [.ref s3.heap.objs.size, v]) ht hT hg (by with_unfolding_all rfl)
def cutV (xs : List V) (lo hi : Option Int) : List V := (xs.drop (HT.sIx xs.length 0 lo)).take (HT.sIx xs.length xs.length hi - HT.sIx xs.length 0 lo)
theorem cutV_length (xs : List V) (lo hi : Option Int) : (cutV xs lo hi).length ≤ xs.length := by
  unfold cutV
  rw [List.length_take, List.length_drop]
  omega
def rSlT (K : PySem.W.Frag) : V → Option Int → Option Int → Hp → VK → Prop := fun x lo hi H Q => ∃ a xs, x = .ref a ∧ SqT K H a xs ∧
  ¬ (HT.sIx xs.length 0 lo = 0 ∧ HT.sIx xs.length xs.length hi = xs.length) ∧ ∀ p, H p = none → Q (.ref p) (upd H p (.tup (cutV xs lo hi)))
theorem sl_tup : SlR X (rSlT X.K) := by
  intro pins s σ H x v vl vu lo hi sl Q I rx hs pl pu h
  obtain ⟨a, xs, rfl, hx, hw, q⟩ := h
  cases rx
  obtain ⟨its, r, ht, hz⟩ := I.tuple hx
  have hlen : its.toArray.size = xs.length := by rw [List.size_toArray]; exact r.length.symm
  refine ⟨"tuple", _, PyProof.Rows.slot_tuple_getitem.lookup, ht.typeIs, ?_⟩
  refine HT.getItem_tuple_cut ht hs pl pu (by rw [hlen]; exact hw) ?_ (by rw [hlen]; exact hz)
  rw [hlen]
  refine ⟨.ref s.heap.objs.size, _, I.laid (t' := s.toks) (o := .tup (cutV xs lo hi)) (fun b ob q => Heap.get?_push_of_some _ q) (Nat.le_refl _) ?_, rfl, q _ (I.hok.fresh (Nat.le_refl _))⟩
  exact ⟨Nat.le_trans (cutV_length xs lo hi) hz, _, (r.drop (HT.sIx xs.length 0 lo)).take (HT.sIx xs.length xs.length hi - HT.sIx xs.length 0 lo), IsTup.new _ _⟩
end
end L2
namespace L2
open PySem PySem.Spec PyProof.Rows
def ixN (n : Nat) (i : Int) : Option Nat := if 0 ≤ i then (if i < n then some i.toNat else none) else if -(n : Int) ≤ i then some (i + n).toNat else none
def atI {α : Type} (xs : List α) (i : Int) : Option α := (ixN xs.length i).bind fun j => xs[j]?
theorem ixN_seq {n : Nat} {i : Int} {j : Nat} (h : ixN n i = some j) : seqIndex? i n = some j ∧ j < n ∧ -(n : Int) ≤ i ∧ i < n := by
  unfold ixN at h
  by_cases h0 : 0 ≤ i
  · rw [if_pos h0] at h
    by_cases h1 : i < n
    · rw [if_pos h1] at h
      have e : i.toNat = j := Option.some.inj h
      exact ⟨by rw [seqIndex_of h0 h1, e], by omega, by omega, h1⟩
    · rw [if_neg h1] at h; cases h
  · rw [if_neg h0] at h
    by_cases h1 : -(n : Int) ≤ i
    · rw [if_pos h1] at h
      have e : (i + n).toNat = j := Option.some.inj h
      exact ⟨by rw [seqIndex_neg (by omega) h1, e], by omega, h1, by omega⟩
    · rw [if_neg h1] at h; cases h
theorem atI_get {α : Type} {xs : List α} {i : Int} {v : α} (h : atI xs i = some v) : ∃ j, seqIndex? i xs.length = some j ∧ xs[j]? = some v ∧ j < xs.length ∧ -(xs.length : Int) ≤ i ∧ i < xs.length := by
  unfold atI at h
  cases e : ixN xs.length i with
  | none => rw [e] at h; cases h
  | some j =>
    rw [e] at h
    obtain ⟨h1, h2, h3, h4⟩ := ixN_seq e
    exact ⟨j, h1, h, h2, h3, h4⟩
theorem atI_nat {α : Type} {xs : List α} {j : Nat} {v : α} (h : xs[j]? = some v) : atI xs (j : Int) = some v := by
  have hj : j < xs.length := (List.getElem?_eq_some_iff.mp h).1
  have e : ixN xs.length (j : Int) = some j := by
    unfold ixN
    rw [if_pos (by omega), if_pos (by omega)]; simp
  unfold atI; rw [e]; exact h
def PlainIx (b : Expr) : Prop := ∀ o i, subscripted b false o i = operate [o, i] (getItem o i)
def IxR (X : Cx) (r : R2) : Prop :=
  ∀ (value slice : Expr) (pins : List (Addr × Obj)) (s : Shared) (σ : St) (H : Hp) (x y : V) (v u : Value) (Q : VK), Inv X pins σ H s → RelV x v → RelV y u → r x y H Q →
    subscripted slice false v u = operate [v, u] (getItem v u) → wpAny (model X.prog X.w) X.A (subscriptTail value slice v u) (EP X pins σ Q) X.xe s
def MtR (X : Cx) (id : String) (r : V → List V → Hp → VK → Prop) : Prop :=
  ∀ (pins : List (Addr × Obj)) (s : Shared) (σ : St) (H : Hp) (x : V) (xs : List V) (v : Value) (us : List Value) (Q : VK), Inv X pins σ H s → RelV x v → Vals xs us → r x xs H Q →
    wpAny (model X.prog X.w) X.A (call (.builtin id) (v :: us)) (EP X pins σ Q) X.xe s
section
variable {X : Cx} {a b : Expr} {ta tb : TE} {pos : Pos}
theorem IxR.or {r r' : R2} (h : IxR X r) (h' : IxR X r') : IxR X (fun x y H Q => r x y H Q ∨ r' x y H Q) := by
  intro value slice pins s σ H x y v u Q I rx ry q hs
  rcases q with q | q
  · exact h value slice pins s σ H x y v u Q I rx ry q hs
  · exact h' value slice pins s σ H x y v u Q I rx ry q hs
theorem pe_ix {r : R2} (hr : IxR X r) (ha : PE X a ta) (hb : PE X b tb) (hs : PlainIx b) : PE X (.Subscript a b pos) (tOp r ta tb) := by
  intro pins s σ H Q I h
  exact Subscript_ (binT ha hb I h fun v u s2 x y H2 I2 rx ry q => hr a b pins s2 σ H2 x y v u Q I2 rx ry q (hs _ _))
def rIxL (K : PySem.W.Frag) : R2 := fun x y H Q => ∃ p xs i v, x = .ref p ∧ y = .int i ∧ SqL K H p xs ∧ atI xs i = some v ∧ Q v H
def rIxT (K : PySem.W.Frag) : R2 := fun x y H Q => ∃ p xs i v, x = .ref p ∧ y = .int i ∧ SqT K H p xs ∧ atI xs i = some v ∧ Q v H
def rIxS : R2 := fun x y H Q => ∃ z i c, x = .str z ∧ y = .int i ∧ z.length ≤ sizeLine ∧ atI z.cps.toList i = some c ∧ Q (.str ⟨#[c]⟩) H
theorem ix_list : IxR X (rIxL X.K) := by
  intro value slice pins s σ H x y v u Q I rx ry h hs
  obtain ⟨p, xs, i, z, rfl, rfl, hq, he, q⟩ := h
  cases rx
  obtain ⟨t, rfl⟩ := ry
  obtain ⟨its, r, pl, hz⟩ := I.list hq
  obtain ⟨j, h1, h2, h3, h4, h5⟩ := atI_get he
  obtain ⟨w, ew, rw'⟩ := r.get h2
  have hl := r.length
  have hn := line63
  have fin : EP X pins σ Q w s := ⟨z, H, I, rw', q⟩
  by_cases h0 : 0 ≤ i
  · have hj : i.toNat = j := by
      rw [seqIndex_of h0 h5] at h1
      exact Option.some.inj h1
    exact item_listR pl.isList h0 (by omega) (by rw [hj]; simpa using ew) fin hs
  · have hj : (i + (its.toArray.size : Int)).toNat = j := by
      rw [seqIndex_neg (by omega) h4] at h1
      rw [List.size_toArray, ← hl]
      exact Option.some.inj h1
    exact subscriptTail_builtinR (x := w) pl.isList.typeIs slot_list_getitem.lookup
      (wpAny_getItem_list_neg (Q := fun r s' => r = w ∧ EP X pins σ Q r s') pl.isList (by omega) (by rw [List.size_toArray] <;> omega) (by omega) (by rw [hj]; simpa using ew) ⟨rfl, fin⟩) hs
theorem ix_tup : IxR X (rIxT X.K) := by
  intro value slice pins s σ H x y v u Q I rx ry h hs
  obtain ⟨p, xs, i, z, rfl, rfl, hq, he, q⟩ := h
  cases rx
  obtain ⟨t, rfl⟩ := ry
  obtain ⟨its, r, pl, hz⟩ := I.tuple hq
  obtain ⟨j, h1, h2, h3, h4, h5⟩ := atI_get he
  obtain ⟨w, ew, rw'⟩ := r.get h2
  have hl := r.length
  have hn := line63
  have fin : EP X pins σ Q w s := ⟨z, H, I, rw', q⟩
  exact subscriptTail_builtinR (x := w) pl.typeIs slot_tuple_getitem.lookup
    (getItem_tuple (j := j) (Q := fun r s' => r = w ∧ EP X pins σ Q r s') pl (by omega) (by omega) (by rw [List.size_toArray, ← hl]; exact h1) (by simpa using ew) ⟨rfl, fin⟩) hs
theorem ix_str : IxR X rIxS := by
  intro value slice pins s σ H x y v u Q I rx ry h hs
  obtain ⟨z, i, c, rfl, rfl, hz, he, q⟩ := h
  obtain ⟨t, rfl⟩ := rx
  obtain ⟨t', rfl⟩ := ry
  obtain ⟨j, h1, h2, h3, h4, h5⟩ := atI_get he
  have hl : z.cps.toList.length = z.length := by simp [Str.length]
  rw [hl] at h1 h4 h5
  have hn := line63
  exact tail_any (typeIs_str s z t) slot_str_getitem.lookup (getItem_str (c := c) (by
    have e1 : decide (i < -(2 ^ 63 : Int)) = false := decide_eq_false (by omega)
    have e2 : decide (i ≥ 2 ^ 63) = false := decide_eq_false (by omega)
    rw [e1, e2, Bool.or_false]) (by rw [h1]; simpa using h2) ⟨.str ⟨#[c]⟩, H, I.tok _, ⟨_, rfl⟩, q⟩) hs
def rIx (K : PySem.W.Frag) : R2 := fun x y H Q => rIxL K x y H Q ∨ rIxT K x y H Q ∨ rIxS x y H Q
theorem ix_seq : IxR X (rIx X.K) := ix_list.or (ix_tup.or ix_str)
theorem mapSeq_set (its : List Value) (n j : Nat) (u : Value) : Obj.mapSeq (·.setIfInBounds j u) { cls := .type "list", data := .seq its.toArray n } = { cls := .type "list", data := .seq (its.set j u).toArray n } := by
  simp [Obj.mapSeq]
theorem Inv.lst {pins : List (Addr × Obj)} {σ : St} {H : Hp} {s : Shared} {p : Addr} {xs : List V} (I : Inv X pins σ H s) (h : H p = some (.lst xs)) :
    ∃ (its : List Value) (n : Nat), Vals xs its ∧ s.heap.get? p = some { cls := .type "list", data := .seq its.toArray n } ∧ xs.length ≤ sizeLine := by
  obtain ⟨z, its, n, r, e⟩ := I.hok p _ h
  exact ⟨its, n, r, e, z⟩
theorem Inv.lstUpd {pins : List (Addr × Obj)} {σ : St} {H : Hp} {s : Shared} {p : Addr} {xs ys : List V} {its its' : List Value} {n n' : Nat} {f : Obj → Obj} (I : Inv X pins σ H s) (h : H p = some (.lst xs))
    (ho : s.heap.get? p = some { cls := .type "list", data := .seq its.toArray n }) (hf : f { cls := .type "list", data := .seq its.toArray n } = { cls := .type "list", data := .seq its'.toArray n' }) (r : Vals ys its') (hz : ys.length ≤ sizeLine) (t : Nat) :
    Inv X pins σ (upd H p (.lst ys)) { s with heap := s.heap.update p f, toks := t } := by
  have e : (s.heap.update p f).get? p = some { cls := .type "list", data := .seq its'.toArray n' } := by
    rw [Heap.get?_update_self f ho (by rw [hf] <;> rfl), hf]
  refine I.write (x := p) (e := p) (by rw [h]; trivial) (.inl rfl) (fun b u hb q => (Heap.get?_update_other _ _ (Ne.symm hb)).trans q) ⟨_, e⟩ ?_
  exact ⟨hz, its', n', r, e⟩
def rSetL : V → V → V → Hp → (Hp → Prop) → Prop := fun o i v H Q => ∃ p xs k j, o = .ref p ∧ i = .int k ∧ H p = some (.lst xs) ∧ ixN xs.length k = some j ∧ Q (upd H p (.lst (xs.set j v)))
theorem set_list : PSet X rSetL := by
  intro pins s σ H o i v ov iv u Q I ro ri rv h
  obtain ⟨p, xs, k, j, rfl, rfl, hp, hj, q⟩ := h
  cases ro
  obtain ⟨t, rfl⟩ := ri
  obtain ⟨its, n, r, ho, hz⟩ := I.lst hp
  obtain ⟨h1, h2, h3, h4⟩ := ixN_seq hj
  have hl := r.length
  have hn := line63
  have I' : Inv X pins σ (upd H p (.lst (xs.set j v))) { s with heap := s.heap.update p (Obj.mapSeq (·.setIfInBounds j u)) } :=
    I.lstUpd hp ho (mapSeq_set its n j u) (r.set rv j) (by rw [List.length_set]; exact hz) s.toks
  by_cases h0 : 0 ≤ k
  · have hk : k.toNat = j := by
      rw [seqIndex_of h0 h4] at h1
      exact Option.some.inj h1
    exact PySem.W.ki_setAt ho h0 (by omega) (by rw [List.size_toArray, ← hl]; exact h4) (by rw [hk]; exact ⟨_, I', q⟩)
  · have hk : (k + (its.toArray.size : Int)).toNat = j := by
      rw [seqIndex_neg (by omega) h3] at h1
      rw [List.size_toArray, ← hl]
      exact Option.some.inj h1
    exact PySem.W.ki_setBack ho (by omega) (by rw [List.size_toArray, ← hl]; exact h3) (by omega) (by rw [hk]; exact ⟨_, I', q⟩)
theorem slice_bounds (lo hi : Option Int) (n : Nat) : (sliceBounds lo hi none n).1 = ((HT.sIx n 0 lo : Nat) : Int) ∧ (sliceBounds lo hi none n).2.1 = ((HT.sIx n n hi : Nat) : Int) ∧ (sliceBounds lo hi none n).2.2 = 1 := by
  refine ⟨?_, ?_, rfl⟩
  · cases lo with
    | none => simp [sliceBounds, HT.sIx]
    | some i =>
      simp only [sliceBounds, HT.sIx, Option.getD_none, show (1 : Int) > 0 by decide, if_true]
      by_cases h : i < 0
      · simp only [h, if_true] <;> omega
      · simp only [h, if_false] <;> omega
  · cases hi with
    | none => simp [sliceBounds, HT.sIx]
    | some i =>
      simp only [sliceBounds, HT.sIx, Option.getD_none, show (1 : Int) > 0 by decide, if_true]
      by_cases h : i < 0
      · simp only [h, if_true] <;> omega
      · simp only [h, if_false] <;> omega
theorem slicePick_cut (its : List Value) (lo hi : Option Int) : slicePick its.toArray lo hi none = ((its.drop (HT.sIx its.length 0 lo)).take (HT.sIx its.length its.length hi - HT.sIx its.length 0 lo)).toArray := by
  obtain ⟨h1, h2, h3⟩ := slice_bounds lo hi its.toArray.size
  unfold slicePick
  rw [h1, h2, h3]
  simp only [sliceRange_one, pick_run, List.size_toArray] <;> rfl
def rSlL (K : PySem.W.Frag) : V → Option Int → Option Int → Hp → VK → Prop := fun x lo hi H Q => ∃ a xs, x = .ref a ∧ SqL K H a xs ∧ ∀ p, H p = none → Q (.ref p) (upd H p (.lst (cutV xs lo hi)))
theorem sl_list : SlR X (rSlL X.K) := by
  intro pins s σ H x v vl vu lo hi sl Q I rx hs pl pu h
  obtain ⟨a, xs, rfl, hx, q⟩ := h
  cases rx
  obtain ⟨its, r, ht, hz⟩ := I.list hx
  have hlen := r.length
  refine ⟨"list", _, slot_list_getitem.lookup, ht.isList.typeIs, ?_⟩
  refine wpAny_getItem_list_slice ht.isList hs pl pu .none (by simp) ?_ (by rw [List.size_toArray] <;> omega)
  rw [slicePick_cut, ← hlen]
  refine ⟨.ref s.heap.objs.size, _, I.laid (t' := s.toks) (o := .lst (cutV xs lo hi)) (fun b ob q => Heap.get?_push_of_some _ q) (Nat.le_refl _) ?_, rfl, q _ (I.hok.fresh (Nat.le_refl _))⟩
  exact ⟨Nat.le_trans (cutV_length xs lo hi) hz, _, 0, (r.drop (HT.sIx xs.length 0 lo)).take (HT.sIx xs.length xs.length hi - HT.sIx xs.length 0 lo), Heap.get?_push_size _ rfl⟩
theorem CallR.or {f : Value} {r r' : List V → Hp → VK → Prop} (h : CallR X f r) (h' : CallR X f r') : CallR X f (fun xs H Q => r xs H Q ∨ r' xs H Q) := by
  intro pins s σ H xs us Q I rs q
  rcases q with q | q
  · exact h pins s σ H xs us Q I rs q
  · exact h' pins s σ H xs us Q I rs q
theorem call_list_of : CallR X (.type "list") (fun xs H Q => ∃ p ys, xs = [.ref p] ∧ (SqL X.K H p ys ∨ SqT X.K H p ys) ∧ ∀ l, H l = none → Q (.ref l) (upd H l (.lst ys))) := by
  intro pins s σ H xs us Q I r h
  obtain ⟨p, ys, rfl, hq, q⟩ := h
  obtain ⟨u, rfl, rx⟩ := vals1 r
  cases rx
  have fin : ∀ (its : List Value), Vals ys its → ys.length ≤ sizeLine → ∀ (h' : Heap) (c' : Nat), (∀ b o', s.heap.get? b = some o' → h'.get? b = some o') →
      h'.get? s.heap.objs.size = some { cls := .type "list", dict := none, data := .seq its.toArray c', slots := #[] } → EP X pins σ Q (.ref s.heap.objs.size) { s with heap := h' } := fun its r' hz h' c' kp e =>
    ⟨.ref s.heap.objs.size, _, I.laid (t' := s.toks) kp (Nat.le_refl _) (show ObjOk X.prog X.w _ h' _ (.lst ys) from ⟨hz, its, c', r', e⟩), rfl, q _ (I.hok.fresh (Nat.le_refl _))⟩
  rcases hq with hq | hq
  · obtain ⟨its, r', pl, hz⟩ := I.list hq
    have hlen := r'.length
    obtain ⟨o, ho, hc, n, hd⟩ := pl.isList
    exact call_list_seq p (.inl rfl) ho hc hd (fun h' c' kp e => fin its r' hz h' c' kp e) (by simp only [List.size_toArray] <;> omega)
  · obtain ⟨its, r', pl, hz⟩ := I.tuple hq
    have hlen := r'.length
    obtain ⟨o, ho, hc, n, hd⟩ := pl
    exact call_list_seq p (.inr rfl) ho hc hd (fun h' c' kp e => fin its r' hz h' c' kp e) (by simp only [List.size_toArray] <;> omega)
theorem call_tuple_of : CallR X (.type "tuple") (fun xs H Q => ∃ p ys, xs = [.ref p] ∧ ((SqL X.K H p ys ∧ ∀ l, H l = none → Q (.ref l) (upd H l (.tup ys))) ∨ (SqT X.K H p ys ∧ Q (.ref p) H))) := by
  intro pins s σ H xs us Q I r h
  obtain ⟨p, ys, rfl, h⟩ := h
  obtain ⟨u, rfl, rx⟩ := vals1 r
  cases rx
  rcases h with ⟨hq, q⟩ | ⟨hq, q⟩
  · obtain ⟨its, r', pl, hz⟩ := I.list hq
    have hlen := r'.length
    refine call_tuple_list pl.isList (fun h' kp => ?_) (by simp only [List.size_toArray] <;> omega)
    have I1 : Inv X pins σ H { s with heap := h' } := I.kept (t' := s.toks) kp
    have I2 : Inv X pins σ (upd H h'.objs.size (.tup ys)) { s with heap := h'.push { cls := .type "tuple", data := .seq its.toArray } } :=
      I1.laid (t' := s.toks) (fun b o e => Heap.get?_push_of_some _ e) (Nat.le_refl _) (show ObjOk X.prog X.w _ _ _ (.tup ys) from ⟨hz, its, r', IsTup.new _ _⟩)
    exact ⟨.ref h'.objs.size, _, I2, rfl, q _ (I1.hok.fresh (Nat.le_refl _))⟩
  · obtain ⟨its, r', pl, hz⟩ := I.tuple hq
    exact call_tuple_same pl ⟨.ref p, H, I, rfl, q⟩
def tyV (K : PySem.W.Frag) (T : String) (x : V) (H : Hp) : Prop := match x with
  | .str _ => T = "str"
  | .int _ => T = "int"
  | .ref p => (T = "list" ∧ ∃ xs, SqL K H p xs) ∨ (T = "tuple" ∧ ∃ o, K.lookup p = some o ∧ o.cls = .type "tuple" ∧ o.dict = none) ∨
      (T = "dict" ∧ ((∃ kvs, H p = some (.dK kvs)) ∨ ∃ kvs, H p = some (.dT kvs))) ∨ (T = "set" ∧ ∃ S n, H p = some (.set S n))
  | _ => False
theorem tyV_is {pins : List (Addr × Obj)} {σ : St} {H : Hp} {s : Shared} {T : String} {x : V} {v : Value} (I : Inv X pins σ H s) (r : RelV x v) (ty : tyV X.K T x H) :
    s.TypeIs v T ∧ ∀ a, v = .ref a → ∃ ob, s.heap.get? a = some ob ∧ ob.dict = none := by
  cases x with
  | str z =>
    obtain ⟨t, rfl⟩ := r
    cases (show T = "str" from ty)
    exact ⟨typeIs_str s z t, fun _ e => nomatch e⟩
  | int i =>
    obtain ⟨t, rfl⟩ := r
    cases (show T = "int" from ty)
    exact ⟨typeIs_int s i t, fun _ e => nomatch e⟩
  | ref p =>
    cases r
    rcases ty with ⟨rfl, xs, hq⟩ | ⟨rfl, o, hk, hc, hd⟩ | ⟨rfl, hk⟩ | ⟨rfl, S, n, hk⟩
    · obtain ⟨its, _, pl, _⟩ := I.list hq
      refine ⟨pl.isList.typeIs, fun a e => ?_⟩
      cases e
      obtain ⟨o, n, e, c, hd, _⟩ := pl
      exact ⟨o, e, hd⟩
    · refine ⟨⟨o, I.kIn p o hk, hc⟩, fun a e => ?_⟩
      cases e
      exact ⟨o, I.kIn _ o hk, hd⟩
    · have z : ∃ o, s.heap.get? p = some o ∧ o.ExactDict := by
        rcases hk with ⟨kvs, hk⟩ | ⟨kvs, hk⟩
        · obtain ⟨_, _, _, _, o, _, _, e, ex, _⟩ := I.hok p _ hk
          exact ⟨o, e, ex⟩
        · obtain ⟨_, _, _, _, o, _, _, e, ex, _⟩ := I.hok p _ hk
          exact ⟨o, e, ex⟩
      obtain ⟨o, e, ex⟩ := z
      refine ⟨⟨o, e, ex.1⟩, fun a e2 => ?_⟩
      cases e2
      exact ⟨o, e, ex.2.1⟩
    · obtain ⟨o, _, _, _, e, ex, _⟩ := I.hok p _ hk
      refine ⟨⟨o, e, ex.1⟩, fun a e2 => ?_⟩
      cases e2
      exact ⟨o, e, ex.2.1⟩
  | _ => exact False.elim ty
def tBM (K : PySem.W.Frag) (T : String) (r : V → List V → Hp → VK → Prop) (to : TE) (t : TA) : TE := fun σ H Q => to σ H fun x H1 => tyV K T x H1 ∧ t σ H1 fun xs H2 => r x xs H2 Q
variable {o e : Expr} {es : List Expr} {to : TE} {t : TA} {name : Str} {apos cpos : Pos} {T id : String} {r : V → List V → Hp → VK → Prop}
theorem pe_bm (pa : PlainAttrs T) (slot : Slot T name id) (hty : typeOf (.builtin id) = pure (.type "method_descriptor")) (hm : MtR X id r) (ho : PE X o to) (ha : PA X (e :: es) t)
    (hbase : attributeBase o name X.env (eval o X.env) = eval o X.env := by rfl)
    (hfew : ((backTo cpos (starEach (e :: es) X.env)).all (fun x => !x.1) && (backToKw cpos (keywordEach [] X.env)).all (fun x => x.1.isSome)
      && decide ((e :: es).length + ([] : List Keyword).length + (if ([] : List Keyword).isEmpty then 0 else 1) < 30)) = true := by rfl)
    (hline : (apos.endLine == cpos.line) = true := by rfl) (hs : starEach (e :: es) X.env = (false, eval e X.env) :: starEach es X.env := by rfl) (hplain : (backTo cpos (starEach es X.env)).any (·.1) = false := by rfl) :
    PE X (.Call (.Attribute o name apos) (e :: es) [] cpos) (tBM X.K T r to t) := by
  intro pins s σ H Q I h
  refine wpAny_Call_method_late hbase hfew hline rfl (thn (ho pins s σ H _ I h) fun v s1 ⟨x, H1, I1, r1, ty, q1⟩ => ?_)
  obtain ⟨h1, h2⟩ := tyV_is I1 r1 ty
  refine ⟨T, id, pa, slot, hty, h1, h2, ?_⟩
  have hA := ha cpos pins s1 σ H1 _ I1 q1
  rw [hs] at hA ⊢
  refine Calls.callWith_builtin (by show (false || (backTo cpos (starEach es X.env)).any (·.1)) = false; rw [hplain] <;> rfl) (Calls.evalArgs_plain ?_)
  exact thn hA fun us s2 ⟨vs, H2, I2, r2, q2⟩ => hm pins s2 σ H2 x vs v us Q I2 r1 r2 q2
end
end L2
namespace L2
open PySem PySem.Spec PyProof.Rows
def MtM (X : Cx) (id : String) (r : V → List V → Hp → VK → Prop) : Prop :=
  ∀ (pins : List (Addr × Obj)) (s : Shared) (σ : St) (H : Hp) (x : V) (xs : List V) (v : Value) (us : List Value) (Q : VK), Inv X pins σ H s → RelV x v → Vals xs us → r x xs H Q →
    wpAny (model X.prog X.w) X.A (call (.builtin id) (v :: us)) (EP X pins σ Q) X.xe s
theorem Vals.one : ∀ {x : V} {us : List Value}, Vals [x] us → ∃ u, us = [u] ∧ RelV x u
  | _, _, .cons r .nil => ⟨_, rfl, r⟩
section
variable {X : Cx} {pins : List (Addr × Obj)} {σ : St} {H : Hp} {s : Shared} {l b : Addr} {xs ys zs : List V}
theorem Inv.lset {its its' : List Value} {n : Nat} {f : Array Value → Array Value} {t' : Nat} (I : Inv X pins σ H s) (hH : H l = some (.lst xs))
    (e : s.heap.get? l = some { cls := .type "list", data := .seq its.toArray n }) (hf : f its.toArray = its'.toArray) (hv : Vals ys its') (hz : ys.length ≤ sizeLine) :
    Inv X pins σ (upd H l (.lst ys)) { s with heap := s.heap.update l (Obj.mapSeq f), toks := t' } := by
  have q := PySem.IsL.update e f
  rw [hf] at q
  refine I.write (x := l) (e := l) (by rw [hH]; exact trivial) (.inl rfl) (fun b' u hb hu => (Heap.get?_update_other s.heap (Obj.mapSeq f) (Ne.symm hb)).trans hu) ⟨_, q⟩ ?_
  exact ⟨hz, its', _, hv, q⟩
theorem Inv.lnew {its : List Value} {t' : Nat} (I : Inv X pins σ H s) (hv : Vals ys its) (hz : ys.length ≤ sizeLine) :
    Inv X pins σ (upd H s.heap.objs.size (.lst ys)) { s with heap := s.heap.push { cls := .type "list", data := .seq its.toArray }, toks := t' } :=
  I.laid (fun _ _ q => Heap.get?_push_of_some _ q) (Nat.le_refl _) ⟨hz, its, 0, hv, Heap.get?_push_size _ rfl⟩
theorem Inv.fresh (I : Inv X pins σ H s) : H s.heap.objs.size = none := I.hok.fresh (Nat.le_refl _)
theorem Inv.lstM (I : Inv X pins σ H s) (hH : H l = some (.lst xs)) : xs.length ≤ sizeLine ∧ ∃ (its : List Value) (n : Nat), Vals xs its ∧ xs.length = its.length ∧ s.heap.get? l = some { cls := .type "list", data := .seq its.toArray n } := by
  obtain ⟨z, its, n, r, e⟩ := I.hok l _ hH
  exact ⟨z, its, n, r, r.length, e⟩
theorem notLongL {n : Nat} (h : n ≤ sizeLine) : Builtin.List.listTooLong n = false := by
  unfold Builtin.List.listTooLong
  exact decide_eq_false (by omega)
end
section
variable {X : Cx}
def rAppend : V → List V → Hp → VK → Prop := fun x vs H Q => ∃ l xs y, x = .ref l ∧ vs = [y] ∧ H l = some (.lst xs) ∧ xs.length < sizeLine ∧ Q .non (upd H l (.lst (xs ++ [y])))
theorem mt_append : MtM X "list.append" rAppend := by
  intro pins s σ H x vs v us Q I rx rv h
  obtain ⟨l, xs, y, rfl, rfl, hH, hz, q⟩ := h
  cases rx
  obtain ⟨u, rfl, ru⟩ := rv.one
  obtain ⟨z, its, n, r, hl, e⟩ := I.lstM hH
  refine call_meets F.slot_list_append ⟨_, e, rfl⟩ F.entry_list_append (F.args_list_append_2 _ _) (PySem.list_append l its.toArray n u (by rw [List.size_toArray]; omega)) ⟨e, ?_⟩
  refine ⟨.non, _, I.lset (its' := its ++ [u]) hH e (by simp) (r.append (.cons ru .nil)) ?_, rfl, q⟩
  rw [List.length_append, List.length_singleton]
  omega
def rExtend : V → List V → Hp → VK → Prop := fun x vs H Q => ∃ l b xs zs, x = .ref l ∧ vs = [.ref b] ∧ H l = some (.lst xs) ∧ H b = some (.lst zs) ∧ xs.length + zs.length ≤ sizeLine ∧ Q .non (upd H l (.lst (xs ++ zs)))
theorem mt_extend : MtM X "list.extend" rExtend := by
  intro pins s σ H x vs v us Q I rx rv h
  obtain ⟨l, b, xs, zs, rfl, rfl, hH, hB, hz, q⟩ := h
  cases rx
  obtain ⟨u, rfl, ru⟩ := rv.one
  cases ru
  obtain ⟨z, its, n, r, hl, e⟩ := I.lstM hH
  obtain ⟨z2, its2, n2, r2, hl2, e2⟩ := I.lstM hB
  have hsz : its.toArray.size + its2.toArray.size ≤ sizeLine := by rw [List.size_toArray, List.size_toArray]; omega
  have hlong : ¬ (!its.toArray.isEmpty && Builtin.List.listTooLong (its.toArray.size + its2.toArray.size)) = true := by
    rw [notLongL hsz, Bool.and_false]
    exact Bool.false_ne_true
  refine call_meets F.slot_list_extend ⟨_, e, rfl⟩ F.entry_list_extend (F.args_list_extend_2 _ _)
    (AutoSeq1.list_extend_list_list_0 l its.toArray n b its2.toArray n2 hlong (by rw [List.size_toArray]; omega) (by omega)) ⟨e, e2, ?_⟩
  refine ⟨.non, _, I.lset (its' := its ++ its2) hH e (by simp) (r.append r2) ?_, rfl, q⟩
  rw [List.length_append]
  omega
def rCat : R2 := fun x y H Q => ∃ l b xs zs, x = .ref l ∧ y = .ref b ∧ H l = some (.lst xs) ∧ H b = some (.lst zs) ∧ xs.length + zs.length ≤ sizeLine ∧ ∀ p, H p = none → Q (.ref p) (upd H p (.lst (xs ++ zs)))
theorem op_cat : OpR X (binaryOp .Add) rCat := by
  intro pins s σ H x y v u Q I rx ry h
  obtain ⟨l, b, xs, zs, rfl, rfl, hH, hB, hz, q⟩ := h
  cases rx
  cases ry
  obtain ⟨z, its, n, r, hl, e⟩ := I.lstM hH
  obtain ⟨z2, its2, n2, r2, hl2, e2⟩ := I.lstM hB
  refine PySem.P.add_list e e2 ?_ (by rw [List.size_toArray, List.size_toArray]; omega)
  have ea : its.toArray ++ its2.toArray = (its ++ its2).toArray := by simp
  rw [ea]
  exact ⟨.ref _, _, I.lnew (t' := s.toks) (r.append r2) (by rw [List.length_append]; omega), rfl, q _ I.fresh⟩
end
end L2
namespace Att
open PySem PySem.W PySem.Calls PyProof.Rows
theorem ints_of_wellAll {P : Params} {h : Heap} : ∀ (ns : List Int) (vs : List Value), WellAll P h vs (ns.map WData.int) → IntsAre vs ns := by
  intro ns
  induction ns with
  | nil =>
    intro vs w
    rw [List.map_nil] at w
    cases w
    exact .nil
  | cons n ns ih =>
    intro vs w
    rw [List.map_cons] at w
    cases w with
    | cons a b =>
      cases a
      exact .cons _ _ (ih _ b)
theorem script_of {l : OpenLaw} {n : Nat} (hn : l.most = some n) {P : Params} {h : Heap} {args : List WData} {vals : List Value}
    (hpre : l.row.toRowW.claim.pre args = true) (hwl : WellAll P h vals args) :
    ∃ a vs ns, vals = [Value.ref a] ∧ args = [WData.list (ns.map WData.int)] ∧ h.get? a = some { cls := .type "list", data := .seq vs.toArray } ∧ IntsAre vs ns ∧ ns.length ≤ n := by
  have hsh : WShape.hasAll [] args [.list .int] = true := (pre_splitW hpre).1
  have hc : l.pre.holds [] { args := args } = true := (pre_splitW hpre).2
  obtain ⟨d, r, rfl, h1, h2⟩ := hasAllW_cons hsh
  obtain rfl := hasAllW_nil h2
  obtain ⟨xs, rfl, h3⟩ := hasW_list h1
  obtain ⟨ns, rfl⟩ := items_int h3
  have hlen : ns.length ≤ n := by
    unfold OpenLaw.pre at hc
    have h4 : (WTm.not (.lt (.lit (.int (n : Int))) (.len (.arg 0)))).holds [] { args := [.list (ns.map .int)] } = true := by
      have h4 := (holds_andW hc).1
      rw [hn] at h4
      exact h4
    have h5 := condW_of h4 (w_not (w_lt w_lit (w_len_list (w_arg rfl))))
    rw [List.length_map] at h5
    refine Nat.le_of_not_lt fun q => ?_
    have q' : (n : Int) < ((ns.length : Nat) : Int) := by omega
    first
      | (rw [decide_eq_true q'] at h5; exact absurd h5 (by decide))
      | (simp at h5; omega)
  cases hwl with
  | cons w1 w2 =>
    cases w2
    cases w1 with
    | list ho hall => exact ⟨_, _, ns, rfl, rfl, ho, ints_of_wellAll ns _ hall, hlen⟩
theorem post_true (l : OpenLaw) (args : List WData) : l.row.toRowW.claim.post args (.bool true) args = true :=
  postW_of (r := l.row.toRowW) (X := (true == true))
    (show WShape.has [] (.bool true) .bool = true by first | rfl | decide | simp [WShape.has, WShape.arms, WShape.armsAll])
    (show (WTm.eq .res (.lit (.bool true))).value [] { args := args, res := some (.bool true), after := args } = some (.bool (true == true)) from w_eq_bool (w_res rfl) w_lit) rfl
theorem attach_call {l : OpenLaw} {n : Nat} {q : Program} {loose : List Str} {XP : (Str → Option Value) → Heap → Prop} {YP : World → Heap → Prop} {d : DefRec}
    (hn : l.most = some n) (hdf : d.params.defaults = [])
    (call : ∀ (w : World) (sZ s₁ : Shared) (mg mb : Str → Option Value) (fa : Addr) (o : Obj) (pm cd doc : Value) (a : Addr) (vs : List Value) (ns : List Int),
      Ground q loose [] XP w sZ mg mb s₁.heap → YP w s₁.heap →
      s₁.heap.get? fa = some o → o.data = .func (docDef d.name d.params d.body d.scope pm cd doc) → s₁.heap.CodeRec cd d.name → mg d.name = some (.ref fa) →
      s₁.heap.get? a = some { cls := .type "list", data := .seq vs.toArray } → IntsAre vs ns → ns.length ≤ n → s₁.gens = #[] →
      codeAny (model l.prog w) callerA (.call (.ref fa) ⟨[.ref a], []⟩) (fun r s' => r = .ok (.ret (.bool true)) ∧ OldK s₁.heap s'.heap ∧ s'.os = s₁.os ∧ AllBare s'.gens) s₁) :
    WalkO q loose XP YP l.row.toRowW d [] (fun f vs => PySem.call f vs) := by
  intro w sZ s₁ mg mb G Y fa o pm cd doc dV kV ho hd hcd hD hmg hg args vals as hpre hlay hrd hwl hlo
  obtain rfl : dV = .none := Dflts.none hD hdf
  obtain rfl : kV = .none := Dflts.noKw hD
  obtain ⟨a, vs, ns, rfl, rfl, hobj, hints, hlen⟩ := script_of hn hpre hwl
  refine enter_call (codeAny_mono (call w sZ s₁ mg mb fa o pm cd doc a vs ns G Y ho (fd_plain hd) hcd hmg hobj hints hlen hg) fun r s' hq => ?_)
  obtain ⟨rfl, h2, h3, h4⟩ := hq
  exact ⟨.inl ⟨.bool true, .bool true, [], rfl, fun _ => rfl, .bool true, post_true l _, fun _ => ⟨List.Pairwise.nil, fun _ hm => (nomatch hm)⟩⟩, h2, h3, h4⟩
end Att
namespace L2
open PySem PySem.Spec PyProof.Rows
theorem vals_ints : ∀ {vs : List Value} {ns : List Int}, IntsAre vs ns → Vals (ns.map V.int) vs
  | _, _, .nil => .nil
  | _, _, .cons n t h => .cons ⟨t, rfl⟩ (vals_ints h)
def Only (H : Hp) : Prop := ∀ b, H b = none ∨ ∃ o xs, H b = some (.frz o (.lst xs))
theorem law_call {P : Program} {w : World} {K : PySem.W.Frag} {mg mb : Str → Option Value} {CX : CXT} {k : Nat} {fa a : Addr} {fd : FuncData} {x : Str} {sp : Sp} {s₁ : Shared} {vs : List Value} {ns : List Int}
    (KX : K.In s₁.heap) (hns : s₁.heap.Ns mainGlobals mg) (hb : s₁.heap.Ns builtinsNs mb) (hbb : ∀ x : Str, x ≠ "__name__" → mb x = bootBuiltins x) (hlim : s₁.heap.NoLimit) (hg : s₁.gens = #[])
    (ha : s₁.heap.get? a = some { cls := .type "list", data := .seq vs.toArray }) (hi : IntsAre vs ns) (hl : ns.length ≤ sizeLine) (hr : Room k callerA)
    (F : ∀ base : Heap, K.In base → base.Ns mainGlobals mg → FnOk P w K mg base CX k fa fd [x] sp) (hbind : ∀ (s : Shared) (u : Value), BindsTo s fd ⟨[u], []⟩ [(x, u)])
    (hsp : ∀ H : Hp, Only H → SqL K H a (ns.map V.int) → sp [.ref a] H (fun v _ => v = .bl true) fun _ _ _ => False)
    (hCX : ∀ H e s', CX [] H s₁ (fun _ _ _ => False) e s' → False) :
    codeAny (model P w) callerA (.call (.ref fa) ⟨[.ref a], []⟩) (fun r s' => r = .ok (.ret (.bool true)) ∧ OldK s₁.heap s'.heap ∧ s'.os = s₁.os ∧ AllBare s'.gens) s₁ := by
  have rv := vals_ints hi
  have lenV := hi.length
  have core : ∀ H : Hp, Only H → SqL K H a (ns.map V.int) → HOk P w H s₁.heap → (∀ b, H b ≠ none → b = a) → (H a ≠ none → K.lookup a = none) →
      codeAny (model P w) callerA (.call (.ref fa) ⟨[.ref a], []⟩) (fun r s' => r = .ok (.ret (.bool true)) ∧ OldK s₁.heap s'.heap ∧ s'.os = s₁.os ∧ AllBare s'.gens) s₁ := by
    intro H hO hS hok hA hK
    have base_of : ∀ {b : Addr} {o : Obj}, s₁.heap.get? b = some o → H b = none → (hidT s₁.heap H).get? b = some o := fun e n => hidT_get e n
    have noA : ∀ {b : Addr} {o : Obj} {es : Array DictEntry} {ep : Nat}, s₁.heap.get? b = some o → o.data = .dict es ep → H b = none := fun {b o es ep} e d => by
      cases q : H b with
      | none => rfl
      | some u =>
        have e' : b = a := hA b (by rw [q]; simp)
        subst e'
        rw [ha] at e; cases e
        have d' : Data.seq vs.toArray _ = Data.dict es ep := d
        cases d'
    have nsK : ∀ {b : Addr} {m : Str → Option Value}, s₁.heap.Ns b m → (hidT s₁.heap H).Ns b m := fun {b m} ⟨o, es, ep, e, d, r⟩ => ⟨o, es, ep, base_of e (noA e d), d, r⟩
    have hKb : K.In (hidT s₁.heap H) := fun b o e => base_of (KX b o e) (by
      cases q : H b with
      | none => rfl
      | some u =>
        have e' : b = a := hA b (by rw [q]; simp)
        subst e'
        rw [hK (by rw [q]; simp)] at e; cases e)
    have hM : Mod K mg (hidT s₁.heap H) := ⟨hKb, nsK hns, ⟨mb, nsK hb, hbb⟩, let ⟨mc, h1, h2⟩ := hlim; ⟨mc, nsK h1, h2⟩⟩
    have e0 : Env0 P w K mg (hidT s₁.heap H) callerA [] s₁ H := ⟨rfl, hM, fun b o e => of_hidT e, Nat.le_of_eq (hidT_size _ _), trivial, fun b hb => absurd (show b ∈ ([] : List Addr) from hb) (by simp), hok, .of_eq hg⟩
    refine codeAny_mono ((F _ hKb (nsK hns)).run callerA [] s₁ H ⟨[.ref a], []⟩ [.ref a] [.ref a] _ _ hr e0 (hbind s₁ (.ref a)) (.cons rfl .nil) (hsp H hO hS)) fun r s' h => ?_
    cases r with
    | error e => exact (hCX H e s' h).elim
    | ok fl =>
      cases fl with
      | next => exact False.elim h
      | brk => exact False.elim h
      | cont => exact False.elim h
      | ret u =>
        obtain ⟨v, H', os, bare, un, hok', r', q⟩ := h
        have q' : v = .bl true := q
        subst q'
        obtain rfl : u = Value.bool true := r'
        refine ⟨rfl, OldK.of_keep fun b o e => ?_, os, bare⟩
        cases q : H b with
        | none => exact un.keep b o e q (by intro z; exact absurd (show b ∈ ([] : List Addr) from z) (by simp)) (by simp)
        | some u =>
          rcases hO b with z | ⟨ob, xs, z⟩
          · rw [q] at z; cases z
          · have z2 := un.frzs b ob _ z
            obtain ⟨e1, _⟩ := hok b _ z
            obtain ⟨e2, _⟩ := hok' b _ z2
            rw [e] at e1; cases e1
            exact e2
  cases hk : K.lookup a with
  | some o =>
    have e := KX a o hk
    rw [ha] at e
    cases e
    refine core (fun _ => none) (fun _ => .inl rfl) (.inr ⟨_, vs.toArray, _, hk, rfl, rfl, rfl, by rw [List.size_toArray, lenV]; exact hl, by simpa using rv⟩) (fun b u z => by have z' : (none : Option HO) = some u := z; cases z') (fun b z => absurd rfl z) fun z => absurd rfl z
  | none =>
    refine core (fun b => if b = a then some (.frz { cls := .type "list", data := .seq vs.toArray } (.lst (ns.map V.int))) else none) (fun b => ?_) (.inl (.inr ⟨{ cls := .type "list", data := .seq vs.toArray }, if_pos rfl⟩)) (fun b u z => ?_) (fun b z => ?_) fun _ => hk
    · by_cases hb : b = a
      · exact .inr ⟨_, _, if_pos hb⟩
      · exact .inl (if_neg hb)
    · by_cases hb : b = a
      · have z' := (if_pos hb).symm.trans z
        cases z'
        subst hb
        exact ⟨ha, by rw [List.length_map]; exact hl, vs, _, rv, ha⟩
      · have z' := (if_neg hb).symm.trans z
        cases z'
    · by_cases hb : b = a
      · exact hb
      · exact absurd (if_neg hb) z
end L2
namespace L2
open PySem PySem.Spec PyProof.Rows
abbrev KOf {K : PySem.W.Frag} {h : Heap} (_ : K.In h) : PySem.W.Frag := K
theorem walk_of {l : PySem.W.OpenLaw} {n k : Nat} {q : Program} {loose : List Str} {XP : (Str → Option Value) → Heap → Prop} {YP : World → Heap → Prop} {d : DefRec} {K : Params → PySem.W.Frag} {CX : World → CXT} {sp : World → Sp} {x : Str}
    (hn : l.most = some n) (hn2 : n ≤ sizeLine) (hdf : d.params.defaults = []) (hr : Room k callerA)
    (hY : ∀ (w : World) (h : Heap), YP w h → (K w.params).In h)
    (F : ∀ (w : World) (mg : Str → Option Value) (fa : Addr) (h : Heap), (K w.params).In h → h.Ns mainGlobals mg → mg d.name = some (.ref fa) →
      ∃ fd : FuncData, (∀ (s : Shared) (u : Value), BindsTo s fd ⟨[u], []⟩ [(x, u)]) ∧
        ∀ base : Heap, (K w.params).In base → base.Ns mainGlobals mg → FnOk l.prog w (K w.params) mg base (CX w) k fa fd [x] (sp w))
    (hsp : ∀ (w : World) (H : Hp) (a : Addr) (ns : List Int), ns.length ≤ n → Only H → SqL (K w.params) H a (ns.map V.int) → sp w [.ref a] H (fun v _ => v = .bl true) fun _ _ _ => False)
    (hCX : ∀ (w : World) (H : Hp) (s : Shared) (e : Value) (s' : Shared), CX w [] H s (fun _ _ _ => False) e s' → False) :
    PySem.W.WalkO q loose XP YP l.row.toRowW d [] (fun f vs => PySem.call f vs) := by
  refine Att.attach_call hn hdf fun w sZ s₁ mg mb fa o pm cd doc a vs ns G Y ho hd hcd hmg hobj hints hlen hg => ?_
  have KX := hY w _ Y
  obtain ⟨fd, hb, hF⟩ := F w mg fa _ KX G.T.g hmg
  exact law_call KX G.T.g G.T.b G.T.builtins G.T.nolimit hg hobj hints (Nat.le_trans hlen hn2) hr hF hb (fun H hO hS => hsp w H a ns hlen hO hS) fun H e s' => hCX w H s₁ e s'
end L2
namespace L2
open PySem PySem.Spec PyProof.Rows
def defArgs (s : Stmt) : Arguments := match s with
  | .FunctionDef _ a _ _ _ _ _ _ _ _ => a
  | _ => { posonlyargs := [], args := [], vararg := none, kwonlyargs := [], kw_defaults := [], kwarg := none, defaults := [] }
def defBody (s : Stmt) : List Stmt := match s with
  | .FunctionDef _ _ b _ _ _ _ _ _ _ => b
  | _ => []
def defScope (s : Stmt) : Scope := match s with
  | .FunctionDef _ _ _ _ _ _ sc _ _ _ => sc
  | _ => { kind := .function, names := [], isGenerator := false, isCoroutine := false }
abbrev CX0 : CXT := fun _ _ _ _ _ _ => False
abbrev E0 : XK := fun _ _ _ => False
theorem pass0 {X : Cx} : Passes CX0 X E0 := fun _ _ _ _ _ _ _ h => h.elim
structure Fun (K : PySem.W.Frag) (x qual : Str) (st : Stmt) (f : Addr) (fd : FuncData) : Prop where
  ex : ∃ (oc : Value) (od : Option Addr) (kV doc pm : Value) (an : Option Addr) (cdv ct : Value) (osl : Array (Option Value)),
    fd = PySem.W.fnOf x qual (defArgs st) (defBody st) (defScope st) .none kV doc pm an cdv ct ∧ K.lookup f = some ⟨oc, od, .func fd, osl⟩ ∧ PySem.W.codeIn K cdv qual = true
  kp : PySem.W.keepIn K (.ref f) = true
section
variable {P : Program} {w : World} {K : PySem.W.Frag} {mg : Str → Option Value} {base : Heap}
theorem Fun.ok {x qual : Str} {st : Stmt} {f : Addr} {fd : FuncData} {N ps : List Str} {k : Nat} {sp : Sp} (F : Fun K x qual st f fd) (S : FnScope N ps (defScope st)) (len : ∀ vs H Q E, sp vs H Q E → vs.length = ps.length)
    (hbody : ∀ (cdv : Value) (A : Around) (outer : List Env) (s : Shared) (H : Hp) (vs : List V) (Q : VK) (E : XK), Room k (A.deeper (envOfC qual (defScope st) s.heap.objs.size f cdv)) → sp vs H Q E →
      ∃ t, PSs (cxOf CX0 P w K mg base N qual (defScope st) f cdv A outer s H E).nox (defBody st) t ∧ t { nx := fun _ H' => Q .non H', rt := Q } (start N vs) H) : FnOk P w K mg base CX0 (k + 1) f fd ps sp := by
  obtain ⟨oc, od, kV, doc, pm, an, cdv, ct, osl, rfl, lk, hcd⟩ := F.ex
  refine fn_of lk hcd S len fun A outer s H vs Q E hr hsp => ?_
  obtain ⟨t, h, q⟩ := hbody cdv A outer s H vs Q E hr hsp
  exact ⟨t, h.nox, q⟩
theorem Fun.binds {x qual : Str} {st : Stmt} {f : Addr} {fd : FuncData} {ps : List Str} (F : Fun K x qual st f fd)
    (h : ∀ (kV doc pm : Value) (an : Option Addr) (cdv ct : Value) (us : List Value), us.length = ps.length → bindArgs (PySem.W.fnOf x qual (defArgs st) (defBody st) (defScope st) .none kV doc pm an cdv ct) ⟨us, []⟩ = pure (ps.zip us)) : Binds K fd ps [] := by
  obtain ⟨oc, od, kV, doc, pm, an, cdv, ct, osl, rfl, lk, hcd⟩ := F.ex
  exact .all (h kV doc pm an cdv ct)
theorem fun_mk {x qual : Str} {st : Stmt} {f : Addr} {oc : Value} {od an : Option Addr} {osl : Array (Option Value)} {kV doc pm cdv ct : Value} (l : K.lookup f = some ⟨oc, od, .func (PySem.W.fnOf x qual (defArgs st) (defBody st) (defScope st) .none kV doc pm an cdv ct), osl⟩)
    (c : PySem.W.codeIn K cdv qual = true) (k : PySem.W.keepIn K (.ref f) = true) : Fun K x qual st f (PySem.W.fnOf x qual (defArgs st) (defBody st) (defScope st) .none kV doc pm an cdv ct) := ⟨⟨oc, od, kV, doc, pm, an, cdv, ct, osl, rfl, l, c⟩, k⟩
end
theorem hu_of {A : Around} {k : Nat} (hr : Room k A) : A.units + 1 < cLine := Nat.lt_of_le_of_lt (Nat.add_le_add_left (by decide : 1 ≤ 64) _) hr.units
section
variable {X : Cx}
theorem pv (i : Nat) {x : Str} {pos : Pos} (hN : X.N[i]? = some x := by rfl) (hv : Vis X.env.scope x := by first | exact Or.inl rfl | exact Or.inr (Or.inl rfl) | exact Or.inr (Or.inr rfl)) (hd : (x == ("__debug__" : Str)) = false := by decide)
    (hcd : (x == ("__classdict__" : Str)) = false := by decide) : PE X (.Name x pos) (tVar i) := pe_var hN hv hd hcd
end
theorem iteF {A B : Prop} (h : B) : if false = true then A else B := by
  rw [if_neg Bool.false_ne_true]
  exact h
theorem iteT {A B : Prop} (h : A) : if true = true then A else B := by
  rw [if_pos rfl]
  exact h
theorem ite2 {c A B : Prop} [Decidable c] (h1 : c → A) (h2 : ¬ c → B) : if c then A else B := by
  by_cases h : c
  · rw [if_pos h]
    exact h1 h
  · rw [if_neg h]
    exact h2 h
def Same (H H' : Hp) : Prop := ∀ b o, H b = some o → H' b = some o
theorem Same.refl (H : Hp) : Same H H := fun _ _ h => h
theorem Same.trans {H H1 H2 : Hp} (a : Same H H1) (b : Same H1 H2) : Same H H2 := fun c o h => b c o (a c o h)
theorem Same.free {H H' : Hp} (e : Same H H') {l : Addr} (h : H' l = Option.none) : H l = Option.none := by
  cases q : H l with
  | none => rfl
  | some o =>
    rw [e l o q] at h
    cases h
theorem Same.seq {K : PySem.W.Frag} {H H' : Hp} {a : Addr} {xs : List V} (e : Same H H') (h : SqL K H a xs) : SqL K H' a xs := by
  rcases h with (h | ⟨o, h⟩) | h
  · exact .inl (.inl (e _ _ h))
  · exact .inl (.inr ⟨o, e _ _ h⟩)
  · exact .inr h
end L2
namespace L2
open PySem PySem.Spec PyProof.Rows
def clOf (cells : List (Str × Addr)) : List (Str × NameKind) → List (Str × Addr) → List (Str × Addr)
  | [], acc => acc
  | (n, k) :: r, acc => if k == .free then (match cells.lookup n with | some a => clOf cells r ((n, a) :: acc) | none => clOf cells r acc) else clOf cells r acc
theorem clOf_for {env : Env} (f : Str × NameKind → List (Str × Addr) → Sem (ForInStep (List (Str × Addr))))
    (hf : ∀ n k cs, f (n, k) cs = if k == .free then (do let a ← cellOf env n; pure (.yield ((n, a) :: cs))) else pure (.yield cs)) :
    ∀ (names : List (Str × NameKind)) (acc : List (Str × Addr)), (∀ y ∈ names, y.2 = .free → ∃ c, env.cells.lookup y.1 = some c) → forIn names acc f = pure (clOf env.cells names acc)
  | [], acc, _ => by rw [List.forIn_nil]; rfl
  | (n, k) :: r, acc, h => by
    have hr : ∀ y ∈ r, y.2 = .free → ∃ c, env.cells.lookup y.1 = some c := fun y hy => h y (List.mem_cons_of_mem _ hy)
    rw [List.forIn_cons, hf]
    unfold clOf
    by_cases hk : k = .free
    · subst hk
      obtain ⟨c, hc⟩ := h (n, .free) List.mem_cons_self rfl
      have hc' : env.cells.lookup n = some c := hc
      have e1 : cellOf env n = pure c := by unfold cellOf; rw [hc']
      have ef : (NameKind.free == NameKind.free) = true := rfl
      rw [if_pos ef, if_pos ef, e1, hc']
      exact clOf_for f hf r ((n, c) :: acc) hr
    · have hb : (k == NameKind.free) = false := by simpa using hk
      rw [hb, if_neg Bool.false_ne_true, if_neg Bool.false_ne_true]
      exact clOf_for f hf r acc hr
theorem closureFor_cl {scope : Scope} {env : Env} (h : ∀ y ∈ scope.names, y.2 = .free → ∃ c, env.cells.lookup y.1 = some c) : closureFor scope env = pure (clOf env.cells scope.names []) := by
  have e := clOf_for (env := env) (fun x cs => match x with | (n, k) => if k == .free then (do let a ← cellOf env n; pure (.yield ((n, a) :: cs))) else pure (.yield cs)) (fun _ _ _ => rfl) scope.names [] h
  show (forIn scope.names [] _ >>= fun cs => pure cs) = _
  refine Eq.trans (congrArg (· >>= fun cs => pure cs) (Eq.trans ?_ e)) rfl
  refine congrArg _ (funext fun x => funext fun cs => ?_)
  obtain ⟨n, k⟩ := x
  cases hk : k == NameKind.free <;> simp [hk]
theorem lookup_clOf {cells : List (Str × Addr)} : ∀ {names : List (Str × NameKind)} {acc : List (Str × Addr)}, (∀ n c, acc.lookup n = some c → cells.lookup n = some c) → ∀ n c, (clOf cells names acc).lookup n = some c → cells.lookup n = some c
  | [], _, h, n, c, e => h n c e
  | (m, k) :: r, acc, h, n, c, e => by
    unfold clOf at e
    split at e
    · split at e
      · rename_i a ha
        refine lookup_clOf (names := r) (acc := (m, a) :: acc) (fun x d q => ?_) n c e
        rw [List.lookup_cons] at q
        cases hb : x == m with
        | true => rw [hb] at q; cases q; rw [beq_iff_eq.mp hb]; exact ha
        | false => rw [hb] at q; exact h x d q
      · exact lookup_clOf (names := r) h n c e
    · exact lookup_clOf (names := r) h n c e
theorem clOf_acc {cells : List (Str × Addr)} {n : Str} : ∀ {names : List (Str × NameKind)} {acc : List (Str × Addr)}, (∃ c, acc.lookup n = some c) → ∃ c, (clOf cells names acc).lookup n = some c
  | [], _, h => h
  | (m, k) :: r, acc, h => by
    unfold clOf
    split
    · split
      · rename_i a ha
        refine clOf_acc (names := r) ?_
        rw [List.lookup_cons]
        cases hb : n == m with
        | true => exact ⟨a, rfl⟩
        | false => exact h
      · exact clOf_acc (names := r) h
    · exact clOf_acc (names := r) h
theorem clOf_has {cells : List (Str × Addr)} {n : Str} {c : Addr} (hc : cells.lookup n = some c) : ∀ {names : List (Str × NameKind)} {acc : List (Str × Addr)}, (n, NameKind.free) ∈ names → ∃ d, (clOf cells names acc).lookup n = some d
  | (m, k) :: r, acc, h => by
    unfold clOf
    rcases List.mem_cons.mp h with e | h
    · cases e
      rw [if_pos (show (NameKind.free == NameKind.free) = true from rfl), hc]
      exact clOf_acc (names := r) ⟨c, by rw [List.lookup_cons, beq_self_eq_true]⟩
    · split
      · split
        · exact clOf_has hc h
        · exact clOf_has hc h
      · exact clOf_has hc h
theorem cellsFrom_not {y : Str} : ∀ {names : List (Str × NameKind)} {n : Nat} {acc : List (Str × Addr)}, (∀ p ∈ names, p.2 = .cell → p.1 ≠ y) → (cellsFrom n names acc).lookup y = acc.lookup y
  | [], _, _, _ => rfl
  | (m, k) :: r, n, acc, h => by
    have hr : ∀ p ∈ r, p.2 = .cell → p.1 ≠ y := fun p hp => h p (List.mem_cons_of_mem _ hp)
    unfold cellsFrom
    by_cases hk : k = .cell
    · subst hk
      rw [if_pos (show (NameKind.cell == NameKind.cell) = true from rfl), cellsFrom_not hr, List.lookup_cons]
      have : (y == m) = false := by simpa using Ne.symm (h (m, .cell) List.mem_cons_self rfl)
      rw [this]
    · rw [if_neg (by simpa using hk)]
      exact cellsFrom_not hr
theorem cellsFrom_new : ∀ {names : List (Str × NameKind)} {h : Heap} {acc : List (Str × Addr)} {y : Str} {c : Addr}, (cellsFrom h.objs.size names acc).lookup y = some c →
    (h.objs.size ≤ c ∧ (pushCells h names).IsCell c none) ∨ acc.lookup y = some c
  | [], _, _, _, _, e => .inr e
  | (m, k) :: r, h, acc, y, c, e => by
    unfold cellsFrom at e
    unfold pushCells
    by_cases hk : (k == NameKind.cell) = true
    · rw [if_pos hk] at e ⊢
      have e' : (cellsFrom (h.push { cls := .type "cell", data := .cell none }).objs.size r ((m, h.objs.size) :: acc)).lookup y = some c := by rw [Heap.size_push]; exact e
      rcases cellsFrom_new e' with ⟨q1, q2⟩ | q
      · rw [Heap.size_push] at q1
        exact .inl ⟨Nat.le_of_succ_le q1, q2⟩
      · rw [List.lookup_cons] at q
        cases hb : y == m with
        | true =>
          rw [hb] at q; cases q
          exact .inl ⟨Nat.le_refl _, Heap.IsCell.keeps ⟨_, Heap.get?_push_size _ rfl, rfl⟩ (pushCells_keeps _ _)⟩
        | false => rw [hb] at q; exact .inr q
    · rw [if_neg hk] at e ⊢
      exact cellsFrom_new e
theorem cellsFrom_inj : ∀ {names : List (Str × NameKind)} {n : Nat} {acc : List (Str × Addr)}, (∀ x y c, acc.lookup x = some c → acc.lookup y = some c → x = y) → (∀ x c, acc.lookup x = some c → c < n) →
    ∀ x y c, (cellsFrom n names acc).lookup x = some c → (cellsFrom n names acc).lookup y = some c → x = y
  | [], _, _, h, _ => h
  | (m, k) :: r, n, acc, h, lt => by
    unfold cellsFrom
    by_cases hk : (k == NameKind.cell) = true
    · rw [if_pos hk]
      have one : ∀ x c, ((m, n) :: acc).lookup x = some c → (x = m ∧ c = n) ∨ acc.lookup x = some c := fun x c e => by
        rw [List.lookup_cons] at e
        cases hb : x == m with
        | true => rw [hb] at e; cases e; exact .inl ⟨beq_iff_eq.mp hb, rfl⟩
        | false => rw [hb] at e; exact .inr e
      refine cellsFrom_inj (fun x y c ex ey => ?_) fun x c e => ?_
      · rcases one x c ex with ⟨a1, a2⟩ | a <;> rcases one y c ey with ⟨b1, b2⟩ | b
        · rw [a1, b1]
        · exact absurd (lt y c b) (by rw [a2]; exact Nat.lt_irrefl _)
        · exact absurd (lt x c a) (by rw [b2]; exact Nat.lt_irrefl _)
        · exact h x y c a b
      · rcases one x c e with ⟨_, a2⟩ | a
        · rw [a2]; exact Nat.lt_succ_self _
        · exact Nat.lt_succ_of_lt (lt x c a)
    · rw [if_neg hk]
      exact cellsFrom_inj h lt
theorem cellsFrom_acc {y : Str} : ∀ {names : List (Str × NameKind)} {n : Nat} {acc : List (Str × Addr)}, (∃ c, acc.lookup y = some c) → ∃ c, (cellsFrom n names acc).lookup y = some c
  | [], _, _, h => h
  | (m, k) :: r, n, acc, h => by
    unfold cellsFrom
    split
    · refine cellsFrom_acc ?_
      rw [List.lookup_cons]
      cases y == m with
      | true => exact ⟨_, rfl⟩
      | false => exact h
    · exact cellsFrom_acc h
theorem cellsFrom_has {y : Str} : ∀ {names : List (Str × NameKind)} {n : Nat} {acc : List (Str × Addr)}, (y, NameKind.cell) ∈ names → ∃ c, (cellsFrom n names acc).lookup y = some c
  | (m, k) :: r, n, acc, h => by
    unfold cellsFrom
    rcases List.mem_cons.mp h with e | h
    · cases e
      rw [if_pos (show (NameKind.cell == NameKind.cell) = true from rfl)]
      exact cellsFrom_acc ⟨n, by rw [List.lookup_cons, beq_self_eq_true]⟩
    · split
      · exact cellsFrom_has h
      · exact cellsFrom_has h
theorem cellsFrom_ge {y : Str} {lo : Nat} : ∀ {names : List (Str × NameKind)} {n : Nat} {acc : List (Str × Addr)} {c : Addr}, lo ≤ n → ((y, NameKind.cell) ∈ names ∨ ∀ d, acc.lookup y = some d → lo ≤ d) → (cellsFrom n names acc).lookup y = some c → lo ≤ c
  | [], n, acc, c, hn, h, e => h.elim (fun z => nomatch z) fun z => z c e
  | (m, k) :: r, n, acc, c, hn, h, e => by
    unfold cellsFrom at e
    by_cases hk : (k == NameKind.cell) = true
    · rw [if_pos hk] at e
      have k' : k = .cell := beq_iff_eq.mp hk
      subst k'
      refine cellsFrom_ge (names := r) (Nat.le_succ_of_le hn) ?_ e
      by_cases hm : (y, NameKind.cell) ∈ r
      · exact .inl hm
      · refine .inr fun d q => ?_
        rw [List.lookup_cons] at q
        cases hb : y == m with
        | true => rw [hb] at q; cases q; exact hn
        | false =>
          rw [hb] at q
          rcases h with z | z
          · rcases List.mem_cons.mp z with z | z
            · cases z; simp at hb
            · exact absurd z hm
          · exact z d q
    · rw [if_neg hk] at e
      refine cellsFrom_ge (names := r) hn ?_ e
      rcases h with z | z
      · rcases List.mem_cons.mp z with z | z
        · cases z; exact absurd rfl hk
        · exact .inl z
      · exact .inr z
section
variable {M : Model} {A : Around} {E : Value → Shared → Prop} {s : Shared}
theorem newCompEnv {scope : Scope} {globals : Addr} {cl : List (Str × Addr)} {qual : Str} {env : Env} {Q : Env → Shared → Prop}
    (h : Q { scope := scope, locals := s.heap.objs.size, globals := globals, cells := cellsFrom (s.heap.objs.size + 1) scope.names cl, qual := qual, func := none, code := env.code, frame := env.frame, builtins := env.builtins }
      { s with heap := pushCells (s.heap.push { cls := .type "dict", data := .dict #[] }) scope.names }) :
    wpAny M A (newFunctionEnv scope globals cl [] qual none .none (some env)) Q E s := by
  simp only [newFunctionEnv, Option.isSome_some, if_true]
  refine wpAny_bind (wpAny_alloc ?_)
  refine wpAny_bind (wpAny_layCells _ (fun name kind cells => by cases hkc : kind == NameKind.cell <;> simp [hkc]) _ _ _ _ ?_)
  rw [show ({ s with heap := s.heap.push { cls := .type "dict", data := .dict #[] } } : Shared).heap.objs.size = s.heap.objs.size + 1 from Heap.size_push ..]
  refine wpAny_bind ?_
  rw [List.forIn_nil]
  exact wpAny_pure (wpAny_pure h)
end
theorem kindOf_relabel {env : Env} : ∀ (names : List (Str × NameKind)) (x : Str),
    (names.map fun (n, k) => if (k == NameKind.free && env.scope.kind == .function && env.kindOf n == some .cell) then (n, NameKind.cell) else (n, k)).lookup x =
      (names.lookup x).map fun k => if (k == NameKind.free && env.scope.kind == .function && env.kindOf x == some .cell) then NameKind.cell else k
  | [], _ => rfl
  | (n, k) :: r, x => by
    rw [List.map_cons]
    show List.lookup x ((if (k == NameKind.free && env.scope.kind == .function && env.kindOf n == some .cell) = true then (n, NameKind.cell) else (n, k)) :: _) = _
    cases hx : x == n with
    | true =>
      have e := beq_iff_eq.mp hx
      subst e
      by_cases hc : (k == NameKind.free && env.scope.kind == .function && env.kindOf x == some .cell) = true
      · rw [if_pos hc, List.lookup_cons, List.lookup_cons, beq_self_eq_true]
        show _ = some (if (k == NameKind.free && env.scope.kind == .function && env.kindOf x == some .cell) = true then NameKind.cell else k)
        rw [if_pos hc]
      · rw [if_neg hc, List.lookup_cons, List.lookup_cons, beq_self_eq_true]
        show _ = some (if (k == NameKind.free && env.scope.kind == .function && env.kindOf x == some .cell) = true then NameKind.cell else k)
        rw [if_neg hc]
    | false =>
      have ih := kindOf_relabel (env := env) r x
      by_cases hc : (k == NameKind.free && env.scope.kind == .function && env.kindOf n == some .cell) = true
      · rw [if_pos hc, List.lookup_cons, List.lookup_cons, hx]; exact ih
      · rw [if_neg hc, List.lookup_cons, List.lookup_cons, hx]; exact ih
def sel (idx : List Nat) (σ : St) : St := idx.map fun j => (σ[j]?).join
def Cx.comp (X : Cx) (scope : Scope) (cells : List (Str × Addr)) (C : Addr) (N' : List Str) (s2 : Shared) (H2 : Hp) (fp : List Addr) : Cx where
  prog := X.prog
  w := X.w
  K := X.K
  mg := X.mg
  base := X.base
  A := X.A
  N := N'
  sZ := s2
  HZ := H2
  env := compEnvC scope cells C X.env
  outer := X.stack
  stack := X.stack
  ex := fp
  fn := fun y => scope.names.lookup y == some .cell
  calm := X.calm
  pn := []
  xe := fun _ _ => False
structure CompOk (X : Cx) (scope : Scope) (M : List Str) (idx : List Nat) : Prop where
  kind : scope.kind = .function
  loc : ∀ y ∈ scope.names, y.2 = .local → scope.names.lookup y.1 = some .local
  cel : ∀ y ∈ scope.names, y.2 = .cell → scope.names.lookup y.1 = some .cell
  fre : ∀ y ∈ scope.names, y.2 = .free → X.env.kindOf y.1 = some .cell ∨ X.env.kindOf y.1 = some .free
  len : idx.length = M.length
  cap : ∀ (j : Nat) (y : Str), M[j]? = some y → scope.names.lookup y = some .free ∧ ∃ k, idx[j]? = some k ∧ X.N[k]? = some y
theorem sel_get {idx : List Nat} {σ : St} {j : Nat} {v : V} (h : (sel idx σ)[j]? = some (some v)) : ∃ k, idx[j]? = some k ∧ σ[k]? = some (some v) := by
  unfold sel at h
  rw [List.getElem?_map] at h
  cases e : idx[j]? with
  | none => rw [e] at h; cases h
  | some k =>
    rw [e] at h
    refine ⟨k, rfl, ?_⟩
    have h' : (σ[k]?).join = some v := Option.some.inj h
    cases q : σ[k]? with
    | none => rw [q] at h'; cases h'
    | some o =>
      rw [q] at h'
      have h'' : o = some v := h'
      rw [h'']
section
variable {X : Cx} {pins : List (Addr × Obj)} {σ : St} {H : Hp} {s : Shared}
theorem comp_start {scope : Scope} {M : List Str} {idx : List Nat} {fp : List Addr} {x : Str} (ok : CompOk X scope M idx) (hc : X.calm = true) (I : Inv X pins σ H s) (hf : ∀ b ∈ fp, FpOk X pins H b)
    (ho : ∀ b ∈ fp, ∃ o, s.heap.get? b = some o) :
    Inv (X.comp scope (cellsFrom (s.heap.objs.size + 2) scope.names (clOf X.env.cells scope.names [])) (s.heap.objs.size + 1) (x :: M) s H fp) [] (none :: sel idx σ) H
      { s with heap := pushCells ((s.heap.push { cls := .type "list", dict := none, data := .seq ([] : List Value).toArray }).push { cls := .type "dict", data := .dict #[] }) scope.names } := by
  have sz2 : ((s.heap.push { cls := .type "list", dict := none, data := .seq ([] : List Value).toArray }).push { cls := .type "dict", data := .dict #[] }).objs.size = s.heap.objs.size + 2 := by rw [Heap.size_push, Heap.size_push]
  have keep : ∀ b o, s.heap.get? b = some o → (pushCells ((s.heap.push { cls := .type "list", dict := none, data := .seq ([] : List Value).toArray }).push { cls := .type "dict", data := .dict #[] }) scope.names).get? b = some o :=
    fun b o e => pushCells_keeps _ _ _ _ (Heap.get?_push_of_some _ (Heap.get?_push_of_some _ e))
  have clLook : ∀ n c, (clOf X.env.cells scope.names []).lookup n = some c → X.env.cells.lookup n = some c := lookup_clOf fun n c e => by simp at e
  have clLt : ∀ n c, (clOf X.env.cells scope.names []).lookup n = some c → c < s.heap.objs.size := fun n c e => by
    obtain ⟨v, z⟩ := I.cell n c (clLook n c e)
    exact z.lt
  have look : ∀ n c, (cellsFrom (s.heap.objs.size + 2) scope.names (clOf X.env.cells scope.names [])).lookup n = some c →
      (s.heap.objs.size + 2 ≤ c ∧ (pushCells ((s.heap.push { cls := .type "list", dict := none, data := .seq ([] : List Value).toArray }).push { cls := .type "dict", data := .dict #[] }) scope.names).IsCell c none) ∨ X.env.cells.lookup n = some c := fun n c e => by
    have e' : (cellsFrom ((s.heap.push { cls := .type "list", dict := none, data := .seq ([] : List Value).toArray }).push { cls := .type "dict", data := .dict #[] }).objs.size scope.names (clOf X.env.cells scope.names [])).lookup n = some c := by rw [sz2]; exact e
    rcases cellsFrom_new e' with ⟨q1, q2⟩ | q
    · rw [sz2] at q1; exact .inl ⟨q1, q2⟩
    · exact .inr (clLook n c q)
  have fresh : ∀ a, s.heap.objs.size ≤ a → H a = none := fun a h => I.hok.fresh h
  have fpLt : ∀ b ∈ fp, b < s.heap.objs.size := fun b hb => let ⟨_, e⟩ := ho b hb; Heap.lt_size e
  have fpStk : ∀ b ∈ fp, b ∉ frs X.stack := fun b hb z => by
    obtain ⟨_, f1, f2, _⟩ := hf b hb
    exact (List.mem_cons.mp (I.stkSub b z)).elim f1 f2
  have hasFree : ∀ y ∈ scope.names, y.2 = .free → ∃ c, X.env.cells.lookup y.1 = some c := fun y hy e => I.ok.has y.1 (ok.fre y hy e)
  have kindR : ∀ y, (compEnvC scope (cellsFrom (s.heap.objs.size + 2) scope.names (clOf X.env.cells scope.names [])) (s.heap.objs.size + 1) X.env).kindOf y =
      (scope.names.lookup y).map fun k => if (k == NameKind.free && X.env.scope.kind == .function && X.env.kindOf y == some .cell) then NameKind.cell else k := fun y => kindOf_relabel scope.names y
  refine ⟨⟨I.ok.mod, ok.kind, I.ok.glob, I.ok.blt, Nat.le_succ _, ?_, fun y hy => ?_, fun y c hfn e => ?_, I.ok.hd, I.ok.frames, .inl rfl, fun b hb => ⟨?_, fun y c e => ?_⟩, I.bs, Nat.le_trans I.ok.bsz I.sz, fun b o e hb => ?_, fun b hb => fpStk b hb, I.stack, I.stkFree⟩,
    rfl, I.bare, Un.kept keep, ⟨fun _ => none, ?_, fun i y v h1 h2 h3 => ?_⟩, fun y c e => ?_, fresh _ (Nat.le_succ _), fun y c e => ?_, fun p hp => absurd (show p ∈ ([] : List (Addr × Obj)) from hp) (by simp), I.hok.kept keep, ?_⟩
  · exact cellsFrom_inj (fun a b c h1 h2 => I.ok.inj a b c (clLook a c h1) (clLook b c h2)) fun a c h1 => Nat.lt_of_lt_of_le (clLt a c h1) (Nat.le_add_right _ _)
  · -- has
    rw [show (X.comp scope (cellsFrom (s.heap.objs.size + 2) scope.names (clOf X.env.cells scope.names [])) (s.heap.objs.size + 1) (x :: M) s H fp).env.kindOf y = _ from kindR y] at hy
    show ∃ c, (cellsFrom (s.heap.objs.size + 2) scope.names (clOf X.env.cells scope.names [])).lookup y = some c
    cases hk : scope.names.lookup y with
    | none => rw [hk] at hy; rcases hy with z | z <;> cases z
    | some k =>
      have mem := PySem.mem_of_lookup hk
      by_cases k1 : k = .cell
      · subst k1; exact cellsFrom_has mem
      by_cases k2 : k = .free
      · subst k2
        obtain ⟨c, ec⟩ := hasFree _ mem rfl
        exact cellsFrom_acc (clOf_has ec mem)
      · rw [hk] at hy
        have hb : (k == NameKind.free) = false := by simpa using k2
        rw [Option.map_some, hb, Bool.false_and, Bool.false_and, if_neg Bool.false_ne_true] at hy
        rcases hy with z | z
        · exact absurd (Option.some.inj z) k1
        · exact absurd (Option.some.inj z) k2
  · -- cab
    have hl : scope.names.lookup y = some .cell := by simpa [Cx.comp] using hfn
    exact cellsFrom_ge (lo := s.heap.objs.size) (by omega) (.inl (PySem.mem_of_lookup hl)) e
  · -- exf
    exact Nat.ne_of_lt (Nat.lt_succ_of_lt (fpLt b hb))
  · rcases look y c e with ⟨q, _⟩ | q
    · exact fun z => absurd (fpLt b hb) (by rw [← z]; exact Nat.not_lt.mpr (Nat.le_trans (Nat.le_add_right _ 2) q))
    · exact (hf b hb).2.2.2.2.1 y c q
  · -- noex
    rcases (hf b hb).2.2.2.1 with z | z
    · exact I.ok.noex b o e z
    · exact absurd (Nat.lt_of_lt_of_le (Heap.lt_size e) (Nat.le_trans I.ok.bsz z)) (Nat.lt_irrefl _)
  · -- the new map
    have e0 : (s.heap.push { cls := .type "list", dict := none, data := .seq ([] : List Value).toArray }).objs.size = s.heap.objs.size + 1 := Heap.size_push ..
    have q := (Heap.Ns.new (s.heap.push { cls := .type "list", dict := none, data := .seq ([] : List Value).toArray }) (.type "dict")).keeps (pushCells_keeps scope.names _)
    rw [e0] at q
    exact q
  · -- names
    cases i with
    | zero => cases h2
    | succ j =>
      have h2' : (sel idx σ)[j]? = some (some v) := h2
      have h1' : M[j]? = some y := h1
      obtain ⟨k, ek, ev⟩ := sel_get h2'
      obtain ⟨hl, k', ek', eN⟩ := ok.cap j y h1'
      rw [ek] at ek'; cases ek'
      have mem := PySem.mem_of_lookup hl
      have hk := ok.fre _ mem rfl
      obtain ⟨m, hn, hloc⟩ := I.loc
      have vis : Vis X.env.scope y := hk.elim (fun z => .inr (.inl z)) fun z => .inr (.inr z)
      obtain ⟨u, r, l⟩ := hloc k y v eN ev vis
      refine ⟨u, r, ?_⟩
      rcases l with ⟨z, _⟩ | ⟨_, c, ec, hcell⟩
      · rw [z] at hk; rcases hk with z | z <;> cases z
      · refine .inr ⟨?_, c, ?_, hcell.keeps keep⟩
        · rw [show (X.comp scope (cellsFrom (s.heap.objs.size + 2) scope.names (clOf X.env.cells scope.names [])) (s.heap.objs.size + 1) (x :: M) s H fp).env.kindOf y = _ from kindR y, hl, Option.map_some]
          by_cases hcc : (NameKind.free == NameKind.free && X.env.scope.kind == .function && X.env.kindOf y == some .cell) = true
          · rw [if_pos hcc]; exact .inl rfl
          · rw [if_neg hcc]; exact .inr rfl
        · show (cellsFrom (s.heap.objs.size + 2) scope.names (clOf X.env.cells scope.names [])).lookup y = some c
          rw [cellsFrom_not]
          · obtain ⟨d, ed⟩ := clOf_has (acc := []) ec mem
            rw [ed, ← clLook y d ed, ec]
          · intro p hp hpc hpy
            have := ok.cel p hp hpc
            rw [hpy, hl] at this
            cases this
  · rcases look y c e with ⟨_, q⟩ | q
    · exact ⟨_, q⟩
    · obtain ⟨v, z⟩ := I.cell y c q
      exact ⟨v, z.keeps keep⟩
  · rcases look y c e with ⟨q, _⟩ | q
    · exact fresh _ (by omega)
    · exact I.freeC y c q
  · show (none :: sel idx σ).length = (x :: M).length
    unfold sel
    rw [List.length_cons, List.length_cons, List.length_map, ok.len]
theorem compLoop_any {prog : Program} {w : World} {A : Around} {R : Result → Shared → Prop} {s : Shared} {elt target iter : Expr} {ifs : List Expr} {scope : Scope} {pos : Pos} {it acc : Value} {env : Env} (I : Nat → Shared → Prop)
    (turn : ∀ n s, I n s → wpAny (model prog w) A (pyNext it) (fun r s₁ => match r with
      | none => R (.ok .next) s₁
      | some v => wpAny (model prog w) A (letOwnedTupleGo target it v) (fun _ s₁' => wpAny (model prog w) A (assign target env v) (fun _ s₂ =>
          wpAny (model prog w) A (forIn ifs true fun c r => if r = true then do let ok ← isTrue c env (eval c env); pure (ForInStep.yield ok) else pure (ForInStep.yield r)) (fun ok s₃ =>
            if ok = true then wpAny (model prog w) A (eval elt env) (fun x s₄ =>
              wpAny (model prog w) A (call (.builtin "list.append") [acc, x]) (fun _ s₅ => ∃ m, m < n ∧ I m s₅) (fun _ _ => False) s₄) (fun _ _ => False) s₃
            else ∃ m, m < n ∧ I m s₃) (fun _ _ => False) s₂) (fun _ _ => False) s₁') (fun _ _ => False) s₁) (fun _ _ => False) s)
    (n : Nat) (h : I n s) :
    codeAny (model prog w) A (.compLoop (.ListComp elt [⟨target, iter, ifs, 0⟩] scope pos) 0 it acc env) R s := by
  refine codeAny_loop rfl I (fun n s hI => ?_) n h
  show wpAny _ A ((compTurn (.ListComp elt [⟨target, iter, ifs, 0⟩] scope pos) 0 it acc env).onRaise (fun x => do noteFrame x env; theTreesLotGoes x)) _ _ s
  refine wpAny_noted ?_
  rw [compTurn_list]
  refine wpAny_bind (wpAny_standAt (wpAny_bind (wpAny_mono (turn n s hI) (fun r s₁ h₁ => ?_) fun _ _ h' => h'.elim)))
  cases r with
  | none => exact wpAny_pure h₁
  | some v =>
    refine wpAny_bind (wpAny_mono h₁ (fun _ s₁' h₁' => ?_) fun _ _ h' => h'.elim)
    refine wpAny_bind (wpAny_mono h₁' (fun _ s₂ h₂ => wpAny_bind (wpAny_mono h₂ (fun ok s₃ h₃ => ?_) fun _ _ h' => h'.elim)) fun _ _ h' => h'.elim)
    cases ok with
    | false => exact wpAny_pure ⟨rfl, h₃⟩
    | true =>
      exact wpAny_bind (wpAny_bind (wpAny_mono h₃ (fun x s₄ h₄ => wpAny_bind (wpAny_mono h₄ (fun _ s₅ h₅ => wpAny_pure (wpAny_pure ⟨rfl, h₅⟩)) fun _ _ h' => h'.elim)) fun _ _ h' => h'.elim))
def PTs (X : Cx) (cs : List Expr) (t : TT) : Prop :=
  ∀ (pins : List (Addr × Obj)) (s : Shared) (σ : St) (H : Hp) (Q : Bool → Hp → Prop), Inv X pins σ H s → t σ H Q →
    wpAny (model X.prog X.w) X.A (forIn cs true fun c r => if r = true then do let ok ← isTrue c X.env (eval c X.env); pure (ForInStep.yield ok) else pure (ForInStep.yield r)) (TP X pins σ Q) X.xe s
def ttTrue : TT := fun _ H Q => Q true H
theorem pts_nil : PTs X [] ttTrue := fun _ _ _ H _ I h => wpAny_tests_nil ⟨H, I, h⟩
theorem pts_one {c : Expr} {t : TT} (h : PT X c t) : PTs X [c] t := fun pins s σ H Q I hq => wpAny_tests_one (h pins s σ H Q I hq)
def CompW (J : It) (H1 : Hp) (one : V → Hp → (Option V → Hp → Prop) → Prop) (Q : List V → Hp → Prop) : Prop :=
  ∃ (n : Nat) (W : Nat → List V → Hp → Prop), W 0 [] H1 ∧ n ≤ sizeLine ∧ ∀ i ys H', W i ys H' → (J.stop i H' ∧ Q ys H') ∨
    (J.go i H' ∧ i < n ∧ ∃ N : Option V → Hp → Prop, (∀ o H3, N o H3 → W (i + 1) (ys ++ o.toList) H3) ∧ ∀ x H2, J.yld i H' x H2 → one x H2 N)
def oneOf (tc : TT) (te : TE) (σ : St) (x : V) (H : Hp) (k : Option V → Hp → Prop) : Prop :=
  tc (some x :: σ) H fun b H1 => if b = true then te (some x :: σ) H1 fun v H2 => k (some v) H2 else k none H1
def tCompIf (wi : TI) (idx : List Nat) (tc : TT) (te : TE) : TE := fun σ H Q => wi σ H fun J H1 => CompW J H1 (oneOf tc te (sel idx σ)) fun ys H' => ∀ p, H' p = none → Q (.ref p) (upd H' p (.lst ys))
theorem comp_block {elt iter : Expr} {ifs : List Expr} {scope : Scope} {pos : Pos} {x : Str} {px : Pos} {M : List Str} {idx : List Nat} {tc : TT} {te : TE} {itv : Value} {Q : List V → Hp → Prop}
    {RR : Value → Addr → Result → Shared → Prop} 
    (hc : X.calm = true) (ok : CompOk X scope M idx) (hN : (x :: M).Nodup) (hx : scope.names.lookup x = some .local ∨ scope.names.lookup x = some .cell)
    (ht : ∀ cells C s2 H2 fp, PTs (X.comp scope cells C (x :: M) s2 H2 fp) ifs tc) (he : ∀ cells C s2 H2 fp, PE (X.comp scope cells C (x :: M) s2 H2 fp) elt te)
    (h : PIE X pins σ (.Name x px) (fun J H1 => CompW J H1 (oneOf tc te (sel idx σ)) Q) itv s)
    (hR : ∀ (D C : Addr) (ys : List V) (H' : Hp) (s' : Shared), s.heap.objs.size ≤ D → s.heap.objs.size ≤ C → D ≠ C → H' D = none → H' C = none → Q ys H' → (∃ m, s'.heap.Ns C m) →
      (∀ h' tk, Heap.SameBut C s'.heap h' → Inv X pins σ (upd H' D (.lst ys)) { s' with heap := h', toks := tk }) → RR (.ref D) C (.ok .next) s') :
    wpAny (model X.prog X.w) X.A (newList []) (fun acc s₃ => wpAny (model X.prog X.w) X.A (newFunctionEnv scope X.env.globals (clOf X.env.cells scope.names []) [] X.env.qual none .none (some X.env)) (fun cenv s₄ =>
      codeAny (model X.prog X.w) X.A (.compStart (.ListComp elt [⟨.Name x px, iter, ifs, 0⟩] scope pos) 0 itv acc { cenv with scope := relabel scope X.env }) (RR acc cenv.locals) s₄) X.xe s₃) X.xe s := by
  obtain ⟨it, fp, tn, J, H2, e, I2, T, st2, f2, n, W, w0, hn, turn⟩ := h
  subst e
  have ho : ∀ b ∈ fp, ∃ o, s.heap.get? b = some o := fun b hb => let ⟨o, e, _⟩ := T.obj 0 _ st2 b hb; ⟨o, e⟩
  have I3 := comp_start (x := x) ok hc I2 f2 ho
  have sz1 : (s.heap.push { cls := .type "list", dict := none, data := .seq ([] : List Value).toArray }).objs.size = s.heap.objs.size + 1 := Heap.size_push ..
  have keep0 : ∀ b o, s.heap.get? b = some o → (pushCells ((s.heap.push { cls := .type "list", dict := none, data := .seq ([] : List Value).toArray }).push { cls := .type "dict", data := .dict #[] }) scope.names).get? b = some o :=
    fun b o e => pushCells_keeps _ _ _ _ (Heap.get?_push_of_some _ (Heap.get?_push_of_some _ e))
  have acc0 : (pushCells ((s.heap.push { cls := .type "list", dict := none, data := .seq ([] : List Value).toArray }).push { cls := .type "dict", data := .dict #[] }) scope.names).PlainList s.heap.objs.size ([] : List Value).toArray :=
    ⟨_, pushCells_keeps _ _ _ _ (Heap.get?_push_of_some _ (Heap.get?_push_size _ rfl))⟩
  have fpLt : ∀ b ∈ fp, b < s.heap.objs.size := fun b hb => let ⟨_, e⟩ := ho b hb; Heap.lt_size e
  refine wpAny_newList ?_
  refine newCompEnv ?_
  dsimp only
  rw [sz1]
  generalize hcells : cellsFrom (s.heap.objs.size + 1 + 1) scope.names (clOf X.env.cells scope.names []) = cells
  have hcells' : cellsFrom (s.heap.objs.size + 2) scope.names (clOf X.env.cells scope.names []) = cells := hcells
  rw [hcells'] at I3
  generalize hh : pushCells ((s.heap.push { cls := .type "list", dict := none, data := .seq ([] : List Value).toArray }).push { cls := .type "dict", data := .dict #[] }) scope.names = h1 at I3 keep0 acc0 ⊢
  have ht := ht cells (s.heap.objs.size + 1) s H2 fp
  have he := he cells (s.heap.objs.size + 1) s H2 fp
  have st3 : tn 0 h1 := T.keep 0 _ _ st2 fun b hb o e => keep0 b o e
  have hg : PG (X.comp scope cells (s.heap.objs.size + 1) (x :: M) s H2 fp) (.Name x px) (gName 0) := by
    refine pg_name hN rfl ?_ ?_
    · show (relabel scope X.env).names.lookup x = some .local ∨ (relabel scope X.env).names.lookup x = some .cell
      rw [show (relabel scope X.env).names.lookup x = _ from kindOf_relabel scope.names x]
      rcases hx with z | z
      · rw [z]; exact .inl rfl
      · rw [z]; exact .inr rfl
    · rcases hx with z | z
      · refine .inr ?_
        show (relabel scope X.env).names.lookup x = some .local
        rw [show (relabel scope X.env).names.lookup x = _ from kindOf_relabel scope.names x, z]
        rfl
      · refine .inl ?_
        show (scope.names.lookup x == some .cell) = true
        rw [z]; rfl
  have stat : ∀ {pins' : List (Addr × Obj)} {H' : Hp}, (∀ p ∈ pins', p.1 = s.heap.objs.size) → (∀ b ∈ fp, H' b = none) → ∀ b ∈ fp, FpOk (X.comp scope cells (s.heap.objs.size + 1) (x :: M) s H2 fp) pins' H' b := fun {pins' H'} hp hn b hb =>
    ⟨hn b hb, (I3.ok.exf b hb).1, I3.ok.exfs b hb, .inl hb, (I3.ok.exf b hb).2, fun p hp' => by
      have e := hp p (show p ∈ pins' from by simpa [Cx.comp] using hp')
      rw [e]; exact Nat.ne_of_gt (fpLt b hb)⟩
  have loop : ∀ (s₄ : Shared), s₄ = { s with heap := h1 } → codeAny (model X.prog X.w) X.A (.compLoop (.ListComp elt [⟨.Name x px, iter, ifs, 0⟩] scope pos) 0 (.ref it) (.ref s.heap.objs.size) (compEnvC scope cells (s.heap.objs.size + 1) X.env))
      (RR (.ref s.heap.objs.size) (s.heap.objs.size + 1)) s₄ := by
    rintro s₄ rfl
    refine compLoop_any (fun k s' => ∃ (i : Nat) (ys : List V) (its : List Value) (H' : Hp), Inv (X.comp scope cells (s.heap.objs.size + 1) (x :: M) s H2 fp) [] (none :: sel idx σ) H' s' ∧ tn i s'.heap ∧ (∀ b ∈ fp, H' b = none) ∧ H' s.heap.objs.size = none ∧
      s'.heap.PlainList s.heap.objs.size its.toArray ∧ Vals ys its ∧ ys.length ≤ i ∧ i ≤ n ∧ W i ys H' ∧ k = n - i) ?_ n ⟨0, [], [], H2, I3, st3, fun b hb => (f2 b hb).1, I2.hok.fresh (Nat.le_refl _), acc0, .nil, Nat.le_refl _, Nat.zero_le _, w0, rfl⟩
    rintro k s' ⟨i, ys, its, H', I', st', fr', hD', hpl', hv', hlen, hlin, w', rfl⟩
    obtain ⟨nn, hobj⟩ := id hpl'
    have pinD : ∀ {H5 : Hp} {s5 : Shared} {σ5 : St} {P5 : List (Addr × Obj)}, Inv (X.comp scope cells (s.heap.objs.size + 1) (x :: M) s H2 fp) P5 σ5 H5 s5 → s5.heap.get? s.heap.objs.size = some { cls := .type "list", data := .seq its.toArray nn } → H5 s.heap.objs.size = none →
        ∀ p ∈ [(s.heap.objs.size, ({ cls := .type "list", data := .seq its.toArray nn } : Obj))], s5.heap.get? p.1 = some p.2 ∧ H5 p.1 = none ∧ p.1 ≠ (X.comp scope cells (s.heap.objs.size + 1) (x :: M) s H2 fp).env.locals ∧ p.1 ∉ (X.comp scope cells (s.heap.objs.size + 1) (x :: M) s H2 fp).fs ∧ ∀ v, p.2.data ≠ .cell v :=
      fun {H5 s5 σ5 P5} I5 e5 n5 p hp => by
        have ep : p = (s.heap.objs.size, ({ cls := .type "list", data := .seq its.toArray nn } : Obj)) := by simpa using hp
        subst ep
        refine ⟨e5, n5, Nat.ne_of_lt (Nat.lt_succ_self _), fun z => ?_, fun v z => by cases z⟩
        obtain ⟨_, o, ho, _⟩ := I5.ok.funs.mem z
        exact absurd (Heap.lt_size ho) (Nat.lt_irrefl _)
    have ID := I'.pins_of (pinD I' hobj hD')
    have ndp : ∀ p ∈ [(s.heap.objs.size, ({ cls := .type "list", data := .seq its.toArray nn } : Obj))], p.1 = s.heap.objs.size := fun p hp => by
      have ep : p = (s.heap.objs.size, ({ cls := .type "list", data := .seq its.toArray nn } : Obj)) := by simpa using hp
      rw [ep]
    rcases turn i ys H' w' with ⟨stop, qn⟩ | ⟨go, hin, N, hNW, step⟩
    · refine thn (T.done (X.comp scope cells (s.heap.objs.size + 1) (x :: M) s H2 fp) rfl rfl rfl hc i _ s' _ H' (fun _ _ => False) ID (stat ndp fr') st' stop) fun r s4 ⟨hr, I4⟩ => ?_
      subst hr
      have pin4 := I4.pin (s.heap.objs.size, ({ cls := .type "list", data := .seq its.toArray nn } : Obj)) (by simp [Cx.comp])
      obtain ⟨m4, hm4, _⟩ := id I4.loc
      refine hR s.heap.objs.size (s.heap.objs.size + 1) ys H' s4 (Nat.le_refl _) (Nat.le_succ _) (Nat.ne_of_lt (Nat.lt_succ_self _)) pin4.2.1 I4.free qn ⟨m4, hm4⟩ fun h' tk hs' => ?_
      have neC : ∀ b, b < s.heap.objs.size → b ≠ s.heap.objs.size + 1 := fun b hb => Nat.ne_of_lt (Nat.lt_succ_of_lt hb)
      have neD : ∀ b, b < s.heap.objs.size → b ≠ s.heap.objs.size := fun b hb => Nat.ne_of_lt hb
      have u4 := I4.base
      refine I2.call' (s' := { s4 with heap := h', toks := tk }) (ch := fp) I4.os ?_ ?_ I4.bare fun b hb => ?_
      · refine ⟨fun b o e1 e2 e3 e4 => ?_, fun b o e1 e2 e3 e4 => ?_, fun b o e1 e2 e3 => ?_, fun b o e1 e2 => ?_, fun b xs e1 => ?_, fun b o u e1 => ?_, fun b ps e1 => ?_⟩
        · exact (hs'.2 b (neC b (Heap.lt_size e1))).trans (u4.keep b o e1 e2 e3 e4)
        · obtain ⟨sl, q⟩ := u4.slot b o e1 e2 e3 e4
          exact ⟨sl, (hs'.2 b (neC b (Heap.lt_size e1))).trans q⟩
        · rw [upd_ne (neD b (Heap.lt_size e1))]; exact u4.free b o e1 e2 e3
        · obtain ⟨o', q⟩ := u4.there b o e1 e2
          exact ⟨o', (hs'.2 b (neC b (Heap.lt_size e1))).trans q⟩
        · have q := u4.tups b xs e1
          rw [upd_ne (ne_of_none q pin4.2.1)]; exact q
        · have q := u4.frzs b o u e1
          rw [upd_ne (ne_of_none q pin4.2.1)]; exact q
        · obtain ⟨more, q⟩ := u4.tbls b ps e1
          exact ⟨more, by rw [upd_ne (ne_of_none q pin4.2.1)]; exact q⟩
      · intro b o e1
        by_cases hb : b = s.heap.objs.size
        · subst hb
          rw [upd_same] at e1; cases e1
          exact ⟨Nat.le_trans hlen (Nat.le_trans hlin hn), its, nn, hv', (hs'.2 _ (Nat.ne_of_lt (Nat.lt_succ_self _))).trans pin4.1⟩
        · rw [upd_ne hb] at e1
          refine (I4.hok b o e1).stay (fun c u hcu q => (hs'.2 c ?_).trans q) (fun c q => by rw [upd_ne (ne_of_none q pin4.2.1)]; exact q) fun c xs q => by rw [upd_ne (ne_of_none q pin4.2.1)]; exact q
          rintro rfl
          rcases hcu with z | z
          · rw [← z] at e1
            have z2 := I4.free
            rw [show (X.comp scope cells (s.heap.objs.size + 1) (x :: M) s H2 fp).env.locals = s.heap.objs.size + 1 from rfl, e1] at z2
            cases z2
          · have z2 := I4.free
            rw [show (X.comp scope cells (s.heap.objs.size + 1) (x :: M) s H2 fp).env.locals = s.heap.objs.size + 1 from rfl, z] at z2
            cases z2
      · obtain ⟨_, g1, g2, g3, g4, g5⟩ := f2 b hb
        exact ⟨g3, g1, g4, g5⟩
    · refine thn (T.item (X.comp scope cells (s.heap.objs.size + 1) (x :: M) s H2 fp) rfl rfl rfl hc i _ s' _ H' (fun _ _ => False) ID (stat ndp fr') st' go) fun r s4 ⟨u, hr, h4⟩ => ?_
      subst hr
      refine thn h4 fun _ s5 ⟨y, H5, I5, r5, y5, st5, fr5⟩ => ?_
      have I5' := I5.pinned (stat ndp fr5) (T.obj _ _ st5)
      refine thn (hg _ s5 _ H5 y u (fun σ' H6 => σ' = some y :: sel idx σ ∧ H6 = H5) I5' r5 ⟨rfl, rfl⟩) fun _ s6 ⟨σ6, H6, I6, e6, e6'⟩ => ?_
      subst e6 e6'
      have fin : ∀ {H8 : Hp} {s8 : Shared} {σ8 : St}, Inv (X.comp scope cells (s.heap.objs.size + 1) (x :: M) s H2 fp) ([(s.heap.objs.size, ({ cls := .type "list", data := .seq its.toArray nn } : Obj))] ++ pinsAt fp s5.heap) σ8 H8 s8 →
          s8.heap.PlainList s.heap.objs.size its.toArray ∧ H8 s.heap.objs.size = none ∧ tn (i + 1) s8.heap ∧ ∀ b ∈ fp, H8 b = none := fun {H8 s8 σ8} I8 => by
        have p8 := I8.pin (s.heap.objs.size, ({ cls := .type "list", data := .seq its.toArray nn } : Obj)) (by simp [Cx.comp])
        refine ⟨⟨nn, p8.1⟩, p8.2.1, T.keep _ _ _ st5 fun b hb o e => (I8.pin (b, o) (List.mem_append_right _ (List.mem_append_right _ (mem_pinsAt hb e)))).1, fun b hb => ?_⟩
        obtain ⟨o, e, _⟩ := T.obj _ _ st5 b hb
        exact (I8.pin (b, o) (List.mem_append_right _ (List.mem_append_right _ (mem_pinsAt hb e)))).2.1
      have back : ∀ {H8 : Hp} {s8 : Shared} {P8 : List (Addr × Obj)}, Inv (X.comp scope cells (s.heap.objs.size + 1) (x :: M) s H2 fp) P8 (some y :: sel idx σ) H8 s8 → Inv (X.comp scope cells (s.heap.objs.size + 1) (x :: M) s H2 fp) [] (none :: sel idx σ) H8 s8 := fun I8 =>
        (I8.pins_of fun p hp => absurd hp (by simp)).weak rfl fun j v e => by
          cases j with
          | zero => cases e
          | succ j => exact e
      refine thn (ht _ s6 _ _ _ I6 (step y _ y5)) fun b s7 ⟨H7, I7, q7⟩ => ?_
      cases b with
      | false =>
        have q7' : W (i + 1) (ys ++ []) H7 := hNW none H7 q7
        rw [List.append_nil] at q7'
        obtain ⟨g1, g2, g3, g4⟩ := fin I7
        refine show (if false = true then _ else _) from ?_
        rw [if_neg Bool.false_ne_true]
        exact ⟨n - (i + 1), by omega, i + 1, ys, its, H7, back I7, g3, g4, g2, g1, hv', Nat.le_succ_of_le hlen, hin, q7', rfl⟩
      | true =>
        refine show (if true = true then _ else _) from ?_
        rw [if_pos rfl]
        have q7' : te (some y :: sel idx σ) H7 fun v H3 => N (some v) H3 := q7
        refine thn (he _ s7 _ _ _ I7 q7') fun u8 s8 ⟨v8, H8, I8, r8, w8⟩ => ?_
        have w8 : W (i + 1) (ys ++ [v8]) H8 := hNW (some v8) H8 w8
        obtain ⟨g1, g2, g3, g4⟩ := fin I8
        refine wpAny_list_append_plain g1 (fun h' hpl hs' => ?_) (by
          rw [List.size_toArray, ← hv'.length]
          exact Nat.le_trans hlen (Nat.le_trans hlin hn))
        have I9 := back I8
        have hpl2 : h'.PlainList s.heap.objs.size (its ++ [u8]).toArray := by
          have e : (its ++ [u8]).toArray = its.toArray.push u8 := by simp
          rw [e]; exact hpl
        refine ⟨n - (i + 1), by omega, i + 1, ys ++ [v8], its ++ [u8], H8, I9.turned (it := s.heap.objs.size) (t' := s8.toks) (fun b o hb e => (hs'.2 b hb).trans e) g2 (Nat.ne_of_lt (Nat.lt_succ_self _)) (.inr (Nat.le_refl _)) (fun z c ec hcz => ?_) (fun p hp => absurd hp (by simp [Cx.comp])),
          T.keep _ _ _ g3 (fun b hb o e => (hs'.2 b (Nat.ne_of_lt (fpLt b hb))).trans e), g4, g2, hpl2, hv'.append (.cons r8 .nil), by rw [List.length_append]; exact Nat.succ_le_succ hlen, hin, w8, rfl⟩
        obtain ⟨v, o, ho, hd⟩ := I9.cell z c ec
        obtain ⟨n9, g9⟩ := g1
        rw [hcz, g9] at ho
        cases ho
        cases hd
  exact codeAny_compStart_list (loop _ rfl) (T.self _ 0 _ _ _ st3 (loop _ rfl))
theorem pe_compIf {elt iter : Expr} {ifs : List Expr} {scope : Scope} {pos : Pos} {x : Str} {px : Pos} {M : List Str} {idx : List Nat} {wi : TI} {tc : TT} {te : TE}
    (hc : X.calm = true) (hi : PI X (.Name x px) iter wi) (ok : CompOk X scope M idx) (hN : (x :: M).Nodup) (hx : scope.names.lookup x = some .local ∨ scope.names.lookup x = some .cell)
    (ht : ∀ cells C s2 H2 fp, PTs (X.comp scope cells C (x :: M) s2 H2 fp) ifs tc) (he : ∀ cells C s2 H2 fp, PE (X.comp scope cells C (x :: M) s2 H2 fp) elt te)
    (hs : ∀ x, foldedSetIterable iter X.env x = pure x := by intro _; rfl) : PE X (.ListComp elt [⟨.Name x px, iter, ifs, 0⟩] scope pos) (tCompIf wi idx tc te) := by
  intro pins s σ H Q I h
  rw [eval_ListComp]
  refine wpAny_comprehension_free (use := none) rfl hs (closureFor_cl fun y hy e => I.ok.has y.1 (ok.fre y hy e)) ok.kind ok.loc (thn (hi pins s σ H _ I h) fun v s1 h1 => thn h1 fun itv s2 h2 => ?_)
  refine comp_block (RR := fun acc C => compPost (model X.prog X.w) X.A X.xe none (EP X pins σ Q) acc C) hc ok hN hx ht he h2 fun D C ys H' s' hD hC hDC nD nC q hm hI => ?_
  obtain ⟨m, hm⟩ := hm
  exact ⟨m, hm, fun h' hs' => ⟨.ref D, upd H' D (.lst ys), hI h' s'.toks hs', rfl, q D nD⟩⟩
end
theorem compW_list {K : PySem.W.Frag} {a : Addr} {xs : List V} {H : Hp} {one : V → Hp → (Option V → Hp → Prop) → Prop} {Q : List V → Hp → Prop} (Pv : Nat → List V → Hp → Prop) (h0 : Pv 0 [] H) (hn : xs.length ≤ sizeLine)
    (hl : ∀ i ys H, i ≤ xs.length → Pv i ys H → SqL K H a xs) (hs : ∀ i x ys H, xs[i]? = some x → Pv i ys H → one x H fun o H2 => Pv (i + 1) (ys ++ o.toList) H2) (hd : ∀ ys H, Pv xs.length ys H → Q ys H) : CompW (Itl K a) H one Q := by
  refine ⟨xs.length, fun i ys H => i ≤ xs.length ∧ Pv i ys H, ⟨Nat.zero_le _, h0⟩, hn, ?_⟩
  rintro i ys H ⟨hi, p⟩
  have q := hl i ys H hi p
  by_cases hlt : i < xs.length
  · refine .inr ⟨⟨xs, xs[i], q, by simp [hlt]⟩, hlt, fun o H3 => Pv (i + 1) (ys ++ o.toList) H3, fun o H3 z => ⟨hlt, z⟩, fun x H2 y => ?_⟩
    obtain ⟨e, y⟩ := y
    subst e
    exact hs i x ys _ (y xs q) p
  · have e : i = xs.length := by omega
    subst e
    exact .inl ⟨⟨xs, q, Nat.le_refl _⟩, hd ys H p⟩
theorem compW_tup {K : PySem.W.Frag} {a : Addr} {xs : List V} {H : Hp} {one : V → Hp → (Option V → Hp → Prop) → Prop} {Q : List V → Hp → Prop} (Pv : Nat → List V → Hp → Prop) (h0 : Pv 0 [] H) (hn : xs.length ≤ sizeLine)
    (hl : ∀ i ys H, i ≤ xs.length → Pv i ys H → SqT K H a xs) (hs : ∀ i x ys H, xs[i]? = some x → Pv i ys H → one x H fun o H2 => Pv (i + 1) (ys ++ o.toList) H2) (hd : ∀ ys H, Pv xs.length ys H → Q ys H) : CompW (Itt K a) H one Q := by
  refine ⟨xs.length, fun i ys H => i ≤ xs.length ∧ Pv i ys H, ⟨Nat.zero_le _, h0⟩, hn, ?_⟩
  rintro i ys H ⟨hi, p⟩
  have q := hl i ys H hi p
  by_cases hlt : i < xs.length
  · refine .inr ⟨⟨xs, xs[i], q, by simp [hlt]⟩, hlt, fun o H3 => Pv (i + 1) (ys ++ o.toList) H3, fun o H3 z => ⟨hlt, z⟩, fun x H2 y => ?_⟩
    obtain ⟨e, y⟩ := y
    subst e
    exact hs i x ys _ (y xs q) p
  · have e : i = xs.length := by omega
    subst e
    exact .inl ⟨⟨xs, q, Nat.le_refl _⟩, hd ys H p⟩
theorem compW_range {lo : Int} {n : Nat} {H : Hp} {one : V → Hp → (Option V → Hp → Prop) → Prop} {Q : List V → Hp → Prop} (Pv : Nat → List V → Hp → Prop) (h0 : Pv 0 [] H) (hn : n ≤ sizeLine)
    (hs : ∀ i ys H, i < n → Pv i ys H → one (.int (lo + i)) H fun o H2 => Pv (i + 1) (ys ++ o.toList) H2) (hd : ∀ ys H, Pv n ys H → Q ys H) : CompW (Itr lo n) H one Q := by
  refine ⟨n, fun i ys H => i ≤ n ∧ Pv i ys H, ⟨Nat.zero_le _, h0⟩, hn, ?_⟩
  rintro i ys H ⟨hi, p⟩
  by_cases hlt : i < n
  · refine .inr ⟨hlt, hlt, fun o H3 => Pv (i + 1) (ys ++ o.toList) H3, fun o H3 z => ⟨hlt, z⟩, fun x H2 y => ?_⟩
    obtain ⟨e, y⟩ := y
    subst e y
    exact hs i ys _ hlt p
  · have e : i = n := by omega
    subst e
    exact .inl ⟨Nat.le_refl _, hd ys H p⟩
end L2
namespace L2
open PySem PySem.Spec PyProof.Rows
mutual
inductive IsD (H : Hp) : V → PyData → Prop
  | non : IsD H .non .none
  | bl (b : Bool) : IsD H (.bl b) (.bool b)
  | int (i : Int) : IsD H (.int i) (.int i)
  | str (x : Str) : IsD H (.str x) (.str x)
  | tup {a : Addr} {xs : List V} {ds : List PyData} : H a = some (.tup xs) → IsDs H xs ds → IsD H (.ref a) (.tuple ds)
inductive IsDs (H : Hp) : List V → List PyData → Prop
  | nil : IsDs H [] []
  | cons {x : V} {xs : List V} {d : PyData} {ds : List PyData} : IsD H x d → IsDs H xs ds → IsDs H (x :: xs) (d :: ds)
end
def KeepT (H H' : Hp) : Prop := ∀ a xs, H a = some (.tup xs) → H' a = some (.tup xs)
mutual
theorem IsD.keep {H H' : Hp} (k : KeepT H H') : ∀ {v : V} {d : PyData}, IsD H v d → IsD H' v d
  | _, _, .non => .non
  | _, _, .bl b => .bl b
  | _, _, .int i => .int i
  | _, _, .str x => .str x
  | _, _, .tup h r => .tup (k _ _ h) (IsDs.keep k r)
theorem IsDs.keep {H H' : Hp} (k : KeepT H H') : ∀ {xs : List V} {ds : List PyData}, IsDs H xs ds → IsDs H' xs ds
  | _, _, .nil => .nil
  | _, _, .cons h r => .cons (IsD.keep k h) (IsDs.keep k r)
end
theorem IsDs.length {H : Hp} : ∀ {xs : List V} {ds : List PyData}, IsDs H xs ds → xs.length = ds.length
  | _, _, .nil => rfl
  | _, _, .cons _ r => by rw [List.length_cons, List.length_cons, IsDs.length r]
theorem IsDs.get {H : Hp} : ∀ {xs : List V} {ds : List PyData} {i : Nat} {d : PyData}, IsDs H xs ds → ds[i]? = some d → ∃ x, xs[i]? = some x ∧ IsD H x d
  | _, _, i, d, .nil, e => by simp at e
  | _, _, 0, d, .cons h _, e => by simp at e; subst e; exact ⟨_, rfl, h⟩
  | _, _, i + 1, d, .cons _ r, e => by
    obtain ⟨x, e1, h⟩ := IsDs.get (i := i) (d := d) r (by simpa using e)
    exact ⟨x, by simpa using e1, h⟩
theorem IsDs.append {H : Hp} : ∀ {xs ys : List V} {ds es : List PyData}, IsDs H xs ds → IsDs H ys es → IsDs H (xs ++ ys) (ds ++ es)
  | _, _, _, _, .nil, s => s
  | _, _, _, _, .cons h r, s => .cons h (IsDs.append r s)
theorem IsD.tuple_inv {H : Hp} {v : V} {ds : List PyData} (h : IsD H v (.tuple ds)) : ∃ a xs, v = .ref a ∧ H a = some (.tup xs) ∧ IsDs H xs ds := by
  cases h with
  | tup e r => exact ⟨_, _, rfl, e, r⟩
section
variable {X : Cx} {pins : List (Addr × Obj)} {σ : St} {H : Hp} {s : Shared}
mutual
theorem IsD.reads {P : Program} {w : World} {h : Heap} {H : Hp} (I : HOk P w H h) : ∀ {v : V} {d : PyData} {u : Value}, IsD H v d → RelV v u → ∃ as, Reads h u d as
  | _, _, u, .non, r => by cases (show u = Value.none from r); exact ⟨_, .none⟩
  | _, _, u, .bl b, r => by cases (show u = Value.bool b from r); exact ⟨_, .bool b⟩
  | _, _, u, .int i, r => by obtain ⟨t, rfl⟩ := (show ∃ t, u = Value.int i t from r); exact ⟨_, .int i t⟩
  | _, _, u, .str x, r => by obtain ⟨t, rfl⟩ := (show ∃ t, u = Value.str x t from r); exact ⟨_, .str x t⟩
  | _, _, u, .tup (a := a) (xs := xs) e rs, r => by
    cases (show u = Value.ref a from r)
    obtain ⟨_, its, rv, o, h1, h2, n, h3⟩ := (show ObjOk P w H h a (.tup xs) from I a _ e)
    obtain ⟨as, hr⟩ := IsDs.reads I rs rv
    exact ⟨as, .tuple h1 h2 h3 (by simpa using hr)⟩
theorem IsDs.reads {P : Program} {w : World} {h : Heap} {H : Hp} (I : HOk P w H h) : ∀ {xs : List V} {ds : List PyData} {us : List Value}, IsDs H xs ds → Vals xs us → ∃ as, ReadsAll h us ds as
  | _, _, _, .nil, .nil => ⟨_, .nil⟩
  | _, _, _, .cons h r, .cons v vs => by
    obtain ⟨as, h1⟩ := IsD.reads I h v
    obtain ⟨bs, h2⟩ := IsDs.reads I r vs
    exact ⟨_, .cons h1 h2⟩
end
def CmpD (u : Nat) (dx dy : PyData) : Prop := dx.canLay0 = true ∧ dy.canLay0 = true ∧ dx.depth ≤ 20
def rEqD (u : Nat) : R2 := fun x y H Q => ∃ dx dy, IsD H x dx ∧ IsD H y dy ∧ CmpD u dx dy ∧ Q (.bl (PyData.eqv dx dy)) H
def rNeD (u : Nat) : R2 := fun x y H Q => ∃ dx dy, IsD H x dx ∧ IsD H y dy ∧ CmpD u dx dy ∧ Q (.bl (!PyData.eqv dx dy)) H
theorem unitsD {A : Around} {a b : Nat} (hu : A.units + 64 < cLine) (h : a ≤ 20) : A.units + min a b < cLine := by
  have : min a b ≤ a := Nat.min_le_left _ _
  omega
theorem op_eqD (hu : X.A.units + 64 < cLine) : OpR X (compareOp .Eq) (rEqD 0) := by
  intro pins s σ H x y v u Q I rx ry h
  obtain ⟨dx, dy, hx, hy, ⟨c1, c2, c3⟩, q⟩ := h
  obtain ⟨as, r1⟩ := hx.reads I.hok rx
  obtain ⟨bs, r2⟩ := hy.reads I.hok ry
  exact PySem.SeqAt.compareEq_reads r1 r2 c1 c2 (unitsD hu c3) ⟨.bl _, H, I, rfl, q⟩
theorem op_neD (hu : X.A.units + 64 < cLine) : OpR X (compareOp .NotEq) (rNeD 0) := by
  intro pins s σ H x y v u Q I rx ry h
  obtain ⟨dx, dy, hx, hy, ⟨c1, c2, c3⟩, q⟩ := h
  obtain ⟨as, r1⟩ := hx.reads I.hok rx
  obtain ⟨bs, r2⟩ := hy.reads I.hok ry
  exact PySem.SeqAt.compareNe_reads r1 r2 c1 c2 (unitsD hu c3) ⟨.bl _, H, I, rfl, q⟩
theorem call_sum (hc : X.calm = true) : CallR X (.builtin "sum") (fun xs H Q => ∃ (p : Addr) (ns : List Int), xs = [.ref p] ∧ SqL X.K H p (ns.map V.int) ∧ Q (.int ns.sum) H) := by
  intro pins s σ H xs us Q I r h
  obtain ⟨p, ns, rfl, hS, q⟩ := h
  obtain ⟨u, rfl, e⟩ := vals1 r
  obtain rfl : u = Value.ref p := e
  obtain ⟨its, hv, ⟨o, n, h1, h2, h3, h4⟩, _⟩ := I.list hS
  have hi : IntsAre its ns := intsAre_of hv
  obtain ⟨xs, hx⟩ := hi.allInts.items
  have hl : s.heap.IsList p its.toArray := ⟨o, h1, h2, n, h4⟩
  refine sum_intListG (I.ok.hd hc) (hx ▸ hl) fun h' tk t' hk => ⟨.int ns.sum, H, I.kept hk, ⟨t', ?_⟩, q⟩
  have e1 : ns = xs.toList.map (·.1) := by
    rw [← nums_intItems, ← hx]
    exact (show numsOf its.toArray.toList = ns from hi.numsOf).symm
  rw [preSum_eq, List.take_of_length_le (by simp), e1]
def kindV (K : PySem.W.Frag) (H : Hp) (x : V) (T : String) : Prop := match x with
  | .non => T = "NoneType"
  | .bl _ => T = "bool"
  | .int _ => T = "int"
  | .str _ => T = "str"
  | .ref a => (T = "tuple" ∧ ∃ xs, H a = some (.tup xs)) ∨ (T = "list" ∧ ∃ xs, H a = some (.lst xs))
  | _ => False
theorem kind_ty {K : PySem.W.Frag} {H : Hp} {x : V} {T : String} (h : kindV K H x T) : TyOf K H x (.type T) := by
  cases x with
  | non => cases (show T = _ from h); exact .non
  | bl b => cases (show T = _ from h); exact .bl b
  | int i => cases (show T = _ from h); exact .int i
  | str i => cases (show T = _ from h); exact .str i
  | ref a =>
    rcases h with ⟨rfl, xs, e⟩ | ⟨rfl, xs, e⟩
    · exact .tup e
    · exact .lst e
  | byt b => exact h.elim
  | flt b => exact h.elim
  | ty n => exact h.elim
theorem call_isinst : CallR X (.builtin "isinstance") (fun xs H Q => ∃ (x : V) (T C : String) (b : Bool), xs = [x, .ty C] ∧ kindV X.K H x T ∧ PySem.W.kitOne X.K (.type T) (.type C) = some b ∧ Q (.bl b) H) := by
  intro pins s σ H xs us Q I r h
  obtain ⟨x, T, C, b, rfl, ty, e, q⟩ := h
  obtain ⟨u, c, rfl, rx, rc⟩ := vals2 r
  cases (show c = Value.type C from rc)
  exact isinst_ok I rx (kind_ty ty) e fun tk => ⟨.bl b, H, I.tok tk, rfl, q⟩
theorem op_fdivB : OpR X (binaryOp .FloorDiv) (rI (fun _ j => 0 < j ∧ j < 2 ^ 62) fun i j => .int (i / j)) := opI fun i j _ _ _ _ _ hc q => by
  rw [← Int.fdiv_eq_ediv_of_nonneg i (Int.le_of_lt hc.1)] at q
  refine floordiv_int (by omega) q (.inl (PyProof.noPylong_of_log2 ?_))
  have h1 : j.natAbs < 2 ^ 62 := by omega
  have h2 : j.natAbs ≠ 0 := by omega
  have := (Nat.log2_lt h2).mpr h1
  omega
end
end L2
namespace L2
open PySem PySem.Spec PyProof.Rows
def Raw (K : PySem.W.Frag) (mg : Str → Option Value) (x : Str) (ps : List Str) (st : Stmt) : Prop :=
  ∃ (f : Addr) (fd : FuncData), Fun K x x st f fd ∧ mg x = some (.ref f) ∧ Binds K fd ps []
def Df (P : Program) (w : World) (K : PySem.W.Frag) (mg : Str → Option Value) (base : Heap) (k : Nat) (x : Str) (ps : List Str) (sp : Sp) : Prop :=
  ∃ (f : Addr) (fd : FuncData), FnOk P w K mg base CX0 k f fd ps sp ∧ mg x = some (.ref f) ∧ PySem.W.keepIn K (.ref f) = true ∧ Binds K fd ps [] ∧ ∃ st, Fun K x x st f fd
section
variable {P : Program} {w : World} {K : PySem.W.Frag} {mg : Str → Option Value} {base : Heap}
theorem Raw.ok {x : Str} {ps N : List Str} {st : Stmt} {k : Nat} {sp : Sp} (R : Raw K mg x ps st) (S : FnScope N ps (defScope st)) (len : ∀ vs H Q E, sp vs H Q E → vs.length = ps.length)
    (hbody : ∀ (f : Addr) (cdv : Value) (A : Around) (outer : List Env) (s : Shared) (H : Hp) (vs : List V) (Q : VK) (E : XK), Room k (A.deeper (envOfC x (defScope st) s.heap.objs.size f cdv)) → sp vs H Q E →
      ∃ t, PSs (cxOf CX0 P w K mg base N x (defScope st) f cdv A outer s H E).nox (defBody st) t ∧ t { nx := fun _ H' => Q .non H', rt := Q } (start N vs) H) : Df P w K mg base (k + 1) x ps sp := by
  obtain ⟨f, fd, F, m, b⟩ := R
  exact ⟨f, fd, F.ok S len (fun cdv A outer s H vs Q E hr h => hbody f cdv A outer s H vs Q E hr h), m, F.kp, b, st, F⟩
end
theorem pe_df {X : Cx} {k : Nat} {x : Str} {ps : List Str} {sp : Sp} {p pos : Pos} {e : Expr} {es : List Expr} {t : TA} (D : Df X.prog X.w X.K X.mg X.base k x ps sp) (hr : Room k X.A) (ha : PA X (e :: es) t) (hg : Gl X x := by rfl)
    (hdb : (x == ("__debug__" : Str)) = false := by decide) (he : starEach (e :: es) X.env = (false, eval e X.env) :: starEach es X.env := by rfl) (hpl : (backTo pos (starEach es X.env)).any (·.1) = false := by rfl) :
    PE X (.Call (.Name x p) (e :: es) [] pos) (tCall sp [] E0 t) := by
  obtain ⟨f, fd, F, m, kp, b, _⟩ := D
  exact pe_call F hr hg m kp b .nil pass0 ha hdb he hpl
def KeepBut (d : Addr) (H H' : Hp) : Prop := ∀ b o, H b = some o → b ≠ d → H' b = some o
theorem KeepBut.refl (d : Addr) (H : Hp) : KeepBut d H H := fun _ _ h _ => h
theorem KeepBut.trans {d : Addr} {H H1 H2 : Hp} (a : KeepBut d H H1) (b : KeepBut d H1 H2) : KeepBut d H H2 := fun c o h n => b c o (a c o h n) n
theorem KeepBut.upd {d p : Addr} {H H1 : Hp} {o : HO} (a : KeepBut d H H1) (hp : H1 p = none) : KeepBut d H (upd H1 p o) := fun c u h n => by
  rw [upd_ne (ne_of_none (a c u h n) hp)]; exact a c u h n
structure DeckAt (H : Hp) (d c : Addr) (ns : List Int) (k : Nat) (r : Int) (m : Nat) (t : Int) : Prop where
  deck : H d = some (.lst [.ref c, .int k, .int r, .int m, .int t])
  cut : H c = some (.lst (ns.map V.int))
  kle : k ≤ ns.length
  few : ns.length ≤ 63
  rnn : 0 ≤ r
def Deck (H : Hp) (d : Addr) (n : Nat) : Prop := ∃ c ns k r m t, DeckAt H d c ns k r m t ∧ m ≤ n
theorem Deck.more {H : Hp} {d : Addr} {n m : Nat} (D : Deck H d n) (h : n ≤ m) : Deck H d m := let ⟨c, ns, k, r, j, t, D, hj⟩ := D; ⟨c, ns, k, r, j, t, D, Nat.le_trans hj h⟩
theorem Deck.keep {H H' : Hp} {d : Addr} {n : Nat} (D : Deck H d n) (h : Same H H') : Deck H' d n :=
  let ⟨c, ns, k, r, m, t, D, hm⟩ := D; ⟨c, ns, k, r, m, t, ⟨h _ _ D.deck, h _ _ D.cut, D.kle, D.few, D.rnn⟩, hm⟩
theorem Deck.upd {H : Hp} {d p : Addr} {n : Nat} {o : HO} (D : Deck H d n) (hp : H p = none) : Deck (upd H p o) d n := D.keep fun b u e => by rw [upd_ne (ne_of_none e hp)]; exact e
theorem same_upd {H : Hp} {p : Addr} {o : HO} (hp : H p = none) : Same H (upd H p o) := fun b u e => by rw [upd_ne (ne_of_none e hp)]; exact e
theorem Same.tups {H H' : Hp} (s : Same H H') : KeepT H H' := fun a xs e => s a _ e
end L2
namespace L2
open PySem PySem.Spec PyProof.Rows
section
variable {X : Cx} {tg l : Expr}
theorem op_eqA (hu : X.A.units + 64 < cLine) : OpR X (compareOp .Eq) (fun x y H Q => rEq x y H Q ∨ rEqD 0 x y H Q) := op_eq.or (op_eqD hu)
theorem op_neA (hu : X.A.units + 64 < cLine) : OpR X (compareOp .NotEq) (fun x y H Q => rNe x y H Q ∨ rNeD 0 x y H Q) := op_ne.or (op_neD hu)
theorem pi_or {w1 w2 : TI} (h1 : PI X tg l w1) (h2 : PI X tg l w2) : PI X tg l (fun σ H R => w1 σ H R ∨ w2 σ H R) := fun pins s σ H R I h => h.elim (h1 pins s σ H R I) (h2 pins s σ H R I)
theorem pi_seq {tl : TE} (hl : PE X l tl) : PI X tg l (fun σ H R => iList X.K tl σ H R ∨ iTup X.K tl σ H R) := pi_or (pi_list hl) (pi_tup hl)
end
theorem bt_tuple : bootBuiltins "tuple" = some (.type "tuple") := by decide +kernel
theorem bt_int : bootBuiltins "int" = some (.type "int") := by decide +kernel
theorem bt_bool : bootBuiltins "bool" = some (.type "bool") := by decide +kernel
theorem bt_str : bootBuiltins "str" = some (.type "str") := by decide +kernel
theorem bt_list : bootBuiltins "list" = some (.type "list") := by decide +kernel
theorem bt_range : bootBuiltins "range" = some (.type "range") := by decide +kernel
theorem bt_len : bootBuiltins "len" = some (.builtin "len") := by decide +kernel
theorem bt_sum : bootBuiltins "sum" = some (.builtin "sum") := by decide +kernel
theorem bt_max : bootBuiltins "max" = some (.builtin "max") := by decide +kernel
theorem bt_min : bootBuiltins "min" = some (.builtin "min") := by decide +kernel
theorem bt_abs : bootBuiltins "abs" = some (.builtin "abs") := by decide +kernel
theorem bt_isinstance : bootBuiltins "isinstance" = some (.builtin "isinstance") := by decide +kernel
end L2
namespace L2
open PySem PySem.Spec PyProof.Rows
def compB (outer : List (Str × NameKind)) (scope : Scope) (M : List Str) (idx : List Nat) (N : List Str) : Bool :=
  scope.kind == .function && (scope.names.all fun y => (y.2 != .local || scope.names.lookup y.1 == some .local) && (y.2 != .cell || scope.names.lookup y.1 == some .cell) && (y.2 != .free || (outer.lookup y.1 == some .cell || outer.lookup y.1 == some .free)))
    && idx.length == M.length && (M.zip idx).all fun p => scope.names.lookup p.1 == some .free && N[p.2]? == some p.1
theorem compOk {X : Cx} {scope : Scope} {M : List Str} {idx : List Nat} (h : compB X.env.scope.names scope M idx X.N = true) : CompOk X scope M idx := by
  unfold compB at h
  simp only [Bool.and_eq_true] at h
  obtain ⟨⟨⟨h1, h2⟩, h3⟩, h4⟩ := h
  have h2' := List.all_eq_true.mp h2
  refine ⟨by simpa using h1, fun y hy e => ?_, fun y hy e => ?_, fun y hy e => ?_, by simpa using h3, fun j y ej => ?_⟩
  · have := h2' y hy
    simp [e] at this
    exact this
  · have := h2' y hy
    simp [e] at this
    exact this
  · have := h2' y hy
    simp [e] at this
    exact this
  · have hl : idx.length = M.length := by simpa using h3
    have hj : j < M.length := (List.getElem?_eq_some_iff.mp ej).1
    have hk : idx[j]? = some (idx[j]'(by omega)) := by simp [hl, hj]
    have hz : (M.zip idx)[j]? = some (y, idx[j]'(by omega)) := by
      rw [List.getElem?_zip_eq_some]
      exact ⟨ej, hk⟩
    have := List.all_eq_true.mp h4 _ (List.mem_of_getElem? hz)
    simp only [Bool.and_eq_true, beq_iff_eq] at this
    exact ⟨this.1, _, hk, this.2⟩
end L2
namespace L2
open PySem PySem.Spec PyProof.Rows
def SpLaw (K : PySem.W.Frag) : Sp := fun vs H Q _ => ∃ (a : Addr) (ns : List Int), vs = [.ref a] ∧ SqL K H a (ns.map V.int) ∧ ns.length ≤ 63 ∧ ∀ H', Q (.bl true) H'
theorem walk_df {l : PySem.W.OpenLaw} {k : Nat} {q : Program} {loose : List Str} {XP : (Str → Option Value) → Heap → Prop} {YP : World → Heap → Prop} {d : DefRec} {K : Params → PySem.W.Frag} {st : Stmt}
    (hn : l.most = some 63) (hdf : d.params.defaults = []) (hdn : d.name = "law") (hr : Room k callerA)
    (hY : ∀ (w : World) (h : Heap), YP w h → (K w.params).In h)
    (hbind : ∀ (kV doc pm : Value) (an : Option Addr) (cdv ct v : Value), bindArgs (PySem.W.fnOf "law" "law" (defArgs st) (defBody st) (defScope st) .none kV doc pm an cdv ct) ⟨[v], []⟩ = pure [(("script" : Str), v)])
    (F : ∀ (w : World) (mg : Str → Option Value) (h : Heap), (K w.params).In h → h.Ns mainGlobals mg → Raw (K w.params) mg "law" ["script"] st ∧ ∀ base : Heap, Df l.prog w (K w.params) mg base k "law" ["script"] (SpLaw (K w.params))) :
    PySem.W.WalkO q loose XP YP l.row.toRowW d [] (fun f vs => PySem.call f vs) := by
  refine L2.walk_of (n := 63) (k := k) (x := "script") (CX := fun _ => CX0) (sp := fun w => SpLaw (K w.params)) hn (by decide) hdf hr hY (fun w mg fa h KX G hmg => ?_) (fun w H a ns hl _ hS => ⟨a, ns, rfl, hS, hl, fun _ => rfl⟩) fun _ _ _ _ _ z => z
  obtain ⟨⟨f, fd, R, m, b⟩, D⟩ := F w mg h KX G
  rw [hdn] at hmg
  have e := hmg.symm.trans m
  cases e
  obtain ⟨oc, od, kV, doc, pm, an, cdv, ct, osl, e1, e2, _⟩ := R.ex
  refine ⟨fd, fun s v => .of_eq (by rw [e1]; exact hbind kV doc pm an cdv ct v), fun base _ _ => ?_⟩
  obtain ⟨f', fd', G', m', _, _, st', R'⟩ := D base
  have e := hmg.symm.trans m'
  cases e
  obtain ⟨oc', od', kV', doc', pm', an', cdv', ct', osl', e1', e2', _⟩ := R'.ex
  rw [e2] at e2'
  cases e2'
  exact G'
end L2
namespace L2
open PySem PySem.Spec PyProof.Rows
end L2
namespace L2
theorem tSeq_cut {t u : TS} {D : Ends} {σ : St} {H : Hp} (R : St → Hp → Prop) (hu : ∀ σ H, R σ H → u D σ H) (ht : (∀ σ H, R σ H → u D σ H) → t { D with nx := u D } σ H) : tSeq t u D σ H := ht hu
end L2
namespace L2
open PySem PySem.Spec PyProof.Rows
section
variable {X : Cx} {K : PySem.W.Frag} {tg l a b : Expr} {ta tb tl : TE} {pos : Pos}
theorem call_lenK (h : X.K = K) : CallR X (.builtin "len") (fun xs H Q => ∃ x n, xs = [x] ∧ LenV K x H n ∧ Q (.int n) H) := by subst h; exact call_len
theorem call_tupleK (h : X.K = K) : CallR X (.type "tuple") (fun xs H Q => ∃ p ys, xs = [.ref p] ∧ ((SqL K H p ys ∧ ∀ l, H l = none → Q (.ref l) (upd H l (.tup ys))) ∨ (SqT K H p ys ∧ Q (.ref p) H))) := by subst h; exact call_tuple_of
theorem call_listK (h : X.K = K) : CallR X (.type "list") (fun xs H Q => ∃ p ys, xs = [.ref p] ∧ (SqL K H p ys ∨ SqT K H p ys) ∧ ∀ l, H l = none → Q (.ref l) (upd H l (.lst ys))) := by subst h; exact call_list_of
theorem call_sumK (h : X.K = K) (hc : X.calm = true) : CallR X (.builtin "sum") (fun xs H Q => ∃ (p : Addr) (ns : List Int), xs = [.ref p] ∧ SqL K H p (ns.map V.int) ∧ Q (.int ns.sum) H) := by subst h; exact call_sum hc
theorem call_isinstK (h : X.K = K) : CallR X (.builtin "isinstance") (fun xs H Q => ∃ (x : V) (T C : String) (b : Bool), xs = [x, .ty C] ∧ kindV K H x T ∧ PySem.W.kitOne K (.type T) (.type C) = some b ∧ Q (.bl b) H) := by subst h; exact call_isinst
theorem ix_seqK (h : X.K = K) : IxR X (rIx K) := by subst h; exact ix_seq
theorem pi_seqK (h : X.K = K) (hl : PE X l tl) : PI X tg l (fun σ H R => iList K tl σ H R ∨ iTup K tl σ H R) := by subst h; exact pi_seq hl
theorem pg_tupK {es : List Expr} {k : Nat} {t : TGs} {n : Nat} (h : X.K = K) (hc : X.calm = true) (hg : PGs X es t)
    (hn : (assignEach es X.env).length = n := by rfl) (hst : (assignEach es X.env).findIdx? (·.1) = none := by rfl) : PG X (.Tuple es k pos) (gTup K n t) := by subst h; exact pg_tup hc hg hn hst
end
end L2
namespace L2
theorem oneT {te : TE} {σ : St} {x : V} {H : Hp} {k : Option V → Hp → Prop} (h : te (some x :: σ) H fun v H2 => k (some v) H2) : oneOf ttTrue te σ x H k := by
  show if true = true then (te (some x :: σ) H fun v H2 => k (some v) H2) else k none H
  rw [if_pos rfl]
  exact h
end L2
namespace L2
open PySem PySem.Spec PyProof.Rows
theorem Raw.never {P : Program} {w : World} {K : PySem.W.Frag} {mg : Str → Option Value} {base : Heap} {x : Str} {ps : List Str} {st : Stmt} {k : Nat} {sp : Sp} (R : Raw K mg x ps st) (h : ∀ vs H Q E, sp vs H Q E → False) : Df P w K mg base k x ps sp := by
  obtain ⟨f, fd, F, m, b⟩ := R
  exact ⟨f, fd, ⟨fun vs H Q E z => (h vs H Q E z).elim, fun A outer s H args us vs Q E hr e0 hb r z => (h vs H Q E z).elim⟩, m, F.kp, b, st, F⟩
end L2
namespace L2
theorem while_at {c : TT} {tb : TS} {D : Ends} {σ : St} {H : Hp} (Pv : St → Hp → Prop) (μ : St → Hp → Nat) (h0 : Pv σ H)
    (hs : ∀ σ H, Pv σ H → c σ H fun b H1 => if b = true then ∃ N : St → Hp → Prop, (∀ σ' H', N σ' H' → ∃ m', m' < μ σ H ∧ m' = μ σ' H' ∧ Pv σ' H') ∧ tb { D with nx := N, ct := N, bk := D.nx } σ H1 else D.nx σ H1) : tWhile c tb D σ H := by
  refine ⟨fun m σ H => m = μ σ H ∧ Pv σ H, ⟨_, rfl, h0⟩, ?_⟩
  rintro m σ H ⟨rfl, p⟩
  exact hs σ H p
end L2
namespace L2
theorem tOr_at {t u : TT} {σ : St} {H : Hp} {Q : Bool → Hp → Prop} (b c : Bool) (ht : ∀ R : Bool → Hp → Prop, R b H → t σ H R) (hu : ∀ R : Bool → Hp → Prop, R c H → u σ H R) (h : Q (b || c) H) : tOr t u σ H Q := by
  refine ht _ ?_
  cases b with
  | true => exact iteT (by simpa using h)
  | false => exact iteF (hu _ (by simpa using h))
end L2
namespace L2
open PySem PySem.Spec PyProof.Rows
def cellV : Option Int → V
  | none => .non
  | some i => .int i
def cellD : Option Int → PyData
  | none => .none
  | some i => .int i
def rowD (r : List (Option Int)) : PyData := .tuple (r.map cellD)
def fieldD (F : List (List (Option Int))) : PyData := .tuple (F.map rowD)
theorem isCell {H : Hp} : ∀ c : Option Int, IsD H (cellV c) (cellD c)
  | none => .non
  | some i => .int i
theorem isCells {H : Hp} : ∀ r : List (Option Int), IsDs H (r.map cellV) (r.map cellD)
  | [] => .nil
  | c :: r => .cons (isCell c) (isCells r)
theorem IsD.cell_inv {H : Hp} {v : V} : ∀ {c : Option Int}, IsD H v (cellD c) → v = cellV c
  | none, h => by cases h; rfl
  | some i, h => by cases h; rfl
theorem IsDs.cells_inv {H : Hp} : ∀ {xs : List V} {r : List (Option Int)}, IsDs H xs (r.map cellD) → xs = r.map cellV
  | _, [], h => by cases h; rfl
  | _, c :: r, h => by
    cases h with
    | cons h1 h2 => rw [IsD.cell_inv h1, IsDs.cells_inv h2]; rfl
theorem isRow_inv {H : Hp} {v : V} {r : List (Option Int)} (h : IsD H v (rowD r)) : ∃ a, v = .ref a ∧ H a = some (.tup (r.map cellV)) := by
  obtain ⟨a, xs, e, h1, h2⟩ := h.tuple_inv
  rw [IsDs.cells_inv h2] at h1
  exact ⟨a, e, h1⟩
theorem isField_inv {H : Hp} {v : V} {F : List (List (Option Int))} (h : IsD H v (fieldD F)) : ∃ a xs, v = .ref a ∧ H a = some (.tup xs) ∧ IsDs H xs (F.map rowD) := h.tuple_inv
theorem isRows_get {H : Hp} {xs : List V} {F : List (List (Option Int))} {i : Nat} (h : IsDs H xs (F.map rowD)) (hi : i < F.length) : ∃ a, xs[i]? = some (.ref a) ∧ H a = some (.tup (F[i].map cellV)) := by
  obtain ⟨x, e1, e2⟩ := h.get (i := i) (d := rowD F[i]) (by simp [hi])
  obtain ⟨a, e3, e4⟩ := isRow_inv e2
  exact ⟨a, by rw [e1, e3], e4⟩
def CellOk (c : Option Int) : Prop := ∀ i, c = some i → -1000000000 ≤ i ∧ i ≤ 1000000000
structure FieldOk (F : List (List (Option Int))) (h w : Nat) : Prop where
  len : F.length = h
  h1 : 1 ≤ h
  h12 : h ≤ 12
  w1 : 1 ≤ w
  w12 : w ≤ 12
  row : ∀ r ∈ F, r.length = w
  cell : ∀ r ∈ F, ∀ c ∈ r, CellOk c
theorem atI_mem {α : Type} {xs : List α} {i : Int} (h0 : 0 ≤ i) (h1 : i < xs.length) : ∃ v, atI xs i = some v ∧ v ∈ xs := by
  obtain ⟨j, rfl⟩ := Int.eq_ofNat_of_zero_le h0
  have hj : j < xs.length := by omega
  exact ⟨xs[j], atI_nat (by simp [hj]), List.getElem_mem hj⟩
theorem canLay_cell (c : Option Int) : (cellD c).canLay0 = true := by cases c <;> rfl
theorem canLay_cells : ∀ r : List (Option Int), PyData.canLayAll0 (r.map cellD) = true
  | [] => rfl
  | c :: r => by rw [List.map_cons, PyData.canLayAll0, canLay_cell, canLay_cells r]; rfl
theorem canLay_row (r : List (Option Int)) : (rowD r).canLay0 = true := canLay_cells r
theorem canLay_rows : ∀ F : List (List (Option Int)), PyData.canLayAll0 (F.map rowD) = true
  | [] => rfl
  | c :: r => by rw [List.map_cons, PyData.canLayAll0, canLay_row, canLay_rows r]; rfl
theorem depth_cell (c : Option Int) : (cellD c).depth = 0 := by cases c <;> rfl
theorem depth_cells : ∀ r : List (Option Int), PyData.depthAll (r.map cellD) = 0
  | [] => rfl
  | c :: r => by rw [List.map_cons, PyData.depthAll, depth_cell, depth_cells r]; rfl
theorem depth_row (r : List (Option Int)) : (rowD r).depth = 1 := by
  show PyData.depthAll (r.map cellD) + 1 = 1
  rw [depth_cells]
theorem depth_rows : ∀ F : List (List (Option Int)), PyData.depthAll (F.map rowD) ≤ 1
  | [] => Nat.zero_le _
  | c :: r => by rw [List.map_cons, PyData.depthAll, depth_row]; exact Nat.max_le.mpr ⟨Nat.le_refl _, depth_rows r⟩
end L2
namespace L2
open PySem PySem.Spec PyProof.Rows
theorem depthAll_get : ∀ {ds : List PyData} {i : Nat} {d : PyData}, ds[i]? = some d → d.depth ≤ PyData.depthAll ds
  | [], i, d, e => by simp at e
  | x :: ds, 0, d, e => by
    simp at e; subst e
    rw [PyData.depthAll]; exact Nat.le_max_left _ _
  | x :: ds, i + 1, d, e => by
    rw [PyData.depthAll]
    exact Nat.le_trans (depthAll_get (i := i) (by simpa using e)) (Nat.le_max_right _ _)
end L2
namespace L2
open PySem PySem.Spec PyProof.Rows
inductive Rule where
  | there | near | turned | round | told (c : Option Int)
def ruleD : Rule → PyData
  | .there => .str "there"
  | .near => .str "near"
  | .turned => .str "turned"
  | .round => .str "round"
  | .told c => .tuple [.str "told", cellD c]
def led : Rule → Int → Int → Int
  | .near, p, n => min (max p 0) (n - 1)
  | .turned, p, n => min (p % (2 * n)) (2 * n - 1 - p % (2 * n))
  | _, p, n => p % n
theorem led_in (r : Rule) (p : Int) {n : Int} (h : 1 ≤ n) : 0 ≤ led r p n ∧ led r p n < n := by
  have a := Int.emod_nonneg p (show n ≠ 0 by omega)
  have b := Int.emod_lt_of_pos p (show 0 < n by omega)
  have c := Int.emod_nonneg p (show 2 * n ≠ 0 by omega)
  have d := Int.emod_lt_of_pos p (show 0 < 2 * n by omega)
  cases r <;> simp only [led] <;> omega
theorem led_id (r : Rule) {p n : Int} (h0 : 0 ≤ p) (h1 : p < n) : led r p n = p := by
  have a := Int.emod_eq_of_lt h0 h1
  have b := Int.emod_eq_of_lt h0 (show p < 2 * n by omega)
  cases r <;> simp only [led] <;> omega
def cellAt (F : List (List (Option Int))) (i j : Int) : Option Int := ((F[i.toNat]?).bind fun r => r[j.toNat]?).join
def inF (F : List (List (Option Int))) (i j : Int) : Bool := decide (0 ≤ i) && decide (i < F.length) && (decide (0 ≤ j) && decide (j < (F.headD []).length))
def stands (F : List (List (Option Int))) (r : Rule) (i j : Int) : List (Option Int) :=
  if inF F i j then [cellAt F i j] else match r with
    | .there => []
    | .told c => [c]
    | r => [cellAt F (led r i F.length) (led r j (F.headD []).length)]
structure Rect (F : List (List (Option Int))) : Prop where
  h1 : 1 ≤ F.length
  hs : F.length ≤ 1000
  w1 : 1 ≤ (F.headD []).length
  ws : (F.headD []).length ≤ 1000
  row : ∀ r ∈ F, r.length = (F.headD []).length
theorem FieldOk.rect {F : List (List (Option Int))} {h w : Nat} (o : FieldOk F h w) : Rect F ∧ (F.headD []).length = w ∧ F.length = h := by
  obtain ⟨len, h1, h12, w1, w12, row, cell⟩ := o
  cases F with
  | nil => simp at len; omega
  | cons r F =>
    have e : r.length = w := row r List.mem_cons_self
    refine ⟨⟨by omega, by omega, ?_, ?_, ?_⟩, e, len⟩
    · show 1 ≤ r.length; omega
    · show r.length ≤ 1000; omega
    · intro r' hr'
      show r'.length = r.length
      rw [row r' hr', e]
theorem field_cell {H : Hp} {v : V} {F : List (List (Option Int))} (R : Rect F) (h : IsD H v (fieldD F)) {i j : Int} (i0 : 0 ≤ i) (i1 : i < F.length) (j0 : 0 ≤ j) (j1 : j < (F.headD []).length) :
    ∃ (a : Addr) (xs : List V) (b : Addr) (r : List (Option Int)), v = .ref a ∧ H a = some (.tup xs) ∧ atI xs i = some (.ref b) ∧ H b = some (.tup (r.map cellV)) ∧ atI (r.map cellV) j = some (cellV (cellAt F i j)) ∧ (r.map cellV).length = (F.headD []).length := by
  obtain ⟨a, xs, e, h1, h2⟩ := isField_inv h
  obtain ⟨i', rfl⟩ := Int.eq_ofNat_of_zero_le i0
  obtain ⟨j', rfl⟩ := Int.eq_ofNat_of_zero_le j0
  have hi : i' < F.length := by omega
  obtain ⟨b, e2, h3⟩ := isRows_get h2 hi
  have hw := R.row F[i'] (List.getElem_mem hi)
  have hj : j' < F[i'].length := by omega
  refine ⟨a, xs, b, F[i'], e, h1, atI_nat e2, h3, ?_, by rw [List.length_map]; exact hw⟩
  have e3 : cellAt F (i' : Int) (j' : Int) = F[i'][j'] := by
    unfold cellAt
    simp [hi, hj]
  rw [e3]
  exact atI_nat (by simp [hj])
theorem field_sizes {H : Hp} {v : V} {F : List (List (Option Int))} (R : Rect F) (h : IsD H v (fieldD F)) :
    ∃ (a : Addr) (xs : List V) (b : Addr) (ys : List V), v = .ref a ∧ H a = some (.tup xs) ∧ xs.length = F.length ∧ atI xs 0 = some (.ref b) ∧ H b = some (.tup ys) ∧ ys.length = (F.headD []).length := by
  obtain ⟨a, xs, e, h1, h2⟩ := isField_inv h
  have hi : 0 < F.length := R.h1
  obtain ⟨b, e2, h3⟩ := isRows_get h2 hi
  refine ⟨a, xs, b, _, e, h1, by rw [h2.length, List.length_map], atI_nat e2, h3, ?_⟩
  rw [List.length_map]
  exact R.row _ (List.getElem_mem hi)
theorem rule_str {H : Hp} {v : V} {x : Str} (h : IsD H v (.str x)) : v = .str x := by cases h; rfl
end L2
namespace L2
open PySem PySem.Spec PyProof.Rows
theorem emod_neg1 (p : Int) {m : Int} (h : 0 < m) : (-1 - p) % m = m - 1 - p % m := by
  have e1 : -1 - p = (m - 1 - p % m) + m * (-1 - p / m) := by
    have := Int.mul_ediv_add_emod p m
    have e2 : m * (-1 - p / m) = -m - m * (p / m) := by rw [Int.mul_sub]; omega
    omega
  rw [e1, Int.add_mul_emod_self_left]
  have a := Int.emod_nonneg p (show m ≠ 0 by omega)
  have b := Int.emod_lt_of_pos p h
  exact Int.emod_eq_of_lt (by omega) (by omega)
theorem led_turned (p : Int) {n : Int} (h : 1 ≤ n) : led .turned (-1 - p) n = led .turned p n := by
  show min ((-1 - p) % (2 * n)) (2 * n - 1 - (-1 - p) % (2 * n)) = min (p % (2 * n)) (2 * n - 1 - p % (2 * n))
  rw [emod_neg1 p (by omega)]
  omega
theorem led_turned' (p : Int) {n : Int} (h : 1 ≤ n) : led .turned (2 * n - 1 - p) n = led .turned p n := by
  have e : 2 * n - 1 - p = (-1 - p) + 2 * n := by omega
  rw [← led_turned p h, e]
  show min (((-1 - p) + 2 * n) % (2 * n)) (2 * n - 1 - ((-1 - p) + 2 * n) % (2 * n)) = _
  rw [Int.add_emod_right]
  rfl
def stepM (n p : Int) : Nat := if p < 0 then (2 * (-p) + 2 * n).toNat else (2 * p + 1).toNat
theorem stands_len (F : List (List (Option Int))) (r : Rule) (i j : Int) : (stands F r i j).length ≤ 1 := by
  unfold stands
  split
  · exact Nat.le_refl _
  · split <;> simp
end L2
namespace L2
open PySem PySem.Spec PyProof.Rows
end L2
namespace L2
open PySem PySem.Spec PyProof.Rows
section
variable {X : Cx}
def upInts (lo : Int) (n : Nat) : List V := (List.range n).map fun i => V.int (lo + (i : Nat))
theorem call_range2V : CallR X (.type "range") (fun xs H Q => ∃ i j : Int, xs = [.int i, .int j] ∧ ∀ p, H p = none → Q (.ref p) (upd H p (.rng i j))) := by
  intro pins s σ H xs us Q I r h
  obtain ⟨i, j, rfl, q⟩ := h
  obtain ⟨u, w', rfl, ⟨t, rfl⟩, ⟨t', rfl⟩⟩ := vals2 r
  refine call_range_2 ?_
  exact ⟨.ref s.heap.objs.size, _, I.laid (o := .rng i j) (fun b u e => Heap.get?_push_of_some _ e) (Nat.le_refl _) ⟨t, t', s.toks, Heap.get?_push_size _ rfl⟩, rfl, q _ (I.hok.fresh (Nat.le_refl _))⟩
theorem vals_up {lo : Int} : ∀ {n : Nat} {acc : List Value}, acc.length = n → (∀ (j : Nat) v, acc[j]? = some v → ∃ t, v = Value.int (lo + j * 1) t) → Vals (upInts lo n) acc := by
  intro n
  induction n with
  | zero => intro acc hl _; have e := List.length_eq_zero_iff.mp hl; subst e; exact .nil
  | succ n ih =>
    intro acc hl h
    obtain ⟨init, x, rfl⟩ : ∃ init x, acc = init ++ [x] := by
      have hne : acc ≠ [] := by intro e; rw [e] at hl; cases hl
      exact ⟨acc.dropLast, acc.getLast hne, (List.dropLast_concat_getLast hne).symm⟩
    have hli : init.length = n := by rw [List.length_append] at hl; simpa using hl
    have e1 : upInts lo (n + 1) = upInts lo n ++ [.int (lo + (n : Nat))] := by
      unfold upInts
      rw [List.range_succ, List.map_append]
      rfl
    rw [e1]
    refine (ih hli fun j v e => h j v ?_).append (.cons ?_ .nil)
    · rw [List.getElem?_append_left (List.getElem?_eq_some_iff.mp e).1]; exact e
    · obtain ⟨t, e⟩ := h n x (by rw [← hli]; simp)
      exact ⟨t, by rw [e, Int.mul_one]⟩
theorem upInts_len (lo : Int) (n : Nat) : (upInts lo n).length = n := by unfold upInts; rw [List.length_map, List.length_range]
theorem call_list_rng (hc : X.calm = true) : CallR X (.type "list") (fun xs H Q => ∃ (p : Addr) (i j : Int), xs = [.ref p] ∧ H p = some (.rng i j) ∧ (-(2 ^ 62) ≤ i ∧ i < 2 ^ 62 ∧ -(2 ^ 62) ≤ j ∧ j < 2 ^ 62) ∧ (j - i).toNat ≤ 2 ^ 20 ∧
    ∀ l, H l = none → Q (.ref l) (upd H l (.lst (upInts i (j - i).toNat)))) := by
  intro pins s σ H xs us Q I r h
  obtain ⟨p, i, j, rfl, hp, ⟨b1, b2, b3, b4⟩, hn, q⟩ := h
  obtain ⟨u, rfl, e⟩ := vals1 r
  obtain rfl : u = Value.ref p := e
  obtain ⟨t, u, v, hr⟩ := (show ObjOk X.prog X.w H s.heap p (.rng i j) from I.hok p _ hp)
  refine call_list_range (n := (j - i).toNat) (I.ok.hd hc) hr (small_one b1 b2 b3 b4) (by rw [rangeSize_one]; split <;> omega) (Nat.le_trans hn (by decide)) fun h' tk acc' c' hk hS hacc => ?_
  have hv : Vals (upInts i (j - i).toNat) acc'.toList := vals_up (by simpa using hacc.1) fun k v e => hacc.2 k v (by simpa using e)
  refine ⟨.ref s.heap.objs.size, _, I.laid (o := .lst (upInts i (j - i).toNat)) hk (Nat.le_refl _) ⟨by rw [upInts_len]; exact Nat.le_trans hn (by decide), acc'.toList, c', hv, by simpa using hS⟩, rfl, q _ (I.hok.fresh (Nat.le_refl _))⟩
end
end L2
namespace L2
open PySem PySem.Spec PyProof.Rows
def winD (u d l r : Nat) : PyData := .tuple [.int u, .int d, .int l, .int r]
theorem isWin_inv {H : Hp} {v : V} {u d l r : Nat} (h : IsD H v (winD u d l r)) : ∃ a, v = .ref a ∧ H a = some (.tup [.int u, .int d, .int l, .int r]) := by
  obtain ⟨a, xs, e, h1, h2⟩ := h.tuple_inv
  cases h2 with
  | cons a1 h2 => cases a1; cases h2 with
    | cons a2 h2 => cases a2; cases h2 with
      | cons a3 h2 => cases a3; cases h2 with
        | cons a4 h2 => cases a4; cases h2; exact ⟨a, e, h1⟩
theorem isWin {H : Hp} {a : Addr} {u d l r : Nat} (h : H a = some (.tup [.int u, .int d, .int l, .int r])) : IsD H (.ref a) (winD u d l r) := .tup h (.cons (.int _) (.cons (.int _) (.cons (.int _) (.cons (.int _) .nil))))
theorem flatMap_succ {α : Type} (f : Nat → List α) (n : Nat) : (List.range (n + 1)).flatMap f = (List.range n).flatMap f ++ f n := by
  rw [List.range_succ, List.flatMap_append]
  simp
theorem flatMap_len {α : Type} (f : Nat → List α) {m : Nat} (h : ∀ k, (f k).length ≤ m) : ∀ n, ((List.range n).flatMap f).length ≤ n * m
  | 0 => by simp
  | n + 1 => by
    rw [flatMap_succ, List.length_append, Nat.succ_mul]
    exact Nat.add_le_add (flatMap_len f h n) (h n)
end L2
namespace L2
end L2
namespace HT
open PySem PyProof.Rows
section
variable {prog : Program} {w : World} {A : Around} {E : Value → Shared → Prop} {s : Shared}
set_option maxHeartbeats 4000000 in
theorem getItem_tuple_whole {t sl : Addr} {items : Array Value} {vl vu : Value} {lo hi : Option Int} {Q : Value → Shared → Prop} (ht : IsTup s.heap t items) (hs : s.heap.IsSliceOf sl vl vu .none) (pl : IsPart vl lo) (pu : IsPart vu hi)
    (hw : sIx items.size 0 lo = 0 ∧ sIx items.size items.size hi = items.size) (h : Q (.ref t) s) : wpAny (model prog w) A (getItem (.ref t) (.ref sl)) Q E s := by
  obtain ⟨os, hos, hcs, hds⟩ := id hs
  have hTs : s.TypeIs (.ref sl) "slice" := ⟨os, hos, hcs⟩
  unfold getItem
  try with_reducible refine wpAny_holding ?_
  first | refine wpAny_bind (wpAny_pure ?_) | skip
  refine wpAny_bind (wpAny_sequenceKey ht.typeIs (by decide) ?_)
  refine wpAny_bind (wpAny_callSpecial?_slot (name := Str.ofString "__getitem__") ht.typeIs PyProof.Rows.slot_tuple_getitem
    (wpAny_call_entry PyProof.Rows.slot_tuple_getitem ht.typeIs entry_tuple_getitem ?_ (args_tuple_getitem _ _)))
  show wpAny _ _ (Builtin.Tuple.tupleItemsOf (.ref t) >>= _) _ _ s
  refine wpAny_bind (tupleItemsOf_ ht ?_)
  refine wpAny_bind (wpAny_typeOf hTs ?_)
  rw [if_pos (by decide)]
  refine wpAny_bind (sliceApplied_gen hs pl pu ?_)
  rw [hw.1, hw.2]
  show wpAny _ _ (if ((((0 : Nat) : Int) == 0 && (1 : Int) == 1 && (items.size - 0) == items.size) = true) then _ else _) _ _ s
  rw [if_pos (by simp)]
  refine wpAny_bind ?_
  unfold Builtin.Tuple.tupleIsExact
  refine wpAny_bind (wpAny_typeOf ht.typeIs (wpAny_pure ?_))
  rw [if_pos (by decide)]
  first
    | exact wpAny_bind (wpAny_rule (wpAny_bind (wpAny_pure (wpAny_pure ⟨_, rfl, wpAny_pure h⟩))))
    | exact wpAny_bind (wpAny_rule (wpAny_pure ⟨_, rfl, wpAny_pure h⟩))
    | exact wpAny_rule (wpAny_bind (wpAny_pure (wpAny_pure ⟨_, rfl, wpAny_pure h⟩)))
end
end HT
namespace L2
open PySem PySem.Spec PyProof.Rows
section
variable {X : Cx}
def rSlTA : V → Option Int → Option Int → Hp → VK → Prop := fun x lo hi H Q => ∃ a xs, x = .ref a ∧ H a = some (.tup xs) ∧ ∀ p H', Same H H' → H' p = some (.tup (cutV xs lo hi)) → Q (.ref p) H'
theorem sl_tupA : SlR X rSlTA := by
  intro pins s σ H x v vl vu lo hi sl Q I rx hs pl pu h
  obtain ⟨a, xs, rfl, hx, q⟩ := h
  by_cases hw : HT.sIx xs.length 0 lo = 0 ∧ HT.sIx xs.length xs.length hi = xs.length
  · cases rx
    obtain ⟨its, r, ht, hz⟩ := I.tuple (SqT.of hx)
    have hlen : its.toArray.size = xs.length := by rw [List.size_toArray]; exact r.length.symm
    refine ⟨"tuple", _, PyProof.Rows.slot_tuple_getitem.lookup, ht.typeIs, ?_⟩
    refine HT.getItem_tuple_whole ht hs pl pu (by rw [hlen]; exact hw) ⟨.ref a, H, I, rfl, q a H (Same.refl H) ?_⟩
    rw [hx]
    unfold cutV
    rw [hw.1, hw.2, List.drop_zero, Nat.sub_zero, List.take_of_length_le (Nat.le_refl _)]
  · exact sl_tup pins s σ H _ v vl vu lo hi sl Q I rx hs pl pu ⟨a, xs, rfl, SqT.of hx, hw, fun p hp => q p _ (same_upd hp) upd_same⟩
def rEqL : R2 := fun x y H Q => ∃ p q xs ys dx dy, x = .ref p ∧ y = .ref q ∧ H p = some (.lst xs) ∧ H q = some (.lst ys) ∧ IsDs H xs dx ∧ IsDs H ys dy ∧ CmpD 0 (.list dx) (.list dy) ∧ Q (.bl (PyData.eqvAll dx dy)) H
theorem list_reads {P : Program} {w : World} {H : Hp} {h : Heap} (I : HOk P w H h) {p : Addr} {xs : List V} {dx : List PyData} (hp : H p = some (.lst xs)) (hd : IsDs H xs dx) : ∃ as, Reads h (.ref p) (.list dx) as := by
  obtain ⟨_, its, n, r, e⟩ := (show ObjOk P w H h p (.lst xs) from I p _ hp)
  obtain ⟨as, hr⟩ := hd.reads I r
  exact ⟨_, .list e rfl rfl (by simpa using hr)⟩
theorem op_eqL (hu : X.A.units + 64 < cLine) : OpR X (compareOp .Eq) rEqL := by
  intro pins s σ H x y v u Q I rx ry h
  obtain ⟨p, q, xs, ys, dx, dy, rfl, rfl, hp, hq, hx, hy, ⟨c1, c2, c3⟩, qq⟩ := h
  cases rx
  cases ry
  obtain ⟨as, r1⟩ := list_reads I.hok hp hx
  obtain ⟨bs, r2⟩ := list_reads I.hok hq hy
  exact PySem.SeqAt.compareEq_reads r1 r2 c1 c2 (unitsD hu c3) ⟨.bl _, H, I, rfl, qq⟩
theorem op_eqX (hu : X.A.units + 64 < cLine) : OpR X (compareOp .Eq) (fun x y H Q => (rEq x y H Q ∨ rEqD 0 x y H Q) ∨ rEqL x y H Q) := (op_eqA hu).or (op_eqL hu)
theorem sl_X {K : PySem.W.Frag} (h : X.K = K) : SlR X (fun x lo hi H Q => rSlL K x lo hi H Q ∨ rSlTA x lo hi H Q) := by subst h; exact sl_list.or sl_tupA
end
end L2
namespace L2
open PySem PySem.Spec PyProof.Rows
end L2
namespace L2
open PySem PySem.Spec PyProof.Rows
end L2
namespace HT
open PySem PyProof.Rows
end HT
namespace L2
open PySem PySem.Spec PyProof.Rows
end L2
namespace L2
open PySem PySem.Spec PyProof.Rows
end L2
namespace L2
end L2
namespace L2
open PySem PySem.Spec PyProof.Rows
def Seed (H : Hp) (d : Addr) : Prop := ∃ a b n c : Int, H d = some (.lst [.int a, .int b, .int n, .int c])
theorem Seed.keep {H H' : Hp} {d : Addr} (D : Seed H d) (h : Same H H') : Seed H' d := let ⟨a, b, n, c, e⟩ := D; ⟨a, b, n, c, h _ _ e⟩
theorem Seed.upd {H : Hp} {d p : Addr} {o : HO} (D : Seed H d) (hp : H p = none) : Seed (upd H p o) d := D.keep (same_upd hp)
def placeD (p : Int × Int) : PyData := .tuple [.int p.1, .int p.2]
theorem isPlace_inv {H : Hp} {v : V} {p : Int × Int} (h : IsD H v (placeD p)) : ∃ a, v = .ref a ∧ H a = some (.tup [.int p.1, .int p.2]) := by
  obtain ⟨a, xs, e, h1, h2⟩ := h.tuple_inv
  cases h2 with
  | cons a1 h2 => cases a1; cases h2 with
    | cons a2 h2 => cases a2; cases h2; exact ⟨a, e, h1⟩
theorem isPlace {H : Hp} {a : Addr} {i j : Int} (h : H a = some (.tup [.int i, .int j])) : IsD H (.ref a) (placeD (i, j)) := .tup h (.cons (.int _) (.cons (.int _) .nil))
end L2
namespace L2
open PySem PySem.Spec PyProof.Rows PySem.Builtin PySem.Builtin.Str
end L2
namespace L2
open PySem
end L2
namespace L2
open PySem PySem.Spec PyProof.Rows
section
variable {X : Cx} {pins : List (Addr × Obj)} {σ : St} {H : Hp} {s : Shared} {h' : Heap}
theorem Inv.turnedL {t' : Nat} {fp : List Addr} (I : Inv X pins σ H s) (k : ∀ b o, b ∉ fp → s.heap.get? b = some o → h'.get? b = some o) (hf : ∀ b ∈ fp, FpOk X pins H b) : Inv X pins σ H { s with heap := h', toks := t' } := by
  have nit : ∀ b u, H b = some u → b ∉ fp := fun b u e z => by rw [(hf b z).1] at e; cases e
  refine I.step (g' := s.gens) (d' := s.drawn) (ch := fp) (fun b hb => ?_) (fun b o _ _ hc e _ => k b o hc e) (fun b o _ _ hc e _ => ⟨o.slots, k b o hc e⟩) (fun _ _ _ _ n => n)
    (fun b o hc e => ⟨o, k b o hc e⟩) (fun _ _ e => e) (fun _ _ _ e => e) (fun b ps e => ⟨#[], by rw [e]; simp⟩) (fun m hm => ?_) (fun b u e => ?_) I.bare
  · obtain ⟨f0, f1, f2, f3, f4, f5⟩ := hf b hb
    exact ⟨f3, f1, f4, f5⟩
  · obtain ⟨o, es, ep, ho, r⟩ := hm
    exact ⟨o, es, ep, k _ o (fun z => (hf _ z).2.1 rfl) ho, r⟩
  · refine (I.hok b u e).stay (fun c v hc q => k c v ?_ q) (fun _ q => q) fun _ _ q => q
    rcases hc with z | z
    · rw [z]; exact nit b u e
    · exact nit c _ z
end
theorem bt_enumerate : bootBuiltins "enumerate" = some (.type "enumerate") := by decide +kernel
section
variable {X : Cx} {K : PySem.W.Frag}
theorem slice1 (n : Nat) (h : 1 ≤ n) : Builtin.Str.strSliceIndices (some 1) none 1 n = (List.range (n - 1)).map (fun k => 1 + k) := by
  rw [← PySem.StrLaws.strSliceIndices_plain (a := 1) (b := n) h (Nat.le_refl _)]
  have h2 : ¬ ((n : Int) < 0) := by omega
  have e1 : max (0 : Int) (min (n : Int) (n : Int)) = n := by omega
  simp only [Builtin.Str.strSliceIndices, sliceRange, h2, if_false, e1, show ((1 : Int) > 0) = True from by simp, if_true]
  rfl
def rSl1 : V → Option Int → Option Int → Hp → VK → Prop := fun x lo hi H Q => ∃ z : Str, x = .str z ∧ lo = some 1 ∧ hi = none ∧ 1 ≤ z.length ∧ z.length ≤ sizeLine ∧ Q (.str ⟨(z.cps.toList.drop 1).toArray⟩) H
theorem sl_str1 : SlR X rSl1 := by
  intro pins s σ H x v vl vu lo hi sl Q I rx hs pl pu h
  obtain ⟨z, rfl, rfl, rfl, h1, h2, q⟩ := h
  obtain ⟨t, rfl⟩ := rx
  obtain ⟨tl, rfl⟩ : ∃ tl, vl = .int 1 tl := by cases pl; exact ⟨_, rfl⟩
  obtain rfl : vu = .none := by cases pu; rfl
  refine ⟨"str", _, PySem.F.slot_str_getitem.lookup, typeIs_str s z t, ?_⟩
  obtain ⟨o, ho, hc, hd⟩ := hs
  refine wpAny_getItem_str_slice (l := some (1, tl)) (u := none) (st := none) ⟨o, ho, hc, hd⟩ rfl ?_
  have e : slicePicked z (some (1, tl)) none none = (List.range (z.length - 1)).map (fun k => 1 + k) := slice1 _ h1
  have e3 : ((List.range (z.length - 1)).map (fun k => 1 + k)).filterMap (z.cps[·]?) = z.cps.toList.drop 1 := by
    have := PySem.StrLaws.picks z.cps.toList (z.length - 1) 1 (by simp [Str.length] at h1 ⊢; omega)
    rw [List.take_of_length_le (by simp [Str.length])] at this
    simpa using this
  unfold sliceMade
  rw [e, if_neg (by rw [List.length_map, List.length_range, Bool.and_eq_true]; intro z2; have := z2.2; simp at this; omega), e3]
  refine ⟨?_, ⟨.str _, H, I.tok _, ⟨_, rfl⟩, q⟩⟩
  show (List.drop 1 z.cps.toList).toArray.size ≤ sizeLine
  rw [List.size_toArray, List.length_drop]
  have : z.cps.toList.length = z.length := by simp [Str.length]
  omega
theorem pe_dfK {k : Nat} {x : Str} {ps ks : List Str} {sp : Sp} {st : Stmt} {p pos : Pos} {kws : List Keyword} {tk : TA} {g : List Value → List Value} {gV : List V → List V} (D : Df X.prog X.w X.K X.mg X.base k x ps sp) (R : Raw X.K X.mg x ps st) (hr : Room k X.A)
    (hb : ∀ (kV doc pm : Value) (an : Option Addr) (cdv ct : Value) (ws : List Value), (g ws).length = ps.length → bindArgs (PySem.W.fnOf x x (defArgs st) (defBody st) (defScope st) .none kV doc pm an cdv ct) ⟨[], ks.zip ws⟩ = pure (ps.zip (g ws)))
    (hrel : ∀ {zs : List V} {ws : List Value}, Vals zs ws → Vals (gV zs) (g ws)) (hkw : PK X kws tk) (hg : Gl X x := by rfl)
    (hall : (backToKw pos (keywordEach kws X.env)).all (·.1.isSome) = true := by rfl) (hks : (backToKw pos (keywordEach kws X.env)).filterMap (·.1) = ks := by rfl)
    (hdb : (x == ("__debug__" : Str)) = false := by decide) (hpl : ((backTo pos (starEach [] X.env)).any (·.1) || (backToKw pos (keywordEach kws X.env)).any (·.1.isNone)) = false := by rfl) :
    PE X (.Call (.Name x p) [] kws pos) (tCallK sp (fun _ zs => gV zs) E0 tNil tk) := by
  obtain ⟨f, fd, F, m, kp, b, st', R'⟩ := D
  obtain ⟨f2, fd2, R2, m2, _⟩ := R
  have e := m.symm.trans m2
  cases e
  obtain ⟨oc', od', kV', doc', pm', an', cdv', ct', osl', e1', e2', _⟩ := R'.ex
  obtain ⟨oc, od, kV, doc, pm, an, cdv, ct, osl, e1, e2, _⟩ := R2.ex
  rw [e2] at e2'
  cases e2'
  intro pins s σ H Q I h
  refine wpAny_Call_Name_kw (ld_glob I hg m ?_ hdb)
  refine PySem.W.callWith_KW0 (h₀ := X.base) I.ok.mod.kin kp hall (thn (hkw pos pins s σ H _ I h) fun ws s2 ⟨zs, H2, I2, rz, q2⟩ => ⟨I2.kIn, ?_⟩) hpl
  rw [hks]
  have r2 := hrel rz
  have hl : (g ws).length = ps.length := by rw [← r2.length]; exact F.len _ _ _ _ q2
  have bt : BindsTo s2 fd ⟨[], ks.zip ws⟩ (ps.zip (g ws)) := .of_eq (by rw [e1]; exact hb kV doc pm an cdv ct ws hl)
  refine wpAny_call (codeAny_mono (F.run X.A X.stack s2 H2 ⟨[], ks.zip ws⟩ (g ws) (gV zs) Q E0 hr I2.env0 bt r2 q2) fun r s' hq => ?_)
  cases r with
  | error e => exact pass0 pins σ H2 s2 e s' I2 hq
  | ok fl =>
    cases fl with
    | ret u => exact I2.after hq
    | next => exact False.elim hq
    | brk => exact False.elim hq
    | cont => exact False.elim hq
end
end L2
namespace L2
open PySem PySem.Spec PyProof.Rows
section
variable {X : Cx} {pins : List (Addr × Obj)} {σ : St} {H : Hp} {s : Shared}
theorem comp_name {scope : Scope} {cells : List (Str × Addr)} {C : Addr} {N : List Str} {s2 : Shared} {H2 : Hp} {fp : List Addr} {y : Str} {p : Pos} {i : Nat} (hN : N.Nodup) (hi : N[i]? = some y) (hx : scope.names.lookup y = some .local ∨ scope.names.lookup y = some .cell) :
    PG (X.comp scope cells C N s2 H2 fp) (.Name y p) (gName i) := by
  refine pg_name hN hi ?_ ?_
  · show (relabel scope X.env).names.lookup y = some .local ∨ (relabel scope X.env).names.lookup y = some .cell
    rw [show (relabel scope X.env).names.lookup y = _ from kindOf_relabel scope.names y]
    rcases hx with z | z
    · rw [z]; exact .inl rfl
    · rw [z]; exact .inr rfl
  · rcases hx with z | z
    · refine .inr ?_
      show (relabel scope X.env).names.lookup y = some .local
      rw [show (relabel scope X.env).names.lookup y = _ from kindOf_relabel scope.names y, z]
      rfl
    · refine .inl ?_
      show (scope.names.lookup y == some .cell) = true
      rw [z]; rfl
def oneOf2 (K : PySem.W.Frag) (tc : TT) (te : TE) (σ : St) (x : V) (H : Hp) (k : Option V → Hp → Prop) : Prop :=
  ∃ a v1 v2, x = .ref a ∧ SqT K H a [v1, v2] ∧ tc (some v1 :: some v2 :: σ) H fun b H1 => if b = true then te (some v1 :: some v2 :: σ) H1 fun v H2 => k (some v) H2 else k none H1
def tCompIf2 (K : PySem.W.Frag) (wi : TI) (idx : List Nat) (tc : TT) (te : TE) : TE := fun σ H Q => wi σ H fun J H1 => CompW J H1 (oneOf2 K tc te (sel idx σ)) fun ys H' => ∀ p, H' p = none → Q (.ref p) (upd H' p (.lst ys))
theorem comp_start2 {scope : Scope} {M : List Str} {idx : List Nat} {fp : List Addr} {x x2 : Str} (ok : CompOk X scope M idx) (hc : X.calm = true) (I : Inv X pins σ H s) (hf : ∀ b ∈ fp, FpOk X pins H b)
    (ho : ∀ b ∈ fp, ∃ o, s.heap.get? b = some o) :
    Inv (X.comp scope (cellsFrom (s.heap.objs.size + 2) scope.names (clOf X.env.cells scope.names [])) (s.heap.objs.size + 1) (x :: x2 :: M) s H fp) [] (none :: none :: sel idx σ) H
      { s with heap := pushCells ((s.heap.push { cls := .type "list", dict := none, data := .seq ([] : List Value).toArray }).push { cls := .type "dict", data := .dict #[] }) scope.names } := by
  have sz2 : ((s.heap.push { cls := .type "list", dict := none, data := .seq ([] : List Value).toArray }).push { cls := .type "dict", data := .dict #[] }).objs.size = s.heap.objs.size + 2 := by rw [Heap.size_push, Heap.size_push]
  have keep : ∀ b o, s.heap.get? b = some o → (pushCells ((s.heap.push { cls := .type "list", dict := none, data := .seq ([] : List Value).toArray }).push { cls := .type "dict", data := .dict #[] }) scope.names).get? b = some o :=
    fun b o e => pushCells_keeps _ _ _ _ (Heap.get?_push_of_some _ (Heap.get?_push_of_some _ e))
  have clLook : ∀ n c, (clOf X.env.cells scope.names []).lookup n = some c → X.env.cells.lookup n = some c := lookup_clOf fun n c e => by simp at e
  have clLt : ∀ n c, (clOf X.env.cells scope.names []).lookup n = some c → c < s.heap.objs.size := fun n c e => by
    obtain ⟨v, z⟩ := I.cell n c (clLook n c e)
    exact z.lt
  have look : ∀ n c, (cellsFrom (s.heap.objs.size + 2) scope.names (clOf X.env.cells scope.names [])).lookup n = some c →
      (s.heap.objs.size + 2 ≤ c ∧ (pushCells ((s.heap.push { cls := .type "list", dict := none, data := .seq ([] : List Value).toArray }).push { cls := .type "dict", data := .dict #[] }) scope.names).IsCell c none) ∨ X.env.cells.lookup n = some c := fun n c e => by
    have e' : (cellsFrom ((s.heap.push { cls := .type "list", dict := none, data := .seq ([] : List Value).toArray }).push { cls := .type "dict", data := .dict #[] }).objs.size scope.names (clOf X.env.cells scope.names [])).lookup n = some c := by rw [sz2]; exact e
    rcases cellsFrom_new e' with ⟨q1, q2⟩ | q
    · rw [sz2] at q1; exact .inl ⟨q1, q2⟩
    · exact .inr (clLook n c q)
  have fresh : ∀ a, s.heap.objs.size ≤ a → H a = none := fun a h => I.hok.fresh h
  have fpLt : ∀ b ∈ fp, b < s.heap.objs.size := fun b hb => let ⟨_, e⟩ := ho b hb; Heap.lt_size e
  have fpStk : ∀ b ∈ fp, b ∉ frs X.stack := fun b hb z => by
    obtain ⟨_, f1, f2, _⟩ := hf b hb
    exact (List.mem_cons.mp (I.stkSub b z)).elim f1 f2
  have hasFree : ∀ y ∈ scope.names, y.2 = .free → ∃ c, X.env.cells.lookup y.1 = some c := fun y hy e => I.ok.has y.1 (ok.fre y hy e)
  have kindR : ∀ y, (compEnvC scope (cellsFrom (s.heap.objs.size + 2) scope.names (clOf X.env.cells scope.names [])) (s.heap.objs.size + 1) X.env).kindOf y =
      (scope.names.lookup y).map fun k => if (k == NameKind.free && X.env.scope.kind == .function && X.env.kindOf y == some .cell) then NameKind.cell else k := fun y => kindOf_relabel scope.names y
  refine ⟨⟨I.ok.mod, ok.kind, I.ok.glob, I.ok.blt, Nat.le_succ _, ?_, fun y hy => ?_, fun y c hfn e => ?_, I.ok.hd, I.ok.frames, .inl rfl, fun b hb => ⟨?_, fun y c e => ?_⟩, I.bs, Nat.le_trans I.ok.bsz I.sz, fun b o e hb => ?_, fun b hb => fpStk b hb, I.stack, I.stkFree⟩,
    rfl, I.bare, Un.kept keep, ⟨fun _ => none, ?_, fun i y v h1 h2 h3 => ?_⟩, fun y c e => ?_, fresh _ (Nat.le_succ _), fun y c e => ?_, fun p hp => absurd (show p ∈ ([] : List (Addr × Obj)) from hp) (by simp), I.hok.kept keep, ?_⟩
  · exact cellsFrom_inj (fun a b c h1 h2 => I.ok.inj a b c (clLook a c h1) (clLook b c h2)) fun a c h1 => Nat.lt_of_lt_of_le (clLt a c h1) (Nat.le_add_right _ _)
  · -- has
    rw [show (X.comp scope (cellsFrom (s.heap.objs.size + 2) scope.names (clOf X.env.cells scope.names [])) (s.heap.objs.size + 1) (x :: x2 :: M) s H fp).env.kindOf y = _ from kindR y] at hy
    show ∃ c, (cellsFrom (s.heap.objs.size + 2) scope.names (clOf X.env.cells scope.names [])).lookup y = some c
    cases hk : scope.names.lookup y with
    | none => rw [hk] at hy; rcases hy with z | z <;> cases z
    | some k =>
      have mem := PySem.mem_of_lookup hk
      by_cases k1 : k = .cell
      · subst k1; exact cellsFrom_has mem
      by_cases k2 : k = .free
      · subst k2
        obtain ⟨c, ec⟩ := hasFree _ mem rfl
        exact cellsFrom_acc (clOf_has ec mem)
      · rw [hk] at hy
        have hb : (k == NameKind.free) = false := by simpa using k2
        rw [Option.map_some, hb, Bool.false_and, Bool.false_and, if_neg Bool.false_ne_true] at hy
        rcases hy with z | z
        · exact absurd (Option.some.inj z) k1
        · exact absurd (Option.some.inj z) k2
  · -- cab
    have hl : scope.names.lookup y = some .cell := by simpa [Cx.comp] using hfn
    exact cellsFrom_ge (lo := s.heap.objs.size) (by omega) (.inl (PySem.mem_of_lookup hl)) e
  · -- exf
    exact Nat.ne_of_lt (Nat.lt_succ_of_lt (fpLt b hb))
  · rcases look y c e with ⟨q, _⟩ | q
    · exact fun z => absurd (fpLt b hb) (by rw [← z]; exact Nat.not_lt.mpr (Nat.le_trans (Nat.le_add_right _ 2) q))
    · exact (hf b hb).2.2.2.2.1 y c q
  · -- noex
    rcases (hf b hb).2.2.2.1 with z | z
    · exact I.ok.noex b o e z
    · exact absurd (Nat.lt_of_lt_of_le (Heap.lt_size e) (Nat.le_trans I.ok.bsz z)) (Nat.lt_irrefl _)
  · -- the new map
    have e0 : (s.heap.push { cls := .type "list", dict := none, data := .seq ([] : List Value).toArray }).objs.size = s.heap.objs.size + 1 := Heap.size_push ..
    have q := (Heap.Ns.new (s.heap.push { cls := .type "list", dict := none, data := .seq ([] : List Value).toArray }) (.type "dict")).keeps (pushCells_keeps scope.names _)
    rw [e0] at q
    exact q
  · -- names
    cases i with
    | zero => cases h2
    | succ i => cases i with
    | zero => cases h2
    | succ j =>
      have h2' : (sel idx σ)[j]? = some (some v) := h2
      have h1' : M[j]? = some y := h1
      obtain ⟨k, ek, ev⟩ := sel_get h2'
      obtain ⟨hl, k', ek', eN⟩ := ok.cap j y h1'
      rw [ek] at ek'; cases ek'
      have mem := PySem.mem_of_lookup hl
      have hk := ok.fre _ mem rfl
      obtain ⟨m, hn, hloc⟩ := I.loc
      have vis : Vis X.env.scope y := hk.elim (fun z => .inr (.inl z)) fun z => .inr (.inr z)
      obtain ⟨u, r, l⟩ := hloc k y v eN ev vis
      refine ⟨u, r, ?_⟩
      rcases l with ⟨z, _⟩ | ⟨_, c, ec, hcell⟩
      · rw [z] at hk; rcases hk with z | z <;> cases z
      · refine .inr ⟨?_, c, ?_, hcell.keeps keep⟩
        · rw [show (X.comp scope (cellsFrom (s.heap.objs.size + 2) scope.names (clOf X.env.cells scope.names [])) (s.heap.objs.size + 1) (x :: x2 :: M) s H fp).env.kindOf y = _ from kindR y, hl, Option.map_some]
          by_cases hcc : (NameKind.free == NameKind.free && X.env.scope.kind == .function && X.env.kindOf y == some .cell) = true
          · rw [if_pos hcc]; exact .inl rfl
          · rw [if_neg hcc]; exact .inr rfl
        · show (cellsFrom (s.heap.objs.size + 2) scope.names (clOf X.env.cells scope.names [])).lookup y = some c
          rw [cellsFrom_not]
          · obtain ⟨d, ed⟩ := clOf_has (acc := []) ec mem
            rw [ed, ← clLook y d ed, ec]
          · intro p hp hpc hpy
            have := ok.cel p hp hpc
            rw [hpy, hl] at this
            cases this
  · rcases look y c e with ⟨_, q⟩ | q
    · exact ⟨_, q⟩
    · obtain ⟨v, z⟩ := I.cell y c q
      exact ⟨v, z.keeps keep⟩
  · rcases look y c e with ⟨q, _⟩ | q
    · exact fresh _ (by omega)
    · exact I.freeC y c q
  · show (none :: none :: sel idx σ).length = (x :: x2 :: M).length
    unfold sel
    rw [List.length_cons, List.length_cons, List.length_cons, List.length_cons, List.length_map, ok.len]
theorem comp_block2 {elt iter : Expr} {ifs : List Expr} {scope : Scope} {pos : Pos} {x x2 : Str} {px px2 pt : Pos} {kk : Nat} {K : PySem.W.Frag} {M : List Str} {idx : List Nat} {tc : TT} {te : TE} {itv : Value} {Q : List V → Hp → Prop}
    {RR : Value → Addr → Result → Shared → Prop} 
    (hK : X.K = K) (hc : X.calm = true) (ok : CompOk X scope M idx) (hN : (x :: x2 :: M).Nodup) (hx : scope.names.lookup x = some .local ∨ scope.names.lookup x = some .cell) (hx2 : scope.names.lookup x2 = some .local ∨ scope.names.lookup x2 = some .cell)
    (ht : ∀ cells C s2 H2 fp, PTs (X.comp scope cells C (x :: x2 :: M) s2 H2 fp) ifs tc) (he : ∀ cells C s2 H2 fp, PE (X.comp scope cells C (x :: x2 :: M) s2 H2 fp) elt te)
    (h : PIE X pins σ (.Tuple [.Name x px, .Name x2 px2] kk pt) (fun J H1 => CompW J H1 (oneOf2 K tc te (sel idx σ)) Q) itv s)
    (hR : ∀ (D C : Addr) (ys : List V) (H' : Hp) (s' : Shared), s.heap.objs.size ≤ D → s.heap.objs.size ≤ C → D ≠ C → H' D = none → H' C = none → Q ys H' → (∃ m, s'.heap.Ns C m) →
      (∀ h' tk, Heap.SameBut C s'.heap h' → Inv X pins σ (upd H' D (.lst ys)) { s' with heap := h', toks := tk }) → RR (.ref D) C (.ok .next) s') :
    wpAny (model X.prog X.w) X.A (newList []) (fun acc s₃ => wpAny (model X.prog X.w) X.A (newFunctionEnv scope X.env.globals (clOf X.env.cells scope.names []) [] X.env.qual none .none (some X.env)) (fun cenv s₄ =>
      codeAny (model X.prog X.w) X.A (.compStart (.ListComp elt [⟨.Tuple [.Name x px, .Name x2 px2] kk pt, iter, ifs, 0⟩] scope pos) 0 itv acc { cenv with scope := relabel scope X.env }) (RR acc cenv.locals) s₄) X.xe s₃) X.xe s := by
  obtain ⟨it, fp, tn, J, H2, e, I2, T, st2, f2, n, W, w0, hn, turn⟩ := h
  subst e
  have ho : ∀ b ∈ fp, ∃ o, s.heap.get? b = some o := fun b hb => let ⟨o, e, _⟩ := T.obj 0 _ st2 b hb; ⟨o, e⟩
  have I3 := comp_start2 (x := x) (x2 := x2) ok hc I2 f2 ho
  have sz1 : (s.heap.push { cls := .type "list", dict := none, data := .seq ([] : List Value).toArray }).objs.size = s.heap.objs.size + 1 := Heap.size_push ..
  have keep0 : ∀ b o, s.heap.get? b = some o → (pushCells ((s.heap.push { cls := .type "list", dict := none, data := .seq ([] : List Value).toArray }).push { cls := .type "dict", data := .dict #[] }) scope.names).get? b = some o :=
    fun b o e => pushCells_keeps _ _ _ _ (Heap.get?_push_of_some _ (Heap.get?_push_of_some _ e))
  have acc0 : (pushCells ((s.heap.push { cls := .type "list", dict := none, data := .seq ([] : List Value).toArray }).push { cls := .type "dict", data := .dict #[] }) scope.names).PlainList s.heap.objs.size ([] : List Value).toArray :=
    ⟨_, pushCells_keeps _ _ _ _ (Heap.get?_push_of_some _ (Heap.get?_push_size _ rfl))⟩
  have fpLt : ∀ b ∈ fp, b < s.heap.objs.size := fun b hb => let ⟨_, e⟩ := ho b hb; Heap.lt_size e
  refine wpAny_newList ?_
  refine newCompEnv ?_
  dsimp only
  rw [sz1]
  generalize hcells : cellsFrom (s.heap.objs.size + 1 + 1) scope.names (clOf X.env.cells scope.names []) = cells
  have hcells' : cellsFrom (s.heap.objs.size + 2) scope.names (clOf X.env.cells scope.names []) = cells := hcells
  rw [hcells'] at I3
  generalize hh : pushCells ((s.heap.push { cls := .type "list", dict := none, data := .seq ([] : List Value).toArray }).push { cls := .type "dict", data := .dict #[] }) scope.names = h1 at I3 keep0 acc0 ⊢
  have ht := ht cells (s.heap.objs.size + 1) s H2 fp
  have he := he cells (s.heap.objs.size + 1) s H2 fp
  have st3 : tn 0 h1 := T.keep 0 _ _ st2 fun b hb o e => keep0 b o e
  have hg : PG (X.comp scope cells (s.heap.objs.size + 1) (x :: x2 :: M) s H2 fp) (.Tuple [.Name x px, .Name x2 px2] kk pt) (gTup K 2 (gCons (gName 0) (gCons (gName 1) gNil))) :=
    pg_tupK hK hc (pgs_cons (comp_name (i := 0) hN rfl hx) (pgs_cons (comp_name (i := 1) hN rfl hx2) pgs_nil))
  have stat : ∀ {pins' : List (Addr × Obj)} {H' : Hp}, (∀ p ∈ pins', p.1 = s.heap.objs.size) → (∀ b ∈ fp, H' b = none) → ∀ b ∈ fp, FpOk (X.comp scope cells (s.heap.objs.size + 1) (x :: x2 :: M) s H2 fp) pins' H' b := fun {pins' H'} hp hn b hb =>
    ⟨hn b hb, (I3.ok.exf b hb).1, I3.ok.exfs b hb, .inl hb, (I3.ok.exf b hb).2, fun p hp' => by
      have e := hp p (show p ∈ pins' from by simpa [Cx.comp] using hp')
      rw [e]; exact Nat.ne_of_gt (fpLt b hb)⟩
  have loop : ∀ (s₄ : Shared), s₄ = { s with heap := h1 } → codeAny (model X.prog X.w) X.A (.compLoop (.ListComp elt [⟨.Tuple [.Name x px, .Name x2 px2] kk pt, iter, ifs, 0⟩] scope pos) 0 (.ref it) (.ref s.heap.objs.size) (compEnvC scope cells (s.heap.objs.size + 1) X.env))
      (RR (.ref s.heap.objs.size) (s.heap.objs.size + 1)) s₄ := by
    rintro s₄ rfl
    refine compLoop_any (fun k s' => ∃ (i : Nat) (ys : List V) (its : List Value) (H' : Hp), Inv (X.comp scope cells (s.heap.objs.size + 1) (x :: x2 :: M) s H2 fp) [] (none :: none :: sel idx σ) H' s' ∧ tn i s'.heap ∧ (∀ b ∈ fp, H' b = none) ∧ H' s.heap.objs.size = none ∧
      s'.heap.PlainList s.heap.objs.size its.toArray ∧ Vals ys its ∧ ys.length ≤ i ∧ i ≤ n ∧ W i ys H' ∧ k = n - i) ?_ n ⟨0, [], [], H2, I3, st3, fun b hb => (f2 b hb).1, I2.hok.fresh (Nat.le_refl _), acc0, .nil, Nat.le_refl _, Nat.zero_le _, w0, rfl⟩
    rintro k s' ⟨i, ys, its, H', I', st', fr', hD', hpl', hv', hlen, hlin, w', rfl⟩
    obtain ⟨nn, hobj⟩ := id hpl'
    have pinD : ∀ {H5 : Hp} {s5 : Shared} {σ5 : St} {P5 : List (Addr × Obj)}, Inv (X.comp scope cells (s.heap.objs.size + 1) (x :: x2 :: M) s H2 fp) P5 σ5 H5 s5 → s5.heap.get? s.heap.objs.size = some { cls := .type "list", data := .seq its.toArray nn } → H5 s.heap.objs.size = none →
        ∀ p ∈ [(s.heap.objs.size, ({ cls := .type "list", data := .seq its.toArray nn } : Obj))], s5.heap.get? p.1 = some p.2 ∧ H5 p.1 = none ∧ p.1 ≠ (X.comp scope cells (s.heap.objs.size + 1) (x :: x2 :: M) s H2 fp).env.locals ∧ p.1 ∉ (X.comp scope cells (s.heap.objs.size + 1) (x :: x2 :: M) s H2 fp).fs ∧ ∀ v, p.2.data ≠ .cell v :=
      fun {H5 s5 σ5 P5} I5 e5 n5 p hp => by
        have ep : p = (s.heap.objs.size, ({ cls := .type "list", data := .seq its.toArray nn } : Obj)) := by simpa using hp
        subst ep
        refine ⟨e5, n5, Nat.ne_of_lt (Nat.lt_succ_self _), fun z => ?_, fun v z => by cases z⟩
        obtain ⟨_, o, ho, _⟩ := I5.ok.funs.mem z
        exact absurd (Heap.lt_size ho) (Nat.lt_irrefl _)
    have ID := I'.pins_of (pinD I' hobj hD')
    have ndp : ∀ p ∈ [(s.heap.objs.size, ({ cls := .type "list", data := .seq its.toArray nn } : Obj))], p.1 = s.heap.objs.size := fun p hp => by
      have ep : p = (s.heap.objs.size, ({ cls := .type "list", data := .seq its.toArray nn } : Obj)) := by simpa using hp
      rw [ep]
    rcases turn i ys H' w' with ⟨stop, qn⟩ | ⟨go, hin, N, hNW, step⟩
    · refine thn (T.done (X.comp scope cells (s.heap.objs.size + 1) (x :: x2 :: M) s H2 fp) rfl rfl rfl hc i _ s' _ H' (fun _ _ => False) ID (stat ndp fr') st' stop) fun r s4 ⟨hr, I4⟩ => ?_
      subst hr
      have pin4 := I4.pin (s.heap.objs.size, ({ cls := .type "list", data := .seq its.toArray nn } : Obj)) (by simp [Cx.comp])
      obtain ⟨m4, hm4, _⟩ := id I4.loc
      refine hR s.heap.objs.size (s.heap.objs.size + 1) ys H' s4 (Nat.le_refl _) (Nat.le_succ _) (Nat.ne_of_lt (Nat.lt_succ_self _)) pin4.2.1 I4.free qn ⟨m4, hm4⟩ fun h' tk hs' => ?_
      have neC : ∀ b, b < s.heap.objs.size → b ≠ s.heap.objs.size + 1 := fun b hb => Nat.ne_of_lt (Nat.lt_succ_of_lt hb)
      have neD : ∀ b, b < s.heap.objs.size → b ≠ s.heap.objs.size := fun b hb => Nat.ne_of_lt hb
      have u4 := I4.base
      refine I2.call' (s' := { s4 with heap := h', toks := tk }) (ch := fp) I4.os ?_ ?_ I4.bare fun b hb => ?_
      · refine ⟨fun b o e1 e2 e3 e4 => ?_, fun b o e1 e2 e3 e4 => ?_, fun b o e1 e2 e3 => ?_, fun b o e1 e2 => ?_, fun b xs e1 => ?_, fun b o u e1 => ?_, fun b ps e1 => ?_⟩
        · exact (hs'.2 b (neC b (Heap.lt_size e1))).trans (u4.keep b o e1 e2 e3 e4)
        · obtain ⟨sl, q⟩ := u4.slot b o e1 e2 e3 e4
          exact ⟨sl, (hs'.2 b (neC b (Heap.lt_size e1))).trans q⟩
        · rw [upd_ne (neD b (Heap.lt_size e1))]; exact u4.free b o e1 e2 e3
        · obtain ⟨o', q⟩ := u4.there b o e1 e2
          exact ⟨o', (hs'.2 b (neC b (Heap.lt_size e1))).trans q⟩
        · have q := u4.tups b xs e1
          rw [upd_ne (ne_of_none q pin4.2.1)]; exact q
        · have q := u4.frzs b o u e1
          rw [upd_ne (ne_of_none q pin4.2.1)]; exact q
        · obtain ⟨more, q⟩ := u4.tbls b ps e1
          exact ⟨more, by rw [upd_ne (ne_of_none q pin4.2.1)]; exact q⟩
      · intro b o e1
        by_cases hb : b = s.heap.objs.size
        · subst hb
          rw [upd_same] at e1; cases e1
          exact ⟨Nat.le_trans hlen (Nat.le_trans hlin hn), its, nn, hv', (hs'.2 _ (Nat.ne_of_lt (Nat.lt_succ_self _))).trans pin4.1⟩
        · rw [upd_ne hb] at e1
          refine (I4.hok b o e1).stay (fun c u hcu q => (hs'.2 c ?_).trans q) (fun c q => by rw [upd_ne (ne_of_none q pin4.2.1)]; exact q) fun c xs q => by rw [upd_ne (ne_of_none q pin4.2.1)]; exact q
          rintro rfl
          rcases hcu with z | z
          · rw [← z] at e1
            have z2 := I4.free
            rw [show (X.comp scope cells (s.heap.objs.size + 1) (x :: x2 :: M) s H2 fp).env.locals = s.heap.objs.size + 1 from rfl, e1] at z2
            cases z2
          · have z2 := I4.free
            rw [show (X.comp scope cells (s.heap.objs.size + 1) (x :: x2 :: M) s H2 fp).env.locals = s.heap.objs.size + 1 from rfl, z] at z2
            cases z2
      · obtain ⟨_, g1, g2, g3, g4, g5⟩ := f2 b hb
        exact ⟨g3, g1, g4, g5⟩
    · refine thn (T.item (X.comp scope cells (s.heap.objs.size + 1) (x :: x2 :: M) s H2 fp) rfl rfl rfl hc i _ s' _ H' (fun _ _ => False) ID (stat ndp fr') st' go) fun r s4 ⟨u, hr, h4⟩ => ?_
      subst hr
      refine thn h4 fun _ s5 ⟨y, H5, I5, r5, y5, st5, fr5⟩ => ?_
      have I5' := I5.pinned (stat ndp fr5) (T.obj _ _ st5)
      obtain ⟨pa, v1, v2, ey, hq, q5⟩ := step y _ y5
      refine thn (hg _ s5 _ H5 y u (fun σ' H6 => σ' = some v1 :: some v2 :: sel idx σ ∧ H6 = H5) I5' r5 ⟨pa, [v1, v2], ey, hq, rfl, v1, [v2], rfl, v2, [], rfl, rfl, rfl, rfl⟩) fun _ s6 ⟨σ6, H6, I6, e6, e6'⟩ => ?_
      subst e6 e6'
      have fin : ∀ {H8 : Hp} {s8 : Shared} {σ8 : St}, Inv (X.comp scope cells (s.heap.objs.size + 1) (x :: x2 :: M) s H2 fp) ([(s.heap.objs.size, ({ cls := .type "list", data := .seq its.toArray nn } : Obj))] ++ pinsAt fp s5.heap) σ8 H8 s8 →
          s8.heap.PlainList s.heap.objs.size its.toArray ∧ H8 s.heap.objs.size = none ∧ tn (i + 1) s8.heap ∧ ∀ b ∈ fp, H8 b = none := fun {H8 s8 σ8} I8 => by
        have p8 := I8.pin (s.heap.objs.size, ({ cls := .type "list", data := .seq its.toArray nn } : Obj)) (by simp [Cx.comp])
        refine ⟨⟨nn, p8.1⟩, p8.2.1, T.keep _ _ _ st5 fun b hb o e => (I8.pin (b, o) (List.mem_append_right _ (List.mem_append_right _ (mem_pinsAt hb e)))).1, fun b hb => ?_⟩
        obtain ⟨o, e, _⟩ := T.obj _ _ st5 b hb
        exact (I8.pin (b, o) (List.mem_append_right _ (List.mem_append_right _ (mem_pinsAt hb e)))).2.1
      have back : ∀ {H8 : Hp} {s8 : Shared} {P8 : List (Addr × Obj)}, Inv (X.comp scope cells (s.heap.objs.size + 1) (x :: x2 :: M) s H2 fp) P8 (some v1 :: some v2 :: sel idx σ) H8 s8 → Inv (X.comp scope cells (s.heap.objs.size + 1) (x :: x2 :: M) s H2 fp) [] (none :: none :: sel idx σ) H8 s8 := fun I8 =>
        (I8.pins_of fun p hp => absurd hp (by simp)).weak rfl fun j v e => by
          cases j with
          | zero => cases e
          | succ j => cases j with
          | zero => cases e
          | succ j => exact e
      refine thn (ht _ s6 _ _ _ I6 q5) fun b s7 ⟨H7, I7, q7⟩ => ?_
      cases b with
      | false =>
        have q7' : W (i + 1) (ys ++ []) H7 := hNW none H7 q7
        rw [List.append_nil] at q7'
        obtain ⟨g1, g2, g3, g4⟩ := fin I7
        refine show (if false = true then _ else _) from ?_
        rw [if_neg Bool.false_ne_true]
        exact ⟨n - (i + 1), by omega, i + 1, ys, its, H7, back I7, g3, g4, g2, g1, hv', Nat.le_succ_of_le hlen, hin, q7', rfl⟩
      | true =>
        refine show (if true = true then _ else _) from ?_
        rw [if_pos rfl]
        have q7' : te (some v1 :: some v2 :: sel idx σ) H7 fun v H3 => N (some v) H3 := q7
        refine thn (he _ s7 _ _ _ I7 q7') fun u8 s8 ⟨v8, H8, I8, r8, w8⟩ => ?_
        have w8 : W (i + 1) (ys ++ [v8]) H8 := hNW (some v8) H8 w8
        obtain ⟨g1, g2, g3, g4⟩ := fin I8
        refine wpAny_list_append_plain g1 (fun h' hpl hs' => ?_) (by
          rw [List.size_toArray, ← hv'.length]
          exact Nat.le_trans hlen (Nat.le_trans hlin hn))
        have I9 := back I8
        have hpl2 : h'.PlainList s.heap.objs.size (its ++ [u8]).toArray := by
          have e : (its ++ [u8]).toArray = its.toArray.push u8 := by simp
          rw [e]; exact hpl
        refine ⟨n - (i + 1), by omega, i + 1, ys ++ [v8], its ++ [u8], H8, I9.turned (it := s.heap.objs.size) (t' := s8.toks) (fun b o hb e => (hs'.2 b hb).trans e) g2 (Nat.ne_of_lt (Nat.lt_succ_self _)) (.inr (Nat.le_refl _)) (fun z c ec hcz => ?_) (fun p hp => absurd hp (by simp [Cx.comp])),
          T.keep _ _ _ g3 (fun b hb o e => (hs'.2 b (Nat.ne_of_lt (fpLt b hb))).trans e), g4, g2, hpl2, hv'.append (.cons r8 .nil), by rw [List.length_append]; exact Nat.succ_le_succ hlen, hin, w8, rfl⟩
        obtain ⟨v, o, ho, hd⟩ := I9.cell z c ec
        obtain ⟨n9, g9⟩ := g1
        rw [hcz, g9] at ho
        cases ho
        cases hd
  exact codeAny_compStart_list (loop _ rfl) (T.self _ 0 _ _ _ st3 (loop _ rfl))
theorem pe_compIf2 {elt iter : Expr} {ifs : List Expr} {scope : Scope} {pos : Pos} {x x2 : Str} {px px2 pt : Pos} {kk : Nat} {K : PySem.W.Frag} {M : List Str} {idx : List Nat} {wi : TI} {tc : TT} {te : TE}
    (hK : X.K = K) (hc : X.calm = true) (hi : PI X (.Tuple [.Name x px, .Name x2 px2] kk pt) iter wi) (ok : CompOk X scope M idx) (hN : (x :: x2 :: M).Nodup) (hx : scope.names.lookup x = some .local ∨ scope.names.lookup x = some .cell) (hx2 : scope.names.lookup x2 = some .local ∨ scope.names.lookup x2 = some .cell)
    (ht : ∀ cells C s2 H2 fp, PTs (X.comp scope cells C (x :: x2 :: M) s2 H2 fp) ifs tc) (he : ∀ cells C s2 H2 fp, PE (X.comp scope cells C (x :: x2 :: M) s2 H2 fp) elt te)
    (hs : ∀ x, foldedSetIterable iter X.env x = pure x := by intro _; rfl) : PE X (.ListComp elt [⟨.Tuple [.Name x px, .Name x2 px2] kk pt, iter, ifs, 0⟩] scope pos) (tCompIf2 K wi idx tc te) := by
  intro pins s σ H Q I h
  rw [eval_ListComp]
  refine wpAny_comprehension_free (use := none) rfl hs (closureFor_cl fun y hy e => I.ok.has y.1 (ok.fre y hy e)) ok.kind ok.loc (thn (hi pins s σ H _ I h) fun v s1 h1 => thn h1 fun itv s2 h2 => ?_)
  refine comp_block2 (RR := fun acc C => compPost (model X.prog X.w) X.A X.xe none (EP X pins σ Q) acc C) hK hc ok hN hx hx2 ht he h2 fun D C ys H' s' hD hC hDC nD nC q hm hI => ?_
  obtain ⟨m, hm⟩ := hm
  exact ⟨m, hm, fun h' hs' => ⟨.ref D, upd H' D (.lst ys), hI h' s'.toks hs', rfl, q D nD⟩⟩
end
end L2
set_option maxHeartbeats 2000000
namespace MwZip
open PySem PySem.Spec PyProof.Rows
section
variable {prog : Program} {w : World} {A : Around} {E : Value → Shared → Prop} {s : Shared}
theorem draw_one {u p : Addr} {k : Nat} {ts : Array Value} {v : Value} {Q : Value → Shared → Prop} (hu : s.heap.IsTupleIter u p k) (hp : s.heap.IsTuple p ts) (hv : ts[k]? = some v)
    (hQ : ∀ g, g.IsTupleIter u p (k + 1) → Heap.SameBut u s.heap g → Q v { s with heap := g }) : wpAny (model prog w) A (Builtin.SmallTypes.nextOf (.ref u)) Q E s := by
  obtain ⟨ou, gu, cu, du⟩ := id hu
  obtain ⟨op, gp, _, np, dp⟩ := hp
  unfold Builtin.SmallTypes.nextOf
  refine wpAny_bind (wpAny_callSpecial?_slot (name := Str.ofString "__next__") hu.typeIs PySem.F.slot_tuple_iterator_next (wpAny_call_entry PySem.F.slot_tuple_iterator_next hu.typeIs PySem.F.entry_tuple_iterator_next ?_ (PySem.F.args_tuple_iterator_next_1 _)))
  show wpAny _ _ (field (.ref u) 0 >>= _) _ _ s
  refine wpAny_bind (wpAny_field gu du (x := .ref p) rfl ?_)
  show wpAny _ _ (if (Value.ref p == Value.none) = true then _ else _) _ _ s
  rw [if_neg (show ¬ ((Value.ref p == Value.none) = true) from Bool.false_ne_true)]
  show wpAny _ _ (field (.ref u) 1 >>= _) _ _ s
  refine wpAny_bind (wpAny_field gu du (x := .int k 0) rfl ?_)
  show wpAny _ _ (seqItems? (.ref p) >>= _) _ _ s
  refine wpAny_bind (wpAny_seqItems gp dp ?_)
  simp only [Int.toNat_natCast, hv]
  refine wpAny_bind (wpAny_setField gu du (by simp) (wpAny_pure ⟨v, rfl, wpAny_pure (hQ _ ?_ (Heap.SameBut.update ..))⟩))
  refine ⟨_, Heap.get?_update_self _ gu (Obj.isFreed_of_fields (Obj.data_mapFields du _)), (Obj.cls_mapFields ..).trans cu, ?_⟩
  rw [Obj.data_mapFields du]; simp [rawInt]
theorem draw_none {u p : Addr} {k : Nat} {ts : Array Value} {Q : Value → Shared → Prop} (hh : A.handled = none) (hu : s.heap.IsTupleIter u p k) (hp : s.heap.IsTuple p ts) (hv : ts[k]? = none)
    (hE : ∀ g e, Heap.ExtBut u s.heap g → (∃ o, g.get? e = some o ∧ o.cls = .type "StopIteration") → E (.ref e) { s with heap := g }) : wpAny (model prog w) A (Builtin.SmallTypes.nextOf (.ref u)) Q E s := by
  obtain ⟨ou, gu, cu, du⟩ := id hu
  obtain ⟨op, gp, _, np, dp⟩ := hp
  unfold Builtin.SmallTypes.nextOf
  refine wpAny_bind (wpAny_callSpecial?_slot (name := Str.ofString "__next__") hu.typeIs PySem.F.slot_tuple_iterator_next (wpAny_call_entry PySem.F.slot_tuple_iterator_next hu.typeIs PySem.F.entry_tuple_iterator_next ?_ (PySem.F.args_tuple_iterator_next_1 _)))
  show wpAny _ _ (field (.ref u) 0 >>= _) _ _ s
  refine wpAny_bind (wpAny_field gu du (x := .ref p) rfl ?_)
  show wpAny _ _ (if (Value.ref p == Value.none) = true then _ else _) _ _ s
  rw [if_neg (show ¬ ((Value.ref p == Value.none) = true) from Bool.false_ne_true)]
  show wpAny _ _ (field (.ref u) 1 >>= _) _ _ s
  refine wpAny_bind (wpAny_field gu du (x := .int k 0) rfl ?_)
  show wpAny _ _ (seqItems? (.ref p) >>= _) _ _ s
  refine wpAny_bind (wpAny_seqItems gp dp ?_)
  simp only [Int.toNat_natCast, hv]
  refine wpAny_bind (wpAny_rule (wpAny_bind (wpAny_setField gu du (by simp) ?_)))
  show wpAny _ _ (newExc (.type "StopIteration") [] >>= fun x => raiseNew x) _ _ _
  refine wpAny_bind ?_
  simp only [newExc, newTuple]
  refine wpAny_bind (wpAny_newObj_type ?_ (by size_fits))
  refine wpAny_bind (m := firstArgMember _ _) (wpAny_of_eq (a := Value.none) (by first | rfl | (simp only [firstArgMember]; rfl)) (wpAny_newObj_type ?_ (by size_fits)))
  simp only [raiseNew]
  refine wpAny_bind (wpAny_handled ?_)
  rw [show A.in1.handled = none from hh]
  refine wpAny_bind (wpAny_pure (wpAny_throw ?_))
  exact hE _ _ (((Heap.SameBut.update ..).extBut.push _).push _) ⟨_, Heap.get?_push_size _ rfl, rfl⟩
structure Zp (h : Heap) (z a b u v p q : Addr) (f0 : Value) (k : Nat) (xs ys : Array Value) : Prop where
  hz : IsZip h z a b f0
  ha : IsPair h a (.ref u) (.ref v)
  hb : ∃ x y, IsPair h b x y
  hu : h.IsTupleIter u p k
  hv : h.IsTupleIter v q k
  hp : h.IsTuple p xs
  hq : h.IsTuple q ys
def Apart (z a b u v p q : Addr) : Prop := [z, a, b, u, v].Nodup ∧ p ∉ [z, a, b, u, v] ∧ q ∉ [z, a, b, u, v]
theorem zip_item {z a b u v p q : Addr} {k : Nat} {xs ys : Array Value} {x y : Value} {Q : Option Value → Shared → Prop} (D : Apart z a b u v p q) (Z : Zp s.heap z a b u v p q .none k xs ys) (hx : xs[k]? = some x) (hy : ys[k]? = some y)
    (hQ : ∀ h', Zp h' z a b u v p q (rawInt s.heap.objs.size) (k + 1) xs ys → IsPair h' s.heap.objs.size x y → h'.objs.size = s.heap.objs.size + 1 → (∀ c o, c ∉ [z, b, u, v] → s.heap.get? c = some o → h'.get? c = some o) → Q (some (.ref s.heap.objs.size)) { s with heap := h' }) :
    wpAny (model prog w) A (pyNext (.ref z)) Q E s := by
  obtain ⟨hz, ha, ⟨x0, y0, hb⟩, hu, hv, hp, hq⟩ := Z
  obtain ⟨nd, np, nq⟩ := D
  simp only [List.nodup_cons, List.mem_cons, List.not_mem_nil, or_false, not_or, List.nodup_nil, not_false_iff, and_true] at nd np nq
  obtain ⟨⟨za, zb, zu, zv⟩, ⟨ab, au, av⟩, ⟨bu, bv⟩, uv⟩ := nd
  obtain ⟨pz, pa, pb, pu, pv⟩ := np
  obtain ⟨qz, qa, qb, qu, qv⟩ := nq
  have hT : s.TypeIs (.ref z) "zip" := ⟨_, hz, rfl⟩
  unfold pyNext
  refine wpAny_bind (wpAny_attempt (wpAny_callSpecial?_slot (name := Str.ofString "__next__") hT PySem.F.slot_zip_next (wpAny_call_entry PySem.F.slot_zip_next hT PySem.F.entry_zip_next ?_ (PySem.F.args_zip_next_1 _))))
  show wpAny _ _ (field (.ref z) 2 >>= fun _ => _) _ _ _
  refine wpAny_bind (wpAny_field hz rfl (x := .bool false) rfl ?_)
  show wpAny _ _ (field (.ref z) 3 >>= fun _ => _) _ _ _
  refine wpAny_bind (wpAny_field hz rfl (x := .ref a) rfl (wpAny_bind (wpAny_seqItems ha rfl ?_)))
  show wpAny _ _ (Builtin.SmallTypes.ownedTupleIsFree (.ref z) >>= fun _ => _) _ _ _
  refine wpAny_bind ?_
  unfold Builtin.SmallTypes.ownedTupleIsFree
  refine wpAny_bind (wpAny_field hz rfl (x := .none) rfl (wpAny_pure ?_))
  simp only [if_true]
  refine wpAny_bind (wpAny_rule (wpAny_bind (wpAny_field hz rfl (x := .ref b) rfl (wpAny_bind (wpAny_setField_rec hz (by simp) fun g1 hz1 k1 => ?_)))))
  replace hz1 : IsZip g1 z a b .ellipsis := hz1
  refine wpAny_bind ?_
  simp only [List.zipIdx_cons, List.zipIdx_nil, List.forIn_cons, List.forIn_nil]
  refine wpAny_bind (wpAny_bind (wpAny_onRaise ?_))
  show wpAny _ _ (Builtin.SmallTypes.nextOf (.ref u) >>= fun _ => _) _ _ _
  refine wpAny_bind (draw_one (hu.extBut k1.extBut (Ne.symm zu)) (hp.extBut k1.extBut pz) hx fun g2 hu2 k2 => wpAny_pure ?_)
  have hb2 : IsPair g2 b x0 y0 := k2.extBut _ _ bu (k1.extBut _ _ (Ne.symm zb) hb)
  refine wpAny_bind (wpAny_seqItems hb2 rfl (wpAny_bind (wpAny_updateSeq_pair hb2 fun g3 hb3 k3 => wpAny_bind (wpAny_letGo (wpAny_pure ?_)))))
  replace hb3 : IsPair g3 b x y0 := hb3
  refine wpAny_bind (wpAny_bind (wpAny_onRaise ?_))
  show wpAny _ _ (Builtin.SmallTypes.nextOf (.ref v) >>= fun _ => _) _ _ _
  refine wpAny_bind (draw_one (((hv.extBut k1.extBut (Ne.symm zv)).extBut k2.extBut (Ne.symm uv)).extBut k3.extBut (Ne.symm bv)) (((hq.extBut k1.extBut qz).extBut k2.extBut qu).extBut k3.extBut qb) hy fun g4 hv4 k4 => wpAny_pure ?_)
  have hb4 : IsPair g4 b x y0 := k4.extBut _ _ bv hb3
  refine wpAny_bind (wpAny_seqItems hb4 rfl (wpAny_bind (wpAny_updateSeq_pair hb4 fun g5 hb5 k5 => wpAny_bind (wpAny_letGo (wpAny_pure (wpAny_pure ?_))))))
  replace hb5 : IsPair g5 b x y := hb5
  refine wpAny_bind (wpAny_seqItems hb5 rfl (wpAny_bind (wpAny_newTuple ?_)))
  have sz : g5.objs.size = s.heap.objs.size := by rw [k5.1, k4.1, k3.1, k2.1, k1.1]
  have hz5 : IsZip g5 z a b .ellipsis := k5.extBut _ _ zb (k4.extBut _ _ zv (k3.extBut _ _ zb (k2.extBut _ _ zu hz1)))
  have all : ∀ c o, c ≠ z → c ≠ b → c ≠ u → c ≠ v → s.heap.get? c = some o → g5.get? c = some o := fun c o c1 c2 c3 c4 e => k5.extBut _ _ c2 (k4.extBut _ _ c4 (k3.extBut _ _ c2 (k2.extBut _ _ c3 (k1.extBut _ _ c1 e))))
  have hu5 : g5.IsTupleIter u p (k + 1) := ((hu2.extBut k3.extBut (Ne.symm bu)).extBut k4.extBut uv).extBut k5.extBut (Ne.symm bu)
  have hv5 : g5.IsTupleIter v q (k + 1) := hv4.extBut k5.extBut (Ne.symm bv)
  have ltz : z < g5.objs.size := Heap.lt_size hz5
  show wpAny _ _ (Builtin.SmallTypes.ownedTupleHandOut (.ref z) (.ref g5.objs.size) >>= fun _ => _) _ _ _
  refine wpAny_bind ?_
  unfold Builtin.SmallTypes.ownedTupleHandOut
  have hz6 : IsZip (g5.push { cls := .type "tuple", data := .seq #[x, y] }) z a b .ellipsis := Heap.get?_push_of_some _ hz5
  refine wpAny_bind (wpAny_setField_rec hz6 (by simp) fun g7 hz7 k7 => ?_)
  replace hz7 : IsZip g7 z a b (rawInt g5.objs.size) := hz7
  refine wpAny_setField_rec hz7 (by simp) fun g8 hz8 k8 => ?_
  replace hz8 : IsZip g8 z a b (rawInt g5.objs.size) := hz8
  have up : ∀ c o, c ≠ z → g5.get? c = some o → g8.get? c = some o := fun c o c1 e => k8.extBut _ _ c1 (k7.extBut _ _ c1 (Heap.get?_push_of_some _ e))
  have new8 : IsPair g8 g5.objs.size x y := k8.extBut _ _ (Nat.ne_of_gt ltz) (k7.extBut _ _ (Nat.ne_of_gt ltz) (Heap.get?_push_size _ rfl))
  have sz8 : g8.objs.size = g5.objs.size + 1 := by rw [k8.1, k7.1, Heap.size_push]
  rw [sz] at hz8 new8 sz8
  refine wpAny_pure ⟨_, rfl, wpAny_pure ?_⟩
  show Q (some (.ref g5.objs.size)) _
  rw [sz]
  refine hQ g8 ⟨hz8, up _ _ (Ne.symm za) (all _ _ (Ne.symm za) ab au av ha), ⟨x, y, up _ _ (Ne.symm zb) hb5⟩, hu5.at fun o e => up _ o (Ne.symm zu) e, hv5.at fun o e => up _ o (Ne.symm zv) e, hp.at fun o e => up _ o pz (all _ o pz pb pu pv e), hq.at fun o e => up _ o qz (all _ o qz qb qu qv e)⟩ new8 sz8 fun c o hc e => ?_
  simp only [List.mem_cons, List.not_mem_nil, or_false, not_or] at hc
  exact up c o hc.1 (all c o hc.1 hc.2.1 hc.2.2.1 hc.2.2.2 e)
theorem zip_end {z a b u v p q : Addr} {k : Nat} {xs ys : Array Value} {Q : Option Value → Shared → Prop} (hh : A.handled = none) (D : Apart z a b u v p q) (Z : Zp s.heap z a b u v p q .none k xs ys) (hx : xs[k]? = none)
    (hQ : ∀ h', (∀ c o, c ∉ [z, b, u, v] → s.heap.get? c = some o → h'.get? c = some o) → Q none { s with heap := h' }) : wpAny (model prog w) A (pyNext (.ref z)) Q E s := by
  obtain ⟨hz, ha, ⟨x0, y0, hb⟩, hu, hv, hp, hq⟩ := Z
  obtain ⟨nd, np, nq⟩ := D
  simp only [List.nodup_cons, List.mem_cons, List.not_mem_nil, or_false, not_or, List.nodup_nil, not_false_iff, and_true] at nd np nq
  obtain ⟨⟨za, zb, zu, zv⟩, ⟨ab, au, av⟩, ⟨bu, bv⟩, uv⟩ := nd
  obtain ⟨pz, pa, pb, pu, pv⟩ := np
  have hT : s.TypeIs (.ref z) "zip" := ⟨_, hz, rfl⟩
  unfold pyNext
  refine wpAny_bind (wpAny_attempt (wpAny_callSpecial?_slot (name := Str.ofString "__next__") hT PySem.F.slot_zip_next (wpAny_call_entry PySem.F.slot_zip_next hT PySem.F.entry_zip_next ?_ (PySem.F.args_zip_next_1 _))))
  show wpAny _ _ (field (.ref z) 2 >>= fun _ => _) _ _ _
  refine wpAny_bind (wpAny_field hz rfl (x := .bool false) rfl ?_)
  show wpAny _ _ (field (.ref z) 3 >>= fun _ => _) _ _ _
  refine wpAny_bind (wpAny_field hz rfl (x := .ref a) rfl (wpAny_bind (wpAny_seqItems ha rfl ?_)))
  show wpAny _ _ (Builtin.SmallTypes.ownedTupleIsFree (.ref z) >>= fun _ => _) _ _ _
  refine wpAny_bind ?_
  unfold Builtin.SmallTypes.ownedTupleIsFree
  refine wpAny_bind (wpAny_field hz rfl (x := .none) rfl (wpAny_pure ?_))
  simp only [if_true]
  refine wpAny_bind (wpAny_rule (wpAny_bind (wpAny_field hz rfl (x := .ref b) rfl (wpAny_bind (wpAny_setField_rec hz (by simp) fun g1 hz1 k1 => ?_)))))
  replace hz1 : IsZip g1 z a b .ellipsis := hz1
  refine wpAny_bind ?_
  simp only [List.zipIdx_cons, List.zipIdx_nil, List.forIn_cons, List.forIn_nil]
  refine wpAny_bind (wpAny_bind (wpAny_onRaise ?_))
  show wpAny _ _ (Builtin.SmallTypes.nextOf (.ref u) >>= fun _ => _) _ _ _
  refine wpAny_bind (draw_none (by simp [hh]) (hu.extBut k1.extBut (Ne.symm zu)) (hp.extBut k1.extBut pz) hx fun g2 e k2 he => ?_)
  obtain ⟨oe, ge, ce⟩ := he
  have hz2 : IsZip g2 z a b .ellipsis := k2 _ _ zu hz1
  have ez : e ≠ z := fun x => by subst x; rw [hz2] at ge; cases ge; simp at ce
  refine wpAny_setField_rec hz2 (by simp) fun g3 _ k3 => ?_
  refine wpAny_bind (wpAny_isInstance (T := "StopIteration") (b := true) ⟨oe, k3.extBut _ _ ez ge, ce⟩ isSubtype_stop ?_)
  refine wpAny_pure (hQ _ fun c o hc x => ?_)
  simp only [List.mem_cons, List.not_mem_nil, or_false, not_or] at hc
  exact k3.extBut _ _ hc.1 (k2 _ _ hc.2.2.1 (k1.extBut _ _ hc.1 x))
abbrev tIt (p : Addr) : Obj := { cls := .type "tuple_iterator", data := .fields #[.ref p, .int 0 0] }
abbrev zA (h : Heap) (p q : Addr) : Heap := (h.push (tIt p)).push (tIt q)
abbrev zB (h : Heap) (p q : Addr) : Heap := (zA h p q).push { cls := .type "tuple", data := .seq #[.ref h.objs.size, .ref (h.push (tIt p)).objs.size] }
abbrev zC (h : Heap) (p q : Addr) : Heap := (zB h p q).push { cls := .type "tuple", data := .seq #[.none, .none] }
abbrev zD (h : Heap) (p q : Addr) : Heap := (zC h p q).push { cls := .type "zip", data := .fields #[.none, .bool false, .bool false, .ref (zA h p q).objs.size, .ref (zB h p q).objs.size] }
theorem zip_made (p q : Addr) (xs ys : Array Value) :
    Meets (Builtin.«zip.__new__» ⟨[.type "zip", .ref p, .ref q], []⟩) (fun _ R s => s.heap.IsTuple p xs ∧ s.heap.IsTuple q ys ∧ R (.ok (.ret (.ref (zC s.heap p q).objs.size))) { s with heap := zD s.heap p q }) :=
  .of_wp fun prog w A R s h => by
    obtain ⟨hp, g, d, tk, os⟩ := s
    obtain ⟨h1, h2, h⟩ := h
    have su := sub_zip
    have t1 : Heap.IsTuple (Shared.heap ⟨hp, g, d, tk, os⟩) p xs := h1
    have t2 : Heap.IsTuple (Shared.heap ⟨hp.push { cls := .type "tuple_iterator", data := .fields #[.ref p, .int 0 0] }, g, d, tk, os⟩) q ys := h2.at fun o e => Heap.get?_push_of_some _ e
    wp_walk using wpAny_pyIter_tuple t1, wpAny_pyIter_tuple t2
    exact ⟨_, rfl, h⟩
theorem call_zip {p q : Addr} {xs ys : Array Value} {Q : Value → Shared → Prop} (hp : s.heap.IsTuple p xs) (hq : s.heap.IsTuple q ys)
    (h : ∀ h', Zp h' (s.heap.objs.size + 4) (s.heap.objs.size + 2) (s.heap.objs.size + 3) s.heap.objs.size (s.heap.objs.size + 1) p q .none 0 xs ys → (∀ c o, s.heap.get? c = some o → h'.get? c = some o) → Q (.ref (s.heap.objs.size + 4)) { s with heap := h' }) :
    wpAny (model prog w) A (call (.type "zip") [.ref p, .ref q]) Q E s := by
  refine callType_new PySem.F.called_zip (by decide) (PySem.F.typeCall_zip_2 _ _) (PySem.F.newCall_zip_2 _ _) (fun obj => PySem.F.args_object_init_3 obj _ _) PySem.F.entry_zip_new (zip_made p q xs ys) ⟨hp, hq, ?_⟩
  show _ ∧ _
  unfold zD zC zB zA tIt
  generalize e1 : s.heap.push { cls := .type "tuple_iterator", data := .fields #[.ref p, .int 0 0] } = h1
  generalize e2 : h1.push { cls := .type "tuple_iterator", data := .fields #[.ref q, .int 0 0] } = h2
  have z1 : h1.objs.size = s.heap.objs.size + 1 := by rw [← e1]; exact Heap.size_push ..
  have z2 : h2.objs.size = s.heap.objs.size + 2 := by rw [← e2, Heap.size_push, z1]
  rw [z1]
  generalize e3 : h2.push { cls := .type "tuple", data := .seq #[.ref s.heap.objs.size, .ref (s.heap.objs.size + 1)] } = h3
  have z3 : h3.objs.size = s.heap.objs.size + 3 := by rw [← e3, Heap.size_push, z2]
  generalize e4 : h3.push { cls := .type "tuple", data := .seq #[.none, .none] } = h4
  have z4 : h4.objs.size = s.heap.objs.size + 4 := by rw [← e4, Heap.size_push, z3]
  rw [z2, z3, z4]
  generalize e5 : h4.push { cls := .type "zip", data := .fields #[.none, .bool false, .bool false, .ref (s.heap.objs.size + 2), .ref (s.heap.objs.size + 3)] } = h5
  have k1 : ∀ c o, s.heap.get? c = some o → h1.get? c = some o := fun c o e => by rw [← e1]; exact Heap.get?_push_of_some _ e
  have k2 : ∀ c o, h1.get? c = some o → h2.get? c = some o := fun c o e => by rw [← e2]; exact Heap.get?_push_of_some _ e
  have k3 : ∀ c o, h2.get? c = some o → h3.get? c = some o := fun c o e => by rw [← e3]; exact Heap.get?_push_of_some _ e
  have k4 : ∀ c o, h3.get? c = some o → h4.get? c = some o := fun c o e => by rw [← e4]; exact Heap.get?_push_of_some _ e
  have k5 : ∀ c o, h4.get? c = some o → h5.get? c = some o := fun c o e => by rw [← e5]; exact Heap.get?_push_of_some _ e
  have g1 : h1.get? s.heap.objs.size = some { cls := .type "tuple_iterator", data := .fields #[.ref p, .int 0 0] } := by rw [← e1]; exact Heap.get?_push_size _ rfl
  have g2 : h2.get? (s.heap.objs.size + 1) = some { cls := .type "tuple_iterator", data := .fields #[.ref q, .int 0 0] } := by rw [← e2, ← z1]; exact Heap.get?_push_size _ rfl
  have g3 : h3.get? (s.heap.objs.size + 2) = some { cls := .type "tuple", data := .seq #[.ref s.heap.objs.size, .ref (s.heap.objs.size + 1)] } := by rw [← e3, ← z2]; exact Heap.get?_push_size _ rfl
  have g4 : h4.get? (s.heap.objs.size + 3) = some { cls := .type "tuple", data := .seq #[.none, .none] } := by rw [← e4, ← z3]; exact Heap.get?_push_size _ rfl
  have g5 : h5.get? (s.heap.objs.size + 4) = some { cls := .type "zip", data := .fields #[.none, .bool false, .bool false, .ref (s.heap.objs.size + 2), .ref (s.heap.objs.size + 3)] } := by rw [← e5, ← z4]; exact Heap.get?_push_size _ rfl
  have kk : ∀ c o, s.heap.get? c = some o → h5.get? c = some o := fun c o e => k5 _ _ (k4 _ _ (k3 _ _ (k2 _ _ (k1 _ _ e))))
  exact ⟨⟨_, g5, rfl⟩, h _ ⟨g5, k5 _ _ (k4 _ _ g3), ⟨_, _, k5 _ _ g4⟩, ⟨_, k5 _ _ (k4 _ _ (k3 _ _ (k2 _ _ g1))), rfl, rfl⟩, ⟨_, k5 _ _ (k4 _ _ (k3 _ _ g2)), rfl, rfl⟩, hp.at fun o e => kk _ o e, hq.at fun o e => kk _ o e⟩ kk⟩
end
end MwZip
namespace L2
open PySem PySem.Spec PyProof.Rows
def Itz (a b : Addr) : It :=
  ⟨fun i H => ∃ xs ys x y, H a = some (.tup xs) ∧ H b = some (.tup ys) ∧ xs.length = ys.length ∧ xs[i]? = some x ∧ ys[i]? = some y,
   fun i H v H' => ∃ t x y, H t = none ∧ v = .ref t ∧ H' = upd H t (.tup [x, y]) ∧ ∀ xs ys, H a = some (.tup xs) → H b = some (.tup ys) → xs[i]? = some x ∧ ys[i]? = some y,
   fun i H => ∃ xs ys, H a = some (.tup xs) ∧ H b = some (.tup ys) ∧ xs.length = ys.length ∧ xs.length ≤ i⟩
theorem turn_zip {P : Program} {w : World} {K : PySem.W.Frag} {elts : List Expr} {kk : Nat} {pos : Pos} (p q z a b u v : Addr) (D : MwZip.Apart z a b u v p q) :
    Turn P w K (.Tuple elts kk pos) (Itz p q) [z, a, b, u, v] z (fun i h => IsZip h z a b .none ∧ IsPair h a (.ref u) (.ref v) ∧ (∃ x y, IsPair h b x y) ∧ h.IsTupleIter u p i ∧ h.IsTupleIter v q i) where
  mem := by simp
  obj := fun i h st c hc => by
    obtain ⟨hz, ha, ⟨x, y, hb⟩, ⟨ou, gu, _, du⟩, ⟨ov, gv, _, dv⟩⟩ := st
    simp only [List.mem_cons, List.not_mem_nil, or_false] at hc
    rcases hc with rfl | rfl | rfl | rfl | rfl
    · exact ⟨_, hz, fun v z => by cases z⟩
    · exact ⟨_, ha, fun v z => by cases z⟩
    · exact ⟨_, hb, fun v z => by cases z⟩
    · exact ⟨_, gu, fun v z => by rw [du] at z; cases z⟩
    · exact ⟨_, gv, fun v z => by rw [dv] at z; cases z⟩
  keep := fun i h h' st k => by
    obtain ⟨hz, ha, ⟨x, y, hb⟩, hu, hv⟩ := st
    exact ⟨k z (by simp) _ hz, k a (by simp) _ ha, ⟨x, y, k b (by simp) _ hb⟩, hu.at fun o e => k u (by simp) o e, hv.at fun o e => k v (by simp) o e⟩
  item := by
    intro X hP hw hK hc i pins s σ H E I hf st hg
    subst hP hw hK
    obtain ⟨xs, ys, x, y, hxs, hys, hlen, hx, hy⟩ := hg
    obtain ⟨hz, ha, hb, hu, hv⟩ := st
    obtain ⟨_, its, rx, tx⟩ := (show ObjOk X.prog X.w H s.heap p (.tup xs) from I.hok p _ hxs)
    obtain ⟨_, jts, ry, ty⟩ := (show ObjOk X.prog X.w H s.heap q (.tup ys) from I.hok q _ hys)
    obtain ⟨ux, hux, rux⟩ := rx.get hx
    obtain ⟨uy, huy, ruy⟩ := ry.get hy
    have frs : ∀ c ∈ [z, a, b, u, v], H c = none := fun c hc => (hf c hc).1
    refine MwZip.zip_item D ⟨hz, ha, hb, hu, hv, tx, ty⟩ (x := ux) (y := uy) (by simpa using hux) (by simpa using huy) fun h1 Z1 new1 sz1 k1 => ?_
    refine ⟨_, rfl, wpAny_letOwnedTupleGo_zip Z1.hz fun h2 hz2 k2 => ?_⟩
    have nd := D.1
    simp only [List.nodup_cons, List.mem_cons, List.not_mem_nil, or_false, not_or, List.nodup_nil, not_false_iff, and_true] at nd
    obtain ⟨⟨za, zb, zu, zv⟩, ⟨ab, au, av⟩, ⟨bu, bv⟩, uv⟩ := nd
    have ltz : z < s.heap.objs.size := Heap.lt_size hz
    have new2 : IsPair h2 s.heap.objs.size ux uy := (k2.2 _ (Nat.ne_of_gt ltz)).trans new1
    have new : ObjOk X.prog X.w (upd H s.heap.objs.size (.tup [x, y])) (s.heap.push { cls := .type "tuple", data := .seq #[ux, uy] }) s.heap.objs.size (.tup [x, y]) :=
      ⟨(by show 2 ≤ sizeLine; decide), [ux, uy], .cons rux (.cons ruy .nil), _, Heap.get?_push_size _ rfl, rfl, _, rfl⟩
    have I1 : Inv X pins σ (upd H s.heap.objs.size (.tup [x, y])) { s with heap := s.heap.push { cls := .type "tuple", data := .seq #[ux, uy] }, toks := s.toks } := I.laid (fun c o e => Heap.get?_push_of_some _ e) (Nat.le_refl _) new
    have lt : ∀ c ∈ [z, a, b, u, v], c ≠ s.heap.objs.size := fun c hc => by
      simp only [List.mem_cons, List.not_mem_nil, or_false] at hc
      obtain ⟨x0, y0, hb0⟩ := hb
      rcases hc with rfl | rfl | rfl | rfl | rfl
      · exact Nat.ne_of_lt ltz
      · exact Nat.ne_of_lt (Heap.lt_size ha)
      · exact Nat.ne_of_lt (Heap.lt_size hb0)
      · obtain ⟨_, e, _⟩ := hu; exact Nat.ne_of_lt (Heap.lt_size e)
      · obtain ⟨_, e, _⟩ := hv; exact Nat.ne_of_lt (Heap.lt_size e)
    have hf1 : ∀ c ∈ [z, a, b, u, v], FpOk X pins (upd H s.heap.objs.size (.tup [x, y])) c := fun c hc => by
      obtain ⟨f0, f⟩ := hf c hc
      exact ⟨by rw [upd_ne (lt c hc)]; exact f0, f⟩
    have I2 : Inv X pins σ (upd H s.heap.objs.size (.tup [x, y])) { s with heap := h2, toks := s.toks } := by
      have I3 := I1.turnedL (t' := s.toks) (h' := h2) (fp := [z, a, b, u, v]) (fun c o hc e => ?_) hf1
      · exact I3
      have hc' : c ∉ [z, b, u, v] := fun m => hc (by
        simp only [List.mem_cons, List.not_mem_nil, or_false] at m ⊢
        rcases m with m | m | m | m <;> simp [m])
      have cz : c ≠ z := fun m => hc (by simp [m])
      rcases Heap.get?_push_cases e with ⟨rfl, rfl⟩ | e
      · exact new2
      · exact (k2.2 c cz).trans (k1 c o hc' e)
    obtain ⟨x1, y1, hb1⟩ := Z1.hb
    refine ⟨.ref s.heap.objs.size, _, I2, rfl, ⟨s.heap.objs.size, x, y, I.hok.fresh (Nat.le_refl _), rfl, rfl, fun xs' ys' e1 e2 => ?_⟩, ⟨hz2, (k2.2 a (Ne.symm za)).trans Z1.ha, ⟨x1, y1, (k2.2 b (Ne.symm zb)).trans hb1⟩, Z1.hu.at fun o e => (k2.2 u (Ne.symm zu)).trans e, Z1.hv.at fun o e => (k2.2 v (Ne.symm zv)).trans e⟩, fun c hc => (hf1 c hc).1⟩
    rw [hxs] at e1; rw [hys] at e2
    cases e1; cases e2
    exact ⟨hx, hy⟩
  done := by
    intro X hP hw hK hc i pins s σ H E I hf st hg
    subst hP hw hK
    obtain ⟨xs, ys, hxs, hys, hlen, hle⟩ := hg
    obtain ⟨hz, ha, hb, hu, hv⟩ := st
    obtain ⟨_, its, rx, tx⟩ := (show ObjOk X.prog X.w H s.heap p (.tup xs) from I.hok p _ hxs)
    obtain ⟨_, jts, ry, ty⟩ := (show ObjOk X.prog X.w H s.heap q (.tup ys) from I.hok q _ hys)
    have hl := rx.length
    refine MwZip.zip_end (I.ok.hd hc) D ⟨hz, ha, hb, hu, hv, tx, ty⟩ (by simp; omega) fun h' k => ⟨rfl, I.turnedL (t' := s.toks) (fp := [z, a, b, u, v]) (fun c o hc' e => k c o (fun m => hc' ?_) e) hf⟩
    simp only [List.mem_cons, List.not_mem_nil, or_false] at m ⊢
    rcases m with m | m | m | m <;> simp [m]
  self := fun _ _ _ _ _ st h => wpAny_pyIter_zip st.1 h
theorem bt_zip : bootBuiltins "zip" = some (.type "zip") := by decide +kernel
def iZip (ta : TA) : TI := fun σ H R => ta σ H fun vs H1 => ∃ a b xs ys, vs = [.ref a, .ref b] ∧ H1 a = some (.tup xs) ∧ H1 b = some (.tup ys) ∧ R (Itz a b) H1
section
variable {X : Cx}
theorem pi_zip {elts : List Expr} {k : Nat} {pt : Pos} {a b : Expr} {ta : TA} {p pos : Pos} (hg : Gl X "zip") (hm : X.mg "zip" = none) (ha : PA X [a, b] ta) (hs : starEach [a, b] X.env = (false, eval a X.env) :: starEach [b] X.env := by rfl) (hpl : (backTo pos (starEach [b] X.env)).any (·.1) = false := by rfl) :
    PI X (.Tuple elts k pt) (.Call (.Name "zip" p) [a, b] [] pos) (iZip ta) := by
  intro pins s σ H R I h
  refine Call_ (ld_blt I hg hm bt_zip (PyProof.Rows.callWith_type1 (thn (ha pos pins s σ H _ I h) fun us s1 ⟨vs, H1, I1, r1, q1⟩ => ?_) hs hpl))
  obtain ⟨pa, pb, xs, ys, rfl, hpa, hpb, q⟩ := q1
  obtain ⟨u, u', rfl, eu, eu'⟩ := vals2 r1
  obtain rfl : u = Value.ref pa := eu
  obtain rfl : u' = Value.ref pb := eu'
  obtain ⟨_, its, rx, tx⟩ := (show ObjOk X.prog X.w H1 s1.heap pa (.tup xs) from I1.hok pa _ hpa)
  obtain ⟨_, jts, ry, ty⟩ := (show ObjOk X.prog X.w H1 s1.heap pb (.tup ys) from I1.hok pb _ hpb)
  have lta : pa < s1.heap.objs.size := by obtain ⟨_, e, _⟩ := tx; exact Heap.lt_size e
  have ltb : pb < s1.heap.objs.size := by obtain ⟨_, e, _⟩ := ty; exact Heap.lt_size e
  generalize hn : s1.heap.objs.size = n at *
  refine MwZip.call_zip tx ty fun h' Z hk => ?_
  rw [hn] at Z ⊢
  have D : MwZip.Apart (n + 4) (n + 2) (n + 3) n (n + 1) pa pb := by
    have la : (pa : Nat) < n := lta
    have lb : (pb : Nat) < n := ltb
    refine ⟨?_, ?_, ?_⟩
    · simp only [List.nodup_cons, List.mem_cons, List.not_mem_nil, or_false, not_or, List.nodup_nil, not_false_iff, and_true]
      have ne : ∀ i j : Nat, i ≠ j → ¬ ((n + i : Nat) : Addr) = ((n + j : Nat) : Addr) := fun i j h z => h (Nat.add_left_cancel z)
      exact ⟨⟨ne 4 2 (by decide), ne 4 3 (by decide), ne 4 0 (by decide), ne 4 1 (by decide)⟩, ⟨ne 2 3 (by decide), ne 2 0 (by decide), ne 2 1 (by decide)⟩, ⟨ne 3 0 (by decide), ne 3 1 (by decide)⟩, ne 0 1 (by decide)⟩
    · simp only [List.mem_cons, List.not_mem_nil, or_false, not_or]
      refine ⟨?_, ?_, ?_, ?_, ?_⟩ <;> first | exact Nat.ne_of_lt lta | exact Nat.ne_of_lt (Nat.lt_of_lt_of_le lta (Nat.le_add_right _ _))
    · simp only [List.mem_cons, List.not_mem_nil, or_false, not_or]
      refine ⟨?_, ?_, ?_, ?_, ?_⟩ <;> first | exact Nat.ne_of_lt ltb | exact Nat.ne_of_lt (Nat.lt_of_lt_of_le ltb (Nat.le_add_right _ _))
  refine wpAny_pyIter_zip Z.hz ?_
  refine ⟨n + 4, [n + 4, n + 2, n + 3, n, n + 1], _, _, H1, rfl, I1.kept (t' := s1.toks) hk, turn_zip pa pb _ _ _ _ _ D, ⟨Z.hz, Z.ha, Z.hb, Z.hu, Z.hv⟩, fun c hc => ?_, q⟩
  have ge : s1.heap.objs.size ≤ c := by
    rw [hn]
    simp only [List.mem_cons, List.not_mem_nil, or_false] at hc
    rcases hc with e | e | e | e | e <;> (rw [e]; first | exact Nat.le_refl _ | exact Nat.le_add_right _ _)
  exact I1.fpOk ge (I1.hok.fresh ge)
end
theorem for_zip {a b : Addr} {xs ys : List V} {g : TG} {tb : TS} {D : Ends} {σ : St} {H : Hp} (hlen : xs.length = ys.length) (Pv : Nat → St → Hp → Prop) (h0 : Pv 0 σ H) (hl : ∀ i σ H, i ≤ xs.length → Pv i σ H → H a = some (.tup xs) ∧ H b = some (.tup ys))
    (hs : ∀ i x y σ H t, xs[i]? = some x → ys[i]? = some y → Pv i σ H → H t = none → g (.ref t) σ (upd H t (.tup [x, y])) fun σ2 H2 => tb { D with nx := Pv (i + 1), ct := Pv (i + 1), bk := D.nx } σ2 H2) (hd : ∀ σ H, Pv xs.length σ H → D.nx σ H) :
    ∃ W : Nat → Nat → St → Hp → Prop, (∃ m, W 0 m σ H) ∧ ∀ i m σ H, W i m σ H →
      ((Itz a b).stop i H ∧ D.nx σ H) ∨ ((Itz a b).go i H ∧ ∃ N : St → Hp → Prop, (∀ σ' H', N σ' H' → ∃ m', m' < m ∧ W (i + 1) m' σ' H') ∧ ∀ x H', (Itz a b).yld i H x H' → g x σ H' fun σ2 H2 => tb { D with nx := N, ct := N, bk := D.nx } σ2 H2) := by
  refine ⟨fun i m σ H => m = xs.length - i ∧ i ≤ xs.length ∧ Pv i σ H, ⟨xs.length, by simp, Nat.zero_le _, h0⟩, ?_⟩
  rintro i m σ H ⟨rfl, hi, p⟩
  obtain ⟨q1, q2⟩ := hl i σ H hi p
  by_cases hlt : i < xs.length
  · have hlt2 : i < ys.length := by omega
    refine .inr ⟨⟨xs, ys, xs[i], ys[i], q1, q2, hlen, by simp [hlt], by simp [hlt2]⟩, Pv (i + 1), fun σ' H' p' => ⟨xs.length - (i + 1), by omega, rfl, hlt, p'⟩, fun v H' y => ?_⟩
    obtain ⟨t, x, y', ht, rfl, rfl, e⟩ := y
    obtain ⟨e1, e2⟩ := e xs ys q1 q2
    exact hs i x y' σ _ t e1 e2 p ht
  · have e : i = xs.length := by omega
    subst e
    exact .inl ⟨⟨xs, ys, q1, q2, hlen, Nat.le_refl _⟩, hd σ H p⟩
theorem compW_zip {a b : Addr} {xs ys : List V} {H : Hp} {one : V → Hp → (Option V → Hp → Prop) → Prop} {Q : List V → Hp → Prop} (hlen : xs.length = ys.length) (Pv : Nat → List V → Hp → Prop) (h0 : Pv 0 [] H) (hn : xs.length ≤ sizeLine)
    (hl : ∀ i zs H, i ≤ xs.length → Pv i zs H → H a = some (.tup xs) ∧ H b = some (.tup ys)) (hs : ∀ i x y zs H t, xs[i]? = some x → ys[i]? = some y → Pv i zs H → H t = none → one (.ref t) (upd H t (.tup [x, y])) fun o H2 => Pv (i + 1) (zs ++ o.toList) H2) (hd : ∀ zs H, Pv xs.length zs H → Q zs H) : CompW (Itz a b) H one Q := by
  refine ⟨xs.length, fun i zs H => i ≤ xs.length ∧ Pv i zs H, ⟨Nat.zero_le _, h0⟩, hn, ?_⟩
  rintro i zs H ⟨hi, p⟩
  obtain ⟨q1, q2⟩ := hl i zs H hi p
  by_cases hlt : i < xs.length
  · have hlt2 : i < ys.length := by omega
    refine .inr ⟨⟨xs, ys, xs[i], ys[i], q1, q2, hlen, by simp [hlt], by simp [hlt2]⟩, hlt, fun o H3 => Pv (i + 1) (zs ++ o.toList) H3, fun o H3 z => ⟨hlt, z⟩, fun v H2 y => ?_⟩
    obtain ⟨t, x, y', ht, rfl, rfl, e⟩ := y
    obtain ⟨e1, e2⟩ := e xs ys q1 q2
    exact hs i x y' zs _ t e1 e2 p ht
  · have e : i = xs.length := by omega
    subst e
    exact .inl ⟨⟨xs, ys, q1, q2, hlen, Nat.le_refl _⟩, hd zs H p⟩
end L2
set_option maxHeartbeats 2000000
namespace MwSortR
open PySem PyProof.Rows
class Ranks where
  ρ : Value → Int
  κ : SortKind
  V : Value → Prop
class CmpOk [Ranks] (prog : Program) (w : World) (A : Around) (s : Shared) : Prop where
  lt : ∀ (x y : Value) (Q : Bool → Shared → Prop) (E : Value → Shared → Prop), Ranks.V x → Ranks.V y → Q (decide (Ranks.ρ x < Ranks.ρ y)) s → wpAny (model prog w) A (keyLt' Ranks.κ x y) Q E s
variable [Ranks]
def K (xs : Array Keyed) (i : Nat) : Int := match xs[i]? with
  | some p => Ranks.ρ p.1
  | none => 0
def SortedTo (xs : Array Keyed) (k : Nat) : Prop := ∀ i j, i ≤ j → j < k → K xs i ≤ K xs j
def KeysIn (xs : Array Keyed) : Prop := ∀ p, p ∈ xs.toList → Ranks.V p.1
def IsK (v : Value) (a : Int) : Prop := Ranks.V v ∧ Ranks.ρ v = a
theorem K_congr {xs ys : Array Keyed} {i j : Nat} (h : xs[i]? = ys[j]?) : K xs i = K ys j := congrArg (fun z : Option Keyed => match z with | some p => Ranks.ρ p.1 | none => 0) h
theorem K_ite {xs ys : Array Keyed} {k m n : Nat} {c : Prop} [Decidable c] (e : xs[k]? = if c then ys[m]? else ys[n]?) : K xs k = if c then K ys m else K ys n := by
  by_cases z : c
  · rw [if_pos z] at e ⊢
    exact K_congr e
  · rw [if_neg z] at e ⊢
    exact K_congr e
theorem K_bubble {xs : Array Keyed} {src d : Nat} (hs : src < xs.size) (hd : d ≤ src) (k : Nat) : K (bubble xs src d) k = if k = src - d then K xs src else if src - d < k ∧ k ≤ src then K xs (k - 1) else K xs k := by
  have e := getElem?_bubble hs d hd k
  by_cases z : k = src - d
  · rw [if_pos z] at e ⊢
    exact K_congr e
  · rw [if_neg z] at e ⊢
    exact K_ite e
theorem K_mirror {xs : Array Keyed} {i j : Nat} (hj : j ≤ xs.size) (k : Nat) : K (mirror xs i j ((j - i) / 2)) k = if i ≤ k ∧ k < j then K xs (i + j - 1 - k) else K xs k := K_ite (getElem?_mirror_all (i := i) hj k)
theorem K_mirror_equal {xs : Array Keyed} {i j : Nat} (hj : j ≤ xs.size) (heq : ∀ k, i ≤ k → k < j → K xs k = K xs (j - 1)) (k : Nat) : K (mirror xs i j ((j - i) / 2)) k = K xs k := by
  rw [K_mirror hj]
  by_cases z : i ≤ k ∧ k < j
  · rw [if_pos z, heq k z.1 z.2]
    exact heq _ (by omega) (by omega)
  · rw [if_neg z]
def gallop' : Bool → Keyed → Array Keyed → Nat → Nat → Nat → StateT SortSt Sem (Option Nat) := sortPriv% PySem.Builtin.gallop
theorem gallop'_eq (lf : Bool) (ky : Keyed) (ar : Array Keyed) (bs n hint : Nat) : gallop' lf ky ar bs n hint = (do
  let ask (i : Nat) : StateT SortSt Sem (Option Bool) := do
    let y ← elem' ar (bs + i)
    if lf then lt' y ky else return (← lt' ky y).map (!·)
  let mut l := 0
  let mut o := 1
  let mut lw := 0
  let mut up := 0
  let some fw ← ask hint | return none
  if fw then
    let far := n - hint
    for _ in [0:n] do
      if o ≥ far then break
      let some go ← ask (hint + o) | return none
      if !go then break
      l := o
      o := 2 * o + 1
    lw := hint + l + 1
    up := hint + min o far
  else
    let far := hint + 1
    for _ in [0:n] do
      if o ≥ far then break
      let some go ← ask (hint - o) | return none
      if go then break
      l := o
      o := 2 * o + 1
    lw := hint + 1 - min o far
    up := hint - l
  for _ in [0:n] do
    if lw ≥ up then break
    let mid := lw + (up - lw) / 2
    let some go ← ask mid | return none
    if go then lw := mid + 1 else up := mid
  return some up) := rfl
section
variable {prog : Program} {w : World} {A : Around} {E : Value → Shared → Prop} {s : Shared} [CmpOk prog w A s]
theorem wpS_lt2 {st : SortSt} {x y : Keyed} {a b : Int} {Q : Option Bool → SortSt → Prop} (hk : kindOf st = Ranks.κ) (hx : IsK x.1 a) (hy : IsK y.1 b) (h : Q (some (decide (a < b))) st) :
    wpS (model prog w) A E s (lt' x y) Q st := by
  rw [lt'_eq]
  refine wpS_bind (wpS_get ?_)
  rw [hk]
  refine wpS_bind (wpS_lift (wpAny_attempt (CmpOk.lt _ _ _ _ hx.1 hy.1 ⟨rfl, ?_⟩)))
  rw [hx.2, hy.2]
  exact wpS_pure h
theorem wpS_elem {st : SortSt} {arr : Array Keyed} {i : Nat} {p : Keyed} {Q : Keyed → SortSt → Prop} (h : arr[i]? = some p) (q : Q p st) : wpS (model prog w) A E s (elem' arr i) Q st := by
  rw [elem'_eq, h]
  exact wpS_pure q
def Turns (B : Nat → Bool) (n k : Nat) : Prop := k ≤ n ∧ (∀ i, i < k → B i = true) ∧ ∀ i, k ≤ i → i < n → B i = false
def Fwd (left : Bool) (kk : Int) (arr : Array Keyed) (b : Nat) (i : Nat) : Bool := if left = true then decide (K arr (b + i) < kk) else !decide (kk < K arr (b + i))
theorem at_int {arr : Array Keyed} (hI : KeysIn arr) {i : Nat} (h : i < arr.size) : ∃ (p : Keyed) (t : Tok), arr[i]? = some p ∧ IsK p.1 (K arr i) := by
  have e : arr[i]? = some arr[i] := getElem?_pos arr i h
  refine ⟨arr[i], 0, e, hI arr[i] (by simp), ?_⟩
  unfold K
  rw [e]
theorem fwd_mono {left : Bool} {kk : Int} {arr : Array Keyed} {b n : Nat} (hs : ∀ i j, i ≤ j → j < n → K arr (b + i) ≤ K arr (b + j)) {i j : Nat} (hij : i ≤ j) (hj : j < n) (h : Fwd left kk arr b j = true) : Fwd left kk arr b i = true := by
  have := hs i j hij hj
  unfold Fwd at h ⊢
  cases left
  · simp at h ⊢
    omega
  · simp at h ⊢
    omega
theorem wpS_fwd {st : SortSt} {left : Bool} {key : Keyed} {arr : Array Keyed} {b i : Nat} {kk : Int} {Q : Option Bool → SortSt → Prop} (hk : kindOf st = Ranks.κ) (hkey : IsK key.1 kk) (hI : KeysIn arr) (hi : b + i < arr.size)
    (h : Q (some (Fwd left kk arr b i)) st) :
    wpS (model prog w) A E s (do let x ← (sortPriv% PySem.Builtin.elem) arr (b + i); if left = true then (sortPriv% PySem.Builtin.lt) x key else do let r ← (sortPriv% PySem.Builtin.lt) key x; pure (Option.map (fun x => !x) r)) Q st := by
  obtain ⟨p, t, e, hp⟩ := at_int hI hi
  refine wpS_bind (wpS_elem (arr := arr) e ?_)
  unfold Fwd at h
  cases left with
  | true =>
    rw [if_pos rfl]
    exact wpS_lt2 hk hp hkey (by simpa using h)
  | false =>
    rw [if_neg Bool.false_ne_true]
    exact wpS_bind (wpS_lt2 hk hkey hp (wpS_pure (by simpa using h)))
theorem wpS_gallop {st : SortSt} {left : Bool} {key : Keyed} {arr : Array Keyed} {b n hint : Nat} {kk : Int} {Q : Option Nat → SortSt → Prop} (hk : kindOf st = Ranks.κ) (hkey : IsK key.1 kk)
    (hI : KeysIn arr) (hb : b + n ≤ arr.size) (hh : hint < n) (hs : ∀ i j, i ≤ j → j < n → K arr (b + i) ≤ K arr (b + j))
    (h : ∀ k, Turns (Fwd left kk arr b) n k → Q (some k) st) : wpS (model prog w) A E s (gallop' left key arr b n hint) Q st := by
  have mono : ∀ {i j : Nat}, i ≤ j → j < n → Fwd left kk arr b j = true → Fwd left kk arr b i = true := fun a b c => fwd_mono hs a b c
  have anti : ∀ {i j : Nat}, i ≤ j → j < n → Fwd left kk arr b i = false → Fwd left kk arr b j = false := fun {i j} a b c => by
    cases e : Fwd left kk arr _ j with
    | false => rfl
    | true => rw [mono a b e] at c; cases c
  have half : ∀ (lo hi : Nat), lo ≤ hi → hi ≤ n → (∀ i, i < lo → Fwd left kk arr b i = true) → (∀ i, hi ≤ i → i < n → Fwd left kk arr b i = false) →
      ∀ (f : Nat → (Option (Option Nat) × Nat × Nat) → StateT SortSt Sem (ForInStep (Option (Option Nat) × Nat × Nat))),
      (∀ x c, f x c = (if c.snd.fst ≥ c.snd.snd then pure (ForInStep.done (none, c.snd.fst, c.snd.snd)) else do
        let r ← (do let x ← (sortPriv% PySem.Builtin.elem) arr (b + (c.snd.fst + (c.snd.snd - c.snd.fst) / 2)); if left = true then (sortPriv% PySem.Builtin.lt) x key else do let r ← (sortPriv% PySem.Builtin.lt) key x; pure (Option.map (fun x => !x) r))
        match r with
        | some more => if more = true then pure (ForInStep.yield (none, c.snd.fst + (c.snd.snd - c.snd.fst) / 2 + 1, c.snd.snd)) else pure (ForInStep.yield (none, c.snd.fst, c.snd.fst + (c.snd.snd - c.snd.fst) / 2))
        | x => pure (ForInStep.done (some none, c.snd.fst, c.snd.snd)))) →
      wpS (model prog w) A E s (forIn [:n] (none, lo, hi) f) (fun c st' => st' = st ∧ c.fst = none ∧ Turns (Fwd left kk arr b) n c.snd.snd) st := by
    intro lo hi h1 h2 h3 h4 f hf
    refine wpS_forRange (a := 0) (I := fun (x : Nat) (c : Option (Option Nat) × Nat × Nat) (st' : SortSt) => st' = st ∧ c.fst = none ∧ c.snd.fst ≤ c.snd.snd ∧ c.snd.snd ≤ n ∧ (∀ i, i < c.snd.fst → Fwd left kk arr b i = true) ∧ (∀ i, c.snd.snd ≤ i → i < n → Fwd left kk arr b i = false) ∧ c.snd.snd - c.snd.fst ≤ n - x) ?_ ?_ ⟨rfl, rfl, h1, h2, h3, h4, by show hi - lo ≤ n - 0; omega⟩
    · rintro x ⟨c0, l, r⟩ st' _ hx ⟨rfl, rfl, i1, i2, i3, i4, i5⟩
      dsimp only at i1 i2 i3 i4 i5
      rw [hf]
      dsimp only
      by_cases hlr : l ≥ r
      · rw [if_pos hlr]
        have : l = r := by omega
        subst this
        exact wpS_pure ⟨rfl, rfl, i2, i3, i4⟩
      · rw [if_neg hlr]
        refine wpS_bind (wpS_fwd hk hkey hI (by omega) ?_)
        cases e : Fwd left kk arr b (l + (r - l) / 2) with
        | true =>
          dsimp only
          rw [if_pos rfl]
          exact wpS_pure ⟨rfl, rfl, by dsimp only; omega, i2, fun i hi => mono (show i ≤ l + (r - l) / 2 by dsimp only at hi; omega) (by omega) e, i4, by dsimp only; omega⟩
        | false =>
          dsimp only
          rw [if_neg Bool.false_ne_true]
          exact wpS_pure ⟨rfl, rfl, by dsimp only; omega, by dsimp only; omega, i3, fun i hi hn => anti hi hn e, by dsimp only; omega⟩
    · rintro ⟨c0, l, r⟩ st' ⟨rfl, rfl, i1, i2, i3, i4, i5⟩
      dsimp only at i1 i2 i3 i4 i5 ⊢
      have : l = r := by omega
      subst this
      exact ⟨rfl, rfl, i2, i3, i4⟩
  rw [gallop'_eq]
  dsimp only
  refine wpS_bind (wpS_fwd hk hkey hI (by omega) ?_)
  cases e0 : Fwd left kk arr b hint with
  | true =>
    dsimp only
    rw [if_pos rfl]
    refine wpS_bind (wpS_mono (wpS_forRange (a := 0) (I := fun (x : Nat) (c : Option (Option Nat) × Nat × Nat) (st' : SortSt) => st' = st ∧ c.fst = none ∧ c.snd.fst < c.snd.snd ∧ hint + c.snd.fst < n ∧ Fwd left kk arr b (hint + c.snd.fst) = true ∧ x + 1 ≤ c.snd.snd)
      (Q := fun (c : Option (Option Nat) × Nat × Nat) (st' : SortSt) => st' = st ∧ c.fst = none ∧ c.snd.fst < c.snd.snd ∧ hint + c.snd.fst < n ∧ Fwd left kk arr b (hint + c.snd.fst) = true ∧ (n - hint ≤ c.snd.snd ∨ (hint + c.snd.snd < n ∧ Fwd left kk arr b (hint + c.snd.snd) = false))) ?_ ?_ ⟨rfl, rfl, by decide, hh, (show Fwd left kk arr b (hint + 0) = true from e0), by decide⟩) ?_)
    · rintro x ⟨c0, l, r⟩ st' _ hx ⟨rfl, rfl, i1, i2, i3, i4⟩
      dsimp only at i1 i2 i3 i4 ⊢
      by_cases hlr : r ≥ n - hint
      · rw [if_pos hlr]
        exact wpS_pure ⟨rfl, rfl, i1, i2, i3, .inl hlr⟩
      · rw [if_neg hlr]
        refine wpS_bind (wpS_fwd hk hkey hI (by omega) ?_)
        cases e : Fwd left kk arr b (hint + r) with
        | true =>
          dsimp only
          rw [if_neg (by simp)]
          exact wpS_pure ⟨rfl, rfl, by dsimp only; omega, by dsimp only; omega, e, by dsimp only; omega⟩
        | false =>
          dsimp only
          rw [if_pos (show (!false) = true from rfl)]
          exact wpS_pure ⟨rfl, rfl, i1, i2, i3, .inr ⟨by dsimp only; omega, e⟩⟩
    · rintro ⟨c0, l, r⟩ st' ⟨rfl, rfl, i1, i2, i3, i4⟩
      dsimp only at i1 i2 i3 i4 ⊢
      exact ⟨rfl, rfl, i1, i2, i3, .inl (by omega)⟩
    · rintro ⟨c0, l, r⟩ st' ⟨rfl, rfl, i1, i2, i3, i4⟩
      dsimp only at i1 i2 i3 i4 ⊢
      refine wpS_bind (wpS_mono (half (hint + l + 1) (hint + min r (n - hint)) (by omega) (by omega) (fun i hi => mono (show i ≤ hint + l by omega) i2 i3) (fun i hi hn => ?_) _ (fun x c => rfl)) ?_)
      · rcases i4 with z | ⟨z1, z2⟩
        · omega
        · exact anti (show hint + r ≤ i by omega) hn z2
      · rintro ⟨c0, l2, r2⟩ st' ⟨rfl, rfl, t⟩
        exact wpS_pure (h _ t)
  | false =>
    dsimp only
    rw [if_neg Bool.false_ne_true]
    refine wpS_bind (wpS_mono (wpS_forRange (a := 0) (I := fun (x : Nat) (c : Option (Option Nat) × Nat × Nat) (st' : SortSt) => st' = st ∧ c.fst = none ∧ c.snd.fst < c.snd.snd ∧ c.snd.fst ≤ hint ∧ Fwd left kk arr b (hint - c.snd.fst) = false ∧ x + 1 ≤ c.snd.snd)
      (Q := fun (c : Option (Option Nat) × Nat × Nat) (st' : SortSt) => st' = st ∧ c.fst = none ∧ c.snd.fst < c.snd.snd ∧ c.snd.fst ≤ hint ∧ Fwd left kk arr b (hint - c.snd.fst) = false ∧ (hint + 1 ≤ c.snd.snd ∨ (c.snd.snd ≤ hint ∧ Fwd left kk arr b (hint - c.snd.snd) = true))) ?_ ?_ ⟨rfl, rfl, by decide, Nat.zero_le _, (show Fwd left kk arr b (hint - 0) = false from e0), by decide⟩) ?_)
    · rintro x ⟨c0, l, r⟩ st' _ hx ⟨rfl, rfl, i1, i2, i3, i4⟩
      dsimp only at i1 i2 i3 i4 ⊢
      by_cases hlr : r ≥ hint + 1
      · rw [if_pos hlr]
        exact wpS_pure ⟨rfl, rfl, i1, i2, i3, .inl hlr⟩
      · rw [if_neg hlr]
        refine wpS_bind (wpS_fwd hk hkey hI (by omega) ?_)
        cases e : Fwd left kk arr b (hint - r) with
        | true =>
          dsimp only
          rw [if_pos rfl]
          exact wpS_pure ⟨rfl, rfl, i1, i2, i3, .inr ⟨by dsimp only; omega, e⟩⟩
        | false =>
          dsimp only
          rw [if_neg Bool.false_ne_true]
          exact wpS_pure ⟨rfl, rfl, by dsimp only; omega, by dsimp only; omega, e, by dsimp only; omega⟩
    · rintro ⟨c0, l, r⟩ st' ⟨rfl, rfl, i1, i2, i3, i4⟩
      dsimp only at i1 i2 i3 i4 ⊢
      exact ⟨rfl, rfl, i1, i2, i3, .inl (by omega)⟩
    · rintro ⟨c0, l, r⟩ st' ⟨rfl, rfl, i1, i2, i3, i4⟩
      dsimp only at i1 i2 i3 i4 ⊢
      refine wpS_bind (wpS_mono (half (hint + 1 - min r (hint + 1)) (hint - l) (by omega) (by omega) (fun i hi => ?_) (fun i hi hn => anti hi hn i3) _ (fun x c => rfl)) ?_)
      · rcases i4 with z | ⟨z1, z2⟩
        · omega
        · exact mono (show i ≤ hint - r by omega) (by omega) z2
      · rintro ⟨c0, l2, r2⟩ st' ⟨rfl, rfl, t⟩
        exact wpS_pure (h _ t)
end
end MwSortR
namespace MwSortR
open PySem PyProof.Rows
variable [Ranks]
def kf (p : Keyed) : Int := Ranks.ρ p.1
def Rise (l : List Keyed) : Prop := l.Pairwise (fun x y => kf x ≤ kf y)
def Ahead (l r : List Keyed) : Prop := ∀ x ∈ l, ∀ y ∈ r, kf x ≤ kf y
theorem Rise.append {l r : List Keyed} (h1 : Rise l) (h2 : Rise r) (h : Ahead l r) : Rise (l ++ r) := List.pairwise_append.mpr ⟨h1, h2, h⟩
theorem Rise.sub {l r : List Keyed} (h : Rise r) (s : l.Sublist r) : Rise l := h.sublist s
structure MI (a b out : List Keyed) (ia ib : Nat) : Prop where
  perm : out.Perm (a.take ia ++ b.take ib)
  rise : Rise out
  ahA : Ahead out (a.drop ia)
  ahB : Ahead out (b.drop ib)
theorem MI.moreB {a b out : List Keyed} {ia ib k : Nat} (h : MI a b out ia ib) (hb : Rise b) (hk : ib + k ≤ b.length) (hx : Ahead ((b.drop ib).take k) (a.drop ia)) : MI a b (out ++ (b.drop ib).take k) ia (ib + k) := by
  have e : b.drop ib = (b.drop ib).take k ++ b.drop (ib + k) := by rw [← List.drop_drop, List.take_append_drop]
  have r : Rise ((b.drop ib).take k ++ b.drop (ib + k)) := by rw [← e]; exact hb.sub (List.drop_sublist _ _)
  have c := List.pairwise_append.mp r
  refine ⟨?_, h.rise.append c.1 fun x hx y hy => h.ahB x hx y (List.mem_of_mem_take hy), fun x hx' y hy => ?_, fun x hx' y hy => ?_⟩
  · rw [List.take_add]
    have := h.perm.append_right ((b.drop ib).take k)
    rwa [List.append_assoc] at this
  · rcases List.mem_append.mp hx' with z | z
    · exact h.ahA x z y hy
    · exact hx x z y hy
  · rcases List.mem_append.mp hx' with z | z
    · exact h.ahB x z y (by rw [e]; exact List.mem_append_right _ hy)
    · exact c.2.2 x z y hy
theorem MI.swap {a b out : List Keyed} {ia ib : Nat} (h : MI a b out ia ib) : MI b a out ib ia := ⟨h.perm.trans List.perm_append_comm, h.rise, h.ahB, h.ahA⟩
theorem MI.moreA {a b out : List Keyed} {ia ib k : Nat} (h : MI a b out ia ib) (ha : Rise a) (hk : ia + k ≤ a.length) (hx : Ahead ((a.drop ia).take k) (b.drop ib)) : MI a b (out ++ (a.drop ia).take k) (ia + k) ib := (h.swap.moreB ha hk hx).swap
theorem MI.fin {a b out : List Keyed} (h : MI a b out a.length b.length) : out.Perm (a ++ b) ∧ Rise out := by
  refine ⟨?_, h.rise⟩
  have := h.perm
  rwa [List.take_length, List.take_length] at this
theorem MI.restA {a b out : List Keyed} {ia : Nat} (h : MI a b out ia b.length) (ha : Rise a) (hi : ia ≤ a.length) : (out ++ a.drop ia).Perm (a ++ b) ∧ Rise (out ++ a.drop ia) := by
  have m := h.moreA (k := a.length - ia) ha (by omega) (by rw [List.drop_length]; exact fun x _ y hy => absurd hy (by simp))
  have e : (a.drop ia).take (a.length - ia) = a.drop ia := List.take_of_length_le (by rw [List.length_drop]; exact Nat.le_refl _)
  rw [e, show ia + (a.length - ia) = a.length by omega] at m
  exact m.fin
theorem MI.lastA {a b out : List Keyed} {ia ib : Nat} (h : MI a b out ia ib) (ha : Rise a) (hb : Rise b) (hi : ia ≤ a.length) (hj : ib ≤ b.length) (hx : Ahead (b.drop ib) (a.drop ia)) :
    (out ++ b.drop ib ++ a.drop ia).Perm (a ++ b) ∧ Rise (out ++ b.drop ib ++ a.drop ia) := by
  have e : (b.drop ib).take (b.length - ib) = b.drop ib := List.take_of_length_le (by rw [List.length_drop]; exact Nat.le_refl _)
  have m := h.moreB (k := b.length - ib) hb (by omega) (by rw [e]; exact hx)
  rw [e, show ib + (b.length - ib) = b.length by omega] at m
  exact m.restA ha hi
theorem MI.restB {a b out : List Keyed} {ib : Nat} (h : MI a b out a.length ib) (hb : Rise b) (hi : ib ≤ b.length) : (out ++ b.drop ib).Perm (a ++ b) ∧ Rise (out ++ b.drop ib) := by
  have := h.swap.restA hb hi
  exact ⟨this.1.trans List.perm_append_comm, this.2⟩
theorem MI.nil {a b : List Keyed} : MI a b [] 0 0 := ⟨by simp, List.Pairwise.nil, fun x hx => absurd hx (by simp), fun x hx => absurd hx (by simp)⟩
theorem mem_seg {l : List Keyed} {x : Keyed} {i k : Nat} (h : x ∈ (l.drop i).take k) : ∃ n, ∃ _ : n < l.length, i ≤ n ∧ n < i + k ∧ l[n] = x := by
  obtain ⟨m, hm, e⟩ := List.mem_iff_getElem.mp h
  rw [List.length_take, List.length_drop] at hm
  refine ⟨i + m, by omega, by omega, by omega, ?_⟩
  rw [List.getElem_take, List.getElem_drop] at e
  exact e
theorem mem_rest {l : List Keyed} {x : Keyed} {i : Nat} (h : x ∈ l.drop i) : ∃ n, ∃ _ : n < l.length, i ≤ n ∧ l[n] = x := by
  obtain ⟨m, hm, e⟩ := List.mem_iff_getElem.mp h
  rw [List.length_drop] at hm
  refine ⟨i + m, by omega, by omega, ?_⟩
  rw [List.getElem_drop] at e
  exact e
theorem mem_first {l : List Keyed} {x : Keyed} {i : Nat} (h : x ∈ l.take i) : ∃ n, ∃ _ : n < l.length, n < i ∧ l[n] = x := by
  obtain ⟨m, hm, e⟩ := List.mem_iff_getElem.mp h
  rw [List.length_take] at hm
  refine ⟨m, by omega, by omega, ?_⟩
  rw [List.getElem_take] at e
  exact e
theorem kf_at {a : Array Keyed} {n : Nat} (h : n < a.toList.length) : kf a.toList[n] = K a n := by
  unfold kf K
  rw [getElem?_pos a n (by simpa using h)]
  simp
theorem riseK {a : Array Keyed} (h : Rise a.toList) {i j : Nat} (hij : i ≤ j) (hj : j < a.size) : K a i ≤ K a j := by
  rcases Nat.lt_or_ge i j with z | z
  · have := (List.pairwise_iff_getElem.mp h) i j (by simp; omega) (by simpa using hj) z
    rwa [kf_at, kf_at] at this
  · have : i = j := by omega
    rw [this]; exact Int.le_refl _
theorem rise_of {a : Array Keyed} (h : ∀ i j, i ≤ j → j < a.size → K a i ≤ K a j) : Rise a.toList := by
  refine List.pairwise_iff_getElem.mpr fun i j hi hj hij => ?_
  rw [kf_at, kf_at]
  exact h i j (by omega) (by simpa using hj)
structure MH (a b out : List Keyed) (na nb : Nat) : Prop where
  perm : out.Perm (a.drop na ++ b.drop nb)
  rise : Rise out.reverse
  ahA : Ahead (a.take na) out
  ahB : Ahead (b.take nb) out
theorem MH.swap {a b out : List Keyed} {na nb : Nat} (h : MH a b out na nb) : MH b a out nb na := ⟨h.perm.trans List.perm_append_comm, h.rise, h.ahB, h.ahA⟩
theorem MH.nil {a b : List Keyed} : MH a b [] a.length b.length := ⟨by simp, List.Pairwise.nil, fun x _ y hy => absurd hy (by simp), fun x _ y hy => absurd hy (by simp)⟩
theorem seg_split {l : List Keyed} {i j : Nat} (h : i ≤ j) : l.drop i = (l.drop i).take (j - i) ++ l.drop j := by
  have e : l.drop j = (l.drop i).drop (j - i) := by rw [List.drop_drop]; congr 1; omega
  rw [e, List.take_append_drop]
theorem first_split {l : List Keyed} {i j : Nat} (h : i ≤ j) : l.take j = l.take i ++ (l.drop i).take (j - i) := by
  have : j = i + (j - i) := by omega
  rw [this, List.take_add]
  congr 3
theorem MH.moreA {a b out : List Keyed} {na nb p : Nat} (h : MH a b out na nb) (ha : Rise a) (hp : p ≤ na) (hx : Ahead (b.take nb) ((a.drop p).take (na - p))) : MH a b (out ++ ((a.drop p).take (na - p)).reverse) p nb := by
  have e1 := seg_split (l := a) hp
  have e2 := first_split (l := a) hp
  have r1 : Rise (a.take p ++ (a.drop p).take (na - p)) := by rw [← e2]; exact ha.sub (List.take_sublist _ _)
  have c := List.pairwise_append.mp r1
  have hA : Ahead ((a.drop p).take (na - p)) out := fun x hx' y hy => h.ahA x (by rw [e2]; exact List.mem_append_right _ hx') y hy
  refine ⟨?_, ?_, fun x hx' y hy => ?_, fun x hx' y hy => ?_⟩
  · have e3 : a.drop p ++ b.drop nb = (a.drop p).take (na - p) ++ (a.drop na ++ b.drop nb) := by rw [← List.append_assoc, ← e1]
    rw [e3]
    refine (h.perm.append_right _).trans ?_
    refine ((List.reverse_perm _).append_left _).trans ?_
    exact List.perm_append_comm
  · rw [List.reverse_append, List.reverse_reverse]
    refine Rise.append c.2.1 h.rise fun x hx' y hy => hA x hx' y (List.mem_reverse.mp hy)
  · rcases List.mem_append.mp hy with z | z
    · exact h.ahA x (by rw [e2]; exact List.mem_append_left _ hx') y z
    · exact c.2.2 x hx' y (List.mem_reverse.mp z)
  · rcases List.mem_append.mp hy with z | z
    · exact h.ahB x hx' y z
    · exact hx x hx' y (List.mem_reverse.mp z)
theorem MH.moreB {a b out : List Keyed} {na nb p : Nat} (h : MH a b out na nb) (hb : Rise b) (hp : p ≤ nb) (hx : Ahead (a.take na) ((b.drop p).take (nb - p))) : MH a b (out ++ ((b.drop p).take (nb - p)).reverse) na p := (h.swap.moreA hb hp hx).swap
theorem MH.fin {a b out : List Keyed} (h : MH a b out 0 0) : out.reverse.Perm (a ++ b) ∧ Rise out.reverse := ⟨(List.reverse_perm _).trans (by simpa using h.perm), h.rise⟩
theorem MH.restB {a b out : List Keyed} {nb : Nat} (h : MH a b out 0 nb) (hb : Rise b) (hi : nb ≤ b.length) : (b.take nb ++ out.reverse).Perm (a ++ b) ∧ Rise (b.take nb ++ out.reverse) := by
  have m := h.moreB (p := 0) hb (by omega) (fun x hx => absurd hx (by simp))
  have := m.fin
  simpa using this
theorem MH.restA {a b out : List Keyed} {na : Nat} (h : MH a b out na 0) (ha : Rise a) (hi : na ≤ a.length) : (a.take na ++ out.reverse).Perm (a ++ b) ∧ Rise (a.take na ++ out.reverse) := by
  have m := h.moreA (p := 0) ha (by omega) (fun x hx => absurd hx (by simp))
  have := m.fin
  simpa using this
theorem MH.firstB {a b out : List Keyed} {na nb : Nat} (h : MH a b out na nb) (ha : Rise a) (hb : Rise b) (hi : na ≤ a.length) (hj : nb ≤ b.length) (hx : Ahead (b.take nb) (a.take na)) :
    (b.take nb ++ a.take na ++ out.reverse).Perm (a ++ b) ∧ Rise (b.take nb ++ a.take na ++ out.reverse) := by
  have m := h.moreA (p := 0) ha (by omega) (by simpa using hx)
  have := m.restB hb hj
  simpa using this
end MwSortR
set_option maxHeartbeats 2000000
namespace MwSortR
open PySem PyProof.Rows
variable [Ranks]
def mergeLo' : Array Keyed → Array Keyed → StateT SortSt Sem (Array Keyed) := sortPriv% PySem.Builtin.mergeLo
def setG' : Nat → StateT SortSt Sem Unit := sortPriv% PySem.Builtin.setMinGallop
theorem setG'_eq (g : Nat) : setG' g = modify fun z => SortSt.mk' (kindOf z) (arrOf z) (pendingOf z) g (failedOf z) := rfl
abbrev LoR := Option (Array Keyed) × Array Keyed × Nat × Nat × Nat × Nat
abbrev LoG := Option (Array Keyed) × Array Keyed × Nat × Nat × Nat × Nat × Nat
abbrev LoO := Option (Array Keyed) × Array Keyed × Nat × Nat × Nat
def fDone (a b out : Array Keyed) (ia ib : Nat) : Array Keyed := out ++ a.extract ia a.size ++ b.extract ib b.size
def fLast (a b out : Array Keyed) (ia ib : Nat) : Array Keyed := out ++ b.extract ib b.size ++ a.extract ia a.size
def loR (a b : Array Keyed) (mg : Nat) (out : Array Keyed) (ia ib ac bc : Nat) : StateT SortSt Sem (ForInStep LoR) := do
  let p ← elem' b ib
  let q ← elem' a ia
  let r ← lt' p q
  match r with
  | some t =>
    if t = true then do
      let z ← elem' b ib
      if (ib + 1 == b.size) = true then pure (.done (some (fDone a b (out.push z) ia (ib + 1)), out.push z, ia, ib + 1, 0, bc + 1))
      else if bc + 1 ≥ mg then pure (.done (none, out.push z, ia, ib + 1, 0, bc + 1))
      else pure (.yield (none, out.push z, ia, ib + 1, 0, bc + 1))
    else do
      let z ← elem' a ia
      if (ia + 1 + 1 == a.size) = true then pure (.done (some (fLast a b (out.push z) (ia + 1) ib), out.push z, ia + 1, ib, ac + 1, 0))
      else if ac + 1 ≥ mg then pure (.done (none, out.push z, ia + 1, ib, ac + 1, 0))
      else pure (.yield (none, out.push z, ia + 1, ib, ac + 1, 0))
  | _ => pure (.done (some (fDone a b out ia ib), out, ia, ib, ac, bc))
def loG3 (a b : Array Keyed) (out : Array Keyed) (ia ib mg ac bc : Nat) : StateT SortSt Sem (ForInStep LoG) := do
  let z ← elem' a ia
  if (ia + 1 + 1 == a.size) = true then pure (.done (some (fLast a b (out.push z) (ia + 1) ib), out.push z, ia + 1, ib, mg, ac, bc))
  else if (decide (ac < 7) && decide (bc < 7)) = true then pure (.done (none, out.push z, ia + 1, ib, mg, ac, bc))
  else pure (.yield (none, out.push z, ia + 1, ib, mg, ac, bc))
def loG2 (a b : Array Keyed) (out : Array Keyed) (ia ib mg ac bc : Nat) : StateT SortSt Sem (ForInStep LoG) := do
  let z ← elem' b ib
  if (ib + 1 == b.size) = true then pure (.done (some (fDone a b (out.push z) ia (ib + 1)), out.push z, ia, ib + 1, mg, ac, bc))
  else do
    let y ← elem' a ia
    let r ← gallop' true y b (ib + 1) (b.size - (ib + 1)) 0
    match r with
    | some k =>
      if k > 0 then
        if (ib + 1 + k == b.size) = true then pure (.done (some (fDone a b (out.push z ++ b.extract (ib + 1) (ib + 1 + k)) ia (ib + 1 + k)), out.push z ++ b.extract (ib + 1) (ib + 1 + k), ia, ib + 1 + k, mg, ac, k))
        else loG3 a b (out.push z ++ b.extract (ib + 1) (ib + 1 + k)) ia (ib + 1 + k) mg ac k
      else loG3 a b (out.push z) ia (ib + 1) mg ac k
    | _ => pure (.done (some (fDone a b (out.push z) ia (ib + 1)), out.push z, ia, ib + 1, mg, ac, bc))
def loG1 (a b : Array Keyed) (out : Array Keyed) (ia ib mg ac bc : Nat) : StateT SortSt Sem (ForInStep LoG) := do
  setG' mg
  let y ← elem' b ib
  let r ← gallop' false y a ia (a.size - ia) 0
  match r with
  | some k =>
    if k > 0 then
      if (ia + k + 1 == a.size) = true then pure (.done (some (fLast a b (out ++ a.extract ia (ia + k)) (ia + k) ib), out ++ a.extract ia (ia + k), ia + k, ib, mg, k, bc))
      else if (ia + k == a.size) = true then pure (.done (some (fDone a b (out ++ a.extract ia (ia + k)) (ia + k) ib), out ++ a.extract ia (ia + k), ia + k, ib, mg, k, bc))
      else loG2 a b (out ++ a.extract ia (ia + k)) (ia + k) ib mg k bc
    else loG2 a b out ia ib mg k bc
  | _ => pure (.done (some (fDone a b out ia ib), out, ia, ib, mg, ac, bc))
def loG (a b : Array Keyed) (out : Array Keyed) (ia ib mg ac bc : Nat) : StateT SortSt Sem (ForInStep LoG) :=
  if mg > 1 then loG1 a b out ia ib (mg - 1) ac bc else loG1 a b out ia ib mg ac bc
def loO (a b : Array Keyed) (out : Array Keyed) (ia ib mg : Nat) : StateT SortSt Sem (ForInStep LoO) := do
  let c ← forIn [:a.size + b.size] ((none, out, ia, ib, 0, 0) : LoR) fun _ c => loR a b mg c.2.1 c.2.2.1 c.2.2.2.1 c.2.2.2.2.1 c.2.2.2.2.2
  match c.1 with
  | some r => pure (.done (some r, c.2.1, c.2.2.1, c.2.2.2.1, mg))
  | none => do
    liftM (rule "list.sort.gallop")
    let d ← forIn [:a.size + b.size] ((none, c.2.1, c.2.2.1, c.2.2.2.1, mg + 1, c.2.2.2.2.1, c.2.2.2.2.2) : LoG) fun _ d => loG a b d.2.1 d.2.2.1 d.2.2.2.1 d.2.2.2.2.1 d.2.2.2.2.2.1 d.2.2.2.2.2.2
    match d.1 with
    | some r => pure (.done (some r, d.2.1, d.2.2.1, d.2.2.2.1, d.2.2.2.2.1))
    | none => do
      setG' (d.2.2.2.2.1 + 1)
      pure (.yield (none, d.2.1, d.2.2.1, d.2.2.2.1, d.2.2.2.2.1 + 1))
theorem bindC {α β : Type} {x y : StateT SortSt Sem α} {f g : α → StateT SortSt Sem β} (h1 : x = y) (h2 : ∀ c, f c = g c) : (x >>= f) = (y >>= g) := by rw [h1, funext h2]
theorem forC {β : Type} {r : Std.Legacy.Range} {i : β} {f g : Nat → β → StateT SortSt Sem (ForInStep β)} (h : ∀ x c, f x c = g x c) : forIn r i f = forIn r i g := by rw [funext fun x => funext fun c => h x c]
theorem mergeLo'_eq (a b : Array Keyed) : mergeLo' a b = (do
    liftM (rule "list.sort.merge-lo")
    let z ← elem' b 0
    if (1 == b.size) = true then pure (fDone a b #[z] 0 1)
    else if (0 + 1 == a.size) = true then pure (fLast a b #[z] 0 1)
    else do
      let g ← get
      let c ← forIn [:a.size + b.size] ((none, #[z], 0, 1, gallopOf g) : LoO) fun _ c => loO a b c.2.1 c.2.2.1 c.2.2.2.1 c.2.2.2.2
      match c.1 with
      | some r => pure r
      | none => liftM (unsupported "internal:list.sort.merge-bound" : Sem (Array Keyed))) := by
  refine bindC rfl fun u => bindC rfl fun z => ite_congr rfl (fun _ => rfl) fun _ => ite_congr rfl (fun _ => rfl) fun _ => bindC rfl fun g => bindC (forC fun x c => bindC rfl fun d => ?_) fun c => ?_
  · obtain ⟨d1, d2⟩ := d
    cases d1 with
    | some r => rfl
    | none =>
      refine bindC rfl fun v => bindC rfl fun d => ?_
      obtain ⟨d1, d2⟩ := d
      cases d1 with
      | some r => rfl
      | none => rfl
  · obtain ⟨c1, c2⟩ := c
    cases c1 with
    | some r => rfl
    | none => rfl
structure Two (a b : Array Keyed) : Prop where
  ia : KeysIn a
  ib : KeysIn b
  ra : Rise a.toList
  rb : Rise b.toList
  na : 1 ≤ a.size
  nb : 1 ≤ b.size
  h0 : K b 0 < K a 0
  hl : K b (b.size - 1) < K a (a.size - 1)
def Stay (st st' : SortSt) : Prop := kindOf st' = kindOf st ∧ arrOf st' = arrOf st ∧ pendingOf st' = pendingOf st ∧ failedOf st' = failedOf st
theorem Stay.rfl {st : SortSt} : Stay st st := ⟨_root_.rfl, _root_.rfl, _root_.rfl, _root_.rfl⟩
theorem Stay.kind {st st' : SortSt} (h : Stay st st') (k : kindOf st = Ranks.κ) : kindOf st' = Ranks.κ := h.1.trans k
def Merged (a b r : Array Keyed) : Prop := r.toList.Perm (a.toList ++ b.toList) ∧ Rise r.toList
abbrev MA (a b out : Array Keyed) (ia ib : Nat) : Prop := MI a.toList b.toList out.toList ia ib
theorem Two.last {a b : Array Keyed} (T : Two a b) {j : Nat} (hj : j < b.size) : K b j < K a (a.size - 1) := Int.lt_of_le_of_lt (riseK T.rb (show j ≤ b.size - 1 by omega) (by omega)) T.hl
theorem Two.first {a b : Array Keyed} (T : Two a b) {i : Nat} (hi : i < a.size) : K b 0 < K a i := Int.lt_of_lt_of_le T.h0 (riseK T.ra (Nat.zero_le i) hi)
theorem MA.addA {a b out : Array Keyed} {ia ib k : Nat} (h : MA a b out ia ib) (ra : Rise a.toList) (hk : ia + k ≤ a.size) (hx : ∀ i j, ia ≤ i → i < ia + k → ib ≤ j → j < b.size → K a i ≤ K b j) : MA a b (out ++ a.extract ia (ia + k)) (ia + k) ib := by
  have := MI.moreA (k := k) h ra (by simpa using hk) (fun x hx' y hy => by
    obtain ⟨n, hn, n1, n2, rfl⟩ := mem_seg hx'
    obtain ⟨m, hm, m1, rfl⟩ := mem_rest hy
    rw [kf_at, kf_at]
    exact hx n m n1 n2 m1 (by simpa using hm))
  show MI _ _ _ _ _
  rw [Array.toList_append, Array.toList_extract, List.extract_eq_take_drop, Nat.add_sub_cancel_left]
  exact this
theorem MA.swap {a b out : Array Keyed} {ia ib : Nat} (h : MA a b out ia ib) : MA b a out ib ia := MI.swap h
theorem MA.addB {a b out : Array Keyed} {ia ib k : Nat} (h : MA a b out ia ib) (rb : Rise b.toList) (hk : ib + k ≤ b.size) (hx : ∀ i j, ib ≤ i → i < ib + k → ia ≤ j → j < a.size → K b i ≤ K a j) : MA a b (out ++ b.extract ib (ib + k)) ia (ib + k) := (h.swap.addA rb hk hx).swap
theorem push_ext {a out : Array Keyed} {i : Nat} {z : Keyed} (h : a[i]? = some z) : out.push z = out ++ a.extract i (i + 1) := by
  obtain ⟨hi, rfl⟩ := Array.getElem?_eq_some_iff.mp h
  apply Array.ext'
  simp [List.extract_eq_take_drop, List.take_one, List.head?_drop, hi]
theorem MA.pushA {a b out : Array Keyed} {ia ib : Nat} {z : Keyed} (h : MA a b out ia ib) (ra : Rise a.toList) (hz : a[ia]? = some z) (hx : ∀ j, ib ≤ j → j < b.size → K a ia ≤ K b j) : MA a b (out.push z) (ia + 1) ib := by
  rw [push_ext hz]
  obtain ⟨hi, _⟩ := Array.getElem?_eq_some_iff.mp hz
  exact h.addA ra (by omega) fun i j h1 h2 h3 h4 => by
    have : i = ia := by omega
    rw [this]; exact hx j h3 h4
theorem MA.pushB {a b out : Array Keyed} {ia ib : Nat} {z : Keyed} (h : MA a b out ia ib) (rb : Rise b.toList) (hz : b[ib]? = some z) (hx : ∀ j, ia ≤ j → j < a.size → K b ib ≤ K a j) : MA a b (out.push z) ia (ib + 1) := (h.swap.pushA rb hz hx).swap
theorem ext_rest (a : Array Keyed) (i : Nat) : (a.extract i a.size).toList = a.toList.drop i := by
  rw [Array.toList_extract, List.extract_eq_take_drop]
  exact List.take_of_length_le (by simp)
theorem MA.doneB {a b out : Array Keyed} {ia ib : Nat} (T : Two a b) (h : MA a b out ia ib) (e : ib = b.size) (hi : ia ≤ a.size) : Merged a b (fDone a b out ia ib) := by
  subst e
  unfold Merged fDone
  have e2 : (b.extract b.size b.size).toList = [] := by rw [ext_rest]; simp
  rw [Array.toList_append, Array.toList_append, ext_rest, e2, List.append_nil]
  exact MI.restA (by simpa using h) T.ra (by simpa using hi)
theorem MA.doneA {a b out : Array Keyed} {ia ib : Nat} (T : Two a b) (h : MA a b out ia ib) (e : ia = a.size) (hi : ib ≤ b.size) : Merged a b (fDone a b out ia ib) := by
  subst e
  unfold Merged fDone
  have e2 : (a.extract a.size a.size).toList = [] := by rw [ext_rest]; simp
  rw [Array.toList_append, Array.toList_append, ext_rest b, e2, List.append_nil]
  exact MI.restB (by simpa using h) T.rb (by simpa using hi)
theorem MA.last {a b out : Array Keyed} {ia ib : Nat} (T : Two a b) (h : MA a b out ia ib) (e : ia + 1 = a.size) (hi : ib ≤ b.size) : Merged a b (fLast a b out ia ib) := by
  unfold Merged fLast
  rw [Array.toList_append, Array.toList_append, ext_rest, ext_rest]
  refine MI.lastA h T.ra T.rb (by simp; omega) (by simpa using hi) fun x hx y hy => ?_
  obtain ⟨n, hn, n1, rfl⟩ := mem_rest hx
  obtain ⟨m, hm, m1, rfl⟩ := mem_rest hy
  rw [kf_at, kf_at]
  have hm' : m < a.size := by simpa using hm
  have : m = a.size - 1 := by omega
  rw [this]
  exact Int.le_of_lt (T.last (by simpa using hn))
section
variable {prog : Program} {w : World} {A : Around} {E : Value → Shared → Prop} {s : Shared} [CmpOk prog w A s]
theorem at_some {arr : Array Keyed} (hI : KeysIn arr) {i : Nat} (h : i < arr.size) : ∃ p, arr[i]? = some p ∧ ∃ t : Tok, IsK p.1 (K arr i) := by
  obtain ⟨p, t, e, k⟩ := at_int hI h
  exact ⟨p, e, t, k⟩
theorem wpS_setG {st₀ st : SortSt} {g : Nat} {Q : Unit → SortSt → Prop} (hS : Stay st₀ st) (h : ∀ st', Stay st₀ st' → Q () st') : wpS (model prog w) A E s (setG' g) Q st := by
  rw [setG'_eq]
  exact wpS_modify (h _ ⟨hS.1, hS.2.1, hS.2.2.1, hS.2.2.2⟩)
theorem turns_false {kk : Int} {arr : Array Keyed} {b n k : Nat} (h : Turns (Fwd false kk arr b) n k) : k ≤ n ∧ (∀ i, i < k → K arr (b + i) ≤ kk) ∧ ∀ i, k ≤ i → i < n → kk < K arr (b + i) := by
  refine ⟨h.1, fun i hi => ?_, fun i hi hn => ?_⟩
  · have := h.2.1 i hi
    simp [Fwd] at this
    exact this
  · have := h.2.2 i hi hn
    simp [Fwd] at this
    exact this
theorem turns_true {kk : Int} {arr : Array Keyed} {b n k : Nat} (h : Turns (Fwd true kk arr b) n k) : k ≤ n ∧ (∀ i, i < k → K arr (b + i) < kk) ∧ ∀ i, k ≤ i → i < n → kk ≤ K arr (b + i) := by
  refine ⟨h.1, fun i hi => ?_, fun i hi hn => ?_⟩
  · have := h.2.1 i hi
    simp [Fwd] at this
    exact this
  · have := h.2.2 i hi hn
    simp [Fwd] at this
    exact this
def OkR (a b : Array Keyed) (n : Nat) (st₀ : SortSt) (c : LoR) (st : SortSt) : Prop := Stay st₀ st ∧ ((∃ r, c.1 = some r ∧ Merged a b r) ∨ (c.1 = none ∧ MA a b c.2.1 c.2.2.1 c.2.2.2.1 ∧ c.2.2.1 + 1 < a.size ∧ c.2.2.2.1 < b.size ∧ n ≤ c.2.2.1 + c.2.2.2.1))
def OkG (a b : Array Keyed) (n : Nat) (st₀ : SortSt) (c : LoG) (st : SortSt) : Prop := Stay st₀ st ∧ ((∃ r, c.1 = some r ∧ Merged a b r) ∨ (c.1 = none ∧ MA a b c.2.1 c.2.2.1 c.2.2.2.1 ∧ c.2.2.1 + 1 < a.size ∧ c.2.2.2.1 < b.size ∧ n ≤ c.2.2.1 + c.2.2.2.1))
theorem loR_ok {st₀ st : SortSt} {a b out : Array Keyed} {mg ia ib ac bc n : Nat} (T : Two a b) (hk : kindOf st₀ = Ranks.κ) (hS : Stay st₀ st) (hM : MA a b out ia ib) (hA : ia + 1 < a.size) (hB : ib < b.size) (hn : n ≤ ia + ib) :
    wpS (model prog w) A E s (loR a b mg out ia ib ac bc) (fun r st' => match r with | .done c => OkR a b (n + 1) st₀ c st' | .yield c => c.1 = none ∧ OkR a b (n + 1) st₀ c st') st := by
  obtain ⟨p, ep, t, hp⟩ := at_some T.ib hB
  obtain ⟨q, eq, u, hq⟩ := at_some T.ia (show ia < a.size by omega)
  unfold loR
  refine wpS_bind (wpS_elem ep (wpS_bind (wpS_elem eq (wpS_bind (wpS_lt2 (hS.kind hk) hp hq ?_)))))
  dsimp only
  by_cases hlt : K b ib < K a ia
  · rw [if_pos (by simpa using hlt)]
    refine wpS_bind (wpS_elem ep ?_)
    have M : MA a b (out.push p) ia (ib + 1) := hM.pushB T.rb ep fun j h1 h2 => Int.le_of_lt (Int.lt_of_lt_of_le hlt (riseK T.ra h1 h2))
    by_cases e : ib + 1 = b.size
    · rw [if_pos (by simpa using e)]
      exact wpS_pure ⟨hS, .inl ⟨_, rfl, M.doneB T e (by omega)⟩⟩
    · rw [if_neg (by simpa using e)]
      have R : OkR a b (n + 1) st₀ (none, out.push p, ia, ib + 1, 0, bc + 1) st := ⟨hS, .inr ⟨rfl, M, hA, by dsimp only; omega, by dsimp only; omega⟩⟩
      by_cases g : bc + 1 ≥ mg
      · rw [if_pos g]; exact wpS_pure R
      · rw [if_neg g]; exact wpS_pure ⟨rfl, R⟩
  · rw [if_neg (by simpa using hlt)]
    refine wpS_bind (wpS_elem eq ?_)
    have M : MA a b (out.push q) (ia + 1) ib := hM.pushA T.ra eq fun j h1 h2 => Int.le_trans (Int.not_lt.mp hlt) (riseK T.rb h1 h2)
    by_cases e : ia + 1 + 1 = a.size
    · rw [if_pos (by simpa using e)]
      exact wpS_pure ⟨hS, .inl ⟨_, rfl, M.last T e (by omega)⟩⟩
    · rw [if_neg (by simpa using e)]
      have R : OkR a b (n + 1) st₀ (none, out.push q, ia + 1, ib, ac + 1, 0) st := ⟨hS, .inr ⟨rfl, M, by dsimp only; omega, hB, by dsimp only; omega⟩⟩
      by_cases g : ac + 1 ≥ mg
      · rw [if_pos g]; exact wpS_pure R
      · rw [if_neg g]; exact wpS_pure ⟨rfl, R⟩
abbrev PG (a b : Array Keyed) (n : Nat) (st₀ : SortSt) (r : ForInStep LoG) (st' : SortSt) : Prop := match r with | .done c => OkG a b n st₀ c st' | .yield c => c.1 = none ∧ OkG a b n st₀ c st'
theorem loG3_ok {st₀ st : SortSt} {a b out : Array Keyed} {mg ia ib ac bc n : Nat} (T : Two a b) (hS : Stay st₀ st) (hM : MA a b out ia ib) (hA : ia + 1 < a.size) (hB : ib < b.size) (hn : n ≤ ia + ib) (hx : ∀ j, ib ≤ j → j < b.size → K a ia ≤ K b j) :
    wpS (model prog w) A E s (loG3 a b out ia ib mg ac bc) (PG a b n st₀) st := by
  obtain ⟨q, eq, u, hq⟩ := at_some T.ia (show ia < a.size by omega)
  unfold loG3
  refine wpS_bind (wpS_elem eq ?_)
  have M : MA a b (out.push q) (ia + 1) ib := hM.pushA T.ra eq hx
  by_cases e : ia + 1 + 1 = a.size
  · rw [if_pos (by simpa using e)]
    exact wpS_pure ⟨hS, .inl ⟨_, rfl, M.last T e (by omega)⟩⟩
  · rw [if_neg (by simpa using e)]
    have R : OkG a b n st₀ (none, out.push q, ia + 1, ib, mg, ac, bc) st := ⟨hS, .inr ⟨rfl, M, by dsimp only; omega, hB, by dsimp only; omega⟩⟩
    by_cases g : (decide (ac < 7) && decide (bc < 7)) = true
    · rw [if_pos g]; exact wpS_pure R
    · rw [if_neg g]; exact wpS_pure ⟨rfl, R⟩
theorem loG2_ok {st₀ st : SortSt} {a b out : Array Keyed} {mg ia ib ac bc n : Nat} (T : Two a b) (hk : kindOf st₀ = Ranks.κ) (hS : Stay st₀ st) (hM : MA a b out ia ib) (hA : ia + 1 < a.size) (hB : ib < b.size) (hn : n ≤ ia + ib) (hx : ∀ j, ia ≤ j → j < a.size → K b ib ≤ K a j) :
    wpS (model prog w) A E s (loG2 a b out ia ib mg ac bc) (PG a b n st₀) st := by
  obtain ⟨p, ep, t, hp⟩ := at_some T.ib hB
  obtain ⟨q, eq, u, hq⟩ := at_some T.ia (show ia < a.size by omega)
  unfold loG2
  refine wpS_bind (wpS_elem ep ?_)
  have M : MA a b (out.push p) ia (ib + 1) := hM.pushB T.rb ep hx
  by_cases e : ib + 1 = b.size
  · rw [if_pos (by simpa using e)]
    exact wpS_pure ⟨hS, .inl ⟨_, rfl, M.doneB T e (by omega)⟩⟩
  · rw [if_neg (by simpa using e)]
    refine wpS_bind (wpS_elem eq (wpS_bind (wpS_gallop (hS.kind hk) hq T.ib (by omega) (by omega) (fun i j h1 h2 => riseK T.rb (by omega) (by omega)) fun k hT => ?_)))
    obtain ⟨k1, k2, k3⟩ := turns_true hT
    dsimp only
    by_cases hk0 : k > 0
    · rw [if_pos hk0]
      have M2 := M.addB (k := k) T.rb (by omega) fun i j h1 h2 h3 h4 => Int.le_of_lt (Int.lt_of_lt_of_le (by
        have := k2 (i - (ib + 1)) (by omega)
        rwa [show ib + 1 + (i - (ib + 1)) = i by omega] at this) (riseK T.ra h3 h4))
      by_cases e2 : ib + 1 + k = b.size
      · rw [if_pos (by simpa using e2)]
        exact wpS_pure ⟨hS, .inl ⟨_, rfl, M2.doneB T e2 (by omega)⟩⟩
      · rw [if_neg (by simpa using e2)]
        exact loG3_ok T hS M2 hA (by omega) (by omega) fun j h1 h2 => by
          have := k3 (j - (ib + 1)) (by omega) (by omega)
          rwa [show ib + 1 + (j - (ib + 1)) = j by omega] at this
    · rw [if_neg hk0]
      exact loG3_ok T hS M hA (by omega) (by omega) fun j h1 h2 => by
        have := k3 (j - (ib + 1)) (by omega) (by omega)
        rwa [show ib + 1 + (j - (ib + 1)) = j by omega] at this
theorem loG1_ok {st₀ st : SortSt} {a b out : Array Keyed} {mg ia ib ac bc n : Nat} (T : Two a b) (hk : kindOf st₀ = Ranks.κ) (hS : Stay st₀ st) (hM : MA a b out ia ib) (hA : ia + 1 < a.size) (hB : ib < b.size) (hn : n ≤ ia + ib) :
    wpS (model prog w) A E s (loG1 a b out ia ib mg ac bc) (PG a b n st₀) st := by
  obtain ⟨p, ep, t, hp⟩ := at_some T.ib hB
  unfold loG1
  refine wpS_bind (wpS_setG hS fun st' hS' => wpS_bind (wpS_elem ep (wpS_bind (wpS_gallop (hS'.kind hk) hp T.ia (by omega) (by omega) (fun i j h1 h2 => riseK T.ra (by omega) (by omega)) fun k hT => ?_))))
  obtain ⟨k1, k2, k3⟩ := turns_false hT
  dsimp only
  by_cases hk0 : k > 0
  · rw [if_pos hk0]
    have M2 := hM.addA (k := k) T.ra (by omega) fun i j h1 h2 h3 h4 => Int.le_trans (by
      have := k2 (i - ia) (by omega)
      rwa [show ia + (i - ia) = i by omega] at this) (riseK T.rb h3 h4)
    by_cases e : ia + k + 1 = a.size
    · rw [if_pos (by simpa using e)]
      exact wpS_pure ⟨hS', .inl ⟨_, rfl, M2.last T e (by omega)⟩⟩
    · rw [if_neg (by simpa using e)]
      by_cases e2 : ia + k = a.size
      · rw [if_pos (by simpa using e2)]
        exact wpS_pure ⟨hS', .inl ⟨_, rfl, M2.doneA T e2 (by omega)⟩⟩
      · rw [if_neg (by simpa using e2)]
        exact loG2_ok T hk hS' M2 (by omega) hB (by omega) fun j h1 h2 => by
          have := k3 (j - ia) (by omega) (by omega)
          rw [show ia + (j - ia) = j by omega] at this
          exact Int.le_of_lt this
  · rw [if_neg hk0]
    exact loG2_ok T hk hS' hM hA hB hn fun j h1 h2 => by
      have := k3 (j - ia) (by omega) (by omega)
      rw [show ia + (j - ia) = j by omega] at this
      exact Int.le_of_lt this
theorem loG_ok {st₀ st : SortSt} {a b out : Array Keyed} {mg ia ib ac bc n : Nat} (T : Two a b) (hk : kindOf st₀ = Ranks.κ) (hS : Stay st₀ st) (hM : MA a b out ia ib) (hA : ia + 1 < a.size) (hB : ib < b.size) (hn : n ≤ ia + ib) :
    wpS (model prog w) A E s (loG a b out ia ib mg ac bc) (PG a b n st₀) st := by
  unfold loG
  by_cases h : mg > 1
  · rw [if_pos h]; exact loG1_ok T hk hS hM hA hB hn
  · rw [if_neg h]; exact loG1_ok T hk hS hM hA hB hn
def OkO (a b : Array Keyed) (n : Nat) (st₀ : SortSt) (c : LoO) (st : SortSt) : Prop := Stay st₀ st ∧ ((∃ r, c.1 = some r ∧ Merged a b r) ∨ (c.1 = none ∧ MA a b c.2.1 c.2.2.1 c.2.2.2.1 ∧ c.2.2.1 + 1 < a.size ∧ c.2.2.2.1 < b.size ∧ n ≤ c.2.2.1 + c.2.2.2.1))
theorem loO_ok {st₀ st : SortSt} {a b out : Array Keyed} {mg ia ib n : Nat} (T : Two a b) (hk : kindOf st₀ = Ranks.κ) (hS : Stay st₀ st) (hM : MA a b out ia ib) (hA : ia + 1 < a.size) (hB : ib < b.size) (hn : n ≤ ia + ib) :
    wpS (model prog w) A E s (loO a b out ia ib mg) (fun r st' => match r with | .done c => OkO a b (n + 1) st₀ c st' ∧ c.1 ≠ none | .yield c => c.1 = none ∧ OkO a b (n + 1) st₀ c st') st := by
  unfold loO
  refine wpS_bind (wpS_mono (wpS_forRange (I := fun x c st' => c.1 = none ∧ OkR a b (n + x) st₀ c st') (Q := fun c st' => OkR a b (n + 1) st₀ c st') ?_ ?_ ⟨rfl, hS, .inr ⟨rfl, hM, hA, hB, by dsimp only; omega⟩⟩) ?_)
  · rintro x ⟨c0, o, i, j, ac, bc⟩ st' _ hx ⟨e, hS', z⟩
    rcases z with ⟨r, e', _⟩ | ⟨_, m, h1, h2, h3⟩
    · rw [e'] at e; cases e
    · refine wpS_mono (loR_ok T hk hS' m h1 h2 h3) fun r st2 hr => ?_
      have le : ∀ c, OkR a b (n + x + 1) st₀ c st2 → OkR a b (n + 1) st₀ c st2 := fun c hc => ⟨hc.1, hc.2.imp id fun ⟨q1, q2, q3, q4, q5⟩ => ⟨q1, q2, q3, q4, by omega⟩⟩
      cases r with
      | done c => exact le c hr
      | yield c => exact hr
  · rintro c st' ⟨e, hc⟩
    exact ⟨hc.1, hc.2.imp id fun ⟨q1, q2, q3, q4, q5⟩ => ⟨q1, q2, q3, q4, by omega⟩⟩
  · rintro ⟨c0, o, i, j, ac, bc⟩ st' ⟨hS', z⟩
    rcases z with ⟨r, e, hr⟩ | ⟨e, m, h1, h2, h3⟩
    · dsimp only at e
      subst e
      exact wpS_pure ⟨⟨hS', .inl ⟨r, rfl, hr⟩⟩, by simp⟩
    · dsimp only at e
      subst e
      dsimp only
      refine wpS_bind (wpS_lift (wpAny_rule ⟨rfl, ?_⟩))
      refine wpS_bind (wpS_mono (wpS_forRange (I := fun x c st' => c.1 = none ∧ OkG a b (n + 1) st₀ c st') (Q := fun c st' => OkG a b (n + 1) st₀ c st') ?_ ?_ ⟨rfl, hS', .inr ⟨rfl, m, h1, h2, h3⟩⟩) ?_)
      · rintro x ⟨c0, o, i, j, mg, ac, bc⟩ st' _ hx ⟨e, hS', z⟩
        rcases z with ⟨r, e', _⟩ | ⟨_, m, h1, h2, h3⟩
        · rw [e'] at e; cases e
        · refine wpS_mono (loG_ok T hk hS' m h1 h2 h3) fun r st2 hr => ?_
          cases r with
          | done c => exact hr
          | yield c => exact hr
      · exact fun c st' hc => hc.2
      · rintro ⟨c0, o, i, j, mg, ac, bc⟩ st' ⟨hS', z⟩
        rcases z with ⟨r, e, hr⟩ | ⟨e, m, h1, h2, h3⟩
        · dsimp only at e
          subst e
          exact wpS_pure ⟨⟨hS', .inl ⟨r, rfl, hr⟩⟩, by simp⟩
        · dsimp only at e
          subst e
          dsimp only
          exact wpS_bind (wpS_setG hS' fun st2 hS2 => wpS_pure ⟨rfl, hS2, .inr ⟨rfl, m, h1, h2, h3⟩⟩)
theorem wpS_mergeLo {st : SortSt} {a b : Array Keyed} {Q : Array Keyed → SortSt → Prop} (T : Two a b) (hk : kindOf st = Ranks.κ) (h : ∀ r st', Stay st st' → Merged a b r → Q r st') : wpS (model prog w) A E s (mergeLo' a b) Q st := by
  rw [mergeLo'_eq]
  obtain ⟨p, ep, t, hp⟩ := at_some T.ib (show 0 < b.size by have := T.nb; omega)
  have hna := T.na
  have hnb := T.nb
  refine wpS_bind (wpS_lift (wpAny_rule ⟨rfl, wpS_bind (wpS_elem ep ?_)⟩))
  have M : MA a b #[p] 0 1 := (show MA a b #[] 0 0 from MI.nil).pushB T.rb ep fun j _ hj => Int.le_of_lt (T.first hj)
  by_cases e1 : 1 = b.size
  · rw [if_pos (by simpa using e1)]
    exact wpS_pure (h _ _ Stay.rfl (M.doneB T e1 (by omega)))
  · rw [if_neg (by simpa using e1)]
    by_cases e2 : 0 + 1 = a.size
    · rw [if_pos (by simpa using e2)]
      exact wpS_pure (h _ _ Stay.rfl (M.last T e2 (by omega)))
    · rw [if_neg (by simpa using e2)]
      refine wpS_bind (wpS_get ?_)
      refine wpS_bind (wpS_mono (wpS_forRange (I := fun x c st' => c.1 = none ∧ OkO a b (x + 1) st c st') (Q := fun c st' => OkO a b 0 st c st' ∧ c.1 ≠ none) ?_ ?_ ⟨rfl, Stay.rfl, .inr ⟨rfl, M, by dsimp only; omega, by dsimp only; omega, by dsimp only; omega⟩⟩) ?_)
      · rintro x ⟨c0, o, i, j, mg⟩ st' _ hx ⟨e, hS', z⟩
        rcases z with ⟨r, e', _⟩ | ⟨_, m, h1, h2, h3⟩
        · rw [e'] at e; cases e
        · refine wpS_mono (loO_ok T hk hS' m h1 h2 h3) fun r st2 hr => ?_
          cases r with
          | done c => exact ⟨⟨hr.1.1, hr.1.2.imp id fun ⟨q1, q2, q3, q4, q5⟩ => ⟨q1, q2, q3, q4, by omega⟩⟩, hr.2⟩
          | yield c => exact hr
      · rintro ⟨c0, o, i, j, mg⟩ st' ⟨e, hS', z⟩
        rcases z with ⟨r, e', _⟩ | ⟨_, m, h1, h2, h3⟩
        · rw [e'] at e; cases e
        · dsimp only at h1 h2 h3
          exfalso; omega
      · rintro ⟨c0, o, i, j, mg⟩ st' ⟨⟨hS', z⟩, hne⟩
        rcases z with ⟨r, e, hr⟩ | ⟨e, _⟩
        · dsimp only at e
          subst e
          exact wpS_pure (h _ _ hS' hr)
        · exact absurd e hne
end
end MwSortR
set_option maxHeartbeats 2000000
namespace MwSortR
open PySem PyProof.Rows
variable [Ranks]
def mergeHi' : Array Keyed → Array Keyed → StateT SortSt Sem (Array Keyed) := sortPriv% PySem.Builtin.mergeHi
abbrev HiR := Option (Array Keyed) × Nat × Nat × Array Keyed × Nat × Nat
abbrev HiG := Option (Array Keyed) × Nat × Nat × Array Keyed × Nat × Nat × Nat
abbrev HiO := Option (Array Keyed) × Nat × Nat × Array Keyed × Nat
def gDone (a b out : Array Keyed) (na nb : Nat) : Array Keyed := a.extract 0 na ++ b.extract 0 nb ++ out.reverse
def gFirst (a b out : Array Keyed) (na nb : Nat) : Array Keyed := b.extract 0 nb ++ a.extract 0 na ++ out.reverse
def hiR (a b : Array Keyed) (mg : Nat) (out : Array Keyed) (na nb ac bc : Nat) : StateT SortSt Sem (ForInStep HiR) := do
  let p ← elem' b (nb - 1)
  let q ← elem' a (na - 1)
  let r ← lt' p q
  match r with
  | some t =>
    if t = true then do
      let z ← elem' a (na - 1)
      if (na - 1 == 0) = true then pure (.done (some (gDone a b (out.push z) (na - 1) nb), na - 1, nb, out.push z, ac + 1, 0))
      else if ac + 1 ≥ mg then pure (.done (none, na - 1, nb, out.push z, ac + 1, 0))
      else pure (.yield (none, na - 1, nb, out.push z, ac + 1, 0))
    else do
      let z ← elem' b (nb - 1)
      if (nb - 1 == 1) = true then pure (.done (some (gFirst a b (out.push z) na (nb - 1)), na, nb - 1, out.push z, 0, bc + 1))
      else if bc + 1 ≥ mg then pure (.done (none, na, nb - 1, out.push z, 0, bc + 1))
      else pure (.yield (none, na, nb - 1, out.push z, 0, bc + 1))
  | _ => pure (.done (some (gDone a b out na nb), na, nb, out, ac, bc))
def hiG3 (a b : Array Keyed) (out : Array Keyed) (na nb mg ac bc : Nat) : StateT SortSt Sem (ForInStep HiG) := do
  let z ← elem' a (na - 1)
  if (na - 1 == 0) = true then pure (.done (some (gDone a b (out.push z) (na - 1) nb), na - 1, nb, out.push z, mg, ac, bc))
  else if (decide (ac < 7) && decide (bc < 7)) = true then pure (.done (none, na - 1, nb, out.push z, mg, ac, bc))
  else pure (.yield (none, na - 1, nb, out.push z, mg, ac, bc))
def hiG2 (a b : Array Keyed) (out : Array Keyed) (na nb mg ac bc : Nat) : StateT SortSt Sem (ForInStep HiG) := do
  let z ← elem' b (nb - 1)
  if (nb - 1 == 1) = true then pure (.done (some (gFirst a b (out.push z) na (nb - 1)), na, nb - 1, out.push z, mg, ac, bc))
  else do
    let y ← elem' a (na - 1)
    let r ← gallop' true y b 0 (nb - 1) (nb - 1 - 1)
    match r with
    | some p =>
      if nb - 1 - p > 0 then
        if (p == 1) = true then pure (.done (some (gFirst a b (out.push z ++ (b.extract p (nb - 1)).reverse) na p), na, p, out.push z ++ (b.extract p (nb - 1)).reverse, mg, ac, nb - 1 - p))
        else if (p == 0) = true then pure (.done (some (gDone a b (out.push z ++ (b.extract p (nb - 1)).reverse) na p), na, p, out.push z ++ (b.extract p (nb - 1)).reverse, mg, ac, nb - 1 - p))
        else hiG3 a b (out.push z ++ (b.extract p (nb - 1)).reverse) na p mg ac (nb - 1 - p)
      else hiG3 a b (out.push z) na (nb - 1) mg ac (nb - 1 - p)
    | _ => pure (.done (some (gDone a b (out.push z) na (nb - 1)), na, nb - 1, out.push z, mg, ac, bc))
def hiG1 (a b : Array Keyed) (out : Array Keyed) (na nb mg ac bc : Nat) : StateT SortSt Sem (ForInStep HiG) := do
  setG' mg
  let y ← elem' b (nb - 1)
  let r ← gallop' false y a 0 na (na - 1)
  match r with
  | some p =>
    if na - p > 0 then
      if (p == 0) = true then pure (.done (some (gDone a b (out ++ (a.extract p na).reverse) p nb), p, nb, out ++ (a.extract p na).reverse, mg, na - p, bc))
      else hiG2 a b (out ++ (a.extract p na).reverse) p nb mg (na - p) bc
    else hiG2 a b out na nb mg (na - p) bc
  | _ => pure (.done (some (gDone a b out na nb), na, nb, out, mg, ac, bc))
def hiG (a b : Array Keyed) (out : Array Keyed) (na nb mg ac bc : Nat) : StateT SortSt Sem (ForInStep HiG) :=
  if mg > 1 then hiG1 a b out na nb (mg - 1) ac bc else hiG1 a b out na nb mg ac bc
def hiO (a b : Array Keyed) (na nb : Nat) (out : Array Keyed) (mg : Nat) : StateT SortSt Sem (ForInStep HiO) := do
  let c ← forIn [:a.size + b.size] ((none, na, nb, out, 0, 0) : HiR) fun _ c => hiR a b mg c.2.2.2.1 c.2.1 c.2.2.1 c.2.2.2.2.1 c.2.2.2.2.2
  match c.1 with
  | some r => pure (.done (some r, c.2.1, c.2.2.1, c.2.2.2.1, mg))
  | none => do
    liftM (rule "list.sort.gallop")
    let d ← forIn [:a.size + b.size] ((none, c.2.1, c.2.2.1, c.2.2.2.1, mg + 1, c.2.2.2.2.1, c.2.2.2.2.2) : HiG) fun _ d => hiG a b d.2.2.2.1 d.2.1 d.2.2.1 d.2.2.2.2.1 d.2.2.2.2.2.1 d.2.2.2.2.2.2
    match d.1 with
    | some r => pure (.done (some r, d.2.1, d.2.2.1, d.2.2.2.1, d.2.2.2.2.1))
    | none => do
      setG' (d.2.2.2.2.1 + 1)
      pure (.yield (none, d.2.1, d.2.2.1, d.2.2.2.1, d.2.2.2.2.1 + 1))
theorem mergeHi'_eq (a b : Array Keyed) : mergeHi' a b = (do
    liftM (rule "list.sort.merge-hi")
    let z ← elem' a (a.size - 1)
    if (a.size - 1 == 0) = true then pure (gDone a b #[z] (a.size - 1) b.size)
    else if (b.size == 1) = true then pure (gFirst a b #[z] (a.size - 1) b.size)
    else do
      let g ← get
      let c ← forIn [:a.size + b.size] ((none, a.size - 1, b.size, #[z], gallopOf g) : HiO) fun _ c => hiO a b c.2.1 c.2.2.1 c.2.2.2.1 c.2.2.2.2
      match c.1 with
      | some r => pure r
      | none => liftM (unsupported "internal:list.sort.merge-bound" : Sem (Array Keyed))) := by
  refine bindC rfl fun u => bindC rfl fun z => ite_congr rfl (fun _ => rfl) fun _ => ite_congr rfl (fun _ => rfl) fun _ => bindC rfl fun g => bindC (forC fun x c => bindC rfl fun d => ?_) fun c => ?_
  · obtain ⟨d1, d2⟩ := d
    cases d1 with
    | some r => rfl
    | none =>
      refine bindC rfl fun v => bindC rfl fun d => ?_
      obtain ⟨d1, d2⟩ := d
      cases d1 with
      | some r => rfl
      | none => rfl
  · obtain ⟨c1, c2⟩ := c
    cases c1 with
    | some r => rfl
    | none => rfl
abbrev MB (a b out : Array Keyed) (na nb : Nat) : Prop := MH a.toList b.toList out.toList na nb
theorem MB.swap {a b out : Array Keyed} {na nb : Nat} (h : MB a b out na nb) : MB b a out nb na := MH.swap h
theorem MB.addA {a b out : Array Keyed} {na nb p : Nat} (h : MB a b out na nb) (ra : Rise a.toList) (hp : p ≤ na) (hx : ∀ i j, p ≤ i → i < na → j < nb → i < a.size → j < b.size → K b j ≤ K a i) : MB a b (out ++ (a.extract p na).reverse) p nb := by
  have := MH.moreA (p := p) h ra hp (fun x hx' y hy => by
    obtain ⟨n, hn, n1, n2, rfl⟩ := mem_seg hy
    obtain ⟨m, hm, m1, rfl⟩ := mem_first hx'
    rw [kf_at, kf_at]
    exact hx n m n1 (by omega) m1 (by simpa using hn) (by simpa using hm))
  show MH _ _ _ _ _
  rw [Array.toList_append, Array.toList_reverse, Array.toList_extract, List.extract_eq_take_drop]
  exact this
theorem MB.addB {a b out : Array Keyed} {na nb p : Nat} (h : MB a b out na nb) (rb : Rise b.toList) (hp : p ≤ nb) (hx : ∀ i j, p ≤ i → i < nb → j < na → i < b.size → j < a.size → K a j ≤ K b i) : MB a b (out ++ (b.extract p nb).reverse) na p := (h.swap.addA rb hp hx).swap
theorem push_rev {a out : Array Keyed} {n : Nat} {z : Keyed} (h1 : 1 ≤ n) (h : a[n - 1]? = some z) : out.push z = out ++ (a.extract (n - 1) n).reverse := by
  have e := push_ext (out := #[]) h
  rw [show n - 1 + 1 = n by omega] at e
  have e2 : a.extract (n - 1) n = #[z] := by
    rw [Array.empty_append] at e
    exact e.symm
  rw [e2]
  rfl
theorem MB.pushA {a b out : Array Keyed} {na nb : Nat} {z : Keyed} (h : MB a b out na nb) (ra : Rise a.toList) (h1 : 1 ≤ na) (hz : a[na - 1]? = some z) (hx : ∀ j, j < nb → j < b.size → K b j ≤ K a (na - 1)) : MB a b (out.push z) (na - 1) nb := by
  rw [push_rev h1 hz]
  exact h.addA ra (by omega) fun i j g1 g2 g3 g4 g5 => by
    have : i = na - 1 := by omega
    rw [this]; exact hx j g3 g5
theorem MB.pushB {a b out : Array Keyed} {na nb : Nat} {z : Keyed} (h : MB a b out na nb) (rb : Rise b.toList) (h1 : 1 ≤ nb) (hz : b[nb - 1]? = some z) (hx : ∀ j, j < na → j < a.size → K a j ≤ K b (nb - 1)) : MB a b (out.push z) na (nb - 1) := (h.swap.pushA rb h1 hz hx).swap
theorem ext_first (a : Array Keyed) (i : Nat) : (a.extract 0 i).toList = a.toList.take i := by
  rw [Array.toList_extract, List.extract_eq_take_drop]
  simp
theorem MB.doneA {a b out : Array Keyed} {na nb : Nat} (T : Two a b) (h : MB a b out na nb) (e : na = 0) (hi : nb ≤ b.size) : Merged a b (gDone a b out na nb) := by
  subst e
  unfold Merged gDone
  rw [Array.toList_append, Array.toList_append, ext_first, ext_first, Array.toList_reverse, List.take_zero, List.nil_append]
  exact MH.restB h T.rb (by simpa using hi)
theorem MB.doneB {a b out : Array Keyed} {na nb : Nat} (T : Two a b) (h : MB a b out na nb) (e : nb = 0) (hi : na ≤ a.size) : Merged a b (gDone a b out na nb) := by
  subst e
  unfold Merged gDone
  rw [Array.toList_append, Array.toList_append, ext_first, ext_first, Array.toList_reverse, List.take_zero, List.append_nil]
  exact MH.restA h T.ra (by simpa using hi)
theorem MB.first {a b out : Array Keyed} {na nb : Nat} (T : Two a b) (h : MB a b out na nb) (e : nb = 1) (hi : na ≤ a.size) : Merged a b (gFirst a b out na nb) := by
  unfold Merged gFirst
  rw [Array.toList_append, Array.toList_append, ext_first, ext_first, Array.toList_reverse]
  have hnb := T.nb
  refine MH.firstB h T.ra T.rb (by simpa using hi) (by simp; omega) fun x hx y hy => ?_
  obtain ⟨n, hn, n1, rfl⟩ := mem_first hx
  obtain ⟨m, hm, m1, rfl⟩ := mem_first hy
  rw [kf_at, kf_at]
  have : n = 0 := by omega
  rw [this]
  exact Int.le_of_lt (T.first (by simpa using hm))
section
variable {prog : Program} {w : World} {A : Around} {E : Value → Shared → Prop} {s : Shared} [CmpOk prog w A s]
def Left (a b : Array Keyed) (n : Nat) (out : Array Keyed) (na nb : Nat) : Prop := MB a b out na nb ∧ 1 ≤ na ∧ na ≤ a.size ∧ 2 ≤ nb ∧ nb ≤ b.size ∧ na + nb + n ≤ a.size + b.size
theorem Left.le {a b : Array Keyed} {n m : Nat} {out : Array Keyed} {na nb : Nat} (h : Left a b n out na nb) (hm : m ≤ n) : Left a b m out na nb := ⟨h.1, h.2.1, h.2.2.1, h.2.2.2.1, h.2.2.2.2.1, by have := h.2.2.2.2.2; omega⟩
def HkR (a b : Array Keyed) (n : Nat) (st₀ : SortSt) (c : HiR) (st : SortSt) : Prop := Stay st₀ st ∧ ((∃ r, c.1 = some r ∧ Merged a b r) ∨ (c.1 = none ∧ Left a b n c.2.2.2.1 c.2.1 c.2.2.1))
def HkG (a b : Array Keyed) (n : Nat) (st₀ : SortSt) (c : HiG) (st : SortSt) : Prop := Stay st₀ st ∧ ((∃ r, c.1 = some r ∧ Merged a b r) ∨ (c.1 = none ∧ Left a b n c.2.2.2.1 c.2.1 c.2.2.1))
def HkO (a b : Array Keyed) (n : Nat) (st₀ : SortSt) (c : HiO) (st : SortSt) : Prop := Stay st₀ st ∧ ((∃ r, c.1 = some r ∧ Merged a b r) ∨ (c.1 = none ∧ Left a b n c.2.2.2.1 c.2.1 c.2.2.1))
theorem hiR_ok {st₀ st : SortSt} {a b out : Array Keyed} {mg na nb ac bc n : Nat} (T : Two a b) (hk : kindOf st₀ = Ranks.κ) (hS : Stay st₀ st) (hL : Left a b n out na nb) :
    wpS (model prog w) A E s (hiR a b mg out na nb ac bc) (fun r st' => match r with | .done c => HkR a b (n + 1) st₀ c st' | .yield c => c.1 = none ∧ HkR a b (n + 1) st₀ c st') st := by
  obtain ⟨hM, a1, a2, b1, b2, hn⟩ := hL
  obtain ⟨p, ep, t, hp⟩ := at_some T.ib (show nb - 1 < b.size by omega)
  obtain ⟨q, eq, u, hq⟩ := at_some T.ia (show na - 1 < a.size by omega)
  unfold hiR
  refine wpS_bind (wpS_elem ep (wpS_bind (wpS_elem eq (wpS_bind (wpS_lt2 (hS.kind hk) hp hq ?_)))))
  dsimp only
  by_cases hlt : K b (nb - 1) < K a (na - 1)
  · rw [if_pos (by simpa using hlt)]
    refine wpS_bind (wpS_elem eq ?_)
    have M : MB a b (out.push q) (na - 1) nb := hM.pushA T.ra a1 eq fun j h1 h2 => Int.le_of_lt (Int.lt_of_le_of_lt (riseK T.rb (show j ≤ nb - 1 by omega) (by omega)) hlt)
    by_cases e : na - 1 = 0
    · rw [if_pos (by simpa using e)]
      exact wpS_pure ⟨hS, .inl ⟨_, rfl, M.doneA T e (by omega)⟩⟩
    · rw [if_neg (by simpa using e)]
      have R : HkR a b (n + 1) st₀ (none, na - 1, nb, out.push q, ac + 1, 0) st := ⟨hS, .inr ⟨rfl, M, by dsimp only; omega, by dsimp only; omega, b1, b2, by dsimp only; omega⟩⟩
      by_cases g : ac + 1 ≥ mg
      · rw [if_pos g]; exact wpS_pure R
      · rw [if_neg g]; exact wpS_pure ⟨rfl, R⟩
  · rw [if_neg (by simpa using hlt)]
    refine wpS_bind (wpS_elem ep ?_)
    have M : MB a b (out.push p) na (nb - 1) := hM.pushB T.rb (by omega) ep fun j h1 h2 => Int.le_trans (riseK T.ra (show j ≤ na - 1 by omega) (by omega)) (Int.not_lt.mp hlt)
    by_cases e : nb - 1 = 1
    · rw [if_pos (by simpa using e)]
      exact wpS_pure ⟨hS, .inl ⟨_, rfl, M.first T e (by omega)⟩⟩
    · rw [if_neg (by simpa using e)]
      have R : HkR a b (n + 1) st₀ (none, na, nb - 1, out.push p, 0, bc + 1) st := ⟨hS, .inr ⟨rfl, M, a1, a2, by dsimp only; omega, by dsimp only; omega, by dsimp only; omega⟩⟩
      by_cases g : bc + 1 ≥ mg
      · rw [if_pos g]; exact wpS_pure R
      · rw [if_neg g]; exact wpS_pure ⟨rfl, R⟩
abbrev PH (a b : Array Keyed) (n : Nat) (st₀ : SortSt) (r : ForInStep HiG) (st' : SortSt) : Prop := match r with | .done c => HkG a b n st₀ c st' | .yield c => c.1 = none ∧ HkG a b n st₀ c st'
theorem hiG3_ok {st₀ st : SortSt} {a b out : Array Keyed} {mg na nb ac bc n : Nat} (T : Two a b) (hS : Stay st₀ st) (hL : Left a b n out na nb) (hx : ∀ j, j < nb → j < b.size → K b j ≤ K a (na - 1)) :
    wpS (model prog w) A E s (hiG3 a b out na nb mg ac bc) (PH a b n st₀) st := by
  obtain ⟨hM, a1, a2, b1, b2, hn⟩ := hL
  obtain ⟨q, eq, u, hq⟩ := at_some T.ia (show na - 1 < a.size by omega)
  unfold hiG3
  refine wpS_bind (wpS_elem eq ?_)
  have M : MB a b (out.push q) (na - 1) nb := hM.pushA T.ra a1 eq hx
  by_cases e : na - 1 = 0
  · rw [if_pos (by simpa using e)]
    exact wpS_pure ⟨hS, .inl ⟨_, rfl, M.doneA T e (by omega)⟩⟩
  · rw [if_neg (by simpa using e)]
    have R : HkG a b n st₀ (none, na - 1, nb, out.push q, mg, ac, bc) st := ⟨hS, .inr ⟨rfl, M, by dsimp only; omega, by dsimp only; omega, b1, b2, by dsimp only; omega⟩⟩
    by_cases g : (decide (ac < 7) && decide (bc < 7)) = true
    · rw [if_pos g]; exact wpS_pure R
    · rw [if_neg g]; exact wpS_pure ⟨rfl, R⟩
theorem hiG2_ok {st₀ st : SortSt} {a b out : Array Keyed} {mg na nb ac bc n : Nat} (T : Two a b) (hk : kindOf st₀ = Ranks.κ) (hS : Stay st₀ st) (hL : Left a b n out na nb) (hx : ∀ j, j < na → j < a.size → K a j ≤ K b (nb - 1)) :
    wpS (model prog w) A E s (hiG2 a b out na nb mg ac bc) (PH a b n st₀) st := by
  obtain ⟨hM, a1, a2, b1, b2, hn⟩ := hL
  obtain ⟨p, ep, t, hp⟩ := at_some T.ib (show nb - 1 < b.size by omega)
  obtain ⟨q, eq, u, hq⟩ := at_some T.ia (show na - 1 < a.size by omega)
  unfold hiG2
  refine wpS_bind (wpS_elem ep ?_)
  have M : MB a b (out.push p) na (nb - 1) := hM.pushB T.rb (by omega) ep hx
  by_cases e : nb - 1 = 1
  · rw [if_pos (by simpa using e)]
    exact wpS_pure ⟨hS, .inl ⟨_, rfl, M.first T e (by omega)⟩⟩
  · rw [if_neg (by simpa using e)]
    refine wpS_bind (wpS_elem eq (wpS_bind (wpS_gallop (hS.kind hk) hq T.ib (by omega) (by omega) (fun i j h1 h2 => riseK T.rb (by omega) (by omega)) fun k hT => ?_)))
    obtain ⟨k1, k2, k3⟩ := turns_true hT
    simp only [Nat.zero_add] at k2 k3
    dsimp only
    by_cases hk0 : nb - 1 - k > 0
    · rw [if_pos hk0]
      have M2 := M.addB (p := k) T.rb (by omega) fun i j h1 h2 h3 h4 h5 => Int.le_trans (riseK T.ra (show j ≤ na - 1 by omega) (by omega)) (k3 i h1 h2)
      by_cases e1 : k = 1
      · rw [if_pos (by simpa using e1)]
        exact wpS_pure ⟨hS, .inl ⟨_, rfl, M2.first T e1 (by omega)⟩⟩
      · rw [if_neg (by simpa using e1)]
        by_cases e2 : k = 0
        · rw [if_pos (by simpa using e2)]
          exact wpS_pure ⟨hS, .inl ⟨_, rfl, M2.doneB T e2 (by omega)⟩⟩
        · rw [if_neg (by simpa using e2)]
          exact hiG3_ok T hS ⟨M2, a1, a2, by omega, by omega, by omega⟩ fun j h1 h2 => Int.le_of_lt (k2 j h1)
    · rw [if_neg hk0]
      exact hiG3_ok T hS ⟨M, a1, a2, by omega, by omega, by omega⟩ fun j h1 h2 => Int.le_of_lt (k2 j (by omega))
theorem hiG1_ok {st₀ st : SortSt} {a b out : Array Keyed} {mg na nb ac bc n : Nat} (T : Two a b) (hk : kindOf st₀ = Ranks.κ) (hS : Stay st₀ st) (hL : Left a b n out na nb) :
    wpS (model prog w) A E s (hiG1 a b out na nb mg ac bc) (PH a b n st₀) st := by
  obtain ⟨hM, a1, a2, b1, b2, hn⟩ := id hL
  obtain ⟨p, ep, t, hp⟩ := at_some T.ib (show nb - 1 < b.size by omega)
  unfold hiG1
  refine wpS_bind (wpS_setG hS fun st' hS' => wpS_bind (wpS_elem ep (wpS_bind (wpS_gallop (hS'.kind hk) hp T.ia (by omega) (by omega) (fun i j h1 h2 => riseK T.ra (by omega) (by omega)) fun k hT => ?_))))
  obtain ⟨k1, k2, k3⟩ := turns_false hT
  simp only [Nat.zero_add] at k2 k3
  dsimp only
  by_cases hk0 : na - k > 0
  · rw [if_pos hk0]
    have M2 := hM.addA (p := k) T.ra (by omega) fun i j h1 h2 h3 h4 h5 => Int.le_of_lt (Int.lt_of_le_of_lt (riseK T.rb (show j ≤ nb - 1 by omega) (by omega)) (k3 i h1 h2))
    by_cases e : k = 0
    · rw [if_pos (by simpa using e)]
      exact wpS_pure ⟨hS', .inl ⟨_, rfl, M2.doneA T e (by omega)⟩⟩
    · rw [if_neg (by simpa using e)]
      exact hiG2_ok T hk hS' ⟨M2, by omega, by omega, b1, b2, by omega⟩ fun j h1 h2 => k2 j h1
  · rw [if_neg hk0]
    exact hiG2_ok T hk hS' hL fun j h1 h2 => k2 j (by omega)
theorem hiG_ok {st₀ st : SortSt} {a b out : Array Keyed} {mg na nb ac bc n : Nat} (T : Two a b) (hk : kindOf st₀ = Ranks.κ) (hS : Stay st₀ st) (hL : Left a b n out na nb) :
    wpS (model prog w) A E s (hiG a b out na nb mg ac bc) (PH a b n st₀) st := by
  unfold hiG
  by_cases h : mg > 1
  · rw [if_pos h]; exact hiG1_ok T hk hS hL
  · rw [if_neg h]; exact hiG1_ok T hk hS hL
theorem hiO_ok {st₀ st : SortSt} {a b out : Array Keyed} {mg na nb n : Nat} (T : Two a b) (hk : kindOf st₀ = Ranks.κ) (hS : Stay st₀ st) (hL : Left a b n out na nb) :
    wpS (model prog w) A E s (hiO a b na nb out mg) (fun r st' => match r with | .done c => HkO a b (n + 1) st₀ c st' ∧ c.1 ≠ none | .yield c => c.1 = none ∧ HkO a b (n + 1) st₀ c st') st := by
  have hna := T.na
  unfold hiO
  refine wpS_bind (wpS_mono (wpS_forRange (I := fun x c st' => c.1 = none ∧ HkR a b (n + x) st₀ c st') (Q := fun c st' => HkR a b (n + 1) st₀ c st') ?_ ?_ ⟨rfl, hS, .inr ⟨rfl, hL⟩⟩) ?_)
  · rintro x ⟨c0, i, j, o, ac, bc⟩ st' _ hx ⟨e, hS', z⟩
    rcases z with ⟨r, e', _⟩ | ⟨_, l⟩
    · rw [e'] at e; cases e
    · refine wpS_mono (hiR_ok T hk hS' l) fun r st2 hr => ?_
      cases r with
      | done c => exact ⟨hr.1, hr.2.imp id fun ⟨q1, q2⟩ => ⟨q1, q2.le (by omega)⟩⟩
      | yield c => exact hr
  · rintro c st' ⟨e, hc⟩
    exact ⟨hc.1, hc.2.imp id fun ⟨q1, q2⟩ => ⟨q1, q2.le (by omega)⟩⟩
  · rintro ⟨c0, i, j, o, ac, bc⟩ st' ⟨hS', z⟩
    rcases z with ⟨r, e, hr⟩ | ⟨e, l⟩
    · dsimp only at e
      subst e
      exact wpS_pure ⟨⟨hS', .inl ⟨r, rfl, hr⟩⟩, by simp⟩
    · dsimp only at e
      subst e
      dsimp only
      refine wpS_bind (wpS_lift (wpAny_rule ⟨rfl, ?_⟩))
      refine wpS_bind (wpS_mono (wpS_forRange (I := fun x c st' => c.1 = none ∧ HkG a b (n + 1) st₀ c st') (Q := fun c st' => HkG a b (n + 1) st₀ c st') ?_ ?_ ⟨rfl, hS', .inr ⟨rfl, l⟩⟩) ?_)
      · rintro x ⟨c0, i, j, o, mg, ac, bc⟩ st' _ hx ⟨e, hS', z⟩
        rcases z with ⟨r, e', _⟩ | ⟨_, l⟩
        · rw [e'] at e; cases e
        · refine wpS_mono (hiG_ok T hk hS' l) fun r st2 hr => ?_
          cases r with
          | done c => exact hr
          | yield c => exact hr
      · exact fun c st' hc => hc.2
      · rintro ⟨c0, i, j, o, mg, ac, bc⟩ st' ⟨hS', z⟩
        rcases z with ⟨r, e, hr⟩ | ⟨e, l⟩
        · dsimp only at e
          subst e
          exact wpS_pure ⟨⟨hS', .inl ⟨r, rfl, hr⟩⟩, by simp⟩
        · dsimp only at e
          subst e
          dsimp only
          exact wpS_bind (wpS_setG hS' fun st2 hS2 => wpS_pure ⟨rfl, hS2, .inr ⟨rfl, l⟩⟩)
theorem wpS_mergeHi {st : SortSt} {a b : Array Keyed} {Q : Array Keyed → SortSt → Prop} (T : Two a b) (hk : kindOf st = Ranks.κ) (h : ∀ r st', Stay st st' → Merged a b r → Q r st') : wpS (model prog w) A E s (mergeHi' a b) Q st := by
  rw [mergeHi'_eq]
  have hna := T.na
  have hnb := T.nb
  obtain ⟨p, ep, t, hp⟩ := at_some T.ia (show a.size - 1 < a.size by omega)
  refine wpS_bind (wpS_lift (wpAny_rule ⟨rfl, wpS_bind (wpS_elem ep ?_)⟩))
  have M0 : MB a b #[] a.size b.size := by
    have := MH.nil (a := a.toList) (b := b.toList)
    simpa using this
  have M : MB a b #[p] (a.size - 1) b.size := M0.pushA T.ra hna ep fun j _ hj => Int.le_of_lt (T.last hj)
  by_cases e1 : a.size - 1 = 0
  · rw [if_pos (by simpa using e1)]
    exact wpS_pure (h _ _ Stay.rfl (M.doneA T e1 (by omega)))
  · rw [if_neg (by simpa using e1)]
    by_cases e2 : b.size = 1
    · rw [if_pos (by simpa using e2)]
      exact wpS_pure (h _ _ Stay.rfl (M.first T e2 (by omega)))
    · rw [if_neg (by simpa using e2)]
      refine wpS_bind (wpS_get ?_)
      refine wpS_bind (wpS_mono (wpS_forRange (I := fun x c st' => c.1 = none ∧ HkO a b (x + 1) st c st') (Q := fun c st' => HkO a b 0 st c st' ∧ c.1 ≠ none) ?_ ?_ ⟨rfl, Stay.rfl, .inr ⟨rfl, M, by dsimp only; omega, by dsimp only; omega, by dsimp only; omega, by dsimp only; omega, by dsimp only; omega⟩⟩) ?_)
      · rintro x ⟨c0, i, j, o, mg⟩ st' _ hx ⟨e, hS', z⟩
        rcases z with ⟨r, e', _⟩ | ⟨_, l⟩
        · rw [e'] at e; cases e
        · refine wpS_mono (hiO_ok T hk hS' l) fun r st2 hr => ?_
          cases r with
          | done c => exact ⟨⟨hr.1.1, hr.1.2.imp id fun ⟨q1, q2⟩ => ⟨q1, q2.le (by omega)⟩⟩, hr.2⟩
          | yield c => exact hr
      · rintro ⟨c0, i, j, o, mg⟩ st' ⟨e, hS', z⟩
        rcases z with ⟨r, e', _⟩ | ⟨_, l⟩
        · rw [e'] at e; cases e
        · obtain ⟨_, l1, l2, l3, l4, l5⟩ := l
          dsimp only at l1 l2 l3 l4 l5
          exfalso; omega
      · rintro ⟨c0, i, j, o, mg⟩ st' ⟨⟨hS', z⟩, hne⟩
        rcases z with ⟨r, e, hr⟩ | ⟨e, _⟩
        · dsimp only at e
          subst e
          exact wpS_pure (h _ _ hS' hr)
        · exact absurd e hne
end
end MwSortR
set_option maxHeartbeats 2000000
namespace MwSortR
open PySem PyProof.Rows
variable [Ranks]
def lay (at_ : Nat) (l : List (Keyed × Nat)) (xs : Array Keyed) : Array Keyed := l.foldl (fun z (p, j) => z.setIfInBounds (at_ + j) p) xs
theorem lay_cons (at_ : Nat) (p : Keyed) (j : Nat) (l : List (Keyed × Nat)) (xs : Array Keyed) : lay at_ ((p, j) :: l) xs = lay at_ l (xs.setIfInBounds (at_ + j) p) := rfl
theorem lay_get {at_ : Nat} : ∀ (l : List Keyed) (n : Nat) (xs : Array Keyed), at_ + n + l.length ≤ xs.size → ∀ k, (lay at_ (l.zipIdx n) xs)[k]? = if at_ + n ≤ k ∧ k < at_ + n + l.length then l[k - (at_ + n)]? else xs[k]?
  | [], n, xs, h, k => by
    rw [if_neg (by simp only [List.length_nil]; omega)]; rfl
  | p :: l, n, xs, h, k => by
    rw [List.zipIdx_cons, lay_cons, lay_get l (n + 1) _ (by rw [Array.size_setIfInBounds]; simp only [List.length_cons] at h; omega) k]
    simp only [List.length_cons] at h ⊢
    by_cases h1 : at_ + (n + 1) ≤ k ∧ k < at_ + (n + 1) + l.length
    · rw [if_pos h1, if_pos (by omega), show k - (at_ + n) = (k - (at_ + (n + 1))) + 1 by omega, List.getElem?_cons_succ]
    · rw [if_neg h1]
      by_cases h2 : at_ + n = k
      · subst h2
        rw [if_pos (by omega), Nat.sub_self]
        rw [Array.getElem?_setIfInBounds_self_of_lt (by omega)]
        rfl
      · rw [if_neg (by omega), Array.getElem?_setIfInBounds_ne h2]
theorem lay_list {at_ : Nat} {m xs : Array Keyed} (h : at_ + m.size ≤ xs.size) : (lay at_ m.toList.zipIdx xs).toList = xs.toList.take at_ ++ m.toList ++ xs.toList.drop (at_ + m.size) := by
  apply List.ext_getElem?
  intro k
  rw [Array.getElem?_toList, lay_get m.toList 0 xs (by simpa using h) k]
  simp only [Nat.add_zero, Array.length_toList]
  rw [List.append_assoc, List.getElem?_append, List.getElem?_append]
  have e1 : (xs.toList.take at_).length = at_ := by simp; omega
  rw [e1]
  by_cases h1 : k < at_
  · rw [if_neg (by omega), if_pos h1, List.getElem?_take_of_lt h1, Array.getElem?_toList]
  · rw [if_neg h1]
    simp only [Array.length_toList]
    by_cases h2 : k < at_ + m.size
    · rw [if_pos ⟨by omega, h2⟩, if_pos (by omega)]
    · rw [if_neg (by omega), if_neg (by omega), List.getElem?_drop, Array.getElem?_toList]
      congr 1
      omega
def Up (xs : Array Keyed) (i j : Nat) : Prop := ∀ p q, i ≤ p → p ≤ q → q < j → K xs p ≤ K xs q
theorem K_ext {xs : Array Keyed} {i j k : Nat} (hj : j ≤ xs.size) (hk : i + k < j) : K (xs.extract i j) k = K xs (i + k) := by
  apply K_congr
  rw [Array.getElem?_extract]
  rw [if_pos (by omega)]
theorem ext_rise {xs : Array Keyed} {i j : Nat} (hj : j ≤ xs.size) (h : Up xs i j) : Rise (xs.extract i j).toList := rise_of fun p q hpq hq => by
  have hs : (xs.extract i j).size = j - i := by rw [Array.size_extract]; omega
  rw [hs] at hq
  rw [K_ext hj (by omega), K_ext hj (by omega)]
  exact h _ _ (by omega) (by omega) (by omega)
theorem ext_int {xs : Array Keyed} {i j : Nat} (h : KeysIn xs) : KeysIn (xs.extract i j) := fun p hp => h p (by
  rw [Array.toList_extract, List.extract_eq_take_drop] at hp
  exact List.mem_of_mem_drop (List.mem_of_mem_take hp))
theorem joined {xs m : Array Keyed} {sa sb e c d : Nat} (h1 : sa ≤ c) (h2 : c ≤ sb) (h3 : sb ≤ d) (h4 : d ≤ e) (h5 : e ≤ xs.size) (ua : Up xs sa sb) (ub : Up xs sb e)
    (hlo : ∀ i, sa ≤ i → i < c → K xs i ≤ K xs sb) (hhi : ∀ i, d ≤ i → i < e → K xs (sb - 1) ≤ K xs i) (hc : c < sb) (hd : sb < d) (hM : Merged (xs.extract c sb) (xs.extract sb d) m) :
    (lay c m.toList.zipIdx xs).toList.Perm xs.toList ∧ (∀ k, k < c ∨ d ≤ k → K (lay c m.toList.zipIdx xs) k = K xs k) ∧ Up (lay c m.toList.zipIdx xs) sa e := by
  have hm : m.size = d - c := by
    have := hM.1.length_eq
    simp at this
    omega
  have hfit : c + m.size ≤ xs.size := by omega
  have hg : ∀ k, (lay c m.toList.zipIdx xs)[k]? = if c ≤ k ∧ k < d then m[k - c]? else xs[k]? := fun k => by
    rw [lay_get m.toList 0 xs (by simpa using hfit) k]
    simp only [Nat.add_zero, Array.length_toList, hm, Array.getElem?_toList]
    rw [show c + (d - c) = d by omega]
  have kout : ∀ k, k < c ∨ d ≤ k → K (lay c m.toList.zipIdx xs) k = K xs k := fun k hk => K_congr (by rw [hg, if_neg (by omega)])
  have kin : ∀ k, c ≤ k → k < d → K (lay c m.toList.zipIdx xs) k = K m (k - c) := fun k a b => K_congr (by rw [hg, if_pos ⟨a, b⟩])
  have mid : ∀ k, k < m.size → ∃ n, c ≤ n ∧ n < d ∧ K m k = K xs n := fun k hk => by
    have hmem : m.toList[k]'(by simpa using hk) ∈ (xs.extract c sb).toList ++ (xs.extract sb d).toList := hM.1.mem_iff.mp (List.getElem_mem _)
    have ek := kf_at (a := m) (n := k) (by simpa using hk)
    rcases List.mem_append.mp hmem with z | z
    · rw [Array.toList_extract, List.extract_eq_take_drop] at z
      obtain ⟨n, hn, n1, n2, e⟩ := mem_seg z
      refine ⟨n, n1, by omega, ?_⟩
      rw [← ek, ← e, kf_at]
    · rw [Array.toList_extract, List.extract_eq_take_drop] at z
      obtain ⟨n, hn, n1, n2, e⟩ := mem_seg z
      refine ⟨n, by omega, by omega, ?_⟩
      rw [← ek, ← e, kf_at]
  refine ⟨?_, kout, ?_⟩
  · rw [lay_list hfit, hm, show c + (d - c) = d by omega]
    have e1 : xs.toList = xs.toList.take c ++ ((xs.extract c sb).toList ++ (xs.extract sb d).toList) ++ xs.toList.drop d := by
      rw [Array.toList_extract, Array.toList_extract, List.extract_eq_take_drop, List.extract_eq_take_drop]
      have q1 := seg_split (l := xs.toList) h3
      have q2 := seg_split (l := xs.toList) h2
      have q3 := List.take_append_drop c xs.toList
      rw [List.append_assoc, List.append_assoc, ← q1, ← q2, q3]
    have p := (hM.1.append_left (xs.toList.take c)).append_right (xs.toList.drop d)
    rwa [← e1] at p
  · intro p q hp hpq hq
    rcases Nat.lt_or_ge p c with p1 | p1
    · rw [kout p (.inl p1)]
      rcases Nat.lt_or_ge q c with q1 | q1
      · rw [kout q (.inl q1)]
        exact ua p q hp hpq (by omega)
      · have low : ∀ n, c ≤ n → n < e → K xs p ≤ K xs n := fun n n1 n2 => by
          rcases Nat.lt_or_ge n sb with z | z
          · exact ua p n hp (by omega) z
          · exact Int.le_trans (hlo p hp p1) (ub sb n (by omega) z n2)
        rcases Nat.lt_or_ge q d with q2 | q2
        · rw [kin q q1 q2]
          obtain ⟨n, n1, n2, e⟩ := mid (q - c) (by omega)
          rw [e]
          exact low n n1 (by omega)
        · rw [kout q (.inr q2)]
          exact low q q1 hq
    · rcases Nat.lt_or_ge p d with p2 | p2
      · rw [kin p p1 p2]
        rcases Nat.lt_or_ge q d with q2 | q2
        · rw [kin q (by omega) q2]
          exact riseK hM.2 (by omega) (by omega)
        · rw [kout q (.inr q2)]
          obtain ⟨n, n1, n2, e⟩ := mid (p - c) (by omega)
          rw [e]
          rcases Nat.lt_or_ge n sb with z | z
          · exact Int.le_trans (ua n (sb - 1) (by omega) (by omega) (by omega)) (hhi q q2 hq)
          · exact ub n q z (by omega) hq
      · rw [kout p (.inr p2), kout q (.inr (by omega))]
        exact ub p q (by omega) hpq hq
theorem mergeAt'_eq (i : Nat) : mergeAt' i = (do
  let g ← get
  let (some (p, m, pw), some (q, n, _)) := ((pendingOf g)[i]?, (pendingOf g)[i + 1]?) | unsupported "internal:list.sort.pending"
  set (setPending g (((pendingOf g).setIfInBounds i (p, m + n, pw)).eraseIdxIfInBounds (i + 1)))
  let some k ← gallop' false (← elem' (arrOf g) q) (arrOf g) p m 0 | return false
  let (p, m) := (p + k, m - k)
  if m == 0 then return true
  let some n ← gallop' true (← elem' (arrOf g) (p + m - 1)) (arrOf g) q n (n - 1) | return false
  if n == 0 then return true
  let x := (arrOf g).extract p q
  let y := (arrOf g).extract q (q + n)
  let r ← if m ≤ n then mergeLo' x y else mergeHi' x y
  modify fun z => setArr z (lay p r.toList.zipIdx (arrOf z))
  return (failedOf (← get)).isNone) := rfl
section
variable {prog : Program} {w : World} {A : Around} {E : Value → Shared → Prop} {s : Shared} [CmpOk prog w A s]
theorem wpS_set {st st' : SortSt} {Q : PUnit → SortSt → Prop} (h : Q ⟨⟩ st') : wpS (model prog w) A E s (set st' : StateT SortSt Sem PUnit) Q st := by
  unfold wpS; rw [StateT.run_set]; exact wpAny_pure ⟨rfl, h⟩
structure Joined (st st' : SortSt) (p e : Nat) : Prop where
  kind : kindOf st' = kindOf st
  failed : failedOf st' = failedOf st
  perm : (arrOf st').toList.Perm (arrOf st).toList
  out : ∀ k, k < p ∨ e ≤ k → K (arrOf st') k = K (arrOf st) k
  up : Up (arrOf st') p e
theorem wpS_mergeAt {st : SortSt} {i p m pw n pw2 : Nat} {Q : Bool → SortSt → Prop} (hk : kindOf st = Ranks.κ) (hf : failedOf st = none) (hI : KeysIn (arrOf st))
    (hp : (pendingOf st)[i]? = some (p, m, pw)) (hq : (pendingOf st)[i + 1]? = some (p + m, n, pw2)) (m1 : 1 ≤ m) (n1 : 1 ≤ n) (he : p + m + n ≤ (arrOf st).size) (ua : Up (arrOf st) p (p + m)) (ub : Up (arrOf st) (p + m) (p + m + n))
    (h : ∀ st', Joined st st' p (p + m + n) → pendingOf st' = ((pendingOf st).setIfInBounds i (p, m + n, pw)).eraseIdxIfInBounds (i + 1) → Q true st') : wpS (model prog w) A E s (mergeAt' i) Q st := by
  rw [mergeAt'_eq]
  refine wpS_bind (wpS_get ?_)
  rw [hp, hq]
  dsimp only
  refine wpS_bind (wpS_set ?_)
  obtain ⟨b0, eb, tb, hb⟩ := at_some hI (show p + m < (arrOf st).size by omega)
  refine wpS_bind (wpS_elem eb (wpS_bind (wpS_gallop hk hb hI (by omega) (by omega) (fun i j h1 h2 => ua _ _ (by omega) (by omega) (by omega)) fun k hT => ?_)))
  obtain ⟨k1, k2, k3⟩ := turns_false hT
  have hlo : ∀ i, p ≤ i → i < p + k → K (arrOf st) i ≤ K (arrOf st) (p + m) := fun i h1 h2 => by
    have := k2 (i - p) (by omega)
    rwa [show p + (i - p) = i by omega] at this
  dsimp only
  by_cases e0 : m - k = 0
  · rw [if_pos (by simpa using e0)]
    refine wpS_pure (h _ ⟨rfl, rfl, List.Perm.refl _, fun _ _ => rfl, fun x y hx hxy hy => ?_⟩ rfl)
    show K (arrOf st) x ≤ K (arrOf st) y
    rcases Nat.lt_or_ge y (p + m) with z | z
    · exact ua x y hx hxy z
    · rcases Nat.lt_or_ge x (p + m) with z2 | z2
      · exact Int.le_trans (hlo x hx (by omega)) (ub _ y (by omega) z hy)
      · exact ub x y z2 hxy hy
  · rw [if_neg (by simpa using e0)]
    have hlast : p + k + (m - k) - 1 = p + m - 1 := by omega
    obtain ⟨a1, ea, ta, ha⟩ := at_some hI (show p + k + (m - k) - 1 < (arrOf st).size by omega)
    refine wpS_bind (wpS_elem ea (wpS_bind (wpS_gallop hk ha hI (by omega) (by omega) (fun i j h1 h2 => ub _ _ (by omega) (by omega) (by omega)) fun k' hT' => ?_)))
    obtain ⟨j1, j2, j3⟩ := turns_true hT'
    rw [hlast] at j2 j3
    have hhi : ∀ i, p + m + k' ≤ i → i < p + m + n → K (arrOf st) (p + m - 1) ≤ K (arrOf st) i := fun i h1 h2 => by
      have := j3 (i - (p + m)) (by omega) (by omega)
      rwa [show p + m + (i - (p + m)) = i by omega] at this
    dsimp only
    by_cases e1 : k' = 0
    · rw [if_pos (by simpa using e1)]
      refine wpS_pure (h _ ⟨rfl, rfl, List.Perm.refl _, fun _ _ => rfl, fun x y hx hxy hy => ?_⟩ rfl)
      show K (arrOf st) x ≤ K (arrOf st) y
      rcases Nat.lt_or_ge y (p + m) with z | z
      · exact ua x y hx hxy z
      · rcases Nat.lt_or_ge x (p + m) with z2 | z2
        · exact Int.le_trans (ua x (p + m - 1) hx (by omega) (by omega)) (hhi y (by omega) hy)
        · exact ub x y z2 hxy hy
    · rw [if_neg (by simpa using e1)]
      have sx : ((arrOf st).extract (p + k) (p + m)).size = m - k := by rw [Array.size_extract]; omega
      have sy : ((arrOf st).extract (p + m) (p + m + k')).size = k' := by rw [Array.size_extract]; omega
      have T : Two ((arrOf st).extract (p + k) (p + m)) ((arrOf st).extract (p + m) (p + m + k')) := {
        ia := ext_int hI
        ib := ext_int hI
        ra := ext_rise (by omega) fun x y h1 h2 h3 => ua x y (by omega) h2 h3
        rb := ext_rise (by omega) fun x y h1 h2 h3 => ub x y (by omega) h2 (by omega)
        na := by rw [sx]; omega
        nb := by rw [sy]; omega
        h0 := by
          rw [K_ext (by omega) (by omega), K_ext (by omega) (by omega)]
          have := k3 k (by omega) (by omega)
          simpa using this
        hl := by
          rw [sx, sy, K_ext (by omega) (by omega), K_ext (by omega) (by omega)]
          have := j2 (k' - 1) (by omega)
          rwa [show p + k + (m - k - 1) = p + m - 1 by omega] }
      have fin : ∀ (r : Array Keyed) (st' : SortSt), Stay (setPending st (((pendingOf st).setIfInBounds i (p, m + n, pw)).eraseIdxIfInBounds (i + 1))) st' → Merged ((arrOf st).extract (p + k) (p + m)) ((arrOf st).extract (p + m) (p + m + k')) r →
          wpS (model prog w) A E s (do modify fun z => setArr z (lay (p + k) r.toList.zipIdx (arrOf z)); return (failedOf (← get)).isNone) Q st' := fun r st' hS hM => by
        refine wpS_bind (wpS_modify (wpS_bind (wpS_get (wpS_pure ?_))))
        have hj := joined (sa := p) (e := p + m + n) (by omega) (by omega) (by omega) (by omega) he ua ub hlo hhi (by omega) (by omega) hM
        have ef : failedOf st' = none := hS.2.2.2.trans hf
        have ex : arrOf st' = arrOf st := hS.2.1
        have : (failedOf (setArr st' (lay (p + k) r.toList.zipIdx (arrOf st')))).isNone = true := by show (failedOf st').isNone = true; rw [ef]; rfl
        rw [this]
        refine h _ ⟨hS.1, hS.2.2.2, ?_, ?_, ?_⟩ hS.2.2.1
        · show (lay (p + k) r.toList.zipIdx (arrOf st')).toList.Perm _
          rw [ex]; exact hj.1
        · intro x hx
          show K (lay (p + k) r.toList.zipIdx (arrOf st')) x = _
          rw [ex]; exact hj.2.1 x (by omega)
        · show Up (lay (p + k) r.toList.zipIdx (arrOf st')) _ _
          rw [ex]; exact hj.2.2
      by_cases hc : m - k ≤ k'
      · rw [if_pos hc]
        exact wpS_bind (wpS_mergeLo T hk fun r st' hS hM => fin r st' hS hM)
      · rw [if_neg hc]
        exact wpS_bind (wpS_mergeHi T hk fun r st' hS hM => fin r st' hS hM)
end
end MwSortR
set_option maxHeartbeats 2000000
namespace MwSortR
open PySem PyProof.Rows
variable [Ranks]
def ascL (lo a nr : Nat) : StateT SortSt Sem (Option (Option Nat) × Nat) := forIn [a:nr] ((none, a) : Option (Option Nat) × Nat) fun _ c => do
  let r ← ltAt' (lo + c.2) (lo + c.2 - 1)
  match r with
  | some t => if t = true then pure (.done (none, c.2)) else pure (.yield (none, c.2 + 1))
  | _ => pure (.done (some none, c.2))
def tailL (lo n nr : Nat) : StateT SortSt Sem (Option Nat) := do
  reverseSlice' lo (lo + n)
  let c ← ascL lo n nr
  match c.1 with
  | some r => pure r
  | none => pure (some c.2)
def dscL (lo n nr : Nat) : StateT SortSt Sem (Option (Option Nat) × Nat × Nat) := forIn [n:nr] ((none, n, 0) : Option (Option Nat) × Nat × Nat) fun _ c => do
  let r ← ltAt' (lo + c.2.1) (lo + c.2.1 - 1)
  match r with
  | some t =>
    if t = true then
      if c.2.2 > 0 then do
        reverseSlice' (lo + c.2.1 - (c.2.2 + 1)) (lo + c.2.1)
        pure (.yield (none, c.2.1 + 1, 0))
      else pure (.yield (none, c.2.1 + 1, 0))
    else do
      let r ← ltAt' (lo + c.2.1 - 1) (lo + c.2.1)
      match r with
      | some g => if g = true then pure (.done (none, c.2.1, c.2.2)) else pure (.yield (none, c.2.1 + 1, c.2.2 + 1))
      | _ => pure (.done (some none, c.2.1, c.2.2))
  | _ => pure (.done (some none, c.2.1, c.2.2))
def partL (lo n nr : Nat) : StateT SortSt Sem (Option Nat) := do
  liftM (rule "list.sort.descending-run")
  let c ← dscL lo (n + 1) nr
  match c.1 with
  | some r => pure r
  | none =>
    if c.2.2 > 0 then do
      reverseSlice' (lo + c.2.1 - (c.2.2 + 1)) (lo + c.2.1)
      tailL lo c.2.1 nr
    else tailL lo c.2.1 nr
theorem countL_eq (lo nr : Nat) : countRun' lo nr = (do
    let c ← ascL lo 1 nr
    match c.1 with
    | some r => pure r
    | none =>
      if (c.2 == nr) = true then pure (some c.2)
      else if c.2 > 1 then do
        let r ← ltAt' lo (lo + c.2 - 1)
        match r with
        | some g => if g = true then pure (some c.2) else do
            reverseSlice' lo (lo + c.2)
            partL lo c.2 nr
        | _ => pure none
      else partL lo c.2 nr) := by
  refine bindC rfl fun c => ?_
  obtain ⟨c1, n⟩ := c
  cases c1 with
  | some r => rfl
  | none =>
    refine ite_congr rfl (fun _ => rfl) fun _ => ite_congr rfl (fun _ => bindC rfl fun r => ?_) fun _ => bindC rfl fun _ => bindC rfl fun c => ?_
    · cases r with
      | none => rfl
      | some g =>
        refine ite_congr rfl (fun _ => rfl) fun _ => bindC rfl fun _ => bindC rfl fun _ => bindC rfl fun c => ?_
        obtain ⟨c1, n2, q⟩ := c
        cases c1 with
        | some r => rfl
        | none =>
          refine ite_congr rfl (fun _ => bindC rfl fun _ => bindC rfl fun _ => bindC rfl fun c => ?_) fun _ => bindC rfl fun _ => bindC rfl fun c => ?_
          all_goals (obtain ⟨c1, n3⟩ := c; cases c1 <;> rfl)
    · obtain ⟨c1, n2, q⟩ := c
      cases c1 with
      | some r => rfl
      | none =>
        refine ite_congr rfl (fun _ => bindC rfl fun _ => bindC rfl fun _ => bindC rfl fun c => ?_) fun _ => bindC rfl fun _ => bindC rfl fun c => ?_
        all_goals (obtain ⟨c1, n3⟩ := c; cases c1 <;> rfl)
structure Moved (lo : Nat) (st st' : SortSt) : Prop where
  kind : kindOf st' = kindOf st
  failed : failedOf st' = failedOf st
  pend : pendingOf st' = pendingOf st
  perm : (arrOf st').Perm (arrOf st)
  out : ∀ k, k < lo → K (arrOf st') k = K (arrOf st) k
theorem Moved.rfl {lo : Nat} {st : SortSt} : Moved lo st st := ⟨_root_.rfl, _root_.rfl, _root_.rfl, Array.Perm.refl _, fun _ _ => _root_.rfl⟩
theorem Moved.trans {lo : Nat} {a b c : SortSt} (h : Moved lo a b) (g : Moved lo b c) : Moved lo a c := ⟨g.kind.trans h.kind, g.failed.trans h.failed, g.pend.trans h.pend, g.perm.trans h.perm, fun k hk => (g.out k hk).trans (h.out k hk)⟩
theorem Moved.size {lo : Nat} {st st' : SortSt} (h : Moved lo st st') : (arrOf st').size = (arrOf st).size := h.perm.size_eq
theorem int_perm {xs ys : Array Keyed} (hI : KeysIn xs) (h : ys.Perm xs) : KeysIn ys := fun p hp => hI p ((Array.perm_iff_toList_perm.mp h).mem_iff.mp hp)
theorem moved_mirror {lo i j : Nat} {st : SortSt} (hi : lo ≤ i) (hj : j ≤ (arrOf st).size) : Moved lo st (setArr st (mirror (arrOf st) i j ((j - i) / 2))) :=
  ⟨rfl, rfl, rfl, mirror_perm _ _ _ _, fun k hk => by show K (mirror (arrOf st) i j ((j - i) / 2)) k = _; rw [K_mirror hj, if_neg (by omega)]⟩
def Dn (xs : Array Keyed) (i j : Nat) : Prop := ∀ p q, i ≤ p → p ≤ q → q < j → K xs q ≤ K xs p
theorem Up.more {xs : Array Keyed} {i j : Nat} (h : Up xs i j) (hj : i < j) (hx : K xs (j - 1) ≤ K xs j) : Up xs i (j + 1) := fun p q h1 h2 h3 => by
  rcases Nat.lt_or_ge q j with z | z
  · exact h p q h1 h2 z
  · have : q = j := by omega
    subst this
    rcases Nat.lt_or_ge p q with z2 | z2
    · exact Int.le_trans (h p (q - 1) h1 (by omega) (by omega)) hx
    · have : p = q := by omega
      rw [this]; exact Int.le_refl _
theorem Dn.more {xs : Array Keyed} {i j : Nat} (h : Dn xs i j) (hj : i < j) (hx : K xs j ≤ K xs (j - 1)) : Dn xs i (j + 1) := fun p q h1 h2 h3 => by
  rcases Nat.lt_or_ge q j with z | z
  · exact h p q h1 h2 z
  · have : q = j := by omega
    subst this
    rcases Nat.lt_or_ge p q with z2 | z2
    · exact Int.le_trans hx (h p (q - 1) h1 (by omega) (by omega))
    · have : p = q := by omega
      rw [this]; exact Int.le_refl _
theorem Up.one (xs : Array Keyed) (i : Nat) : Up xs i (i + 1) := fun p q h1 h2 h3 => by
  have : p = q := by omega
  rw [this]; exact Int.le_refl _
section
variable {prog : Program} {w : World} {A : Around} {E : Value → Shared → Prop} {s : Shared} [CmpOk prog w A s]
theorem wpS_ltI {st : SortSt} {i j : Nat} {Q : Option Bool → SortSt → Prop} (hk : kindOf st = Ranks.κ) (hI : KeysIn (arrOf st)) (hi : i < (arrOf st).size) (hj : j < (arrOf st).size) (h : Q (some (decide (K (arrOf st) i < K (arrOf st) j))) st) :
    wpS (model prog w) A E s (ltAt' i j) Q st := by
  obtain ⟨p, t1, e1, h1⟩ := at_int hI hi
  obtain ⟨q, t2, e2, h2⟩ := at_int hI hj
  rw [ltAt'_eq]
  refine wpS_bind (wpS_get ?_)
  show wpS _ _ _ _ (elem' (arrOf st) i >>= fun x => elem' (arrOf st) j >>= fun y => lt' x y) Q st
  exact wpS_bind (wpS_elem e1 (wpS_bind (wpS_elem e2 (wpS_lt2 hk h1 h2 h))))
theorem ascL_ok {st : SortSt} {lo a nr : Nat} {Q : Option (Option Nat) × Nat → SortSt → Prop} (hk : kindOf st = Ranks.κ) (hI : KeysIn (arrOf st)) (h1 : 1 ≤ a) (h2 : a ≤ nr) (h3 : lo + nr ≤ (arrOf st).size) (hu : Up (arrOf st) lo (lo + a))
    (h : ∀ n, a ≤ n → n ≤ nr → Up (arrOf st) lo (lo + n) → (n = nr ∨ K (arrOf st) (lo + n) < K (arrOf st) (lo + n - 1)) → Q (none, n) st) : wpS (model prog w) A E s (ascL lo a nr) Q st := by
  unfold ascL
  refine wpS_forRange (I := fun x c z => z = st ∧ c = (none, x) ∧ Up (arrOf st) lo (lo + x)) ?_ ?_ ⟨rfl, rfl, hu⟩
  · rintro x c z hx1 hx2 ⟨rfl, rfl, u⟩
    dsimp only
    refine wpS_bind (wpS_ltI hk hI (by omega) (by omega) ?_)
    by_cases hl : K (arrOf z) (lo + x) < K (arrOf z) (lo + x - 1)
    · rw [decide_eq_true hl]
      exact wpS_pure (h x hx1 (by omega) u (.inr hl))
    · rw [decide_eq_false hl]
      exact wpS_pure ⟨rfl, rfl, u.more (by omega) (Int.not_lt.mp hl)⟩
  · rintro c z ⟨rfl, rfl, u⟩
    rw [show max a nr = nr by omega] at u ⊢
    exact h nr h2 (Nat.le_refl _) u (.inl rfl)
theorem tailL_ok {st₀ st : SortSt} {lo n nr : Nat} {Q : Option Nat → SortSt → Prop} (hk : kindOf st₀ = Ranks.κ) (hI : KeysIn (arrOf st₀)) (hm : Moved lo st₀ st) (h1 : 1 ≤ n) (h2 : n ≤ nr) (h3 : lo + nr ≤ (arrOf st₀).size) (hd : Dn (arrOf st) lo (lo + n))
    (h : ∀ m st', Moved lo st₀ st' → 1 ≤ m → m ≤ nr → Up (arrOf st') lo (lo + m) → Q (some m) st') : wpS (model prog w) A E s (tailL lo n nr) Q st := by
  have hsz := hm.size
  unfold tailL
  refine wpS_bind (wpS_reverse ?_)
  have hm2 := hm.trans (moved_mirror (lo := lo) (i := lo) (j := lo + n) (Nat.le_refl _) (by omega))
  have hsz2 := hm2.size
  refine wpS_bind (ascL_ok (hm2.kind.trans hk) (int_perm hI hm2.perm) h1 h2 (by omega) (fun p q g1 g2 g3 => ?_) fun m m1 m2 m3 m4 => wpS_pure (h m _ hm2 (by omega) m2 m3))
  show K (mirror (arrOf st) lo (lo + n) _) p ≤ K (mirror (arrOf st) lo (lo + n) _) q
  rw [K_mirror (by omega), K_mirror (by omega), if_pos (by omega), if_pos (by omega)]
  exact hd _ _ (by omega) (by omega) (by omega)
theorem mirror_alike {xs : Array Keyed} {i j k : Nat} (hj : j ≤ xs.size) (h : ∀ p, i ≤ p → p < j → K xs p = K xs (j - 1)) : K (mirror xs i j ((j - i) / 2)) k = K xs k := K_mirror_equal hj h k
theorem dscL_ok {st₀ st : SortSt} {lo n nr : Nat} {Q : Option (Option Nat) × Nat × Nat → SortSt → Prop} (hk : kindOf st₀ = Ranks.κ) (hI : KeysIn (arrOf st₀)) (hm : Moved lo st₀ st) (h1 : 1 ≤ n) (h2 : n ≤ nr) (h3 : lo + nr ≤ (arrOf st₀).size) (hd : Dn (arrOf st) lo (lo + n))
    (h : ∀ m e st', Moved lo st₀ st' → n ≤ m → m ≤ nr → Dn (arrOf st') lo (lo + m) → e + 1 ≤ m → (∀ i, lo + m - (e + 1) ≤ i → i < lo + m → K (arrOf st') i = K (arrOf st') (lo + m - 1)) → Q (none, m, e) st') : wpS (model prog w) A E s (dscL lo n nr) Q st := by
  unfold dscL
  refine wpS_forRange (I := fun x c z => ∃ e, c = (none, x, e) ∧ Moved lo st₀ z ∧ Dn (arrOf z) lo (lo + x) ∧ e + 1 ≤ x ∧ (∀ i, lo + x - (e + 1) ≤ i → i < lo + x → K (arrOf z) i = K (arrOf z) (lo + x - 1))) ?_ ?_ ⟨0, rfl, hm, hd, by omega, fun i g1 g2 => by congr 1; omega⟩
  · rintro x c z hx1 hx2 ⟨e, rfl, hm, hd, he, ha⟩
    have hsz := hm.size
    have hk' := hm.kind.trans hk
    have hI' := int_perm hI hm.perm
    dsimp only
    refine wpS_bind (wpS_ltI hk' hI' (by omega) (by omega) ?_)
    by_cases hl : K (arrOf z) (lo + x) < K (arrOf z) (lo + x - 1)
    · rw [decide_eq_true hl]
      dsimp only
      rw [if_pos rfl]
      by_cases h0 : e > 0
      · rw [if_pos h0]
        refine wpS_bind (wpS_reverse (wpS_pure ⟨0, rfl, hm.trans (moved_mirror (by omega) (by omega)), ?_, by omega, fun i g1 g2 => by congr 1; omega⟩))
        intro p q g1 g2 g3
        show K (mirror (arrOf z) _ _ _) q ≤ K (mirror (arrOf z) _ _ _) p
        rw [mirror_alike (by omega) ha, mirror_alike (by omega) ha]
        exact (hd.more (by omega) (Int.le_of_lt hl)) p q g1 g2 (by omega)
      · rw [if_neg h0]
        exact wpS_pure ⟨0, rfl, hm, hd.more (by omega) (Int.le_of_lt hl), by omega, fun i g1 g2 => by congr 1; omega⟩
    · rw [decide_eq_false hl]
      dsimp only
      rw [if_neg Bool.false_ne_true]
      refine wpS_bind (wpS_ltI hk' hI' (by omega) (by omega) ?_)
      by_cases hg : K (arrOf z) (lo + x - 1) < K (arrOf z) (lo + x)
      · rw [decide_eq_true hg]
        exact wpS_pure (h x e z hm hx1 (by omega) hd he ha)
      · rw [decide_eq_false hg]
        have eq : K (arrOf z) (lo + x) = K (arrOf z) (lo + x - 1) := by omega
        refine wpS_pure ⟨e + 1, rfl, hm, hd.more (by omega) (by omega), by omega, fun i g1 g2 => ?_⟩
        rw [show lo + (x + 1) - 1 = lo + x by omega]
        rcases Nat.lt_or_ge i (lo + x) with z1 | z1
        · rw [eq]; exact ha i (by omega) z1
        · have : i = lo + x := by omega
          rw [this]
  · rintro c z ⟨e, rfl, hm, hd, he, ha⟩
    rw [show max n nr = nr by omega] at hd he ha ⊢
    exact h nr e z hm h2 (Nat.le_refl _) hd he ha
theorem partL_ok {st₀ st : SortSt} {lo n nr : Nat} {Q : Option Nat → SortSt → Prop} (hk : kindOf st₀ = Ranks.κ) (hI : KeysIn (arrOf st₀)) (hm : Moved lo st₀ st) (h2 : n + 1 ≤ nr) (h3 : lo + nr ≤ (arrOf st₀).size) (hd : Dn (arrOf st) lo (lo + (n + 1)))
    (h : ∀ m st', Moved lo st₀ st' → 1 ≤ m → m ≤ nr → Up (arrOf st') lo (lo + m) → Q (some m) st') : wpS (model prog w) A E s (partL lo n nr) Q st := by
  unfold partL
  refine wpS_bind (wpS_lift (wpAny_rule ⟨rfl, ?_⟩))
  refine wpS_bind (dscL_ok hk hI hm (by omega) h2 h3 hd fun m e z hm hx1 hx2 hd he ha => ?_)
  have hsz := hm.size
  dsimp only
  by_cases h0 : e > 0
  · rw [if_pos h0]
    refine wpS_bind (wpS_reverse (tailL_ok hk hI (hm.trans (moved_mirror (by omega) (by omega))) (by omega) hx2 h3 ?_ h))
    intro p q g1 g2 g3
    show K (mirror (arrOf z) _ _ _) q ≤ K (mirror (arrOf z) _ _ _) p
    rw [mirror_alike (by omega) ha, mirror_alike (by omega) ha]
    exact hd p q g1 g2 g3
  · rw [if_neg h0]
    exact tailL_ok hk hI hm (by omega) hx2 h3 hd h
theorem wpS_countL {st : SortSt} {lo nr : Nat} {Q : Option Nat → SortSt → Prop} (hk : kindOf st = Ranks.κ) (hI : KeysIn (arrOf st)) (h1 : 1 ≤ nr) (h3 : lo + nr ≤ (arrOf st).size)
    (h : ∀ m st', Moved lo st st' → 1 ≤ m → m ≤ nr → Up (arrOf st') lo (lo + m) → Q (some m) st') : wpS (model prog w) A E s (countRun' lo nr) Q st := by
  rw [countL_eq]
  refine wpS_bind (ascL_ok hk hI (Nat.le_refl 1) h1 h3 (Up.one _ _) fun n n1 n2 hu ho => ?_)
  dsimp only
  by_cases e : n = nr
  · rw [if_pos (by simpa using e)]
    exact wpS_pure (h n st Moved.rfl n1 n2 hu)
  · rw [if_neg (by simpa using e)]
    have hl := ho.resolve_left e
    by_cases g : n > 1
    · rw [if_pos g]
      refine wpS_bind (wpS_ltI hk hI (by omega) (by omega) ?_)
      by_cases hr : K (arrOf st) lo < K (arrOf st) (lo + n - 1)
      · rw [decide_eq_true hr]
        exact wpS_pure (h n st Moved.rfl n1 n2 hu)
      · rw [decide_eq_false hr]
        dsimp only
        rw [if_neg Bool.false_ne_true]
        have ha : ∀ p, lo ≤ p → p < lo + n → K (arrOf st) p = K (arrOf st) (lo + n - 1) := fun p p1 p2 => by
          have a1 := hu lo p (by omega) p1 p2
          have a2 := hu p (lo + n - 1) p1 (by omega) (by omega)
          omega
        refine wpS_bind (wpS_reverse (partL_ok hk hI (moved_mirror (Nat.le_refl _) (by omega)) (by omega) h3 ?_ h))
        intro p q g1 g2 g3
        show K (mirror (arrOf st) _ _ _) q ≤ K (mirror (arrOf st) _ _ _) p
        rw [mirror_alike (by omega) ha, mirror_alike (by omega) ha]
        have d0 : Dn (arrOf st) lo (lo + n) := fun p q g1 g2 g3 => by rw [ha p g1 (by omega), ha q (by omega) g3]; exact Int.le_refl _
        exact (d0.more (by omega) (Int.le_of_lt hl)) p q g1 g2 (by omega)
    · rw [if_neg g]
      have : n = 1 := by omega
      subst this
      refine partL_ok hk hI Moved.rfl (by omega) h3 ?_ h
      have d0 : Dn (arrOf st) lo (lo + 1) := fun p q g1 g2 g3 => by
        have : p = q := by omega
        rw [this]; exact Int.le_refl _
      exact d0.more (by omega) (Int.le_of_lt hl)
theorem wpS_binL {st : SortSt} {lo n ok : Nat} {Q : Bool → SortSt → Prop} (hk : kindOf st = Ranks.κ) (hI : KeysIn (arrOf st)) (h1 : 1 ≤ ok) (h2 : ok ≤ n) (h3 : lo + n ≤ (arrOf st).size) (hu : Up (arrOf st) lo (lo + ok))
    (h : ∀ st', Moved lo st st' → Up (arrOf st') lo (lo + n) → Q true st') : wpS (model prog w) A E s (binarySort' lo n ok) Q st := by
  rw [binarySort'_eq]
  refine wpS_bind (wpS_mono (wpS_forRange (I := fun x c z => c = (none, ()) ∧ Moved lo st z ∧ Up (arrOf z) lo (lo + x)) (Q := fun c z => c = (none, ()) ∧ Moved lo st z ∧ Up (arrOf z) lo (lo + n)) ?_ ?_ ⟨rfl, Moved.rfl, by rw [show max ok 1 = ok by omega]; exact hu⟩) ?_)
  · rintro x c z hx1 hx2 ⟨rfl, hm, u⟩
    have hsz := hm.size
    have hk' := hm.kind.trans hk
    have hI' := int_perm hI hm.perm
    refine wpS_bind (wpS_mono (wpS_forRange (I := fun y c z' => z' = z ∧ ∃ l r, c = (none, l, r) ∧ l ≤ r ∧ r ≤ x ∧ r - l ≤ x - y ∧ (∀ i, lo ≤ i → i < lo + l → K (arrOf z) i ≤ K (arrOf z) (lo + x)) ∧ (∀ i, lo + r ≤ i → i < lo + x → K (arrOf z) (lo + x) < K (arrOf z) i))
      (Q := fun c z' => z' = z ∧ ∃ l r, c = (none, l, r) ∧ l ≤ x ∧ (∀ i, lo ≤ i → i < lo + l → K (arrOf z) i ≤ K (arrOf z) (lo + x)) ∧ (∀ i, lo + l ≤ i → i < lo + x → K (arrOf z) (lo + x) < K (arrOf z) i)) ?_ ?_ ⟨rfl, 0, x, rfl, by omega, by omega, by omega, fun i _ _ => by omega, fun i _ _ => by omega⟩) ?_)
    · rintro y c z' _ hy ⟨rfl, l, r, rfl, i1, i2, i3, i4, i5⟩
      dsimp only
      by_cases hlr : l ≥ r
      · rw [if_pos hlr]
        have : l = r := by omega
        subst this
        exact wpS_pure ⟨rfl, l, l, rfl, i2, i4, i5⟩
      · rw [if_neg hlr]
        refine wpS_bind (wpS_ltI hk' hI' (by omega) (by omega) ?_)
        by_cases hl : K (arrOf z') (lo + x) < K (arrOf z') (lo + (l + r) / 2)
        · rw [decide_eq_true hl]
          exact wpS_pure ⟨rfl, l, (l + r) / 2, rfl, by omega, by omega, by omega, i4, fun i g1 g2 => Int.lt_of_lt_of_le hl (u _ i (by omega) g1 g2)⟩
        · rw [decide_eq_false hl]
          exact wpS_pure ⟨rfl, (l + r) / 2 + 1, r, rfl, by omega, by omega, by omega, fun i g1 g2 => Int.le_trans (u i (lo + (l + r) / 2) g1 (by omega) (by omega)) (Int.not_lt.mp hl), i5⟩
    · rintro c z' ⟨rfl, l, r, rfl, i1, i2, i3, i4, i5⟩
      have : l = r := by omega
      subst this
      exact ⟨rfl, l, l, rfl, i2, i4, i5⟩
    · rintro c z' ⟨rfl, l, r, rfl, i2, i4, i5⟩
      show wpS _ _ _ _ (do moveDown' (lo + x) (lo + l); pure (ForInStep.yield (none, ()))) _ _
      rw [moveDown'_eq]
      have hx : lo + x < (arrOf z').size := by omega
      have kb : ∀ k, K (bubble (arrOf z') (lo + x) (lo + x - (lo + l))) k = if k = lo + l then K (arrOf z') (lo + x) else if lo + l < k ∧ k ≤ lo + x then K (arrOf z') (k - 1) else K (arrOf z') k := fun k => by
        rw [K_bubble hx (by omega), show lo + x - (lo + x - (lo + l)) = lo + l by omega]
      refine wpS_bind (wpS_modify (wpS_pure ⟨rfl, hm.trans ⟨rfl, rfl, rfl, bubble_perm _ _ _, fun k hk => ?_⟩, fun p q g1 g2 g3 => ?_⟩))
      · show K (bubble _ _ _) k = _
        rw [kb, if_neg (by omega), if_neg (by omega)]
      · show K (bubble _ _ _) p ≤ K (bubble _ _ _) q
        rw [kb, kb]
        repeat' split
        all_goals first
          | (exfalso; omega)
          | exact Int.le_refl _
          | exact i4 _ (by omega) (by omega)
          | exact Int.le_of_lt (i5 _ (by omega) (by omega))
          | exact u _ _ (by omega) (by omega) (by omega)
  · rintro c z ⟨rfl, hm, u⟩
    rw [show max (max ok 1) n = n by omega] at u
    exact ⟨rfl, hm, u⟩
  · rintro c z ⟨rfl, hm, u⟩
    exact wpS_pure (h z hm u)
end
end MwSortR
set_option maxHeartbeats 2000000
namespace MwSortR
open PySem PyProof.Rows
variable [Ranks]
def Runs (xs : Array Keyed) : Nat → List (Nat × Nat × Nat) → Nat → Prop
  | s, [], e => s = e
  | s, c :: l, e => c.1 = s ∧ 1 ≤ c.2.1 ∧ Up xs s (s + c.2.1) ∧ Runs xs (s + c.2.1) l e
theorem Runs.le {xs : Array Keyed} : ∀ {l : List (Nat × Nat × Nat)} {s e : Nat}, Runs xs s l e → s + l.length ≤ e
  | [], s, e, h => by have : s = e := h; simp [this]
  | c :: l, s, e, h => by
    have := Runs.le h.2.2.2
    have h1 := h.2.1
    rw [List.length_cons]
    omega
theorem Up.congr {xs ys : Array Keyed} {i j : Nat} (h : ∀ k, i ≤ k → k < j → K ys k = K xs k) (u : Up xs i j) : Up ys i j := fun p q h1 h2 h3 => by
  rw [h p h1 (by omega), h q (by omega) h3]; exact u p q h1 h2 h3
theorem Runs.congr {xs ys : Array Keyed} : ∀ {l : List (Nat × Nat × Nat)} {s e : Nat}, (∀ k, s ≤ k → k < e → K ys k = K xs k) → Runs xs s l e → Runs ys s l e
  | [], s, e, _, r => r
  | c :: l, s, e, h, r => by
    have := Runs.le r.2.2.2
    exact ⟨r.1, r.2.1, r.2.2.1.congr fun k h1 h2 => h k h1 (by omega), Runs.congr (fun k h1 h2 => h k (by omega) h2) r.2.2.2⟩
theorem Runs.push {xs : Array Keyed} {n q : Nat} : ∀ {l : List (Nat × Nat × Nat)} {s e : Nat}, Runs xs s l e → 1 ≤ n → Up xs e (e + n) → Runs xs s (l ++ [(e, n, q)]) (e + n)
  | [], s, e, r, h, u => by
    have : s = e := r
    subst this
    exact ⟨rfl, h, u, rfl⟩
  | c :: l, s, e, r, h, u => ⟨r.1, r.2.1, r.2.2.1, Runs.push r.2.2.2 h u⟩
theorem Runs.mod {xs : Array Keyed} (f : Nat × Nat × Nat → Nat × Nat × Nat) (hf : ∀ c, (f c).1 = c.1 ∧ (f c).2.1 = c.2.1) : ∀ {l : List (Nat × Nat × Nat)} {i s e : Nat}, Runs xs s l e → Runs xs s (l.modify i f) e
  | [], i, s, e, r => by cases i <;> exact r
  | c :: l, 0, s, e, r => by
    show (f c).1 = s ∧ 1 ≤ (f c).2.1 ∧ Up xs s (s + (f c).2.1) ∧ Runs xs (s + (f c).2.1) l e
    rw [(hf c).1, (hf c).2]
    exact r
  | c :: l, i + 1, s, e, r => ⟨r.1, r.2.1, r.2.2.1, Runs.mod f hf r.2.2.2⟩
theorem Runs.two {xs : Array Keyed} : ∀ {l : List (Nat × Nat × Nat)} {i s e : Nat}, Runs xs s l e → i + 1 < l.length →
    ∃ p m pw n pw2, l[i]? = some (p, m, pw) ∧ l[i + 1]? = some (p + m, n, pw2) ∧ 1 ≤ m ∧ 1 ≤ n ∧ s ≤ p ∧ p + m + n ≤ e ∧ Up xs p (p + m) ∧ Up xs (p + m) (p + m + n) ∧
      ∀ ys, (∀ k, k < p ∨ p + m + n ≤ k → K ys k = K xs k) → Up ys p (p + m + n) → Runs ys s ((l.set i (p, m + n, pw)).eraseIdx (i + 1)) e
  | [], i, s, e, r, h => by simp at h
  | [c], 0, s, e, r, h => by simp at h
  | (p, m, pw) :: (q, n, pw2) :: l, 0, s, e, r, h => by
    obtain ⟨h1, h2, h3, h4, h5, h6, h7⟩ := r
    dsimp only at h1 h2 h3 h4 h5 h6 h7
    subst h1
    have := Runs.le h7
    refine ⟨p, m, pw, n, pw2, rfl, by rw [← h4]; rfl, h2, h5, Nat.le_refl _, by omega, h3, h6, fun ys hy hu => ?_⟩
    show p = p ∧ 1 ≤ m + n ∧ Up ys p (p + (m + n)) ∧ Runs ys (p + (m + n)) l e
    rw [← Nat.add_assoc]
    exact ⟨rfl, by omega, hu, h7.congr fun k a b => hy k (.inr a)⟩
  | c :: l, i + 1, s, e, r, h => by
    obtain ⟨p, m, pw, n, pw2, g1, g2, g3, g4, g5, g6, g7, g8, g9⟩ := Runs.two (i := i) r.2.2.2 (by simpa using h)
    refine ⟨p, m, pw, n, pw2, by simpa using g1, by simpa using g2, g3, g4, by omega, g6, g7, g8, fun ys hy hu => ?_⟩
    exact ⟨r.1, r.2.1, r.2.2.1.congr fun k a b => hy k (.inl (by omega)), g9 ys hy hu⟩
section
variable {prog : Program} {w : World} {A : Around} {E : Value → Shared → Prop} {s : Shared} [CmpOk prog w A s]
structure SInv (a₀ : Array Keyed) (lo : Nat) (st : SortSt) : Prop where
  kind : kindOf st = Ranks.κ
  failed : failedOf st = none
  perm : (arrOf st).Perm a₀
  runs : Runs (arrOf st) 0 (pendingOf st).toList lo
theorem SInv.merge {a₀ : Array Keyed} {lo i : Nat} {st : SortSt} {Q : Bool → SortSt → Prop} (hI : KeysIn a₀) (h : SInv a₀ lo st) (hlo : lo ≤ a₀.size) (hi : i + 1 < (pendingOf st).size)
    (hq : ∀ st', SInv a₀ lo st' → (pendingOf st').size + 1 = (pendingOf st).size → (∀ k, lo ≤ k → K (arrOf st') k = K (arrOf st) k) → Q true st') : wpS (model prog w) A E s (mergeAt' i) Q st := by
  obtain ⟨p, m, pw, n, pw2, g1, g2, g3, g4, g5, g6, g7, g8, g9⟩ := h.runs.two (i := i) (by simpa using hi)
  have hsz := h.perm.size_eq
  refine wpS_mergeAt h.kind h.failed (int_perm hI h.perm) (by simpa using g1) (by simpa using g2) g3 g4 (by omega) g7 g8 fun st' hJ hp => hq st' ⟨hJ.kind.trans h.kind, hJ.failed.trans h.failed, ?_, ?_⟩ ?_ fun k hk => hJ.out k (.inr (by omega))
  · exact (Array.perm_iff_toList_perm.mpr hJ.perm).trans h.perm
  · rw [hp]
    have e : (((pendingOf st).setIfInBounds i (p, m + n, pw)).eraseIdxIfInBounds (i + 1)).toList = ((pendingOf st).toList.set i (p, m + n, pw)).eraseIdx (i + 1) := by simp
    rw [e]
    exact g9 _ hJ.out hJ.up
  · have e : (((pendingOf st).setIfInBounds i (p, m + n, pw)).eraseIdxIfInBounds (i + 1)).toList = ((pendingOf st).toList.set i (p, m + n, pw)).eraseIdx (i + 1) := by simp
    rw [hp, ← Array.length_toList, e, List.length_eraseIdx, List.length_set, if_pos (by simpa using hi), Array.length_toList]
    omega
theorem wpS_sortAll {st : SortSt} {a₀ : Array Keyed} {Q : Unit → SortSt → Prop} (hI : KeysIn a₀) (hp : (arrOf st).Perm a₀) (hk : kindOf st = Ranks.κ) (hf : failedOf st = none) (hpe : pendingOf st = #[])
    (h : ∀ st', (arrOf st').Perm a₀ → failedOf st' = none → SortedTo (arrOf st') a₀.size → Q () st') : wpS (model prog w) A E s sortRuns' Q st := by
  rw [sortRuns'_eq]
  refine wpS_bind (wpS_get ?_)
  dsimp only
  have hsz := hp.size_eq
  rw [hsz]
  generalize minRun' a₀.size a₀.size 0 = mr
  refine wpS_bind (wpS_mono (wpS_forRange (I := fun x c z => ∃ lo, c = (none, lo) ∧ x ≤ lo ∧ lo ≤ a₀.size ∧ SInv a₀ lo z) (Q := fun c z => c.1 = none ∧ SInv a₀ a₀.size z) ?_ ?_ ⟨0, rfl, Nat.le_refl _, Nat.zero_le _, hk, hf, hp, by rw [hpe]; rfl⟩) ?_)
  · rintro x c z _ hx ⟨lo, rfl, i1, i2, i3⟩
    dsimp only
    by_cases hlo : lo ≥ a₀.size
    · rw [if_pos hlo]
      have : lo = a₀.size := by omega
      subst this
      exact wpS_pure ⟨rfl, i3⟩
    · rw [if_neg hlo]
      have hz := i3.perm.size_eq
      refine wpS_bind (wpS_countL i3.kind (int_perm hI i3.perm) (by omega) (by omega) fun m z1 hm m1 m2 mu => ?_)
      dsimp only
      have keep : ∀ z2 : SortSt, Moved lo z z2 → SInv a₀ lo z2 := fun z2 hm => ⟨hm.kind.trans i3.kind, hm.failed.trans i3.failed, hm.perm.trans i3.perm, by rw [hm.pend]; exact i3.runs.congr fun k _ hk => hm.out k hk⟩
      have fin : ∀ (n : Nat) (z2 : SortSt), 1 ≤ n → lo + n ≤ a₀.size → SInv a₀ lo z2 → Up (arrOf z2) lo (lo + n) → wpS (model prog w) A E s (do
            modify fun y => setPending y ((pendingOf y).push (lo, n, 0))
            (pure (ForInStep.yield ((none, lo + n) : Option Unit × Nat)) : StateT SortSt Sem (ForInStep (Option Unit × Nat)))) (fun r st' => match r with | .done c' => c'.1 = none ∧ SInv a₀ a₀.size st' | .yield c' => ∃ lo, c' = (none, lo) ∧ x + 1 ≤ lo ∧ lo ≤ a₀.size ∧ SInv a₀ lo st') z2 := fun n z2 n1 n2 hi hu => by
        refine wpS_bind (wpS_modify (wpS_pure ⟨lo + n, rfl, by omega, n2, hi.kind, hi.failed, hi.perm, ?_⟩))
        show Runs (arrOf z2) 0 ((pendingOf z2).push (lo, n, 0)).toList (lo + n)
        rw [Array.toList_push]
        exact hi.runs.push n1 hu
      have back : ∀ (n : Nat) (z2 : SortSt), 1 ≤ n → lo + n ≤ a₀.size → SInv a₀ lo z2 → Up (arrOf z2) lo (lo + n) → ∀ (pw : Nat) (f : Nat → Option Unit × Unit → StateT SortSt Sem (ForInStep (Option Unit × Unit))),
          (∀ y c, f y c = do
            let g ← get
            match (if (pendingOf g).size > 1 then (pendingOf g)[(pendingOf g).size - 2]? else none) with
            | some (_, _, older) => if older ≤ pw then pure (.done (none, ())) else do
                let r ← mergeAt' ((pendingOf g).size - 2)
                if (!r) = true then pure (.done (some (), ())) else pure (.yield (none, ()))
            | _ => pure (.done (none, ()))) →
          wpS (model prog w) A E s (forIn [:a₀.size] (none, ()) f) (fun c z3 => c = (none, ()) ∧ SInv a₀ lo z3 ∧ Up (arrOf z3) lo (lo + n)) z2 := fun n z2 n1 n2 hi hu pw f hf => by
        refine wpS_forRange (I := fun _ c z3 => c = (none, ()) ∧ SInv a₀ lo z3 ∧ Up (arrOf z3) lo (lo + n)) ?_ (fun c z3 hc => hc) ⟨rfl, hi, hu⟩
        rintro y c z3 _ hy ⟨rfl, hi, hu⟩
        rw [hf]
        refine wpS_bind (wpS_get ?_)
        by_cases h1 : (pendingOf z3).size > 1
        · rw [if_pos h1]
          have e : (pendingOf z3)[(pendingOf z3).size - 2]? = some (pendingOf z3)[(pendingOf z3).size - 2] := getElem?_pos _ _ (by omega)
          rw [e]
          dsimp only
          by_cases ho : (pendingOf z3)[(pendingOf z3).size - 2].2.2 ≤ pw
          · rw [if_pos ho]
            exact wpS_pure ⟨rfl, hi, hu⟩
          · rw [if_neg ho]
            refine wpS_bind (hi.merge hI i2 (by omega) fun z4 hi4 _ hk4 => ?_)
            exact wpS_pure ⟨rfl, hi4, hu.congr fun k a b => hk4 k a⟩
        · rw [if_neg h1]
          exact wpS_pure ⟨rfl, hi, hu⟩
      by_cases hn : m < mr
      · rw [if_pos hn]
        refine wpS_bind (wpS_lift (wpAny_rule ⟨rfl, ?_⟩))
        have hz1 := hm.size
        refine wpS_bind (wpS_binL (hm.kind.trans i3.kind) (int_perm hI (hm.perm.trans i3.perm)) m1 (by omega) (by omega) mu fun z2 hm2 mu2 => ?_)
        simp only [Bool.not_true, Bool.false_eq_true, if_false]
        refine wpS_bind (wpS_get ?_)
        have hi2 := keep z2 (hm.trans hm2)
        cases eb : (pendingOf z2).back? with
        | none => exact fin _ z2 (by omega) (by omega) hi2 mu2
        | some t =>
          obtain ⟨s1, n1, t1⟩ := t
          dsimp only
          refine wpS_bind (wpS_mono (back _ z2 (by omega) (by omega) hi2 mu2 _ _ (fun y c => rfl)) ?_)
          rintro c z3 ⟨rfl, hi3, mu3⟩
          dsimp only
          refine wpS_bind (wpS_modify ?_)
          refine fin _ _ (by omega) (by omega) ⟨hi3.kind, hi3.failed, hi3.perm, ?_⟩ mu3
          show Runs (arrOf z3) 0 ((pendingOf z3).modify _ _).toList lo
          rw [Array.toList_modify]
          refine hi3.runs.mod _ ?_
          exact fun c => ⟨rfl, rfl⟩
      · rw [if_neg hn]
        refine wpS_bind (wpS_get ?_)
        have hi2 := keep z1 hm
        cases eb : (pendingOf z1).back? with
        | none => exact fin _ z1 (by omega) (by omega) hi2 mu
        | some t =>
          obtain ⟨s1, n1, t1⟩ := t
          dsimp only
          refine wpS_bind (wpS_mono (back _ z1 (by omega) (by omega) hi2 mu _ _ (fun y c => rfl)) ?_)
          rintro c z3 ⟨rfl, hi3, mu3⟩
          dsimp only
          refine wpS_bind (wpS_modify ?_)
          refine fin _ _ (by omega) (by omega) ⟨hi3.kind, hi3.failed, hi3.perm, ?_⟩ mu3
          show Runs (arrOf z3) 0 ((pendingOf z3).modify _ _).toList lo
          rw [Array.toList_modify]
          refine hi3.runs.mod _ ?_
          exact fun c => ⟨rfl, rfl⟩
  · rintro c z ⟨lo, rfl, i1, i2, i3⟩
    have : lo = a₀.size := by omega
    subst this
    exact ⟨rfl, i3⟩
  · rintro ⟨c1, c2⟩ z ⟨e, hi⟩
    dsimp only at e
    subst e
    dsimp only
    have hle := hi.runs.le
    simp only [Array.length_toList, Nat.zero_add] at hle
    refine wpS_bind (wpS_mono (wpS_forRange (I := fun x c z => c = (none, ()) ∧ SInv a₀ a₀.size z ∧ (pendingOf z).size + x ≤ a₀.size) (Q := fun c z => c = (none, ()) ∧ SInv a₀ a₀.size z ∧ (pendingOf z).size ≤ 1) ?_ ?_ ⟨rfl, hi, hle⟩) ?_)
    · rintro x c z _ hx ⟨rfl, hi, hs⟩
      refine wpS_bind (wpS_get ?_)
      by_cases h1 : (pendingOf z).size ≤ 1
      · rw [if_pos h1]
        exact wpS_pure ⟨rfl, hi, h1⟩
      · rw [if_neg h1]
        refine wpS_bind (hi.merge hI (Nat.le_refl _) ?_ fun z4 hi4 hs4 _ => wpS_pure ⟨rfl, hi4, by omega⟩)
        repeat' split
        all_goals omega
    · rintro c z ⟨rfl, hi, hs⟩
      exact ⟨rfl, hi, by omega⟩
    · rintro c z ⟨rfl, hi, hs⟩
      refine wpS_pure (h z hi.perm hi.failed ?_)
      have hr := hi.runs
      match e : (pendingOf z).toList, hr with
      | [], hr =>
        have : 0 = a₀.size := hr
        intro i j _ hj
        omega
      | [c], hr =>
        obtain ⟨h1, h2, h3, h4⟩ := hr
        have h4' : 0 + c.2.1 = a₀.size := h4
        rw [h4'] at h3
        exact fun i j hij hj => h3 i j (Nat.zero_le _) hij hj
      | c :: d :: l, hr =>
        have : (pendingOf z).toList.length = (c :: d :: l).length := by rw [e]
        simp at this
        omega
end
end MwSortR
set_option maxHeartbeats 2000000
namespace MwSort
open PySem PyProof.Rows
section
variable {prog : Program} {w : World} {A : Around} {E : Value → Shared → Prop} {s : Shared}
def intRanks : MwSortR.Ranks := ⟨numOf, oneType', fun v => ∃ n t, v = .int n t⟩
theorem int_cmp : @MwSortR.CmpOk intRanks prog w A s := by
  letI := intRanks
  refine ⟨fun x y Q E hx hy q => ?_⟩
  obtain ⟨n, t, rfl⟩ := hx
  obtain ⟨m, u, rfl⟩ := hy
  show wpAny _ _ (keyLt' oneType' (.int n t) (.int m u)) Q E s
  rw [keyLt'_oneType]
  exact oneLt_int q
theorem wpS_sortAll {st : SortSt} {a₀ : Array Keyed} {Q : Unit → SortSt → Prop} (hI : IntKeys a₀) (hp : (arrOf st).Perm a₀) (hk : kindOf st = oneType') (hf : failedOf st = none) (hpe : pendingOf st = #[])
    (h : ∀ st', (arrOf st').Perm a₀ → failedOf st' = none → SortedTo (arrOf st') a₀.size → Q () st') : wpS (model prog w) A E s sortRuns' Q st := by
  letI := intRanks
  haveI : MwSortR.CmpOk prog w A s := int_cmp
  exact MwSortR.wpS_sortAll (fun p hp => hI p hp) hp hk hf hpe h
theorem sortedHeap_keep {h : Heap} {a : Addr} {vs : List Value} {out : Array Value} {b : Addr} {o : Obj} (hb : b ≠ a) (e : h.get? b = some o) : (sortedHeap h a vs out).get? b = some o := by
  unfold sortedHeap
  rw [Heap.get?_update_other _ _ hb.symm]
  refine Heap.get?_push_of_some _ (Heap.get?_push_of_some _ ?_)
  rw [Heap.get?_update_other _ _ hb.symm]
  exact e
theorem sortedHeap_at {h : Heap} {a : Addr} {vs xs : List Value} {n : Nat} {out : Array Value} (e : h.get? a = some (seqObj "list" xs.toArray n)) : ∃ c, (sortedHeap h a vs out).get? a = some (seqObj "list" out c) := by
  have hlt : a < h.objs.size := Heap.lt_size e
  have e1 := get?_update_seq e fun _ => #[]
  have e2 := Heap.get?_push_of_some (seqObj "list" #[] 0) (Heap.get?_push_of_some (seqObj "tuple" vs.toArray 0) e1)
  exact ⟨_, get?_update_seq e2 fun _ => out⟩
theorem list_sort_any {a : Addr} {vs : List Value} {ns : List Int} {n : Nat} {P : Fin → Shared → Prop} (ho : s.heap.get? a = some (seqObj "list" vs.toArray n)) (hI : IntsAre vs ns) (hz : vs.length ≤ sizeLine)
    (h : ∀ (out : Array Value) (ms : List Int), IntsAre out.toList ms → ms.Perm ns → ms.Pairwise (· ≤ ·) → P (.done (.ret .none)) { s with heap := sortedHeap s.heap a vs out }) : wpAny (model prog w) A (Builtin.«list.sort» ⟨[.ref a], []⟩) P E s := by
  rw [list_sort_plain]
  have ha : a < s.heap.objs.size := Heap.lt_size ho
  have hzA : vs.toArray.size ≤ sizeLine := by rw [List.size_toArray]; exact hz
  refine wpAny_bind (listItems_at ho rfl (wpAny_bind (listUpdate_at ho rfl ?_ (hsz := hzA) (hsz2 := Nat.zero_le _))))
  obtain ⟨c1, g1⟩ : ∃ c, (s.heap.update a (Obj.mapSeq fun _ => #[])).get? a = some (seqObj "list" #[] c) := ⟨_, get?_update_seq ho fun _ => #[]⟩
  refine wpAny_bind (seqEpoch_at g1 rfl (wpAny_bind (wpAny_newTuple (wpAny_bind (wpAny_newList (wpAny_holding ?_))))))
  have g2 := Heap.get?_push_of_some (seqObj "list" #[] 0) (Heap.get?_push_of_some (seqObj "tuple" vs.toArray 0) g1)
  show wpAny (model prog w) A _ P E { s with heap := ((s.heap.update a (Obj.mapSeq fun _ => #[])).push (seqObj "tuple" vs.toArray 0)).push (seqObj "list" #[] 0) }
  dsimp only
  have hl : vs.toArray.size = vs.length := by simp
  have fin : ∀ z : SortSt, (arrOf z).Perm (pairsOf vs) → SortedTo (arrOf z) (pairsOf vs).size → P (.done (.ret .none)) { s with heap := sortedHeap s.heap a vs ((arrOf z).map (·.2)) } := fun z p q => by
    obtain ⟨ms, i1, i2, i3⟩ := sorted_out hI p q
    exact h _ ms i1 i2 i3
  by_cases few : vs.toArray.size < 2
  · rw [if_pos few, if_pos few]
    refine wpAny_bind (wpAny_pure ?_)
    rw [StateT.run_pure]
    refine wpAny_bind (wpAny_pure ?_)
    dsimp only
    refine wpAny_bind (seqEpoch_at g2 rfl (wpAny_bind (listUpdate_at g2 rfl ?_ (hsz := Nat.zero_le _) (hsz2 := ?_))))
    · simp only [bne_self_eq_false, Bool.false_eq_true, if_false]
      refine wpAny_pure (fin (SortSt.mk' general' (vs.toArray.zip vs.toArray) #[] 7 none) (Array.Perm.refl _) fun i j hij hj => ?_)
      rw [pairsOf_size] at hj
      have : i = j := by omega
      rw [this]; exact Int.le_refl _
    · rw [Array.size_map]
      show (pairsOf vs).size ≤ _
      rw [pairsOf_size]; omega
  · rw [if_neg few, if_neg few]
    obtain ⟨x, y, r, rfl⟩ : ∃ x y r, vs = x :: y :: r := by
      rcases vs with _ | ⟨x, _ | ⟨y, r⟩⟩
      · exact absurd (by simp) few
      · exact absurd (by simp) few
      · exact ⟨x, y, r, rfl⟩
    rw [keyKind_ints hI]
    refine wpAny_bind (wpAny_pure ?_)
    refine wpAny_bind (wpAny_mono (wpS_sortAll (a₀ := pairsOf (x :: y :: r)) (st := SortSt.mk' oneType' ((x :: y :: r).toArray.zip (x :: y :: r).toArray) #[] 7 none) (Q := fun _ z => (arrOf z).Perm (pairsOf (x :: y :: r)) ∧ failedOf z = none ∧ SortedTo (arrOf z) (pairsOf (x :: y :: r)).size)
      hI.intKeys (Array.Perm.refl _) rfl rfl rfl fun z b1 b2 b3 => ⟨b1, b2, b3⟩) ?_ fun _ _ e => e)
    rintro ⟨⟨⟩, z⟩ s' ⟨rfl, p, f, q⟩
    dsimp only
    refine wpAny_bind (seqEpoch_at g2 rfl (wpAny_bind (listUpdate_at g2 rfl ?_ (hsz := Nat.zero_le _) (hsz2 := ?_))))
    · rw [f]
      simp only [bne_self_eq_false, Bool.false_eq_true, if_false]
      exact wpAny_pure (fin z p q)
    · have := (Array.size_map (f := (·.2)) (xs := arrOf z)).trans (p.size_eq.trans (pairsOf_size _))
      rw [this]; omega
theorem sorted_any {v : Value} {ns : List Int} {Q : Value → Shared → Prop}
    (hc : ∀ R : List Value → Shared → Prop, (∀ (vs : List Value) (h₁ : Heap) (t : Nat) (dr : Drawn) (ks : List Int), IntsAre vs ks → ks.Perm ns → vs.length ≤ sizeLine → (∀ b o, s.heap.get? b = some o → h₁.get? b = some o) → R vs { s with heap := h₁, toks := t, drawn := dr }) → wpAny (model prog w) A.in1 (collect v) R E s)
    (h : ∀ (h₁ h' : Heap) (t : Nat) (dr : Drawn) (D : Addr) (c : Nat) (out : List Value) (ms : List Int), (∀ b o, s.heap.get? b = some o → h₁.get? b = some o) → (∀ b o, h₁.get? b = some o → h'.get? b = some o) → h₁.objs.size ≤ D → h'.get? D = some (seqObj "list" out.toArray c) → IntsAre out ms → ms.Perm ns → ms.Pairwise (· ≤ ·) → Q (.ref D) { s with heap := h', toks := t, drawn := dr }) :
    wpAny (model prog w) A (call (.builtin "sorted") [v]) Q E s := by
  refine Calls.call_function_entry kind_sorted plain_sorted entry_sorted (args_sorted1 _) ?_
  unfold Builtin.«sorted»
  refine wpAny_bind (m := checkCount "sorted" 1 1 _) (wpAny_pure (wpAny_bind (hc _ fun vs h₁ t dr ks hI hP hz hk => wpAny_bind (wpAny_newList ?_))))
  have g : (h₁.push (seqObj "list" vs.toArray 0)).get? h₁.objs.size = some (seqObj "list" vs.toArray 0) := Heap.get?_push_size _ rfl
  show wpAny _ _ _ _ _ { s with heap := h₁.push (seqObj "list" vs.toArray 0), toks := t, drawn := dr }
  refine wpAny_bind (wpAny_holding (wpAny_call_entry slot_list_sort ⟨_, g, rfl⟩ entry_list_sort (list_sort_any g hI hz fun out ms i1 i2 i3 => ⟨_, rfl, ?_⟩) (args_list_sort _)))
  obtain ⟨c, gc⟩ := sortedHeap_at (vs := vs) (out := out) g
  exact wpAny_pure ⟨_, rfl, h h₁ _ t dr _ c out.toList ms hk (fun b o e => sortedHeap_keep (Nat.ne_of_lt (Heap.lt_size e)) (Heap.get?_push_of_some _ e)) (Nat.le_refl _) (by simpa using gc) i1 (i2.trans hP) i3⟩
theorem sorted_seq {p : Addr} {T : String} {o : Obj} {vs : List Value} {n : Nat} {ns : List Int} {Q : Value → Shared → Prop} (hT : T = "list" ∨ T = "tuple") (ho : s.heap.get? p = some o) (hc : o.cls = .type T) (hd : o.data = .seq vs.toArray n) (hI : IntsAre vs ns) (hz : vs.length ≤ sizeLine)
    (h : ∀ (h₁ h' : Heap) (t : Nat) (dr : Drawn) (D : Addr) (c : Nat) (out : List Value) (ms : List Int), (∀ b o, s.heap.get? b = some o → h₁.get? b = some o) → (∀ b o, h₁.get? b = some o → h'.get? b = some o) → h₁.objs.size ≤ D → h'.get? D = some (seqObj "list" out.toArray c) → IntsAre out ms → ms.Perm ns → ms.Pairwise (· ≤ ·) → Q (.ref D) { s with heap := h', toks := t, drawn := dr }) :
    wpAny (model prog w) A (call (.builtin "sorted") [.ref p]) Q E s :=
  sorted_any (ns := ns) (fun R k => wpAny_collect_seq p hT ho hc hd (fun g e => k _ g s.toks s.drawn ns (by simpa using hI) (List.Perm.refl _) (by simpa using hz) e) (by simpa using hz)) h
end
end MwSort
set_option maxHeartbeats 2000000
namespace MwSet
open PySem
def Rs (xs : Array Nat) : Prop := xs.toList.Pairwise (· < ·)
structure TabOk (byText : Bool) (t : SetTable) : Prop where
  led : t.led = !byText
  rs : t.plain = true → Rs t.place
end MwSet
set_option maxHeartbeats 2000000
namespace MwSet
open PySem PyProof.Rows
def byT (w : World) : Bool := w.params.followText "set-order"
abbrev setObj (es : Array (Int × Value)) (ep : Nat) (t : SetTable) : Obj := { cls := .type "set", dict := none, data := .set es ep t, slots := #[] }
def nums (es : Array (Int × Value)) : List Int := es.toList.map fun e => numOf e.2
def IntEl (es : Array (Int × Value)) : Prop := ∀ e ∈ es.toList, ∃ k u, e = (hashInt k, Value.int k u)
def SetG (w : World) (h : Heap) (a : Addr) (ks : List Int) : Prop :=
  ∃ es ep t, h.get? a = some (setObj es ep t) ∧ IntEl es ∧ (nums es).Perm ks ∧ ks.Nodup ∧ es.size < scanBound ∧ t.fits es.size = true ∧ TabOk (byT w) t
theorem SetG.at {w : World} {h h' : Heap} {a : Addr} {ks : List Int} (S : SetG w h a ks) (k : ∀ o, h.get? a = some o → h'.get? a = some o) : SetG w h' a ks := let ⟨es, ep, t, e, r⟩ := S; ⟨es, ep, t, k _ e, r⟩
def withK (ks : List Int) (k : Int) : List Int := if k ∈ ks then ks else ks ++ [k]
theorem withK_nodup {ks : List Int} (h : ks.Nodup) (k : Int) : (withK ks k).Nodup := by
  unfold withK
  split
  · exact h
  · rename_i hk
    exact List.nodup_append.mpr ⟨h, by simp, fun x hx y hy => by
      have : y = k := by simpa using hy
      rw [this]
      exact fun z => hk (z ▸ hx)⟩
theorem mem_withK {ks : List Int} {k z : Int} : z ∈ withK ks k ↔ z ∈ ks ∨ z = k := by
  unfold withK
  split
  · rename_i hk
    constructor
    · exact .inl
    · rintro (h | rfl)
      · exact h
      · exact hk
  · simp
theorem withK_len (ks : List Int) (k : Int) : (withK ks k).length ≤ ks.length + 1 := by
  unfold withK
  split
  · omega
  · simp
end MwSet
set_option maxHeartbeats 3200000
namespace MwSet
open PySem PySem.Spec PyProof.Rows
def allK (ns : List Int) : List Int := ns.foldl withK []
theorem allK_snoc (ns : List Int) (k : Int) : allK (ns ++ [k]) = withK (allK ns) k := by unfold allK; rw [List.foldl_append]; rfl
theorem mem_allK {ns : List Int} {z : Int} : z ∈ allK ns ↔ z ∈ ns := by
  have : ∀ (l acc : List Int), z ∈ l.foldl withK acc ↔ z ∈ acc ∨ z ∈ l := fun l => by
    induction l with
    | nil => intro acc; simp
    | cons k l ih =>
      intro acc
      rw [List.foldl_cons, ih, mem_withK, List.mem_cons]
      constructor
      · rintro ((h | h) | h)
        · exact .inl h
        · exact .inr (.inl h)
        · exact .inr (.inr h)
      · rintro (h | h | h)
        · exact .inl (.inl h)
        · exact .inl (.inr h)
        · exact .inr h
  rw [show allK ns = ns.foldl withK [] from rfl, this]
  simp
theorem allK_len : ∀ ns : List Int, (allK ns).length ≤ ns.length := fun ns => by
  have : ∀ (l acc : List Int), (l.foldl withK acc).length ≤ acc.length + l.length := fun l => by
    induction l with
    | nil => intro acc; simp
    | cons k l ih =>
      intro acc
      have h1 := ih (withK acc k)
      have h2 := withK_len acc k
      rw [List.foldl_cons, List.length_cons]
      omega
  have := this ns []
  simpa [allK] using this
theorem allK_nodup (ns : List Int) : (allK ns).Nodup := by
  have : ∀ (l acc : List Int), acc.Nodup → (l.foldl withK acc).Nodup := fun l => by
    induction l with
    | nil => exact fun acc h => h
    | cons k l ih => exact fun acc h => ih _ (withK_nodup h k)
  exact this ns [] List.nodup_nil
end MwSet
set_option maxHeartbeats 3200000
namespace MwSet
open PySem PySem.Spec PyProof.Rows
end MwSet
set_option maxHeartbeats 3200000
namespace MwSet
open PySem PySem.Spec PyProof.Rows
section
variable {prog : Program} {w : World} {A : Around} {E : Value → Shared → Prop} {s : Shared}
theorem sorted_dict {K : Type} [DecidableEq K] {knd : KeyKind prog w K} {d : Addr} {kvs : List (K × Value)} {ep : Nat} {ks : List Int} {Q : Value → Shared → Prop} (hh : A.handled = none) (lo : (d == sysModules) = false) (hd : s.heap.DictAt knd d kvs ep) (hz : kvs.length ≤ sizeLine)
    (hks : ∀ (i : Nat) (k : K) (x v : Value), kvs[i]? = some (k, x) → knd.is k v = true → ∃ t, v = .int (ks.getD i 0) t) (hl : kvs.length = ks.length)
    (h : ∀ (h₁ h' : Heap) (t : Nat) (dr : Drawn) (D : Addr) (c : Nat) (out : List Value) (ms : List Int), (∀ b o, s.heap.get? b = some o → h₁.get? b = some o) → (∀ b o, h₁.get? b = some o → h'.get? b = some o) → h₁.objs.size ≤ D → h'.get? D = some (seqObj "list" out.toArray c) → IntsAre out ms → ms.Perm ks → ms.Pairwise (· ≤ ·) → Q (.ref D) { s with heap := h', toks := t, drawn := dr }) :
    wpAny (model prog w) A (call (.builtin "sorted") [.ref d]) Q E s := by
  refine MwSort.sorted_any (ns := ks) (fun R k => PySem.W.kdu_collect (PySem.W.kdl_dict lo) (by simp [hh]) hd hz fun h' tk acc hk hacc => k acc.toList h' tk s.drawn ks ?_ (List.Perm.refl _) ?_ hk) h
  · have hl1 : acc.size = kvs.length := hacc.1
    have : ∀ (vs : List Value) (ns : List Int), vs.length = ns.length → (∀ i v, vs[i]? = some v → ∃ t, v = Value.int (ns.getD i 0) t) → IntsAre vs ns := fun vs => by
      induction vs with
      | nil =>
        intro ns e _
        have : ns = [] := List.length_eq_zero_iff.mp (by simpa using e.symm)
        subst this; exact .nil
      | cons v vs ih =>
        intro ns e hv
        cases ns with
        | nil => cases e
        | cons n ns =>
          obtain ⟨t, et⟩ := hv 0 v rfl
          have et' : v = .int n t := et
          subst et'
          exact .cons n t (ih ns (by simpa using e) fun i u hu => hv (i + 1) u (by simpa using hu))
    refine this _ _ (by simp; omega) fun i v hv => ?_
    obtain ⟨k, x, e1, e2⟩ := hacc.2 i v (by rw [← Array.getElem?_toList]; exact hv)
    exact hks i k x v e1 e2
  · have hl1 : acc.size = kvs.length := hacc.1
    simp; omega
end
end MwSet
namespace L2
open PySem PySem.Spec PyProof.Rows
def sortI (ns : List Int) : List Int := ns.mergeSort fun a b => decide (a ≤ b)
theorem sortI_perm (ns : List Int) : (sortI ns).Perm ns := List.mergeSort_perm _ _
theorem sortI_rise (ns : List Int) : (sortI ns).Pairwise (· ≤ ·) := by
  have := List.pairwise_mergeSort (le := fun a b : Int => decide (a ≤ b)) (fun a b c h1 h2 => by simp at h1 h2 ⊢; omega) (fun a b => by simp; omega) ns
  exact this.imp fun {a b} h => by simpa using h
theorem sortI_len (ns : List Int) : (sortI ns).length = ns.length := (sortI_perm ns).length_eq
theorem rise_eq {a b : List Int} (hp : a.Perm b) (ha : a.Pairwise (· ≤ ·)) (hb : b.Pairwise (· ≤ ·)) : a = b := PySem.W.ksm_same hp ha hb
theorem sortI_eq {ms ns : List Int} (hp : ms.Perm ns) (hs : ms.Pairwise (· ≤ ·)) : ms = sortI ns := rise_eq (hp.trans (sortI_perm ns).symm) hs (sortI_rise ns)
theorem mem_sortI {ns : List Int} {x : Int} : x ∈ sortI ns ↔ x ∈ ns := (sortI_perm ns).mem_iff
theorem are_ints : ∀ {ns : List Int} {us : List Value}, Vals (ns.map V.int) us → IntsAre us ns
  | [], _, .nil => .nil
  | n :: ns, _, .cons r t => by
    obtain ⟨tk, rfl⟩ := r
    exact .cons n tk (are_ints t)
theorem ints_vals : ∀ {us : List Value} {ns : List Int}, IntsAre us ns → Vals (ns.map V.int) us
  | _, _, .nil => .nil
  | _, _, .cons n t h => .cons ⟨t, rfl⟩ (ints_vals h)
section
variable {X : Cx} {pins : List (Addr × Obj)} {σ : St} {H : Hp} {s : Shared}
theorem Inv.drew {d : Drawn} (I : Inv X pins σ H s) : Inv X pins σ H { s with drawn := d } := ⟨I.ok, I.os, I.bare, I.base, I.loc, I.cell, I.free, I.freeC, I.pin, I.hok, I.len⟩
theorem Inv.sorted {ns : List Int} {Q : VK} (I : Inv X pins σ H s) (hz : ns.length ≤ sizeLine) (q : ∀ l, H l = none → Q (.ref l) (upd H l (.lst ((sortI ns).map V.int)))) :
    ∀ (h₁ h' : Heap) (t : Nat) (dr : Drawn) (D : Addr) (c : Nat) (out : List Value) (ms : List Int), (∀ b o, s.heap.get? b = some o → h₁.get? b = some o) → (∀ b o, h₁.get? b = some o → h'.get? b = some o) → h₁.objs.size ≤ D → h'.get? D = some (seqObj "list" out.toArray c) → IntsAre out ms → ms.Perm ns → ms.Pairwise (· ≤ ·) →
      EP X pins σ Q (.ref D) { s with heap := h', toks := t, drawn := dr } := by
  intro h₁ h' t dr D c out ms k1 k2 hD hg hI hp hs
  have e := sortI_eq hp hs
  subst e
  have I1 : Inv X pins σ H { s with heap := h₁, toks := t, drawn := dr } := (I.kept (t' := t) k1).drew
  refine ⟨.ref D, _, I1.laid (t' := t) (o := .lst ((sortI ns).map V.int)) k2 hD ⟨?_, out, c, ints_vals hI, hg⟩, rfl, q D (I1.hok.fresh hD)⟩
  rw [List.length_map, sortI_len]
  exact hz
end
theorem bt_sorted : bootBuiltins "sorted" = some (.builtin "sorted") := by decide +kernel
section
variable {X : Cx}
def rSorted : List V → Hp → VK → Prop := fun xs H Q => ∃ (p : Addr) (ns : List Int), xs = [.ref p] ∧ (H p = some (.tup (ns.map V.int)) ∨ H p = some (.lst (ns.map V.int))) ∧ ∀ l, H l = none → Q (.ref l) (upd H l (.lst ((sortI ns).map V.int)))
theorem call_sorted : CallR X (.builtin "sorted") rSorted := by
  intro pins s σ H xs us Q I r h
  obtain ⟨p, ns, rfl, hp, q⟩ := h
  obtain ⟨u, rfl, e⟩ := vals1 r
  obtain rfl : u = Value.ref p := e
  rcases hp with hp | hp
  · obtain ⟨z, its, rv, o, ho, hc, n, hd⟩ := (show ObjOk X.prog X.w H s.heap p (.tup (ns.map V.int)) from I.hok p _ hp)
    have hl := rv.length
    rw [List.length_map] at z hl
    exact MwSort.sorted_seq (.inr rfl) ho hc hd (are_ints rv) (by omega) (I.sorted z q)
  · obtain ⟨z, its, n, rv, hg⟩ := (show ObjOk X.prog X.w H s.heap p (.lst (ns.map V.int)) from I.hok p _ hp)
    have hl := rv.length
    rw [List.length_map] at z hl
    exact MwSort.sorted_seq (.inl rfl) hg rfl rfl (are_ints rv) (by omega) (I.sorted z q)
end
end L2
namespace L2
open PySem PySem.Spec PyProof.Rows
end L2
namespace L2
open PySem PySem.Spec PyProof.Rows
end L2
namespace L2
open PySem PySem.Spec PyProof.Rows
end L2
namespace L2
open PySem PySem.Spec PyProof.Rows
end L2
namespace L2
open PySem PySem.Spec PyProof.Rows
end L2
namespace L2
open PySem PySem.Spec PyProof.Rows
end L2
namespace L2
open PySem PySem.Spec PyProof.Rows
end L2
namespace L2
open PySem PySem.Spec PyProof.Rows
end L2
namespace L2
open PySem PySem.Spec PyProof.Rows
end L2
namespace L2
open PySem PySem.Spec PyProof.Rows
end L2
namespace L2
open PySem PySem.Spec PyProof.Rows
section
variable {κ : Type} [DecidableEq κ]
def valV (kvs : List (κ × V)) (k : κ) : Option V := (kvs.find? fun kv => decide (kv.1 = k)).map (·.2)
def putK (kvs : List (κ × V)) (k : κ) (v : V) : List (κ × V) :=
  if (kvs.any fun kv => decide (kv.1 = k)) = true then kvs.map (fun kv => if kv.1 = k then (kv.1, v) else kv) else kvs ++ [(k, v)]
theorem valV_pos {p : κ × V} {r : List (κ × V)} {k : κ} (e : p.1 = k) : valV (p :: r) k = some p.2 := by simp [valV, List.find?_cons, e]
theorem valV_neg {p : κ × V} {r : List (κ × V)} {k : κ} (e : ¬ p.1 = k) : valV (p :: r) k = valV r k := by simp [valV, List.find?_cons, e]
theorem valV_any (k : κ) : ∀ kvs : List (κ × V), (kvs.any fun kv => decide (kv.1 = k)) = (valV kvs k).isSome
  | [] => rfl
  | p :: r => by
    rw [List.any_cons]
    by_cases e : p.1 = k
    · simp only [valV_pos e, decide_eq_true e, Bool.true_or, Option.isSome_some]
    · rw [valV_neg e, decide_eq_false e, Bool.false_or]; exact valV_any k r
theorem length_putK (kvs : List (κ × V)) (k : κ) (v : V) : (putK kvs k v).length ≤ kvs.length + 1 := by
  unfold putK
  split
  · rw [List.length_map]; omega
  · rw [List.length_append, List.length_cons, List.length_nil]; omega
theorem RelO.isSome_eq {o : Option V} {u : Option Value} (r : RelO o u) : o.isSome = u.isSome := by
  cases o with
  | none => cases u with
    | none => rfl
    | some _ => exact (show False from r).elim
  | some _ => cases u with
    | none => exact (show False from r).elim
    | some _ => rfl
theorem RelO.getD {o : Option V} {u : Option Value} {d : V} {d' : Value} (r : RelO o u) (rd : RelV d d') : RelV (o.getD d) (u.getD d') := by
  cases o with
  | none => cases u with
    | none => exact rd
    | some _ => exact (show False from r).elim
  | some _ => cases u with
    | none => exact (show False from r).elim
    | some _ => exact r
theorem KV.val {kvs : List (κ × V)} {vs : List (κ × Value)} (r : KV kvs vs) (k : κ) : RelO (valV kvs k) (valueAt vs k) := by
  unfold KV at r
  induction r with
  | nil => exact True.intro
  | @cons p q ps qs h t ih =>
    obtain ⟨h1, h2⟩ := h
    by_cases e : p.1 = k
    · have e' : q.1 = k := h1.symm.trans e
      have b : valueAt (q :: qs) k = some q.2 := by simp [valueAt, List.find?_cons, e']
      rw [valV_pos e, b]; exact h2
    · have e' : ¬ q.1 = k := fun z => e (h1.trans z)
      have b : valueAt (q :: qs) k = valueAt qs k := by simp [valueAt, List.find?_cons, e']
      rw [valV_neg e, b]; exact ih
theorem KV.any {kvs : List (κ × V)} {vs : List (κ × Value)} (r : KV kvs vs) (k : κ) : (kvs.any fun kv => decide (kv.1 = k)) = vs.any fun kv => decide (kv.1 = k) := by
  unfold KV at r
  induction r with
  | nil => rfl
  | cons h t ih => rw [List.any_cons, List.any_cons, ih, h.1]
theorem KV.repl {kvs : List (κ × V)} {vs : List (κ × Value)} (r : KV kvs vs) (k : κ) {y : V} {u : Value} (ry : RelV y u) :
    KV (kvs.map fun kv => if kv.1 = k then (kv.1, y) else kv) (vs.map fun kv => if kv.1 = k then (kv.1, u) else kv) := by
  unfold KV at r ⊢
  induction r with
  | nil => exact .nil
  | @cons p q ps qs h t ih =>
    rw [List.map_cons, List.map_cons]
    refine .cons ?_ ih
    obtain ⟨h1, h2⟩ := h
    by_cases e : p.1 = k
    · rw [if_pos e, if_pos (h1.symm.trans e)]; exact ⟨h1, ry⟩
    · rw [if_neg e, if_neg (fun z => e (h1.trans z))]; exact ⟨h1, h2⟩
theorem KV.put {kvs : List (κ × V)} {vs : List (κ × Value)} (r : KV kvs vs) (k : κ) {y : V} {u : Value} (ry : RelV y u) : KV (putK kvs k y) (stored vs k u) := by
  unfold putK stored
  rw [r.any k]
  by_cases e : (vs.any fun kv => decide (kv.1 = k)) = true
  · rw [if_pos e, if_pos e]; exact r.repl k ry
  · rw [if_neg e, if_neg e]; exact Paired.snoc r ⟨rfl, ry⟩
theorem KV.keys {kvs : List (κ × V)} {vs : List (κ × Value)} (r : KV kvs vs) : kvs.map (·.1) = vs.map (·.1) := by
  unfold KV at r
  induction r with
  | nil => rfl
  | cons h t ih => rw [List.map_cons, List.map_cons, ih, h.1]
theorem KV.length {kvs : List (κ × V)} {vs : List (κ × Value)} (r : KV kvs vs) : kvs.length = vs.length := Paired.length r
end
theorem kV_is {P : Program} {w : World} {k : Key} {u : Value} (r : RelV (kV k) u) : (mixKind P w).is k u = true := by
  cases k with
  | inl i => obtain ⟨t, e⟩ := (show ∃ t, u = Value.int i t from r); subst e; exact mixKind_int P w i t
  | inr x => obtain ⟨t, e⟩ := (show ∃ t, u = Value.str x t from r); subst e; exact mixKind_str P w x t
theorem items_are {P : Program} {w : World} : ∀ {ks : List Key} {us : List Value}, Vals (ks.map kV) us → ItemsAre (mixKind P w) ks us
  | [], _, r => by rw [List.map_nil] at r; cases r; exact .nil
  | k :: ks, _, r => by
    rw [List.map_cons] at r
    cases r with
    | cons h t => exact .cons (kV_is h) (items_are t)
abbrev KT (H : Hp) : List (List Key × V) → List (List Key × Addr × Value) → Prop := Paired fun p q => p.1 = q.1 ∧ H q.2.1 = some (.tup (p.1.map kV)) ∧ RelV p.2 q.2.2
theorem KT.val {H : Hp} {kvs : List (List Key × V)} {xs : List (List Key × Addr × Value)} (r : KT H kvs xs) (k : List Key) : RelO (valV kvs k) ((atKey xs k).map (·.2)) := by
  induction r with
  | nil => exact True.intro
  | @cons p q ps qs h t ih =>
    obtain ⟨h1, _, h2⟩ := h
    by_cases e : p.1 = k
    · have e' : q.1 = k := h1.symm.trans e
      have b : atKey (q :: qs) k = some q.2 := by simp [atKey, List.find?_cons, e']
      rw [valV_pos e, b]; exact h2
    · have e' : ¬ q.1 = k := fun z => e (h1.trans z)
      have b : atKey (q :: qs) k = atKey qs k := by simp [atKey, List.find?_cons, e']
      rw [valV_neg e, b]; exact ih
theorem KT.repl {H : Hp} {kvs : List (List Key × V)} {xs : List (List Key × Addr × Value)} (r : KT H kvs xs) (k : List Key) {y : V} {u : Value} (ry : RelV y u) :
    KT H (kvs.map fun kv => if kv.1 = k then (kv.1, y) else kv) (xs.map (putAt k u)) := by
  induction r with
  | nil => exact .nil
  | @cons p q ps qs h t ih =>
    rw [List.map_cons, List.map_cons]
    refine .cons ?_ ih
    obtain ⟨h1, h2, h3⟩ := h
    unfold putAt
    by_cases e : p.1 = k
    · rw [if_pos e, if_pos (h1.symm.trans e)]; exact ⟨h1, h2, ry⟩
    · rw [if_neg e, if_neg (fun z => e (h1.trans z))]; exact ⟨h1, h2, h3⟩
theorem KT.put {H : Hp} {kvs : List (List Key × V)} {xs : List (List Key × Addr × Value)} (r : KT H kvs xs) (k : List Key) {b : Addr} {y : V} {u : Value} (hb : H b = some (.tup (k.map kV))) (ry : RelV y u) :
    KT H (putK kvs k y) (storedH xs k b u) := by
  have e : (kvs.any fun kv => decide (kv.1 = k)) = (atKey xs k).isSome := by
    rw [valV_any, (r.val k).isSome_eq, Option.isSome_map]
  unfold putK storedH
  rw [e]
  by_cases q : (atKey xs k).isSome = true
  · rw [if_pos q, if_pos q]; exact r.repl k ry
  · rw [if_neg q, if_neg q]; exact Paired.snoc r ⟨rfl, hb, ry⟩
theorem KT.keeps {H H' : Hp} {kvs : List (List Key × V)} {xs : List (List Key × Addr × Value)} (r : KT H kvs xs) (ht : ∀ b ys, H b = some (.tup ys) → H' b = some (.tup ys)) : KT H' kvs xs :=
  Paired.mapP r fun _ _ z => ⟨z.1, ht _ _ z.2.1, z.2.2⟩
section
variable {P : Program} {w : World} {H : Hp} {h : Heap} {a : Addr}
theorem rd_of {u : HO} (ok : HOk P w H h) (e : Rd H a u) : ObjOk P w H h a u := e.ok ok
theorem dk_rd {kvs : List (Key × V)} (ok : HOk P w H h) (e : Rd H a (.dK kvs)) : kvs.length ≤ sizeLine ∧ (a == sysModules) = false ∧ ∃ vs, KV kvs vs ∧ h.DictOf (mixKind P w) a vs :=
  show ObjOk P w H h a (.dK kvs) from rd_of ok e
theorem dk_of {kvs : List (Key × V)} (ok : HOk P w H h) (e : H a = some (.dK kvs)) : kvs.length ≤ sizeLine ∧ (a == sysModules) = false ∧ ∃ vs, KV kvs vs ∧ h.DictOf (mixKind P w) a vs := dk_rd ok (.inl e)
theorem key_of {ks : List Key} (ok : HOk P w H h) (e : H a = some (.tup (ks.map kV))) : (tupleKind (mixKind P w)).is h ks a := by
  obtain ⟨_, its, r, o, h1, h2, n, h3⟩ := (show ObjOk P w H h a (.tup (ks.map kV)) from ok a _ e)
  exact ⟨o, its.toArray, n, h1, h2, h3, by simpa using items_are r⟩
theorem dt_rd {kvs : List (List Key × V)} (ok : HOk P w H h) (e : Rd H a (.dT kvs)) : kvs.length ≤ sizeLine ∧ (a == sysModules) = false ∧
    ∃ xs, KT H kvs xs ∧ h.DictOfH (tupleKind (mixKind P w)) a xs := by
  obtain ⟨z, y, xs, r, o, es, ep, h1, h2, h3, h4, h5⟩ := (show ObjOk P w H h a (.dT kvs) from rd_of ok e)
  refine ⟨z, y, xs, r, o, es, ep, h1, h2, h3, h4, fun x hx => ?_, h5⟩
  have all : ∀ {l : List (List Key × V)} {m : List (List Key × Addr × Value)}, KT H l m → ∀ x ∈ m, (tupleKind (mixKind P w)).is h x.1 x.2.1 := by
    intro l m q
    induction q with
    | nil => intro x hx; exact nomatch hx
    | @cons p q ps qs hq t ih =>
      intro x hx
      rcases List.mem_cons.mp hx with e | hx
      · subst e
        exact key_of ok (by rw [← hq.1]; exact hq.2.1)
      · exact ih x hx
  exact all r x hx
theorem dt_of {kvs : List (List Key × V)} (ok : HOk P w H h) (e : H a = some (.dT kvs)) : kvs.length ≤ sizeLine ∧ (a == sysModules) = false ∧
    ∃ xs, KT H kvs xs ∧ h.DictOfH (tupleKind (mixKind P w)) a xs := dt_rd ok (.inl e)
end
def DGet (H : Hp) (a : Addr) (y : V) (r : Option V) : Prop :=
  (∃ kvs k, Rd H a (.dK kvs) ∧ y = kV k ∧ r = valV kvs k) ∨ ∃ kvs k b, Rd H a (.dT kvs) ∧ y = .ref b ∧ H b = some (.tup (k.map kV)) ∧ r = valV kvs k
def DPut (H : Hp) (a : Addr) (y v : V) (H' : Hp) : Prop :=
  (∃ kvs k, H a = some (.dK kvs) ∧ y = kV k ∧ kvs.length < sizeLine ∧ H' = upd H a (.dK (putK kvs k v))) ∨
  ∃ kvs k b, H a = some (.dT kvs) ∧ y = .ref b ∧ H b = some (.tup (k.map kV)) ∧ kvs.length < sizeLine ∧ H' = upd H a (.dT (putK kvs k v))
theorem DGet.k {H : Hp} {a : Addr} {kvs : List (Key × V)} {k : Key} (e : H a = some (.dK kvs)) : DGet H a (kV k) (valV kvs k) := .inl ⟨kvs, k, .inl e, rfl, rfl⟩
theorem DPut.k {H : Hp} {a : Addr} {kvs : List (Key × V)} {k : Key} {v : V} (e : H a = some (.dK kvs)) (hl : kvs.length < sizeLine) : DPut H a (kV k) v (upd H a (.dK (putK kvs k v))) := .inl ⟨kvs, k, e, rfl, hl, rfl⟩
section
variable {X : Cx} {pins : List (Addr × Obj)} {σ : St} {H : Hp} {s : Shared} {a : Addr} {y v : V} {u r : Value} {o : Option V} {A : Around} {E : Value → Shared → Prop}
theorem Inv.big (I : Inv X pins σ H s) : sysModules < s.heap.objs.size := by
  have h : mainGlobals < s.heap.objs.size := (I.mod.glob.keeps I.bk).lt
  exact Nat.lt_trans (by decide) h
theorem d_getItem {Q : Value → Shared → Prop} (hu : A.units + 1 < cLine) (I : Inv X pins σ H s) (g : DGet H a y (some v)) (ry : RelV y u) (h : ∀ w' s', Inv X pins σ H s' → RelV v w' → Q w' s') :
    wpAny (model X.prog X.w) A (getItem (.ref a) u) Q E s := by
  rcases g with ⟨kvs, k, e, ey, l⟩ | ⟨kvs, k, b, e, ey, eb, l⟩
  · subst ey
    obtain ⟨z, hd, vs, rel, dd⟩ := dk_rd I.hok e
    obtain ⟨w', hw, rw'⟩ := RelO.some_of (v := v) (o := valueAt vs k) (by rw [l]; exact rel.val k)
    exact wpAny_getItem_of (kV_is ry) dd.mapOf hw (h w' _ (I.tok _) rw')
  · subst ey
    cases (show u = Value.ref b from ry)
    obtain ⟨z, hd, xs, rel, dd⟩ := dt_rd I.hok e
    obtain ⟨w', hw, rw'⟩ := RelO.some_of (v := v) (o := (atKey xs k).map (·.2)) (by rw [l]; exact rel.val k)
    obtain ⟨p, hp, hp2⟩ := Option.map_eq_some_iff.mp hw
    refine wpAny_getItem_heap (tupleKind_room_in1 hu) (key_of I.hok eb) dd hp ?_
    rw [hp2]
    exact h w' _ (I.tok _) rw'
theorem d_write {h' : Heap} {t' : Nat} {ob : HO} (I : Inv X pins σ H s) (mu : Mut (H a)) (hs : Heap.SameBut a s.heap h') (he : ∃ q, h'.get? a = some q) (new : ObjOk X.prog X.w (upd H a ob) h' a ob) :
    Inv X pins σ (upd H a ob) { s with heap := h', toks := t' } :=
  I.write (x := a) (e := a) mu (.inl rfl) (fun b q hb z => (hs.2 b hb).trans z) he new
theorem dk_new {P : Program} {w : World} {H' : Hp} {h' : Heap} {kvs : List (Key × V)} {vs : List (Key × Value)} (z : kvs.length ≤ sizeLine) (hd : (a == sysModules) = false) (rel : KV kvs vs) (dd : h'.DictOf (mixKind P w) a vs) :
    ObjOk P w H' h' a (.dK kvs) := ⟨z, hd, vs, rel, dd⟩
theorem d_setItem {H' : Hp} {Q : Unit → Shared → Prop} (hu : A.units + 1 < cLine) (I : Inv X pins σ H s) (g : DPut H a y v H') (ry : RelV y u) (rv : RelV v r) (h : ∀ s', Inv X pins σ H' s' → Q () s') :
    wpAny (model X.prog X.w) A (setItem (.ref a) u r) Q E s := by
  rcases g with ⟨kvs, k, e, ey, l, eH⟩ | ⟨kvs, k, b, e, ey, eb, l, eH⟩
  · subst ey eH
    obtain ⟨z, hd, vs, rel, dd⟩ := dk_of I.hok e
    have hz : vs.length ≤ sizeLine := by rw [← rel.length]; exact z
    have hl : (putK kvs k v).length ≤ sizeLine := by have := length_putK kvs k v; omega
    refine wpAny_setItem_pairs (hsz := hz) (kV_is ry) dd fun h' dd' hs => h _ ?_
    have he : ∃ q, h'.get? a = some q := let ⟨q, _, _, hq, _⟩ := dd'; ⟨q, hq⟩
    exact d_write I (by rw [e]; exact True.intro) hs he (dk_new hl hd (rel.put k rv) dd')
  · subst ey eH
    cases (show u = Value.ref b from ry)
    obtain ⟨z, hd, xs, rel, dd⟩ := dt_of I.hok e
    have hz : xs.length ≤ sizeLine := by rw [← Paired.length rel]; exact z
    have hl : (putK kvs k v).length ≤ sizeLine := by have := length_putK kvs k v; omega
    refine wpAny_setItem_heap (hsz := hz) (tupleKind_room_in1 hu) (key_of I.hok eb) dd fun h' dd' hs => h _ ?_
    obtain ⟨q, es, ep, hq, h2, h3, h4, _, h5⟩ := dd'
    refine d_write I (by rw [e]; exact True.intro) hs ⟨q, hq⟩ ⟨hl, hd, _, (rel.put k eb rv).keeps fun c ys ec => ?_, q, es, ep, hq, h2, h3, h4, h5⟩
    rw [upd_ne (ne_of ec e (fun z => nomatch z))]
    exact ec
end
def NoSl (i : Expr) : Prop := ∀ ov iv, subscripted i false ov iv = operate [ov, iv] (getItem ov iv)
theorem subD_of {prog : Program} {w : World} {A : Around} {E : Value → Shared → Prop} {s : Shared} {env : Env} {value slice : Expr} {pos : Pos} {T id : String} {Q : Value → Shared → Prop}
    (hl : typeLookup (.type T) "__getitem__" = pure (some (.builtin id))) (hs : NoSl slice)
    (h : wpAny (model prog w) A (eval value env) (fun o s₁ => wpAny (model prog w) A (eval slice env) (fun i s₂ => s₂.TypeIs o T ∧ wpAny (model prog w) A (getItem o i) Q E s₂) E s₁) E s) :
    wpAny (model prog w) A (eval (.Subscript value slice pos) env) Q E s := by
  refine Subscript_ (wpAny_mono h (fun o s₁ h₁ => wpAny_mono h₁ (fun i s₂ h₂ => ?_) fun _ _ x => x) fun _ _ x => x)
  obtain ⟨hT, h₂⟩ := h₂
  unfold subscriptTail
  refine wpAny_bind ?_
  rw [getitemInPython_of_ne hT.not_modules]
  refine wpAny_bind (wpAny_specialOf hT hl ?_)
  have fin : wpAny (model prog w) A (subscripted slice false o i) (fun r s₃ => wpAny (model prog w) A (letTemporaryGo value o r >>= fun _ => pure r) Q E s₃) E s₂ := by
    rw [hs o i]
    exact wpAny_operating (wpAny_mono h₂ (fun r s₃ h₃ => wpAny_bind (wpAny_letTemporaryGo (wpAny_pure h₃))) fun _ _ x => x)
  first
    | exact wpAny_pure (wpAny_bind fin)
    | exact wpAny_bind (wpAny_pure (wpAny_bind fin))
    | exact wpAny_bind fin
theorem dict_typeIs {X : Cx} {pins : List (Addr × Obj)} {σ : St} {H : Hp} {s : Shared} {a : Addr} {y : V} {o : Option V} (I : Inv X pins σ H s) (g : DGet H a y o) : s.TypeIs (.ref a) "dict" := by
  rcases g with ⟨kvs, k, e, _, _⟩ | ⟨kvs, k, b, e, _, _, _⟩
  · obtain ⟨_, _, vs, _, dd⟩ := dk_rd I.hok e
    exact dd.typeIs
  · obtain ⟨_, _, xs, _, dd⟩ := dt_rd I.hok e
    exact dd.typeIs
def tDGet (td ty : TE) : TE := fun σ H Q => td σ H fun x H1 => ty σ H1 fun y H2 => ∃ a v, x = .ref a ∧ DGet H2 a y (some v) ∧ Q v H2
def sDPut (td ty tv : TE) : TS := fun D σ H => tv σ H fun v H1 => td σ H1 fun x H2 => ty σ H2 fun y H3 => ∃ a H4, x = .ref a ∧ DPut H3 a y v H4 ∧ D.nx σ H4
section
variable {X : Cx} {o i e value : Expr} {pos pos' tpos : Pos} {td ty tv : TE}
theorem pe_dget (hu : X.A.units + 1 < cLine) (ho : PE X o td) (hi : PE X i ty) (hs : NoSl i) : PE X (.Subscript o i pos) (tDGet td ty) := by
  intro pins s σ H Q I h
  refine subD_of PySem.F.slot_dict_getitem.lookup hs (thn (ho pins s σ H _ I h) fun u s1 ⟨x, H1, I1, rx, q1⟩ => thn (hi pins s1 σ H1 _ I1 q1) fun iv s2 ⟨y, H2, I2, ry, a, v, ex, g, q2⟩ => ?_)
  subst ex
  obtain rfl : u = Value.ref a := rx
  exact ⟨dict_typeIs I2 g, d_getItem hu I2 g ry fun w' s3 I3 rw' => ⟨v, H2, I3, rw', q2⟩⟩
theorem ps_dput (hu : X.A.units + 1 < cLine) (ho : PE X o td) (hi : PE X i ty) (hv : PE X value tv) (hs : swapsWith value (some (.Subscript o i pos')) pos.line X.env = pure false) :
    PS X (.Assign [.Subscript o i pos'] value pos) (sDPut td ty tv) := by
  intro pins s σ H D I h
  refine wpAny_Assign_Subscript (thn (hv pins s σ H _ I h) fun r s1 ⟨v, H1, I1, rv, q1⟩ => thn (ho pins s1 σ H1 _ I1 q1) fun u s2 ⟨x, H2, I2, rx, q2⟩ => thn (hi pins s2 σ H2 _ I2 q2) fun iv s3 ⟨y, H3, I3, ry, a, H4, ex, g, q3⟩ => ?_) hs
  subst ex
  obtain rfl : u = Value.ref a := rx
  exact d_setItem hu I3 g ry rv fun s4 I4 => ⟨σ, H4, I4, q3⟩
end
theorem dk_empty {P : Program} {w : World} {H : Hp} (h : Heap) (hb : sysModules < h.objs.size) : ObjOk P w H (h.push { cls := .type "dict", data := .dict #[] }) h.objs.size (.dK []) :=
  ⟨Nat.zero_le _, beq_eq_false_iff_ne.mpr (Ne.symm (Nat.ne_of_lt hb)), [], .nil, Heap.DictOf.new h⟩
def tDNewK : TE := fun _ H Q => ∀ p, H p = none → Q (.ref p) (upd H p (.dK []))
section
variable {X : Cx} {pos : Pos}
theorem pe_dnewK : PE X (.Dict [] [] pos) tDNewK := fun pins s σ H Q I h =>
  wpAny_Dict_empty ⟨.ref s.heap.objs.size, _, I.laid (a := s.heap.objs.size) (o := .dK []) (t' := s.toks) (fun _ _ q => Heap.get?_push_of_some _ q) (Nat.le_refl _) (dk_empty s.heap I.big), rfl, h _ (I.hok.fresh (Nat.le_refl _))⟩
end
structure M2 (X : Cx) (o : Expr) (m : Str) (apos : Pos) (e f : Expr) (cpos : Pos) : Prop where
  base : attributeBase o m X.env (eval o X.env) = eval o X.env
  few : ((backTo cpos (starEach [e, f] X.env)).all (fun x => !x.1) && (backToKw cpos (keywordEach [] X.env)).all (fun x => x.1.isSome)
    && decide (([e, f] : List Expr).length + ([] : List Keyword).length + (if ([] : List Keyword).isEmpty then 0 else 1) < 30)) = true
  line : (apos.endLine == cpos.line) = true
  trees : backTo cpos (starEach [e, f] X.env) = [(false, eval e X.env), (false, eval f X.env)]
def IsDi (H : Hp) (a : Addr) : Prop := (∃ kvs, Rd H a (.dK kvs)) ∨ ∃ kvs, Rd H a (.dT kvs)
theorem isD_at {X : Cx} {pins : List (Addr × Obj)} {σ : St} {H : Hp} {s : Shared} {a : Addr} (I : Inv X pins σ H s) (d : IsDi H a) :
    s.TypeIs (.ref a) "dict" ∧ (∀ b, Value.ref a = .ref b → ∃ ob, s.heap.get? b = some ob ∧ ob.dict = none) ∧ (a == sysModules) = false := by
  rcases d with ⟨kvs, e⟩ | ⟨kvs, e⟩
  · obtain ⟨_, hd, vs, _, dd⟩ := dk_rd I.hok e
    refine ⟨dd.typeIs, fun b q => ?_, hd⟩
    cases q
    obtain ⟨ob, _, _, h1, h2, _⟩ := dd
    exact ⟨ob, h1, h2.2.1⟩
  · obtain ⟨_, hd, xs, _, dd⟩ := dt_rd I.hok e
    refine ⟨dd.typeIs, fun b q => ?_, hd⟩
    cases q
    obtain ⟨ob, _, _, h1, h2, _⟩ := dd
    exact ⟨ob, h1, h2.2.1⟩
section
variable {X : Cx} {pins : List (Addr × Obj)} {σ : St} {H : Hp} {s : Shared} {a : Addr} {y d : V} {u r : Value} {o : Option V} {A : Around} {E : Value → Shared → Prop}
theorem d_get2 {Q : Value → Shared → Prop} (hu : A.units + 1 < cLine) (I : Inv X pins σ H s) (g : DGet H a y o) (ry : RelV y u) (rd : RelV d r) (h : ∀ w' s', Inv X pins σ H s' → RelV (o.getD d) w' → Q w' s') :
    wpAny (model X.prog X.w) A (call (.builtin "dict.get") [.ref a, u, r]) Q E s := by
  rcases g with ⟨kvs, k, e, ey, l⟩ | ⟨kvs, k, b, e, ey, eb, l⟩
  · subst ey
    obtain ⟨z, hd, vs, rel, dd⟩ := dk_rd I.hok e
    refine call_meetsIn PySem.F.slot_dict_get dd.typeIs PySem.F.entry_dict_get (PySem.F.args_dict_get_3 _ _ _) (meets_dict_get_default (mixKind X.prog X.w) a (kV_is ry) hd r) ⟨_, dd.mapOf, h _ _ (I.tok _) ?_⟩
    rw [l]
    exact (rel.val k).getD rd
  · subst ey
    cases (show u = Value.ref b from ry)
    obtain ⟨z, hd, xs, rel, dd⟩ := dt_rd I.hok e
    refine call_meetsIn PySem.F.slot_dict_get dd.typeIs PySem.F.entry_dict_get (PySem.F.args_dict_get_3 _ _ _) (meetsH_dict_get_default (tupleKind (mixKind X.prog X.w)) a b hd r) ⟨tupleKind_room_in1 hu, k, xs, key_of I.hok eb, dd, h _ _ (I.tok _) ?_⟩
    rw [l]
    exact (rel.val k).getD rd
end
def tDGet2 (td ty tx : TE) : TE := fun σ H Q => td σ H fun x H1 => ∃ a, x = .ref a ∧ IsDi H1 a ∧ ty σ H1 fun y H2 => tx σ H2 fun z H3 => ∃ o, DGet H3 a y o ∧ Q (o.getD z) H3
section
variable {X : Cx} {o e f : Expr} {apos cpos : Pos} {td ty tx : TE}
theorem pe_dget2 (hu : X.A.units + 1 < cLine) (ho : PE X o td) (he : PE X e ty) (hf : PE X f tx) (m : M2 X o "get" apos e f cpos) : PE X (.Call (.Attribute o "get" apos) [e, f] [] cpos) (tDGet2 td ty tx) := by
  intro pins s σ H Q I h
  refine wpAny_Call_method m.base m.few m.line PySem.F.plainAttrs_dict PySem.F.slot_dict_get PySem.F.type_dict_get (thn (ho pins s σ H _ I h) fun u s1 ⟨x, H1, I1, rx, a, ex, d, q1⟩ => ?_)
  subst ex
  obtain rfl : u = Value.ref a := rx
  obtain ⟨t1, t2, _⟩ := isD_at I1 d
  refine ⟨t1, t2, ?_⟩
  rw [m.trees]
  refine Calls.callWith_builtin rfl (Calls.evalArgs_plain (Calls.spliced_cons (thn (he pins s1 σ H1 _ I1 q1) fun iv s2 ⟨y, H2, I2, ry, q2⟩ =>
    Calls.spliced_cons (thn (hf pins s2 σ H2 _ I2 q2) fun fv s3 ⟨z, H3, I3, rz, ov, g, q3⟩ => Calls.spliced_nil ?_))))
  exact d_get2 hu I3 g ry rz fun w' s4 I4 rw' => ⟨_, H3, I4, rw', q3⟩
end
end L2
namespace Att
open PySem PySem.W PySem.Calls PyProof.Rows
end Att
namespace L2
open PySem PySem.Spec PyProof.Rows
end L2
namespace L2
open PySem PySem.Spec PyProof.Rows
end L2
namespace L2
open PySem PySem.Spec PyProof.Rows
end L2
namespace L2
open PySem PySem.Spec PyProof.Rows
section
variable {X : Cx}
theorem call_sorted_dict (hc : X.calm = true) : CallR X (.builtin "sorted") (fun xs H Q => ∃ (p : Addr) (kvs : List (Key × V)) (ks : List Int), xs = [.ref p] ∧ H p = some (.dK kvs) ∧ kvs.map (·.1) = ks.map Sum.inl ∧ ∀ l, H l = none → Q (.ref l) (upd H l (.lst ((sortI ks).map V.int)))) := by
  intro pins s σ H xs us Q I r h
  obtain ⟨p, kvs, ks, rfl, hp, hk, q⟩ := h
  obtain ⟨u, rfl, e⟩ := vals1 r
  obtain rfl : u = Value.ref p := e
  obtain ⟨z, lo, vs, rel, hD⟩ := dk_of I.hok hp
  have hl : kvs.length = ks.length := by have := congrArg List.length hk; simpa using this
  have hl2 := rel.length
  have hkeys := rel.keys
  obtain ⟨ep, hA⟩ := hD.dictAt
  refine MwSet.sorted_dict (I.ok.hd hc) lo hA (by omega) (ks := ks) (fun i k x v e1 e2 => ?_) (by omega) (I.sorted (by omega) q)
  have e3 : (vs.map (·.1))[i]? = some k := by rw [List.getElem?_map, e1]; rfl
  rw [← hkeys, hk, List.getElem?_map] at e3
  cases e4 : ks[i]? with
  | none => rw [e4] at e3; cases e3
  | some n =>
    rw [e4] at e3
    have e5 : Sum.inl n = k := Option.some.inj e3
    subst e5
    rcases keyIs_shape (show keyIs (Sum.inl n) v = true from e2) with ⟨j, t, a1, a2⟩ | ⟨_, _, a1, _⟩
    · cases a1
      exact ⟨t, by rw [a2]; simp [e4]⟩
    · cases a1
end
end L2
namespace L2
open PySem PySem.Spec PyProof.Rows MwSet
def placeOf (n : Nat) (a b : Int) : Int := a * ((n : Int) - 1) / b
def Share (a b : Int) : Prop := 0 ≤ a ∧ a ≤ b ∧ 1 ≤ b ∧ b ≤ 1000000
theorem place_bounds {n : Nat} {a b : Int} (h : Share a b) (hn : 1 ≤ n) : 0 ≤ placeOf n a b ∧ placeOf n a b < n := by
  obtain ⟨h1, h2, h3, _⟩ := h
  unfold placeOf
  have m0 : 0 ≤ a * ((n : Int) - 1) := Int.mul_nonneg h1 (by omega)
  refine ⟨Int.ediv_nonneg m0 (by omega), Int.ediv_lt_of_lt_mul (by omega) ?_⟩
  have : a * ((n : Int) - 1) ≤ b * ((n : Int) - 1) := Int.mul_le_mul_of_nonneg_right h2 (by omega)
  have e : (n : Int) * b = b * ((n : Int) - 1) + b := by rw [Int.mul_sub, Int.mul_one, Int.mul_comm]; omega
  omega
def manieth (ns : List Int) (a b : Int) : Option Int := (sortI ns)[(placeOf ns.length a b).toNat]?
theorem manieth_nil (a b : Int) : manieth [] a b = none := by unfold manieth; rw [show sortI [] = [] from List.length_eq_zero_iff.mp (by rw [sortI_len]; rfl)]; rfl
theorem manieth_some {ns : List Int} {a b : Int} (h : Share a b) (hn : ns ≠ []) : ∃ h' : (placeOf ns.length a b).toNat < (sortI ns).length, manieth ns a b = some (sortI ns)[(placeOf ns.length a b).toNat] := by
  have hl : 1 ≤ ns.length := by
    cases ns with
    | nil => exact absurd rfl hn
    | cons x l => simp
  have := place_bounds h hl
  have h' : (placeOf ns.length a b).toNat < (sortI ns).length := by rw [sortI_len]; omega
  exact ⟨h', List.getElem?_eq_getElem h'⟩
theorem rise_count {S : List Int} (hS : S.Pairwise (· ≤ ·)) {i : Nat} (hi : i < S.length) (v : Int) : S[i] ≤ v ↔ i < S.countP fun x => decide (x ≤ v) := by
  have mono : ∀ p q, (hp : p < S.length) → (hq : q < S.length) → p ≤ q → S[p] ≤ S[q] := fun p q hp hq hpq => by
    rcases Nat.lt_or_ge p q with z | z
    · exact List.pairwise_iff_getElem.mp hS p q hp hq z
    · have : p = q := by omega
      subst this; exact Int.le_refl _
  have e : S = S.take i ++ S[i] :: S.drop (i + 1) := by rw [← List.drop_eq_getElem_cons hi, List.take_append_drop]
  constructor
  · intro h
    have c1 : (S.take (i + 1)).countP (fun x => decide (x ≤ v)) = (S.take (i + 1)).length := by
      rw [List.countP_eq_length]
      intro x hx
      obtain ⟨m, hm, rfl⟩ := List.mem_iff_getElem.mp hx
      rw [List.length_take] at hm
      rw [List.getElem_take]
      exact decide_eq_true (Int.le_trans (mono m i (by omega) hi (by omega)) h)
    have c2 : (S.take (i + 1)).countP (fun x => decide (x ≤ v)) ≤ S.countP fun x => decide (x ≤ v) := List.Sublist.countP_le (List.take_sublist _ _)
    rw [c1, List.length_take] at c2
    omega
  · intro h
    rcases Int.lt_or_le v S[i] with z | z
    · exfalso
      have c1 : (S.drop i).countP (fun x => decide (x ≤ v)) = 0 := by
        rw [List.countP_eq_zero]
        intro x hx
        obtain ⟨m, hm, rfl⟩ := List.mem_iff_getElem.mp hx
        rw [List.length_drop] at hm
        rw [List.getElem_drop]
        have := mono i (i + m) hi (by omega) (by omega)
        simp; omega
      have c2 : S.countP (fun x => decide (x ≤ v)) = (S.take i).countP (fun x => decide (x ≤ v)) + (S.drop i).countP (fun x => decide (x ≤ v)) := by rw [← List.countP_append, List.take_append_drop]
      have c3 : (S.take i).countP (fun x => decide (x ≤ v)) ≤ (S.take i).length := List.countP_le_length
      rw [List.length_take] at c3
      omega
    · exact z
def kindsOf (ns : List Int) : List Int := sortI (allK ns)
theorem kinds_mem {ns : List Int} {x : Int} : x ∈ kindsOf ns ↔ x ∈ ns := mem_sortI.trans mem_allK
theorem kinds_nodup (ns : List Int) : (kindsOf ns).Nodup := (sortI_perm _).nodup_iff.mpr (allK_nodup ns)
theorem kinds_lt (ns : List Int) : (kindsOf ns).Pairwise (· < ·) := by
  have h1 := sortI_rise (allK ns)
  have h2 := kinds_nodup ns
  unfold kindsOf at h2 ⊢
  refine (h1.and h2).imp fun {a b} ⟨p, q⟩ => ?_
  have : a ≠ b := q
  omega
def passedTo (ns : List Int) (i : Nat) : Nat := ns.countP fun x => decide (x ∈ (kindsOf ns).take i)
theorem passed_zero (ns : List Int) : passedTo ns 0 = 0 := by unfold passedTo; simp
theorem countP_split (l : List Int) (p q r : Int → Bool) (h : ∀ x, r x = (p x || q x)) (hd : ∀ x, ¬ (p x = true ∧ q x = true)) : l.countP r = l.countP p + l.countP q := by
  induction l with
  | nil => rfl
  | cons x l ih =>
    rw [List.countP_cons, List.countP_cons, List.countP_cons, ih, h x]
    have := hd x
    cases hp : p x <;> cases hq : q x <;> simp_all <;> omega
theorem passed_succ (ns : List Int) {i : Nat} (hi : i < (kindsOf ns).length) : passedTo ns (i + 1) = passedTo ns i + ns.count (kindsOf ns)[i] := by
  unfold passedTo
  rw [List.count]
  refine countP_split ns _ _ _ (fun x => ?_) fun x ⟨h1, h2⟩ => ?_
  · have hm : x ∈ (kindsOf ns).take (i + 1) ↔ x ∈ (kindsOf ns).take i ∨ x = (kindsOf ns)[i] := by rw [List.take_succ_eq_append_getElem hi, List.mem_append, List.mem_singleton]
    rw [Bool.eq_iff_iff]
    simp only [decide_eq_true_eq, Bool.or_eq_true, beq_iff_eq]
    exact hm
  · have e : x = (kindsOf ns)[i] := by simpa using h2
    have h1' := of_decide_eq_true h1
    rw [e] at h1'
    obtain ⟨m, hm, em⟩ := List.mem_iff_getElem.mp h1'
    rw [List.length_take] at hm
    rw [List.getElem_take] at em
    have := List.pairwise_iff_getElem.mp (kinds_lt ns) m i (by omega) hi (by omega)
    omega
theorem passed_le (ns : List Int) {i : Nat} (hi : i < (kindsOf ns).length) : passedTo ns (i + 1) = ns.countP fun x => decide (x ≤ (kindsOf ns)[i]) := by
  unfold passedTo
  refine List.countP_congr fun x hx => ?_
  have hk := kinds_mem.mpr hx
  obtain ⟨m, hm, em⟩ := List.mem_iff_getElem.mp hk
  simp only [decide_eq_true_eq]
  constructor
  · intro h
    obtain ⟨n, hn, en⟩ := List.mem_iff_getElem.mp h
    rw [List.length_take] at hn
    rw [List.getElem_take] at en
    rcases Nat.lt_or_ge n i with z | z
    · have := List.pairwise_iff_getElem.mp (kinds_lt ns) n i (by omega) hi z
      omega
    · have : n = i := by omega
      subst this; omega
  · intro h
    rcases Nat.lt_or_ge i m with z | z
    · have := List.pairwise_iff_getElem.mp (kinds_lt ns) i m hi hm z
      omega
    · refine List.mem_iff_getElem.mpr ⟨m, by rw [List.length_take]; omega, ?_⟩
      rw [List.getElem_take]; exact em
theorem told_here {ns : List Int} {a b : Int} (h : Share a b) {i : Nat} (hi : i < (kindsOf ns).length) (h1 : ∀ j, (hj : j < i) → ¬ (placeOf ns.length a b < (passedTo ns (j + 1) : Int))) (h2 : placeOf ns.length a b < (passedTo ns (i + 1) : Int)) : manieth ns a b = some (kindsOf ns)[i] := by
  have hne : ns ≠ [] := fun z => by subst z; simp [kindsOf, allK, sortI] at hi
  obtain ⟨hp, e⟩ := manieth_some h hne
  have hl : 1 ≤ ns.length := by
    cases ns with
    | nil => exact absurd rfl hne
    | cons x l => simp
  have pb := place_bounds h hl
  have cnt : ∀ v : Int, (sortI ns).countP (fun x => decide (x ≤ v)) = ns.countP fun x => decide (x ≤ v) := fun v => (sortI_perm ns).countP_eq _
  rw [e]
  congr 1
  have hm : (sortI ns)[(placeOf ns.length a b).toNat] ∈ kindsOf ns := kinds_mem.mpr (mem_sortI.mp (List.getElem_mem _))
  obtain ⟨m, hmlt, em⟩ := List.mem_iff_getElem.mp hm
  have key : ∀ j, (hj : j < (kindsOf ns).length) → ((sortI ns)[(placeOf ns.length a b).toNat] ≤ (kindsOf ns)[j] ↔ placeOf ns.length a b < (passedTo ns (j + 1) : Int)) := fun j hj => by
    rw [rise_count (sortI_rise ns) hp, cnt, ← passed_le ns hj]
    omega
  have k1 := (key i hi).mpr h2
  rcases Nat.lt_trichotomy m i with z | z | z
  · exact absurd ((key m hmlt).mp (by rw [em]; exact Int.le_refl _)) (h1 m z)
  · subst z; exact em.symm
  · have := List.pairwise_iff_getElem.mp (kinds_lt ns) i m hi hmlt z
    omega
theorem passed_all (ns : List Int) : passedTo ns (kindsOf ns).length = ns.length := by
  unfold passedTo
  rw [List.countP_eq_length]
  intro x hx
  rw [List.take_length]
  exact decide_eq_true (kinds_mem.mpr hx)
def cntKV (l : List Int) : List (Key × V) := (allK l).map fun k => (Sum.inl k, V.int (l.count k))
theorem val_map (f : Int → V) (x : Int) : ∀ ks : List Int, valV (ks.map fun k => ((Sum.inl k : Key), f k)) (Sum.inl x) = if x ∈ ks then some (f x) else none
  | [] => rfl
  | k :: ks => by
    by_cases e : k = x
    · subst e
      rw [List.map_cons, valV_pos rfl, if_pos List.mem_cons_self]
    · rw [List.map_cons, valV_neg (fun z => e (Sum.inl.inj z)), val_map f x ks]
      have : x ∈ k :: ks ↔ x ∈ ks := by simp [show ¬ x = k from fun z => e z.symm]
      simp [this]
theorem cnt_val (l : List Int) (x : Int) : valV (cntKV l) (Sum.inl x) = if x ∈ l then some (V.int (l.count x)) else none := by
  unfold cntKV
  rw [val_map (fun k => V.int (l.count k)) x (allK l)]
  simp [mem_allK]
theorem cnt_get (l : List Int) (x : Int) : (valV (cntKV l) (Sum.inl x)).getD (.int 0) = .int (l.count x) := by
  rw [cnt_val]
  by_cases h : x ∈ l
  · rw [if_pos h]; rfl
  · rw [if_neg h, List.count_eq_zero.mpr h]; rfl
theorem cnt_put (l : List Int) (x : Int) : putK (cntKV l) (Sum.inl x) (.int ((l.count x : Int) + 1)) = cntKV (l ++ [x]) := by
  have hc : ∀ k, (l ++ [x]).count k = l.count k + if k = x then 1 else 0 := fun k => by
    rw [List.count_append]
    by_cases e : k = x
    · subst e; simp
    · rw [if_neg e, List.count_eq_zero.mpr (show ¬ k ∈ [x] by simpa using e)]
  unfold cntKV
  rw [allK_snoc]
  unfold putK
  rw [valV_any]
  have hv := cnt_val l x
  unfold cntKV at hv
  rw [hv]
  by_cases h : x ∈ l
  · rw [if_pos h]
    have hw : withK (allK l) x = allK l := by unfold withK; rw [if_pos (mem_allK.mpr h)]
    rw [hw]
    simp only [Option.isSome_some, if_true]
    rw [List.map_map]
    refine List.map_congr_left fun k _ => ?_
    simp only [Function.comp_apply]
    by_cases e : k = x
    · subst e
      rw [if_pos rfl, hc, if_pos rfl]
      simp
    · rw [if_neg (fun z => e (Sum.inl.inj z)), hc, if_neg e]; rfl
  · rw [if_neg h]
    have hw : withK (allK l) x = allK l ++ [x] := by unfold withK; rw [if_neg (fun z => h (mem_allK.mp z))]
    rw [hw, List.map_append]
    simp only [Option.isSome_none, Bool.false_eq_true, if_false]
    congr 1
    · refine List.map_congr_left fun k hk => ?_
      have : k ≠ x := fun z => h (mem_allK.mp (z ▸ hk))
      rw [hc, if_neg this]; rfl
    · simp [hc]
theorem cnt_len (l : List Int) : (cntKV l).length ≤ l.length := by unfold cntKV; rw [List.length_map]; exact allK_len l
theorem cnt_keys (l : List Int) : (cntKV l).map (·.1) = (allK l).map Sum.inl := by unfold cntKV; rw [List.map_map]; rfl
end L2
namespace L2
open PySem PySem.Spec PyProof.Rows MwSet
def SeqV (H : Hp) (p : Addr) (xs : List V) : Prop := H p = some (.tup xs) ∨ H p = some (.lst xs)
theorem int_at {ns : List Int} {i : Nat} {x : V} (h : (ns.map V.int)[i]? = some x) : ∃ n, ns[i]? = some n ∧ x = .int n := by
  rw [List.getElem?_map] at h
  cases e : ns[i]? with
  | none => rw [e] at h; cases h
  | some n => rw [e] at h; exact ⟨n, rfl, (Option.some.inj h).symm⟩
end L2
namespace L2
open PySem PySem.Spec PyProof.Rows
theorem comp_seqV {K : PySem.W.Frag} {a : Addr} {xs : List V} {tl : TE} {σ : St} {H H1 : Hp} {one : V → Hp → (Option V → Hp → Prop) → Prop} {Q : List V → Hp → Prop} (htl : ∀ k : VK, k (.ref a) H1 → tl σ H k) (hp : SeqV H1 a xs) (Pv : Nat → List V → Hp → Prop) (h0 : Pv 0 [] H1) (hn : xs.length ≤ sizeLine)
    (hl : ∀ i ys H', i ≤ xs.length → Pv i ys H' → H' a = H1 a) (hs : ∀ i x ys H', xs[i]? = some x → Pv i ys H' → one x H' fun o H2 => Pv (i + 1) (ys ++ o.toList) H2) (hd : ∀ ys H', Pv xs.length ys H' → Q ys H') :
    iList K tl σ H (fun J H2 => CompW J H2 one Q) ∨ iTup K tl σ H (fun J H2 => CompW J H2 one Q) := by
  rcases hp with e | e
  · exact Or.inr (htl _ ⟨a, rfl, ⟨_, SqT.of e⟩, compW_tup (xs := xs) Pv h0 hn (fun i ys H' hi p => SqT.of (by rw [hl i ys H' hi p]; exact e)) hs hd⟩)
  · exact Or.inl (htl _ ⟨a, rfl, ⟨_, SqL.of e⟩, compW_list (xs := xs) Pv h0 hn (fun i ys H' hi p => SqL.of (by rw [hl i ys H' hi p]; exact e)) hs hd⟩)
theorem cell_at {r : List (Option Int)} {i : Nat} {x : V} (h : (r.map cellV)[i]? = some x) : ∃ c, r[i]? = some c ∧ x = cellV c := by
  rw [List.getElem?_map] at h
  cases e : r[i]? with
  | none => rw [e] at h; cases h
  | some c => rw [e] at h; exact ⟨c, rfl, (Option.some.inj h).symm⟩
end L2
namespace L2
open PySem PySem.Spec PyProof.Rows
def wideF (F : List (List (Option Int))) : Nat := (F.headD []).length
end L2
namespace L2
open PySem PySem.Spec PyProof.Rows
def LeC : Option Int → Option Int → Prop
  | none, none => True
  | some x, some y => x ≤ y
  | _, _ => False
theorem LeC.refl : ∀ c, LeC c c
  | none => trivial
  | some x => Int.le_refl x
inductive LeO : List (Option Int) → List (Option Int) → Prop
  | nil : LeO [] []
  | cons {x y : Option Int} {xs ys : List (Option Int)} : LeC x y → LeO xs ys → LeO (x :: xs) (y :: ys)
structure LeF (F G : List (List (Option Int))) : Prop where
  len : F.length = G.length
  wide : (F.headD []).length = (G.headD []).length
  cell : ∀ i j : Int, 0 ≤ i → i < F.length → 0 ≤ j → j < (F.headD []).length → LeC (cellAt F i j) (cellAt G i j)
theorem LeF.stands {F G : List (List (Option Int))} (R : Rect F) (h : LeF F G) (ru : Rule) (i j : Int) : LeO (stands F ru i j) (stands G ru i j) := by
  have hin : inF F i j = inF G i j := by unfold inF; rw [h.len, h.wide]
  have h1 := R.h1; have w1 := R.w1
  unfold L2.stands
  rw [← hin]
  cases e : inF F i j with
  | true =>
    rw [if_pos rfl, if_pos rfl]
    unfold inF at e
    simp only [Bool.and_eq_true, decide_eq_true_eq] at e
    exact .cons (h.cell i j e.1.1 e.1.2 e.2.1 e.2.2) .nil
  | false =>
    rw [if_neg Bool.false_ne_true, if_neg Bool.false_ne_true]
    have go : ∀ ru : Rule, LeO [cellAt F (led ru i F.length) (led ru j (F.headD []).length)] [cellAt G (led ru i G.length) (led ru j (G.headD []).length)] := fun ru => by
      rw [← h.len, ← h.wide]
      have li := led_in ru i (n := F.length) (by omega)
      have lj := led_in ru j (n := (F.headD []).length) (by omega)
      exact .cons (h.cell _ _ li.1 li.2 lj.1 lj.2) .nil
    cases ru with
    | there => exact .nil
    | told c => exact .cons (LeC.refl c) .nil
    | near => exact go .near
    | turned => exact go .turned
    | round => exact go .round
end L2
namespace L2
open PySem PySem.Spec PyProof.Rows
end L2
namespace L2
open PySem PySem.Spec PyProof.Rows
theorem KV.get {kvs : List (Key × V)} {vs : List (Key × Value)} (r : KV kvs vs) : ∀ {i : Nat} {k : Key} {x : V}, kvs[i]? = some (k, x) → ∃ u, vs[i]? = some (k, u) ∧ RelV x u := by
  unfold KV at r
  induction r with
  | nil => intro i k x h; simp at h
  | @cons p q l1 l2 h t ih =>
    intro i k x e
    cases i with
    | zero =>
      have e1 : p = (k, x) := by simpa using e
      subst e1
      obtain ⟨h1, h2⟩ := h
      refine ⟨q.2, ?_, h2⟩
      have : q = (k, q.2) := by rw [show k = q.1 from h1]
      rw [← this]; rfl
    | succ i => exact ih (by simpa using e)
def tSumV (td : TE) : TE := fun σ H Q => td σ H fun x H1 => ∃ (a : Addr) (kvs : List (Key × V)) (ns : List Int), x = .ref a ∧ H1 a = some (.dK kvs) ∧ kvs.map (·.2) = ns.map V.int ∧ Q (.int ns.sum) H1
theorem preSum_take (ns : List Int) : ∀ j : Nat, preSum (fun i => ns.getD i 0) j = (ns.take j).sum
  | 0 => by simp [preSum]
  | j + 1 => by
    rw [preSum, preSum_take ns j, List.take_add_one, List.sum_append, List.getD_eq_getElem?_getD]
    cases e : ns[j]? with
    | none => simp
    | some x => simp
theorem preSum_list (ns : List Int) : preSum (fun i => ns.getD i 0) ns.length = ns.sum := by rw [preSum_take, List.take_length]
section
variable {X : Cx}
theorem pe_sumV {o : Expr} {td : TE} {p pos apos cpos : Pos} (hc : X.calm = true) (hg : Gl X "sum") (hm : X.mg "sum" = none) (ho : PE X o td) (hbase : attributeBase o "values" X.env (eval o X.env) = eval o X.env := by rfl) (hline : (apos.endLine == cpos.line) = true := by rfl)
    (hs : starEach [.Call (.Attribute o "values" apos) [] [] cpos] X.env = [(false, eval (.Call (.Attribute o "values" apos) [] [] cpos) X.env)] := by rfl) :
    PE X (.Call (.Name "sum" p) [.Call (.Attribute o "values" apos) [] [] cpos] [] pos) (tSumV td) := by
  intro pins s σ H Q I h
  refine wpAny_Call_Name_kw (ld_blt I hg hm bt_sum ?_)
  refine PyProof.Rows.callWith_builtin1 ?_ hs rfl
  rw [hs]
  show wpAny _ _ (spliced ((false, eval (.Call (.Attribute o "values" apos) [] [] cpos) X.env) :: [])) _ _ s
  refine Calls.spliced_cons (wpAny_Call_method0_late hbase hline (thn (ho pins s σ H _ I h) fun v s1 ⟨x, H1, I1, r1, a, kvs, ns, ex, ea, en, q1⟩ => ?_))
  subst ex
  obtain rfl : v = Value.ref a := r1
  obtain ⟨t1, t2, _⟩ := isD_at I1 (.inl ⟨kvs, .inl ea⟩)
  obtain ⟨z, hd, vs, rel, dd⟩ := dk_of I1.hok ea
  obtain ⟨ep, da⟩ := dd.dictAt
  refine ⟨"dict", _, PySem.F.plainAttrs_dict, PySem.F.slot_dict_values, PySem.F.type_dict_values, t1, t2, Calls.callWith_builtin rfl (PySem.evalArgs_none ?_)⟩
  refine call_meetsIn PySem.F.slot_dict_values dd.typeIs PySem.F.entry_dict_values (PySem.F.args_dict_values_1 _) (meets_dict_values (mixKind X.prog X.w) a hd) ⟨⟨vs, dd⟩, ?_⟩
  refine Calls.spliced_nil ?_
  generalize hs2 : ({ s1 with heap := s1.heap.push { cls := .type "dict_values", data := .fields #[.ref a] } } : Shared) = s2
  have hk2 : ∀ b o, s1.heap.get? b = some o → s2.heap.get? b = some o := fun b o e => by rw [← hs2]; exact Heap.get?_push_of_some _ e
  have I2 : Inv X pins σ H1 s2 := by rw [← hs2]; exact I1.kept (t' := s1.toks) fun b o e => Heap.get?_push_of_some _ e
  have hv : s2.heap.IsValuesView s1.heap.objs.size a := by rw [← hs2]; exact ⟨_, Heap.get?_push_size _ rfl, rfl, rfl⟩
  have da2 : s2.heap.DictAt (mixKind X.prog X.w) a vs ep := da.at' fun o e => hk2 _ _ e
  refine call_sum_walkAnyS ?_
  have Kd := PySem.W.kdl_values (prog := X.prog) (w := X.w) (knd := mixKind X.prog X.w) (kvs := vs) (ep := ep) (r := s1.heap.objs.size) (d := a)
  obtain ⟨oI, St, hit, W, st⟩ := Kd.iter X.A.in1 s2 (I.ok.hd hc) ⟨hv, da2⟩
  have hl := rel.length
  have ln : kvs.length = ns.length := by have := congrArg List.length en; simpa using this
  refine hit _ _ ⟨s2.heap.objs.size, _, _, _, vs.length, _, _, (fun i => ns.getD i 0), rfl, W.toS, st, fun b hb => ?_, fun i u hu => ?_, fun s' t' hm => ?_⟩
  · show b < (s2.heap.push oI).objs.size
    rw [Heap.size_push]
    rcases List.mem_cons.mp hb with e | hb
    · rw [e]; exact Nat.lt_succ_self _
    · rw [List.mem_singleton.mp hb]; exact Nat.lt_succ_of_lt (Kd.there _ ⟨hv, da2⟩).2
  · obtain ⟨k, hx⟩ := hu
    have hi : i < kvs.length := by rw [hl]; exact (List.getElem?_eq_some_iff.mp hx).1
    obtain ⟨u', e1, ru⟩ := KV.get rel (i := i) (k := kvs[i].1) (x := kvs[i].2) (by rw [List.getElem?_eq_getElem hi])
    rw [hx] at e1
    have e2 : u = u' := congrArg Prod.snd (Option.some.inj e1)
    subst e2
    have e3 : kvs[i].2 = V.int (ns.getD i 0) := by
      have : (kvs.map (·.2))[i]? = (ns.map V.int)[i]? := by rw [en]
      rw [List.getElem?_map, List.getElem?_map, List.getElem?_eq_getElem hi, List.getElem?_eq_getElem (show i < ns.length by omega)] at this
      rw [List.getD_eq_getElem?_getD, List.getElem?_eq_getElem (show i < ns.length by omega)]
      exact Option.some.inj this
    rw [e3] at ru
    exact ru
  · have hk : ∀ b o, s2.heap.get? b = some o → s'.heap.get? b = some o := fun b o e =>
      hm.heap b o (fun hI => absurd (Heap.lt_size e) (by rw [List.mem_singleton.mp hI]; exact Nat.lt_irrefl _)) (Heap.get?_push_of_some _ e)
    rw [Moved.eq_with hm]
    refine ⟨.int ns.sum, H1, I2.kept (t' := s'.toks) hk, ⟨t', ?_⟩, q1⟩
    rw [← preSum_list ns, ← ln, hl]
end
end L2
namespace L2
open PySem PySem.Spec PyProof.Rows
end L2
namespace L2
open PySem PySem.Spec PyProof.Rows
end L2
namespace L2
open PySem PySem.Spec PyProof.Rows
def spread (ks : List Int) (L : List Int) : List Int := ks.flatMap fun k => List.replicate (L.count k) k
theorem spread_cons (k : Int) (ks L : List Int) : spread (k :: ks) L = List.replicate (L.count k) k ++ spread ks L := by unfold spread; rw [List.flatMap_cons]
theorem spread_count {ks : List Int} (hn : ks.Nodup) (L : List Int) (x : Int) : (spread ks L).count x = if x ∈ ks then L.count x else 0 := by
  induction ks with
  | nil => simp [spread]
  | cons k ks ih =>
    rw [spread_cons, List.count_append, List.count_replicate, ih (List.nodup_cons.mp hn).2]
    have hk := (List.nodup_cons.mp hn).1
    by_cases z : k = x
    · subst z
      rw [if_neg hk]; simp
    · have z' : ¬ x = k := fun e => z e.symm
      simp [z, z']
theorem spread_perm {ks L : List Int} (hn : ks.Nodup) (h : ∀ x ∈ L, x ∈ ks) : (spread ks L).Perm L := by
  rw [List.perm_iff_count]
  intro x
  rw [spread_count hn]
  by_cases z : x ∈ ks
  · rw [if_pos z]
  · rw [if_neg z, List.count_eq_zero.mpr fun hx => z (h x hx)]
theorem spread_len (ks L : List Int) : ((spread ks L).length : Int) = (ks.map fun k => (L.count k : Int)).sum := by
  induction ks with
  | nil => rfl
  | cons k ks ih => rw [spread_cons, List.length_append, List.length_replicate, List.map_cons, List.sum_cons, ← ih]; omega
theorem tally_many {ks L : List Int} (hn : ks.Nodup) (h : ∀ x ∈ L, x ∈ ks) : (ks.map fun k => (L.count k : Int)).sum = L.length := by
  rw [← spread_len, (spread_perm hn h).length_eq]
end L2
namespace L2
open PySem PySem.Spec PyProof.Rows
end L2
namespace L2
open PySem PySem.Spec PyProof.Rows
end L2
namespace L2
open PySem PySem.Spec PyProof.Rows
end L2
namespace L2
open PySem PySem.Spec PyProof.Rows
end L2
namespace L2
open PySem PySem.Spec PyProof.Rows
end L2
namespace L2
open PySem PySem.Spec PyProof.Rows
end L2
namespace L2
open PySem PySem.Spec PyProof.Rows
def TopT (K : PySem.W.Frag) (p : Addr) (xs : List V) : Prop := ∃ (o : Obj) (its : Array Value) (n : Nat), K.lookup p = some o ∧ o.cls = .type "tuple" ∧ o.data = .seq its n ∧ its.size ≤ sizeLine ∧ Vals xs its.toList
theorem TopT.sq {K : PySem.W.Frag} {H : Hp} {p : Addr} {xs : List V} (h : TopT K p xs) : SqT K H p xs := .inr h
def Shr (K : PySem.W.Frag) (H : Hp) (sv : V) (a b : Int) : Prop := ∃ p, sv = .ref p ∧ (H p = some (.tup [.int a, .int b]) ∨ TopT K p [.int a, .int b])
theorem Shr.keep {K : PySem.W.Frag} {H H' : Hp} {sv : V} {a b : Int} (h : Shr K H sv a b) (k : KeepT H H') : Shr K H' sv a b := by
  obtain ⟨p, e, h⟩ := h
  exact ⟨p, e, h.imp (k _ _) id⟩
theorem Shr.of {K : PySem.W.Frag} {H : Hp} {sv : V} {a b : Int} (h : IsD H sv (placeD (a, b))) : Shr K H sv a b := by
  obtain ⟨p, e, h⟩ := isPlace_inv h
  exact ⟨p, e, .inl h⟩
theorem shr_sq {K : PySem.W.Frag} {H : Hp} {p : Addr} {xs : List V} (h : H p = some (.tup xs) ∨ TopT K p xs) : SqT K H p xs := h.elim SqT.of TopT.sq
end L2
namespace L2
open PySem PySem.Spec PyProof.Rows
structure Dk (H : Hp) (d c : Addr) (n : Nat) : Prop where
  ne : d ≠ c
  at_ : ∃ (ns : List Int) (a t : Int), H d = some (.lst [.ref c, .int a, .int t]) ∧ H c = some (.lst (ns.map V.int)) ∧ 1 ≤ ns.length ∧ ns.length ≤ 64 ∧ 0 ≤ t ∧ t ≤ n
theorem Dk.mono {H : Hp} {d c : Addr} {n m : Nat} (D : Dk H d c n) (h : n ≤ m) : Dk H d c m := by
  obtain ⟨ne, ns, a, t, h1, h2, h3, h4, h5, h6⟩ := D
  exact ⟨ne, ns, a, t, h1, h2, h3, h4, h5, by omega⟩
theorem Dk.keep {H H' : Hp} {d c : Addr} {n : Nat} (D : Dk H d c n) (s : Same H H') : Dk H' d c n := by
  obtain ⟨ne, ns, a, t, h1, h2, h3⟩ := D
  exact ⟨ne, ns, a, t, s _ _ h1, s _ _ h2, h3⟩
theorem Dk.upd {H : Hp} {d c p : Addr} {n : Nat} {o : HO} (D : Dk H d c n) (hp : H p = none) : Dk (upd H p o) d c n := D.keep (same_upd hp)
theorem Dk.nd {H : Hp} {d c p : Addr} {n : Nat} (D : Dk H d c n) (hp : H p = none) : p ≠ d ∧ p ≠ c := by
  obtain ⟨_, ns, a, t, h1, h2, _⟩ := D
  exact ⟨(ne_of_none h1 hp).symm, (ne_of_none h2 hp).symm⟩
def K2 (d c : Addr) (H H' : Hp) : Prop := ∀ b o, H b = some o → b ≠ d → b ≠ c → H' b = some o
theorem K2.refl (d c : Addr) (H : Hp) : K2 d c H H := fun _ _ e _ _ => e
theorem K2.trans {d c : Addr} {H H1 H2 : Hp} (a : K2 d c H H1) (b : K2 d c H1 H2) : K2 d c H H2 := fun x o e n m => b x o (a x o e n m) n m
theorem Same.k2 {H H' : Hp} (s : Same H H') (d c : Addr) : K2 d c H H' := fun b o e _ _ => s b o e
theorem K2.upd {d c p : Addr} {H H1 : Hp} {o : HO} (a : K2 d c H H1) (hp : H1 p = none) : K2 d c H (upd H1 p o) := a.trans ((same_upd hp).k2 d c)
theorem K2.tups {d c : Addr} {H H' : Hp} {n : Nat} (k : K2 d c H H') (D : Dk H d c n) : KeepT H H' := fun b xs e => by
  obtain ⟨_, ns, a, t, h1, h2, _⟩ := D
  exact k b _ e (ne_of e h1 fun z => by cases z) (ne_of e h2 fun z => by cases z)
end L2
namespace L2
open PySem PySem.Spec PyProof.Rows
theorem share01 : Share 0 1 := ⟨by decide, by decide, by decide, by decide⟩
theorem share11 : Share 1 1 := ⟨by decide, by decide, by decide, by decide⟩
end L2
set_option maxHeartbeats 2000000
namespace MwZipL
open PySem PySem.Spec PyProof.Rows
section
variable {prog : Program} {w : World} {A : Around} {E : Value → Shared → Prop} {s : Shared}
structure Zp (h : Heap) (z a b u v p q : Addr) (f0 : Value) (k : Nat) (xs ys : Array Value) : Prop where
  hz : IsZip h z a b f0
  ha : IsPair h a (.ref u) (.ref v)
  hb : ∃ x y, IsPair h b x y
  hu : h.IsListIter u p k
  hv : h.IsTupleIter v q k
  hp : h.IsList p xs
  hq : h.IsTuple q ys
def Apart (z a b u v p q : Addr) : Prop := [z, a, b, u, v].Nodup ∧ p ∉ [z, a, b, u, v] ∧ q ∉ [z, a, b, u, v]
theorem zip_item {z a b u v p q : Addr} {k : Nat} {xs ys : Array Value} {x y : Value} {Q : Option Value → Shared → Prop} (D : Apart z a b u v p q) (Z : Zp s.heap z a b u v p q .none k xs ys) (hx : xs[k]? = some x) (hy : ys[k]? = some y)
    (hQ : ∀ h', Zp h' z a b u v p q (rawInt s.heap.objs.size) (k + 1) xs ys → IsPair h' s.heap.objs.size x y → h'.objs.size = s.heap.objs.size + 1 → (∀ c o, c ∉ [z, b, u, v] → s.heap.get? c = some o → h'.get? c = some o) → Q (some (.ref s.heap.objs.size)) { s with heap := h' }) :
    wpAny (model prog w) A (pyNext (.ref z)) Q E s := by
  obtain ⟨hz, ha, ⟨x0, y0, hb⟩, hu, hv, hp, hq⟩ := Z
  obtain ⟨nd, np, nq⟩ := D
  simp only [List.nodup_cons, List.mem_cons, List.not_mem_nil, or_false, not_or, List.nodup_nil, not_false_iff, and_true] at nd np nq
  obtain ⟨⟨za, zb, zu, zv⟩, ⟨ab, au, av⟩, ⟨bu, bv⟩, uv⟩ := nd
  obtain ⟨pz, pa, pb, pu, pv⟩ := np
  obtain ⟨qz, qa, qb, qu, qv⟩ := nq
  have hT : s.TypeIs (.ref z) "zip" := ⟨_, hz, rfl⟩
  unfold pyNext
  refine wpAny_bind (wpAny_attempt (wpAny_callSpecial?_slot (name := Str.ofString "__next__") hT PySem.F.slot_zip_next (wpAny_call_entry PySem.F.slot_zip_next hT PySem.F.entry_zip_next ?_ (PySem.F.args_zip_next_1 _))))
  show wpAny _ _ (field (.ref z) 2 >>= fun _ => _) _ _ _
  refine wpAny_bind (wpAny_field hz rfl (x := .bool false) rfl ?_)
  show wpAny _ _ (field (.ref z) 3 >>= fun _ => _) _ _ _
  refine wpAny_bind (wpAny_field hz rfl (x := .ref a) rfl (wpAny_bind (wpAny_seqItems ha rfl ?_)))
  show wpAny _ _ (Builtin.SmallTypes.ownedTupleIsFree (.ref z) >>= fun _ => _) _ _ _
  refine wpAny_bind ?_
  unfold Builtin.SmallTypes.ownedTupleIsFree
  refine wpAny_bind (wpAny_field hz rfl (x := .none) rfl (wpAny_pure ?_))
  simp only [if_true]
  refine wpAny_bind (wpAny_rule (wpAny_bind (wpAny_field hz rfl (x := .ref b) rfl (wpAny_bind (wpAny_setField_rec hz (by simp) fun g1 hz1 k1 => ?_)))))
  replace hz1 : IsZip g1 z a b .ellipsis := hz1
  refine wpAny_bind ?_
  simp only [List.zipIdx_cons, List.zipIdx_nil, List.forIn_cons, List.forIn_nil]
  refine wpAny_bind (wpAny_bind (wpAny_onRaise ?_))
  show wpAny _ _ (Builtin.SmallTypes.nextOf (.ref u) >>= fun _ => _) _ _ _
  refine wpAny_bind (wpAny_nextOf_list_item (hu.extBut k1.extBut (Ne.symm zu)) (hp.extBut k1.extBut pz) hx fun g2 hu2 k2 => wpAny_pure ?_)
  have hb2 : IsPair g2 b x0 y0 := k2.extBut _ _ bu (k1.extBut _ _ (Ne.symm zb) hb)
  refine wpAny_bind (wpAny_seqItems hb2 rfl (wpAny_bind (wpAny_updateSeq_pair hb2 fun g3 hb3 k3 => wpAny_bind (wpAny_letGo (wpAny_pure ?_)))))
  replace hb3 : IsPair g3 b x y0 := hb3
  refine wpAny_bind (wpAny_bind (wpAny_onRaise ?_))
  show wpAny _ _ (Builtin.SmallTypes.nextOf (.ref v) >>= fun _ => _) _ _ _
  refine wpAny_bind (MwZip.draw_one (((hv.extBut k1.extBut (Ne.symm zv)).extBut k2.extBut (Ne.symm uv)).extBut k3.extBut (Ne.symm bv)) (((hq.extBut k1.extBut qz).extBut k2.extBut qu).extBut k3.extBut qb) hy fun g4 hv4 k4 => wpAny_pure ?_)
  have hb4 : IsPair g4 b x y0 := k4.extBut _ _ bv hb3
  refine wpAny_bind (wpAny_seqItems hb4 rfl (wpAny_bind (wpAny_updateSeq_pair hb4 fun g5 hb5 k5 => wpAny_bind (wpAny_letGo (wpAny_pure (wpAny_pure ?_))))))
  replace hb5 : IsPair g5 b x y := hb5
  refine wpAny_bind (wpAny_seqItems hb5 rfl (wpAny_bind (wpAny_newTuple ?_)))
  have sz : g5.objs.size = s.heap.objs.size := by rw [k5.1, k4.1, k3.1, k2.1, k1.1]
  have hz5 : IsZip g5 z a b .ellipsis := k5.extBut _ _ zb (k4.extBut _ _ zv (k3.extBut _ _ zb (k2.extBut _ _ zu hz1)))
  have all : ∀ c o, c ≠ z → c ≠ b → c ≠ u → c ≠ v → s.heap.get? c = some o → g5.get? c = some o := fun c o c1 c2 c3 c4 e => k5.extBut _ _ c2 (k4.extBut _ _ c4 (k3.extBut _ _ c2 (k2.extBut _ _ c3 (k1.extBut _ _ c1 e))))
  have hu5 : g5.IsListIter u p (k + 1) := ((hu2.extBut k3.extBut (Ne.symm bu)).extBut k4.extBut uv).extBut k5.extBut (Ne.symm bu)
  have hv5 : g5.IsTupleIter v q (k + 1) := hv4.extBut k5.extBut (Ne.symm bv)
  have ltz : z < g5.objs.size := Heap.lt_size hz5
  show wpAny _ _ (Builtin.SmallTypes.ownedTupleHandOut (.ref z) (.ref g5.objs.size) >>= fun _ => _) _ _ _
  refine wpAny_bind ?_
  unfold Builtin.SmallTypes.ownedTupleHandOut
  have hz6 : IsZip (g5.push { cls := .type "tuple", data := .seq #[x, y] }) z a b .ellipsis := Heap.get?_push_of_some _ hz5
  refine wpAny_bind (wpAny_setField_rec hz6 (by simp) fun g7 hz7 k7 => ?_)
  replace hz7 : IsZip g7 z a b (rawInt g5.objs.size) := hz7
  refine wpAny_setField_rec hz7 (by simp) fun g8 hz8 k8 => ?_
  replace hz8 : IsZip g8 z a b (rawInt g5.objs.size) := hz8
  have up : ∀ c o, c ≠ z → g5.get? c = some o → g8.get? c = some o := fun c o c1 e => k8.extBut _ _ c1 (k7.extBut _ _ c1 (Heap.get?_push_of_some _ e))
  have new8 : IsPair g8 g5.objs.size x y := k8.extBut _ _ (Nat.ne_of_gt ltz) (k7.extBut _ _ (Nat.ne_of_gt ltz) (Heap.get?_push_size _ rfl))
  have sz8 : g8.objs.size = g5.objs.size + 1 := by rw [k8.1, k7.1, Heap.size_push]
  rw [sz] at hz8 new8 sz8
  refine wpAny_pure ⟨_, rfl, wpAny_pure ?_⟩
  show Q (some (.ref g5.objs.size)) _
  rw [sz]
  refine hQ g8 ⟨hz8, up _ _ (Ne.symm za) (all _ _ (Ne.symm za) ab au av ha), ⟨x, y, up _ _ (Ne.symm zb) hb5⟩, hu5.at fun o e => up _ o (Ne.symm zu) e, hv5.at fun o e => up _ o (Ne.symm zv) e, hp.at fun o e => up _ o pz (all _ o pz pb pu pv e), hq.at fun o e => up _ o qz (all _ o qz qb qu qv e)⟩ new8 sz8 fun c o hc e => ?_
  simp only [List.mem_cons, List.not_mem_nil, or_false, not_or] at hc
  exact up c o hc.1 (all c o hc.1 hc.2.1 hc.2.2.1 hc.2.2.2 e)
theorem zip_end {z a b u v p q : Addr} {k : Nat} {xs ys : Array Value} {Q : Option Value → Shared → Prop} (hh : A.handled = none) (D : Apart z a b u v p q) (Z : Zp s.heap z a b u v p q .none k xs ys) (hx : xs[k]? = none)
    (hQ : ∀ h', (∀ c o, c ∉ [z, b, u, v] → s.heap.get? c = some o → h'.get? c = some o) → Q none { s with heap := h' }) : wpAny (model prog w) A (pyNext (.ref z)) Q E s := by
  obtain ⟨hz, ha, ⟨x0, y0, hb⟩, hu, hv, hp, hq⟩ := Z
  obtain ⟨nd, np, nq⟩ := D
  simp only [List.nodup_cons, List.mem_cons, List.not_mem_nil, or_false, not_or, List.nodup_nil, not_false_iff, and_true] at nd np nq
  obtain ⟨⟨za, zb, zu, zv⟩, ⟨ab, au, av⟩, ⟨bu, bv⟩, uv⟩ := nd
  obtain ⟨pz, pa, pb, pu, pv⟩ := np
  have hT : s.TypeIs (.ref z) "zip" := ⟨_, hz, rfl⟩
  unfold pyNext
  refine wpAny_bind (wpAny_attempt (wpAny_callSpecial?_slot (name := Str.ofString "__next__") hT PySem.F.slot_zip_next (wpAny_call_entry PySem.F.slot_zip_next hT PySem.F.entry_zip_next ?_ (PySem.F.args_zip_next_1 _))))
  show wpAny _ _ (field (.ref z) 2 >>= fun _ => _) _ _ _
  refine wpAny_bind (wpAny_field hz rfl (x := .bool false) rfl ?_)
  show wpAny _ _ (field (.ref z) 3 >>= fun _ => _) _ _ _
  refine wpAny_bind (wpAny_field hz rfl (x := .ref a) rfl (wpAny_bind (wpAny_seqItems ha rfl ?_)))
  show wpAny _ _ (Builtin.SmallTypes.ownedTupleIsFree (.ref z) >>= fun _ => _) _ _ _
  refine wpAny_bind ?_
  unfold Builtin.SmallTypes.ownedTupleIsFree
  refine wpAny_bind (wpAny_field hz rfl (x := .none) rfl (wpAny_pure ?_))
  simp only [if_true]
  refine wpAny_bind (wpAny_rule (wpAny_bind (wpAny_field hz rfl (x := .ref b) rfl (wpAny_bind (wpAny_setField_rec hz (by simp) fun g1 hz1 k1 => ?_)))))
  replace hz1 : IsZip g1 z a b .ellipsis := hz1
  refine wpAny_bind ?_
  simp only [List.zipIdx_cons, List.zipIdx_nil, List.forIn_cons, List.forIn_nil]
  refine wpAny_bind (wpAny_bind (wpAny_onRaise ?_))
  show wpAny _ _ (Builtin.SmallTypes.nextOf (.ref u) >>= fun _ => _) _ _ _
  refine wpAny_bind (wpAny_nextOf_list_end (by simp [hh]) (hu.extBut k1.extBut (Ne.symm zu)) (hp.extBut k1.extBut pz) hx fun g2 e k2 he => ?_)
  obtain ⟨oe, ge, ce⟩ := he
  have hz2 : IsZip g2 z a b .ellipsis := k2 _ _ zu hz1
  have ez : e ≠ z := fun x => by subst x; rw [hz2] at ge; cases ge; simp at ce
  refine wpAny_setField_rec hz2 (by simp) fun g3 _ k3 => ?_
  refine wpAny_bind (wpAny_isInstance (T := "StopIteration") (b := true) ⟨oe, k3.extBut _ _ ez ge, ce⟩ isSubtype_stop ?_)
  refine wpAny_pure (hQ _ fun c o hc x => ?_)
  simp only [List.mem_cons, List.not_mem_nil, or_false, not_or] at hc
  exact k3.extBut _ _ hc.1 (k2 _ _ hc.2.2.1 (k1.extBut _ _ hc.1 x))
abbrev lIt (p : Addr) : Obj := { cls := .type "list_iterator", data := .fields #[.ref p, .int 0 0] }
abbrev tIt (p : Addr) : Obj := { cls := .type "tuple_iterator", data := .fields #[.ref p, .int 0 0] }
abbrev zA (h : Heap) (p q : Addr) : Heap := (h.push (lIt p)).push (tIt q)
abbrev zB (h : Heap) (p q : Addr) : Heap := (zA h p q).push { cls := .type "tuple", data := .seq #[.ref h.objs.size, .ref (h.push (lIt p)).objs.size] }
abbrev zC (h : Heap) (p q : Addr) : Heap := (zB h p q).push { cls := .type "tuple", data := .seq #[.none, .none] }
abbrev zD (h : Heap) (p q : Addr) : Heap := (zC h p q).push { cls := .type "zip", data := .fields #[.none, .bool false, .bool false, .ref (zA h p q).objs.size, .ref (zB h p q).objs.size] }
theorem zip_made (p q : Addr) (xs ys : Array Value) :
    Meets (Builtin.«zip.__new__» ⟨[.type "zip", .ref p, .ref q], []⟩) (fun _ R s => s.heap.IsList p xs ∧ s.heap.IsTuple q ys ∧ R (.ok (.ret (.ref (zC s.heap p q).objs.size))) { s with heap := zD s.heap p q }) :=
  .of_wp fun prog w A R s h => by
    obtain ⟨hp, g, d, tk, os⟩ := s
    obtain ⟨h1, h2, h⟩ := h
    have su := sub_zip
    have t1 : Heap.IsList (Shared.heap ⟨hp, g, d, tk, os⟩) p xs := h1
    have t2 : Heap.IsTuple (Shared.heap ⟨hp.push { cls := .type "list_iterator", data := .fields #[.ref p, .int 0 0] }, g, d, tk, os⟩) q ys := h2.at fun o e => Heap.get?_push_of_some _ e
    wp_walk using wpAny_pyIter_list t1, wpAny_pyIter_tuple t2
    exact ⟨_, rfl, h⟩
theorem call_zip {p q : Addr} {xs ys : Array Value} {Q : Value → Shared → Prop} (hp : s.heap.IsList p xs) (hq : s.heap.IsTuple q ys)
    (h : ∀ h', Zp h' (s.heap.objs.size + 4) (s.heap.objs.size + 2) (s.heap.objs.size + 3) s.heap.objs.size (s.heap.objs.size + 1) p q .none 0 xs ys → (∀ c o, s.heap.get? c = some o → h'.get? c = some o) → Q (.ref (s.heap.objs.size + 4)) { s with heap := h' }) :
    wpAny (model prog w) A (call (.type "zip") [.ref p, .ref q]) Q E s := by
  refine callType_new PySem.F.called_zip (by decide) (PySem.F.typeCall_zip_2 _ _) (PySem.F.newCall_zip_2 _ _) (fun obj => PySem.F.args_object_init_3 obj _ _) PySem.F.entry_zip_new (zip_made p q xs ys) ⟨hp, hq, ?_⟩
  show _ ∧ _
  unfold zD zC zB zA lIt tIt
  generalize e1 : s.heap.push { cls := .type "list_iterator", data := .fields #[.ref p, .int 0 0] } = h1
  generalize e2 : h1.push { cls := .type "tuple_iterator", data := .fields #[.ref q, .int 0 0] } = h2
  have z1 : h1.objs.size = s.heap.objs.size + 1 := by rw [← e1]; exact Heap.size_push ..
  have z2 : h2.objs.size = s.heap.objs.size + 2 := by rw [← e2, Heap.size_push, z1]
  rw [z1]
  generalize e3 : h2.push { cls := .type "tuple", data := .seq #[.ref s.heap.objs.size, .ref (s.heap.objs.size + 1)] } = h3
  have z3 : h3.objs.size = s.heap.objs.size + 3 := by rw [← e3, Heap.size_push, z2]
  generalize e4 : h3.push { cls := .type "tuple", data := .seq #[.none, .none] } = h4
  have z4 : h4.objs.size = s.heap.objs.size + 4 := by rw [← e4, Heap.size_push, z3]
  rw [z2, z3, z4]
  generalize e5 : h4.push { cls := .type "zip", data := .fields #[.none, .bool false, .bool false, .ref (s.heap.objs.size + 2), .ref (s.heap.objs.size + 3)] } = h5
  have k1 : ∀ c o, s.heap.get? c = some o → h1.get? c = some o := fun c o e => by rw [← e1]; exact Heap.get?_push_of_some _ e
  have k2 : ∀ c o, h1.get? c = some o → h2.get? c = some o := fun c o e => by rw [← e2]; exact Heap.get?_push_of_some _ e
  have k3 : ∀ c o, h2.get? c = some o → h3.get? c = some o := fun c o e => by rw [← e3]; exact Heap.get?_push_of_some _ e
  have k4 : ∀ c o, h3.get? c = some o → h4.get? c = some o := fun c o e => by rw [← e4]; exact Heap.get?_push_of_some _ e
  have k5 : ∀ c o, h4.get? c = some o → h5.get? c = some o := fun c o e => by rw [← e5]; exact Heap.get?_push_of_some _ e
  have g1 : h1.get? s.heap.objs.size = some { cls := .type "list_iterator", data := .fields #[.ref p, .int 0 0] } := by rw [← e1]; exact Heap.get?_push_size _ rfl
  have g2 : h2.get? (s.heap.objs.size + 1) = some { cls := .type "tuple_iterator", data := .fields #[.ref q, .int 0 0] } := by rw [← e2, ← z1]; exact Heap.get?_push_size _ rfl
  have g3 : h3.get? (s.heap.objs.size + 2) = some { cls := .type "tuple", data := .seq #[.ref s.heap.objs.size, .ref (s.heap.objs.size + 1)] } := by rw [← e3, ← z2]; exact Heap.get?_push_size _ rfl
  have g4 : h4.get? (s.heap.objs.size + 3) = some { cls := .type "tuple", data := .seq #[.none, .none] } := by rw [← e4, ← z3]; exact Heap.get?_push_size _ rfl
  have g5 : h5.get? (s.heap.objs.size + 4) = some { cls := .type "zip", data := .fields #[.none, .bool false, .bool false, .ref (s.heap.objs.size + 2), .ref (s.heap.objs.size + 3)] } := by rw [← e5, ← z4]; exact Heap.get?_push_size _ rfl
  have kk : ∀ c o, s.heap.get? c = some o → h5.get? c = some o := fun c o e => k5 _ _ (k4 _ _ (k3 _ _ (k2 _ _ (k1 _ _ e))))
  exact ⟨⟨_, g5, rfl⟩, h _ ⟨g5, k5 _ _ (k4 _ _ g3), ⟨_, _, k5 _ _ g4⟩, ⟨_, k5 _ _ (k4 _ _ (k3 _ _ (k2 _ _ g1))), rfl, rfl⟩, ⟨_, k5 _ _ (k4 _ _ (k3 _ _ g2)), rfl, rfl⟩, hp.at fun o e => kk _ o e, hq.at fun o e => kk _ o e⟩ kk⟩
end
end MwZipL
namespace L2
open PySem PySem.Spec PyProof.Rows
def ItLT (a b : Addr) : It :=
  ⟨fun i H => ∃ xs ys x y, H a = some (.lst xs) ∧ H b = some (.tup ys) ∧ xs.length = ys.length ∧ xs[i]? = some x ∧ ys[i]? = some y,
   fun i H v H' => ∃ t x y, H t = none ∧ v = .ref t ∧ H' = upd H t (.tup [x, y]) ∧ ∀ xs ys, H a = some (.lst xs) → H b = some (.tup ys) → xs[i]? = some x ∧ ys[i]? = some y,
   fun i H => ∃ xs ys, H a = some (.lst xs) ∧ H b = some (.tup ys) ∧ xs.length = ys.length ∧ xs.length ≤ i⟩
theorem turn_zipL {P : Program} {w : World} {K : PySem.W.Frag} {elts : List Expr} {kk : Nat} {pos : Pos} (p q z a b u v : Addr) (D : MwZipL.Apart z a b u v p q) :
    Turn P w K (.Tuple elts kk pos) (ItLT p q) [z, a, b, u, v] z (fun i h => IsZip h z a b .none ∧ IsPair h a (.ref u) (.ref v) ∧ (∃ x y, IsPair h b x y) ∧ h.IsListIter u p i ∧ h.IsTupleIter v q i) where
  mem := by simp
  obj := fun i h st c hc => by
    obtain ⟨hz, ha, ⟨x, y, hb⟩, ⟨ou, gu, _, du⟩, ⟨ov, gv, _, dv⟩⟩ := st
    simp only [List.mem_cons, List.not_mem_nil, or_false] at hc
    rcases hc with rfl | rfl | rfl | rfl | rfl
    · exact ⟨_, hz, fun v z => by cases z⟩
    · exact ⟨_, ha, fun v z => by cases z⟩
    · exact ⟨_, hb, fun v z => by cases z⟩
    · exact ⟨_, gu, fun v z => by rw [du] at z; cases z⟩
    · exact ⟨_, gv, fun v z => by rw [dv] at z; cases z⟩
  keep := fun i h h' st k => by
    obtain ⟨hz, ha, ⟨x, y, hb⟩, hu, hv⟩ := st
    exact ⟨k z (by simp) _ hz, k a (by simp) _ ha, ⟨x, y, k b (by simp) _ hb⟩, hu.at fun o e => k u (by simp) o e, hv.at fun o e => k v (by simp) o e⟩
  item := by
    intro X hP hw hK hc i pins s σ H E I hf st hg
    subst hP hw hK
    obtain ⟨xs, ys, x, y, hxs, hys, hlen, hx, hy⟩ := hg
    obtain ⟨hz, ha, hb, hu, hv⟩ := st
    obtain ⟨_, its, nx, rx, ex⟩ := (show ObjOk X.prog X.w H s.heap p (.lst xs) from I.hok p _ hxs)
    have tx : s.heap.IsList p its.toArray := ⟨_, ex, rfl, _, rfl⟩
    obtain ⟨_, jts, ry, ty⟩ := (show ObjOk X.prog X.w H s.heap q (.tup ys) from I.hok q _ hys)
    obtain ⟨ux, hux, rux⟩ := rx.get hx
    obtain ⟨uy, huy, ruy⟩ := ry.get hy
    have frs : ∀ c ∈ [z, a, b, u, v], H c = none := fun c hc => (hf c hc).1
    refine MwZipL.zip_item D ⟨hz, ha, hb, hu, hv, tx, ty⟩ (x := ux) (y := uy) (by simpa using hux) (by simpa using huy) fun h1 Z1 new1 sz1 k1 => ?_
    refine ⟨_, rfl, wpAny_letOwnedTupleGo_zip Z1.hz fun h2 hz2 k2 => ?_⟩
    have nd := D.1
    simp only [List.nodup_cons, List.mem_cons, List.not_mem_nil, or_false, not_or, List.nodup_nil, not_false_iff, and_true] at nd
    obtain ⟨⟨za, zb, zu, zv⟩, ⟨ab, au, av⟩, ⟨bu, bv⟩, uv⟩ := nd
    have ltz : z < s.heap.objs.size := Heap.lt_size hz
    have new2 : IsPair h2 s.heap.objs.size ux uy := (k2.2 _ (Nat.ne_of_gt ltz)).trans new1
    have new : ObjOk X.prog X.w (upd H s.heap.objs.size (.tup [x, y])) (s.heap.push { cls := .type "tuple", data := .seq #[ux, uy] }) s.heap.objs.size (.tup [x, y]) :=
      ⟨(by show 2 ≤ sizeLine; decide), [ux, uy], .cons rux (.cons ruy .nil), _, Heap.get?_push_size _ rfl, rfl, _, rfl⟩
    have I1 : Inv X pins σ (upd H s.heap.objs.size (.tup [x, y])) { s with heap := s.heap.push { cls := .type "tuple", data := .seq #[ux, uy] }, toks := s.toks } := I.laid (fun c o e => Heap.get?_push_of_some _ e) (Nat.le_refl _) new
    have lt : ∀ c ∈ [z, a, b, u, v], c ≠ s.heap.objs.size := fun c hc => by
      simp only [List.mem_cons, List.not_mem_nil, or_false] at hc
      obtain ⟨x0, y0, hb0⟩ := hb
      rcases hc with rfl | rfl | rfl | rfl | rfl
      · exact Nat.ne_of_lt ltz
      · exact Nat.ne_of_lt (Heap.lt_size ha)
      · exact Nat.ne_of_lt (Heap.lt_size hb0)
      · obtain ⟨_, e, _⟩ := hu; exact Nat.ne_of_lt (Heap.lt_size e)
      · obtain ⟨_, e, _⟩ := hv; exact Nat.ne_of_lt (Heap.lt_size e)
    have hf1 : ∀ c ∈ [z, a, b, u, v], FpOk X pins (upd H s.heap.objs.size (.tup [x, y])) c := fun c hc => by
      obtain ⟨f0, f⟩ := hf c hc
      exact ⟨by rw [upd_ne (lt c hc)]; exact f0, f⟩
    have I2 : Inv X pins σ (upd H s.heap.objs.size (.tup [x, y])) { s with heap := h2, toks := s.toks } := by
      have I3 := I1.turnedL (t' := s.toks) (h' := h2) (fp := [z, a, b, u, v]) (fun c o hc e => ?_) hf1
      · exact I3
      have hc' : c ∉ [z, b, u, v] := fun m => hc (by
        simp only [List.mem_cons, List.not_mem_nil, or_false] at m ⊢
        rcases m with m | m | m | m <;> simp [m])
      have cz : c ≠ z := fun m => hc (by simp [m])
      rcases Heap.get?_push_cases e with ⟨rfl, rfl⟩ | e
      · exact new2
      · exact (k2.2 c cz).trans (k1 c o hc' e)
    obtain ⟨x1, y1, hb1⟩ := Z1.hb
    refine ⟨.ref s.heap.objs.size, _, I2, rfl, ⟨s.heap.objs.size, x, y, I.hok.fresh (Nat.le_refl _), rfl, rfl, fun xs' ys' e1 e2 => ?_⟩, ⟨hz2, (k2.2 a (Ne.symm za)).trans Z1.ha, ⟨x1, y1, (k2.2 b (Ne.symm zb)).trans hb1⟩, Z1.hu.at fun o e => (k2.2 u (Ne.symm zu)).trans e, Z1.hv.at fun o e => (k2.2 v (Ne.symm zv)).trans e⟩, fun c hc => (hf1 c hc).1⟩
    rw [hxs] at e1; rw [hys] at e2
    cases e1; cases e2
    exact ⟨hx, hy⟩
  done := by
    intro X hP hw hK hc i pins s σ H E I hf st hg
    subst hP hw hK
    obtain ⟨xs, ys, hxs, hys, hlen, hle⟩ := hg
    obtain ⟨hz, ha, hb, hu, hv⟩ := st
    obtain ⟨_, its, nx, rx, ex⟩ := (show ObjOk X.prog X.w H s.heap p (.lst xs) from I.hok p _ hxs)
    have tx : s.heap.IsList p its.toArray := ⟨_, ex, rfl, _, rfl⟩
    obtain ⟨_, jts, ry, ty⟩ := (show ObjOk X.prog X.w H s.heap q (.tup ys) from I.hok q _ hys)
    have hl := rx.length
    refine MwZipL.zip_end (I.ok.hd hc) D ⟨hz, ha, hb, hu, hv, tx, ty⟩ (by simp; omega) fun h' k => ⟨rfl, I.turnedL (t' := s.toks) (fp := [z, a, b, u, v]) (fun c o hc' e => k c o (fun m => hc' ?_) e) hf⟩
    simp only [List.mem_cons, List.not_mem_nil, or_false] at m ⊢
    rcases m with m | m | m | m <;> simp [m]
  self := fun _ _ _ _ _ st h => wpAny_pyIter_zip st.1 h
def iZipL (ta : TA) : TI := fun σ H R => ta σ H fun vs H1 => ∃ a b xs ys, vs = [.ref a, .ref b] ∧ H1 a = some (.lst xs) ∧ H1 b = some (.tup ys) ∧ R (ItLT a b) H1
section
variable {X : Cx}
theorem pi_zipL {elts : List Expr} {k : Nat} {pt : Pos} {a b : Expr} {ta : TA} {p pos : Pos} (hg : Gl X "zip") (hm : X.mg "zip" = none) (ha : PA X [a, b] ta) (hs : starEach [a, b] X.env = (false, eval a X.env) :: starEach [b] X.env := by rfl) (hpl : (backTo pos (starEach [b] X.env)).any (·.1) = false := by rfl) :
    PI X (.Tuple elts k pt) (.Call (.Name "zip" p) [a, b] [] pos) (iZipL ta) := by
  intro pins s σ H R I h
  refine Call_ (ld_blt I hg hm bt_zip (PyProof.Rows.callWith_type1 (thn (ha pos pins s σ H _ I h) fun us s1 ⟨vs, H1, I1, r1, q1⟩ => ?_) hs hpl))
  obtain ⟨pa, pb, xs, ys, rfl, hpa, hpb, q⟩ := q1
  obtain ⟨u, u', rfl, eu, eu'⟩ := vals2 r1
  obtain rfl : u = Value.ref pa := eu
  obtain rfl : u' = Value.ref pb := eu'
  obtain ⟨_, its, nx, rx, ex⟩ := (show ObjOk X.prog X.w H1 s1.heap pa (.lst xs) from I1.hok pa _ hpa)
  have tx : s1.heap.IsList pa its.toArray := ⟨_, ex, rfl, _, rfl⟩
  obtain ⟨_, jts, ry, ty⟩ := (show ObjOk X.prog X.w H1 s1.heap pb (.tup ys) from I1.hok pb _ hpb)
  have lta : pa < s1.heap.objs.size := by obtain ⟨_, e, _⟩ := tx; exact Heap.lt_size e
  have ltb : pb < s1.heap.objs.size := by obtain ⟨_, e, _⟩ := ty; exact Heap.lt_size e
  generalize hn : s1.heap.objs.size = n at *
  refine MwZipL.call_zip tx ty fun h' Z hk => ?_
  rw [hn] at Z ⊢
  have D : MwZipL.Apart (n + 4) (n + 2) (n + 3) n (n + 1) pa pb := by
    have la : (pa : Nat) < n := lta
    have lb : (pb : Nat) < n := ltb
    refine ⟨?_, ?_, ?_⟩
    · simp only [List.nodup_cons, List.mem_cons, List.not_mem_nil, or_false, not_or, List.nodup_nil, not_false_iff, and_true]
      have ne : ∀ i j : Nat, i ≠ j → ¬ ((n + i : Nat) : Addr) = ((n + j : Nat) : Addr) := fun i j h z => h (Nat.add_left_cancel z)
      exact ⟨⟨ne 4 2 (by decide), ne 4 3 (by decide), ne 4 0 (by decide), ne 4 1 (by decide)⟩, ⟨ne 2 3 (by decide), ne 2 0 (by decide), ne 2 1 (by decide)⟩, ⟨ne 3 0 (by decide), ne 3 1 (by decide)⟩, ne 0 1 (by decide)⟩
    · simp only [List.mem_cons, List.not_mem_nil, or_false, not_or]
      refine ⟨?_, ?_, ?_, ?_, ?_⟩ <;> first | exact Nat.ne_of_lt lta | exact Nat.ne_of_lt (Nat.lt_of_lt_of_le lta (Nat.le_add_right _ _))
    · simp only [List.mem_cons, List.not_mem_nil, or_false, not_or]
      refine ⟨?_, ?_, ?_, ?_, ?_⟩ <;> first | exact Nat.ne_of_lt ltb | exact Nat.ne_of_lt (Nat.lt_of_lt_of_le ltb (Nat.le_add_right _ _))
  refine wpAny_pyIter_zip Z.hz ?_
  refine ⟨n + 4, [n + 4, n + 2, n + 3, n, n + 1], _, _, H1, rfl, I1.kept (t' := s1.toks) hk, turn_zipL pa pb _ _ _ _ _ D, ⟨Z.hz, Z.ha, Z.hb, Z.hu, Z.hv⟩, fun c hc => ?_, q⟩
  have ge : s1.heap.objs.size ≤ c := by
    rw [hn]
    simp only [List.mem_cons, List.not_mem_nil, or_false] at hc
    rcases hc with e | e | e | e | e <;> (rw [e]; first | exact Nat.le_refl _ | exact Nat.le_add_right _ _)
  exact I1.fpOk ge (I1.hok.fresh ge)
end
theorem for_zipL {a b : Addr} {xs ys : List V} {g : TG} {tb : TS} {D : Ends} {σ : St} {H : Hp} (hlen : xs.length = ys.length) (Pv : Nat → St → Hp → Prop) (h0 : Pv 0 σ H) (hl : ∀ i σ H, i ≤ xs.length → Pv i σ H → H a = some (.lst xs) ∧ H b = some (.tup ys))
    (hs : ∀ i x y σ H t, xs[i]? = some x → ys[i]? = some y → Pv i σ H → H t = none → g (.ref t) σ (upd H t (.tup [x, y])) fun σ2 H2 => tb { D with nx := Pv (i + 1), ct := Pv (i + 1), bk := D.nx } σ2 H2) (hd : ∀ σ H, Pv xs.length σ H → D.nx σ H) :
    ∃ W : Nat → Nat → St → Hp → Prop, (∃ m, W 0 m σ H) ∧ ∀ i m σ H, W i m σ H →
      ((ItLT a b).stop i H ∧ D.nx σ H) ∨ ((ItLT a b).go i H ∧ ∃ N : St → Hp → Prop, (∀ σ' H', N σ' H' → ∃ m', m' < m ∧ W (i + 1) m' σ' H') ∧ ∀ x H', (ItLT a b).yld i H x H' → g x σ H' fun σ2 H2 => tb { D with nx := N, ct := N, bk := D.nx } σ2 H2) := by
  refine ⟨fun i m σ H => m = xs.length - i ∧ i ≤ xs.length ∧ Pv i σ H, ⟨xs.length, by simp, Nat.zero_le _, h0⟩, ?_⟩
  rintro i m σ H ⟨rfl, hi, p⟩
  obtain ⟨q1, q2⟩ := hl i σ H hi p
  by_cases hlt : i < xs.length
  · have hlt2 : i < ys.length := by omega
    refine .inr ⟨⟨xs, ys, xs[i], ys[i], q1, q2, hlen, by simp [hlt], by simp [hlt2]⟩, Pv (i + 1), fun σ' H' p' => ⟨xs.length - (i + 1), by omega, rfl, hlt, p'⟩, fun v H' y => ?_⟩
    obtain ⟨t, x, y', ht, rfl, rfl, e⟩ := y
    obtain ⟨e1, e2⟩ := e xs ys q1 q2
    exact hs i x y' σ _ t e1 e2 p ht
  · have e : i = xs.length := by omega
    subst e
    exact .inl ⟨⟨xs, ys, q1, q2, hlen, Nat.le_refl _⟩, hd σ H p⟩
end L2
namespace L2
open PySem PySem.Spec PyProof.Rows MwSet
theorem putK_putK {κ : Type} [DecidableEq κ] (m : List (κ × V)) (k : κ) (v v' : V) : putK (putK m k v) k v' = putK m k v' := by
  unfold putK
  by_cases h : (m.any fun kv => decide (kv.1 = k)) = true
  · rw [if_pos h, if_pos h]
    have e : (m.map (fun kv => if kv.1 = k then (kv.1, v) else kv)).any (fun kv => decide (kv.1 = k)) = true := by
      rw [List.any_map]
      rw [List.any_eq_true] at h ⊢
      obtain ⟨x, hx, e⟩ := h
      refine ⟨x, hx, ?_⟩
      have : x.1 = k := of_decide_eq_true e
      show decide ((if x.1 = k then (x.1, v) else x).1 = k) = true
      rw [if_pos this]
      exact e
    rw [if_pos e, List.map_map]
    refine List.map_congr_left fun x _ => ?_
    show (if (if x.1 = k then (x.1, v) else x).1 = k then ((if x.1 = k then (x.1, v) else x).1, v') else (if x.1 = k then (x.1, v) else x)) = _
    by_cases z : x.1 = k
    · rw [if_pos z, if_pos z, if_pos z]
    · rw [if_neg z, if_neg z]
  · rw [if_neg h, if_neg h]
    have e : (m ++ [(k, v)]).any (fun kv => decide (kv.1 = k)) = true := by simp
    rw [if_pos e, List.map_append]
    have hm : m.map (fun kv => if kv.1 = k then (kv.1, v') else kv) = m := by
      have : ∀ x ∈ m, (fun kv : κ × V => if kv.1 = k then (kv.1, v') else kv) x = id x := fun x hx => by
        have nz : ¬ x.1 = k := fun z => h (List.any_eq_true.mpr ⟨x, hx, decide_eq_true z⟩)
        exact if_neg nz
      rw [List.map_congr_left this, List.map_id]
    rw [hm]
    simp
theorem cnt_putN (l : List Int) (x : Int) : ∀ c : Nat, putK (cntKV l) (Sum.inl x) (.int ((l.count x : Int) + ((c + 1 : Nat) : Int))) = cntKV (l ++ List.replicate (c + 1) x)
  | 0 => cnt_put l x
  | c + 1 => by
    have ih := cnt_putN l x c
    have e : l ++ List.replicate (c + 1 + 1) x = (l ++ List.replicate (c + 1) x) ++ [x] := by
      rw [List.replicate_succ', List.append_assoc]
    rw [e, ← cnt_put, ← ih, putK_putK]
    congr 2
    rw [List.count_append, List.count_replicate_self]
    omega
def cAt (C : List (List Int)) (p q : Nat) : Int := ((C[p]?.getD [])[q]?).getD 0
def wOne (F : List (List (Option Int))) (ru : Rule) (c : Int) (i j : Int) : List Int := ((stands F ru i j).filterMap id).flatMap fun x => List.replicate c.toNat x
def wRow (F : List (List (Option Int))) (ru : Rule) (C : List (List Int)) (l : Nat) (i j : Int) (p m : Nat) : List Int := (List.range m).flatMap fun q => wOne F ru (cAt C p q) i (j - l + (q : Nat))
def wNums (F : List (List (Option Int))) (ru : Rule) (C : List (List Int)) (u d l r : Nat) (i j : Int) : List Int := (List.range (u + d + 1)).flatMap fun p => wRow F ru C l (i - u + (p : Nat)) j p (l + r + 1)
def wFil (F : List (List (Option Int))) (ru : Rule) (C : List (List Int)) (u d l r : Nat) (a b : Int) : List (List (Option Int)) := (List.range F.length).map fun i : Nat => (List.range (wideF F)).map fun j : Nat => manieth (wNums F ru C u d l r (i : Int) (j : Int)) a b
def cntsD (C : List (List Int)) : PyData := fieldD (C.map fun r => r.map some)
structure CntOk (C : List (List Int)) (h w : Nat) : Prop where
  len : C.length = h
  row : ∀ r ∈ C, r.length = w
  few : ∀ r ∈ C, ∀ c ∈ r, 0 ≤ c ∧ c ≤ 400
theorem CntOk.at_ {C : List (List Int)} {h w : Nat} (o : CntOk C h w) (p q : Nat) : 0 ≤ cAt C p q ∧ cAt C p q ≤ 400 := by
  unfold cAt
  cases e : C[p]? with
  | none => simp
  | some r =>
    cases e2 : r[q]? with
    | none => simp [e2]
    | some c =>
      have := o.few r (List.mem_of_getElem? e) c (List.mem_of_getElem? e2)
      simpa [e2] using this
theorem wOne_len (F : List (List (Option Int))) (ru : Rule) (c i j : Int) : (wOne F ru c i j).length ≤ c.toNat := by
  unfold wOne
  have h := stands_len F ru i j
  have h2 := List.length_filterMap_le (id : Option Int → Option Int) (stands F ru i j)
  generalize (stands F ru i j).filterMap id = l at h2
  match l, h2 with
  | [], _ => simp
  | [x], _ => simp
  | x :: y :: l, h2 => simp at h2; omega
theorem wRow_len {F : List (List (Option Int))} {ru : Rule} {C : List (List Int)} {h w : Nat} (o : CntOk C h w) (l : Nat) (i j : Int) (p m : Nat) : (wRow F ru C l i j p m).length ≤ m * 400 :=
  flatMap_len (fun q => wOne F ru (cAt C p q) i (j - l + (q : Nat))) (m := 400) (fun q => Nat.le_trans (wOne_len _ _ _ _ _) (by have := o.at_ p q; omega)) m
theorem wNums_len {F : List (List (Option Int))} {ru : Rule} {C : List (List Int)} {h w : Nat} (o : CntOk C h w) (u l r : Nat) (i j : Int) (k : Nat) : ((List.range k).flatMap fun p => wRow F ru C l (i - u + (p : Nat)) j p (l + r + 1)).length ≤ k * ((l + r + 1) * 400) :=
  flatMap_len (fun p => wRow F ru C l (i - u + (p : Nat)) j p (l + r + 1)) (fun p => wRow_len o l _ j p (l + r + 1)) k
end L2
set_option maxHeartbeats 2000000
namespace MwRep
open PySem Builtin
end MwRep
namespace L2
open PySem PySem.Spec PyProof.Rows
end L2
namespace L2
open PySem PySem.Spec PyProof.Rows MwSet
end L2
set_option maxHeartbeats 2000000
namespace MwFk
open PySem PySem.Spec
end MwFk
set_option maxHeartbeats 2000000
namespace L2
open PySem PySem.Spec PyProof.Rows MwFk
end L2
namespace L2
open PySem PySem.Spec PyProof.Rows
end L2
namespace L2
open PySem PySem.Spec PyProof.Rows
end L2
namespace L2
open PySem PySem.Spec PyProof.Rows
end L2
namespace L2
open PySem PySem.Spec PyProof.Rows
end L2
namespace L2
open PySem
variable {rest es : List Expr} {env : Env} {p : Pos} {a b c : Expr}
theorem star_tup {x} : starEach (Expr.Tuple es x p :: rest) env = (false, eval (.Tuple es x p) env) :: starEach rest env := by rfl
theorem star_lst : starEach (Expr.List es p :: rest) env = (false, eval (.List es p) env) :: starEach rest env := by rfl
theorem star_sub : starEach (Expr.Subscript a b p :: rest) env = (false, eval (.Subscript a b p) env) :: starEach rest env := by rfl
theorem star_call {ks} : starEach (Expr.Call a es ks p :: rest) env = (false, eval (.Call a es ks p) env) :: starEach rest env := by rfl
theorem star_bin {o} : starEach (Expr.BinOp a o b p :: rest) env = (false, eval (.BinOp a o b p) env) :: starEach rest env := by rfl
theorem star_comp {g s} : starEach (Expr.ListComp a g s p :: rest) env = (false, eval (.ListComp a g s p) env) :: starEach rest env := by rfl
theorem star_cmp {o} : starEach (Expr.Compare a o es p :: rest) env = (false, eval (.Compare a o es p) env) :: starEach rest env := by rfl
end L2
namespace MwSort
open PySem PyProof.Rows
end MwSort
namespace L2
open PySem PySem.Spec PyProof.Rows
end L2
namespace L2
open PySem PySem.Spec PyProof.Rows
end L2
namespace L2
open PySem PySem.Spec PyProof.Rows
section
variable {prog : Program} {w : World} {A : Around} {E : Value → Shared → Prop} {s : Shared}
def PairO (s : Shared) (a : Addr) (x c : Int) : Prop := ∃ o n t u, s.heap.get? a = some o ∧ o.cls = .type "tuple" ∧ o.data = .seq #[.int x t, .int c u] n
theorem pairO {X : Cx} {pins : List (Addr × Obj)} {σ : St} {H : Hp} {s : Shared} (I : Inv X pins σ H s) {a : Addr} {x c : Int} (h : H a = some (.tup [.int x, .int c])) : PairO s a x c := by
  obtain ⟨z, its, rv, o, ho, hc, n, hd⟩ := (show ObjOk X.prog X.w H s.heap a (.tup [.int x, .int c]) from I.hok a _ h)
  cases rv with
  | cons e1 rv => cases rv with
    | cons e2 rv =>
      cases rv
      obtain ⟨t, rfl⟩ := e1
      obtain ⟨u, rfl⟩ := e2
      exact ⟨o, n, t, u, ho, hc, hd⟩
end
end L2
set_option maxHeartbeats 2000000
namespace MwSortR
open PySem PyProof.Rows PySem.W
section
abbrev Pr := Addr × Int × Int
def rk (t : Pr) : Int := t.2.1 * 1000 + t.2.2
def PrAt (h : Heap) (t : Pr) : Prop := ∃ o n u v, h.get? t.1 = some o ∧ o.cls = .type "tuple" ∧ o.data = .seq #[.int t.2.1 u, .int t.2.2 v] n
def rhoOf (ps : List Pr) : Value → Int
  | .ref a => ((ps.find? fun t => t.1 == a).map rk).getD 0
  | _ => 0
def prRanks (ps : List Pr) : Ranks := ⟨rhoOf ps, tuples' true, fun v => ∃ t ∈ ps, v = .ref t.1⟩
theorem PrAt.uniq {h : Heap} {t t' : Pr} (a : PrAt h t) (b : PrAt h t') (e : t.1 = t'.1) : t = t' := by
  obtain ⟨o, n, u, v, a1, _, a3⟩ := a
  obtain ⟨o', n', u', v', b1, _, b3⟩ := b
  rw [e, b1] at a1
  obtain rfl := Option.some.inj a1
  rw [a3] at b3
  injection b3 with e1 _
  have e2 := congrArg (fun z : Array Value => z[0]?) e1
  have e3 := congrArg (fun z : Array Value => z[1]?) e1
  simp at e2 e3
  obtain ⟨x, y, z⟩ := t
  obtain ⟨x', y', z'⟩ := t'
  simp at e e2 e3
  rw [e, e2.1, e3.1]
theorem rho_at {h : Heap} {ps : List Pr} (hp : ∀ t ∈ ps, PrAt h t) {t : Pr} (ht : t ∈ ps) : rhoOf ps (.ref t.1) = rk t := by
  show ((ps.find? fun x => x.1 == t.1).map rk).getD 0 = rk t
  cases e : ps.find? fun x => x.1 == t.1 with
  | none =>
    rw [List.find?_eq_none] at e
    exact absurd (e t ht) (by simp)
  | some t' =>
    have m := List.mem_of_find?_eq_some e
    have e1 : t'.1 = t.1 := by have := List.find?_some e; simpa using this
    rw [(hp t' m).uniq (hp t ht) e1]
    rfl
variable {prog : Program} {w : World} {A : Around} {E : Value → Shared → Prop} {s : Shared}
theorem pr_cmp {ps : List Pr} {h : Heap} (hp : ∀ t ∈ ps, PrAt h t ∧ 0 ≤ t.2.2 ∧ t.2.2 < 1000) (hk : ∀ t ∈ ps, PrAt s.heap t) : @CmpOk (prRanks ps) prog w A s := by
  letI := prRanks ps
  refine ⟨fun x y Q E hx hy q => ?_⟩
  obtain ⟨t1, m1, rfl⟩ := hx
  obtain ⟨t2, m2, rfl⟩ := hy
  have r1 : Ranks.ρ (.ref t1.1) = rk t1 := rho_at (fun t ht => (hp t ht).1) m1
  have r2 : Ranks.ρ (.ref t2.1) = rk t2 := rho_at (fun t ht => (hp t ht).1) m2
  rw [r1, r2] at q
  have b1 := (hp t1 m1).2
  have b2 := (hp t2 m2).2
  obtain ⟨o1, n1, u1, v1, a1, _, a3⟩ := hk t1 m1
  obtain ⟨o2, n2, u2, v2, c1, _, c3⟩ := hk t2 m2
  refine kat_lt (b := true) a1 a3 c1 c3 ?_
  refine kat_cons (wpAny_eqBool_int ?_)
  unfold rk at q
  by_cases z : t1.2.1 = t2.2.1
  · rw [show (t1.2.1 == t2.2.1) = true from beq_iff_eq.mpr z]
    refine kat_yes (kat_cons (wpAny_eqBool_int ?_))
    by_cases y : t1.2.2 = t2.2.2
    · rw [show (t1.2.2 == t2.2.2) = true from beq_iff_eq.mpr y]
      refine kat_yes (kat_nil ?_)
      rw [decide_eq_false (by omega)] at q
      exact q
    · rw [show (t1.2.2 == t2.2.2) = false from beq_eq_false_iff_ne.mpr y]
      refine kat_no ?_
      rw [show decide (t1.2.1 * 1000 + t1.2.2 < t2.2.1 * 1000 + t2.2.2) = decide (t1.2.2 < t2.2.2) by rw [z]; simp] at q
      show wpAny _ _ (oneLt' false _ _) _ _ _
      exact kat_one _ _ (show wpAny _ _ (richCompare .Lt _ _) _ _ _ from CmpOf.ints_lt (P := fun k v => (k = 0 ∧ v = .int t1.2.2 v1) ∨ (k = 1 ∧ v = .int t2.2.2 v2)) (fun k => if k = 0 then t1.2.2 else t2.2.2) (fun k v hk => hk.elim (fun e => ⟨v1, by rw [e.2, if_pos e.1]⟩) (fun e => ⟨v2, by rw [e.2, if_neg (by omega)]⟩)) 0 1 _ _ _ _ _ (Or.inl ⟨rfl, rfl⟩) (Or.inr ⟨rfl, rfl⟩) q)
  · rw [show (t1.2.1 == t2.2.1) = false from beq_eq_false_iff_ne.mpr z]
    refine kat_no ?_
    rw [show decide (t1.2.1 * 1000 + t1.2.2 < t2.2.1 * 1000 + t2.2.2) = decide (t1.2.1 < t2.2.1) by
      by_cases y : t1.2.1 < t2.2.1
      · rw [decide_eq_true y, decide_eq_true (by omega)]
      · rw [decide_eq_false y, decide_eq_false (by omega)]] at q
    exact oneLt_int q
theorem perm_map_back {α β : Type} {f : α → β} {l : List β} : ∀ {m : List α}, l.Perm (m.map f) → ∃ m' : List α, m'.Perm m ∧ l = m'.map f := by
  intro m h
  generalize e : m.map f = k at h
  induction h generalizing m with
  | nil =>
    rw [List.map_eq_nil_iff] at e
    exact ⟨[], by rw [e], rfl⟩
  | cons x _ ih =>
    obtain ⟨y, ys, rfl, rfl, e2⟩ := List.map_eq_cons_iff.mp e
    obtain ⟨m', p, rfl⟩ := ih e2
    exact ⟨y :: m', p.cons y, rfl⟩
  | swap x y l =>
    obtain ⟨a, as, rfl, rfl, e2⟩ := List.map_eq_cons_iff.mp e
    obtain ⟨b, bs, rfl, rfl, rfl⟩ := List.map_eq_cons_iff.mp e2
    exact ⟨b :: a :: bs, List.Perm.swap _ _ _, rfl⟩
  | trans _ _ ih1 ih2 =>
    obtain ⟨m2, p2, rfl⟩ := ih2 e
    obtain ⟨m1, p1, rfl⟩ := ih1 rfl
    exact ⟨m1, p1.trans p2, rfl⟩
def prV (t : Pr) : Value := .ref t.1
theorem pr_firsts {h : Heap} : ∀ (ps : List Pr), (∀ t ∈ ps, PrAt h t) → ∃ fs : List Value, KatTups h (ps.map prV) fs ∧ fs.length = ps.length ∧ ∀ v ∈ fs, ∃ x t, v = .int x t
  | [], _ => ⟨[], .nil, rfl, fun v hv => absurd hv (by simp)⟩
  | t :: ps, hp => by
    obtain ⟨fs, f1, f2, f3⟩ := pr_firsts ps fun x hx => hp x (List.mem_cons_of_mem _ hx)
    obtain ⟨o, n, u, v, e1, e2, e3⟩ := hp t List.mem_cons_self
    refine ⟨.int t.2.1 u :: fs, .cons e1 e2 e3 (by simp) f1, by rw [List.length_cons, List.length_cons, f2], fun x hx => ?_⟩
    rcases List.mem_cons.mp hx with rfl | hx
    · exact ⟨_, _, rfl⟩
    · exact f3 x hx
theorem list_sort_pairs {a : Addr} {ps : List Pr} {n : Nat} {P : Fin → Shared → Prop} (ho : s.heap.get? a = some (seqObj "list" (ps.map prV).toArray n)) (hp : ∀ t ∈ ps, PrAt s.heap t ∧ 0 ≤ t.2.2 ∧ t.2.2 < 1000) (hz : ps.length ≤ sizeLine)
    (h : ∀ (out : List Pr), out.Perm ps → out.Pairwise (fun x y => rk x ≤ rk y) → P (.done (.ret .none)) { s with heap := sortedHeap s.heap a (ps.map prV) (out.map prV).toArray }) : wpAny (model prog w) A (Builtin.«list.sort» ⟨[.ref a], []⟩) P E s := by
  rw [list_sort_plain]
  generalize hv : ps.map prV = vs at ho h
  have lv : vs.length = ps.length := by rw [← hv, List.length_map]
  have hzA : vs.toArray.size ≤ sizeLine := by rw [List.size_toArray, lv]; exact hz
  refine wpAny_bind (listItems_at ho rfl (wpAny_bind (listUpdate_at ho rfl ?_ (hsz := hzA) (hsz2 := Nat.zero_le _))))
  obtain ⟨c1, g1⟩ : ∃ c, (s.heap.update a (Obj.mapSeq fun _ => #[])).get? a = some (seqObj "list" #[] c) := ⟨_, get?_update_seq ho fun _ => #[]⟩
  refine wpAny_bind (seqEpoch_at g1 rfl (wpAny_bind (wpAny_newTuple (wpAny_bind (wpAny_newList (wpAny_holding ?_))))))
  have g2 := Heap.get?_push_of_some (seqObj "list" #[] 0) (Heap.get?_push_of_some (seqObj "tuple" vs.toArray 0) g1)
  show wpAny (model prog w) A _ P E { s with heap := ((s.heap.update a (Obj.mapSeq fun _ => #[])).push (seqObj "tuple" vs.toArray 0)).push (seqObj "list" #[] 0) }
  dsimp only
  have keep : ∀ t ∈ ps, PrAt (((s.heap.update a (Obj.mapSeq fun _ => #[])).push (seqObj "tuple" vs.toArray 0)).push (seqObj "list" #[] 0)) t := fun t ht => by
    obtain ⟨o, m, u, v, e1, e2, e3⟩ := (hp t ht).1
    refine ⟨o, m, u, v, Heap.get?_push_of_some _ (Heap.get?_push_of_some _ ?_), e2, e3⟩
    rw [Heap.get?_update_other _ _ fun ee : a = t.1 => ?_]
    · exact e1
    · rw [← ee, ho] at e1
      obtain rfl := Option.some.inj e1
      exact absurd (show Value.type "list" = .type "tuple" from e2) (by decide)
  have ko : ∀ z : Array Keyed, z.Perm (pairsOf vs) → ∃ out : List Pr, out.Perm ps ∧ z.toList = out.map fun t => (prV t, prV t) := fun z pz => by
    have e : (pairsOf vs).toList = ps.map fun t => (prV t, prV t) := by
      rw [← hv]
      unfold pairsOf
      rw [Array.toList_zip]
      simp [List.zip_map']
    refine perm_map_back (f := fun t => (prV t, prV t)) ?_
    rw [← e]
    exact Array.perm_iff_toList_perm.mp pz
  have km : ∀ (z : Array Keyed) (out : List Pr), z.toList = out.map (fun t => (prV t, prV t)) → z.map (·.2) = (out.map prV).toArray := fun z out e => by
    apply Array.toList_inj.mp
    rw [Array.toList_map, e, List.map_map]
    rfl
  letI := prRanks ps
  have fin : ∀ z : SortSt, (arrOf z).Perm (pairsOf vs) → SortedTo (arrOf z) (pairsOf vs).size → P (.done (.ret .none)) { s with heap := sortedHeap s.heap a vs ((arrOf z).map (·.2)) } := fun z pz qz => by
    obtain ⟨out, o1, o2⟩ := ko _ pz
    rw [km _ _ o2]
    refine h out o1 ?_
    rw [List.pairwise_iff_getElem]
    intro i j hi hj hij
    have sz : (arrOf z).size = out.length := by rw [← Array.length_toList, o2, List.length_map]
    have kk : ∀ m (hm : m < out.length), K (arrOf z) m = rk out[m] := fun m hm => by
      have e : (arrOf z)[m]? = some (prV out[m], prV out[m]) := by rw [← Array.getElem?_toList, o2, List.getElem?_map, List.getElem?_eq_getElem hm]; rfl
      unfold K
      rw [e]
      exact rho_at (fun t ht => (hp t ht).1) (o1.mem_iff.mp (List.getElem_mem hm))
    have := qz i j (by omega) (by rw [← pz.size_eq, sz]; exact hj)
    rw [kk i hi, kk j hj] at this
    exact this
  have hcmp : CmpOk prog w A { s with heap := ((s.heap.update a (Obj.mapSeq fun _ => #[])).push (seqObj "tuple" vs.toArray 0)).push (seqObj "list" #[] 0) } := pr_cmp (h := s.heap) hp keep
  by_cases few : vs.toArray.size < 2
  · rw [if_pos few, if_pos few]
    refine wpAny_bind (wpAny_pure ?_)
    rw [StateT.run_pure]
    refine wpAny_bind (wpAny_pure ?_)
    dsimp only
    refine wpAny_bind (seqEpoch_at g2 rfl (wpAny_bind (listUpdate_at g2 rfl ?_ (hsz := Nat.zero_le _) (hsz2 := ?_))))
    · simp only [bne_self_eq_false, Bool.false_eq_true, if_false]
      refine wpAny_pure (fin (SortSt.mk' general' (vs.toArray.zip vs.toArray) #[] 7 none) (Array.Perm.refl _) fun i j hij hj => ?_)
      rw [pairsOf_size] at hj
      rw [List.size_toArray] at few
      have : i = j := by omega
      rw [this]; exact Int.le_refl _
    · rw [Array.size_map]
      show (pairsOf vs).size ≤ _
      rw [pairsOf_size, lv]; omega
  · rw [if_neg few, if_neg few]
    rw [List.size_toArray] at few
    obtain ⟨fs, f1, f2, f3⟩ := pr_firsts ps keep
    rw [hv] at f1
    refine wpAny_bind (kat_kind (T := .type "int") f1 (by omega) (fun v hv' => ?_) (by decide) ?_)
    · obtain ⟨x, tk, rfl⟩ := f3 v hv'
      exact .now
    have e1 : tuples' ((Value.type "int") != Value.type "tuple") = Ranks.κ := rfl
    rw [e1]
    have hI : KeysIn (pairsOf vs) := fun p hp' => by
      rw [pairsOf_toList, ← hv] at hp'
      obtain ⟨t, ht, e⟩ := List.mem_map.mp (List.of_mem_zip hp').1
      exact ⟨t, ht, e.symm⟩
    refine wpAny_bind (wpAny_mono (wpS_sortAll (a₀ := pairsOf vs) (st := SortSt.mk' Ranks.κ (vs.toArray.zip vs.toArray) #[] 7 none) (Q := fun _ z => (arrOf z).Perm (pairsOf vs) ∧ failedOf z = none ∧ SortedTo (arrOf z) (pairsOf vs).size)
      hI (Array.Perm.refl _) rfl rfl rfl fun z b1 b2 b3 => ⟨b1, b2, b3⟩) ?_ fun _ _ e => e)
    rintro ⟨⟨⟩, z⟩ s' ⟨rfl, p, f, q⟩
    dsimp only
    refine wpAny_bind (seqEpoch_at g2 rfl (wpAny_bind (listUpdate_at g2 rfl ?_ (hsz := Nat.zero_le _) (hsz2 := ?_))))
    · rw [f]
      simp only [bne_self_eq_false, Bool.false_eq_true, if_false]
      exact wpAny_pure (fin z p q)
    · have := (Array.size_map (f := (·.2)) (xs := arrOf z)).trans (p.size_eq.trans (pairsOf_size _))
      rw [this, lv]; omega
end
end MwSortR
namespace MwSortR
open PySem PyProof.Rows
section
variable {prog : Program} {w : World} {A : Around} {E : Value → Shared → Prop} {s : Shared}
theorem sorted_pairs {p : Addr} {o : Obj} {ps : List Pr} {n : Nat} {Q : Value → Shared → Prop} (ho : s.heap.get? p = some o) (hc : o.cls = .type "list") (hd : o.data = .seq (ps.map prV).toArray n) (hp : ∀ t ∈ ps, PrAt s.heap t ∧ 0 ≤ t.2.2 ∧ t.2.2 < 1000) (hz : ps.length ≤ sizeLine)
    (h : ∀ (h₁ h' : Heap) (D : Addr) (c : Nat) (out : List Pr), (∀ b o, s.heap.get? b = some o → h₁.get? b = some o) → (∀ b o, h₁.get? b = some o → h'.get? b = some o) → h₁.objs.size ≤ D → h'.get? D = some (seqObj "list" (out.map prV).toArray c) → out.Perm ps → out.Pairwise (fun x y => rk x ≤ rk y) → Q (.ref D) { s with heap := h', toks := s.toks, drawn := s.drawn }) :
    wpAny (model prog w) A (call (.builtin "sorted") [.ref p]) Q E s := by
  have zl : (ps.map prV).length ≤ sizeLine := by rw [List.length_map]; exact hz
  refine Calls.call_function_entry kind_sorted plain_sorted entry_sorted (args_sorted1 _) ?_
  unfold Builtin.«sorted»
  refine wpAny_bind (m := checkCount "sorted" 1 1 _) (wpAny_pure (wpAny_bind (wpAny_collect_seq p (.inl rfl) ho hc hd (fun h₁ hk => wpAny_bind (wpAny_newList ?_)) (by simpa using zl))))
  have g : (h₁.push (seqObj "list" (ps.map prV).toArray 0)).get? h₁.objs.size = some (seqObj "list" (ps.map prV).toArray 0) := Heap.get?_push_size _ rfl
  show wpAny _ _ _ _ _ { s with heap := h₁.push (seqObj "list" (ps.map prV).toArray 0), toks := s.toks, drawn := s.drawn }
  have hp1 : ∀ t ∈ ps, PrAt (h₁.push (seqObj "list" (ps.map prV).toArray 0)) t ∧ 0 ≤ t.2.2 ∧ t.2.2 < 1000 := fun t ht => by
    obtain ⟨⟨o, m, u, v, e1, e2, e3⟩, b⟩ := hp t ht
    exact ⟨⟨o, m, u, v, Heap.get?_push_of_some _ (hk _ _ e1), e2, e3⟩, b⟩
  refine wpAny_bind (wpAny_holding (wpAny_call_entry slot_list_sort ⟨_, g, rfl⟩ entry_list_sort (list_sort_pairs g hp1 hz fun out i2 i3 => ⟨_, rfl, ?_⟩) (args_list_sort _)))
  obtain ⟨c, gc⟩ := MwSort.sortedHeap_at (vs := ps.map prV) (out := (out.map prV).toArray) g
  exact wpAny_pure ⟨_, rfl, h h₁ _ _ c out hk (fun b o e => MwSort.sortedHeap_keep (Nat.ne_of_lt (Heap.lt_size e)) (Heap.get?_push_of_some _ e)) (Nat.le_refl _) gc i2 i3⟩
end
end MwSortR
namespace L2
open PySem PySem.Spec PyProof.Rows MwSortR
section
variable {X : Cx}
def rSortedP : List V → Hp → VK → Prop := fun xs H Q => ∃ (p : Addr) (ps : List Pr), xs = [.ref p] ∧ H p = some (.lst (ps.map fun t => V.ref t.1)) ∧ (∀ t ∈ ps, H t.1 = some (.tup [.int t.2.1, .int t.2.2]) ∧ 0 ≤ t.2.2 ∧ t.2.2 < 1000) ∧
  ∀ (l : Addr) (out : List Pr), H l = none → out.Perm ps → out.Pairwise (fun x y => rk x ≤ rk y) → Q (.ref l) (upd H l (.lst (out.map fun t => V.ref t.1)))
theorem refs_vals : ∀ {ps : List Pr} {us : List Value}, Vals (ps.map fun t => V.ref t.1) us → us = ps.map prV
  | [], _, .nil => rfl
  | t :: ps, _, .cons r q => by
    cases r
    rw [refs_vals q]
    rfl
theorem vals_refs : ∀ (ps : List Pr), Vals (ps.map fun t => V.ref t.1) (ps.map prV)
  | [] => .nil
  | t :: ps => .cons rfl (vals_refs ps)
theorem call_sortedP : CallR X (.builtin "sorted") rSortedP := by
  intro pins s σ H xs us Q I r h
  obtain ⟨p, ps, rfl, hp, hb, q⟩ := h
  obtain ⟨u, rfl, e⟩ := vals1 r
  obtain rfl : u = Value.ref p := e
  obtain ⟨z, its, n, rv, hg⟩ := (show ObjOk X.prog X.w H s.heap p (.lst (ps.map fun t => V.ref t.1)) from I.hok p _ hp)
  obtain rfl := refs_vals rv
  rw [List.length_map] at z
  refine sorted_pairs hg rfl rfl (fun t ht => ⟨?_, (hb t ht).2⟩) z fun h₁ h' D c out k1 k2 hD hgd i2 i3 => ?_
  · obtain ⟨o, n, u, v, h1, h2, h3⟩ := pairO I (hb t ht).1
    exact ⟨o, n, u, v, h1, h2, h3⟩
  · have I1 : Inv X pins σ H { s with heap := h₁, toks := s.toks, drawn := s.drawn } := (I.kept (t' := s.toks) k1).drew
    refine ⟨.ref D, _, I1.laid (t' := s.toks) (o := .lst (out.map fun t => V.ref t.1)) k2 hD ⟨?_, _, c, vals_refs out, hgd⟩, rfl, q D out (I1.hok.fresh hD) i2 i3⟩
    rw [List.length_map, i2.length_eq]
    exact z
end
end L2
set_option maxHeartbeats 2000000
namespace MwEnum
open PySem PySem.Spec PyProof.Rows
open AutoSeq1 (wpAny_loadPart')
theorem new_tup (p : Addr) (ts : Array Value) (n : Nat) (dd : Option Addr) (sl : Array (Option Value)) :
    Meets (Builtin.«enumerate.__new__» ⟨[.type "enumerate", .ref p], []⟩) (fun _ R s => s.heap.get? p = some { cls := .type "tuple", dict := dd, data := .seq ts n, slots := sl } ∧
      R (.ok (.ret (.ref (s.heap.push { cls := .type "tuple_iterator", data := .fields #[.ref p, .int 0 0] }).objs.size)))
        { s with heap := (s.heap.push { cls := .type "tuple_iterator", data := .fields #[.ref p, .int 0 0] }).push { cls := .type "enumerate", data := .fields #[.none, .bool false, .ref s.heap.objs.size, rawInt 0, .none, .none] } }) :=
  .of_wp fun prog w A R s h => by
    obtain ⟨hp, g, d, tk, os⟩ := s
    obtain ⟨ht, h⟩ := h
    have sb := sub_enumerate
    have hT : Heap.IsTuple (Shared.heap ⟨hp, g, d, tk, os⟩) p ts := ⟨_, ht, rfl, n, rfl⟩
    wp_walk using wpAny_loadPart' ht
    refine wpAny_stack_any fun st => wpAny_pure ?_
    split
    · rename_i c _ _ _ _ _
      cases (c == Value.type "enumerate") <;> (wp_walk using wpAny_loadPart' ht, wpAny_pyIter_tuple hT) <;> exact ⟨_, rfl, h⟩
    · wp_walk using wpAny_loadPart' ht, wpAny_pyIter_tuple hT
      exact ⟨_, rfl, h⟩
section
variable {prog : Program} {w : World} {A : Around} {E : Value → Shared → Prop} {s : Shared}
theorem call_tup {p : Addr} {ts : Array Value} {Q : Value → Shared → Prop} (hT : s.heap.IsTuple p ts)
    (h : ∀ g, IsEnum g (s.heap.objs.size + 1) s.heap.objs.size 0 .none → g.IsTupleIter s.heap.objs.size p 0 → (∀ b o, s.heap.get? b = some o → g.get? b = some o) → Q (.ref (s.heap.objs.size + 1)) { s with heap := g }) :
    wpAny (model prog w) A (call (.type "enumerate") [.ref p]) Q E s := by
  obtain ⟨⟨c, dd, dt, sl⟩, ht, hc, n, hd⟩ := hT
  obtain rfl : c = .type "tuple" := hc
  obtain rfl : dt = .seq ts n := hd
  refine callType_new F.called_enumerate (by decide) (F.typeCall_enumerate_1 _) (F.newCall_enumerate_1 _) (fun obj => F.args_object_init_2 obj _) F.entry_enumerate_new (new_tup p ts n dd sl) ⟨ht, ?_⟩
  have z : (s.heap.push { cls := .type "tuple_iterator", data := .fields #[.ref p, .int 0 0] }).objs.size = s.heap.objs.size + 1 := Heap.size_push ..
  have g1 := Heap.get?_push_size (s.heap.push { cls := .type "tuple_iterator", data := .fields #[.ref p, .int 0 0] }) (o := { cls := .type "enumerate", data := .fields #[.none, .bool false, .ref s.heap.objs.size, rawInt 0, .none, .none] }) rfl
  rw [z] at g1
  show _ ∧ _
  rw [z]
  exact ⟨⟨_, g1, rfl⟩, h _ g1 ⟨_, Heap.get?_push_of_some _ (Heap.get?_push_size _ rfl), rfl, rfl⟩ fun b o x => Heap.get?_push_of_some _ (Heap.get?_push_of_some _ x)⟩
theorem next_tup {z u p : Addr} {k : Nat} {ts : Array Value} {v old : Value} {Q : Option Value → Shared → Prop} (hz : IsEnum s.heap z u k old) (hu : s.heap.IsTupleIter u p k) (hp : s.heap.IsTuple p ts) (hv : ts[k]? = some v) (zu : z ≠ u)
    (hQ : ∀ g, IsEnumOut g z u ((k : Int) + 1) v s.heap.objs.size → g.IsTupleIter u p (k + 1) → g.get? s.heap.objs.size = some { cls := .type "tuple", data := .seq #[.int k s.toks, v] } → (∀ b o, b ≠ z → b ≠ u → s.heap.get? b = some o → g.get? b = some o) → Q (some (.ref s.heap.objs.size)) { s with heap := g, toks := s.toks + 1 }) :
    wpAny (model prog w) A (pyNext (.ref z)) Q E s := by
  have hT : s.TypeIs (.ref z) "enumerate" := ⟨_, hz, rfl⟩
  obtain ⟨h0, gs, dr, tk, os⟩ := s
  unfold pyNext
  refine wpAny_bind (wpAny_attempt (wpAny_callSpecial?_slot (name := Str.ofString "__next__") hT F.slot_enumerate_next (wpAny_call_entry F.slot_enumerate_next hT F.entry_enumerate_next ?_ (F.args_enumerate_next_1 _))))
  show wpAny _ _ (field (.ref z) 2 >>= fun _ => _) _ _ _
  refine wpAny_bind (wpAny_field hz rfl (x := .ref u) rfl (wpAny_bind (MwZip.draw_one hu hp hv fun g1 hu1 k1 => ?_)))
  replace k1 : Heap.SameBut u h0 g1 := k1
  have z1 : IsEnum g1 z u k old := (k1.2 z zu).trans hz
  show wpAny _ _ (field (.ref z) 3 >>= fun _ => _) _ _ ⟨g1, gs, dr, tk, os⟩
  refine wpAny_bind (wpAny_field z1 rfl (x := rawInt k) rfl ?_)
  show wpAny _ _ (field (.ref z) 4 >>= fun _ => _) _ _ ⟨g1, gs, dr, tk, os⟩
  refine wpAny_bind (wpAny_field z1 rfl (x := .none) rfl ?_)
  show wpAny _ _ (mkInt k >>= fun _ => _) _ _ ⟨g1, gs, dr, tk, os⟩
  refine wpAny_bind (wpAny_mkInt ?_)
  show wpAny _ _ (setField (.ref z) 3 (rawInt ((k : Int) + 1)) >>= fun _ => _) _ _ ⟨g1, gs, dr, tk + 1, os⟩
  refine wpAny_bind (wpAny_setField_rec z1 (by simp) fun g2 z2 k2 => ?_)
  replace k2 : Heap.SameBut z g1 g2 := k2
  replace z2 : IsEnum g2 z u ((k : Int) + 1) old := z2
  show wpAny _ _ (setField (.ref z) 4 .none >>= fun _ => _) _ _ ⟨g2, gs, dr, tk + 1, os⟩
  refine wpAny_bind (wpAny_setField_rec z2 (by simp) fun g3 z3 k3 => ?_)
  replace k3 : Heap.SameBut z g2 g3 := k3
  replace z3 : IsEnum g3 z u ((k : Int) + 1) old := z3
  show wpAny _ _ (newTuple [.int k tk, v] >>= fun _ => _) _ _ ⟨g3, gs, dr, tk + 1, os⟩
  refine wpAny_bind (wpAny_newTuple ?_)
  have sz : g3.objs.size = h0.objs.size := by rw [k3.1, k2.1, k1.1]
  have lz : z < h0.objs.size := Heap.lt_size hz
  have all : ∀ b o, b ≠ z → b ≠ u → h0.get? b = some o → g3.get? b = some o := fun b o b1 b2 e => k3.extBut b o b1 (k2.extBut b o b1 (k1.extBut b o b2 e))
  have u3 : g3.IsTupleIter u p (k + 1) := (hu1.extBut k2.extBut (Ne.symm zu)).extBut k3.extBut (Ne.symm zu)
  have z4 : IsEnum (g3.push { cls := .type "tuple", data := .seq #[.int k tk, v] }) z u ((k : Int) + 1) old := Heap.get?_push_of_some _ z3
  show wpAny _ _ (Builtin.SmallTypes.ownedTupleIsFree (.ref z) >>= fun _ => _) _ _ ⟨g3.push { cls := .type "tuple", data := .seq #[.int k tk, v] }, gs, dr, tk + 1, os⟩
  refine wpAny_bind ?_
  unfold Builtin.SmallTypes.ownedTupleIsFree
  refine wpAny_bind (wpAny_field z4 rfl (x := .none) rfl (wpAny_pure ?_))
  simp only [if_true]
  refine wpAny_bind (wpAny_rule (wpAny_bind (wpAny_field z4 rfl (x := old) rfl (wpAny_bind (wpAny_setField_rec z4 (by simp) fun g5 z5 k5 => ?_)))))
  replace k5 : Heap.SameBut z (g3.push { cls := .type "tuple", data := .seq #[.int k tk, v] }) g5 := k5
  replace z5 : IsEnum g5 z u ((k : Int) + 1) v := z5
  show wpAny _ _ (Builtin.SmallTypes.ownedTupleHandOut (.ref z) (.ref g3.objs.size) >>= fun _ => _) _ _ ⟨g5, gs, dr, tk + 1, os⟩
  refine wpAny_bind ?_
  unfold Builtin.SmallTypes.ownedTupleHandOut
  refine wpAny_bind (wpAny_setField_rec z5 (by simp) fun g6 z6 k6 => ?_)
  replace k6 : Heap.SameBut z g5 g6 := k6
  replace z6 : IsEnumOut g6 z u ((k : Int) + 1) v g3.objs.size := z6
  refine wpAny_setField_rec z6 (by simp) fun g7 z7 k7 => ?_
  replace k7 : Heap.SameBut z g6 g7 := k7
  replace z7 : IsEnumOut g7 z u ((k : Int) + 1) v g3.objs.size := z7
  have up : ∀ b o, b ≠ z → (g3.push { cls := .type "tuple", data := .seq #[.int k tk, v] }).get? b = some o → g7.get? b = some o := fun b o b1 e => k7.extBut b o b1 (k6.extBut b o b1 (k5.extBut b o b1 e))
  have n3 : g7.get? g3.objs.size = some { cls := .type "tuple", data := .seq #[.int k tk, v] } := up _ _ (by rw [sz]; exact Nat.ne_of_gt lz) (Heap.get?_push_size _ rfl)
  rw [sz] at z7 n3 ⊢
  refine wpAny_bind (wpAny_letGo (wpAny_pure ⟨_, rfl, wpAny_pure (hQ g7 z7 ?_ n3 fun b o b1 b2 e => up b o b1 (Heap.get?_push_of_some _ (all b o b1 b2 e)))⟩))
  exact u3.at fun o e => up u o (Ne.symm zu) (Heap.get?_push_of_some _ e)
theorem end_tup {z u p : Addr} {k : Nat} {ts : Array Value} {old : Value} {Q : Option Value → Shared → Prop} (hh : A.handled = none) (hz : IsEnum s.heap z u k old) (hu : s.heap.IsTupleIter u p k) (hp : s.heap.IsTuple p ts) (hv : ts[k]? = none)
    (hQ : ∀ g, Heap.ExtBut u s.heap g → Q none { s with heap := g }) : wpAny (model prog w) A (pyNext (.ref z)) Q E s := by
  have hT : s.TypeIs (.ref z) "enumerate" := ⟨_, hz, rfl⟩
  unfold pyNext
  refine wpAny_bind (wpAny_attempt (wpAny_callSpecial?_slot (name := Str.ofString "__next__") hT F.slot_enumerate_next (wpAny_call_entry F.slot_enumerate_next hT F.entry_enumerate_next ?_ (F.args_enumerate_next_1 _))))
  show wpAny _ _ (field (.ref z) 2 >>= fun _ => _) _ _ _
  refine wpAny_bind (wpAny_field hz rfl (x := .ref u) rfl (wpAny_bind (MwZip.draw_none hh hu hp hv fun g x e1 e2 => ?_)))
  obtain ⟨o, ho, hc⟩ := e2
  exact wpAny_bind (wpAny_isInstance (T := "StopIteration") (b := true) ⟨o, ho, hc⟩ isSubtype_stop (wpAny_pure (hQ _ e1)))
end
end MwEnum
namespace L2
open PySem PySem.Spec PyProof.Rows
def Itet (a : Addr) : It :=
  ⟨fun i H => ∃ xs x, H a = some (.tup xs) ∧ xs[i]? = some x, fun i H v H' => ∃ t y, H t = none ∧ v = .ref t ∧ H' = upd H t (.tup [.int i, y]) ∧ ∀ xs, H a = some (.tup xs) → xs[i]? = some y, fun i H => ∃ xs, H a = some (.tup xs) ∧ xs.length ≤ i⟩
theorem Inv.tupAt {X : Cx} {pins : List (Addr × Obj)} {σ : St} {H : Hp} {s : Shared} (I : Inv X pins σ H s) {a : Addr} {xs : List V} (h : H a = some (.tup xs)) : ∃ its : List Value, Vals xs its ∧ s.heap.IsTuple a its.toArray := by
  obtain ⟨z, its, rv, o, ho, hc, n, hd⟩ := (show ObjOk X.prog X.w H s.heap a (.tup xs) from I.hok a _ h)
  exact ⟨its, rv, o, ho, hc, n, hd⟩
theorem turn_enumT {P : Program} {w : World} {K : PySem.W.Frag} {elts : List Expr} {k : Nat} {pos : Pos} (a e it : Addr) (hei : e ≠ it) :
    Turn P w K (.Tuple elts k pos) (Itet a) [e, it] e (fun i h => (∃ old, IsEnum h e it i old) ∧ h.IsTupleIter it a i) where
  mem := by simp
  obj := fun i h st b hb => by
    obtain ⟨⟨old, he⟩, o, e', c, d⟩ := st
    rcases List.mem_cons.mp hb with rfl | hb
    · exact ⟨_, he, fun v z => by cases z⟩
    · have : b = it := by simpa using hb
      subst this
      exact ⟨o, e', fun v z => by rw [d] at z; cases z⟩
  keep := fun i h h' st kk => by
    obtain ⟨⟨old, he⟩, hit⟩ := st
    exact ⟨⟨old, kk e (by simp) _ he⟩, hit.at fun o x => kk it (by simp) o x⟩
  item := by
    intro X hP hw hK hc i pins s σ H E I hf st hg
    subst hP hw hK
    obtain ⟨xs, x, hq, hx⟩ := hg
    obtain ⟨its, rv, hT⟩ := I.tupAt hq
    obtain ⟨u, hu, ru⟩ := rv.get hx
    obtain ⟨⟨old, he⟩, hit⟩ := st
    have helt : e < s.heap.objs.size := Heap.lt_size he
    have hilt : it < s.heap.objs.size := by obtain ⟨_, z, _⟩ := hit; exact Heap.lt_size z
    refine MwEnum.next_tup he hit hT (v := u) (by simpa using hu) hei fun h' ho hit' hN hk => ?_
    refine ⟨_, rfl, wpAny_letOwnedTupleGo_enum ho fun h2 he2 sb => ?_⟩
    have T2 : h2.get? s.heap.objs.size = some { cls := .type "tuple", data := .seq #[.int i s.toks, u] } := (sb.2 _ (Nat.ne_of_gt helt)).trans hN
    have new : ObjOk X.prog X.w (upd H s.heap.objs.size (.tup [.int i, x])) (s.heap.push { cls := .type "tuple", data := .seq #[.int i s.toks, u] }) s.heap.objs.size (.tup [.int i, x]) :=
      ⟨(by show 2 ≤ sizeLine; decide), [.int i s.toks, u], .cons ⟨_, rfl⟩ (.cons ru .nil), _, Heap.get?_push_size _ rfl, rfl, _, rfl⟩
    have I1 : Inv X pins σ (upd H s.heap.objs.size (.tup [.int i, x])) { s with heap := s.heap.push { cls := .type "tuple", data := .seq #[.int i s.toks, u] }, toks := s.toks + 1 } :=
      I.laid (fun b o z => Heap.get?_push_of_some _ z) (Nat.le_refl _) new
    have hf1 : ∀ b ∈ [e, it], FpOk X pins (upd H s.heap.objs.size (.tup [.int i, x])) b := fun b hb => by
      obtain ⟨f0, f⟩ := hf b hb
      refine ⟨?_, f⟩
      have : b ≠ s.heap.objs.size := by
        rcases List.mem_cons.mp hb with rfl | hb
        · exact Nat.ne_of_lt helt
        · have : b = it := by simpa using hb
          subst this
          exact Nat.ne_of_lt hilt
      rw [upd_ne this]
      exact f0
    have I2 : Inv X pins σ (upd H s.heap.objs.size (.tup [.int i, x])) { s with heap := h2, toks := s.toks + 1 } := by
      have I3 := I1.turnedL (t' := s.toks + 1) (h' := h2) (fp := [e, it]) (fun b o hb z => ?_) hf1
      · exact I3
      have b1 : b ≠ e := fun z => hb (by simp [z])
      have b2 : b ≠ it := fun z => hb (by simp [z])
      rcases Heap.get?_push_cases z with ⟨rfl, rfl⟩ | z
      · exact T2
      · exact (sb.2 b b1).trans (hk b o b1 b2 z)
    refine ⟨.ref s.heap.objs.size, _, I2, rfl, ⟨s.heap.objs.size, x, I.hok.fresh (Nat.le_refl _), rfl, rfl, fun ys hy => by rw [hq] at hy; cases hy; exact hx⟩, ⟨⟨_, by simpa using he2⟩, hit'.at fun o z => (sb.2 it hei.symm).trans z⟩, fun b hb => (hf1 b hb).1⟩
  done := by
    intro X hP hw hK hc i pins s σ H E I hf st hg
    subst hP hw hK
    obtain ⟨xs, hq, hx⟩ := hg
    obtain ⟨its, rv, hT⟩ := I.tupAt hq
    obtain ⟨⟨old, he⟩, hit⟩ := st
    have hl := rv.length
    exact MwEnum.end_tup (I.ok.hd hc) he hit hT (by simp; omega) fun h' eb => ⟨rfl, I.turnedL (t' := s.toks) (fp := [e, it]) (fun b o hb z => eb b o (fun y => hb (by simp [y])) z) hf⟩
  self := fun _ _ _ _ _ st h => by
    obtain ⟨⟨old, he⟩, _⟩ := st
    exact wpAny_pyIter_enum he h
def iEnumT (ta : TA) : TI := fun σ H R => ta σ H fun vs H1 => ∃ a, vs = [.ref a] ∧ (∃ xs, H1 a = some (.tup xs)) ∧ R (Itet a) H1
section
variable {X : Cx}
theorem pi_enumT {elts : List Expr} {k : Nat} {pt : Pos} {a : Expr} {ta : TA} {p pos : Pos} (hg : Gl X "enumerate") (hm : X.mg "enumerate" = none) (ha : PA X [a] ta) (hs : starEach [a] X.env = [(false, eval a X.env)] := by rfl) :
    PI X (.Tuple elts k pt) (.Call (.Name "enumerate" p) [a] [] pos) (iEnumT ta) := by
  intro pins s σ H R I h
  refine Call_ (ld_blt I hg hm bt_enumerate (PyProof.Rows.callWith_type1 (thn (ha pos pins s σ H _ I h) fun us s1 ⟨vs, H1, I1, r1, q1⟩ => ?_) hs rfl))
  obtain ⟨l, rfl, ⟨xs, hq⟩, q⟩ := q1
  obtain ⟨u, rfl, e⟩ := vals1 r1
  obtain rfl : u = Value.ref l := e
  obtain ⟨its, rv, hT⟩ := I1.tupAt hq
  refine MwEnum.call_tup hT fun h' he hit hk => ?_
  refine wpAny_pyIter_enum he ?_
  refine ⟨s1.heap.objs.size + 1, [s1.heap.objs.size + 1, s1.heap.objs.size], _, _, H1, rfl, I1.kept (t' := s1.toks) hk, turn_enumT l _ _ (Nat.ne_of_gt (Nat.lt_succ_self _)), ⟨⟨_, he⟩, hit⟩, fun b hb => ?_, q⟩
  rcases List.mem_cons.mp hb with rfl | hb
  · exact I1.fpOk (Nat.le_succ _) (I1.hok.fresh (Nat.le_succ _))
  · have : b = s1.heap.objs.size := by simpa using hb
    subst this
    exact I1.fpOk (Nat.le_refl _) (I1.hok.fresh (Nat.le_refl _))
end
theorem for_enumT {a : Addr} {xs : List V} {g : TG} {tb : TS} {D : Ends} {σ : St} {H : Hp} (Pv : Nat → St → Hp → Prop) (h0 : Pv 0 σ H) (hl : ∀ i σ H, i ≤ xs.length → Pv i σ H → H a = some (.tup xs))
    (hs : ∀ i x σ H t, xs[i]? = some x → Pv i σ H → H t = none → g (.ref t) σ (upd H t (.tup [.int i, x])) fun σ2 H2 => tb { D with nx := Pv (i + 1), ct := Pv (i + 1), bk := D.nx } σ2 H2) (hd : ∀ σ H, Pv xs.length σ H → D.nx σ H) :
    ∃ W : Nat → Nat → St → Hp → Prop, (∃ m, W 0 m σ H) ∧ ∀ i m σ H, W i m σ H →
      ((Itet a).stop i H ∧ D.nx σ H) ∨ ((Itet a).go i H ∧ ∃ N : St → Hp → Prop, (∀ σ' H', N σ' H' → ∃ m', m' < m ∧ W (i + 1) m' σ' H') ∧ ∀ x H', (Itet a).yld i H x H' → g x σ H' fun σ2 H2 => tb { D with nx := N, ct := N, bk := D.nx } σ2 H2) := by
  refine ⟨fun i m σ H => m = xs.length - i ∧ i ≤ xs.length ∧ Pv i σ H, ⟨xs.length, by simp, Nat.zero_le _, h0⟩, ?_⟩
  rintro i m σ H ⟨rfl, hi, p⟩
  have q := hl i σ H hi p
  by_cases hlt : i < xs.length
  · refine .inr ⟨⟨xs, xs[i], q, by simp [hlt]⟩, Pv (i + 1), fun σ' H' p' => ⟨xs.length - (i + 1), by omega, rfl, hlt, p'⟩, fun x H' y => ?_⟩
    obtain ⟨t, z, ht, rfl, rfl, y⟩ := y
    exact hs i z σ H t (y xs q) p ht
  · have e : i = xs.length := by omega
    subst e
    exact .inl ⟨⟨xs, q, Nat.le_refl _⟩, hd σ H p⟩
end L2
set_option maxHeartbeats 4000000
namespace Mw
open PySem L2
def top (i : Nat) : Stmt := PySem.Challenge.pw_midwindow_k22_weighted.main.body.getD i (.Pass ⟨0, 0, 0, 0⟩)
abbrev s_is_inside : Stmt := top 1
theorem sc_is_inside : FnScope ["field", "i", "j"] ["field", "i", "j"] (defScope s_is_inside) := ⟨rfl, rfl, rfl, by decide +kernel, rfl, by decide +kernel, by decide +kernel⟩
abbrev s_brought_inside : Stmt := top 2
theorem sc_brought_inside : FnScope ["rule", "place", "length", "there"] ["rule", "place", "length"] (defScope s_brought_inside) := ⟨rfl, rfl, rfl, by decide +kernel, rfl, by decide +kernel, by decide +kernel⟩
abbrev s_stands_at : Stmt := top 3
theorem sc_stands_at : FnScope ["field", "rule", "i", "j", "row"] ["field", "rule", "i", "j"] (defScope s_stands_at) := ⟨rfl, rfl, rfl, by decide +kernel, rfl, by decide +kernel, by decide +kernel⟩
abbrev s_places_around : Stmt := top 4
theorem sc_places_around : FnScope ["place", "ahead", "behind"] ["place", "ahead", "behind"] (defScope s_places_around) := ⟨rfl, rfl, rfl, by decide +kernel, rfl, by decide +kernel, by decide +kernel⟩
abbrev s_place_by_share : Stmt := top 6
theorem sc_place_by_share : FnScope ["how_many", "share"] ["how_many", "share"] (defScope s_place_by_share) := ⟨rfl, rfl, rfl, by decide +kernel, rfl, by decide +kernel, by decide +kernel⟩
abbrev s_without_holes : Stmt := top 7
theorem sc_without_holes : FnScope ["cells"] ["cells"] (defScope s_without_holes) := ⟨rfl, rfl, rfl, by decide +kernel, rfl, by decide +kernel, by decide +kernel⟩
abbrev s_counts_at : Stmt := top 9
theorem sc_counts_at : FnScope ["field", "window", "counts", "rule", "i", "j", "often", "columns", "row", "row_counts", "column", "count", "number"] ["field", "window", "counts", "rule", "i", "j"] (defScope s_counts_at) := ⟨rfl, rfl, rfl, by decide +kernel, rfl, by decide +kernel, by decide +kernel⟩
abbrev s_told_of_counts : Stmt := top 10
theorem sc_told_of_counts : FnScope ["often", "share", "left", "number"] ["often", "share"] (defScope s_told_of_counts) := ⟨rfl, rfl, rfl, by decide +kernel, rfl, by decide +kernel, by decide +kernel⟩
abbrev s_weighted : Stmt := top 11
theorem sc_weighted : FnScope ["field", "window", "counts", "rule", "share", "rows", "i", "row", "j"] ["field", "window", "counts", "rule", "share"] (defScope s_weighted) := ⟨rfl, rfl, rfl, by decide +kernel, rfl, by decide +kernel, by decide +kernel⟩
abbrev s_law_deck : Stmt := top 13
theorem sc_law_deck : FnScope ["script"] ["script"] (defScope s_law_deck) := ⟨rfl, rfl, rfl, by decide +kernel, rfl, by decide +kernel, by decide +kernel⟩
abbrev s_law_draw : Stmt := top 14
theorem sc_law_draw : FnScope ["deck", "most", "cells", "at", "found", "turn", "number", "one"] ["deck", "most"] (defScope s_law_draw) := ⟨rfl, rfl, rfl, by decide +kernel, rfl, by decide +kernel, by decide +kernel⟩
abbrev s_law_number : Stmt := top 15
theorem sc_law_number : FnScope ["deck", "kind"] ["deck", "kind"] (defScope s_law_number) := ⟨rfl, rfl, rfl, by decide +kernel, rfl, by decide +kernel, by decide +kernel⟩
abbrev s_law_field : Stmt := top 16
theorem sc_law_field : FnScope ["deck", "most", "holes", "kind", "many", "width", "rows", "i", "row", "j", "number"] ["deck", "most", "holes"] (defScope s_law_field) := ⟨rfl, rfl, rfl, by decide +kernel, rfl, by decide +kernel, by decide +kernel⟩
abbrev s_law_sides : Stmt := top 17
theorem sc_law_sides : FnScope ["deck", "most"] ["deck", "most"] (defScope s_law_sides) := ⟨rfl, rfl, rfl, by decide +kernel, rfl, by decide +kernel, by decide +kernel⟩
abbrev s_law_rule : Stmt := top 18
theorem sc_law_rule : FnScope ["deck", "kind", "told"] ["deck", "kind"] (defScope s_law_rule) := ⟨rfl, rfl, rfl, by decide +kernel, rfl, by decide +kernel, by decide +kernel⟩
abbrev s_law_share : Stmt := top 19
theorem sc_law_share : FnScope ["deck", "below"] ["deck"] (defScope s_law_share) := ⟨rfl, rfl, rfl, by decide +kernel, rfl, by decide +kernel, by decide +kernel⟩
abbrev s_law_stood : Stmt := top 20
theorem sc_law_stood : FnScope ["plot", "edge", "i", "j", "there", "at", "many"] ["plot", "edge", "i", "j"] (defScope s_law_stood) := ⟨rfl, rfl, rfl, by decide +kernel, rfl, by decide +kernel, by decide +kernel⟩
abbrev s_law_same : Stmt := top 21
theorem sc_law_same : FnScope ["found", "due"] ["found", "due"] (defScope s_law_same) := ⟨rfl, rfl, rfl, by decide +kernel, rfl, by decide +kernel, by decide +kernel⟩
abbrev s_law_counts : Stmt := top 22
theorem sc_law_counts : FnScope ["deck", "pane", "kinds", "up", "down", "left", "right", "wide", "rows", "line"] ["deck", "pane", "kinds"] (defScope s_law_counts) := ⟨rfl, rfl, rfl, by decide +kernel, rfl, by decide +kernel, by decide +kernel⟩
abbrev s_law_due_at : Stmt := top 23
theorem sc_law_due_at : FnScope ["plot", "pane", "tallied", "edge", "quota", "i", "j", "found", "line", "row", "side", "count", "cell", "many", "place", "seen"] ["plot", "pane", "tallied", "edge", "quota", "i", "j"] (defScope s_law_due_at) := ⟨rfl, rfl, rfl, by decide +kernel, rfl, by decide +kernel, by decide +kernel⟩
abbrev s_law : Stmt := top 24
theorem sc_law : FnScope ["script", "deck", "turn", "wide", "plot", "pane", "tallied", "edge", "quota", "rows", "i", "row", "j", "found"] ["script"] (defScope s_law) := ⟨rfl, rfl, rfl, by decide +kernel, rfl, by decide +kernel, by decide +kernel⟩
structure Txt (K : PySem.W.Frag) (mg : Str → Option Value) : Prop where
  d_is_inside : Raw K mg "is_inside" ["field", "i", "j"] s_is_inside
  d_brought_inside : Raw K mg "brought_inside" ["rule", "place", "length"] s_brought_inside
  d_stands_at : Raw K mg "stands_at" ["field", "rule", "i", "j"] s_stands_at
  d_places_around : Raw K mg "places_around" ["place", "ahead", "behind"] s_places_around
  d_place_by_share : Raw K mg "place_by_share" ["how_many", "share"] s_place_by_share
  d_without_holes : Raw K mg "without_holes" ["cells"] s_without_holes
  d_counts_at : Raw K mg "counts_at" ["field", "window", "counts", "rule", "i", "j"] s_counts_at
  d_told_of_counts : Raw K mg "told_of_counts" ["often", "share"] s_told_of_counts
  d_weighted : Raw K mg "weighted" ["field", "window", "counts", "rule", "share"] s_weighted
  d_law_deck : Raw K mg "_law_deck" ["script"] s_law_deck
  d_law_draw : Raw K mg "_law_draw" ["deck", "most"] s_law_draw
  d_law_number : Raw K mg "_law_number" ["deck", "kind"] s_law_number
  d_law_field : Raw K mg "_law_field" ["deck", "most", "holes"] s_law_field
  d_law_sides : Raw K mg "_law_sides" ["deck", "most"] s_law_sides
  d_law_rule : Raw K mg "_law_rule" ["deck", "kind"] s_law_rule
  d_law_share : Raw K mg "_law_share" ["deck"] s_law_share
  d_law_stood : Raw K mg "_law_stood" ["plot", "edge", "i", "j"] s_law_stood
  d_law_same : Raw K mg "_law_same" ["found", "due"] s_law_same
  d_law_counts : Raw K mg "_law_counts" ["deck", "pane", "kinds"] s_law_counts
  d_law_due_at : Raw K mg "_law_due_at" ["plot", "pane", "tallied", "edge", "quota", "i", "j"] s_law_due_at
  d_law : Raw K mg "law" ["script"] s_law
  n_len : mg "len" = none
  n_sum : mg "sum" = none
  n_max : mg "max" = none
  n_min : mg "min" = none
  n_abs : mg "abs" = none
  n_tuple : mg "tuple" = none
  n_list : mg "list" = none
  n_int : mg "int" = none
  n_bool : mg "bool" = none
  n_str : mg "str" = none
  n_isinstance : mg "isinstance" = none
  n_range : mg "range" = none
  n_enumerate : mg "enumerate" = none
  n_sorted : mg "sorted" = none
  n_zip : mg "zip" = none
section
variable {P : Program} {w : World} {K : PySem.W.Frag} {mg : Str → Option Value} {base : Heap}
theorem pickI {x : Int} {ms : List Int} (x0 : 0 ≤ x) (x1 : x < ms.length) : ∃ m : Int, atI (ms.map V.int) x = some (.int m) ∧ m ∈ ms := by
  obtain ⟨v, e3, e4⟩ := atI_mem (xs := ms.map V.int) x0 (by rw [List.length_map]; exact x1)
  obtain ⟨m, hm, rfl⟩ := List.mem_map.mp e4
  exact ⟨m, e3, hm⟩
theorem cut_take (xs : List V) (k : Nat) : cutV xs none (some (k : Int)) = xs.take k := by
  unfold cutV
  rw [HT.sIx_nat]
  show (xs.drop 0).take (min k xs.length - 0) = _
  rw [List.drop_zero, Nat.sub_zero]
  rcases Nat.le_total k xs.length with z | z
  · rw [Nat.min_eq_left z]
  · rw [Nat.min_eq_right z, List.take_of_length_le (Nat.le_refl _), List.take_of_length_le z]
def spPlaceBy (K : PySem.W.Frag) : Sp := fun vs H Q _ => ∃ (n : Nat) (sv : V) (a b : Int), vs = [.int n, sv] ∧ Shr K H sv a b ∧ Share a b ∧ Q (.int (placeOf n a b)) H
theorem df_place_by_share (T : Txt K mg) : Df P w K mg base 1 "place_by_share" ["how_many", "share"] (spPlaceBy K) := by
  refine T.d_place_by_share.ok sc_place_by_share (fun vs H Q E h => ?_) (fun f cdv A outer s H vs Q E hr h => ?_)
  · obtain ⟨n, sv, a, b, rfl, _⟩ := h
    rfl
  · obtain ⟨n, sv, a, b, rfl, hs, ⟨s1, s2, s3, s4⟩, q⟩ := h
    obtain ⟨sa, rfl, hsa⟩ := hs
    refine ⟨_, (@pss_one _ _ _ (@ps_ret _ _ _ _ (@pe_op _ _ _ _ _ _ _ _ op_fdivB (@pe_op _ _ _ _ _ _ _ _ op_mul (@pe_ix _ _ _ _ _ _ _ (ix_seqK (K := K) rfl) (pv 1) pe_int (fun _ _ => rfl)) (@pe_op _ _ _ _ _ _ _ _ op_sub (pv 0) pe_int)) (@pe_ix _ _ _ _ _ _ _ (ix_seqK (K := K) rfl) (pv 1) pe_int (fun _ _ => rfl))))), ?_⟩
    refine ⟨_, rfl, Or.inr (Or.inl ⟨_, _, _, _, rfl, rfl, shr_sq hsa, rfl, _, rfl, _, _, rfl, rfl, _, _, rfl, rfl, Or.inl ⟨by show -(2 ^ 64) < a; omega, by show a < 2 ^ 64; omega⟩, ?_⟩)⟩
    exact ⟨_, rfl, Or.inr (Or.inl ⟨_, _, _, _, rfl, rfl, shr_sq hsa, rfl, _, _, rfl, rfl, ⟨by show 0 < b; omega, by show b < 2 ^ 62; omega⟩, q⟩)⟩
def spInside : Sp := fun vs H Q _ => ∃ (fv : V) (F : List (List (Option Int))) (i j : Int), vs = [fv, .int i, .int j] ∧ Rect F ∧ IsD H fv (fieldD F) ∧ Q (.bl (inF F i j)) H
theorem df_is_inside (T : Txt K mg) : Df P w K mg base 1 "is_inside" ["field", "i", "j"] spInside := by
  refine T.d_is_inside.ok sc_is_inside (fun vs H Q E h => ?_) (fun f cdv A outer s H vs Q E hr h => ?_)
  · obtain ⟨fv, F, i, j, rfl, _⟩ := h
    rfl
  · obtain ⟨fv, F, i, j, rfl, R, hf, q⟩ := h
    obtain ⟨a, xs, b, ys, rfl, ha, la, hb0, hb, lb⟩ := field_sizes R hf
    refine ⟨_, (@pss_one _ _ _ (@ps_ret _ _ _ _ (pe_and (pe_chain op_le op_lt pe_int (pv 1) (@pe_callB _ _ _ _ _ _ _ _ _ (call_lenK (K := K) rfl) (by rfl) T.n_len bt_len (@pa_cons _ _ _ _ _ (pv 0) pa_nil (by rfl)) (by decide) (by decide) (by rfl) (by rfl))) (pe_one (pe_chain op_le op_lt pe_int (pv 2) (@pe_callB _ _ _ _ _ _ _ _ _ (call_lenK (K := K) rfl) (by rfl) T.n_len bt_len (@pa_cons _ _ _ _ _ (@pe_ix _ _ _ _ _ _ _ (ix_seqK (K := K) rfl) (pv 0) pe_int (fun _ _ => rfl)) pa_nil star_sub) (by decide) (by decide) (by rfl) (by rfl))))))), ?_⟩
    refine ⟨_, rfl, _, _, rfl, rfl, _, rfl, ?_⟩
    unfold inF at q
    refine ite2 (fun z => ?_) (fun z => ?_)
    · refine ⟨_, rfl, _, _, rfl, Or.inr ⟨_, SqT.of ha, rfl⟩, _, _, rfl, rfl, _, rfl, ?_⟩
      refine ite2 (fun z2 => ?_) (fun z2 => ?_)
      · refine ⟨_, rfl, _, _, rfl, rfl, _, rfl, ?_⟩
        have e1 : (decide (0 ≤ i) && decide (i < (F.length : Int))) = true := by rw [z, ← la, z2]; rfl
        rw [e1, Bool.true_and] at q
        refine ite2 (fun z3 => ?_) (fun z3 => ?_)
        · refine ⟨_, rfl, Or.inr (Or.inl ⟨_, _, _, _, rfl, rfl, SqT.of ha, hb0, _, _, rfl, Or.inr ⟨_, SqT.of hb, rfl⟩, _, _, rfl, rfl, ?_⟩)⟩
          rw [z3, ← lb, Bool.true_and] at q
          exact q
        · rw [Bool.eq_false_iff.mpr z3, Bool.false_and] at q
          exact q
      · have e1 : (decide (0 ≤ i) && decide (i < (F.length : Int))) = false := by rw [← la, Bool.eq_false_iff.mpr z2, Bool.and_false]
        rw [e1, Bool.false_and] at q
        exact q
    · rw [Bool.eq_false_iff.mpr z, Bool.false_and, Bool.false_and] at q
      exact ⟨_, rfl, iteF q⟩
theorem minInt (i j : Int) : (if j < i then j else i) = min i j := by omega
theorem maxInt (i j : Int) : (if j > i then j else i) = max i j := by omega
theorem s_near_turned : ¬ (("near" : Str) = "turned") := by decide +kernel
theorem s_turned_near : ¬ (("turned" : Str) = "near") := by decide +kernel
theorem s_round_near : ¬ (("round" : Str) = "near") := by decide +kernel
theorem s_round_turned : ¬ (("round" : Str) = "turned") := by decide +kernel
theorem s_near_there : ¬ (("near" : Str) = "there") := by decide +kernel
theorem s_turned_there : ¬ (("turned" : Str) = "there") := by decide +kernel
theorem s_round_there : ¬ (("round" : Str) = "there") := by decide +kernel
theorem eqS {x y : Str} (h : x = y) : decide (V.str x = V.str y) = true := decide_eq_true (by rw [h])
theorem neS {x y : Str} (h : ¬ x = y) : decide (V.str x = V.str y) = false := decide_eq_false fun e => h (V.str.inj e)
def Led (r : Rule) (x : Str) : Prop := (r = .near ∧ x = "near") ∨ (r = .turned ∧ x = "turned") ∨ (r = .round ∧ x = "round")
def spBrought : Sp := fun vs H Q _ => ∃ (r : Rule) (x : Str) (p n : Int), vs = [.str x, .int p, .int n] ∧ Led r x ∧ 1 ≤ n ∧ n < 2 ^ 40 ∧ Q (.int (led r p n)) H
theorem df_brought_inside (T : Txt K mg) : Df P w K mg base 1 "brought_inside" ["rule", "place", "length"] spBrought := by
  refine T.d_brought_inside.ok sc_brought_inside (fun vs H Q E h => ?_) (fun f cdv A outer s H vs Q E hr h => ?_)
  · obtain ⟨r, x, p, n, rfl, _⟩ := h
    rfl
  · obtain ⟨r, x, p, n, rfl, hl, n1, n2, q⟩ := h
    refine ⟨_, (@pss_cons _ _ _ _ _ (@ps_if _ _ _ _ _ _ _ _ (@pt_cmpR _ _ _ _ _ _ _ _ (op_eqA hr.units) (pv 0) pe_str (nomark _)) (@pss_one _ _ _ (@ps_ret _ _ _ _ (@pe_callB _ _ _ _ _ _ _ _ _ (call_min2 rfl) (by rfl) T.n_min bt_min (@pa_cons _ _ _ _ _ (@pe_callB _ _ _ _ _ _ _ _ _ (call_max2 rfl) (by rfl) T.n_max bt_max (@pa_cons _ _ _ _ _ (pv 1) (@pa_cons _ _ _ _ _ pe_int pa_nil (by rfl)) (by rfl)) (by decide) (by decide) (by rfl) (by rfl)) (@pa_cons _ _ _ _ _ (@pe_op _ _ _ _ _ _ _ _ op_sub (pv 2) pe_int) pa_nil star_bin) star_call) (by decide) (by decide) (by rfl) (by rfl)))) pss_nil)
      (@pss_cons _ _ _ _ _ (@ps_if _ _ _ _ _ _ _ _ (@pt_cmpR _ _ _ _ _ _ _ _ (op_eqA hr.units) (pv 0) pe_str (nomark _)) (@pss_cons _ _ _ _ _ (@ps_set _ _ 3 _ _ _ _ sc_brought_inside.nd rfl (by first | exact Or.inl rfl | exact Or.inr rfl) (@pe_op _ _ _ _ _ _ _ _ op_mod (pv 1) (@pe_op _ _ _ _ _ _ _ _ op_mul pe_int (pv 2))) (by rfl) (by first | exact .inl rfl | exact .inr rfl))
      (@pss_one _ _ _ (@ps_ret _ _ _ _ (@pe_callB _ _ _ _ _ _ _ _ _ (call_min2 rfl) (by rfl) T.n_min bt_min (@pa_cons _ _ _ _ _ (pv 3) (@pa_cons _ _ _ _ _ (@pe_op _ _ _ _ _ _ _ _ op_sub (@pe_op _ _ _ _ _ _ _ _ op_sub (@pe_op _ _ _ _ _ _ _ _ op_mul pe_int (pv 2)) pe_int) (pv 3)) pa_nil star_bin) (by rfl)) (by decide) (by decide) (by rfl) (by rfl))))) pss_nil)
      (@pss_one _ _ _ (@ps_ret _ _ _ _ (@pe_op _ _ _ _ _ _ _ _ op_mod (pv 1) (pv 2)))))), ?_⟩
    rcases hl with ⟨rfl, rfl⟩ | ⟨rfl, rfl⟩ | ⟨rfl, rfl⟩
    · refine ⟨_, rfl, Or.inl ⟨rfl, _, rfl, ?_⟩⟩
      rw [eqS rfl]
      refine iteT ?_
      refine ⟨_, rfl, _, _, rfl, _, rfl, _, _, rfl, rfl, _, _, rfl, ?_⟩
      rw [minInt, maxInt]
      exact q
    · refine ⟨_, rfl, Or.inl ⟨rfl, _, rfl, ?_⟩⟩
      rw [neS s_turned_near]
      refine iteF ?_
      refine ⟨_, rfl, Or.inl ⟨rfl, _, rfl, ?_⟩⟩
      rw [eqS rfl]
      refine iteT ?_
      refine ⟨_, rfl, _, rfl, _, _, rfl, rfl, Or.inl ⟨by decide, by decide⟩, _, _, rfl, rfl, (by show (0 : Int) < 2 * n; omega), ?_⟩
      refine ⟨_, rfl, _, rfl, _, _, rfl, rfl, Or.inl ⟨by decide, by decide⟩, _, _, rfl, rfl, _, rfl, _, _, rfl, rfl, _, _, rfl, ?_⟩
      rw [minInt]
      exact q
    · refine ⟨_, rfl, Or.inl ⟨rfl, _, rfl, ?_⟩⟩
      rw [neS s_round_near]
      refine iteF ?_
      refine ⟨_, rfl, Or.inl ⟨rfl, _, rfl, ?_⟩⟩
      rw [neS s_round_turned]
      refine iteF ?_
      refine ⟨_, rfl, _, rfl, _, _, rfl, rfl, (by show (0 : Int) < n; omega), ?_⟩
      exact q
def spStandsAt : Sp := fun vs H Q _ => ∃ (fv rv : V) (F : List (List (Option Int))) (r : Rule) (i j : Int), vs = [fv, rv, .int i, .int j] ∧ Rect F ∧ IsD H fv (fieldD F) ∧ IsD H rv (ruleD r) ∧
  ∀ (p : Addr), H p = none → Q (.ref p) (upd H p (.tup ((stands F r i j).map cellV)))
theorem df_stands_at (T : Txt K mg) : Df P w K mg base 2 "stands_at" ["field", "rule", "i", "j"] spStandsAt := by
  refine T.d_stands_at.ok sc_stands_at (fun vs H Q E h => ?_) (fun f cdv A outer s H vs Q E hr h => ?_)
  · obtain ⟨fv, rv, F, r, i, j, rfl, _⟩ := h
    rfl
  · obtain ⟨fv, rv, F, r, i, j, rfl, R, hf, hru, q⟩ := h
    refine ⟨_, (@pss_cons _ _ _ _ _ (@ps_if _ _ _ _ _ _ _ _ (@pt_val _ _ _ (@pe_df _ _ _ _ _ _ _ _ _ _ (df_is_inside T) (hr.mono (by decide)) (@pa_cons _ _ _ _ _ (pv 0) (@pa_cons _ _ _ _ _ (pv 2) (@pa_cons _ _ _ _ _ (pv 3) pa_nil (by rfl)) (by rfl)) (by rfl)) (by rfl) (by decide) (by rfl) (by rfl)) (by intro _; rfl)) (@pss_one _ _ _ (@ps_ret _ _ _ _ (@pe_tup _ _ _ _ _ (@pa_cons _ _ _ _ _ (@pe_ix _ _ _ _ _ _ _ (ix_seqK (K := K) rfl) (@pe_ix _ _ _ _ _ _ _ (ix_seqK (K := K) rfl) (pv 0) (pv 2) (fun _ _ => rfl)) (pv 3) (fun _ _ => rfl)) pa_nil star_sub)))) pss_nil)
      (@pss_cons _ _ _ _ _ (@ps_if _ _ _ _ _ _ _ _ (@pt_cmpR _ _ _ _ _ _ _ _ (op_eqA hr.units) (pv 1) pe_str (nomark _)) (@pss_one _ _ _ (@ps_ret _ _ _ _ (@pe_tup _ _ _ _ _ pa_nil))) pss_nil)
      (@pss_cons _ _ _ _ _ (@ps_if _ _ _ _ _ _ _ _ (@pt_val _ _ _ (@pe_callB _ _ _ _ _ _ _ _ _ (call_isinstK (K := K) rfl) (by rfl) T.n_isinstance bt_isinstance (@pa_cons _ _ _ _ _ (pv 1) (@pa_cons _ _ _ _ _ (pe_bltn (v := .ty "tuple") (by rfl) T.n_tuple bt_tuple rfl) pa_nil (by rfl)) (by rfl)) (by decide) (by decide) (by rfl) (by rfl)) (by intro _; rfl)) (@pss_one _ _ _ (@ps_ret _ _ _ _ (@pe_tup _ _ _ _ _ (@pa_cons _ _ _ _ _ (@pe_ix _ _ _ _ _ _ _ (ix_seqK (K := K) rfl) (pv 1) pe_int (fun _ _ => rfl)) pa_nil star_sub)))) pss_nil)
      (@pss_cons _ _ _ _ _ (@ps_set _ _ 4 _ _ _ _ sc_stands_at.nd rfl (by first | exact Or.inl rfl | exact Or.inr rfl) (@pe_ix _ _ _ _ _ _ _ (ix_seqK (K := K) rfl) (pv 0) (@pe_df _ _ _ _ _ _ _ _ _ _ (df_brought_inside T) (hr.mono (by decide)) (@pa_cons _ _ _ _ _ (pv 1) (@pa_cons _ _ _ _ _ (pv 2) (@pa_cons _ _ _ _ _ (@pe_callB _ _ _ _ _ _ _ _ _ (call_lenK (K := K) rfl) (by rfl) T.n_len bt_len (@pa_cons _ _ _ _ _ (pv 0) pa_nil (by rfl)) (by decide) (by decide) (by rfl) (by rfl)) pa_nil star_call) (by rfl)) (by rfl)) (by rfl) (by decide) (by rfl) (by rfl)) (fun _ _ => rfl)) (by rfl) (by first | exact .inl rfl | exact .inr rfl))
      (@pss_one _ _ _ (@ps_ret _ _ _ _ (@pe_tup _ _ _ _ _ (@pa_cons _ _ _ _ _ (@pe_ix _ _ _ _ _ _ _ (ix_seqK (K := K) rfl) (pv 4) (@pe_df _ _ _ _ _ _ _ _ _ _ (df_brought_inside T) (hr.mono (by decide)) (@pa_cons _ _ _ _ _ (pv 1) (@pa_cons _ _ _ _ _ (pv 3) (@pa_cons _ _ _ _ _ (@pe_callB _ _ _ _ _ _ _ _ _ (call_lenK (K := K) rfl) (by rfl) T.n_len bt_len (@pa_cons _ _ _ _ _ (pv 4) pa_nil (by rfl)) (by decide) (by decide) (by rfl) (by rfl)) pa_nil star_call) (by rfl)) (by rfl)) (by rfl) (by decide) (by rfl) (by rfl)) (fun _ _ => rfl)) pa_nil star_sub)))))))), ?_⟩
    refine ⟨_, rfl, _, rfl, _, rfl, _, F, i, j, rfl, R, hf, _, rfl, ?_⟩
    unfold stands at q
    cases hin : inF F i j with
    | true =>
      refine iteT ?_
      rw [hin, if_pos rfl] at q
      unfold inF at hin
      simp only [Bool.and_eq_true, decide_eq_true_eq] at hin
      obtain ⟨a, xs, b, rr, rfl, ha, hab, hb, hbc, _⟩ := field_cell R hf hin.1.1 hin.1.2 hin.2.1 hin.2.2
      refine ⟨_, rfl, _, rfl, Or.inr (Or.inl ⟨_, _, _, _, rfl, rfl, SqT.of ha, hab, _, rfl, Or.inr (Or.inl ⟨_, _, _, _, rfl, rfl, SqT.of hb, hbc, (by show 1 ≤ sizeLine; decide), fun p hp => ?_⟩)⟩)⟩
      exact q p hp
    | false =>
      refine iteF ?_
      rw [hin, if_neg Bool.false_ne_true] at q
      cases r with
      | there =>
        have e := rule_str hru
        subst e
        refine ⟨_, rfl, Or.inl ⟨rfl, _, rfl, ?_⟩⟩
        rw [eqS rfl]
        refine iteT ?_
        exact ⟨(by show 0 ≤ sizeLine; decide), fun p hp => q p hp⟩
      | told c =>
        obtain ⟨a, xs, rfl, ha, hxs⟩ := hru.tuple_inv
        refine ⟨_, rfl, Or.inr ⟨_, _, hru, .str _, ⟨?_, by decide +kernel, ?_⟩, _, rfl, ?_⟩⟩
        · show PyData.canLayAll0 [.str "told", cellD c] = true
          rw [PyData.canLayAll0, PyData.canLayAll0, canLay_cell]
          decide +kernel
        · show PyData.depthAll [.str "told", cellD c] + 1 ≤ 20
          rw [PyData.depthAll, PyData.depthAll, depth_cell]
          decide
        refine iteF ?_
        refine ⟨_, rfl, _, _, _, _, rfl, Or.inl ⟨rfl, _, ha⟩, rfl, _, rfl, ?_⟩
        refine iteT ?_
        cases hxs with
        | cons h1 h2 =>
          cases h2 with
          | cons h3 h4 =>
            cases h4
            rw [IsD.cell_inv h3] at ha
            refine ⟨_, rfl, Or.inr (Or.inl ⟨_, _, _, _, rfl, rfl, SqT.of ha, rfl, (by show 1 ≤ sizeLine; decide), fun p hp => q p hp⟩)⟩
      | near => 
        have e := rule_str hru
        subst e
        obtain ⟨a, xs, b0, ys, e, ha, la, hb0, hb, lb⟩ := field_sizes R hf
        subst e
        have li := led_in .near i (n := F.length) (by have := R.h1; omega)
        have lj := led_in .near j (n := (F.headD []).length) (by have := R.w1; omega)
        obtain ⟨a', xs', b, rr, e, ha', hab, hb', hbc, lr⟩ := field_cell R hf li.1 li.2 lj.1 lj.2
        cases e
        rw [ha] at ha'; cases ha'
        refine ⟨_, rfl, Or.inl ⟨rfl, _, rfl, ?_⟩⟩
        rw [neS s_near_there]
        refine iteF ?_
        refine ⟨_, rfl, _, _, _, _, rfl, rfl, rfl, _, rfl, ?_⟩
        refine iteF ?_
        refine ⟨_, rfl, _, rfl, _, rfl, _, rfl, _, _, rfl, Or.inr ⟨_, SqT.of ha, rfl⟩, .near, _, _, _, rfl, (by unfold Led; simp), (by have := R.h1; omega), (by have := R.hs; omega), ?_⟩
        refine Or.inr (Or.inl ⟨_, _, _, _, rfl, rfl, SqT.of ha, (by rw [la]; exact hab), ?_⟩)
        refine ⟨_, rfl, _, rfl, _, rfl, _, rfl, _, _, rfl, Or.inr ⟨_, SqT.of hb', rfl⟩, .near, _, _, _, rfl, (by unfold Led; simp), (by rw [lr]; have := R.w1; omega), (by rw [lr]; have := R.ws; omega), ?_⟩
        refine Or.inr (Or.inl ⟨_, _, _, _, rfl, rfl, SqT.of hb', (by rw [lr]; exact hbc), (by show 1 ≤ sizeLine; decide), fun p hp => q p hp⟩)
      | turned => 
        have e := rule_str hru
        subst e
        obtain ⟨a, xs, b0, ys, e, ha, la, hb0, hb, lb⟩ := field_sizes R hf
        subst e
        have li := led_in .turned i (n := F.length) (by have := R.h1; omega)
        have lj := led_in .turned j (n := (F.headD []).length) (by have := R.w1; omega)
        obtain ⟨a', xs', b, rr, e, ha', hab, hb', hbc, lr⟩ := field_cell R hf li.1 li.2 lj.1 lj.2
        cases e
        rw [ha] at ha'; cases ha'
        refine ⟨_, rfl, Or.inl ⟨rfl, _, rfl, ?_⟩⟩
        rw [neS s_turned_there]
        refine iteF ?_
        refine ⟨_, rfl, _, _, _, _, rfl, rfl, rfl, _, rfl, ?_⟩
        refine iteF ?_
        refine ⟨_, rfl, _, rfl, _, rfl, _, rfl, _, _, rfl, Or.inr ⟨_, SqT.of ha, rfl⟩, .turned, _, _, _, rfl, (by unfold Led; simp), (by have := R.h1; omega), (by have := R.hs; omega), ?_⟩
        refine Or.inr (Or.inl ⟨_, _, _, _, rfl, rfl, SqT.of ha, (by rw [la]; exact hab), ?_⟩)
        refine ⟨_, rfl, _, rfl, _, rfl, _, rfl, _, _, rfl, Or.inr ⟨_, SqT.of hb', rfl⟩, .turned, _, _, _, rfl, (by unfold Led; simp), (by rw [lr]; have := R.w1; omega), (by rw [lr]; have := R.ws; omega), ?_⟩
        refine Or.inr (Or.inl ⟨_, _, _, _, rfl, rfl, SqT.of hb', (by rw [lr]; exact hbc), (by show 1 ≤ sizeLine; decide), fun p hp => q p hp⟩)
      | round => 
        have e := rule_str hru
        subst e
        obtain ⟨a, xs, b0, ys, e, ha, la, hb0, hb, lb⟩ := field_sizes R hf
        subst e
        have li := led_in .round i (n := F.length) (by have := R.h1; omega)
        have lj := led_in .round j (n := (F.headD []).length) (by have := R.w1; omega)
        obtain ⟨a', xs', b, rr, e, ha', hab, hb', hbc, lr⟩ := field_cell R hf li.1 li.2 lj.1 lj.2
        cases e
        rw [ha] at ha'; cases ha'
        refine ⟨_, rfl, Or.inl ⟨rfl, _, rfl, ?_⟩⟩
        rw [neS s_round_there]
        refine iteF ?_
        refine ⟨_, rfl, _, _, _, _, rfl, rfl, rfl, _, rfl, ?_⟩
        refine iteF ?_
        refine ⟨_, rfl, _, rfl, _, rfl, _, rfl, _, _, rfl, Or.inr ⟨_, SqT.of ha, rfl⟩, .round, _, _, _, rfl, (by unfold Led; simp), (by have := R.h1; omega), (by have := R.hs; omega), ?_⟩
        refine Or.inr (Or.inl ⟨_, _, _, _, rfl, rfl, SqT.of ha, (by rw [la]; exact hab), ?_⟩)
        refine ⟨_, rfl, _, rfl, _, rfl, _, rfl, _, _, rfl, Or.inr ⟨_, SqT.of hb', rfl⟩, .round, _, _, _, rfl, (by unfold Led; simp), (by rw [lr]; have := R.w1; omega), (by rw [lr]; have := R.ws; omega), ?_⟩
        refine Or.inr (Or.inl ⟨_, _, _, _, rfl, rfl, SqT.of hb', (by rw [lr]; exact hbc), (by show 1 ≤ sizeLine; decide), fun p hp => q p hp⟩)
def spPlaces : Sp := fun vs H Q _ => ∃ (p : Int) (a b : Nat), vs = [.int p, .int a, .int b] ∧ (-(2 ^ 60) < p ∧ p < 2 ^ 60) ∧ a ≤ 100 ∧ b ≤ 100 ∧
  ∀ (l : Addr) (H' : Hp), H l = none → Same H H' → H' l = some (.lst (upInts (p - a) (a + b + 1))) → Q (.ref l) H'
theorem df_places_around (T : Txt K mg) : Df P w K mg base 1 "places_around" ["place", "ahead", "behind"] spPlaces := by
  refine T.d_places_around.ok sc_places_around (fun vs H Q E h => ?_) (fun f cdv A outer s H vs Q E hr h => ?_)
  · obtain ⟨p, a, b, rfl, _⟩ := h
    rfl
  · obtain ⟨p, a, b, rfl, hp, ha, hb, q⟩ := h
    refine ⟨_, (@pss_one _ _ _ (@ps_ret _ _ _ _ (@pe_callTy _ _ _ _ _ _ _ _ _ (CallR.or (call_listK (K := K) rfl) (call_list_rng rfl)) (by rfl) T.n_list bt_list (@pa_cons _ _ _ _ _ (@pe_callTy _ _ _ _ _ _ _ _ _ call_range2V (by rfl) T.n_range bt_range (@pa_cons _ _ _ _ _ (@pe_op _ _ _ _ _ _ _ _ op_sub (pv 0) (pv 1)) (@pa_cons _ _ _ _ _ (@pe_op _ _ _ _ _ _ _ _ op_add (@pe_op _ _ _ _ _ _ _ _ op_add (pv 0) (pv 2)) pe_int) pa_nil star_bin) star_bin) (by decide) (by decide) (by rfl) (by rfl)) pa_nil star_call) (by decide) (by decide) (by rfl) (by rfl)))), ?_⟩
    refine ⟨_, rfl, _, rfl, _, _, rfl, rfl, _, rfl, _, rfl, _, _, rfl, rfl, _, _, rfl, rfl, ?_⟩
    refine ⟨_, _, rfl, fun r hr => ?_⟩
    have e : (p + (b : Int) + 1 - (p - (a : Int))).toNat = a + b + 1 := by omega
    refine Or.inr ⟨_, _, _, rfl, upd_same, ⟨by omega, by omega, by omega, by omega⟩, by rw [e]; omega, fun l hl => ?_⟩
    rw [e]
    exact q l _ ((same_upd hr).free hl) ((same_upd hr).trans (same_upd hl)) upd_same
def spHoles : Sp := fun vs H Q _ => ∃ (p : Addr) (cs : List (Option Int)), vs = [.ref p] ∧ SeqV H p (cs.map cellV) ∧ cs.length ≤ 100000 ∧ ∀ (t : Addr) (H' : Hp), Same H H' → H' t = some (.tup ((cs.filterMap id).map V.int)) → Q (.ref t) H'
theorem df_without_holes (T : Txt K mg) : Df P w K mg base 1 "without_holes" ["cells"] spHoles := by
  refine T.d_without_holes.ok sc_without_holes (fun vs H Q E h => ?_) (fun f cdv A outer s H vs Q E hr h => ?_)
  · obtain ⟨p, cs, rfl, _⟩ := h
    rfl
  · obtain ⟨p, cs, rfl, hp, hl, q⟩ := h
    refine ⟨_, (@pss_one _ _ _ (@ps_ret _ _ _ _ (@pe_callTy _ _ _ _ _ _ _ _ _ (call_tupleK (K := K) rfl) (by rfl) T.n_tuple bt_tuple (@pa_cons _ _ _ _ _ (pe_compIf (M := []) (idx := []) rfl (pi_seqK (K := K) rfl (pv 0)) (compOk (by kernel_rfl)) (by decide +kernel) (by first | exact Or.inl rfl | exact Or.inr rfl) (fun _ _ _ _ _ => pts_one (@pt_cmpR _ _ _ _ _ _ _ _ op_notN (pv 0) pe_non (nomark _))) (fun _ _ _ _ _ => (pv 0))) pa_nil star_comp) (by decide) (by decide) (by rfl) (by rfl)))), ?_⟩
    refine comp_seqV (K := K) (xs := cs.map cellV) (fun k h => ⟨_, rfl, h⟩) hp (fun i ys H' => H' = H ∧ ys = ((cs.take i).filterMap id).map V.int) ⟨rfl, rfl⟩ (by rw [List.length_map]; exact Nat.le_trans hl (by decide)) (fun i ys H' _ ⟨e, _⟩ => by rw [e]) ?_ ?_
    · rintro i x ys _ hx ⟨rfl, rfl⟩
      obtain ⟨c, ec, rfl⟩ := cell_at hx
      rw [List.take_add_one, ec, List.filterMap_append, List.map_append]
      cases c with
      | none =>
        refine ⟨_, rfl, rfl, _, rfl, ?_⟩
        refine iteF ?_
        exact ⟨rfl, by simp⟩
      | some n =>
        refine ⟨_, rfl, rfl, _, rfl, ?_⟩
        refine iteT ?_
        exact ⟨_, rfl, rfl, rfl⟩
    · rintro ys _ ⟨rfl, rfl⟩ l hl2
      rw [List.length_map, List.take_length]
      refine ⟨_, _, rfl, Or.inl ⟨SqL.of upd_same, fun t ht => ?_⟩⟩
      exact q t _ ((same_upd hl2).trans (same_upd ht)) upd_same
theorem cells_of (ns : List Int) : ns.map V.int = (ns.map some).map cellV := by rw [List.map_map]; rfl
def ruleIs (ru : Rule) (x : Str) : Bool := match ru with
  | .there => decide (("there" : Str) = x)
  | .near => decide (("near" : Str) = x)
  | .turned => decide (("turned" : Str) = x)
  | .round => decide (("round" : Str) = x)
  | .told _ => false
theorem eq_rule {H : Hp} {rv : V} {ru : Rule} {x : Str} {Q : VK} (h : IsD H rv (ruleD ru)) (hx : (PyData.str x).canLay0 = true) (q : Q (.bl (ruleIs ru x)) H) : rEq rv (.str x) H Q ∨ rEqD 0 rv (.str x) H Q := by
  have st : ∀ y : Str, rv = .str y → Q (.bl (decide (y = x))) H → rEq rv (.str x) H Q ∨ rEqD 0 rv (.str x) H Q := fun y e q' => by
    subst e
    refine Or.inl ⟨rfl, ?_⟩
    have : decide (V.str y = V.str x) = decide (y = x) := by
      by_cases z : y = x
      · subst z; simp
      · rw [decide_eq_false (fun e => z (V.str.inj e)), decide_eq_false z]
    rw [this]; exact q'
  cases ru with
  | there => exact st _ (rule_str h) q
  | near => exact st _ (rule_str h) q
  | turned => exact st _ (rule_str h) q
  | round => exact st _ (rule_str h) q
  | told c =>
    refine Or.inr ⟨_, _, h, .str _, ⟨?_, hx, ?_⟩, q⟩
    · show PyData.canLayAll0 [.str "told", cellD c] = true
      rw [PyData.canLayAll0, PyData.canLayAll0, canLay_cell]
      decide +kernel
    · show PyData.depthAll [.str "told", cellD c] + 1 ≤ 20
      rw [PyData.depthAll, PyData.depthAll, depth_cell]
      decide
def spDeck3 (K : PySem.W.Frag) : Sp := fun vs H Q _ => ∃ (a : Addr) (ns : List Int), vs = [.ref a] ∧ SqL K H a (ns.map V.int) ∧ ns.length ≤ 63 ∧ ∀ (d c : Addr) (H' : Hp), H d = none → H c = none → Dk H' d c 0 → Same H H' → Q (.ref d) H'
theorem df_law_deck (T : Txt K mg) : Df P w K mg base 1 "_law_deck" ["script"] (spDeck3 K) := by
  refine T.d_law_deck.ok sc_law_deck (fun vs H Q E h => ?_) (fun f cdv A outer s H vs Q E hr h => ?_)
  · obtain ⟨a, ns, rfl, _⟩ := h
    rfl
  · obtain ⟨a, ns, rfl, hS, hl, q⟩ := h
    refine ⟨_, (@pss_one _ _ _ (@ps_ret _ _ _ _ (@pe_lst _ _ _ _ (@pa_cons _ _ _ _ _ (@pe_op _ _ _ _ _ _ _ _ op_cat (pe_compIf (M := []) (idx := []) rfl (pi_seqK (K := K) rfl (pe_slice (sl_X (K := K) rfl) (pv 0) po_none (po_some pe_int))) (compOk (by kernel_rfl)) (by decide +kernel) (by first | exact Or.inl rfl | exact Or.inr rfl) (fun _ _ _ _ _ => pts_nil) (fun _ _ _ _ _ => (@pe_callB _ _ _ _ _ _ _ _ _ call_abs (by rfl) T.n_abs bt_abs (@pa_cons _ _ _ _ _ (pv 0) pa_nil (by rfl)) (by decide) (by decide) (by rfl) (by rfl)))) (@pe_lst _ _ _ _ (@pa_cons _ _ _ _ _ (@pe_op _ _ _ _ _ _ _ _ op_add (@pe_callB _ _ _ _ _ _ _ _ _ (call_lenK (K := K) rfl) (by rfl) T.n_len bt_len (@pa_cons _ _ _ _ _ (pv 0) pa_nil (by rfl)) (by decide) (by decide) (by rfl) (by rfl)) pe_int) pa_nil star_bin))) (@pa_cons _ _ _ _ _ (@pe_op _ _ _ _ _ _ _ _ op_mod (@pe_callB _ _ _ _ _ _ _ _ _ (call_sumK (K := K) rfl rfl) (by rfl) T.n_sum bt_sum (@pa_cons _ _ _ _ _ (pe_slice (sl_X (K := K) rfl) (pv 0) po_none (po_some pe_int)) pa_nil star_sub) (by decide) (by decide) (by rfl) (by rfl)) pe_int) (@pa_cons _ _ _ _ _ pe_int pa_nil (by rfl)) star_bin) star_bin)))), ?_⟩
    have ecut : cutV (ns.map V.int) none (some 63) = (ns.take 63).map V.int := by
      show cutV (ns.map V.int) none (some ((63 : Nat) : Int)) = _
      rw [cut_take, List.map_take]
    refine Or.inl ?_
    refine ⟨_, rfl, _, rfl, Or.inl ⟨_, _, rfl, hS, fun p hp => ?_⟩⟩
    rw [ecut]
    have s1 := same_upd (o := .lst ((ns.take 63).map V.int)) hp
    have e1 : upd H p (.lst ((ns.take 63).map V.int)) p = some (.lst ((ns.take 63).map V.int)) := upd_same
    generalize upd H p (.lst ((ns.take 63).map V.int)) = H1 at s1 e1 ⊢
    refine ⟨_, rfl, ⟨_, SqL.of e1⟩, ?_⟩
    refine compW_list (xs := (ns.take 63).map V.int) (fun i zs H' => H' = H1 ∧ ∃ ms : List Int, ms.length = i ∧ zs = ms.map V.int) ⟨rfl, [], rfl, rfl⟩ (by rw [List.length_map, List.length_take]; exact Nat.le_trans (Nat.min_le_left _ _) (by decide)) (fun i zs H' _ ⟨e, _⟩ => by rw [e]; exact SqL.of e1) ?_ ?_
    · rintro i x zs _ hx ⟨rfl, ms, lm, rfl⟩
      obtain ⟨z, ez, rfl⟩ := int_at hx
      refine oneT ?_
      refine ⟨_, rfl, _, rfl, rfl, ms ++ [if z < 0 then -z else z], by rw [List.length_append, lm]; rfl, ?_⟩
      rw [List.map_append]; rfl
    rintro zs H1 ⟨rfl, ms, lm, rfl⟩ p2 hp2
    have s2 := same_upd (o := .lst (ms.map V.int)) hp2
    have lms : ms.length ≤ 63 := by rw [lm, List.length_map, List.length_take]; omega
    refine ⟨_, rfl, _, _, rfl, Or.inl ⟨_, (s1.trans s2).seq hS, rfl⟩, _, _, rfl, rfl, ?_⟩
    refine ⟨(by show 1 ≤ sizeLine; decide), fun p3 hp3 => ?_⟩
    have s3 := same_upd (o := .lst [.int ((((ns.map V.int).length : Nat) : Int) + 5)]) hp3
    refine ⟨_, _, _, _, rfl, rfl, s3 _ _ upd_same, upd_same, (by rw [List.length_map]; exact Nat.le_trans (show ms.length + 1 ≤ 64 by omega) (by decide)), fun c hc => ?_⟩
    have s4 := same_upd (o := .lst (ms.map V.int ++ [.int ((((ns.map V.int).length : Nat) : Int) + 5)])) hc
    have S4 := ((s1.trans s2).trans s3).trans s4
    refine ⟨_, rfl, _, rfl, Or.inl ⟨_, _, rfl, S4.seq hS, fun p5 hp5 => ?_⟩⟩
    rw [ecut]
    have s5 := same_upd (o := .lst ((ns.take 63).map V.int)) hp5
    refine ⟨_, _, rfl, SqL.of upd_same, _, _, rfl, rfl, (by show (0 : Int) < 1999999951; decide), ?_⟩
    refine ⟨(by show 3 ≤ sizeLine; decide), fun d hd => ?_⟩
    have s6 := same_upd (o := .lst [.ref c, .int ((ns.take 63).sum % 1999999951), .int 0]) hd
    have S5 := S4.trans s5
    have fd : H d = none := S5.free hd
    have fc : H c = none := ((s1.trans s2).trans s3).free hc
    refine q d c _ fd fc ⟨?_, ms ++ [((((ns.map V.int).length : Nat) : Int) + 5)], _, _, upd_same, ?_, by simp, by rw [List.length_append]; show ms.length + 1 ≤ 64; omega, by decide, by decide⟩ (S5.trans s6)
    · intro e
      subst e
      rw [s5 _ _ upd_same] at hd
      cases hd
    · rw [List.map_append]
      exact s6 _ _ (s5 _ _ upd_same)
def spDraw3 : Sp := fun vs H Q _ => ∃ (d c : Addr) (most : Int) (n : Nat), vs = [.ref d, .int most] ∧ Dk H d c n ∧ 0 < most ∧ most < 2 ^ 40 ∧ n < 2 ^ 40 ∧
  ∀ (x : Int) (H' : Hp), 0 ≤ x → x < most → Dk H' d c (n + 1) → K2 d c H H' → Q (.int x) H'
theorem df_law_draw (T : Txt K mg) : Df P w K mg base 1 "_law_draw" ["deck", "most"] spDraw3 := by
  refine T.d_law_draw.ok sc_law_draw (fun vs H Q E h => ?_) (fun f cdv A outer s H vs Q E hr h => ?_)
  · obtain ⟨d, c, most, n, rfl, _⟩ := h
    rfl
  · obtain ⟨d, c, most, n, rfl, ⟨nde, ns, a, t, hd, hc, l1, l2, t0, t1⟩, m0, m1, n1, q⟩ := h
    refine ⟨_, (@pss_cons _ _ _ _ _ (@ps_asg _ _ _ _ _ _ (@pe_op _ _ _ _ _ _ _ _ op_add (@pe_ix _ _ _ _ _ _ _ (ix_seqK (K := K) rfl) (pv 0) pe_int (fun _ _ => rfl)) pe_int) (pg_sub (pv 0) pe_int set_list) (by rfl) (by rfl) (by rfl))
      (@pss_cons _ _ _ _ _ (@ps_set _ _ 2 _ _ _ _ sc_law_draw.nd rfl (by first | exact Or.inl rfl | exact Or.inr rfl) (@pe_ix _ _ _ _ _ _ _ (ix_seqK (K := K) rfl) (pv 0) pe_int (fun _ _ => rfl)) (by rfl) (by first | exact .inl rfl | exact .inr rfl))
      (@pss_cons _ _ _ _ _ (@ps_set _ _ 3 _ _ _ _ sc_law_draw.nd rfl (by first | exact Or.inl rfl | exact Or.inr rfl) (@pe_op _ _ _ _ _ _ _ _ op_mod (@pe_ix _ _ _ _ _ _ _ (ix_seqK (K := K) rfl) (pv 0) pe_int (fun _ _ => rfl)) (@pe_callB _ _ _ _ _ _ _ _ _ (call_lenK (K := K) rfl) (by rfl) T.n_len bt_len (@pa_cons _ _ _ _ _ (pv 2) pa_nil (by rfl)) (by decide) (by decide) (by rfl) (by rfl))) (by rfl) (by first | exact .inl rfl | exact .inr rfl))
      (@pss_cons _ _ _ _ _ (@ps_if _ _ _ _ _ _ _ _ (@pt_cmpR _ _ _ _ _ _ _ _ op_ge (@pe_ix _ _ _ _ _ _ _ (ix_seqK (K := K) rfl) (pv 2) (pv 3) (fun _ _ => rfl)) (@pe_op _ _ _ _ _ _ _ _ op_pow pe_int pe_int) (nomark _)) (@pss_cons _ _ _ _ _ (@ps_set _ _ 4 _ _ _ _ sc_law_draw.nd rfl (by first | exact Or.inl rfl | exact Or.inr rfl) (@pe_op _ _ _ _ _ _ _ _ op_mod (@pe_ix _ _ _ _ _ _ _ (ix_seqK (K := K) rfl) (pv 2) (pv 3) (fun _ _ => rfl)) (pv 1)) (by rfl) (by first | exact .inl rfl | exact .inr rfl))
      (@pss_cons _ _ _ _ _ (@ps_asg _ _ _ _ _ _ (@pe_op _ _ _ _ _ _ _ _ op_fdivB (@pe_ix _ _ _ _ _ _ _ (ix_seqK (K := K) rfl) (pv 2) (pv 3) (fun _ _ => rfl)) (pv 1)) (pg_sub (pv 2) (pv 3) set_list) (by rfl) (by rfl) (by rfl))
      (@pss_one _ _ _ (@ps_ret _ _ _ _ (pv 4))))) pss_nil)
      (@pss_cons _ _ _ _ _ (@ps_set _ _ 5 _ _ _ _ sc_law_draw.nd rfl (by first | exact Or.inl rfl | exact Or.inr rfl) (@pe_ix _ _ _ _ _ _ _ (ix_seqK (K := K) rfl) (pv 0) pe_int (fun _ _ => rfl)) (by rfl) (by first | exact .inl rfl | exact .inr rfl))
      (@pss_cons _ _ _ _ _ (@ps_set _ _ 6 _ _ _ _ sc_law_draw.nd rfl (by first | exact Or.inl rfl | exact Or.inr rfl) (@pe_op _ _ _ _ _ _ _ _ op_add (@pe_ix _ _ _ _ _ _ _ (ix_seqK (K := K) rfl) (pv 2) (pv 3) (fun _ _ => rfl)) (@pe_ix _ _ _ _ _ _ _ (ix_seqK (K := K) rfl) (pv 0) pe_int (fun _ _ => rfl))) (by rfl) (by first | exact .inl rfl | exact .inr rfl))
      (@pss_cons _ _ _ _ _ (@ps_set _ _ 7 _ _ _ _ sc_law_draw.nd rfl (by first | exact Or.inl rfl | exact Or.inr rfl) (@pe_op _ _ _ _ _ _ _ _ op_mod (@pe_op _ _ _ _ _ _ _ _ op_add (@pe_op _ _ _ _ _ _ _ _ op_add (pv 6) (@pe_op _ _ _ _ _ _ _ _ op_mul (@pe_op _ _ _ _ _ _ _ _ op_mul pe_int (pv 5)) (pv 5))) (@pe_op _ _ _ _ _ _ _ _ op_mul pe_int (pv 5))) pe_int) (by rfl) (by first | exact .inl rfl | exact .inr rfl))
      (@pss_cons _ _ _ _ _ (@ps_set _ _ 7 _ _ _ _ sc_law_draw.nd rfl (by first | exact Or.inl rfl | exact Or.inr rfl) (@pe_op _ _ _ _ _ _ _ _ op_mod (@pe_op _ _ _ _ _ _ _ _ op_mul (pv 7) (pv 7)) pe_int) (by rfl) (by first | exact .inl rfl | exact .inr rfl))
      (@pss_one _ _ _ (@ps_ret _ _ _ _ (@pe_op _ _ _ _ _ _ _ _ op_mod (@pe_op _ _ _ _ _ _ _ _ op_fdivB (@pe_op _ _ _ _ _ _ _ _ op_mod (@pe_op _ _ _ _ _ _ _ _ op_add (@pe_op _ _ _ _ _ _ _ _ op_mul (pv 7) pe_int) (@pe_op _ _ _ _ _ _ _ _ op_mul (pv 5) pe_int)) pe_int) pe_int) (pv 1)))))))))))), ?_⟩
    refine ⟨_, rfl, Or.inl ⟨_, _, _, _, rfl, rfl, SqL.of hd, rfl, _, _, rfl, rfl, ?_⟩⟩
    refine ⟨_, rfl, _, _, _, 2, rfl, rfl, hd, rfl, ?_⟩
    have h1 : upd H d (.lst [.ref c, .int a, .int (t + 1)]) d = some (.lst [.ref c, .int a, .int (t + 1)]) := upd_same
    have hc1 : upd H d (.lst [.ref c, .int a, .int (t + 1)]) c = some (.lst (ns.map V.int)) := by rw [upd_ne nde.symm]; exact hc
    have k1 : K2 d c H (upd H d (.lst [.ref c, .int a, .int (t + 1)])) := fun b' o e hb _ => by rw [upd_ne hb]; exact e
    dsimp only [List.set]
    generalize upd H d (.lst [.ref c, .int a, .int (t + 1)]) = H1 at h1 hc1 k1 ⊢
    refine ⟨_, rfl, Or.inl ⟨_, _, _, _, rfl, rfl, SqL.of h1, rfl, ?_⟩⟩
    refine ⟨_, rfl, Or.inl ⟨_, _, _, _, rfl, rfl, SqL.of h1, rfl, _, rfl, _, _, rfl, Or.inl ⟨_, SqL.of hc1, rfl⟩, _, _, rfl, rfl, (by rw [List.length_map]; show (0 : Int) < (ns.length : Int); omega), ?_⟩⟩
    have a0 : 0 ≤ (t + 1) % (((ns.map V.int).length : Nat) : Int) := Int.emod_nonneg _ (by rw [List.length_map]; omega)
    have a1 : (t + 1) % (((ns.map V.int).length : Nat) : Int) < (((ns.map V.int).length : Nat) : Int) := Int.emod_lt_of_pos _ (by rw [List.length_map]; omega)
    dsimp only [gName, List.set]
    generalize (t + 1) % (((ns.map V.int).length : Nat) : Int) = at_ at a0 a1 ⊢
    obtain ⟨k, rfl⟩ : ∃ k : Nat, at_ = k := ⟨at_.toNat, by omega⟩
    rw [List.length_map] at a1
    have hk : k < ns.length := by omega
    have ek : (ns.map V.int)[k]? = some (.int ns[k]) := by rw [List.getElem?_map, List.getElem?_eq_getElem hk]; rfl
    refine tSeq_cut (fun σ' H' => ∃ v4 : Option V, σ' = [some (.ref d), some (.int most), some (.ref c), some (.int (k : Nat)), v4, none, none, none] ∧ H' = H1) ?_ (fun rest => ?_)
    · rintro _ H1 ⟨v4, rfl, rfl⟩
      refine ⟨_, rfl, Or.inl ⟨_, _, _, _, rfl, rfl, SqL.of h1, rfl, ?_⟩⟩
      refine ⟨_, rfl, _, rfl, Or.inl ⟨_, _, _, _, rfl, rfl, SqL.of hc1, atI_nat ek, ?_⟩⟩
      refine ⟨_, rfl, Or.inl ⟨_, _, _, _, rfl, rfl, SqL.of h1, rfl, _, _, rfl, rfl, ?_⟩⟩
      refine ⟨_, rfl, _, rfl, _, _, rfl, rfl, Or.inl ⟨by decide, by decide⟩, _, rfl, _, _, rfl, rfl, Or.inr ⟨by omega, by omega⟩, _, _, rfl, rfl, ?_⟩
      refine ⟨_, rfl, _, _, rfl, rfl, Or.inl ⟨by decide, by decide⟩, _, _, rfl, rfl, _, _, rfl, rfl, (by show (0 : Int) < 2147483579; decide), ?_⟩
      have b1 : (0 : Int) ≤ (ns[k] + a + 70001 * (t + 1) * (t + 1) + 4999 * (t + 1)) % 2147483579 := Int.emod_nonneg _ (by decide)
      have b2 : (ns[k] + a + 70001 * (t + 1) * (t + 1) + 4999 * (t + 1)) % 2147483579 < (2147483579 : Int) := Int.emod_lt_of_pos _ (by decide)
      generalize (ns[k] + a + 70001 * (t + 1) * (t + 1) + 4999 * (t + 1)) % 2147483579 = o1 at b1 b2
      refine ⟨_, rfl, _, rfl, _, _, rfl, rfl, Or.inl ⟨by omega, by omega⟩, _, _, rfl, rfl, (by show (0 : Int) < 2147483549; decide), ?_⟩
      refine ⟨_, rfl, _, _, rfl, rfl, Or.inr ⟨by decide, by decide⟩, _, rfl, _, _, rfl, rfl, Or.inr ⟨by decide, by decide⟩, _, _, rfl, rfl, _, _, rfl, rfl, (by show (0 : Int) < 2147483543; decide), _, _, rfl, rfl, ⟨(by show (0 : Int) < 17; decide), by show (17 : Int) < 2 ^ 62; decide⟩, _, rfl, _, _, rfl, rfl, m0, ?_⟩
      exact q _ _ (Int.emod_nonneg _ (by omega)) (Int.emod_lt_of_pos _ m0) ⟨nde, ns, a, t + 1, h1, hc1, l1, l2, by omega, by omega⟩ k1
    · refine ⟨_, rfl, _, rfl, Or.inl ⟨_, _, _, _, rfl, rfl, SqL.of hc1, atI_nat ek, ?_⟩⟩
      refine ⟨_, _, rfl, rfl, ⟨by decide, by decide, by decide⟩, _, _, rfl, rfl, _, rfl, ?_⟩
      refine ite2 (fun hz => ?_) (fun hz => rest _ _ ⟨none, rfl, rfl⟩)
      refine ⟨_, rfl, _, rfl, Or.inl ⟨_, _, _, _, rfl, rfl, SqL.of hc1, atI_nat ek, _, rfl, _, _, rfl, rfl, m0, ?_⟩⟩
      refine ⟨_, rfl, _, rfl, Or.inl ⟨_, _, _, _, rfl, rfl, SqL.of hc1, atI_nat ek, _, rfl, _, _, rfl, rfl, ⟨m0, by omega⟩, ?_⟩⟩
      have eix : ixN (ns.map V.int).length (k : Int) = some k := by
        unfold ixN
        rw [List.length_map, if_pos (by omega), if_pos (by omega)]
        rfl
      refine ⟨_, rfl, _, rfl, _, _, _, k, rfl, rfl, hc1, eix, _, rfl, ?_⟩
      refine q _ _ (Int.emod_nonneg _ (by omega)) (Int.emod_lt_of_pos _ m0) ⟨nde, ns.set k (ns[k] / most), a, t + 1, by rw [upd_ne nde]; exact h1, by rw [upd_same, List.map_set], by rw [List.length_set]; exact l1, by rw [List.length_set]; exact l2, by omega, by omega⟩ fun b' o e hb hb2 => ?_
      rw [upd_ne hb2]
      exact k1 b' o e hb hb2
def spNum3 : Sp := fun vs H Q _ => ∃ (d c : Addr) (kind : Int) (n : Nat), vs = [.ref d, .int kind] ∧ Dk H d c n ∧ n ≤ 1000000 ∧ ∀ (x : Int) (H' : Hp), -1000000000 ≤ x → x ≤ 1000000000 → Dk H' d c (n + 3) → K2 d c H H' → Q (.int x) H'
theorem df_law_number (T : Txt K mg) : Df P w K mg base 2 "_law_number" ["deck", "kind"] spNum3 := by
  refine T.d_law_number.ok sc_law_number (fun vs H Q E h => ?_) (fun f cdv A outer s H vs Q E hr h => ?_)
  · obtain ⟨d, c, kind, n, rfl, _⟩ := h
    rfl
  · obtain ⟨d, c, kind, n, rfl, D, hn, q⟩ := h
    refine ⟨_, (@pss_cons _ _ _ _ _ (@ps_if _ _ _ _ _ _ _ _ (@pt_cmpR _ _ _ _ _ _ _ _ (op_eqA hr.units) (pv 1) pe_int (nomark _)) (@pss_one _ _ _ (@ps_ret _ _ _ _ (@pe_op _ _ _ _ _ _ _ _ op_sub (@pe_df _ _ _ _ _ _ _ _ _ _ (df_law_draw T) (hr.mono (by decide)) (@pa_cons _ _ _ _ _ (pv 0) (@pa_cons _ _ _ _ _ pe_int pa_nil (by rfl)) (by rfl)) (by rfl) (by decide) (by rfl) (by rfl)) pe_int))) pss_nil)
      (@pss_cons _ _ _ _ _ (@ps_if _ _ _ _ _ _ _ _ (@pt_cmpR _ _ _ _ _ _ _ _ (op_eqA hr.units) (pv 1) pe_int (nomark _)) (@pss_one _ _ _ (@ps_ret _ _ _ _ (@pe_op _ _ _ _ _ _ _ _ op_sub (@pe_df _ _ _ _ _ _ _ _ _ _ (df_law_draw T) (hr.mono (by decide)) (@pa_cons _ _ _ _ _ (pv 0) (@pa_cons _ _ _ _ _ pe_int pa_nil (by rfl)) (by rfl)) (by rfl) (by decide) (by rfl) (by rfl)) pe_int))) pss_nil)
      (@pss_one _ _ _ (@ps_ret _ _ _ _ (@pe_op _ _ _ _ _ _ _ _ op_sub (@pe_op _ _ _ _ _ _ _ _ op_add (@pe_op _ _ _ _ _ _ _ _ op_mul (@pe_df _ _ _ _ _ _ _ _ _ _ (df_law_draw T) (hr.mono (by decide)) (@pa_cons _ _ _ _ _ (pv 0) (@pa_cons _ _ _ _ _ (@pe_op _ _ _ _ _ _ _ _ op_pow pe_int pe_int) pa_nil star_bin) (by rfl)) (by rfl) (by decide) (by rfl) (by rfl)) (@pe_op _ _ _ _ _ _ _ _ op_pow pe_int pe_int)) (@pe_df _ _ _ _ _ _ _ _ _ _ (df_law_draw T) (hr.mono (by decide)) (@pa_cons _ _ _ _ _ (pv 0) (@pa_cons _ _ _ _ _ (@pe_op _ _ _ _ _ _ _ _ op_pow pe_int pe_int) pa_nil star_bin) (by rfl)) (by rfl) (by decide) (by rfl) (by rfl))) (@pe_ix _ _ _ _ _ _ _ (ix_seqK (K := K) rfl) (@pe_lst _ _ _ _ (@pa_cons _ _ _ _ _ pe_int (@pa_cons _ _ _ _ _ (@pe_op _ _ _ _ _ _ _ _ op_pow pe_int pe_int) pa_nil star_bin) (by rfl))) (@pe_df _ _ _ _ _ _ _ _ _ _ (df_law_draw T) (hr.mono (by decide)) (@pa_cons _ _ _ _ _ (pv 0) (@pa_cons _ _ _ _ _ pe_int pa_nil (by rfl)) (by rfl)) (by rfl) (by decide) (by rfl) (by rfl)) (fun _ _ => rfl))))))), ?_⟩
    refine ⟨_, rfl, Or.inl ⟨rfl, _, rfl, ?_⟩⟩
    refine ite2 (fun _ => ?_) (fun _ => ?_)
    · exact ⟨_, rfl, _, _, _, _, rfl, D, (by decide), (by decide), by omega, fun x H1 x0 x1 D1 k1 => ⟨_, _, rfl, rfl, q (x - 1) H1 (by omega) (by omega) (D1.mono (by omega)) k1⟩⟩
    refine ⟨_, rfl, Or.inl ⟨rfl, _, rfl, ?_⟩⟩
    refine ite2 (fun _ => ?_) (fun _ => ?_)
    · exact ⟨_, rfl, _, _, _, _, rfl, D, (by decide), (by decide), by omega, fun x H1 x0 x1 D1 k1 => ⟨_, _, rfl, rfl, q (x - 20) H1 (by omega) (by omega) (D1.mono (by omega)) k1⟩⟩
    have e5 : (10 : Int) ^ (5 : Int).toNat = 100000 := by decide
    have e4 : (10 : Int) ^ (4 : Int).toNat = 10000 := by decide
    have e9 : (10 : Int) ^ (9 : Int).toNat = 1000000000 := by decide
    refine ⟨_, rfl, _, _, rfl, rfl, ⟨by decide, by decide, by decide⟩, _, _, _, _, rfl, D, (by decide), (by decide), by omega, fun x H1 x0 x1 D1 k1 => ?_⟩
    refine ⟨_, _, rfl, rfl, ⟨by decide, by decide, by decide⟩, _, _, rfl, rfl, Or.inr ⟨by decide, by decide⟩, ?_⟩
    refine ⟨_, rfl, _, _, rfl, rfl, ⟨by decide, by decide, by decide⟩, _, _, _, _, rfl, D1, (by decide), (by decide), by omega, fun y H2 y0 y1 D2 k2 => ?_⟩
    refine ⟨_, _, rfl, rfl, ?_⟩
    refine ⟨_, _, rfl, rfl, ⟨by decide, by decide, by decide⟩, (by show 2 ≤ sizeLine; decide), fun p hp => ?_⟩
    refine ⟨_, rfl, _, _, _, _, rfl, D2.upd hp, (by decide), (by decide), by omega, fun z H3 z0 z1 D3 k3 => ?_⟩
    rw [e5] at x1
    rw [e4] at y1
    have hp3 := k3 p _ upd_same (D2.nd hp).1 (D2.nd hp).2
    obtain ⟨m, em, hm⟩ := pickI (x := z) (ms := [0, (10 : Int) ^ (9 : Int).toNat]) z0 (by exact z1)
    refine Or.inl ⟨_, _, _, _, rfl, rfl, SqL.of hp3, em, _, _, rfl, rfl, ?_⟩
    rw [e9] at hm
    have hm' : m = 0 ∨ m = 1000000000 := by simpa using hm
    refine q _ H3 ?_ ?_ D3 (((k1.trans k2).upd hp).trans k3)
    · show -1000000000 ≤ x * (10 : Int) ^ (4 : Int).toNat + y - m
      rw [e4]; omega
    · show x * (10 : Int) ^ (4 : Int).toNat + y - m ≤ 1000000000
      rw [e4]; omega
def spSides3 : Sp := fun vs H Q _ => ∃ (d c : Addr) (most : Int) (n : Nat), vs = [.ref d, .int most] ∧ Dk H d c n ∧ n ≤ 1000000 ∧ 0 ≤ most ∧ most ≤ 6 ∧
  ∀ (t : Addr) (u dn l r : Nat) (H' : Hp), u ≤ 6 → dn ≤ 6 → l ≤ 6 → r ≤ 6 → H' t = some (.tup [.int u, .int dn, .int l, .int r]) → Dk H' d c (n + 8) → K2 d c H H' → Q (.ref t) H'
theorem four_nat {ys : List V} {ks : List Nat} (h : ys = ks.map fun k : Nat => V.int (k : Int)) (l : ks.length = 4) (b : ∀ k ∈ ks, k ≤ 6) : ∃ a b c d : Nat, ys = [.int a, .int b, .int c, .int d] ∧ a ≤ 6 ∧ b ≤ 6 ∧ c ≤ 6 ∧ d ≤ 6 := by
  match ks, l with
  | [a, b', c, d], _ => exact ⟨a, b', c, d, h, b a (by simp), b b' (by simp), b c (by simp), b d (by simp)⟩
theorem df_law_sides (T : Txt K mg) : Df P w K mg base 2 "_law_sides" ["deck", "most"] spSides3 := by
  refine T.d_law_sides.ok sc_law_sides (fun vs H Q E h => ?_) (fun f cdv A outer s H vs Q E hr h => ?_)
  · obtain ⟨d, c, most, n, rfl, _⟩ := h
    rfl
  · obtain ⟨d, c, most, n, rfl, D, hn, m0, m6, q⟩ := h
    refine ⟨_, (@pss_one _ _ _ (@ps_ret _ _ _ _ (@pe_callTy _ _ _ _ _ _ _ _ _ (call_tupleK (K := K) rfl) (by rfl) T.n_tuple bt_tuple (@pa_cons _ _ _ _ _ (pe_compIf (M := ["deck", "most"]) (idx := [0, 1]) rfl (pi_range1 (by rfl) T.n_range (@pa_cons _ _ _ _ _ pe_int pa_nil (by rfl))) (compOk (by kernel_rfl)) (by decide +kernel) (by first | exact Or.inl rfl | exact Or.inr rfl) (fun _ _ _ _ _ => pts_nil) (fun _ _ _ _ _ => (@pe_df _ _ _ _ _ _ _ _ _ _ (df_law_draw T) (hr.mono (by decide)) (@pa_cons _ _ _ _ _ (pv 1) (@pa_cons _ _ _ _ _ (@pe_ix _ _ _ _ _ _ _ (ix_seqK (K := K) rfl) (@pe_lst _ _ _ _ (@pa_cons _ _ _ _ _ pe_int (@pa_cons _ _ _ _ _ pe_int (@pa_cons _ _ _ _ _ pe_int (@pa_cons _ _ _ _ _ (@pe_op _ _ _ _ _ _ _ _ op_add (pv 2) pe_int) pa_nil star_bin) (by rfl)) (by rfl)) (by rfl))) (@pe_df _ _ _ _ _ _ _ _ _ _ (df_law_draw T) (hr.mono (by decide)) (@pa_cons _ _ _ _ _ (pv 1) (@pa_cons _ _ _ _ _ pe_int pa_nil (by rfl)) (by rfl)) (by rfl) (by decide) (by rfl) (by rfl)) (fun _ _ => rfl)) pa_nil star_sub) (by rfl)) (by rfl) (by decide) (by rfl) (by rfl)))) pa_nil star_comp) (by decide) (by decide) (by rfl) (by rfl)))), ?_⟩
    refine ⟨4, rfl, (by decide), (by decide), ?_⟩
    refine compW_range (fun i ys H' => ∃ ks : List Nat, ks.length = i ∧ ys = ks.map (fun k : Nat => V.int (k : Int)) ∧ (∀ k ∈ ks, k ≤ 6) ∧ Dk H' d c (n + 2 * i) ∧ K2 d c H H')
      ⟨[], rfl, rfl, fun k hk => absurd hk (by simp), D, K2.refl _ _ _⟩ (by decide) ?_ ?_
    · rintro i ys H2 hi ⟨ks, lk, ek, bk, D2, K2'⟩
      have hi4 : i < 4 := hi
      refine oneT ?_
      refine ⟨_, rfl, _, rfl, _, _, rfl, rfl, (by show 4 ≤ sizeLine; decide), fun p hp => ?_⟩
      refine ⟨_, rfl, _, _, _, _, rfl, D2.upd hp, (by decide), (by decide), by omega, fun x H1 x0 x1 D1 k1 => ?_⟩
      obtain ⟨m, em, hm⟩ := pickI (x := x) (ms := [1, 3, 3, most + 1]) x0 (by exact x1)
      have hm' : 1 ≤ m ∧ m ≤ 7 := by
        simp only [List.mem_cons, List.not_mem_nil, or_false] at hm
        omega
      refine Or.inl ⟨_, _, _, _, rfl, rfl, SqL.of (k1 p _ upd_same (D2.nd hp).1 (D2.nd hp).2), em, ?_⟩
      refine ⟨_, _, _, _, rfl, D1, by omega, by omega, by omega, fun y H3 y0 y1 D3 k3 => ?_⟩
      refine ⟨ks ++ [y.toNat], by rw [List.length_append, lk]; rfl, ?_, fun k hk => ?_, D3.mono (by omega), (K2'.upd hp).trans (k1.trans k3)⟩
      · rw [ek, List.map_append]
        show _ ++ [V.int y] = _ ++ [V.int ((y.toNat : Nat) : Int)]
        rw [Int.toNat_of_nonneg y0]
      · rcases List.mem_append.mp hk with z | z
        · exact bk k z
        · have : k = y.toNat := by simpa using z
          omega
    · rintro ys H2 ⟨ks, lk, ek, bk, D2, K2'⟩ ls hls
      refine ⟨_, _, rfl, Or.inl ⟨SqL.of upd_same, fun t ht => ?_⟩⟩
      obtain ⟨a, b, c', e, ey, ha, hb, hc, he⟩ := four_nat ek lk bk
      have kk := (same_upd (o := .lst ys) hls).trans (same_upd (o := .tup ys) ht)
      exact q t a b c' e _ ha hb hc he (by rw [upd_same, ey]) ((D2.keep kk).mono (by show n + 2 * 4 ≤ _; omega)) (K2'.trans (kk.k2 d c))
def spField3 : Sp := fun vs H Q _ => ∃ (d c : Addr) (most holes : Int) (n : Nat), vs = [.ref d, .int most, .int holes] ∧ Dk H d c n ∧ n ≤ 100000 ∧ 1 ≤ most ∧ most ≤ 12 ∧ (holes = 0 ∨ holes = 1) ∧
  ∀ (v : V) (F : List (List (Option Int))) (h w : Nat) (H' : Hp), IsD H' v (fieldD F) → FieldOk F h w → (h : Int) ≤ most → (w : Int) ≤ most → (holes = 0 → ∀ r ∈ F, ∀ c ∈ r, c ≠ none) → Dk H' d c (n + 1000) → K2 d c H H' → Q v H'
theorem df_law_field (T : Txt K mg) : Df P w K mg base 3 "_law_field" ["deck", "most", "holes"] spField3 := by
  refine T.d_law_field.ok sc_law_field (fun vs H Q E h => ?_) (fun f cdv A outer s H vs Q E hr h => ?_)
  · obtain ⟨d, c, most, holes, n, rfl, _⟩ := h
    rfl
  · obtain ⟨d, c, most, holes, n, rfl, D, hn, m1, m12, hh, q⟩ := h
    refine ⟨_, (@pss_cons _ _ _ _ _ (@ps_set _ _ 3 _ _ _ _ sc_law_field.nd rfl (by first | exact Or.inl rfl | exact Or.inr rfl) (@pe_df _ _ _ _ _ _ _ _ _ _ (df_law_draw T) (hr.mono (by decide)) (@pa_cons _ _ _ _ _ (pv 0) (@pa_cons _ _ _ _ _ pe_int pa_nil (by rfl)) (by rfl)) (by rfl) (by decide) (by rfl) (by rfl)) (by rfl) (by first | exact .inl rfl | exact .inr rfl))
      (@pss_cons _ _ _ _ _ (@ps_set _ _ 4 _ _ _ _ sc_law_field.nd rfl (by first | exact Or.inl rfl | exact Or.inr rfl) (@pe_ix _ _ _ _ _ _ _ (ix_seqK (K := K) rfl) (@pe_lst _ _ _ _ (@pa_cons _ _ _ _ _ pe_int (@pa_cons _ _ _ _ _ pe_int (@pa_cons _ _ _ _ _ pe_int (@pa_cons _ _ _ _ _ pe_int pa_nil (by rfl)) (by rfl)) (by rfl)) (by rfl))) (@pe_op _ _ _ _ _ _ _ _ op_mul (@pe_df _ _ _ _ _ _ _ _ _ _ (df_law_draw T) (hr.mono (by decide)) (@pa_cons _ _ _ _ _ (pv 0) (@pa_cons _ _ _ _ _ pe_int pa_nil (by rfl)) (by rfl)) (by rfl) (by decide) (by rfl) (by rfl)) (pv 2)) (fun _ _ => rfl)) (by rfl) (by first | exact .inl rfl | exact .inr rfl))
      (@pss_cons _ _ _ _ _ (@ps_set _ _ 5 _ _ _ _ sc_law_field.nd rfl (by first | exact Or.inl rfl | exact Or.inr rfl) (@pe_op _ _ _ _ _ _ _ _ op_add pe_int (@pe_df _ _ _ _ _ _ _ _ _ _ (df_law_draw T) (hr.mono (by decide)) (@pa_cons _ _ _ _ _ (pv 0) (@pa_cons _ _ _ _ _ (pv 1) pa_nil (by rfl)) (by rfl)) (by rfl) (by decide) (by rfl) (by rfl))) (by rfl) (by first | exact .inl rfl | exact .inr rfl))
      (@pss_cons _ _ _ _ _ (@ps_set _ _ 6 _ _ _ _ sc_law_field.nd rfl (by first | exact Or.inl rfl | exact Or.inr rfl) (@pe_lst _ _ _ _ pa_nil) (by rfl) (by first | exact .inl rfl | exact .inr rfl))
      (@pss_cons _ _ _ _ _ (@ps_for _ _ _ _ _ _ _ _ PassesOwn.never rfl (pi_range1 (by rfl) T.n_range (@pa_cons _ _ _ _ _ (@pe_op _ _ _ _ _ _ _ _ op_add pe_int (@pe_df _ _ _ _ _ _ _ _ _ _ (df_law_draw T) (hr.mono (by decide)) (@pa_cons _ _ _ _ _ (pv 0) (@pa_cons _ _ _ _ _ (pv 1) pa_nil (by rfl)) (by rfl)) (by rfl) (by decide) (by rfl) (by rfl))) pa_nil star_bin)) (pg_name (i := 7) sc_law_field.nd rfl (by first | exact Or.inl rfl | exact Or.inr rfl)) (@pss_cons _ _ _ _ _ (@ps_set _ _ 8 _ _ _ _ sc_law_field.nd rfl (by first | exact Or.inl rfl | exact Or.inr rfl) (@pe_lst _ _ _ _ pa_nil) (by rfl) (by first | exact .inl rfl | exact .inr rfl))
      (@pss_cons _ _ _ _ _ (@ps_for _ _ _ _ _ _ _ _ PassesOwn.never rfl (pi_range1 (by rfl) T.n_range (@pa_cons _ _ _ _ _ (pv 5) pa_nil (by rfl))) (pg_name (i := 9) sc_law_field.nd rfl (by first | exact Or.inl rfl | exact Or.inr rfl)) (@pss_cons _ _ _ _ _ (@ps_set _ _ 10 _ _ _ _ sc_law_field.nd rfl (by first | exact Or.inl rfl | exact Or.inr rfl) (@pe_df _ _ _ _ _ _ _ _ _ _ (df_law_number T) (hr.mono (by decide)) (@pa_cons _ _ _ _ _ (pv 0) (@pa_cons _ _ _ _ _ (pv 3) pa_nil (by rfl)) (by rfl)) (by rfl) (by decide) (by rfl) (by rfl)) (by rfl) (by first | exact .inl rfl | exact .inr rfl))
      (@pss_one _ _ _ (@ps_expr _ _ _ _ (pe_bm PySem.F.plainAttrs_list PySem.F.slot_list_append PySem.F.type_list_append mt_append (pv 8) (@pa_cons _ _ _ _ _ (pe_ifExp (pw_and (@pt_cmpR _ _ _ _ _ _ _ _ op_gt (pv 2) pe_int (nomark _)) (pw_and1 (@pt_cmpR _ _ _ _ _ _ _ _ op_lt (@pe_df _ _ _ _ _ _ _ _ _ _ (df_law_draw T) (hr.mono (by decide)) (@pa_cons _ _ _ _ _ (pv 0) (@pa_cons _ _ _ _ _ pe_int pa_nil (by rfl)) (by rfl)) (by rfl) (by decide) (by rfl) (by rfl)) (pv 4) (nomark _)))).pt pe_non (pv 10)) pa_nil (by rfl))) (by rfl)))) (by intro _; rfl))
      (@pss_one _ _ _ (@ps_expr _ _ _ _ (pe_bm PySem.F.plainAttrs_list PySem.F.slot_list_append PySem.F.type_list_append mt_append (pv 6) (@pa_cons _ _ _ _ _ (@pe_callTy _ _ _ _ _ _ _ _ _ (call_tupleK (K := K) rfl) (by rfl) T.n_tuple bt_tuple (@pa_cons _ _ _ _ _ (pv 8) pa_nil (by rfl)) (by decide) (by decide) (by rfl) (by rfl)) pa_nil star_call)) (by rfl))))) (by intro _; rfl))
      (@pss_one _ _ _ (@ps_ret _ _ _ _ (@pe_callTy _ _ _ _ _ _ _ _ _ (call_tupleK (K := K) rfl) (by rfl) T.n_tuple bt_tuple (@pa_cons _ _ _ _ _ (pv 6) pa_nil (by rfl)) (by decide) (by decide) (by rfl) (by rfl))))))))), ?_⟩
    have hh' : 0 ≤ holes ∧ holes ≤ 1 := by omega
    refine ⟨_, rfl, _, _, _, _, rfl, D, (by decide), (by decide), by omega, fun x1 H1 a1 b1 D1 k1 => ?_⟩
    refine ⟨(by show 4 ≤ sizeLine; decide), fun p hp => ?_⟩
    refine ⟨_, rfl, _, _, _, _, rfl, D1.upd hp, (by decide), (by decide), by omega, fun x2 H2 a2 b2 D2 k2 => ?_⟩
    refine ⟨_, rfl, _, _, rfl, rfl, Or.inr ⟨by omega, by omega⟩, ?_⟩
    have hx2 : 0 ≤ x2 * holes ∧ x2 * holes < 4 := by
      rcases hh with e | e
      · rw [e]; omega
      · rw [e]; omega
    obtain ⟨many, em, hm⟩ := pickI (x := x2 * holes) (ms := [1, 1, 4, 12]) hx2.1 (by exact hx2.2)
    refine Or.inl ⟨_, _, _, _, rfl, rfl, SqL.of (k2 p _ upd_same (D1.nd hp).1 (D1.nd hp).2), em, ?_⟩
    have K2' : K2 d c H H2 := (k1.upd hp).trans k2
    refine ⟨_, rfl, _, rfl, _, _, _, _, rfl, D2, by omega, by omega, by omega, fun x3 H3 a3 b3 D3 k3 => ?_⟩
    refine ⟨_, _, rfl, rfl, ?_⟩
    have K3 := K2'.trans k3
    refine ⟨(by show 0 ≤ sizeLine; decide), fun b hb => ?_⟩
    have nb := D3.nd hb
    have K4 : K2 d c H (upd H3 b (.lst [])) := K3.upd hb
    have hb4 : upd H3 b (.lst []) b = some (.lst []) := upd_same
    have D4 := D3.upd (o := .lst []) hb
    have hbH : H b = none := by
      cases e : H b with
      | none => rfl
      | some o => rw [K3 b o e nb.1 nb.2] at hb; cases hb
    generalize upd H3 b (.lst []) = H4 at K4 hb4 D4 ⊢
    refine ⟨_, rfl, _, rfl, _, _, _, _, rfl, D4, by omega, by omega, by omega, fun x5 H5 a5 b5 D5 k5 => ?_⟩
    have hb5 := k5 _ _ hb4 nb.1 nb.2
    have K5 := K4.trans k5
    refine ⟨_, _, rfl, rfl, _, rfl, by omega, by omega, ?_⟩
    refine for_range (n := (1 + x5).toNat) (fun i σ H' => ∃ (v7 v8 v9 v10 : Option V) (ys : List V) (G : List (List (Option Int))), σ = [some (.ref d), some (.int most), some (.int holes), some (.int x1), some (.int many), some (.int (1 + x3)), some (.ref b), v7, v8, v9, v10] ∧ K2 d c H H' ∧ Dk H' d c (n + 4 + 50 * i) ∧ H' b = some (.lst ys) ∧ IsDs H' ys (G.map rowD) ∧ G.length = i ∧
      (∀ r ∈ G, r.length = (1 + x3).toNat ∧ ∀ c ∈ r, CellOk c ∧ (holes = 0 → c ≠ none))) ⟨none, none, none, none, [], [], rfl, K5, D5, hb5, .nil, rfl, fun r hr => absurd hr (by simp)⟩ ?_ ?_
    · rintro i _ H8 hi ⟨v7, v8, v9, v10, ys, G, rfl, K8, D8, hc8, hys, lG, hG⟩
      have ly : ys.length = i := by rw [hys.length, List.length_map, lG]
      have hi' : i < 12 := by
        have : i < (1 + x5).toNat := hi
        omega
      refine ⟨(by show 0 ≤ sizeLine; decide), fun e he => ?_⟩
      have s9 := same_upd (o := .lst []) he
      have ned := D8.nd he
      have heb : e ≠ b := (ne_of_none hc8 he).symm
      have heH : H e = none := by
        cases e' : H e with
        | none => rfl
        | some o => rw [K8 e o e' ned.1 ned.2] at he; cases he
      have K9 := K8.upd (o := .lst []) he
      have he9 : upd H8 e (.lst []) e = some (.lst []) := upd_same
      have D9 := D8.keep s9
      have hc9 := s9 _ _ hc8
      have hys9 := hys.keep s9.tups
      generalize upd H8 e (.lst []) = H9 at K9 he9 D9 hc9 hys9 ⊢
      refine ⟨_, rfl, _, rfl, by omega, by omega, ?_⟩
      refine for_range (n := (1 + x3).toNat) (fun j σ H' => ∃ (v9 v10 : Option V) (r : List (Option Int)), σ = [some (.ref d), some (.int most), some (.int holes), some (.int x1), some (.int many), some (.int (1 + x3)), some (.ref b), some (.int (0 + (i : Int))), some (.ref e), v9, v10] ∧ K2 d c H H' ∧ Dk H' d c (n + 4 + 50 * i + 4 * j) ∧ H' b = some (.lst ys) ∧ IsDs H' ys (G.map rowD) ∧ H' e = some (.lst (r.map cellV)) ∧ r.length = j ∧ ∀ c ∈ r, CellOk c ∧ (holes = 0 → c ≠ none)) ⟨v9, v10, [], rfl, K9, D9, hc9, hys9, he9, rfl, fun c hc => absurd hc (by simp)⟩ ?_ ?_
      · rintro j _ H10 hj ⟨v9, v10, r, rfl, K10, D10, hc10, hys10, he10, lr, hr'⟩
        have hj' : j < 12 := by
          have : j < (1 + x3).toNat := hj
          omega
        refine ⟨_, rfl, _, rfl, _, _, _, _, rfl, D10, by omega, fun y H11 y0 y1 D11 k11 => ?_⟩
        have he11 := k11 _ _ he10 ned.1 ned.2
        have hc11 := k11 _ _ hc10 nb.1 nb.2
        have t11 := k11.tups D10
        have K11 := K10.trans k11
        have done : ∀ (cl : Option Int) (H12 : Hp), CellOk cl → (holes = 0 → cl ≠ none) → Dk H12 d c (n + 4 + 50 * i + 4 * (j + 1)) → K2 d c H11 H12 → KeepT H11 H12 → ∃ (v9 v10 : Option V) (r' : List (Option Int)), [some (V.ref d), some (.int most), some (.int holes), some (.int x1), some (.int many), some (.int (1 + x3)), some (.ref b), some (.int (0 + (i : Int))), some (.ref e), some (.int (0 + (j : Int))), some (.int y)] = [some (.ref d), some (.int most), some (.int holes), some (.int x1), some (.int many), some (.int (1 + x3)), some (.ref b), some (.int (0 + (i : Int))), some (.ref e), v9, v10] ∧ K2 d c H (upd H12 e (.lst (r.map cellV ++ [cellV cl]))) ∧ Dk (upd H12 e (.lst (r.map cellV ++ [cellV cl]))) d c (n + 4 + 50 * i + 4 * (j + 1)) ∧ upd H12 e (.lst (r.map cellV ++ [cellV cl])) b = some (.lst ys) ∧ IsDs (upd H12 e (.lst (r.map cellV ++ [cellV cl]))) ys (G.map rowD) ∧ upd H12 e (.lst (r.map cellV ++ [cellV cl])) e = some (.lst (r'.map cellV)) ∧ r'.length = j + 1 ∧ ∀ c ∈ r', CellOk c ∧ (holes = 0 → c ≠ none) := by
          intro cl H12 ok nh D12 k12 t12
          have he12 := k12 _ _ he11 ned.1 ned.2
          have hc12 := k12 _ _ hc11 nb.1 nb.2
          refine ⟨_, _, r ++ [cl], rfl, fun b' o e' n1 n2 => ?_, ?_, ?_, ?_, ?_, by rw [List.length_append, lr]; rfl, ?_⟩
          · rw [upd_ne (ne_of_none e' heH)]
            exact (K11.trans k12) b' o e' n1 n2
          · obtain ⟨z1, ns, a, t, z2, z3, z4⟩ := D12
            exact ⟨z1, ns, a, t, by rw [upd_ne ned.1.symm]; exact z2, by rw [upd_ne ned.2.symm]; exact z3, z4⟩
          · rw [upd_ne heb.symm]; exact hc12
          · refine hys10.keep fun b' zs e' => ?_
            rw [upd_ne (ne_of e' he10 fun z => by cases z)]
            exact t12 _ _ (t11 _ _ e')
          · rw [upd_same, List.map_append]; rfl
          · intro c' hc'
            rcases List.mem_append.mp hc' with z | z
            · exact hr' c' z
            · have : c' = cl := by simpa using z
              subst this
              exact ⟨ok, nh⟩
        have oky : CellOk (some y) := fun i e => by
          have : y = i := Option.some.inj e
          omega
        have len12 : ∀ k, (r.map cellV).length + k < 1001 + k := fun k => by rw [List.length_map, lr]; omega
        refine ⟨_, rfl, Or.inl ⟨rfl, _, SqL.of he11⟩, ?_⟩
        refine ⟨_, rfl, _, _, rfl, rfl, _, rfl, ?_⟩
        refine ite2 (fun z => ?_) (fun z => ?_)
        · have hz : 0 < holes := of_decide_eq_true z
          refine ⟨_, rfl, _, _, _, _, rfl, D11, (by decide), (by decide), by omega, fun z H12 z0 z1 D12 k12 => ?_⟩
          refine ⟨_, rfl, _, _, rfl, rfl, _, rfl, ?_⟩
          refine ite2 (fun z => ?_) (fun z => ?_)
          · refine ⟨_, _, _, rfl, rfl, k12 _ _ he11 ned.1 ned.2, Nat.lt_of_lt_of_le (len12 0) (by decide), ?_⟩
            exact done none H12 (fun i e => by cases e) (fun h0 => by omega) (D12.mono (by omega)) k12 (k12.tups D11)
          · refine ⟨_, rfl, _, _, _, rfl, rfl, k12 _ _ he11 ned.1 ned.2, Nat.lt_of_lt_of_le (len12 0) (by decide), ?_⟩
            exact done (some y) H12 oky (fun _ e => by cases e) (D12.mono (by omega)) k12 (k12.tups D11)
        · refine iteF ?_
          refine ⟨_, rfl, _, _, _, rfl, rfl, he11, Nat.lt_of_lt_of_le (len12 0) (by decide), ?_⟩
          exact done (some y) H11 oky (fun _ e => by cases e) (D11.mono (by omega)) (K2.refl _ _ _) (fun _ _ e => e)
      · rintro _ H10 ⟨v9, v10, r, rfl, K10, D10, hc10, hys10, he10, lr, hr'⟩
        refine ⟨_, rfl, Or.inl ⟨rfl, _, SqL.of hc10⟩, _, rfl, _, _, rfl, Or.inl ⟨SqL.of he10, fun t ht => ?_⟩⟩
        have st := same_upd (o := .tup (r.map cellV)) ht
        have hct := st _ _ hc10
        have htb : t ≠ b := (ne_of_none hc10 ht).symm
        have D11 := D10.keep st
        refine ⟨_, _, _, rfl, rfl, hct, (by rw [ly]; exact Nat.lt_of_lt_of_le (show i < 1001 by omega) (by decide)), ?_⟩
        refine ⟨_, _, _, _, ys ++ [.ref t], G ++ [r], rfl, fun b' o e' n1 n2 => ?_, ?_, upd_same, ?_, by rw [List.length_append, lG]; rfl, ?_⟩
        · rw [upd_ne (ne_of_none e' hbH)]
          exact st _ _ (K10 b' o e' n1 n2)
        · obtain ⟨z1, ns, a, t', z2, z3, z4, z5, z6, z7⟩ := D11
          exact ⟨z1, ns, a, t', by rw [upd_ne nb.1.symm]; exact z2, by rw [upd_ne nb.2.symm]; exact z3, z4, z5, z6, by omega⟩
        · have kt : ∀ b' zs, H10 b' = some (.tup zs) → upd (upd H10 t (.tup (r.map cellV))) b (.lst (ys ++ [.ref t])) b' = some (.tup zs) := fun b' zs e' => by
            rw [upd_ne (ne_of e' hc10 fun z => by cases z)]
            exact st _ _ e'
          rw [List.map_append]
          exact (hys10.keep kt).append (.cons (.tup (by rw [upd_ne htb]; exact upd_same) (isCells _)) .nil)
        · intro r' hr2
          rcases List.mem_append.mp hr2 with z | z
          · exact hG r' z
          · have : r' = r := by simpa using z
            subst this
            exact ⟨by omega, hr'⟩
    · rintro _ H8 ⟨v7, v8, v9, v10, ys, G, rfl, K8, D8, hc8, hys, lG, hG⟩
      refine ⟨_, rfl, _, _, rfl, Or.inl ⟨SqL.of hc8, fun t ht => ?_⟩⟩
      have st := same_upd (o := .tup ys) ht
      refine q (.ref t) G (1 + x5).toNat (1 + x3).toNat _ (.tup upd_same (hys.keep st.tups)) ⟨lG, by omega, by omega, by omega, by omega, fun r hr => (hG r hr).1, fun r hr c hc => ((hG r hr).2 c hc).1⟩ (by omega) (by omega) (fun h0 r hr c hc => ((hG r hr).2 c hc).2 h0) ((D8.keep st).mono (by omega)) (K8.trans (st.k2 d c))
def wTo (F : List (List (Option Int))) (ru : Rule) (C : List (List Int)) (u l r : Nat) (i j : Int) (k : Nat) : List Int := (List.range k).flatMap fun p => wRow F ru C l (i - u + (p : Nat)) j p (l + r + 1)
def spCountsAt : Sp := fun vs H Q _ => ∃ (fv wv cv rv : V) (F : List (List (Option Int))) (ru : Rule) (C : List (List Int)) (u d l r : Nat) (i j : Int), vs = [fv, wv, cv, rv, .int i, .int j] ∧ Rect F ∧ CntOk C (u + d + 1) (l + r + 1) ∧ IsD H fv (fieldD F) ∧ IsD H wv (winD u d l r) ∧ IsD H cv (cntsD C) ∧ IsD H rv (ruleD ru) ∧
  (-(2 ^ 50) < i ∧ i < 2 ^ 50) ∧ (-(2 ^ 50) < j ∧ j < 2 ^ 50) ∧ (u ≤ 7 ∧ d ≤ 7 ∧ l ≤ 7 ∧ r ≤ 7) ∧
  ∀ (x : Addr) (H' : Hp), H x = none → Same H H' → H' x = some (.dK (cntKV (wNums F ru C u d l r i j))) → Q (.ref x) H'
theorem up_at {lo : Int} {n k : Nat} {x : V} (h : (upInts lo n)[k]? = some x) : x = .int (lo + (k : Nat)) ∧ k < n := by
  unfold upInts at h
  rw [List.getElem?_map] at h
  cases e : (List.range n)[k]? with
  | none => rw [e] at h; cases h
  | some m =>
    rw [e] at h
    have hk : k < n := by have := (List.getElem?_eq_some_iff.mp e).1; rwa [List.length_range] at this
    rw [List.getElem?_range hk] at e
    cases e
    exact ⟨(Option.some.inj h).symm, hk⟩
theorem up_len (lo : Int) (n : Nat) : (upInts lo n).length = n := by unfold upInts; rw [List.length_map, List.length_range]
theorem df_counts_at (T : Txt K mg) : Df P w K mg base 3 "counts_at" ["field", "window", "counts", "rule", "i", "j"] spCountsAt := by
  refine T.d_counts_at.ok sc_counts_at (fun vs H Q E h => ?_) (fun f cdv A outer s H vs Q E hr h => ?_)
  · obtain ⟨fv, wv, cv, rv, F, ru, C, u, d, l, r, i, j, rfl, _⟩ := h
    rfl
  · obtain ⟨fv, wv, cv, rv, F, ru, C, u, dn, l, r, i, j, rfl, R, ok, hf, hw, hc, hru, bi, bj, ⟨bu, bd, bl, br⟩, q⟩ := h
    refine ⟨_, (@pss_cons _ _ _ _ _ (@ps_set _ _ 6 _ _ _ _ sc_counts_at.nd rfl (by first | exact Or.inl rfl | exact Or.inr rfl) pe_dnewK (by rfl) (by first | exact .inl rfl | exact .inr rfl))
      (@pss_cons _ _ _ _ _ (@ps_set _ _ 7 _ _ _ _ sc_counts_at.nd rfl (by first | exact Or.inl rfl | exact Or.inr rfl) (@pe_df _ _ _ _ _ _ _ _ _ _ (df_places_around T) (hr.mono (by decide)) (@pa_cons _ _ _ _ _ (pv 5) (@pa_cons _ _ _ _ _ (@pe_ix _ _ _ _ _ _ _ (ix_seqK (K := K) rfl) (pv 1) pe_int (fun _ _ => rfl)) (@pa_cons _ _ _ _ _ (@pe_ix _ _ _ _ _ _ _ (ix_seqK (K := K) rfl) (pv 1) pe_int (fun _ _ => rfl)) pa_nil star_sub) star_sub) (by rfl)) (by rfl) (by decide) (by rfl) (by rfl)) (by rfl) (by first | exact .inl rfl | exact .inr rfl))
      (@pss_cons _ _ _ _ _ (@ps_for _ _ _ _ _ _ _ _ PassesOwn.never rfl (pi_zipL (by rfl) T.n_zip (@pa_cons _ _ _ _ _ (@pe_df _ _ _ _ _ _ _ _ _ _ (df_places_around T) (hr.mono (by decide)) (@pa_cons _ _ _ _ _ (pv 4) (@pa_cons _ _ _ _ _ (@pe_ix _ _ _ _ _ _ _ (ix_seqK (K := K) rfl) (pv 1) pe_int (fun _ _ => rfl)) (@pa_cons _ _ _ _ _ (@pe_ix _ _ _ _ _ _ _ (ix_seqK (K := K) rfl) (pv 1) pe_int (fun _ _ => rfl)) pa_nil star_sub) star_sub) (by rfl)) (by rfl) (by decide) (by rfl) (by rfl)) (@pa_cons _ _ _ _ _ (pv 2) pa_nil (by rfl)) star_call)) (pg_tupK (K := K) rfl rfl (pgs_cons (pg_name (i := 8) sc_counts_at.nd rfl (by first | exact Or.inl rfl | exact Or.inr rfl)) (pgs_cons (pg_name (i := 9) sc_counts_at.nd rfl (by first | exact Or.inl rfl | exact Or.inr rfl)) pgs_nil))) (@pss_one _ _ _ (@ps_for _ _ _ _ _ _ _ _ PassesOwn.never rfl (pi_zipL (by rfl) T.n_zip (@pa_cons _ _ _ _ _ (pv 7) (@pa_cons _ _ _ _ _ (pv 9) pa_nil (by rfl)) (by rfl))) (pg_tupK (K := K) rfl rfl (pgs_cons (pg_name (i := 10) sc_counts_at.nd rfl (by first | exact Or.inl rfl | exact Or.inr rfl)) (pgs_cons (pg_name (i := 11) sc_counts_at.nd rfl (by first | exact Or.inl rfl | exact Or.inr rfl)) pgs_nil))) (@pss_one _ _ _ (@ps_for _ _ _ _ _ _ _ _ PassesOwn.never rfl (pi_seqK (K := K) rfl (@pe_df _ _ _ _ _ _ _ _ _ _ (df_without_holes T) (hr.mono (by decide)) (@pa_cons _ _ _ _ _ (@pe_df _ _ _ _ _ _ _ _ _ _ (df_stands_at T) (hr.mono (by decide)) (@pa_cons _ _ _ _ _ (pv 0) (@pa_cons _ _ _ _ _ (pv 3) (@pa_cons _ _ _ _ _ (pv 8) (@pa_cons _ _ _ _ _ (pv 10) pa_nil (by rfl)) (by rfl)) (by rfl)) (by rfl)) (by rfl) (by decide) (by rfl) (by rfl)) pa_nil star_call) (by rfl) (by decide) (by rfl) (by rfl))) (pg_name (i := 12) sc_counts_at.nd rfl (by first | exact Or.inl rfl | exact Or.inr rfl)) (@pss_one _ _ _ (@ps_if _ _ _ _ _ _ _ _ (@pt_cmpR _ _ _ _ _ _ _ _ op_gt (pv 11) pe_int (nomark _)) (@pss_one _ _ _ (ps_dput (hu_of hr) (pv 6) (pv 12) (@pe_op _ _ _ _ _ _ _ _ op_add (pe_dget2 (hu_of hr) (pv 6) (pv 12) pe_int ⟨by rfl, by rfl, by rfl, by rfl⟩) (pv 11)) rfl)) pss_nil)) (by intro _; rfl))) (by intro _; rfl))) (by intro _; rfl))
      (@pss_one _ _ _ (@ps_ret _ _ _ _ (pv 6)))))), ?_⟩
    intro d hd
    have s1 := same_upd (o := .dK []) hd
    have hd1 : upd H d (.dK []) d = some (.dK []) := upd_same
    generalize upd H d (.dK []) = H1 at s1 hd1 ⊢
    obtain ⟨wa, rfl, hwa⟩ := isWin_inv hw
    refine ⟨_, rfl, _, rfl, Or.inr (Or.inl ⟨_, _, _, _, rfl, rfl, SqT.of (s1 _ _ hwa), rfl, ?_⟩)⟩
    refine ⟨_, rfl, Or.inr (Or.inl ⟨_, _, _, _, rfl, rfl, SqT.of (s1 _ _ hwa), rfl, ?_⟩)⟩
    refine ⟨j, l, r, rfl, ⟨by omega, by omega⟩, by omega, by omega, fun cl H2 fcl s2 hcl => ?_⟩
    have S2 := s1.trans s2
    refine ⟨_, rfl, _, rfl, Or.inr (Or.inl ⟨_, _, _, _, rfl, rfl, SqT.of (S2 _ _ hwa), rfl, ?_⟩)⟩
    refine ⟨_, rfl, Or.inr (Or.inl ⟨_, _, _, _, rfl, rfl, SqT.of (S2 _ _ hwa), rfl, ?_⟩)⟩
    refine ⟨i, u, dn, rfl, ⟨by omega, by omega⟩, by omega, by omega, fun rl H3 frl s3 hrl => ?_⟩
    have S3 := S2.trans s3
    obtain ⟨ca, cs, rfl, hca, hcs⟩ := isField_inv (hc.keep S3.tups)
    have lcs : cs.length = u + dn + 1 := by rw [hcs.length, List.length_map, List.length_map, ok.len]
    have hd3 := s3 _ _ (s2 _ _ hd1)
    have hcl3 := s3 _ _ hcl
    have ncd : cl ≠ d := ne_of hcl3 hd3 fun z => by cases z
    have nrd : rl ≠ d := ne_of hrl hd3 fun z => by cases z
    have old : ∀ {H' : Hp}, KeepBut d H3 H' → Same H H' := fun k b o e => k b o (S3 b o e) (ne_of_none e hd)
    refine ⟨_, rfl, _, _, _, _, rfl, hrl, hca, ?_⟩
    refine for_zipL (xs := upInts (i - u) (u + dn + 1)) (ys := cs) (by rw [up_len, lcs]) (fun p σ H' => ∃ (v8 v9 v10 v11 v12 : Option V), σ = [some fv, some (.ref wa), some (.ref ca), some rv, some (.int i), some (.int j), some (.ref d), some (.ref cl), v8, v9, v10, v11, v12] ∧ KeepBut d H3 H' ∧ H' d = some (.dK (cntKV (wTo F ru C u l r i j p)))) ⟨none, none, none, none, none, rfl, KeepBut.refl _ _, hd3⟩ (fun p σ H' _ ⟨_, _, _, _, _, _, k, _⟩ => ⟨k _ _ hrl nrd, k _ _ hca (ne_of hca hd3 fun z => by cases z)⟩) ?_ ?_
    · rintro p x y _ H4 t hx hy ⟨v8, v9, v10, v11, v12, rfl, k4, hd4⟩ ht
      obtain ⟨rfl, hp⟩ := up_at hx
      have hpC : p < (C.map fun r => r.map some).length := by rw [List.length_map, ok.len]; exact hp
      obtain ⟨ra, era, hra⟩ := isRows_get hcs hpC
      obtain rfl : y = .ref ra := by rw [hy] at era; exact Option.some.inj era
      have hpC' : p < C.length := by rw [ok.len]; exact hp
      have eC : (C.map fun r => r.map some)[p] = C[p].map some := by simp
      rw [eC, ← cells_of] at hra
      have lC : C[p].length = l + r + 1 := ok.row _ (List.getElem_mem hpC')
      have st := same_upd (o := .tup [.int (i - u + (p : Nat)), .ref ra]) ht
      have k5 : KeepBut d H3 (upd H4 t (.tup [.int (i - u + (p : Nat)), .ref ra])) := k4.upd ht
      have hd5 := st _ _ hd4
      have et : upd H4 t (.tup [.int (i - u + (p : Nat)), .ref ra]) t = some (.tup [.int (i - u + (p : Nat)), .ref ra]) := upd_same
      generalize upd H4 t (.tup [.int (i - u + (p : Nat)), .ref ra]) = H5 at k5 hd5 et ⊢
      refine ⟨_, _, rfl, SqT.of et, rfl, _, _, rfl, _, _, rfl, rfl, ?_⟩
      have kt5 : KeepT H3 H5 := fun b xs e => k5 _ _ e (ne_of e hd3 fun z => by cases z)
      have hra5 := kt5 _ _ hra
      refine ⟨_, rfl, _, rfl, _, _, _, _, rfl, k5 _ _ hcl3 ncd, hra5, ?_⟩
      refine for_zipL (xs := upInts (j - l) (l + r + 1)) (ys := C[p].map V.int) (by rw [up_len, List.length_map, lC]) (fun m σ H' => ∃ (v10 v11 v12 : Option V), σ = [some fv, some (.ref wa), some (.ref ca), some rv, some (.int i), some (.int j), some (.ref d), some (.ref cl), some (.int (i - u + (p : Nat))), some (.ref ra), v10, v11, v12] ∧ KeepBut d H5 H' ∧ H' d = some (.dK (cntKV (wTo F ru C u l r i j p ++ wRow F ru C l (i - u + (p : Nat)) j p m)))) ⟨v10, v11, v12, rfl, KeepBut.refl _ _, by rw [hd5]; simp [wRow]⟩ (fun m σ H' _ ⟨_, _, _, _, k, _⟩ => ⟨k _ _ (k5 _ _ hcl3 ncd) ncd, k _ _ hra5 (ne_of hra5 hd5 fun z => by cases z)⟩) ?_ ?_
      · rintro m x y _ H6 t6 hx hy ⟨v10, v11, v12, rfl, k6, hd6⟩ ht6
        obtain ⟨rfl, hm⟩ := up_at hx
        obtain ⟨c, ec, rfl⟩ := int_at hy
        have hcc : cAt C p m = c := by unfold cAt; rw [List.getElem?_eq_getElem hpC']; simp [ec]
        have cb := ok.at_ p m
        rw [hcc] at cb
        have st6 := same_upd (o := .tup [.int (j - l + (m : Nat)), .int c]) ht6
        have k7 : KeepBut d H5 (upd H6 t6 (.tup [.int (j - l + (m : Nat)), .int c])) := k6.upd ht6
        have hd7 := st6 _ _ hd6
        have et7 : upd H6 t6 (.tup [.int (j - l + (m : Nat)), .int c]) t6 = some (.tup [.int (j - l + (m : Nat)), .int c]) := upd_same
        generalize upd H6 t6 (.tup [.int (j - l + (m : Nat)), .int c]) = H7 at k7 hd7 et7 ⊢
        refine ⟨_, _, rfl, SqT.of et7, rfl, _, _, rfl, _, _, rfl, rfl, ?_⟩
        have S7 : Same H H7 := old (k5.trans k7)
        refine Or.inr ?_
        refine ⟨_, rfl, _, rfl, _, rfl, _, rfl, _, _, F, ru, _, _, rfl, R, hf.keep S7.tups, hru.keep S7.tups, fun ps hps => ?_⟩
        have s8 := same_upd (o := .tup ((stands F ru (i - u + (p : Nat)) (j - l + (m : Nat))).map cellV)) hps
        have sl := stands_len F ru (i - u + (p : Nat)) (j - l + (m : Nat))
        refine ⟨ps, stands F ru (i - u + (p : Nat)) (j - l + (m : Nat)), rfl, .inl upd_same, by omega, fun t9 H9 s9 ht9 => ?_⟩
        have S79 := s8.trans s9
        have hd9 := S79 _ _ hd7
        have ntd : t9 ≠ d := ne_of ht9 hd9 fun z => by cases z
        generalize hL : wTo F ru C u l r i j p ++ wRow F ru C l (i - u + (p : Nat)) j p m = L at hd9
        have lL : L.length ≤ 7 * 2 * 6000 + 6000 := by
          rw [← hL, List.length_append]
          have a1 := wNums_len (F := F) (ru := ru) ok u l r i j p
          have a2 := wRow_len (F := F) (ru := ru) ok l (i - u + (p : Nat)) j p m
          have a3 : p * ((l + r + 1) * 400) ≤ 14 * 6000 := Nat.mul_le_mul (by omega) (by omega)
          have a4 : m * 400 ≤ 6000 := by omega
          have a5 : (wTo F ru C u l r i j p).length ≤ p * ((l + r + 1) * 400) := a1
          omega
        have wl := wOne_len F ru c (i - u + (p : Nat)) (j - l + (m : Nat))
        have eW : wRow F ru C l (i - u + (p : Nat)) j p (m + 1) = wRow F ru C l (i - u + (p : Nat)) j p m ++ wOne F ru c (i - u + (p : Nat)) (j - l + (m : Nat)) := by
          unfold wRow
          rw [flatMap_succ, hcc]
        unfold wOne at wl eW
        generalize (stands F ru (i - u + (p : Nat)) (j - l + (m : Nat))).filterMap id = ns at ht9 wl eW
        refine ⟨t9, rfl, ⟨_, SqT.of ht9⟩, ?_⟩
        refine for_tup (xs := ns.map V.int) (fun k σ H' => ∃ v12 : Option V, σ = [some fv, some (.ref wa), some (.ref ca), some rv, some (.int i), some (.int j), some (.ref d), some (.ref cl), some (.int (i - u + (p : Nat))), some (.ref ra), some (.int (j - l + (m : Nat))), some (.int c), v12] ∧ KeepBut d H9 H' ∧ H' d = some (.dK (cntKV (L ++ (ns.take k).flatMap fun x => List.replicate c.toNat x)))) ⟨v12, rfl, KeepBut.refl _ _, by rw [hd9]; simp⟩ (fun k σ H' _ ⟨_, _, kb, _⟩ => SqT.of (kb _ _ ht9 ntd)) ?_ ?_
        · rintro k x _ H10 hx ⟨v12, rfl, k10, hd10⟩
          obtain ⟨n, en, rfl⟩ := int_at hx
          have e1 : (ns.take (k + 1)).flatMap (fun x => List.replicate c.toNat x) = (ns.take k).flatMap (fun x => List.replicate c.toNat x) ++ List.replicate c.toNat n := by
            rw [List.take_add_one, en, List.flatMap_append]
            simp
          rw [e1, ← List.append_assoc]
          generalize hM : L ++ (ns.take k).flatMap (fun x => List.replicate c.toNat x) = M at hd10
          have lM : M.length ≤ 100000 := by
            rw [← hM, List.length_append]
            have : ((ns.take k).flatMap fun x => List.replicate c.toNat x).length ≤ (ns.flatMap fun x => List.replicate c.toNat x).length := by
              have : ns = ns.take k ++ ns.drop k := (List.take_append_drop k ns).symm
              rw [this, List.flatMap_append, List.length_append, ← this]
              exact Nat.le_add_right _ _
            omega
          refine ⟨_, rfl, _, _, rfl, rfl, _, rfl, ?_⟩
          refine ite2 (fun z => ?_) (fun z => ?_)
          · have hc0 : 0 < c := of_decide_eq_true z
            refine ⟨_, rfl, d, rfl, .inl ⟨_, .inl hd10⟩, _, rfl, _, DGet.k (k := Sum.inl n) hd10, ?_⟩
            rw [cnt_get]
            refine ⟨_, rfl, _, _, rfl, rfl, _, rfl, _, rfl, d, _, rfl, DPut.k (k := Sum.inl n) hd10 ?_, ?_⟩
            · exact Nat.lt_of_le_of_lt (Nat.le_trans (cnt_len M) lM) (by decide)
            · refine ⟨_, rfl, fun b o e nb => by rw [upd_ne nb]; exact k10 b o e nb, ?_⟩
              obtain ⟨c', rfl⟩ : ∃ c' : Nat, c = ((c' + 1 : Nat) : Int) := ⟨c.toNat - 1, by omega⟩
              rw [upd_same, Int.toNat_natCast, ← cnt_putN]
          · have hc0 : ¬ 0 < c := of_decide_eq_false (Bool.eq_false_iff.mpr z)
            have e0 : c.toNat = 0 := by omega
            refine ⟨_, rfl, k10, ?_⟩
            rw [hd10, e0]
            simp
        · rintro _ H10 ⟨v12, rfl, k10, hd10⟩
          rw [List.length_map, List.take_length] at hd10
          refine ⟨_, _, _, rfl, fun b o e nb => k10 b o (S79 _ _ (k7 b o e nb)) nb, ?_⟩
          rw [hd10, ← hL, eW, List.append_assoc]
      · rintro _ H6 ⟨v10, v11, v12, rfl, k6, hd6⟩
        rw [up_len] at hd6
        refine ⟨_, _, _, _, _, rfl, k5.trans k6, ?_⟩
        rw [hd6]
        unfold wTo
        rw [flatMap_succ]
    · rintro _ H4 ⟨v8, v9, v10, v11, v12, rfl, k4, hd4⟩
      rw [up_len] at hd4
      exact ⟨_, rfl, q d H4 hd (old k4) hd4⟩
def spToldC (K : PySem.W.Frag) : Sp := fun vs H Q _ => ∃ (d : Addr) (sv : V) (L : List Int) (a b : Int), vs = [.ref d, sv] ∧ H d = some (.dK (cntKV L)) ∧ Shr K H sv a b ∧ Share a b ∧ ∀ H', Same H H' → Q (cellV (manieth L a b)) H'
theorem df_told_of_counts (T : Txt K mg) : Df P w K mg base 2 "told_of_counts" ["often", "share"] (spToldC K) := by
  refine T.d_told_of_counts.ok sc_told_of_counts (fun vs H Q E h => ?_) (fun f cdv A outer s H vs Q E hr h => ?_)
  · obtain ⟨d, sv, L, a, b, rfl, _⟩ := h
    rfl
  · obtain ⟨d, sv, L, a, b, rfl, hd, hs, hS, q⟩ := h
    refine ⟨_, (@pss_cons _ _ _ _ _ (@ps_set _ _ 2 _ _ _ _ sc_told_of_counts.nd rfl (by first | exact Or.inl rfl | exact Or.inr rfl) (@pe_df _ _ _ _ _ _ _ _ _ _ (df_place_by_share T) (hr.mono (by decide)) (@pa_cons _ _ _ _ _ (pe_sumV rfl (by rfl) T.n_sum (pv 0)) (@pa_cons _ _ _ _ _ (pv 1) pa_nil (by rfl)) star_call) (by rfl) (by decide) (by rfl) (by rfl)) (by rfl) (by first | exact .inl rfl | exact .inr rfl))
      (@pss_cons _ _ _ _ _ (@ps_for _ _ _ _ _ _ _ _ PassesOwn.never rfl (pi_seqK (K := K) rfl (@pe_callB _ _ _ _ _ _ _ _ _ (call_sorted_dict rfl) (by rfl) T.n_sorted bt_sorted (@pa_cons _ _ _ _ _ (pv 0) pa_nil (by rfl)) (by decide) (by decide) (by rfl) (by rfl))) (pg_name (i := 3) sc_told_of_counts.nd rfl (by first | exact Or.inl rfl | exact Or.inr rfl)) (@pss_cons _ _ _ _ _ (@ps_if _ _ _ _ _ _ _ _ (@pt_cmpR _ _ _ _ _ _ _ _ op_lt (pv 2) (pe_dget (hu_of hr) (pv 0) (pv 3) (fun _ _ => rfl)) (nomark _)) (@pss_one _ _ _ (@ps_ret _ _ _ _ (pv 3))) pss_nil)
      (@pss_one _ _ _ (ps_aug (i := 2) sc_told_of_counts.nd rfl (by first | exact Or.inl rfl | exact Or.inr rfl) (pe_dget (hu_of hr) (pv 0) (pv 3) (fun _ _ => rfl)) ip_sub))) (by intro _; rfl))
      (@pss_one _ _ _ (@ps_ret _ _ _ _ pe_non)))), ?_⟩
    have es : ((MwSet.allK L).map fun k => (L.count k : Int)).sum = L.length := tally_many (MwSet.allK_nodup L) (fun x hx => MwSet.mem_allK.mpr hx)
    refine ⟨_, rfl, d, cntKV L, (MwSet.allK L).map fun k => (L.count k : Int), rfl, hd, by unfold cntKV; rw [List.map_map, List.map_map]; rfl, ?_⟩
    rw [es]
    refine ⟨_, rfl, L.length, _, a, b, rfl, hs, hS, ?_⟩
    refine Or.inl ⟨_, rfl, d, cntKV L, MwSet.allK L, rfl, hd, cnt_keys L, fun l hl => ?_⟩
    have s1 := same_upd (o := .lst ((kindsOf L).map V.int)) hl
    have hd1 := s1 _ _ hd
    have hl1 : upd H l (.lst ((kindsOf L).map V.int)) l = some (.lst ((kindsOf L).map V.int)) := upd_same
    refine ⟨_, rfl, ⟨_, SqL.of hl1⟩, ?_⟩
    show ∃ W : Nat → Nat → St → Hp → Prop, (∃ m, W 0 m _ (upd H l (.lst ((kindsOf L).map V.int)))) ∧ _
    generalize upd H l (.lst ((kindsOf L).map V.int)) = H1 at s1 hd1 hl1 ⊢
    refine for_list (xs := (kindsOf L).map V.int) (fun i σ H' => (∃ v3 : Option V, σ = [some (.ref d), some sv, some (.int (placeOf L.length a b - (passedTo L i : Int))), v3] ∧ H' = H1) ∧ ∀ j, j < i → ¬ (placeOf L.length a b < (passedTo L (j + 1) : Int))) ⟨⟨none, by rw [passed_zero, show placeOf L.length a b - ((0 : Nat) : Int) = placeOf L.length a b by omega]; rfl, rfl⟩, fun j hj => by omega⟩ (fun i σ H' _ ⟨⟨_, _, e⟩, _⟩ => e ▸ SqL.of hl1) ?_ ?_
    · rintro i x _ H1 hx ⟨⟨v3, rfl, rfl⟩, hb⟩
      obtain ⟨n, en, rfl⟩ := int_at hx
      obtain ⟨hi, en'⟩ := List.getElem?_eq_some_iff.mp en
      have hm : n ∈ L := kinds_mem.mp (List.mem_of_getElem? en)
      have g : DGet H1 d (.int n) (some (.int (L.count n))) := by
        have := DGet.k (k := Sum.inl n) hd1
        rw [cnt_val, if_pos hm] at this
        exact this
      have e : (passedTo L i : Int) + (L.count n : Int) = (passedTo L (i + 1) : Int) := by rw [passed_succ L hi, en']; omega
      refine ⟨_, rfl, _, rfl, _, rfl, d, _, rfl, g, _, _, rfl, rfl, _, rfl, ?_⟩
      refine ite2 (fun z => ?_) (fun z => ?_)
      · have z' : placeOf L.length a b - (passedTo L i : Int) < (L.count n : Int) := of_decide_eq_true z
        have := told_here hS hi (fun j hj => hb j hj) (by omega)
        rw [en'] at this
        have q2 := q _ s1
        rw [this] at q2
        exact ⟨_, rfl, q2⟩
      · have z' : ¬ placeOf L.length a b - (passedTo L i : Int) < (L.count n : Int) := of_decide_eq_false (Bool.eq_false_iff.mpr z)
        refine ⟨_, rfl, _, rfl, _, rfl, d, _, rfl, g, _, _, rfl, rfl, ⟨some (.int n), ?_, rfl⟩, fun j hj => ?_⟩
        · have e2 : placeOf L.length a b - (passedTo L i : Int) - (L.count n : Int) = placeOf L.length a b - (passedTo L (i + 1) : Int) := by omega
          rw [← e2]
          rfl
        · rcases Nat.lt_or_ge j i with z2 | z2
          · exact hb j z2
          · have : j = i := by omega
            subst this
            omega
    · rintro _ H1 ⟨⟨v3, rfl, rfl⟩, hb⟩
      rw [List.length_map] at hb
      by_cases e : L = []
      · have q2 := q _ s1
        rw [e, manieth_nil] at q2
        exact q2
      · exfalso
        have hl1 : 1 ≤ L.length := by
          cases L with
          | nil => exact absurd rfl e
          | cons x l => simp
        have hk : 1 ≤ (kindsOf L).length := by
          cases hks : kindsOf L with
          | nil =>
            obtain ⟨x, hx⟩ := List.exists_mem_of_ne_nil L e
            have := kinds_mem.mpr hx
            rw [hks] at this; cases this
          | cons x l => simp
        have := hb ((kindsOf L).length - 1) (by omega)
        rw [show (kindsOf L).length - 1 + 1 = (kindsOf L).length by omega, passed_all] at this
        have := (place_bounds hS hl1).2
        omega
theorem wFil_len (F : List (List (Option Int))) (ru : Rule) (C : List (List Int)) (u d l r : Nat) (a b : Int) : (wFil F ru C u d l r a b).length = F.length := by unfold wFil; simp
theorem wFil_row {F : List (List (Option Int))} {ru : Rule} {C : List (List Int)} {u d l r : Nat} {a b : Int} {i : Nat} (hi : i < F.length) : (wFil F ru C u d l r a b)[i]? = some ((List.range (wideF F)).map fun j : Nat => manieth (wNums F ru C u d l r (i : Int) (j : Int)) a b) := by
  unfold wFil
  rw [List.getElem?_map, List.getElem?_range hi]; rfl
def spWeighted (K : PySem.W.Frag) : Sp := fun vs H Q _ => ∃ (fv wv cv rv sv : V) (F : List (List (Option Int))) (ru : Rule) (C : List (List Int)) (u d l r : Nat) (a b : Int), vs = [fv, wv, cv, rv, sv] ∧ Rect F ∧ CntOk C (u + d + 1) (l + r + 1) ∧ IsD H fv (fieldD F) ∧ IsD H wv (winD u d l r) ∧ IsD H cv (cntsD C) ∧ IsD H rv (ruleD ru) ∧ Shr K H sv a b ∧ Share a b ∧ (u ≤ 7 ∧ d ≤ 7 ∧ l ≤ 7 ∧ r ≤ 7) ∧
  ∀ (v : V) (H' : Hp), Same H H' → IsD H' v (fieldD (wFil F ru C u d l r a b)) → Q v H'
theorem df_weighted (T : Txt K mg) : Df P w K mg base 4 "weighted" ["field", "window", "counts", "rule", "share"] (spWeighted K) := by
  refine T.d_weighted.ok sc_weighted (fun vs H Q E h => ?_) (fun f cdv A outer s H vs Q E hr h => ?_)
  · obtain ⟨fv, wv, cv, rv, sv, F, ru, C, u, d, l, r, a, b, rfl, _⟩ := h
    rfl
  · obtain ⟨fv, wv, cv, rv, sv, F, ru, C, u, d, l, r, a, b, rfl, R, ok, hf, hw, hcv, hru, hs, hS, bb, q⟩ := h
    obtain ⟨fa, xs, rfl, hfa, hxs⟩ := isField_inv hf
    have lxs : xs.length = F.length := by rw [hxs.length, List.length_map]
    have hW := R.ws
    have hH := R.hs
    refine ⟨_, (@pss_cons _ _ _ _ _ (@ps_set _ _ 5 _ _ _ _ sc_weighted.nd rfl (by first | exact Or.inl rfl | exact Or.inr rfl) (@pe_lst _ _ _ _ pa_nil) (by rfl) (by first | exact .inl rfl | exact .inr rfl))
      (@pss_cons _ _ _ _ _ (@ps_for _ _ _ _ _ _ _ _ PassesOwn.never rfl (pi_range1 (by rfl) T.n_range (@pa_cons _ _ _ _ _ (@pe_callB _ _ _ _ _ _ _ _ _ (call_lenK (K := K) rfl) (by rfl) T.n_len bt_len (@pa_cons _ _ _ _ _ (pv 0) pa_nil (by rfl)) (by decide) (by decide) (by rfl) (by rfl)) pa_nil star_call)) (pg_name (i := 6) sc_weighted.nd rfl (by first | exact Or.inl rfl | exact Or.inr rfl)) (@pss_cons _ _ _ _ _ (@ps_set _ _ 7 _ _ _ _ sc_weighted.nd rfl (by first | exact Or.inl rfl | exact Or.inr rfl) (@pe_lst _ _ _ _ pa_nil) (by rfl) (by first | exact .inl rfl | exact .inr rfl))
      (@pss_cons _ _ _ _ _ (@ps_for _ _ _ _ _ _ _ _ PassesOwn.never rfl (pi_range1 (by rfl) T.n_range (@pa_cons _ _ _ _ _ (@pe_callB _ _ _ _ _ _ _ _ _ (call_lenK (K := K) rfl) (by rfl) T.n_len bt_len (@pa_cons _ _ _ _ _ (@pe_ix _ _ _ _ _ _ _ (ix_seqK (K := K) rfl) (pv 0) (pv 6) (fun _ _ => rfl)) pa_nil star_sub) (by decide) (by decide) (by rfl) (by rfl)) pa_nil star_call)) (pg_name (i := 8) sc_weighted.nd rfl (by first | exact Or.inl rfl | exact Or.inr rfl)) (@pss_one _ _ _ (@ps_expr _ _ _ _ (pe_bm PySem.F.plainAttrs_list PySem.F.slot_list_append PySem.F.type_list_append mt_append (pv 7) (@pa_cons _ _ _ _ _ (@pe_df _ _ _ _ _ _ _ _ _ _ (df_told_of_counts T) (hr.mono (by decide)) (@pa_cons _ _ _ _ _ (@pe_df _ _ _ _ _ _ _ _ _ _ (df_counts_at T) (hr.mono (by decide)) (@pa_cons _ _ _ _ _ (pv 0) (@pa_cons _ _ _ _ _ (pv 1) (@pa_cons _ _ _ _ _ (pv 2) (@pa_cons _ _ _ _ _ (pv 3) (@pa_cons _ _ _ _ _ (pv 6) (@pa_cons _ _ _ _ _ (pv 8) pa_nil (by rfl)) (by rfl)) (by rfl)) (by rfl)) (by rfl)) (by rfl)) (by rfl) (by decide) (by rfl) (by rfl)) (@pa_cons _ _ _ _ _ (pv 4) pa_nil (by rfl)) star_call) (by rfl) (by decide) (by rfl) (by rfl)) pa_nil star_call)) (by rfl))) (by intro _; rfl))
      (@pss_one _ _ _ (@ps_expr _ _ _ _ (pe_bm PySem.F.plainAttrs_list PySem.F.slot_list_append PySem.F.type_list_append mt_append (pv 5) (@pa_cons _ _ _ _ _ (@pe_callTy _ _ _ _ _ _ _ _ _ (call_tupleK (K := K) rfl) (by rfl) T.n_tuple bt_tuple (@pa_cons _ _ _ _ _ (pv 7) pa_nil (by rfl)) (by decide) (by decide) (by rfl) (by rfl)) pa_nil star_call)) (by rfl))))) (by intro _; rfl))
      (@pss_one _ _ _ (@ps_ret _ _ _ _ (@pe_callTy _ _ _ _ _ _ _ _ _ (call_tupleK (K := K) rfl) (by rfl) T.n_tuple bt_tuple (@pa_cons _ _ _ _ _ (pv 5) pa_nil (by rfl)) (by decide) (by decide) (by rfl) (by rfl)))))), ?_⟩
    refine ⟨(by show 0 ≤ sizeLine; decide), fun c hc => ?_⟩
    have s1 := same_upd (o := .lst []) hc
    have oldne : ∀ b o, H b = some o → b ≠ c := fun b o e => ne_of_none e hc
    have keepH : ∀ {H' : Hp}, KeepBut c (upd H c (.lst [])) H' → Same H H' := fun k b o e => k b o (s1 b o e) (oldne b o e)
    refine ⟨_, rfl, _, _, rfl, Or.inr ⟨_, SqT.of (s1 _ _ hfa), rfl⟩, _, rfl, by omega, by omega, ?_⟩
    have hc1 : upd H c (.lst []) c = some (.lst []) := upd_same
    generalize upd H c (.lst []) = H1 at s1 hc1 keepH ⊢
    refine for_range (n := ((xs.length : Nat) : Int).toNat) (fun i σ H' => ∃ (v6 v7 v8 : Option V) (ys : List V), σ = [some (.ref fa), some wv, some cv, some rv, some sv, some (.ref c), v6, v7, v8] ∧ KeepBut c H1 H' ∧ H' c = some (.lst ys) ∧ IsDs H' ys (((wFil F ru C u d l r a b).take i).map rowD)) ⟨none, none, none, [], rfl, KeepBut.refl _ _, hc1, .nil⟩ ?_ ?_
    · rintro i _ H2 hi ⟨v6, v7, v8, ys, rfl, k2, hc2, hys⟩
      have hi' : i < F.length := by
        have : i < ((xs.length : Nat) : Int).toNat := hi
        omega
      have S2 := keepH k2
      have e0 : (0 : Int) + (i : Int) = (i : Int) := by omega
      rw [e0]
      obtain ⟨ra, era, hra⟩ := isRows_get hxs hi'
      have eW : F[i].length = (F.headD []).length := R.row _ (List.getElem_mem _)
      refine ⟨(by show 0 ≤ sizeLine; decide), fun e he => ?_⟩
      have s3 := same_upd (o := .lst []) he
      have ne : e ≠ c := (ne_of_none hc2 he).symm
      refine ⟨_, rfl, _, rfl, Or.inr (Or.inl ⟨_, _, _, _, rfl, rfl, SqT.of (s3 _ _ (S2 _ _ hfa)), atI_nat era, _, _, rfl, Or.inr ⟨_, SqT.of (s3 _ _ (S2 _ _ hra)), rfl⟩, _, rfl, by rw [List.length_map]; omega, by rw [List.length_map]; omega, ?_⟩)⟩
      have he3 : upd H2 e (.lst []) e = some (.lst []) := upd_same
      have hc3 := s3 _ _ hc2
      have hys3 := hys.keep s3.tups
      have S3 := S2.trans s3
      have K3 : KeepBut c H1 (upd H2 e (.lst [])) := fun b' o e' n => s3 _ _ (k2 b' o e' n)
      have old3 : ∀ b' o, H2 b' = some o → b' ≠ e := fun b' o e' => ne_of_none e' he
      have el : (F[i].map cellV).length = wideF F := by rw [List.length_map]; exact eW
      generalize upd H2 e (.lst []) = H3 at s3 he3 hc3 hys3 S3 K3 ⊢
      refine for_range (n := ((((F[i].map cellV).length : Nat) : Int).toNat)) (fun j σ H' => ∃ (v8 : Option V), σ = [some (.ref fa), some wv, some cv, some rv, some sv, some (.ref c), some (.int i), some (.ref e), v8] ∧ KeepBut e H3 H' ∧ H' e = some (.lst (((List.range j).map fun j : Nat => manieth (wNums F ru C u d l r (i : Int) (j : Int)) a b).map cellV))) ⟨v8, rfl, KeepBut.refl _ _, he3⟩ ?_ ?_
      · rintro j _ H4 hj ⟨v8, rfl, k4, he4⟩
        have hj' : j < wideF F := by
          have : j < ((((F[i].map cellV).length : Nat) : Int).toNat) := hj
          omega
        have e0 : (0 : Int) + (j : Int) = (j : Int) := by omega
        rw [e0]
        have S4 : Same H H4 := fun b' o e' => k4 b' o (S3 b' o e') (old3 b' o (S2 b' o e'))
        have hjw : j < (F.headD []).length := hj'
        refine ⟨_, rfl, Or.inl ⟨rfl, _, SqL.of he4⟩, ?_⟩
        refine ⟨_, rfl, _, rfl, _, rfl, _, rfl, _, rfl, _, rfl, _, _, _, _, F, ru, C, u, d, l, r, _, _, rfl, R, ok, hf.keep S4.tups, hw.keep S4.tups, hcv.keep S4.tups, hru.keep S4.tups, ⟨by omega, by omega⟩, ⟨by omega, by omega⟩, bb, fun x H5 fx s5 hx => ?_⟩
        have S5 := S4.trans s5
        have he5 := s5 _ _ he4
        refine ⟨_, rfl, x, sv, _, a, b, rfl, hx, hs.keep S5.tups, hS, fun H7 s7 => ?_⟩
        have he7 := s7 _ _ he5
        refine ⟨_, _, _, rfl, rfl, he7, ?_, ?_⟩
        · rw [List.length_map, List.length_map, List.length_range]
          exact Nat.lt_of_lt_of_le (show j < 1001 by omega) (by decide)
        · refine ⟨_, rfl, fun b' o e' n => ?_, ?_⟩
          · rw [upd_ne n]; exact s7 _ _ (s5 _ _ (k4 b' o e' n))
          · rw [upd_same, List.range_succ, List.map_append, List.map_append]
            rfl
      · rintro _ H4 ⟨v8, rfl, k4, he4⟩
        rw [show ((((F[i].map cellV).length : Nat) : Int).toNat) = wideF F by omega] at he4
        have hc4 := k4 _ _ hc3 ne.symm
        refine ⟨_, rfl, Or.inl ⟨rfl, _, SqL.of hc4⟩, _, rfl, _, _, rfl, Or.inl ⟨SqL.of he4, fun t ht => ?_⟩⟩
        have st := same_upd (o := .tup (((List.range (wideF F)).map fun j : Nat => manieth (wNums F ru C u d l r (i : Int) (j : Int)) a b).map cellV)) ht
        have hct := st _ _ hc4
        have ly : ys.length = i := by rw [hys.length, List.length_map, List.length_take, wFil_len]; omega
        refine ⟨_, _, _, rfl, rfl, hct, (by rw [ly]; exact Nat.lt_of_lt_of_le (show i < 1001 by omega) (by decide)), ?_⟩
        refine ⟨_, _, _, ys ++ [.ref t], rfl, fun b' o e' n => ?_, upd_same, ?_⟩
        · rw [upd_ne n]
          exact st _ _ (k4 b' o (K3 b' o e' n) (old3 b' o (k2 b' o e' n)))
        · rw [List.take_add_one, wFil_row hi', List.map_append]
          have tt : t ≠ c := (ne_of_none hc4 ht).symm
          have u1 : upd (upd H4 t (.tup (((List.range (wideF F)).map fun j : Nat => manieth (wNums F ru C u d l r (i : Int) (j : Int)) a b).map cellV))) c (.lst (ys ++ [.ref t])) t = some (.tup (((List.range (wideF F)).map fun j : Nat => manieth (wNums F ru C u d l r (i : Int) (j : Int)) a b).map cellV)) := by rw [upd_ne tt]; exact upd_same
          have kt : ∀ b' zs, H3 b' = some (.tup zs) → upd (upd H4 t (.tup (((List.range (wideF F)).map fun j : Nat => manieth (wNums F ru C u d l r (i : Int) (j : Int)) a b).map cellV))) c (.lst (ys ++ [.ref t])) b' = some (.tup zs) := fun b' zs e' => by
            have n1 : b' ≠ c := ne_of e' hc3 fun z => by cases z
            have n2 : b' ≠ e := ne_of e' he3 fun z => by cases z
            rw [upd_ne n1]
            exact st _ _ (k4 _ _ e' n2)
          exact (hys3.keep kt).append (.cons (.tup u1 (isCells _)) .nil)
    · rintro _ H2 ⟨v6, v7, v8, ys, rfl, k2, hc2, hys⟩
      refine ⟨_, rfl, _, _, rfl, Or.inl ⟨SqL.of hc2, fun t ht => ?_⟩⟩
      have st := same_upd (o := .tup ys) ht
      refine q (.ref t) _ ((keepH k2).trans st) (.tup upd_same ?_)
      have : (wFil F ru C u d l r a b).take ((xs.length : Nat) : Int).toNat = wFil F ru C u d l r a b := List.take_of_length_le (by rw [wFil_len]; omega)
      rw [this] at hys
      exact hys.keep st.tups
def spRule3 : Sp := fun vs H Q _ => ∃ (d c : Addr) (kind : Int) (n : Nat), vs = [.ref d, .int kind] ∧ Dk H d c n ∧ n ≤ 100000 ∧ ∀ (v : V) (ru : Rule) (H' : Hp), IsD H' v (ruleD ru) → Dk H' d c (n + 5) → K2 d c H H' → Q v H'
theorem df_law_rule (T : Txt K mg) : Df P w K mg base 3 "_law_rule" ["deck", "kind"] spRule3 := by
  refine T.d_law_rule.ok sc_law_rule (fun vs H Q E h => ?_) (fun f cdv A outer s H vs Q E hr h => ?_)
  · obtain ⟨d, c, kind, n, rfl, _⟩ := h
    rfl
  · obtain ⟨d, c, kind, n, rfl, D, hn, q⟩ := h
    refine ⟨_, (@pss_cons _ _ _ _ _ (@ps_set _ _ 2 _ _ _ _ sc_law_rule.nd rfl (by first | exact Or.inl rfl | exact Or.inr rfl) (@pe_ix _ _ _ _ _ _ _ (ix_seqK (K := K) rfl) (@pe_lst _ _ _ _ (@pa_cons _ _ _ _ _ pe_non (@pa_cons _ _ _ _ _ (@pe_df _ _ _ _ _ _ _ _ _ _ (df_law_number T) (hr.mono (by decide)) (@pa_cons _ _ _ _ _ (pv 0) (@pa_cons _ _ _ _ _ (pv 1) pa_nil (by rfl)) (by rfl)) (by rfl) (by decide) (by rfl) (by rfl)) pa_nil star_call) (by rfl))) (@pe_df _ _ _ _ _ _ _ _ _ _ (df_law_draw T) (hr.mono (by decide)) (@pa_cons _ _ _ _ _ (pv 0) (@pa_cons _ _ _ _ _ pe_int pa_nil (by rfl)) (by rfl)) (by rfl) (by decide) (by rfl) (by rfl)) (fun _ _ => rfl)) (by rfl) (by first | exact .inl rfl | exact .inr rfl))
      (@pss_one _ _ _ (@ps_ret _ _ _ _ (@pe_ix _ _ _ _ _ _ _ (ix_seqK (K := K) rfl) (@pe_lst _ _ _ _ (@pa_cons _ _ _ _ _ pe_str (@pa_cons _ _ _ _ _ pe_str (@pa_cons _ _ _ _ _ pe_str (@pa_cons _ _ _ _ _ pe_str (@pa_cons _ _ _ _ _ (@pe_tup _ _ _ _ _ (@pa_cons _ _ _ _ _ pe_str (@pa_cons _ _ _ _ _ (pv 2) pa_nil (by rfl)) (by rfl))) pa_nil star_tup) (by rfl)) (by rfl)) (by rfl)) (by rfl))) (@pe_df _ _ _ _ _ _ _ _ _ _ (df_law_draw T) (hr.mono (by decide)) (@pa_cons _ _ _ _ _ (pv 0) (@pa_cons _ _ _ _ _ pe_int pa_nil (by rfl)) (by rfl)) (by rfl) (by decide) (by rfl) (by rfl)) (fun _ _ => rfl))))), ?_⟩
    refine ⟨_, rfl, _, rfl, _, _, _, _, rfl, D, by omega, fun x H1 x0 x1 D1 k1 => ?_⟩
    refine ⟨(by show 2 ≤ sizeLine; decide), fun p hp => ?_⟩
    refine ⟨_, rfl, _, _, _, _, rfl, D1.upd hp, (by decide), (by decide), by omega, fun y H2 y0 y1 D2 k2 => ?_⟩
    obtain ⟨told, et⟩ : ∃ told : Option Int, atI [V.non, V.int x] y = some (cellV told) := by
      have : y = 0 ∨ y = 1 := by omega
      rcases this with e | e
      · exact ⟨none, by rw [e]; rfl⟩
      · exact ⟨some x, by rw [e]; rfl⟩
    refine Or.inl ⟨_, _, _, _, rfl, rfl, SqL.of (k2 p _ upd_same (D1.nd hp).1 (D1.nd hp).2), et, ?_⟩
    have K2' : K2 d c H H2 := (k1.upd hp).trans k2
    refine ⟨_, rfl, (by show 2 ≤ sizeLine; decide), fun t ht => ?_⟩
    have st := same_upd (o := .tup [.str "told", cellV told]) ht
    refine ⟨(by show 5 ≤ sizeLine; decide), fun p2 hp2 => ?_⟩
    have s2 := same_upd (o := .lst [.str "there", .str "near", .str "turned", .str "round", .ref t]) hp2
    have D3 := D2.keep (st.trans s2)
    have K3 := K2'.trans ((st.trans s2).k2 d c)
    have e2 : upd (upd H2 t (.tup [.str "told", cellV told])) p2 (.lst [.str "there", .str "near", .str "turned", .str "round", .ref t]) p2 = some (.lst [.str "there", .str "near", .str "turned", .str "round", .ref t]) := upd_same
    have et2 := s2 _ _ (show upd H2 t (.tup [.str "told", cellV told]) t = some (.tup [.str "told", cellV told]) from upd_same)
    have nd2 := (D2.keep st).nd hp2
    generalize upd (upd H2 t (.tup [.str "told", cellV told])) p2 (.lst [.str "there", .str "near", .str "turned", .str "round", .ref t]) = H3 at D3 K3 e2 et2 ⊢
    refine ⟨_, rfl, _, _, _, _, rfl, D3, (by decide), (by decide), by omega, fun z H4 z0 z1 D4 k4 => ?_⟩
    have et4 := (k4.tups D3) _ _ et2
    have e4 := k4 _ _ e2 nd2.1 nd2.2
    obtain ⟨v, ru, e, h⟩ : ∃ (v : V) (ru : Rule), atI [V.str "there", .str "near", .str "turned", .str "round", .ref t] z = some v ∧ IsD H4 v (ruleD ru) := by
      have : z = 0 ∨ z = 1 ∨ z = 2 ∨ z = 3 ∨ z = 4 := by omega
      rcases this with e | e | e | e | e
      · subst e; exact ⟨.str "there", .there, rfl, .str _⟩
      · subst e; exact ⟨.str "near", .near, rfl, .str _⟩
      · subst e; exact ⟨.str "turned", .turned, rfl, .str _⟩
      · subst e; exact ⟨.str "round", .round, rfl, .str _⟩
      · subst e; exact ⟨.ref t, .told told, rfl, .tup et4 (.cons (.str _) (.cons (isCell told) .nil))⟩
    exact Or.inl ⟨_, _, _, v, rfl, rfl, SqL.of e4, e, q v ru H4 h (D4.mono (by omega)) (K3.trans k4)⟩
def spShare3 : Sp := fun vs H Q _ => ∃ (d c : Addr) (n : Nat), vs = [.ref d] ∧ Dk H d c n ∧ n ≤ 100000 ∧ ∀ (v : V) (a b : Int) (H' : Hp), IsD H' v (placeD (a, b)) → Share a b → Dk H' d c (n + 4) → K2 d c H H' → Q v H'
theorem df_law_share (T : Txt K mg) : Df P w K mg base 2 "_law_share" ["deck"] spShare3 := by
  refine T.d_law_share.ok sc_law_share (fun vs H Q E h => ?_) (fun f cdv A outer s H vs Q E hr h => ?_)
  · obtain ⟨d, c, n, rfl, _⟩ := h
    rfl
  · obtain ⟨d, c, n, rfl, D, hn, q⟩ := h
    refine ⟨_, (@pss_cons _ _ _ _ _ (@ps_set _ _ 1 _ _ _ _ sc_law_share.nd rfl (by first | exact Or.inl rfl | exact Or.inr rfl) (@pe_op _ _ _ _ _ _ _ _ op_add pe_int (@pe_df _ _ _ _ _ _ _ _ _ _ (df_law_draw T) (hr.mono (by decide)) (@pa_cons _ _ _ _ _ (pv 0) (@pa_cons _ _ _ _ _ (@pe_ix _ _ _ _ _ _ _ (ix_seqK (K := K) rfl) (@pe_lst _ _ _ _ (@pa_cons _ _ _ _ _ pe_int (@pa_cons _ _ _ _ _ pe_int pa_nil (by rfl)) (by rfl))) (@pe_df _ _ _ _ _ _ _ _ _ _ (df_law_draw T) (hr.mono (by decide)) (@pa_cons _ _ _ _ _ (pv 0) (@pa_cons _ _ _ _ _ pe_int pa_nil (by rfl)) (by rfl)) (by rfl) (by decide) (by rfl) (by rfl)) (fun _ _ => rfl)) pa_nil star_sub) (by rfl)) (by rfl) (by decide) (by rfl) (by rfl))) (by rfl) (by first | exact .inl rfl | exact .inr rfl))
      (@pss_one _ _ _ (@ps_ret _ _ _ _ (@pe_ix _ _ _ _ _ _ _ (ix_seqK (K := K) rfl) (@pe_lst _ _ _ _ (@pa_cons _ _ _ _ _ (@pe_tup _ _ _ _ _ (@pa_cons _ _ _ _ _ pe_int (@pa_cons _ _ _ _ _ pe_int pa_nil (by rfl)) (by rfl))) (@pa_cons _ _ _ _ _ (@pe_tup _ _ _ _ _ (@pa_cons _ _ _ _ _ pe_int (@pa_cons _ _ _ _ _ pe_int pa_nil (by rfl)) (by rfl))) (@pa_cons _ _ _ _ _ (@pe_tup _ _ _ _ _ (@pa_cons _ _ _ _ _ pe_int (@pa_cons _ _ _ _ _ pe_int pa_nil (by rfl)) (by rfl))) (@pa_cons _ _ _ _ _ (@pe_tup _ _ _ _ _ (@pa_cons _ _ _ _ _ (@pe_df _ _ _ _ _ _ _ _ _ _ (df_law_draw T) (hr.mono (by decide)) (@pa_cons _ _ _ _ _ (pv 0) (@pa_cons _ _ _ _ _ (@pe_op _ _ _ _ _ _ _ _ op_add (pv 1) pe_int) pa_nil star_bin) (by rfl)) (by rfl) (by decide) (by rfl) (by rfl)) (@pa_cons _ _ _ _ _ (pv 1) pa_nil (by rfl)) star_call)) pa_nil star_tup) star_tup) star_tup) star_tup)) (@pe_df _ _ _ _ _ _ _ _ _ _ (df_law_draw T) (hr.mono (by decide)) (@pa_cons _ _ _ _ _ (pv 0) (@pa_cons _ _ _ _ _ pe_int pa_nil (by rfl)) (by rfl)) (by rfl) (by decide) (by rfl) (by rfl)) (fun _ _ => rfl))))), ?_⟩
    refine ⟨_, rfl, (by show 2 ≤ sizeLine; decide), fun p hp => ?_⟩
    refine ⟨_, rfl, _, _, _, _, rfl, D.upd hp, (by decide), (by decide), by omega, fun x H1 x0 x1 D1 k1 => ?_⟩
    obtain ⟨m, em, hm⟩ := pickI (x := x) (ms := [4, 1000]) x0 (by exact x1)
    have hm' : 4 ≤ m ∧ m ≤ 1000 := by
      simp only [List.mem_cons, List.not_mem_nil, or_false] at hm
      omega
    refine Or.inl ⟨_, _, _, _, rfl, rfl, SqL.of (k1 p _ upd_same (D.nd hp).1 (D.nd hp).2), em, ?_⟩
    have K1 : K2 d c H H1 := ((K2.refl d c H).upd hp).trans k1
    refine ⟨_, _, _, _, rfl, D1, by omega, by omega, by omega, fun y H2 y0 y1 D2 k2 => ?_⟩
    refine ⟨_, _, rfl, rfl, ?_⟩
    have K2' := K1.trans k2
    refine ⟨(by show 2 ≤ sizeLine; decide), fun t1 ht1 => ?_⟩
    have s1 := same_upd (o := .tup [.int 0, .int 1]) ht1
    refine ⟨(by show 2 ≤ sizeLine; decide), fun t2 ht2 => ?_⟩
    have s2 := same_upd (o := .tup [.int 1, .int 1]) ht2
    refine ⟨(by show 2 ≤ sizeLine; decide), fun t3 ht3 => ?_⟩
    have s3 := same_upd (o := .tup [.int 1, .int 2]) ht3
    have S3 := (s1.trans s2).trans s3
    have e1 := s3 _ _ (s2 _ _ (show upd H2 t1 (.tup [.int 0, .int 1]) t1 = some (.tup [.int 0, .int 1]) from upd_same))
    have e2 := s3 _ _ (show upd (upd H2 t1 (.tup [.int 0, .int 1])) t2 (.tup [.int 1, .int 1]) t2 = some (.tup [.int 1, .int 1]) from upd_same)
    have e3 : upd (upd (upd H2 t1 (.tup [.int 0, .int 1])) t2 (.tup [.int 1, .int 1])) t3 (.tup [.int 1, .int 2]) t3 = some (.tup [.int 1, .int 2]) := upd_same
    generalize upd (upd (upd H2 t1 (.tup [.int 0, .int 1])) t2 (.tup [.int 1, .int 1])) t3 (.tup [.int 1, .int 2]) = H3 at S3 e1 e2 e3 ⊢
    have D3 := D2.keep S3
    refine ⟨_, rfl, _, rfl, _, _, rfl, rfl, _, _, _, _, rfl, D3, by omega, by omega, by omega, fun z H4 z0 z1 D4 k4 => ?_⟩
    have kt4 := k4.tups D3
    refine ⟨_, rfl, (by show 2 ≤ sizeLine; decide), fun t4 ht4 => ?_⟩
    have s4 := same_upd (o := .tup [.int z, .int (1 + y)]) ht4
    refine ⟨(by show 4 ≤ sizeLine; decide), fun p5 hp5 => ?_⟩
    have s5 := same_upd (o := .lst [.ref t1, .ref t2, .ref t3, .ref t4]) hp5
    have nd5 := (D4.keep s4).nd hp5
    have S5 := s4.trans s5
    have f1 := S5 _ _ (kt4 _ _ e1)
    have f2 := S5 _ _ (kt4 _ _ e2)
    have f3 := S5 _ _ (kt4 _ _ e3)
    have f4 := s5 _ _ (show upd H4 t4 (.tup [.int z, .int (1 + y)]) t4 = some (.tup [.int z, .int (1 + y)]) from upd_same)
    have f5 : upd (upd H4 t4 (.tup [.int z, .int (1 + y)])) p5 (.lst [.ref t1, .ref t2, .ref t3, .ref t4]) p5 = some (.lst [.ref t1, .ref t2, .ref t3, .ref t4]) := upd_same
    have D5 := D4.keep S5
    have K5 := ((K2'.trans (S3.k2 d c)).trans k4).trans (S5.k2 d c)
    generalize upd (upd H4 t4 (.tup [.int z, .int (1 + y)])) p5 (.lst [.ref t1, .ref t2, .ref t3, .ref t4]) = H5 at f1 f2 f3 f4 f5 D5 K5 ⊢
    refine ⟨_, rfl, _, _, _, _, rfl, D5, (by decide), (by decide), by omega, fun w H6 w0 w1 D6 k6 => ?_⟩
    have kt6 := k6.tups D5
    have g5 := k6 _ _ f5 nd5.1 nd5.2
    have z1' : z < 1 + y + 1 := z1
    obtain ⟨t, a, b, e, h, hS⟩ : ∃ (t : Addr) (a b : Int), atI [V.ref t1, .ref t2, .ref t3, .ref t4] w = some (.ref t) ∧ H6 t = some (.tup [.int a, .int b]) ∧ Share a b := by
      have : w = 0 ∨ w = 1 ∨ w = 2 ∨ w = 3 := by omega
      rcases this with e | e | e | e
      · subst e; exact ⟨t1, 0, 1, rfl, kt6 _ _ f1, share01⟩
      · subst e; exact ⟨t2, 1, 1, rfl, kt6 _ _ f2, share11⟩
      · subst e; exact ⟨t3, 1, 2, rfl, kt6 _ _ f3, by decide, by decide, by decide, by decide⟩
      · subst e; exact ⟨t4, z, 1 + y, rfl, kt6 _ _ f4, by omega, by omega, by omega, by omega⟩
    exact Or.inl ⟨_, _, _, .ref t, rfl, rfl, SqL.of g5, e, q (.ref t) a b H6 (isPlace h) hS (D6.mono (by omega)) (K5.trans k6)⟩
mutual
def plainS : PyData → Bool
  | .none | .int _ | .str _ => true
  | .tuple ds => decide (ds.length ≤ 100000) && plainSs ds
  | _ => false
def plainSs : List PyData → Bool
  | [] => true
  | d :: ds => plainS d && plainSs ds
end
theorem plainSs_get : ∀ {ds : List PyData} {i : Nat} {d : PyData}, plainSs ds = true → ds[i]? = some d → plainS d = true
  | [], i, d, _, e => by simp at e
  | x :: ds, 0, d, h, e => by
    simp at e; subst e
    rw [plainSs, Bool.and_eq_true] at h
    exact h.1
  | x :: ds, i + 1, d, h, e => by
    rw [plainSs, Bool.and_eq_true] at h
    exact plainSs_get (i := i) h.2 (by simpa using e)
theorem plainS_cell (c : Option Int) : plainS (cellD c) = true := by cases c <;> rfl
theorem plainS_cells : ∀ r : List (Option Int), plainSs (r.map cellD) = true
  | [] => rfl
  | c :: r => by rw [List.map_cons, plainSs, plainS_cell, plainS_cells r]; rfl
theorem plainS_row {r : List (Option Int)} (h : r.length ≤ 100000) : plainS (rowD r) = true := by
  show (decide ((r.map cellD).length ≤ 100000) && plainSs (r.map cellD)) = true
  rw [plainS_cells, List.length_map, decide_eq_true h]; rfl
theorem plainS_rows : ∀ {F : List (List (Option Int))}, (∀ r ∈ F, r.length ≤ 100000) → plainSs (F.map rowD) = true
  | [], _ => rfl
  | r :: F, h => by rw [List.map_cons, plainSs, plainS_row (h r List.mem_cons_self), plainS_rows fun r' hr' => h r' (List.mem_cons_of_mem _ hr')]; rfl
theorem plainS_field {F : List (List (Option Int))} (R : Rect F) : plainS (fieldD F) = true := by
  have hs := R.hs
  have ws := R.ws
  show (decide ((F.map rowD).length ≤ 100000) && plainSs (F.map rowD)) = true
  rw [plainS_rows fun r hr => by rw [R.row r hr]; omega, List.length_map, decide_eq_true (by omega)]; rfl
def spSame (e : Nat) : Sp := fun vs H Q _ => ∃ (f d : V) (D : PyData), vs = [f, d] ∧ IsD H f D ∧ IsD H d D ∧ plainS D = true ∧ D.depth < e ∧ ∀ H', Same H H' → Q (.bl true) H'
theorem df_same_at (T : Txt K mg) : ∀ e : Nat, Df P w K mg base e "_law_same" ["found", "due"] (spSame e) := by
  intro e
  induction e with
  | zero => exact T.d_law_same.never fun vs H Q E ⟨f, d, D, _, _, _, _, h, _⟩ => Nat.not_lt_zero _ h
  | succ e ih =>
    refine T.d_law_same.ok sc_law_same (fun vs H Q E h => ?_) (fun f cdv A outer s H vs Q E hr h => ?_)
    · obtain ⟨f, d, D, rfl, _⟩ := h
      rfl
    · obtain ⟨f, d, D, rfl, hf, hd, pl, dp, q⟩ := h
      refine ⟨_, (@pss_cons _ _ _ _ _ (@ps_if _ _ _ _ _ _ _ _ (@pt_val _ _ _ (@pe_callB _ _ _ _ _ _ _ _ _ (call_isinstK (K := K) rfl) (by rfl) T.n_isinstance bt_isinstance (@pa_cons _ _ _ _ _ (pv 1) (@pa_cons _ _ _ _ _ (pe_bltn (v := .ty "tuple") (by rfl) T.n_tuple bt_tuple rfl) pa_nil (by rfl)) (by rfl)) (by decide) (by decide) (by rfl) (by rfl)) (by intro _; rfl)) (@pss_cons _ _ _ _ _ (@ps_if _ _ _ _ _ _ _ _ (pw_or (@pt_not _ _ _ _ (@pt_val _ _ _ (@pe_callB _ _ _ _ _ _ _ _ _ (call_isinstK (K := K) rfl) (by rfl) T.n_isinstance bt_isinstance (@pa_cons _ _ _ _ _ (pv 0) (@pa_cons _ _ _ _ _ (pe_bltn (v := .ty "tuple") (by rfl) T.n_tuple bt_tuple rfl) pa_nil (by rfl)) (by rfl)) (by decide) (by decide) (by rfl) (by rfl)) (by intro _; rfl))) (pw_or1 (@pt_cmpR _ _ _ _ _ _ _ _ (op_neA hr.units) (@pe_callB _ _ _ _ _ _ _ _ _ (call_lenK (K := K) rfl) (by rfl) T.n_len bt_len (@pa_cons _ _ _ _ _ (pv 0) pa_nil (by rfl)) (by decide) (by decide) (by rfl) (by rfl)) (@pe_callB _ _ _ _ _ _ _ _ _ (call_lenK (K := K) rfl) (by rfl) T.n_len bt_len (@pa_cons _ _ _ _ _ (pv 1) pa_nil (by rfl)) (by decide) (by decide) (by rfl) (by rfl)) (nomark _)))).pt (@pss_one _ _ _ (@ps_ret _ _ _ _ pe_bl)) pss_nil)
      (@pss_one _ _ _ (@ps_ret _ _ _ _ (@pe_cmpR _ _ _ _ _ _ _ _ (op_eqX hr.units) (pe_compIf2 (K := K) (M := []) (idx := []) rfl rfl (pi_zip (by rfl) T.n_zip (@pa_cons _ _ _ _ _ (pv 0) (@pa_cons _ _ _ _ _ (pv 1) pa_nil (by rfl)) (by rfl))) (compOk (by kernel_rfl)) (by decide +kernel) (by first | exact Or.inl rfl | exact Or.inr rfl) (by first | exact Or.inl rfl | exact Or.inr rfl) (fun _ _ _ _ _ => pts_one (@pt_not _ _ _ _ (@pt_val _ _ _ (@pe_df _ _ _ _ _ _ _ _ _ _ ih hr (@pa_cons _ _ _ _ _ (pv 0) (@pa_cons _ _ _ _ _ (pv 1) pa_nil (by rfl)) (by rfl)) (by rfl) (by decide) (by rfl) (by rfl)) (by intro _; rfl)))) (fun _ _ _ _ _ => pe_int)) (@pe_lst _ _ _ _ pa_nil) (nomark _))))) pss_nil)
      (@pss_cons _ _ _ _ _ (@ps_if _ _ _ _ _ _ _ _ (@pt_val _ _ _ (@pe_callB _ _ _ _ _ _ _ _ _ (call_isinstK (K := K) rfl) (by rfl) T.n_isinstance bt_isinstance (@pa_cons _ _ _ _ _ (pv 1) (@pa_cons _ _ _ _ _ (pe_bltn (v := .ty "str") (by rfl) T.n_str bt_str rfl) pa_nil (by rfl)) (by rfl)) (by decide) (by decide) (by rfl) (by rfl)) (by intro _; rfl)) (@pss_one _ _ _ (@ps_ret _ _ _ _ (pe_and (@pe_callB _ _ _ _ _ _ _ _ _ (call_isinstK (K := K) rfl) (by rfl) T.n_isinstance bt_isinstance (@pa_cons _ _ _ _ _ (pv 0) (@pa_cons _ _ _ _ _ (pe_bltn (v := .ty "str") (by rfl) T.n_str bt_str rfl) pa_nil (by rfl)) (by rfl)) (by decide) (by decide) (by rfl) (by rfl)) (pe_one (@pe_cmpR _ _ _ _ _ _ _ _ (op_eqA hr.units) (pv 0) (pv 1) (nomark _)))))) pss_nil)
      (@pss_cons _ _ _ _ _ (@ps_if _ _ _ _ _ _ _ _ (@pt_cmpR _ _ _ _ _ _ _ _ op_isN (pv 1) pe_non (nomark _)) (@pss_one _ _ _ (@ps_ret _ _ _ _ (@pe_cmpR _ _ _ _ _ _ _ _ op_isN (pv 0) pe_non (nomark _)))) pss_nil)
      (@pss_one _ _ _ (@ps_ret _ _ _ _ (pe_and (@pe_callB _ _ _ _ _ _ _ _ _ (call_isinstK (K := K) rfl) (by rfl) T.n_isinstance bt_isinstance (@pa_cons _ _ _ _ _ (pv 0) (@pa_cons _ _ _ _ _ (pe_bltn (v := .ty "int") (by rfl) T.n_int bt_int rfl) pa_nil (by rfl)) (by rfl)) (by decide) (by decide) (by rfl) (by rfl)) (pe_and (pe_not (@pe_callB _ _ _ _ _ _ _ _ _ (call_isinstK (K := K) rfl) (by rfl) T.n_isinstance bt_isinstance (@pa_cons _ _ _ _ _ (pv 0) (@pa_cons _ _ _ _ _ (pe_bltn (v := .ty "bool") (by rfl) T.n_bool bt_bool rfl) pa_nil (by rfl)) (by rfl)) (by decide) (by decide) (by rfl) (by rfl))) (pe_one (@pe_cmpR _ _ _ _ _ _ _ _ (op_eqA hr.units) (pv 0) (pv 1) (nomark _)))))))))), ?_⟩
      cases hd with
      | bl b => cases pl
      | str x =>
        cases hf
        refine ⟨_, rfl, _, _, _, _, rfl, rfl, rfl, _, rfl, ?_⟩
        refine iteF ?_
        refine ⟨_, rfl, _, _, _, _, rfl, rfl, rfl, _, rfl, ?_⟩
        refine iteT ?_
        refine ⟨_, rfl, _, _, _, _, rfl, rfl, rfl, _, rfl, ?_⟩
        refine iteT ?_
        refine ⟨_, rfl, _, rfl, Or.inl ⟨rfl, ?_⟩⟩
        have e : decide (V.str x = V.str x) = true := decide_eq_true rfl
        rw [e]
        exact q _ (Same.refl _)
      | non =>
        cases hf
        refine ⟨_, rfl, _, _, _, _, rfl, rfl, rfl, _, rfl, ?_⟩
        refine iteF ?_
        refine ⟨_, rfl, _, _, _, _, rfl, rfl, rfl, _, rfl, ?_⟩
        refine iteF ?_
        refine ⟨_, rfl, rfl, _, rfl, ?_⟩
        refine iteT ?_
        exact ⟨_, rfl, rfl, q _ (Same.refl _)⟩
      | int i =>
        cases hf
        refine ⟨_, rfl, _, _, _, _, rfl, rfl, rfl, _, rfl, ?_⟩
        refine iteF ?_
        refine ⟨_, rfl, _, _, _, _, rfl, rfl, rfl, _, rfl, ?_⟩
        refine iteF ?_
        refine ⟨_, rfl, rfl, _, rfl, ?_⟩
        refine iteF ?_
        refine ⟨_, rfl, _, _, _, _, rfl, rfl, rfl, _, rfl, ?_⟩
        refine iteT ?_
        refine ⟨_, rfl, _, _, _, _, rfl, rfl, rfl, _, rfl, _, rfl, ?_⟩
        refine iteT ?_
        refine ⟨_, rfl, _, rfl, Or.inl ⟨rfl, ?_⟩⟩
        have e : decide (V.int i = V.int i) = true := decide_eq_true rfl
        rw [e]
        exact q _ (Same.refl _)
      | @tup da dxs ds hda hds =>
        obtain ⟨fa, fxs, rfl, hfa, hfs⟩ := hf.tuple_inv
        rw [plainS, Bool.and_eq_true, decide_eq_true_eq] at pl
        have lf := hfs.length
        have ld := hds.length
        refine ⟨_, rfl, _, _, _, _, rfl, Or.inl ⟨rfl, _, hda⟩, rfl, _, rfl, ?_⟩
        refine iteT ?_
        refine ⟨_, rfl, _, _, _, _, rfl, Or.inl ⟨rfl, _, hfa⟩, rfl, _, rfl, ?_⟩
        refine iteF ?_
        refine ⟨_, rfl, _, _, rfl, Or.inr ⟨_, SqT.of hfa, rfl⟩, _, rfl, _, _, rfl, Or.inr ⟨_, SqT.of hda, rfl⟩, Or.inl ⟨rfl, _, rfl, ?_⟩⟩
        have e1 : decide (V.int (fxs.length : Int) = V.int (dxs.length : Int)) = true := decide_eq_true (by rw [lf, ld])
        rw [e1]
        refine iteF ?_
        refine ⟨_, rfl, _, rfl, _, _, fxs, dxs, rfl, hfa, hda, ?_⟩
        refine compW_zip (xs := fxs) (ys := dxs) (by omega) (fun j zs H' => Same H H' ∧ zs = []) ⟨Same.refl _, rfl⟩ (by rw [lf]; exact Nat.le_trans pl.1 (by decide)) (fun j zs H' _ ⟨s2, _⟩ => ⟨s2 _ _ hfa, s2 _ _ hda⟩) ?_ ?_
        · rintro i x y zs H1 t hx hy ⟨s1, rfl⟩ ht
          have hi' : i < ds.length := by have := (List.getElem?_eq_some_iff.mp hy).1; omega
          have ei : ds[i]? = some ds[i] := by simp [hi']
          obtain ⟨x', ex, hx'⟩ := hfs.get ei
          obtain ⟨y', ey', hy'⟩ := hds.get ei
          obtain rfl : x = x' := by rw [hx] at ex; exact Option.some.inj ex
          obtain rfl : y = y' := by rw [hy] at ey'; exact Option.some.inj ey'
          have st := same_upd (o := .tup [x, y]) ht
          have S1 := s1.trans st
          refine ⟨_, _, _, rfl, SqT.of upd_same, ?_⟩
          refine ⟨_, rfl, _, rfl, x, y, ds[i], rfl, hx'.keep S1.tups, hy'.keep S1.tups, plainSs_get pl.2 ei, ?_, fun H2 s2 => ?_⟩
          · have := depthAll_get ei
            have dp' : PyData.depthAll ds + 1 < e + 1 := dp
            omega
          · refine ⟨_, rfl, ?_⟩
            refine iteF ?_
            exact ⟨S1.trans s2, rfl⟩
        · rintro zs H1 ⟨s1, rfl⟩ p hp
          have sp := same_upd (o := .lst []) hp
          refine ⟨(by show 0 ≤ sizeLine; decide), fun p2 hp2 => ?_⟩
          have sp2 := same_upd (o := .lst []) hp2
          exact Or.inr ⟨_, _, _, _, _, _, rfl, rfl, sp2 _ _ upd_same, upd_same, .nil, .nil, ⟨by decide +kernel, by decide +kernel, by decide⟩, q _ ((s1.trans sp).trans sp2)⟩
theorem df_law_same (T : Txt K mg) : Df P w K mg base 5 "_law_same" ["found", "due"] (spSame 5) := df_same_at T 5
def lawAt (ru : Rule) (p n : Int) : Int := if 0 ≤ p ∧ p < n then p else match ru with
  | .near => led .near p n
  | .round => led .round p n
  | .turned => led .turned p n
  | _ => -1
theorem at_in {ru : Rule} {p n : Int} (h : 0 ≤ p ∧ p < n) : lawAt ru p n = p := by unfold lawAt; rw [if_pos h]
theorem at_led {ru : Rule} (h : ru = .near ∨ ru = .turned ∨ ru = .round) {p n : Int} (hn : 1 ≤ n) : lawAt ru p n = led ru p n := by
  unfold lawAt
  by_cases z : 0 ≤ p ∧ p < n
  · rw [if_pos z, led_id ru z.1 z.2]
  · rw [if_neg z]
    rcases h with rfl | rfl | rfl <;> rfl
theorem at_out {ru : Rule} (h : ru = .there ∨ ∃ c, ru = .told c) {p n : Int} (z : ¬ (0 ≤ p ∧ p < n)) : lawAt ru p n = -1 := by
  unfold lawAt
  rw [if_neg z]
  rcases h with rfl | ⟨c, rfl⟩ <;> rfl
theorem law_cases {F : List (List (Option Int))} (R : Rect F) (ru : Rule) (i j : Int) : (∃ r c : Int, lawAt ru i F.length = r ∧ lawAt ru j (F.headD []).length = c ∧ 0 ≤ r ∧ r < F.length ∧ 0 ≤ c ∧ c < (F.headD []).length ∧ stands F ru i j = [cellAt F r c]) ∨ ((lawAt ru i F.length = -1 ∨ (0 ≤ lawAt ru i F.length ∧ lawAt ru j (F.headD []).length = -1)) ∧ ((ru = .there ∧ stands F ru i j = []) ∨ ∃ c, ru = .told c ∧ stands F ru i j = [c])) := by
  have h1 := R.h1; have hs := R.hs; have w1 := R.w1; have ws := R.ws
  have go : (ru = .near ∨ ru = .turned ∨ ru = .round) → (∃ r c : Int, lawAt ru i F.length = r ∧ lawAt ru j (F.headD []).length = c ∧ 0 ≤ r ∧ r < F.length ∧ 0 ≤ c ∧ c < (F.headD []).length ∧ stands F ru i j = [cellAt F r c]) := fun h => by
    have li := led_in ru i (n := F.length) (by omega)
    have lj := led_in ru j (n := (F.headD []).length) (by omega)
    refine ⟨_, _, at_led h (by omega), at_led h (by omega), li.1, li.2, lj.1, lj.2, ?_⟩
    unfold stands
    cases hin : inF F i j with
    | true =>
      rw [if_pos rfl]
      unfold inF at hin
      simp only [Bool.and_eq_true, decide_eq_true_eq] at hin
      rw [led_id ru hin.1.1 hin.1.2, led_id ru hin.2.1 hin.2.2]
    | false =>
      rw [if_neg Bool.false_ne_true]
      rcases h with rfl | rfl | rfl <;> rfl
  have out : (ru = .there ∨ ∃ c, ru = .told c) → (∃ r c : Int, lawAt ru i F.length = r ∧ lawAt ru j (F.headD []).length = c ∧ 0 ≤ r ∧ r < F.length ∧ 0 ≤ c ∧ c < (F.headD []).length ∧ stands F ru i j = [cellAt F r c]) ∨ ((lawAt ru i F.length = -1 ∨ (0 ≤ lawAt ru i F.length ∧ lawAt ru j (F.headD []).length = -1)) ∧ ((ru = .there ∧ stands F ru i j = []) ∨ ∃ c, ru = .told c ∧ stands F ru i j = [c])) := fun h => by
    by_cases z1 : 0 ≤ i ∧ i < F.length
    · by_cases z2 : 0 ≤ j ∧ j < (F.headD []).length
      · refine Or.inl ⟨_, _, at_in z1, at_in z2, z1.1, z1.2, z2.1, z2.2, ?_⟩
        unfold stands
        rw [if_pos (by unfold inF; rw [decide_eq_true z1.1, decide_eq_true z1.2, decide_eq_true z2.1, decide_eq_true z2.2]; rfl)]
      · refine Or.inr ⟨Or.inr ⟨by rw [at_in z1]; exact z1.1, at_out h z2⟩, ?_⟩
        have hin : inF F i j = false := by
          cases e : inF F i j with
          | false => rfl
          | true =>
            unfold inF at e
            simp only [Bool.and_eq_true, decide_eq_true_eq] at e
            exact absurd e.2 z2
        rcases h with rfl | ⟨c, rfl⟩
        · exact Or.inl ⟨rfl, by unfold stands; rw [hin]; rfl⟩
        · exact Or.inr ⟨c, rfl, by unfold stands; rw [hin]; rfl⟩
    · refine Or.inr ⟨Or.inl (at_out h z1), ?_⟩
      have hin : inF F i j = false := by
        cases e : inF F i j with
        | false => rfl
        | true =>
          unfold inF at e
          simp only [Bool.and_eq_true, decide_eq_true_eq] at e
          exact absurd e.1 z1
      rcases h with rfl | ⟨c, rfl⟩
      · exact Or.inl ⟨rfl, by unfold stands; rw [hin]; rfl⟩
      · exact Or.inr ⟨c, rfl, by unfold stands; rw [hin]; rfl⟩
  cases ru with
  | near => exact Or.inl (go (by simp))
  | turned => exact Or.inl (go (by simp))
  | round => exact Or.inl (go (by simp))
  | there => exact out (Or.inl rfl)
  | told c => exact out (Or.inr ⟨c, rfl⟩)
theorem perm_sum {a b : List Int} (h : a.Perm b) : a.sum = b.sum := by
  induction h with
  | nil => rfl
  | cons x _ ih => rw [List.sum_cons, List.sum_cons, ih]
  | swap x y l => simp only [List.sum_cons]; omega
  | trans _ _ h1 h2 => exact h1.trans h2
theorem mid_near (p : Int) {n : Int} (h : 1 ≤ n) : (sortI [0, p, n - 1])[1]? = some (led .near p n) := by
  have hp := sortI_perm [0, p, n - 1]
  have hr := sortI_rise [0, p, n - 1]
  have hl := sortI_len [0, p, n - 1]
  match e : sortI [0, p, n - 1], hl with
  | [x, y, z], _ =>
    rw [e] at hp hr
    have m : ∀ w, w ∈ [x, y, z] ↔ w ∈ [0, p, n - 1] := fun w => hp.mem_iff
    have hs : ([x, y, z] : List Int).sum = ([0, p, n - 1] : List Int).sum := perm_sum hp
    simp only [List.sum_cons, List.sum_nil] at hs
    simp only [List.pairwise_cons, List.mem_cons, List.not_mem_nil, or_false, forall_eq_or_imp, forall_eq] at hr
    have mx := (m x).mp (by simp)
    have mz := (m z).mp (by simp)
    have m0 := (m 0).mpr (by simp)
    have mp := (m p).mpr (by simp)
    have mn := (m (n - 1)).mpr (by simp)
    simp only [List.mem_cons, List.not_mem_nil, or_false] at mx mz m0 mp mn
    show some y = some (min (max p 0) (n - 1))
    congr 1
    omega
def stAt (ru : Rule) (p n : Int) : Int := match ru with
  | .near => led .near p n
  | .round => led .round p n
  | .turned => led .turned p n
  | _ => p
theorem st_law {ru : Rule} {p n : Int} (hn : 1 ≤ n) : (0 ≤ stAt ru p n ∧ stAt ru p n < n ∧ lawAt ru p n = stAt ru p n) ∨ ((stAt ru p n < 0 ∨ n ≤ stAt ru p n) ∧ lawAt ru p n = -1) := by
  have go : ∀ ru : Rule, (ru = .near ∨ ru = .turned ∨ ru = .round) → stAt ru p n = led ru p n → (0 ≤ stAt ru p n ∧ stAt ru p n < n ∧ lawAt ru p n = stAt ru p n) := fun ru h e => by
    have li := led_in ru p hn
    rw [e]
    exact ⟨li.1, li.2, at_led h hn⟩
  have out : ∀ ru : Rule, (ru = .there ∨ ∃ c, ru = .told c) → stAt ru p n = p → (0 ≤ stAt ru p n ∧ stAt ru p n < n ∧ lawAt ru p n = stAt ru p n) ∨ ((stAt ru p n < 0 ∨ n ≤ stAt ru p n) ∧ lawAt ru p n = -1) := fun ru h e => by
    rw [e]
    by_cases z : 0 ≤ p ∧ p < n
    · exact .inl ⟨z.1, z.2, at_in z⟩
    · exact .inr ⟨by omega, at_out h z⟩
  cases ru with
  | near => exact .inl (go _ (by simp) rfl)
  | turned => exact .inl (go _ (by simp) rfl)
  | round => exact .inl (go _ (by simp) rfl)
  | there => exact out _ (by simp) rfl
  | told c => exact out _ (.inr ⟨c, rfl⟩) rfl
theorem round_at (p : Int) (n : Int) : p - p / n * n = led .round p n := by
  show _ = p % n
  have := Int.mul_ediv_add_emod p n
  rw [Int.mul_comm] at this
  omega
theorem ri_near (ru : Rule) : ruleIs ru "near" = true ↔ ru = .near := by
  cases ru <;> simp [ruleIs] <;> decide +kernel
theorem ri_round (ru : Rule) : ruleIs ru "round" = true ↔ ru = .round := by
  cases ru <;> simp [ruleIs] <;> decide +kernel
theorem ri_turned (ru : Rule) : ruleIs ru "turned" = true ↔ ru = .turned := by
  cases ru <;> simp [ruleIs] <;> decide +kernel
def spStood (K : PySem.W.Frag) : Sp := fun vs H Q _ => ∃ (fv rv : V) (F : List (List (Option Int))) (ru : Rule) (i j : Int), vs = [fv, rv, .int i, .int j] ∧ Rect F ∧ IsD H fv (fieldD F) ∧ IsD H rv (ruleD ru) ∧
  ∀ (p : Addr) (H' : Hp), Same H H' → H' p = some (.tup ((stands F ru i j).map cellV)) → Q (.ref p) H'
def stN (ru : Rule) (p n : Int) : Int := match ru with
  | .near => led .near p n
  | _ => p
def stR (ru : Rule) (p n : Int) : Int := match ru with
  | .near => led .near p n
  | .round => led .round p n
  | _ => p
theorem df_law_stood (T : Txt K mg) : Df P w K mg base 1 "_law_stood" ["plot", "edge", "i", "j"] (spStood K) := by
  refine T.d_law_stood.ok sc_law_stood (fun vs H Q E h => ?_) (fun f cdv A outer s H vs Q E hr h => ?_)
  · obtain ⟨fv, rv, F, ru, i, j, rfl, _⟩ := h
    rfl
  · obtain ⟨fv, rv, F, ru, i, j, rfl, R, hf, hru, q⟩ := h
    refine ⟨_, (@pss_cons _ _ _ _ _ (@ps_set _ _ 4 _ _ _ _ sc_law_stood.nd rfl (by first | exact Or.inl rfl | exact Or.inr rfl) (@pe_lst _ _ _ _ pa_nil) (by rfl) (by first | exact .inl rfl | exact .inr rfl))
      (@pss_cons _ _ _ _ _ (@ps_for _ _ _ _ _ _ _ _ PassesOwn.never rfl (pi_seqK (K := K) rfl (@pe_tup _ _ _ _ _ (@pa_cons _ _ _ _ _ (@pe_tup _ _ _ _ _ (@pa_cons _ _ _ _ _ (pv 2) (@pa_cons _ _ _ _ _ (@pe_callB _ _ _ _ _ _ _ _ _ (call_lenK (K := K) rfl) (by rfl) T.n_len bt_len (@pa_cons _ _ _ _ _ (pv 0) pa_nil (by rfl)) (by decide) (by decide) (by rfl) (by rfl)) pa_nil star_call) (by rfl))) (@pa_cons _ _ _ _ _ (@pe_tup _ _ _ _ _ (@pa_cons _ _ _ _ _ (pv 3) (@pa_cons _ _ _ _ _ (@pe_callB _ _ _ _ _ _ _ _ _ (call_lenK (K := K) rfl) (by rfl) T.n_len bt_len (@pa_cons _ _ _ _ _ (@pe_ix _ _ _ _ _ _ _ (ix_seqK (K := K) rfl) (pv 0) pe_int (fun _ _ => rfl)) pa_nil star_sub) (by decide) (by decide) (by rfl) (by rfl)) pa_nil star_call) (by rfl))) pa_nil star_tup) star_tup))) (pg_tupK (K := K) rfl rfl (pgs_cons (pg_name (i := 5) sc_law_stood.nd rfl (by first | exact Or.inl rfl | exact Or.inr rfl)) (pgs_cons (pg_name (i := 6) sc_law_stood.nd rfl (by first | exact Or.inl rfl | exact Or.inr rfl)) pgs_nil))) (@pss_cons _ _ _ _ _ (@ps_if _ _ _ _ _ _ _ _ (@pt_cmpR _ _ _ _ _ _ _ _ (op_eqA hr.units) (pv 1) pe_str (nomark _)) (@pss_one _ _ _ (@ps_set _ _ 5 _ _ _ _ sc_law_stood.nd rfl (by first | exact Or.inl rfl | exact Or.inr rfl) (@pe_ix _ _ _ _ _ _ _ (ix_seqK (K := K) rfl) (@pe_callB _ _ _ _ _ _ _ _ _ call_sorted (by rfl) T.n_sorted bt_sorted (@pa_cons _ _ _ _ _ (@pe_lst _ _ _ _ (@pa_cons _ _ _ _ _ pe_int (@pa_cons _ _ _ _ _ (pv 5) (@pa_cons _ _ _ _ _ (@pe_op _ _ _ _ _ _ _ _ op_sub (pv 6) pe_int) pa_nil star_bin) (by rfl)) (by rfl))) pa_nil star_lst) (by decide) (by decide) (by rfl) (by rfl)) pe_int (fun _ _ => rfl)) (by rfl) (by first | exact .inl rfl | exact .inr rfl))) pss_nil)
      (@pss_cons _ _ _ _ _ (@ps_if _ _ _ _ _ _ _ _ (@pt_cmpR _ _ _ _ _ _ _ _ (op_eqA hr.units) (pv 1) pe_str (nomark _)) (@pss_one _ _ _ (@ps_set _ _ 5 _ _ _ _ sc_law_stood.nd rfl (by first | exact Or.inl rfl | exact Or.inr rfl) (@pe_op _ _ _ _ _ _ _ _ op_sub (pv 5) (@pe_op _ _ _ _ _ _ _ _ op_mul (@pe_op _ _ _ _ _ _ _ _ op_fdivB (pv 5) (pv 6)) (pv 6))) (by rfl) (by first | exact .inl rfl | exact .inr rfl))) pss_nil)
      (@pss_cons _ _ _ _ _ (@ps_if _ _ _ _ _ _ _ _ (@pt_cmpR _ _ _ _ _ _ _ _ (op_eqA hr.units) (pv 1) pe_str (nomark _)) (@pss_one _ _ _ (@ps_while _ _ _ _ _ _ PassesOwn.never (pw_or (@pt_cmpR _ _ _ _ _ _ _ _ op_lt (pv 5) pe_int (nomark _)) (pw_or1 (@pt_cmpR _ _ _ _ _ _ _ _ op_ge (pv 5) (pv 6) (nomark _)))).pt (@pss_one _ _ _ (@ps_set _ _ 5 _ _ _ _ sc_law_stood.nd rfl (by first | exact Or.inl rfl | exact Or.inr rfl) (@pe_ix _ _ _ _ _ _ _ (ix_seqK (K := K) rfl) (@pe_lst _ _ _ _ (@pa_cons _ _ _ _ _ (@pe_op _ _ _ _ _ _ _ _ op_sub (@pe_op _ _ _ _ _ _ _ _ op_sub pe_int pe_int) (pv 5)) (@pa_cons _ _ _ _ _ (@pe_op _ _ _ _ _ _ _ _ op_sub (@pe_op _ _ _ _ _ _ _ _ op_sub (@pe_op _ _ _ _ _ _ _ _ op_mul pe_int (pv 6)) pe_int) (pv 5)) pa_nil star_bin) star_bin)) (@pe_callTy _ _ _ _ _ _ _ _ _ call_int1 (by rfl) T.n_int bt_int (@pa_cons _ _ _ _ _ (@pe_cmpR _ _ _ _ _ _ _ _ op_ge (pv 5) (pv 6) (nomark _)) pa_nil star_cmp) (by decide) (by decide) (by rfl) (by rfl)) (fun _ _ => rfl)) (by rfl) (by first | exact .inl rfl | exact .inr rfl))))) pss_nil)
      (@pss_cons _ _ _ _ _ (@ps_if _ _ _ _ _ _ _ _ (pw_or (@pt_cmpR _ _ _ _ _ _ _ _ op_lt (pv 5) pe_int (nomark _)) (pw_or1 (@pt_cmpR _ _ _ _ _ _ _ _ op_ge (pv 5) (pv 6) (nomark _)))).pt (@pss_one _ _ _ (@ps_ret _ _ _ _ (@pe_ix _ _ _ _ _ _ _ (ix_seqK (K := K) rfl) (@pe_lst _ _ _ _ (@pa_cons _ _ _ _ _ (@pe_tup _ _ _ _ _ pa_nil) (@pa_cons _ _ _ _ _ (pe_slice (SlR.or (sl_X (K := K) rfl) sl_str1) (pv 1) (po_some pe_int) po_none) pa_nil star_sub) star_tup)) (@pe_callTy _ _ _ _ _ _ _ _ _ call_int1 (by rfl) T.n_int bt_int (@pa_cons _ _ _ _ _ (@pe_callB _ _ _ _ _ _ _ _ _ (call_isinstK (K := K) rfl) (by rfl) T.n_isinstance bt_isinstance (@pa_cons _ _ _ _ _ (pv 1) (@pa_cons _ _ _ _ _ (pe_bltn (v := .ty "tuple") (by rfl) T.n_tuple bt_tuple rfl) pa_nil (by rfl)) (by rfl)) (by decide) (by decide) (by rfl) (by rfl)) pa_nil star_call) (by decide) (by decide) (by rfl) (by rfl)) (fun _ _ => rfl)))) pss_nil)
      (@pss_one _ _ _ (@ps_expr _ _ _ _ (pe_bm PySem.F.plainAttrs_list PySem.F.slot_list_append PySem.F.type_list_append mt_append (pv 4) (@pa_cons _ _ _ _ _ (pv 5) pa_nil (by rfl))) (by rfl))))))) (by intro _; rfl))
      (@pss_one _ _ _ (@ps_ret _ _ _ _ (@pe_tup _ _ _ _ _ (@pa_cons _ _ _ _ _ (@pe_ix _ _ _ _ _ _ _ (ix_seqK (K := K) rfl) (@pe_ix _ _ _ _ _ _ _ (ix_seqK (K := K) rfl) (pv 0) (@pe_ix _ _ _ _ _ _ _ (ix_seqK (K := K) rfl) (pv 4) pe_int (fun _ _ => rfl)) (fun _ _ => rfl)) (@pe_ix _ _ _ _ _ _ _ (ix_seqK (K := K) rfl) (pv 4) pe_int (fun _ _ => rfl)) (fun _ _ => rfl)) pa_nil star_sub)))))), ?_⟩
    obtain ⟨fa, xs, rfl, hfa, hxs⟩ := isField_inv hf
    have lxs : xs.length = F.length := by rw [hxs.length, List.length_map]
    have h1 := R.h1; have hs := R.hs; have w1 := R.w1; have ws := R.ws
    obtain ⟨ra0, era0, hra0⟩ := isRows_get hxs (show 0 < F.length by omega)
    have eW : F[0].length = (F.headD []).length := R.row _ (List.getElem_mem _)
    refine ⟨(by show 0 ≤ sizeLine; decide), fun c hc => ?_⟩
    have s1 := same_upd (o := .lst []) hc
    have e1 : upd H c (.lst []) c = some (.lst []) := upd_same
    have oldne : ∀ b o, H b = some o → b ≠ c := fun b o e => ne_of_none e hc
    generalize upd H c (.lst []) = H1 at s1 e1 ⊢
    refine Or.inr ?_
    refine ⟨_, rfl, _, rfl, _, _, rfl, Or.inr ⟨_, SqT.of (s1 _ _ hfa), rfl⟩, (by show 2 ≤ sizeLine; decide), fun t1 ht1 => ?_⟩
    have st1 := same_upd (o := .tup [.int i, .int (xs.length : Int)]) ht1
    refine ⟨_, rfl, _, rfl, Or.inr (Or.inl ⟨_, _, _, _, rfl, rfl, SqT.of (st1 _ _ (s1 _ _ hfa)), atI_nat era0, _, _, rfl, Or.inr ⟨_, SqT.of (st1 _ _ (s1 _ _ hra0)), rfl⟩, (by show 2 ≤ sizeLine; decide), fun t2 ht2 => ?_⟩)⟩
    have st2 := same_upd (o := .tup [.int j, .int ((F[0].map cellV).length : Int)]) ht2
    refine ⟨(by show 2 ≤ sizeLine; decide), fun t3 ht3 => ?_⟩
    have st3 := same_upd (o := .tup [.ref t1, .ref t2]) ht3
    have s13 := (st1.trans st2).trans st3
    have g1 := (st2.trans st3) _ _ (upd_same (H := H1) (a := t1) (o := .tup [.int i, .int (xs.length : Int)]))
    have g2 := st3 _ _ (upd_same (H := upd H1 t1 (.tup [.int i, .int (xs.length : Int)])) (a := t2) (o := .tup [.int j, .int ((F[0].map cellV).length : Int)]))
    have g3 : upd (upd (upd H1 t1 (.tup [.int i, .int (xs.length : Int)])) t2 (.tup [.int j, .int ((F[0].map cellV).length : Int)])) t3 (.tup [.ref t1, .ref t2]) t3 = some (.tup [.ref t1, .ref t2]) := upd_same
    have e3 := s13 _ _ e1
    have S3 := s1.trans s13
    generalize upd (upd (upd H1 t1 (.tup [.int i, .int (xs.length : Int)])) t2 (.tup [.int j, .int ((F[0].map cellV).length : Int)])) t3 (.tup [.ref t1, .ref t2]) = H3 at g1 g2 g3 e3 S3 ⊢
    rw [lxs] at g1
    rw [List.length_map, eW] at g2
    have keepH : ∀ {H' : Hp}, KeepBut c H3 H' → Same H H' := fun k b o e => k b o (S3 b o e) (oldne b o e)
    have gone : (lawAt ru i F.length = -1 ∨ lawAt ru j (F.headD []).length = -1) → (ru = .there ∧ stands F ru i j = []) ∨ ∃ c, ru = .told c ∧ stands F ru i j = [c] := fun h => by
      rcases law_cases R ru i j with ⟨r, c', a1, a2, r0, _, c0, _, _⟩ | ⟨_, y⟩
      · omega
      · exact y
    refine ⟨t3, rfl, ⟨_, SqT.of g3⟩, for_tup (xs := [.ref t1, .ref t2]) (fun k σ H' => ∃ (v5 v6 : Option V), σ = [some (.ref fa), some rv, some (.int i), some (.int j), some (.ref c), v5, v6] ∧ KeepBut c H3 H' ∧ H' c = some (.lst ((([stAt ru i F.length, stAt ru j (F.headD []).length] : List Int).take k).map V.int)) ∧ (1 ≤ k → 0 ≤ stAt ru i F.length ∧ stAt ru i F.length < F.length) ∧ (2 ≤ k → 0 ≤ stAt ru j (F.headD []).length ∧ stAt ru j (F.headD []).length < (F.headD []).length)) ⟨none, none, rfl, KeepBut.refl _ _, e3, fun h => by omega, fun h => by omega⟩ (fun k σ H' _ ⟨_, _, _, k', _⟩ => SqT.of (k' _ _ g3 (ne_of g3 e3 fun z => by cases z))) ?_ ?_⟩
    · rintro k x _ H4 hx ⟨v5, v6, rfl, k4, hc4, b1, b2⟩
      obtain ⟨t, p, n, rfl, ht, n1, n2, hin, hout⟩ : ∃ (t : Addr) (p n : Int), x = .ref t ∧ H4 t = some (.tup [.int p, .int n]) ∧ 1 ≤ n ∧ n < 2 ^ 40 ∧ (0 ≤ stAt ru p n → stAt ru p n < n → (([stAt ru i F.length, stAt ru j (F.headD []).length] : List Int).take (k + 1)) = (([stAt ru i F.length, stAt ru j (F.headD []).length] : List Int).take k) ++ [stAt ru p n] ∧ (1 ≤ k + 1 → 0 ≤ stAt ru i F.length ∧ stAt ru i F.length < F.length) ∧ (2 ≤ k + 1 → 0 ≤ stAt ru j (F.headD []).length ∧ stAt ru j (F.headD []).length < (F.headD []).length)) ∧ ((stAt ru p n < 0 ∨ n ≤ stAt ru p n) → (ru = .there ∧ stands F ru i j = []) ∨ ∃ c, ru = .told c ∧ stands F ru i j = [c]) := by
        match k, hx with
        | 0, hx =>
          obtain rfl : V.ref t1 = x := Option.some.inj hx
          refine ⟨t1, i, F.length, rfl, k4 _ _ g1 (ne_of g1 e3 fun z => by cases z), by omega, by omega, fun y1 y2 => ⟨rfl, fun _ => ⟨y1, y2⟩, fun h => by omega⟩, fun h => gone (.inl ?_)⟩
          rcases st_law (ru := ru) (p := i) (n := F.length) (by omega) with ⟨y1, y2, _⟩ | ⟨_, y⟩
          · omega
          · exact y
        | 1, hx =>
          obtain rfl : V.ref t2 = x := Option.some.inj hx
          refine ⟨t2, j, (F.headD []).length, rfl, k4 _ _ g2 (ne_of g2 e3 fun z => by cases z), by omega, by omega, fun y1 y2 => ⟨rfl, fun _ => b1 (by omega), fun _ => ⟨y1, y2⟩⟩, fun h => gone (.inr ?_)⟩
          rcases st_law (ru := ru) (p := j) (n := (F.headD []).length) (by omega) with ⟨y1, y2, _⟩ | ⟨_, y⟩
          · omega
          · exact y
      have hru4 := hru.keep (keepH k4).tups
      have k34 : KeepBut c H3 H4 := k4
      refine ⟨_, _, rfl, SqT.of ht, rfl, _, _, rfl, _, _, rfl, rfl, ?_⟩
      dsimp only [gName, List.set]
      refine tSeq_cut (fun σ' H' => σ' = [some (.ref fa), some rv, some (.int i), some (.int j), some (.ref c), some (.int (stN ru p n)), some (.int n)] ∧ Same H4 H') ?_ (fun rest => ?_)
      rotate_left
      · refine ⟨_, rfl, eq_rule hru4 (by decide +kernel) ⟨_, rfl, ite2 (fun z => ?_) (fun z => ?_)⟩⟩
        · obtain rfl := (ri_near ru).mp z
          refine ⟨_, rfl, _, rfl, _, _, rfl, rfl, (by show 3 ≤ sizeLine; decide), fun l5 hl5 => ?_⟩
          have s5 := same_upd (o := .lst [.int 0, .int p, .int (n - 1)]) hl5
          refine ⟨l5, [0, p, n - 1], rfl, Or.inr upd_same, fun l6 hl6 => ?_⟩
          have s6 := same_upd (o := .lst ((sortI [0, p, n - 1]).map V.int)) hl6
          refine Or.inl ⟨_, _, _, _, rfl, rfl, SqL.of upd_same, atI_nat (j := 1) (by rw [List.getElem?_map, mid_near p n1]; rfl), ?_⟩
          exact rest _ _ ⟨rfl, s5.trans s6⟩
        · refine rest _ _ ⟨?_, Same.refl _⟩
          have : stN ru p n = p := by
            cases ru with
            | near => exact absurd ((ri_near .near).mpr rfl) z
            | _ => rfl
          rw [this]
      rintro _ H5 ⟨rfl, s5⟩
      have hru5 := hru4.keep s5.tups
      refine tSeq_cut (fun σ' H' => σ' = [some (.ref fa), some rv, some (.int i), some (.int j), some (.ref c), some (.int (stR ru p n)), some (.int n)] ∧ Same H4 H') ?_ (fun rest => ?_)
      rotate_left
      · refine ⟨_, rfl, eq_rule hru5 (by decide +kernel) ⟨_, rfl, ite2 (fun z => ?_) (fun z => ?_)⟩⟩
        · obtain rfl := (ri_round ru).mp z
          refine ⟨_, rfl, _, rfl, _, rfl, _, _, rfl, rfl, ⟨by omega, by omega⟩, _, rfl, _, _, rfl, rfl, Or.inr ⟨by omega, by omega⟩, _, _, rfl, rfl, ?_⟩
          refine rest _ _ ⟨?_, s5⟩
          show [some (V.ref fa), some rv, some (V.int i), some (V.int j), some (V.ref c), some (V.int (p - p / n * n)), some (V.int n)] = _
          rw [round_at]
          rfl
        · refine rest _ _ ⟨?_, s5⟩
          have : stR ru p n = stN ru p n := by
            cases ru with
            | round => exact absurd ((ri_round .round).mpr rfl) z
            | _ => rfl
          rw [this]
      rintro _ H6 ⟨rfl, s6⟩
      have hru6 := hru4.keep s6.tups
      refine tSeq_cut (fun σ' H' => σ' = [some (.ref fa), some rv, some (.int i), some (.int j), some (.ref c), some (.int (stAt ru p n)), some (.int n)] ∧ Same H4 H') ?_ (fun rest => ?_)
      rotate_left
      · refine ⟨_, rfl, eq_rule hru6 (by decide +kernel) ⟨_, rfl, ite2 (fun z => ?_) (fun z => ?_)⟩⟩
        · obtain rfl := (ri_turned ru).mp z
          refine while_at (fun σ H' => ∃ p1 : Int, σ = [some (.ref fa), some rv, some (.int i), some (.int j), some (.ref c), some (.int p1), some (.int n)] ∧ Same H4 H' ∧ led .turned p1 n = led .turned p n) (fun σ _ => match σ with | [_, _, _, _, _, some (.int p1), _] => stepM n p1 | _ => 0) ⟨p, rfl, s6, rfl⟩ ?_
          rintro _ H7 ⟨p1, rfl, s7, e7⟩
          refine tOr_at (decide (p1 < 0)) (decide (n ≤ p1)) (fun R h => ⟨_, rfl, _, _, rfl, rfl, _, rfl, h⟩) (fun R h => ⟨_, rfl, _, rfl, _, _, rfl, rfl, _, rfl, h⟩) ?_
          refine ite2 (fun z => ?_) (fun z => ?_)
          · have z' : p1 < 0 ∨ n ≤ p1 := by simpa using z
            refine ⟨fun σ' H' => ∃ p3 : Int, σ' = [some (.ref fa), some rv, some (.int i), some (.int j), some (.ref c), some (.int p3), some (.int n)] ∧ Same H4 H' ∧ led .turned p3 n = led .turned p1 n ∧ stepM n p3 < stepM n p1, ?_, ?_⟩
            · rintro _ H8 ⟨p3, rfl, s8, e8, l8⟩
              exact ⟨_, l8, rfl, p3, rfl, s8, e8.trans e7⟩
            · refine ⟨_, _, rfl, rfl, _, rfl, _, _, rfl, rfl, _, rfl, _, _, rfl, rfl, Or.inl ⟨by decide, by decide⟩, _, _, rfl, rfl, _, rfl, _, _, rfl, rfl, (by show 2 ≤ sizeLine; decide), fun l8 hl8 => ?_⟩
              have s8 := same_upd (o := .lst [.int (0 - 1 - p1), .int (2 * n - 1 - p1)]) hl8
              refine ⟨_, rfl, _, rfl, _, _, rfl, rfl, Or.inr ⟨_, rfl, ?_⟩⟩
              by_cases y : n ≤ p1
              · rw [decide_eq_true y]
                refine Or.inl ⟨_, _, _, _, rfl, rfl, SqL.of upd_same, rfl, ?_⟩
                refine ⟨2 * n - 1 - p1, rfl, s7.trans s8, led_turned' p1 n1, ?_⟩
                unfold stepM
                split <;> (try split) <;> omega
              · rw [decide_eq_false y]
                refine Or.inl ⟨_, _, _, _, rfl, rfl, SqL.of upd_same, rfl, ?_⟩
                refine ⟨0 - 1 - p1, rfl, s7.trans s8, ?_, ?_⟩
                · rw [show (0 : Int) - 1 - p1 = -1 - p1 by omega]; exact led_turned p1 n1
                · unfold stepM
                  split <;> (try split) <;> omega
          · have z' : ¬ (p1 < 0 ∨ n ≤ p1) := fun y => z (by simpa using y)
            refine rest _ _ ⟨?_, s7⟩
            have : stAt .turned p n = p1 := by
              show led .turned p n = p1
              rw [← e7]
              exact led_id _ (by omega) (by omega)
            rw [this]
        · refine rest _ _ ⟨?_, s6⟩
          have : stAt ru p n = stR ru p n := by
            cases ru with
            | turned => exact absurd ((ri_turned .turned).mpr rfl) z
            | _ => rfl
          rw [this]
      rintro _ H7 ⟨rfl, s7⟩
      have hru7 := hru4.keep s7.tups
      have K7 : KeepBut c H3 H7 := fun b o e n => s7 _ _ (k4 b o e n)
      have S7 := keepH K7
      have hc7 := s7 _ _ hc4
      refine tOr_at (decide (stAt ru p n < 0)) (decide (n ≤ stAt ru p n)) (fun R h => ⟨_, rfl, _, _, rfl, rfl, _, rfl, h⟩) (fun R h => ⟨_, rfl, _, rfl, _, _, rfl, rfl, _, rfl, h⟩) ?_
      refine ite2 (fun z => ?_) (fun z => ?_)
      · have z' : stAt ru p n < 0 ∨ n ≤ stAt ru p n := by simpa using z
        rcases hout z' with ⟨rfl, es⟩ | ⟨c', rfl, es⟩
        · rw [es] at q
          cases hru7
          refine ⟨(by show 0 ≤ sizeLine; decide), fun t8 ht8 => ?_⟩
          have s8 := same_upd (o := .tup []) ht8
          refine ⟨_, rfl, _, rfl, Or.inr ⟨"there", rfl, rfl, rfl, (by decide +kernel), (by decide +kernel), ?_⟩⟩
          refine ⟨(by show 2 ≤ sizeLine; decide), fun l9 hl9 => ?_⟩
          refine ⟨_, rfl, _, _, _, _, rfl, rfl, rfl, Or.inr ⟨_, rfl, ?_⟩⟩
          refine Or.inl ⟨_, _, _, _, rfl, rfl, SqL.of upd_same, rfl, ?_⟩
          exact q t8 _ ((S7.trans s8).trans (same_upd hl9)) (same_upd hl9 _ _ upd_same)
        · rw [es] at q
          obtain ⟨ta, txs, rfl, hta, htxs⟩ := hru7.tuple_inv
          cases htxs with
          | cons h1 h2 =>
            cases h2 with
            | cons h3 h4 =>
              cases h4
              cases h1
              rw [IsD.cell_inv h3] at hta
              refine ⟨(by show 0 ≤ sizeLine; decide), fun t8 ht8 => ?_⟩
              have s8 := same_upd (o := .tup []) ht8
              refine ⟨_, rfl, _, rfl, Or.inl (Or.inr ⟨ta, _, rfl, s8 _ _ hta, fun p9 H9 s9 hp9 => ?_⟩)⟩
              refine ⟨(by show 2 ≤ sizeLine; decide), fun l10 hl10 => ?_⟩
              have s10 := same_upd (o := .lst [.ref t8, .ref p9]) hl10
              refine ⟨_, rfl, _, _, _, _, rfl, Or.inl ⟨rfl, _, s10 _ _ (s9 _ _ (s8 _ _ hta))⟩, rfl, Or.inr ⟨_, rfl, ?_⟩⟩
              refine Or.inl ⟨_, _, _, _, rfl, rfl, SqL.of upd_same, rfl, ?_⟩
              exact q p9 _ (((S7.trans s8).trans s9).trans s10) (s10 _ _ hp9)
      · have z' : ¬ (stAt ru p n < 0 ∨ n ≤ stAt ru p n) := fun y => z (by simpa using y)
        obtain ⟨y1, y2, y3⟩ := hin (by omega) (by omega)
        refine ⟨_, rfl, Or.inl ⟨rfl, _, SqL.of hc7⟩, _, rfl, _, _, _, rfl, rfl, hc7, ?_, ?_⟩
        · rw [List.length_map, List.length_take]
          exact Nat.lt_of_le_of_lt (Nat.min_le_right _ _) (show 2 < sizeLine by decide)
        · refine ⟨_, _, rfl, fun b o e n => ?_, ?_, y2, y3⟩
          · rw [upd_ne n]; exact K7 b o e n
          · rw [upd_same, y1, List.map_append]
            rfl
    · rintro _ H4 ⟨v5, v6, rfl, k4, hc4, b1, b2⟩
      have S4 := keepH k4
      have hc4' : H4 c = some (.lst [.int (stAt ru i F.length), .int (stAt ru j (F.headD []).length)]) := hc4
      obtain ⟨r0, r1⟩ := b1 (by show 1 ≤ 2; decide)
      obtain ⟨c0, c1⟩ := b2 (by show 2 ≤ 2; decide)
      obtain ⟨a', xs', b, rr, e, ha', hab, hb', hbc, lr⟩ := field_cell R hf r0 r1 c0 c1
      cases e
      have es : stands F ru i j = [cellAt F (stAt ru i F.length) (stAt ru j (F.headD []).length)] := by
        rcases st_law (ru := ru) (p := i) (n := F.length) (by omega) with ⟨_, _, y⟩ | ⟨y, _⟩
        · rcases st_law (ru := ru) (p := j) (n := (F.headD []).length) (by omega) with ⟨_, _, y'⟩ | ⟨y', _⟩
          · rcases law_cases R ru i j with ⟨r, c', a1, a2, _, _, _, _, es⟩ | ⟨x, _⟩
            · rw [es, ← a1, ← a2, y, y']
            · omega
          · omega
        · omega
      rw [es] at q
      refine ⟨_, rfl, _, rfl, Or.inl ⟨_, _, _, _, rfl, rfl, SqL.of hc4', rfl, Or.inr (Or.inl ⟨_, _, _, _, rfl, rfl, SqT.of (S4 _ _ ha'), hab, ?_⟩)⟩⟩
      refine ⟨_, rfl, Or.inl ⟨_, _, _, _, rfl, rfl, SqL.of hc4', rfl, Or.inr (Or.inl ⟨_, _, _, _, rfl, rfl, SqT.of (S4 _ _ hb'), hbc, (by show 1 ≤ sizeLine; decide), fun p hp => ?_⟩)⟩⟩
      exact q p _ (S4.trans (same_upd hp)) upd_same
theorem k2_fresh {d c p : Addr} {H H1 : Hp} {n : Nat} (k : K2 d c H H1) (D : Dk H1 d c n) (hp : H1 p = none) : H p = none := by
  have nb := D.nd hp
  cases e : H p with
  | none => rfl
  | some o => rw [k p o e nb.1 nb.2] at hp; cases hp
def spCounts22 : Sp := fun vs H Q _ => ∃ (d e wa : Addr) (kinds : Int) (n u dn l r : Nat), vs = [.ref d, .ref wa, .int kinds] ∧ Dk H d e n ∧ n ≤ 100000 ∧ H wa = some (.tup [.int (u : Int), .int (dn : Int), .int (l : Int), .int (r : Int)]) ∧ (u ≤ 6 ∧ dn ≤ 6 ∧ l ≤ 6 ∧ r ≤ 6) ∧ 1 ≤ kinds ∧ kinds ≤ 4 ∧
  ∀ (v : V) (C : List (List Int)) (H' : Hp), IsD H' v (cntsD C) → CntOk C (u + dn + 1) (l + r + 1) → Dk H' d e (n + 400) → K2 d e H H' → Q v H'
theorem df_law_counts (T : Txt K mg) : Df P w K mg base 2 "_law_counts" ["deck", "pane", "kinds"] spCounts22 := by
  refine T.d_law_counts.ok sc_law_counts (fun vs H Q E h => ?_) (fun f cdv A outer s H vs Q E hr h => ?_)
  · obtain ⟨d, e, wa, kinds, n, u, dn, l, r, rfl, _⟩ := h
    rfl
  · obtain ⟨d, e, wa, kinds, n, u, dn, l, r, rfl, D, hn, hwa, bb, hk1, hk4, q⟩ := h
    refine ⟨_, (@pss_cons _ _ _ _ _ (@ps_asg _ _ _ _ _ _ (pv 1) (pg_tupK (K := K) rfl rfl (pgs_cons (pg_name (i := 3) sc_law_counts.nd rfl (by first | exact Or.inl rfl | exact Or.inr rfl)) (pgs_cons (pg_name (i := 4) sc_law_counts.nd rfl (by first | exact Or.inl rfl | exact Or.inr rfl)) (pgs_cons (pg_name (i := 5) sc_law_counts.nd rfl (by first | exact Or.inl rfl | exact Or.inr rfl)) (pgs_cons (pg_name (i := 6) sc_law_counts.nd rfl (by first | exact Or.inl rfl | exact Or.inr rfl)) pgs_nil))))) (by rfl) (by rfl) (by rfl))
      (@pss_cons _ _ _ _ _ (@ps_set _ _ 7 _ _ _ _ sc_law_counts.nd rfl (by first | exact Or.inl rfl | exact Or.inr rfl) (@pe_ix _ _ _ _ _ _ _ (ix_seqK (K := K) rfl) (@pe_lst _ _ _ _ (@pa_cons _ _ _ _ _ pe_int (@pa_cons _ _ _ _ _ pe_int (@pa_cons _ _ _ _ _ pe_int (@pa_cons _ _ _ _ _ pe_int pa_nil (by rfl)) (by rfl)) (by rfl)) (by rfl))) (@pe_df _ _ _ _ _ _ _ _ _ _ (df_law_draw T) (hr.mono (by decide)) (@pa_cons _ _ _ _ _ (pv 0) (@pa_cons _ _ _ _ _ (pv 2) pa_nil (by rfl)) (by rfl)) (by rfl) (by decide) (by rfl) (by rfl)) (fun _ _ => rfl)) (by rfl) (by first | exact .inl rfl | exact .inr rfl))
      (@pss_cons _ _ _ _ _ (@ps_set _ _ 8 _ _ _ _ sc_law_counts.nd rfl (by first | exact Or.inl rfl | exact Or.inr rfl) (@pe_lst _ _ _ _ pa_nil) (by rfl) (by first | exact .inl rfl | exact .inr rfl))
      (@pss_cons _ _ _ _ _ (@ps_for _ _ _ _ _ _ _ _ PassesOwn.never rfl (pi_range1 (by rfl) T.n_range (@pa_cons _ _ _ _ _ (@pe_op _ _ _ _ _ _ _ _ op_add (@pe_op _ _ _ _ _ _ _ _ op_add (pv 3) (pv 4)) pe_int) pa_nil star_bin)) (pg_name (i := 9) sc_law_counts.nd rfl (by first | exact Or.inl rfl | exact Or.inr rfl)) (@pss_one _ _ _ (@ps_expr _ _ _ _ (pe_bm PySem.F.plainAttrs_list PySem.F.slot_list_append PySem.F.type_list_append mt_append (pv 8) (@pa_cons _ _ _ _ _ (@pe_callTy _ _ _ _ _ _ _ _ _ (call_tupleK (K := K) rfl) (by rfl) T.n_tuple bt_tuple (@pa_cons _ _ _ _ _ (pe_compIf (M := ["deck", "wide"]) (idx := [0, 7]) rfl (pi_range1 (by rfl) T.n_range (@pa_cons _ _ _ _ _ (@pe_op _ _ _ _ _ _ _ _ op_add (@pe_op _ _ _ _ _ _ _ _ op_add (pv 5) (pv 6)) pe_int) pa_nil star_bin)) (compOk (by kernel_rfl)) (by decide +kernel) (by first | exact Or.inl rfl | exact Or.inr rfl) (fun _ _ _ _ _ => pts_nil) (fun _ _ _ _ _ => (@pe_op _ _ _ _ _ _ _ _ op_mul (@pe_df _ _ _ _ _ _ _ _ _ _ (df_law_draw T) (hr.mono (by decide)) (@pa_cons _ _ _ _ _ (pv 1) (@pa_cons _ _ _ _ _ (pv 2) pa_nil (by rfl)) (by rfl)) (by rfl) (by decide) (by rfl) (by rfl)) (@pe_callTy _ _ _ _ _ _ _ _ _ call_int1 (by rfl) T.n_int bt_int (@pa_cons _ _ _ _ _ (@pe_cmpR _ _ _ _ _ _ _ _ op_gt (@pe_df _ _ _ _ _ _ _ _ _ _ (df_law_draw T) (hr.mono (by decide)) (@pa_cons _ _ _ _ _ (pv 1) (@pa_cons _ _ _ _ _ pe_int pa_nil (by rfl)) (by rfl)) (by rfl) (by decide) (by rfl) (by rfl)) pe_int (nomark _)) pa_nil star_cmp) (by decide) (by decide) (by rfl) (by rfl))))) pa_nil star_comp) (by decide) (by decide) (by rfl) (by rfl)) pa_nil star_call)) (by rfl))) (by intro _; rfl))
      (@pss_one _ _ _ (@ps_ret _ _ _ _ (@pe_callTy _ _ _ _ _ _ _ _ _ (call_tupleK (K := K) rfl) (by rfl) T.n_tuple bt_tuple (@pa_cons _ _ _ _ _ (pv 8) pa_nil (by rfl)) (by decide) (by decide) (by rfl) (by rfl)))))))), ?_⟩
    refine ⟨_, rfl, _, _, rfl, SqT.of hwa, rfl, ?_⟩
    refine ⟨_, _, rfl, _, _, rfl, _, _, rfl, _, _, rfl, rfl, ?_⟩
    dsimp only [gName, List.set, L2.start]
    refine ⟨(by show 4 ≤ sizeLine; decide), fun p1 hp1 => ?_⟩
    refine ⟨_, rfl, _, rfl, _, _, _, _, rfl, D.upd hp1, by omega, by omega, by omega, fun x2 H2 a2 b2 D2 k2 => ?_⟩
    obtain ⟨m, em, hm⟩ := pickI (x := x2) (ms := [2, 4, 100, 100]) a2 (show x2 < 4 by omega)
    have hm' : 2 ≤ m ∧ m ≤ 100 := by
      simp only [List.mem_cons, List.not_mem_nil, or_false] at hm
      omega
    refine Or.inl ⟨_, _, _, _, rfl, rfl, SqL.of (k2 p1 _ upd_same (D.nd hp1).1 (D.nd hp1).2), em, ?_⟩
    have K2a : K2 d e H H2 := ((same_upd (o := .lst [.int 2, .int 4, .int 100, .int 100]) hp1).k2 d e).trans k2
    refine ⟨(by show 0 ≤ sizeLine; decide), fun b hb => ?_⟩
    have s3 := same_upd (o := .lst []) hb
    have hb3 : upd H2 b (.lst []) b = some (.lst []) := upd_same
    have nb := D2.nd hb
    have D3 := D2.keep s3
    have K3 : K2 d e H (upd H2 b (.lst [])) := K2a.trans (s3.k2 d e)
    have fb := k2_fresh K2a D2 hb
    generalize upd H2 b (.lst []) = H3 at s3 hb3 D3 K3 ⊢
    dsimp only [gName, List.set]
    refine ⟨_, rfl, _, rfl, _, _, rfl, rfl, _, _, rfl, rfl, _, rfl, by omega, by omega, ?_⟩
    have eh : ((u : Int) + (dn : Int) + 1).toNat = u + dn + 1 := by omega
    rw [eh]
    refine for_range (n := u + dn + 1) (fun i σ H' => ∃ (v9 : Option V) (ys : List V) (C : List (List Int)), σ = [some (.ref d), some (.ref wa), some (.int kinds), some (.int (u : Int)), some (.int (dn : Int)), some (.int (l : Int)), some (.int (r : Int)), some (.int m), some (.ref b), v9] ∧ K2 d e H H' ∧ Dk H' d e (n + 1 + 26 * i) ∧ H' b = some (.lst ys) ∧ IsDs H' ys ((C.map fun r => r.map some).map rowD) ∧ C.length = i ∧ (∀ x ∈ C, x.length = l + r + 1 ∧ ∀ c ∈ x, 0 ≤ c ∧ c ≤ 400)) ⟨none, [], [], rfl, K3, D3, hb3, .nil, rfl, fun x hx => absurd hx (by simp)⟩ ?_ ?_
    · rintro i _ H4 hi ⟨v9, ys, C, rfl, K4, D4, hb4, hys, lC, hC⟩
      have hi' : i < u + dn + 1 := hi
      refine ⟨_, rfl, Or.inl ⟨rfl, _, SqL.of hb4⟩, ?_⟩
      refine ⟨_, rfl, _, rfl, _, _, rfl, rfl, _, _, rfl, rfl, _, rfl, by omega, by omega, ?_⟩
      have ew : ((l : Int) + (r : Int) + 1).toNat = l + r + 1 := by omega
      rw [ew]
      refine compW_range (n := l + r + 1) (fun j zs H' => K2 d e H4 H' ∧ Dk H' d e (n + 1 + 26 * i + 2 * j) ∧ ∃ cs : List Int, zs = cs.map V.int ∧ cs.length = j ∧ ∀ c ∈ cs, 0 ≤ c ∧ c ≤ 400) ⟨K2.refl _ _ _, D4, [], rfl, rfl, fun c hc => absurd hc (by simp)⟩ (Nat.le_trans (show l + r + 1 ≤ 100 by omega) (by decide)) ?_ ?_
      · rintro j zs H5 hj ⟨k5, D5, cs, rfl, lcs, hcs⟩
        have hj' : j < l + r + 1 := hj
        refine oneT ?_
        refine ⟨_, rfl, _, rfl, _, _, _, _, rfl, D5, by omega, by omega, by omega, fun x6 H6 a6 b6 D6 k6 => ?_⟩
        refine ⟨_, rfl, _, _, _, _, rfl, D6, (by decide), (by decide), by omega, fun x7 H7 a7 b7 D7 k7 => ?_⟩
        refine ⟨_, _, rfl, rfl, Or.inr ⟨_, rfl, _, _, rfl, rfl, Or.inl ⟨by omega, by omega⟩, ?_⟩⟩
        obtain ⟨c, ec, hc⟩ : ∃ c : Int, x6 * (if decide (0 < x7) = true then (1 : Int) else 0) = c ∧ 0 ≤ c ∧ c ≤ 400 := by
          by_cases z : 0 < x7
          · exact ⟨x6, by rw [decide_eq_true z]; simp, by omega⟩
          · exact ⟨0, by rw [decide_eq_false z]; simp, by omega⟩
        dsimp only
        rw [ec]
        refine ⟨(k5.trans k6).trans k7, D7.mono (by omega), cs ++ [c], by rw [List.map_append]; rfl, by rw [List.length_append, lcs]; rfl, fun y hy => ?_⟩
        rcases List.mem_append.mp hy with g | g
        · exact hcs y g
        · rw [List.mem_singleton.mp g]; exact hc
      · rintro zs H5 ⟨k5, D5, cs, rfl, lcs, hcs⟩ l6 hl6
        refine ⟨_, _, rfl, Or.inl ⟨SqL.of upd_same, fun t7 ht7 => ?_⟩⟩
        have st := (same_upd (o := .lst (cs.map V.int)) hl6).trans (same_upd (o := .tup (cs.map V.int)) ht7)
        have hb5 := k5 _ _ hb4 nb.1 nb.2
        have hb7 := st _ _ hb5
        have ly : ys.length = i := by rw [hys.length, List.length_map, List.length_map, lC]
        refine ⟨_, _, _, rfl, rfl, hb7, (by rw [ly]; exact Nat.lt_of_lt_of_le (show i < 101 by omega) (by decide)), ?_⟩
        have tb : t7 ≠ b := (ne_of_none ((same_upd (o := .lst (cs.map V.int)) hl6) _ _ hb5) ht7).symm
        have D8 : Dk (upd (upd (upd H5 l6 (.lst (cs.map V.int))) t7 (.tup (cs.map V.int))) b (.lst (ys ++ [.ref t7]))) d e (n + 1 + 26 * (i + 1)) := by
          obtain ⟨ne', ns', a', t', g1, g2, g3⟩ := D5.keep st
          refine (⟨ne', ns', a', t', ?_, ?_, g3⟩ : Dk _ d e _).mono (by omega)
          · rw [upd_ne nb.1.symm]; exact g1
          · rw [upd_ne nb.2.symm]; exact g2
        refine ⟨_, ys ++ [.ref t7], C ++ [cs], rfl, fun x o ex n1 n2 => ?_, D8, upd_same, ?_, by rw [List.length_append, lC]; rfl, fun x hx => ?_⟩
        · rw [upd_ne (ne_of_none ex fb)]
          exact st _ _ (k5 _ _ (K4 _ _ ex n1 n2) n1 n2)
        · rw [List.map_append, List.map_append]
          have kt : ∀ x zs, H4 x = some (.tup zs) → upd (upd (upd H5 l6 (.lst (cs.map V.int))) t7 (.tup (cs.map V.int))) b (.lst (ys ++ [.ref t7])) x = some (.tup zs) := fun x zs ex => by
            rw [upd_ne (ne_of ex hb4 fun z => by cases z)]
            exact st _ _ ((k5.tups D4) _ _ ex)
          refine (hys.keep kt).append (.cons (.tup (xs := cs.map V.int) (by rw [upd_ne tb]; exact upd_same) ?_) .nil)
          rw [cells_of]; exact isCells _
        · rcases List.mem_append.mp hx with g | g
          · exact hC x g
          · rw [List.mem_singleton.mp g]; exact ⟨lcs, hcs⟩
    · rintro _ H4 ⟨v9, ys, C, rfl, K4, D4, hb4, hys, lC, hC⟩
      refine ⟨_, rfl, _, _, rfl, Or.inl ⟨SqL.of hb4, fun t9 ht9 => ?_⟩⟩
      have st := same_upd (o := .tup ys) ht9
      exact q (.ref t9) C _ (.tup upd_same (hys.keep st.tups)) ⟨lC, fun x hx => (hC x hx).1, fun x hx => (hC x hx).2⟩ ((D4.keep st).mono (by omega)) (K4.trans (st.k2 d e))
def spr (ps : List MwSortR.Pr) : List Int := ps.flatMap fun t => List.replicate t.2.2.toNat t.2.1
theorem spr_app (a b : List MwSortR.Pr) : spr (a ++ b) = spr a ++ spr b := List.flatMap_append ..
theorem spr_one (t : MwSortR.Pr) : spr [t] = List.replicate t.2.2.toNat t.2.1 := List.flatMap_singleton ..
def cSum (ps : List MwSortR.Pr) : Int := (ps.map fun t => t.2.2).sum
theorem spr_len : ∀ {ps : List MwSortR.Pr}, (∀ t ∈ ps, 0 ≤ t.2.2) → ((spr ps).length : Int) = cSum ps
  | [], _ => rfl
  | t :: ps, h => by
    have ih := spr_len fun x hx => h x (List.mem_cons_of_mem _ hx)
    have h0 := h t List.mem_cons_self
    rw [show t :: ps = [t] ++ ps from rfl, spr_app, spr_one, List.length_append, List.length_replicate]
    unfold cSum at ih ⊢
    rw [List.map_append, List.sum_append]
    show _ = [t.2.2].sum + _
    rw [List.sum_singleton]
    omega
theorem spr_sorted : ∀ {ps : List MwSortR.Pr}, (∀ t ∈ ps, 0 ≤ t.2.2 ∧ t.2.2 < 1000) → ps.Pairwise (fun x y => MwSortR.rk x ≤ MwSortR.rk y) → (spr ps).Pairwise (· ≤ ·)
  | [], _, _ => List.Pairwise.nil
  | t :: ps, h, hp => by
    obtain ⟨h1, h2⟩ := List.pairwise_cons.mp hp
    have b0 := h t List.mem_cons_self
    rw [show t :: ps = [t] ++ ps from rfl, spr_app, spr_one, List.pairwise_append]
    refine ⟨List.pairwise_replicate.mpr (Or.inr (Int.le_refl _)), spr_sorted (fun x hx => h x (List.mem_cons_of_mem _ hx)) h2, fun p hp q hq => ?_⟩
    rw [List.eq_of_mem_replicate hp]
    obtain ⟨x, hx, hq⟩ := List.mem_flatMap.mp hq
    rw [List.eq_of_mem_replicate hq]
    have := h1 x hx
    have b1 := h x (List.mem_cons_of_mem _ hx)
    unfold MwSortR.rk at this
    omega
theorem spr_perm {a b : List MwSortR.Pr} (h : a.Perm b) : (spr a).Perm (spr b) := h.flatMap_right _
theorem spr_at {ps : List MwSortR.Pr} {k n : Nat} (hk : k < ps.length) (h1 : (spr (ps.take k)).length ≤ n) (h2 : n < (spr (ps.take (k + 1))).length) : (spr ps)[n]? = some ps[k].2.1 := by
  have e : ps = ps.take (k + 1) ++ ps.drop (k + 1) := (List.take_append_drop _ _).symm
  have e2 : ps.take (k + 1) = ps.take k ++ [ps[k]] := by rw [List.take_succ_eq_append_getElem hk]
  have e3 : spr ps = spr (ps.take (k + 1)) ++ spr (ps.drop (k + 1)) := by rw [← spr_app, ← e]
  rw [e3, List.getElem?_append, if_pos h2, e2, spr_app, List.getElem?_append, if_neg (by omega), spr_one, List.getElem?_replicate, if_pos]
  rw [e2, spr_app, spr_one, List.length_append, List.length_replicate] at h2
  omega
structure PsOk (H : Hp) (ps : List MwSortR.Pr) : Prop where
  at_ : ∀ t ∈ ps, H t.1 = some (.tup [.int t.2.1, .int t.2.2])
  bd : ∀ t ∈ ps, 0 < t.2.2 ∧ t.2.2 ≤ 400
theorem PsOk.keep {H H' : Hp} {ps : List MwSortR.Pr} (h : PsOk H ps) (k : KeepT H H') : PsOk H' ps := ⟨fun t ht => k _ _ (h.at_ t ht), h.bd⟩
theorem PsOk.more {H : Hp} {ps : List MwSortR.Pr} (h : PsOk H ps) {t : MwSortR.Pr} (h1 : H t.1 = some (.tup [.int t.2.1, .int t.2.2])) (h2 : 0 < t.2.2 ∧ t.2.2 ≤ 400) : PsOk H (ps ++ [t]) := by
  refine ⟨fun x hx => ?_, fun x hx => ?_⟩
  · rcases List.mem_append.mp hx with g | g
    · exact h.at_ x g
    · rw [List.mem_singleton.mp g]; exact h1
  · rcases List.mem_append.mp hx with g | g
    · exact h.bd x g
    · rw [List.mem_singleton.mp g]; exact h2
def spDueAt22 : Sp := fun vs H Q _ => ∃ (fv rv : V) (wa ca sa : Addr) (F : List (List (Option Int))) (ru : Rule) (xs : List V) (C : List (List Int)) (u dn l r : Nat) (a b i j : Int), vs = [fv, .ref wa, .ref ca, rv, .ref sa, .int i, .int j] ∧ Rect F ∧ IsD H fv (fieldD F) ∧ H wa = some (.tup [.int (u : Int), .int (dn : Int), .int (l : Int), .int (r : Int)]) ∧ (u ≤ 6 ∧ dn ≤ 6 ∧ l ≤ 6 ∧ r ≤ 6) ∧ H ca = some (.tup xs) ∧ IsDs H xs ((C.map fun r => r.map some).map rowD) ∧ CntOk C (u + dn + 1) (l + r + 1) ∧ IsD H rv (ruleD ru) ∧ H sa = some (.tup [.int a, .int b]) ∧ Share a b ∧
  ∀ H', Same H H' → Q (cellV (manieth (wNums F ru C u dn l r i j) a b)) H'
theorem df_law_due_at (T : Txt K mg) : Df P w K mg base 3 "_law_due_at" ["plot", "pane", "tallied", "edge", "quota", "i", "j"] spDueAt22 := by
  refine T.d_law_due_at.ok sc_law_due_at (fun vs H Q E h => ?_) (fun f cdv A outer s H vs Q E hr h => ?_)
  · obtain ⟨fv, rv, wa, ca, sa, F, ru, xs, C, u, dn, l, r, a, b, i, j, rfl, _⟩ := h
    rfl
  · obtain ⟨fv, rv, wa, ca, sa, F, ru, xs, C, u, dn, l, r, a, b, i, j, rfl, R, hf, hwa, bb, hca, hxs, ok, hru, hsa, hS, q⟩ := h
    refine ⟨_, (@pss_cons _ _ _ _ _ (@ps_set _ _ 7 _ _ _ _ sc_law_due_at.nd rfl (by first | exact Or.inl rfl | exact Or.inr rfl) (@pe_lst _ _ _ _ pa_nil) (by rfl) (by first | exact .inl rfl | exact .inr rfl))
      (@pss_cons _ _ _ _ _ (@ps_for _ _ _ _ _ _ _ _ PassesOwn.never rfl (pi_enumT (by rfl) T.n_enumerate (@pa_cons _ _ _ _ _ (pv 2) pa_nil (by rfl))) (pg_tupK (K := K) rfl rfl (pgs_cons (pg_name (i := 8) sc_law_due_at.nd rfl (by first | exact Or.inl rfl | exact Or.inr rfl)) (pgs_cons (pg_name (i := 9) sc_law_due_at.nd rfl (by first | exact Or.inl rfl | exact Or.inr rfl)) pgs_nil))) (@pss_one _ _ _ (@ps_for _ _ _ _ _ _ _ _ PassesOwn.never rfl (pi_enumT (by rfl) T.n_enumerate (@pa_cons _ _ _ _ _ (pv 9) pa_nil (by rfl))) (pg_tupK (K := K) rfl rfl (pgs_cons (pg_name (i := 10) sc_law_due_at.nd rfl (by first | exact Or.inl rfl | exact Or.inr rfl)) (pgs_cons (pg_name (i := 11) sc_law_due_at.nd rfl (by first | exact Or.inl rfl | exact Or.inr rfl)) pgs_nil))) (@pss_one _ _ _ (@ps_for _ _ _ _ _ _ _ _ PassesOwn.never rfl (pi_seqK (K := K) rfl (@pe_df _ _ _ _ _ _ _ _ _ _ (df_law_stood T) (hr.mono (by decide)) (@pa_cons _ _ _ _ _ (pv 0) (@pa_cons _ _ _ _ _ (pv 3) (@pa_cons _ _ _ _ _ (@pe_op _ _ _ _ _ _ _ _ op_add (@pe_op _ _ _ _ _ _ _ _ op_sub (pv 5) (@pe_ix _ _ _ _ _ _ _ (ix_seqK (K := K) rfl) (pv 1) pe_int (fun _ _ => rfl))) (pv 8)) (@pa_cons _ _ _ _ _ (@pe_op _ _ _ _ _ _ _ _ op_add (@pe_op _ _ _ _ _ _ _ _ op_sub (pv 6) (@pe_ix _ _ _ _ _ _ _ (ix_seqK (K := K) rfl) (pv 1) pe_int (fun _ _ => rfl))) (pv 10)) pa_nil star_bin) star_bin) (by rfl)) (by rfl)) (by rfl) (by decide) (by rfl) (by rfl))) (pg_name (i := 12) sc_law_due_at.nd rfl (by first | exact Or.inl rfl | exact Or.inr rfl)) (@pss_one _ _ _ (@ps_if _ _ _ _ _ _ _ _ (pw_and (@pt_cmpR _ _ _ _ _ _ _ _ op_notN (pv 12) pe_non (nomark _)) (pw_and1 (@pt_cmpR _ _ _ _ _ _ _ _ op_gt (pv 11) pe_int (nomark _)))).pt (@pss_one _ _ _ (@ps_expr _ _ _ _ (pe_bm PySem.F.plainAttrs_list PySem.F.slot_list_append PySem.F.type_list_append mt_append (pv 7) (@pa_cons _ _ _ _ _ (@pe_tup _ _ _ _ _ (@pa_cons _ _ _ _ _ (pv 12) (@pa_cons _ _ _ _ _ (pv 11) pa_nil (by rfl)) (by rfl))) pa_nil star_tup)) (by rfl))) pss_nil)) (by intro _; rfl))) (by intro _; rfl))) (by intro _; rfl))
      (@pss_cons _ _ _ _ _ (@ps_set _ _ 13 _ _ _ _ sc_law_due_at.nd rfl (by first | exact Or.inl rfl | exact Or.inr rfl) (@pe_callB _ _ _ _ _ _ _ _ _ (call_sumK (K := K) rfl rfl) (by rfl) T.n_sum bt_sum (@pa_cons _ _ _ _ _ (pe_compIf2 (K := K) (M := []) (idx := []) rfl rfl (pi_seqK (K := K) rfl (pv 7)) (compOk (by kernel_rfl)) (by decide +kernel) (by first | exact Or.inl rfl | exact Or.inr rfl) (by first | exact Or.inl rfl | exact Or.inr rfl) (fun _ _ _ _ _ => pts_nil) (fun _ _ _ _ _ => (pv 1))) pa_nil star_comp) (by decide) (by decide) (by rfl) (by rfl)) (by rfl) (by first | exact .inl rfl | exact .inr rfl))
      (@pss_cons _ _ _ _ _ (@ps_if _ _ _ _ _ _ _ _ (@pt_cmpR _ _ _ _ _ _ _ _ (op_eqA hr.units) (pv 13) pe_int (nomark _)) (@pss_one _ _ _ (@ps_ret _ _ _ _ pe_non)) pss_nil)
      (@pss_cons _ _ _ _ _ (@ps_set _ _ 14 _ _ _ _ sc_law_due_at.nd rfl (by first | exact Or.inl rfl | exact Or.inr rfl) (@pe_op _ _ _ _ _ _ _ _ op_fdivB (@pe_op _ _ _ _ _ _ _ _ op_mul (@pe_ix _ _ _ _ _ _ _ (ix_seqK (K := K) rfl) (pv 4) pe_int (fun _ _ => rfl)) (@pe_op _ _ _ _ _ _ _ _ op_sub (pv 13) pe_int)) (@pe_ix _ _ _ _ _ _ _ (ix_seqK (K := K) rfl) (pv 4) pe_int (fun _ _ => rfl))) (by rfl) (by first | exact .inl rfl | exact .inr rfl))
      (@pss_cons _ _ _ _ _ (@ps_set _ _ 15 _ _ _ _ sc_law_due_at.nd rfl (by first | exact Or.inl rfl | exact Or.inr rfl) pe_int (by rfl) (by first | exact .inl rfl | exact .inr rfl))
      (@pss_cons _ _ _ _ _ (@ps_for _ _ _ _ _ _ _ _ PassesOwn.never rfl (pi_seqK (K := K) rfl (@pe_callB _ _ _ _ _ _ _ _ _ call_sortedP (by rfl) T.n_sorted bt_sorted (@pa_cons _ _ _ _ _ (pv 7) pa_nil (by rfl)) (by decide) (by decide) (by rfl) (by rfl))) (pg_tupK (K := K) rfl rfl (pgs_cons (pg_name (i := 12) sc_law_due_at.nd rfl (by first | exact Or.inl rfl | exact Or.inr rfl)) (pgs_cons (pg_name (i := 11) sc_law_due_at.nd rfl (by first | exact Or.inl rfl | exact Or.inr rfl)) pgs_nil))) (@pss_cons _ _ _ _ _ (@ps_set _ _ 15 _ _ _ _ sc_law_due_at.nd rfl (by first | exact Or.inl rfl | exact Or.inr rfl) (@pe_op _ _ _ _ _ _ _ _ op_add (pv 15) (pv 11)) (by rfl) (by first | exact .inl rfl | exact .inr rfl))
      (@pss_one _ _ _ (@ps_if _ _ _ _ _ _ _ _ (@pt_cmpR _ _ _ _ _ _ _ _ op_gt (pv 15) (pv 14) (nomark _)) (@pss_one _ _ _ (@ps_ret _ _ _ _ (pv 12))) pss_nil))) (by intro _; rfl))
      (@pss_one _ _ _ (@ps_ret _ _ _ _ pe_non))))))))), ?_⟩
    refine ⟨(by show 0 ≤ sizeLine; decide), fun c hc => ?_⟩
    have s1 := same_upd (o := .lst []) hc
    have oldne : ∀ x o, H x = some o → x ≠ c := fun x o e => ne_of_none e hc
    have keepH : ∀ {H' : Hp}, KeepBut c (upd H c (.lst [])) H' → Same H H' := fun k x o e => k x o (s1 x o e) (oldne x o e)
    have hc1 : upd H c (.lst []) c = some (.lst []) := upd_same
    generalize upd H c (.lst []) = H1 at s1 hc1 keepH ⊢
    dsimp only [gName, List.set, L2.start]
    refine ⟨_, rfl, ca, rfl, ⟨_, s1 _ _ hca⟩, ?_⟩
    have lxs : xs.length = u + dn + 1 := by rw [hxs.length, List.length_map, List.length_map]; exact ok.len
    refine for_enumT (xs := xs) (fun p σ H' => ∃ (v8 v9 v10 v11 v12 : Option V) (ps : List MwSortR.Pr), σ = [some fv, some (.ref wa), some (.ref ca), some rv, some (.ref sa), some (.int i), some (.int j), some (.ref c), v8, v9, v10, v11, v12, none, none, none] ∧ KeepBut c H1 H' ∧ H' c = some (.lst (ps.map fun t => V.ref t.1)) ∧ PsOk H' ps ∧ spr ps = ((List.range p).flatMap fun p => wRow F ru C l (i - u + (p : Nat)) j p (l + r + 1)) ∧ ps.length ≤ 20 * p) ⟨none, none, none, none, none, [], rfl, KeepBut.refl _ _, hc1, ⟨fun t ht => absurd ht (by simp), fun t ht => absurd ht (by simp)⟩, rfl, Nat.le_refl _⟩ ?_ ?_ ?_
    · rintro p _ H' _ ⟨_, _, _, _, _, _, _, kk, _⟩
      exact keepH kk _ _ hca
    · rintro p x _ H2 t hx ⟨v8, v9, v10, v11, v12, ps, rfl, k2, hc2, po, sp, lp⟩ ht
      have hp : p < u + dn + 1 := by have := (List.getElem?_eq_some_iff.mp hx).1; omega
      have hpC : p < C.length := by rw [ok.len]; exact hp
      obtain ⟨x', ex', hx'⟩ := hxs.get (i := p) (d := rowD (C[p].map some)) (by rw [List.getElem?_map, List.getElem?_map, List.getElem?_eq_getElem hpC]; rfl)
      obtain rfl : x = x' := by rw [hx] at ex'; exact Option.some.inj ex'
      obtain ⟨ra, rxs, rfl, hra, hrx⟩ := hx'.tuple_inv
      have erx := IsDs.cells_inv hrx
      subst erx
      have lrow : C[p].length = l + r + 1 := ok.row _ (List.getElem_mem _)
      have st := same_upd (o := .tup [.int (p : Int), .ref ra]) ht
      refine ⟨_, _, rfl, SqT.of upd_same, rfl, ?_⟩
      refine ⟨_, _, rfl, _, _, rfl, rfl, ?_⟩
      dsimp only [gName, List.set]
      have k3 : KeepBut c H1 (upd H2 t (.tup [.int (p : Int), .ref ra])) := k2.upd ht
      have hc3 := st _ _ hc2
      have po3 := po.keep st.tups
      generalize upd H2 t (.tup [.int (p : Int), .ref ra]) = H3 at st k3 hc3 po3 ⊢
      have hra3 := keepH k3 _ _ hra
      refine ⟨_, rfl, ra, rfl, ⟨_, hra3⟩, ?_⟩
      refine for_enumT (xs := (C[p].map some).map cellV) (fun m σ H' => ∃ (v10 v11 v12 : Option V) (ps : List MwSortR.Pr), σ = [some fv, some (.ref wa), some (.ref ca), some rv, some (.ref sa), some (.int i), some (.int j), some (.ref c), some (.int (p : Int)), some (.ref ra), v10, v11, v12, none, none, none] ∧ KeepBut c H1 H' ∧ H' c = some (.lst (ps.map fun t => V.ref t.1)) ∧ PsOk H' ps ∧ spr ps = ((List.range p).flatMap fun p => wRow F ru C l (i - u + (p : Nat)) j p (l + r + 1)) ++ wRow F ru C l (i - u + (p : Nat)) j p m ∧ ps.length ≤ 20 * p + m) ⟨v10, v11, v12, ps, rfl, k3, hc3, po3, by rw [sp]; exact (List.append_nil _).symm, lp⟩ ?_ ?_ ?_
      · rintro m _ H' _ ⟨_, _, _, _, _, kk, _⟩
        exact keepH kk _ _ hra
      · rintro m y _ H4 t4 hy ⟨v10, v11, v12, ps, rfl, k4, hc4, po4, sp4, lp4⟩ ht4
        have hm : m < l + r + 1 := by
          have := (List.getElem?_eq_some_iff.mp hy).1
          rw [List.length_map, List.length_map, lrow] at this
          exact this
        have ey : y = .int (cAt C p m) := by
          have e1 : ((C[p].map some).map cellV)[m]? = some (.int (cAt C p m)) := by
            rw [List.getElem?_map, List.getElem?_map, List.getElem?_eq_getElem (by rw [lrow]; exact hm)]
            unfold cAt
            rw [List.getElem?_eq_getElem hpC]
            show _ = some (V.int ((C[p][m]?).getD 0))
            rw [List.getElem?_eq_getElem (by rw [lrow]; exact hm)]
            rfl
          rw [hy] at e1
          exact Option.some.inj e1
        subst ey
        have cb := ok.at_ p m
        have st4 := same_upd (o := .tup [.int (m : Int), .int (cAt C p m)]) ht4
        refine ⟨_, _, rfl, SqT.of upd_same, rfl, ?_⟩
        refine ⟨_, _, rfl, _, _, rfl, rfl, ?_⟩
        dsimp only [gName, List.set]
        have k5 : KeepBut c H1 (upd H4 t4 (.tup [.int (m : Int), .int (cAt C p m)])) := k4.upd ht4
        have hc5 := st4 _ _ hc4
        have po5 := po4.keep st4.tups
        generalize upd H4 t4 (.tup [.int (m : Int), .int (cAt C p m)]) = H5 at st4 k5 hc5 po5 ⊢
        have S5 := keepH k5
        have ew : wRow F ru C l (i - u + (p : Nat)) j p (m + 1) = wRow F ru C l (i - u + (p : Nat)) j p m ++ wOne F ru (cAt C p m) (i - u + (p : Nat)) (j - l + (m : Nat)) := flatMap_succ _ _
        generalize cAt C p m = cc at cb ew
        refine Or.inr ⟨_, rfl, _, rfl, _, rfl, _, rfl, Or.inr (Or.inl ⟨_, _, _, _, rfl, rfl, SqT.of (S5 _ _ hwa), rfl, _, _, rfl, rfl, _, rfl, _, _, rfl, rfl, _, rfl, _, rfl, Or.inr (Or.inl ⟨_, _, _, _, rfl, rfl, SqT.of (S5 _ _ hwa), rfl, _, _, rfl, rfl, _, rfl, _, _, rfl, rfl, ?_⟩)⟩)⟩
        refine ⟨_, _, F, ru, _, _, rfl, R, hf.keep S5.tups, hru.keep S5.tups, fun p6 H6 s6 hp6 => ?_⟩
        refine ⟨p6, rfl, ⟨_, SqT.of hp6⟩, ?_⟩
        have hc6 := s6 _ _ hc5
        have z6 := stands_len F ru (i - u + ((p : Nat) : Int)) (j - l + ((m : Nat) : Int))
        have eo : wOne F ru cc (i - u + (p : Nat)) (j - l + (m : Nat)) = ((stands F ru (i - u + ((p : Nat) : Int)) (j - l + ((m : Nat) : Int))).filterMap id).flatMap fun x => List.replicate cc.toNat x := rfl
        rw [eo] at ew
        generalize stands F ru (i - u + ((p : Nat) : Int)) (j - l + ((m : Nat) : Int)) = S at hp6 z6 ew
        refine for_tup (xs := S.map cellV) (fun m' σ H' => ∃ (v12 : Option V) (ps : List MwSortR.Pr), σ = [some fv, some (.ref wa), some (.ref ca), some rv, some (.ref sa), some (.int i), some (.int j), some (.ref c), some (.int (p : Int)), some (.ref ra), some (.int (m : Int)), some (.int cc), v12, none, none, none] ∧ KeepBut c H6 H' ∧ H' c = some (.lst (ps.map fun t => V.ref t.1)) ∧ PsOk H' ps ∧ spr ps = (((List.range p).flatMap fun p => wRow F ru C l (i - u + (p : Nat)) j p (l + r + 1)) ++ wRow F ru C l (i - u + (p : Nat)) j p m) ++ ((S.take m').filterMap id).flatMap (fun x => List.replicate cc.toNat x) ∧ ps.length ≤ 20 * p + m + m') ⟨v12, ps, rfl, KeepBut.refl _ _, hc6, po5.keep s6.tups, by rw [sp4]; exact (List.append_nil _).symm, lp4⟩ (fun m' σ H' _ ⟨_, _, _, kk, _⟩ => SqT.of (kk _ _ hp6 (ne_of hp6 hc6 fun z => by cases z))) ?_ ?_
        · rintro m' y _ H7 hy ⟨v12, ps, rfl, k7, hc7, po7, sp7, lp7⟩
          obtain ⟨o, eo, rfl⟩ := cell_at hy
          have hm' : m' < 1 := by have := (List.getElem?_eq_some_iff.mp eo).1; omega
          dsimp only [gName, List.set]
          have eS : ((S.take (m' + 1)).filterMap id).flatMap (fun x => List.replicate cc.toNat x) = ((S.take m').filterMap id).flatMap (fun x => List.replicate cc.toNat x) ++ ([o].filterMap id).flatMap (fun x => List.replicate cc.toNat x) := by
            rw [List.take_add_one, eo, List.filterMap_append, List.flatMap_append]
            rfl
          rw [eS]
          cases o with
          | none =>
            refine ⟨_, rfl, rfl, _, rfl, iteF ?_⟩
            refine iteF ?_
            refine ⟨_, ps, rfl, k7, hc7, po7, ?_, by omega⟩
            rw [sp7]
            exact congrArg _ (List.append_nil _).symm
          | some n =>
            refine ⟨_, rfl, rfl, _, rfl, iteT ?_⟩
            refine ⟨_, rfl, _, _, rfl, rfl, _, rfl, ?_⟩
            have e1 : (([some n] : List (Option Int)).filterMap id).flatMap (fun x => List.replicate cc.toNat x) = List.replicate cc.toNat n := List.flatMap_singleton ..
            rw [e1]
            refine ite2 (fun z => ?_) (fun z => ?_)
            · have z' : 0 < cc := of_decide_eq_true z
              refine ⟨_, rfl, Or.inl ⟨rfl, _, SqL.of hc7⟩, ?_⟩
              refine ⟨_, rfl, _, rfl, (by show 2 ≤ sizeLine; decide), fun t8 ht8 => ?_⟩
              have st8 := same_upd (o := .tup [cellV (some n), .int cc]) ht8
              have hc8 := st8 _ _ hc7
              refine ⟨_, _, _, rfl, rfl, hc8, (by rw [List.length_map]; exact Nat.lt_of_le_of_lt (show ps.length ≤ 1000 by omega) (by decide)), ?_⟩
              have tc : t8 ≠ c := (ne_of_none hc7 ht8).symm
              have kt : KeepT H7 (upd (upd H7 t8 (.tup [cellV (some n), .int cc])) c (.lst (ps.map (fun t => V.ref t.1) ++ [.ref t8]))) := fun x zs ex => by
                rw [upd_ne (ne_of ex hc7 fun z => by cases z)]
                exact st8 _ _ ex
              refine ⟨_, ps ++ [(t8, n, cc)], rfl, fun x o ex nx => ?_, ?_, (po7.keep kt).more (by rw [upd_ne tc]; exact upd_same) ⟨z', cb.2⟩, ?_, by rw [List.length_append]; show ps.length + 1 ≤ _; omega⟩
              · rw [upd_ne nx]; exact st8 _ _ (k7 _ _ ex nx)
              · rw [List.map_append]; exact upd_same
              · rw [spr_app, spr_one, sp7, List.append_assoc]
            · have z' : ¬ 0 < cc := fun e => z (decide_eq_true e)
              refine ⟨_, ps, rfl, k7, hc7, po7, ?_, by omega⟩
              have e2 : cc.toNat = 0 := by omega
              rw [sp7, e2]
              exact congrArg _ (List.append_nil _).symm
        · rintro _ H7 ⟨v12, ps, rfl, k7, hc7, po7, sp7, lp7⟩
          rw [List.length_map] at sp7 lp7
          rw [List.take_length] at sp7
          refine ⟨_, _, _, ps, rfl, fun x o ex nx => k7 _ _ (s6 _ _ (k5 _ _ ex nx)) nx, hc7, po7, ?_, by omega⟩
          rw [sp7, ew, List.append_assoc]
      · rintro _ H4 ⟨v10, v11, v12, ps, rfl, k4, hc4, po4, sp4, lp4⟩
        rw [List.length_map, List.length_map, lrow] at sp4 lp4
        refine ⟨_, _, _, _, _, ps, rfl, k4, hc4, po4, ?_, by omega⟩
        rw [sp4, flatMap_succ]
    · rintro _ H2 ⟨v8, v9, v10, v11, v12, ps, rfl, k2, hc2, po, sp, lp⟩
      have S2 := keepH k2
      rw [lxs] at sp lp
      have sp' : spr ps = wNums F ru C u dn l r i j := sp
      rw [← sp'] at q
      have nn : ∀ t ∈ ps, 0 ≤ t.2.2 := fun t ht => Int.le_of_lt (po.bd t ht).1
      have sl := spr_len nn
      refine comp_seqV (K := K) (xs := ps.map fun t => V.ref t.1) (fun k h => ⟨_, rfl, h⟩) (.inr hc2) (fun k zs H' => H' = H2 ∧ zs = ((ps.take k).map fun t => t.2.2).map V.int) ⟨rfl, rfl⟩ (by rw [List.length_map]; exact Nat.le_trans (show ps.length ≤ 1000 by omega) (by decide)) (fun k zs H' _ ⟨e, _⟩ => by rw [e]) ?_ ?_
      · rintro k x zs _ hx ⟨rfl, rfl⟩
        have hk : k < ps.length := by have := (List.getElem?_eq_some_iff.mp hx).1; rw [List.length_map] at this; exact this
        rw [List.getElem?_map, List.getElem?_eq_getElem hk] at hx
        obtain rfl := Option.some.inj hx
        refine ⟨_, _, _, rfl, SqT.of (po.at_ _ (List.getElem_mem hk)), ?_⟩
        refine ⟨_, rfl, rfl, ?_⟩
        rw [List.take_succ_eq_append_getElem hk, List.map_append, List.map_append]
        rfl
      rintro zs H2 ⟨rfl, rfl⟩ l3 hl3
      rw [List.length_map, List.take_length]
      refine ⟨_, _, rfl, SqL.of upd_same, ?_⟩
      have s3 := same_upd (o := .lst ((ps.map fun t => t.2.2).map V.int)) hl3
      have hc3 := s3 _ _ hc2
      have po3 := po.keep s3.tups
      have S3 := S2.trans s3
      generalize upd H2 l3 (.lst ((ps.map fun t => t.2.2).map V.int)) = H3 at s3 hc3 po3 S3 ⊢
      have em : (ps.map fun t => t.2.2).sum = ((spr ps).length : Int) := sl.symm
      rw [em]
      dsimp only [gName, List.set]
      refine ⟨_, rfl, Or.inl ⟨rfl, _, rfl, ?_⟩⟩
      refine ite2 (fun z => ?_) (fun z => ?_)
      · have z' : (spr ps).length = 0 := by have := V.int.inj (of_decide_eq_true z); omega
        have := q H3 S3
        rw [List.length_eq_zero_iff.mp z', manieth_nil] at this
        exact this
      · have z' : 1 ≤ (spr ps).length := by
          rcases Nat.eq_zero_or_pos (spr ps).length with e | e
          · exact absurd (decide_eq_true (by rw [e]; rfl)) z
          · exact e
        have pb := place_bounds (n := (spr ps).length) hS z'
        obtain ⟨s1', s2', s3', s4'⟩ := id hS
        refine ⟨_, rfl, Or.inr (Or.inl ⟨_, _, _, _, rfl, rfl, SqT.of (S3 _ _ hsa), rfl, _, rfl, _, _, rfl, rfl, _, _, rfl, rfl, Or.inl ⟨by show -(2 ^ 64) < a; omega, by show a < 2 ^ 64; omega⟩, ?_⟩)⟩
        refine ⟨_, rfl, Or.inr (Or.inl ⟨_, _, _, _, rfl, rfl, SqT.of (S3 _ _ hsa), rfl, _, _, rfl, rfl, ⟨by show 0 < b; omega, by show b < 2 ^ 62; omega⟩, ?_⟩)⟩
        have ep : a * (((spr ps).length : Int) - 1) / b = L2.placeOf (spr ps).length a b := rfl
        dsimp only [gName, List.set]
        rw [ep]
        obtain ⟨pl, hpl⟩ : ∃ pl : Nat, L2.placeOf (spr ps).length a b = pl := ⟨(L2.placeOf (spr ps).length a b).toNat, by omega⟩
        rw [hpl] at pb ⊢
        refine Or.inl ⟨_, rfl, c, ps, rfl, hc3, fun t ht => ⟨po3.at_ t ht, nn t ht, by have := (po3.bd t ht).2; omega⟩, fun l4 out hl4 pm sr => ?_⟩
        have s4 := same_upd (o := .lst (out.map fun t => V.ref t.1)) hl4
        have S4 := S3.trans s4
        have bo : ∀ t ∈ out, 0 ≤ t.2.2 ∧ t.2.2 < 1000 := fun t ht => by have := po.bd t (pm.mem_iff.mp ht); omega
        have srt : sortI (spr ps) = spr out := (sortI_eq (spr_perm pm) (spr_sorted bo sr)).symm
        have lo : (spr out).length = (spr ps).length := (spr_perm pm).length_eq
        have po4 : ∀ t ∈ out, upd H3 l4 (.lst (out.map fun t => V.ref t.1)) t.1 = some (.tup [.int t.2.1, .int t.2.2]) := fun t ht => s4 _ _ (po3.at_ t (pm.mem_iff.mp ht))
        have mq : ∀ x, (spr out)[pl]? = some x → manieth (spr ps) a b = some x := fun x e => by
          unfold manieth
          rw [srt, hpl, Int.toNat_natCast]
          exact e
        refine ⟨_, rfl, ⟨_, SqL.of upd_same⟩, ?_⟩
        have e4 : upd H3 l4 (.lst (out.map fun t => V.ref t.1)) l4 = some (.lst (out.map fun t => V.ref t.1)) := upd_same
        generalize upd H3 l4 (.lst (out.map fun t => V.ref t.1)) = H4 at s4 S4 po4 e4 ⊢
        refine for_list (xs := out.map fun t => V.ref t.1) (fun k σ H' => (∃ (v11 v12 : Option V), σ = [some fv, some (.ref wa), some (.ref ca), some rv, some (.ref sa), some (.int i), some (.int j), some (.ref c), v8, v9, v10, v11, v12, some (.int ((spr ps).length : Int)), some (.int (pl : Int)), some (.int ((spr (out.take k)).length : Int))] ∧ Same H4 H') ∧ (spr (out.take k)).length ≤ pl) ⟨⟨v11, v12, rfl, Same.refl _⟩, Nat.zero_le _⟩ (fun k σ H' _ ⟨⟨_, _, _, s⟩, _⟩ => SqL.of (s _ _ e4)) ?_ ?_
        · rintro k x _ H5 hx ⟨⟨v11, v12, rfl, s5⟩, hle⟩
          have hk : k < out.length := by have := (List.getElem?_eq_some_iff.mp hx).1; rw [List.length_map] at this; exact this
          rw [List.getElem?_map, List.getElem?_eq_getElem hk] at hx
          obtain rfl := Option.some.inj hx
          have mo := List.getElem_mem hk
          refine ⟨_, _, rfl, SqT.of (s5 _ _ (po4 _ mo)), rfl, ?_⟩
          refine ⟨_, _, rfl, _, _, rfl, rfl, ?_⟩
          dsimp only [gName, List.set]
          refine ⟨_, rfl, _, rfl, _, _, rfl, rfl, ?_⟩
          have es : ((spr (out.take k)).length : Int) + out[k].2.2 = ((spr (out.take (k + 1))).length : Int) := by
            rw [List.take_succ_eq_append_getElem hk, spr_app, spr_one, List.length_append, List.length_replicate]
            have := bo _ mo
            omega
          dsimp only [gName, List.set]
          rw [es]
          refine ⟨_, rfl, _, rfl, _, _, rfl, rfl, _, rfl, ?_⟩
          refine ite2 (fun y => ?_) (fun y => ?_)
          · have y' : (pl : Int) < ((spr (out.take (k + 1))).length : Int) := of_decide_eq_true y
            refine ⟨_, rfl, ?_⟩
            have := q H5 (S4.trans s5)
            rw [mq _ (spr_at hk hle (by omega))] at this
            exact this
          · have y' : ¬ (pl : Int) < ((spr (out.take (k + 1))).length : Int) := fun e => y (decide_eq_true e)
            exact ⟨⟨_, _, rfl, s5⟩, by omega⟩
        · rintro _ H5 ⟨⟨v11, v12, rfl, s5⟩, hle⟩
          exfalso
          rw [List.length_map, List.take_length, lo] at hle
          omega
theorem wFil_rect {F : List (List (Option Int))} (R : Rect F) (ru : Rule) (C : List (List Int)) (u d l r : Nat) (a b : Int) : Rect (wFil F ru C u d l r a b) := by
  have hl : (wFil F ru C u d l r a b).length = F.length := by unfold wFil; simp
  have hr : ∀ x ∈ wFil F ru C u d l r a b, x.length = wideF F := fun x hx => by
    obtain ⟨i, _, rfl⟩ := List.mem_map.mp hx
    simp
  have hw : ((wFil F ru C u d l r a b).headD []).length = wideF F := by
    have h1 := R.h1
    cases e : wFil F ru C u d l r a b with
    | nil => rw [e] at hl; simp at hl; omega
    | cons x xs => exact hr x (by rw [e]; exact List.mem_cons_self)
  refine ⟨by rw [hl]; exact R.h1, by rw [hl]; exact R.hs, by rw [hw]; exact R.w1, by rw [hw]; exact R.ws, fun x hx => by rw [hw]; exact hr x hx⟩
theorem df_law (T : Txt K mg) : Df P w K mg base 8 "law" ["script"] (SpLaw K) := by
  refine T.d_law.ok sc_law (fun vs H Q E h => ?_) (fun f cdv A outer s H vs Q E hr h => ?_)
  · obtain ⟨a, ns, rfl, _⟩ := h
    rfl
  · obtain ⟨a, ns, rfl, hS, hl, q⟩ := h
    refine ⟨_, (@pss_cons _ _ _ _ _ (@ps_set _ _ 1 _ _ _ _ sc_law.nd rfl (by first | exact Or.inl rfl | exact Or.inr rfl) (@pe_df _ _ _ _ _ _ _ _ _ _ (df_law_deck T) (hr.mono (by decide)) (@pa_cons _ _ _ _ _ (pv 0) pa_nil (by rfl)) (by rfl) (by decide) (by rfl) (by rfl)) (by rfl) (by first | exact .inl rfl | exact .inr rfl))
      (@pss_cons _ _ _ _ _ (@ps_for _ _ _ _ _ _ _ _ PassesOwn.never rfl (pi_range1 (by rfl) T.n_range (@pa_cons _ _ _ _ _ pe_int pa_nil (by rfl))) (pg_name (i := 2) sc_law.nd rfl (by first | exact Or.inl rfl | exact Or.inr rfl)) (@pss_cons _ _ _ _ _ (@ps_set _ _ 3 _ _ _ _ sc_law.nd rfl (by first | exact Or.inl rfl | exact Or.inr rfl) (@pe_ix _ _ _ _ _ _ _ (ix_seqK (K := K) rfl) (@pe_lst _ _ _ _ (@pa_cons _ _ _ _ _ (@pe_df _ _ _ _ _ _ _ _ _ _ (df_law_draw T) (hr.mono (by decide)) (@pa_cons _ _ _ _ _ (pv 1) (@pa_cons _ _ _ _ _ pe_int pa_nil (by rfl)) (by rfl)) (by rfl) (by decide) (by rfl) (by rfl)) (@pa_cons _ _ _ _ _ pe_int pa_nil (by rfl)) star_call)) (@pe_callTy _ _ _ _ _ _ _ _ _ call_int1 (by rfl) T.n_int bt_int (@pa_cons _ _ _ _ _ (@pe_cmpR _ _ _ _ _ _ _ _ (op_eqA hr.units) (@pe_df _ _ _ _ _ _ _ _ _ _ (df_law_draw T) (hr.mono (by decide)) (@pa_cons _ _ _ _ _ (pv 1) (@pa_cons _ _ _ _ _ pe_int pa_nil (by rfl)) (by rfl)) (by rfl) (by decide) (by rfl) (by rfl)) pe_int (nomark _)) pa_nil star_cmp) (by decide) (by decide) (by rfl) (by rfl)) (fun _ _ => rfl)) (by rfl) (by first | exact .inl rfl | exact .inr rfl))
      (@pss_cons _ _ _ _ _ (@ps_set _ _ 4 _ _ _ _ sc_law.nd rfl (by first | exact Or.inl rfl | exact Or.inr rfl) (@pe_df _ _ _ _ _ _ _ _ _ _ (df_law_field T) (hr.mono (by decide)) (@pa_cons _ _ _ _ _ (pv 1) (@pa_cons _ _ _ _ _ (@pe_ix _ _ _ _ _ _ _ (ix_seqK (K := K) rfl) (@pe_lst _ _ _ _ (@pa_cons _ _ _ _ _ pe_int (@pa_cons _ _ _ _ _ pe_int (@pa_cons _ _ _ _ _ pe_int (@pa_cons _ _ _ _ _ pe_int pa_nil (by rfl)) (by rfl)) (by rfl)) (by rfl))) (pv 3) (fun _ _ => rfl)) (@pa_cons _ _ _ _ _ (@pe_df _ _ _ _ _ _ _ _ _ _ (df_law_draw T) (hr.mono (by decide)) (@pa_cons _ _ _ _ _ (pv 1) (@pa_cons _ _ _ _ _ pe_int pa_nil (by rfl)) (by rfl)) (by rfl) (by decide) (by rfl) (by rfl)) pa_nil star_call) star_sub) (by rfl)) (by rfl) (by decide) (by rfl) (by rfl)) (by rfl) (by first | exact .inl rfl | exact .inr rfl))
      (@pss_cons _ _ _ _ _ (@ps_set _ _ 5 _ _ _ _ sc_law.nd rfl (by first | exact Or.inl rfl | exact Or.inr rfl) (@pe_df _ _ _ _ _ _ _ _ _ _ (df_law_sides T) (hr.mono (by decide)) (@pa_cons _ _ _ _ _ (pv 1) (@pa_cons _ _ _ _ _ (@pe_ix _ _ _ _ _ _ _ (ix_seqK (K := K) rfl) (@pe_lst _ _ _ _ (@pa_cons _ _ _ _ _ pe_int (@pa_cons _ _ _ _ _ pe_int (@pa_cons _ _ _ _ _ pe_int (@pa_cons _ _ _ _ _ pe_int pa_nil (by rfl)) (by rfl)) (by rfl)) (by rfl))) (pv 3) (fun _ _ => rfl)) pa_nil star_sub) (by rfl)) (by rfl) (by decide) (by rfl) (by rfl)) (by rfl) (by first | exact .inl rfl | exact .inr rfl))
      (@pss_cons _ _ _ _ _ (@ps_set _ _ 6 _ _ _ _ sc_law.nd rfl (by first | exact Or.inl rfl | exact Or.inr rfl) (@pe_df _ _ _ _ _ _ _ _ _ _ (df_law_counts T) (hr.mono (by decide)) (@pa_cons _ _ _ _ _ (pv 1) (@pa_cons _ _ _ _ _ (pv 5) (@pa_cons _ _ _ _ _ (@pe_ix _ _ _ _ _ _ _ (ix_seqK (K := K) rfl) (@pe_lst _ _ _ _ (@pa_cons _ _ _ _ _ pe_int (@pa_cons _ _ _ _ _ pe_int (@pa_cons _ _ _ _ _ pe_int (@pa_cons _ _ _ _ _ pe_int pa_nil (by rfl)) (by rfl)) (by rfl)) (by rfl))) (pv 3) (fun _ _ => rfl)) pa_nil star_sub) (by rfl)) (by rfl)) (by rfl) (by decide) (by rfl) (by rfl)) (by rfl) (by first | exact .inl rfl | exact .inr rfl))
      (@pss_cons _ _ _ _ _ (@ps_set _ _ 7 _ _ _ _ sc_law.nd rfl (by first | exact Or.inl rfl | exact Or.inr rfl) (@pe_df _ _ _ _ _ _ _ _ _ _ (df_law_rule T) (hr.mono (by decide)) (@pa_cons _ _ _ _ _ (pv 1) (@pa_cons _ _ _ _ _ (@pe_df _ _ _ _ _ _ _ _ _ _ (df_law_draw T) (hr.mono (by decide)) (@pa_cons _ _ _ _ _ (pv 1) (@pa_cons _ _ _ _ _ pe_int pa_nil (by rfl)) (by rfl)) (by rfl) (by decide) (by rfl) (by rfl)) pa_nil star_call) (by rfl)) (by rfl) (by decide) (by rfl) (by rfl)) (by rfl) (by first | exact .inl rfl | exact .inr rfl))
      (@pss_cons _ _ _ _ _ (@ps_set _ _ 8 _ _ _ _ sc_law.nd rfl (by first | exact Or.inl rfl | exact Or.inr rfl) (@pe_df _ _ _ _ _ _ _ _ _ _ (df_law_share T) (hr.mono (by decide)) (@pa_cons _ _ _ _ _ (pv 1) pa_nil (by rfl)) (by rfl) (by decide) (by rfl) (by rfl)) (by rfl) (by first | exact .inl rfl | exact .inr rfl))
      (@pss_cons _ _ _ _ _ (@ps_set _ _ 9 _ _ _ _ sc_law.nd rfl (by first | exact Or.inl rfl | exact Or.inr rfl) (@pe_lst _ _ _ _ pa_nil) (by rfl) (by first | exact .inl rfl | exact .inr rfl))
      (@pss_cons _ _ _ _ _ (@ps_for _ _ _ _ _ _ _ _ PassesOwn.never rfl (pi_range1 (by rfl) T.n_range (@pa_cons _ _ _ _ _ (@pe_callB _ _ _ _ _ _ _ _ _ (call_lenK (K := K) rfl) (by rfl) T.n_len bt_len (@pa_cons _ _ _ _ _ (pv 4) pa_nil (by rfl)) (by decide) (by decide) (by rfl) (by rfl)) pa_nil star_call)) (pg_name (i := 10) sc_law.nd rfl (by first | exact Or.inl rfl | exact Or.inr rfl)) (@pss_cons _ _ _ _ _ (@ps_set _ _ 11 _ _ _ _ sc_law.nd rfl (by first | exact Or.inl rfl | exact Or.inr rfl) (@pe_lst _ _ _ _ pa_nil) (by rfl) (by first | exact .inl rfl | exact .inr rfl))
      (@pss_cons _ _ _ _ _ (@ps_for _ _ _ _ _ _ _ _ PassesOwn.never rfl (pi_range1 (by rfl) T.n_range (@pa_cons _ _ _ _ _ (@pe_callB _ _ _ _ _ _ _ _ _ (call_lenK (K := K) rfl) (by rfl) T.n_len bt_len (@pa_cons _ _ _ _ _ (@pe_ix _ _ _ _ _ _ _ (ix_seqK (K := K) rfl) (pv 4) pe_int (fun _ _ => rfl)) pa_nil star_sub) (by decide) (by decide) (by rfl) (by rfl)) pa_nil star_call)) (pg_name (i := 12) sc_law.nd rfl (by first | exact Or.inl rfl | exact Or.inr rfl)) (@pss_one _ _ _ (@ps_expr _ _ _ _ (pe_bm PySem.F.plainAttrs_list PySem.F.slot_list_append PySem.F.type_list_append mt_append (pv 11) (@pa_cons _ _ _ _ _ (@pe_df _ _ _ _ _ _ _ _ _ _ (df_law_due_at T) (hr.mono (by decide)) (@pa_cons _ _ _ _ _ (pv 4) (@pa_cons _ _ _ _ _ (pv 5) (@pa_cons _ _ _ _ _ (pv 6) (@pa_cons _ _ _ _ _ (pv 7) (@pa_cons _ _ _ _ _ (pv 8) (@pa_cons _ _ _ _ _ (pv 10) (@pa_cons _ _ _ _ _ (pv 12) pa_nil (by rfl)) (by rfl)) (by rfl)) (by rfl)) (by rfl)) (by rfl)) (by rfl)) (by rfl) (by decide) (by rfl) (by rfl)) pa_nil star_call)) (by rfl))) (by intro _; rfl))
      (@pss_one _ _ _ (@ps_expr _ _ _ _ (pe_bm PySem.F.plainAttrs_list PySem.F.slot_list_append PySem.F.type_list_append mt_append (pv 9) (@pa_cons _ _ _ _ _ (@pe_callTy _ _ _ _ _ _ _ _ _ (call_tupleK (K := K) rfl) (by rfl) T.n_tuple bt_tuple (@pa_cons _ _ _ _ _ (pv 11) pa_nil (by rfl)) (by decide) (by decide) (by rfl) (by rfl)) pa_nil star_call)) (by rfl))))) (by intro _; rfl))
      (@pss_cons _ _ _ _ _ (@ps_set _ _ 13 _ _ _ _ sc_law.nd rfl (by first | exact Or.inl rfl | exact Or.inr rfl) (pe_dfK (ks := ["field", "window", "counts", "rule", "share"]) (g := fun ws => match ws with | [a0, a1, a2, a3, a4] => [a0, a1, a2, a3, a4] | _ => []) (gV := fun ws => match ws with | [a0, a1, a2, a3, a4] => [a0, a1, a2, a3, a4] | _ => []) (df_weighted T) T.d_weighted (hr.mono (by decide)) (fun _ _ _ _ _ _ ws hl => by match ws with | [a0, a1, a2, a3, a4] => rfl | [] => (first | cases hl | exact absurd hl (by decide) | simp at hl) | [_] => (first | cases hl | exact absurd hl (by decide) | simp at hl) | [_, _] => (first | cases hl | exact absurd hl (by decide) | simp at hl) | [_, _, _] => (first | cases hl | exact absurd hl (by decide) | simp at hl) | [_, _, _, _] => (first | cases hl | exact absurd hl (by decide) | simp at hl) | _ :: _ :: _ :: _ :: _ :: _ :: _ => (first | cases hl | exact absurd hl (by decide) | simp at hl)) (by intro zs ws r; cases r with | nil => exact .nil | cons r0 r => (cases r with | nil => exact .nil | cons r1 r => (cases r with | nil => exact .nil | cons r2 r => (cases r with | nil => exact .nil | cons r3 r => (cases r with | nil => exact .nil | cons r4 r => (cases r with | nil => exact (.cons r0 (.cons r1 (.cons r2 (.cons r3 (.cons r4 .nil))))) | cons _ _ => exact .nil)))))) (pk_cons (pv 4) (pk_cons (pv 5) (pk_cons (pv 6) (pk_cons (pv 7) (pk_cons (pv 8) pk_nil)))))) (by rfl) (by first | exact .inl rfl | exact .inr rfl))
      (@pss_one _ _ _ (@ps_if _ _ _ _ _ _ _ _ (@pt_not _ _ _ _ (@pt_val _ _ _ (@pe_df _ _ _ _ _ _ _ _ _ _ (df_law_same T) (hr.mono (by decide)) (@pa_cons _ _ _ _ _ (pv 13) (@pa_cons _ _ _ _ _ (@pe_callTy _ _ _ _ _ _ _ _ _ (call_tupleK (K := K) rfl) (by rfl) T.n_tuple bt_tuple (@pa_cons _ _ _ _ _ (pv 9) pa_nil (by rfl)) (by decide) (by decide) (by rfl) (by rfl)) pa_nil star_call) (by rfl)) (by rfl) (by decide) (by rfl) (by rfl)) (by intro _; rfl))) (@pss_one _ _ _ (@ps_ret _ _ _ _ pe_bl)) pss_nil))))))))))) (by intro _; rfl))
      (@pss_one _ _ _ (@ps_ret _ _ _ _ pe_bl)))), ?_⟩
    refine ⟨_, rfl, _, _, rfl, hS, hl, fun d c H1 fd fc D1 s1 => ?_⟩
    refine ⟨3, rfl, (by decide), (by decide), ?_⟩
    refine for_range (n := 3) (fun i σ H' => ∃ (v2 v3 v4 v5 v6 v7 v8 v9 v10 v11 v12 v13 : Option V), σ = [some (.ref a), some (.ref d), v2, v3, v4, v5, v6, v7, v8, v9, v10, v11, v12, v13] ∧ Dk H' d c (4000 * i)) ⟨none, none, none, none, none, none, none, none, none, none, none, none, rfl, D1⟩ ?_ ?_
    · rintro i _ H2 hi ⟨v2, v3, v4, v5, v6, v7, v8, v9, v10, v11, v12, v13, rfl, D2⟩
      have hi3 : i < 3 := hi
      refine ⟨_, rfl, _, _, _, _, rfl, D2, (by decide), (by decide), by omega, fun x0 H20 a0 b0 D20 k20 => ?_⟩
      refine ⟨(by show 2 ≤ sizeLine; decide), fun p0 hp0 => ?_⟩
      refine ⟨_, rfl, _, _, _, _, rfl, D20.upd hp0, (by decide), (by decide), by omega, fun y0 H21 a1 b1 D21 k21 => ?_⟩
      refine Or.inl ⟨rfl, Or.inr ⟨_, rfl, ?_⟩⟩
      obtain ⟨wv, hwv, wv0, wv3⟩ : ∃ wv : Int, atI [V.int x0, .int 3] (if decide (V.int y0 = V.int 0) = true then 1 else 0) = some (.int wv) ∧ 0 ≤ wv ∧ wv < 4 := by
        by_cases z : V.int y0 = V.int 0
        · rw [decide_eq_true z]; exact ⟨3, rfl, by omega, by omega⟩
        · rw [decide_eq_false z]; exact ⟨x0, rfl, by omega, by omega⟩
      refine Or.inl ⟨_, _, _, _, rfl, rfl, SqL.of (k21 p0 _ upd_same (D20.nd hp0).1 (D20.nd hp0).2), hwv, ?_⟩
      dsimp only [gName, List.set]
      refine ⟨_, rfl, (by show 4 ≤ sizeLine; decide), fun p hp => ?_⟩
      obtain ⟨m, em, hm⟩ := pickI (x := wv) (ms := [4, 4, 12, 12]) wv0 (by exact wv3)
      have hm' : 1 ≤ m ∧ m ≤ 12 := by
        simp only [List.mem_cons, List.not_mem_nil, or_false] at hm
        omega
      refine ⟨_, rfl, Or.inl ⟨_, _, _, _, rfl, rfl, SqL.of upd_same, em, ?_⟩⟩
      have D3 := D21.upd (o := .lst [.int 4, .int 4, .int 12, .int 12]) hp
      refine ⟨_, rfl, _, _, _, _, rfl, D3, (by decide), (by decide), by omega, fun kd H4 kd0 kd1 D4 k4 => ?_⟩
      refine ⟨_, _, _, _, _, rfl, D4, by omega, hm'.1, hm'.2, by omega, fun fv F h w H5 hfv hF bh bw nh D5 k5 => ?_⟩
      obtain ⟨R, ew, eh⟩ := hF.rect
      obtain ⟨fa, xs, rfl, hfa, hxs⟩ := isField_inv hfv
      have lxs : xs.length = F.length := by rw [hxs.length, List.length_map]
      have hH := R.hs
      have hW := R.ws
      have h1 := R.h1
      dsimp only [gName, List.set]
      refine ⟨_, rfl, (by show 4 ≤ sizeLine; decide), fun p6 hp6 => ?_⟩
      obtain ⟨m7, em7, hm7⟩ := pickI (x := wv) (ms := [2, 6, 2, 6]) wv0 (by exact wv3)
      have hm7' : 2 ≤ m7 ∧ m7 ≤ 6 := by
        simp only [List.mem_cons, List.not_mem_nil, or_false] at hm7
        omega
      refine ⟨_, rfl, Or.inl ⟨_, _, _, _, rfl, rfl, SqL.of upd_same, em7, ?_⟩⟩
      have D7 := D5.upd (o := .lst [.int 2, .int 6, .int 2, .int 6]) hp6
      refine ⟨_, _, _, _, rfl, D7, by omega, by omega, by omega, fun wt u dn l r H8 bu bd bl br hwt D8 k8 => ?_⟩
      have bb : u ≤ 6 ∧ dn ≤ 6 ∧ l ≤ 6 ∧ r ≤ 6 := ⟨bu, bd, bl, br⟩
      refine ⟨_, rfl, _, rfl, (by show 4 ≤ sizeLine; decide), fun p9 hp9 => ?_⟩
      obtain ⟨m9, em9, hm9⟩ := pickI (x := wv) (ms := [4, 4, 4, 2]) wv0 (by exact wv3)
      have hm9' : 1 ≤ m9 ∧ m9 ≤ 4 := by
        simp only [List.mem_cons, List.not_mem_nil, or_false] at hm9
        omega
      refine ⟨_, rfl, Or.inl ⟨_, _, _, _, rfl, rfl, SqL.of upd_same, em9, ?_⟩⟩
      have D8b := D8.upd (o := .lst [.int 4, .int 4, .int 4, .int 2]) hp9
      refine ⟨d, c, wt, m9, _, u, dn, l, r, rfl, D8b, by omega, (same_upd hp9) _ _ hwt, bb, hm9'.1, hm9'.2, fun cv C H9 hcv cok D9 k9 => ?_⟩
      obtain ⟨ca, cxs, rfl, hca, hcxs⟩ := isField_inv hcv
      refine ⟨_, rfl, _, rfl, _, _, _, _, rfl, D9, (by decide), (by decide), by omega, fun x10 H10 a10 b10 D10 k10 => ?_⟩
      refine ⟨_, _, _, _, rfl, D10, by omega, fun rv ru H11 hru D11 k11 => ?_⟩
      refine ⟨_, rfl, _, _, _, rfl, D11, by omega, fun sv sa sb H12 hsv hSh D12 k12 => ?_⟩
      obtain ⟨sv, rfl, hsv'⟩ := isPlace_inv hsv
      have t6 : KeepT H5 H8 := fun b' zs eb => (k8.tups D7) _ _ ((same_upd hp6).tups _ _ eb)
      have t8 : KeepT H8 H9 := fun b' zs eb => (k9.tups D8b) _ _ ((same_upd hp9).tups _ _ eb)
      have t10 : KeepT H9 H12 := fun b' zs eb => (k12.tups D11) _ _ ((k11.tups D10) _ _ ((k10.tups D9) _ _ eb))
      have t9 : KeepT H8 H12 := fun b' zs eb => t10 _ _ (t8 _ _ eb)
      have fa12 := t9 _ _ (t6 _ _ hfa)
      have f12 := (hfv.keep t6).keep t9
      have wt12 := t9 _ _ hwt
      have ca12 := t10 _ _ hca
      have cx12 := hcxs.keep t10
      have cv12 := hcv.keep t10
      have ru12 := hru.keep (k12.tups D11)
      dsimp only [gName, List.set]
      refine ⟨(by show 0 ≤ sizeLine; decide), fun b hb => ?_⟩
      have s13 := same_upd (o := .lst []) hb
      have oldne : ∀ x o, H12 x = some o → x ≠ b := fun x o ex => ne_of_none ex hb
      have keepH : ∀ {H' : Hp}, KeepBut b (upd H12 b (.lst [])) H' → Same H12 H' := fun k x o ex => k x o (s13 x o ex) (oldne x o ex)
      have hb1 : upd H12 b (.lst []) b = some (.lst []) := upd_same
      generalize upd H12 b (.lst []) = H13 at s13 hb1 keepH ⊢
      refine ⟨_, rfl, _, _, rfl, Or.inr ⟨_, SqT.of (s13 _ _ fa12), rfl⟩, _, rfl, by omega, by omega, ?_⟩
      have en : ((xs.length : Nat) : Int).toNat = F.length := by omega
      rw [en]
      have gl : (wFil F ru C u dn l r sa sb).length = F.length := by unfold wFil; simp
      obtain ⟨ra, era, hra⟩ := isRows_get hxs (i := 0) (by omega)
      have hra12 := t9 _ _ (t6 _ _ hra)
      have lw0 : (F[0].map cellV).length = wideF F := by rw [List.length_map]; exact R.row _ (List.getElem_mem _)
      have wW : wideF F ≤ 1000 := hW
      refine for_range (n := F.length) (fun i' σ H' => ∃ (v10 v11 v12 : Option V) (ys : List V), σ = [some (.ref a), some (.ref d), some (.int (0 + (i : Int))), some (.int wv), some (.ref fa), some (.ref wt), some (.ref ca), some rv, some (.ref sv), some (.ref b), v10, v11, v12, v13] ∧ KeepBut b H13 H' ∧ H' b = some (.lst ys) ∧ IsDs H' ys (((wFil F ru C u dn l r sa sb).take i').map rowD)) ⟨v10, v11, v12, [], rfl, KeepBut.refl _ _, hb1, .nil⟩ ?_ ?_
      · rintro i' _ H14 hi' ⟨v10, v11, v12, ys, rfl, k14, hb14, hys⟩
        have hi4 : i' < F.length := hi'
        have S14 := keepH k14
        have e0 : (0 : Int) + (i' : Int) = (i' : Int) := by omega
        rw [e0]
        dsimp only [gName, List.set]
        refine ⟨(by show 0 ≤ sizeLine; decide), fun e he => ?_⟩
        have s15 := same_upd (o := .lst []) he
        have e15 : upd H14 e (.lst []) e = some (.lst []) := upd_same
        have neb : e ≠ b := (ne_of_none hb14 he).symm
        have old15 : ∀ x o, H14 x = some o → x ≠ e := fun x o ex => ne_of_none ex he
        generalize upd H14 e (.lst []) = H15 at s15 e15 ⊢
        have S15 := S14.trans s15
        refine ⟨_, rfl, Or.inr (Or.inl ⟨_, _, _, _, rfl, rfl, SqT.of (S15 _ _ fa12), atI_nat (j := 0) era, _, _, rfl, Or.inr ⟨_, SqT.of (S15 _ _ hra12), rfl⟩, _, rfl, by rw [lw0]; omega, by rw [lw0]; omega, ?_⟩)⟩
        have ew2 : (((F[0].map cellV).length : Nat) : Int).toNat = wideF F := by rw [lw0]; omega
        rw [ew2]
        refine for_range (n := wideF F) (fun j σ H' => ∃ (v12 : Option V), σ = [some (.ref a), some (.ref d), some (.int (0 + (i : Int))), some (.int wv), some (.ref fa), some (.ref wt), some (.ref ca), some rv, some (.ref sv), some (.ref b), some (.int (i' : Int)), some (.ref e), v12, v13] ∧ KeepBut e H15 H' ∧ H' e = some (.lst (((List.range j).map fun j : Nat => manieth (wNums F ru C u dn l r (i' : Int) (j : Int)) sa sb).map cellV))) ⟨v12, rfl, KeepBut.refl _ _, e15⟩ ?_ ?_
        · rintro j _ H16 hj ⟨v12, rfl, k16, e16⟩
          have hj4 : j < wideF F := hj
          have e0 : (0 : Int) + (j : Int) = (j : Int) := by omega
          rw [e0]
          have old : Same H12 H16 := fun x o ex => k16 _ _ (S15 _ _ ex) (old15 _ _ (S14 _ _ ex))
          refine ⟨_, rfl, Or.inl ⟨rfl, _, SqL.of e16⟩, ?_⟩
          refine ⟨_, rfl, _, rfl, _, rfl, _, rfl, _, rfl, _, rfl, _, rfl, ?_⟩
          refine ⟨.ref fa, rv, wt, ca, sv, F, ru, cxs, C, u, dn, l, r, sa, sb, (i' : Int), (j : Int), rfl, R, f12.keep old.tups, old _ _ wt12, bb, old _ _ ca12, cx12.keep old.tups, cok, ru12.keep old.tups, old _ _ hsv', hSh, fun H17 s17 => ?_⟩
          have e17 := s17 _ _ e16
          refine ⟨_, _, _, rfl, rfl, e17, (by rw [List.length_map, List.length_map, List.length_range]; exact Nat.lt_of_lt_of_le (show j < 1001 by omega) (by decide)), ?_⟩
          refine ⟨_, rfl, fun x o ex n => ?_, ?_⟩
          · rw [upd_ne n]
            exact s17 _ _ (k16 _ _ ex n)
          · rw [upd_same, List.range_succ, List.map_append, List.map_append]
            rfl
        · rintro _ H16 ⟨v12, rfl, k16, e16⟩
          have hb16 := k16 _ _ (s15 _ _ hb14) neb.symm
          refine ⟨_, rfl, Or.inl ⟨rfl, _, SqL.of hb16⟩, ?_⟩
          refine ⟨_, rfl, _, _, rfl, Or.inl ⟨SqL.of e16, fun t17 ht17 => ?_⟩⟩
          have st := same_upd (o := .tup (((List.range (wideF F)).map fun j : Nat => manieth (wNums F ru C u dn l r (i' : Int) (j : Int)) sa sb).map cellV)) ht17
          have hb17 := st _ _ hb16
          have ly : ys.length = i' := by rw [hys.length, List.length_map, List.length_take, gl]; omega
          refine ⟨_, _, _, rfl, rfl, hb17, (by rw [ly]; exact Nat.lt_of_lt_of_le (show i' < 1001 by omega) (by decide)), ?_⟩
          have tb : t17 ≠ b := (ne_of_none hb16 ht17).symm
          refine ⟨_, _, _, ys ++ [.ref t17], rfl, fun x o ex n => ?_, upd_same, ?_⟩
          · rw [upd_ne n]
            have x2 := k14 _ _ ex n
            exact st _ _ (k16 _ _ (s15 _ _ x2) (old15 _ _ x2))
          · have er : (wFil F ru C u dn l r sa sb)[i']? = some ((List.range (wideF F)).map fun j : Nat => manieth (wNums F ru C u dn l r (i' : Int) (j : Int)) sa sb) := by
              unfold wFil
              rw [List.getElem?_map, List.getElem?_range hi4]; rfl
            rw [List.take_add_one, er, List.map_append]
            have kt : ∀ x zs, H14 x = some (.tup zs) → upd (upd H16 t17 (.tup (((List.range (wideF F)).map fun j : Nat => manieth (wNums F ru C u dn l r (i' : Int) (j : Int)) sa sb).map cellV))) b (.lst (ys ++ [.ref t17])) x = some (.tup zs) := fun x zs ex => by
              rw [upd_ne (ne_of ex hb14 fun z => by cases z)]
              exact st _ _ (k16 _ _ (s15 _ _ ex) (old15 _ _ ex))
            exact (hys.keep kt).append (.cons (.tup (by rw [upd_ne tb]; exact upd_same) (isCells _)) .nil)
      · rintro _ H14 ⟨v10, v11, v12, ys, rfl, k14, hb14, hys⟩
        have S14 := keepH k14
        rw [List.take_of_length_le (by rw [gl]; exact Nat.le_refl _)] at hys
        have RW := wFil_rect R ru C u dn l r sa sb
        refine ⟨_, rfl, _, rfl, _, rfl, _, rfl, _, rfl, ?_⟩
        refine ⟨_, _, _, _, _, F, ru, C, u, dn, l, r, sa, sb, rfl, R, cok, f12.keep S14.tups, isWin (S14 _ _ wt12), cv12.keep S14.tups, ru12.keep S14.tups, Shr.of ((hsv.keep S14.tups)), hSh, by omega, fun v H16 s16 hv => ?_⟩
        have S16 := s16
        refine ⟨_, rfl, _, rfl, _, _, rfl, Or.inl ⟨SqL.of (S16 _ _ hb14), fun t17 ht17 => ?_⟩⟩
        have st := same_upd (o := .tup ys) ht17
        refine ⟨_, _, fieldD (wFil F ru C u dn l r sa sb), rfl, hv.keep st.tups, .tup upd_same (hys.keep (S16.trans st).tups), plainS_field RW, (by have h1 := depth_rows (wFil F ru C u dn l r sa sb); show PyData.depthAll ((wFil F ru C u dn l r sa sb).map rowD) + 1 < 5; omega), fun H18 s18 => ?_⟩
        refine ⟨_, rfl, iteF ?_⟩
        exact ⟨_, _, _, _, _, _, _, _, _, _, _, _, rfl, (D12.keep ((S14.trans S16).trans (st.trans s18))).mono (by omega)⟩
    · rintro _ H2 ⟨v2, v3, v4, v5, v6, v7, v8, v9, v10, v11, v12, v13, rfl, D2⟩
      exact q _
end
theorem txt_mk {K : PySem.W.Frag} {h : Heap} {mg : Str → Option Value} (X : K.In h) (G : h.Ns mainGlobals mg) {f_is_inside : Addr} {od_is_inside an_is_inside : Option Addr} {sl_is_inside : Array (Option Value)} {oc_is_inside kV_is_inside dc_is_inside pm_is_inside cd_is_inside ct_is_inside : Value} {f_brought_inside : Addr} {od_brought_inside an_brought_inside : Option Addr} {sl_brought_inside : Array (Option Value)} {oc_brought_inside kV_brought_inside dc_brought_inside pm_brought_inside cd_brought_inside ct_brought_inside : Value} {f_stands_at : Addr} {od_stands_at an_stands_at : Option Addr} {sl_stands_at : Array (Option Value)} {oc_stands_at kV_stands_at dc_stands_at pm_stands_at cd_stands_at ct_stands_at : Value} {f_places_around : Addr} {od_places_around an_places_around : Option Addr} {sl_places_around : Array (Option Value)} {oc_places_around kV_places_around dc_places_around pm_places_around cd_places_around ct_places_around : Value} {f_place_by_share : Addr} {od_place_by_share an_place_by_share : Option Addr} {sl_place_by_share : Array (Option Value)} {oc_place_by_share kV_place_by_share dc_place_by_share pm_place_by_share cd_place_by_share ct_place_by_share : Value} {f_without_holes : Addr} {od_without_holes an_without_holes : Option Addr} {sl_without_holes : Array (Option Value)} {oc_without_holes kV_without_holes dc_without_holes pm_without_holes cd_without_holes ct_without_holes : Value} {f_counts_at : Addr} {od_counts_at an_counts_at : Option Addr} {sl_counts_at : Array (Option Value)} {oc_counts_at kV_counts_at dc_counts_at pm_counts_at cd_counts_at ct_counts_at : Value} {f_told_of_counts : Addr} {od_told_of_counts an_told_of_counts : Option Addr} {sl_told_of_counts : Array (Option Value)} {oc_told_of_counts kV_told_of_counts dc_told_of_counts pm_told_of_counts cd_told_of_counts ct_told_of_counts : Value} {f_weighted : Addr} {od_weighted an_weighted : Option Addr} {sl_weighted : Array (Option Value)} {oc_weighted kV_weighted dc_weighted pm_weighted cd_weighted ct_weighted : Value} {f_law_deck : Addr} {od_law_deck an_law_deck : Option Addr} {sl_law_deck : Array (Option Value)} {oc_law_deck kV_law_deck dc_law_deck pm_law_deck cd_law_deck ct_law_deck : Value} {f_law_draw : Addr} {od_law_draw an_law_draw : Option Addr} {sl_law_draw : Array (Option Value)} {oc_law_draw kV_law_draw dc_law_draw pm_law_draw cd_law_draw ct_law_draw : Value} {f_law_number : Addr} {od_law_number an_law_number : Option Addr} {sl_law_number : Array (Option Value)} {oc_law_number kV_law_number dc_law_number pm_law_number cd_law_number ct_law_number : Value} {f_law_field : Addr} {od_law_field an_law_field : Option Addr} {sl_law_field : Array (Option Value)} {oc_law_field kV_law_field dc_law_field pm_law_field cd_law_field ct_law_field : Value} {f_law_sides : Addr} {od_law_sides an_law_sides : Option Addr} {sl_law_sides : Array (Option Value)} {oc_law_sides kV_law_sides dc_law_sides pm_law_sides cd_law_sides ct_law_sides : Value} {f_law_rule : Addr} {od_law_rule an_law_rule : Option Addr} {sl_law_rule : Array (Option Value)} {oc_law_rule kV_law_rule dc_law_rule pm_law_rule cd_law_rule ct_law_rule : Value} {f_law_share : Addr} {od_law_share an_law_share : Option Addr} {sl_law_share : Array (Option Value)} {oc_law_share kV_law_share dc_law_share pm_law_share cd_law_share ct_law_share : Value} {f_law_stood : Addr} {od_law_stood an_law_stood : Option Addr} {sl_law_stood : Array (Option Value)} {oc_law_stood kV_law_stood dc_law_stood pm_law_stood cd_law_stood ct_law_stood : Value} {f_law_same : Addr} {od_law_same an_law_same : Option Addr} {sl_law_same : Array (Option Value)} {oc_law_same kV_law_same dc_law_same pm_law_same cd_law_same ct_law_same : Value} {f_law_counts : Addr} {od_law_counts an_law_counts : Option Addr} {sl_law_counts : Array (Option Value)} {oc_law_counts kV_law_counts dc_law_counts pm_law_counts cd_law_counts ct_law_counts : Value} {f_law_due_at : Addr} {od_law_due_at an_law_due_at : Option Addr} {sl_law_due_at : Array (Option Value)} {oc_law_due_at kV_law_due_at dc_law_due_at pm_law_due_at cd_law_due_at ct_law_due_at : Value} {f_law : Addr} {od_law an_law : Option Addr} {sl_law : Array (Option Value)} {oc_law kV_law dc_law pm_law cd_law ct_law : Value}
    (a_is_inside : PySem.W.nsIn K mainGlobals "is_inside" = some (some (.ref f_is_inside)))
    (l_is_inside : K.lookup f_is_inside = some ⟨oc_is_inside, od_is_inside, .func (PySem.W.fnOf "is_inside" "is_inside" (defArgs s_is_inside) (defBody s_is_inside) (defScope s_is_inside) .none kV_is_inside dc_is_inside pm_is_inside an_is_inside cd_is_inside ct_is_inside), sl_is_inside⟩)
    (c_is_inside : PySem.W.codeIn K cd_is_inside "is_inside" = true)
    (k_is_inside : PySem.W.keepIn K (.ref f_is_inside) = true)
    (a_brought_inside : PySem.W.nsIn K mainGlobals "brought_inside" = some (some (.ref f_brought_inside)))
    (l_brought_inside : K.lookup f_brought_inside = some ⟨oc_brought_inside, od_brought_inside, .func (PySem.W.fnOf "brought_inside" "brought_inside" (defArgs s_brought_inside) (defBody s_brought_inside) (defScope s_brought_inside) .none kV_brought_inside dc_brought_inside pm_brought_inside an_brought_inside cd_brought_inside ct_brought_inside), sl_brought_inside⟩)
    (c_brought_inside : PySem.W.codeIn K cd_brought_inside "brought_inside" = true)
    (k_brought_inside : PySem.W.keepIn K (.ref f_brought_inside) = true)
    (a_stands_at : PySem.W.nsIn K mainGlobals "stands_at" = some (some (.ref f_stands_at)))
    (l_stands_at : K.lookup f_stands_at = some ⟨oc_stands_at, od_stands_at, .func (PySem.W.fnOf "stands_at" "stands_at" (defArgs s_stands_at) (defBody s_stands_at) (defScope s_stands_at) .none kV_stands_at dc_stands_at pm_stands_at an_stands_at cd_stands_at ct_stands_at), sl_stands_at⟩)
    (c_stands_at : PySem.W.codeIn K cd_stands_at "stands_at" = true)
    (k_stands_at : PySem.W.keepIn K (.ref f_stands_at) = true)
    (a_places_around : PySem.W.nsIn K mainGlobals "places_around" = some (some (.ref f_places_around)))
    (l_places_around : K.lookup f_places_around = some ⟨oc_places_around, od_places_around, .func (PySem.W.fnOf "places_around" "places_around" (defArgs s_places_around) (defBody s_places_around) (defScope s_places_around) .none kV_places_around dc_places_around pm_places_around an_places_around cd_places_around ct_places_around), sl_places_around⟩)
    (c_places_around : PySem.W.codeIn K cd_places_around "places_around" = true)
    (k_places_around : PySem.W.keepIn K (.ref f_places_around) = true)
    (a_place_by_share : PySem.W.nsIn K mainGlobals "place_by_share" = some (some (.ref f_place_by_share)))
    (l_place_by_share : K.lookup f_place_by_share = some ⟨oc_place_by_share, od_place_by_share, .func (PySem.W.fnOf "place_by_share" "place_by_share" (defArgs s_place_by_share) (defBody s_place_by_share) (defScope s_place_by_share) .none kV_place_by_share dc_place_by_share pm_place_by_share an_place_by_share cd_place_by_share ct_place_by_share), sl_place_by_share⟩)
    (c_place_by_share : PySem.W.codeIn K cd_place_by_share "place_by_share" = true)
    (k_place_by_share : PySem.W.keepIn K (.ref f_place_by_share) = true)
    (a_without_holes : PySem.W.nsIn K mainGlobals "without_holes" = some (some (.ref f_without_holes)))
    (l_without_holes : K.lookup f_without_holes = some ⟨oc_without_holes, od_without_holes, .func (PySem.W.fnOf "without_holes" "without_holes" (defArgs s_without_holes) (defBody s_without_holes) (defScope s_without_holes) .none kV_without_holes dc_without_holes pm_without_holes an_without_holes cd_without_holes ct_without_holes), sl_without_holes⟩)
    (c_without_holes : PySem.W.codeIn K cd_without_holes "without_holes" = true)
    (k_without_holes : PySem.W.keepIn K (.ref f_without_holes) = true)
    (a_counts_at : PySem.W.nsIn K mainGlobals "counts_at" = some (some (.ref f_counts_at)))
    (l_counts_at : K.lookup f_counts_at = some ⟨oc_counts_at, od_counts_at, .func (PySem.W.fnOf "counts_at" "counts_at" (defArgs s_counts_at) (defBody s_counts_at) (defScope s_counts_at) .none kV_counts_at dc_counts_at pm_counts_at an_counts_at cd_counts_at ct_counts_at), sl_counts_at⟩)
    (c_counts_at : PySem.W.codeIn K cd_counts_at "counts_at" = true)
    (k_counts_at : PySem.W.keepIn K (.ref f_counts_at) = true)
    (a_told_of_counts : PySem.W.nsIn K mainGlobals "told_of_counts" = some (some (.ref f_told_of_counts)))
    (l_told_of_counts : K.lookup f_told_of_counts = some ⟨oc_told_of_counts, od_told_of_counts, .func (PySem.W.fnOf "told_of_counts" "told_of_counts" (defArgs s_told_of_counts) (defBody s_told_of_counts) (defScope s_told_of_counts) .none kV_told_of_counts dc_told_of_counts pm_told_of_counts an_told_of_counts cd_told_of_counts ct_told_of_counts), sl_told_of_counts⟩)
    (c_told_of_counts : PySem.W.codeIn K cd_told_of_counts "told_of_counts" = true)
    (k_told_of_counts : PySem.W.keepIn K (.ref f_told_of_counts) = true)
    (a_weighted : PySem.W.nsIn K mainGlobals "weighted" = some (some (.ref f_weighted)))
    (l_weighted : K.lookup f_weighted = some ⟨oc_weighted, od_weighted, .func (PySem.W.fnOf "weighted" "weighted" (defArgs s_weighted) (defBody s_weighted) (defScope s_weighted) .none kV_weighted dc_weighted pm_weighted an_weighted cd_weighted ct_weighted), sl_weighted⟩)
    (c_weighted : PySem.W.codeIn K cd_weighted "weighted" = true)
    (k_weighted : PySem.W.keepIn K (.ref f_weighted) = true)
    (a_law_deck : PySem.W.nsIn K mainGlobals "_law_deck" = some (some (.ref f_law_deck)))
    (l_law_deck : K.lookup f_law_deck = some ⟨oc_law_deck, od_law_deck, .func (PySem.W.fnOf "_law_deck" "_law_deck" (defArgs s_law_deck) (defBody s_law_deck) (defScope s_law_deck) .none kV_law_deck dc_law_deck pm_law_deck an_law_deck cd_law_deck ct_law_deck), sl_law_deck⟩)
    (c_law_deck : PySem.W.codeIn K cd_law_deck "_law_deck" = true)
    (k_law_deck : PySem.W.keepIn K (.ref f_law_deck) = true)
    (a_law_draw : PySem.W.nsIn K mainGlobals "_law_draw" = some (some (.ref f_law_draw)))
    (l_law_draw : K.lookup f_law_draw = some ⟨oc_law_draw, od_law_draw, .func (PySem.W.fnOf "_law_draw" "_law_draw" (defArgs s_law_draw) (defBody s_law_draw) (defScope s_law_draw) .none kV_law_draw dc_law_draw pm_law_draw an_law_draw cd_law_draw ct_law_draw), sl_law_draw⟩)
    (c_law_draw : PySem.W.codeIn K cd_law_draw "_law_draw" = true)
    (k_law_draw : PySem.W.keepIn K (.ref f_law_draw) = true)
    (a_law_number : PySem.W.nsIn K mainGlobals "_law_number" = some (some (.ref f_law_number)))
    (l_law_number : K.lookup f_law_number = some ⟨oc_law_number, od_law_number, .func (PySem.W.fnOf "_law_number" "_law_number" (defArgs s_law_number) (defBody s_law_number) (defScope s_law_number) .none kV_law_number dc_law_number pm_law_number an_law_number cd_law_number ct_law_number), sl_law_number⟩)
    (c_law_number : PySem.W.codeIn K cd_law_number "_law_number" = true)
    (k_law_number : PySem.W.keepIn K (.ref f_law_number) = true)
    (a_law_field : PySem.W.nsIn K mainGlobals "_law_field" = some (some (.ref f_law_field)))
    (l_law_field : K.lookup f_law_field = some ⟨oc_law_field, od_law_field, .func (PySem.W.fnOf "_law_field" "_law_field" (defArgs s_law_field) (defBody s_law_field) (defScope s_law_field) .none kV_law_field dc_law_field pm_law_field an_law_field cd_law_field ct_law_field), sl_law_field⟩)
    (c_law_field : PySem.W.codeIn K cd_law_field "_law_field" = true)
    (k_law_field : PySem.W.keepIn K (.ref f_law_field) = true)
    (a_law_sides : PySem.W.nsIn K mainGlobals "_law_sides" = some (some (.ref f_law_sides)))
    (l_law_sides : K.lookup f_law_sides = some ⟨oc_law_sides, od_law_sides, .func (PySem.W.fnOf "_law_sides" "_law_sides" (defArgs s_law_sides) (defBody s_law_sides) (defScope s_law_sides) .none kV_law_sides dc_law_sides pm_law_sides an_law_sides cd_law_sides ct_law_sides), sl_law_sides⟩)
    (c_law_sides : PySem.W.codeIn K cd_law_sides "_law_sides" = true)
    (k_law_sides : PySem.W.keepIn K (.ref f_law_sides) = true)
    (a_law_rule : PySem.W.nsIn K mainGlobals "_law_rule" = some (some (.ref f_law_rule)))
    (l_law_rule : K.lookup f_law_rule = some ⟨oc_law_rule, od_law_rule, .func (PySem.W.fnOf "_law_rule" "_law_rule" (defArgs s_law_rule) (defBody s_law_rule) (defScope s_law_rule) .none kV_law_rule dc_law_rule pm_law_rule an_law_rule cd_law_rule ct_law_rule), sl_law_rule⟩)
    (c_law_rule : PySem.W.codeIn K cd_law_rule "_law_rule" = true)
    (k_law_rule : PySem.W.keepIn K (.ref f_law_rule) = true)
    (a_law_share : PySem.W.nsIn K mainGlobals "_law_share" = some (some (.ref f_law_share)))
    (l_law_share : K.lookup f_law_share = some ⟨oc_law_share, od_law_share, .func (PySem.W.fnOf "_law_share" "_law_share" (defArgs s_law_share) (defBody s_law_share) (defScope s_law_share) .none kV_law_share dc_law_share pm_law_share an_law_share cd_law_share ct_law_share), sl_law_share⟩)
    (c_law_share : PySem.W.codeIn K cd_law_share "_law_share" = true)
    (k_law_share : PySem.W.keepIn K (.ref f_law_share) = true)
    (a_law_stood : PySem.W.nsIn K mainGlobals "_law_stood" = some (some (.ref f_law_stood)))
    (l_law_stood : K.lookup f_law_stood = some ⟨oc_law_stood, od_law_stood, .func (PySem.W.fnOf "_law_stood" "_law_stood" (defArgs s_law_stood) (defBody s_law_stood) (defScope s_law_stood) .none kV_law_stood dc_law_stood pm_law_stood an_law_stood cd_law_stood ct_law_stood), sl_law_stood⟩)
    (c_law_stood : PySem.W.codeIn K cd_law_stood "_law_stood" = true)
    (k_law_stood : PySem.W.keepIn K (.ref f_law_stood) = true)
    (a_law_same : PySem.W.nsIn K mainGlobals "_law_same" = some (some (.ref f_law_same)))
    (l_law_same : K.lookup f_law_same = some ⟨oc_law_same, od_law_same, .func (PySem.W.fnOf "_law_same" "_law_same" (defArgs s_law_same) (defBody s_law_same) (defScope s_law_same) .none kV_law_same dc_law_same pm_law_same an_law_same cd_law_same ct_law_same), sl_law_same⟩)
    (c_law_same : PySem.W.codeIn K cd_law_same "_law_same" = true)
    (k_law_same : PySem.W.keepIn K (.ref f_law_same) = true)
    (a_law_counts : PySem.W.nsIn K mainGlobals "_law_counts" = some (some (.ref f_law_counts)))
    (l_law_counts : K.lookup f_law_counts = some ⟨oc_law_counts, od_law_counts, .func (PySem.W.fnOf "_law_counts" "_law_counts" (defArgs s_law_counts) (defBody s_law_counts) (defScope s_law_counts) .none kV_law_counts dc_law_counts pm_law_counts an_law_counts cd_law_counts ct_law_counts), sl_law_counts⟩)
    (c_law_counts : PySem.W.codeIn K cd_law_counts "_law_counts" = true)
    (k_law_counts : PySem.W.keepIn K (.ref f_law_counts) = true)
    (a_law_due_at : PySem.W.nsIn K mainGlobals "_law_due_at" = some (some (.ref f_law_due_at)))
    (l_law_due_at : K.lookup f_law_due_at = some ⟨oc_law_due_at, od_law_due_at, .func (PySem.W.fnOf "_law_due_at" "_law_due_at" (defArgs s_law_due_at) (defBody s_law_due_at) (defScope s_law_due_at) .none kV_law_due_at dc_law_due_at pm_law_due_at an_law_due_at cd_law_due_at ct_law_due_at), sl_law_due_at⟩)
    (c_law_due_at : PySem.W.codeIn K cd_law_due_at "_law_due_at" = true)
    (k_law_due_at : PySem.W.keepIn K (.ref f_law_due_at) = true)
    (a_law : PySem.W.nsIn K mainGlobals "law" = some (some (.ref f_law)))
    (l_law : K.lookup f_law = some ⟨oc_law, od_law, .func (PySem.W.fnOf "law" "law" (defArgs s_law) (defBody s_law) (defScope s_law) .none kV_law dc_law pm_law an_law cd_law ct_law), sl_law⟩)
    (c_law : PySem.W.codeIn K cd_law "law" = true)
    (k_law : PySem.W.keepIn K (.ref f_law) = true)
    (z_len : PySem.W.nsIn K mainGlobals "len" = some none)
    (z_sum : PySem.W.nsIn K mainGlobals "sum" = some none)
    (z_max : PySem.W.nsIn K mainGlobals "max" = some none)
    (z_min : PySem.W.nsIn K mainGlobals "min" = some none)
    (z_abs : PySem.W.nsIn K mainGlobals "abs" = some none)
    (z_tuple : PySem.W.nsIn K mainGlobals "tuple" = some none)
    (z_list : PySem.W.nsIn K mainGlobals "list" = some none)
    (z_int : PySem.W.nsIn K mainGlobals "int" = some none)
    (z_bool : PySem.W.nsIn K mainGlobals "bool" = some none)
    (z_str : PySem.W.nsIn K mainGlobals "str" = some none)
    (z_isinstance : PySem.W.nsIn K mainGlobals "isinstance" = some none)
    (z_range : PySem.W.nsIn K mainGlobals "range" = some none)
    (z_enumerate : PySem.W.nsIn K mainGlobals "enumerate" = some none)
    (z_sorted : PySem.W.nsIn K mainGlobals "sorted" = some none)
    (z_zip : PySem.W.nsIn K mainGlobals "zip" = some none) : Txt K mg where
    d_is_inside := ⟨_, _, fun_mk (st := s_is_inside) l_is_inside c_is_inside k_is_inside, PySem.W.mg_of X G a_is_inside, (fun_mk (st := s_is_inside) l_is_inside c_is_inside k_is_inside).binds (ps := ["field", "i", "j"]) fun _ _ _ _ _ _ us hl => match us, hl with | [_, _, _], _ => rfl⟩
    d_brought_inside := ⟨_, _, fun_mk (st := s_brought_inside) l_brought_inside c_brought_inside k_brought_inside, PySem.W.mg_of X G a_brought_inside, (fun_mk (st := s_brought_inside) l_brought_inside c_brought_inside k_brought_inside).binds (ps := ["rule", "place", "length"]) fun _ _ _ _ _ _ us hl => match us, hl with | [_, _, _], _ => rfl⟩
    d_stands_at := ⟨_, _, fun_mk (st := s_stands_at) l_stands_at c_stands_at k_stands_at, PySem.W.mg_of X G a_stands_at, (fun_mk (st := s_stands_at) l_stands_at c_stands_at k_stands_at).binds (ps := ["field", "rule", "i", "j"]) fun _ _ _ _ _ _ us hl => match us, hl with | [_, _, _, _], _ => rfl⟩
    d_places_around := ⟨_, _, fun_mk (st := s_places_around) l_places_around c_places_around k_places_around, PySem.W.mg_of X G a_places_around, (fun_mk (st := s_places_around) l_places_around c_places_around k_places_around).binds (ps := ["place", "ahead", "behind"]) fun _ _ _ _ _ _ us hl => match us, hl with | [_, _, _], _ => rfl⟩
    d_place_by_share := ⟨_, _, fun_mk (st := s_place_by_share) l_place_by_share c_place_by_share k_place_by_share, PySem.W.mg_of X G a_place_by_share, (fun_mk (st := s_place_by_share) l_place_by_share c_place_by_share k_place_by_share).binds (ps := ["how_many", "share"]) fun _ _ _ _ _ _ us hl => match us, hl with | [_, _], _ => rfl⟩
    d_without_holes := ⟨_, _, fun_mk (st := s_without_holes) l_without_holes c_without_holes k_without_holes, PySem.W.mg_of X G a_without_holes, (fun_mk (st := s_without_holes) l_without_holes c_without_holes k_without_holes).binds (ps := ["cells"]) fun _ _ _ _ _ _ us hl => match us, hl with | [_], _ => rfl⟩
    d_counts_at := ⟨_, _, fun_mk (st := s_counts_at) l_counts_at c_counts_at k_counts_at, PySem.W.mg_of X G a_counts_at, (fun_mk (st := s_counts_at) l_counts_at c_counts_at k_counts_at).binds (ps := ["field", "window", "counts", "rule", "i", "j"]) fun _ _ _ _ _ _ us hl => match us, hl with | [_, _, _, _, _, _], _ => rfl⟩
    d_told_of_counts := ⟨_, _, fun_mk (st := s_told_of_counts) l_told_of_counts c_told_of_counts k_told_of_counts, PySem.W.mg_of X G a_told_of_counts, (fun_mk (st := s_told_of_counts) l_told_of_counts c_told_of_counts k_told_of_counts).binds (ps := ["often", "share"]) fun _ _ _ _ _ _ us hl => match us, hl with | [_, _], _ => rfl⟩
    d_weighted := ⟨_, _, fun_mk (st := s_weighted) l_weighted c_weighted k_weighted, PySem.W.mg_of X G a_weighted, (fun_mk (st := s_weighted) l_weighted c_weighted k_weighted).binds (ps := ["field", "window", "counts", "rule", "share"]) fun _ _ _ _ _ _ us hl => match us, hl with | [_, _, _, _, _], _ => rfl⟩
    d_law_deck := ⟨_, _, fun_mk (st := s_law_deck) l_law_deck c_law_deck k_law_deck, PySem.W.mg_of X G a_law_deck, (fun_mk (st := s_law_deck) l_law_deck c_law_deck k_law_deck).binds (ps := ["script"]) fun _ _ _ _ _ _ us hl => match us, hl with | [_], _ => rfl⟩
    d_law_draw := ⟨_, _, fun_mk (st := s_law_draw) l_law_draw c_law_draw k_law_draw, PySem.W.mg_of X G a_law_draw, (fun_mk (st := s_law_draw) l_law_draw c_law_draw k_law_draw).binds (ps := ["deck", "most"]) fun _ _ _ _ _ _ us hl => match us, hl with | [_, _], _ => rfl⟩
    d_law_number := ⟨_, _, fun_mk (st := s_law_number) l_law_number c_law_number k_law_number, PySem.W.mg_of X G a_law_number, (fun_mk (st := s_law_number) l_law_number c_law_number k_law_number).binds (ps := ["deck", "kind"]) fun _ _ _ _ _ _ us hl => match us, hl with | [_, _], _ => rfl⟩
    d_law_field := ⟨_, _, fun_mk (st := s_law_field) l_law_field c_law_field k_law_field, PySem.W.mg_of X G a_law_field, (fun_mk (st := s_law_field) l_law_field c_law_field k_law_field).binds (ps := ["deck", "most", "holes"]) fun _ _ _ _ _ _ us hl => match us, hl with | [_, _, _], _ => rfl⟩
    d_law_sides := ⟨_, _, fun_mk (st := s_law_sides) l_law_sides c_law_sides k_law_sides, PySem.W.mg_of X G a_law_sides, (fun_mk (st := s_law_sides) l_law_sides c_law_sides k_law_sides).binds (ps := ["deck", "most"]) fun _ _ _ _ _ _ us hl => match us, hl with | [_, _], _ => rfl⟩
    d_law_rule := ⟨_, _, fun_mk (st := s_law_rule) l_law_rule c_law_rule k_law_rule, PySem.W.mg_of X G a_law_rule, (fun_mk (st := s_law_rule) l_law_rule c_law_rule k_law_rule).binds (ps := ["deck", "kind"]) fun _ _ _ _ _ _ us hl => match us, hl with | [_, _], _ => rfl⟩
    d_law_share := ⟨_, _, fun_mk (st := s_law_share) l_law_share c_law_share k_law_share, PySem.W.mg_of X G a_law_share, (fun_mk (st := s_law_share) l_law_share c_law_share k_law_share).binds (ps := ["deck"]) fun _ _ _ _ _ _ us hl => match us, hl with | [_], _ => rfl⟩
    d_law_stood := ⟨_, _, fun_mk (st := s_law_stood) l_law_stood c_law_stood k_law_stood, PySem.W.mg_of X G a_law_stood, (fun_mk (st := s_law_stood) l_law_stood c_law_stood k_law_stood).binds (ps := ["plot", "edge", "i", "j"]) fun _ _ _ _ _ _ us hl => match us, hl with | [_, _, _, _], _ => rfl⟩
    d_law_same := ⟨_, _, fun_mk (st := s_law_same) l_law_same c_law_same k_law_same, PySem.W.mg_of X G a_law_same, (fun_mk (st := s_law_same) l_law_same c_law_same k_law_same).binds (ps := ["found", "due"]) fun _ _ _ _ _ _ us hl => match us, hl with | [_, _], _ => rfl⟩
    d_law_counts := ⟨_, _, fun_mk (st := s_law_counts) l_law_counts c_law_counts k_law_counts, PySem.W.mg_of X G a_law_counts, (fun_mk (st := s_law_counts) l_law_counts c_law_counts k_law_counts).binds (ps := ["deck", "pane", "kinds"]) fun _ _ _ _ _ _ us hl => match us, hl with | [_, _, _], _ => rfl⟩
    d_law_due_at := ⟨_, _, fun_mk (st := s_law_due_at) l_law_due_at c_law_due_at k_law_due_at, PySem.W.mg_of X G a_law_due_at, (fun_mk (st := s_law_due_at) l_law_due_at c_law_due_at k_law_due_at).binds (ps := ["plot", "pane", "tallied", "edge", "quota", "i", "j"]) fun _ _ _ _ _ _ us hl => match us, hl with | [_, _, _, _, _, _, _], _ => rfl⟩
    d_law := ⟨_, _, fun_mk (st := s_law) l_law c_law k_law, PySem.W.mg_of X G a_law, (fun_mk (st := s_law) l_law c_law k_law).binds (ps := ["script"]) fun _ _ _ _ _ _ us hl => match us, hl with | [_], _ => rfl⟩
    n_len := PySem.W.mg_none_of X G z_len
    n_sum := PySem.W.mg_none_of X G z_sum
    n_max := PySem.W.mg_none_of X G z_max
    n_min := PySem.W.mg_none_of X G z_min
    n_abs := PySem.W.mg_none_of X G z_abs
    n_tuple := PySem.W.mg_none_of X G z_tuple
    n_list := PySem.W.mg_none_of X G z_list
    n_int := PySem.W.mg_none_of X G z_int
    n_bool := PySem.W.mg_none_of X G z_bool
    n_str := PySem.W.mg_none_of X G z_str
    n_isinstance := PySem.W.mg_none_of X G z_isinstance
    n_range := PySem.W.mg_none_of X G z_range
    n_enumerate := PySem.W.mg_none_of X G z_enumerate
    n_sorted := PySem.W.mg_none_of X G z_sorted
    n_zip := PySem.W.mg_none_of X G z_zip
end Mw
open PySem PySem.W PyProof.Rows
set_option maxHeartbeats 0 in
theorem PySem.Challenge.cw_midwindow_k22_weighted_holds : PySem.Challenge.rw_midwindow_k22_weighted.Holds := by
  w_on; o_law; k_head; (case hw => w_witness2)
  k_fill
  refine L2.walk_df (l := PySem.Challenge.rw_midwindow_k22_weighted) (k := 8) (st := Mw.s_law) rfl rfl rfl ⟨rfl, by decide, by decide⟩ (fun w h Y => PySem.W.kIn_of Y) (fun _ _ _ _ _ _ _ => rfl) ?F
  case F =>
    intro w mg h KX G
    have T : Mw.Txt (L2.KOf KX) mg := by
      dsimp only [L2.KOf]
      refine' Mw.txt_mk KX G ?a_is_inside ?l_is_inside ?c_is_inside ?k_is_inside ?a_brought_inside ?l_brought_inside ?c_brought_inside ?k_brought_inside ?a_stands_at ?l_stands_at ?c_stands_at ?k_stands_at ?a_places_around ?l_places_around ?c_places_around ?k_places_around ?a_place_by_share ?l_place_by_share ?c_place_by_share ?k_place_by_share ?a_without_holes ?l_without_holes ?c_without_holes ?k_without_holes ?a_counts_at ?l_counts_at ?c_counts_at ?k_counts_at ?a_told_of_counts ?l_told_of_counts ?c_told_of_counts ?k_told_of_counts ?a_weighted ?l_weighted ?c_weighted ?k_weighted ?a_law_deck ?l_law_deck ?c_law_deck ?k_law_deck ?a_law_draw ?l_law_draw ?c_law_draw ?k_law_draw ?a_law_number ?l_law_number ?c_law_number ?k_law_number ?a_law_field ?l_law_field ?c_law_field ?k_law_field ?a_law_sides ?l_law_sides ?c_law_sides ?k_law_sides ?a_law_rule ?l_law_rule ?c_law_rule ?k_law_rule ?a_law_share ?l_law_share ?c_law_share ?k_law_share ?a_law_stood ?l_law_stood ?c_law_stood ?k_law_stood ?a_law_same ?l_law_same ?c_law_same ?k_law_same ?a_law_counts ?l_law_counts ?c_law_counts ?k_law_counts ?a_law_due_at ?l_law_due_at ?c_law_due_at ?k_law_due_at ?a_law ?l_law ?c_law ?k_law ?z_len ?z_sum ?z_max ?z_min ?z_abs ?z_tuple ?z_list ?z_int ?z_bool ?z_str ?z_isinstance ?z_range ?z_enumerate ?z_sorted ?z_zip
      (case a_is_inside => k_is)
      (case l_is_inside => k_is)
      (case c_is_inside => k_is)
      (case k_is_inside => k_is)
      (case a_brought_inside => k_is)
      (case l_brought_inside => k_is)
      (case c_brought_inside => k_is)
      (case k_brought_inside => k_is)
      (case a_stands_at => k_is)
      (case l_stands_at => k_is)
      (case c_stands_at => k_is)
      (case k_stands_at => k_is)
      (case a_places_around => k_is)
      (case l_places_around => k_is)
      (case c_places_around => k_is)
      (case k_places_around => k_is)
      (case a_place_by_share => k_is)
      (case l_place_by_share => k_is)
      (case c_place_by_share => k_is)
      (case k_place_by_share => k_is)
      (case a_without_holes => k_is)
      (case l_without_holes => k_is)
      (case c_without_holes => k_is)
      (case k_without_holes => k_is)
      (case a_counts_at => k_is)
      (case l_counts_at => k_is)
      (case c_counts_at => k_is)
      (case k_counts_at => k_is)
      (case a_told_of_counts => k_is)
      (case l_told_of_counts => k_is)
      (case c_told_of_counts => k_is)
      (case k_told_of_counts => k_is)
      (case a_weighted => k_is)
      (case l_weighted => k_is)
      (case c_weighted => k_is)
      (case k_weighted => k_is)
      (case a_law_deck => k_is)
      (case l_law_deck => k_is)
      (case c_law_deck => k_is)
      (case k_law_deck => k_is)
      (case a_law_draw => k_is)
      (case l_law_draw => k_is)
      (case c_law_draw => k_is)
      (case k_law_draw => k_is)
      (case a_law_number => k_is)
      (case l_law_number => k_is)
      (case c_law_number => k_is)
      (case k_law_number => k_is)
      (case a_law_field => k_is)
      (case l_law_field => k_is)
      (case c_law_field => k_is)
      (case k_law_field => k_is)
      (case a_law_sides => k_is)
      (case l_law_sides => k_is)
      (case c_law_sides => k_is)
      (case k_law_sides => k_is)
      (case a_law_rule => k_is)
      (case l_law_rule => k_is)
      (case c_law_rule => k_is)
      (case k_law_rule => k_is)
      (case a_law_share => k_is)
      (case l_law_share => k_is)
      (case c_law_share => k_is)
      (case k_law_share => k_is)
      (case a_law_stood => k_is)
      (case l_law_stood => k_is)
      (case c_law_stood => k_is)
      (case k_law_stood => k_is)
      (case a_law_same => k_is)
      (case l_law_same => k_is)
      (case c_law_same => k_is)
      (case k_law_same => k_is)
      (case a_law_counts => k_is)
      (case l_law_counts => k_is)
      (case c_law_counts => k_is)
      (case k_law_counts => k_is)
      (case a_law_due_at => k_is)
      (case l_law_due_at => k_is)
      (case c_law_due_at => k_is)
      (case k_law_due_at => k_is)
      (case a_law => k_is)
      (case l_law => k_is)
      (case c_law => k_is)
      (case k_law => k_is)
      (case z_len => k_is)
      (case z_sum => k_is)
      (case z_max => k_is)
      (case z_min => k_is)
      (case z_abs => k_is)
      (case z_tuple => k_is)
      (case z_list => k_is)
      (case z_int => k_is)
      (case z_bool => k_is)
      (case z_str => k_is)
      (case z_isinstance => k_is)
      (case z_range => k_is)
      (case z_enumerate => k_is)
      (case z_sorted => k_is)
      (case z_zip => k_is)
    exact ⟨T.d_law, fun base => Mw.df_law T⟩
