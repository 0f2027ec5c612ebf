import PyProof.Rows.All
import Wide.All
import OpenK.AllK
import Wide.FinOn
import Lean
import PyProof.EqAt
import PyProof.EqKinds
import PyProof.TupleCall
import KE.LcSums
import KE.KUnpack
import PyProof.P3In
import PyProof.Rows.SortRuns
import PyProof.Rows.SortShell
import PyProof.TupleOfSeq
import PyProof.SetKind
import PyProof.Rows.SetFrom
import PyProof.WalksMore
import PyProof.DictIter
import PyProof.SetRoads
import KE.KDictSum
import KE.KSortedM
import KE.KIntText
import PyProof.StrWalks
import PyProof.EnumMake
import PyProof.EnumStmt
import PyProof.SliceStr2
import PyProof.StrLawsTight
import PyProof.StrLawsChain
import PyProof.ZipIter
import KE.KPairComp
import PyProof.DictItems
import PyProof.DictWalks
import PyProof.SumAny
import KE.KFind
import PyProof.EnumIter
import PyProof.ListMulAny
import PyProof.FactsAll.tuple
import PyProof.P3Eq
import PyProof.TupleKey
import PyProof.FactsAll.NoneType
import PyProof.DictRoadsH
import PyProof.Rows.TupDisplay
import PySem.Challenge.RW_midwindow_k26_rows_that_go_round
set_option Elab.async false
set_option linter.all false
set_option maxRecDepth 100000
set_option maxHeartbeats 4000000
namespace L2
open PySem PySem.Spec PyProof.Rows
abbrev Key := Sum Int Str
def keyIs : Key → Value → Bool
  | .inl k, v => Value.isInt k v
  | .inr x, v => Value.isStrOf x v
def keyH (w : World) : Key → Int
  | .inl k => hashInt k
  | .inr x => hashStr w x
theorem keyIs_shape : ∀ {k : Key} {v : Value}, keyIs k v = true → (∃ i t, k = Sum.inl i ∧ v = Value.int i t) ∨ (∃ x t, k = Sum.inr x ∧ v = Value.str x t)
  | .inl i, v, h => by
    obtain ⟨t, e⟩ := Value.isInt_shape (k := i) (v := v) h
    exact .inl ⟨i, t, rfl, e⟩
  | .inr x, v, h => by
    obtain ⟨t, e⟩ := Value.isStrOf_shape (x := x) (v := v) h
    exact .inr ⟨x, t, rfl, e⟩
theorem key_ll (a b : Int) : decide ((Sum.inl a : Key) = Sum.inl b) = (a == b) := by
  by_cases e : a = b
  · subst e; simp
  · have h : ¬ (Sum.inl a : Key) = Sum.inl b := fun q => e (Sum.inl.inj q)
    rw [decide_eq_false h]
    exact (beq_eq_false_iff_ne.mpr e).symm
theorem key_rr (a b : Str) : decide ((Sum.inr a : Key) = Sum.inr b) = decide (a = b) := by
  by_cases e : a = b
  · subst e; simp
  · have h : ¬ (Sum.inr a : Key) = Sum.inr b := fun q => e (Sum.inr.inj q)
    rw [decide_eq_false h, decide_eq_false e]
theorem key_lr (a : Int) (b : Str) : decide ((Sum.inl a : Key) = Sum.inr b) = false := decide_eq_false (fun q => nomatch q)
theorem key_rl (a : Str) (b : Int) : decide ((Sum.inr a : Key) = Sum.inl b) = false := decide_eq_false (fun q => nomatch q)
def mixKind (prog : Program) (w : World) : PySem.KeyKind prog w Key where
  is := keyIs
  hash := keyH w
  inj := fun v a b ha hb => by
    rcases keyIs_shape ha with ⟨i, t, rfl, rfl⟩ | ⟨x, t, rfl, rfl⟩
    · rcases keyIs_shape hb with ⟨j, u, rfl, e⟩ | ⟨y, u, rfl, e⟩
      · injection e with e1 _; rw [e1]
      · exact nomatch e
    · rcases keyIs_shape hb with ⟨j, u, rfl, e⟩ | ⟨y, u, rfl, e⟩
      · exact nomatch e
      · injection e with e1 _; rw [e1]
  byValue := fun k v h => by
    rcases keyIs_shape h with ⟨i, t, rfl, rfl⟩ | ⟨x, t, rfl, rfl⟩ <;> rfl
  pyHash := fun hv h => by
    rcases keyIs_shape hv with ⟨i, t, rfl, rfl⟩ | ⟨x, t, rfl, rfl⟩
    · exact wpAny_pyHash_int h
    · exact wpAny_pyHash_str h
  eqBool := fun hu hv h => by
    rcases keyIs_shape hu with ⟨i, t, rfl, rfl⟩ | ⟨x, t, rfl, rfl⟩
    · rcases keyIs_shape hv with ⟨j, u, rfl, rfl⟩ | ⟨y, u, rfl, rfl⟩
      · rw [key_ll] at h; exact wpAny_eqBool_int h
      · rw [key_lr] at h; exact SeqAt.EqAt.int_str i t y u _ _ _ _ h
    · rcases keyIs_shape hv with ⟨j, u, rfl, rfl⟩ | ⟨y, u, rfl, rfl⟩
      · rw [key_rl] at h; exact SeqAt.EqAt.str_int x t j u _ _ _ _ h
      · rw [key_rr] at h; exact wpAny_eqBool_str h
  «strs» := fun k x t v h => by
    rcases keyIs_shape h with ⟨i, u, rfl, e⟩ | ⟨y, u, rfl, e⟩
    · exact nomatch e
    · injection e with e1 _
      subst e1
      cases v <;> rfl
end L2
namespace L2
open PySem PySem.Spec PyProof.Rows
inductive V where
  | non | bl (b : Bool) | int (i : Int) | str (x : Str) | byt (b : Array UInt8) | flt (b : UInt64) | ref (a : Addr) | ty (n : String)
  deriving DecidableEq
def RelV : V → Value → Prop
  | .non, u => u = Value.none
  | .bl b, u => u = Value.bool b
  | .int i, u => ∃ t, u = Value.int i t
  | .str x, u => ∃ t, u = Value.str x t
  | .byt b, u => ∃ t, u = Value.bytes b t
  | .flt b, u => ∃ t, u = Value.float b t
  | .ref a, u => u = Value.ref a
  | .ty n, u => u = Value.type n
abbrev Vals : List V → List Value → Prop := Paired RelV
theorem Vals.length {xs : List V} {us : List Value} (r : Vals xs us) : xs.length = us.length := Paired.length r
theorem Vals.get : ∀ {xs : List V} {us : List Value} {i : Nat} {x : V}, Vals xs us → xs[i]? = some x → ∃ u, us[i]? = some u ∧ RelV x u
  | _, _, _, _, .nil, e => by simp at e
  | _, _, 0, _, .cons r _, e => by simp at e; subst e; exact ⟨_, rfl, r⟩
  | _, _, i + 1, x, .cons _ t, e => by
    obtain ⟨u, h1, h2⟩ := Vals.get (i := i) (x := x) t (by simpa using e)
    exact ⟨u, by simpa using h1, h2⟩
theorem Vals.set {x : V} {u : Value} (r : RelV x u) : ∀ {xs : List V} {us : List Value} (i : Nat), Vals xs us → Vals (xs.set i x) (us.set i u)
  | _, _, _, .nil => .nil
  | _, _, 0, .cons _ t => .cons r t
  | _, _, i + 1, .cons q t => .cons q (Vals.set r i t)
theorem Vals.append : ∀ {xs ys : List V} {us ws : List Value}, Vals xs us → Vals ys ws → Vals (xs ++ ys) (us ++ ws)
  | _, _, _, _, .nil, s => s
  | _, _, _, _, .cons r t, s => .cons r (Vals.append t s)
theorem Vals.take : ∀ {xs : List V} {us : List Value} (n : Nat), Vals xs us → Vals (xs.take n) (us.take n)
  | _, _, 0, _ => .nil
  | _, _, _ + 1, .nil => .nil
  | _, _, n + 1, .cons r t => .cons r (Vals.take n t)
theorem Vals.drop : ∀ {xs : List V} {us : List Value} (n : Nat), Vals xs us → Vals (xs.drop n) (us.drop n)
  | _, _, 0, r => r
  | _, _, _ + 1, .nil => .nil
  | _, _, n + 1, .cons _ t => Vals.drop n t
def RelO : Option V → Option Value → Prop
  | some v, some u => RelV v u
  | none, none => True
  | _, _ => False
def KV {κ : Type} : List (κ × V) → List (κ × Value) → Prop := Paired fun (p : κ × V) (q : κ × Value) => p.1 = q.1 ∧ RelV p.2 q.2
def kV : Key → V
  | .inl i => .int i
  | .inr x => .str x
inductive HO where
  /-- a list -/
  | lst (xs : List V)
  /-- a tuple (never changes) -/
  | tup (xs : List V)
  /-- a dict whose keys are ints and texts; one whose keys are tuples of ints and texts (the empty one is both) -/
  | dK (kvs : List (Key × V)) | dT (kvs : List (List Key × V))
  /-- a set of ints: its members, its size -/
  | set (S : Int → Bool) (n : Nat)
  /-- an instance of the class at C, its dict at dx, its attributes -/
  | ins (C dx : Addr) (fs : List (Str × V))
  /-- the dict of the instance at x -/
  | own (x : Addr)
  /-- the dict of an exception -/
  | xd (fs : List (Str × V))
  /-- a bound method, f of x -/
  | met (f x : Addr)
  /-- a range object lo, lo + 1, .. below hi -/
  | rng (lo hi : Int)
  /-- a thing that is known to the object (the script; a dict while a loop walks it): read, never written while it is so -/
  | frz (o : Obj) (u : HO)
  /-- a code object's table -/
  | tbl (ps : Array Value)
  /-- any other thing, by what is true of its one object (a def of one's own: SetO a S n := HO.ext fun h => ..) -/
  | ext (φ : Heap → Prop)
abbrev Hp := Addr → Option HO
def upd (H : Hp) (a : Addr) (o : HO) : Hp := fun b => if b = a then some o else H b
theorem upd_same {H : Hp} {a : Addr} {o : HO} : upd H a o a = some o := by unfold upd; rw [if_pos rfl]
theorem upd_ne {H : Hp} {a b : Addr} {o : HO} (h : b ≠ a) : upd H a o b = H b := by unfold upd; rw [if_neg h]
theorem ne_of {H : Hp} {a b : Addr} {o u : HO} (h : H a = some o) (h' : H b = some u) (d : o ≠ u) : a ≠ b := by
  intro e; subst e; rw [h] at h'; exact d (Option.some.inj h')
theorem ne_of_none {H : Hp} {a b : Addr} {o : HO} (h : H a = some o) (h' : H b = none) : a ≠ b := by
  intro e; subst e; rw [h] at h'; cases h'
section
variable (P : Program) (w : World)
def ObjOk (H : Hp) (h : Heap) (a : Addr) : HO → Prop
  | .lst xs => xs.length ≤ sizeLine ∧ ∃ (its : List Value) (n : Nat), Vals xs its ∧ h.get? a = some { cls := .type "list", data := .seq its.toArray n }
  | .tup xs => xs.length ≤ sizeLine ∧ ∃ its : List Value, Vals xs its ∧ IsTup h a its.toArray
  | .dK kvs => kvs.length ≤ sizeLine ∧ (a == sysModules) = false ∧ ∃ vs, KV kvs vs ∧ h.DictOf (mixKind P w) a vs
  | .dT kvs => kvs.length ≤ sizeLine ∧ (a == sysModules) = false ∧ ∃ xs : List (List Key × Addr × Value),
      Paired (fun (p : List Key × V) (q : List Key × Addr × Value) => p.1 = q.1 ∧ H q.2.1 = some (.tup (p.1.map kV)) ∧ RelV p.2 q.2.2) kvs xs ∧
      ∃ o es ep, h.get? a = some o ∧ o.ExactDict ∧ o.data = .dict es ep ∧ es.toList = xs.map (entryOfKey (tupleKind (mixKind P w))) ∧ (xs.map (·.1)).Nodup
  | .set S n => h.SetOf (intKind P w) a S n
  | .ins C dx fs => H dx = some (.own a) ∧ fs.length ≤ 1000 ∧ dx ≠ a ∧ h.get? a = some (PySem.W.instObj C dx) ∧
      ∃ mA, h.Ns1 dx mA ∧ (∀ f, RelO (fs.lookup f) (mA f)) ∧ PySem.Within mA (fs.map (·.1))
  | .own _ => ∃ o, h.get? a = some o
  | .xd fs => ∃ mA, h.Ns1 a mA ∧ ∀ f, RelO (fs.lookup f) (mA f)
  | .rng lo hi => ∃ t u v, h.get? a = some { cls := .type "range", data := .fields #[.int lo t, .int hi u, .int 1 v] }
  | .frz o u => h.get? a = some o ∧ ObjOk H h a u
  | .tbl ps => h.get? a = some { cls := .none, data := .fields ps }
  | .met f x => h.get? a = some (PySem.W.methodObj (.ref f) (.ref x))
  | .ext φ => φ h ∧ (∃ o, h.get? a = some o) ∧ ∀ h1 h2 : Heap, φ h1 → (∀ o, h1.get? a = some o → h2.get? a = some o) → φ h2
def HOk (H : Hp) (h : Heap) : Prop := ∀ a o, H a = some o → ObjOk P w H h a o
end
section
variable {P : Program} {w : World} {H H' : Hp} {h h' : Heap} {a : Addr} {o : HO}
theorem ObjOk.lt (x : ObjOk P w H h a o) : a < h.objs.size := by
  cases o with
  | lst xs => obtain ⟨_, _, _, _, e⟩ := x; exact Heap.lt_size e
  | tup xs => obtain ⟨_, _, _, p⟩ := x; exact p.lt
  | dK kvs => obtain ⟨_, _, _, _, o, _, _, e, _⟩ := x; exact Heap.lt_size e
  | dT kvs => obtain ⟨_, _, _, _, o, _, _, e, _⟩ := x; exact Heap.lt_size e
  | set S n => obtain ⟨o, _, _, _, e, _⟩ := x; exact Heap.lt_size e
  | ins C dx fs => obtain ⟨_, _, _, e, _⟩ := x; exact Heap.lt_size e
  | own y => obtain ⟨_, e⟩ := x; exact Heap.lt_size e
  | xd fs => obtain ⟨_, ⟨_, _, _, e, _⟩, _⟩ := x; exact Heap.lt_size e
  | rng lo hi => obtain ⟨_, _, _, e⟩ := x; exact Heap.lt_size e
  | frz ob u => obtain ⟨e, _⟩ := x; exact Heap.lt_size e
  | tbl ps => exact Heap.lt_size (show h.get? a = some _ from x)
  | met f y => exact Heap.lt_size (show h.get? a = some _ from x)
  | ext φ => obtain ⟨_, ⟨_, e⟩, _⟩ := x; exact Heap.lt_size e
theorem Paired.mapP {α β : Type} {F G : α → β → Prop} : ∀ {l₁ : List α} {l₂ : List β}, Paired F l₁ l₂ → (∀ a b, F a b → G a b) → Paired G l₁ l₂
  | _, _, .nil, _ => .nil
  | _, _, .cons r t, f => .cons (f _ _ r) (Paired.mapP t f)
theorem ObjOk.stay (x : ObjOk P w H h a o) (k : ∀ b u, (b = a ∨ H b = some (.own a)) → h.get? b = some u → h'.get? b = some u)
    (ho : ∀ b, H b = some (.own a) → H' b = some (.own a)) (ht : ∀ b xs, H b = some (.tup xs) → H' b = some (.tup xs)) : ObjOk P w H' h' a o := by
  induction o with
  | lst xs => obtain ⟨z, its, n, r, e⟩ := x; exact ⟨z, its, n, r, k _ _ (.inl rfl) e⟩
  | tup xs => obtain ⟨z, its, r, ob, e, c⟩ := x; exact ⟨z, its, r, ob, k _ _ (.inl rfl) e, c⟩
  | dK kvs => obtain ⟨z, y, vs, r, ob, es, ep, e, c⟩ := x; exact ⟨z, y, vs, r, ob, es, ep, k _ _ (.inl rfl) e, c⟩
  | dT kvs =>
    obtain ⟨z, y, xs, r, ob, es, ep, e, c⟩ := x
    exact ⟨z, y, xs, Paired.mapP r fun p q z => ⟨z.1, ht _ _ z.2.1, z.2.2⟩, ob, es, ep, k _ _ (.inl rfl) e, c⟩
  | set S n => obtain ⟨ob, es, ep, t, e, c⟩ := x; exact ⟨ob, es, ep, t, k _ _ (.inl rfl) e, c⟩
  | ins C dx fs =>
    obtain ⟨d, z, ne, e, mA, ⟨od, es, ep, e2, c⟩, r⟩ := x
    exact ⟨ho _ d, z, ne, k _ _ (.inl rfl) e, mA, ⟨od, es, ep, k _ _ (.inr d) e2, c⟩, r⟩
  | own y => obtain ⟨ob, e⟩ := x; exact ⟨ob, k _ _ (.inl rfl) e⟩
  | xd fs => obtain ⟨mA, ⟨od, es, ep, e, c⟩, r⟩ := x; exact ⟨mA, ⟨od, es, ep, k _ _ (.inl rfl) e, c⟩, r⟩
  | rng lo hi => obtain ⟨t, u, v, e⟩ := x; exact ⟨t, u, v, k _ _ (.inl rfl) e⟩
  | frz ob u ih => obtain ⟨e, q⟩ := x; exact ⟨k _ _ (.inl rfl) e, ih q⟩
  | tbl ps =>
    have e : h.get? a = some { cls := .none, data := .fields ps } := x
    show h'.get? a = some { cls := .none, data := .fields ps }
    exact k a _ (.inl rfl) e
  | met f y =>
    have e : h.get? a = some (PySem.W.methodObj (.ref f) (.ref y)) := x
    show h'.get? a = some (PySem.W.methodObj (.ref f) (.ref y))
    exact k a _ (.inl rfl) e
  | ext φ => obtain ⟨p, ⟨o, e⟩, st⟩ := x; exact ⟨st _ _ p fun o q => k _ _ (.inl rfl) q, ⟨o, k _ _ (.inl rfl) e⟩, st⟩
theorem HOk.lt (x : HOk P w H h) (e : H a = some o) : a < h.objs.size := (x a o e).lt
theorem HOk.fresh (x : HOk P w H h) (e : h.objs.size ≤ a) : H a = none := by
  cases q : H a with
  | none => rfl
  | some u => exact absurd (Nat.lt_of_lt_of_le (x.lt q) e) (Nat.lt_irrefl _)
theorem HOk.kept (x : HOk P w H h) (k : ∀ b u, h.get? b = some u → h'.get? b = some u) : HOk P w H h' := fun a o e =>
  (x a o e).stay (fun b u _ q => k b u q) (fun _ q => q) fun _ _ q => q
theorem HOk.laid (x : HOk P w H h) (k : ∀ b u, h.get? b = some u → h'.get? b = some u) (hp : h.objs.size ≤ a) (new : ObjOk P w (upd H a o) h' a o) : HOk P w (upd H a o) h' := fun b u e => by
  have hn := x.fresh hp
  by_cases hb : b = a
  · subst hb; rw [upd_same] at e; cases e; exact new
  · rw [upd_ne hb] at e
    exact (x b u e).stay (fun c v _ q => k c v q) (fun c q => by rw [upd_ne (ne_of_none q hn)]; exact q) fun c xs q => by rw [upd_ne (ne_of_none q hn)]; exact q
end
def Rd (H : Hp) (a : Addr) (u : HO) : Prop := H a = some u ∨ ∃ o, H a = some (.frz o u)
theorem Rd.ok {P : Program} {w : World} {H : Hp} {h : Heap} {a : Addr} {u : HO} (r : Rd H a u) (x : HOk P w H h) : ObjOk P w H h a u := by
  rcases r with r | ⟨o, r⟩
  · exact x a u r
  · obtain ⟨_, q⟩ := x a _ r
    exact q
def Mut : Option HO → Prop
  | some (.lst _) => True
  | some (.dK _) => True
  | some (.dT _) => True
  | some (.set _ _) => True
  | some (.ins _ _ _) => True
  | some (.ext _) => True
  | _ => False
section
variable {P : Program} {w : World} {H : Hp} {h h' : Heap} {x e : Addr} {o' : HO}
theorem HOk.write (ok : HOk P w H h) (mu : Mut (H x)) (he : e = x ∨ H e = some (.own x)) (k : ∀ b u, b ≠ e → h.get? b = some u → h'.get? b = some u) (heo : ∃ u, h'.get? e = some u)
    (new : ObjOk P w (upd H x o') h' x o') : HOk P w (upd H x o') h' := fun b u q => by
  have nown : ∀ c y, H c = some (.own y) → c ≠ x := fun c y r z => by subst z; rw [r] at mu; exact mu
  have ntup : ∀ c xs, H c = some (.tup xs) → c ≠ x := fun c xs r z => by subst z; rw [r] at mu; exact mu
  by_cases hb : b = x
  · subst hb; rw [upd_same] at q; cases q; exact new
  · rw [upd_ne hb] at q
    by_cases hbe : b = e
    · have q' : H b = some (.own x) := by
        rcases he with z | z
        · exact absurd (hbe.trans z) hb
        · rw [hbe]; exact z
      rw [q] at q'; cases q'
      obtain ⟨v, hv⟩ := heo
      exact ⟨v, by rw [hbe]; exact hv⟩
    · refine (ok b u q).stay (fun c v hc r => k c v ?_ r) (fun c r => by rw [upd_ne (nown c b r)]; exact r) fun c xs r => by rw [upd_ne (ntup c xs r)]; exact r
      rcases hc with rfl | hc
      · exact hbe
      · rintro rfl
        rcases he with z | z
        · exact nown c b hc z
        · rw [hc] at z; cases z; exact hb rfl
end
structure Un (fs ex : List Addr) (H H' : Hp) (h h' : Heap) : Prop where
  keep : ∀ b o, h.get? b = some o → H b = none → b ∉ fs → b ∉ ex → h'.get? b = some o
  slot : ∀ b o, h.get? b = some o → H b = none → b ∈ fs → b ∉ ex → ∃ sl, h'.get? b = some { o with slots := sl }
  free : ∀ b o, h.get? b = some o → H b = none → b ∉ ex → H' b = none
  there : ∀ b o, h.get? b = some o → b ∉ ex → ∃ o', h'.get? b = some o'
  tups : ∀ b xs, H b = some (.tup xs) → H' b = some (.tup xs)
  frzs : ∀ b o u, H b = some (.frz o u) → H' b = some (.frz o u)
  tbls : ∀ b ps, H b = some (.tbl ps) → ∃ more, H' b = some (.tbl (ps ++ more))
section
variable {fs fs' ex ex' : List Addr} {H H1 H2 : Hp} {h h1 h2 h' : Heap} {a x e : Addr} {o : HO}
theorem Un.any (u : Un fs ex H H1 h h1) {b : Addr} {ob : Obj} (q : h.get? b = some ob) (n : H b = none) (hx : b ∉ ex) : ∃ sl, h1.get? b = some { ob with slots := sl } := by
  by_cases hb : b ∈ fs
  · exact u.slot b ob q n hb hx
  · exact ⟨ob.slots, u.keep b ob q n hb hx⟩
theorem Un.kept (k : ∀ b u, h.get? b = some u → h'.get? b = some u) : Un fs ex H H h h' :=
  ⟨fun b ob q _ _ _ => k b ob q, fun b ob q _ _ _ => ⟨ob.slots, k b ob q⟩, fun _ _ _ n _ => n, fun b ob q _ => ⟨ob, k b ob q⟩, fun _ _ q => q, fun _ _ _ q => q, fun _ ps q => ⟨#[], by rw [q]; simp⟩⟩
theorem Un.refl : Un fs ex H H h h := Un.kept fun _ _ q => q
theorem Un.laid (k : ∀ b u, h.get? b = some u → h'.get? b = some u) (hp : h.objs.size ≤ a) (hn : H a = none) : Un fs ex H (upd H a o) h h' where
  keep := fun b u q _ _ _ => k b u q
  slot := fun b u q _ _ _ => ⟨u.slots, k b u q⟩
  free := fun b u q n _ => by rw [upd_ne (Nat.ne_of_lt (Nat.lt_of_lt_of_le (Heap.lt_size q) hp))]; exact n
  there := fun b u q _ => ⟨u, k b u q⟩
  tups := fun b xs q => by rw [upd_ne (ne_of_none q hn)]; exact q
  frzs := fun b u xs q => by rw [upd_ne (ne_of_none q hn)]; exact q
  tbls := fun b ps q => ⟨#[], by rw [upd_ne (ne_of_none q hn), q]; simp⟩
theorem Un.write (mu : Mut (H x)) (he : e = x ∨ H e = some (.own x)) (k : ∀ b u, b ≠ e → h.get? b = some u → h'.get? b = some u) (heo : ∃ u, h'.get? e = some u) : Un fs ex H (upd H x o) h h' := by
  have hx : ∀ b, H b = none → b ≠ x := fun b n z => by subst z; rw [n] at mu; exact mu
  have hb : ∀ b, H b = none → b ≠ e := fun b n z => by
    subst z
    rcases he with r | r
    · exact hx b n r
    · rw [n] at r; cases r
  have hm : ∀ b u, H b = some u → ¬ Mut (some u) → b ≠ x := fun b u q nm z => by subst z; rw [q] at mu; exact nm mu
  refine ⟨fun b u q n _ _ => k b u (hb b n) q, fun b u q n _ _ => ⟨u.slots, k b u (hb b n) q⟩, fun b u q n _ => by rw [upd_ne (hx b n)]; exact n, fun b u q _ => ?_,
    fun b xs q => by rw [upd_ne (hm b _ q fun z => z)]; exact q, fun b u xs q => by rw [upd_ne (hm b _ q fun z => z)]; exact q, fun b ps q => ⟨#[], by rw [upd_ne (hm b _ q fun z => z), q]; simp⟩⟩
  by_cases hbe : b = e
  · subst hbe; exact heo
  · exact ⟨u, k b u hbe q⟩
end
def trk (h : Heap) (H : Hp) : List Addr := (List.range h.objs.size).filter fun a => (H a).isSome
def hidT (h : Heap) (H : Hp) : Heap := PySem.W.hideAll h (trk h H)
theorem hidT_size (h : Heap) (H : Hp) : (hidT h H).objs.size = h.objs.size := PySem.W.hideAll_size _ _
theorem hidT_get {h : Heap} {H : Hp} {b : Addr} {o : Obj} (e : h.get? b = some o) (n : H b = none) : (hidT h H).get? b = some o :=
  PySem.W.hideAll_get _ e fun hm => by
    have q : (H b).isSome = true := (List.mem_filter.mp hm).2
    rw [n] at q; simp at q
theorem of_hidT {h : Heap} {H : Hp} {b : Addr} {o : Obj} (e : (hidT h H).get? b = some o) : h.get? b = some o ∧ H b = none := by
  have e' : h.get? b = some o := PySem.W.of_hideAll (trk h H) e
  refine ⟨e', ?_⟩
  cases q : H b with
  | none => rfl
  | some x =>
    have hm : b ∈ trk h H := List.mem_filter.mpr ⟨List.mem_range.mpr (Heap.lt_size e'), by simp [q]⟩
    have z : (hidT h H).get? b = none := PySem.W.hideAll_none (trk h H) hm
    rw [z] at e; cases e
end L2
namespace L2
open PySem PySem.Spec PyProof.Rows
structure Mod (K : PySem.W.Frag) (mg : Str → Option Value) (base : Heap) : Prop where
  kin : K.In base
  glob : base.Ns mainGlobals mg
  blt : ∃ mb, base.Ns builtinsNs mb ∧ ∀ x : Str, x ≠ "__name__" → mb x = bootBuiltins x
  nolimit : base.NoLimit
structure Cx where
  prog : Program
  w : World
  K : PySem.W.Frag
  mg : Str → Option Value
  base : Heap
  A : Around
  N : List Str
  sZ : Shared
  HZ : Hp
  env : Env
  outer : List Env
  stack : List Env
  ex : List Addr
  fn : Str → Bool
  calm : Bool
  pn : List (Addr × Obj)
  xe : Value → Shared → Prop
def frs (l : List Env) : List Addr := l.filterMap (·.frame)
abbrev Cx.fs (X : Cx) : List Addr := frs X.outer
def Vis (sc : Scope) (x : Str) : Prop := sc.names.lookup x = some .local ∨ sc.names.lookup x = some .cell ∨ sc.names.lookup x = some .free
def Loc (sc : Scope) (x : Str) : Prop := sc.names.lookup x = some .local ∨ sc.names.lookup x = some .cell
def Look (env : Env) (h : Heap) (m : Str → Option Value) (x : Str) (u : Value) : Prop :=
  (env.kindOf x = some .local ∧ m x = some u) ∨ ((env.kindOf x = some .cell ∨ env.kindOf x = some .free) ∧ ∃ c, env.cells.lookup x = some c ∧ h.IsCell c (some u))
structure Cx.Ok (X : Cx) : Prop where
  mod : Mod X.K X.mg X.base
  kind : X.env.scope.kind = .function
  glob : X.env.globals = mainGlobals
  blt : X.env.builtins = builtinsNs
  above : X.sZ.heap.objs.size ≤ X.env.locals
  inj : ∀ x y c, X.env.cells.lookup x = some c → X.env.cells.lookup y = some c → x = y
  has : ∀ x, (X.env.kindOf x = some .cell ∨ X.env.kindOf x = some .free) → ∃ c, X.env.cells.lookup x = some c
  cab : ∀ x c, X.fn x = true → X.env.cells.lookup x = some c → X.sZ.heap.objs.size ≤ c
  hd : X.calm = true → X.A.handled = none
  frames : X.A.frames = some X.stack
  stk : X.stack = X.outer ∨ (X.stack = X.env :: X.outer ∧ X.env.frame = some X.env.locals)
  exf : ∀ b ∈ X.ex, b ≠ X.env.locals ∧ ∀ x c, X.env.cells.lookup x = some c → c ≠ b
  bs : ∀ b o, X.base.get? b = some o → X.sZ.heap.get? b = some o ∧ X.HZ b = none
  bsz : X.base.objs.size ≤ X.sZ.heap.objs.size
  noex : ∀ b o, X.base.get? b = some o → b ∉ X.ex
  exfs : ∀ b ∈ X.ex, b ∉ X.fs
  funs : X.sZ.heap.FunFrames X.base X.outer
  frf : ∀ b ∈ X.fs, X.HZ b = none
structure Inv (X : Cx) (pins : List (Addr × Obj)) (σ : List (Option V)) (H : Hp) (s : Shared) : Prop where
  ok : X.Ok
  os : s.os = X.sZ.os
  bare : AllBare s.gens
  base : Un X.fs X.ex X.HZ H X.sZ.heap s.heap
  loc : ∃ m, s.heap.Ns X.env.locals m ∧ ∀ (i : Nat) (x : Str) (v : V), X.N[i]? = some x → σ[i]? = some (some v) → Vis X.env.scope x → ∃ u, RelV v u ∧ Look X.env s.heap m x u
  cell : ∀ x c, X.env.cells.lookup x = some c → ∃ v, s.heap.IsCell c v
  free : H X.env.locals = none
  freeC : ∀ x c, X.env.cells.lookup x = some c → H c = none
  pin : ∀ p ∈ X.pn ++ pins, s.heap.get? p.1 = some p.2 ∧ H p.1 = none ∧ p.1 ≠ X.env.locals ∧ p.1 ∉ X.fs ∧ ∀ v, p.2.data ≠ .cell v
  hok : HOk X.prog X.w H s.heap
  len : σ.length = X.N.length
section
variable {X : Cx} {pins : List (Addr × Obj)} {σ : List (Option V)} {H H' : Hp} {s : Shared} {h' : Heap}
theorem Cx.Ok.nofr (ok : X.Ok) {b : Addr} {o : Obj} (e : X.base.get? b = some o) : b ∉ X.fs := fun hb => by
  have := (ok.funs.mem hb).1
  rw [e] at this; cases this
theorem Inv.bs (I : Inv X pins σ H s) : ∀ b o, X.base.get? b = some o → s.heap.get? b = some o ∧ H b = none := fun b o e =>
  ⟨I.base.keep b o (I.ok.bs b o e).1 (I.ok.bs b o e).2 (I.ok.nofr e) (I.ok.noex b o e), I.base.free b o (I.ok.bs b o e).1 (I.ok.bs b o e).2 (I.ok.noex b o e)⟩
theorem Inv.bk (I : Inv X pins σ H s) : ∀ b o, X.base.get? b = some o → s.heap.get? b = some o := fun b o e => (I.bs b o e).1
theorem Inv.mod (I : Inv X pins σ H s) : Mod X.K X.mg X.base := I.ok.mod
theorem Inv.kIn (I : Inv X pins σ H s) : X.K.In s.heap := I.ok.mod.kin.keeps I.bk
theorem Inv.fr (I : Inv X pins σ H s) : ∃ m, Fr X.base X.env.locals s.heap m :=
  let ⟨m, hn, _⟩ := I.loc
  ⟨m, hn, I.bk, Nat.le_trans I.ok.bsz I.ok.above⟩
theorem Inv.lt (I : Inv X pins σ H s) : X.env.locals < s.heap.objs.size := let ⟨_, hn, _⟩ := I.loc; hn.lt
theorem Inv.sz (I : Inv X pins σ H s) : X.sZ.heap.objs.size ≤ s.heap.objs.size := Nat.le_trans I.ok.above (Nat.le_of_lt I.lt)
theorem Inv.nofs (I : Inv X pins σ H s) {a : Addr} (h : s.heap.objs.size ≤ a) : a ∉ X.fs := fun hb => by
  obtain ⟨_, o, ho, _⟩ := I.ok.funs.mem hb
  exact absurd (Nat.lt_of_lt_of_le (Heap.lt_size ho) (Nat.le_trans I.sz h)) (Nat.lt_irrefl _)
theorem Inv.cne (I : Inv X pins σ H s) : ∀ x c, X.env.cells.lookup x = some c → c ≠ X.env.locals := fun x c e z => by
  obtain ⟨v, o, ho, hd⟩ := I.cell x c e
  obtain ⟨m, ⟨o', es, ep, ho', hd', _⟩, _⟩ := I.loc
  rw [z, ho'] at ho; cases ho; rw [hd'] at hd; cases hd
theorem Inv.funs (I : Inv X pins σ H s) : s.heap.FunFrames X.base X.outer := by
  have all : ∀ (l : List Env), (∀ b ∈ frs l, b ∈ X.fs) → X.sZ.heap.FunFrames X.base l → s.heap.FunFrames X.base l := by
    intro l
    induction l with
    | nil => intro _ _; trivial
    | cons env r ih =>
      intro hs hl
      obtain ⟨hk, ⟨L, o, hf, hn, ho, hd⟩, hr⟩ := hl
      have hL : L ∈ X.fs := hs L (by unfold frs; rw [List.filterMap_cons, hf]; exact List.mem_cons_self)
      obtain ⟨sl, e⟩ := I.base.slot L o ho (I.ok.frf L hL) hL fun z => I.ok.exfs L z hL
      exact ⟨hk, ⟨L, _, hf, hn, e, hd⟩, ih (fun b hb => hs b (by unfold frs; rw [List.filterMap_cons, hf]; exact List.mem_cons_of_mem _ hb)) hr⟩
  exact all X.outer (fun _ hb => hb) I.ok.funs
theorem Inv.stack (I : Inv X pins σ H s) : s.heap.FunFrames X.base X.stack := by
  rcases I.ok.stk with e | ⟨e, hf⟩
  · rw [e]; exact I.funs
  · rw [e]
    obtain ⟨m, hn, _⟩ := I.loc
    refine .cons (by rw [I.ok.kind]; decide) hf hn ?_ I.funs
    exact Heap.get?_none_of_le (Nat.le_trans I.ok.bsz I.ok.above)
theorem Inv.stkSub (I : Inv X pins σ H s) : ∀ b ∈ frs X.stack, b ∈ X.env.locals :: X.fs := fun b hb => by
  rcases I.ok.stk with e | ⟨e, hf⟩
  · rw [e] at hb; exact List.mem_cons_of_mem _ hb
  · rw [e] at hb
    unfold frs at hb
    rw [List.filterMap_cons, hf] at hb
    exact hb
theorem Inv.stkFree (I : Inv X pins σ H s) : ∀ b ∈ frs X.stack, H b = none := fun b hb => by
  rcases List.mem_cons.mp (I.stkSub b hb) with e | hb
  · rw [e]; exact I.free
  · obtain ⟨_, o, ho, _⟩ := I.ok.funs.mem hb
    exact I.base.free b o ho (I.ok.frf b hb) fun z => I.ok.exfs b z hb
theorem Inv.step {g' : Array GenState} {t' : Nat} {d' : Drawn} {ch : List Addr} (I : Inv X pins σ H s)
    (hch : ∀ b ∈ ch, (b ∈ X.ex ∨ X.sZ.heap.objs.size ≤ b) ∧ b ≠ X.env.locals ∧ (∀ x c, X.env.cells.lookup x = some c → c ≠ b) ∧ ∀ p ∈ X.pn ++ pins, p.1 ≠ b)
    (keep : ∀ b o, b ≠ X.env.locals → b ∉ X.fs → b ∉ ch → s.heap.get? b = some o → H b = none → h'.get? b = some o)
    (slot : ∀ b o, b ≠ X.env.locals → b ∈ X.fs → b ∉ ch → s.heap.get? b = some o → H b = none → ∃ sl, h'.get? b = some { o with slots := sl }) (free : ∀ b o, b ∉ ch → s.heap.get? b = some o → H b = none → H' b = none)
    (there : ∀ b o, b ∉ ch → s.heap.get? b = some o → ∃ o', h'.get? b = some o')
    (tups : ∀ b xs, H b = some (.tup xs) → H' b = some (.tup xs)) (frzs : ∀ b o u, H b = some (.frz o u) → H' b = some (.frz o u)) (tbls : ∀ b ps, H b = some (.tbl ps) → ∃ more, H' b = some (.tbl (ps ++ more)))
    (ns : ∀ m, s.heap.Ns X.env.locals m → h'.Ns X.env.locals m) (hok : HOk X.prog X.w H' h') (hg : AllBare g') :
    Inv X pins σ H' { s with heap := h', gens := g', drawn := d', toks := t' } := by
  have neL : ∀ b o, X.sZ.heap.get? b = some o → b ≠ X.env.locals := fun b o e => Nat.ne_of_lt (Nat.lt_of_lt_of_le (Heap.lt_size e) I.ok.above)
  have neC : ∀ b o, X.sZ.heap.get? b = some o → b ∉ X.ex → b ∉ ch := fun b o e hx hb => by
    rcases (hch b hb).1 with z | z
    · exact hx z
    · exact absurd (Nat.lt_of_lt_of_le (Heap.lt_size e) z) (Nat.lt_irrefl _)
  have cellK : ∀ x c, X.env.cells.lookup x = some c → ∀ v, s.heap.IsCell c v → h'.IsCell c v := fun x c e v ⟨o, ho, hd⟩ => by
    have nch : c ∉ ch := fun z => (hch c z).2.2.1 x c e rfl
    by_cases hc : c ∈ X.fs
    · obtain ⟨sl, q⟩ := slot c o (I.cne x c e) hc nch ho (I.freeC x c e)
      exact ⟨_, q, hd⟩
    · exact ⟨o, keep c o (I.cne x c e) hc nch ho (I.freeC x c e), hd⟩
  refine ⟨I.ok, I.os, hg, ⟨fun b o e n hb hx => ?_, fun b o e n hb hx => ?_, fun b o e n hx => ?_, fun b o e hx => ?_, fun b xs e => tups b xs (I.base.tups b xs e), fun b o xs e => frzs b o xs (I.base.frzs b o xs e), fun b ps e => ?_⟩, ?_, fun x c e => ?_, ?_, fun x c e => ?_, fun p hp => ?_, hok, I.len⟩
  · exact keep b o (neL b o e) hb (neC b o e hx) (I.base.keep b o e n hb hx) (I.base.free b o e n hx)
  · obtain ⟨sl, e1⟩ := I.base.slot b o e n hb hx
    obtain ⟨sl', e2⟩ := slot b _ (neL b o e) hb (neC b o e hx) e1 (I.base.free b o e n hx)
    exact ⟨sl', e2⟩
  · obtain ⟨o', e1⟩ := I.base.there b o e hx
    exact free b o' (neC b o e hx) e1 (I.base.free b o e n hx)
  · obtain ⟨o', e1⟩ := I.base.there b o e hx
    exact there b o' (neC b o e hx) e1
  · obtain ⟨m1, e1⟩ := I.base.tbls b ps e
    obtain ⟨m2, e2⟩ := tbls b _ e1
    exact ⟨m1 ++ m2, by rw [e2, Array.append_assoc]⟩
  · obtain ⟨m, hn, hl⟩ := I.loc
    refine ⟨m, ns m hn, fun i x v e1 e2 e3 => ?_⟩
    obtain ⟨u, r, l⟩ := hl i x v e1 e2 e3
    refine ⟨u, r, ?_⟩
    rcases l with l | ⟨k, c, e, z⟩
    · exact .inl l
    · exact .inr ⟨k, c, e, cellK x c e _ z⟩
  · obtain ⟨v, z⟩ := I.cell x c e
    exact ⟨v, cellK x c e v z⟩
  · obtain ⟨m, ⟨o, _, _, ho, _⟩, _⟩ := I.loc
    exact free _ o (fun z => (hch _ z).2.1 rfl) ho I.free
  · obtain ⟨v, o, ho, hd⟩ := I.cell x c e
    exact free c o (fun z => (hch c z).2.2.1 x c e rfl) ho (I.freeC x c e)
  · obtain ⟨e, n, ne, nf, d⟩ := I.pin p hp
    have nch : p.1 ∉ ch := fun z => (hch p.1 z).2.2.2 p hp rfl
    exact ⟨keep p.1 p.2 ne nf nch e n, free p.1 p.2 nch e n, ne, nf, d⟩
theorem Inv.un {t' : Nat} (I : Inv X pins σ H s) (u : Un X.fs [] H H' s.heap h') (hok : HOk X.prog X.w H' h') : Inv X pins σ H' { s with heap := h', toks := t' } := by
  obtain ⟨m, ⟨o, es, ep, ho, r⟩, _⟩ := id I.loc
  obtain ⟨sl, hL⟩ := u.any ho I.free (by simp)
  exact I.step (g' := s.gens) (d' := s.drawn) (ch := []) (fun _ z => nomatch z) (fun b o _ hb _ e n => u.keep b o e n hb (by simp)) (fun b o _ hb _ e n => u.slot b o e n hb (by simp)) (fun b o _ e n => u.free b o e n (by simp)) (fun b o _ e => u.there b o e (by simp)) u.tups u.frzs u.tbls (fun m' hm => by
    obtain ⟨o', es', ep', ho', r'⟩ := hm
    rw [ho] at ho'; cases ho'
    exact ⟨_, es', ep', hL, r'⟩) hok I.bare
theorem Inv.call {g' : Array GenState} {t' : Nat} {d' : Drawn} {ch : List Addr} (I : Inv X pins σ H s) (u : Un (frs X.stack) ch H H' s.heap h') (hok : HOk X.prog X.w H' h') (hg : AllBare g')
    (hch : ∀ b ∈ ch, (b ∈ X.ex ∨ X.sZ.heap.objs.size ≤ b) ∧ b ≠ X.env.locals ∧ (∀ x c, X.env.cells.lookup x = some c → c ≠ b) ∧ ∀ p ∈ X.pn ++ pins, p.1 ≠ b) :
    Inv X pins σ H' { s with heap := h', gens := g', drawn := d', toks := t' } := by
  obtain ⟨m, ⟨o, es, ep, ho, r⟩, _⟩ := id I.loc
  obtain ⟨sl, hL⟩ := u.any ho I.free fun z => (hch _ z).2.1 rfl
  exact I.step (ch := ch) hch (fun b o hL hb hc e n => u.keep b o e n (fun z => (List.mem_cons.mp (I.stkSub b z)).elim hL hb) hc) (fun b o _ _ hc e n => u.any e n hc) (fun b o hc e n => u.free b o e n hc) (fun b o hc e => u.there b o e hc) u.tups u.frzs u.tbls (fun m' hm => by
    obtain ⟨o', es', ep', ho', r'⟩ := hm
    rw [ho] at ho'; cases ho'
    exact ⟨_, es', ep', hL, r'⟩) hok hg
theorem Inv.turned {t' : Nat} {it : Addr} (I : Inv X pins σ H s) (k : ∀ b o, b ≠ it → s.heap.get? b = some o → h'.get? b = some o) (hn : H it = none) (hL : it ≠ X.env.locals)
    (h1 : it ∈ X.ex ∨ X.sZ.heap.objs.size ≤ it) (h2 : ∀ x c, X.env.cells.lookup x = some c → c ≠ it) (h3 : ∀ p ∈ X.pn ++ pins, p.1 ≠ it) : Inv X pins σ H { s with heap := h', toks := t' } := by
  have nit : ∀ b u, H b = some u → b ≠ it := fun b u e z => by rw [z, hn] at e; cases e
  refine I.step (g' := s.gens) (d' := s.drawn) (ch := [it]) (fun b hb => ?_) (fun b o _ _ hc e _ => k b o (fun z => hc (by simp [z])) e) (fun b o _ _ hc e _ => ⟨o.slots, k b o (fun z => hc (by simp [z])) e⟩) (fun _ _ _ _ n => n)
    (fun b o hc e => ⟨o, k b o (fun z => hc (by simp [z])) e⟩) (fun _ _ e => e) (fun _ _ _ e => e) (fun b ps e => ⟨#[], by rw [e]; simp⟩) (fun m hm => ?_) (fun b u e => ?_) I.bare
  · have e : b = it := by simpa using hb
    subst e
    exact ⟨h1, hL, h2, h3⟩
  · obtain ⟨o, es, ep, ho, r⟩ := hm
    exact ⟨o, es, ep, k _ o (Ne.symm hL) ho, r⟩
  · refine (I.hok b u e).stay (fun c v hc q => k c v ?_ q) (fun _ q => q) fun _ _ q => q
    rcases hc with z | z
    · rw [z]; exact nit b u e
    · exact nit c _ z
theorem Inv.tok (I : Inv X pins σ H s) (t : Nat) : Inv X pins σ H { s with toks := t } := I.un (h' := s.heap) (t' := t) Un.refl I.hok
theorem Inv.kept {t' : Nat} (I : Inv X pins σ H s) (k : ∀ b u, s.heap.get? b = some u → h'.get? b = some u) : Inv X pins σ H { s with heap := h', toks := t' } := I.un (Un.kept k) (I.hok.kept k)
theorem Inv.laid {a : Addr} {o : HO} {t' : Nat} (I : Inv X pins σ H s) (k : ∀ b u, s.heap.get? b = some u → h'.get? b = some u) (hp : s.heap.objs.size ≤ a) (new : ObjOk X.prog X.w (upd H a o) h' a o) :
    Inv X pins σ (upd H a o) { s with heap := h', toks := t' } := I.un (Un.laid k hp (I.hok.fresh hp)) (I.hok.laid k hp new)
theorem Inv.write {x e : Addr} {o : HO} {t' : Nat} (I : Inv X pins σ H s) (mu : Mut (H x)) (he : e = x ∨ H e = some (.own x)) (k : ∀ b u, b ≠ e → s.heap.get? b = some u → h'.get? b = some u) (heo : ∃ u, h'.get? e = some u)
    (new : ObjOk X.prog X.w (upd H x o) h' x o) : Inv X pins σ (upd H x o) { s with heap := h', toks := t' } := I.un (Un.write mu he k heo) (I.hok.write mu he k heo new)
theorem Inv.weak {σ' : List (Option V)} (I : Inv X pins σ H s) (hl : σ'.length = σ.length) (w : ∀ (i : Nat) v, σ'[i]? = some (some v) → σ[i]? = some (some v)) : Inv X pins σ' H s :=
  ⟨I.ok, I.os, I.bare, I.base, let ⟨m, hn, hl'⟩ := I.loc; ⟨m, hn, fun i x v e1 e2 e3 => hl' i x v e1 (w i v e2) e3⟩, I.cell, I.free, I.freeC, I.pin, I.hok, hl.trans I.len⟩
theorem Inv.pins_of {pins' : List (Addr × Obj)} (I : Inv X pins σ H s) (h : ∀ p ∈ pins', s.heap.get? p.1 = some p.2 ∧ H p.1 = none ∧ p.1 ≠ X.env.locals ∧ p.1 ∉ X.fs ∧ ∀ v, p.2.data ≠ .cell v) : Inv X pins' σ H s :=
  ⟨I.ok, I.os, I.bare, I.base, I.loc, I.cell, I.free, I.freeC, fun p hp => (List.mem_append.mp hp).elim (fun z => I.pin p (List.mem_append_left _ z)) (h p), I.hok, I.len⟩
theorem nodup_ix {N : List Str} (hN : N.Nodup) {i j : Nat} {x : Str} (a : N[i]? = some x) (b : N[j]? = some x) : i = j := by
  obtain ⟨h1, e1⟩ := List.getElem?_eq_some_iff.mp a
  obtain ⟨h2, e2⟩ := List.getElem?_eq_some_iff.mp b
  exact (List.getElem_inj hN).mp (e1.trans e2.symm)
theorem store_ok2 {M : Model} {A : Around} {E : Value → Shared → Prop} {i : Nat} {x : Str} {v : V} {u : Value} {Q : Unit → Shared → Prop} (I : Inv X pins σ H s) (hN : X.N.Nodup) (hi : X.N[i]? = some x) (hx : Loc X.env.scope x) (r : RelV v u)
    (h : ∀ s', Inv X pins (σ.set i (some v)) H s' → (∃ a, Heap.SameBut a s.heap s'.heap ∧ (a = X.env.locals ∨ X.env.cells.lookup x = some a)) → Q () s') (hf : X.fn x = true ∨ X.env.scope.names.lookup x = some .local := by first | exact .inl rfl | exact .inr rfl | assumption) : wpAny M A (storeName X.env x u) Q E s := by
  obtain ⟨m, hn, hl⟩ := id I.loc
  have hcls : (X.env.scope.kind == .class || (X.env.scope.kind == .module && X.env.locals != X.env.globals)) = false := by rw [I.ok.kind]; rfl
  have hiσ : i < σ.length := by rw [I.len]; exact (List.getElem?_eq_some_iff.mp hi).1
  have cne := I.cne
  have tracked : ∀ {a : Addr} {h' : Heap}, (∃ o, s.heap.get? a = some o ∧ H a = none) → Heap.SameBut a s.heap h' → HOk X.prog X.w H h' := fun {a h'} ha hs b ob e => by
    obtain ⟨_, _, hfree⟩ := ha
    refine (I.hok b ob e).stay (fun c w' hc q => (hs.2 c ?_).trans q) (fun _ q => q) fun _ _ q => q
    rintro rfl
    rcases hc with rfl | hc
    · rw [hfree] at e; cases e
    · rw [hfree] at hc; cases hc
  rcases hx with hk | hk
  · refine wpAny_storeName_local hk hn (fun h' hn' hs => ?_) hcls
    obtain ⟨oL, _, _, hoL, _⟩ := id hn
    refine h _ ⟨I.ok, I.os, I.bare, ⟨fun b o e n hb hx => ?_, fun b o e n hb hx => ?_, I.base.free, fun b o e hx => ?_, I.base.tups, I.base.frzs, I.base.tbls⟩, ⟨_, hn', fun j y v' e1 e2 e3 => ?_⟩, fun y c e => ?_, I.free, I.freeC, fun p hp => ?_, tracked ⟨oL, hoL, I.free⟩ hs, by simpa using I.len⟩ ⟨_, hs, .inl rfl⟩
    · exact (hs.2 b (Nat.ne_of_lt (Nat.lt_of_lt_of_le (Heap.lt_size e) I.ok.above))).trans (I.base.keep b o e n hb hx)
    · obtain ⟨sl, e1⟩ := I.base.slot b o e n hb hx
      exact ⟨sl, (hs.2 b (Nat.ne_of_lt (Nat.lt_of_lt_of_le (Heap.lt_size e) I.ok.above))).trans e1⟩
    · obtain ⟨o', e1⟩ := I.base.there b o e hx
      exact ⟨o', (hs.2 b (Nat.ne_of_lt (Nat.lt_of_lt_of_le (Heap.lt_size e) I.ok.above))).trans e1⟩
    · by_cases hj : j = i
      · subst hj
        rw [hi] at e1; cases e1
        rw [List.getElem?_set_self hiσ] at e2
        cases e2
        exact ⟨u, r, .inl ⟨hk, by simp⟩⟩
      · rw [List.getElem?_set_ne (Ne.symm hj)] at e2
        obtain ⟨u', r', q⟩ := hl j y v' e1 e2 e3
        refine ⟨u', r', ?_⟩
        rcases q with ⟨k, e⟩ | ⟨k, c, e, z⟩
        · refine .inl ⟨k, ?_⟩
          have : y ≠ x := fun e => hj (nodup_ix hN e1 (e ▸ hi))
          simp [this, e]
        · exact .inr ⟨k, c, e, z.sameBut hs (cne y c e)⟩
    · obtain ⟨w', z⟩ := I.cell y c e
      exact ⟨w', z.sameBut hs (cne y c e)⟩
    · obtain ⟨e, n, ne, nf, d⟩ := I.pin p hp
      exact ⟨(hs.2 p.1 ne).trans e, n, ne, nf, d⟩
  · have hfn : X.fn x = true := by
      rcases hf with z | z
      · exact z
      · rw [z] at hk; cases hk
    obtain ⟨c, hc⟩ := I.ok.has x (.inl hk)
    obtain ⟨w', z⟩ := I.cell x c hc
    refine wpAny_storeName_cell I.ok.kind hk hc z (fun h' hc' hs => ?_)
    obtain ⟨oc, hoc, hocd⟩ := id z
    refine h { s with heap := h' } ⟨I.ok, I.os, I.bare, ⟨fun b o e n hb hx => ?_, fun b o e n hb hx => ?_, I.base.free, fun b o e hx => ?_, I.base.tups, I.base.frzs, I.base.tbls⟩, ⟨m, hn.sameBut hs (Ne.symm (cne x c hc)), fun j y v' e1 e2 e3 => ?_⟩, fun y c' e => ?_, I.free, I.freeC, fun p hp => ?_, tracked ⟨oc, hoc, I.freeC x c hc⟩ hs, by simpa using I.len⟩ ⟨c, hs, .inr hc⟩
    · exact (hs.2 b (Nat.ne_of_lt (Nat.lt_of_lt_of_le (Heap.lt_size e) (I.ok.cab x c hfn hc)))).trans (I.base.keep b o e n hb hx)
    · obtain ⟨sl, e1⟩ := I.base.slot b o e n hb hx
      exact ⟨sl, (hs.2 b (Nat.ne_of_lt (Nat.lt_of_lt_of_le (Heap.lt_size e) (I.ok.cab x c hfn hc)))).trans e1⟩
    · obtain ⟨o', e1⟩ := I.base.there b o e hx
      exact ⟨o', (hs.2 b (Nat.ne_of_lt (Nat.lt_of_lt_of_le (Heap.lt_size e) (I.ok.cab x c hfn hc)))).trans e1⟩
    · by_cases hj : j = i
      · subst hj
        rw [hi] at e1; cases e1
        rw [List.getElem?_set_self hiσ] at e2
        cases e2
        exact ⟨u, r, .inr ⟨.inl hk, c, hc, hc'⟩⟩
      · rw [List.getElem?_set_ne (Ne.symm hj)] at e2
        obtain ⟨u', r', q⟩ := hl j y v' e1 e2 e3
        refine ⟨u', r', ?_⟩
        rcases q with q | ⟨k, c', e, z'⟩
        · exact .inl q
        · refine .inr ⟨k, c', e, z'.sameBut hs ?_⟩
          rintro rfl
          exact hj (nodup_ix hN e1 (I.ok.inj _ _ _ e hc ▸ hi))
    · by_cases hcc : c' = c
      · subst hcc; exact ⟨_, hc'⟩
      · obtain ⟨w2, z2⟩ := I.cell y c' e
        exact ⟨w2, z2.sameBut hs hcc⟩
    · obtain ⟨e, n, ne, nf, d⟩ := I.pin p hp
      refine ⟨(hs.2 p.1 ?_).trans e, n, ne, nf, d⟩
      intro q
      rw [q, hoc] at e
      have q' : oc = p.2 := Option.some.inj e
      exact d w' (by rw [← q']; exact hocd)
theorem store_ok {M : Model} {A : Around} {E : Value → Shared → Prop} {i : Nat} {x : Str} {v : V} {u : Value} {Q : Unit → Shared → Prop} (I : Inv X pins σ H s) (hN : X.N.Nodup) (hi : X.N[i]? = some x) (hx : Loc X.env.scope x) (r : RelV v u)
    (h : ∀ s', Inv X pins (σ.set i (some v)) H s' → Q () s') (hf : X.fn x = true ∨ X.env.scope.names.lookup x = some .local := by first | exact .inl rfl | exact .inr rfl | assumption) : wpAny M A (storeName X.env x u) Q E s :=
  store_ok2 I hN hi hx r (fun s' I' _ => h s' I') hf
theorem Inv.call' {s' : Shared} {ch : List Addr} (I : Inv X pins σ H s) (ho : s'.os = s.os) (u : Un (frs X.stack) ch H H' s.heap s'.heap) (hok : HOk X.prog X.w H' s'.heap) (hg : AllBare s'.gens)
    (hch : ∀ b ∈ ch, (b ∈ X.ex ∨ X.sZ.heap.objs.size ≤ b) ∧ b ≠ X.env.locals ∧ (∀ x c, X.env.cells.lookup x = some c → c ≠ b) ∧ ∀ p ∈ X.pn ++ pins, p.1 ≠ b) : Inv X pins σ H' s' := by
  obtain ⟨h', g', d', t', o'⟩ := s'
  have e : o' = s.os := ho
  subst e
  exact I.call (g' := g') (t' := t') (d' := d') u hok hg hch
end
abbrev XK := Value → Option Addr → Hp → Prop
abbrev St := List (Option V)
abbrev VK := V → Hp → Prop
abbrev TE := St → Hp → VK → Prop
abbrev TT := St → Hp → (Bool → Hp → Prop) → Prop
abbrev TA := St → Hp → (List V → Hp → Prop) → Prop
structure Ends where
  nx : St → Hp → Prop
  rt : VK
  bk : St → Hp → Prop := fun _ _ => False
  ct : St → Hp → Prop := fun _ _ => False
abbrev TS := Ends → St → Hp → Prop
def EP (X : Cx) (pins : List (Addr × Obj)) (σ : St) (Q : VK) (u : Value) (s' : Shared) : Prop := ∃ v H', Inv X pins σ H' s' ∧ RelV v u ∧ Q v H'
def TP (X : Cx) (pins : List (Addr × Obj)) (σ : St) (Q : Bool → Hp → Prop) (b : Bool) (s' : Shared) : Prop := ∃ H', Inv X pins σ H' s' ∧ Q b H'
def AP (X : Cx) (pins : List (Addr × Obj)) (σ : St) (Q : List V → Hp → Prop) (us : List Value) (s' : Shared) : Prop := ∃ vs H', Inv X pins σ H' s' ∧ Vals vs us ∧ Q vs H'
def SP (X : Cx) (pins : List (Addr × Obj)) (D : Ends) (f : Flow) (s' : Shared) : Prop :=
  match f with
  | .next => ∃ σ' H', Inv X pins σ' H' s' ∧ D.nx σ' H'
  | .brk => ∃ σ' H', Inv X pins σ' H' s' ∧ D.bk σ' H'
  | .cont => ∃ σ' H', Inv X pins σ' H' s' ∧ D.ct σ' H'
  | .ret u => ∃ v σ' H', Inv X pins σ' H' s' ∧ RelV v u ∧ D.rt v H'
def PE (X : Cx) (e : Expr) (t : TE) : Prop :=
  ∀ (pins : List (Addr × Obj)) (s : Shared) (σ : St) (H : Hp) (Q : VK), Inv X pins σ H s → t σ H Q → wpAny (model X.prog X.w) X.A (eval e X.env) (EP X pins σ Q) X.xe s
def PT (X : Cx) (e : Expr) (t : TT) : Prop :=
  ∀ (pins : List (Addr × Obj)) (s : Shared) (σ : St) (H : Hp) (Q : Bool → Hp → Prop), Inv X pins σ H s → t σ H Q → wpAny (model X.prog X.w) X.A (isTrue e X.env (eval e X.env)) (TP X pins σ Q) X.xe s
def PW (X : Cx) (e : Expr) (t : TT) : Prop :=
  ∀ (whole : Sem Value) (pins : List (Addr × Obj)) (s : Shared) (σ : St) (H : Hp) (Q : Bool → Hp → Prop), Inv X pins σ H s → t σ H Q → wpAny (model X.prog X.w) X.A (isTrue e X.env whole) (TP X pins σ Q) X.xe s
theorem PW.pt {X : Cx} {e : Expr} {t : TT} (h : PW X e t) : PT X e t := h _
def PA (X : Cx) (es : List Expr) (t : TA) : Prop :=
  ∀ (pos : Pos) (pins : List (Addr × Obj)) (s : Shared) (σ : St) (H : Hp) (Q : List V → Hp → Prop), Inv X pins σ H s → t σ H Q → wpAny (model X.prog X.w) X.A (spliced (backTo pos (starEach es X.env))) (AP X pins σ Q) X.xe s
def PS (X : Cx) (st : Stmt) (t : TS) : Prop :=
  ∀ (pins : List (Addr × Obj)) (s : Shared) (σ : St) (H : Hp) (D : Ends), Inv X pins σ H s → t D σ H → wpAny (model X.prog X.w) X.A (exec st X.env) (SP X pins D) X.xe s
def PSs (X : Cx) (st : List Stmt) (t : TS) : Prop :=
  ∀ (pins : List (Addr × Obj)) (s : Shared) (σ : St) (H : Hp) (D : Ends), Inv X pins σ H s → t D σ H → wpAny (model X.prog X.w) X.A (execs st X.env) (SP X pins D) X.xe s
theorem thn {α : Type} {t : Sem α} {Q Q' : α → Shared → Prop} {M : Model} {A : Around} {E : Value → Shared → Prop} {s : Shared} (h : wpAny M A t Q E s) (hQ : ∀ a s, Q a s → Q' a s) : wpAny M A t Q' E s := wpAny_mono h hQ fun _ _ x => x
end L2
namespace L2
open PySem PySem.Spec PyProof.Rows
section
variable {X : Cx}
theorem bin {a b : Expr} {ta tb : TE} (ha : PE X a ta) (hb : PE X b tb) {pins : List (Addr × Obj)} {s : Shared} {σ : St} {H : Hp} {R : V → V → Hp → Prop} (I : Inv X pins σ H s) (h : ta σ H fun x H1 => tb σ H1 fun y H2 => R x y H2)
    {α : Type} {Q : α → Shared → Prop} {f : Value → Value → Sem α}
    (hf : ∀ v u s2 x y H2, Inv X pins σ H2 s2 → RelV x v → RelV y u → R x y H2 → wpAny (model X.prog X.w) X.A (f v u) Q X.xe s2) :
    wpAny (model X.prog X.w) X.A (eval a X.env) (fun v s₁ => wpAny (model X.prog X.w) X.A (eval b X.env) (fun u s₂ => wpAny (model X.prog X.w) X.A (f v u) Q X.xe s₂) X.xe s₁) X.xe s := by
  refine thn (ha pins s σ H _ I h) fun v s1 ⟨x, H1, I1, r1, q1⟩ => ?_
  refine thn (hb pins s1 σ H1 _ I1 q1) fun u s2 ⟨y, H2, I2, r2, q2⟩ => ?_
  exact hf v u s2 x y H2 I2 r1 r2 q2
def tVar (i : Nat) : TE := fun σ H Q => ∃ v, σ[i]? = some (some v) ∧ Q v H
def tC (v : V) : TE := fun _ H Q => Q v H
theorem pe_var {i : Nat} {x : Str} {pos : Pos} (hN : X.N[i]? = some x) (hv : Vis X.env.scope x) (hd : (x == ("__debug__" : Str)) = false := by decide) (hcd : (x == ("__classdict__" : Str)) = false := by decide) : PE X (.Name x pos) (tVar i) := by
  intro pins s σ H Q I h
  obtain ⟨v, e, h⟩ := h
  obtain ⟨m, hn, hl⟩ := I.loc
  obtain ⟨u, r, l⟩ := hl i x v hN e hv
  have fin : EP X pins σ Q u s := ⟨v, H, I, r, h⟩
  rcases l with ⟨hk, hm⟩ | ⟨hk, c, hc, hcell⟩
  · exact wpAny_Name (wpAny_loadName_local I.ok.kind hk hn hm fin) hd
  · rcases hk with hk | hk
    · exact wpAny_Name (wpAny_loadName_cell I.ok.kind hk hc hcell fin) hd
    · exact wpAny_Name (wpAny_loadName_free I.ok.kind hk hc hcell fin hcd) hd
theorem pe_int {i j pos} : PE X (.Constant (.int i) j pos) (tC (.int i)) := fun _ _ _ H _ I h => wpAny_Constant_int ⟨.int i, H, I.tok _, ⟨_, rfl⟩, h⟩
theorem pe_bl {b j pos} : PE X (.Constant (.bool b) j pos) (tC (.bl b)) := fun _ _ _ H _ I h => Constant_bool ⟨.bl b, H, I, rfl, h⟩
theorem pe_non {j pos} : PE X (.Constant .none j pos) (tC .non) := fun _ _ _ H _ I h => Constant_none ⟨.non, H, I, rfl, h⟩
theorem pe_str {x j pos} : PE X (.Constant (.str x) j pos) (tC (.str x)) := fun _ _ _ H _ I h => Calls.Constant_str ⟨.str x, H, I.tok _, ⟨_, rfl⟩, h⟩
def Gl (X : Cx) (x : Str) : Prop := X.env.kindOf x = some .globalImplicit
theorem ld_glob {E : Value → Shared → Prop} {pins : List (Addr × Obj)} {s : Shared} {σ : St} {H : Hp} {x : Str} {u : Value} {pos : Pos} {Q : Value → Shared → Prop} (I : Inv X pins σ H s) (hg : Gl X x) (hm : X.mg x = some u) (h : Q u s)
    (hd : (x == ("__debug__" : Str)) = false := by decide) : wpAny (model X.prog X.w) X.A (eval (.Name x pos) X.env) Q E s :=
  Calls.Name_function_global I.ok.kind hg (Calls.loadGlobal_global (by rw [I.ok.glob]; exact I.mod.glob.keeps I.bk) hm h) hd
theorem ld_blt {E : Value → Shared → Prop} {pins : List (Addr × Obj)} {s : Shared} {σ : St} {H : Hp} {x : Str} {u : Value} {pos : Pos} {Q : Value → Shared → Prop} (I : Inv X pins σ H s) (hg : Gl X x) (hm : X.mg x = none) (hv : bootBuiltins x = some u) (h : Q u s)
    (hn : x ≠ "__name__" := by decide) (hd : (x == ("__debug__" : Str)) = false := by decide) : wpAny (model X.prog X.w) X.A (eval (.Name x pos) X.env) Q E s := by
  obtain ⟨mb, h1, h2⟩ := I.mod.blt
  exact Calls.Name_function_global I.ok.kind hg (Calls.loadGlobal_builtin (by rw [I.ok.glob]; exact I.mod.glob.keeps I.bk) hm (by rw [I.ok.blt]; exact h1.keeps I.bk) ((h2 x hn).trans hv) h) hd
theorem pe_bltn {x : Str} {v : V} {u : Value} {pos : Pos} (hg : Gl X x) (hm : X.mg x = none) (hv : bootBuiltins x = some u) (r : RelV v u) (hn : x ≠ "__name__" := by decide) (hd : (x == ("__debug__" : Str)) = false := by decide) : PE X (.Name x pos) (tC v) :=
  fun _ _ _ H _ I h => ld_blt I hg hm hv ⟨v, H, I, r, h⟩ hn hd
variable {a b : Expr} {ta tb : TE} {pos : Pos}
def PC (X : Cx) (op : CmpOp) (a b : Expr) (t : TE) : Prop :=
  ∀ (pins : List (Addr × Obj)) (s : Shared) (σ : St) (H : Hp) (Q : VK), Inv X pins σ H s → t σ H Q →
    wpAny (model X.prog X.w) X.A (eval a X.env) (fun v s₁ => wpAny (model X.prog X.w) X.A (eval b X.env) (fun u s₂ => wpAny (model X.prog X.w) X.A (compareOp op v u) (EP X pins σ Q) X.xe s₂) X.xe s₁) X.xe s
def tB (t : TE) : TT := fun σ H Q => t σ H fun x H1 => ∃ c, x = .bl c ∧ Q c H1
theorem pt_cmp {op : CmpOp} {t : TE} (h : PC X op a b t) (h1 : behindInMarks op b = false := by first | exact nobehind _ (by decide) (by decide) | rfl) : PT X (.Compare a [op] [b] pos) (tB t) := by
  intro pins s σ H Q I hw
  refine wpAny_isTrue_Compare1 (thn (h pins s σ H _ I hw) fun v s1 h1 => thn h1 fun u s2 h2 => thn h2 fun c s3 ⟨x, H1, I1, r1, q1⟩ => ?_) h1
  obtain ⟨d, rfl, q⟩ := q1
  cases r1
  exact wpAny_truthy_bool ⟨H1, I1, q⟩
theorem pt_val {e : Expr} {t : TE} (h : PE X e t) (he : ∀ whole, isTrue e X.env whole = (do let v ← whole; standAt e.pos; holding [v] (truthy v)) := by intro _; rfl) : PT X e (tB t) := by
  intro pins s σ H Q I hw
  refine isTrue_plain (thn (h pins s σ H _ I hw) fun v s1 ⟨x, H1, I1, r1, q1⟩ => ?_) (he _)
  obtain ⟨d, rfl, q⟩ := q1
  cases r1
  exact wpAny_truthy_bool ⟨H1, I1, q⟩
variable {tA tB' : TT} {rest : List Expr}
def tAnd (t u : TT) : TT := fun σ H Q => t σ H fun c H1 => if c = true then u σ H1 Q else Q false H1
def tOr (t u : TT) : TT := fun σ H Q => t σ H fun c H1 => if c = true then Q true H1 else u σ H1 Q
def tNot (t : TT) : TT := fun σ H Q => t σ H fun c H1 => Q (!c) H1
theorem pw_and1 (ha : PT X a tA) : PW X (.BoolOp .And [a] pos) tA := by
  intro wh pins s σ H Q I h
  refine isTrue_and (thn (ha pins s σ H Q I h) fun c s1 e => ?_)
  cases c with
  | true => exact isTrue_and_nil e
  | false => exact e
theorem pw_or1 (ha : PT X a tA) : PW X (.BoolOp .Or [a] pos) tA := by
  intro wh pins s σ H Q I h
  refine isTrue_or (thn (ha pins s σ H Q I h) fun c s1 e => ?_)
  cases c with
  | false => exact isTrue_or_nil e
  | true => exact e
theorem pw_and (ha : PT X a tA) (hb : PW X (.BoolOp .And (b :: rest) pos) tB') : PW X (.BoolOp .And (a :: b :: rest) pos) (tAnd tA tB') := by
  intro wh pins s σ H Q I h
  refine isTrue_and (thn (ha pins s σ H _ I h) fun c s1 ⟨H1, I1, q1⟩ => ?_)
  cases c with
  | true => exact hb wh pins s1 σ H1 Q I1 q1
  | false => exact ⟨H1, I1, q1⟩
theorem pw_or (ha : PT X a tA) (hb : PW X (.BoolOp .Or (b :: rest) pos) tB') : PW X (.BoolOp .Or (a :: b :: rest) pos) (tOr tA tB') := by
  intro wh pins s σ H Q I h
  refine isTrue_or (thn (ha pins s σ H _ I h) fun c s1 ⟨H1, I1, q1⟩ => ?_)
  cases c with
  | true => exact ⟨H1, I1, q1⟩
  | false => exact hb wh pins s1 σ H1 Q I1 q1
theorem pt_not (ha : PT X a tA) : PT X (.UnaryOp .Not a pos) (tNot tA) := by
  intro pins s σ H Q I h
  exact isTrue_not (ha pins s σ H (fun c H1 => Q (!c) H1) I h)
def tAndV (ta tb : TE) : TE := fun σ H Q => ta σ H fun x H1 => ∃ c, x = .bl c ∧ if c = true then tb σ H1 Q else Q (.bl false) H1
def tNotV (ta : TE) : TE := fun σ H Q => ta σ H fun x H1 => ∃ c, x = .bl c ∧ Q (.bl (!c)) H1
theorem pe_one {op} {t : TE} (h : PE X a t) : PE X (.BoolOp op [a] pos) t := fun pins s σ H Q I hw => BoolOp_one (h pins s σ H Q I hw)
theorem pe_and (ha : PE X a ta) (hb : PE X (.BoolOp .And (b :: rest) pos) tb) : PE X (.BoolOp .And (a :: b :: rest) pos) (tAndV ta tb) := by
  intro pins s σ H Q I h
  refine BoolOp_and (thn (ha pins s σ H _ I h) fun v s1 ⟨x, H1, I1, r1, q1⟩ => ?_)
  obtain ⟨c, rfl, q1⟩ := q1
  cases r1
  refine wpAny_truthy_bool ?_
  cases c with
  | true => exact hb pins s1 σ H1 Q I1 q1
  | false => exact ⟨.bl false, H1, I1, rfl, q1⟩
theorem pe_not (ha : PE X a ta) : PE X (.UnaryOp .Not a pos) (tNotV ta) := by
  intro pins s σ H Q I h
  refine UnaryOp_ (thn (ha pins s σ H _ I h) fun v s1 ⟨x, H1, I1, r1, q1⟩ => ?_)
  obtain ⟨c, rfl, q1⟩ := q1
  cases r1
  exact not_of (wpAny_truthy_bool ⟨.bl (!c), H1, I1, rfl, q1⟩)
end
end L2
namespace L2
open PySem PySem.Spec PyProof.Rows
def SqL (K : PySem.W.Frag) (H : Hp) (a : Addr) (xs : List V) : Prop :=
  Rd H a (.lst xs) ∨
    ∃ (o : Obj) (its : Array Value) (n : Nat), K.lookup a = some o ∧ o.cls = .type "list" ∧ o.dict = none ∧ o.data = .seq its n ∧ its.size ≤ sizeLine ∧ Vals xs its.toList
def SqT (K : PySem.W.Frag) (H : Hp) (a : Addr) (xs : List V) : Prop :=
  Rd H a (.tup xs) ∨
    ∃ (o : Obj) (its : Array Value) (n : Nat), K.lookup a = some o ∧ o.cls = .type "tuple" ∧ o.data = .seq its n ∧ its.size ≤ sizeLine ∧ Vals xs its.toList
def absV : Value → Option V
  | .none => some .non
  | .bool b => some (.bl b)
  | .int i _ => some (.int i)
  | .str x _ => some (.str x)
  | .bytes b _ => some (.byt b)
  | .float b _ => some (.flt b)
  | .ref a => some (.ref a)
  | .type n => some (.ty n)
  | _ => none
theorem RelV.abs {x : V} {u : Value} (r : RelV x u) : absV u = some x := by
  cases x with
  | non => cases r; rfl
  | bl _ => cases r; rfl
  | int _ => obtain ⟨t, rfl⟩ := r; rfl
  | str _ => obtain ⟨t, rfl⟩ := r; rfl
  | byt _ => obtain ⟨t, rfl⟩ := r; rfl
  | flt _ => obtain ⟨t, rfl⟩ := r; rfl
  | ref _ => cases r; rfl
  | ty _ => cases r; rfl
theorem RelV.inj {x y : V} {u : Value} (r : RelV x u) (q : RelV y u) : x = y := Option.some.inj (r.abs.symm.trans q.abs)
theorem Vals.inj : ∀ {xs ys : List V} {us : List Value}, Vals xs us → Vals ys us → xs = ys
  | _, _, _, .nil, .nil => rfl
  | _, _, _, .cons r t, .cons r' t' => by rw [r.inj r', Vals.inj t t']
section
variable {X : Cx} {pins : List (Addr × Obj)} {σ : St} {H : Hp} {s : Shared} {a : Addr} {xs ys : List V}
theorem SqL.of {K : PySem.W.Frag} (h : H a = some (.lst xs)) : SqL K H a xs := .inl (.inl h)
theorem SqT.of {K : PySem.W.Frag} (h : H a = some (.tup xs)) : SqT K H a xs := .inl (.inl h)
theorem Inv.list (I : Inv X pins σ H s) (h : SqL X.K H a xs) : ∃ its : List Value, Vals xs its ∧ PlainL s.heap a its.toArray ∧ xs.length ≤ sizeLine := by
  rcases h with h | ⟨o, its, n, hk, hc, hd, hs, hz, r⟩
  · obtain ⟨z, its, n, r, e⟩ := h.ok I.hok
    exact ⟨its, r, ⟨_, n, e, rfl, rfl, rfl⟩, z⟩
  · refine ⟨its.toList, r, ⟨o, n, I.kIn a o hk, hc, hd, by simpa using hs⟩, ?_⟩
    have e := r.length
    simp only [Array.length_toList] at e
    omega
theorem Inv.tuple (I : Inv X pins σ H s) (h : SqT X.K H a xs) : ∃ its : List Value, Vals xs its ∧ IsTup s.heap a its.toArray ∧ xs.length ≤ sizeLine := by
  rcases h with h | ⟨o, its, n, hk, hc, hs, hz, r⟩
  · obtain ⟨z, its, r, p⟩ := h.ok I.hok
    exact ⟨its, r, p, z⟩
  · refine ⟨its.toList, r, ⟨o, I.kIn a o hk, hc, n, by simpa using hs⟩, ?_⟩
    have e := r.length
    simp only [Array.length_toList] at e
    omega
theorem Inv.list_inj (I : Inv X pins σ H s) (h : SqL X.K H a xs) (h' : SqL X.K H a ys) : xs = ys := by
  obtain ⟨its, r, ⟨o, n, e, _, _, d⟩, _⟩ := I.list h
  obtain ⟨its', r', ⟨o', n', e', _, _, d'⟩, _⟩ := I.list h'
  rw [e] at e'; cases e'
  rw [d] at d'
  injection d' with d1 _
  have : its = its' := by simpa using congrArg Array.toList d1
  subst this
  exact r.inj r'
theorem Inv.tuple_inj (I : Inv X pins σ H s) (h : SqT X.K H a xs) (h' : SqT X.K H a ys) : xs = ys := by
  obtain ⟨its, r, ⟨o, e, _, n, d⟩, _⟩ := I.tuple h
  obtain ⟨its', r', ⟨o', e', _, n', d'⟩, _⟩ := I.tuple h'
  rw [e] at e'; cases e'
  rw [d] at d'
  injection d' with d1 _
  have : its = its' := by simpa using congrArg Array.toList d1
  subst this
  exact r.inj r'
end
abbrev Cx.wish (X : Cx) (E : Value → Shared → Prop) : Cx := { X with xe := E }
abbrev Cx.nox (X : Cx) : Cx := X.wish fun _ _ => False
theorem Cx.Ok.wish {X : Cx} (ok : X.Ok) (E : Value → Shared → Prop) : (X.wish E).Ok :=
  ⟨ok.mod, ok.kind, ok.glob, ok.blt, ok.above, ok.inj, ok.has, ok.cab, ok.hd, ok.frames, ok.stk, ok.exf, ok.bs, ok.bsz, ok.noex, ok.exfs, ok.funs, ok.frf⟩
theorem Cx.Ok.unwish {X : Cx} {E : Value → Shared → Prop} (ok : (X.wish E).Ok) : X.Ok :=
  ⟨ok.mod, ok.kind, ok.glob, ok.blt, ok.above, ok.inj, ok.has, ok.cab, ok.hd, ok.frames, ok.stk, ok.exf, ok.bs, ok.bsz, ok.noex, ok.exfs, ok.funs, ok.frf⟩
section
variable {X : Cx} {pins : List (Addr × Obj)} {σ : St} {H : Hp} {s : Shared} {E : Value → Shared → Prop}
theorem Inv.wish (I : Inv X pins σ H s) (E : Value → Shared → Prop) : Inv (X.wish E) pins σ H s := ⟨I.ok.wish E, I.os, I.bare, I.base, I.loc, I.cell, I.free, I.freeC, I.pin, I.hok, I.len⟩
theorem Inv.unwish (I : Inv (X.wish E) pins σ H s) : Inv X pins σ H s := ⟨I.ok.unwish, I.os, I.bare, I.base, I.loc, I.cell, I.free, I.freeC, I.pin, I.hok, I.len⟩
theorem SP.unwish {D : Ends} {f : Flow} {s' : Shared} (h : SP (X.wish E) pins D f s') : SP X pins D f s' := by
  cases f with
  | next => obtain ⟨σ', H', I, q⟩ := h; exact ⟨σ', H', I.unwish, q⟩
  | brk => obtain ⟨σ', H', I, q⟩ := h; exact ⟨σ', H', I.unwish, q⟩
  | cont => obtain ⟨σ', H', I, q⟩ := h; exact ⟨σ', H', I.unwish, q⟩
  | ret u => obtain ⟨v, σ', H', I, r, q⟩ := h; exact ⟨v, σ', H', I.unwish, r, q⟩
theorem PSs.nox {st : List Stmt} {t : TS} (h : PSs X.nox st t) : PSs X st t := fun pins s σ H D I hw =>
  wpAny_mono (h pins s σ H D (I.wish _) hw) (fun _ _ q => q.unwish) fun _ _ z => False.elim z
end
section
variable {X : Cx} {st : Stmt} {rest : List Stmt} {t u : TS} {e : Expr} {te : TE} {pos : Pos}
def tNext : TS := fun D σ H => D.nx σ H
def tSeq (t u : TS) : TS := fun D σ H => t { D with nx := u D } σ H
theorem pss_nil : PSs X [] tNext := fun _ _ σ H _ I h => wpAny_execs_nil ⟨σ, H, I, h⟩
theorem pss_cons (h1 : PS X st t) (h2 : PSs X rest u) : PSs X (st :: rest) (tSeq t u) := by
  intro pins s σ H D I h
  refine wpAny_execs_cons (thn (h1 pins s σ H { D with nx := u D } I h) fun f s1 q => ?_)
  cases f with
  | next =>
    obtain ⟨σ', H', I', q⟩ := q
    exact h2 pins s1 σ' H' D I' q
  | ret v => exact q
  | brk => exact q
  | cont => exact q
theorem pss_one (h1 : PS X st t) : PSs X [st] t := by
  intro pins s σ H D I h
  refine wpAny_execs_cons (thn (h1 pins s σ H D I h) fun f s1 q => ?_)
  cases f with
  | next => exact wpAny_execs_nil q
  | ret v => exact q
  | brk => exact q
  | cont => exact q
theorem Inv.quiet {pins : List (Addr × Obj)} {σ : St} {H : Hp} {s : Shared} (I : Inv X pins σ H s) : interactive X.env = false := by simp [interactive, I.ok.kind]
def tDrop (te : TE) : TS := fun D σ H => te σ H fun _ H1 => D.nx σ H1
theorem ps_expr (he : PE X e te) (hs : swapsWith e none pos.line X.env = pure false := by rfl) : PS X (.Expr e pos) (tDrop te) := by
  intro pins s σ H D I h
  exact wpAny_Expr_any (thn (he pins s σ H _ I h) fun v s1 ⟨x, H1, I1, r1, q1⟩ => ⟨σ, H1, I1, q1⟩) I.quiet hs
def tRet (te : TE) : TS := fun D σ H => te σ H D.rt
theorem ps_ret (he : PE X e te) : PS X (.Return (some e) pos) (tRet te) := by
  intro pins s σ H D I h
  exact wpAny_Return_some (thn (he pins s σ H _ I h) fun v s1 ⟨x, H1, I1, r1, q1⟩ => ⟨x, σ, H1, I1, r1, q1⟩)
def tIfS (c : TT) (t u : TS) : TS := fun D σ H => c σ H fun b H1 => if b = true then t D σ H1 else u D σ H1
theorem ps_if {c : Expr} {a b : List Stmt} {tc : TT} (hc : PT X c tc) (ha : PSs X a t) (hb : PSs X b u) : PS X (.If c a b pos) (tIfS tc t u) := by
  intro pins s σ H D I h
  refine wpAny_If (thn (hc pins s σ H _ I h) fun d s1 ⟨H1, I1, q1⟩ => ?_)
  cases d with
  | true => exact ha pins s1 σ H1 D I1 q1
  | false => exact hb pins s1 σ H1 D I1 q1
end
abbrev TG := V → St → Hp → (St → Hp → Prop) → Prop
abbrev TGs := List V → St → Hp → (St → Hp → Prop) → Prop
def PG (X : Cx) (target : Expr) (t : TG) : Prop :=
  ∀ (pins : List (Addr × Obj)) (s : Shared) (σ : St) (H : Hp) (v : V) (u : Value) (Q : St → Hp → Prop), Inv X pins σ H s → RelV v u → t v σ H Q →
    wpAny (model X.prog X.w) X.A (assign target X.env u) (fun _ s' => ∃ σ' H', Inv X pins σ' H' s' ∧ Q σ' H') X.xe s
def PGs (X : Cx) (ts : List Expr) (t : TGs) : Prop :=
  ∀ (pins : List (Addr × Obj)) (s : Shared) (σ : St) (H : Hp) (vs : List V) (us : List Value) (Q : St → Hp → Prop), Inv X pins σ H s → Vals vs us → t vs σ H Q →
    wpAny (model X.prog X.w) X.A (assignInOrder ((assignEach ts X.env).map (·.2)) us) (fun _ s' => ∃ σ' H', Inv X pins σ' H' s' ∧ Q σ' H') X.xe s
abbrev TSet := V → V → V → Hp → (Hp → Prop) → Prop
def PSet (X : Cx) (t : TSet) : Prop :=
  ∀ (pins : List (Addr × Obj)) (s : Shared) (σ : St) (H : Hp) (o i v : V) (ov iv u : Value) (Q : Hp → Prop), Inv X pins σ H s → RelV o ov → RelV i iv → RelV v u → t o i v H Q →
    wpAny (model X.prog X.w) X.A (setItem ov iv u) (fun _ s' => ∃ H', Inv X pins σ H' s' ∧ Q H') X.xe s
section
variable {X : Cx} {pos : Pos}
def gName (i : Nat) : TG := fun v σ H Q => Q (σ.set i (some v)) H
theorem pg_name {i : Nat} {x : Str} (hN : X.N.Nodup) (hi : X.N[i]? = some x) (hx : Loc X.env.scope x) (hf : X.fn x = true ∨ X.env.scope.names.lookup x = some .local := by first | exact .inl rfl | exact .inr rfl | assumption) : PG X (.Name x pos) (gName i) := by
  intro pins s σ H v u Q I r h
  exact wpAny_assign_Name (store_ok I hN hi hx r (fun s' I' => ⟨_, H, I', h⟩) hf)
def gNil : TGs := fun vs σ H Q => vs = [] ∧ Q σ H
def gCons (t : TG) (u : TGs) : TGs := fun vs σ H Q => ∃ v r, vs = v :: r ∧ t v σ H fun σ' H' => u r σ' H' Q
theorem pgs_nil : PGs X [] gNil := by
  intro pins s σ H vs us Q I r h
  obtain ⟨e, h⟩ := h
  subst e
  cases r
  exact assignInOrder_nil ⟨σ, H, I, h⟩
theorem pgs_cons {e : Expr} {es : List Expr} {t : TG} {u : TGs} (h1 : PG X e t) (h2 : PGs X es u)
    (hs : (assignEach (e :: es) X.env).map (·.2) = assign e X.env :: (assignEach es X.env).map (·.2) := by rfl) : PGs X (e :: es) (gCons t u) := by
  intro pins s σ H vs us Q I r h
  obtain ⟨v, vr, e1, h⟩ := h
  subst e1
  cases r with
  | cons r rr =>
    rw [hs]
    refine assignInOrder_cons (thn (h1 pins s σ H _ _ _ I r h) fun _ s1 ⟨σ1, H1, I1, q1⟩ => ?_)
    exact h2 pins s1 σ1 H1 _ _ Q I1 rr q1
def gTup (K : PySem.W.Frag) (n : Nat) (t : TGs) : TG := fun v σ H Q => ∃ a xs, v = .ref a ∧ SqT K H a xs ∧ xs.length = n ∧ t xs σ H Q
theorem pg_tup {es : List Expr} {k : Nat} {t : TGs} {n : Nat} (hc : X.calm = true) (h : PGs X es t)
    (hn : (assignEach es X.env).length = n := by rfl) (hst : (assignEach es X.env).findIdx? (·.1) = none := by rfl) : PG X (.Tuple es k pos) (gTup X.K n t) := by
  intro pins s σ H v u Q I r hw
  obtain ⟨a, xs, e1, hq, hl, hw⟩ := hw
  subst e1
  cases r
  obtain ⟨its, rv, ht, hz⟩ := I.tuple hq
  refine assign_Tuple_tuple (I.ok.hd hc) ht (by simp [hn, ← hl, rv.length]) hst fun h' hx => ?_
  have I1 : Inv X pins σ H { s with heap := h' } := I.kept (t' := s.toks) fun b o e => hx b o (Nat.ne_of_lt (Heap.lt_size e)) e
  exact h pins _ σ H xs _ Q I1 (by simpa using rv) hw
def gSub (to ti : TE) (t : TSet) : TG := fun v σ H Q => to σ H fun o H1 => ti σ H1 fun i H2 => t o i v H2 fun H3 => Q σ H3
theorem pg_sub {o i : Expr} {to ti : TE} {t : TSet} (ho : PE X o to) (hi : PE X i ti) (hs : PSet X t)
    (ha : ∀ v, assign (.Subscript o i pos) X.env v = (do
      let ov ← holding [v] (eval o X.env)
      let iv ← holding [v, ov] (eval i X.env)
      standAt pos
      holding [v, ov, iv] (setItem ov iv v)
      release [v, ov, iv] []) := by intro _; rfl) : PG X (.Subscript o i pos) (gSub to ti t) := by
  intro pins s σ H v u Q I r h
  rw [ha]
  refine wpAny_bind (wpAny_holding (thn (ho pins s σ H _ I h) fun ov s1 ⟨x, H1, I1, r1, q1⟩ => ?_))
  refine wpAny_bind (wpAny_holding (thn (hi pins s1 σ H1 _ I1 q1) fun iv s2 ⟨y, H2, I2, r2, q2⟩ => ?_))
  refine wpAny_bind (wpAny_standAt (wpAny_bind (wpAny_holding (thn (hs pins s2 σ H2 x y v ov iv u _ I2 r1 r2 r q2) fun _ s3 ⟨H3, I3, q3⟩ => ?_))))
  exact wpAny_release ⟨σ, H3, I3, q3⟩
def tAsg (te : TE) (g : TG) : TS := fun D σ H => te σ H fun x H1 => g x σ H1 D.nx
theorem ps_asg {tg e : Expr} {te : TE} {g : TG} (he : PE X e te) (hg : PG X tg g) (hs : swapsWithSole [tg] e pos.line X.env = pure false := by rfl) (hw : swappedStores [tg] e X.env = pure none := by rfl)
    (h1 : (assignEach [tg] X.env).map (·.2) = [assign tg X.env] := by rfl) : PS X (.Assign [tg] e pos) (tAsg te g) := by
  intro pins s σ H D I h
  refine wpAny_Assign_stores (thn (he pins s σ H _ I h) fun v s1 ⟨x, H1, I1, r1, q1⟩ => ?_) hs hw
  rw [h1]
  exact thn (hg pins s1 σ H1 x v _ I1 r1 q1) fun _ s2 q => q
theorem ps_set {i : Nat} {x : Str} {e : Expr} {te : TE} {pos' : Pos} (hN : X.N.Nodup) (hi : X.N[i]? = some x) (hx : Loc X.env.scope x) (he : PE X e te) (hs : swapsWith e (some (.Name x pos')) pos.line X.env = pure false := by rfl) (hf : X.fn x = true ∨ X.env.scope.names.lookup x = some .local := by first | exact .inl rfl | exact .inr rfl | assumption) :
    PS X (.Assign [.Name x pos'] e pos) (tAsg te (gName i)) := by
  intro pins s σ H D I h
  refine wpAny_Assign_Name (thn (he pins s σ H _ I h) fun v s1 ⟨y, H1, I1, r1, q1⟩ => ?_) hs
  exact store_ok I1 hN hi hx r1 (fun s2 I2 => ⟨_, H1, I2, q1⟩) hf
end
section
variable {X : Cx} {pos : Pos}
def tWhile (c : TT) (tb : TS) : TS := fun D σ H => ∃ W : Nat → St → Hp → Prop, (∃ m, W m σ H) ∧ ∀ m σ H, W m σ H →
  c σ H fun b H1 => if b = true then ∃ N : St → Hp → Prop, (∀ σ' H', N σ' H' → ∃ m', m' < m ∧ W m' σ' H') ∧ tb { D with nx := N, ct := N, bk := D.nx } σ H1 else D.nx σ H1
theorem ps_while {c : Expr} {body : List Stmt} {tc : TT} {tb : TS} (hp : PassesOwn (model X.prog X.w) X.A X.env X.xe) (hc : PT X c tc) (hb : PSs X body tb) : PS X (.While c body [] pos) (tWhile tc tb) := by
  intro pins s σ H D I h
  obtain ⟨W, ⟨m0, w0⟩, turn⟩ := h
  refine wpAny_While (codeAny_whileLoop (fun n s' => ∃ σ' H', Inv X pins σ' H' s' ∧ W n σ' H') ?_ m0 ⟨σ, H, I, w0⟩)
  rintro n s1 ⟨σ1, H1, I1, w1⟩
  refine wpAny_passesOwn hp (thn (hc pins s1 σ1 H1 _ I1 (turn n σ1 H1 w1)) fun b s2 ⟨H2, I2, q2⟩ => ?_)
  cases b with
  | true =>
    obtain ⟨N, hN, q2⟩ := q2
    rw [if_pos rfl]
    refine wpAny_passesOwn hp (thn (hb pins s2 σ1 H2 _ I2 q2) fun f s3 q3 => ?_)
    cases f with
    | next =>
      obtain ⟨σ3, H3, I3, n3⟩ := q3
      obtain ⟨m', hm, w3⟩ := hN σ3 H3 n3
      exact ⟨m', hm, σ3, H3, I3, w3⟩
    | cont =>
      obtain ⟨σ3, H3, I3, n3⟩ := q3
      obtain ⟨m', hm, w3⟩ := hN σ3 H3 n3
      exact ⟨m', hm, σ3, H3, I3, w3⟩
    | brk => exact q3
    | ret v => exact q3
  | false =>
    rw [if_neg Bool.false_ne_true]
    exact wpAny_execs_nil ⟨σ1, H2, I2, q2⟩
end
structure It where
  go : Nat → Hp → Prop
  yld : Nat → Hp → V → Hp → Prop
  stop : Nat → Hp → Prop
def FpOk (X : Cx) (pins : List (Addr × Obj)) (H : Hp) (b : Addr) : Prop :=
  H b = none ∧ b ≠ X.env.locals ∧ b ∉ X.fs ∧ (b ∈ X.ex ∨ X.sZ.heap.objs.size ≤ b) ∧ (∀ x c, X.env.cells.lookup x = some c → c ≠ b) ∧ ∀ p ∈ X.pn ++ pins, p.1 ≠ b
theorem Inv.fpOk {X : Cx} {pins : List (Addr × Obj)} {σ : St} {H H' : Hp} {s : Shared} {b : Addr} (I : Inv X pins σ H s) (hb : s.heap.objs.size ≤ b) (hn : H' b = none) : FpOk X pins H' b := by
  refine ⟨hn, Nat.ne_of_gt (Nat.lt_of_lt_of_le I.lt hb), I.nofs hb, .inr (Nat.le_trans I.sz hb), fun x c e z => ?_, fun p hp z => ?_⟩
  · obtain ⟨v, q⟩ := I.cell x c e
    exact absurd (Nat.lt_of_lt_of_le q.lt (by rw [z]; exact hb)) (Nat.lt_irrefl _)
  · exact absurd (Nat.lt_of_lt_of_le (Heap.lt_size (I.pin p hp).1) (by rw [z]; exact hb)) (Nat.lt_irrefl _)
structure Turn (P : Program) (w : World) (K : PySem.W.Frag) (tg : Expr) (J : It) (fp : List Addr) (it : Addr) (tn : Nat → Heap → Prop) : Prop where
  mem : it ∈ fp
  obj : ∀ i h, tn i h → ∀ b ∈ fp, ∃ o, h.get? b = some o ∧ ∀ v, o.data ≠ .cell v
  keep : ∀ i h h', tn i h → (∀ b ∈ fp, ∀ o, h.get? b = some o → h'.get? b = some o) → tn i h'
  item : ∀ (X : Cx), X.prog = P → X.w = w → X.K = K → X.calm = true → ∀ (i : Nat) (pins : List (Addr × Obj)) (s : Shared) (σ : St) (H : Hp) (E : Value → Shared → Prop), Inv X pins σ H s → (∀ b ∈ fp, FpOk X pins H b) → tn i s.heap → J.go i H →
    wpAny (model P w) X.A (pyNext (.ref it)) (fun r s1 => ∃ u, r = some u ∧
      wpAny (model P w) X.A (letOwnedTupleGo tg (.ref it) u) (fun _ s2 => ∃ x H', Inv X pins σ H' s2 ∧ RelV x u ∧ J.yld i H x H' ∧ tn (i + 1) s2.heap ∧ ∀ b ∈ fp, H' b = none) E s1) E s
  done : ∀ (X : Cx), X.prog = P → X.w = w → X.K = K → X.calm = true → ∀ (i : Nat) (pins : List (Addr × Obj)) (s : Shared) (σ : St) (H : Hp) (E : Value → Shared → Prop), Inv X pins σ H s → (∀ b ∈ fp, FpOk X pins H b) → tn i s.heap → J.stop i H →
    wpAny (model P w) X.A (pyNext (.ref it)) (fun r s1 => r = none ∧ Inv X pins σ H s1) E s
  self : ∀ (A : Around) (i : Nat) (s : Shared) (Q : Value → Shared → Prop) (E : Value → Shared → Prop), tn i s.heap → Q (.ref it) s → wpAny (model P w) A (pyIter (.ref it)) Q E s
abbrev TI := St → Hp → (It → Hp → Prop) → Prop
def PIE (X : Cx) (pins : List (Addr × Obj)) (σ : St) (tg : Expr) (R : It → Hp → Prop) (itv : Value) (s2 : Shared) : Prop :=
  ∃ (it : Addr) (fp : List Addr) (tn : Nat → Heap → Prop) (J : It) (H' : Hp), itv = .ref it ∧ Inv X pins σ H' s2 ∧ Turn X.prog X.w X.K tg J fp it tn ∧ tn 0 s2.heap ∧ (∀ b ∈ fp, FpOk X pins H' b) ∧ R J H'
def PI (X : Cx) (tg iter : Expr) (wi : TI) : Prop :=
  ∀ (pins : List (Addr × Obj)) (s : Shared) (σ : St) (H : Hp) (R : It → Hp → Prop), Inv X pins σ H s → wi σ H R →
    wpAny (model X.prog X.w) X.A (eval iter X.env) (fun v s1 => wpAny (model X.prog X.w) X.A (pyIter v) (PIE X pins σ tg R) X.xe s1) X.xe s
theorem go_of {M : Model} {A : Around} {E : Value → Shared → Prop} {s : Shared} {tg : Expr} {it : Addr} {u : Value} {o : Obj} {n : String} {vs : Array Value} {Q : Unit → Shared → Prop} (ho : s.heap.get? it = some o) (hc : o.cls = .type n) (hd : o.data = .fields vs)
    (hn : ["enumerate", "zip", "dict_itemiterator", "dict_reverseitemiterator", "odict_iterator", "itertools.zip_longest", "itertools.pairwise"].contains n = false) (hQ : Q () s) : wpAny M A (letOwnedTupleGo tg (.ref it) u) Q E s := by
  unfold letOwnedTupleGo
  cases tg <;> first
    | exact wpAny_pure hQ
    | (cases u <;> first
        | exact wpAny_pure hQ
        | (refine wpAny_bind (wpAny_load ho ?_)
           rw [hc, hd]
           show wpAny M A (if (["enumerate", "zip", "dict_itemiterator", "dict_reverseitemiterator", "odict_iterator", "itertools.zip_longest", "itertools.pairwise"].contains n && vs[0]? == some (rawInt _)) = true then _ else _) Q E s
           rw [if_neg (by intro h; rw [hn, Bool.false_and] at h; cases h)]
           exact wpAny_pure hQ))
def Itl (K : PySem.W.Frag) (a : Addr) : It :=
  ⟨fun i H => ∃ xs x, SqL K H a xs ∧ xs[i]? = some x, fun i H x H' => H' = H ∧ ∀ xs, SqL K H a xs → xs[i]? = some x, fun i H => ∃ xs, SqL K H a xs ∧ xs.length ≤ i⟩
def Itt (K : PySem.W.Frag) (a : Addr) : It :=
  ⟨fun i H => ∃ xs x, SqT K H a xs ∧ xs[i]? = some x, fun i H x H' => H' = H ∧ ∀ xs, SqT K H a xs → xs[i]? = some x, fun i H => ∃ xs, SqT K H a xs ∧ xs.length ≤ i⟩
def Itr (lo : Int) (n : Nat) : It := ⟨fun i _ => i < n, fun i H x H' => H' = H ∧ x = .int (lo + i), fun i _ => n ≤ i⟩
theorem turn_list {P : Program} {w : World} {K : PySem.W.Frag} {tg : Expr} (a it : Addr) : Turn P w K tg (Itl K a) [it] it (fun i h => h.IsListIter it a i) where
  mem := by simp
  obj := fun i h st b hb => by
    have e : b = it := by simpa using hb
    subst e
    obtain ⟨o, e, c, d⟩ := st
    exact ⟨o, e, fun v z => by rw [d] at z; cases z⟩
  keep := fun i h h' st k => st.at fun o e => k it (by simp) o e
  item := by
    intro X hP hw hK hc i pins s σ H E I hf st hg
    subst hP hw hK
    obtain ⟨xs, x, hq, hx⟩ := hg
    obtain ⟨its, rv, p, hz⟩ := I.list hq
    obtain ⟨u, hu, ru⟩ := rv.get hx
    obtain ⟨f0, f1, f2, f3, f4, f5⟩ := hf it (by simp)
    refine wpAny_pyNext_list_item st p.isList (x := u) (by simpa using hu) fun h' st' sb => ?_
    have I1 : Inv X pins σ H { s with heap := h' } := I.turned (t' := s.toks) (fun b o hb e => (sb.2 b hb).trans e) f0 f1 f3 f4 f5
    obtain ⟨o, e, c, d⟩ := id st'
    exact ⟨u, rfl, go_of (s := { s with heap := h' }) e c d (by decide) ⟨x, H, I1, ru, ⟨rfl, fun ys hy => by rw [I.list_inj hy hq]; exact hx⟩, st', fun b hb => (hf b hb).1⟩⟩
  done := by
    intro X hP hw hK hc i pins s σ H E I hf st hg
    subst hP hw hK
    obtain ⟨xs, hq, hx⟩ := hg
    obtain ⟨its, rv, p, hz⟩ := I.list hq
    obtain ⟨f0, f1, f2, f3, f4, f5⟩ := hf it (by simp)
    have hl := rv.length
    exact wpAny_pyNext_list_end (I.ok.hd hc) st p.isList (by simp; omega) fun h' eb => ⟨rfl, I.turned (t' := s.toks) (fun b o hb e => eb b o hb e) f0 f1 f3 f4 f5⟩
  self := fun _ _ _ _ _ st h => wpAny_pyIter_listiter st h
theorem turn_tuple {P : Program} {w : World} {K : PySem.W.Frag} {tg : Expr} (a it : Addr) : Turn P w K tg (Itt K a) [it] it (fun i h => h.IsTupleIter it a i) where
  mem := by simp
  obj := fun i h st b hb => by
    have e : b = it := by simpa using hb
    subst e
    obtain ⟨o, e, c, d⟩ := st
    exact ⟨o, e, fun v z => by rw [d] at z; cases z⟩
  keep := fun i h h' st k => st.at fun o e => k it (by simp) o e
  item := by
    intro X hP hw hK hc i pins s σ H E I hf st hg
    subst hP hw hK
    obtain ⟨xs, x, hq, hx⟩ := hg
    obtain ⟨its, rv, p, hz⟩ := I.tuple hq
    obtain ⟨u, hu, ru⟩ := rv.get hx
    obtain ⟨f0, f1, f2, f3, f4, f5⟩ := hf it (by simp)
    refine wpAny_pyNext_tuple_item st (show s.heap.IsTuple a its.toArray from p) (x := u) (by simpa using hu) fun h' st' sb => ?_
    have I1 : Inv X pins σ H { s with heap := h' } := I.turned (t' := s.toks) (fun b o hb e => (sb.2 b hb).trans e) f0 f1 f3 f4 f5
    obtain ⟨o, e, c, d⟩ := id st'
    exact ⟨u, rfl, go_of (s := { s with heap := h' }) e c d (by decide) ⟨x, H, I1, ru, ⟨rfl, fun ys hy => by rw [I.tuple_inj hy hq]; exact hx⟩, st', fun b hb => (hf b hb).1⟩⟩
  done := by
    intro X hP hw hK hc i pins s σ H E I hf st hg
    subst hP hw hK
    obtain ⟨xs, hq, hx⟩ := hg
    obtain ⟨its, rv, p, hz⟩ := I.tuple hq
    obtain ⟨f0, f1, f2, f3, f4, f5⟩ := hf it (by simp)
    have hl := rv.length
    exact wpAny_pyNext_tuple_end (I.ok.hd hc) st (show s.heap.IsTuple a its.toArray from p) (by simp; omega) fun h' eb => ⟨rfl, I.turned (t' := s.toks) (fun b o hb e => eb b o hb e) f0 f1 f3 f4 f5⟩
  self := fun _ _ _ _ _ st h => wpAny_pyIter_tupleiter st h
theorem turn_range {P : Program} {w : World} {K : PySem.W.Frag} {tg : Expr} (it : Addr) (lo : Int) (n : Nat) : Turn P w K tg (Itr lo n) [it] it (fun i h => IsRangeIter h it (lo + (i : Nat) * 1) ((n : Int) - (i : Nat)) 1) where
  mem := by simp
  obj := fun i h st b hb => by
    have e : b = it := by simpa using hb
    subst e
    exact ⟨_, st, fun v z => by
      have z' : Data.fields _ = Data.cell v := z
      cases z'⟩
  keep := fun i h h' st k => k it (by simp) _ st
  item := by
    intro X hP hw hK hc i pins s σ H E I hf st hg
    subst hP hw hK
    obtain ⟨f0, f1, f2, f3, f4, f5⟩ := hf it (by simp)
    have W := Walks.range (prog := X.prog) (w := X.w) (I.ok.hd hc) it lo 1 n
    refine W.item i s _ _ hg st fun v h' tk hv st' kk => ?_
    obtain ⟨t, rfl⟩ := hv
    have I1 : Inv X pins σ H { s with heap := h', toks := tk } := I.turned (fun b o hb e => kk b o (by simpa using hb) e) f0 f1 f3 f4 f5
    refine ⟨_, rfl, go_of (s := { s with heap := h', toks := tk }) (n := "range_iterator") st' rfl rfl (by decide) ⟨.int (lo + i), H, I1, ⟨t, ?_⟩, ⟨rfl, rfl⟩, st', fun b hb => (hf b hb).1⟩⟩
    rw [Int.mul_one]
  done := by
    intro X hP hw hK hc i pins s σ H E I hf st hg
    subst hP hw hK
    obtain ⟨f0, f1, f2, f3, f4, f5⟩ := hf it (by simp)
    exact wpAny_pyNext_range_end (I.ok.hd hc) st (by have : n ≤ i := hg; omega) fun h' eb => ⟨rfl, I.turned (t' := s.toks) (fun b o hb e => eb b o hb e) f0 f1 f3 f4 f5⟩
  self := fun _ _ _ _ _ st h => wpAny_pyIter_rangeiter st h
end L2
namespace L2
open PySem PySem.Spec PyProof.Rows
section
variable {X : Cx} {tg : Expr}
def iList (K : PySem.W.Frag) (tl : TE) : TI := fun σ H R => tl σ H fun x H1 => ∃ a, x = .ref a ∧ (∃ xs, SqL K H1 a xs) ∧ R (Itl K a) H1
def iTup (K : PySem.W.Frag) (tl : TE) : TI := fun σ H R => tl σ H fun x H1 => ∃ a, x = .ref a ∧ (∃ xs, SqT K H1 a xs) ∧ R (Itt K a) H1
theorem pi_list {l : Expr} {tl : TE} (hl : PE X l tl) : PI X tg l (iList X.K tl) := by
  intro pins s σ H R I h
  refine thn (hl pins s σ H _ I h) fun v s1 ⟨x, H1, I1, r1, q1⟩ => ?_
  obtain ⟨a, e, ⟨xs, hq⟩, q⟩ := q1
  subst e
  cases r1
  obtain ⟨its, rv, p, hz⟩ := I1.list hq
  refine wpAny_pyIter_list p.isList ?_
  refine ⟨s1.heap.objs.size, [s1.heap.objs.size], _, _, H1, rfl, I1.kept (t' := s1.toks) fun b o e => Heap.get?_push_of_some _ e, turn_list a _, ⟨_, Heap.get?_push_size _ rfl, rfl, rfl⟩, fun b hb => ?_, q⟩
  have e : b = s1.heap.objs.size := by simpa using hb
  subst e
  exact I1.fpOk (Nat.le_refl _) (I1.hok.fresh (Nat.le_refl _))
theorem pi_tup {l : Expr} {tl : TE} (hl : PE X l tl) : PI X tg l (iTup X.K tl) := by
  intro pins s σ H R I h
  refine thn (hl pins s σ H _ I h) fun v s1 ⟨x, H1, I1, r1, q1⟩ => ?_
  obtain ⟨a, e, ⟨xs, hq⟩, q⟩ := q1
  subst e
  cases r1
  obtain ⟨its, rv, p, hz⟩ := I1.tuple hq
  refine wpAny_pyIter_tuple (show s1.heap.IsTuple a its.toArray from p) ?_
  refine ⟨s1.heap.objs.size, [s1.heap.objs.size], _, _, H1, rfl, I1.kept (t' := s1.toks) fun b o e => Heap.get?_push_of_some _ e, turn_tuple a _, ⟨_, Heap.get?_push_size _ rfl, rfl, rfl⟩, fun b hb => ?_, q⟩
  have e : b = s1.heap.objs.size := by simpa using hb
  subst e
  exact I1.fpOk (Nat.le_refl _) (I1.hok.fresh (Nat.le_refl _))
theorem range_it {pins : List (Addr × Obj)} {σ : St} {H : Hp} {s : Shared} {R : It → Hp → Prop} {E : Value → Shared → Prop} {lo hi : Int} {t u v : Tok} {tk : Nat} (I : Inv X pins σ H s) (h1 : -(2 ^ 62) ≤ lo) (h2 : lo < 2 ^ 62) (h3 : -(2 ^ 62) ≤ hi) (h4 : hi < 2 ^ 62)
    (q : R (Itr lo (hi - lo).toNat) H) : wpAny (model X.prog X.w) X.A (pyIter (.ref s.heap.objs.size)) (PIE X pins σ tg R) E { s with heap := s.heap.push { cls := .type "range", data := .fields #[.int lo t, .int hi u, .int 1 v] }, toks := tk } := by
  refine wpAny_pyIter_range (IsRange.new ..) (small_one h1 h2 h3 h4) ?_
  have I1 : Inv X pins σ H { s with heap := s.heap.push { cls := .type "range", data := .fields #[.int lo t, .int hi u, .int 1 v] }, toks := tk } := I.kept fun b o e => Heap.get?_push_of_some _ e
  refine ⟨(s.heap.push { cls := .type "range", data := .fields #[.int lo t, .int hi u, .int 1 v] }).objs.size, [(s.heap.push { cls := .type "range", data := .fields #[.int lo t, .int hi u, .int 1 v] }).objs.size], _, _, H, rfl,
    I1.kept (t' := tk) fun b o e => Heap.get?_push_of_some _ e, turn_range _ lo (hi - lo).toNat, ?_, fun b hb => ?_, q⟩
  · have e1 : lo + ((0 : Nat) : Int) * 1 = lo := by simp
    have e2 : (((hi - lo).toNat : Nat) : Int) - ((0 : Nat) : Int) = Builtin.Range.rangeSize lo hi 1 := by rw [rangeSize_one]; split <;> omega
    show IsRangeIter _ _ (lo + ((0 : Nat) : Int) * 1) ((((hi - lo).toNat : Nat) : Int) - ((0 : Nat) : Int)) 1
    rw [e1, e2]
    exact Heap.get?_push_size _ rfl
  · have e : b = (s.heap.push { cls := .type "range", data := .fields #[.int lo t, .int hi u, .int 1 v] }).objs.size := by simpa using hb
    subst e
    exact I1.fpOk (Nat.le_refl _) (I1.hok.fresh (Nat.le_refl _))
def iRng1 (ta : TA) : TI := fun σ H R => ta σ H fun vs H1 => ∃ j : Int, vs = [.int j] ∧ -(2 ^ 62) ≤ j ∧ j < 2 ^ 62 ∧ R (Itr 0 j.toNat) H1
def iRng2 (ta : TA) : TI := fun σ H R => ta σ H fun vs H1 => ∃ i j : Int, vs = [.int i, .int j] ∧ (-(2 ^ 62) ≤ i ∧ i < 2 ^ 62 ∧ -(2 ^ 62) ≤ j ∧ j < 2 ^ 62) ∧ R (Itr i (j - i).toNat) H1
theorem pi_range1 {a : Expr} {ta : TA} {p pos : Pos} (hg : Gl X "range") (hm : X.mg "range" = none) (ha : PA X [a] ta) (hs : starEach [a] X.env = [(false, eval a X.env)] := by rfl) : PI X tg (.Call (.Name "range" p) [a] [] pos) (iRng1 ta) := by
  intro pins s σ H R I h
  refine Call_ (ld_blt I hg hm boot_range (PyProof.Rows.callWith_type1 (thn (ha pos pins s σ H _ I h) fun us s1 ⟨vs, H1, I1, r1, q1⟩ => ?_) hs rfl))
  obtain ⟨j, e, q1, q2, q⟩ := q1
  subst e
  cases r1 with
  | cons r rr =>
    cases rr
    obtain ⟨t, rfl⟩ := r
    exact call_range_1 (range_it I1 (by omega) (by omega) q1 q2 (by simpa using q))
theorem pi_range2 {a b : Expr} {ta : TA} {p pos : Pos} (hg : Gl X "range") (hm : X.mg "range" = none) (ha : PA X [a, b] ta) (hs : starEach [a, b] X.env = [(false, eval a X.env), (false, eval b X.env)] := by rfl) (hs2 : starEach [b] X.env = [(false, eval b X.env)] := by rfl) :
    PI X tg (.Call (.Name "range" p) [a, b] [] pos) (iRng2 ta) := by
  intro pins s σ H R I h
  refine Call_ (ld_blt I hg hm boot_range (PyProof.Rows.callWith_type1 (thn (ha pos pins s σ H _ I h) fun us s1 ⟨vs, H1, I1, r1, q1⟩ => ?_) (by rw [hs, hs2]) (by rw [hs2]; rfl)))
  obtain ⟨i, j, e, ⟨q1, q2, q3, q4⟩, q⟩ := q1
  subst e
  cases r1 with
  | cons r rr =>
    cases rr with
    | cons r' rr =>
      cases rr
      obtain ⟨t, rfl⟩ := r
      obtain ⟨t', rfl⟩ := r'
      exact call_range_2 (range_it I1 q1 q2 q3 q4 q)
def tFor (wi : TI) (g : TG) (tb : TS) : TS := fun D σ H => wi σ H fun J H1 => ∃ W : Nat → Nat → St → Hp → Prop, (∃ m, W 0 m σ H1) ∧ ∀ i m σ H, W i m σ H →
  (J.stop i H ∧ D.nx σ H) ∨ (J.go i H ∧ ∃ N : St → Hp → Prop, (∀ σ' H', N σ' H' → ∃ m', m' < m ∧ W (i + 1) m' σ' H') ∧ ∀ x H', J.yld i H x H' → g x σ H' fun σ2 H2 => tb { D with nx := N, ct := N, bk := D.nx } σ2 H2)
def pinsAt (fp : List Addr) (h : Heap) : List (Addr × Obj) := fp.filterMap fun b => (h.get? b).map fun o => (b, o)
theorem mem_pinsAt {fp : List Addr} {h : Heap} {b : Addr} {o : Obj} (hb : b ∈ fp) (e : h.get? b = some o) : (b, o) ∈ pinsAt fp h := List.mem_filterMap.mpr ⟨b, hb, by rw [e]; rfl⟩
theorem of_pinsAt {fp : List Addr} {h : Heap} {p : Addr × Obj} (hp : p ∈ pinsAt fp h) : p.1 ∈ fp ∧ h.get? p.1 = some p.2 := by
  obtain ⟨b, hb, e⟩ := List.mem_filterMap.mp hp
  cases q : h.get? b with
  | none => rw [q] at e; cases e
  | some o =>
    rw [q] at e
    have e' : (b, o) = p := Option.some.inj e
    subst e'
    exact ⟨hb, q⟩
theorem Inv.pinned {pins : List (Addr × Obj)} {σ : St} {H : Hp} {s : Shared} {fp : List Addr} (I : Inv X pins σ H s) (hf : ∀ b ∈ fp, FpOk X pins H b) (ho : ∀ b ∈ fp, ∃ o, s.heap.get? b = some o ∧ ∀ v, o.data ≠ .cell v) : Inv X (pins ++ pinsAt fp s.heap) σ H s :=
  I.pins_of fun p hp => (List.mem_append.mp hp).elim (fun z => I.pin p (List.mem_append_right _ z)) fun z => by
    obtain ⟨hb, e⟩ := of_pinsAt z
    obtain ⟨f0, f1, f2, _⟩ := hf p.1 hb
    obtain ⟨o, e', d⟩ := ho p.1 hb
    rw [e] at e'; cases e'
    exact ⟨e, f0, f1, f2, d⟩
theorem Inv.unpinned {pins pl : List (Addr × Obj)} {σ : St} {H : Hp} {s : Shared} (I : Inv X (pins ++ pl) σ H s) : Inv X pins σ H s := I.pins_of fun p hp => I.pin p (List.mem_append_right _ (List.mem_append_left _ hp))
theorem ps_for {iter : Expr} {body : List Stmt} {wi : TI} {g : TG} {tb : TS} {pos : Pos} (hp : PassesOwn (model X.prog X.w) X.A X.env X.xe) (hc : X.calm = true) (hi : PI X tg iter wi) (hg : PG X tg g) (hb : PSs X body tb)
    (hs : ∀ x, foldedSetIterable iter X.env x = pure x := by intro _; rfl) : PS X (.For tg iter body [] pos) (tFor wi g tb) := by
  intro pins s σ H D I h
  refine wpAny_For (thn (hi pins s σ H _ I h) fun v s1 h1 => thn h1 fun itv s2 h2 => ?_) hs
  obtain ⟨it, fp, tn, J, H2, e, I2, T, st2, f2, W, ⟨m0, w0⟩, turn⟩ := h2
  subst e
  have stat : ∀ {H' : Hp}, (∀ b ∈ fp, H' b = none) → ∀ b ∈ fp, FpOk X pins H' b := fun hn b hb => ⟨hn b hb, (f2 b hb).2⟩
  refine codeAny_forLoop_any (fun n s' => ∃ i σ' H', Inv X pins σ' H' s' ∧ tn i s'.heap ∧ (∀ b ∈ fp, H' b = none) ∧ W i n σ' H') ?_ m0 ⟨0, σ, H2, I2, st2, fun b hb => (f2 b hb).1, w0⟩
  rintro n s3 ⟨i, σ3, H3, I3, st3, fr3, w3⟩
  rcases turn i n σ3 H3 w3 with ⟨stop, qn⟩ | ⟨go, N, hN, step⟩
  · refine wpAny_passesOwn hp (thn (T.done X rfl rfl rfl hc i pins s3 σ3 H3 X.xe I3 (stat fr3) st3 stop) fun r s4 ⟨hr, I4⟩ => ?_)
    subst hr
    exact wpAny_execs_nil ⟨σ3, H3, I4, qn⟩
  · refine wpAny_passesOwn hp (thn (T.item X rfl rfl rfl hc i pins s3 σ3 H3 X.xe I3 (stat fr3) st3 go) fun r s4 ⟨u, hr, h4⟩ => ?_)
    subst hr
    refine wpAny_passesOwn hp (thn h4 fun _ s5 ⟨x, H5, I5, r5, y5, st5, fr5⟩ => ?_)
    have I5' := I5.pinned (stat fr5) (T.obj _ _ st5)
    refine wpAny_passesOwn hp (thn (hg _ s5 σ3 H5 x u _ I5' r5 (step x H5 y5)) fun _ s6 ⟨σ6, H6, I6, q6⟩ => ?_)
    refine wpAny_passesOwn hp (thn (hb _ s6 σ6 H6 _ I6 q6) fun f s7 q7 => ?_)
    have again : ∀ {σ7 : St} {H7 : Hp}, Inv X (pins ++ pinsAt fp s5.heap) σ7 H7 s7 → N σ7 H7 → ∃ m, m < n ∧ ∃ i σ' H', Inv X pins σ' H' s7 ∧ tn i s7.heap ∧ (∀ b ∈ fp, H' b = none) ∧ W i m σ' H' := fun {σ7 H7} I7 n7 => by
      obtain ⟨m', hm, w7⟩ := hN σ7 H7 n7
      refine ⟨m', hm, i + 1, σ7, H7, I7.unpinned, T.keep _ _ _ st5 fun b hb o e => (I7.pin (b, o) (List.mem_append_right _ (List.mem_append_right _ (mem_pinsAt hb e)))).1, fun b hb => ?_, w7⟩
      obtain ⟨o, e, d⟩ := T.obj _ _ st5 b hb
      exact (I7.pin (b, o) (List.mem_append_right _ (List.mem_append_right _ (mem_pinsAt hb e)))).2.1
    cases f with
    | next => obtain ⟨σ7, H7, I7, n7⟩ := q7; exact again I7 n7
    | cont => obtain ⟨σ7, H7, I7, n7⟩ := q7; exact again I7 n7
    | brk => obtain ⟨σ7, H7, I7, q7⟩ := q7; exact ⟨σ7, H7, I7.unpinned, q7⟩
    | ret v => obtain ⟨x7, σ7, H7, I7, r7, q7⟩ := q7; exact ⟨x7, σ7, H7, I7.unpinned, r7, q7⟩
end
theorem for_list {K : PySem.W.Frag} {a : Addr} {xs : List V} {g : TG} {tb : TS} {D : Ends} {σ : St} {H : Hp} (Pv : Nat → St → Hp → Prop) (h0 : Pv 0 σ H) (hl : ∀ i σ H, i ≤ xs.length → Pv i σ H → SqL K H a xs)
    (hs : ∀ i x σ H, xs[i]? = some x → Pv i σ H → g x σ H fun σ2 H2 => tb { D with nx := Pv (i + 1), ct := Pv (i + 1), bk := D.nx } σ2 H2) (hd : ∀ σ H, Pv xs.length σ H → D.nx σ H) :
    ∃ W : Nat → Nat → St → Hp → Prop, (∃ m, W 0 m σ H) ∧ ∀ i m σ H, W i m σ H →
      ((Itl K a).stop i H ∧ D.nx σ H) ∨ ((Itl K a).go i H ∧ ∃ N : St → Hp → Prop, (∀ σ' H', N σ' H' → ∃ m', m' < m ∧ W (i + 1) m' σ' H') ∧ ∀ x H', (Itl K a).yld i H x H' → g x σ H' fun σ2 H2 => tb { D with nx := N, ct := N, bk := D.nx } σ2 H2) := by
  refine ⟨fun i m σ H => m = xs.length - i ∧ i ≤ xs.length ∧ Pv i σ H, ⟨xs.length, by simp, Nat.zero_le _, h0⟩, ?_⟩
  rintro i m σ H ⟨rfl, hi, p⟩
  have q := hl i σ H hi p
  by_cases hlt : i < xs.length
  · refine .inr ⟨⟨xs, xs[i], q, by simp [hlt]⟩, Pv (i + 1), fun σ' H' p' => ⟨xs.length - (i + 1), by omega, rfl, hlt, p'⟩, fun x H' y => ?_⟩
    obtain ⟨e, y⟩ := y
    subst e
    exact hs i x σ _ (y xs q) p
  · have e : i = xs.length := by omega
    subst e
    exact .inl ⟨⟨xs, q, Nat.le_refl _⟩, hd σ H p⟩
theorem for_tup {K : PySem.W.Frag} {a : Addr} {xs : List V} {g : TG} {tb : TS} {D : Ends} {σ : St} {H : Hp} (Pv : Nat → St → Hp → Prop) (h0 : Pv 0 σ H) (hl : ∀ i σ H, i ≤ xs.length → Pv i σ H → SqT K H a xs)
    (hs : ∀ i x σ H, xs[i]? = some x → Pv i σ H → g x σ H fun σ2 H2 => tb { D with nx := Pv (i + 1), ct := Pv (i + 1), bk := D.nx } σ2 H2) (hd : ∀ σ H, Pv xs.length σ H → D.nx σ H) :
    ∃ W : Nat → Nat → St → Hp → Prop, (∃ m, W 0 m σ H) ∧ ∀ i m σ H, W i m σ H →
      ((Itt K a).stop i H ∧ D.nx σ H) ∨ ((Itt K a).go i H ∧ ∃ N : St → Hp → Prop, (∀ σ' H', N σ' H' → ∃ m', m' < m ∧ W (i + 1) m' σ' H') ∧ ∀ x H', (Itt K a).yld i H x H' → g x σ H' fun σ2 H2 => tb { D with nx := N, ct := N, bk := D.nx } σ2 H2) := by
  refine ⟨fun i m σ H => m = xs.length - i ∧ i ≤ xs.length ∧ Pv i σ H, ⟨xs.length, by simp, Nat.zero_le _, h0⟩, ?_⟩
  rintro i m σ H ⟨rfl, hi, p⟩
  have q := hl i σ H hi p
  by_cases hlt : i < xs.length
  · refine .inr ⟨⟨xs, xs[i], q, by simp [hlt]⟩, Pv (i + 1), fun σ' H' p' => ⟨xs.length - (i + 1), by omega, rfl, hlt, p'⟩, fun x H' y => ?_⟩
    obtain ⟨e, y⟩ := y
    subst e
    exact hs i x σ _ (y xs q) p
  · have e : i = xs.length := by omega
    subst e
    exact .inl ⟨⟨xs, q, Nat.le_refl _⟩, hd σ H p⟩
theorem for_range {lo : Int} {n : Nat} {g : TG} {tb : TS} {D : Ends} {σ : St} {H : Hp} (Pv : Nat → St → Hp → Prop) (h0 : Pv 0 σ H)
    (hs : ∀ i σ H, i < n → Pv i σ H → g (.int (lo + i)) σ H fun σ2 H2 => tb { D with nx := Pv (i + 1), ct := Pv (i + 1), bk := D.nx } σ2 H2) (hd : ∀ σ H, Pv n σ H → D.nx σ H) :
    ∃ W : Nat → Nat → St → Hp → Prop, (∃ m, W 0 m σ H) ∧ ∀ i m σ H, W i m σ H →
      ((Itr lo n).stop i H ∧ D.nx σ H) ∨ ((Itr lo n).go i H ∧ ∃ N : St → Hp → Prop, (∀ σ' H', N σ' H' → ∃ m', m' < m ∧ W (i + 1) m' σ' H') ∧ ∀ x H', (Itr lo n).yld i H x H' → g x σ H' fun σ2 H2 => tb { D with nx := N, ct := N, bk := D.nx } σ2 H2) := by
  refine ⟨fun i m σ H => m = n - i ∧ i ≤ n ∧ Pv i σ H, ⟨n, by simp, Nat.zero_le _, h0⟩, ?_⟩
  rintro i m σ H ⟨rfl, hi, p⟩
  by_cases hlt : i < n
  · refine .inr ⟨hlt, Pv (i + 1), fun σ' H' p' => ⟨n - (i + 1), by omega, rfl, hlt, p'⟩, fun x H' y => ?_⟩
    obtain ⟨e, y⟩ := y
    subst e y
    exact hs i σ _ hlt p
  · have e : i = n := by omega
    subst e
    exact .inl ⟨Nat.le_refl _, hd σ H p⟩
end L2
namespace L2
open PySem PySem.Spec PyProof.Rows
abbrev R2 := V → V → Hp → VK → Prop
def OpR (X : Cx) (f : Value → Value → Sem Value) (r : R2) : Prop :=
  ∀ (pins : List (Addr × Obj)) (s : Shared) (σ : St) (H : Hp) (x y : V) (v u : Value) (Q : VK), Inv X pins σ H s → RelV x v → RelV y u → r x y H Q →
    wpAny (model X.prog X.w) X.A (f v u) (EP X pins σ Q) X.xe s
def UnR (X : Cx) (f : Value → Sem Value) (r : V → Hp → VK → Prop) : Prop :=
  ∀ (pins : List (Addr × Obj)) (s : Shared) (σ : St) (H : Hp) (x : V) (v : Value) (Q : VK), Inv X pins σ H s → RelV x v → r x H Q →
    wpAny (model X.prog X.w) X.A (f v) (EP X pins σ Q) X.xe s
def CallR (X : Cx) (f : Value) (r : List V → Hp → VK → Prop) : Prop :=
  ∀ (pins : List (Addr × Obj)) (s : Shared) (σ : St) (H : Hp) (xs : List V) (us : List Value) (Q : VK), Inv X pins σ H s → Vals xs us → r xs H Q →
    wpAny (model X.prog X.w) X.A (call f us) (EP X pins σ Q) X.xe s
def TruR (X : Cx) (r : V → Hp → (Bool → Hp → Prop) → Prop) : Prop :=
  ∀ (pins : List (Addr × Obj)) (s : Shared) (σ : St) (H : Hp) (x : V) (v : Value) (Q : Bool → Hp → Prop), Inv X pins σ H s → RelV x v → r x H Q →
    wpAny (model X.prog X.w) X.A (truthy v) (TP X pins σ Q) X.xe s
def tOp (r : R2) (ta tb : TE) : TE := fun σ H Q => ta σ H fun x H1 => tb σ H1 fun y H2 => r x y H2 Q
def tUn (r : V → Hp → VK → Prop) (ta : TE) : TE := fun σ H Q => ta σ H fun x H1 => r x H1 Q
def rI (C : Int → Int → Prop) (g : Int → Int → V) : R2 := fun x y H Q => ∃ i j, x = .int i ∧ y = .int j ∧ C i j ∧ Q (g i j) H
def rI0 (g : Int → Int → V) : R2 := fun x y H Q => ∃ i j, x = .int i ∧ y = .int j ∧ Q (g i j) H
def rU (g : Int → V) : V → Hp → VK → Prop := fun x H Q => ∃ i, x = .int i ∧ Q (g i) H
section
variable {X : Cx} {a b c : Expr} {ta tb tc : TE} {pos : Pos}
theorem binT (ha : PE X a ta) (hb : PE X b tb) {pins : List (Addr × Obj)} {s : Shared} {σ : St} {H : Hp} {R : V → V → Hp → Prop} (I : Inv X pins σ H s)
    (h : ta σ H fun x H1 => tb σ H1 fun y H2 => R x y H2) {Q : Value → Shared → Prop} {f : Value → Value → Sem Value}
    (hf : ∀ v u s2 x y H2, Inv X pins σ H2 s2 → RelV x v → RelV y u → R x y H2 → wpAny (model X.prog X.w) X.A (f v u) Q X.xe s2) :
    wpAny (model X.prog X.w) X.A (eval a X.env) (fun v s₁ => wpAny (model X.prog X.w) X.A (eval b X.env) (fun u s₂ => wpAny (model X.prog X.w) X.A (f v u) Q X.xe s₂) X.xe s₁) X.xe s := by
  refine thn (ha pins s σ H _ I h) fun v s1 ⟨x, H1, I1, r1, q1⟩ => ?_
  refine thn (hb pins s1 σ H1 _ I1 q1) fun u s2 ⟨y, H2, I2, r2, q2⟩ => ?_
  exact hf v u s2 x y H2 I2 r1 r2 q2
theorem pe_op {op : Operator} {r : R2} (ho : OpR X (binaryOp op) r) (ha : PE X a ta) (hb : PE X b tb) : PE X (.BinOp a op b pos) (tOp r ta tb) := by
  intro pins s σ H Q I h
  exact wpAny_BinOp (binT ha hb I h fun v u s2 x y H2 I2 rx ry q => ho pins s2 σ H2 x y v u Q I2 rx ry q)
theorem pe_un {op : UnaryOp} {r : V → Hp → VK → Prop} (ho : UnR X (unaryOp op) r) (ha : PE X a ta) : PE X (.UnaryOp op a pos) (tUn r ta) := by
  intro pins s σ H Q I h
  exact UnaryOp_ (thn (ha pins s σ H _ I h) fun v s1 ⟨x, H1, I1, r1, q1⟩ => ho pins s1 σ H1 x v Q I1 r1 q1)
theorem opI {f : Value → Value → Sem Value} {C : Int → Int → Prop} {g : Int → Int → Int}
    (rule : ∀ (i j : Int) (t u : Tok) (s : Shared) (Q : Value → Shared → Prop) (E : Value → Shared → Prop), C i j → Q (.int (g i j) s.toks) { s with toks := s.toks + 1 } → wpAny (model X.prog X.w) X.A (f (.int i t) (.int j u)) Q E s) :
    OpR X f (rI C fun i j => .int (g i j)) := by
  intro pins s σ H x y v u Q I rx ry h
  obtain ⟨i, j, rfl, rfl, hc, q⟩ := h
  obtain ⟨t, rfl⟩ := rx
  obtain ⟨t', rfl⟩ := ry
  exact rule i j t t' s _ _ hc ⟨.int (g i j), H, I.tok _, ⟨_, rfl⟩, q⟩
theorem opI0 {f : Value → Value → Sem Value} {g : Int → Int → Int}
    (rule : ∀ (i j : Int) (t u : Tok) (s : Shared) (Q : Value → Shared → Prop) (E : Value → Shared → Prop), Q (.int (g i j) s.toks) { s with toks := s.toks + 1 } → wpAny (model X.prog X.w) X.A (f (.int i t) (.int j u)) Q E s) :
    OpR X f (rI0 fun i j => .int (g i j)) := by
  intro pins s σ H x y v u Q I rx ry h
  obtain ⟨i, j, rfl, rfl, q⟩ := h
  obtain ⟨t, rfl⟩ := rx
  obtain ⟨t', rfl⟩ := ry
  exact rule i j t t' s _ _ ⟨.int (g i j), H, I.tok _, ⟨_, rfl⟩, q⟩
theorem opB0 {f : Value → Value → Sem Value} {g : Int → Int → Bool}
    (rule : ∀ (i j : Int) (t u : Tok) (s : Shared) (Q : Value → Shared → Prop) (E : Value → Shared → Prop), Q (.bool (g i j)) s → wpAny (model X.prog X.w) X.A (f (.int i t) (.int j u)) Q E s) :
    OpR X f (rI0 fun i j => .bl (g i j)) := by
  intro pins s σ H x y v u Q I rx ry h
  obtain ⟨i, j, rfl, rfl, q⟩ := h
  obtain ⟨t, rfl⟩ := rx
  obtain ⟨t', rfl⟩ := ry
  exact rule i j t t' s _ _ ⟨.bl (g i j), H, I, rfl, q⟩
def CPow (i j : Int) : Prop := 0 ≤ j ∧ j ≤ 1000000 ∧ i.natAbs < 2 ^ 64
def CMul (i j : Int) : Prop := (-(2 ^ 64) < i ∧ i < 2 ^ 64) ∨ (-(2 ^ 64) < j ∧ j < 2 ^ 64)
theorem CMul.ok {i j : Int} (h : CMul i j) : IntMulOk i j := by
  rcases h with ⟨h1, h2⟩ | ⟨h1, h2⟩
  · exact .of_left (intBits_le_64 h1 h2)
  · exact .of_right (intBits_le_64 h1 h2)
theorem op_add : OpR X (binaryOp .Add) (rI0 fun i j => .int (i + j)) := opI0 fun _ _ _ _ _ _ _ q => add_int q
theorem op_sub : OpR X (binaryOp .Sub) (rI0 fun i j => .int (i - j)) := opI0 fun _ _ _ _ _ _ _ q => sub_int q
theorem op_mul : OpR X (binaryOp .Mult) (rI CMul fun i j => .int (i * j)) := opI fun _ _ _ _ _ _ _ hc q => mul_int q hc.ok
theorem op_mod : OpR X (binaryOp .Mod) (rI (fun _ j => 0 < j) fun i j => .int (i % j)) := opI fun i j _ _ _ _ _ hc q => by
  have h1 : (0 : Int) < j := hc
  exact mod_int' (by omega) (by rw [Int.fmod_eq_emod_of_nonneg i (by omega)]; exact q)
theorem op_pow : OpR X (binaryOp .Pow) (rI CPow fun i j => .int (i ^ j.toNat)) := opI fun _ _ _ _ _ _ _ hc q => pow_int_small hc.1 hc.2.1 hc.2.2 q
theorem unI {f : Value → Sem Value} {g : Int → Int}
    (rule : ∀ (i : Int) (t : Tok) (s : Shared) (Q : Value → Shared → Prop) (E : Value → Shared → Prop), Q (.int (g i) s.toks) { s with toks := s.toks + 1 } → wpAny (model X.prog X.w) X.A (f (.int i t)) Q E s) :
    UnR X f (rU fun i => .int (g i)) := by
  intro pins s σ H x v Q I rx h
  obtain ⟨i, rfl, q⟩ := h
  obtain ⟨t, rfl⟩ := rx
  exact rule i t s _ _ ⟨.int (g i), H, I.tok _, ⟨_, rfl⟩, q⟩
theorem un_neg : UnR X (unaryOp .USub) (rU fun i => .int (-i)) := unI fun _ _ _ _ _ q => neg_int q
end
def scal : V → V → Bool
  | .non, .non => true | .non, .int _ => true | .int _, .non => true | .non, .bl _ => true | .bl _, .non => true | .non, .str _ => true | .str _, .non => true
  | .int _, .int _ => true | .bl _, .bl _ => true | .str _, .str _ => true | .byt _, .byt _ => true
  | .int _, .str _ => true | .str _, .int _ => true | .bl _, .str _ => true | .str _, .bl _ => true
  | _, _ => false
def rEq : R2 := fun x y H Q => scal x y = true ∧ Q (.bl (decide (x = y))) H
def rNe : R2 := fun x y H Q => scal x y = true ∧ Q (.bl (!decide (x = y))) H
theorem dec_int {i j : Int} : decide (V.int i = V.int j) = (i == j) := by
  rw [Bool.eq_iff_iff]
  simp
theorem dec_bl {i j : Bool} : decide (V.bl i = V.bl j) = (i == j) := by
  rw [Bool.eq_iff_iff]
  simp
theorem dec_str {i j : Str} : decide (V.str i = V.str j) = (i == j) := by
  rw [Bool.eq_iff_iff]
  simp
theorem dec_byt {i j : Array UInt8} : decide (V.byt i = V.byt j) = (i.toList == j.toList) := by
  rw [Bool.eq_iff_iff]
  cases i
  cases j
  simp
section
variable {X : Cx} {a b c : Expr} {ta tb tc : TE} {pos : Pos}
theorem fin_bl {pins : List (Addr × Obj)} {σ : St} {H : Hp} {s : Shared} {Q : VK} {k k' : Bool} (I : Inv X pins σ H s) (q : Q (.bl k) H) (e : k = k') : EP X pins σ Q (.bool k') s := by
  subst e
  exact ⟨.bl k, H, I, rfl, q⟩
theorem op_eq : OpR X (compareOp .Eq) rEq := by
  intro pins s σ H x y v u Q I rx ry h
  obtain ⟨hs, q⟩ := h
  cases x with
  | non =>
    cases rx
    cases y with
    | non => cases ry; exact PySem.EqNone.eq_none_none (fin_bl I q (by simp))
    | bl j => cases ry; exact PySem.EqNone.eq_none_bool (fin_bl I q (by simp))
    | int j => obtain ⟨t', rfl⟩ := ry; exact PySem.EqNone.eq_none_int (fin_bl I q (by simp))
    | str j => obtain ⟨t', rfl⟩ := ry; exact PySem.EqNone.eq_none_str (fin_bl I q (by simp))
    | _ => exact absurd (show false = true from hs) Bool.false_ne_true
  | bl i =>
    cases rx
    cases y with
    | non => cases ry; exact PySem.EqNone.eq_bool_none (fin_bl I q (by simp))
    | bl j => cases ry; exact eq_bool (fin_bl I q dec_bl)
    | str j => obtain ⟨t', rfl⟩ := ry; exact PySem.EqMixed.eq_bool_str (fin_bl I q (by simp))
    | _ => exact absurd (show false = true from hs) Bool.false_ne_true
  | int i =>
    obtain ⟨t, rfl⟩ := rx
    cases y with
    | non => cases ry; exact PySem.EqNone.eq_int_none (fin_bl I q (by simp))
    | int j => obtain ⟨t', rfl⟩ := ry; exact eq_int (fin_bl I q dec_int)
    | str j => obtain ⟨t', rfl⟩ := ry; exact PySem.EqMixed.eq_int_str (fin_bl I q (by simp))
    | _ => exact absurd (show false = true from hs) Bool.false_ne_true
  | str i =>
    obtain ⟨t, rfl⟩ := rx
    cases y with
    | non => cases ry; exact PySem.EqNone.eq_str_none (fin_bl I q (by simp))
    | bl j => cases ry; exact PySem.EqMixed.eq_str_bool (fin_bl I q (by simp))
    | int j => obtain ⟨t', rfl⟩ := ry; exact PySem.EqMixed.eq_str_int (fin_bl I q (by simp))
    | str j => obtain ⟨t', rfl⟩ := ry; exact eq_str (fin_bl I q dec_str)
    | _ => exact absurd (show false = true from hs) Bool.false_ne_true
  | byt i =>
    obtain ⟨t, rfl⟩ := rx
    cases y with
    | byt j => obtain ⟨t', rfl⟩ := ry; exact PySem.W.eq_bytes (fin_bl I q dec_byt)
    | _ => exact absurd (show false = true from hs) Bool.false_ne_true
  | _ => cases y <;> exact absurd (show false = true from hs) Bool.false_ne_true
theorem op_ne : OpR X (compareOp .NotEq) rNe := by
  intro pins s σ H x y v u Q I rx ry h
  obtain ⟨hs, q⟩ := h
  cases x with
  | non =>
    cases rx
    cases y with
    | non => cases ry; exact PySem.EqNone.ne_none_none (fin_bl I q (by simp))
    | bl j => cases ry; exact PySem.EqNone.ne_none_bool (fin_bl I q (by simp))
    | int j => obtain ⟨t', rfl⟩ := ry; exact PySem.EqNone.ne_none_int (fin_bl I q (by simp))
    | str j => obtain ⟨t', rfl⟩ := ry; exact PySem.EqNone.ne_none_str (fin_bl I q (by simp))
    | _ => exact absurd (show false = true from hs) Bool.false_ne_true
  | bl i =>
    cases rx
    cases y with
    | non => cases ry; exact PySem.EqNone.ne_bool_none (fin_bl I q (by simp))
    | bl j => cases ry; exact ne_bool (fin_bl I q (congrArg not dec_bl))
    | str j => obtain ⟨t', rfl⟩ := ry; exact PySem.EqMixed.ne_bool_str (fin_bl I q (by simp))
    | _ => exact absurd (show false = true from hs) Bool.false_ne_true
  | int i =>
    obtain ⟨t, rfl⟩ := rx
    cases y with
    | non => cases ry; exact PySem.EqNone.ne_int_none (fin_bl I q (by simp))
    | int j => obtain ⟨t', rfl⟩ := ry; exact ne_int (fin_bl I q (congrArg not dec_int))
    | str j => obtain ⟨t', rfl⟩ := ry; exact PySem.EqMixed.ne_int_str (fin_bl I q (by simp))
    | _ => exact absurd (show false = true from hs) Bool.false_ne_true
  | str i =>
    obtain ⟨t, rfl⟩ := rx
    cases y with
    | non => cases ry; exact PySem.EqNone.ne_str_none (fin_bl I q (by simp))
    | bl j => cases ry; exact PySem.EqMixed.ne_str_bool (fin_bl I q (by simp))
    | int j => obtain ⟨t', rfl⟩ := ry; exact PySem.EqMixed.ne_str_int (fin_bl I q (by simp))
    | str j => obtain ⟨t', rfl⟩ := ry; exact ne_str (fin_bl I q (congrArg not dec_str))
    | _ => exact absurd (show false = true from hs) Bool.false_ne_true
  | byt i =>
    obtain ⟨t, rfl⟩ := rx
    cases y with
    | byt j => obtain ⟨t', rfl⟩ := ry; exact PySem.W.ne_bytes (fin_bl I q (congrArg not dec_byt))
    | _ => exact absurd (show false = true from hs) Bool.false_ne_true
  | _ => cases y <;> exact absurd (show false = true from hs) Bool.false_ne_true
theorem op_lt : OpR X (compareOp .Lt) (rI0 fun i j => .bl (decide (i < j))) := opB0 fun _ _ _ _ _ _ _ q => lt_int q
theorem op_le : OpR X (compareOp .LtE) (rI0 fun i j => .bl (decide (i ≤ j))) := opB0 fun _ _ _ _ _ _ _ q => le_int q
theorem op_gt : OpR X (compareOp .Gt) (rI0 fun i j => .bl (decide (j < i))) := opB0 fun _ _ _ _ _ _ _ q => gt_int q
theorem op_ge : OpR X (compareOp .GtE) (rI0 fun i j => .bl (decide (j ≤ i))) := opB0 fun _ _ _ _ _ _ _ q => ge_int q
theorem op_isN : OpR X (compareOp .Is) (fun x y H Q => y = .non ∧ Q (.bl (decide (x = .non))) H) := by
  intro pins s σ H x y v u Q I rx ry h
  obtain ⟨rfl, q⟩ := h
  cases ry
  refine is_none_gen (fin_bl I q ?_)
  cases x <;> first
    | (cases rx; rfl)
    | (obtain ⟨t, rfl⟩ := rx; rfl)
theorem op_notN : OpR X (compareOp .IsNot) (fun x y H Q => y = .non ∧ Q (.bl (!decide (x = .non))) H) := by
  intro pins s σ H x y v u Q I rx ry h
  obtain ⟨rfl, q⟩ := h
  cases ry
  refine isnot_none_gen (fin_bl I q ?_)
  cases x <;> first
    | (cases rx; rfl)
    | (obtain ⟨t, rfl⟩ := rx; rfl)
theorem OpR.or {f : Value → Value → Sem Value} {r r' : R2} (h : OpR X f r) (h' : OpR X f r') : OpR X f (fun x y H Q => r x y H Q ∨ r' x y H Q) := by
  intro pins s σ H x y v u Q I rx ry q
  rcases q with q | q
  · exact h pins s σ H x y v u Q I rx ry q
  · exact h' pins s σ H x y v u Q I rx ry q
theorem nomark (b : Expr) {op : CmpOp} (h : op ≠ .In := by decide) (h2 : op ≠ .NotIn := by decide) : behindInMarks op b = false := by
  have e1 : (op == CmpOp.In) = false := by cases op <;> first | rfl | exact absurd rfl h
  have e2 : (op == CmpOp.NotIn) = false := by cases op <;> first | rfl | exact absurd rfl h2
  cases b <;> simp [behindInMarks, e1, e2]
theorem pe_cmpR {op : CmpOp} {r : R2} (ho : OpR X (compareOp op) r) (ha : PE X a ta) (hb : PE X b tb) (hm : behindInMarks op b = false) : PE X (.Compare a [op] [b] pos) (tOp r ta tb) := by
  intro pins s σ H Q I h
  exact wpAny_Compare1 (binT ha hb I h fun v u s2 x y H2 I2 rx ry q => ho pins s2 σ H2 x y v u Q I2 rx ry q) hm
def tTest (t : TE) : TT := fun σ H Q => t σ H fun x H' => ∃ k, x = .bl k ∧ Q k H'
theorem pt_cmpR {op : CmpOp} {r : R2} (ho : OpR X (compareOp op) r) (ha : PE X a ta) (hb : PE X b tb) (hm : behindInMarks op b = false) : PT X (.Compare a [op] [b] pos) (tTest (tOp r ta tb)) := by
  intro pins s σ H Q I h
  refine wpAny_isTrue_Compare1 (thn (ha pins s σ H _ I h) fun v s1 ⟨x, H1, I1, r1, q1⟩ => thn (hb pins s1 σ H1 _ I1 q1) fun u s2 ⟨y, H2, I2, r2, q2⟩ =>
    thn (ho pins s2 σ H2 x y v u _ I2 r1 r2 q2) fun c s3 ⟨z, H3, I3, r3, k, e, q3⟩ => ?_) hm
  subst e
  cases r3
  exact wpAny_truthy_bool ⟨H3, I3, q3⟩
def tChain (r r' : R2) (ta tb tc : TE) : TE := fun σ H Q => ta σ H fun x H1 => tb σ H1 fun y H2 => r x y H2 fun z H3 => ∃ k, z = .bl k ∧
  (if k = true then tc σ H3 fun w' H4 => r' y w' H4 Q else Q (.bl false) H3)
theorem pe_chain {op op' : CmpOp} {r r' : R2} (ho : OpR X (compareOp op) r) (ho' : OpR X (compareOp op') r') (ha : PE X a ta) (hb : PE X b tb) (hc : PE X c tc)
    (hm : lastMarks [op, op'] [b, c] = false := by with_unfolding_all rfl) : PE X (.Compare a [op, op'] [b, c] pos) (tChain r r' ta tb tc) := by
  intro pins s σ H Q I h
  refine Compare_chain (thn (ha pins s σ H _ I h) fun v s1 ⟨x, H1, I1, r1, q1⟩ => chain_link (thn (hb pins s1 σ H1 _ I1 q1) fun u s2 ⟨y, H2, I2, r2, q2⟩ =>
    thn (ho pins s2 σ H2 x y v u _ I2 r1 r2 q2) fun d s3 ⟨z, H3, I3, r3, k, e, q3⟩ => ?_)) hm
  subst e
  cases r3
  refine wpAny_truthy_bool ?_
  cases k with
  | false => exact ite_ff ⟨.bl false, H3, I3, rfl, q3⟩
  | true => exact ite_tt (chain_last (thn (hc pins s3 σ H3 _ I3 q3) fun w' s4 ⟨z', H4, I4, r4, q4⟩ => ho' pins s4 σ H4 y z' u w' Q I4 r2 r4 q4))
def TruV (K : PySem.W.Frag) (x : V) (H : Hp) (k : Bool) : Prop :=
  match x with
  | .non => k = false
  | .bl b => k = b
  | .int i => k = (i != 0)
  | .str y => y.length ≤ sizeLine ∧ k = ((y.length : Int) != 0)
  | .byt y => y.size ≤ sizeLine ∧ k = ((y.size : Int) != 0)
  | .ref p => (∃ xs, SqL K H p xs ∧ k = !xs.isEmpty) ∨ (∃ xs, SqT K H p xs ∧ k = !xs.isEmpty) ∨ ∃ kvs, H p = some (.dK kvs) ∧ k = !kvs.isEmpty
  | _ => False
theorem isEmpty_kv {κ : Type} {kvs : List (κ × V)} {vs : List (κ × Value)} (r : KV kvs vs) : (!vs.isEmpty) = !kvs.isEmpty := by
  cases r <;> rfl
theorem isEmpty_of {xs : List V} {its : List Value} (r : Vals xs its) : (!its.toArray.isEmpty) = !xs.isEmpty := by
  cases r <;> simp
theorem line63 : (sizeLine : Nat) < 2 ^ 63 := by rw [sizeLine_eq]; decide
theorem tru_ok : TruR X (fun x H Q => ∃ k, TruV X.K x H k ∧ Q k H) := by
  intro pins s σ H x v Q I rx h
  obtain ⟨k, e, q⟩ := h
  have hl := line63
  have hs : sizeLine = 16777216 := sizeLine_eq
  cases x with
  | non =>
    cases rx
    have e' : k = false := e
    subst e'
    exact truthy_none ⟨H, I, q⟩
  | bl b =>
    cases rx
    have e' : k = b := e
    subst e'
    exact wpAny_truthy_bool ⟨H, I, q⟩
  | int i =>
    obtain ⟨t, rfl⟩ := rx
    have e' : k = (i != 0) := e
    subst e'
    exact PySem.P.truthy_int ⟨H, I, q⟩
  | str y =>
    obtain ⟨t, rfl⟩ := rx
    obtain ⟨hy, e'⟩ : y.length ≤ sizeLine ∧ k = ((y.length : Int) != 0) := e
    subst e'
    exact PySem.P.truthy_str (by omega) ⟨H, I.tok _, q⟩
  | byt y =>
    obtain ⟨t, rfl⟩ := rx
    obtain ⟨hy, e'⟩ : y.size ≤ sizeLine ∧ k = ((y.size : Int) != 0) := e
    subst e'
    exact PySem.W.truthy_bytes (by omega) ⟨H, I.tok _, q⟩
  | ref p =>
    cases rx
    have e' : (∃ xs, SqL X.K H p xs ∧ k = !xs.isEmpty) ∨ (∃ xs, SqT X.K H p xs ∧ k = !xs.isEmpty) ∨ ∃ kvs, H p = some (.dK kvs) ∧ k = !kvs.isEmpty := e
    rcases e' with ⟨xs, hx, e'⟩ | ⟨xs, hx, e'⟩ | ⟨kvs, hx, e'⟩
    · subst e'
      obtain ⟨its, r, pl, hz⟩ := I.list hx
      have hlen := r.length
      exact wpAny_truthy_list pl.isList (by simp only [List.size_toArray]; omega) ⟨H, I.tok _, by rw [isEmpty_of r]; exact q⟩
    · subst e'
      obtain ⟨its, r, pl, hz⟩ := I.tuple hx
      have hlen := r.length
      exact truthy_tuple pl (by simp only [List.size_toArray]; omega) ⟨H, I.tok _, by rw [isEmpty_of r]; exact q⟩
    · subst e'
      obtain ⟨hz, hS, vs, r, m⟩ : kvs.length ≤ sizeLine ∧ (p == sysModules) = false ∧ ∃ vs, KV kvs vs ∧ s.heap.DictOf (mixKind X.prog X.w) p vs := I.hok p _ hx
      have hlen : kvs.length = vs.length := Paired.length r
      exact wpAny_truthy_dict hS m (by omega) ⟨H, I.tok _, by rw [isEmpty_kv r]; exact q⟩
  | _ => exact (show False from e).elim
theorem vals1 {x : V} {us : List Value} (r : Vals [x] us) : ∃ u, us = [u] ∧ RelV x u := by
  cases r with
  | cons r1 r2 => cases r2; exact ⟨_, rfl, r1⟩
theorem vals2 {x y : V} {us : List Value} (r : Vals [x, y] us) : ∃ u w', us = [u, w'] ∧ RelV x u ∧ RelV y w' := by
  cases r with
  | cons r1 r2 =>
    cases r2 with
    | cons r3 r4 => cases r4; exact ⟨_, _, rfl, r1, r3⟩
theorem call_abs : CallR X (.builtin "abs") (fun xs H Q => ∃ i, xs = [.int i] ∧ Q (.int (if i < 0 then -i else i)) H) := by
  intro pins s σ H xs us Q I r h
  obtain ⟨i, rfl, q⟩ := h
  obtain ⟨u, rfl, t, rfl⟩ := vals1 r
  exact call_abs_int fun u tk => ⟨.int (if i < 0 then -i else i), H, I.tok _, ⟨_, rfl⟩, q⟩
theorem call_max2 (hc : X.calm = true) : CallR X (.builtin "max") (fun xs H Q => ∃ i j, xs = [.int i, .int j] ∧ Q (.int (if j > i then j else i)) H) := by
  intro pins s σ H xs us Q I r h
  obtain ⟨i, j, rfl, q⟩ := h
  obtain ⟨u, w', rfl, ⟨t, rfl⟩, ⟨t', rfl⟩⟩ := vals2 r
  refine max_two_ints (I.ok.hd hc) fun h' tk k => ⟨_, H, I.kept k, ?_, q⟩
  by_cases hj : j > i
  · rw [if_pos hj, if_pos hj]; exact ⟨_, rfl⟩
  · rw [if_neg hj, if_neg hj]; exact ⟨_, rfl⟩
theorem call_min2 (hc : X.calm = true) : CallR X (.builtin "min") (fun xs H Q => ∃ i j, xs = [.int i, .int j] ∧ Q (.int (if j < i then j else i)) H) := by
  intro pins s σ H xs us Q I r h
  obtain ⟨i, j, rfl, q⟩ := h
  obtain ⟨u, w', rfl, ⟨t, rfl⟩, ⟨t', rfl⟩⟩ := vals2 r
  refine min_two_ints (I.ok.hd hc) fun h' tk k => ⟨_, H, I.kept k, ?_, q⟩
  by_cases hj : j < i
  · rw [if_pos hj, if_pos hj]; exact ⟨_, rfl⟩
  · rw [if_neg hj, if_neg hj]; exact ⟨_, rfl⟩
theorem call_int1 : CallR X (.type "int") (fun xs H Q => (∃ i, xs = [.int i] ∧ Q (.int i) H) ∨ ∃ k, xs = [.bl k] ∧ Q (.int (if k then 1 else 0)) H) := by
  intro pins s σ H xs us Q I r h
  rcases h with ⟨i, rfl, q⟩ | ⟨k, rfl, q⟩
  · obtain ⟨u, rfl, t, rfl⟩ := vals1 r
    exact call_int_int ⟨.int i, H, I, ⟨_, rfl⟩, q⟩
  · obtain ⟨u, rfl, r1⟩ := vals1 r
    cases r1
    exact call_int_bool ⟨.int (if k then 1 else 0), H, I.tok _, ⟨_, rfl⟩, q⟩
def LenV (K : PySem.W.Frag) (x : V) (H : Hp) (n : Nat) : Prop :=
  match x with
  | .str y => y.length ≤ sizeLine ∧ n = y.length
  | .byt y => y.size ≤ sizeLine ∧ n = y.size
  | .ref p => (∃ xs, SqL K H p xs ∧ n = xs.length) ∨ ∃ xs, SqT K H p xs ∧ n = xs.length
  | _ => False
theorem call_len : CallR X (.builtin "len") (fun xs H Q => ∃ x n, xs = [x] ∧ LenV X.K x H n ∧ Q (.int n) H) := by
  intro pins s σ H xs us Q I r h
  obtain ⟨x, n, rfl, e, q⟩ := h
  obtain ⟨u, rfl, rx⟩ := vals1 r
  have hl := line63
  have hs : sizeLine = 16777216 := sizeLine_eq
  cases x with
  | str y =>
    obtain ⟨t, rfl⟩ := rx
    obtain ⟨hy, e'⟩ : y.length ≤ sizeLine ∧ n = y.length := e
    subst e'
    exact len_str (by omega) ⟨.int _, H, I.tok _, ⟨_, rfl⟩, q⟩
  | byt y =>
    obtain ⟨t, rfl⟩ := rx
    obtain ⟨hy, e'⟩ : y.size ≤ sizeLine ∧ n = y.size := e
    subst e'
    exact PySem.W.len_bytes (by omega) ⟨.int _, H, I.tok _, ⟨_, rfl⟩, q⟩
  | ref p =>
    cases rx
    have e' : (∃ xs, SqL X.K H p xs ∧ n = xs.length) ∨ ∃ xs, SqT X.K H p xs ∧ n = xs.length := e
    rcases e' with ⟨xs, hx, e'⟩ | ⟨xs, hx, e'⟩
    · subst e'
      obtain ⟨its, r', pl, hz⟩ := I.list hx
      have hlen := r'.length
      exact Calls.call_len_list pl.isList (by simp only [List.size_toArray]; omega) ⟨.int xs.length, H, I.tok _, ⟨_, by simp only [List.size_toArray]; rw [hlen]⟩, q⟩
    · subst e'
      obtain ⟨its, r', pl, hz⟩ := I.tuple hx
      have hlen := r'.length
      exact len_tuple pl (by simp only [List.size_toArray]; omega) ⟨.int xs.length, H, I.tok _, ⟨_, by simp only [List.size_toArray]; rw [hlen]⟩, q⟩
  | _ => exact (show False from e).elim
end
end L2
namespace L2
open PySem PySem.Spec PyProof.Rows
structure ObjM (h : Heap) (x dx C : Addr) (mA : Str → Option Value) : Prop where
  obj : h.get? x = some (PySem.W.instObj C dx)
  ns : h.Ns1 dx mA
  ne : dx ≠ x
theorem lookIn_ns {h : Heap} {dx : Addr} {mA : Str → Option Value} (n : h.Ns1 dx mA) : ∃ od, h.get? dx = some od ∧ ∀ name, PySem.W.lookIn name od = some (mA name) := by
  obtain ⟨o, es, ep, ho, hd, hk, _, hm⟩ := n
  refine ⟨o, ho, fun name => ?_⟩
  have e := hm name
  unfold nsFind findBy at e
  rw [← Array.find?_toList] at e
  unfold PySem.W.lookIn
  rw [hd]
  dsimp only
  split
  · rename_i y q
    rw [q] at e
    exact congrArg some e
  · rename_i q
    rw [q] at e
    have a : es.toList.any (·.refKey) = false := by
      rw [List.any_eq_false]
      intro y hy
      obtain ⟨z, t, hkey⟩ := hk y (Array.mem_toList_iff.mp hy)
      simp [DictEntry.refKey, hkey]
    have a' : ¬ es.toList.any (·.refKey) = true := by rw [a]; exact Bool.false_ne_true
    rw [if_neg a']
    exact congrArg some e
theorem ObjM.look {h : Heap} {x dx C : Addr} {mA : Str → Option Value} (I : ObjM h x dx C mA) : ∃ od, PySem.W.InstAt h x (PySem.W.instObj C dx) C (some od) ∧ ∀ name, PySem.W.lookIn name od = some (mA name) :=
  let ⟨od, ho, hl⟩ := lookIn_ns I.ns
  ⟨od, ⟨I.obj, rfl, rfl, ho⟩, hl⟩
section
variable {P : Program} {w : World} {H H' : Hp} {h h' : Heap} {a C dx : Addr} {fs fs' : List (Str × V)}
theorem ins_get (hok : HOk P w H h) (e : H a = some (.ins C dx fs)) : ∃ mA, ObjM h a dx C mA ∧ (∀ f, RelO (fs.lookup f) (mA f)) ∧ PySem.Within mA (fs.map (·.1)) ∧ fs.length ≤ 1000 ∧ H dx = some (.own a) := by
  obtain ⟨d, z, ne, ob, mA, n, r, q⟩ := (show ObjOk P w H h a (.ins C dx fs) from hok a _ e)
  exact ⟨mA, ⟨ob, n, ne⟩, r, q, z, d⟩
end
structure Cls (K : PySem.W.Frag) (C : Addr) : Prop where
  pg : PySem.W.plainGet K C Str.empty = true
  hd : PySem.W.hasDictIn K C = true
  po : PySem.W.plainOver K C = true
  sa : PySem.W.findIn K (.ref C) "__setattr__" = some (some (.builtin "object.__setattr__"))
theorem Cls.get {K : PySem.W.Frag} {C : Addr} (c : Cls K C) (f : Str) : PySem.W.plainGet K C f = true := c.pg
section
variable {X : Cx} {pins : List (Addr × Obj)} {σ : St} {H : Hp} {s : Shared} {A : Around} {E : Value → Shared → Prop} {Q : Value → Shared → Prop} {c : Value} {b : Bool}
inductive TyOf (K : PySem.W.Frag) (H : Hp) : V → Value → Prop where
  | non : TyOf K H .non (.type "NoneType")
  | bl (x : Bool) : TyOf K H (.bl x) (.type "bool")
  | int (i : Int) : TyOf K H (.int i) (.type "int")
  | str (x : Str) : TyOf K H (.str x) (.type "str")
  | flt (x : UInt64) : TyOf K H (.flt x) (.type "float")
  | lst {a : Addr} {xs : List V} (e : H a = some (.lst xs)) : TyOf K H (.ref a) (.type "list")
  | frz {a : Addr} {o : Obj} {xs : List V} (e : H a = some (.frz o (.lst xs))) : TyOf K H (.ref a) (.type "list")
  | tup {a : Addr} {xs : List V} (e : H a = some (.tup xs)) : TyOf K H (.ref a) (.type "tuple")
  | dK {a : Addr} {kvs : List (Key × V)} (e : H a = some (.dK kvs)) : TyOf K H (.ref a) (.type "dict")
  | dT {a : Addr} {kvs : List (List Key × V)} (e : H a = some (.dT kvs)) : TyOf K H (.ref a) (.type "dict")
  | ins {a C dx : Addr} {fs : List (Str × V)} (e : H a = some (.ins C dx fs)) (cl : Cls K C) (ha : PySem.W.findIn K (.ref C) "__class__" = some (some (.builtin "object.__class__")))
      (hn : PySem.W.specialIn K (.builtin "object.__class__") "__get__" = some (some (.builtin "getset_descriptor.__get__"))) (htk : PySem.W.takesIn K (.builtin "object.__class__") = some true)
      (hm : PySem.W.mroIn K C (.type "object") = some true) : TyOf K H (.ref a) (.ref C)
theorem isinst_ok {x : V} {u t : Value} (I : Inv X pins σ H s) (rx : RelV x u) (ty : TyOf X.K H x t) (e : PySem.W.kitOne X.K t c = some b) (h : ∀ tk, Q (.bool b) { s with toks := tk }) :
    wpAny (model X.prog X.w) A (call (.builtin "isinstance") [u, c]) Q E s := by
  cases ty with
  | non => cases (show u = Value.none from rx); exact PySem.W.kia_one PySem.W.kitx_none I.kIn True.intro e (fun z => nomatch z) h
  | bl y => cases (show u = Value.bool y from rx); exact PySem.W.kia_one PySem.W.kitx_bool I.kIn True.intro e (fun z => nomatch z) h
  | int i => obtain ⟨t, q⟩ := (show ∃ t, u = Value.int i t from rx); cases q; exact PySem.W.kia_one PySem.W.kitx_int I.kIn True.intro e (fun z => nomatch z) h
  | str y => obtain ⟨t, q⟩ := (show ∃ t, u = Value.str y t from rx); cases q; exact PySem.W.kia_one PySem.W.kitx_str I.kIn True.intro e (fun z => nomatch z) h
  | flt y => obtain ⟨t, q⟩ := (show ∃ t, u = Value.float y t from rx); cases q; exact PySem.W.kia_one PySem.W.kitx_float I.kIn True.intro e (fun z => nomatch z) h
  | @lst a xs ea =>
    cases (show u = Value.ref a from rx)
    obtain ⟨_, _, n, _, h1⟩ := (show ObjOk X.prog X.w H s.heap a (.lst xs) from I.hok a _ ea)
    exact PySem.W.kia_one PySem.W.kitx_list I.kIn ⟨_, h1, rfl⟩ e (fun z => nomatch z) h
  | @frz a ob xs ea =>
    cases (show u = Value.ref a from rx)
    obtain ⟨_, _, _, n, _, h1⟩ := (show ObjOk X.prog X.w H s.heap a (.frz ob (.lst xs)) from I.hok a _ ea)
    exact PySem.W.kia_one PySem.W.kitx_list I.kIn ⟨_, h1, rfl⟩ e (fun z => nomatch z) h
  | @tup a xs ea =>
    cases (show u = Value.ref a from rx)
    obtain ⟨_, _, _, p⟩ := (show ObjOk X.prog X.w H s.heap a (.tup xs) from I.hok a _ ea)
    obtain ⟨o, h1, h2, _⟩ := p
    exact PySem.W.kia_one PySem.W.kitx_tuple I.kIn ⟨o, h1, h2⟩ e (fun z => nomatch z) h
  | @dK a kvs ea =>
    cases (show u = Value.ref a from rx)
    obtain ⟨_, _, vs, _, p⟩ := (show ObjOk X.prog X.w H s.heap a (.dK kvs) from I.hok a _ ea)
    obtain ⟨o, es, ep, h1, h2, _⟩ := p
    exact PySem.W.kia_one PySem.W.kitx_dict I.kIn ⟨o, h1, h2.1⟩ e (fun z => nomatch z) h
  | @dT a kvs ea =>
    cases (show u = Value.ref a from rx)
    obtain ⟨_, _, xs, _, o, es, ep, h1, h2, _⟩ := (show ObjOk X.prog X.w H s.heap a (.dT kvs) from I.hok a _ ea)
    exact PySem.W.kia_one PySem.W.kitx_dict I.kIn ⟨o, h1, h2.1⟩ e (fun z => nomatch z) h
  | @ins a C dx fs ea cl ha hn htk hm =>
    cases (show u = Value.ref a from rx)
    obtain ⟨mA, O, _⟩ := ins_get I.hok ea
    obtain ⟨od, J, _⟩ := O.look
    exact PySem.W.kia_one (PySem.W.kitx_own (cl.get _) cl.hd ha hn htk hm) I.kIn J e (fun z => nomatch z) h
end
end L2
namespace L2
open PySem PySem.Spec PyProof.Rows
structure Room (k : Nat) (A : Around) : Prop where
  hd : A.handled = none
  dp : A.depth + 3 * k + 5 < recursionLimit
  un : A.units + 16 * k + 200 < cLine
theorem Room.mono {j k : Nat} {A : Around} (r : Room k A) (h : j ≤ k) : Room j A := ⟨r.hd, by have := r.dp; omega, by have := r.un; omega⟩
theorem Room.deeper {k : Nat} {A : Around} (r : Room (k + 1) A) (env : Env) : Room k (A.deeper env) :=
  ⟨r.hd, by have := r.dp; show A.depth + 1 + 3 * k + 5 < _; omega, by have := r.un; show A.units + 3 + 16 * k + 200 < _; omega⟩
theorem Room.depth {k : Nat} {A : Around} (r : Room k A) : A.depth < recursionLimit := by have := r.dp; omega
theorem Room.units {k : Nat} {A : Around} (r : Room k A) : A.units + 64 < cLine := by have := r.un; omega
def tNil : TA := fun _ H Q => Q [] H
def tCons (ta : TE) (tr : TA) : TA := fun σ H Q => ta σ H fun x H1 => tr σ H1 fun xs H2 => Q (x :: xs) H2
section
variable {X : Cx} {e : Expr} {es : List Expr} {te : TE} {t : TA} {pos : Pos}
theorem pa_nil : PA X [] tNil := fun _ _ _ _ H Q I h => Calls.spliced_nil ⟨[], H, I, .nil, h⟩
theorem pa_cons (ha : PE X e te) (hr : PA X es t) (hs : starEach (e :: es) X.env = (false, eval e X.env) :: starEach es X.env := by rfl) : PA X (e :: es) (tCons te t) := by
  intro pos pins s σ H Q I h
  rw [hs]
  show wpAny _ _ (spliced ((false, eval e X.env) :: backTo pos (starEach es X.env))) _ _ s
  refine Calls.spliced_cons (thn (ha pins s σ H _ I h) fun u s1 ⟨x, H1, I1, r1, q1⟩ => ?_)
  exact thn (hr pos pins s1 σ H1 _ I1 q1) fun us s2 ⟨xs, H2, I2, r2, q2⟩ => ⟨x :: xs, H2, I2, .cons r1 r2, q2⟩
def tTup (t : TA) : TE := fun σ H Q => t σ H fun xs H1 => xs.length ≤ sizeLine ∧ ∀ p, H1 p = none → Q (.ref p) (upd H1 p (.tup xs))
def tLst (t : TA) : TE := fun σ H Q => t σ H fun xs H1 => xs.length ≤ sizeLine ∧ ∀ p, H1 p = none → Q (.ref p) (upd H1 p (.lst xs))
theorem pe_tup {x1} (h : PA X es t) : PE X (.Tuple es x1 pos) (tTup t) := by
  intro pins s σ H Q I hq
  refine wpAny_Tuple_spliced (thn (h pos pins s σ H _ I hq) fun us s1 ⟨xs, H1, I1, r, z, q⟩ => ⟨by rw [← r.length]; exact z, ?_⟩)
  have hf : H1 s1.heap.objs.size = none := I1.hok.fresh (Nat.le_refl _)
  refine ⟨.ref s1.heap.objs.size, upd H1 s1.heap.objs.size (.tup xs), I1.laid (t' := s1.toks) (fun b u e => Heap.get?_push_of_some _ e) (Nat.le_refl _) ?_, rfl, q _ hf⟩
  exact ⟨z, us, r, ⟨_, Heap.get?_push_size _ rfl, rfl, _, rfl⟩⟩
theorem pe_lst (h : PA X es t) : PE X (.List es pos) (tLst t) := by
  intro pins s σ H Q I hq
  refine wpAny_List_spliced (thn (h pos pins s σ H _ I hq) fun us s1 ⟨xs, H1, I1, r, z, q⟩ => ⟨by rw [← r.length]; exact z, ?_⟩)
  have hf : H1 s1.heap.objs.size = none := I1.hok.fresh (Nat.le_refl _)
  refine ⟨.ref s1.heap.objs.size, upd H1 s1.heap.objs.size (.lst xs), I1.laid (t' := s1.toks) (fun b u e => Heap.get?_push_of_some _ e) (Nat.le_refl _) ?_, rfl, q _ hf⟩
  exact ⟨z, us, 0, r, Heap.get?_push_size _ rfl⟩
end
abbrev Sp := List V → Hp → VK → XK → Prop
abbrev CXT := List Env → Hp → Shared → XK → Value → Shared → Prop
structure Env0 (P : Program) (w : World) (K : PySem.W.Frag) (mg : Str → Option Value) (base : Heap) (A : Around) (outer : List Env) (s : Shared) (H : Hp) : Prop where
  frames : A.frames = some outer
  mod : Mod K mg base
  bs : ∀ b o, base.get? b = some o → s.heap.get? b = some o ∧ H b = none
  bsz : base.objs.size ≤ s.heap.objs.size
  funs : s.heap.FunFrames base outer
  frf : ∀ b ∈ frs outer, H b = none
  hok : HOk P w H s.heap
  bare : AllBare s.gens
def CE (outer : List Env) (P : Program) (w : World) (H : Hp) (s : Shared) (Q : VK) (u : Value) (s' : Shared) : Prop :=
  ∃ v H', s'.os = s.os ∧ AllBare s'.gens ∧ Un (frs outer) [] H H' s.heap s'.heap ∧ HOk P w H' s'.heap ∧ RelV v u ∧ Q v H'
def CR (CX : CXT) (outer : List Env) (P : Program) (w : World) (H : Hp) (s : Shared) (Q : VK) (E : XK) (r : Result) (s' : Shared) : Prop :=
  match r with
  | .ok (.ret u) => CE outer P w H s Q u s'
  | .ok _ => False
  | .error e => CX outer H s E e s'
structure FnOk (P : Program) (w : World) (K : PySem.W.Frag) (mg : Str → Option Value) (base : Heap) (CX : CXT) (k : Nat) (f : Addr) (fd : FuncData) (ps : List Str) (sp : Sp) : Prop where
  len : ∀ vs H Q E, sp vs H Q E → vs.length = ps.length
  run : ∀ (A : Around) (outer : List Env) (s : Shared) (H : Hp) (args : Args) (us : List Value) (vs : List V) (Q : VK) (E : XK), Room k A → Env0 P w K mg base A outer s H → BindsTo s fd args (ps.zip us) → Vals vs us → sp vs H Q E →
    codeAny (model P w) A (.call (.ref f) args) (CR CX outer P w H s Q E) s
section
variable {X : Cx} {pins : List (Addr × Obj)} {σ : St} {H : Hp} {s s' : Shared}
theorem Inv.env0 (I : Inv X pins σ H s) : Env0 X.prog X.w X.K X.mg X.base X.A X.stack s H :=
  ⟨I.ok.frames, I.ok.mod, I.bs, Nat.le_trans I.ok.bsz I.sz, I.stack, I.stkFree, I.hok, I.bare⟩
theorem Inv.after {Q : VK} {u : Value} (I : Inv X pins σ H s) (h : CE X.stack X.prog X.w H s Q u s') : EP X pins σ Q u s' := by
  obtain ⟨v, H', os, bare, un, hok, r, q⟩ := h
  obtain ⟨hh, g, d, t, os'⟩ := s'
  obtain rfl : os' = s.os := os
  exact ⟨v, H', I.call (h' := hh) (g' := g) (d' := d) (t' := t) (ch := []) un hok bare (fun b z => absurd z (by simp)), r, q⟩
end
def tCall (sp : Sp) (dvs : List V) (E : XK) (t : TA) : TE := fun σ H Q => t σ H fun vs H1 => sp (vs ++ dvs) H1 Q E
def Binds (K : PySem.W.Frag) (fd : FuncData) (ps : List Str) (ds : List Value) : Prop :=
  ∀ (s : Shared) (us : List Value), K.In s.heap → (us ++ ds).length = ps.length → BindsTo s fd ⟨us, []⟩ (ps.zip (us ++ ds))
theorem Binds.all {K : PySem.W.Frag} {fd : FuncData} {ps : List Str} (h : ∀ us : List Value, us.length = ps.length → bindArgs fd ⟨us, []⟩ = pure (ps.zip us)) : Binds K fd ps [] := fun s us _ hl => by
  rw [List.append_nil] at hl ⊢
  exact .of_eq (h us hl)
def Passes (CX : CXT) (X : Cx) (E : XK) : Prop := ∀ (pins : List (Addr × Obj)) (σ : St) (H : Hp) (s : Shared) (e : Value) (s' : Shared), Inv X pins σ H s → CX X.stack H s E e s' → X.xe e s'
section
variable {X : Cx} {CX : CXT} {k : Nat} {f C : Addr} {fd : FuncData} {ps : List Str} {sp : Sp} {dvs : List V} {ds : List Value} {E : XK} {x m : Str} {p pos apos : Pos} {e o : Expr} {es : List Expr} {ta : TE} {t : TA}
theorem run_fn {pins : List (Addr × Obj)} {σ : St} {H : Hp} {s : Shared} {Q : VK} {us : List Value} {vs : List V} (F : FnOk X.prog X.w X.K X.mg X.base CX k f fd ps sp) (hr : Room k X.A) (hb : Binds X.K fd ps ds) (hd : Vals dvs ds) (hx : Passes CX X E)
    (I : Inv X pins σ H s) (r : Vals vs us) (h : sp (vs ++ dvs) H Q E) : wpAny (model X.prog X.w) X.A (call (.ref f) us) (EP X pins σ Q) X.xe s := by
  have r2 : Vals (vs ++ dvs) (us ++ ds) := r.append hd
  have hl : (us ++ ds).length = ps.length := by rw [← r2.length]; exact F.len _ _ _ _ h
  refine wpAny_call (codeAny_mono (F.run X.A X.stack s H ⟨us, []⟩ (us ++ ds) (vs ++ dvs) Q E hr I.env0 (hb s us I.kIn hl) r2 h) fun r s' hq => ?_)
  cases r with
  | error e => exact hx pins σ H s e s' I hq
  | ok fl =>
    cases fl with
    | ret u => exact I.after hq
    | next => exact False.elim hq
    | brk => exact False.elim hq
    | cont => exact False.elim hq
theorem pe_call (F : FnOk X.prog X.w X.K X.mg X.base CX k f fd ps sp) (hr : Room k X.A) (hg : Gl X x) (hm : X.mg x = some (.ref f)) (hk : PySem.W.keepIn X.K (.ref f) = true) (hb : Binds X.K fd ps ds) (hd : Vals dvs ds) (hx : Passes CX X E)
    (ha : PA X (e :: es) t) (hdb : (x == ("__debug__" : Str)) = false := by decide) (he : starEach (e :: es) X.env = (false, eval e X.env) :: starEach es X.env := by rfl) (hpl : (backTo pos (starEach es X.env)).any (·.1) = false := by rfl) :
    PE X (.Call (.Name x p) (e :: es) [] pos) (tCall sp dvs E t) := by
  intro pins s σ H Q I h
  refine wpAny_Call_Name_kw (ld_glob I hg hm ?_ hdb)
  refine PySem.W.callWith_K (h₀ := X.base) I.ok.mod.kin hk (thn (ha pos pins s σ H _ I h) fun us s1 ⟨vs, H1, I1, r, q⟩ => ⟨I1.kIn, ?_⟩) he hpl
  exact run_fn F hr hb hd hx I1 r q
end
structure FnScope (N P : List Str) (sc : Scope) : Prop where
  kind : sc.kind = .function
  co : sc.isCoroutine = false
  gen : sc.isGenerator = false
  nd : N.Nodup
  pre : N.take P.length = P
  par : ∀ x ∈ P, sc.names.lookup x = some .local ∨ sc.names.lookup x = some .cell
  nofree : ∀ y ∈ sc.names, y.2 ≠ .free
theorem bindL_out {kindOf : Str → Option NameKind} {x : Str} : ∀ {binds : List (Str × Value)} {m : Str → Option Value}, (∀ v, (x, v) ∉ binds) → bindL kindOf binds m x = m x
  | [], _, _ => rfl
  | (n, v) :: r, m, h => by
    unfold bindL
    rw [bindL_out fun w hw => h w (List.mem_cons_of_mem _ hw)]
    split
    · have : x ≠ n := by rintro rfl; exact h v List.mem_cons_self
      simp [this]
    · rfl
theorem bindC_out {kindOf : Str → Option NameKind} {x : Str} : ∀ {binds : List (Str × Value)} {m : Str → Option Value}, (∀ v, (x, v) ∉ binds) → bindC kindOf binds m x = m x
  | [], _, _ => rfl
  | (n, v) :: r, m, h => by
    unfold bindC
    rw [bindC_out fun w hw => h w (List.mem_cons_of_mem _ hw)]
    split
    · rfl
    · have : x ≠ n := by rintro rfl; exact h v List.mem_cons_self
      simp [this]
theorem bindL_get {kindOf : Str → Option NameKind} {x : Str} {v : Value} : ∀ {P : List Str} {vs : List Value} {i : Nat} {m : Str → Option Value}, P.Nodup → P[i]? = some x → vs[i]? = some v → kindOf x = some .local →
    bindL kindOf (P.zip vs) m x = some v
  | [], _, _, _, _, h, _, _ => by simp at h
  | _ :: _, [], _, _, _, _, h, _ => by simp at h
  | p :: P, w :: vs, 0, m, nd, h1, h2, hk => by
    simp at h1 h2; subst h1; subst h2
    show bindL kindOf ((p, w) :: P.zip vs) m p = _
    unfold bindL
    rw [bindL_out fun v hv => (List.nodup_cons.mp nd).1 (List.of_mem_zip hv).1, if_pos hk]
    simp
  | p :: P, w :: vs, i + 1, m, nd, h1, h2, hk => by
    show bindL kindOf ((p, w) :: P.zip vs) m x = _
    unfold bindL
    exact bindL_get (i := i) (List.nodup_cons.mp nd).2 (by simpa using h1) (by simpa using h2) hk
theorem bindC_get {kindOf : Str → Option NameKind} {x : Str} {v : Value} : ∀ {P : List Str} {vs : List Value} {i : Nat} {m : Str → Option Value}, P.Nodup → P[i]? = some x → vs[i]? = some v → kindOf x ≠ some .local →
    bindC kindOf (P.zip vs) m x = some v
  | [], _, _, _, _, h, _, _ => by simp at h
  | _ :: _, [], _, _, _, _, h, _ => by simp at h
  | p :: P, w :: vs, 0, m, nd, h1, h2, hk => by
    simp at h1 h2; subst h1; subst h2
    show bindC kindOf ((p, w) :: P.zip vs) m p = _
    unfold bindC
    rw [bindC_out fun v hv => (List.nodup_cons.mp nd).1 (List.of_mem_zip hv).1, if_neg hk]
    simp
  | p :: P, w :: vs, i + 1, m, nd, h1, h2, hk => by
    show bindC kindOf ((p, w) :: P.zip vs) m x = _
    unfold bindC
    exact bindC_get (i := i) (List.nodup_cons.mp nd).2 (by simpa using h1) (by simpa using h2) hk
def start (N : List Str) (vs : List V) : St := vs.map some ++ List.replicate (N.length - vs.length) none
def cxOf (CX : CXT) (P : Program) (w : World) (K : PySem.W.Frag) (mg : Str → Option Value) (base : Heap) (N : List Str) (qual : Str) (scope : Scope) (f : Addr) (cd : Value) (A : Around) (outer : List Env) (s : Shared) (H : Hp) (E : XK) : Cx where
  prog := P
  w := w
  K := K
  mg := mg
  base := base
  A := A.deeper (envOfC qual scope s.heap.objs.size f cd)
  N := N
  sZ := s
  HZ := H
  env := envOfC qual scope s.heap.objs.size f cd
  outer := outer
  stack := envOfC qual scope s.heap.objs.size f cd :: outer
  ex := []
  calm := true
  fn := fun _ => true
  pn := []
  xe := fun e s' => wpAny (model P w) (A.deeper (envOfC qual scope s.heap.objs.size f cd)) (leaving (envOfC qual scope s.heap.objs.size f cd) e) (fun _ s'' => CX outer H s E e s'') (fun e' s'' => CX outer H s E e' s'') s'
theorem cell_has {sc : Scope} {n : Nat} {x : Str} (h : sc.names.lookup x = some .cell) : ∃ c, (cellsFrom n sc.names []).lookup x = some c := by
  have q := PySem.W.cellsFrom_some sc.names n [] (.inl h)
  exact Option.isSome_iff_exists.mp q
theorem inv_start {CX : CXT} {P : Program} {w : World} {K : PySem.W.Frag} {mg : Str → Option Value} {base : Heap} {N ps : List Str} {qual : Str} {scope : Scope} {f : Addr} {cd : Value} {A : Around} {outer : List Env} {s s1 : Shared} {H : Hp} {E : XK} {us : List Value} {vs : List V}
    (S : FnScope N ps scope) (hd : A.handled = none) (e0 : Env0 P w K mg base A outer s H) (hl : vs.length = ps.length) (r : Vals vs us)
    (x : InCallC s s.heap.objs.size (bindL (envOfC qual scope s.heap.objs.size f cd).kindOf (ps.zip us) fun _ => none) (cellsFrom (s.heap.objs.size + 1) scope.names []) (bindC (envOfC qual scope s.heap.objs.size f cd).kindOf (ps.zip us) fun _ => none) s1) :
    Inv (cxOf CX P w K mg base N qual scope f cd A outer s H E) [] (start N vs) H s1 := by
  have hpl : ps.length ≤ N.length := by have := congrArg List.length S.pre; rw [List.length_take] at this; omega
  obtain ⟨h1, tk, rfl, hk⟩ := x.done
  have noA : ∀ b : Addr, b ∉ (cxOf CX P w K mg base N qual scope f cd A outer s H E).ex := fun b z => absurd (show b ∈ ([] : List Addr) from z) (by simp)
  refine ⟨⟨e0.mod, S.kind, rfl, rfl, Nat.le_refl _, fun y z c h1 h2 => ?_, fun y hy => ?_, fun y c _ h => ?_, fun _ => hd, Around.frames_deeper e0.frames, .inr ⟨rfl, rfl⟩, fun b z => absurd z (noA b), e0.bs, e0.bsz, fun b _ _ => noA b, fun b z => absurd z (noA b), e0.funs, e0.frf⟩,
    rfl, e0.bare, Un.kept hk, ⟨_, x.toInCall.ns, fun i y v h1 h2 h3 => ?_⟩, fun y c h => ⟨_, x.cell y c h⟩, e0.hok.fresh (Nat.le_refl _), fun y c h => ?_, fun p hp => absurd (show p ∈ ([] : List (Addr × Obj)) from hp) (by simp), e0.hok.kept hk, ?_⟩
  · exact name_of_addr x.apart (PySem.mem_of_lookup h1) (PySem.mem_of_lookup h2)
  · have hy : scope.names.lookup y = some .cell ∨ scope.names.lookup y = some .free := hy
    rcases hy with hy | hy
    · exact cell_has hy
    · exact absurd rfl (S.nofree _ (PySem.mem_of_lookup hy))
  · exact Nat.le_of_lt (x.above y c (PySem.mem_of_lookup h))
  · have hi : i < vs.length := by
      unfold start at h2
      by_cases hi : i < vs.length
      · exact hi
      · rw [List.getElem?_append_right (by simpa using hi)] at h2
        rw [List.getElem?_replicate] at h2
        split at h2 <;> cases h2
    have ha : vs[i]? = some v := by
      unfold start at h2
      rw [List.getElem?_append_left (by simpa using hi), List.getElem?_map] at h2
      cases e : vs[i]? with
      | none => rw [e] at h2; cases h2
      | some a => rw [e] at h2; cases h2; rfl
    obtain ⟨u, hu, rv⟩ := r.get ha
    have hp : ps[i]? = some y := by
      rw [← S.pre, List.getElem?_take_of_lt (by omega)]; exact h1
    have ndP : ps.Nodup := by rw [← S.pre]; exact S.nd.sublist (List.take_sublist _ _)
    refine ⟨u, rv, ?_⟩
    rcases S.par y (List.mem_of_getElem? hp) with k | k
    · exact .inl ⟨k, bindL_get ndP hp hu k⟩
    · obtain ⟨c, e⟩ := cell_has (n := s.heap.objs.size + 1) k
      refine .inr ⟨.inl k, c, e, ?_⟩
      have q := x.cell y c e
      rw [bindC_get ndP hp hu (by show scope.names.lookup y ≠ _; rw [k]; decide)] at q
      exact q
  · exact e0.hok.fresh (Nat.le_of_lt (x.above y c (PySem.mem_of_lookup h)))
  · unfold start
    show _ = N.length
    rw [List.length_append, List.length_map, List.length_replicate]
    omega
theorem fn_of {CX : CXT} {P : Program} {w : World} {K : PySem.W.Frag} {mg : Str → Option Value} {base : Heap} {k : Nat} {f : Addr} {name qual : Str} {params : Arguments} {body : List Stmt} {scope : Scope} {dV kV doc pm cdv ct oc : Value} {an od : Option Addr}
    {osl : Array (Option Value)} {N ps : List Str} {sp : Sp} (lk : K.lookup f = some ⟨oc, od, .func (PySem.W.fnOf name qual params body scope dV kV doc pm an cdv ct), osl⟩) (hcd : PySem.W.codeIn K cdv qual = true) (S : FnScope N ps scope)
    (len : ∀ vs H Q E, sp vs H Q E → vs.length = ps.length)
    (hbody : ∀ (A : Around) (outer : List Env) (s : Shared) (H : Hp) (vs : List V) (Q : VK) (E : XK), Room k (A.deeper (envOfC qual scope s.heap.objs.size f cdv)) → sp vs H Q E →
      ∃ t, PSs (cxOf CX P w K mg base N qual scope f cdv A outer s H E) body t ∧ t { nx := fun _ H' => Q .non H', rt := Q } (start N vs) H) :
    FnOk P w K mg base CX (k + 1) f (PySem.W.fnOf name qual params body scope dV kV doc pm an cdv ct) ps sp := by
  refine ⟨len, fun A outer s H args us vs Q E hr e0 hb r hsp => ?_⟩
  have hl := len _ _ _ _ hsp
  have KX : K.In s.heap := e0.mod.kin.keeps fun b o e => (e0.bs b o e).1
  have lim : s.heap.NoLimit := e0.mod.nolimit.keeps fun b o e => (e0.bs b o e).1
  have hkind : ∀ y ∈ ps.zip us, scope.names.lookup y.1 = some .local ∨ (scope.names.lookup y.1 = some .cell ∧ ((cellsFrom (s.heap.objs.size + 1) scope.names []).lookup y.1).isSome = true) := fun ⟨n, v⟩ hy => by
    rcases S.par n (List.of_mem_zip hy).1 with q | q
    · exact .inl q
    · exact .inr ⟨q, PySem.W.cellsFrom_some _ _ _ (.inl q)⟩
  refine codeAny_call_function hr.depth (KX _ _ lk) rfl S.co S.gen rfl (PySem.W.codeRec_of KX hcd) (hb _ _ _ _ ?_)
  refine wpAny_newFunctionEnv_cells S.kind hkind fun env he s1 x => ?_
  subst he
  refine ⟨lim.keeps x.toInCall.keep, codeAny_func ?_⟩
  obtain ⟨t, ht, hq⟩ := hbody A outer s H vs Q E (hr.deeper _) hsp
  have I : Inv (cxOf CX P w K mg base N qual scope f cdv A outer s H E) [] (start N vs) H s1 := inv_start S hr.hd e0 hl r x
  refine wpAny_mono (ht [] s1 (start N vs) H _ I hq) (fun fl s' hs => ?_) fun e s' hs => hs
  have fin : ∀ {σ' : St} {H' : Hp} {v : V} {u : Value}, Inv (cxOf CX P w K mg base N qual scope f cdv A outer s H E) [] σ' H' s' → RelV v u → Q v H' → CE outer P w H s Q u s' :=
    fun {σ' H' v u} J rv q => ⟨v, H', J.os, J.bare, J.base, J.hok, rv, q⟩
  cases fl with
  | ret u =>
    obtain ⟨v, σ', H', J, rv, q⟩ := hs
    exact fin J rv q
  | next =>
    obtain ⟨σ', H', J, q⟩ := hs
    exact fin (v := V.non) (u := Value.none) J rfl q
  | brk =>
    obtain ⟨_, _, _, q⟩ := hs
    exact False.elim q
  | cont =>
    obtain ⟨_, _, _, q⟩ := hs
    exact False.elim q
end L2
namespace L2
open PySem PySem.Spec PyProof.Rows
section
variable {X : Cx} {x : Str} {p pos : Pos} {e : Expr} {es : List Expr} {t : TA} {id T : String} {r : List V → Hp → VK → Prop}
def tCB (r : List V → Hp → VK → Prop) (t : TA) : TE := fun σ H Q => t σ H fun vs H1 => r vs H1 Q
theorem pe_callB (hc : CallR X (.builtin id) r) (hg : Gl X x) (hm : X.mg x = none) (hv : bootBuiltins x = some (.builtin id)) (ha : PA X (e :: es) t) (hn : x ≠ "__name__" := by decide) (hdb : (x == ("__debug__" : Str)) = false := by decide)
    (he : starEach (e :: es) X.env = (false, eval e X.env) :: starEach es X.env := by rfl) (hpl : (backTo pos (starEach es X.env)).any (·.1) = false := by rfl) : PE X (.Call (.Name x p) (e :: es) [] pos) (tCB r t) := by
  intro pins s σ H Q I h
  refine wpAny_Call_Name_kw (ld_blt I hg hm hv ?_ hn hdb)
  exact PyProof.Rows.callWith_builtin1 (thn (ha pos pins s σ H _ I h) fun us s1 ⟨vs, H1, I1, r1, q1⟩ => hc pins s1 σ H1 vs us Q I1 r1 q1) he hpl
theorem pe_callTy (hc : CallR X (.type T) r) (hg : Gl X x) (hm : X.mg x = none) (hv : bootBuiltins x = some (.type T)) (ha : PA X (e :: es) t) (hn : x ≠ "__name__" := by decide) (hdb : (x == ("__debug__" : Str)) = false := by decide)
    (he : starEach (e :: es) X.env = (false, eval e X.env) :: starEach es X.env := by rfl) (hpl : (backTo pos (starEach es X.env)).any (·.1) = false := by rfl) : PE X (.Call (.Name x p) (e :: es) [] pos) (tCB r t) := by
  intro pins s σ H Q I h
  refine wpAny_Call_Name_kw (ld_blt I hg hm hv ?_ hn hdb)
  exact PyProof.Rows.callWith_type1 (thn (ha pos pins s σ H _ I h) fun us s1 ⟨vs, H1, I1, r1, q1⟩ => hc pins s1 σ H1 vs us Q I1 r1 q1) he hpl
end
end L2
namespace HT
open PySem PyProof.Rows
section
variable {prog : Program} {w : World} {A : Around} {E : Value → Shared → Prop} {s : Shared}
def sIx (n d : Nat) : Option Int → Nat
  | none => d
  | some v => if v < 0 then (v + (n : Int)).toNat else min v.toNat n
theorem sIx_nat (n d k : Nat) : sIx n d (some (k : Int)) = min k n := by
  show (if (k : Int) < 0 then ((k : Int) + (n : Int)).toNat else min (k : Int).toNat n) = min k n
  rw [if_neg (by omega), Int.toNat_natCast]
theorem sIx_le (n d : Nat) (hd : d ≤ n) (o : Option Int) : sIx n d o ≤ n := by
  cases o with
  | none => exact hd
  | some v =>
    show (if v < 0 then (v + (n : Int)).toNat else min v.toNat n) ≤ n
    by_cases hv : v < 0
    · rw [if_pos hv]; omega
    · rw [if_neg hv]; exact Nat.min_le_right _ _
theorem clip_eq (v : Int) (n d : Nat) : (if v < 0 then max (v + (n : Int)) 0 else min v (n : Int)) = ((sIx n d (some v) : Nat) : Int) := by
  show (if v < 0 then max (v + (n : Int)) 0 else min v (n : Int)) = (((if v < 0 then (v + (n : Int)).toNat else min v.toNat n) : Nat) : Int)
  by_cases hv : v < 0
  · simp only [if_pos hv]; omega
  · simp only [if_neg hv]; omega
theorem adjust_gen (lo hi : Option Int) (n : Nat) : Builtin.Slice.sliceAdjust lo hi 1 (n : Int) = (((sIx n 0 lo : Nat) : Int), ((sIx n n hi : Nat) : Int)) := by
  have h1 : ¬ ((1 : Int) < 0) := by omega
  unfold Builtin.Slice.sliceAdjust
  simp only [h1, if_false]
  refine Prod.ext ?_ ?_
  · cases lo with
    | none => rfl
    | some v => exact clip_eq v n 0
  · cases hi with
    | none => rfl
    | some v => exact clip_eq v n n
theorem places_gen (i j : Nat) : Builtin.Slice.slicePlaces (i : Int) (j : Int) 1 = j - i := by
  unfold Builtin.Slice.slicePlaces
  have h1 : (1 : Int) > 0 := by omega
  simp only [h1, if_true, Int.ediv_one]
  split <;> omega
theorem slicePart_ {v : Value} {o : Option Int} {Q : Option Int → Shared → Prop} (p : IsPart v o) (h : Q o s) : wpAny (model prog w) A (Builtin.Slice.slicePartIndex v) Q E s := by
  cases p with
  | none => exact slicePart_none h
  | int i t => exact slicePart_int h
theorem sliceApplied_gen {sl : Addr} {vl vu : Value} {lo hi : Option Int} {n : Nat} {Q : Int × Int × Nat → Shared → Prop} (hs : s.heap.IsSliceOf sl vl vu .none) (pl : IsPart vl lo) (pu : IsPart vu hi)
    (h : Q (((sIx n 0 lo : Nat) : Int), 1, sIx n n hi - sIx n 0 lo) s) : wpAny (model prog w) A (Builtin.Slice.sliceApplied (.ref sl) (pure (n : Int))) Q E s := by
  obtain ⟨os, hos, hcs, hds⟩ := id hs
  unfold Builtin.Slice.sliceApplied Builtin.Slice.sliceFields
  refine wpAny_bind (wpAny_bind (wpAny_field hos hds (x := vl) rfl (wpAny_bind (wpAny_field hos hds (x := vu) rfl (wpAny_bind (wpAny_field hos hds (x := .none) rfl (wpAny_pure ?_)))))))
  refine wpAny_bind (slicePart_none ?_)
  show wpAny _ _ (if ((1 : Int) == 0) = true then _ else _) _ _ s
  rw [if_neg (by decide)]
  refine wpAny_bind (slicePart_ pl (wpAny_bind (slicePart_ pu (wpAny_bind (wpAny_pure ?_)))))
  show wpAny _ _ (match Builtin.Slice.sliceAdjust lo hi 1 (n : Int) with | (lo, hi) => pure (lo, (1 : Int), Builtin.Slice.slicePlaces lo hi 1)) _ _ s
  rw [adjust_gen lo hi n]
  show wpAny _ _ (pure (((sIx n 0 lo : Nat) : Int), (1 : Int), Builtin.Slice.slicePlaces ((sIx n 0 lo : Nat) : Int) ((sIx n n hi : Nat) : Int) 1)) _ _ s
  rw [places_gen]
  exact wpAny_pure h
theorem pick_gen (xs : Array Value) (i k : Nat) : ((List.range k).filterMap fun (m : Nat) => xs[((i : Int) + (m : Int) * 1).toNat]?).toArray = ((xs.toList.drop i).take k).toArray := by
  have e : (fun (m : Nat) => xs[((i : Int) + (m : Int) * 1).toNat]?) = fun m => xs[i + m]? := by
    funext m
    have : ((i : Int) + (m : Int) * 1).toNat = i + m := by omega
    rw [this]
  rw [e]
  have := pick_run xs i k
  rw [List.filterMap_map] at this
  have e2 : ((fun x => xs[x]?) ∘ fun x => i + x) = fun m => xs[i + m]? := rfl
  rw [e2] at this
  rw [this]
theorem getItem_tuple_cut {t sl : Addr} {items : Array Value} {vl vu : Value} {lo hi : Option Int} {Q : Value → Shared → Prop} (ht : IsTup s.heap t items) (hs : s.heap.IsSliceOf sl vl vu .none) (pl : IsPart vl lo) (pu : IsPart vu hi)
    (hw : ¬ (sIx items.size 0 lo = 0 ∧ sIx items.size items.size hi = items.size))
    (h : Q (.ref s.heap.objs.size) { s with heap := s.heap.push { cls := .type "tuple", data := .seq ((items.toList.drop (sIx items.size 0 lo)).take (sIx items.size items.size hi - sIx items.size 0 lo)).toArray } })
    (hsz : items.size ≤ sizeLine) : wpAny (model prog w) A (getItem (.ref t) (.ref sl)) Q E s := by
  have htake : sizeOk (.seq ((items.toList.drop (sIx items.size 0 lo)).take (sIx items.size items.size hi - sIx items.size 0 lo)).toArray) := by
    show ((items.toList.drop (sIx items.size 0 lo)).take (sIx items.size items.size hi - sIx items.size 0 lo)).toArray.size ≤ sizeLine
    rw [List.size_toArray, List.length_take, List.length_drop, Array.length_toList]
    omega
  have hj : sIx items.size items.size hi ≤ items.size := sIx_le _ _ (Nat.le_refl _) hi
  obtain ⟨os, hos, hcs, hds⟩ := id hs
  have hTs : s.TypeIs (.ref sl) "slice" := ⟨os, hos, hcs⟩
  unfold getItem
  try with_reducible refine wpAny_holding ?_
  first | refine wpAny_bind (wpAny_pure ?_) | skip
  refine wpAny_bind (wpAny_sequenceKey ht.typeIs (by decide) ?_)
  refine wpAny_bind (wpAny_callSpecial?_slot (name := Str.ofString "__getitem__") ht.typeIs PyProof.Rows.slot_tuple_getitem
    (wpAny_call_entry PyProof.Rows.slot_tuple_getitem ht.typeIs entry_tuple_getitem ?_ (args_tuple_getitem _ _)))
  show wpAny _ _ (Builtin.Tuple.tupleItemsOf (.ref t) >>= _) _ _ s
  refine wpAny_bind (tupleItemsOf_ ht ?_)
  refine wpAny_bind (wpAny_typeOf hTs ?_)
  rw [if_pos (by decide)]
  refine wpAny_bind (sliceApplied_gen hs pl pu ?_)
  have hno : ¬ ((((sIx items.size 0 lo : Nat) : Int) == 0 && (1 : Int) == 1 && (sIx items.size items.size hi - sIx items.size 0 lo) == items.size) = true) := by
    intro q
    rw [Bool.and_eq_true, Bool.and_eq_true] at q
    have q1 : ((sIx items.size 0 lo : Nat) : Int) = 0 := eq_of_beq q.1.1
    have q2 : sIx items.size items.size hi - sIx items.size 0 lo = items.size := eq_of_beq q.2
    exact hw ⟨by omega, by omega⟩
  show wpAny _ _ (if (((sIx items.size 0 lo : Nat) : Int) == 0 && (1 : Int) == 1 && (sIx items.size items.size hi - sIx items.size 0 lo) == items.size) = true then _ else _) _ _ s
  rw [if_neg hno, pick_gen]
  first
    | exact wpAny_bind (m := Builtin.Tuple.tupleExact _) (wpAny_newObj_type (wpAny_pure ⟨_, rfl, wpAny_pure h⟩) htake)
    | exact wpAny_bind (m := Builtin.Tuple.tupleExact _) (wpAny_newObj_type (wpAny_bind (wpAny_pure (wpAny_pure ⟨_, rfl, wpAny_pure h⟩))) htake)
    | exact wpAny_bind (wpAny_bind (m := Builtin.Tuple.tupleExact _) (wpAny_newObj_type (wpAny_pure (wpAny_pure ⟨_, rfl, wpAny_pure h⟩)) htake))
    | exact wpAny_bind (wpAny_bind (m := Builtin.Tuple.tupleExact _) (wpAny_newObj_type (wpAny_pure ⟨_, rfl, wpAny_pure h⟩) htake))
end
end HT
namespace L2
open PySem PySem.Spec PyProof.Rows
abbrev TO := St → Hp → (Option Int → Hp → Prop) → Prop
def PO (X : Cx) (e : Option Expr) (t : TO) : Prop :=
  ∀ (pins : List (Addr × Obj)) (s : Shared) (σ : St) (H : Hp) (Q : Option Int → Hp → Prop), Inv X pins σ H s → t σ H Q →
    wpAny (model X.prog X.w) X.A (evalPart e X.env) (fun u s' => ∃ o H', Inv X pins σ H' s' ∧ IsPart u o ∧ Q o H') X.xe s
def tNoPart : TO := fun _ H Q => Q none H
def tPart (t : TE) : TO := fun σ H Q => t σ H fun x H1 => ∃ i, x = .int i ∧ Q (some i) H1
theorem intsAre_of {ns : List Int} : ∀ {us : List Value}, Vals (ns.map V.int) us → IntsAre us ns := by
  induction ns with
  | nil => intro us r; rw [List.map_nil] at r; cases r; exact .nil
  | cons n ns ih =>
    intro us r
    rw [List.map_cons] at r
    cases r with
    | cons r1 r2 =>
      obtain ⟨t, e⟩ := r1
      subst e
      exact .cons n t (ih r2)
section
variable {X : Cx} {e : Expr} {te : TE} {lo hi : Option Expr} {tl th : TO} {pos p2 : Pos}
theorem po_none : PO X none tNoPart := by
  intro pins s σ H Q I h
  rw [evalPart_none]
  exact wpAny_pure ⟨none, H, I, .none, h⟩
theorem po_some (h : PE X e te) : PO X (some e) (tPart te) := by
  intro pins s σ H Q I hw
  rw [evalPart_some]
  refine thn (h pins s σ H _ I hw) fun u s1 ⟨x, H1, I1, r1, q1⟩ => ?_
  obtain ⟨i, rfl, q⟩ := q1
  obtain ⟨t, rfl⟩ := r1
  exact ⟨some i, H1, I1, .int i t, q⟩
def SlR (X : Cx) (r : V → Option Int → Option Int → Hp → VK → Prop) : Prop :=
  ∀ (pins : List (Addr × Obj)) (s : Shared) (σ : St) (H : Hp) (x : V) (v vl vu : Value) (lo hi : Option Int) (sl : Addr) (Q : VK), Inv X pins σ H s → RelV x v → s.heap.IsSliceOf sl vl vu .none → IsPart vl lo → IsPart vu hi → r x lo hi H Q →
    ∃ T id, typeLookup (.type T) "__getitem__" = pure (some (.builtin id)) ∧ s.TypeIs v T ∧ wpAny (model X.prog X.w) X.A (getItem v (.ref sl)) (EP X pins σ Q) X.xe s
theorem SlR.or {r r' : V → Option Int → Option Int → Hp → VK → Prop} (h : SlR X r) (h' : SlR X r') : SlR X (fun x lo hi H Q => r x lo hi H Q ∨ r' x lo hi H Q) := by
  intro pins s σ H x v vl vu lo hi sl Q I rx hs pl pu q
  rcases q with q | q
  · exact h pins s σ H x v vl vu lo hi sl Q I rx hs pl pu q
  · exact h' pins s σ H x v vl vu lo hi sl Q I rx hs pl pu q
def tSl (r : V → Option Int → Option Int → Hp → VK → Prop) (te : TE) (tl th : TO) : TE := fun σ H Q => te σ H fun x H1 => tl σ H1 fun l H2 => th σ H2 fun u H3 => r x l u H3 Q
theorem pe_slice {r : V → Option Int → Option Int → Hp → VK → Prop} (hr : SlR X r) (he : PE X e te) (hl : PO X lo tl) (hu : PO X hi th) : PE X (.Subscript e (.Slice lo hi none p2) pos) (tSl r te tl th) := by
  intro pins s σ H Q I h
  refine Subscript_ (thn (he pins s σ H _ I h) fun v s1 ⟨x, H1, I1, r1, q1⟩ => ?_)
  refine wpAny_Slice (thn (hl pins s1 σ H1 _ I1 q1) fun vl s2 ⟨l, H2, I2, pl, q2⟩ => thn (hu pins s2 σ H2 _ I2 q2) fun vu s3 ⟨u, H3, I3, pu, q3⟩ => ?_)
  rw [evalPart_none]
  refine wpAny_pure ?_
  have I4 : Inv X pins σ H3 { s3 with heap := s3.heap.push { cls := .type "slice", data := .fields #[vl, vu, .none] } } := I3.kept (t' := s3.toks) fun b ob q => Heap.get?_push_of_some _ q
  obtain ⟨T, id, hT, ht, hg⟩ := hr pins { s3 with heap := s3.heap.push { cls := .type "slice", data := .fields #[vl, vu, .none] } } σ H3 x v vl vu l u s3.heap.objs.size Q I4 r1 (Heap.IsSliceOf.new ..) pl pu q3
  show wpAny (model X.prog X.w) X.A (subscriptTail e (.Slice lo hi none p2) v (.ref s3.heap.objs.size)) (EP X pins σ Q) X.xe { s3 with heap := s3.heap.push { cls := .type "slice", data := .fields #[vl, vu, .none] } }
  exact tail_any (ops := [.ref s3.heap.objs.size, v]) ht hT hg (by with_unfolding_all rfl)
def cutV (xs : List V) (lo hi : Option Int) : List V := (xs.drop (HT.sIx xs.length 0 lo)).take (HT.sIx xs.length xs.length hi - HT.sIx xs.length 0 lo)
theorem cutV_length (xs : List V) (lo hi : Option Int) : (cutV xs lo hi).length ≤ xs.length := by
  unfold cutV
  rw [List.length_take, List.length_drop]
  omega
def rSlT (K : PySem.W.Frag) : V → Option Int → Option Int → Hp → VK → Prop := fun x lo hi H Q => ∃ a xs, x = .ref a ∧ SqT K H a xs ∧
  ¬ (HT.sIx xs.length 0 lo = 0 ∧ HT.sIx xs.length xs.length hi = xs.length) ∧ ∀ p, H p = none → Q (.ref p) (upd H p (.tup (cutV xs lo hi)))
theorem sl_tup : SlR X (rSlT X.K) := by
  intro pins s σ H x v vl vu lo hi sl Q I rx hs pl pu h
  obtain ⟨a, xs, rfl, hx, hw, q⟩ := h
  cases rx
  obtain ⟨its, r, ht, hz⟩ := I.tuple hx
  have hlen : its.toArray.size = xs.length := by rw [List.size_toArray]; exact r.length.symm
  refine ⟨"tuple", _, PyProof.Rows.slot_tuple_getitem.lookup, ht.typeIs, ?_⟩
  refine HT.getItem_tuple_cut ht hs pl pu (by rw [hlen]; exact hw) ?_ (by rw [hlen]; exact hz)
  rw [hlen]
  refine ⟨.ref s.heap.objs.size, _, I.laid (t' := s.toks) (o := .tup (cutV xs lo hi)) (fun b ob q => Heap.get?_push_of_some _ q) (Nat.le_refl _) ?_, rfl, q _ (I.hok.fresh (Nat.le_refl _))⟩
  exact ⟨Nat.le_trans (cutV_length xs lo hi) hz, _, (r.drop (HT.sIx xs.length 0 lo)).take (HT.sIx xs.length xs.length hi - HT.sIx xs.length 0 lo), IsTup.new _ _⟩
end
end L2
namespace L2
open PySem PySem.Spec PyProof.Rows
def ixN (n : Nat) (i : Int) : Option Nat := if 0 ≤ i then (if i < n then some i.toNat else none) else if -(n : Int) ≤ i then some (i + n).toNat else none
def atI {α : Type} (xs : List α) (i : Int) : Option α := (ixN xs.length i).bind fun j => xs[j]?
theorem ixN_seq {n : Nat} {i : Int} {j : Nat} (h : ixN n i = some j) : seqIndex? i n = some j ∧ j < n ∧ -(n : Int) ≤ i ∧ i < n := by
  unfold ixN at h
  by_cases h0 : 0 ≤ i
  · rw [if_pos h0] at h
    by_cases h1 : i < n
    · rw [if_pos h1] at h
      have e : i.toNat = j := Option.some.inj h
      exact ⟨by rw [seqIndex_of h0 h1, e], by omega, by omega, h1⟩
    · rw [if_neg h1] at h; cases h
  · rw [if_neg h0] at h
    by_cases h1 : -(n : Int) ≤ i
    · rw [if_pos h1] at h
      have e : (i + n).toNat = j := Option.some.inj h
      exact ⟨by rw [seqIndex_neg (by omega) h1, e], by omega, h1, by omega⟩
    · rw [if_neg h1] at h; cases h
theorem atI_get {α : Type} {xs : List α} {i : Int} {v : α} (h : atI xs i = some v) : ∃ j, seqIndex? i xs.length = some j ∧ xs[j]? = some v ∧ j < xs.length ∧ -(xs.length : Int) ≤ i ∧ i < xs.length := by
  unfold atI at h
  cases e : ixN xs.length i with
  | none => rw [e] at h; cases h
  | some j =>
    rw [e] at h
    obtain ⟨h1, h2, h3, h4⟩ := ixN_seq e
    exact ⟨j, h1, h, h2, h3, h4⟩
theorem atI_nat {α : Type} {xs : List α} {j : Nat} {v : α} (h : xs[j]? = some v) : atI xs (j : Int) = some v := by
  have hj : j < xs.length := (List.getElem?_eq_some_iff.mp h).1
  have e : ixN xs.length (j : Int) = some j := by
    unfold ixN
    rw [if_pos (by omega), if_pos (by omega)]; simp
  unfold atI; rw [e]; exact h
def PlainIx (b : Expr) : Prop := ∀ o i, subscripted b false o i = operate [o, i] (getItem o i)
def IxR (X : Cx) (r : R2) : Prop :=
  ∀ (value slice : Expr) (pins : List (Addr × Obj)) (s : Shared) (σ : St) (H : Hp) (x y : V) (v u : Value) (Q : VK), Inv X pins σ H s → RelV x v → RelV y u → r x y H Q →
    subscripted slice false v u = operate [v, u] (getItem v u) → wpAny (model X.prog X.w) X.A (subscriptTail value slice v u) (EP X pins σ Q) X.xe s
def MtR (X : Cx) (id : String) (r : V → List V → Hp → VK → Prop) : Prop :=
  ∀ (pins : List (Addr × Obj)) (s : Shared) (σ : St) (H : Hp) (x : V) (xs : List V) (v : Value) (us : List Value) (Q : VK), Inv X pins σ H s → RelV x v → Vals xs us → r x xs H Q →
    wpAny (model X.prog X.w) X.A (call (.builtin id) (v :: us)) (EP X pins σ Q) X.xe s
section
variable {X : Cx} {a b : Expr} {ta tb : TE} {pos : Pos}
theorem IxR.or {r r' : R2} (h : IxR X r) (h' : IxR X r') : IxR X (fun x y H Q => r x y H Q ∨ r' x y H Q) := by
  intro value slice pins s σ H x y v u Q I rx ry q hs
  rcases q with q | q
  · exact h value slice pins s σ H x y v u Q I rx ry q hs
  · exact h' value slice pins s σ H x y v u Q I rx ry q hs
theorem MtR.or {id : String} {r r' : V → List V → Hp → VK → Prop} (h : MtR X id r) (h' : MtR X id r') : MtR X id (fun x xs H Q => r x xs H Q ∨ r' x xs H Q) := by
  intro pins s σ H x xs v us Q I rx rs q
  rcases q with q | q
  · exact h pins s σ H x xs v us Q I rx rs q
  · exact h' pins s σ H x xs v us Q I rx rs q
theorem pe_ix {r : R2} (hr : IxR X r) (ha : PE X a ta) (hb : PE X b tb) (hs : PlainIx b) : PE X (.Subscript a b pos) (tOp r ta tb) := by
  intro pins s σ H Q I h
  exact Subscript_ (binT ha hb I h fun v u s2 x y H2 I2 rx ry q => hr a b pins s2 σ H2 x y v u Q I2 rx ry q (hs _ _))
def rIxL (K : PySem.W.Frag) : R2 := fun x y H Q => ∃ p xs i v, x = .ref p ∧ y = .int i ∧ SqL K H p xs ∧ atI xs i = some v ∧ Q v H
def rIxT (K : PySem.W.Frag) : R2 := fun x y H Q => ∃ p xs i v, x = .ref p ∧ y = .int i ∧ SqT K H p xs ∧ atI xs i = some v ∧ Q v H
def rIxS : R2 := fun x y H Q => ∃ z i c, x = .str z ∧ y = .int i ∧ z.length ≤ sizeLine ∧ atI z.cps.toList i = some c ∧ Q (.str ⟨#[c]⟩) H
theorem ix_list : IxR X (rIxL X.K) := by
  intro value slice pins s σ H x y v u Q I rx ry h hs
  obtain ⟨p, xs, i, z, rfl, rfl, hq, he, q⟩ := h
  cases rx
  obtain ⟨t, rfl⟩ := ry
  obtain ⟨its, r, pl, hz⟩ := I.list hq
  obtain ⟨j, h1, h2, h3, h4, h5⟩ := atI_get he
  obtain ⟨w, ew, rw'⟩ := r.get h2
  have hl := r.length
  have hn := line63
  have fin : EP X pins σ Q w s := ⟨z, H, I, rw', q⟩
  by_cases h0 : 0 ≤ i
  · have hj : i.toNat = j := by
      rw [seqIndex_of h0 h5] at h1
      exact Option.some.inj h1
    exact item_listR pl.isList h0 (by omega) (by rw [hj]; simpa using ew) fin hs
  · have hj : (i + (its.toArray.size : Int)).toNat = j := by
      rw [seqIndex_neg (by omega) h4] at h1
      rw [List.size_toArray, ← hl]
      exact Option.some.inj h1
    exact subscriptTail_builtinR (x := w) pl.isList.typeIs slot_list_getitem.lookup
      (wpAny_getItem_list_neg (Q := fun r s' => r = w ∧ EP X pins σ Q r s') pl.isList (by omega) (by rw [List.size_toArray] <;> omega) (by omega) (by rw [hj]; simpa using ew) ⟨rfl, fin⟩) hs
theorem ix_tup : IxR X (rIxT X.K) := by
  intro value slice pins s σ H x y v u Q I rx ry h hs
  obtain ⟨p, xs, i, z, rfl, rfl, hq, he, q⟩ := h
  cases rx
  obtain ⟨t, rfl⟩ := ry
  obtain ⟨its, r, pl, hz⟩ := I.tuple hq
  obtain ⟨j, h1, h2, h3, h4, h5⟩ := atI_get he
  obtain ⟨w, ew, rw'⟩ := r.get h2
  have hl := r.length
  have hn := line63
  have fin : EP X pins σ Q w s := ⟨z, H, I, rw', q⟩
  exact subscriptTail_builtinR (x := w) pl.typeIs slot_tuple_getitem.lookup
    (getItem_tuple (j := j) (Q := fun r s' => r = w ∧ EP X pins σ Q r s') pl (by omega) (by omega) (by rw [List.size_toArray, ← hl]; exact h1) (by simpa using ew) ⟨rfl, fin⟩) hs
theorem ix_str : IxR X rIxS := by
  intro value slice pins s σ H x y v u Q I rx ry h hs
  obtain ⟨z, i, c, rfl, rfl, hz, he, q⟩ := h
  obtain ⟨t, rfl⟩ := rx
  obtain ⟨t', rfl⟩ := ry
  obtain ⟨j, h1, h2, h3, h4, h5⟩ := atI_get he
  have hl : z.cps.toList.length = z.length := by simp [Str.length]
  rw [hl] at h1 h4 h5
  have hn := line63
  exact tail_any (typeIs_str s z t) slot_str_getitem.lookup (getItem_str (c := c) (by
    have e1 : decide (i < -(2 ^ 63 : Int)) = false := decide_eq_false (by omega)
    have e2 : decide (i ≥ 2 ^ 63) = false := decide_eq_false (by omega)
    rw [e1, e2, Bool.or_false]) (by rw [h1]; simpa using h2) ⟨.str ⟨#[c]⟩, H, I.tok _, ⟨_, rfl⟩, q⟩) hs
def rIx (K : PySem.W.Frag) : R2 := fun x y H Q => rIxL K x y H Q ∨ rIxT K x y H Q ∨ rIxS x y H Q
theorem ix_seq : IxR X (rIx X.K) := ix_list.or (ix_tup.or ix_str)
theorem mapSeq_set (its : List Value) (n j : Nat) (u : Value) : Obj.mapSeq (·.setIfInBounds j u) { cls := .type "list", data := .seq its.toArray n } = { cls := .type "list", data := .seq (its.set j u).toArray n } := by
  simp [Obj.mapSeq]
theorem Inv.lst {pins : List (Addr × Obj)} {σ : St} {H : Hp} {s : Shared} {p : Addr} {xs : List V} (I : Inv X pins σ H s) (h : H p = some (.lst xs)) :
    ∃ (its : List Value) (n : Nat), Vals xs its ∧ s.heap.get? p = some { cls := .type "list", data := .seq its.toArray n } ∧ xs.length ≤ sizeLine := by
  obtain ⟨z, its, n, r, e⟩ := I.hok p _ h
  exact ⟨its, n, r, e, z⟩
theorem Inv.lstUpd {pins : List (Addr × Obj)} {σ : St} {H : Hp} {s : Shared} {p : Addr} {xs ys : List V} {its its' : List Value} {n n' : Nat} {f : Obj → Obj} (I : Inv X pins σ H s) (h : H p = some (.lst xs))
    (ho : s.heap.get? p = some { cls := .type "list", data := .seq its.toArray n }) (hf : f { cls := .type "list", data := .seq its.toArray n } = { cls := .type "list", data := .seq its'.toArray n' }) (r : Vals ys its') (hz : ys.length ≤ sizeLine) (t : Nat) :
    Inv X pins σ (upd H p (.lst ys)) { s with heap := s.heap.update p f, toks := t } := by
  have e : (s.heap.update p f).get? p = some { cls := .type "list", data := .seq its'.toArray n' } := by
    rw [Heap.get?_update_self f ho (by rw [hf] <;> rfl), hf]
  refine I.write (x := p) (e := p) (by rw [h]; trivial) (.inl rfl) (fun b u hb q => (Heap.get?_update_other _ _ (Ne.symm hb)).trans q) ⟨_, e⟩ ?_
  exact ⟨hz, its', n', r, e⟩
def rSetL : V → V → V → Hp → (Hp → Prop) → Prop := fun o i v H Q => ∃ p xs k j, o = .ref p ∧ i = .int k ∧ H p = some (.lst xs) ∧ ixN xs.length k = some j ∧ Q (upd H p (.lst (xs.set j v)))
theorem set_list : PSet X rSetL := by
  intro pins s σ H o i v ov iv u Q I ro ri rv h
  obtain ⟨p, xs, k, j, rfl, rfl, hp, hj, q⟩ := h
  cases ro
  obtain ⟨t, rfl⟩ := ri
  obtain ⟨its, n, r, ho, hz⟩ := I.lst hp
  obtain ⟨h1, h2, h3, h4⟩ := ixN_seq hj
  have hl := r.length
  have hn := line63
  have I' : Inv X pins σ (upd H p (.lst (xs.set j v))) { s with heap := s.heap.update p (Obj.mapSeq (·.setIfInBounds j u)) } :=
    I.lstUpd hp ho (mapSeq_set its n j u) (r.set rv j) (by rw [List.length_set]; exact hz) s.toks
  by_cases h0 : 0 ≤ k
  · have hk : k.toNat = j := by
      rw [seqIndex_of h0 h4] at h1
      exact Option.some.inj h1
    exact PySem.W.ki_setAt ho h0 (by omega) (by rw [List.size_toArray, ← hl]; exact h4) (by rw [hk]; exact ⟨_, I', q⟩)
  · have hk : (k + (its.toArray.size : Int)).toNat = j := by
      rw [seqIndex_neg (by omega) h3] at h1
      rw [List.size_toArray, ← hl]
      exact Option.some.inj h1
    exact PySem.W.ki_setBack ho (by omega) (by rw [List.size_toArray, ← hl]; exact h3) (by omega) (by rw [hk]; exact ⟨_, I', q⟩)
theorem slice_bounds (lo hi : Option Int) (n : Nat) : (sliceBounds lo hi none n).1 = ((HT.sIx n 0 lo : Nat) : Int) ∧ (sliceBounds lo hi none n).2.1 = ((HT.sIx n n hi : Nat) : Int) ∧ (sliceBounds lo hi none n).2.2 = 1 := by
  refine ⟨?_, ?_, rfl⟩
  · cases lo with
    | none => simp [sliceBounds, HT.sIx]
    | some i =>
      simp only [sliceBounds, HT.sIx, Option.getD_none, show (1 : Int) > 0 by decide, if_true]
      by_cases h : i < 0
      · simp only [h, if_true] <;> omega
      · simp only [h, if_false] <;> omega
  · cases hi with
    | none => simp [sliceBounds, HT.sIx]
    | some i =>
      simp only [sliceBounds, HT.sIx, Option.getD_none, show (1 : Int) > 0 by decide, if_true]
      by_cases h : i < 0
      · simp only [h, if_true] <;> omega
      · simp only [h, if_false] <;> omega
theorem slicePick_cut (its : List Value) (lo hi : Option Int) : slicePick its.toArray lo hi none = ((its.drop (HT.sIx its.length 0 lo)).take (HT.sIx its.length its.length hi - HT.sIx its.length 0 lo)).toArray := by
  obtain ⟨h1, h2, h3⟩ := slice_bounds lo hi its.toArray.size
  unfold slicePick
  rw [h1, h2, h3]
  simp only [sliceRange_one, pick_run, List.size_toArray] <;> rfl
def rSlL (K : PySem.W.Frag) : V → Option Int → Option Int → Hp → VK → Prop := fun x lo hi H Q => ∃ a xs, x = .ref a ∧ SqL K H a xs ∧ ∀ p, H p = none → Q (.ref p) (upd H p (.lst (cutV xs lo hi)))
theorem sl_list : SlR X (rSlL X.K) := by
  intro pins s σ H x v vl vu lo hi sl Q I rx hs pl pu h
  obtain ⟨a, xs, rfl, hx, q⟩ := h
  cases rx
  obtain ⟨its, r, ht, hz⟩ := I.list hx
  have hlen := r.length
  refine ⟨"list", _, slot_list_getitem.lookup, ht.isList.typeIs, ?_⟩
  refine wpAny_getItem_list_slice ht.isList hs pl pu .none (by simp) ?_ (by rw [List.size_toArray] <;> omega)
  rw [slicePick_cut, ← hlen]
  refine ⟨.ref s.heap.objs.size, _, I.laid (t' := s.toks) (o := .lst (cutV xs lo hi)) (fun b ob q => Heap.get?_push_of_some _ q) (Nat.le_refl _) ?_, rfl, q _ (I.hok.fresh (Nat.le_refl _))⟩
  exact ⟨Nat.le_trans (cutV_length xs lo hi) hz, _, 0, (r.drop (HT.sIx xs.length 0 lo)).take (HT.sIx xs.length xs.length hi - HT.sIx xs.length 0 lo), Heap.get?_push_size _ rfl⟩
theorem CallR.or {f : Value} {r r' : List V → Hp → VK → Prop} (h : CallR X f r) (h' : CallR X f r') : CallR X f (fun xs H Q => r xs H Q ∨ r' xs H Q) := by
  intro pins s σ H xs us Q I rs q
  rcases q with q | q
  · exact h pins s σ H xs us Q I rs q
  · exact h' pins s σ H xs us Q I rs q
theorem call_list_of : CallR X (.type "list") (fun xs H Q => ∃ p ys, xs = [.ref p] ∧ (SqL X.K H p ys ∨ SqT X.K H p ys) ∧ ∀ l, H l = none → Q (.ref l) (upd H l (.lst ys))) := by
  intro pins s σ H xs us Q I r h
  obtain ⟨p, ys, rfl, hq, q⟩ := h
  obtain ⟨u, rfl, rx⟩ := vals1 r
  cases rx
  have fin : ∀ (its : List Value), Vals ys its → ys.length ≤ sizeLine → ∀ (h' : Heap) (c' : Nat), (∀ b o', s.heap.get? b = some o' → h'.get? b = some o') →
      h'.get? s.heap.objs.size = some { cls := .type "list", dict := none, data := .seq its.toArray c', slots := #[] } → EP X pins σ Q (.ref s.heap.objs.size) { s with heap := h' } := fun its r' hz h' c' kp e =>
    ⟨.ref s.heap.objs.size, _, I.laid (t' := s.toks) kp (Nat.le_refl _) (show ObjOk X.prog X.w _ h' _ (.lst ys) from ⟨hz, its, c', r', e⟩), rfl, q _ (I.hok.fresh (Nat.le_refl _))⟩
  rcases hq with hq | hq
  · obtain ⟨its, r', pl, hz⟩ := I.list hq
    have hlen := r'.length
    obtain ⟨o, ho, hc, n, hd⟩ := pl.isList
    exact call_list_seq p (.inl rfl) ho hc hd (fun h' c' kp e => fin its r' hz h' c' kp e) (by simp only [List.size_toArray] <;> omega)
  · obtain ⟨its, r', pl, hz⟩ := I.tuple hq
    have hlen := r'.length
    obtain ⟨o, ho, hc, n, hd⟩ := pl
    exact call_list_seq p (.inr rfl) ho hc hd (fun h' c' kp e => fin its r' hz h' c' kp e) (by simp only [List.size_toArray] <;> omega)
theorem call_tuple_of : CallR X (.type "tuple") (fun xs H Q => ∃ p ys, xs = [.ref p] ∧ ((SqL X.K H p ys ∧ ∀ l, H l = none → Q (.ref l) (upd H l (.tup ys))) ∨ (SqT X.K H p ys ∧ Q (.ref p) H))) := by
  intro pins s σ H xs us Q I r h
  obtain ⟨p, ys, rfl, h⟩ := h
  obtain ⟨u, rfl, rx⟩ := vals1 r
  cases rx
  rcases h with ⟨hq, q⟩ | ⟨hq, q⟩
  · obtain ⟨its, r', pl, hz⟩ := I.list hq
    have hlen := r'.length
    refine call_tuple_list pl.isList (fun h' kp => ?_) (by simp only [List.size_toArray] <;> omega)
    have I1 : Inv X pins σ H { s with heap := h' } := I.kept (t' := s.toks) kp
    have I2 : Inv X pins σ (upd H h'.objs.size (.tup ys)) { s with heap := h'.push { cls := .type "tuple", data := .seq its.toArray } } :=
      I1.laid (t' := s.toks) (fun b o e => Heap.get?_push_of_some _ e) (Nat.le_refl _) (show ObjOk X.prog X.w _ _ _ (.tup ys) from ⟨hz, its, r', IsTup.new _ _⟩)
    exact ⟨.ref h'.objs.size, _, I2, rfl, q _ (I1.hok.fresh (Nat.le_refl _))⟩
  · obtain ⟨its, r', pl, hz⟩ := I.tuple hq
    exact call_tuple_same pl ⟨.ref p, H, I, rfl, q⟩
def tyV (K : PySem.W.Frag) (T : String) (x : V) (H : Hp) : Prop := match x with
  | .str _ => T = "str"
  | .int _ => T = "int"
  | .ref p => (T = "list" ∧ ∃ xs, SqL K H p xs) ∨ (T = "tuple" ∧ ∃ o, K.lookup p = some o ∧ o.cls = .type "tuple" ∧ o.dict = none) ∨
      (T = "dict" ∧ ((∃ kvs, H p = some (.dK kvs)) ∨ ∃ kvs, H p = some (.dT kvs))) ∨ (T = "set" ∧ ∃ S n, H p = some (.set S n))
  | _ => False
theorem tyV_is {pins : List (Addr × Obj)} {σ : St} {H : Hp} {s : Shared} {T : String} {x : V} {v : Value} (I : Inv X pins σ H s) (r : RelV x v) (ty : tyV X.K T x H) :
    s.TypeIs v T ∧ ∀ a, v = .ref a → ∃ ob, s.heap.get? a = some ob ∧ ob.dict = none := by
  cases x with
  | str z =>
    obtain ⟨t, rfl⟩ := r
    cases (show T = "str" from ty)
    exact ⟨typeIs_str s z t, fun _ e => nomatch e⟩
  | int i =>
    obtain ⟨t, rfl⟩ := r
    cases (show T = "int" from ty)
    exact ⟨typeIs_int s i t, fun _ e => nomatch e⟩
  | ref p =>
    cases r
    rcases ty with ⟨rfl, xs, hq⟩ | ⟨rfl, o, hk, hc, hd⟩ | ⟨rfl, hk⟩ | ⟨rfl, S, n, hk⟩
    · obtain ⟨its, _, pl, _⟩ := I.list hq
      refine ⟨pl.isList.typeIs, fun a e => ?_⟩
      cases e
      obtain ⟨o, n, e, c, hd, _⟩ := pl
      exact ⟨o, e, hd⟩
    · refine ⟨⟨o, I.kIn p o hk, hc⟩, fun a e => ?_⟩
      cases e
      exact ⟨o, I.kIn _ o hk, hd⟩
    · have z : ∃ o, s.heap.get? p = some o ∧ o.ExactDict := by
        rcases hk with ⟨kvs, hk⟩ | ⟨kvs, hk⟩
        · obtain ⟨_, _, _, _, o, _, _, e, ex, _⟩ := I.hok p _ hk
          exact ⟨o, e, ex⟩
        · obtain ⟨_, _, _, _, o, _, _, e, ex, _⟩ := I.hok p _ hk
          exact ⟨o, e, ex⟩
      obtain ⟨o, e, ex⟩ := z
      refine ⟨⟨o, e, ex.1⟩, fun a e2 => ?_⟩
      cases e2
      exact ⟨o, e, ex.2.1⟩
    · obtain ⟨o, _, _, _, e, ex, _⟩ := I.hok p _ hk
      refine ⟨⟨o, e, ex.1⟩, fun a e2 => ?_⟩
      cases e2
      exact ⟨o, e, ex.2.1⟩
  | _ => exact False.elim ty
def tBM (K : PySem.W.Frag) (T : String) (r : V → List V → Hp → VK → Prop) (to : TE) (t : TA) : TE := fun σ H Q => to σ H fun x H1 => tyV K T x H1 ∧ t σ H1 fun xs H2 => r x xs H2 Q
variable {o e : Expr} {es : List Expr} {to : TE} {t : TA} {name : Str} {apos cpos : Pos} {T id : String} {r : V → List V → Hp → VK → Prop}
theorem pe_bm (pa : PlainAttrs T) (slot : Slot T name id) (hty : typeOf (.builtin id) = pure (.type "method_descriptor")) (hm : MtR X id r) (ho : PE X o to) (ha : PA X (e :: es) t)
    (hbase : attributeBase o name X.env (eval o X.env) = eval o X.env := by rfl)
    (hfew : ((backTo cpos (starEach (e :: es) X.env)).all (fun x => !x.1) && (backToKw cpos (keywordEach [] X.env)).all (fun x => x.1.isSome)
      && decide ((e :: es).length + ([] : List Keyword).length + (if ([] : List Keyword).isEmpty then 0 else 1) < 30)) = true := by rfl)
    (hline : (apos.endLine == cpos.line) = true := by rfl) (hs : starEach (e :: es) X.env = (false, eval e X.env) :: starEach es X.env := by rfl) (hplain : (backTo cpos (starEach es X.env)).any (·.1) = false := by rfl) :
    PE X (.Call (.Attribute o name apos) (e :: es) [] cpos) (tBM X.K T r to t) := by
  intro pins s σ H Q I h
  refine wpAny_Call_method_late hbase hfew hline rfl (thn (ho pins s σ H _ I h) fun v s1 ⟨x, H1, I1, r1, ty, q1⟩ => ?_)
  obtain ⟨h1, h2⟩ := tyV_is I1 r1 ty
  refine ⟨T, id, pa, slot, hty, h1, h2, ?_⟩
  have hA := ha cpos pins s1 σ H1 _ I1 q1
  rw [hs] at hA ⊢
  refine Calls.callWith_builtin (by show (false || (backTo cpos (starEach es X.env)).any (·.1)) = false; rw [hplain] <;> rfl) (Calls.evalArgs_plain ?_)
  exact thn hA fun us s2 ⟨vs, H2, I2, r2, q2⟩ => hm pins s2 σ H2 x vs v us Q I2 r1 r2 q2
end
end L2
namespace L2
open PySem PySem.Spec PyProof.Rows
def MtM (X : Cx) (id : String) (r : V → List V → Hp → VK → Prop) : Prop :=
  ∀ (pins : List (Addr × Obj)) (s : Shared) (σ : St) (H : Hp) (x : V) (xs : List V) (v : Value) (us : List Value) (Q : VK), Inv X pins σ H s → RelV x v → Vals xs us → r x xs H Q →
    wpAny (model X.prog X.w) X.A (call (.builtin id) (v :: us)) (EP X pins σ Q) X.xe s
theorem Vals.one : ∀ {x : V} {us : List Value}, Vals [x] us → ∃ u, us = [u] ∧ RelV x u
  | _, _, .cons r .nil => ⟨_, rfl, r⟩
theorem Vals.rep {xs : List V} {us : List Value} (h : Vals xs us) : ∀ k : Nat, Vals (List.replicate k xs).flatten (List.replicate k us).flatten
  | 0 => .nil
  | k + 1 => by
    rw [List.replicate_succ, List.replicate_succ, List.flatten_cons, List.flatten_cons]
    exact Vals.append h (Vals.rep h k)
theorem foldl_rep (its : List Value) : ∀ (k : Nat) (acc : List Value),
    List.foldl (fun x1 x2 => x1 ++ x2) acc.toArray (List.replicate k its.toArray) = (acc ++ (List.replicate k its).flatten).toArray
  | 0, acc => by simp
  | k + 1, acc => by
    have e : acc.toArray ++ its.toArray = (acc ++ its).toArray := by simp
    have e2 : (acc ++ its) ++ (List.replicate k its).flatten = acc ++ (List.replicate (k + 1) its).flatten := by
      rw [List.replicate_succ, List.flatten_cons, List.append_assoc]
    rw [← e2, ← foldl_rep its k (acc ++ its), ← e, List.replicate_succ, List.foldl_cons]
section
variable {X : Cx} {pins : List (Addr × Obj)} {σ : St} {H : Hp} {s : Shared} {l b : Addr} {xs ys zs : List V}
theorem Inv.lset {its its' : List Value} {n : Nat} {f : Array Value → Array Value} {t' : Nat} (I : Inv X pins σ H s) (hH : H l = some (.lst xs))
    (e : s.heap.get? l = some { cls := .type "list", data := .seq its.toArray n }) (hf : f its.toArray = its'.toArray) (hv : Vals ys its') (hz : ys.length ≤ sizeLine) :
    Inv X pins σ (upd H l (.lst ys)) { s with heap := s.heap.update l (Obj.mapSeq f), toks := t' } := by
  have q := PySem.IsL.update e f
  rw [hf] at q
  refine I.write (x := l) (e := l) (by rw [hH]; exact trivial) (.inl rfl) (fun b' u hb hu => (Heap.get?_update_other s.heap (Obj.mapSeq f) (Ne.symm hb)).trans hu) ⟨_, q⟩ ?_
  exact ⟨hz, its', _, hv, q⟩
theorem Inv.lnew {its : List Value} {t' : Nat} (I : Inv X pins σ H s) (hv : Vals ys its) (hz : ys.length ≤ sizeLine) :
    Inv X pins σ (upd H s.heap.objs.size (.lst ys)) { s with heap := s.heap.push { cls := .type "list", data := .seq its.toArray }, toks := t' } :=
  I.laid (fun _ _ q => Heap.get?_push_of_some _ q) (Nat.le_refl _) ⟨hz, its, 0, hv, Heap.get?_push_size _ rfl⟩
theorem Inv.fresh (I : Inv X pins σ H s) : H s.heap.objs.size = none := I.hok.fresh (Nat.le_refl _)
theorem Inv.lstM (I : Inv X pins σ H s) (hH : H l = some (.lst xs)) : xs.length ≤ sizeLine ∧ ∃ (its : List Value) (n : Nat), Vals xs its ∧ xs.length = its.length ∧ s.heap.get? l = some { cls := .type "list", data := .seq its.toArray n } := by
  obtain ⟨z, its, n, r, e⟩ := I.hok l _ hH
  exact ⟨z, its, n, r, r.length, e⟩
theorem notLongL {n : Nat} (h : n ≤ sizeLine) : Builtin.List.listTooLong n = false := by
  unfold Builtin.List.listTooLong
  exact decide_eq_false (by omega)
end
section
variable {X : Cx}
def rAppend : V → List V → Hp → VK → Prop := fun x vs H Q => ∃ l xs y, x = .ref l ∧ vs = [y] ∧ H l = some (.lst xs) ∧ xs.length < sizeLine ∧ Q .non (upd H l (.lst (xs ++ [y])))
theorem mt_append : MtM X "list.append" rAppend := by
  intro pins s σ H x vs v us Q I rx rv h
  obtain ⟨l, xs, y, rfl, rfl, hH, hz, q⟩ := h
  cases rx
  obtain ⟨u, rfl, ru⟩ := rv.one
  obtain ⟨z, its, n, r, hl, e⟩ := I.lstM hH
  refine call_meets F.slot_list_append ⟨_, e, rfl⟩ F.entry_list_append (F.args_list_append_2 _ _) (PySem.list_append l its.toArray n u (by rw [List.size_toArray]; omega)) ⟨e, ?_⟩
  refine ⟨.non, _, I.lset (its' := its ++ [u]) hH e (by simp) (r.append (.cons ru .nil)) ?_, rfl, q⟩
  rw [List.length_append, List.length_singleton]
  omega
def rExtend : V → List V → Hp → VK → Prop := fun x vs H Q => ∃ l b xs zs, x = .ref l ∧ vs = [.ref b] ∧ H l = some (.lst xs) ∧ H b = some (.lst zs) ∧ xs.length + zs.length ≤ sizeLine ∧ Q .non (upd H l (.lst (xs ++ zs)))
theorem mt_extend : MtM X "list.extend" rExtend := by
  intro pins s σ H x vs v us Q I rx rv h
  obtain ⟨l, b, xs, zs, rfl, rfl, hH, hB, hz, q⟩ := h
  cases rx
  obtain ⟨u, rfl, ru⟩ := rv.one
  cases ru
  obtain ⟨z, its, n, r, hl, e⟩ := I.lstM hH
  obtain ⟨z2, its2, n2, r2, hl2, e2⟩ := I.lstM hB
  have hsz : its.toArray.size + its2.toArray.size ≤ sizeLine := by rw [List.size_toArray, List.size_toArray]; omega
  have hlong : ¬ (!its.toArray.isEmpty && Builtin.List.listTooLong (its.toArray.size + its2.toArray.size)) = true := by
    rw [notLongL hsz, Bool.and_false]
    exact Bool.false_ne_true
  refine call_meets F.slot_list_extend ⟨_, e, rfl⟩ F.entry_list_extend (F.args_list_extend_2 _ _)
    (AutoSeq1.list_extend_list_list_0 l its.toArray n b its2.toArray n2 hlong (by rw [List.size_toArray]; omega) (by omega)) ⟨e, e2, ?_⟩
  refine ⟨.non, _, I.lset (its' := its ++ its2) hH e (by simp) (r.append r2) ?_, rfl, q⟩
  rw [List.length_append]
  omega
def rCat : R2 := fun x y H Q => ∃ l b xs zs, x = .ref l ∧ y = .ref b ∧ H l = some (.lst xs) ∧ H b = some (.lst zs) ∧ xs.length + zs.length ≤ sizeLine ∧ ∀ p, H p = none → Q (.ref p) (upd H p (.lst (xs ++ zs)))
theorem op_cat : OpR X (binaryOp .Add) rCat := by
  intro pins s σ H x y v u Q I rx ry h
  obtain ⟨l, b, xs, zs, rfl, rfl, hH, hB, hz, q⟩ := h
  cases rx
  cases ry
  obtain ⟨z, its, n, r, hl, e⟩ := I.lstM hH
  obtain ⟨z2, its2, n2, r2, hl2, e2⟩ := I.lstM hB
  refine PySem.P.add_list e e2 ?_ (by rw [List.size_toArray, List.size_toArray]; omega)
  have ea : its.toArray ++ its2.toArray = (its ++ its2).toArray := by simp
  rw [ea]
  exact ⟨.ref _, _, I.lnew (t' := s.toks) (r.append r2) (by rw [List.length_append]; omega), rfl, q _ I.fresh⟩
def rRep : R2 := fun x y H Q => ∃ l k xs, x = .ref l ∧ y = .int k ∧ H l = some (.lst xs) ∧ -(2 ^ 63) ≤ k ∧ k < 2 ^ 63 ∧ xs.length * k.toNat ≤ sizeLine ∧
  ∀ p, H p = none → Q (.ref p) (upd H p (.lst (List.replicate k.toNat xs).flatten))
theorem len_rep {α : Type} (xs : List α) (k : Nat) : (List.replicate k xs).flatten.length = k * xs.length := by
  induction k with
  | zero => simp
  | succ k ih => rw [List.replicate_succ, List.flatten_cons, List.length_append, ih, Nat.succ_mul, Nat.add_comm]
theorem op_rep : OpR X (binaryOp .Mult) rRep := by
  intro pins s σ H x y v u Q I rx ry h
  obtain ⟨l, k, xs, rfl, rfl, hH, h1, h2, hz, q⟩ := h
  cases rx
  obtain ⟨t, rfl⟩ := ry
  obtain ⟨z, its, n, r, hl, e⟩ := I.lstM hH
  have hlen : its.toArray.size * k.toNat ≤ sizeLine := by rw [List.size_toArray, ← hl]; exact hz
  have hcap : ¬ its.toArray.size * k.toNat > (2 ^ 63 - 1) / 8 := by
    have : (sizeLine : Nat) ≤ (2 ^ 63 - 1) / 8 := by decide
    omega
  have hfit : ¬ (!Builtin.List.listFitsIndex k) = true := by
    rw [fitsIndex_both h1 h2]
    exact Bool.false_ne_true
  have hlong : ¬ Builtin.List.listTooLong (its.toArray.size * k.toNat) = true := by
    rw [notLongL hlen]
    exact Bool.false_ne_true
  have hnew : List.foldl (fun x1 x2 => x1 ++ x2) #[] (List.replicate (if its.toArray.isEmpty = true then 0 else k.toNat) its.toArray) = (List.replicate k.toNat its).flatten.toArray := by
    have f0 : ∀ m : Nat, List.foldl (fun x1 x2 => x1 ++ x2) #[] (List.replicate m its.toArray) = (List.replicate m its).flatten.toArray := fun m => by
      have := foldl_rep its m []
      rw [List.nil_append] at this
      exact this
    rw [f0]
    cases its with
    | nil => simp
    | cons a r' => rw [if_neg (by simp)]
  refine wpAny_binaryOp_repeat_ref (T := "list") (U := "int") (by decide) ⟨_, e, rfl⟩ (fun s' => typeIs_int s' k t) noFill_list_mul F.fills_int_mul F.slot_int_rmul repeat_list F.slot_int_index.lookup
    (call_meets F.slot_int_rmul (typeIs_int s k t) F.entry_int_rmul (F.args_int_rmul_2 _ _) (int___rmul___int_list k t l its.toArray n)
      ⟨e, rfl, ⟨_, e, rfl⟩, call_meets F.slot_list_mul ⟨_, e, rfl⟩ F.entry_list_mul (F.args_list_mul_2 _ _) (AutoListH.list___mul___list_int_3 l its.toArray n k t hfit hcap hlong) ⟨e, ?_⟩⟩)
  rw [hnew]
  exact ⟨.ref _, _, I.lnew (t' := s.toks) (r.rep k.toNat) (by rw [len_rep, Nat.mul_comm]; exact hz), rfl, q _ I.fresh⟩
end
end L2
namespace Att
open PySem PySem.W PySem.Calls PyProof.Rows
theorem ints_of_wellAll {P : Params} {h : Heap} : ∀ (ns : List Int) (vs : List Value), WellAll P h vs (ns.map WData.int) → IntsAre vs ns := by
  intro ns
  induction ns with
  | nil =>
    intro vs w
    rw [List.map_nil] at w
    cases w
    exact .nil
  | cons n ns ih =>
    intro vs w
    rw [List.map_cons] at w
    cases w with
    | cons a b =>
      cases a
      exact .cons _ _ (ih _ b)
theorem script_of {l : OpenLaw} {n : Nat} (hn : l.most = some n) {P : Params} {h : Heap} {args : List WData} {vals : List Value}
    (hpre : l.row.toRowW.claim.pre args = true) (hwl : WellAll P h vals args) :
    ∃ a vs ns, vals = [Value.ref a] ∧ args = [WData.list (ns.map WData.int)] ∧ h.get? a = some { cls := .type "list", data := .seq vs.toArray } ∧ IntsAre vs ns ∧ ns.length ≤ n := by
  have hsh : WShape.hasAll [] args [.list .int] = true := (pre_splitW hpre).1
  have hc : l.pre.holds [] { args := args } = true := (pre_splitW hpre).2
  obtain ⟨d, r, rfl, h1, h2⟩ := hasAllW_cons hsh
  obtain rfl := hasAllW_nil h2
  obtain ⟨xs, rfl, h3⟩ := hasW_list h1
  obtain ⟨ns, rfl⟩ := items_int h3
  have hlen : ns.length ≤ n := by
    unfold OpenLaw.pre at hc
    have h4 : (WTm.not (.lt (.lit (.int (n : Int))) (.len (.arg 0)))).holds [] { args := [.list (ns.map .int)] } = true := by
      have h4 := (holds_andW hc).1
      rw [hn] at h4
      exact h4
    have h5 := condW_of h4 (w_not (w_lt w_lit (w_len_list (w_arg rfl))))
    rw [List.length_map] at h5
    refine Nat.le_of_not_lt fun q => ?_
    have q' : (n : Int) < ((ns.length : Nat) : Int) := by omega
    first
      | (rw [decide_eq_true q'] at h5; exact absurd h5 (by decide))
      | (simp at h5; omega)
  cases hwl with
  | cons w1 w2 =>
    cases w2
    cases w1 with
    | list ho hall => exact ⟨_, _, ns, rfl, rfl, ho, ints_of_wellAll ns _ hall, hlen⟩
theorem post_true (l : OpenLaw) (args : List WData) : l.row.toRowW.claim.post args (.bool true) args = true :=
  postW_of (r := l.row.toRowW) (X := (true == true))
    (show WShape.has [] (.bool true) .bool = true by first | rfl | decide | simp [WShape.has, WShape.arms, WShape.armsAll])
    (show (WTm.eq .res (.lit (.bool true))).value [] { args := args, res := some (.bool true), after := args } = some (.bool (true == true)) from w_eq_bool (w_res rfl) w_lit) rfl
theorem attach_call {l : OpenLaw} {n : Nat} {q : Program} {loose : List Str} {XP : (Str → Option Value) → Heap → Prop} {YP : World → Heap → Prop} {d : DefRec}
    (hn : l.most = some n) (hdf : d.params.defaults = [])
    (call : ∀ (w : World) (sZ s₁ : Shared) (mg mb : Str → Option Value) (fa : Addr) (o : Obj) (pm cd doc : Value) (a : Addr) (vs : List Value) (ns : List Int),
      Ground q loose [] XP w sZ mg mb s₁.heap → YP w s₁.heap →
      s₁.heap.get? fa = some o → o.data = .func (docDef d.name d.params d.body d.scope pm cd doc) → s₁.heap.CodeRec cd d.name → mg d.name = some (.ref fa) →
      s₁.heap.get? a = some { cls := .type "list", data := .seq vs.toArray } → IntsAre vs ns → ns.length ≤ n → s₁.gens = #[] →
      codeAny (model l.prog w) callerA (.call (.ref fa) ⟨[.ref a], []⟩) (fun r s' => r = .ok (.ret (.bool true)) ∧ OldK s₁.heap s'.heap ∧ s'.os = s₁.os ∧ AllBare s'.gens) s₁) :
    WalkO q loose XP YP l.row.toRowW d [] (fun f vs => PySem.call f vs) := by
  intro w sZ s₁ mg mb G Y fa o pm cd doc dV kV ho hd hcd hD hmg hg args vals as hpre hlay hrd hwl hlo
  obtain rfl : dV = .none := Dflts.none hD hdf
  obtain rfl : kV = .none := Dflts.noKw hD
  obtain ⟨a, vs, ns, rfl, rfl, hobj, hints, hlen⟩ := script_of hn hpre hwl
  refine enter_call (codeAny_mono (call w sZ s₁ mg mb fa o pm cd doc a vs ns G Y ho (fd_plain hd) hcd hmg hobj hints hlen hg) fun r s' hq => ?_)
  obtain ⟨rfl, h2, h3, h4⟩ := hq
  exact ⟨.inl ⟨.bool true, .bool true, [], rfl, fun _ => rfl, .bool true, post_true l _, fun _ => ⟨List.Pairwise.nil, fun _ hm => (nomatch hm)⟩⟩, h2, h3, h4⟩
end Att
namespace L2
open PySem PySem.Spec PyProof.Rows
theorem vals_ints : ∀ {vs : List Value} {ns : List Int}, IntsAre vs ns → Vals (ns.map V.int) vs
  | _, _, .nil => .nil
  | _, _, .cons n t h => .cons ⟨t, rfl⟩ (vals_ints h)
def Only (H : Hp) : Prop := ∀ b, H b = none ∨ ∃ o xs, H b = some (.frz o (.lst xs))
theorem law_call {P : Program} {w : World} {K : PySem.W.Frag} {mg mb : Str → Option Value} {CX : CXT} {k : Nat} {fa a : Addr} {fd : FuncData} {x : Str} {sp : Sp} {s₁ : Shared} {vs : List Value} {ns : List Int}
    (KX : K.In s₁.heap) (hns : s₁.heap.Ns mainGlobals mg) (hb : s₁.heap.Ns builtinsNs mb) (hbb : ∀ x : Str, x ≠ "__name__" → mb x = bootBuiltins x) (hlim : s₁.heap.NoLimit) (hg : s₁.gens = #[])
    (ha : s₁.heap.get? a = some { cls := .type "list", data := .seq vs.toArray }) (hi : IntsAre vs ns) (hl : ns.length ≤ sizeLine) (hr : Room k callerA)
    (F : ∀ base : Heap, K.In base → base.Ns mainGlobals mg → FnOk P w K mg base CX k fa fd [x] sp) (hbind : ∀ (s : Shared) (u : Value), BindsTo s fd ⟨[u], []⟩ [(x, u)])
    (hsp : ∀ H : Hp, Only H → SqL K H a (ns.map V.int) → sp [.ref a] H (fun v _ => v = .bl true) fun _ _ _ => False)
    (hCX : ∀ H e s', CX [] H s₁ (fun _ _ _ => False) e s' → False) :
    codeAny (model P w) callerA (.call (.ref fa) ⟨[.ref a], []⟩) (fun r s' => r = .ok (.ret (.bool true)) ∧ OldK s₁.heap s'.heap ∧ s'.os = s₁.os ∧ AllBare s'.gens) s₁ := by
  have rv := vals_ints hi
  have lenV := hi.length
  have core : ∀ H : Hp, Only H → SqL K H a (ns.map V.int) → HOk P w H s₁.heap → (∀ b, H b ≠ none → b = a) → (H a ≠ none → K.lookup a = none) →
      codeAny (model P w) callerA (.call (.ref fa) ⟨[.ref a], []⟩) (fun r s' => r = .ok (.ret (.bool true)) ∧ OldK s₁.heap s'.heap ∧ s'.os = s₁.os ∧ AllBare s'.gens) s₁ := by
    intro H hO hS hok hA hK
    have base_of : ∀ {b : Addr} {o : Obj}, s₁.heap.get? b = some o → H b = none → (hidT s₁.heap H).get? b = some o := fun e n => hidT_get e n
    have noA : ∀ {b : Addr} {o : Obj} {es : Array DictEntry} {ep : Nat}, s₁.heap.get? b = some o → o.data = .dict es ep → H b = none := fun {b o es ep} e d => by
      cases q : H b with
      | none => rfl
      | some u =>
        have e' : b = a := hA b (by rw [q]; simp)
        subst e'
        rw [ha] at e; cases e
        have d' : Data.seq vs.toArray _ = Data.dict es ep := d
        cases d'
    have nsK : ∀ {b : Addr} {m : Str → Option Value}, s₁.heap.Ns b m → (hidT s₁.heap H).Ns b m := fun {b m} ⟨o, es, ep, e, d, r⟩ => ⟨o, es, ep, base_of e (noA e d), d, r⟩
    have hKb : K.In (hidT s₁.heap H) := fun b o e => base_of (KX b o e) (by
      cases q : H b with
      | none => rfl
      | some u =>
        have e' : b = a := hA b (by rw [q]; simp)
        subst e'
        rw [hK (by rw [q]; simp)] at e; cases e)
    have hM : Mod K mg (hidT s₁.heap H) := ⟨hKb, nsK hns, ⟨mb, nsK hb, hbb⟩, let ⟨mc, h1, h2⟩ := hlim; ⟨mc, nsK h1, h2⟩⟩
    have e0 : Env0 P w K mg (hidT s₁.heap H) callerA [] s₁ H := ⟨rfl, hM, fun b o e => of_hidT e, Nat.le_of_eq (hidT_size _ _), trivial, fun b hb => absurd (show b ∈ ([] : List Addr) from hb) (by simp), hok, .of_eq hg⟩
    refine codeAny_mono ((F _ hKb (nsK hns)).run callerA [] s₁ H ⟨[.ref a], []⟩ [.ref a] [.ref a] _ _ hr e0 (hbind s₁ (.ref a)) (.cons rfl .nil) (hsp H hO hS)) fun r s' h => ?_
    cases r with
    | error e => exact (hCX H e s' h).elim
    | ok fl =>
      cases fl with
      | next => exact False.elim h
      | brk => exact False.elim h
      | cont => exact False.elim h
      | ret u =>
        obtain ⟨v, H', os, bare, un, hok', r', q⟩ := h
        have q' : v = .bl true := q
        subst q'
        obtain rfl : u = Value.bool true := r'
        refine ⟨rfl, OldK.of_keep fun b o e => ?_, os, bare⟩
        cases q : H b with
        | none => exact un.keep b o e q (by intro z; exact absurd (show b ∈ ([] : List Addr) from z) (by simp)) (by simp)
        | some u =>
          rcases hO b with z | ⟨ob, xs, z⟩
          · rw [q] at z; cases z
          · have z2 := un.frzs b ob _ z
            obtain ⟨e1, _⟩ := hok b _ z
            obtain ⟨e2, _⟩ := hok' b _ z2
            rw [e] at e1; cases e1
            exact e2
  cases hk : K.lookup a with
  | some o =>
    have e := KX a o hk
    rw [ha] at e
    cases e
    refine core (fun _ => none) (fun _ => .inl rfl) (.inr ⟨_, vs.toArray, _, hk, rfl, rfl, rfl, by rw [List.size_toArray, lenV]; exact hl, by simpa using rv⟩) (fun b u z => by have z' : (none : Option HO) = some u := z; cases z') (fun b z => absurd rfl z) fun z => absurd rfl z
  | none =>
    refine core (fun b => if b = a then some (.frz { cls := .type "list", data := .seq vs.toArray } (.lst (ns.map V.int))) else none) (fun b => ?_) (.inl (.inr ⟨{ cls := .type "list", data := .seq vs.toArray }, if_pos rfl⟩)) (fun b u z => ?_) (fun b z => ?_) fun _ => hk
    · by_cases hb : b = a
      · exact .inr ⟨_, _, if_pos hb⟩
      · exact .inl (if_neg hb)
    · by_cases hb : b = a
      · have z' := (if_pos hb).symm.trans z
        cases z'
        subst hb
        exact ⟨ha, by rw [List.length_map]; exact hl, vs, _, rv, ha⟩
      · have z' := (if_neg hb).symm.trans z
        cases z'
    · by_cases hb : b = a
      · exact hb
      · exact absurd (if_neg hb) z
end L2
namespace L2
open PySem PySem.Spec PyProof.Rows
abbrev KOf {K : PySem.W.Frag} {h : Heap} (_ : K.In h) : PySem.W.Frag := K
theorem walk_of {l : PySem.W.OpenLaw} {n k : Nat} {q : Program} {loose : List Str} {XP : (Str → Option Value) → Heap → Prop} {YP : World → Heap → Prop} {d : DefRec} {K : Params → PySem.W.Frag} {CX : World → CXT} {sp : World → Sp} {x : Str}
    (hn : l.most = some n) (hn2 : n ≤ sizeLine) (hdf : d.params.defaults = []) (hr : Room k callerA)
    (hY : ∀ (w : World) (h : Heap), YP w h → (K w.params).In h)
    (F : ∀ (w : World) (mg : Str → Option Value) (fa : Addr) (h : Heap), (K w.params).In h → h.Ns mainGlobals mg → mg d.name = some (.ref fa) →
      ∃ fd : FuncData, (∀ (s : Shared) (u : Value), BindsTo s fd ⟨[u], []⟩ [(x, u)]) ∧
        ∀ base : Heap, (K w.params).In base → base.Ns mainGlobals mg → FnOk l.prog w (K w.params) mg base (CX w) k fa fd [x] (sp w))
    (hsp : ∀ (w : World) (H : Hp) (a : Addr) (ns : List Int), ns.length ≤ n → Only H → SqL (K w.params) H a (ns.map V.int) → sp w [.ref a] H (fun v _ => v = .bl true) fun _ _ _ => False)
    (hCX : ∀ (w : World) (H : Hp) (s : Shared) (e : Value) (s' : Shared), CX w [] H s (fun _ _ _ => False) e s' → False) :
    PySem.W.WalkO q loose XP YP l.row.toRowW d [] (fun f vs => PySem.call f vs) := by
  refine Att.attach_call hn hdf fun w sZ s₁ mg mb fa o pm cd doc a vs ns G Y ho hd hcd hmg hobj hints hlen hg => ?_
  have KX := hY w _ Y
  obtain ⟨fd, hb, hF⟩ := F w mg fa _ KX G.T.g hmg
  exact law_call KX G.T.g G.T.b G.T.builtins G.T.nolimit hg hobj hints (Nat.le_trans hlen hn2) hr hF hb (fun H hO hS => hsp w H a ns hlen hO hS) fun H e s' => hCX w H s₁ e s'
end L2
namespace L2
open PySem PySem.Spec PyProof.Rows
def defArgs (s : Stmt) : Arguments := match s with
  | .FunctionDef _ a _ _ _ _ _ _ _ _ => a
  | _ => { posonlyargs := [], args := [], vararg := none, kwonlyargs := [], kw_defaults := [], kwarg := none, defaults := [] }
def defBody (s : Stmt) : List Stmt := match s with
  | .FunctionDef _ _ b _ _ _ _ _ _ _ => b
  | _ => []
def defScope (s : Stmt) : Scope := match s with
  | .FunctionDef _ _ _ _ _ _ sc _ _ _ => sc
  | _ => { kind := .function, names := [], isGenerator := false, isCoroutine := false }
abbrev CX0 : CXT := fun _ _ _ _ _ _ => False
abbrev E0 : XK := fun _ _ _ => False
theorem pass0 {X : Cx} : Passes CX0 X E0 := fun _ _ _ _ _ _ _ h => h.elim
structure Fun (K : PySem.W.Frag) (x qual : Str) (st : Stmt) (f : Addr) (fd : FuncData) : Prop where
  ex : ∃ (oc : Value) (od : Option Addr) (kV doc pm : Value) (an : Option Addr) (cdv ct : Value) (osl : Array (Option Value)),
    fd = PySem.W.fnOf x qual (defArgs st) (defBody st) (defScope st) .none kV doc pm an cdv ct ∧ K.lookup f = some ⟨oc, od, .func fd, osl⟩ ∧ PySem.W.codeIn K cdv qual = true
  kp : PySem.W.keepIn K (.ref f) = true
section
variable {P : Program} {w : World} {K : PySem.W.Frag} {mg : Str → Option Value} {base : Heap}
theorem Fun.ok {x qual : Str} {st : Stmt} {f : Addr} {fd : FuncData} {N ps : List Str} {k : Nat} {sp : Sp} (F : Fun K x qual st f fd) (S : FnScope N ps (defScope st)) (len : ∀ vs H Q E, sp vs H Q E → vs.length = ps.length)
    (hbody : ∀ (cdv : Value) (A : Around) (outer : List Env) (s : Shared) (H : Hp) (vs : List V) (Q : VK) (E : XK), Room k (A.deeper (envOfC qual (defScope st) s.heap.objs.size f cdv)) → sp vs H Q E →
      ∃ t, PSs (cxOf CX0 P w K mg base N qual (defScope st) f cdv A outer s H E).nox (defBody st) t ∧ t { nx := fun _ H' => Q .non H', rt := Q } (start N vs) H) : FnOk P w K mg base CX0 (k + 1) f fd ps sp := by
  obtain ⟨oc, od, kV, doc, pm, an, cdv, ct, osl, rfl, lk, hcd⟩ := F.ex
  refine fn_of lk hcd S len fun A outer s H vs Q E hr hsp => ?_
  obtain ⟨t, h, q⟩ := hbody cdv A outer s H vs Q E hr hsp
  exact ⟨t, h.nox, q⟩
theorem Fun.binds {x qual : Str} {st : Stmt} {f : Addr} {fd : FuncData} {ps : List Str} (F : Fun K x qual st f fd)
    (h : ∀ (kV doc pm : Value) (an : Option Addr) (cdv ct : Value) (us : List Value), us.length = ps.length → bindArgs (PySem.W.fnOf x qual (defArgs st) (defBody st) (defScope st) .none kV doc pm an cdv ct) ⟨us, []⟩ = pure (ps.zip us)) : Binds K fd ps [] := by
  obtain ⟨oc, od, kV, doc, pm, an, cdv, ct, osl, rfl, lk, hcd⟩ := F.ex
  exact .all (h kV doc pm an cdv ct)
theorem fun_mk {x qual : Str} {st : Stmt} {f : Addr} {oc : Value} {od an : Option Addr} {osl : Array (Option Value)} {kV doc pm cdv ct : Value} (l : K.lookup f = some ⟨oc, od, .func (PySem.W.fnOf x qual (defArgs st) (defBody st) (defScope st) .none kV doc pm an cdv ct), osl⟩)
    (c : PySem.W.codeIn K cdv qual = true) (k : PySem.W.keepIn K (.ref f) = true) : Fun K x qual st f (PySem.W.fnOf x qual (defArgs st) (defBody st) (defScope st) .none kV doc pm an cdv ct) := ⟨⟨oc, od, kV, doc, pm, an, cdv, ct, osl, rfl, l, c⟩, k⟩
end
section
variable {X : Cx}
theorem pv (i : Nat) {x : Str} {pos : Pos} (hN : X.N[i]? = some x := by rfl) (hv : Vis X.env.scope x := by first | exact Or.inl rfl | exact Or.inr (Or.inl rfl) | exact Or.inr (Or.inr rfl)) (hd : (x == ("__debug__" : Str)) = false := by decide)
    (hcd : (x == ("__classdict__" : Str)) = false := by decide) : PE X (.Name x pos) (tVar i) := pe_var hN hv hd hcd
end
theorem iteF {A B : Prop} (h : B) : if false = true then A else B := by
  rw [if_neg Bool.false_ne_true]
  exact h
theorem iteT {A B : Prop} (h : A) : if true = true then A else B := by
  rw [if_pos rfl]
  exact h
theorem ite2 {c A B : Prop} [Decidable c] (h1 : c → A) (h2 : ¬ c → B) : if c then A else B := by
  by_cases h : c
  · rw [if_pos h]
    exact h1 h
  · rw [if_neg h]
    exact h2 h
def Same (H H' : Hp) : Prop := ∀ b o, H b = some o → H' b = some o
theorem Same.refl (H : Hp) : Same H H := fun _ _ h => h
theorem Same.trans {H H1 H2 : Hp} (a : Same H H1) (b : Same H1 H2) : Same H H2 := fun c o h => b c o (a c o h)
theorem Same.free {H H' : Hp} (e : Same H H') {l : Addr} (h : H' l = Option.none) : H l = Option.none := by
  cases q : H l with
  | none => rfl
  | some o =>
    rw [e l o q] at h
    cases h
theorem Same.seq {K : PySem.W.Frag} {H H' : Hp} {a : Addr} {xs : List V} (e : Same H H') (h : SqL K H a xs) : SqL K H' a xs := by
  rcases h with (h | ⟨o, h⟩) | h
  · exact .inl (.inl (e _ _ h))
  · exact .inl (.inr ⟨o, e _ _ h⟩)
  · exact .inr h
end L2
namespace L2
open PySem PySem.Spec PyProof.Rows
def clOf (cells : List (Str × Addr)) : List (Str × NameKind) → List (Str × Addr) → List (Str × Addr)
  | [], acc => acc
  | (n, k) :: r, acc => if k == .free then (match cells.lookup n with | some a => clOf cells r ((n, a) :: acc) | none => clOf cells r acc) else clOf cells r acc
theorem clOf_for {env : Env} (f : Str × NameKind → List (Str × Addr) → Sem (ForInStep (List (Str × Addr))))
    (hf : ∀ n k cs, f (n, k) cs = if k == .free then (do let a ← cellOf env n; pure (.yield ((n, a) :: cs))) else pure (.yield cs)) :
    ∀ (names : List (Str × NameKind)) (acc : List (Str × Addr)), (∀ y ∈ names, y.2 = .free → ∃ c, env.cells.lookup y.1 = some c) → forIn names acc f = pure (clOf env.cells names acc)
  | [], acc, _ => by rw [List.forIn_nil]; rfl
  | (n, k) :: r, acc, h => by
    have hr : ∀ y ∈ r, y.2 = .free → ∃ c, env.cells.lookup y.1 = some c := fun y hy => h y (List.mem_cons_of_mem _ hy)
    rw [List.forIn_cons, hf]
    unfold clOf
    by_cases hk : k = .free
    · subst hk
      obtain ⟨c, hc⟩ := h (n, .free) List.mem_cons_self rfl
      have hc' : env.cells.lookup n = some c := hc
      have e1 : cellOf env n = pure c := by unfold cellOf; rw [hc']
      have ef : (NameKind.free == NameKind.free) = true := rfl
      rw [if_pos ef, if_pos ef, e1, hc']
      exact clOf_for f hf r ((n, c) :: acc) hr
    · have hb : (k == NameKind.free) = false := by simpa using hk
      rw [hb, if_neg Bool.false_ne_true, if_neg Bool.false_ne_true]
      exact clOf_for f hf r acc hr
theorem closureFor_cl {scope : Scope} {env : Env} (h : ∀ y ∈ scope.names, y.2 = .free → ∃ c, env.cells.lookup y.1 = some c) : closureFor scope env = pure (clOf env.cells scope.names []) := by
  have e := clOf_for (env := env) (fun x cs => match x with | (n, k) => if k == .free then (do let a ← cellOf env n; pure (.yield ((n, a) :: cs))) else pure (.yield cs)) (fun _ _ _ => rfl) scope.names [] h
  show (forIn scope.names [] _ >>= fun cs => pure cs) = _
  refine Eq.trans (congrArg (· >>= fun cs => pure cs) (Eq.trans ?_ e)) rfl
  refine congrArg _ (funext fun x => funext fun cs => ?_)
  obtain ⟨n, k⟩ := x
  cases hk : k == NameKind.free <;> simp [hk]
theorem lookup_clOf {cells : List (Str × Addr)} : ∀ {names : List (Str × NameKind)} {acc : List (Str × Addr)}, (∀ n c, acc.lookup n = some c → cells.lookup n = some c) → ∀ n c, (clOf cells names acc).lookup n = some c → cells.lookup n = some c
  | [], _, h, n, c, e => h n c e
  | (m, k) :: r, acc, h, n, c, e => by
    unfold clOf at e
    split at e
    · split at e
      · rename_i a ha
        refine lookup_clOf (names := r) (acc := (m, a) :: acc) (fun x d q => ?_) n c e
        rw [List.lookup_cons] at q
        cases hb : x == m with
        | true => rw [hb] at q; cases q; rw [beq_iff_eq.mp hb]; exact ha
        | false => rw [hb] at q; exact h x d q
      · exact lookup_clOf (names := r) h n c e
    · exact lookup_clOf (names := r) h n c e
theorem clOf_acc {cells : List (Str × Addr)} {n : Str} : ∀ {names : List (Str × NameKind)} {acc : List (Str × Addr)}, (∃ c, acc.lookup n = some c) → ∃ c, (clOf cells names acc).lookup n = some c
  | [], _, h => h
  | (m, k) :: r, acc, h => by
    unfold clOf
    split
    · split
      · rename_i a ha
        refine clOf_acc (names := r) ?_
        rw [List.lookup_cons]
        cases hb : n == m with
        | true => exact ⟨a, rfl⟩
        | false => exact h
      · exact clOf_acc (names := r) h
    · exact clOf_acc (names := r) h
theorem clOf_has {cells : List (Str × Addr)} {n : Str} {c : Addr} (hc : cells.lookup n = some c) : ∀ {names : List (Str × NameKind)} {acc : List (Str × Addr)}, (n, NameKind.free) ∈ names → ∃ d, (clOf cells names acc).lookup n = some d
  | (m, k) :: r, acc, h => by
    unfold clOf
    rcases List.mem_cons.mp h with e | h
    · cases e
      rw [if_pos (show (NameKind.free == NameKind.free) = true from rfl), hc]
      exact clOf_acc (names := r) ⟨c, by rw [List.lookup_cons, beq_self_eq_true]⟩
    · split
      · split
        · exact clOf_has hc h
        · exact clOf_has hc h
      · exact clOf_has hc h
theorem cellsFrom_not {y : Str} : ∀ {names : List (Str × NameKind)} {n : Nat} {acc : List (Str × Addr)}, (∀ p ∈ names, p.2 = .cell → p.1 ≠ y) → (cellsFrom n names acc).lookup y = acc.lookup y
  | [], _, _, _ => rfl
  | (m, k) :: r, n, acc, h => by
    have hr : ∀ p ∈ r, p.2 = .cell → p.1 ≠ y := fun p hp => h p (List.mem_cons_of_mem _ hp)
    unfold cellsFrom
    by_cases hk : k = .cell
    · subst hk
      rw [if_pos (show (NameKind.cell == NameKind.cell) = true from rfl), cellsFrom_not hr, List.lookup_cons]
      have : (y == m) = false := by simpa using Ne.symm (h (m, .cell) List.mem_cons_self rfl)
      rw [this]
    · rw [if_neg (by simpa using hk)]
      exact cellsFrom_not hr
theorem cellsFrom_new : ∀ {names : List (Str × NameKind)} {h : Heap} {acc : List (Str × Addr)} {y : Str} {c : Addr}, (cellsFrom h.objs.size names acc).lookup y = some c →
    (h.objs.size ≤ c ∧ (pushCells h names).IsCell c none) ∨ acc.lookup y = some c
  | [], _, _, _, _, e => .inr e
  | (m, k) :: r, h, acc, y, c, e => by
    unfold cellsFrom at e
    unfold pushCells
    by_cases hk : (k == NameKind.cell) = true
    · rw [if_pos hk] at e ⊢
      have e' : (cellsFrom (h.push { cls := .type "cell", data := .cell none }).objs.size r ((m, h.objs.size) :: acc)).lookup y = some c := by rw [Heap.size_push]; exact e
      rcases cellsFrom_new e' with ⟨q1, q2⟩ | q
      · rw [Heap.size_push] at q1
        exact .inl ⟨Nat.le_of_succ_le q1, q2⟩
      · rw [List.lookup_cons] at q
        cases hb : y == m with
        | true =>
          rw [hb] at q; cases q
          exact .inl ⟨Nat.le_refl _, Heap.IsCell.keeps ⟨_, Heap.get?_push_size _ rfl, rfl⟩ (pushCells_keeps _ _)⟩
        | false => rw [hb] at q; exact .inr q
    · rw [if_neg hk] at e ⊢
      exact cellsFrom_new e
theorem cellsFrom_inj : ∀ {names : List (Str × NameKind)} {n : Nat} {acc : List (Str × Addr)}, (∀ x y c, acc.lookup x = some c → acc.lookup y = some c → x = y) → (∀ x c, acc.lookup x = some c → c < n) →
    ∀ x y c, (cellsFrom n names acc).lookup x = some c → (cellsFrom n names acc).lookup y = some c → x = y
  | [], _, _, h, _ => h
  | (m, k) :: r, n, acc, h, lt => by
    unfold cellsFrom
    by_cases hk : (k == NameKind.cell) = true
    · rw [if_pos hk]
      have one : ∀ x c, ((m, n) :: acc).lookup x = some c → (x = m ∧ c = n) ∨ acc.lookup x = some c := fun x c e => by
        rw [List.lookup_cons] at e
        cases hb : x == m with
        | true => rw [hb] at e; cases e; exact .inl ⟨beq_iff_eq.mp hb, rfl⟩
        | false => rw [hb] at e; exact .inr e
      refine cellsFrom_inj (fun x y c ex ey => ?_) fun x c e => ?_
      · rcases one x c ex with ⟨a1, a2⟩ | a <;> rcases one y c ey with ⟨b1, b2⟩ | b
        · rw [a1, b1]
        · exact absurd (lt y c b) (by rw [a2]; exact Nat.lt_irrefl _)
        · exact absurd (lt x c a) (by rw [b2]; exact Nat.lt_irrefl _)
        · exact h x y c a b
      · rcases one x c e with ⟨_, a2⟩ | a
        · rw [a2]; exact Nat.lt_succ_self _
        · exact Nat.lt_succ_of_lt (lt x c a)
    · rw [if_neg hk]
      exact cellsFrom_inj h lt
theorem cellsFrom_acc {y : Str} : ∀ {names : List (Str × NameKind)} {n : Nat} {acc : List (Str × Addr)}, (∃ c, acc.lookup y = some c) → ∃ c, (cellsFrom n names acc).lookup y = some c
  | [], _, _, h => h
  | (m, k) :: r, n, acc, h => by
    unfold cellsFrom
    split
    · refine cellsFrom_acc ?_
      rw [List.lookup_cons]
      cases y == m with
      | true => exact ⟨_, rfl⟩
      | false => exact h
    · exact cellsFrom_acc h
theorem cellsFrom_has {y : Str} : ∀ {names : List (Str × NameKind)} {n : Nat} {acc : List (Str × Addr)}, (y, NameKind.cell) ∈ names → ∃ c, (cellsFrom n names acc).lookup y = some c
  | (m, k) :: r, n, acc, h => by
    unfold cellsFrom
    rcases List.mem_cons.mp h with e | h
    · cases e
      rw [if_pos (show (NameKind.cell == NameKind.cell) = true from rfl)]
      exact cellsFrom_acc ⟨n, by rw [List.lookup_cons, beq_self_eq_true]⟩
    · split
      · exact cellsFrom_has h
      · exact cellsFrom_has h
theorem cellsFrom_ge {y : Str} {lo : Nat} : ∀ {names : List (Str × NameKind)} {n : Nat} {acc : List (Str × Addr)} {c : Addr}, lo ≤ n → ((y, NameKind.cell) ∈ names ∨ ∀ d, acc.lookup y = some d → lo ≤ d) → (cellsFrom n names acc).lookup y = some c → lo ≤ c
  | [], n, acc, c, hn, h, e => h.elim (fun z => nomatch z) fun z => z c e
  | (m, k) :: r, n, acc, c, hn, h, e => by
    unfold cellsFrom at e
    by_cases hk : (k == NameKind.cell) = true
    · rw [if_pos hk] at e
      have k' : k = .cell := beq_iff_eq.mp hk
      subst k'
      refine cellsFrom_ge (names := r) (Nat.le_succ_of_le hn) ?_ e
      by_cases hm : (y, NameKind.cell) ∈ r
      · exact .inl hm
      · refine .inr fun d q => ?_
        rw [List.lookup_cons] at q
        cases hb : y == m with
        | true => rw [hb] at q; cases q; exact hn
        | false =>
          rw [hb] at q
          rcases h with z | z
          · rcases List.mem_cons.mp z with z | z
            · cases z; simp at hb
            · exact absurd z hm
          · exact z d q
    · rw [if_neg hk] at e
      refine cellsFrom_ge (names := r) hn ?_ e
      rcases h with z | z
      · rcases List.mem_cons.mp z with z | z
        · cases z; exact absurd rfl hk
        · exact .inl z
      · exact .inr z
section
variable {M : Model} {A : Around} {E : Value → Shared → Prop} {s : Shared}
theorem newCompEnv {scope : Scope} {globals : Addr} {cl : List (Str × Addr)} {qual : Str} {env : Env} {Q : Env → Shared → Prop}
    (h : Q { scope := scope, locals := s.heap.objs.size, globals := globals, cells := cellsFrom (s.heap.objs.size + 1) scope.names cl, qual := qual, func := none, code := env.code, frame := env.frame, builtins := env.builtins }
      { s with heap := pushCells (s.heap.push { cls := .type "dict", data := .dict #[] }) scope.names }) :
    wpAny M A (newFunctionEnv scope globals cl [] qual none .none (some env)) Q E s := by
  simp only [newFunctionEnv, Option.isSome_some, if_true]
  refine wpAny_bind (wpAny_alloc ?_)
  refine wpAny_bind (wpAny_layCells _ (fun name kind cells => by cases hkc : kind == NameKind.cell <;> simp [hkc]) _ _ _ _ ?_)
  rw [show ({ s with heap := s.heap.push { cls := .type "dict", data := .dict #[] } } : Shared).heap.objs.size = s.heap.objs.size + 1 from Heap.size_push ..]
  refine wpAny_bind ?_
  rw [List.forIn_nil]
  exact wpAny_pure (wpAny_pure h)
end
theorem kindOf_relabel {env : Env} : ∀ (names : List (Str × NameKind)) (x : Str),
    (names.map fun (n, k) => if (k == NameKind.free && env.scope.kind == .function && env.kindOf n == some .cell) then (n, NameKind.cell) else (n, k)).lookup x =
      (names.lookup x).map fun k => if (k == NameKind.free && env.scope.kind == .function && env.kindOf x == some .cell) then NameKind.cell else k
  | [], _ => rfl
  | (n, k) :: r, x => by
    rw [List.map_cons]
    show List.lookup x ((if (k == NameKind.free && env.scope.kind == .function && env.kindOf n == some .cell) = true then (n, NameKind.cell) else (n, k)) :: _) = _
    cases hx : x == n with
    | true =>
      have e := beq_iff_eq.mp hx
      subst e
      by_cases hc : (k == NameKind.free && env.scope.kind == .function && env.kindOf x == some .cell) = true
      · rw [if_pos hc, List.lookup_cons, List.lookup_cons, beq_self_eq_true]
        show _ = some (if (k == NameKind.free && env.scope.kind == .function && env.kindOf x == some .cell) = true then NameKind.cell else k)
        rw [if_pos hc]
      · rw [if_neg hc, List.lookup_cons, List.lookup_cons, beq_self_eq_true]
        show _ = some (if (k == NameKind.free && env.scope.kind == .function && env.kindOf x == some .cell) = true then NameKind.cell else k)
        rw [if_neg hc]
    | false =>
      have ih := kindOf_relabel (env := env) r x
      by_cases hc : (k == NameKind.free && env.scope.kind == .function && env.kindOf n == some .cell) = true
      · rw [if_pos hc, List.lookup_cons, List.lookup_cons, hx]; exact ih
      · rw [if_neg hc, List.lookup_cons, List.lookup_cons, hx]; exact ih
def sel (idx : List Nat) (σ : St) : St := idx.map fun j => (σ[j]?).join
def Cx.comp (X : Cx) (scope : Scope) (cells : List (Str × Addr)) (C : Addr) (N' : List Str) (s2 : Shared) (H2 : Hp) (fp : List Addr) : Cx where
  prog := X.prog
  w := X.w
  K := X.K
  mg := X.mg
  base := X.base
  A := X.A
  N := N'
  sZ := s2
  HZ := H2
  env := compEnvC scope cells C X.env
  outer := X.stack
  stack := X.stack
  ex := fp
  fn := fun y => scope.names.lookup y == some .cell
  calm := X.calm
  pn := []
  xe := fun _ _ => False
structure CompOk (X : Cx) (scope : Scope) (M : List Str) (idx : List Nat) : Prop where
  kind : scope.kind = .function
  loc : ∀ y ∈ scope.names, y.2 = .local → scope.names.lookup y.1 = some .local
  cel : ∀ y ∈ scope.names, y.2 = .cell → scope.names.lookup y.1 = some .cell
  fre : ∀ y ∈ scope.names, y.2 = .free → X.env.kindOf y.1 = some .cell ∨ X.env.kindOf y.1 = some .free
  len : idx.length = M.length
  cap : ∀ (j : Nat) (y : Str), M[j]? = some y → scope.names.lookup y = some .free ∧ ∃ k, idx[j]? = some k ∧ X.N[k]? = some y
theorem sel_get {idx : List Nat} {σ : St} {j : Nat} {v : V} (h : (sel idx σ)[j]? = some (some v)) : ∃ k, idx[j]? = some k ∧ σ[k]? = some (some v) := by
  unfold sel at h
  rw [List.getElem?_map] at h
  cases e : idx[j]? with
  | none => rw [e] at h; cases h
  | some k =>
    rw [e] at h
    refine ⟨k, rfl, ?_⟩
    have h' : (σ[k]?).join = some v := Option.some.inj h
    cases q : σ[k]? with
    | none => rw [q] at h'; cases h'
    | some o =>
      rw [q] at h'
      have h'' : o = some v := h'
      rw [h'']
section
variable {X : Cx} {pins : List (Addr × Obj)} {σ : St} {H : Hp} {s : Shared}
theorem comp_start {scope : Scope} {M : List Str} {idx : List Nat} {fp : List Addr} {x : Str} (ok : CompOk X scope M idx) (hc : X.calm = true) (I : Inv X pins σ H s) (hf : ∀ b ∈ fp, FpOk X pins H b)
    (ho : ∀ b ∈ fp, ∃ o, s.heap.get? b = some o) :
    Inv (X.comp scope (cellsFrom (s.heap.objs.size + 2) scope.names (clOf X.env.cells scope.names [])) (s.heap.objs.size + 1) (x :: M) s H fp) [] (none :: sel idx σ) H
      { s with heap := pushCells ((s.heap.push { cls := .type "list", dict := none, data := .seq ([] : List Value).toArray }).push { cls := .type "dict", data := .dict #[] }) scope.names } := by
  have sz2 : ((s.heap.push { cls := .type "list", dict := none, data := .seq ([] : List Value).toArray }).push { cls := .type "dict", data := .dict #[] }).objs.size = s.heap.objs.size + 2 := by rw [Heap.size_push, Heap.size_push]
  have keep : ∀ b o, s.heap.get? b = some o → (pushCells ((s.heap.push { cls := .type "list", dict := none, data := .seq ([] : List Value).toArray }).push { cls := .type "dict", data := .dict #[] }) scope.names).get? b = some o :=
    fun b o e => pushCells_keeps _ _ _ _ (Heap.get?_push_of_some _ (Heap.get?_push_of_some _ e))
  have clLook : ∀ n c, (clOf X.env.cells scope.names []).lookup n = some c → X.env.cells.lookup n = some c := lookup_clOf fun n c e => by simp at e
  have clLt : ∀ n c, (clOf X.env.cells scope.names []).lookup n = some c → c < s.heap.objs.size := fun n c e => by
    obtain ⟨v, z⟩ := I.cell n c (clLook n c e)
    exact z.lt
  have look : ∀ n c, (cellsFrom (s.heap.objs.size + 2) scope.names (clOf X.env.cells scope.names [])).lookup n = some c →
      (s.heap.objs.size + 2 ≤ c ∧ (pushCells ((s.heap.push { cls := .type "list", dict := none, data := .seq ([] : List Value).toArray }).push { cls := .type "dict", data := .dict #[] }) scope.names).IsCell c none) ∨ X.env.cells.lookup n = some c := fun n c e => by
    have e' : (cellsFrom ((s.heap.push { cls := .type "list", dict := none, data := .seq ([] : List Value).toArray }).push { cls := .type "dict", data := .dict #[] }).objs.size scope.names (clOf X.env.cells scope.names [])).lookup n = some c := by rw [sz2]; exact e
    rcases cellsFrom_new e' with ⟨q1, q2⟩ | q
    · rw [sz2] at q1; exact .inl ⟨q1, q2⟩
    · exact .inr (clLook n c q)
  have fresh : ∀ a, s.heap.objs.size ≤ a → H a = none := fun a h => I.hok.fresh h
  have fpLt : ∀ b ∈ fp, b < s.heap.objs.size := fun b hb => let ⟨_, e⟩ := ho b hb; Heap.lt_size e
  have fpStk : ∀ b ∈ fp, b ∉ frs X.stack := fun b hb z => by
    obtain ⟨_, f1, f2, _⟩ := hf b hb
    exact (List.mem_cons.mp (I.stkSub b z)).elim f1 f2
  have hasFree : ∀ y ∈ scope.names, y.2 = .free → ∃ c, X.env.cells.lookup y.1 = some c := fun y hy e => I.ok.has y.1 (ok.fre y hy e)
  have kindR : ∀ y, (compEnvC scope (cellsFrom (s.heap.objs.size + 2) scope.names (clOf X.env.cells scope.names [])) (s.heap.objs.size + 1) X.env).kindOf y =
      (scope.names.lookup y).map fun k => if (k == NameKind.free && X.env.scope.kind == .function && X.env.kindOf y == some .cell) then NameKind.cell else k := fun y => kindOf_relabel scope.names y
  refine ⟨⟨I.ok.mod, ok.kind, I.ok.glob, I.ok.blt, Nat.le_succ _, ?_, fun y hy => ?_, fun y c hfn e => ?_, I.ok.hd, I.ok.frames, .inl rfl, fun b hb => ⟨?_, fun y c e => ?_⟩, I.bs, Nat.le_trans I.ok.bsz I.sz, fun b o e hb => ?_, fun b hb => fpStk b hb, I.stack, I.stkFree⟩,
    rfl, I.bare, Un.kept keep, ⟨fun _ => none, ?_, fun i y v h1 h2 h3 => ?_⟩, fun y c e => ?_, fresh _ (Nat.le_succ _), fun y c e => ?_, fun p hp => absurd (show p ∈ ([] : List (Addr × Obj)) from hp) (by simp), I.hok.kept keep, ?_⟩
  · exact cellsFrom_inj (fun a b c h1 h2 => I.ok.inj a b c (clLook a c h1) (clLook b c h2)) fun a c h1 => Nat.lt_of_lt_of_le (clLt a c h1) (Nat.le_add_right _ _)
  · -- has
    rw [show (X.comp scope (cellsFrom (s.heap.objs.size + 2) scope.names (clOf X.env.cells scope.names [])) (s.heap.objs.size + 1) (x :: M) s H fp).env.kindOf y = _ from kindR y] at hy
    show ∃ c, (cellsFrom (s.heap.objs.size + 2) scope.names (clOf X.env.cells scope.names [])).lookup y = some c
    cases hk : scope.names.lookup y with
    | none => rw [hk] at hy; rcases hy with z | z <;> cases z
    | some k =>
      have mem := PySem.mem_of_lookup hk
      by_cases k1 : k = .cell
      · subst k1; exact cellsFrom_has mem
      by_cases k2 : k = .free
      · subst k2
        obtain ⟨c, ec⟩ := hasFree _ mem rfl
        exact cellsFrom_acc (clOf_has ec mem)
      · rw [hk] at hy
        have hb : (k == NameKind.free) = false := by simpa using k2
        rw [Option.map_some, hb, Bool.false_and, Bool.false_and, if_neg Bool.false_ne_true] at hy
        rcases hy with z | z
        · exact absurd (Option.some.inj z) k1
        · exact absurd (Option.some.inj z) k2
  · -- cab
    have hl : scope.names.lookup y = some .cell := by simpa [Cx.comp] using hfn
    exact cellsFrom_ge (lo := s.heap.objs.size) (by omega) (.inl (PySem.mem_of_lookup hl)) e
  · -- exf
    exact Nat.ne_of_lt (Nat.lt_succ_of_lt (fpLt b hb))
  · rcases look y c e with ⟨q, _⟩ | q
    · exact fun z => absurd (fpLt b hb) (by rw [← z]; exact Nat.not_lt.mpr (Nat.le_trans (Nat.le_add_right _ 2) q))
    · exact (hf b hb).2.2.2.2.1 y c q
  · -- noex
    rcases (hf b hb).2.2.2.1 with z | z
    · exact I.ok.noex b o e z
    · exact absurd (Nat.lt_of_lt_of_le (Heap.lt_size e) (Nat.le_trans I.ok.bsz z)) (Nat.lt_irrefl _)
  · -- the new map
    have e0 : (s.heap.push { cls := .type "list", dict := none, data := .seq ([] : List Value).toArray }).objs.size = s.heap.objs.size + 1 := Heap.size_push ..
    have q := (Heap.Ns.new (s.heap.push { cls := .type "list", dict := none, data := .seq ([] : List Value).toArray }) (.type "dict")).keeps (pushCells_keeps scope.names _)
    rw [e0] at q
    exact q
  · -- names
    cases i with
    | zero => cases h2
    | succ j =>
      have h2' : (sel idx σ)[j]? = some (some v) := h2
      have h1' : M[j]? = some y := h1
      obtain ⟨k, ek, ev⟩ := sel_get h2'
      obtain ⟨hl, k', ek', eN⟩ := ok.cap j y h1'
      rw [ek] at ek'; cases ek'
      have mem := PySem.mem_of_lookup hl
      have hk := ok.fre _ mem rfl
      obtain ⟨m, hn, hloc⟩ := I.loc
      have vis : Vis X.env.scope y := hk.elim (fun z => .inr (.inl z)) fun z => .inr (.inr z)
      obtain ⟨u, r, l⟩ := hloc k y v eN ev vis
      refine ⟨u, r, ?_⟩
      rcases l with ⟨z, _⟩ | ⟨_, c, ec, hcell⟩
      · rw [z] at hk; rcases hk with z | z <;> cases z
      · refine .inr ⟨?_, c, ?_, hcell.keeps keep⟩
        · rw [show (X.comp scope (cellsFrom (s.heap.objs.size + 2) scope.names (clOf X.env.cells scope.names [])) (s.heap.objs.size + 1) (x :: M) s H fp).env.kindOf y = _ from kindR y, hl, Option.map_some]
          by_cases hcc : (NameKind.free == NameKind.free && X.env.scope.kind == .function && X.env.kindOf y == some .cell) = true
          · rw [if_pos hcc]; exact .inl rfl
          · rw [if_neg hcc]; exact .inr rfl
        · show (cellsFrom (s.heap.objs.size + 2) scope.names (clOf X.env.cells scope.names [])).lookup y = some c
          rw [cellsFrom_not]
          · obtain ⟨d, ed⟩ := clOf_has (acc := []) ec mem
            rw [ed, ← clLook y d ed, ec]
          · intro p hp hpc hpy
            have := ok.cel p hp hpc
            rw [hpy, hl] at this
            cases this
  · rcases look y c e with ⟨_, q⟩ | q
    · exact ⟨_, q⟩
    · obtain ⟨v, z⟩ := I.cell y c q
      exact ⟨v, z.keeps keep⟩
  · rcases look y c e with ⟨q, _⟩ | q
    · exact fresh _ (by omega)
    · exact I.freeC y c q
  · show (none :: sel idx σ).length = (x :: M).length
    unfold sel
    rw [List.length_cons, List.length_cons, List.length_map, ok.len]
theorem compLoop_any {prog : Program} {w : World} {A : Around} {R : Result → Shared → Prop} {s : Shared} {elt target iter : Expr} {ifs : List Expr} {scope : Scope} {pos : Pos} {it acc : Value} {env : Env} (I : Nat → Shared → Prop)
    (turn : ∀ n s, I n s → wpAny (model prog w) A (pyNext it) (fun r s₁ => match r with
      | none => R (.ok .next) s₁
      | some v => wpAny (model prog w) A (letOwnedTupleGo target it v) (fun _ s₁' => wpAny (model prog w) A (assign target env v) (fun _ s₂ =>
          wpAny (model prog w) A (forIn ifs true fun c r => if r = true then do let ok ← isTrue c env (eval c env); pure (ForInStep.yield ok) else pure (ForInStep.yield r)) (fun ok s₃ =>
            if ok = true then wpAny (model prog w) A (eval elt env) (fun x s₄ =>
              wpAny (model prog w) A (call (.builtin "list.append") [acc, x]) (fun _ s₅ => ∃ m, m < n ∧ I m s₅) (fun _ _ => False) s₄) (fun _ _ => False) s₃
            else ∃ m, m < n ∧ I m s₃) (fun _ _ => False) s₂) (fun _ _ => False) s₁') (fun _ _ => False) s₁) (fun _ _ => False) s)
    (n : Nat) (h : I n s) :
    codeAny (model prog w) A (.compLoop (.ListComp elt [⟨target, iter, ifs, 0⟩] scope pos) 0 it acc env) R s := by
  refine codeAny_loop rfl I (fun n s hI => ?_) n h
  show wpAny _ A ((compTurn (.ListComp elt [⟨target, iter, ifs, 0⟩] scope pos) 0 it acc env).onRaise (fun x => do noteFrame x env; theTreesLotGoes x)) _ _ s
  refine wpAny_noted ?_
  rw [compTurn_list]
  refine wpAny_bind (wpAny_standAt (wpAny_bind (wpAny_mono (turn n s hI) (fun r s₁ h₁ => ?_) fun _ _ h' => h'.elim)))
  cases r with
  | none => exact wpAny_pure h₁
  | some v =>
    refine wpAny_bind (wpAny_mono h₁ (fun _ s₁' h₁' => ?_) fun _ _ h' => h'.elim)
    refine wpAny_bind (wpAny_mono h₁' (fun _ s₂ h₂ => wpAny_bind (wpAny_mono h₂ (fun ok s₃ h₃ => ?_) fun _ _ h' => h'.elim)) fun _ _ h' => h'.elim)
    cases ok with
    | false => exact wpAny_pure ⟨rfl, h₃⟩
    | true =>
      exact wpAny_bind (wpAny_bind (wpAny_mono h₃ (fun x s₄ h₄ => wpAny_bind (wpAny_mono h₄ (fun _ s₅ h₅ => wpAny_pure (wpAny_pure ⟨rfl, h₅⟩)) fun _ _ h' => h'.elim)) fun _ _ h' => h'.elim))
def PTs (X : Cx) (cs : List Expr) (t : TT) : Prop :=
  ∀ (pins : List (Addr × Obj)) (s : Shared) (σ : St) (H : Hp) (Q : Bool → Hp → Prop), Inv X pins σ H s → t σ H Q →
    wpAny (model X.prog X.w) X.A (forIn cs true fun c r => if r = true then do let ok ← isTrue c X.env (eval c X.env); pure (ForInStep.yield ok) else pure (ForInStep.yield r)) (TP X pins σ Q) X.xe s
def ttTrue : TT := fun _ H Q => Q true H
theorem pts_nil : PTs X [] ttTrue := fun _ _ _ H _ I h => wpAny_tests_nil ⟨H, I, h⟩
theorem pts_one {c : Expr} {t : TT} (h : PT X c t) : PTs X [c] t := fun pins s σ H Q I hq => wpAny_tests_one (h pins s σ H Q I hq)
def CompW (J : It) (H1 : Hp) (one : V → Hp → (Option V → Hp → Prop) → Prop) (Q : List V → Hp → Prop) : Prop :=
  ∃ (n : Nat) (W : Nat → List V → Hp → Prop), W 0 [] H1 ∧ n ≤ sizeLine ∧ ∀ i ys H', W i ys H' → (J.stop i H' ∧ Q ys H') ∨
    (J.go i H' ∧ i < n ∧ ∃ N : Option V → Hp → Prop, (∀ o H3, N o H3 → W (i + 1) (ys ++ o.toList) H3) ∧ ∀ x H2, J.yld i H' x H2 → one x H2 N)
def oneOf (tc : TT) (te : TE) (σ : St) (x : V) (H : Hp) (k : Option V → Hp → Prop) : Prop :=
  tc (some x :: σ) H fun b H1 => if b = true then te (some x :: σ) H1 fun v H2 => k (some v) H2 else k none H1
def tCompIf (wi : TI) (idx : List Nat) (tc : TT) (te : TE) : TE := fun σ H Q => wi σ H fun J H1 => CompW J H1 (oneOf tc te (sel idx σ)) fun ys H' => ∀ p, H' p = none → Q (.ref p) (upd H' p (.lst ys))
theorem comp_block {elt iter : Expr} {ifs : List Expr} {scope : Scope} {pos : Pos} {x : Str} {px : Pos} {M : List Str} {idx : List Nat} {tc : TT} {te : TE} {itv : Value} {Q : List V → Hp → Prop}
    {RR : Value → Addr → Result → Shared → Prop} 
    (hc : X.calm = true) (ok : CompOk X scope M idx) (hN : (x :: M).Nodup) (hx : scope.names.lookup x = some .local ∨ scope.names.lookup x = some .cell)
    (ht : ∀ cells C s2 H2 fp, PTs (X.comp scope cells C (x :: M) s2 H2 fp) ifs tc) (he : ∀ cells C s2 H2 fp, PE (X.comp scope cells C (x :: M) s2 H2 fp) elt te)
    (h : PIE X pins σ (.Name x px) (fun J H1 => CompW J H1 (oneOf tc te (sel idx σ)) Q) itv s)
    (hR : ∀ (D C : Addr) (ys : List V) (H' : Hp) (s' : Shared), s.heap.objs.size ≤ D → s.heap.objs.size ≤ C → D ≠ C → H' D = none → H' C = none → Q ys H' → (∃ m, s'.heap.Ns C m) →
      (∀ h' tk, Heap.SameBut C s'.heap h' → Inv X pins σ (upd H' D (.lst ys)) { s' with heap := h', toks := tk }) → RR (.ref D) C (.ok .next) s') :
    wpAny (model X.prog X.w) X.A (newList []) (fun acc s₃ => wpAny (model X.prog X.w) X.A (newFunctionEnv scope X.env.globals (clOf X.env.cells scope.names []) [] X.env.qual none .none (some X.env)) (fun cenv s₄ =>
      codeAny (model X.prog X.w) X.A (.compStart (.ListComp elt [⟨.Name x px, iter, ifs, 0⟩] scope pos) 0 itv acc { cenv with scope := relabel scope X.env }) (RR acc cenv.locals) s₄) X.xe s₃) X.xe s := by
  obtain ⟨it, fp, tn, J, H2, e, I2, T, st2, f2, n, W, w0, hn, turn⟩ := h
  subst e
  have ho : ∀ b ∈ fp, ∃ o, s.heap.get? b = some o := fun b hb => let ⟨o, e, _⟩ := T.obj 0 _ st2 b hb; ⟨o, e⟩
  have I3 := comp_start (x := x) ok hc I2 f2 ho
  have sz1 : (s.heap.push { cls := .type "list", dict := none, data := .seq ([] : List Value).toArray }).objs.size = s.heap.objs.size + 1 := Heap.size_push ..
  have keep0 : ∀ b o, s.heap.get? b = some o → (pushCells ((s.heap.push { cls := .type "list", dict := none, data := .seq ([] : List Value).toArray }).push { cls := .type "dict", data := .dict #[] }) scope.names).get? b = some o :=
    fun b o e => pushCells_keeps _ _ _ _ (Heap.get?_push_of_some _ (Heap.get?_push_of_some _ e))
  have acc0 : (pushCells ((s.heap.push { cls := .type "list", dict := none, data := .seq ([] : List Value).toArray }).push { cls := .type "dict", data := .dict #[] }) scope.names).PlainList s.heap.objs.size ([] : List Value).toArray :=
    ⟨_, pushCells_keeps _ _ _ _ (Heap.get?_push_of_some _ (Heap.get?_push_size _ rfl))⟩
  have fpLt : ∀ b ∈ fp, b < s.heap.objs.size := fun b hb => let ⟨_, e⟩ := ho b hb; Heap.lt_size e
  refine wpAny_newList ?_
  refine newCompEnv ?_
  dsimp only
  rw [sz1]
  generalize hcells : cellsFrom (s.heap.objs.size + 1 + 1) scope.names (clOf X.env.cells scope.names []) = cells
  have hcells' : cellsFrom (s.heap.objs.size + 2) scope.names (clOf X.env.cells scope.names []) = cells := hcells
  rw [hcells'] at I3
  generalize hh : pushCells ((s.heap.push { cls := .type "list", dict := none, data := .seq ([] : List Value).toArray }).push { cls := .type "dict", data := .dict #[] }) scope.names = h1 at I3 keep0 acc0 ⊢
  have ht := ht cells (s.heap.objs.size + 1) s H2 fp
  have he := he cells (s.heap.objs.size + 1) s H2 fp
  have st3 : tn 0 h1 := T.keep 0 _ _ st2 fun b hb o e => keep0 b o e
  have hg : PG (X.comp scope cells (s.heap.objs.size + 1) (x :: M) s H2 fp) (.Name x px) (gName 0) := by
    refine pg_name hN rfl ?_ ?_
    · show (relabel scope X.env).names.lookup x = some .local ∨ (relabel scope X.env).names.lookup x = some .cell
      rw [show (relabel scope X.env).names.lookup x = _ from kindOf_relabel scope.names x]
      rcases hx with z | z
      · rw [z]; exact .inl rfl
      · rw [z]; exact .inr rfl
    · rcases hx with z | z
      · refine .inr ?_
        show (relabel scope X.env).names.lookup x = some .local
        rw [show (relabel scope X.env).names.lookup x = _ from kindOf_relabel scope.names x, z]
        rfl
      · refine .inl ?_
        show (scope.names.lookup x == some .cell) = true
        rw [z]; rfl
  have stat : ∀ {pins' : List (Addr × Obj)} {H' : Hp}, (∀ p ∈ pins', p.1 = s.heap.objs.size) → (∀ b ∈ fp, H' b = none) → ∀ b ∈ fp, FpOk (X.comp scope cells (s.heap.objs.size + 1) (x :: M) s H2 fp) pins' H' b := fun {pins' H'} hp hn b hb =>
    ⟨hn b hb, (I3.ok.exf b hb).1, I3.ok.exfs b hb, .inl hb, (I3.ok.exf b hb).2, fun p hp' => by
      have e := hp p (show p ∈ pins' from by simpa [Cx.comp] using hp')
      rw [e]; exact Nat.ne_of_gt (fpLt b hb)⟩
  have loop : ∀ (s₄ : Shared), s₄ = { s with heap := h1 } → codeAny (model X.prog X.w) X.A (.compLoop (.ListComp elt [⟨.Name x px, iter, ifs, 0⟩] scope pos) 0 (.ref it) (.ref s.heap.objs.size) (compEnvC scope cells (s.heap.objs.size + 1) X.env))
      (RR (.ref s.heap.objs.size) (s.heap.objs.size + 1)) s₄ := by
    rintro s₄ rfl
    refine compLoop_any (fun k s' => ∃ (i : Nat) (ys : List V) (its : List Value) (H' : Hp), Inv (X.comp scope cells (s.heap.objs.size + 1) (x :: M) s H2 fp) [] (none :: sel idx σ) H' s' ∧ tn i s'.heap ∧ (∀ b ∈ fp, H' b = none) ∧ H' s.heap.objs.size = none ∧
      s'.heap.PlainList s.heap.objs.size its.toArray ∧ Vals ys its ∧ ys.length ≤ i ∧ i ≤ n ∧ W i ys H' ∧ k = n - i) ?_ n ⟨0, [], [], H2, I3, st3, fun b hb => (f2 b hb).1, I2.hok.fresh (Nat.le_refl _), acc0, .nil, Nat.le_refl _, Nat.zero_le _, w0, rfl⟩
    rintro k s' ⟨i, ys, its, H', I', st', fr', hD', hpl', hv', hlen, hlin, w', rfl⟩
    obtain ⟨nn, hobj⟩ := id hpl'
    have pinD : ∀ {H5 : Hp} {s5 : Shared} {σ5 : St} {P5 : List (Addr × Obj)}, Inv (X.comp scope cells (s.heap.objs.size + 1) (x :: M) s H2 fp) P5 σ5 H5 s5 → s5.heap.get? s.heap.objs.size = some { cls := .type "list", data := .seq its.toArray nn } → H5 s.heap.objs.size = none →
        ∀ p ∈ [(s.heap.objs.size, ({ cls := .type "list", data := .seq its.toArray nn } : Obj))], s5.heap.get? p.1 = some p.2 ∧ H5 p.1 = none ∧ p.1 ≠ (X.comp scope cells (s.heap.objs.size + 1) (x :: M) s H2 fp).env.locals ∧ p.1 ∉ (X.comp scope cells (s.heap.objs.size + 1) (x :: M) s H2 fp).fs ∧ ∀ v, p.2.data ≠ .cell v :=
      fun {H5 s5 σ5 P5} I5 e5 n5 p hp => by
        have ep : p = (s.heap.objs.size, ({ cls := .type "list", data := .seq its.toArray nn } : Obj)) := by simpa using hp
        subst ep
        refine ⟨e5, n5, Nat.ne_of_lt (Nat.lt_succ_self _), fun z => ?_, fun v z => by cases z⟩
        obtain ⟨_, o, ho, _⟩ := I5.ok.funs.mem z
        exact absurd (Heap.lt_size ho) (Nat.lt_irrefl _)
    have ID := I'.pins_of (pinD I' hobj hD')
    have ndp : ∀ p ∈ [(s.heap.objs.size, ({ cls := .type "list", data := .seq its.toArray nn } : Obj))], p.1 = s.heap.objs.size := fun p hp => by
      have ep : p = (s.heap.objs.size, ({ cls := .type "list", data := .seq its.toArray nn } : Obj)) := by simpa using hp
      rw [ep]
    rcases turn i ys H' w' with ⟨stop, qn⟩ | ⟨go, hin, N, hNW, step⟩
    · refine thn (T.done (X.comp scope cells (s.heap.objs.size + 1) (x :: M) s H2 fp) rfl rfl rfl hc i _ s' _ H' (fun _ _ => False) ID (stat ndp fr') st' stop) fun r s4 ⟨hr, I4⟩ => ?_
      subst hr
      have pin4 := I4.pin (s.heap.objs.size, ({ cls := .type "list", data := .seq its.toArray nn } : Obj)) (by simp [Cx.comp])
      obtain ⟨m4, hm4, _⟩ := id I4.loc
      refine hR s.heap.objs.size (s.heap.objs.size + 1) ys H' s4 (Nat.le_refl _) (Nat.le_succ _) (Nat.ne_of_lt (Nat.lt_succ_self _)) pin4.2.1 I4.free qn ⟨m4, hm4⟩ fun h' tk hs' => ?_
      have neC : ∀ b, b < s.heap.objs.size → b ≠ s.heap.objs.size + 1 := fun b hb => Nat.ne_of_lt (Nat.lt_succ_of_lt hb)
      have neD : ∀ b, b < s.heap.objs.size → b ≠ s.heap.objs.size := fun b hb => Nat.ne_of_lt hb
      have u4 := I4.base
      refine I2.call' (s' := { s4 with heap := h', toks := tk }) (ch := fp) I4.os ?_ ?_ I4.bare fun b hb => ?_
      · refine ⟨fun b o e1 e2 e3 e4 => ?_, fun b o e1 e2 e3 e4 => ?_, fun b o e1 e2 e3 => ?_, fun b o e1 e2 => ?_, fun b xs e1 => ?_, fun b o u e1 => ?_, fun b ps e1 => ?_⟩
        · exact (hs'.2 b (neC b (Heap.lt_size e1))).trans (u4.keep b o e1 e2 e3 e4)
        · obtain ⟨sl, q⟩ := u4.slot b o e1 e2 e3 e4
          exact ⟨sl, (hs'.2 b (neC b (Heap.lt_size e1))).trans q⟩
        · rw [upd_ne (neD b (Heap.lt_size e1))]; exact u4.free b o e1 e2 e3
        · obtain ⟨o', q⟩ := u4.there b o e1 e2
          exact ⟨o', (hs'.2 b (neC b (Heap.lt_size e1))).trans q⟩
        · have q := u4.tups b xs e1
          rw [upd_ne (ne_of_none q pin4.2.1)]; exact q
        · have q := u4.frzs b o u e1
          rw [upd_ne (ne_of_none q pin4.2.1)]; exact q
        · obtain ⟨more, q⟩ := u4.tbls b ps e1
          exact ⟨more, by rw [upd_ne (ne_of_none q pin4.2.1)]; exact q⟩
      · intro b o e1
        by_cases hb : b = s.heap.objs.size
        · subst hb
          rw [upd_same] at e1; cases e1
          exact ⟨Nat.le_trans hlen (Nat.le_trans hlin hn), its, nn, hv', (hs'.2 _ (Nat.ne_of_lt (Nat.lt_succ_self _))).trans pin4.1⟩
        · rw [upd_ne hb] at e1
          refine (I4.hok b o e1).stay (fun c u hcu q => (hs'.2 c ?_).trans q) (fun c q => by rw [upd_ne (ne_of_none q pin4.2.1)]; exact q) fun c xs q => by rw [upd_ne (ne_of_none q pin4.2.1)]; exact q
          rintro rfl
          rcases hcu with z | z
          · rw [← z] at e1
            have z2 := I4.free
            rw [show (X.comp scope cells (s.heap.objs.size + 1) (x :: M) s H2 fp).env.locals = s.heap.objs.size + 1 from rfl, e1] at z2
            cases z2
          · have z2 := I4.free
            rw [show (X.comp scope cells (s.heap.objs.size + 1) (x :: M) s H2 fp).env.locals = s.heap.objs.size + 1 from rfl, z] at z2
            cases z2
      · obtain ⟨_, g1, g2, g3, g4, g5⟩ := f2 b hb
        exact ⟨g3, g1, g4, g5⟩
    · refine thn (T.item (X.comp scope cells (s.heap.objs.size + 1) (x :: M) s H2 fp) rfl rfl rfl hc i _ s' _ H' (fun _ _ => False) ID (stat ndp fr') st' go) fun r s4 ⟨u, hr, h4⟩ => ?_
      subst hr
      refine thn h4 fun _ s5 ⟨y, H5, I5, r5, y5, st5, fr5⟩ => ?_
      have I5' := I5.pinned (stat ndp fr5) (T.obj _ _ st5)
      refine thn (hg _ s5 _ H5 y u (fun σ' H6 => σ' = some y :: sel idx σ ∧ H6 = H5) I5' r5 ⟨rfl, rfl⟩) fun _ s6 ⟨σ6, H6, I6, e6, e6'⟩ => ?_
      subst e6 e6'
      have fin : ∀ {H8 : Hp} {s8 : Shared} {σ8 : St}, Inv (X.comp scope cells (s.heap.objs.size + 1) (x :: M) s H2 fp) ([(s.heap.objs.size, ({ cls := .type "list", data := .seq its.toArray nn } : Obj))] ++ pinsAt fp s5.heap) σ8 H8 s8 →
          s8.heap.PlainList s.heap.objs.size its.toArray ∧ H8 s.heap.objs.size = none ∧ tn (i + 1) s8.heap ∧ ∀ b ∈ fp, H8 b = none := fun {H8 s8 σ8} I8 => by
        have p8 := I8.pin (s.heap.objs.size, ({ cls := .type "list", data := .seq its.toArray nn } : Obj)) (by simp [Cx.comp])
        refine ⟨⟨nn, p8.1⟩, p8.2.1, T.keep _ _ _ st5 fun b hb o e => (I8.pin (b, o) (List.mem_append_right _ (List.mem_append_right _ (mem_pinsAt hb e)))).1, fun b hb => ?_⟩
        obtain ⟨o, e, _⟩ := T.obj _ _ st5 b hb
        exact (I8.pin (b, o) (List.mem_append_right _ (List.mem_append_right _ (mem_pinsAt hb e)))).2.1
      have back : ∀ {H8 : Hp} {s8 : Shared} {P8 : List (Addr × Obj)}, Inv (X.comp scope cells (s.heap.objs.size + 1) (x :: M) s H2 fp) P8 (some y :: sel idx σ) H8 s8 → Inv (X.comp scope cells (s.heap.objs.size + 1) (x :: M) s H2 fp) [] (none :: sel idx σ) H8 s8 := fun I8 =>
        (I8.pins_of fun p hp => absurd hp (by simp)).weak rfl fun j v e => by
          cases j with
          | zero => cases e
          | succ j => exact e
      refine thn (ht _ s6 _ _ _ I6 (step y _ y5)) fun b s7 ⟨H7, I7, q7⟩ => ?_
      cases b with
      | false =>
        have q7' : W (i + 1) (ys ++ []) H7 := hNW none H7 q7
        rw [List.append_nil] at q7'
        obtain ⟨g1, g2, g3, g4⟩ := fin I7
        refine show (if false = true then _ else _) from ?_
        rw [if_neg Bool.false_ne_true]
        exact ⟨n - (i + 1), by omega, i + 1, ys, its, H7, back I7, g3, g4, g2, g1, hv', Nat.le_succ_of_le hlen, hin, q7', rfl⟩
      | true =>
        refine show (if true = true then _ else _) from ?_
        rw [if_pos rfl]
        have q7' : te (some y :: sel idx σ) H7 fun v H3 => N (some v) H3 := q7
        refine thn (he _ s7 _ _ _ I7 q7') fun u8 s8 ⟨v8, H8, I8, r8, w8⟩ => ?_
        have w8 : W (i + 1) (ys ++ [v8]) H8 := hNW (some v8) H8 w8
        obtain ⟨g1, g2, g3, g4⟩ := fin I8
        refine wpAny_list_append_plain g1 (fun h' hpl hs' => ?_) (by
          rw [List.size_toArray, ← hv'.length]
          exact Nat.le_trans hlen (Nat.le_trans hlin hn))
        have I9 := back I8
        have hpl2 : h'.PlainList s.heap.objs.size (its ++ [u8]).toArray := by
          have e : (its ++ [u8]).toArray = its.toArray.push u8 := by simp
          rw [e]; exact hpl
        refine ⟨n - (i + 1), by omega, i + 1, ys ++ [v8], its ++ [u8], H8, I9.turned (it := s.heap.objs.size) (t' := s8.toks) (fun b o hb e => (hs'.2 b hb).trans e) g2 (Nat.ne_of_lt (Nat.lt_succ_self _)) (.inr (Nat.le_refl _)) (fun z c ec hcz => ?_) (fun p hp => absurd hp (by simp [Cx.comp])),
          T.keep _ _ _ g3 (fun b hb o e => (hs'.2 b (Nat.ne_of_lt (fpLt b hb))).trans e), g4, g2, hpl2, hv'.append (.cons r8 .nil), by rw [List.length_append]; exact Nat.succ_le_succ hlen, hin, w8, rfl⟩
        obtain ⟨v, o, ho, hd⟩ := I9.cell z c ec
        obtain ⟨n9, g9⟩ := g1
        rw [hcz, g9] at ho
        cases ho
        cases hd
  exact codeAny_compStart_list (loop _ rfl) (T.self _ 0 _ _ _ st3 (loop _ rfl))
theorem pe_compIf {elt iter : Expr} {ifs : List Expr} {scope : Scope} {pos : Pos} {x : Str} {px : Pos} {M : List Str} {idx : List Nat} {wi : TI} {tc : TT} {te : TE}
    (hc : X.calm = true) (hi : PI X (.Name x px) iter wi) (ok : CompOk X scope M idx) (hN : (x :: M).Nodup) (hx : scope.names.lookup x = some .local ∨ scope.names.lookup x = some .cell)
    (ht : ∀ cells C s2 H2 fp, PTs (X.comp scope cells C (x :: M) s2 H2 fp) ifs tc) (he : ∀ cells C s2 H2 fp, PE (X.comp scope cells C (x :: M) s2 H2 fp) elt te)
    (hs : ∀ x, foldedSetIterable iter X.env x = pure x := by intro _; rfl) : PE X (.ListComp elt [⟨.Name x px, iter, ifs, 0⟩] scope pos) (tCompIf wi idx tc te) := by
  intro pins s σ H Q I h
  rw [eval_ListComp]
  refine wpAny_comprehension_free (use := none) rfl hs (closureFor_cl fun y hy e => I.ok.has y.1 (ok.fre y hy e)) ok.kind ok.loc (thn (hi pins s σ H _ I h) fun v s1 h1 => thn h1 fun itv s2 h2 => ?_)
  refine comp_block (RR := fun acc C => compPost (model X.prog X.w) X.A X.xe none (EP X pins σ Q) acc C) hc ok hN hx ht he h2 fun D C ys H' s' hD hC hDC nD nC q hm hI => ?_
  obtain ⟨m, hm⟩ := hm
  exact ⟨m, hm, fun h' hs' => ⟨.ref D, upd H' D (.lst ys), hI h' s'.toks hs', rfl, q D nD⟩⟩
def tSetComp (i : Nat) (t : TE) : TS := fun D σ H => t σ H fun v H1 => D.nx (σ.set i (some v)) H1
theorem ps_setComp {elt iter : Expr} {ifs : List Expr} {scope : Scope} {pos spos py : Pos} {x y : Str} {px : Pos} {M : List Str} {idx : List Nat} {wi : TI} {tc : TT} {te : TE} {i : Nat}
    (hNd : X.N.Nodup) (hi' : X.N[i]? = some y) (hy : Loc X.env.scope y)
    (hc : X.calm = true) (hi : PI X (.Name x px) iter wi) (ok : CompOk X scope M idx) (hN : (x :: M).Nodup) (hx : scope.names.lookup x = some .local ∨ scope.names.lookup x = some .cell)
    (ht : ∀ cells C s2 H2 fp, PTs (X.comp scope cells C (x :: M) s2 H2 fp) ifs tc) (he : ∀ cells C s2 H2 fp, PE (X.comp scope cells C (x :: M) s2 H2 fp) elt te)
    (hs : ∀ x, foldedSetIterable iter X.env x = pure x := by intro _; rfl)
    (hsw : swapsWith (.ListComp elt [⟨.Name x px, iter, ifs, 0⟩] scope pos) (some (.Name y py)) spos.line X.env = pure true := by rfl)
    (hf : X.fn y = true ∨ X.env.scope.names.lookup y = some .local := by first | exact .inl rfl | exact .inr rfl | assumption) :
    PS X (.Assign [.Name y py] (.ListComp elt [⟨.Name x px, iter, ifs, 0⟩] scope pos) spos) (tSetComp i (tCompIf wi idx tc te)) := by
  intro pins s σ H D I h
  rw [exec_Assign_Name_used _ _ _ _ hsw]
  refine wpAny_bind (wpAny_standAt (wpAny_bind ?_))
  show wpAny _ X.A (do let _ ← comprehension (.ListComp elt [⟨.Name x px, iter, ifs, 0⟩] scope pos) scope X.env _ (newList []) false (eval iter X.env) (some (assign (.Name y py) X.env))) _ _ s
  refine wpAny_bind (wpAny_mono (wpAny_comprehension_free (use := some (assign (.Name y py) X.env)) (Q := fun _ s' => SP X pins D .next s') rfl hs (closureFor_cl fun y hy e => I.ok.has y.1 (ok.fre y hy e)) ok.kind ok.loc
    (thn (hi pins s σ H _ I h) fun v s1 h1 => thn h1 fun itv s2 h2 => ?_)) (fun _ s' hq => wpAny_pure (wpAny_pure hq)) fun _ _ e => e)
  have I2 : ∃ H', Inv X pins σ H' s2 := let ⟨_, _, _, _, H', _, I2, _⟩ := h2; ⟨H', I2⟩
  refine comp_block (RR := fun acc C => compPost (model X.prog X.w) X.A X.xe (some (assign (.Name y py) X.env)) (fun _ s' => SP X pins D .next s') acc C) hc ok hN hx ht he h2 fun L C ys H' s' hD hC hDC nD nC q hm hI => ?_
  obtain ⟨H2, I2⟩ := I2
  obtain ⟨m, hm⟩ := hm
  have I5 : Inv X pins σ (upd H' L (.lst ys)) s' := hI s'.heap s'.toks (Heap.SameBut.refl ..)
  obtain ⟨mL, hmL, _⟩ := id I2.loc
  have ltL : X.env.locals < s2.heap.objs.size := hmL.lt
  have neL : C ≠ X.env.locals := Nat.ne_of_gt (Nat.lt_of_lt_of_le ltL hC)
  have neCell : ∀ z c, X.env.cells.lookup z = some c → c ≠ C := fun z c e => by
    obtain ⟨v, q⟩ := I2.cell z c e
    exact Nat.ne_of_lt (Nat.lt_of_lt_of_le q.lt hC)
  show wpAny _ X.A (assign (.Name y py) X.env (.ref L)) _ _ _
  refine wpAny_assign_Name (store_ok2 (v := .ref L) I5 hNd hi' hy rfl (fun s6 I6 hch => ?_) hf)
  obtain ⟨a, hsa, ha⟩ := hch
  have neA : C ≠ a := by
    rcases ha with e | e
    · rw [e]; exact neL
    · exact Ne.symm (neCell y a e)
  refine ⟨m, hm.sameBut hsa neA, fun h' hs' => ?_⟩
  refine ⟨_, _, I6.turned (it := C) (t' := s6.toks) (fun b o hb e => (hs'.2 b hb).trans e) (by rw [upd_ne (Ne.symm hDC)]; exact nC) neL (.inr (Nat.le_trans I2.sz hC)) neCell (fun p hp z => ?_), q L nD⟩
  have e2 := (I2.pin p hp).1
  exact absurd (Nat.lt_of_lt_of_le (Heap.lt_size e2) hC) (by rw [z]; exact Nat.lt_irrefl _)
end
theorem compW_list {K : PySem.W.Frag} {a : Addr} {xs : List V} {H : Hp} {one : V → Hp → (Option V → Hp → Prop) → Prop} {Q : List V → Hp → Prop} (Pv : Nat → List V → Hp → Prop) (h0 : Pv 0 [] H) (hn : xs.length ≤ sizeLine)
    (hl : ∀ i ys H, i ≤ xs.length → Pv i ys H → SqL K H a xs) (hs : ∀ i x ys H, xs[i]? = some x → Pv i ys H → one x H fun o H2 => Pv (i + 1) (ys ++ o.toList) H2) (hd : ∀ ys H, Pv xs.length ys H → Q ys H) : CompW (Itl K a) H one Q := by
  refine ⟨xs.length, fun i ys H => i ≤ xs.length ∧ Pv i ys H, ⟨Nat.zero_le _, h0⟩, hn, ?_⟩
  rintro i ys H ⟨hi, p⟩
  have q := hl i ys H hi p
  by_cases hlt : i < xs.length
  · refine .inr ⟨⟨xs, xs[i], q, by simp [hlt]⟩, hlt, fun o H3 => Pv (i + 1) (ys ++ o.toList) H3, fun o H3 z => ⟨hlt, z⟩, fun x H2 y => ?_⟩
    obtain ⟨e, y⟩ := y
    subst e
    exact hs i x ys _ (y xs q) p
  · have e : i = xs.length := by omega
    subst e
    exact .inl ⟨⟨xs, q, Nat.le_refl _⟩, hd ys H p⟩
theorem compW_tup {K : PySem.W.Frag} {a : Addr} {xs : List V} {H : Hp} {one : V → Hp → (Option V → Hp → Prop) → Prop} {Q : List V → Hp → Prop} (Pv : Nat → List V → Hp → Prop) (h0 : Pv 0 [] H) (hn : xs.length ≤ sizeLine)
    (hl : ∀ i ys H, i ≤ xs.length → Pv i ys H → SqT K H a xs) (hs : ∀ i x ys H, xs[i]? = some x → Pv i ys H → one x H fun o H2 => Pv (i + 1) (ys ++ o.toList) H2) (hd : ∀ ys H, Pv xs.length ys H → Q ys H) : CompW (Itt K a) H one Q := by
  refine ⟨xs.length, fun i ys H => i ≤ xs.length ∧ Pv i ys H, ⟨Nat.zero_le _, h0⟩, hn, ?_⟩
  rintro i ys H ⟨hi, p⟩
  have q := hl i ys H hi p
  by_cases hlt : i < xs.length
  · refine .inr ⟨⟨xs, xs[i], q, by simp [hlt]⟩, hlt, fun o H3 => Pv (i + 1) (ys ++ o.toList) H3, fun o H3 z => ⟨hlt, z⟩, fun x H2 y => ?_⟩
    obtain ⟨e, y⟩ := y
    subst e
    exact hs i x ys _ (y xs q) p
  · have e : i = xs.length := by omega
    subst e
    exact .inl ⟨⟨xs, q, Nat.le_refl _⟩, hd ys H p⟩
theorem compW_range {lo : Int} {n : Nat} {H : Hp} {one : V → Hp → (Option V → Hp → Prop) → Prop} {Q : List V → Hp → Prop} (Pv : Nat → List V → Hp → Prop) (h0 : Pv 0 [] H) (hn : n ≤ sizeLine)
    (hs : ∀ i ys H, i < n → Pv i ys H → one (.int (lo + i)) H fun o H2 => Pv (i + 1) (ys ++ o.toList) H2) (hd : ∀ ys H, Pv n ys H → Q ys H) : CompW (Itr lo n) H one Q := by
  refine ⟨n, fun i ys H => i ≤ n ∧ Pv i ys H, ⟨Nat.zero_le _, h0⟩, hn, ?_⟩
  rintro i ys H ⟨hi, p⟩
  by_cases hlt : i < n
  · refine .inr ⟨hlt, hlt, fun o H3 => Pv (i + 1) (ys ++ o.toList) H3, fun o H3 z => ⟨hlt, z⟩, fun x H2 y => ?_⟩
    obtain ⟨e, y⟩ := y
    subst e y
    exact hs i ys _ hlt p
  · have e : i = n := by omega
    subst e
    exact .inl ⟨Nat.le_refl _, hd ys H p⟩
end L2
namespace L2
open PySem PySem.Spec PyProof.Rows
mutual
inductive IsD (H : Hp) : V → PyData → Prop
  | non : IsD H .non .none
  | bl (b : Bool) : IsD H (.bl b) (.bool b)
  | int (i : Int) : IsD H (.int i) (.int i)
  | str (x : Str) : IsD H (.str x) (.str x)
  | tup {a : Addr} {xs : List V} {ds : List PyData} : H a = some (.tup xs) → IsDs H xs ds → IsD H (.ref a) (.tuple ds)
inductive IsDs (H : Hp) : List V → List PyData → Prop
  | nil : IsDs H [] []
  | cons {x : V} {xs : List V} {d : PyData} {ds : List PyData} : IsD H x d → IsDs H xs ds → IsDs H (x :: xs) (d :: ds)
end
def KeepT (H H' : Hp) : Prop := ∀ a xs, H a = some (.tup xs) → H' a = some (.tup xs)
mutual
theorem IsD.keep {H H' : Hp} (k : KeepT H H') : ∀ {v : V} {d : PyData}, IsD H v d → IsD H' v d
  | _, _, .non => .non
  | _, _, .bl b => .bl b
  | _, _, .int i => .int i
  | _, _, .str x => .str x
  | _, _, .tup h r => .tup (k _ _ h) (IsDs.keep k r)
theorem IsDs.keep {H H' : Hp} (k : KeepT H H') : ∀ {xs : List V} {ds : List PyData}, IsDs H xs ds → IsDs H' xs ds
  | _, _, .nil => .nil
  | _, _, .cons h r => .cons (IsD.keep k h) (IsDs.keep k r)
end
theorem IsDs.length {H : Hp} : ∀ {xs : List V} {ds : List PyData}, IsDs H xs ds → xs.length = ds.length
  | _, _, .nil => rfl
  | _, _, .cons _ r => by rw [List.length_cons, List.length_cons, IsDs.length r]
theorem IsDs.get {H : Hp} : ∀ {xs : List V} {ds : List PyData} {i : Nat} {d : PyData}, IsDs H xs ds → ds[i]? = some d → ∃ x, xs[i]? = some x ∧ IsD H x d
  | _, _, i, d, .nil, e => by simp at e
  | _, _, 0, d, .cons h _, e => by simp at e; subst e; exact ⟨_, rfl, h⟩
  | _, _, i + 1, d, .cons _ r, e => by
    obtain ⟨x, e1, h⟩ := IsDs.get (i := i) (d := d) r (by simpa using e)
    exact ⟨x, by simpa using e1, h⟩
theorem IsDs.append {H : Hp} : ∀ {xs ys : List V} {ds es : List PyData}, IsDs H xs ds → IsDs H ys es → IsDs H (xs ++ ys) (ds ++ es)
  | _, _, _, _, .nil, s => s
  | _, _, _, _, .cons h r, s => .cons h (IsDs.append r s)
theorem IsD.tuple_inv {H : Hp} {v : V} {ds : List PyData} (h : IsD H v (.tuple ds)) : ∃ a xs, v = .ref a ∧ H a = some (.tup xs) ∧ IsDs H xs ds := by
  cases h with
  | tup e r => exact ⟨_, _, rfl, e, r⟩
section
variable {X : Cx} {pins : List (Addr × Obj)} {σ : St} {H : Hp} {s : Shared}
mutual
theorem IsD.reads {P : Program} {w : World} {h : Heap} {H : Hp} (I : HOk P w H h) : ∀ {v : V} {d : PyData} {u : Value}, IsD H v d → RelV v u → ∃ as, Reads h u d as
  | _, _, u, .non, r => by cases (show u = Value.none from r); exact ⟨_, .none⟩
  | _, _, u, .bl b, r => by cases (show u = Value.bool b from r); exact ⟨_, .bool b⟩
  | _, _, u, .int i, r => by obtain ⟨t, rfl⟩ := (show ∃ t, u = Value.int i t from r); exact ⟨_, .int i t⟩
  | _, _, u, .str x, r => by obtain ⟨t, rfl⟩ := (show ∃ t, u = Value.str x t from r); exact ⟨_, .str x t⟩
  | _, _, u, .tup (a := a) (xs := xs) e rs, r => by
    cases (show u = Value.ref a from r)
    obtain ⟨_, its, rv, o, h1, h2, n, h3⟩ := (show ObjOk P w H h a (.tup xs) from I a _ e)
    obtain ⟨as, hr⟩ := IsDs.reads I rs rv
    exact ⟨as, .tuple h1 h2 h3 (by simpa using hr)⟩
theorem IsDs.reads {P : Program} {w : World} {h : Heap} {H : Hp} (I : HOk P w H h) : ∀ {xs : List V} {ds : List PyData} {us : List Value}, IsDs H xs ds → Vals xs us → ∃ as, ReadsAll h us ds as
  | _, _, _, .nil, .nil => ⟨_, .nil⟩
  | _, _, _, .cons h r, .cons v vs => by
    obtain ⟨as, h1⟩ := IsD.reads I h v
    obtain ⟨bs, h2⟩ := IsDs.reads I r vs
    exact ⟨_, .cons h1 h2⟩
end
def CmpD (u : Nat) (dx dy : PyData) : Prop := dx.canLay0 = true ∧ dy.canLay0 = true ∧ dx.depth ≤ 20
def rEqD (u : Nat) : R2 := fun x y H Q => ∃ dx dy, IsD H x dx ∧ IsD H y dy ∧ CmpD u dx dy ∧ Q (.bl (PyData.eqv dx dy)) H
def rNeD (u : Nat) : R2 := fun x y H Q => ∃ dx dy, IsD H x dx ∧ IsD H y dy ∧ CmpD u dx dy ∧ Q (.bl (!PyData.eqv dx dy)) H
theorem unitsD {A : Around} {a b : Nat} (hu : A.units + 64 < cLine) (h : a ≤ 20) : A.units + min a b < cLine := by
  have : min a b ≤ a := Nat.min_le_left _ _
  omega
theorem op_eqD (hu : X.A.units + 64 < cLine) : OpR X (compareOp .Eq) (rEqD 0) := by
  intro pins s σ H x y v u Q I rx ry h
  obtain ⟨dx, dy, hx, hy, ⟨c1, c2, c3⟩, q⟩ := h
  obtain ⟨as, r1⟩ := hx.reads I.hok rx
  obtain ⟨bs, r2⟩ := hy.reads I.hok ry
  exact PySem.SeqAt.compareEq_reads r1 r2 c1 c2 (unitsD hu c3) ⟨.bl _, H, I, rfl, q⟩
theorem op_neD (hu : X.A.units + 64 < cLine) : OpR X (compareOp .NotEq) (rNeD 0) := by
  intro pins s σ H x y v u Q I rx ry h
  obtain ⟨dx, dy, hx, hy, ⟨c1, c2, c3⟩, q⟩ := h
  obtain ⟨as, r1⟩ := hx.reads I.hok rx
  obtain ⟨bs, r2⟩ := hy.reads I.hok ry
  exact PySem.SeqAt.compareNe_reads r1 r2 c1 c2 (unitsD hu c3) ⟨.bl _, H, I, rfl, q⟩
theorem call_sum (hc : X.calm = true) : CallR X (.builtin "sum") (fun xs H Q => ∃ (p : Addr) (ns : List Int), xs = [.ref p] ∧ SqL X.K H p (ns.map V.int) ∧ Q (.int ns.sum) H) := by
  intro pins s σ H xs us Q I r h
  obtain ⟨p, ns, rfl, hS, q⟩ := h
  obtain ⟨u, rfl, e⟩ := vals1 r
  obtain rfl : u = Value.ref p := e
  obtain ⟨its, hv, ⟨o, n, h1, h2, h3, h4⟩, _⟩ := I.list hS
  have hi : IntsAre its ns := intsAre_of hv
  obtain ⟨xs, hx⟩ := hi.allInts.items
  have hl : s.heap.IsList p its.toArray := ⟨o, h1, h2, n, h4⟩
  refine sum_intListG (I.ok.hd hc) (hx ▸ hl) fun h' tk t' hk => ⟨.int ns.sum, H, I.kept hk, ⟨t', ?_⟩, q⟩
  have e1 : ns = xs.toList.map (·.1) := by
    rw [← nums_intItems, ← hx]
    exact (show numsOf its.toArray.toList = ns from hi.numsOf).symm
  rw [preSum_eq, List.take_of_length_le (by simp), e1]
def kindV (K : PySem.W.Frag) (H : Hp) (x : V) (T : String) : Prop := match x with
  | .non => T = "NoneType"
  | .bl _ => T = "bool"
  | .int _ => T = "int"
  | .str _ => T = "str"
  | .ref a => (T = "tuple" ∧ ∃ xs, H a = some (.tup xs)) ∨ (T = "list" ∧ ∃ xs, H a = some (.lst xs))
  | _ => False
theorem kind_ty {K : PySem.W.Frag} {H : Hp} {x : V} {T : String} (h : kindV K H x T) : TyOf K H x (.type T) := by
  cases x with
  | non => cases (show T = _ from h); exact .non
  | bl b => cases (show T = _ from h); exact .bl b
  | int i => cases (show T = _ from h); exact .int i
  | str i => cases (show T = _ from h); exact .str i
  | ref a =>
    rcases h with ⟨rfl, xs, e⟩ | ⟨rfl, xs, e⟩
    · exact .tup e
    · exact .lst e
  | byt b => exact h.elim
  | flt b => exact h.elim
  | ty n => exact h.elim
theorem call_isinst : CallR X (.builtin "isinstance") (fun xs H Q => ∃ (x : V) (T C : String) (b : Bool), xs = [x, .ty C] ∧ kindV X.K H x T ∧ PySem.W.kitOne X.K (.type T) (.type C) = some b ∧ Q (.bl b) H) := by
  intro pins s σ H xs us Q I r h
  obtain ⟨x, T, C, b, rfl, ty, e, q⟩ := h
  obtain ⟨u, c, rfl, rx, rc⟩ := vals2 r
  cases (show c = Value.type C from rc)
  exact isinst_ok I rx (kind_ty ty) e fun tk => ⟨.bl b, H, I.tok tk, rfl, q⟩
theorem op_fdivB : OpR X (binaryOp .FloorDiv) (rI (fun _ j => 0 < j ∧ j < 2 ^ 62) fun i j => .int (i / j)) := opI fun i j _ _ _ _ _ hc q => by
  rw [← Int.fdiv_eq_ediv_of_nonneg i (Int.le_of_lt hc.1)] at q
  refine floordiv_int (by omega) q (.inl (PyProof.noPylong_of_log2 ?_))
  have h1 : j.natAbs < 2 ^ 62 := by omega
  have h2 : j.natAbs ≠ 0 := by omega
  have := (Nat.log2_lt h2).mpr h1
  omega
end
end L2
namespace L2
open PySem PySem.Spec PyProof.Rows
def Raw (K : PySem.W.Frag) (mg : Str → Option Value) (x : Str) (ps : List Str) (st : Stmt) : Prop :=
  ∃ (f : Addr) (fd : FuncData), Fun K x x st f fd ∧ mg x = some (.ref f) ∧ Binds K fd ps []
def Df (P : Program) (w : World) (K : PySem.W.Frag) (mg : Str → Option Value) (base : Heap) (k : Nat) (x : Str) (ps : List Str) (sp : Sp) : Prop :=
  ∃ (f : Addr) (fd : FuncData), FnOk P w K mg base CX0 k f fd ps sp ∧ mg x = some (.ref f) ∧ PySem.W.keepIn K (.ref f) = true ∧ Binds K fd ps [] ∧ ∃ st, Fun K x x st f fd
section
variable {P : Program} {w : World} {K : PySem.W.Frag} {mg : Str → Option Value} {base : Heap}
theorem Raw.ok {x : Str} {ps N : List Str} {st : Stmt} {k : Nat} {sp : Sp} (R : Raw K mg x ps st) (S : FnScope N ps (defScope st)) (len : ∀ vs H Q E, sp vs H Q E → vs.length = ps.length)
    (hbody : ∀ (f : Addr) (cdv : Value) (A : Around) (outer : List Env) (s : Shared) (H : Hp) (vs : List V) (Q : VK) (E : XK), Room k (A.deeper (envOfC x (defScope st) s.heap.objs.size f cdv)) → sp vs H Q E →
      ∃ t, PSs (cxOf CX0 P w K mg base N x (defScope st) f cdv A outer s H E).nox (defBody st) t ∧ t { nx := fun _ H' => Q .non H', rt := Q } (start N vs) H) : Df P w K mg base (k + 1) x ps sp := by
  obtain ⟨f, fd, F, m, b⟩ := R
  exact ⟨f, fd, F.ok S len (fun cdv A outer s H vs Q E hr h => hbody f cdv A outer s H vs Q E hr h), m, F.kp, b, st, F⟩
end
theorem pe_df {X : Cx} {k : Nat} {x : Str} {ps : List Str} {sp : Sp} {p pos : Pos} {e : Expr} {es : List Expr} {t : TA} (D : Df X.prog X.w X.K X.mg X.base k x ps sp) (hr : Room k X.A) (ha : PA X (e :: es) t) (hg : Gl X x := by rfl)
    (hdb : (x == ("__debug__" : Str)) = false := by decide) (he : starEach (e :: es) X.env = (false, eval e X.env) :: starEach es X.env := by rfl) (hpl : (backTo pos (starEach es X.env)).any (·.1) = false := by rfl) :
    PE X (.Call (.Name x p) (e :: es) [] pos) (tCall sp [] E0 t) := by
  obtain ⟨f, fd, F, m, kp, b, _⟩ := D
  exact pe_call F hr hg m kp b .nil pass0 ha hdb he hpl
def KeepBut (d : Addr) (H H' : Hp) : Prop := ∀ b o, H b = some o → b ≠ d → H' b = some o
theorem KeepBut.refl (d : Addr) (H : Hp) : KeepBut d H H := fun _ _ h _ => h
theorem KeepBut.upd {d p : Addr} {H H1 : Hp} {o : HO} (a : KeepBut d H H1) (hp : H1 p = none) : KeepBut d H (upd H1 p o) := fun c u h n => by
  rw [upd_ne (ne_of_none (a c u h n) hp)]; exact a c u h n
structure DeckAt (H : Hp) (d c : Addr) (ns : List Int) (k : Nat) (r : Int) (m : Nat) (t : Int) : Prop where
  deck : H d = some (.lst [.ref c, .int k, .int r, .int m, .int t])
  cut : H c = some (.lst (ns.map V.int))
  kle : k ≤ ns.length
  few : ns.length ≤ 63
  rnn : 0 ≤ r
def Deck (H : Hp) (d : Addr) (n : Nat) : Prop := ∃ c ns k r m t, DeckAt H d c ns k r m t ∧ m ≤ n
theorem Deck.more {H : Hp} {d : Addr} {n m : Nat} (D : Deck H d n) (h : n ≤ m) : Deck H d m := let ⟨c, ns, k, r, j, t, D, hj⟩ := D; ⟨c, ns, k, r, j, t, D, Nat.le_trans hj h⟩
theorem Deck.keep {H H' : Hp} {d : Addr} {n : Nat} (D : Deck H d n) (h : Same H H') : Deck H' d n :=
  let ⟨c, ns, k, r, m, t, D, hm⟩ := D; ⟨c, ns, k, r, m, t, ⟨h _ _ D.deck, h _ _ D.cut, D.kle, D.few, D.rnn⟩, hm⟩
theorem Deck.upd {H : Hp} {d p : Addr} {n : Nat} {o : HO} (D : Deck H d n) (hp : H p = none) : Deck (upd H p o) d n := D.keep fun b u e => by rw [upd_ne (ne_of_none e hp)]; exact e
theorem same_upd {H : Hp} {p : Addr} {o : HO} (hp : H p = none) : Same H (upd H p o) := fun b u e => by rw [upd_ne (ne_of_none e hp)]; exact e
theorem Same.tups {H H' : Hp} (s : Same H H') : KeepT H H' := fun a xs e => s a _ e
end L2
namespace L2
open PySem PySem.Spec PyProof.Rows
section
variable {X : Cx} {tg l : Expr}
theorem op_eqA (hu : X.A.units + 64 < cLine) : OpR X (compareOp .Eq) (fun x y H Q => rEq x y H Q ∨ rEqD 0 x y H Q) := op_eq.or (op_eqD hu)
theorem op_neA (hu : X.A.units + 64 < cLine) : OpR X (compareOp .NotEq) (fun x y H Q => rNe x y H Q ∨ rNeD 0 x y H Q) := op_ne.or (op_neD hu)
theorem pi_or {w1 w2 : TI} (h1 : PI X tg l w1) (h2 : PI X tg l w2) : PI X tg l (fun σ H R => w1 σ H R ∨ w2 σ H R) := fun pins s σ H R I h => h.elim (h1 pins s σ H R I) (h2 pins s σ H R I)
theorem pi_seq {tl : TE} (hl : PE X l tl) : PI X tg l (fun σ H R => iList X.K tl σ H R ∨ iTup X.K tl σ H R) := pi_or (pi_list hl) (pi_tup hl)
end
theorem bt_tuple : bootBuiltins "tuple" = some (.type "tuple") := by decide +kernel
theorem bt_int : bootBuiltins "int" = some (.type "int") := by decide +kernel
theorem bt_bool : bootBuiltins "bool" = some (.type "bool") := by decide +kernel
theorem bt_str : bootBuiltins "str" = some (.type "str") := by decide +kernel
theorem bt_list : bootBuiltins "list" = some (.type "list") := by decide +kernel
theorem bt_range : bootBuiltins "range" = some (.type "range") := by decide +kernel
theorem bt_len : bootBuiltins "len" = some (.builtin "len") := by decide +kernel
theorem bt_sum : bootBuiltins "sum" = some (.builtin "sum") := by decide +kernel
theorem bt_max : bootBuiltins "max" = some (.builtin "max") := by decide +kernel
theorem bt_min : bootBuiltins "min" = some (.builtin "min") := by decide +kernel
theorem bt_abs : bootBuiltins "abs" = some (.builtin "abs") := by decide +kernel
theorem bt_isinstance : bootBuiltins "isinstance" = some (.builtin "isinstance") := by decide +kernel
end L2
namespace L2
open PySem PySem.Spec PyProof.Rows
def compB (outer : List (Str × NameKind)) (scope : Scope) (M : List Str) (idx : List Nat) (N : List Str) : Bool :=
  scope.kind == .function && (scope.names.all fun y => (y.2 != .local || scope.names.lookup y.1 == some .local) && (y.2 != .cell || scope.names.lookup y.1 == some .cell) && (y.2 != .free || (outer.lookup y.1 == some .cell || outer.lookup y.1 == some .free)))
    && idx.length == M.length && (M.zip idx).all fun p => scope.names.lookup p.1 == some .free && N[p.2]? == some p.1
theorem compOk {X : Cx} {scope : Scope} {M : List Str} {idx : List Nat} (h : compB X.env.scope.names scope M idx X.N = true) : CompOk X scope M idx := by
  unfold compB at h
  simp only [Bool.and_eq_true] at h
  obtain ⟨⟨⟨h1, h2⟩, h3⟩, h4⟩ := h
  have h2' := List.all_eq_true.mp h2
  refine ⟨by simpa using h1, fun y hy e => ?_, fun y hy e => ?_, fun y hy e => ?_, by simpa using h3, fun j y ej => ?_⟩
  · have := h2' y hy
    simp [e] at this
    exact this
  · have := h2' y hy
    simp [e] at this
    exact this
  · have := h2' y hy
    simp [e] at this
    exact this
  · have hl : idx.length = M.length := by simpa using h3
    have hj : j < M.length := (List.getElem?_eq_some_iff.mp ej).1
    have hk : idx[j]? = some (idx[j]'(by omega)) := by simp [hl, hj]
    have hz : (M.zip idx)[j]? = some (y, idx[j]'(by omega)) := by
      rw [List.getElem?_zip_eq_some]
      exact ⟨ej, hk⟩
    have := List.all_eq_true.mp h4 _ (List.mem_of_getElem? hz)
    simp only [Bool.and_eq_true, beq_iff_eq] at this
    exact ⟨this.1, _, hk, this.2⟩
end L2
namespace L2
open PySem PySem.Spec PyProof.Rows
def SpLaw (K : PySem.W.Frag) : Sp := fun vs H Q _ => ∃ (a : Addr) (ns : List Int), vs = [.ref a] ∧ SqL K H a (ns.map V.int) ∧ ns.length ≤ 63 ∧ ∀ H', Q (.bl true) H'
theorem walk_df {l : PySem.W.OpenLaw} {k : Nat} {q : Program} {loose : List Str} {XP : (Str → Option Value) → Heap → Prop} {YP : World → Heap → Prop} {d : DefRec} {K : Params → PySem.W.Frag} {st : Stmt}
    (hn : l.most = some 63) (hdf : d.params.defaults = []) (hdn : d.name = "law") (hr : Room k callerA)
    (hY : ∀ (w : World) (h : Heap), YP w h → (K w.params).In h)
    (hbind : ∀ (kV doc pm : Value) (an : Option Addr) (cdv ct v : Value), bindArgs (PySem.W.fnOf "law" "law" (defArgs st) (defBody st) (defScope st) .none kV doc pm an cdv ct) ⟨[v], []⟩ = pure [(("script" : Str), v)])
    (F : ∀ (w : World) (mg : Str → Option Value) (h : Heap), (K w.params).In h → h.Ns mainGlobals mg → Raw (K w.params) mg "law" ["script"] st ∧ ∀ base : Heap, Df l.prog w (K w.params) mg base k "law" ["script"] (SpLaw (K w.params))) :
    PySem.W.WalkO q loose XP YP l.row.toRowW d [] (fun f vs => PySem.call f vs) := by
  refine L2.walk_of (n := 63) (k := k) (x := "script") (CX := fun _ => CX0) (sp := fun w => SpLaw (K w.params)) hn (by decide) hdf hr hY (fun w mg fa h KX G hmg => ?_) (fun w H a ns hl _ hS => ⟨a, ns, rfl, hS, hl, fun _ => rfl⟩) fun _ _ _ _ _ z => z
  obtain ⟨⟨f, fd, R, m, b⟩, D⟩ := F w mg h KX G
  rw [hdn] at hmg
  have e := hmg.symm.trans m
  cases e
  obtain ⟨oc, od, kV, doc, pm, an, cdv, ct, osl, e1, e2, _⟩ := R.ex
  refine ⟨fd, fun s v => .of_eq (by rw [e1]; exact hbind kV doc pm an cdv ct v), fun base _ _ => ?_⟩
  obtain ⟨f', fd', G', m', _, _, st', R'⟩ := D base
  have e := hmg.symm.trans m'
  cases e
  obtain ⟨oc', od', kV', doc', pm', an', cdv', ct', osl', e1', e2', _⟩ := R'.ex
  rw [e2] at e2'
  cases e2'
  exact G'
end L2
namespace L2
open PySem PySem.Spec PyProof.Rows
end L2
namespace L2
theorem tSeq_cut {t u : TS} {D : Ends} {σ : St} {H : Hp} (R : St → Hp → Prop) (hu : ∀ σ H, R σ H → u D σ H) (ht : (∀ σ H, R σ H → u D σ H) → t { D with nx := u D } σ H) : tSeq t u D σ H := ht hu
end L2
namespace L2
open PySem PySem.Spec PyProof.Rows
section
variable {X : Cx} {K : PySem.W.Frag} {tg l a b : Expr} {ta tb tl : TE} {pos : Pos}
theorem call_lenK (h : X.K = K) : CallR X (.builtin "len") (fun xs H Q => ∃ x n, xs = [x] ∧ LenV K x H n ∧ Q (.int n) H) := by subst h; exact call_len
theorem call_tupleK (h : X.K = K) : CallR X (.type "tuple") (fun xs H Q => ∃ p ys, xs = [.ref p] ∧ ((SqL K H p ys ∧ ∀ l, H l = none → Q (.ref l) (upd H l (.tup ys))) ∨ (SqT K H p ys ∧ Q (.ref p) H))) := by subst h; exact call_tuple_of
theorem call_listK (h : X.K = K) : CallR X (.type "list") (fun xs H Q => ∃ p ys, xs = [.ref p] ∧ (SqL K H p ys ∨ SqT K H p ys) ∧ ∀ l, H l = none → Q (.ref l) (upd H l (.lst ys))) := by subst h; exact call_list_of
theorem call_sumK (h : X.K = K) (hc : X.calm = true) : CallR X (.builtin "sum") (fun xs H Q => ∃ (p : Addr) (ns : List Int), xs = [.ref p] ∧ SqL K H p (ns.map V.int) ∧ Q (.int ns.sum) H) := by subst h; exact call_sum hc
theorem call_isinstK (h : X.K = K) : CallR X (.builtin "isinstance") (fun xs H Q => ∃ (x : V) (T C : String) (b : Bool), xs = [x, .ty C] ∧ kindV K H x T ∧ PySem.W.kitOne K (.type T) (.type C) = some b ∧ Q (.bl b) H) := by subst h; exact call_isinst
theorem ix_seqK (h : X.K = K) : IxR X (rIx K) := by subst h; exact ix_seq
theorem pi_seqK (h : X.K = K) (hl : PE X l tl) : PI X tg l (fun σ H R => iList K tl σ H R ∨ iTup K tl σ H R) := by subst h; exact pi_seq hl
theorem pg_tupK {es : List Expr} {k : Nat} {t : TGs} {n : Nat} (h : X.K = K) (hc : X.calm = true) (hg : PGs X es t)
    (hn : (assignEach es X.env).length = n := by rfl) (hst : (assignEach es X.env).findIdx? (·.1) = none := by rfl) : PG X (.Tuple es k pos) (gTup K n t) := by subst h; exact pg_tup hc hg hn hst
end
end L2
namespace L2
theorem oneT {te : TE} {σ : St} {x : V} {H : Hp} {k : Option V → Hp → Prop} (h : te (some x :: σ) H fun v H2 => k (some v) H2) : oneOf ttTrue te σ x H k := by
  show if true = true then (te (some x :: σ) H fun v H2 => k (some v) H2) else k none H
  rw [if_pos rfl]
  exact h
end L2
namespace L2
open PySem PySem.Spec PyProof.Rows
theorem Raw.never {P : Program} {w : World} {K : PySem.W.Frag} {mg : Str → Option Value} {base : Heap} {x : Str} {ps : List Str} {st : Stmt} {k : Nat} {sp : Sp} (R : Raw K mg x ps st) (h : ∀ vs H Q E, sp vs H Q E → False) : Df P w K mg base k x ps sp := by
  obtain ⟨f, fd, F, m, b⟩ := R
  exact ⟨f, fd, ⟨fun vs H Q E z => (h vs H Q E z).elim, fun A outer s H args us vs Q E hr e0 hb r z => (h vs H Q E z).elim⟩, m, F.kp, b, st, F⟩
end L2
namespace L2
theorem while_at {c : TT} {tb : TS} {D : Ends} {σ : St} {H : Hp} (Pv : St → Hp → Prop) (μ : St → Hp → Nat) (h0 : Pv σ H)
    (hs : ∀ σ H, Pv σ H → c σ H fun b H1 => if b = true then ∃ N : St → Hp → Prop, (∀ σ' H', N σ' H' → ∃ m', m' < μ σ H ∧ m' = μ σ' H' ∧ Pv σ' H') ∧ tb { D with nx := N, ct := N, bk := D.nx } σ H1 else D.nx σ H1) : tWhile c tb D σ H := by
  refine ⟨fun m σ H => m = μ σ H ∧ Pv σ H, ⟨_, rfl, h0⟩, ?_⟩
  rintro m σ H ⟨rfl, p⟩
  exact hs σ H p
end L2
namespace L2
end L2
namespace L2
open PySem PySem.Spec PyProof.Rows
def cellV : Option Int → V
  | none => .non
  | some i => .int i
def cellD : Option Int → PyData
  | none => .none
  | some i => .int i
def rowD (r : List (Option Int)) : PyData := .tuple (r.map cellD)
def fieldD (F : List (List (Option Int))) : PyData := .tuple (F.map rowD)
theorem isCell {H : Hp} : ∀ c : Option Int, IsD H (cellV c) (cellD c)
  | none => .non
  | some i => .int i
theorem isCells {H : Hp} : ∀ r : List (Option Int), IsDs H (r.map cellV) (r.map cellD)
  | [] => .nil
  | c :: r => .cons (isCell c) (isCells r)
theorem IsD.cell_inv {H : Hp} {v : V} : ∀ {c : Option Int}, IsD H v (cellD c) → v = cellV c
  | none, h => by cases h; rfl
  | some i, h => by cases h; rfl
theorem IsDs.cells_inv {H : Hp} : ∀ {xs : List V} {r : List (Option Int)}, IsDs H xs (r.map cellD) → xs = r.map cellV
  | _, [], h => by cases h; rfl
  | _, c :: r, h => by
    cases h with
    | cons h1 h2 => rw [IsD.cell_inv h1, IsDs.cells_inv h2]; rfl
theorem isRow_inv {H : Hp} {v : V} {r : List (Option Int)} (h : IsD H v (rowD r)) : ∃ a, v = .ref a ∧ H a = some (.tup (r.map cellV)) := by
  obtain ⟨a, xs, e, h1, h2⟩ := h.tuple_inv
  rw [IsDs.cells_inv h2] at h1
  exact ⟨a, e, h1⟩
theorem isField_inv {H : Hp} {v : V} {F : List (List (Option Int))} (h : IsD H v (fieldD F)) : ∃ a xs, v = .ref a ∧ H a = some (.tup xs) ∧ IsDs H xs (F.map rowD) := h.tuple_inv
theorem isRows_get {H : Hp} {xs : List V} {F : List (List (Option Int))} {i : Nat} (h : IsDs H xs (F.map rowD)) (hi : i < F.length) : ∃ a, xs[i]? = some (.ref a) ∧ H a = some (.tup (F[i].map cellV)) := by
  obtain ⟨x, e1, e2⟩ := h.get (i := i) (d := rowD F[i]) (by simp [hi])
  obtain ⟨a, e3, e4⟩ := isRow_inv e2
  exact ⟨a, by rw [e1, e3], e4⟩
theorem atI_mem {α : Type} {xs : List α} {i : Int} (h0 : 0 ≤ i) (h1 : i < xs.length) : ∃ v, atI xs i = some v ∧ v ∈ xs := by
  obtain ⟨j, rfl⟩ := Int.eq_ofNat_of_zero_le h0
  have hj : j < xs.length := by omega
  exact ⟨xs[j], atI_nat (by simp [hj]), List.getElem_mem hj⟩
theorem canLay_cell (c : Option Int) : (cellD c).canLay0 = true := by cases c <;> rfl
theorem canLay_cells : ∀ r : List (Option Int), PyData.canLayAll0 (r.map cellD) = true
  | [] => rfl
  | c :: r => by rw [List.map_cons, PyData.canLayAll0, canLay_cell, canLay_cells r]; rfl
theorem canLay_row (r : List (Option Int)) : (rowD r).canLay0 = true := canLay_cells r
theorem canLay_rows : ∀ F : List (List (Option Int)), PyData.canLayAll0 (F.map rowD) = true
  | [] => rfl
  | c :: r => by rw [List.map_cons, PyData.canLayAll0, canLay_row, canLay_rows r]; rfl
theorem canLay_field (F : List (List (Option Int))) : (fieldD F).canLay0 = true := canLay_rows F
theorem depth_cell (c : Option Int) : (cellD c).depth = 0 := by cases c <;> rfl
theorem depth_cells : ∀ r : List (Option Int), PyData.depthAll (r.map cellD) = 0
  | [] => rfl
  | c :: r => by rw [List.map_cons, PyData.depthAll, depth_cell, depth_cells r]; rfl
theorem depth_row (r : List (Option Int)) : (rowD r).depth = 1 := by
  show PyData.depthAll (r.map cellD) + 1 = 1
  rw [depth_cells]
theorem depth_rows : ∀ F : List (List (Option Int)), PyData.depthAll (F.map rowD) ≤ 1
  | [] => Nat.zero_le _
  | c :: r => by rw [List.map_cons, PyData.depthAll, depth_row]; exact Nat.max_le.mpr ⟨Nat.le_refl _, depth_rows r⟩
theorem depth_field (F : List (List (Option Int))) : (fieldD F).depth ≤ 20 := by
  have := depth_rows F
  show PyData.depthAll (F.map rowD) + 1 ≤ 20
  omega
theorem eqv_cell (a b : Option Int) : PyData.eqv (cellD a) (cellD b) = decide (a = b) := by
  cases a with
  | none => cases b <;> rfl
  | some i =>
    cases b with
    | none => rfl
    | some j =>
      show (i == j) = decide (some i = some j)
      by_cases h : i = j
      · subst h; simp
      · have : ¬ (some i = some j) := fun e => h (Option.some.inj e)
        rw [decide_eq_false this]; simpa using h
theorem eqv_cells : ∀ a b : List (Option Int), PyData.eqvAll (a.map cellD) (b.map cellD) = decide (a = b)
  | [], [] => rfl
  | [], _ :: _ => rfl
  | _ :: _, [] => rfl
  | x :: a, y :: b => by
    rw [List.map_cons, List.map_cons, PyData.eqvAll, eqv_cell, eqv_cells a b]
    by_cases h1 : x = y
    · by_cases h2 : a = b
      · simp [h1, h2]
      · simp [h1, h2]
    · simp [h1]
theorem eqv_row (a b : List (Option Int)) : PyData.eqv (rowD a) (rowD b) = decide (a = b) := by
  show PyData.eqv (.tuple _) (.tuple _) = _
  rw [PyData.eqv]; exact eqv_cells a b
theorem eqv_rows : ∀ a b : List (List (Option Int)), PyData.eqvAll (a.map rowD) (b.map rowD) = decide (a = b)
  | [], [] => rfl
  | [], _ :: _ => rfl
  | _ :: _, [] => rfl
  | x :: a, y :: b => by
    rw [List.map_cons, List.map_cons, PyData.eqvAll, eqv_row, eqv_rows a b]
    by_cases h1 : x = y
    · by_cases h2 : a = b
      · simp [h1, h2]
      · simp [h1, h2]
    · simp [h1]
theorem eqv_field (a b : List (List (Option Int))) : PyData.eqv (fieldD a) (fieldD b) = decide (a = b) := by
  show PyData.eqv (.tuple _) (.tuple _) = _
  rw [PyData.eqv]; exact eqv_rows a b
end L2
namespace L2
open PySem PySem.Spec PyProof.Rows
theorem depthAll_get : ∀ {ds : List PyData} {i : Nat} {d : PyData}, ds[i]? = some d → d.depth ≤ PyData.depthAll ds
  | [], i, d, e => by simp at e
  | x :: ds, 0, d, e => by
    simp at e; subst e
    rw [PyData.depthAll]; exact Nat.le_max_left _ _
  | x :: ds, i + 1, d, e => by
    rw [PyData.depthAll]
    exact Nat.le_trans (depthAll_get (i := i) (by simpa using e)) (Nat.le_max_right _ _)
end L2
namespace L2
open PySem PySem.Spec PyProof.Rows
inductive Rule where
  | there | near | turned | round | told (c : Option Int)
def ruleD : Rule → PyData
  | .there => .str "there"
  | .near => .str "near"
  | .turned => .str "turned"
  | .round => .str "round"
  | .told c => .tuple [.str "told", cellD c]
def led : Rule → Int → Int → Int
  | .near, p, n => min (max p 0) (n - 1)
  | .turned, p, n => min (p % (2 * n)) (2 * n - 1 - p % (2 * n))
  | _, p, n => p % n
theorem led_in (r : Rule) (p : Int) {n : Int} (h : 1 ≤ n) : 0 ≤ led r p n ∧ led r p n < n := by
  have a := Int.emod_nonneg p (show n ≠ 0 by omega)
  have b := Int.emod_lt_of_pos p (show 0 < n by omega)
  have c := Int.emod_nonneg p (show 2 * n ≠ 0 by omega)
  have d := Int.emod_lt_of_pos p (show 0 < 2 * n by omega)
  cases r <;> simp only [led] <;> omega
theorem led_id (r : Rule) {p n : Int} (h0 : 0 ≤ p) (h1 : p < n) : led r p n = p := by
  have a := Int.emod_eq_of_lt h0 h1
  have b := Int.emod_eq_of_lt h0 (show p < 2 * n by omega)
  cases r <;> simp only [led] <;> omega
def cellAt (F : List (List (Option Int))) (i j : Int) : Option Int := ((F[i.toNat]?).bind fun r => r[j.toNat]?).join
def inF (F : List (List (Option Int))) (i j : Int) : Bool := decide (0 ≤ i) && decide (i < F.length) && (decide (0 ≤ j) && decide (j < (F.headD []).length))
def stands (F : List (List (Option Int))) (r : Rule) (i j : Int) : List (Option Int) :=
  if inF F i j then [cellAt F i j] else match r with
    | .there => []
    | .told c => [c]
    | r => [cellAt F (led r i F.length) (led r j (F.headD []).length)]
structure Rect (F : List (List (Option Int))) : Prop where
  h1 : 1 ≤ F.length
  hs : F.length ≤ 1000
  w1 : 1 ≤ (F.headD []).length
  ws : (F.headD []).length ≤ 1000
  row : ∀ r ∈ F, r.length = (F.headD []).length
theorem field_cell {H : Hp} {v : V} {F : List (List (Option Int))} (R : Rect F) (h : IsD H v (fieldD F)) {i j : Int} (i0 : 0 ≤ i) (i1 : i < F.length) (j0 : 0 ≤ j) (j1 : j < (F.headD []).length) :
    ∃ (a : Addr) (xs : List V) (b : Addr) (r : List (Option Int)), v = .ref a ∧ H a = some (.tup xs) ∧ atI xs i = some (.ref b) ∧ H b = some (.tup (r.map cellV)) ∧ atI (r.map cellV) j = some (cellV (cellAt F i j)) ∧ (r.map cellV).length = (F.headD []).length := by
  obtain ⟨a, xs, e, h1, h2⟩ := isField_inv h
  obtain ⟨i', rfl⟩ := Int.eq_ofNat_of_zero_le i0
  obtain ⟨j', rfl⟩ := Int.eq_ofNat_of_zero_le j0
  have hi : i' < F.length := by omega
  obtain ⟨b, e2, h3⟩ := isRows_get h2 hi
  have hw := R.row F[i'] (List.getElem_mem hi)
  have hj : j' < F[i'].length := by omega
  refine ⟨a, xs, b, F[i'], e, h1, atI_nat e2, h3, ?_, by rw [List.length_map]; exact hw⟩
  have e3 : cellAt F (i' : Int) (j' : Int) = F[i'][j'] := by
    unfold cellAt
    simp [hi, hj]
  rw [e3]
  exact atI_nat (by simp [hj])
theorem field_sizes {H : Hp} {v : V} {F : List (List (Option Int))} (R : Rect F) (h : IsD H v (fieldD F)) :
    ∃ (a : Addr) (xs : List V) (b : Addr) (ys : List V), v = .ref a ∧ H a = some (.tup xs) ∧ xs.length = F.length ∧ atI xs 0 = some (.ref b) ∧ H b = some (.tup ys) ∧ ys.length = (F.headD []).length := by
  obtain ⟨a, xs, e, h1, h2⟩ := isField_inv h
  have hi : 0 < F.length := R.h1
  obtain ⟨b, e2, h3⟩ := isRows_get h2 hi
  refine ⟨a, xs, b, _, e, h1, by rw [h2.length, List.length_map], atI_nat e2, h3, ?_⟩
  rw [List.length_map]
  exact R.row _ (List.getElem_mem hi)
theorem rule_str {H : Hp} {v : V} {x : Str} (h : IsD H v (.str x)) : v = .str x := by cases h; rfl
end L2
namespace L2
open PySem PySem.Spec PyProof.Rows
theorem stands_len (F : List (List (Option Int))) (r : Rule) (i j : Int) : (stands F r i j).length ≤ 1 := by
  unfold stands
  split
  · exact Nat.le_refl _
  · split <;> simp
end L2
namespace L2
open PySem PySem.Spec PyProof.Rows
theorem stands_led {F : List (List (Option Int))} {r : Rule} {i j : Int} (h : r = .near ∨ r = .turned ∨ r = .round) : stands F r i j = [cellAt F (led r i F.length) (led r j (F.headD []).length)] := by
  unfold stands
  cases hin : inF F i j with
  | true =>
    unfold inF at hin
    simp only [Bool.and_eq_true, decide_eq_true_eq] at hin
    rw [if_pos rfl, led_id r hin.1.1 hin.1.2, led_id r hin.2.1 hin.2.2]
  | false =>
    rw [if_neg Bool.false_ne_true]
    rcases h with rfl | rfl | rfl <;> rfl
theorem stands_in {F : List (List (Option Int))} {i j : Int} (r : Rule) (h : inF F i j = true) : stands F r i j = [cellAt F i j] := by
  unfold stands
  rw [h, if_pos rfl]
end L2
namespace L2
open PySem PySem.Spec PyProof.Rows
section
open PySem.AutoSeq1 PySem.MeetsSeq PySem.MeetsSeq2 PySem.MeetsSeq3
set_option maxHeartbeats 4000000 in
theorem extend_tuple_meets (l : Addr) (items : Array Value) (n : Nat) (b : Addr) (items2 : Array Value) (n2 : Nat) (dd : Option Addr) (sl : Array (Option Value)) (hs0 : ¬(!items.isEmpty && Builtin.List.listTooLong (items.size + items2.size)) = true) (hs1 : items.size ≤ sizeLine) (hs2 : items.size + items2.size ≤ sizeLine + 1) :
    Meets (Builtin.«list.extend» ⟨[.ref l, .ref b], []⟩) (fun _ R s => s.heap.get? l = some { cls := .type "list", dict := none, data := .seq items n, slots := #[] } ∧ s.heap.get? b = some { cls := .type "tuple", dict := dd, data := .seq items2 n2, slots := sl } ∧ R (.ok (.ret Value.none)) { s with heap := s.heap.update l (Obj.mapSeq fun x => x ++ items2), toks := s.toks }) :=
  .of_wp fun prog w A R s h => by
    obtain ⟨hp, g, d, tk, os⟩ := s; obtain ⟨hl, hb, h⟩ := h; have f1 := idx_int; have f2 := PySem.AutoSeq1.sub_tuple_tuple; have f3 := PySem.AutoSeq1.sub_list_list; have f4 := PySem.AutoSeq1.sub_tuple_list; have f5 := PySem.AutoSeq1.sub_list_tuple;
    have hz' : (items ++ items2).size ≤ sizeLine + 1 := by rw [Array.size_append]; exact hs2
    wp_walk using (wpAny_updateSeq hl rfl (hz := hs1) (_hz' := hz')), wpAny_loadPart' hl, wpAny_loadPart' hb; exact ⟨_, rfl, h⟩
end
section
variable {X : Cx}
def rExtendT : V → List V → Hp → VK → Prop := fun x vs H Q => ∃ l b xs zs, x = .ref l ∧ vs = [.ref b] ∧ H l = some (.lst xs) ∧ H b = some (.tup zs) ∧ xs.length + zs.length ≤ sizeLine ∧ Q .non (upd H l (.lst (xs ++ zs)))
theorem mt_extendT : MtM X "list.extend" rExtendT := by
  intro pins s σ H x vs v us Q I rx rv h
  obtain ⟨l, b, xs, zs, rfl, rfl, hH, hB, hz, q⟩ := h
  cases rx
  obtain ⟨u, rfl, ru⟩ := rv.one
  cases ru
  obtain ⟨z, its, n, r, hl, e⟩ := I.lstM hH
  obtain ⟨z2, its2, r2, ⟨oc, od, odt, osl⟩, e2, c2, n2, d2⟩ := (show ObjOk X.prog X.w H s.heap b (.tup zs) from I.hok b _ hB)
  simp only at c2 d2
  subst c2 d2
  have hl2 := r2.length
  have hsz : its.toArray.size + its2.toArray.size ≤ sizeLine := by rw [List.size_toArray, List.size_toArray]; omega
  have hlong : ¬ (!its.toArray.isEmpty && Builtin.List.listTooLong (its.toArray.size + its2.toArray.size)) = true := by
    rw [notLongL hsz, Bool.and_false]
    exact Bool.false_ne_true
  refine call_meets F.slot_list_extend ⟨_, e, rfl⟩ F.entry_list_extend (F.args_list_extend_2 _ _)
    (extend_tuple_meets l its.toArray n b its2.toArray n2 od osl hlong (by rw [List.size_toArray]; omega) (by omega)) ⟨e, e2, ?_⟩
  refine ⟨.non, _, I.lset (its' := its ++ its2) hH e (by simp) (r.append r2) ?_, rfl, q⟩
  rw [List.length_append]
  omega
def upInts (lo : Int) (n : Nat) : List V := (List.range n).map fun i => V.int (lo + (i : Nat))
theorem call_range2V : CallR X (.type "range") (fun xs H Q => ∃ i j : Int, xs = [.int i, .int j] ∧ ∀ p, H p = none → Q (.ref p) (upd H p (.rng i j))) := by
  intro pins s σ H xs us Q I r h
  obtain ⟨i, j, rfl, q⟩ := h
  obtain ⟨u, w', rfl, ⟨t, rfl⟩, ⟨t', rfl⟩⟩ := vals2 r
  refine call_range_2 ?_
  exact ⟨.ref s.heap.objs.size, _, I.laid (o := .rng i j) (fun b u e => Heap.get?_push_of_some _ e) (Nat.le_refl _) ⟨t, t', s.toks, Heap.get?_push_size _ rfl⟩, rfl, q _ (I.hok.fresh (Nat.le_refl _))⟩
theorem vals_up {lo : Int} : ∀ {n : Nat} {acc : List Value}, acc.length = n → (∀ (j : Nat) v, acc[j]? = some v → ∃ t, v = Value.int (lo + j * 1) t) → Vals (upInts lo n) acc := by
  intro n
  induction n with
  | zero => intro acc hl _; have e := List.length_eq_zero_iff.mp hl; subst e; exact .nil
  | succ n ih =>
    intro acc hl h
    obtain ⟨init, x, rfl⟩ : ∃ init x, acc = init ++ [x] := by
      have hne : acc ≠ [] := by intro e; rw [e] at hl; cases hl
      exact ⟨acc.dropLast, acc.getLast hne, (List.dropLast_concat_getLast hne).symm⟩
    have hli : init.length = n := by rw [List.length_append] at hl; simpa using hl
    have e1 : upInts lo (n + 1) = upInts lo n ++ [.int (lo + (n : Nat))] := by
      unfold upInts
      rw [List.range_succ, List.map_append]
      rfl
    rw [e1]
    refine (ih hli fun j v e => h j v ?_).append (.cons ?_ .nil)
    · rw [List.getElem?_append_left (List.getElem?_eq_some_iff.mp e).1]; exact e
    · obtain ⟨t, e⟩ := h n x (by rw [← hli]; simp)
      exact ⟨t, by rw [e, Int.mul_one]⟩
theorem upInts_len (lo : Int) (n : Nat) : (upInts lo n).length = n := by unfold upInts; rw [List.length_map, List.length_range]
theorem call_list_rng (hc : X.calm = true) : CallR X (.type "list") (fun xs H Q => ∃ (p : Addr) (i j : Int), xs = [.ref p] ∧ H p = some (.rng i j) ∧ (-(2 ^ 62) ≤ i ∧ i < 2 ^ 62 ∧ -(2 ^ 62) ≤ j ∧ j < 2 ^ 62) ∧ (j - i).toNat ≤ 2 ^ 20 ∧
    ∀ l, H l = none → Q (.ref l) (upd H l (.lst (upInts i (j - i).toNat)))) := by
  intro pins s σ H xs us Q I r h
  obtain ⟨p, i, j, rfl, hp, ⟨b1, b2, b3, b4⟩, hn, q⟩ := h
  obtain ⟨u, rfl, e⟩ := vals1 r
  obtain rfl : u = Value.ref p := e
  obtain ⟨t, u, v, hr⟩ := (show ObjOk X.prog X.w H s.heap p (.rng i j) from I.hok p _ hp)
  refine call_list_range (n := (j - i).toNat) (I.ok.hd hc) hr (small_one b1 b2 b3 b4) (by rw [rangeSize_one]; split <;> omega) (Nat.le_trans hn (by decide)) fun h' tk acc' c' hk hS hacc => ?_
  have hv : Vals (upInts i (j - i).toNat) acc'.toList := vals_up (by simpa using hacc.1) fun k v e => hacc.2 k v (by simpa using e)
  refine ⟨.ref s.heap.objs.size, _, I.laid (o := .lst (upInts i (j - i).toNat)) hk (Nat.le_refl _) ⟨by rw [upInts_len]; exact Nat.le_trans hn (by decide), acc'.toList, c', hv, by simpa using hS⟩, rfl, q _ (I.hok.fresh (Nat.le_refl _))⟩
end
end L2
namespace L2
open PySem PySem.Spec PyProof.Rows
def winD (u d l r : Nat) : PyData := .tuple [.int u, .int d, .int l, .int r]
theorem isWin_inv {H : Hp} {v : V} {u d l r : Nat} (h : IsD H v (winD u d l r)) : ∃ a, v = .ref a ∧ H a = some (.tup [.int u, .int d, .int l, .int r]) := by
  obtain ⟨a, xs, e, h1, h2⟩ := h.tuple_inv
  cases h2 with
  | cons a1 h2 => cases a1; cases h2 with
    | cons a2 h2 => cases a2; cases h2 with
      | cons a3 h2 => cases a3; cases h2 with
        | cons a4 h2 => cases a4; cases h2; exact ⟨a, e, h1⟩
theorem isWin {H : Hp} {a : Addr} {u d l r : Nat} (h : H a = some (.tup [.int u, .int d, .int l, .int r])) : IsD H (.ref a) (winD u d l r) := .tup h (.cons (.int _) (.cons (.int _) (.cons (.int _) (.cons (.int _) .nil))))
def rowCells (F : List (List (Option Int))) (ru : Rule) (l r : Nat) (row j : Int) : List (Option Int) := (List.range (l + r + 1)).flatMap fun b => stands F ru row (j - l + (b : Nat))
def wc (F : List (List (Option Int))) (ru : Rule) (u d l r : Nat) (i j : Int) : List (Option Int) := (List.range (u + d + 1)).flatMap fun a => rowCells F ru l r (i - u + (a : Nat)) j
theorem flatMap_succ {α : Type} (f : Nat → List α) (n : Nat) : (List.range (n + 1)).flatMap f = (List.range n).flatMap f ++ f n := by
  rw [List.range_succ, List.flatMap_append]
  simp
theorem flatMap_len {α : Type} (f : Nat → List α) {m : Nat} (h : ∀ k, (f k).length ≤ m) : ∀ n, ((List.range n).flatMap f).length ≤ n * m
  | 0 => by simp
  | n + 1 => by
    rw [flatMap_succ, List.length_append, Nat.succ_mul]
    exact Nat.add_le_add (flatMap_len f h n) (h n)
theorem rowCells_len (F : List (List (Option Int))) (ru : Rule) (l r : Nat) (row j : Int) : (rowCells F ru l r row j).length ≤ l + r + 1 := by
  have := flatMap_len (fun b => stands F ru row (j - l + (b : Nat))) (m := 1) (fun k => stands_len _ _ _ _) (l + r + 1)
  rw [Nat.mul_one] at this
  exact this
theorem wc_len (F : List (List (Option Int))) (ru : Rule) (u d l r : Nat) (i j : Int) : (wc F ru u d l r i j).length ≤ (u + d + 1) * (l + r + 1) :=
  flatMap_len _ (fun k => rowCells_len _ _ _ _ _ _) _
end L2
namespace L2
end L2
namespace HT
open PySem PyProof.Rows
section
variable {prog : Program} {w : World} {A : Around} {E : Value → Shared → Prop} {s : Shared}
set_option maxHeartbeats 4000000 in
theorem getItem_tuple_whole {t sl : Addr} {items : Array Value} {vl vu : Value} {lo hi : Option Int} {Q : Value → Shared → Prop} (ht : IsTup s.heap t items) (hs : s.heap.IsSliceOf sl vl vu .none) (pl : IsPart vl lo) (pu : IsPart vu hi)
    (hw : sIx items.size 0 lo = 0 ∧ sIx items.size items.size hi = items.size) (h : Q (.ref t) s) : wpAny (model prog w) A (getItem (.ref t) (.ref sl)) Q E s := by
  obtain ⟨os, hos, hcs, hds⟩ := id hs
  have hTs : s.TypeIs (.ref sl) "slice" := ⟨os, hos, hcs⟩
  unfold getItem
  try with_reducible refine wpAny_holding ?_
  first | refine wpAny_bind (wpAny_pure ?_) | skip
  refine wpAny_bind (wpAny_sequenceKey ht.typeIs (by decide) ?_)
  refine wpAny_bind (wpAny_callSpecial?_slot (name := Str.ofString "__getitem__") ht.typeIs PyProof.Rows.slot_tuple_getitem
    (wpAny_call_entry PyProof.Rows.slot_tuple_getitem ht.typeIs entry_tuple_getitem ?_ (args_tuple_getitem _ _)))
  show wpAny _ _ (Builtin.Tuple.tupleItemsOf (.ref t) >>= _) _ _ s
  refine wpAny_bind (tupleItemsOf_ ht ?_)
  refine wpAny_bind (wpAny_typeOf hTs ?_)
  rw [if_pos (by decide)]
  refine wpAny_bind (sliceApplied_gen hs pl pu ?_)
  rw [hw.1, hw.2]
  show wpAny _ _ (if ((((0 : Nat) : Int) == 0 && (1 : Int) == 1 && (items.size - 0) == items.size) = true) then _ else _) _ _ s
  rw [if_pos (by simp)]
  refine wpAny_bind ?_
  unfold Builtin.Tuple.tupleIsExact
  refine wpAny_bind (wpAny_typeOf ht.typeIs (wpAny_pure ?_))
  rw [if_pos (by decide)]
  first
    | exact wpAny_bind (wpAny_rule (wpAny_bind (wpAny_pure (wpAny_pure ⟨_, rfl, wpAny_pure h⟩))))
    | exact wpAny_bind (wpAny_rule (wpAny_pure ⟨_, rfl, wpAny_pure h⟩))
    | exact wpAny_rule (wpAny_bind (wpAny_pure (wpAny_pure ⟨_, rfl, wpAny_pure h⟩)))
end
end HT
namespace L2
open PySem PySem.Spec PyProof.Rows
section
variable {X : Cx}
def rSlTA : V → Option Int → Option Int → Hp → VK → Prop := fun x lo hi H Q => ∃ a xs, x = .ref a ∧ H a = some (.tup xs) ∧ ∀ p H', Same H H' → H' p = some (.tup (cutV xs lo hi)) → Q (.ref p) H'
theorem sl_tupA : SlR X rSlTA := by
  intro pins s σ H x v vl vu lo hi sl Q I rx hs pl pu h
  obtain ⟨a, xs, rfl, hx, q⟩ := h
  by_cases hw : HT.sIx xs.length 0 lo = 0 ∧ HT.sIx xs.length xs.length hi = xs.length
  · cases rx
    obtain ⟨its, r, ht, hz⟩ := I.tuple (SqT.of hx)
    have hlen : its.toArray.size = xs.length := by rw [List.size_toArray]; exact r.length.symm
    refine ⟨"tuple", _, PyProof.Rows.slot_tuple_getitem.lookup, ht.typeIs, ?_⟩
    refine HT.getItem_tuple_whole ht hs pl pu (by rw [hlen]; exact hw) ⟨.ref a, H, I, rfl, q a H (Same.refl H) ?_⟩
    rw [hx]
    unfold cutV
    rw [hw.1, hw.2, List.drop_zero, Nat.sub_zero, List.take_of_length_le (Nat.le_refl _)]
  · exact sl_tup pins s σ H _ v vl vu lo hi sl Q I rx hs pl pu ⟨a, xs, rfl, SqT.of hx, hw, fun p hp => q p _ (same_upd hp) upd_same⟩
def rNeL : R2 := fun x y H Q => ∃ p q xs ys dx dy, x = .ref p ∧ y = .ref q ∧ H p = some (.lst xs) ∧ H q = some (.lst ys) ∧ IsDs H xs dx ∧ IsDs H ys dy ∧ CmpD 0 (.list dx) (.list dy) ∧ Q (.bl (!PyData.eqvAll dx dy)) H
def rEqL : R2 := fun x y H Q => ∃ p q xs ys dx dy, x = .ref p ∧ y = .ref q ∧ H p = some (.lst xs) ∧ H q = some (.lst ys) ∧ IsDs H xs dx ∧ IsDs H ys dy ∧ CmpD 0 (.list dx) (.list dy) ∧ Q (.bl (PyData.eqvAll dx dy)) H
theorem list_reads {P : Program} {w : World} {H : Hp} {h : Heap} (I : HOk P w H h) {p : Addr} {xs : List V} {dx : List PyData} (hp : H p = some (.lst xs)) (hd : IsDs H xs dx) : ∃ as, Reads h (.ref p) (.list dx) as := by
  obtain ⟨_, its, n, r, e⟩ := (show ObjOk P w H h p (.lst xs) from I p _ hp)
  obtain ⟨as, hr⟩ := hd.reads I r
  exact ⟨_, .list e rfl rfl (by simpa using hr)⟩
theorem op_neL (hu : X.A.units + 64 < cLine) : OpR X (compareOp .NotEq) rNeL := by
  intro pins s σ H x y v u Q I rx ry h
  obtain ⟨p, q, xs, ys, dx, dy, rfl, rfl, hp, hq, hx, hy, ⟨c1, c2, c3⟩, qq⟩ := h
  cases rx
  cases ry
  obtain ⟨as, r1⟩ := list_reads I.hok hp hx
  obtain ⟨bs, r2⟩ := list_reads I.hok hq hy
  exact PySem.SeqAt.compareNe_reads r1 r2 c1 c2 (unitsD hu c3) ⟨.bl _, H, I, rfl, qq⟩
theorem op_eqL (hu : X.A.units + 64 < cLine) : OpR X (compareOp .Eq) rEqL := by
  intro pins s σ H x y v u Q I rx ry h
  obtain ⟨p, q, xs, ys, dx, dy, rfl, rfl, hp, hq, hx, hy, ⟨c1, c2, c3⟩, qq⟩ := h
  cases rx
  cases ry
  obtain ⟨as, r1⟩ := list_reads I.hok hp hx
  obtain ⟨bs, r2⟩ := list_reads I.hok hq hy
  exact PySem.SeqAt.compareEq_reads r1 r2 c1 c2 (unitsD hu c3) ⟨.bl _, H, I, rfl, qq⟩
theorem op_neX (hu : X.A.units + 64 < cLine) : OpR X (compareOp .NotEq) (fun x y H Q => (rNe x y H Q ∨ rNeD 0 x y H Q) ∨ rNeL x y H Q) := (op_neA hu).or (op_neL hu)
theorem op_eqX (hu : X.A.units + 64 < cLine) : OpR X (compareOp .Eq) (fun x y H Q => (rEq x y H Q ∨ rEqD 0 x y H Q) ∨ rEqL x y H Q) := (op_eqA hu).or (op_eqL hu)
theorem sl_X {K : PySem.W.Frag} (h : X.K = K) : SlR X (fun x lo hi H Q => rSlL K x lo hi H Q ∨ rSlTA x lo hi H Q) := by subst h; exact sl_list.or sl_tupA
end
end L2
namespace L2
open PySem PySem.Spec PyProof.Rows
end L2
namespace L2
open PySem PySem.Spec PyProof.Rows
theorem led_flip {r : Rule} (hr : r = .near ∨ r = .turned ∨ r = .round) (p : Int) {n : Int} (h : 1 ≤ n) : led r (n - 1 - p) n = n - 1 - led r p n := by
  rcases hr with rfl | rfl | rfl
  · show min (max (n - 1 - p) 0) (n - 1) = n - 1 - min (max p 0) (n - 1)
    omega
  · show min ((n - 1 - p) % (2 * n)) (2 * n - 1 - (n - 1 - p) % (2 * n)) = n - 1 - min (p % (2 * n)) (2 * n - 1 - p % (2 * n))
    have a := Int.emod_nonneg p (show 2 * n ≠ 0 by omega)
    have b := Int.emod_lt_of_pos p (show 0 < 2 * n by omega)
    have q := Int.mul_ediv_add_emod p (2 * n)
    by_cases c : p % (2 * n) ≤ n - 1
    · have e : (n - 1 - p) % (2 * n) = n - 1 - p % (2 * n) := by
        have e1 : n - 1 - p = (n - 1 - p % (2 * n)) + 2 * n * (-(p / (2 * n))) := by rw [Int.mul_neg]; omega
        rw [e1, Int.add_mul_emod_self_left]
        exact Int.emod_eq_of_lt (by omega) (by omega)
      rw [e]
      omega
    · have e : (n - 1 - p) % (2 * n) = 3 * n - 1 - p % (2 * n) := by
        have e1 : n - 1 - p = (3 * n - 1 - p % (2 * n)) + 2 * n * (-(p / (2 * n)) - 1) := by rw [Int.mul_sub, Int.mul_neg, Int.mul_one]; omega
        rw [e1, Int.add_mul_emod_self_left]
        exact Int.emod_eq_of_lt (by omega) (by omega)
      rw [e]
      omega
  · show (n - 1 - p) % n = n - 1 - p % n
    have a := Int.emod_nonneg p (show n ≠ 0 by omega)
    have b := Int.emod_lt_of_pos p (show 0 < n by omega)
    have q := Int.mul_ediv_add_emod p n
    have e1 : n - 1 - p = (n - 1 - p % n) + n * (-(p / n)) := by rw [Int.mul_neg]; omega
    rw [e1, Int.add_mul_emod_self_left]
    exact Int.emod_eq_of_lt (by omega) (by omega)
def okAt : Rule → Int → Nat → Bool
  | .there, p, n => decide (0 ≤ p) && decide (p < n)
  | _, _, _ => true
def valAt (F : List (List (Option Int))) (r : Rule) (i j : Int) : Option Int :=
  if inF F i j then cellAt F i j else match r with
    | .there => none
    | .told c => c
    | r => cellAt F (led r i F.length) (led r j (F.headD []).length)
theorem stands_ok (F : List (List (Option Int))) (r : Rule) (i j : Int) : stands F r i j = if (okAt r i F.length && okAt r j (F.headD []).length) = true then [valAt F r i j] else [] := by
  unfold stands valAt
  cases hin : inF F i j with
  | true =>
    unfold inF at hin
    simp only [Bool.and_eq_true, decide_eq_true_eq] at hin
    have : (okAt r i F.length && okAt r j (F.headD []).length) = true := by
      cases r <;> first | rfl | (unfold okAt; simp only [decide_eq_true hin.1.1, decide_eq_true hin.1.2, decide_eq_true hin.2.1, decide_eq_true hin.2.2, Bool.and_true])
    rw [if_pos rfl, if_pos this, if_pos rfl]
  | false =>
    rw [if_neg Bool.false_ne_true]
    cases r with
    | there =>
      have : (okAt .there i F.length && okAt .there j (F.headD []).length) = false := hin
      rw [this]
      rfl
    | near => rfl
    | turned => rfl
    | round => rfl
    | told c => rfl
def turnT (F : List (List (Option Int))) : List (List (Option Int)) := (List.range (F.headD []).length).map fun k => F.map fun r => (r[k]?).join
theorem turnT_len (F : List (List (Option Int))) : (turnT F).length = (F.headD []).length := by unfold turnT; simp
theorem headD_get {F : List (List (Option Int))} (h : 1 ≤ F.length) : F.headD [] = F[0]'h := by
  cases F with
  | nil => simp at h
  | cons a b => rfl
theorem turnT_wide {F : List (List (Option Int))} (R : Rect F) : ((turnT F).headD []).length = F.length := by
  rw [headD_get (by rw [turnT_len]; exact R.w1)]
  unfold turnT
  simp
theorem Rect.turnT {F : List (List (Option Int))} (R : Rect F) : Rect (turnT F) := by
  refine ⟨by rw [turnT_len]; exact R.w1, by rw [turnT_len]; exact R.ws, by rw [turnT_wide R]; exact R.h1, by rw [turnT_wide R]; exact R.hs, fun r hr => ?_⟩
  rw [turnT_wide R]
  unfold L2.turnT at hr
  obtain ⟨k, _, rfl⟩ := List.mem_map.mp hr
  simp
theorem rev_wide {F : List (List (Option Int))} (R : Rect F) : (F.reverse.headD []).length = (F.headD []).length := by
  rw [headD_get (by rw [List.length_reverse]; exact R.h1)]
  exact R.row _ (List.mem_reverse.mp (List.getElem_mem _))
theorem Rect.rev {F : List (List (Option Int))} (R : Rect F) : Rect F.reverse := by
  refine ⟨by rw [List.length_reverse]; exact R.h1, by rw [List.length_reverse]; exact R.hs, by rw [rev_wide R]; exact R.w1, by rw [rev_wide R]; exact R.ws, fun r hr => ?_⟩
  rw [rev_wide R]
  exact R.row r (List.mem_reverse.mp hr)
section
variable {F : List (List (Option Int))} {i j : Int}
theorem cell_nat {a b : Nat} (R : Rect F) (ha : a < F.length) (hb : b < (F.headD []).length) : ∃ h : b < F[a].length, cellAt F (a : Int) (b : Int) = F[a][b] := by
  have h : b < F[a].length := by rw [R.row _ (List.getElem_mem ha)]; exact hb
  refine ⟨h, ?_⟩
  unfold cellAt
  simp [ha, h]
theorem cell_rev (R : Rect F) (i0 : 0 ≤ i) (i1 : i < F.length) (j0 : 0 ≤ j) (j1 : j < (F.headD []).length) : cellAt F.reverse (F.length - 1 - i) j = cellAt F i j := by
  obtain ⟨a, rfl⟩ := Int.eq_ofNat_of_zero_le i0
  obtain ⟨b, rfl⟩ := Int.eq_ofNat_of_zero_le j0
  have ha : a < F.length := by omega
  have hb : b < (F.headD []).length := by omega
  have e : (F.length : Int) - 1 - (a : Int) = ((F.length - 1 - a : Nat) : Int) := by omega
  obtain ⟨_, e1⟩ := cell_nat R ha hb
  obtain ⟨_, e2⟩ := cell_nat R.rev (a := F.length - 1 - a) (b := b) (by rw [List.length_reverse]; omega) (by rw [rev_wide R]; exact hb)
  rw [e, e1, e2]
  have : F.length - 1 - (F.length - 1 - a) = a := by omega
  simp [this]
theorem cell_turn (R : Rect F) (i0 : 0 ≤ i) (i1 : i < F.length) (j0 : 0 ≤ j) (j1 : j < (F.headD []).length) : cellAt (turnT F) j i = cellAt F i j := by
  obtain ⟨a, rfl⟩ := Int.eq_ofNat_of_zero_le i0
  obtain ⟨b, rfl⟩ := Int.eq_ofNat_of_zero_le j0
  have ha : a < F.length := by omega
  have hb : b < (F.headD []).length := by omega
  obtain ⟨hh, e1⟩ := cell_nat R ha hb
  obtain ⟨_, e2⟩ := cell_nat R.turnT (a := b) (b := a) (by rw [turnT_len]; exact hb) (by rw [turnT_wide R]; exact ha)
  rw [e1, e2]
  simp [turnT, hh]
theorem inF_iff {F : List (List (Option Int))} {i j : Int} : inF F i j = true ↔ (0 ≤ i ∧ i < F.length) ∧ 0 ≤ j ∧ j < (F.headD []).length := by
  unfold inF
  simp only [Bool.and_eq_true, decide_eq_true_eq]
theorem val_rev (R : Rect F) (r : Rule) (i j : Int) : valAt F.reverse r (F.length - 1 - i) j = valAt F r i j := by
  have hin : inF F.reverse (F.length - 1 - i) j = inF F i j := by
    rw [Bool.eq_iff_iff, inF_iff, inF_iff, rev_wide R, List.length_reverse]
    omega
  unfold valAt
  rw [hin, rev_wide R, List.length_reverse]
  cases h : inF F i j with
  | true =>
    obtain ⟨⟨a, b⟩, c, d⟩ := inF_iff.mp h
    rw [if_pos rfl, if_pos rfl]
    exact cell_rev R a b c d
  | false =>
    rw [if_neg Bool.false_ne_true, if_neg Bool.false_ne_true]
    have key : ∀ r : Rule, (r = .near ∨ r = .turned ∨ r = .round) → cellAt F.reverse (led r (F.length - 1 - i) F.length) (led r j (F.headD []).length) = cellAt F (led r i F.length) (led r j (F.headD []).length) := by
      intro r hr
      have h1 : (1 : Int) ≤ F.length := by have := R.h1; omega
      have w1 : (1 : Int) ≤ (F.headD []).length := by have := R.w1; omega
      rw [led_flip hr i h1]
      have a := led_in r i h1
      have b := led_in r j w1
      exact cell_rev R a.1 a.2 b.1 b.2
    cases r with
    | there => rfl
    | told c => rfl
    | near => exact key .near (Or.inl rfl)
    | turned => exact key .turned (Or.inr (Or.inl rfl))
    | round => exact key .round (Or.inr (Or.inr rfl))
theorem val_turn (R : Rect F) (r : Rule) (i j : Int) : valAt (turnT F) r j i = valAt F r i j := by
  have hin : inF (turnT F) j i = inF F i j := by
    rw [Bool.eq_iff_iff, inF_iff, inF_iff, turnT_wide R, turnT_len]
    omega
  unfold valAt
  rw [hin, turnT_wide R, turnT_len]
  cases h : inF F i j with
  | true =>
    obtain ⟨⟨a, b⟩, c, d⟩ := inF_iff.mp h
    rw [if_pos rfl, if_pos rfl]
    exact cell_turn R a b c d
  | false =>
    rw [if_neg Bool.false_ne_true, if_neg Bool.false_ne_true]
    have key : ∀ r : Rule, cellAt (turnT F) (led r j (F.headD []).length) (led r i F.length) = cellAt F (led r i F.length) (led r j (F.headD []).length) := by
      intro r
      have a := led_in r i (n := F.length) (by have := R.h1; omega)
      have b := led_in r j (n := (F.headD []).length) (by have := R.w1; omega)
      exact cell_turn R a.1 a.2 b.1 b.2
    cases r with
    | there => rfl
    | told c => rfl
    | near => exact key .near
    | turned => exact key .turned
    | round => exact key .round
end
theorem flatMap_if {α : Type} (L : List Nat) (ok : Nat → Bool) (f : Nat → α) : (L.flatMap fun b => if ok b = true then [f b] else []) = (L.filter ok).map f := by
  induction L with
  | nil => rfl
  | cons a L ih =>
    rw [List.flatMap_cons, ih, List.filter_cons]
    cases h : ok a with
    | true => simp
    | false => simp
theorem flatMap_ifs {α : Type} (L : List Nat) (ok : Nat → Bool) (f : Nat → List α) : (L.flatMap fun b => if ok b = true then f b else []) = (L.filter ok).flatMap f := by
  induction L with
  | nil => rfl
  | cons a L ih =>
    rw [List.flatMap_cons, ih, List.filter_cons]
    cases h : ok a with
    | true => simp
    | false => simp
def okIx (r : Rule) (n : Nat) (p : Int) (ahead behind : Nat) : List Nat := (List.range (ahead + behind + 1)).filter fun a => okAt r (p - ahead + (a : Nat)) n
def winRows (F : List (List (Option Int))) (ru : Rule) (u d l r : Nat) (i j : Int) : List (List (Option Int)) :=
  (okIx ru F.length i u d).map fun a => (okIx ru (F.headD []).length j l r).map fun b => valAt F ru (i - u + (a : Nat)) (j - l + (b : Nat))
theorem rowCells_ok (F : List (List (Option Int))) (ru : Rule) (l r : Nat) (i j : Int) : rowCells F ru l r i j = if okAt ru i F.length = true then (okIx ru (F.headD []).length j l r).map fun b => valAt F ru i (j - l + (b : Nat)) else [] := by
  unfold rowCells okIx
  have e : (fun b : Nat => stands F ru i (j - l + (b : Nat))) = fun b : Nat => if (okAt ru i F.length && okAt ru (j - l + (b : Nat)) (F.headD []).length) = true then [valAt F ru i (j - l + (b : Nat))] else [] := funext fun b => stands_ok _ _ _ _
  rw [e]
  cases h : okAt ru i F.length with
  | true =>
    rw [if_pos rfl]
    simp only [Bool.true_and]
    exact flatMap_if _ (fun b => okAt ru (j - l + (b : Nat)) (F.headD []).length) _
  | false =>
    rw [if_neg Bool.false_ne_true]
    simp
theorem wc_rows (F : List (List (Option Int))) (ru : Rule) (u d l r : Nat) (i j : Int) : wc F ru u d l r i j = (winRows F ru u d l r i j).flatten := by
  unfold wc winRows
  have e : (fun a : Nat => rowCells F ru l r (i - u + (a : Nat)) j) = fun a : Nat => if okAt ru (i - u + (a : Nat)) F.length = true then (okIx ru (F.headD []).length j l r).map fun b => valAt F ru (i - u + (a : Nat)) (j - l + (b : Nat)) else [] := funext fun a => rowCells_ok _ _ _ _ _ _
  rw [e, flatMap_ifs _ (fun a => okAt ru (i - u + (a : Nat)) F.length), List.flatMap_def]
  rfl
def turnL (n : Nat) (rows : List (List (Option Int))) : List (List (Option Int)) := (List.range n).map fun k => rows.map fun r => (r[k]?).join
theorem win_turn {F : List (List (Option Int))} (R : Rect F) (ru : Rule) (u d l r : Nat) (i j : Int) : winRows (turnT F) ru l r u d j i = turnL (okIx ru (F.headD []).length j l r).length (winRows F ru u d l r i j) := by
  unfold winRows turnL
  rw [turnT_len, turnT_wide R]
  refine List.ext_getElem (by simp) fun k h1 h2 => ?_
  simp only [List.length_map] at h1
  simp only [List.getElem_map, List.getElem_range, List.map_map]
  refine List.map_congr_left fun a ha => ?_
  show _ = Option.join (((okIx ru (F.headD []).length j l r).map _)[k]?)
  rw [List.getElem?_map, List.getElem?_eq_getElem h1]
  exact val_turn R _ _ _
theorem win_wide (F : List (List (Option Int))) (ru : Rule) (u d l r : Nat) (i j : Int) : ∀ x ∈ winRows F ru u d l r i j, x.length = (okIx ru (F.headD []).length j l r).length := by
  intro x hx
  unfold winRows at hx
  obtain ⟨a, _, rfl⟩ := List.mem_map.mp hx
  rw [List.length_map]
end L2
namespace HT
open PySem PyProof.Rows
end HT
namespace L2
open PySem PySem.Spec PyProof.Rows
end L2
namespace L2
open PySem PySem.Spec PyProof.Rows
end L2
namespace L2
def ups (lo : Int) (n : Nat) : List Int := (List.range n).map fun i => lo + (i : Nat)
def notIn (xs ys : List Int) : List Int := xs.filter fun x => !decide (x ∈ ys)
abbrev Area := List Int × List Int
def beyond (a o : Area) : Area := if a.1 = o.1 then (a.1, notIn a.2 o.2) else (notIn a.1 o.1, a.2)
def placeAt (w k : Nat) : Int × Int := (((k / w : Nat) : Int), ((if (k / w) % 2 = 1 then w - 1 - k % w else k % w : Nat) : Int))
def areaAt (u d l r w k : Nat) : Area := (ups ((placeAt w k).1 - u) (u + d + 1), ups ((placeAt w k).2 - l) (l + r + 1))
def oldAt (u d l r w : Nat) : Nat → Area
  | 0 => ([], [])
  | k + 1 => areaAt u d l r w k
end L2
namespace L2
open PySem PySem.Spec PyProof.Rows
def Seed (H : Hp) (d : Addr) : Prop := ∃ a b n c : Int, H d = some (.lst [.int a, .int b, .int n, .int c])
theorem Seed.keep {H H' : Hp} {d : Addr} (D : Seed H d) (h : Same H H') : Seed H' d := let ⟨a, b, n, c, e⟩ := D; ⟨a, b, n, c, h _ _ e⟩
theorem Seed.upd {H : Hp} {d p : Addr} {o : HO} (D : Seed H d) (hp : H p = none) : Seed (upd H p o) d := D.keep (same_upd hp)
theorem ints_cells (xs : List Int) : xs.map V.int = (xs.map some).map cellV := by rw [List.map_map]; rfl
theorem some_inj {xs ys : List Int} : xs.map some = ys.map some ↔ xs = ys := by
  constructor
  · intro h
    have := congrArg (List.map (Option.getD · 0)) h
    simpa [List.map_map, Function.comp_def] using this
  · rintro rfl; rfl
def IsArea (x : Addr) (H : Hp) (v : V) (A : Area) : Prop := ∃ t a b, v = .ref t ∧ H t = some (.tup [.ref a, .ref b]) ∧ H a = some (.lst (A.1.map V.int)) ∧ H b = some (.lst (A.2.map V.int)) ∧ a ≠ x ∧ b ≠ x
def placeD (p : Int × Int) : PyData := .tuple [.int p.1, .int p.2]
theorem isPlace_inv {H : Hp} {v : V} {p : Int × Int} (h : IsD H v (placeD p)) : ∃ a, v = .ref a ∧ H a = some (.tup [.int p.1, .int p.2]) := by
  obtain ⟨a, xs, e, h1, h2⟩ := h.tuple_inv
  cases h2 with
  | cons a1 h2 => cases a1; cases h2 with
    | cons a2 h2 => cases a2; cases h2; exact ⟨a, e, h1⟩
def IsStep (x : Addr) (u d l r w : Nat) (H : Hp) (v : V) (k : Nat) : Prop := ∃ t pv a b, v = .ref t ∧ H t = some (.tup [pv, a, b]) ∧ IsD H pv (placeD (placeAt w k)) ∧ IsArea x H a (beyond (areaAt u d l r w k) (oldAt u d l r w k)) ∧ IsArea x H b (beyond (oldAt u d l r w k) (areaAt u d l r w k))
def IsSteps (x : Addr) (u d l r w : Nat) (H : Hp) (vs : List V) (n : Nat) : Prop := vs.length = n ∧ ∀ k, k < n → ∃ v, vs[k]? = some v ∧ IsStep x u d l r w H v k
theorem IsSteps.push {x : Addr} {u d l r w n : Nat} {H : Hp} {vs : List V} {v : V} (h : IsSteps x u d l r w H vs n) (hv : IsStep x u d l r w H v n) : IsSteps x u d l r w H (vs ++ [v]) (n + 1) := by
  refine ⟨by rw [List.length_append, h.1]; rfl, fun k hk => ?_⟩
  by_cases e : k < n
  · obtain ⟨v', e1, z⟩ := h.2 k e
    exact ⟨v', by rw [List.getElem?_append_left (by rw [h.1]; exact e)]; exact e1, z⟩
  · have : k = n := by omega
    subst this
    refine ⟨v, ?_, hv⟩
    rw [List.getElem?_append_right (by rw [h.1]; exact Nat.le_refl _), h.1, Nat.sub_self]
    rfl
end L2
namespace L2
open PySem PySem.Spec PyProof.Rows PySem.Builtin PySem.Builtin.Str
end L2
namespace L2
open PySem
end L2
namespace L2
open PySem PySem.Spec PyProof.Rows
section
variable {X : Cx} {pins : List (Addr × Obj)} {σ : St} {H : Hp} {s : Shared} {h' : Heap}
theorem Inv.turnedL {t' : Nat} {fp : List Addr} (I : Inv X pins σ H s) (k : ∀ b o, b ∉ fp → s.heap.get? b = some o → h'.get? b = some o) (hf : ∀ b ∈ fp, FpOk X pins H b) : Inv X pins σ H { s with heap := h', toks := t' } := by
  have nit : ∀ b u, H b = some u → b ∉ fp := fun b u e z => by rw [(hf b z).1] at e; cases e
  refine I.step (g' := s.gens) (d' := s.drawn) (ch := fp) (fun b hb => ?_) (fun b o _ _ hc e _ => k b o hc e) (fun b o _ _ hc e _ => ⟨o.slots, k b o hc e⟩) (fun _ _ _ _ n => n)
    (fun b o hc e => ⟨o, k b o hc e⟩) (fun _ _ e => e) (fun _ _ _ e => e) (fun b ps e => ⟨#[], by rw [e]; simp⟩) (fun m hm => ?_) (fun b u e => ?_) I.bare
  · obtain ⟨f0, f1, f2, f3, f4, f5⟩ := hf b hb
    exact ⟨f3, f1, f4, f5⟩
  · obtain ⟨o, es, ep, ho, r⟩ := hm
    exact ⟨o, es, ep, k _ o (fun z => (hf _ z).2.1 rfl) ho, r⟩
  · refine (I.hok b u e).stay (fun c v hc q => k c v ?_ q) (fun _ q => q) fun _ _ q => q
    rcases hc with z | z
    · rw [z]; exact nit b u e
    · exact nit c _ z
end
end L2
namespace L2
open PySem PySem.Spec PyProof.Rows
section
variable {X : Cx} {pins : List (Addr × Obj)} {σ : St} {H : Hp} {s : Shared}
theorem comp_name {scope : Scope} {cells : List (Str × Addr)} {C : Addr} {N : List Str} {s2 : Shared} {H2 : Hp} {fp : List Addr} {y : Str} {p : Pos} {i : Nat} (hN : N.Nodup) (hi : N[i]? = some y) (hx : scope.names.lookup y = some .local ∨ scope.names.lookup y = some .cell) :
    PG (X.comp scope cells C N s2 H2 fp) (.Name y p) (gName i) := by
  refine pg_name hN hi ?_ ?_
  · show (relabel scope X.env).names.lookup y = some .local ∨ (relabel scope X.env).names.lookup y = some .cell
    rw [show (relabel scope X.env).names.lookup y = _ from kindOf_relabel scope.names y]
    rcases hx with z | z
    · rw [z]; exact .inl rfl
    · rw [z]; exact .inr rfl
  · rcases hx with z | z
    · refine .inr ?_
      show (relabel scope X.env).names.lookup y = some .local
      rw [show (relabel scope X.env).names.lookup y = _ from kindOf_relabel scope.names y, z]
      rfl
    · refine .inl ?_
      show (scope.names.lookup y == some .cell) = true
      rw [z]; rfl
def oneOf2 (K : PySem.W.Frag) (tc : TT) (te : TE) (σ : St) (x : V) (H : Hp) (k : Option V → Hp → Prop) : Prop :=
  ∃ a v1 v2, x = .ref a ∧ SqT K H a [v1, v2] ∧ tc (some v1 :: some v2 :: σ) H fun b H1 => if b = true then te (some v1 :: some v2 :: σ) H1 fun v H2 => k (some v) H2 else k none H1
def tCompIf2 (K : PySem.W.Frag) (wi : TI) (idx : List Nat) (tc : TT) (te : TE) : TE := fun σ H Q => wi σ H fun J H1 => CompW J H1 (oneOf2 K tc te (sel idx σ)) fun ys H' => ∀ p, H' p = none → Q (.ref p) (upd H' p (.lst ys))
theorem comp_start2 {scope : Scope} {M : List Str} {idx : List Nat} {fp : List Addr} {x x2 : Str} (ok : CompOk X scope M idx) (hc : X.calm = true) (I : Inv X pins σ H s) (hf : ∀ b ∈ fp, FpOk X pins H b)
    (ho : ∀ b ∈ fp, ∃ o, s.heap.get? b = some o) :
    Inv (X.comp scope (cellsFrom (s.heap.objs.size + 2) scope.names (clOf X.env.cells scope.names [])) (s.heap.objs.size + 1) (x :: x2 :: M) s H fp) [] (none :: none :: sel idx σ) H
      { s with heap := pushCells ((s.heap.push { cls := .type "list", dict := none, data := .seq ([] : List Value).toArray }).push { cls := .type "dict", data := .dict #[] }) scope.names } := by
  have sz2 : ((s.heap.push { cls := .type "list", dict := none, data := .seq ([] : List Value).toArray }).push { cls := .type "dict", data := .dict #[] }).objs.size = s.heap.objs.size + 2 := by rw [Heap.size_push, Heap.size_push]
  have keep : ∀ b o, s.heap.get? b = some o → (pushCells ((s.heap.push { cls := .type "list", dict := none, data := .seq ([] : List Value).toArray }).push { cls := .type "dict", data := .dict #[] }) scope.names).get? b = some o :=
    fun b o e => pushCells_keeps _ _ _ _ (Heap.get?_push_of_some _ (Heap.get?_push_of_some _ e))
  have clLook : ∀ n c, (clOf X.env.cells scope.names []).lookup n = some c → X.env.cells.lookup n = some c := lookup_clOf fun n c e => by simp at e
  have clLt : ∀ n c, (clOf X.env.cells scope.names []).lookup n = some c → c < s.heap.objs.size := fun n c e => by
    obtain ⟨v, z⟩ := I.cell n c (clLook n c e)
    exact z.lt
  have look : ∀ n c, (cellsFrom (s.heap.objs.size + 2) scope.names (clOf X.env.cells scope.names [])).lookup n = some c →
      (s.heap.objs.size + 2 ≤ c ∧ (pushCells ((s.heap.push { cls := .type "list", dict := none, data := .seq ([] : List Value).toArray }).push { cls := .type "dict", data := .dict #[] }) scope.names).IsCell c none) ∨ X.env.cells.lookup n = some c := fun n c e => by
    have e' : (cellsFrom ((s.heap.push { cls := .type "list", dict := none, data := .seq ([] : List Value).toArray }).push { cls := .type "dict", data := .dict #[] }).objs.size scope.names (clOf X.env.cells scope.names [])).lookup n = some c := by rw [sz2]; exact e
    rcases cellsFrom_new e' with ⟨q1, q2⟩ | q
    · rw [sz2] at q1; exact .inl ⟨q1, q2⟩
    · exact .inr (clLook n c q)
  have fresh : ∀ a, s.heap.objs.size ≤ a → H a = none := fun a h => I.hok.fresh h
  have fpLt : ∀ b ∈ fp, b < s.heap.objs.size := fun b hb => let ⟨_, e⟩ := ho b hb; Heap.lt_size e
  have fpStk : ∀ b ∈ fp, b ∉ frs X.stack := fun b hb z => by
    obtain ⟨_, f1, f2, _⟩ := hf b hb
    exact (List.mem_cons.mp (I.stkSub b z)).elim f1 f2
  have hasFree : ∀ y ∈ scope.names, y.2 = .free → ∃ c, X.env.cells.lookup y.1 = some c := fun y hy e => I.ok.has y.1 (ok.fre y hy e)
  have kindR : ∀ y, (compEnvC scope (cellsFrom (s.heap.objs.size + 2) scope.names (clOf X.env.cells scope.names [])) (s.heap.objs.size + 1) X.env).kindOf y =
      (scope.names.lookup y).map fun k => if (k == NameKind.free && X.env.scope.kind == .function && X.env.kindOf y == some .cell) then NameKind.cell else k := fun y => kindOf_relabel scope.names y
  refine ⟨⟨I.ok.mod, ok.kind, I.ok.glob, I.ok.blt, Nat.le_succ _, ?_, fun y hy => ?_, fun y c hfn e => ?_, I.ok.hd, I.ok.frames, .inl rfl, fun b hb => ⟨?_, fun y c e => ?_⟩, I.bs, Nat.le_trans I.ok.bsz I.sz, fun b o e hb => ?_, fun b hb => fpStk b hb, I.stack, I.stkFree⟩,
    rfl, I.bare, Un.kept keep, ⟨fun _ => none, ?_, fun i y v h1 h2 h3 => ?_⟩, fun y c e => ?_, fresh _ (Nat.le_succ _), fun y c e => ?_, fun p hp => absurd (show p ∈ ([] : List (Addr × Obj)) from hp) (by simp), I.hok.kept keep, ?_⟩
  · exact cellsFrom_inj (fun a b c h1 h2 => I.ok.inj a b c (clLook a c h1) (clLook b c h2)) fun a c h1 => Nat.lt_of_lt_of_le (clLt a c h1) (Nat.le_add_right _ _)
  · -- has
    rw [show (X.comp scope (cellsFrom (s.heap.objs.size + 2) scope.names (clOf X.env.cells scope.names [])) (s.heap.objs.size + 1) (x :: x2 :: M) s H fp).env.kindOf y = _ from kindR y] at hy
    show ∃ c, (cellsFrom (s.heap.objs.size + 2) scope.names (clOf X.env.cells scope.names [])).lookup y = some c
    cases hk : scope.names.lookup y with
    | none => rw [hk] at hy; rcases hy with z | z <;> cases z
    | some k =>
      have mem := PySem.mem_of_lookup hk
      by_cases k1 : k = .cell
      · subst k1; exact cellsFrom_has mem
      by_cases k2 : k = .free
      · subst k2
        obtain ⟨c, ec⟩ := hasFree _ mem rfl
        exact cellsFrom_acc (clOf_has ec mem)
      · rw [hk] at hy
        have hb : (k == NameKind.free) = false := by simpa using k2
        rw [Option.map_some, hb, Bool.false_and, Bool.false_and, if_neg Bool.false_ne_true] at hy
        rcases hy with z | z
        · exact absurd (Option.some.inj z) k1
        · exact absurd (Option.some.inj z) k2
  · -- cab
    have hl : scope.names.lookup y = some .cell := by simpa [Cx.comp] using hfn
    exact cellsFrom_ge (lo := s.heap.objs.size) (by omega) (.inl (PySem.mem_of_lookup hl)) e
  · -- exf
    exact Nat.ne_of_lt (Nat.lt_succ_of_lt (fpLt b hb))
  · rcases look y c e with ⟨q, _⟩ | q
    · exact fun z => absurd (fpLt b hb) (by rw [← z]; exact Nat.not_lt.mpr (Nat.le_trans (Nat.le_add_right _ 2) q))
    · exact (hf b hb).2.2.2.2.1 y c q
  · -- noex
    rcases (hf b hb).2.2.2.1 with z | z
    · exact I.ok.noex b o e z
    · exact absurd (Nat.lt_of_lt_of_le (Heap.lt_size e) (Nat.le_trans I.ok.bsz z)) (Nat.lt_irrefl _)
  · -- the new map
    have e0 : (s.heap.push { cls := .type "list", dict := none, data := .seq ([] : List Value).toArray }).objs.size = s.heap.objs.size + 1 := Heap.size_push ..
    have q := (Heap.Ns.new (s.heap.push { cls := .type "list", dict := none, data := .seq ([] : List Value).toArray }) (.type "dict")).keeps (pushCells_keeps scope.names _)
    rw [e0] at q
    exact q
  · -- names
    cases i with
    | zero => cases h2
    | succ i => cases i with
    | zero => cases h2
    | succ j =>
      have h2' : (sel idx σ)[j]? = some (some v) := h2
      have h1' : M[j]? = some y := h1
      obtain ⟨k, ek, ev⟩ := sel_get h2'
      obtain ⟨hl, k', ek', eN⟩ := ok.cap j y h1'
      rw [ek] at ek'; cases ek'
      have mem := PySem.mem_of_lookup hl
      have hk := ok.fre _ mem rfl
      obtain ⟨m, hn, hloc⟩ := I.loc
      have vis : Vis X.env.scope y := hk.elim (fun z => .inr (.inl z)) fun z => .inr (.inr z)
      obtain ⟨u, r, l⟩ := hloc k y v eN ev vis
      refine ⟨u, r, ?_⟩
      rcases l with ⟨z, _⟩ | ⟨_, c, ec, hcell⟩
      · rw [z] at hk; rcases hk with z | z <;> cases z
      · refine .inr ⟨?_, c, ?_, hcell.keeps keep⟩
        · rw [show (X.comp scope (cellsFrom (s.heap.objs.size + 2) scope.names (clOf X.env.cells scope.names [])) (s.heap.objs.size + 1) (x :: x2 :: M) s H fp).env.kindOf y = _ from kindR y, hl, Option.map_some]
          by_cases hcc : (NameKind.free == NameKind.free && X.env.scope.kind == .function && X.env.kindOf y == some .cell) = true
          · rw [if_pos hcc]; exact .inl rfl
          · rw [if_neg hcc]; exact .inr rfl
        · show (cellsFrom (s.heap.objs.size + 2) scope.names (clOf X.env.cells scope.names [])).lookup y = some c
          rw [cellsFrom_not]
          · obtain ⟨d, ed⟩ := clOf_has (acc := []) ec mem
            rw [ed, ← clLook y d ed, ec]
          · intro p hp hpc hpy
            have := ok.cel p hp hpc
            rw [hpy, hl] at this
            cases this
  · rcases look y c e with ⟨_, q⟩ | q
    · exact ⟨_, q⟩
    · obtain ⟨v, z⟩ := I.cell y c q
      exact ⟨v, z.keeps keep⟩
  · rcases look y c e with ⟨q, _⟩ | q
    · exact fresh _ (by omega)
    · exact I.freeC y c q
  · show (none :: none :: sel idx σ).length = (x :: x2 :: M).length
    unfold sel
    rw [List.length_cons, List.length_cons, List.length_cons, List.length_cons, List.length_map, ok.len]
theorem comp_block2 {elt iter : Expr} {ifs : List Expr} {scope : Scope} {pos : Pos} {x x2 : Str} {px px2 pt : Pos} {kk : Nat} {K : PySem.W.Frag} {M : List Str} {idx : List Nat} {tc : TT} {te : TE} {itv : Value} {Q : List V → Hp → Prop}
    {RR : Value → Addr → Result → Shared → Prop} 
    (hK : X.K = K) (hc : X.calm = true) (ok : CompOk X scope M idx) (hN : (x :: x2 :: M).Nodup) (hx : scope.names.lookup x = some .local ∨ scope.names.lookup x = some .cell) (hx2 : scope.names.lookup x2 = some .local ∨ scope.names.lookup x2 = some .cell)
    (ht : ∀ cells C s2 H2 fp, PTs (X.comp scope cells C (x :: x2 :: M) s2 H2 fp) ifs tc) (he : ∀ cells C s2 H2 fp, PE (X.comp scope cells C (x :: x2 :: M) s2 H2 fp) elt te)
    (h : PIE X pins σ (.Tuple [.Name x px, .Name x2 px2] kk pt) (fun J H1 => CompW J H1 (oneOf2 K tc te (sel idx σ)) Q) itv s)
    (hR : ∀ (D C : Addr) (ys : List V) (H' : Hp) (s' : Shared), s.heap.objs.size ≤ D → s.heap.objs.size ≤ C → D ≠ C → H' D = none → H' C = none → Q ys H' → (∃ m, s'.heap.Ns C m) →
      (∀ h' tk, Heap.SameBut C s'.heap h' → Inv X pins σ (upd H' D (.lst ys)) { s' with heap := h', toks := tk }) → RR (.ref D) C (.ok .next) s') :
    wpAny (model X.prog X.w) X.A (newList []) (fun acc s₃ => wpAny (model X.prog X.w) X.A (newFunctionEnv scope X.env.globals (clOf X.env.cells scope.names []) [] X.env.qual none .none (some X.env)) (fun cenv s₄ =>
      codeAny (model X.prog X.w) X.A (.compStart (.ListComp elt [⟨.Tuple [.Name x px, .Name x2 px2] kk pt, iter, ifs, 0⟩] scope pos) 0 itv acc { cenv with scope := relabel scope X.env }) (RR acc cenv.locals) s₄) X.xe s₃) X.xe s := by
  obtain ⟨it, fp, tn, J, H2, e, I2, T, st2, f2, n, W, w0, hn, turn⟩ := h
  subst e
  have ho : ∀ b ∈ fp, ∃ o, s.heap.get? b = some o := fun b hb => let ⟨o, e, _⟩ := T.obj 0 _ st2 b hb; ⟨o, e⟩
  have I3 := comp_start2 (x := x) (x2 := x2) ok hc I2 f2 ho
  have sz1 : (s.heap.push { cls := .type "list", dict := none, data := .seq ([] : List Value).toArray }).objs.size = s.heap.objs.size + 1 := Heap.size_push ..
  have keep0 : ∀ b o, s.heap.get? b = some o → (pushCells ((s.heap.push { cls := .type "list", dict := none, data := .seq ([] : List Value).toArray }).push { cls := .type "dict", data := .dict #[] }) scope.names).get? b = some o :=
    fun b o e => pushCells_keeps _ _ _ _ (Heap.get?_push_of_some _ (Heap.get?_push_of_some _ e))
  have acc0 : (pushCells ((s.heap.push { cls := .type "list", dict := none, data := .seq ([] : List Value).toArray }).push { cls := .type "dict", data := .dict #[] }) scope.names).PlainList s.heap.objs.size ([] : List Value).toArray :=
    ⟨_, pushCells_keeps _ _ _ _ (Heap.get?_push_of_some _ (Heap.get?_push_size _ rfl))⟩
  have fpLt : ∀ b ∈ fp, b < s.heap.objs.size := fun b hb => let ⟨_, e⟩ := ho b hb; Heap.lt_size e
  refine wpAny_newList ?_
  refine newCompEnv ?_
  dsimp only
  rw [sz1]
  generalize hcells : cellsFrom (s.heap.objs.size + 1 + 1) scope.names (clOf X.env.cells scope.names []) = cells
  have hcells' : cellsFrom (s.heap.objs.size + 2) scope.names (clOf X.env.cells scope.names []) = cells := hcells
  rw [hcells'] at I3
  generalize hh : pushCells ((s.heap.push { cls := .type "list", dict := none, data := .seq ([] : List Value).toArray }).push { cls := .type "dict", data := .dict #[] }) scope.names = h1 at I3 keep0 acc0 ⊢
  have ht := ht cells (s.heap.objs.size + 1) s H2 fp
  have he := he cells (s.heap.objs.size + 1) s H2 fp
  have st3 : tn 0 h1 := T.keep 0 _ _ st2 fun b hb o e => keep0 b o e
  have hg : PG (X.comp scope cells (s.heap.objs.size + 1) (x :: x2 :: M) s H2 fp) (.Tuple [.Name x px, .Name x2 px2] kk pt) (gTup K 2 (gCons (gName 0) (gCons (gName 1) gNil))) :=
    pg_tupK hK hc (pgs_cons (comp_name (i := 0) hN rfl hx) (pgs_cons (comp_name (i := 1) hN rfl hx2) pgs_nil))
  have stat : ∀ {pins' : List (Addr × Obj)} {H' : Hp}, (∀ p ∈ pins', p.1 = s.heap.objs.size) → (∀ b ∈ fp, H' b = none) → ∀ b ∈ fp, FpOk (X.comp scope cells (s.heap.objs.size + 1) (x :: x2 :: M) s H2 fp) pins' H' b := fun {pins' H'} hp hn b hb =>
    ⟨hn b hb, (I3.ok.exf b hb).1, I3.ok.exfs b hb, .inl hb, (I3.ok.exf b hb).2, fun p hp' => by
      have e := hp p (show p ∈ pins' from by simpa [Cx.comp] using hp')
      rw [e]; exact Nat.ne_of_gt (fpLt b hb)⟩
  have loop : ∀ (s₄ : Shared), s₄ = { s with heap := h1 } → codeAny (model X.prog X.w) X.A (.compLoop (.ListComp elt [⟨.Tuple [.Name x px, .Name x2 px2] kk pt, iter, ifs, 0⟩] scope pos) 0 (.ref it) (.ref s.heap.objs.size) (compEnvC scope cells (s.heap.objs.size + 1) X.env))
      (RR (.ref s.heap.objs.size) (s.heap.objs.size + 1)) s₄ := by
    rintro s₄ rfl
    refine compLoop_any (fun k s' => ∃ (i : Nat) (ys : List V) (its : List Value) (H' : Hp), Inv (X.comp scope cells (s.heap.objs.size + 1) (x :: x2 :: M) s H2 fp) [] (none :: none :: sel idx σ) H' s' ∧ tn i s'.heap ∧ (∀ b ∈ fp, H' b = none) ∧ H' s.heap.objs.size = none ∧
      s'.heap.PlainList s.heap.objs.size its.toArray ∧ Vals ys its ∧ ys.length ≤ i ∧ i ≤ n ∧ W i ys H' ∧ k = n - i) ?_ n ⟨0, [], [], H2, I3, st3, fun b hb => (f2 b hb).1, I2.hok.fresh (Nat.le_refl _), acc0, .nil, Nat.le_refl _, Nat.zero_le _, w0, rfl⟩
    rintro k s' ⟨i, ys, its, H', I', st', fr', hD', hpl', hv', hlen, hlin, w', rfl⟩
    obtain ⟨nn, hobj⟩ := id hpl'
    have pinD : ∀ {H5 : Hp} {s5 : Shared} {σ5 : St} {P5 : List (Addr × Obj)}, Inv (X.comp scope cells (s.heap.objs.size + 1) (x :: x2 :: M) s H2 fp) P5 σ5 H5 s5 → s5.heap.get? s.heap.objs.size = some { cls := .type "list", data := .seq its.toArray nn } → H5 s.heap.objs.size = none →
        ∀ p ∈ [(s.heap.objs.size, ({ cls := .type "list", data := .seq its.toArray nn } : Obj))], s5.heap.get? p.1 = some p.2 ∧ H5 p.1 = none ∧ p.1 ≠ (X.comp scope cells (s.heap.objs.size + 1) (x :: x2 :: M) s H2 fp).env.locals ∧ p.1 ∉ (X.comp scope cells (s.heap.objs.size + 1) (x :: x2 :: M) s H2 fp).fs ∧ ∀ v, p.2.data ≠ .cell v :=
      fun {H5 s5 σ5 P5} I5 e5 n5 p hp => by
        have ep : p = (s.heap.objs.size, ({ cls := .type "list", data := .seq its.toArray nn } : Obj)) := by simpa using hp
        subst ep
        refine ⟨e5, n5, Nat.ne_of_lt (Nat.lt_succ_self _), fun z => ?_, fun v z => by cases z⟩
        obtain ⟨_, o, ho, _⟩ := I5.ok.funs.mem z
        exact absurd (Heap.lt_size ho) (Nat.lt_irrefl _)
    have ID := I'.pins_of (pinD I' hobj hD')
    have ndp : ∀ p ∈ [(s.heap.objs.size, ({ cls := .type "list", data := .seq its.toArray nn } : Obj))], p.1 = s.heap.objs.size := fun p hp => by
      have ep : p = (s.heap.objs.size, ({ cls := .type "list", data := .seq its.toArray nn } : Obj)) := by simpa using hp
      rw [ep]
    rcases turn i ys H' w' with ⟨stop, qn⟩ | ⟨go, hin, N, hNW, step⟩
    · refine thn (T.done (X.comp scope cells (s.heap.objs.size + 1) (x :: x2 :: M) s H2 fp) rfl rfl rfl hc i _ s' _ H' (fun _ _ => False) ID (stat ndp fr') st' stop) fun r s4 ⟨hr, I4⟩ => ?_
      subst hr
      have pin4 := I4.pin (s.heap.objs.size, ({ cls := .type "list", data := .seq its.toArray nn } : Obj)) (by simp [Cx.comp])
      obtain ⟨m4, hm4, _⟩ := id I4.loc
      refine hR s.heap.objs.size (s.heap.objs.size + 1) ys H' s4 (Nat.le_refl _) (Nat.le_succ _) (Nat.ne_of_lt (Nat.lt_succ_self _)) pin4.2.1 I4.free qn ⟨m4, hm4⟩ fun h' tk hs' => ?_
      have neC : ∀ b, b < s.heap.objs.size → b ≠ s.heap.objs.size + 1 := fun b hb => Nat.ne_of_lt (Nat.lt_succ_of_lt hb)
      have neD : ∀ b, b < s.heap.objs.size → b ≠ s.heap.objs.size := fun b hb => Nat.ne_of_lt hb
      have u4 := I4.base
      refine I2.call' (s' := { s4 with heap := h', toks := tk }) (ch := fp) I4.os ?_ ?_ I4.bare fun b hb => ?_
      · refine ⟨fun b o e1 e2 e3 e4 => ?_, fun b o e1 e2 e3 e4 => ?_, fun b o e1 e2 e3 => ?_, fun b o e1 e2 => ?_, fun b xs e1 => ?_, fun b o u e1 => ?_, fun b ps e1 => ?_⟩
        · exact (hs'.2 b (neC b (Heap.lt_size e1))).trans (u4.keep b o e1 e2 e3 e4)
        · obtain ⟨sl, q⟩ := u4.slot b o e1 e2 e3 e4
          exact ⟨sl, (hs'.2 b (neC b (Heap.lt_size e1))).trans q⟩
        · rw [upd_ne (neD b (Heap.lt_size e1))]; exact u4.free b o e1 e2 e3
        · obtain ⟨o', q⟩ := u4.there b o e1 e2
          exact ⟨o', (hs'.2 b (neC b (Heap.lt_size e1))).trans q⟩
        · have q := u4.tups b xs e1
          rw [upd_ne (ne_of_none q pin4.2.1)]; exact q
        · have q := u4.frzs b o u e1
          rw [upd_ne (ne_of_none q pin4.2.1)]; exact q
        · obtain ⟨more, q⟩ := u4.tbls b ps e1
          exact ⟨more, by rw [upd_ne (ne_of_none q pin4.2.1)]; exact q⟩
      · intro b o e1
        by_cases hb : b = s.heap.objs.size
        · subst hb
          rw [upd_same] at e1; cases e1
          exact ⟨Nat.le_trans hlen (Nat.le_trans hlin hn), its, nn, hv', (hs'.2 _ (Nat.ne_of_lt (Nat.lt_succ_self _))).trans pin4.1⟩
        · rw [upd_ne hb] at e1
          refine (I4.hok b o e1).stay (fun c u hcu q => (hs'.2 c ?_).trans q) (fun c q => by rw [upd_ne (ne_of_none q pin4.2.1)]; exact q) fun c xs q => by rw [upd_ne (ne_of_none q pin4.2.1)]; exact q
          rintro rfl
          rcases hcu with z | z
          · rw [← z] at e1
            have z2 := I4.free
            rw [show (X.comp scope cells (s.heap.objs.size + 1) (x :: x2 :: M) s H2 fp).env.locals = s.heap.objs.size + 1 from rfl, e1] at z2
            cases z2
          · have z2 := I4.free
            rw [show (X.comp scope cells (s.heap.objs.size + 1) (x :: x2 :: M) s H2 fp).env.locals = s.heap.objs.size + 1 from rfl, z] at z2
            cases z2
      · obtain ⟨_, g1, g2, g3, g4, g5⟩ := f2 b hb
        exact ⟨g3, g1, g4, g5⟩
    · refine thn (T.item (X.comp scope cells (s.heap.objs.size + 1) (x :: x2 :: M) s H2 fp) rfl rfl rfl hc i _ s' _ H' (fun _ _ => False) ID (stat ndp fr') st' go) fun r s4 ⟨u, hr, h4⟩ => ?_
      subst hr
      refine thn h4 fun _ s5 ⟨y, H5, I5, r5, y5, st5, fr5⟩ => ?_
      have I5' := I5.pinned (stat ndp fr5) (T.obj _ _ st5)
      obtain ⟨pa, v1, v2, ey, hq, q5⟩ := step y _ y5
      refine thn (hg _ s5 _ H5 y u (fun σ' H6 => σ' = some v1 :: some v2 :: sel idx σ ∧ H6 = H5) I5' r5 ⟨pa, [v1, v2], ey, hq, rfl, v1, [v2], rfl, v2, [], rfl, rfl, rfl, rfl⟩) fun _ s6 ⟨σ6, H6, I6, e6, e6'⟩ => ?_
      subst e6 e6'
      have fin : ∀ {H8 : Hp} {s8 : Shared} {σ8 : St}, Inv (X.comp scope cells (s.heap.objs.size + 1) (x :: x2 :: M) s H2 fp) ([(s.heap.objs.size, ({ cls := .type "list", data := .seq its.toArray nn } : Obj))] ++ pinsAt fp s5.heap) σ8 H8 s8 →
          s8.heap.PlainList s.heap.objs.size its.toArray ∧ H8 s.heap.objs.size = none ∧ tn (i + 1) s8.heap ∧ ∀ b ∈ fp, H8 b = none := fun {H8 s8 σ8} I8 => by
        have p8 := I8.pin (s.heap.objs.size, ({ cls := .type "list", data := .seq its.toArray nn } : Obj)) (by simp [Cx.comp])
        refine ⟨⟨nn, p8.1⟩, p8.2.1, T.keep _ _ _ st5 fun b hb o e => (I8.pin (b, o) (List.mem_append_right _ (List.mem_append_right _ (mem_pinsAt hb e)))).1, fun b hb => ?_⟩
        obtain ⟨o, e, _⟩ := T.obj _ _ st5 b hb
        exact (I8.pin (b, o) (List.mem_append_right _ (List.mem_append_right _ (mem_pinsAt hb e)))).2.1
      have back : ∀ {H8 : Hp} {s8 : Shared} {P8 : List (Addr × Obj)}, Inv (X.comp scope cells (s.heap.objs.size + 1) (x :: x2 :: M) s H2 fp) P8 (some v1 :: some v2 :: sel idx σ) H8 s8 → Inv (X.comp scope cells (s.heap.objs.size + 1) (x :: x2 :: M) s H2 fp) [] (none :: none :: sel idx σ) H8 s8 := fun I8 =>
        (I8.pins_of fun p hp => absurd hp (by simp)).weak rfl fun j v e => by
          cases j with
          | zero => cases e
          | succ j => cases j with
          | zero => cases e
          | succ j => exact e
      refine thn (ht _ s6 _ _ _ I6 q5) fun b s7 ⟨H7, I7, q7⟩ => ?_
      cases b with
      | false =>
        have q7' : W (i + 1) (ys ++ []) H7 := hNW none H7 q7
        rw [List.append_nil] at q7'
        obtain ⟨g1, g2, g3, g4⟩ := fin I7
        refine show (if false = true then _ else _) from ?_
        rw [if_neg Bool.false_ne_true]
        exact ⟨n - (i + 1), by omega, i + 1, ys, its, H7, back I7, g3, g4, g2, g1, hv', Nat.le_succ_of_le hlen, hin, q7', rfl⟩
      | true =>
        refine show (if true = true then _ else _) from ?_
        rw [if_pos rfl]
        have q7' : te (some v1 :: some v2 :: sel idx σ) H7 fun v H3 => N (some v) H3 := q7
        refine thn (he _ s7 _ _ _ I7 q7') fun u8 s8 ⟨v8, H8, I8, r8, w8⟩ => ?_
        have w8 : W (i + 1) (ys ++ [v8]) H8 := hNW (some v8) H8 w8
        obtain ⟨g1, g2, g3, g4⟩ := fin I8
        refine wpAny_list_append_plain g1 (fun h' hpl hs' => ?_) (by
          rw [List.size_toArray, ← hv'.length]
          exact Nat.le_trans hlen (Nat.le_trans hlin hn))
        have I9 := back I8
        have hpl2 : h'.PlainList s.heap.objs.size (its ++ [u8]).toArray := by
          have e : (its ++ [u8]).toArray = its.toArray.push u8 := by simp
          rw [e]; exact hpl
        refine ⟨n - (i + 1), by omega, i + 1, ys ++ [v8], its ++ [u8], H8, I9.turned (it := s.heap.objs.size) (t' := s8.toks) (fun b o hb e => (hs'.2 b hb).trans e) g2 (Nat.ne_of_lt (Nat.lt_succ_self _)) (.inr (Nat.le_refl _)) (fun z c ec hcz => ?_) (fun p hp => absurd hp (by simp [Cx.comp])),
          T.keep _ _ _ g3 (fun b hb o e => (hs'.2 b (Nat.ne_of_lt (fpLt b hb))).trans e), g4, g2, hpl2, hv'.append (.cons r8 .nil), by rw [List.length_append]; exact Nat.succ_le_succ hlen, hin, w8, rfl⟩
        obtain ⟨v, o, ho, hd⟩ := I9.cell z c ec
        obtain ⟨n9, g9⟩ := g1
        rw [hcz, g9] at ho
        cases ho
        cases hd
  exact codeAny_compStart_list (loop _ rfl) (T.self _ 0 _ _ _ st3 (loop _ rfl))
theorem pe_compIf2 {elt iter : Expr} {ifs : List Expr} {scope : Scope} {pos : Pos} {x x2 : Str} {px px2 pt : Pos} {kk : Nat} {K : PySem.W.Frag} {M : List Str} {idx : List Nat} {wi : TI} {tc : TT} {te : TE}
    (hK : X.K = K) (hc : X.calm = true) (hi : PI X (.Tuple [.Name x px, .Name x2 px2] kk pt) iter wi) (ok : CompOk X scope M idx) (hN : (x :: x2 :: M).Nodup) (hx : scope.names.lookup x = some .local ∨ scope.names.lookup x = some .cell) (hx2 : scope.names.lookup x2 = some .local ∨ scope.names.lookup x2 = some .cell)
    (ht : ∀ cells C s2 H2 fp, PTs (X.comp scope cells C (x :: x2 :: M) s2 H2 fp) ifs tc) (he : ∀ cells C s2 H2 fp, PE (X.comp scope cells C (x :: x2 :: M) s2 H2 fp) elt te)
    (hs : ∀ x, foldedSetIterable iter X.env x = pure x := by intro _; rfl) : PE X (.ListComp elt [⟨.Tuple [.Name x px, .Name x2 px2] kk pt, iter, ifs, 0⟩] scope pos) (tCompIf2 K wi idx tc te) := by
  intro pins s σ H Q I h
  rw [eval_ListComp]
  refine wpAny_comprehension_free (use := none) rfl hs (closureFor_cl fun y hy e => I.ok.has y.1 (ok.fre y hy e)) ok.kind ok.loc (thn (hi pins s σ H _ I h) fun v s1 h1 => thn h1 fun itv s2 h2 => ?_)
  refine comp_block2 (RR := fun acc C => compPost (model X.prog X.w) X.A X.xe none (EP X pins σ Q) acc C) hK hc ok hN hx hx2 ht he h2 fun D C ys H' s' hD hC hDC nD nC q hm hI => ?_
  obtain ⟨m, hm⟩ := hm
  exact ⟨m, hm, fun h' hs' => ⟨.ref D, upd H' D (.lst ys), hI h' s'.toks hs', rfl, q D nD⟩⟩
end
end L2
set_option maxHeartbeats 2000000
namespace MwZip
open PySem PySem.Spec PyProof.Rows
section
variable {prog : Program} {w : World} {A : Around} {E : Value → Shared → Prop} {s : Shared}
theorem draw_one {u p : Addr} {k : Nat} {ts : Array Value} {v : Value} {Q : Value → Shared → Prop} (hu : s.heap.IsTupleIter u p k) (hp : s.heap.IsTuple p ts) (hv : ts[k]? = some v)
    (hQ : ∀ g, g.IsTupleIter u p (k + 1) → Heap.SameBut u s.heap g → Q v { s with heap := g }) : wpAny (model prog w) A (Builtin.SmallTypes.nextOf (.ref u)) Q E s := by
  obtain ⟨ou, gu, cu, du⟩ := id hu
  obtain ⟨op, gp, _, np, dp⟩ := hp
  unfold Builtin.SmallTypes.nextOf
  refine wpAny_bind (wpAny_callSpecial?_slot (name := Str.ofString "__next__") hu.typeIs PySem.F.slot_tuple_iterator_next (wpAny_call_entry PySem.F.slot_tuple_iterator_next hu.typeIs PySem.F.entry_tuple_iterator_next ?_ (PySem.F.args_tuple_iterator_next_1 _)))
  show wpAny _ _ (field (.ref u) 0 >>= _) _ _ s
  refine wpAny_bind (wpAny_field gu du (x := .ref p) rfl ?_)
  show wpAny _ _ (if (Value.ref p == Value.none) = true then _ else _) _ _ s
  rw [if_neg (show ¬ ((Value.ref p == Value.none) = true) from Bool.false_ne_true)]
  show wpAny _ _ (field (.ref u) 1 >>= _) _ _ s
  refine wpAny_bind (wpAny_field gu du (x := .int k 0) rfl ?_)
  show wpAny _ _ (seqItems? (.ref p) >>= _) _ _ s
  refine wpAny_bind (wpAny_seqItems gp dp ?_)
  simp only [Int.toNat_natCast, hv]
  refine wpAny_bind (wpAny_setField gu du (by simp) (wpAny_pure ⟨v, rfl, wpAny_pure (hQ _ ?_ (Heap.SameBut.update ..))⟩))
  refine ⟨_, Heap.get?_update_self _ gu (Obj.isFreed_of_fields (Obj.data_mapFields du _)), (Obj.cls_mapFields ..).trans cu, ?_⟩
  rw [Obj.data_mapFields du]; simp [rawInt]
theorem draw_none {u p : Addr} {k : Nat} {ts : Array Value} {Q : Value → Shared → Prop} (hh : A.handled = none) (hu : s.heap.IsTupleIter u p k) (hp : s.heap.IsTuple p ts) (hv : ts[k]? = none)
    (hE : ∀ g e, Heap.ExtBut u s.heap g → (∃ o, g.get? e = some o ∧ o.cls = .type "StopIteration") → E (.ref e) { s with heap := g }) : wpAny (model prog w) A (Builtin.SmallTypes.nextOf (.ref u)) Q E s := by
  obtain ⟨ou, gu, cu, du⟩ := id hu
  obtain ⟨op, gp, _, np, dp⟩ := hp
  unfold Builtin.SmallTypes.nextOf
  refine wpAny_bind (wpAny_callSpecial?_slot (name := Str.ofString "__next__") hu.typeIs PySem.F.slot_tuple_iterator_next (wpAny_call_entry PySem.F.slot_tuple_iterator_next hu.typeIs PySem.F.entry_tuple_iterator_next ?_ (PySem.F.args_tuple_iterator_next_1 _)))
  show wpAny _ _ (field (.ref u) 0 >>= _) _ _ s
  refine wpAny_bind (wpAny_field gu du (x := .ref p) rfl ?_)
  show wpAny _ _ (if (Value.ref p == Value.none) = true then _ else _) _ _ s
  rw [if_neg (show ¬ ((Value.ref p == Value.none) = true) from Bool.false_ne_true)]
  show wpAny _ _ (field (.ref u) 1 >>= _) _ _ s
  refine wpAny_bind (wpAny_field gu du (x := .int k 0) rfl ?_)
  show wpAny _ _ (seqItems? (.ref p) >>= _) _ _ s
  refine wpAny_bind (wpAny_seqItems gp dp ?_)
  simp only [Int.toNat_natCast, hv]
  refine wpAny_bind (wpAny_rule (wpAny_bind (wpAny_setField gu du (by simp) ?_)))
  show wpAny _ _ (newExc (.type "StopIteration") [] >>= fun x => raiseNew x) _ _ _
  refine wpAny_bind ?_
  simp only [newExc, newTuple]
  refine wpAny_bind (wpAny_newObj_type ?_ (by size_fits))
  refine wpAny_bind (m := firstArgMember _ _) (wpAny_of_eq (a := Value.none) (by first | rfl | (simp only [firstArgMember]; rfl)) (wpAny_newObj_type ?_ (by size_fits)))
  simp only [raiseNew]
  refine wpAny_bind (wpAny_handled ?_)
  rw [show A.in1.handled = none from hh]
  refine wpAny_bind (wpAny_pure (wpAny_throw ?_))
  exact hE _ _ (((Heap.SameBut.update ..).extBut.push _).push _) ⟨_, Heap.get?_push_size _ rfl, rfl⟩
structure Zp (h : Heap) (z a b u v p q : Addr) (f0 : Value) (k : Nat) (xs ys : Array Value) : Prop where
  hz : IsZip h z a b f0
  ha : IsPair h a (.ref u) (.ref v)
  hb : ∃ x y, IsPair h b x y
  hu : h.IsTupleIter u p k
  hv : h.IsTupleIter v q k
  hp : h.IsTuple p xs
  hq : h.IsTuple q ys
def Apart (z a b u v p q : Addr) : Prop := [z, a, b, u, v].Nodup ∧ p ∉ [z, a, b, u, v] ∧ q ∉ [z, a, b, u, v]
theorem zip_item {z a b u v p q : Addr} {k : Nat} {xs ys : Array Value} {x y : Value} {Q : Option Value → Shared → Prop} (D : Apart z a b u v p q) (Z : Zp s.heap z a b u v p q .none k xs ys) (hx : xs[k]? = some x) (hy : ys[k]? = some y)
    (hQ : ∀ h', Zp h' z a b u v p q (rawInt s.heap.objs.size) (k + 1) xs ys → IsPair h' s.heap.objs.size x y → h'.objs.size = s.heap.objs.size + 1 → (∀ c o, c ∉ [z, b, u, v] → s.heap.get? c = some o → h'.get? c = some o) → Q (some (.ref s.heap.objs.size)) { s with heap := h' }) :
    wpAny (model prog w) A (pyNext (.ref z)) Q E s := by
  obtain ⟨hz, ha, ⟨x0, y0, hb⟩, hu, hv, hp, hq⟩ := Z
  obtain ⟨nd, np, nq⟩ := D
  simp only [List.nodup_cons, List.mem_cons, List.not_mem_nil, or_false, not_or, List.nodup_nil, not_false_iff, and_true] at nd np nq
  obtain ⟨⟨za, zb, zu, zv⟩, ⟨ab, au, av⟩, ⟨bu, bv⟩, uv⟩ := nd
  obtain ⟨pz, pa, pb, pu, pv⟩ := np
  obtain ⟨qz, qa, qb, qu, qv⟩ := nq
  have hT : s.TypeIs (.ref z) "zip" := ⟨_, hz, rfl⟩
  unfold pyNext
  refine wpAny_bind (wpAny_attempt (wpAny_callSpecial?_slot (name := Str.ofString "__next__") hT PySem.F.slot_zip_next (wpAny_call_entry PySem.F.slot_zip_next hT PySem.F.entry_zip_next ?_ (PySem.F.args_zip_next_1 _))))
  show wpAny _ _ (field (.ref z) 2 >>= fun _ => _) _ _ _
  refine wpAny_bind (wpAny_field hz rfl (x := .bool false) rfl ?_)
  show wpAny _ _ (field (.ref z) 3 >>= fun _ => _) _ _ _
  refine wpAny_bind (wpAny_field hz rfl (x := .ref a) rfl (wpAny_bind (wpAny_seqItems ha rfl ?_)))
  show wpAny _ _ (Builtin.SmallTypes.ownedTupleIsFree (.ref z) >>= fun _ => _) _ _ _
  refine wpAny_bind ?_
  unfold Builtin.SmallTypes.ownedTupleIsFree
  refine wpAny_bind (wpAny_field hz rfl (x := .none) rfl (wpAny_pure ?_))
  simp only [if_true]
  refine wpAny_bind (wpAny_rule (wpAny_bind (wpAny_field hz rfl (x := .ref b) rfl (wpAny_bind (wpAny_setField_rec hz (by simp) fun g1 hz1 k1 => ?_)))))
  replace hz1 : IsZip g1 z a b .ellipsis := hz1
  refine wpAny_bind ?_
  simp only [List.zipIdx_cons, List.zipIdx_nil, List.forIn_cons, List.forIn_nil]
  refine wpAny_bind (wpAny_bind (wpAny_onRaise ?_))
  show wpAny _ _ (Builtin.SmallTypes.nextOf (.ref u) >>= fun _ => _) _ _ _
  refine wpAny_bind (draw_one (hu.extBut k1.extBut (Ne.symm zu)) (hp.extBut k1.extBut pz) hx fun g2 hu2 k2 => wpAny_pure ?_)
  have hb2 : IsPair g2 b x0 y0 := k2.extBut _ _ bu (k1.extBut _ _ (Ne.symm zb) hb)
  refine wpAny_bind (wpAny_seqItems hb2 rfl (wpAny_bind (wpAny_updateSeq_pair hb2 fun g3 hb3 k3 => wpAny_bind (wpAny_letGo (wpAny_pure ?_)))))
  replace hb3 : IsPair g3 b x y0 := hb3
  refine wpAny_bind (wpAny_bind (wpAny_onRaise ?_))
  show wpAny _ _ (Builtin.SmallTypes.nextOf (.ref v) >>= fun _ => _) _ _ _
  refine wpAny_bind (draw_one (((hv.extBut k1.extBut (Ne.symm zv)).extBut k2.extBut (Ne.symm uv)).extBut k3.extBut (Ne.symm bv)) (((hq.extBut k1.extBut qz).extBut k2.extBut qu).extBut k3.extBut qb) hy fun g4 hv4 k4 => wpAny_pure ?_)
  have hb4 : IsPair g4 b x y0 := k4.extBut _ _ bv hb3
  refine wpAny_bind (wpAny_seqItems hb4 rfl (wpAny_bind (wpAny_updateSeq_pair hb4 fun g5 hb5 k5 => wpAny_bind (wpAny_letGo (wpAny_pure (wpAny_pure ?_))))))
  replace hb5 : IsPair g5 b x y := hb5
  refine wpAny_bind (wpAny_seqItems hb5 rfl (wpAny_bind (wpAny_newTuple ?_)))
  have sz : g5.objs.size = s.heap.objs.size := by rw [k5.1, k4.1, k3.1, k2.1, k1.1]
  have hz5 : IsZip g5 z a b .ellipsis := k5.extBut _ _ zb (k4.extBut _ _ zv (k3.extBut _ _ zb (k2.extBut _ _ zu hz1)))
  have all : ∀ c o, c ≠ z → c ≠ b → c ≠ u → c ≠ v → s.heap.get? c = some o → g5.get? c = some o := fun c o c1 c2 c3 c4 e => k5.extBut _ _ c2 (k4.extBut _ _ c4 (k3.extBut _ _ c2 (k2.extBut _ _ c3 (k1.extBut _ _ c1 e))))
  have hu5 : g5.IsTupleIter u p (k + 1) := ((hu2.extBut k3.extBut (Ne.symm bu)).extBut k4.extBut uv).extBut k5.extBut (Ne.symm bu)
  have hv5 : g5.IsTupleIter v q (k + 1) := hv4.extBut k5.extBut (Ne.symm bv)
  have ltz : z < g5.objs.size := Heap.lt_size hz5
  show wpAny _ _ (Builtin.SmallTypes.ownedTupleHandOut (.ref z) (.ref g5.objs.size) >>= fun _ => _) _ _ _
  refine wpAny_bind ?_
  unfold Builtin.SmallTypes.ownedTupleHandOut
  have hz6 : IsZip (g5.push { cls := .type "tuple", data := .seq #[x, y] }) z a b .ellipsis := Heap.get?_push_of_some _ hz5
  refine wpAny_bind (wpAny_setField_rec hz6 (by simp) fun g7 hz7 k7 => ?_)
  replace hz7 : IsZip g7 z a b (rawInt g5.objs.size) := hz7
  refine wpAny_setField_rec hz7 (by simp) fun g8 hz8 k8 => ?_
  replace hz8 : IsZip g8 z a b (rawInt g5.objs.size) := hz8
  have up : ∀ c o, c ≠ z → g5.get? c = some o → g8.get? c = some o := fun c o c1 e => k8.extBut _ _ c1 (k7.extBut _ _ c1 (Heap.get?_push_of_some _ e))
  have new8 : IsPair g8 g5.objs.size x y := k8.extBut _ _ (Nat.ne_of_gt ltz) (k7.extBut _ _ (Nat.ne_of_gt ltz) (Heap.get?_push_size _ rfl))
  have sz8 : g8.objs.size = g5.objs.size + 1 := by rw [k8.1, k7.1, Heap.size_push]
  rw [sz] at hz8 new8 sz8
  refine wpAny_pure ⟨_, rfl, wpAny_pure ?_⟩
  show Q (some (.ref g5.objs.size)) _
  rw [sz]
  refine hQ g8 ⟨hz8, up _ _ (Ne.symm za) (all _ _ (Ne.symm za) ab au av ha), ⟨x, y, up _ _ (Ne.symm zb) hb5⟩, hu5.at fun o e => up _ o (Ne.symm zu) e, hv5.at fun o e => up _ o (Ne.symm zv) e, hp.at fun o e => up _ o pz (all _ o pz pb pu pv e), hq.at fun o e => up _ o qz (all _ o qz qb qu qv e)⟩ new8 sz8 fun c o hc e => ?_
  simp only [List.mem_cons, List.not_mem_nil, or_false, not_or] at hc
  exact up c o hc.1 (all c o hc.1 hc.2.1 hc.2.2.1 hc.2.2.2 e)
theorem zip_end {z a b u v p q : Addr} {k : Nat} {xs ys : Array Value} {Q : Option Value → Shared → Prop} (hh : A.handled = none) (D : Apart z a b u v p q) (Z : Zp s.heap z a b u v p q .none k xs ys) (hx : xs[k]? = none)
    (hQ : ∀ h', (∀ c o, c ∉ [z, b, u, v] → s.heap.get? c = some o → h'.get? c = some o) → Q none { s with heap := h' }) : wpAny (model prog w) A (pyNext (.ref z)) Q E s := by
  obtain ⟨hz, ha, ⟨x0, y0, hb⟩, hu, hv, hp, hq⟩ := Z
  obtain ⟨nd, np, nq⟩ := D
  simp only [List.nodup_cons, List.mem_cons, List.not_mem_nil, or_false, not_or, List.nodup_nil, not_false_iff, and_true] at nd np nq
  obtain ⟨⟨za, zb, zu, zv⟩, ⟨ab, au, av⟩, ⟨bu, bv⟩, uv⟩ := nd
  obtain ⟨pz, pa, pb, pu, pv⟩ := np
  have hT : s.TypeIs (.ref z) "zip" := ⟨_, hz, rfl⟩
  unfold pyNext
  refine wpAny_bind (wpAny_attempt (wpAny_callSpecial?_slot (name := Str.ofString "__next__") hT PySem.F.slot_zip_next (wpAny_call_entry PySem.F.slot_zip_next hT PySem.F.entry_zip_next ?_ (PySem.F.args_zip_next_1 _))))
  show wpAny _ _ (field (.ref z) 2 >>= fun _ => _) _ _ _
  refine wpAny_bind (wpAny_field hz rfl (x := .bool false) rfl ?_)
  show wpAny _ _ (field (.ref z) 3 >>= fun _ => _) _ _ _
  refine wpAny_bind (wpAny_field hz rfl (x := .ref a) rfl (wpAny_bind (wpAny_seqItems ha rfl ?_)))
  show wpAny _ _ (Builtin.SmallTypes.ownedTupleIsFree (.ref z) >>= fun _ => _) _ _ _
  refine wpAny_bind ?_
  unfold Builtin.SmallTypes.ownedTupleIsFree
  refine wpAny_bind (wpAny_field hz rfl (x := .none) rfl (wpAny_pure ?_))
  simp only [if_true]
  refine wpAny_bind (wpAny_rule (wpAny_bind (wpAny_field hz rfl (x := .ref b) rfl (wpAny_bind (wpAny_setField_rec hz (by simp) fun g1 hz1 k1 => ?_)))))
  replace hz1 : IsZip g1 z a b .ellipsis := hz1
  refine wpAny_bind ?_
  simp only [List.zipIdx_cons, List.zipIdx_nil, List.forIn_cons, List.forIn_nil]
  refine wpAny_bind (wpAny_bind (wpAny_onRaise ?_))
  show wpAny _ _ (Builtin.SmallTypes.nextOf (.ref u) >>= fun _ => _) _ _ _
  refine wpAny_bind (draw_none (by simp [hh]) (hu.extBut k1.extBut (Ne.symm zu)) (hp.extBut k1.extBut pz) hx fun g2 e k2 he => ?_)
  obtain ⟨oe, ge, ce⟩ := he
  have hz2 : IsZip g2 z a b .ellipsis := k2 _ _ zu hz1
  have ez : e ≠ z := fun x => by subst x; rw [hz2] at ge; cases ge; simp at ce
  refine wpAny_setField_rec hz2 (by simp) fun g3 _ k3 => ?_
  refine wpAny_bind (wpAny_isInstance (T := "StopIteration") (b := true) ⟨oe, k3.extBut _ _ ez ge, ce⟩ isSubtype_stop ?_)
  refine wpAny_pure (hQ _ fun c o hc x => ?_)
  simp only [List.mem_cons, List.not_mem_nil, or_false, not_or] at hc
  exact k3.extBut _ _ hc.1 (k2 _ _ hc.2.2.1 (k1.extBut _ _ hc.1 x))
abbrev tIt (p : Addr) : Obj := { cls := .type "tuple_iterator", data := .fields #[.ref p, .int 0 0] }
abbrev zA (h : Heap) (p q : Addr) : Heap := (h.push (tIt p)).push (tIt q)
abbrev zB (h : Heap) (p q : Addr) : Heap := (zA h p q).push { cls := .type "tuple", data := .seq #[.ref h.objs.size, .ref (h.push (tIt p)).objs.size] }
abbrev zC (h : Heap) (p q : Addr) : Heap := (zB h p q).push { cls := .type "tuple", data := .seq #[.none, .none] }
abbrev zD (h : Heap) (p q : Addr) : Heap := (zC h p q).push { cls := .type "zip", data := .fields #[.none, .bool false, .bool false, .ref (zA h p q).objs.size, .ref (zB h p q).objs.size] }
theorem zip_made (p q : Addr) (xs ys : Array Value) :
    Meets (Builtin.«zip.__new__» ⟨[.type "zip", .ref p, .ref q], []⟩) (fun _ R s => s.heap.IsTuple p xs ∧ s.heap.IsTuple q ys ∧ R (.ok (.ret (.ref (zC s.heap p q).objs.size))) { s with heap := zD s.heap p q }) :=
  .of_wp fun prog w A R s h => by
    obtain ⟨hp, g, d, tk, os⟩ := s
    obtain ⟨h1, h2, h⟩ := h
    have su := sub_zip
    have t1 : Heap.IsTuple (Shared.heap ⟨hp, g, d, tk, os⟩) p xs := h1
    have t2 : Heap.IsTuple (Shared.heap ⟨hp.push { cls := .type "tuple_iterator", data := .fields #[.ref p, .int 0 0] }, g, d, tk, os⟩) q ys := h2.at fun o e => Heap.get?_push_of_some _ e
    wp_walk using wpAny_pyIter_tuple t1, wpAny_pyIter_tuple t2
    exact ⟨_, rfl, h⟩
theorem call_zip {p q : Addr} {xs ys : Array Value} {Q : Value → Shared → Prop} (hp : s.heap.IsTuple p xs) (hq : s.heap.IsTuple q ys)
    (h : ∀ h', Zp h' (s.heap.objs.size + 4) (s.heap.objs.size + 2) (s.heap.objs.size + 3) s.heap.objs.size (s.heap.objs.size + 1) p q .none 0 xs ys → (∀ c o, s.heap.get? c = some o → h'.get? c = some o) → Q (.ref (s.heap.objs.size + 4)) { s with heap := h' }) :
    wpAny (model prog w) A (call (.type "zip") [.ref p, .ref q]) Q E s := by
  refine callType_new PySem.F.called_zip (by decide) (PySem.F.typeCall_zip_2 _ _) (PySem.F.newCall_zip_2 _ _) (fun obj => PySem.F.args_object_init_3 obj _ _) PySem.F.entry_zip_new (zip_made p q xs ys) ⟨hp, hq, ?_⟩
  show _ ∧ _
  unfold zD zC zB zA tIt
  generalize e1 : s.heap.push { cls := .type "tuple_iterator", data := .fields #[.ref p, .int 0 0] } = h1
  generalize e2 : h1.push { cls := .type "tuple_iterator", data := .fields #[.ref q, .int 0 0] } = h2
  have z1 : h1.objs.size = s.heap.objs.size + 1 := by rw [← e1]; exact Heap.size_push ..
  have z2 : h2.objs.size = s.heap.objs.size + 2 := by rw [← e2, Heap.size_push, z1]
  rw [z1]
  generalize e3 : h2.push { cls := .type "tuple", data := .seq #[.ref s.heap.objs.size, .ref (s.heap.objs.size + 1)] } = h3
  have z3 : h3.objs.size = s.heap.objs.size + 3 := by rw [← e3, Heap.size_push, z2]
  generalize e4 : h3.push { cls := .type "tuple", data := .seq #[.none, .none] } = h4
  have z4 : h4.objs.size = s.heap.objs.size + 4 := by rw [← e4, Heap.size_push, z3]
  rw [z2, z3, z4]
  generalize e5 : h4.push { cls := .type "zip", data := .fields #[.none, .bool false, .bool false, .ref (s.heap.objs.size + 2), .ref (s.heap.objs.size + 3)] } = h5
  have k1 : ∀ c o, s.heap.get? c = some o → h1.get? c = some o := fun c o e => by rw [← e1]; exact Heap.get?_push_of_some _ e
  have k2 : ∀ c o, h1.get? c = some o → h2.get? c = some o := fun c o e => by rw [← e2]; exact Heap.get?_push_of_some _ e
  have k3 : ∀ c o, h2.get? c = some o → h3.get? c = some o := fun c o e => by rw [← e3]; exact Heap.get?_push_of_some _ e
  have k4 : ∀ c o, h3.get? c = some o → h4.get? c = some o := fun c o e => by rw [← e4]; exact Heap.get?_push_of_some _ e
  have k5 : ∀ c o, h4.get? c = some o → h5.get? c = some o := fun c o e => by rw [← e5]; exact Heap.get?_push_of_some _ e
  have g1 : h1.get? s.heap.objs.size = some { cls := .type "tuple_iterator", data := .fields #[.ref p, .int 0 0] } := by rw [← e1]; exact Heap.get?_push_size _ rfl
  have g2 : h2.get? (s.heap.objs.size + 1) = some { cls := .type "tuple_iterator", data := .fields #[.ref q, .int 0 0] } := by rw [← e2, ← z1]; exact Heap.get?_push_size _ rfl
  have g3 : h3.get? (s.heap.objs.size + 2) = some { cls := .type "tuple", data := .seq #[.ref s.heap.objs.size, .ref (s.heap.objs.size + 1)] } := by rw [← e3, ← z2]; exact Heap.get?_push_size _ rfl
  have g4 : h4.get? (s.heap.objs.size + 3) = some { cls := .type "tuple", data := .seq #[.none, .none] } := by rw [← e4, ← z3]; exact Heap.get?_push_size _ rfl
  have g5 : h5.get? (s.heap.objs.size + 4) = some { cls := .type "zip", data := .fields #[.none, .bool false, .bool false, .ref (s.heap.objs.size + 2), .ref (s.heap.objs.size + 3)] } := by rw [← e5, ← z4]; exact Heap.get?_push_size _ rfl
  have kk : ∀ c o, s.heap.get? c = some o → h5.get? c = some o := fun c o e => k5 _ _ (k4 _ _ (k3 _ _ (k2 _ _ (k1 _ _ e))))
  exact ⟨⟨_, g5, rfl⟩, h _ ⟨g5, k5 _ _ (k4 _ _ g3), ⟨_, _, k5 _ _ g4⟩, ⟨_, k5 _ _ (k4 _ _ (k3 _ _ (k2 _ _ g1))), rfl, rfl⟩, ⟨_, k5 _ _ (k4 _ _ (k3 _ _ g2)), rfl, rfl⟩, hp.at fun o e => kk _ o e, hq.at fun o e => kk _ o e⟩ kk⟩
end
end MwZip
namespace L2
open PySem PySem.Spec PyProof.Rows
def Itz (a b : Addr) : It :=
  ⟨fun i H => ∃ xs ys x y, H a = some (.tup xs) ∧ H b = some (.tup ys) ∧ xs.length = ys.length ∧ xs[i]? = some x ∧ ys[i]? = some y,
   fun i H v H' => ∃ t x y, H t = none ∧ v = .ref t ∧ H' = upd H t (.tup [x, y]) ∧ ∀ xs ys, H a = some (.tup xs) → H b = some (.tup ys) → xs[i]? = some x ∧ ys[i]? = some y,
   fun i H => ∃ xs ys, H a = some (.tup xs) ∧ H b = some (.tup ys) ∧ xs.length = ys.length ∧ xs.length ≤ i⟩
theorem turn_zip {P : Program} {w : World} {K : PySem.W.Frag} {elts : List Expr} {kk : Nat} {pos : Pos} (p q z a b u v : Addr) (D : MwZip.Apart z a b u v p q) :
    Turn P w K (.Tuple elts kk pos) (Itz p q) [z, a, b, u, v] z (fun i h => IsZip h z a b .none ∧ IsPair h a (.ref u) (.ref v) ∧ (∃ x y, IsPair h b x y) ∧ h.IsTupleIter u p i ∧ h.IsTupleIter v q i) where
  mem := by simp
  obj := fun i h st c hc => by
    obtain ⟨hz, ha, ⟨x, y, hb⟩, ⟨ou, gu, _, du⟩, ⟨ov, gv, _, dv⟩⟩ := st
    simp only [List.mem_cons, List.not_mem_nil, or_false] at hc
    rcases hc with rfl | rfl | rfl | rfl | rfl
    · exact ⟨_, hz, fun v z => by cases z⟩
    · exact ⟨_, ha, fun v z => by cases z⟩
    · exact ⟨_, hb, fun v z => by cases z⟩
    · exact ⟨_, gu, fun v z => by rw [du] at z; cases z⟩
    · exact ⟨_, gv, fun v z => by rw [dv] at z; cases z⟩
  keep := fun i h h' st k => by
    obtain ⟨hz, ha, ⟨x, y, hb⟩, hu, hv⟩ := st
    exact ⟨k z (by simp) _ hz, k a (by simp) _ ha, ⟨x, y, k b (by simp) _ hb⟩, hu.at fun o e => k u (by simp) o e, hv.at fun o e => k v (by simp) o e⟩
  item := by
    intro X hP hw hK hc i pins s σ H E I hf st hg
    subst hP hw hK
    obtain ⟨xs, ys, x, y, hxs, hys, hlen, hx, hy⟩ := hg
    obtain ⟨hz, ha, hb, hu, hv⟩ := st
    obtain ⟨_, its, rx, tx⟩ := (show ObjOk X.prog X.w H s.heap p (.tup xs) from I.hok p _ hxs)
    obtain ⟨_, jts, ry, ty⟩ := (show ObjOk X.prog X.w H s.heap q (.tup ys) from I.hok q _ hys)
    obtain ⟨ux, hux, rux⟩ := rx.get hx
    obtain ⟨uy, huy, ruy⟩ := ry.get hy
    have frs : ∀ c ∈ [z, a, b, u, v], H c = none := fun c hc => (hf c hc).1
    refine MwZip.zip_item D ⟨hz, ha, hb, hu, hv, tx, ty⟩ (x := ux) (y := uy) (by simpa using hux) (by simpa using huy) fun h1 Z1 new1 sz1 k1 => ?_
    refine ⟨_, rfl, wpAny_letOwnedTupleGo_zip Z1.hz fun h2 hz2 k2 => ?_⟩
    have nd := D.1
    simp only [List.nodup_cons, List.mem_cons, List.not_mem_nil, or_false, not_or, List.nodup_nil, not_false_iff, and_true] at nd
    obtain ⟨⟨za, zb, zu, zv⟩, ⟨ab, au, av⟩, ⟨bu, bv⟩, uv⟩ := nd
    have ltz : z < s.heap.objs.size := Heap.lt_size hz
    have new2 : IsPair h2 s.heap.objs.size ux uy := (k2.2 _ (Nat.ne_of_gt ltz)).trans new1
    have new : ObjOk X.prog X.w (upd H s.heap.objs.size (.tup [x, y])) (s.heap.push { cls := .type "tuple", data := .seq #[ux, uy] }) s.heap.objs.size (.tup [x, y]) :=
      ⟨(by show 2 ≤ sizeLine; decide), [ux, uy], .cons rux (.cons ruy .nil), _, Heap.get?_push_size _ rfl, rfl, _, rfl⟩
    have I1 : Inv X pins σ (upd H s.heap.objs.size (.tup [x, y])) { s with heap := s.heap.push { cls := .type "tuple", data := .seq #[ux, uy] }, toks := s.toks } := I.laid (fun c o e => Heap.get?_push_of_some _ e) (Nat.le_refl _) new
    have lt : ∀ c ∈ [z, a, b, u, v], c ≠ s.heap.objs.size := fun c hc => by
      simp only [List.mem_cons, List.not_mem_nil, or_false] at hc
      obtain ⟨x0, y0, hb0⟩ := hb
      rcases hc with rfl | rfl | rfl | rfl | rfl
      · exact Nat.ne_of_lt ltz
      · exact Nat.ne_of_lt (Heap.lt_size ha)
      · exact Nat.ne_of_lt (Heap.lt_size hb0)
      · obtain ⟨_, e, _⟩ := hu; exact Nat.ne_of_lt (Heap.lt_size e)
      · obtain ⟨_, e, _⟩ := hv; exact Nat.ne_of_lt (Heap.lt_size e)
    have hf1 : ∀ c ∈ [z, a, b, u, v], FpOk X pins (upd H s.heap.objs.size (.tup [x, y])) c := fun c hc => by
      obtain ⟨f0, f⟩ := hf c hc
      exact ⟨by rw [upd_ne (lt c hc)]; exact f0, f⟩
    have I2 : Inv X pins σ (upd H s.heap.objs.size (.tup [x, y])) { s with heap := h2, toks := s.toks } := by
      have I3 := I1.turnedL (t' := s.toks) (h' := h2) (fp := [z, a, b, u, v]) (fun c o hc e => ?_) hf1
      · exact I3
      have hc' : c ∉ [z, b, u, v] := fun m => hc (by
        simp only [List.mem_cons, List.not_mem_nil, or_false] at m ⊢
        rcases m with m | m | m | m <;> simp [m])
      have cz : c ≠ z := fun m => hc (by simp [m])
      rcases Heap.get?_push_cases e with ⟨rfl, rfl⟩ | e
      · exact new2
      · exact (k2.2 c cz).trans (k1 c o hc' e)
    obtain ⟨x1, y1, hb1⟩ := Z1.hb
    refine ⟨.ref s.heap.objs.size, _, I2, rfl, ⟨s.heap.objs.size, x, y, I.hok.fresh (Nat.le_refl _), rfl, rfl, fun xs' ys' e1 e2 => ?_⟩, ⟨hz2, (k2.2 a (Ne.symm za)).trans Z1.ha, ⟨x1, y1, (k2.2 b (Ne.symm zb)).trans hb1⟩, Z1.hu.at fun o e => (k2.2 u (Ne.symm zu)).trans e, Z1.hv.at fun o e => (k2.2 v (Ne.symm zv)).trans e⟩, fun c hc => (hf1 c hc).1⟩
    rw [hxs] at e1; rw [hys] at e2
    cases e1; cases e2
    exact ⟨hx, hy⟩
  done := by
    intro X hP hw hK hc i pins s σ H E I hf st hg
    subst hP hw hK
    obtain ⟨xs, ys, hxs, hys, hlen, hle⟩ := hg
    obtain ⟨hz, ha, hb, hu, hv⟩ := st
    obtain ⟨_, its, rx, tx⟩ := (show ObjOk X.prog X.w H s.heap p (.tup xs) from I.hok p _ hxs)
    obtain ⟨_, jts, ry, ty⟩ := (show ObjOk X.prog X.w H s.heap q (.tup ys) from I.hok q _ hys)
    have hl := rx.length
    refine MwZip.zip_end (I.ok.hd hc) D ⟨hz, ha, hb, hu, hv, tx, ty⟩ (by simp; omega) fun h' k => ⟨rfl, I.turnedL (t' := s.toks) (fp := [z, a, b, u, v]) (fun c o hc' e => k c o (fun m => hc' ?_) e) hf⟩
    simp only [List.mem_cons, List.not_mem_nil, or_false] at m ⊢
    rcases m with m | m | m | m <;> simp [m]
  self := fun _ _ _ _ _ st h => wpAny_pyIter_zip st.1 h
theorem bt_zip : bootBuiltins "zip" = some (.type "zip") := by decide +kernel
def iZip (ta : TA) : TI := fun σ H R => ta σ H fun vs H1 => ∃ a b xs ys, vs = [.ref a, .ref b] ∧ H1 a = some (.tup xs) ∧ H1 b = some (.tup ys) ∧ R (Itz a b) H1
section
variable {X : Cx}
theorem pi_zip {elts : List Expr} {k : Nat} {pt : Pos} {a b : Expr} {ta : TA} {p pos : Pos} (hg : Gl X "zip") (hm : X.mg "zip" = none) (ha : PA X [a, b] ta) (hs : starEach [a, b] X.env = (false, eval a X.env) :: starEach [b] X.env := by rfl) (hpl : (backTo pos (starEach [b] X.env)).any (·.1) = false := by rfl) :
    PI X (.Tuple elts k pt) (.Call (.Name "zip" p) [a, b] [] pos) (iZip ta) := by
  intro pins s σ H R I h
  refine Call_ (ld_blt I hg hm bt_zip (PyProof.Rows.callWith_type1 (thn (ha pos pins s σ H _ I h) fun us s1 ⟨vs, H1, I1, r1, q1⟩ => ?_) hs hpl))
  obtain ⟨pa, pb, xs, ys, rfl, hpa, hpb, q⟩ := q1
  obtain ⟨u, u', rfl, eu, eu'⟩ := vals2 r1
  obtain rfl : u = Value.ref pa := eu
  obtain rfl : u' = Value.ref pb := eu'
  obtain ⟨_, its, rx, tx⟩ := (show ObjOk X.prog X.w H1 s1.heap pa (.tup xs) from I1.hok pa _ hpa)
  obtain ⟨_, jts, ry, ty⟩ := (show ObjOk X.prog X.w H1 s1.heap pb (.tup ys) from I1.hok pb _ hpb)
  have lta : pa < s1.heap.objs.size := by obtain ⟨_, e, _⟩ := tx; exact Heap.lt_size e
  have ltb : pb < s1.heap.objs.size := by obtain ⟨_, e, _⟩ := ty; exact Heap.lt_size e
  generalize hn : s1.heap.objs.size = n at *
  refine MwZip.call_zip tx ty fun h' Z hk => ?_
  rw [hn] at Z ⊢
  have D : MwZip.Apart (n + 4) (n + 2) (n + 3) n (n + 1) pa pb := by
    have la : (pa : Nat) < n := lta
    have lb : (pb : Nat) < n := ltb
    refine ⟨?_, ?_, ?_⟩
    · simp only [List.nodup_cons, List.mem_cons, List.not_mem_nil, or_false, not_or, List.nodup_nil, not_false_iff, and_true]
      have ne : ∀ i j : Nat, i ≠ j → ¬ ((n + i : Nat) : Addr) = ((n + j : Nat) : Addr) := fun i j h z => h (Nat.add_left_cancel z)
      exact ⟨⟨ne 4 2 (by decide), ne 4 3 (by decide), ne 4 0 (by decide), ne 4 1 (by decide)⟩, ⟨ne 2 3 (by decide), ne 2 0 (by decide), ne 2 1 (by decide)⟩, ⟨ne 3 0 (by decide), ne 3 1 (by decide)⟩, ne 0 1 (by decide)⟩
    · simp only [List.mem_cons, List.not_mem_nil, or_false, not_or]
      refine ⟨?_, ?_, ?_, ?_, ?_⟩ <;> first | exact Nat.ne_of_lt lta | exact Nat.ne_of_lt (Nat.lt_of_lt_of_le lta (Nat.le_add_right _ _))
    · simp only [List.mem_cons, List.not_mem_nil, or_false, not_or]
      refine ⟨?_, ?_, ?_, ?_, ?_⟩ <;> first | exact Nat.ne_of_lt ltb | exact Nat.ne_of_lt (Nat.lt_of_lt_of_le ltb (Nat.le_add_right _ _))
  refine wpAny_pyIter_zip Z.hz ?_
  refine ⟨n + 4, [n + 4, n + 2, n + 3, n, n + 1], _, _, H1, rfl, I1.kept (t' := s1.toks) hk, turn_zip pa pb _ _ _ _ _ D, ⟨Z.hz, Z.ha, Z.hb, Z.hu, Z.hv⟩, fun c hc => ?_, q⟩
  have ge : s1.heap.objs.size ≤ c := by
    rw [hn]
    simp only [List.mem_cons, List.not_mem_nil, or_false] at hc
    rcases hc with e | e | e | e | e <;> (rw [e]; first | exact Nat.le_refl _ | exact Nat.le_add_right _ _)
  exact I1.fpOk ge (I1.hok.fresh ge)
end
theorem for_zip {a b : Addr} {xs ys : List V} {g : TG} {tb : TS} {D : Ends} {σ : St} {H : Hp} (hlen : xs.length = ys.length) (Pv : Nat → St → Hp → Prop) (h0 : Pv 0 σ H) (hl : ∀ i σ H, i ≤ xs.length → Pv i σ H → H a = some (.tup xs) ∧ H b = some (.tup ys))
    (hs : ∀ i x y σ H t, xs[i]? = some x → ys[i]? = some y → Pv i σ H → H t = none → g (.ref t) σ (upd H t (.tup [x, y])) fun σ2 H2 => tb { D with nx := Pv (i + 1), ct := Pv (i + 1), bk := D.nx } σ2 H2) (hd : ∀ σ H, Pv xs.length σ H → D.nx σ H) :
    ∃ W : Nat → Nat → St → Hp → Prop, (∃ m, W 0 m σ H) ∧ ∀ i m σ H, W i m σ H →
      ((Itz a b).stop i H ∧ D.nx σ H) ∨ ((Itz a b).go i H ∧ ∃ N : St → Hp → Prop, (∀ σ' H', N σ' H' → ∃ m', m' < m ∧ W (i + 1) m' σ' H') ∧ ∀ x H', (Itz a b).yld i H x H' → g x σ H' fun σ2 H2 => tb { D with nx := N, ct := N, bk := D.nx } σ2 H2) := by
  refine ⟨fun i m σ H => m = xs.length - i ∧ i ≤ xs.length ∧ Pv i σ H, ⟨xs.length, by simp, Nat.zero_le _, h0⟩, ?_⟩
  rintro i m σ H ⟨rfl, hi, p⟩
  obtain ⟨q1, q2⟩ := hl i σ H hi p
  by_cases hlt : i < xs.length
  · have hlt2 : i < ys.length := by omega
    refine .inr ⟨⟨xs, ys, xs[i], ys[i], q1, q2, hlen, by simp [hlt], by simp [hlt2]⟩, Pv (i + 1), fun σ' H' p' => ⟨xs.length - (i + 1), by omega, rfl, hlt, p'⟩, fun v H' y => ?_⟩
    obtain ⟨t, x, y', ht, rfl, rfl, e⟩ := y
    obtain ⟨e1, e2⟩ := e xs ys q1 q2
    exact hs i x y' σ _ t e1 e2 p ht
  · have e : i = xs.length := by omega
    subst e
    exact .inl ⟨⟨xs, ys, q1, q2, hlen, Nat.le_refl _⟩, hd σ H p⟩
theorem compW_zip {a b : Addr} {xs ys : List V} {H : Hp} {one : V → Hp → (Option V → Hp → Prop) → Prop} {Q : List V → Hp → Prop} (hlen : xs.length = ys.length) (Pv : Nat → List V → Hp → Prop) (h0 : Pv 0 [] H) (hn : xs.length ≤ sizeLine)
    (hl : ∀ i zs H, i ≤ xs.length → Pv i zs H → H a = some (.tup xs) ∧ H b = some (.tup ys)) (hs : ∀ i x y zs H t, xs[i]? = some x → ys[i]? = some y → Pv i zs H → H t = none → one (.ref t) (upd H t (.tup [x, y])) fun o H2 => Pv (i + 1) (zs ++ o.toList) H2) (hd : ∀ zs H, Pv xs.length zs H → Q zs H) : CompW (Itz a b) H one Q := by
  refine ⟨xs.length, fun i zs H => i ≤ xs.length ∧ Pv i zs H, ⟨Nat.zero_le _, h0⟩, hn, ?_⟩
  rintro i zs H ⟨hi, p⟩
  obtain ⟨q1, q2⟩ := hl i zs H hi p
  by_cases hlt : i < xs.length
  · have hlt2 : i < ys.length := by omega
    refine .inr ⟨⟨xs, ys, xs[i], ys[i], q1, q2, hlen, by simp [hlt], by simp [hlt2]⟩, hlt, fun o H3 => Pv (i + 1) (zs ++ o.toList) H3, fun o H3 z => ⟨hlt, z⟩, fun v H2 y => ?_⟩
    obtain ⟨t, x, y', ht, rfl, rfl, e⟩ := y
    obtain ⟨e1, e2⟩ := e xs ys q1 q2
    exact hs i x y' zs _ t e1 e2 p ht
  · have e : i = xs.length := by omega
    subst e
    exact .inl ⟨⟨xs, ys, q1, q2, hlen, Nat.le_refl _⟩, hd zs H p⟩
end L2
set_option maxHeartbeats 2000000
namespace MwSort
open PySem PyProof.Rows
end MwSort
namespace MwSort
open PySem PyProof.Rows
end MwSort
set_option maxHeartbeats 2000000
namespace MwSort
open PySem PyProof.Rows
theorem bindC {α β : Type} {x y : StateT SortSt Sem α} {f g : α → StateT SortSt Sem β} (h1 : x = y) (h2 : ∀ c, f c = g c) : (x >>= f) = (y >>= g) := by rw [h1, funext h2]
end MwSort
set_option maxHeartbeats 2000000
namespace MwSort
open PySem PyProof.Rows
end MwSort
set_option maxHeartbeats 2000000
namespace MwSort
open PySem PyProof.Rows
def Up (xs : Array Keyed) (i j : Nat) : Prop := ∀ p q, i ≤ p → p ≤ q → q < j → K xs p ≤ K xs q
end MwSort
set_option maxHeartbeats 2000000
namespace MwSort
open PySem PyProof.Rows
end MwSort
set_option maxHeartbeats 2000000
namespace MwSort
open PySem PyProof.Rows
def Runs (xs : Array Keyed) : Nat → List (Nat × Nat × Nat) → Nat → Prop
  | s, [], e => s = e
  | s, c :: l, e => c.1 = s ∧ 1 ≤ c.2.1 ∧ Up xs s (s + c.2.1) ∧ Runs xs (s + c.2.1) l e
theorem Runs.push {xs : Array Keyed} {n q : Nat} : ∀ {l : List (Nat × Nat × Nat)} {s e : Nat}, Runs xs s l e → 1 ≤ n → Up xs e (e + n) → Runs xs s (l ++ [(e, n, q)]) (e + n)
  | [], s, e, r, h, u => by
    have : s = e := r
    subst this
    exact ⟨rfl, h, u, rfl⟩
  | c :: l, s, e, r, h, u => ⟨r.1, r.2.1, r.2.2.1, Runs.push r.2.2.2 h u⟩
end MwSort
set_option maxHeartbeats 2000000
namespace MwSort
open PySem PyProof.Rows
section
variable {prog : Program} {w : World} {A : Around} {E : Value → Shared → Prop} {s : Shared}
theorem sortedHeap_keep {h : Heap} {a : Addr} {vs : List Value} {out : Array Value} {b : Addr} {o : Obj} (hb : b ≠ a) (e : h.get? b = some o) : (sortedHeap h a vs out).get? b = some o := by
  unfold sortedHeap
  rw [Heap.get?_update_other _ _ hb.symm]
  refine Heap.get?_push_of_some _ (Heap.get?_push_of_some _ ?_)
  rw [Heap.get?_update_other _ _ hb.symm]
  exact e
theorem sortedHeap_at {h : Heap} {a : Addr} {vs xs : List Value} {n : Nat} {out : Array Value} (e : h.get? a = some (seqObj "list" xs.toArray n)) : ∃ c, (sortedHeap h a vs out).get? a = some (seqObj "list" out c) := by
  have hlt : a < h.objs.size := Heap.lt_size e
  have e1 := get?_update_seq e fun _ => #[]
  have e2 := Heap.get?_push_of_some (seqObj "list" #[] 0) (Heap.get?_push_of_some (seqObj "tuple" vs.toArray 0) e1)
  exact ⟨_, get?_update_seq e2 fun _ => out⟩
end
end MwSort
set_option maxHeartbeats 2000000
namespace MwSet
open PySem
def Rs (xs : Array Nat) : Prop := xs.toList.Pairwise (· < ·)
structure TabOk (byText : Bool) (t : SetTable) : Prop where
  led : t.led = !byText
  rs : t.plain = true → Rs t.place
end MwSet
set_option maxHeartbeats 2000000
namespace MwSet
open PySem PyProof.Rows
def byT (w : World) : Bool := w.params.followText "set-order"
abbrev setObj (es : Array (Int × Value)) (ep : Nat) (t : SetTable) : Obj := { cls := .type "set", dict := none, data := .set es ep t, slots := #[] }
def nums (es : Array (Int × Value)) : List Int := es.toList.map fun e => numOf e.2
def IntEl (es : Array (Int × Value)) : Prop := ∀ e ∈ es.toList, ∃ k u, e = (hashInt k, Value.int k u)
def SetG (w : World) (h : Heap) (a : Addr) (ks : List Int) : Prop :=
  ∃ es ep t, h.get? a = some (setObj es ep t) ∧ IntEl es ∧ (nums es).Perm ks ∧ ks.Nodup ∧ es.size < scanBound ∧ t.fits es.size = true ∧ TabOk (byT w) t
theorem SetG.at {w : World} {h h' : Heap} {a : Addr} {ks : List Int} (S : SetG w h a ks) (k : ∀ o, h.get? a = some o → h'.get? a = some o) : SetG w h' a ks := let ⟨es, ep, t, e, r⟩ := S; ⟨es, ep, t, k _ e, r⟩
end MwSet
set_option maxHeartbeats 3200000
namespace MwSet
open PySem PySem.Spec PyProof.Rows
end MwSet
set_option maxHeartbeats 3200000
namespace MwSet
open PySem PySem.Spec PyProof.Rows
end MwSet
set_option maxHeartbeats 3200000
namespace MwSet
open PySem PySem.Spec PyProof.Rows
end MwSet
namespace L2
open PySem PySem.Spec PyProof.Rows
def sortI (ns : List Int) : List Int := ns.mergeSort fun a b => decide (a ≤ b)
theorem sortI_perm (ns : List Int) : (sortI ns).Perm ns := List.mergeSort_perm _ _
theorem sortI_rise (ns : List Int) : (sortI ns).Pairwise (· ≤ ·) := by
  have := List.pairwise_mergeSort (le := fun a b : Int => decide (a ≤ b)) (fun a b c h1 h2 => by simp at h1 h2 ⊢; omega) (fun a b => by simp; omega) ns
  exact this.imp fun {a b} h => by simpa using h
theorem sortI_len (ns : List Int) : (sortI ns).length = ns.length := (sortI_perm ns).length_eq
theorem rise_eq {a b : List Int} (hp : a.Perm b) (ha : a.Pairwise (· ≤ ·)) (hb : b.Pairwise (· ≤ ·)) : a = b := PySem.W.ksm_same hp ha hb
theorem sortI_eq {ms ns : List Int} (hp : ms.Perm ns) (hs : ms.Pairwise (· ≤ ·)) : ms = sortI ns := rise_eq (hp.trans (sortI_perm ns).symm) hs (sortI_rise ns)
theorem sortI_congr {a b : List Int} (h : a.Perm b) : sortI a = sortI b := sortI_eq ((sortI_perm a).trans h) (sortI_rise a)
theorem mem_sortI {ns : List Int} {x : Int} : x ∈ sortI ns ↔ x ∈ ns := (sortI_perm ns).mem_iff
theorem are_ints : ∀ {ns : List Int} {us : List Value}, Vals (ns.map V.int) us → IntsAre us ns
  | [], _, .nil => .nil
  | n :: ns, _, .cons r t => by
    obtain ⟨tk, rfl⟩ := r
    exact .cons n tk (are_ints t)
theorem ints_vals : ∀ {us : List Value} {ns : List Int}, IntsAre us ns → Vals (ns.map V.int) us
  | _, _, .nil => .nil
  | _, _, .cons n t h => .cons ⟨t, rfl⟩ (ints_vals h)
section
variable {X : Cx} {pins : List (Addr × Obj)} {σ : St} {H : Hp} {s : Shared}
theorem Inv.drew {d : Drawn} (I : Inv X pins σ H s) : Inv X pins σ H { s with drawn := d } := ⟨I.ok, I.os, I.bare, I.base, I.loc, I.cell, I.free, I.freeC, I.pin, I.hok, I.len⟩
theorem Inv.sorted {ns : List Int} {Q : VK} (I : Inv X pins σ H s) (hz : ns.length ≤ sizeLine) (q : ∀ l, H l = none → Q (.ref l) (upd H l (.lst ((sortI ns).map V.int)))) :
    ∀ (h₁ h' : Heap) (t : Nat) (dr : Drawn) (D : Addr) (c : Nat) (out : List Value) (ms : List Int), (∀ b o, s.heap.get? b = some o → h₁.get? b = some o) → (∀ b o, h₁.get? b = some o → h'.get? b = some o) → h₁.objs.size ≤ D → h'.get? D = some (seqObj "list" out.toArray c) → IntsAre out ms → ms.Perm ns → ms.Pairwise (· ≤ ·) →
      EP X pins σ Q (.ref D) { s with heap := h', toks := t, drawn := dr } := by
  intro h₁ h' t dr D c out ms k1 k2 hD hg hI hp hs
  have e := sortI_eq hp hs
  subst e
  have I1 : Inv X pins σ H { s with heap := h₁, toks := t, drawn := dr } := (I.kept (t' := t) k1).drew
  refine ⟨.ref D, _, I1.laid (t' := t) (o := .lst ((sortI ns).map V.int)) k2 hD ⟨?_, out, c, ints_vals hI, hg⟩, rfl, q D (I1.hok.fresh hD)⟩
  rw [List.length_map, sortI_len]
  exact hz
end
theorem bt_sorted : bootBuiltins "sorted" = some (.builtin "sorted") := by decide +kernel
end L2
namespace L2
open PySem PySem.Spec PyProof.Rows
end L2
namespace L2
open PySem PySem.Spec PyProof.Rows
end L2
namespace L2
open PySem PySem.Spec PyProof.Rows
end L2
namespace L2
open PySem PySem.Spec PyProof.Rows
end L2
namespace L2
open PySem PySem.Spec PyProof.Rows
end L2
namespace L2
open PySem PySem.Spec PyProof.Rows
end L2
namespace L2
open PySem PySem.Spec PyProof.Rows
end L2
namespace L2
open PySem PySem.Spec PyProof.Rows
end L2
namespace L2
open PySem PySem.Spec PyProof.Rows
end L2
namespace L2
open PySem PySem.Spec PyProof.Rows
end L2
namespace L2
open PySem PySem.Spec PyProof.Rows
section
variable {κ : Type} [DecidableEq κ]
def valV (kvs : List (κ × V)) (k : κ) : Option V := (kvs.find? fun kv => decide (kv.1 = k)).map (·.2)
def putK (kvs : List (κ × V)) (k : κ) (v : V) : List (κ × V) :=
  if (kvs.any fun kv => decide (kv.1 = k)) = true then kvs.map (fun kv => if kv.1 = k then (kv.1, v) else kv) else kvs ++ [(k, v)]
end
def DGet (H : Hp) (a : Addr) (y : V) (r : Option V) : Prop :=
  (∃ kvs k, Rd H a (.dK kvs) ∧ y = kV k ∧ r = valV kvs k) ∨ ∃ kvs k b, Rd H a (.dT kvs) ∧ y = .ref b ∧ H b = some (.tup (k.map kV)) ∧ r = valV kvs k
def DPut (H : Hp) (a : Addr) (y v : V) (H' : Hp) : Prop :=
  (∃ kvs k, H a = some (.dK kvs) ∧ y = kV k ∧ kvs.length < sizeLine ∧ H' = upd H a (.dK (putK kvs k v))) ∨
  ∃ kvs k b, H a = some (.dT kvs) ∧ y = .ref b ∧ H b = some (.tup (k.map kV)) ∧ kvs.length < sizeLine ∧ H' = upd H a (.dT (putK kvs k v))
theorem DGet.t {H : Hp} {a b : Addr} {kvs : List (List Key × V)} {k : List Key} (e : H a = some (.dT kvs)) (eb : H b = some (.tup (k.map kV))) : DGet H a (.ref b) (valV kvs k) := .inr ⟨kvs, k, b, .inl e, rfl, eb, rfl⟩
theorem DPut.t {H : Hp} {a b : Addr} {kvs : List (List Key × V)} {k : List Key} {v : V} (e : H a = some (.dT kvs)) (eb : H b = some (.tup (k.map kV))) (hl : kvs.length < sizeLine) :
    DPut H a (.ref b) v (upd H a (.dT (putK kvs k v))) := .inr ⟨kvs, k, b, e, rfl, eb, hl, rfl⟩
section
variable {X : Cx} {pins : List (Addr × Obj)} {σ : St} {H : Hp} {s : Shared} {a : Addr} {y v : V} {u r : Value} {o : Option V} {A : Around} {E : Value → Shared → Prop}
theorem Inv.big (I : Inv X pins σ H s) : sysModules < s.heap.objs.size := by
  have h : mainGlobals < s.heap.objs.size := (I.mod.glob.keeps I.bk).lt
  exact Nat.lt_trans (by decide) h
theorem d_write {h' : Heap} {t' : Nat} {ob : HO} (I : Inv X pins σ H s) (mu : Mut (H a)) (hs : Heap.SameBut a s.heap h') (he : ∃ q, h'.get? a = some q) (new : ObjOk X.prog X.w (upd H a ob) h' a ob) :
    Inv X pins σ (upd H a ob) { s with heap := h', toks := t' } :=
  I.write (x := a) (e := a) mu (.inl rfl) (fun b q hb z => (hs.2 b hb).trans z) he new
end
def NoSl (i : Expr) : Prop := ∀ ov iv, subscripted i false ov iv = operate [ov, iv] (getItem ov iv)
theorem subD_of {prog : Program} {w : World} {A : Around} {E : Value → Shared → Prop} {s : Shared} {env : Env} {value slice : Expr} {pos : Pos} {T id : String} {Q : Value → Shared → Prop}
    (hl : typeLookup (.type T) "__getitem__" = pure (some (.builtin id))) (hs : NoSl slice)
    (h : wpAny (model prog w) A (eval value env) (fun o s₁ => wpAny (model prog w) A (eval slice env) (fun i s₂ => s₂.TypeIs o T ∧ wpAny (model prog w) A (getItem o i) Q E s₂) E s₁) E s) :
    wpAny (model prog w) A (eval (.Subscript value slice pos) env) Q E s := by
  refine Subscript_ (wpAny_mono h (fun o s₁ h₁ => wpAny_mono h₁ (fun i s₂ h₂ => ?_) fun _ _ x => x) fun _ _ x => x)
  obtain ⟨hT, h₂⟩ := h₂
  unfold subscriptTail
  refine wpAny_bind ?_
  rw [getitemInPython_of_ne hT.not_modules]
  refine wpAny_bind (wpAny_specialOf hT hl ?_)
  have fin : wpAny (model prog w) A (subscripted slice false o i) (fun r s₃ => wpAny (model prog w) A (letTemporaryGo value o r >>= fun _ => pure r) Q E s₃) E s₂ := by
    rw [hs o i]
    exact wpAny_operating (wpAny_mono h₂ (fun r s₃ h₃ => wpAny_bind (wpAny_letTemporaryGo (wpAny_pure h₃))) fun _ _ x => x)
  first
    | exact wpAny_pure (wpAny_bind fin)
    | exact wpAny_bind (wpAny_pure (wpAny_bind fin))
    | exact wpAny_bind fin
theorem dk_empty {P : Program} {w : World} {H : Hp} (h : Heap) (hb : sysModules < h.objs.size) : ObjOk P w H (h.push { cls := .type "dict", data := .dict #[] }) h.objs.size (.dK []) :=
  ⟨Nat.zero_le _, beq_eq_false_iff_ne.mpr (Ne.symm (Nat.ne_of_lt hb)), [], .nil, Heap.DictOf.new h⟩
def tPairs : List (TE × TE) → St → Hp → (List (V × V) → Hp → Prop) → Prop
  | [], _, H, Q => Q [] H
  | (tk, tv) :: r, σ, H, Q => tk σ H fun x H1 => tv σ H1 fun y H2 => tPairs r σ H2 fun ps H3 => Q ((x, y) :: ps) H3
abbrev VV : List (V × V) → List (Value × Value) → Prop := Paired fun p q => RelV p.1 q.1 ∧ RelV p.2 q.2
def PPs (X : Cx) (pos : Pos) (keys : List (Option Expr)) (values : List Expr) (trs : List (TE × TE)) : Prop :=
  ∀ (pins : List (Addr × Obj)) (s : Shared) (σ : St) (H : Hp) (Q : List (V × V) → Hp → Prop), Inv X pins σ H s → tPairs trs σ H Q →
    wpAny (model X.prog X.w) X.A (evalPairs (pairTrees keys values X.env pos)) (fun vs s' => ∃ ps H', Inv X pins σ H' s' ∧ VV ps vs ∧ Q ps H') X.xe s
theorem pps_nil {X : Cx} {pos : Pos} : PPs X pos [] [] [] := fun pins s σ H Q I h => pairTrees_nil_walk ⟨[], H, I, .nil, h⟩
theorem pps_cons {X : Cx} {pos : Pos} {k v : Expr} {ks : List (Option Expr)} {vs : List Expr} {tk tv : TE} {trs : List (TE × TE)} (hk : PE X k tk) (hv : PE X v tv) (hr : PPs X pos ks vs trs) :
    PPs X pos (some k :: ks) (v :: vs) ((tk, tv) :: trs) := fun pins s σ H Q I h =>
  pairTrees_cons_walk (thn (hk pins s σ H _ I h) fun u s1 ⟨x, H1, I1, rx, q1⟩ => thn (hv pins s1 σ H1 _ I1 q1) fun w2 s2 ⟨y, H2, I2, ry, q2⟩ =>
    thn (hr pins s2 σ H2 _ I2 q2) fun ws s3 ⟨ps, H3, I3, rel, q3⟩ => ⟨(x, y) :: ps, H3, I3, .cons ⟨rx, ry⟩ rel, q3⟩)
end L2
namespace Att
open PySem PySem.W PySem.Calls PyProof.Rows
end Att
namespace L2
open PySem PySem.Spec PyProof.Rows
end L2
namespace L2
open PySem PySem.Spec PyProof.Rows
end L2
namespace L2
open PySem PySem.Spec PyProof.Rows
end L2
namespace L2
open PySem PySem.Spec PyProof.Rows
end L2
namespace L2
open PySem PySem.Spec PyProof.Rows MwSet
def placeOf (n : Nat) (a b : Int) : Int := a * ((n : Int) - 1) / b
def Share (a b : Int) : Prop := 0 ≤ a ∧ a ≤ b ∧ 1 ≤ b ∧ b ≤ 1000000
theorem place_bounds {n : Nat} {a b : Int} (h : Share a b) (hn : 1 ≤ n) : 0 ≤ placeOf n a b ∧ placeOf n a b < n := by
  obtain ⟨h1, h2, h3, _⟩ := h
  unfold placeOf
  have m0 : 0 ≤ a * ((n : Int) - 1) := Int.mul_nonneg h1 (by omega)
  refine ⟨Int.ediv_nonneg m0 (by omega), Int.ediv_lt_of_lt_mul (by omega) ?_⟩
  have : a * ((n : Int) - 1) ≤ b * ((n : Int) - 1) := Int.mul_le_mul_of_nonneg_right h2 (by omega)
  have e : (n : Int) * b = b * ((n : Int) - 1) + b := by rw [Int.mul_sub, Int.mul_one, Int.mul_comm]; omega
  omega
def manieth (ns : List Int) (a b : Int) : Option Int := (sortI ns)[(placeOf ns.length a b).toNat]?
theorem manieth_nil (a b : Int) : manieth [] a b = none := by unfold manieth; rw [show sortI [] = [] from List.length_eq_zero_iff.mp (by rw [sortI_len]; rfl)]; rfl
theorem manieth_some {ns : List Int} {a b : Int} (h : Share a b) (hn : ns ≠ []) : ∃ h' : (placeOf ns.length a b).toNat < (sortI ns).length, manieth ns a b = some (sortI ns)[(placeOf ns.length a b).toNat] := by
  have hl : 1 ≤ ns.length := by
    cases ns with
    | nil => exact absurd rfl hn
    | cons x l => simp
  have := place_bounds h hl
  have h' : (placeOf ns.length a b).toNat < (sortI ns).length := by rw [sortI_len]; omega
  exact ⟨h', List.getElem?_eq_getElem h'⟩
theorem manieth_congr {xs ys : List Int} (h : xs.Perm ys) (a b : Int) : manieth xs a b = manieth ys a b := by
  unfold manieth
  rw [sortI_congr h, h.length_eq]
theorem rise_count {S : List Int} (hS : S.Pairwise (· ≤ ·)) {i : Nat} (hi : i < S.length) (v : Int) : S[i] ≤ v ↔ i < S.countP fun x => decide (x ≤ v) := by
  have mono : ∀ p q, (hp : p < S.length) → (hq : q < S.length) → p ≤ q → S[p] ≤ S[q] := fun p q hp hq hpq => by
    rcases Nat.lt_or_ge p q with z | z
    · exact List.pairwise_iff_getElem.mp hS p q hp hq z
    · have : p = q := by omega
      subst this; exact Int.le_refl _
  have e : S = S.take i ++ S[i] :: S.drop (i + 1) := by rw [← List.drop_eq_getElem_cons hi, List.take_append_drop]
  constructor
  · intro h
    have c1 : (S.take (i + 1)).countP (fun x => decide (x ≤ v)) = (S.take (i + 1)).length := by
      rw [List.countP_eq_length]
      intro x hx
      obtain ⟨m, hm, rfl⟩ := List.mem_iff_getElem.mp hx
      rw [List.length_take] at hm
      rw [List.getElem_take]
      exact decide_eq_true (Int.le_trans (mono m i (by omega) hi (by omega)) h)
    have c2 : (S.take (i + 1)).countP (fun x => decide (x ≤ v)) ≤ S.countP fun x => decide (x ≤ v) := List.Sublist.countP_le (List.take_sublist _ _)
    rw [c1, List.length_take] at c2
    omega
  · intro h
    rcases Int.lt_or_le v S[i] with z | z
    · exfalso
      have c1 : (S.drop i).countP (fun x => decide (x ≤ v)) = 0 := by
        rw [List.countP_eq_zero]
        intro x hx
        obtain ⟨m, hm, rfl⟩ := List.mem_iff_getElem.mp hx
        rw [List.length_drop] at hm
        rw [List.getElem_drop]
        have := mono i (i + m) hi (by omega) (by omega)
        simp; omega
      have c2 : S.countP (fun x => decide (x ≤ v)) = (S.take i).countP (fun x => decide (x ≤ v)) + (S.drop i).countP (fun x => decide (x ≤ v)) := by rw [← List.countP_append, List.take_append_drop]
      have c3 : (S.take i).countP (fun x => decide (x ≤ v)) ≤ (S.take i).length := List.countP_le_length
      rw [List.length_take] at c3
      omega
    · exact z
end L2
namespace L2
open PySem PySem.Spec PyProof.Rows MwSet
def SeqV (H : Hp) (p : Addr) (xs : List V) : Prop := H p = some (.tup xs) ∨ H p = some (.lst xs)
theorem SeqV.same {H H' : Hp} {p : Addr} {xs : List V} (h : SeqV H p xs) (s : Same H H') : SeqV H' p xs := h.imp (s _ _) (s _ _)
theorem SeqV.len {K : PySem.W.Frag} {H : Hp} {p : Addr} {xs : List V} (h : SeqV H p xs) : LenV K (.ref p) H xs.length := h.elim (fun e => .inr ⟨_, SqT.of e, rfl⟩) fun e => .inl ⟨_, SqL.of e, rfl⟩
theorem for_seqV {K : PySem.W.Frag} {a : Addr} {xs : List V} {tl : TE} {g : TG} {tb : TS} {D : Ends} {σ : St} {H H1 : Hp} (htl : ∀ k : VK, k (.ref a) H1 → tl σ H k) (hp : SeqV H1 a xs) (Pv : Nat → St → Hp → Prop) (h0 : Pv 0 σ H1) (hl : ∀ i σ' H', i ≤ xs.length → Pv i σ' H' → SeqV H1 a xs → H' a = H1 a)
    (hs : ∀ i x σ' H', xs[i]? = some x → Pv i σ' H' → g x σ' H' fun σ2 H2 => tb { D with nx := Pv (i + 1), ct := Pv (i + 1), bk := D.nx } σ2 H2) (hd : ∀ σ' H', Pv xs.length σ' H' → D.nx σ' H') :
    tFor (fun σ H R => iList K tl σ H R ∨ iTup K tl σ H R) g tb D σ H := by
  rcases hp with e | e
  · exact Or.inr (htl _ ⟨a, rfl, ⟨_, SqT.of e⟩, for_tup (xs := xs) Pv h0 (fun i σ' H' hi p => SqT.of (by rw [hl i σ' H' hi p (.inl e)]; exact e)) hs hd⟩)
  · exact Or.inl (htl _ ⟨a, rfl, ⟨_, SqL.of e⟩, for_list (xs := xs) Pv h0 (fun i σ' H' hi p => SqL.of (by rw [hl i σ' H' hi p (.inr e)]; exact e)) hs hd⟩)
theorem int_at {ns : List Int} {i : Nat} {x : V} (h : (ns.map V.int)[i]? = some x) : ∃ n, ns[i]? = some n ∧ x = .int n := by
  rw [List.getElem?_map] at h
  cases e : ns[i]? with
  | none => rw [e] at h; cases h
  | some n => rw [e] at h; exact ⟨n, rfl, (Option.some.inj h).symm⟩
end L2
namespace L2
open PySem PySem.Spec PyProof.Rows
theorem comp_seqV {K : PySem.W.Frag} {a : Addr} {xs : List V} {tl : TE} {σ : St} {H H1 : Hp} {one : V → Hp → (Option V → Hp → Prop) → Prop} {Q : List V → Hp → Prop} (htl : ∀ k : VK, k (.ref a) H1 → tl σ H k) (hp : SeqV H1 a xs) (Pv : Nat → List V → Hp → Prop) (h0 : Pv 0 [] H1) (hn : xs.length ≤ sizeLine)
    (hl : ∀ i ys H', i ≤ xs.length → Pv i ys H' → H' a = H1 a) (hs : ∀ i x ys H', xs[i]? = some x → Pv i ys H' → one x H' fun o H2 => Pv (i + 1) (ys ++ o.toList) H2) (hd : ∀ ys H', Pv xs.length ys H' → Q ys H') :
    iList K tl σ H (fun J H2 => CompW J H2 one Q) ∨ iTup K tl σ H (fun J H2 => CompW J H2 one Q) := by
  rcases hp with e | e
  · exact Or.inr (htl _ ⟨a, rfl, ⟨_, SqT.of e⟩, compW_tup (xs := xs) Pv h0 hn (fun i ys H' hi p => SqT.of (by rw [hl i ys H' hi p]; exact e)) hs hd⟩)
  · exact Or.inl (htl _ ⟨a, rfl, ⟨_, SqL.of e⟩, compW_list (xs := xs) Pv h0 hn (fun i ys H' hi p => SqL.of (by rw [hl i ys H' hi p]; exact e)) hs hd⟩)
theorem cell_at {r : List (Option Int)} {i : Nat} {x : V} (h : (r.map cellV)[i]? = some x) : ∃ c, r[i]? = some c ∧ x = cellV c := by
  rw [List.getElem?_map] at h
  cases e : r[i]? with
  | none => rw [e] at h; cases h
  | some c => rw [e] at h; exact ⟨c, rfl, (Option.some.inj h).symm⟩
end L2
namespace L2
open PySem PySem.Spec PyProof.Rows
def numsAt (F : List (List (Option Int))) (ru : Rule) (u d l r : Nat) (i j : Int) : List Int := (wc F ru u d l r i j).filterMap id
def filAt (F : List (List (Option Int))) (ru : Rule) (u d l r : Nat) (a b : Int) (i j : Int) : Option Int := manieth (numsAt F ru u d l r i j) a b
def wideF (F : List (List (Option Int))) : Nat := (F.headD []).length
def fil (F : List (List (Option Int))) (ru : Rule) (u d l r : Nat) (a b : Int) : List (List (Option Int)) := (List.range F.length).map fun i : Nat => (List.range (wideF F)).map fun j : Nat => filAt F ru u d l r a b (i : Int) (j : Int)
theorem fil_len (F : List (List (Option Int))) (ru : Rule) (u d l r : Nat) (a b : Int) : (fil F ru u d l r a b).length = F.length := by unfold fil; simp
theorem fil_row {F : List (List (Option Int))} {ru : Rule} {u d l r : Nat} {a b : Int} {i : Nat} (hi : i < F.length) : (fil F ru u d l r a b)[i]? = some ((List.range (wideF F)).map fun j : Nat => filAt F ru u d l r a b (i : Int) (j : Int)) := by
  unfold fil
  rw [List.getElem?_map, List.getElem?_range hi]; rfl
theorem fil_rows {F : List (List (Option Int))} {ru : Rule} {u d l r : Nat} {a b : Int} : ∀ x ∈ fil F ru u d l r a b, x.length = wideF F := fun x hx => by
  obtain ⟨i, _, rfl⟩ := List.mem_map.mp hx
  simp
theorem fil_wide {F : List (List (Option Int))} (R : Rect F) {ru : Rule} {u d l r : Nat} {a b : Int} : wideF (fil F ru u d l r a b) = wideF F := by
  have e := fil_row (ru := ru) (u := u) (d := d) (l := l) (r := r) (a := a) (b := b) (i := 0) R.h1
  unfold wideF
  have : (fil F ru u d l r a b).headD [] = (List.range (wideF F)).map fun j : Nat => filAt F ru u d l r a b ((0 : Nat) : Int) (j : Int) := by
    cases h : fil F ru u d l r a b with
    | nil => rw [h] at e; cases e
    | cons x l => rw [h] at e; exact Option.some.inj e
  rw [this]
  simp [wideF]
theorem nums_congr {F G : List (List (Option Int))} {ru ru' : Rule} {u d l r u' d' l' r' : Nat} {i j i' j' : Int} (h : (wc F ru u d l r i j).Perm (wc G ru' u' d' l' r' i' j')) : (numsAt F ru u d l r i j).Perm (numsAt G ru' u' d' l' r' i' j') := h.filterMap _
theorem flatMap_two {α : Type} (f : Nat → α) (g : Nat → List α) : ∀ l : List Nat, (l.flatMap fun k => f k :: g k).Perm (l.map f ++ l.flatMap g)
  | [] => List.Perm.refl _
  | k :: l => by
    rw [List.flatMap_cons, List.map_cons, List.flatMap_cons]
    show (f k :: (g k ++ l.flatMap fun k => f k :: g k)).Perm (f k :: (l.map f ++ (g k ++ l.flatMap g)))
    refine List.Perm.cons _ ?_
    refine ((flatMap_two f g l).append_left (g k)).trans ?_
    rw [← List.append_assoc, ← List.append_assoc]
    exact List.Perm.append_right _ List.perm_append_comm
theorem row_back (x : List (Option Int)) : (List.range x.length).map (fun k => (x[k]?).join) = x := by
  apply List.ext_getElem
  · simp
  · intro i h1 h2
    simp [h2]
theorem turnL_perm (n : Nat) : ∀ rows : List (List (Option Int)), (∀ x ∈ rows, x.length = n) → (turnL n rows).flatten.Perm rows.flatten
  | [], _ => by
    unfold turnL
    have : ((List.range n).map fun k => ([] : List (List (Option Int))).map fun r => (r[k]?).join).flatten = [] := by
      rw [List.flatten_eq_nil_iff]
      intro x hx
      obtain ⟨k, _, rfl⟩ := List.mem_map.mp hx
      rfl
    rw [this]; exact List.Perm.refl _
  | x :: rows, h => by
    have hx := h x List.mem_cons_self
    have ih := turnL_perm n rows fun y hy => h y (List.mem_cons_of_mem _ hy)
    have e : (turnL n (x :: rows)).flatten = (List.range n).flatMap fun k => (x[k]?).join :: rows.map fun r => (r[k]?).join := by
      unfold turnL
      rw [List.flatMap_def]
      rfl
    rw [e, List.flatten_cons]
    refine (flatMap_two _ _ _).trans ?_
    have e2 : (List.range n).map (fun k => (x[k]?).join) = x := by rw [← hx]; exact row_back x
    rw [e2]
    refine List.Perm.append_left _ ?_
    have e3 : ((List.range n).flatMap fun k => rows.map fun r => (r[k]?).join) = (turnL n rows).flatten := by unfold turnL; rw [List.flatMap_def]
    rw [e3]; exact ih
theorem nums_turn {F : List (List (Option Int))} (R : Rect F) (ru : Rule) (u d l r : Nat) (i j : Int) : (numsAt (turnT F) ru l r u d j i).Perm (numsAt F ru u d l r i j) := nums_congr (by
  rw [wc_rows, win_turn R, wc_rows]; exact turnL_perm _ _ (win_wide F ru u d l r i j))
theorem fil_turn {F : List (List (Option Int))} (R : Rect F) (ru : Rule) (u d l r : Nat) (a b : Int) : fil (turnT F) ru l r u d a b = turnT (fil F ru u d l r a b) := by
  have ew : wideF (turnT F) = F.length := turnT_wide R
  have ew2 : ((fil F ru u d l r a b).headD []).length = (F.headD []).length := fil_wide R
  apply List.ext_getElem
  · rw [fil_len, turnT_len, turnT_len, ew2]
  · intro j h1 h2
    rw [fil_len, turnT_len] at h1
    simp only [turnT, List.getElem_map, List.getElem_range]
    have e1 : (fil (turnT F) ru l r u d a b)[j]'(by rw [fil_len, turnT_len]; exact h1) = (List.range (wideF (turnT F))).map fun i : Nat => filAt (turnT F) ru l r u d a b (j : Int) (i : Int) := by simp [fil]
    show (fil (turnT F) ru l r u d a b)[j]'(by rw [fil_len, turnT_len]; exact h1) = _
    rw [e1, ew]
    apply List.ext_getElem
    · simp [fil_len]
    · intro i h3 h4
      have hi : i < F.length := by simpa using h3
      simp only [List.getElem_map, List.getElem_range, fil]
      rw [List.getElem?_map, List.getElem?_range (show j < wideF F from h1)]
      exact manieth_congr (nums_turn R ru u d l r (i : Int) (j : Int)) a b
theorem Rect.fil {F : List (List (Option Int))} (R : Rect F) (ru : Rule) (u d l r : Nat) (a b : Int) : Rect (fil F ru u d l r a b) := by
  have ew := fil_wide R (ru := ru) (u := u) (d := d) (l := l) (r := r) (a := a) (b := b)
  unfold wideF at ew
  refine ⟨by rw [fil_len]; exact R.h1, by rw [fil_len]; exact R.hs, by rw [ew]; exact R.w1, by rw [ew]; exact R.ws, fun x hx => ?_⟩
  rw [ew]
  exact fil_rows x hx
end L2
namespace L2
open PySem PySem.Spec PyProof.Rows
def LeC : Option Int → Option Int → Prop
  | none, none => True
  | some x, some y => x ≤ y
  | _, _ => False
theorem LeC.refl : ∀ c, LeC c c
  | none => trivial
  | some x => Int.le_refl x
inductive LeN : List Int → List Int → Prop
  | nil : LeN [] []
  | cons {x y : Int} {xs ys : List Int} : x ≤ y → LeN xs ys → LeN (x :: xs) (y :: ys)
inductive LeO : List (Option Int) → List (Option Int) → Prop
  | nil : LeO [] []
  | cons {x y : Option Int} {xs ys : List (Option Int)} : LeC x y → LeO xs ys → LeO (x :: xs) (y :: ys)
theorem LeN.len : ∀ {xs ys : List Int}, LeN xs ys → xs.length = ys.length
  | _, _, .nil => rfl
  | _, _, .cons _ t => by simp [t.len]
theorem LeN.count {xs ys : List Int} (h : LeN xs ys) (v : Int) : ys.countP (fun x => decide (x ≤ v)) ≤ xs.countP fun x => decide (x ≤ v) := by
  induction h with
  | nil => exact Nat.le_refl _
  | @cons x y xs ys e t ih =>
    rw [List.countP_cons, List.countP_cons]
    by_cases z : y ≤ v
    · have z2 : x ≤ v := by omega
      rw [decide_eq_true z, decide_eq_true z2]
      simp only [if_true]; omega
    · rw [decide_eq_false z]
      simp only [Bool.false_eq_true, if_false]
      omega
theorem LeO.append {a b : List (Option Int)} (h : LeO a b) : ∀ {c d : List (Option Int)}, LeO c d → LeO (a ++ c) (b ++ d) := by
  induction h with
  | nil => exact fun h => h
  | cons e t ih => exact fun h => .cons e (ih h)
theorem LeO.flat (f g : Nat → List (Option Int)) : ∀ l : List Nat, (∀ k ∈ l, LeO (f k) (g k)) → LeO (l.flatMap f) (l.flatMap g)
  | [], _ => .nil
  | k :: l, h => by
    rw [List.flatMap_cons, List.flatMap_cons]
    exact (h k List.mem_cons_self).append (LeO.flat f g l fun x hx => h x (List.mem_cons_of_mem _ hx))
theorem LeO.nums {a b : List (Option Int)} (h : LeO a b) : LeN (a.filterMap id) (b.filterMap id) := by
  induction h with
  | nil => exact .nil
  | @cons x y xs ys e t ih =>
    cases x with
    | none =>
      cases y with
      | none => exact ih
      | some y => exact e.elim
    | some x =>
      cases y with
      | none => exact e.elim
      | some y => exact .cons e ih
theorem rise_le {xs ys : List Int} (h : LeN xs ys) {i : Nat} (hi : i < (sortI xs).length) (hj : i < (sortI ys).length) : (sortI xs)[i] ≤ (sortI ys)[i] := by
  have a := (rise_count (sortI_rise ys) hj ((sortI ys)[i])).mp (Int.le_refl _)
  refine (rise_count (sortI_rise xs) hi ((sortI ys)[i])).mpr (Nat.lt_of_lt_of_le a ?_)
  rw [(sortI_perm ys).countP_eq, (sortI_perm xs).countP_eq]
  exact h.count _
theorem manieth_le {xs ys : List Int} (h : LeN xs ys) (a b : Int) : LeC (manieth xs a b) (manieth ys a b) := by
  unfold manieth
  rw [h.len]
  generalize (placeOf ys.length a b).toNat = k
  have l1 := sortI_len xs
  have l2 := sortI_len ys
  have l3 := h.len
  by_cases z : k < ys.length
  · rw [List.getElem?_eq_getElem (show k < (sortI xs).length by omega), List.getElem?_eq_getElem (show k < (sortI ys).length by omega)]
    exact rise_le h _ _
  · rw [List.getElem?_eq_none (by omega), List.getElem?_eq_none (by omega)]
    exact trivial
structure LeF (F G : List (List (Option Int))) : Prop where
  len : F.length = G.length
  wide : (F.headD []).length = (G.headD []).length
  cell : ∀ i j : Int, 0 ≤ i → i < F.length → 0 ≤ j → j < (F.headD []).length → LeC (cellAt F i j) (cellAt G i j)
theorem LeF.stands {F G : List (List (Option Int))} (R : Rect F) (h : LeF F G) (ru : Rule) (i j : Int) : LeO (stands F ru i j) (stands G ru i j) := by
  have hin : inF F i j = inF G i j := by unfold inF; rw [h.len, h.wide]
  have h1 := R.h1; have w1 := R.w1
  unfold L2.stands
  rw [← hin]
  cases e : inF F i j with
  | true =>
    rw [if_pos rfl, if_pos rfl]
    unfold inF at e
    simp only [Bool.and_eq_true, decide_eq_true_eq] at e
    exact .cons (h.cell i j e.1.1 e.1.2 e.2.1 e.2.2) .nil
  | false =>
    rw [if_neg Bool.false_ne_true, if_neg Bool.false_ne_true]
    have go : ∀ ru : Rule, LeO [cellAt F (led ru i F.length) (led ru j (F.headD []).length)] [cellAt G (led ru i G.length) (led ru j (G.headD []).length)] := fun ru => by
      rw [← h.len, ← h.wide]
      have li := led_in ru i (n := F.length) (by omega)
      have lj := led_in ru j (n := (F.headD []).length) (by omega)
      exact .cons (h.cell _ _ li.1 li.2 lj.1 lj.2) .nil
    cases ru with
    | there => exact .nil
    | told c => exact .cons (LeC.refl c) .nil
    | near => exact go .near
    | turned => exact go .turned
    | round => exact go .round
theorem LeF.nums {F G : List (List (Option Int))} (R : Rect F) (h : LeF F G) (ru : Rule) (u d l r : Nat) (i j : Int) : LeN (numsAt F ru u d l r i j) (numsAt G ru u d l r i j) := by
  unfold numsAt
  refine LeO.nums ?_
  unfold wc rowCells
  exact LeO.flat _ _ _ fun a _ => LeO.flat _ _ _ fun b _ => h.stands R ru _ _
theorem fil_cell {F : List (List (Option Int))} {ru : Rule} {u d l r : Nat} {a b : Int} {i j : Int} (i0 : 0 ≤ i) (i1 : i < F.length) (j0 : 0 ≤ j) (j1 : j < (F.headD []).length) : cellAt (fil F ru u d l r a b) i j = filAt F ru u d l r a b i j := by
  unfold cellAt
  rw [fil_row (by omega)]
  show (((List.range (wideF F)).map fun j : Nat => filAt F ru u d l r a b ((i.toNat : Nat) : Int) (j : Int))[j.toNat]?).join = _
  rw [List.getElem?_map, List.getElem?_range (show j.toNat < wideF F by unfold wideF; omega)]
  show filAt F ru u d l r a b ((i.toNat : Nat) : Int) ((j.toNat : Nat) : Int) = _
  rw [Int.toNat_of_nonneg i0, Int.toNat_of_nonneg j0]
theorem LeF.fil {F G : List (List (Option Int))} (R : Rect F) (R' : Rect G) (h : LeF F G) (ru : Rule) (u d l r : Nat) (a b : Int) : LeF (fil F ru u d l r a b) (fil G ru u d l r a b) := by
  have e1 := fil_wide R (ru := ru) (u := u) (d := d) (l := l) (r := r) (a := a) (b := b)
  have e2 := fil_wide R' (ru := ru) (u := u) (d := d) (l := l) (r := r) (a := a) (b := b)
  unfold wideF at e1 e2
  refine ⟨by rw [fil_len, fil_len]; exact h.len, by rw [e1, e2]; exact h.wide, fun i j i0 i1 j0 j1 => ?_⟩
  rw [fil_len] at i1
  rw [e1] at j1
  rw [fil_cell i0 i1 j0 j1, fil_cell i0 (by rw [← h.len]; exact i1) j0 (by rw [← h.wide]; exact j1)]
  exact manieth_le (h.nums R ru u d l r i j) a b
end L2
namespace L2
open PySem PySem.Spec PyProof.Rows
section
variable {X : Cx} {pos : Pos} {K : PySem.W.Frag}
def gLst (K : PySem.W.Frag) (n : Nat) (t : TGs) : TG := fun v σ H Q => ∃ a xs, v = .ref a ∧ SqL K H a xs ∧ xs.length = n ∧ t xs σ H Q
theorem pg_lstK {es : List Expr} {k : Nat} {t : TGs} {n : Nat} (hK : X.K = K) (hc : X.calm = true) (h : PGs X es t)
    (hn : (assignEach es X.env).length = n := by rfl) (hst : (assignEach es X.env).findIdx? (·.1) = none := by rfl) : PG X (.Tuple es k pos) (gLst K n t) := by
  subst hK
  intro pins s σ H v u Q I r hw
  obtain ⟨a, xs, e1, hq, hl, hw⟩ := hw
  subst e1
  cases r
  obtain ⟨its, rv, p, hz⟩ := I.list hq
  rw [assign_Tuple]
  refine wpAny_bind (wpAny_standAt ?_)
  unfold unpack
  rw [show (assignEach es X.env).length = (its.toArray).size by simp [hn, ← hl, rv.length], hst]
  refine wpAny_bind (wpAny_holding (PySem.W.kun_itemsOf (I.ok.hd hc) p.isList fun h' hx => ?_))
  have I1 : Inv X pins σ H { s with heap := h' } := I.kept (t' := s.toks) fun b o e => hx b o (Nat.ne_of_lt (Heap.lt_size e)) e
  exact h pins _ σ H xs _ Q I1 (by simpa using rv) hw
end
end L2
namespace L2
open PySem PySem.Spec PyProof.Rows
end L2
namespace L2
open PySem PySem.Spec PyProof.Rows
end L2
namespace L2
open PySem PySem.Spec PyProof.Rows
def cellsL (xs : List Int) : PyData := .list ((xs.map some).map cellD)
theorem cellsL_ok (xs : List Int) : (cellsL xs).canLay0 = true ∧ (cellsL xs).depth = 1 := by
  refine ⟨canLay_cells (xs.map some), ?_⟩
  show PyData.depthAll ((xs.map some).map cellD) + 1 = 1
  rw [depth_cells]
theorem eqv_cellsL (xs ys : List Int) : PyData.eqv (cellsL xs) (cellsL ys) = decide (xs = ys) := by
  unfold cellsL
  rw [PyData.eqv, eqv_cells]
  by_cases z : xs = ys
  · subst z; simp
  · rw [decide_eq_false z, decide_eq_false fun e => z (some_inj.mp e)]
end L2
namespace L2
open PySem PySem.Spec PyProof.Rows
end L2
namespace L2
open PySem PySem.Spec PyProof.Rows
end L2
namespace L2
open PySem PySem.Spec PyProof.Rows
end L2
namespace L2
open PySem PySem.Spec PyProof.Rows
end L2
namespace L2
open PySem PySem.Spec PyProof.Rows
end L2
namespace L2
open PySem PySem.Spec PyProof.Rows
end L2
namespace L2
open PySem PySem.Spec PyProof.Rows
end L2
namespace L2
open PySem PySem.Spec PyProof.Rows
def TopT (K : PySem.W.Frag) (p : Addr) (xs : List V) : Prop := ∃ (o : Obj) (its : Array Value) (n : Nat), K.lookup p = some o ∧ o.cls = .type "tuple" ∧ o.data = .seq its n ∧ its.size ≤ sizeLine ∧ Vals xs its.toList
theorem TopT.sq {K : PySem.W.Frag} {H : Hp} {p : Addr} {xs : List V} (h : TopT K p xs) : SqT K H p xs := .inr h
def Shr (K : PySem.W.Frag) (H : Hp) (sv : V) (a b : Int) : Prop := ∃ p, sv = .ref p ∧ (H p = some (.tup [.int a, .int b]) ∨ TopT K p [.int a, .int b])
theorem Shr.keep {K : PySem.W.Frag} {H H' : Hp} {sv : V} {a b : Int} (h : Shr K H sv a b) (k : KeepT H H') : Shr K H' sv a b := by
  obtain ⟨p, e, h⟩ := h
  exact ⟨p, e, h.imp (k _ _) id⟩
theorem Shr.of {K : PySem.W.Frag} {H : Hp} {sv : V} {a b : Int} (h : IsD H sv (placeD (a, b))) : Shr K H sv a b := by
  obtain ⟨p, e, h⟩ := isPlace_inv h
  exact ⟨p, e, .inl h⟩
theorem shr_sq {K : PySem.W.Frag} {H : Hp} {p : Addr} {xs : List V} (h : H p = some (.tup xs) ∨ TopT K p xs) : SqT K H p xs := h.elim SqT.of TopT.sq
end L2
namespace L2
open PySem PySem.Spec PyProof.Rows
structure Dk (H : Hp) (d c : Addr) (n : Nat) : Prop where
  ne : d ≠ c
  at_ : ∃ (ns : List Int) (a t : Int), H d = some (.lst [.ref c, .int a, .int t]) ∧ H c = some (.lst (ns.map V.int)) ∧ 1 ≤ ns.length ∧ ns.length ≤ 64 ∧ 0 ≤ t ∧ t ≤ n
theorem Dk.mono {H : Hp} {d c : Addr} {n m : Nat} (D : Dk H d c n) (h : n ≤ m) : Dk H d c m := by
  obtain ⟨ne, ns, a, t, h1, h2, h3, h4, h5, h6⟩ := D
  exact ⟨ne, ns, a, t, h1, h2, h3, h4, h5, by omega⟩
theorem Dk.keep {H H' : Hp} {d c : Addr} {n : Nat} (D : Dk H d c n) (s : Same H H') : Dk H' d c n := by
  obtain ⟨ne, ns, a, t, h1, h2, h3⟩ := D
  exact ⟨ne, ns, a, t, s _ _ h1, s _ _ h2, h3⟩
theorem Dk.upd {H : Hp} {d c p : Addr} {n : Nat} {o : HO} (D : Dk H d c n) (hp : H p = none) : Dk (upd H p o) d c n := D.keep (same_upd hp)
theorem Dk.nd {H : Hp} {d c p : Addr} {n : Nat} (D : Dk H d c n) (hp : H p = none) : p ≠ d ∧ p ≠ c := by
  obtain ⟨_, ns, a, t, h1, h2, _⟩ := D
  exact ⟨(ne_of_none h1 hp).symm, (ne_of_none h2 hp).symm⟩
def K2 (d c : Addr) (H H' : Hp) : Prop := ∀ b o, H b = some o → b ≠ d → b ≠ c → H' b = some o
theorem K2.refl (d c : Addr) (H : Hp) : K2 d c H H := fun _ _ e _ _ => e
theorem K2.trans {d c : Addr} {H H1 H2 : Hp} (a : K2 d c H H1) (b : K2 d c H1 H2) : K2 d c H H2 := fun x o e n m => b x o (a x o e n m) n m
theorem Same.k2 {H H' : Hp} (s : Same H H') (d c : Addr) : K2 d c H H' := fun b o e _ _ => s b o e
theorem K2.upd {d c p : Addr} {H H1 : Hp} {o : HO} (a : K2 d c H H1) (hp : H1 p = none) : K2 d c H (upd H1 p o) := a.trans ((same_upd hp).k2 d c)
theorem K2.tups {d c : Addr} {H H' : Hp} {n : Nat} (k : K2 d c H H') (D : Dk H d c n) : KeepT H H' := fun b xs e => by
  obtain ⟨_, ns, a, t, h1, h2, _⟩ := D
  exact k b _ e (ne_of e h1 fun z => by cases z) (ne_of e h2 fun z => by cases z)
end L2
namespace L2
open PySem PySem.Spec PyProof.Rows
end L2
set_option maxHeartbeats 2000000
namespace MwZipL
open PySem PySem.Spec PyProof.Rows
section
variable {prog : Program} {w : World} {A : Around} {E : Value → Shared → Prop} {s : Shared}
abbrev lIt (p : Addr) : Obj := { cls := .type "list_iterator", data := .fields #[.ref p, .int 0 0] }
abbrev tIt (p : Addr) : Obj := { cls := .type "tuple_iterator", data := .fields #[.ref p, .int 0 0] }
abbrev zA (h : Heap) (p q : Addr) : Heap := (h.push (lIt p)).push (tIt q)
abbrev zB (h : Heap) (p q : Addr) : Heap := (zA h p q).push { cls := .type "tuple", data := .seq #[.ref h.objs.size, .ref (h.push (lIt p)).objs.size] }
abbrev zC (h : Heap) (p q : Addr) : Heap := (zB h p q).push { cls := .type "tuple", data := .seq #[.none, .none] }
abbrev zD (h : Heap) (p q : Addr) : Heap := (zC h p q).push { cls := .type "zip", data := .fields #[.none, .bool false, .bool false, .ref (zA h p q).objs.size, .ref (zB h p q).objs.size] }
end
end MwZipL
namespace L2
open PySem PySem.Spec PyProof.Rows
end L2
namespace L2
open PySem PySem.Spec PyProof.Rows MwSet
end L2
set_option maxHeartbeats 2000000
namespace MwRep
open PySem Builtin
end MwRep
namespace L2
open PySem PySem.Spec PyProof.Rows
end L2
namespace L2
open PySem PySem.Spec PyProof.Rows MwSet
end L2
set_option maxHeartbeats 2000000
namespace MwFk
open PySem PySem.Spec
section
variable {prog : Program} {w : World}
def hashC : Option Int → Int
  | none => 0xFCA86420
  | some i => hashInt i
def hashT (hs : List Int) : Int := reduceHash (Builtin.Tuple.tupleHashOf hs)
def Hashes (prog : Program) (w : World) (hp : Heap) (m : Nat) (v : Value) (h : Int) (k : Nat) : Prop :=
  ∀ (A : Around) (E : Value → Shared → Prop) (s : Shared) (Q : Int → Shared → Prop), s.heap = hp → A.units ≤ m → Q h { s with toks := s.toks + k } → wpAny (model prog w) A (pyHash v) Q E s
theorem hash_int (hp : Heap) (m : Nat) (i : Int) (t : Tok) : Hashes prog w hp m (.int i t) (hashC (some i)) 1 := fun A E s Q _ _ h => wpAny_pyHash_int h
theorem hash_none (hp : Heap) (m : Nat) : Hashes prog w hp m .none (hashC none) 1 := by
  intro A E s Q _ _ h
  have hT : s.TypeIs .none "NoneType" := rfl
  unfold pyHash
  have hv : [Value.none].any Value.onHeap = false := rfl
  refine wpAny_bind ?_
  rw [cRoomFor, if_neg (by rw [hv]; exact Bool.false_ne_true)]; refine wpAny_pure ?_
  refine wpAny_bind (wpAny_specialOf hT F.slot_NoneType_hash.lookup ?_)
  show wpAny _ _ (if (some (Value.builtin "NoneType.__hash__") == some Value.none) = true then _ else _) Q E s
  rw [if_neg (by rw [beq_builtin_none]; exact Bool.false_ne_true)]
  refine wpAny_bind (wpAny_specialOf hT F.slot_NoneType_hash.lookup ?_)
  show wpAny _ _ (callSpecialIfBoundUnlessNone? .none "__hash__" _ >>= _) Q E s
  refine wpAny_bind (wpAny_callSpecialIfBoundUnlessNone?_slot hT F.slot_NoneType_hash
    (wpAny_call_entry F.slot_NoneType_hash hT F.entry_NoneType_hash
      (show wpAny _ _ (retInt 0xFCA86420) _ _ s from wpAny_ret_mkInt ?_) (F.args_NoneType_hash_1 _)))
  show wpAny _ _ (if (decide (-(2 : Int) ^ 63 ≤ 0xFCA86420) && decide ((0xFCA86420 : Int) < 2 ^ 63)) = true then _ else _) Q E _
  rw [if_pos (by decide)]
  exact wpAny_pure h
inductive HAll (prog : Program) (w : World) (hp : Heap) (m : Nat) : List Value → List Int → Nat → Prop
  | nil : HAll prog w hp m [] [] 0
  | cons {v : Value} {h : Int} {k : Nat} {vs : List Value} {hs : List Int} {n : Nat} : Hashes prog w hp m v h k → HAll prog w hp m vs hs n → HAll prog w hp m (v :: vs) (h :: hs) (k + n)
theorem hash_tuple {hp : Heap} {m : Nat} {a : Addr} {o : Obj} {items : Array Value} {n : Nat} {hs : List Int} {k : Nat} (hm : m < cLine) (ho : hp.get? a = some o) (hc : o.cls = .type "tuple") (hd : o.data = .seq items n) (hi : HAll prog w hp (m + 3) items.toList hs k) :
    Hashes prog w hp m (.ref a) (hashT hs) (k + 1) := by
  intro A E s Q hs' hu h
  subst hs'
  have hT : s.TypeIs (.ref a) "tuple" := ⟨o, ho, hc⟩
  have hu' : A.units < cLine := by omega
  unfold pyHash
  first | unfold pyHashByItsType | skip
  first | refine wpAny_bind (wpAny_cRoomFor_or (.inr hu') ?_) | skip
  refine wpAny_bind (wpAny_specialOf hT F.slot_tuple_hash.lookup ?_)
  show wpAny _ _ (if (some (Value.builtin "tuple.__hash__") == some Value.none) = true then _ else _) Q E s
  rw [if_neg (by rw [beq_builtin_none]; exact Bool.false_ne_true)]
  refine wpAny_bind (wpAny_specialOf hT F.slot_tuple_hash.lookup ?_)
  show wpAny _ _ (callSpecialIfBoundUnlessNone? (.ref a) "__hash__" _ >>= _) Q E s
  refine wpAny_bind (wpAny_callSpecialIfBoundUnlessNone?_slot hT F.slot_tuple_hash (wpAny_call_entry F.slot_tuple_hash hT F.entry_tuple_hash ?_ (F.args_tuple_hash_1 _)))
  show wpAny _ _ (Builtin.Tuple.tupleItemsOf (.ref a) >>= _) _ _ s
  refine wpAny_bind (wpAny_tupleItemsOf ho hd ?_)
  refine wpAny_bind ?_
  rw [← Array.forIn_toList]
  refine wpAny_forIn_list _
    (fun rest (b : Array Int) s' => ∃ done left d e, hs = done ++ left ∧ HAll prog w s.heap (m + 3) rest left e ∧ b.toList = done ∧ d + e = k ∧ s' = { s with toks := s.toks + d })
    _ ?_ ?_ _ _ ⟨[], hs, 0, k, rfl, hi, rfl, by omega, rfl⟩
  · rintro x rest b s' ⟨done, left, d, e, rfl, hl, hb, hde, rfl⟩
    cases hl with
    | @cons v h1 k1 vs hs1 n1 hv hl' =>
      refine wpAny_bind (hv _ _ _ _ rfl ?_ ?_)
      · first | (simp; omega) | omega
      first
        | exact wpAny_pure ⟨done ++ [h1], hs1, d + k1, n1, by simp, hl', by simp [hb], by omega, by simp [Nat.add_assoc]⟩
        | exact wpAny_bind (wpAny_pure (wpAny_pure ⟨done ++ [h1], hs1, d + k1, n1, by simp, hl', by simp [hb], by omega, by simp [Nat.add_assoc]⟩))
  · rintro b s' ⟨done, left, d, e, rfl, hl, hb, hde, rfl⟩
    cases hl
    rw [List.append_nil] at h
    have hk : d = k := by omega
    subst hk
    show wpAny _ _ (retInt (Builtin.Tuple.tupleHashOf b.toList)) _ _ _
    rw [hb]
    refine wpAny_ret_mkInt ?_
    show wpAny _ _ (if (decide (-(2 : Int) ^ 63 ≤ Builtin.Tuple.tupleHashOf done) && decide (Builtin.Tuple.tupleHashOf done < 2 ^ 63)) = true then _ else _) Q E _
    unfold hashT reduceHash at h
    by_cases hr : (decide (-(2 : Int) ^ 63 ≤ Builtin.Tuple.tupleHashOf done) && decide (Builtin.Tuple.tupleHashOf done < 2 ^ 63)) = true
    · rw [if_pos hr]
      rw [if_pos hr] at h
      exact wpAny_pure (by simpa [Nat.add_assoc] using h)
    · rw [if_neg hr]
      rw [if_neg hr] at h
      exact wpAny_bind (wpAny_rule (wpAny_pure (by simpa [Nat.add_assoc] using h)))
theorem cells_hash {hp : Heap} {m : Nat} : ∀ {r : List (Option Int)} {vs : List Value} {as : List Addr}, ReadsAll hp vs (r.map L2.cellD) as → HAll prog w hp m vs (r.map hashC) r.length
  | [], _, _, h => by cases h; exact .nil
  | c :: r, _, _, h => by
    cases h with
    | cons h1 h2 =>
      have ih := cells_hash (m := m) h2
      rw [List.map_cons, List.length_cons, Nat.add_comm]
      cases c with
      | none => cases h1; exact .cons (hash_none hp m) ih
      | some i => cases h1; exact .cons (hash_int hp m i _) ih
def hashR (r : List (Option Int)) : Int := hashT (r.map hashC)
def drawsR : List (List (Option Int)) → Nat
  | [] => 0
  | r :: F => (r.length + 1) + drawsR F
theorem rows_hash {hp : Heap} {m : Nat} (hm : m < cLine) : ∀ {F : List (List (Option Int))} {vs : List Value} {as : List Addr}, ReadsAll hp vs (F.map L2.rowD) as → HAll prog w hp m vs (F.map hashR) (drawsR F)
  | [], _, _, h => by cases h; exact .nil
  | r :: F, _, _, h => by
    cases h with
    | cons h1 h2 =>
      have ih := rows_hash hm h2
      cases h1 with
      | tuple ho hc hd hi => exact .cons (hash_tuple hm ho hc hd (cells_hash hi)) ih
def hashF (F : List (List (Option Int))) : Int := hashT (F.map hashR)
theorem field_hash {hp : Heap} {m : Nat} (hm : m + 3 < cLine) {F : List (List (Option Int))} {v : Value} {as : List Addr} (h : Reads hp v (L2.fieldD F) as) : Hashes prog w hp m v (hashF F) (drawsR F + 1) := by
  cases h with
  | tuple ho hc hd hi => exact hash_tuple (by omega) ho hc hd (rows_hash hm hi)
def Quiet (prog : Program) (w : World) (hp : Heap) (n : Nat) (v : Value) : Prop :=
  ∀ (A : Around) (E : Value → Shared → Prop) (s : Shared) (Q : Bool → Shared → Prop), s.heap = hp → Q true s → wpAny (model prog w) A (eqIsQuiet n v) Q E s
theorem quiet_value {hp : Heap} {n : Nat} {v : Value} (h : carriedByValue v = true) : Quiet prog w hp n v := fun A E s Q _ q => by
  rw [eqIsQuiet_byValue n h]; exact wpAny_pure q
theorem quiet_tuple {hp : Heap} {k : Nat} {a : Addr} {o : Obj} {items : Array Value} {n : Nat} (ho : hp.get? a = some o) (hc : o.cls = .type "tuple") (hd : o.data = .seq items n) (hi : ∀ v ∈ items.toList, Quiet prog w hp k v) : Quiet prog w hp (k + 1) (.ref a) := by
  intro A E s Q hs h
  subst hs
  have hT : s.TypeIs (.ref a) "tuple" := ⟨o, ho, hc⟩
  unfold eqIsQuiet
  refine wpAny_bind (wpAny_specialOf hT F.slot_tuple_eq.lookup ?_)
  show wpAny _ _ (isInstance (.ref a) (.type "tuple") >>= _) _ _ s
  refine wpAny_bind (wpAny_isInstance hT isSubtype_tuple_tuple ?_)
  simp only [Bool.not_true, Bool.false_eq_true, if_false]
  refine wpAny_bind (wpAny_seqItems ho hd ?_)
  refine wpAny_bind ?_
  show wpAny _ _ (forIn items _ _) _ _ s
  rw [← Array.forIn_toList]
  refine wpAny_forIn_list _ (fun rest r s' => r.1 = none ∧ s' = s ∧ ∀ v ∈ rest, Quiet prog w s.heap k v) _ ?_ ?_ _ _ ⟨rfl, rfl, hi⟩
  · rintro v rest r s' ⟨hr, rfl, hall⟩
    refine wpAny_bind (hall v List.mem_cons_self _ _ _ _ rfl ?_)
    simp only [Bool.not_true, Bool.false_eq_true, if_false]
    exact wpAny_pure ⟨rfl, rfl, fun u hu' => hall u (List.mem_cons_of_mem _ hu')⟩
  · rintro ⟨r1, r2⟩ s' ⟨hr, rfl, _⟩
    simp only at hr
    subst hr
    exact wpAny_pure h
theorem cells_quiet {hp : Heap} {n : Nat} : ∀ {r : List (Option Int)} {vs : List Value} {as : List Addr}, ReadsAll hp vs (r.map L2.cellD) as → ∀ v ∈ vs, Quiet prog w hp n v
  | [], _, _, h => by cases h; intro v hv; cases hv
  | c :: r, _, _, h => by
    cases h with
    | cons h1 h2 =>
      intro v hv
      rcases List.mem_cons.mp hv with rfl | hv
      · cases c with
        | none => cases h1; exact quiet_value rfl
        | some i => cases h1; exact quiet_value rfl
      · exact cells_quiet h2 v hv
theorem rows_quiet {hp : Heap} {n : Nat} : ∀ {F : List (List (Option Int))} {vs : List Value} {as : List Addr}, ReadsAll hp vs (F.map L2.rowD) as → ∀ v ∈ vs, Quiet prog w hp (n + 1) v
  | [], _, _, h => by cases h; intro v hv; cases hv
  | r :: F, _, _, h => by
    cases h with
    | cons h1 h2 =>
      intro v hv
      rcases List.mem_cons.mp hv with rfl | hv
      · cases h1 with
        | tuple ho hc hd hi => exact quiet_tuple ho hc hd (cells_quiet hi)
      · exact rows_quiet h2 v hv
theorem field_quiet {hp : Heap} {n : Nat} {F : List (List (Option Int))} {v : Value} {as : List Addr} (h : Reads hp v (L2.fieldD F) as) : Quiet prog w hp (n + 2) v := by
  cases h with
  | tuple ho hc hd hi => exact quiet_tuple ho hc hd (rows_quiet hi)
theorem cells_inj {hp : Heap} : ∀ {r q : List (Option Int)} {vs : List Value} {as bs : List Addr}, ReadsAll hp vs (r.map L2.cellD) as → ReadsAll hp vs (q.map L2.cellD) bs → r = q
  | [], [], _, _, _, _, _ => rfl
  | [], _ :: _, _, _, _, h, h' => by cases h; cases h'
  | _ :: _, [], _, _, _, h, h' => by cases h'; cases h
  | c :: r, c' :: q, _, _, _, h, h' => by
    cases h with
    | cons h1 h2 =>
      cases h' with
      | cons g1 g2 =>
        rw [cells_inj h2 g2]
        congr 1
        cases c with
        | none => cases h1; cases c' with
          | none => rfl
          | some j => cases g1
        | some i => cases h1; cases c' with
          | none => cases g1
          | some j => cases g1; rfl
theorem tuple_at {hp : Heap} {v : Value} {ds es : List PyData} {as bs : List Addr} (h : Reads hp v (.tuple ds) as) (h' : Reads hp v (.tuple es) bs) : ∃ vs as' bs', ReadsAll hp vs ds as' ∧ ReadsAll hp vs es bs' := by
  cases h with
  | tuple ho hc hd hi =>
    cases h' with
    | tuple ho' hc' hd' hi' =>
      rw [ho] at ho'
      cases ho'
      rw [hd] at hd'
      injection hd' with e1 e2
      subst e1
      exact ⟨_, _, _, hi, hi'⟩
theorem rows_inj {hp : Heap} : ∀ {F G : List (List (Option Int))} {vs : List Value} {as bs : List Addr}, ReadsAll hp vs (F.map L2.rowD) as → ReadsAll hp vs (G.map L2.rowD) bs → F = G
  | [], [], _, _, _, _, _ => rfl
  | [], _ :: _, _, _, _, h, h' => by cases h; cases h'
  | _ :: _, [], _, _, _, h, h' => by cases h'; cases h
  | r :: F, q :: G, _, _, _, h, h' => by
    cases h with
    | cons h1 h2 =>
      cases h' with
      | cons g1 g2 =>
        obtain ⟨vs, as', bs', i1, i2⟩ := tuple_at h1 g1
        rw [rows_inj h2 g2, cells_inj i1 i2]
theorem field_inj {hp : Heap} {F G : List (List (Option Int))} {v : Value} {as bs : List Addr} (h : Reads hp v (L2.fieldD F) as) (h' : Reads hp v (L2.fieldD G) bs) : F = G := by
  obtain ⟨vs, as', bs', i1, i2⟩ := tuple_at h h'
  exact rows_inj i1 i2
def KeepSeq (h h' : Heap) : Prop := ∀ b o vs n, h.get? b = some o → o.data = .seq vs n → h'.get? b = some o
theorem cells_keep {h h' : Heap} : ∀ {r : List (Option Int)} {vs : List Value} {as : List Addr}, ReadsAll h vs (r.map L2.cellD) as → ReadsAll h' vs (r.map L2.cellD) as
  | [], _, _, x => by cases x; exact .nil
  | c :: r, _, _, x => by
    cases x with
    | cons h1 h2 =>
      refine .cons ?_ (cells_keep h2)
      cases c with
      | none => cases h1; exact .none
      | some i => cases h1; exact .int _ _
theorem rows_keep {h h' : Heap} (k : KeepSeq h h') : ∀ {F : List (List (Option Int))} {vs : List Value} {as : List Addr}, ReadsAll h vs (F.map L2.rowD) as → ReadsAll h' vs (F.map L2.rowD) as
  | [], _, _, x => by cases x; exact .nil
  | r :: F, _, _, x => by
    cases x with
    | cons h1 h2 =>
      refine .cons ?_ (rows_keep k h2)
      cases h1 with
      | tuple ho hc hd hi => exact .tuple (k _ _ _ _ ho hd) hc hd (cells_keep hi)
theorem field_keep {h h' : Heap} (k : KeepSeq h h') {F : List (List (Option Int))} {v : Value} {as : List Addr} (x : Reads h v (L2.fieldD F) as) : Reads h' v (L2.fieldD F) as := by
  cases x with
  | tuple ho hc hd hi => exact .tuple (k _ _ _ _ ho hd) hc hd (rows_keep k hi)
def IsF (h : Heap) (F : List (List (Option Int))) (a : Addr) : Prop := ∃ as, Reads h (.ref a) (L2.fieldD F) as
def fieldKind (prog : Program) (w : World) : HeapKind prog w (List (List (Option Int))) where
  is := IsF
  hash := hashF
  draws := fun F => drawsR F + 1
  room := fun A => A.units + 64 < cLine
  inj := fun ⟨_, h⟩ ⟨_, h'⟩ => field_inj h h'
  keeps := fun {h h' F a d o es ep} ⟨as, x⟩ ho hd hs => ⟨as, field_keep (fun b o' vs n e e' => by
    have : b ≠ d := fun z => by
      subst z
      rw [ho] at e
      cases e
      rw [hd] at e'
      cases e'
    exact (hs.2 b this).trans e) x⟩
  pyHash := fun {A E s F a Q} hu ⟨as, x⟩ q => field_hash (m := A.units) (by have : A.units + 64 < cLine := hu; omega) x A E s Q rfl (Nat.le_refl _) q
  eqBool := fun {A E s F G a b Q} hu ⟨as, x⟩ ⟨bs, y⟩ q => by
    have e := SeqAt.eqAt_reads (L2.fieldD F) (L2.fieldD G) A s _ _ as bs x y (L2.canLay_field F) (L2.canLay_field G) (by have h1 : A.units + 64 < cLine := hu; have h2 := L2.depth_field F; omega)
    rw [L2.eqv_field] at e
    exact e prog w E Q q
  quiet := fun {A E s F a Q} ⟨as, x⟩ q => field_quiet (n := 6) x A E s Q rfl q
end
end MwFk
set_option maxHeartbeats 2000000
namespace L2
open PySem PySem.Spec PyProof.Rows MwFk
abbrev Fld := List (List (Option Int))
inductive FRel : List (Fld × Addr × Int) → List (Fld × Addr × Value) → Prop
  | nil : FRel [] []
  | cons {F : Fld} {a : Addr} {n : Int} {t : Tok} {xs : List (Fld × Addr × Int)} {ys : List (Fld × Addr × Value)} : FRel xs ys → FRel ((F, a, n) :: xs) ((F, a, .int n t) :: ys)
theorem FRel.keys {xs : List (Fld × Addr × Int)} {ys : List (Fld × Addr × Value)} (h : FRel xs ys) : ys.map (·.1) = xs.map (·.1) := by
  induction h with
  | nil => rfl
  | cons _ ih => rw [List.map_cons, List.map_cons, ih]
theorem FRel.mem {xs : List (Fld × Addr × Int)} {ys : List (Fld × Addr × Value)} (h : FRel xs ys) : ∀ y ∈ ys, ∃ x ∈ xs, x.1 = y.1 ∧ x.2.1 = y.2.1 := by
  induction h with
  | nil => intro y hy; cases hy
  | @cons F a n t xs ys _ ih =>
    intro y hy
    rcases List.mem_cons.mp hy with rfl | hy
    · exact ⟨(F, a, n), List.mem_cons_self, rfl, rfl⟩
    · obtain ⟨x, hx, e⟩ := ih y hy
      exact ⟨x, List.mem_cons_of_mem _ hx, e⟩
theorem FRel.length {xs : List (Fld × Addr × Int)} {ys : List (Fld × Addr × Value)} (h : FRel xs ys) : ys.length = xs.length := by
  have := congrArg List.length h.keys
  rwa [List.length_map, List.length_map] at this
def atF (xs : List (Fld × Addr × Int)) (F : Fld) : Option Int := (xs.find? fun x => decide (x.1 = F)).map (·.2.2)
theorem FRel.at_ {xs : List (Fld × Addr × Int)} {ys : List (Fld × Addr × Value)} (h : FRel xs ys) (F : Fld) : match atF xs F with
    | none => atKey ys F = none
    | some n => ∃ p t, atKey ys F = some p ∧ p.2 = .int n t := by
  induction h with
  | nil => rfl
  | @cons G a n t xs ys _ ih =>
    unfold atF atKey at ih ⊢
    by_cases e : G = F
    · rw [List.find?_cons_of_pos (by simpa using e), List.find?_cons_of_pos (by simpa using e)]
      exact ⟨_, t, rfl, rfl⟩
    · rw [List.find?_cons_of_neg (by simpa using e), List.find?_cons_of_neg (by simpa using e)]
      exact ih
theorem FRel.snoc {xs : List (Fld × Addr × Int)} {ys : List (Fld × Addr × Value)} (h : FRel xs ys) (F : Fld) (a : Addr) (n : Int) (t : Tok) : FRel (xs ++ [(F, a, n)]) (ys ++ [(F, a, .int n t)]) := by
  induction h with
  | nil => exact .cons .nil
  | cons _ ih => exact .cons ih
def FDic (d : Addr) (xs : List (Fld × Addr × Int)) : HO := .ext fun h => (d == sysModules) = false ∧ ∃ (o : Obj) (es : Array DictEntry) (ep : Nat) (ys : List (Fld × Addr × Value)), h.get? d = some o ∧ o.ExactDict ∧ o.data = .dict es ep ∧ es.toList = ys.map (fun y => (⟨hashF y.1, .ref y.2.1, y.2.2⟩ : DictEntry)) ∧ FRel xs ys
structure FKeys (H : Hp) (xs : List (Fld × Addr × Int)) : Prop where
  at_ : ∀ x ∈ xs, IsD H (.ref x.2.1) (fieldD x.1)
  nd : (xs.map (·.1)).Nodup
theorem FKeys.keep {H H' : Hp} {xs : List (Fld × Addr × Int)} (h : FKeys H xs) (k : KeepT H H') : FKeys H' xs := ⟨fun x hx => (h.at_ x hx).keep k, h.nd⟩
section
variable {X : Cx} {pins : List (Addr × Obj)} {σ : St} {H : Hp} {s : Shared}
theorem FKeys.dict (I : Inv X pins σ H s) {d : Addr} {xs : List (Fld × Addr × Int)} (hd : H d = some (FDic d xs)) (hk : FKeys H xs) : (d == sysModules) = false ∧ ∃ ys, FRel xs ys ∧ s.heap.DictOfH (fieldKind X.prog X.w) d ys := by
  obtain ⟨⟨hs, o, es, ep, ys, h1, h2, h3, h4, h5⟩, _, _⟩ := (show ObjOk X.prog X.w H s.heap d (FDic d xs) from I.hok d _ hd)
  refine ⟨hs, ys, h5, o, es, ep, h1, h2, h3, h4, fun y hy => ?_, by rw [h5.keys]; exact hk.nd⟩
  obtain ⟨x, hx, e1, e2⟩ := h5.mem y hy
  obtain ⟨as, r⟩ := (hk.at_ x hx).reads I.hok (v := .ref x.2.1) rfl
  rw [e1, e2] at r
  exact ⟨as, r⟩
theorem key_isF (I : Inv X pins σ H s) {b : Addr} {F : Fld} (h : IsD H (.ref b) (fieldD F)) : (fieldKind X.prog X.w).is s.heap F b := by
  obtain ⟨as, r⟩ := h.reads I.hok (v := .ref b) rfl
  exact ⟨as, r⟩
theorem room_in1 {A : Around} {prog : Program} {w : World} (h : A.units + 80 < cLine) : (fieldKind prog w).room A.in1 := by
  show A.in1.units + 64 < cLine
  first | (simp; omega) | omega
theorem fdic_new {P : Program} {w : World} {H' : Hp} {h' : Heap} {d : Addr} {xs : List (Fld × Addr × Int)} {ys : List (Fld × Addr × Value)} (hs : (d == sysModules) = false) (hr : FRel xs ys) (hm : h'.DictOfH (fieldKind P w) d ys) : ObjOk P w H' h' d (FDic d xs) := by
  obtain ⟨o, es, ep, h1, h2, h3, h4, _, _⟩ := hm
  refine ⟨⟨hs, o, es, ep, ys, h1, h2, h3, h4, hr⟩, ⟨o, h1⟩, ?_⟩
  rintro g1 g2 ⟨a1, o', es', ep', ys', b1, b2, b3, b4, b5⟩ k
  exact ⟨a1, o', es', ep', ys', k _ b1, b2, b3, b4, b5⟩
end
section
variable {X : Cx} {o i e value : Expr} {pos pos' tpos : Pos} {td ty tv : TE}
def FAsk (H : Hp) (x y : V) (xs : List (Fld × Addr × Int)) (F : Fld) : Prop := ∃ d b, x = .ref d ∧ H d = some (FDic d xs) ∧ FKeys H xs ∧ y = .ref b ∧ IsD H (.ref b) (fieldD F)
def tFGet (td ty : TE) : TE := fun σ H Q => td σ H fun x H1 => ty σ H1 fun y H2 => ∃ xs F n, FAsk H2 x y xs F ∧ atF xs F = some n ∧ Q (.int n) H2
theorem pe_fget (hu : X.A.units + 80 < cLine) (ho : PE X o td) (hi : PE X i ty) (hs : NoSl i) : PE X (.Subscript o i pos) (tFGet td ty) := by
  intro pins s σ H Q I h
  refine subD_of PySem.F.slot_dict_getitem.lookup hs (thn (ho pins s σ H _ I h) fun u s1 ⟨x, H1, I1, rx, q1⟩ => thn (hi pins s1 σ H1 _ I1 q1) fun iv s2 ⟨y, H2, I2, ry, xs, F, n, ⟨d, b, ex, hd, hk, ey, hb⟩, e, q2⟩ => ?_)
  subst ex ey
  obtain rfl : u = Value.ref d := rx
  obtain rfl : iv = Value.ref b := ry
  obtain ⟨hs, ys, hr, hm⟩ := hk.dict I2 hd
  have ha := hr.at_ F
  rw [e] at ha
  obtain ⟨p, t, e1, e2⟩ := ha
  refine ⟨hm.typeIs, wpAny_getItem_heap (room_in1 hu) (key_isF I2 hb) hm e1 ?_⟩
  rw [e2]
  exact ⟨.int n, H2, I2.tok _, ⟨t, rfl⟩, q2⟩
def rFIn : R2 := fun y x H Q => ∃ xs F, FAsk H x y xs F ∧ Q (.bl (atF xs F).isSome) H
theorem op_fin (hu : X.A.units + 80 < cLine) : OpR X (compareOp .In) rFIn := by
  intro pins s σ H y x iv u Q I ry rx h
  obtain ⟨xs, F, ⟨d, b, ex, hd, hk, ey, hb⟩, q⟩ := h
  subst ex ey
  obtain rfl : u = Value.ref d := rx
  obtain rfl : iv = Value.ref b := ry
  obtain ⟨hs, ys, hr, hm⟩ := hk.dict I hd
  refine wpAny_in_heap (room_in1 hu) (key_isF I hb) hs hm ?_
  have ha := hr.at_ F
  cases e : atF xs F with
  | none =>
    rw [e] at ha q
    rw [show atKey ys F = none from ha]
    exact ⟨.bl false, H, I.tok _, rfl, q⟩
  | some n =>
    rw [e] at ha q
    obtain ⟨p, t, e1, e2⟩ := ha
    rw [e1]
    exact ⟨.bl true, H, I.tok _, rfl, q⟩
def sFPut (td ty tv : TE) : TS := fun D σ H => tv σ H fun v H1 => td σ H1 fun x H2 => ty σ H2 fun y H3 => ∃ xs F n d b, x = .ref d ∧ H3 d = some (FDic d xs) ∧ FKeys H3 xs ∧ y = .ref b ∧ IsD H3 (.ref b) (fieldD F) ∧ v = .int n ∧ atF xs F = none ∧ xs.length ≤ 1000 ∧ D.nx σ (upd H3 d (FDic d (xs ++ [(F, b, n)])))
theorem ps_fput (hu : X.A.units + 80 < cLine) (ho : PE X o td) (hi : PE X i ty) (hv : PE X value tv) (hs : swapsWith value (some (.Subscript o i pos')) pos.line X.env = pure false) :
    PS X (.Assign [.Subscript o i pos'] value pos) (sFPut td ty tv) := by
  intro pins s σ H D I h
  refine wpAny_Assign_Subscript (thn (hv pins s σ H _ I h) fun r s1 ⟨v, H1, I1, rv, q1⟩ => thn (ho pins s1 σ H1 _ I1 q1) fun u s2 ⟨x, H2, I2, rx, q2⟩ => thn (hi pins s2 σ H2 _ I2 q2) fun iv s3 ⟨y, H3, I3, ry, xs, F, n, d, b, ex, hd, hk, ey, hb, ev, e, hl, q3⟩ => ?_) hs
  subst ex ey ev
  obtain rfl : u = Value.ref d := rx
  obtain rfl : iv = Value.ref b := ry
  obtain ⟨t, rfl⟩ := rv
  obtain ⟨hs, ys, hr, hm⟩ := hk.dict I3 hd
  have ha := hr.at_ F
  rw [e] at ha
  have hz : ys.length ≤ sizeLine := by rw [hr.length]; exact Nat.le_trans hl (by decide)
  refine wpAny_setItem_heap (hsz := hz) (room_in1 hu) (key_isF I3 hb) hm fun h' hm' hsb => ?_
  rw [storedH_new ha] at hm'
  have ho' : ∃ q, h'.get? d = some q := let ⟨q, _, _, hq, _⟩ := hm'; ⟨q, hq⟩
  exact ⟨σ, _, d_write I3 (by rw [hd]; exact True.intro) hsb ho' (fdic_new hs (hr.snoc F b n t) hm'), q3⟩
def tFD1 (trs : List (TE × TE)) : TE := fun σ H Q => ∀ p, H p = none → tPairs trs σ (upd H p (FDic p [])) fun ps H2 => ∃ F b n, ps = [(V.ref b, V.int n)] ∧ IsD H2 (.ref b) (fieldD F) ∧ H2 p = some (FDic p []) ∧ Q (.ref p) (upd H2 p (FDic p [(F, b, n)]))
theorem pe_fd1 {k v : Expr} {trs : List (TE × TE)} (hu : X.A.units + 80 < cLine) (hp : PPs X pos [some k] [v] trs) : PE X (.Dict [some k] [v] pos) (tFD1 trs) := by
  intro pins s σ H Q I h
  refine wpAny_Dict_any rfl rfl (by simp) (by show 1 ≤ 15; decide) ?_
  have hsys := (dk_empty (P := X.prog) (w := X.w) (H := upd H s.heap.objs.size (.dK [])) s.heap I.big).2.1
  have I1 := I.laid (a := s.heap.objs.size) (o := FDic s.heap.objs.size []) (h' := s.heap.push { cls := .type "dict", data := .dict #[] }) (t' := s.toks) (fun _ _ q => Heap.get?_push_of_some _ q) (Nat.le_refl _) (fdic_new hsys .nil (Heap.DictOfH.new s.heap))
  refine thn (hp pins _ σ _ _ I1 (h _ (I.hok.fresh (Nat.le_refl _)))) fun vs s1 ⟨ps, H2, I2, vv, F, b, n, eps, hb, hd, q⟩ => ?_
  subst eps
  obtain ⟨⟨w1, w2⟩, ws⟩ : ∃ p : Value × Value, vs = [p] ∧ RelV (.ref b) p.1 ∧ RelV (.int n) p.2 := by
    cases vv with
    | cons r t => cases t; exact ⟨_, rfl, r.1, r.2⟩
  obtain ⟨rfl, r1, t, r2⟩ := ws
  obtain rfl : w1 = Value.ref b := r1
  dsimp only at r2
  subst r2
  obtain ⟨hs, ys, hr, hm⟩ := FKeys.dict I2 hd (FKeys.mk (fun x hx => (by cases hx)) List.nodup_nil)
  cases hr
  unfold storeAll
  rw [List.forIn_cons]
  have hroom : (fieldKind X.prog X.w).room X.A := by
    show X.A.units + 64 < cLine
    omega
  refine wpAny_bind (wpAny_bind (wpAny_dictSet_heap (hsz := by decide) hroom (key_isF I2 hb) hm fun h' hm' hsb => wpAny_pure ?_))
  show wpAny _ _ (forIn ([] : List (Value × Value)) PUnit.unit _) _ _ _
  rw [List.forIn_nil]
  refine wpAny_pure ?_
  rw [storedH_new rfl] at hm'
  have ho' : ∃ q, h'.get? s.heap.objs.size = some q := let ⟨q, _, _, hq, _⟩ := hm'; ⟨q, hq⟩
  exact ⟨.ref s.heap.objs.size, _, d_write I2 (by rw [hd]; exact True.intro) hsb ho' (fdic_new hs (.cons .nil) hm'), rfl, q⟩
end
theorem hu80 {k : Nat} {A : Around} (r : Room k A) : A.units + 80 < cLine := by have := r.un; omega
end L2
namespace L2
open PySem PySem.Spec PyProof.Rows
end L2
namespace L2
open PySem PySem.Spec PyProof.Rows
def cyc (x : List Int) (k : Int) : Int := x.getD (k % x.length).toNat 0
theorem cyc_mod (x : List Int) (k : Int) : cyc x (k % x.length) = cyc x k := by unfold cyc; rw [Int.emod_emod]
theorem cyc_nat {x : List Int} {j : Nat} (h : j < x.length) : cyc x (j : Int) = x[j] := by
  unfold cyc
  rw [Int.emod_eq_of_lt (by omega) (by omega), Int.toNat_natCast, List.getD_eq_getElem?_getD, List.getElem?_eq_getElem h]
  rfl
theorem cyc_ext {x y : List Int} (hl : x.length = y.length) (h : ∀ k, cyc x k = cyc y k) : x = y :=
  List.ext_getElem hl fun j h1 h2 => by rw [← cyc_nat h1, ← cyc_nat h2, h]
def mv (b : Int) (x : List Int) : List Int := x.drop (x.length - (b % x.length).toNat) ++ x.take (x.length - (b % x.length).toNat)
theorem mv_len (b : Int) (x : List Int) : (mv b x).length = x.length := by
  unfold mv
  rw [List.length_append, List.length_drop, List.length_take]
  omega
theorem cyc_mv (b : Int) (x : List Int) (k : Int) : cyc (mv b x) k = cyc x (k - b) := by
  by_cases z : x.length = 0
  · obtain rfl := List.length_eq_zero_iff.mp z
    unfold mv cyc
    simp
  have hn : (0 : Int) < x.length := by omega
  unfold cyc
  rw [mv_len, Int.sub_emod]
  have k0 := Int.emod_nonneg k (show (x.length : Int) ≠ 0 by omega)
  have k1 := Int.emod_lt_of_pos k hn
  have b0 := Int.emod_nonneg b (show (x.length : Int) ≠ 0 by omega)
  have b1 := Int.emod_lt_of_pos b hn
  unfold mv
  generalize k % (x.length : Int) = t at k0 k1 ⊢
  generalize b % (x.length : Int) = r at b0 b1 ⊢
  rw [List.getD_eq_getElem?_getD, List.getD_eq_getElem?_getD, List.getElem?_append, List.length_drop]
  by_cases h : t < r
  · have e : (t - r) % (x.length : Int) = t - r + x.length := by
      rw [← Int.add_emod_right, Int.emod_eq_of_lt (by omega) (by omega)]
    rw [if_pos (by omega), List.getElem?_drop, e]
    congr 2
    omega
  · have e : (t - r) % (x.length : Int) = t - r := Int.emod_eq_of_lt (by omega) (by omega)
    rw [if_neg (by omega), List.getElem?_take, if_pos (by omega), e]
    congr 2
    omega
theorem mv_mv (a b : Int) (x : List Int) : mv a (mv b x) = mv (a + b) x :=
  cyc_ext (by rw [mv_len, mv_len, mv_len]) fun k => by rw [cyc_mv, cyc_mv, cyc_mv]; congr 1; omega
theorem mv_zero (x : List Int) : mv 0 x = x := cyc_ext (mv_len _ _) fun k => by rw [cyc_mv, Int.sub_zero]
theorem mv_all (x : List Int) : mv x.length x = x := cyc_ext (mv_len _ _) fun k => by
  rw [cyc_mv, ← cyc_mod, Int.sub_emod_right, cyc_mod]
def Calm (x : List Int) : Prop := ∀ k, cyc x k = cyc x (k - 1) ∨ cyc x k = cyc x (k + 1)
theorem Calm.mv {x : List Int} (h : Calm x) (b : Int) : Calm (mv b x) := fun k => by
  rw [cyc_mv, cyc_mv, cyc_mv]
  rcases h (k - b) with e | e
  · left; rw [e]; congr 1; omega
  · right; rw [e]; congr 1; omega
def two3 (a b c m : Int) : Prop := (a = m ∧ b = m) ∨ (a = m ∧ c = m) ∨ (b = m ∧ c = m)
theorem mid3 {p q r m a b : Int} (h : two3 p q r m) (hp : placeOf 3 a b = 1) : manieth [p, q, r] a b = some m := by
  unfold manieth
  rw [show (placeOf [p, q, r].length a b).toNat = 1 by show (placeOf 3 a b).toNat = 1; rw [hp]; rfl]
  have hl : 1 < (sortI [p, q, r]).length := by rw [sortI_len]; show 1 < 3; decide
  have c1 : ∀ v : Int, ((sortI [p, q, r]).countP fun x => decide (x ≤ v)) = [p, q, r].countP fun x => decide (x ≤ v) := fun v => (sortI_perm _).countP_eq _
  have c2 := fun v => rise_count (sortI_rise [p, q, r]) hl v
  rw [List.getElem?_eq_getElem hl]
  congr 1
  generalize (sortI [p, q, r])[1] = x at c2
  have h1 := (c2 m).mpr (by
    rw [c1, List.countP_cons, List.countP_cons, List.countP_cons, List.countP_nil]
    rcases h with ⟨rfl, rfl⟩ | ⟨rfl, rfl⟩ | ⟨rfl, rfl⟩ <;> simp <;> omega)
  have h2 := (c2 x).mp (Int.le_refl _)
  rw [c1, List.countP_cons, List.countP_cons, List.countP_cons, List.countP_nil] at h2
  rcases Int.lt_or_eq_of_le h1 with z | z
  · exfalso
    have nm : decide (m ≤ x) = false := decide_eq_false (by omega)
    rcases h with ⟨rfl, rfl⟩ | ⟨rfl, rfl⟩ | ⟨rfl, rfl⟩ <;> rw [nm] at h2 <;> simp at h2 <;> split at h2 <;> omega
  · exact z
structure Smooth (y x : List Int) : Prop where
  len : y.length = x.length
  at_ : ∀ k, two3 (cyc y (k - 1)) (cyc y k) (cyc y (k + 1)) (cyc x k)
theorem Calm.smooth {x : List Int} (h : Calm x) : Smooth x x := ⟨rfl, fun k => by
  rcases h k with e | e
  · exact Or.inl ⟨e.symm, rfl⟩
  · exact Or.inr (Or.inr ⟨rfl, e.symm⟩)⟩
def rowsF (xs : List (List Int)) : List (List (Option Int)) := xs.map fun r => r.map some
theorem rowsF_len (xs : List (List Int)) : (rowsF xs).length = xs.length := List.length_map _
theorem rowsF_inj {xs ys : List (List Int)} (h : rowsF xs = rowsF ys) : xs = ys := by
  have inj : ∀ a b : List Int, a.map some = b.map some → a = b := fun a b e => List.map_inj_right (fun _ _ e => Option.some.inj e) |>.mp e
  exact List.map_inj_right (fun a b e => inj a b e) |>.mp h
structure Rows (xs : List (List Int)) (h w : Nat) : Prop where
  len : xs.length = h
  row : ∀ r ∈ xs, r.length = w
  h1 : 1 ≤ h
  hs : h ≤ 1000
  w1 : 1 ≤ w
  ws : w ≤ 1000
theorem Rows.wide {xs : List (List Int)} {h w : Nat} (R : Rows xs h w) : ((rowsF xs).headD []).length = w := by
  obtain ⟨rfl, row, h1, _, _, _⟩ := R
  cases xs with
  | nil => simp at h1
  | cons r xs => exact (List.length_map _).trans (row r List.mem_cons_self)
theorem Rows.rect {xs : List (List Int)} {h w : Nat} (R : Rows xs h w) : Rect (rowsF xs) := by
  have e := R.wide
  refine ⟨by rw [rowsF_len, R.len]; exact R.h1, by rw [rowsF_len, R.len]; exact R.hs, by rw [e]; exact R.w1, by rw [e]; exact R.ws, fun r hr => ?_⟩
  obtain ⟨r', hr', rfl⟩ := List.mem_map.mp hr
  rw [e, List.length_map]; exact R.row r' hr'
theorem stands_ring {xs : List (List Int)} {h w : Nat} (R : Rows xs h w) {i : Nat} (hi : i < xs.length) (j : Int) : stands (rowsF xs) .round (i : Int) j = [some (cyc xs[i] j)] := by
  have hw : xs[i].length = w := R.row _ (List.getElem_mem _)
  have w1 := R.w1
  rw [stands_led (Or.inr (Or.inr rfl)), R.wide, rowsF_len]
  have e1 : led .round (i : Int) xs.length = (i : Int) := led_id .round (by omega) (by omega)
  rw [e1]
  show [cellAt (rowsF xs) (i : Int) (j % (w : Int))] = _
  have j0 := Int.emod_nonneg j (show (w : Int) ≠ 0 by omega)
  have j1 := Int.emod_lt_of_pos j (show (0 : Int) < w by omega)
  unfold cellAt rowsF
  rw [Int.toNat_natCast, List.getElem?_map, List.getElem?_eq_getElem hi]
  show [Option.join ((xs[i].map some)[(j % (w : Int)).toNat]?)] = _
  rw [List.getElem?_map]
  unfold cyc
  rw [hw, List.getD_eq_getElem?_getD, List.getElem?_eq_getElem (by omega)]
  rfl
theorem nums_ring {xs : List (List Int)} {h w : Nat} (R : Rows xs h w) {i : Nat} (hi : i < xs.length) (j : Int) {l r : Nat} (hlr : l + r = 2) : numsAt (rowsF xs) .round 0 0 l r (i : Int) j = [cyc xs[i] (j - l), cyc xs[i] (j - l + 1), cyc xs[i] (j - l + 2)] := by
  unfold numsAt wc rowCells
  rw [hlr]
  have e : ∀ k : Int, stands (rowsF xs) .round ((i : Int) - ((0 : Nat) : Int) + ((0 : Nat) : Int)) k = [some (cyc xs[i] k)] := fun k => by
    rw [show (i : Int) - ((0 : Nat) : Int) + ((0 : Nat) : Int) = (i : Int) by omega]
    exact stands_ring R hi k
  rw [show List.range (0 + 0 + 1) = [0] from rfl, show List.range (2 + 1) = [0, 1, 2] from rfl]
  simp only [List.flatMap_cons, List.flatMap_nil, List.append_nil, e]
  simp
theorem fil_ring {ys xs : List (List Int)} {h w : Nat} (R : Rows ys h w) (R' : Rows xs h w) (hs : ∀ (i : Nat) (y x : List Int), ys[i]? = some y → xs[i]? = some x → Smooth y x) {a b : Int} (hp : placeOf 3 a b = 1) {l r : Nat} (hlr : l + r = 2) :
    fil (rowsF ys) .round 0 0 l r a b = rowsF (xs.map (mv ((l : Int) - 1))) := by
  refine List.ext_getElem? fun i => ?_
  by_cases hi : i < ys.length
  · have hi' : i < xs.length := by rw [R'.len, ← R.len]; exact hi
    rw [fil_row (by rw [rowsF_len]; exact hi)]
    unfold rowsF
    rw [List.getElem?_map, List.getElem?_map, List.getElem?_eq_getElem hi']
    show some _ = some ((mv ((l : Int) - 1) xs[i]).map some)
    congr 1
    have S := hs i ys[i] xs[i] (List.getElem?_eq_getElem hi) (List.getElem?_eq_getElem hi')
    have lx : xs[i].length = w := R'.row _ (List.getElem_mem _)
    have ew : wideF (rowsF ys) = w := R.wide
    refine List.ext_getElem (by rw [List.length_map, List.length_map, List.length_range, mv_len, lx]; exact ew) fun j h1 h2 => ?_
    rw [List.getElem_map, List.getElem_map, List.getElem_range]
    show filAt (rowsF ys) .round 0 0 l r a b (i : Int) (j : Int) = _
    unfold filAt
    rw [nums_ring R hi _ hlr]
    have h3 : j < (mv ((l : Int) - 1) xs[i]).length := by rw [List.length_map] at h2; exact h2
    rw [← cyc_nat h3, cyc_mv]
    have := S.at_ ((j : Int) - l + 1)
    rw [show (j : Int) - l + 1 - 1 = (j : Int) - l by omega, show (j : Int) - l + 1 + 1 = (j : Int) - l + 2 by omega] at this
    rw [mid3 this hp]
    congr 2
    omega
  · rw [List.getElem?_eq_none (by rw [fil_len, rowsF_len]; omega), List.getElem?_eq_none (by rw [rowsF_len, List.length_map, R'.len, ← R.len]; omega)]
structure Ring (xs : List (List Int)) (n : Nat) : Prop where
  pos : 1 ≤ n
  eq : xs.map (mv (n : Int)) = xs
  nd : ∀ k : Nat, 1 ≤ k → k < n → xs.map (mv (k : Int)) ≠ xs
theorem map_mv (a b : Int) (xs : List (List Int)) : (xs.map (mv b)).map (mv a) = xs.map (mv (a + b)) := by
  rw [List.map_map]
  exact List.map_congr_left fun x _ => mv_mv a b x
theorem map_mv0 (xs : List (List Int)) : xs.map (mv 0) = xs := by
  rw [List.map_congr_left (g := id) fun x _ => mv_zero x, List.map_id]
theorem Ring.more {xs : List (List Int)} {n : Nat} (R : Ring xs n) {s : Int} (hs : s = 1 ∨ s = -1) (t : Int) : xs.map (mv (s * (t + n))) = xs.map (mv (s * t)) := by
  have e1 : xs.map (mv (s * n)) = xs := by
    rcases hs with rfl | rfl
    · rw [Int.one_mul]; exact R.eq
    · have := congrArg (fun z => z.map (mv (-1 * (n : Int)))) R.eq
      simp only [map_mv] at this
      rw [show (-1 : Int) * n + n = 0 by omega, map_mv0] at this
      exact this.symm
  have := congrArg (fun z => z.map (mv (s * t))) e1
  simp only [map_mv] at this
  rw [← Int.mul_add] at this
  exact this
theorem Ring.apart {xs : List (List Int)} {n : Nat} (R : Ring xs n) {s : Int} (hs : s = 1 ∨ s = -1) {i j : Nat} (h1 : i < j) (h2 : j < i + n) : xs.map (mv (s * (i : Int))) ≠ xs.map (mv (s * (j : Int))) := fun e => by
  refine R.nd (j - i) (by omega) (by omega) ?_
  rcases hs with rfl | rfl
  · have := congrArg (fun z => z.map (mv (-(i : Int)))) e
    simp only [map_mv] at this
    rw [show -(i : Int) + 1 * (i : Int) = 0 by omega, map_mv0, show -(i : Int) + 1 * (j : Int) = ((j - i : Nat) : Int) by omega] at this
    exact this.symm
  · have := congrArg (fun z => z.map (mv (j : Int))) e
    simp only [map_mv] at this
    rw [show (j : Int) + -1 * (j : Int) = 0 by omega, map_mv0, show (j : Int) + -1 * (i : Int) = ((j - i : Nat) : Int) by omega] at this
    exact this
theorem cyc_more (x : List Int) (k c : Int) : cyc x (k + c * x.length) = cyc x k := by
  unfold cyc
  rw [Int.add_mul_emod_self_right]
def Lin (x : List Int) : Prop := ∀ (j : Nat) (v : Int), x[j]? = some v → (1 ≤ j ∧ x[j - 1]? = some v) ∨ x[j + 1]? = some v
theorem Lin.nil : Lin [] := fun j v h => by simp at h
theorem Lin.more {x : List Int} (h : Lin x) {n : Nat} (hn : 2 ≤ n) (v : Int) : Lin (x ++ List.replicate n v) := fun j u e => by
  rw [List.getElem?_append] at e
  by_cases z : j < x.length
  · rw [if_pos z] at e
    rcases h j u e with ⟨h1, h2⟩ | h2
    · left
      rw [List.getElem?_append, if_pos (by omega)]
      exact ⟨h1, h2⟩
    · right
      have : j + 1 < x.length := (List.getElem?_eq_some_iff.mp h2).1
      rw [List.getElem?_append, if_pos this]
      exact h2
  · rw [if_neg z, List.getElem?_replicate] at e
    by_cases y : j - x.length < n
    · rw [if_pos y] at e
      obtain rfl := Option.some.inj e
      by_cases w : j = x.length
      · right
        rw [List.getElem?_append, if_neg (by omega), List.getElem?_replicate, if_pos (by omega)]
      · left
        rw [List.getElem?_append, if_neg (by omega), List.getElem?_replicate, if_pos (by omega)]
        exact ⟨by omega, rfl⟩
    · rw [if_neg y] at e; cases e
theorem Lin.calm {x : List Int} (h : Lin x) : Calm x := fun k => by
  by_cases z : x.length = 0
  · obtain rfl := List.length_eq_zero_iff.mp z
    left; unfold cyc; simp
  have k0 := Int.emod_nonneg k (show (x.length : Int) ≠ 0 by omega)
  have k1 := Int.emod_lt_of_pos k (show (0 : Int) < x.length by omega)
  have ek := Int.emod_add_mul_ediv k x.length
  obtain ⟨j, ej⟩ : ∃ j : Nat, k % x.length = j := ⟨(k % x.length).toNat, by omega⟩
  rw [ej] at ek k0 k1
  generalize k / (x.length : Int) = c at ek
  rw [Int.mul_comm] at ek
  have hj : j < x.length := by omega
  have e0 : cyc x k = x[j] := by rw [← ek, cyc_more, cyc_nat hj]
  rw [e0]
  rcases h j _ (List.getElem?_eq_getElem hj) with ⟨h1, h2⟩ | h2
  · left
    obtain ⟨h3, h4⟩ := List.getElem?_eq_some_iff.mp h2
    rw [show k - 1 = ((j - 1 : Nat) : Int) + c * x.length by omega, cyc_more, cyc_nat h3]
    exact h4.symm
  · right
    obtain ⟨h3, h4⟩ := List.getElem?_eq_some_iff.mp h2
    rw [show k + 1 = ((j + 1 : Nat) : Int) + c * x.length by omega, cyc_more, cyc_nat h3]
    exact h4.symm
structure Amid (x : List Int) (p : Nat) : Prop where
  lt : p < x.length
  at_ : ∀ j : Int, (j = -2 ∨ j = -1 ∨ j = 1 ∨ j = 2) → cyc x ((p : Int) + j) = cyc x (p : Int)
theorem cyc_set (x : List Int) (p : Nat) (o : Int) (h : p < x.length) (k : Int) : cyc (x.set p o) k = if k % x.length = p then o else cyc x k := by
  unfold cyc
  rw [List.length_set, List.getD_eq_getElem?_getD, List.getD_eq_getElem?_getD, List.getElem?_set]
  have k0 := Int.emod_nonneg k (show (x.length : Int) ≠ 0 by omega)
  by_cases z : k % (x.length : Int) = p
  · rw [if_pos z, if_pos (by omega), if_pos h]; rfl
  · rw [if_neg z, if_neg (by omega)]
theorem cyc_set_at {x : List Int} {p : Nat} (o : Int) (h : p < x.length) (t : Int) (h0 : -(x.length : Int) < t) (h1 : t < x.length) : cyc (x.set p o) ((p : Int) + t) = if t = 0 then o else cyc x ((p : Int) + t) := by
  rw [cyc_set x p o h]
  by_cases z : t = 0
  · subst z
    rw [if_pos rfl, if_pos (by rw [Int.add_zero]; exact Int.emod_eq_of_lt (by omega) (by omega))]
  · rw [if_neg z, if_neg fun e => z ?_]
    have e2 : ((p : Int) + t - p) % (x.length : Int) = 0 := by
      rw [Int.sub_emod, e, Int.emod_eq_of_lt (show (0 : Int) ≤ p by omega) (by omega), Int.sub_self, Int.zero_emod]
    rw [show (p : Int) + t - p = t by omega] at e2
    obtain ⟨c, hc⟩ := Int.dvd_of_emod_eq_zero e2
    rcases Int.lt_trichotomy c 0 with q | q | q
    · have : (x.length : Int) * c ≤ (x.length : Int) * (-1) := Int.mul_le_mul_of_nonneg_left (by omega) (by omega)
      omega
    · rw [q, Int.mul_zero] at hc; exact hc
    · have : (x.length : Int) * 1 ≤ (x.length : Int) * c := Int.mul_le_mul_of_nonneg_left (by omega) (by omega)
      omega
theorem Amid.smooth {x : List Int} {p : Nat} (A : Amid x p) (hw : 4 ≤ x.length) (C : Calm x) (o : Int) : Smooth (x.set p o) x := by
  refine ⟨List.length_set .., fun k => ?_⟩
  have k0 := Int.emod_nonneg (k - p) (show (x.length : Int) ≠ 0 by omega)
  have k1 := Int.emod_lt_of_pos (k - p) (show (0 : Int) < x.length by omega)
  have ek := Int.emod_add_mul_ediv (k - p) x.length
  generalize (k - p) % (x.length : Int) = t at ek k0 k1
  generalize (k - p) / (x.length : Int) = c at ek
  rw [Int.mul_comm] at ek
  have m : ∀ (e : Int), cyc (x.set p o) (k + e) = cyc (x.set p o) ((p : Int) + (t + e)) := fun e => by
    rw [show k + e = (p : Int) + (t + e) + c * (x.set p o).length by rw [List.length_set]; omega, cyc_more]
  have mx : ∀ (e : Int), cyc x (k + e) = cyc x ((p : Int) + (t + e)) := fun e => by
    rw [show k + e = (p : Int) + (t + e) + c * x.length by omega, cyc_more]
  have m2 : ∀ t' : Int, t' = t ∨ t' = t - x.length → ∀ e, cyc (x.set p o) (k + e) = cyc (x.set p o) ((p : Int) + (t' + e)) := fun t' ht e => by
    rw [m]
    rcases ht with rfl | rfl
    · rfl
    · rw [show (p : Int) + (t + e) = (p : Int) + (t - x.length + e) + 1 * (x.set p o).length by rw [List.length_set]; omega, cyc_more]
  have mx2 : ∀ t' : Int, t' = t ∨ t' = t - x.length → ∀ e, cyc x (k + e) = cyc x ((p : Int) + (t' + e)) := fun t' ht e => by
    rw [mx]
    rcases ht with rfl | rfl
    · rfl
    · rw [show (p : Int) + (t + e) = (p : Int) + (t - x.length + e) + 1 * x.length by omega, cyc_more]
  have am := A.at_
  have hp := A.lt
  show two3 (cyc (x.set p o) (k + -1)) _ _ _
  rw [show cyc (x.set p o) k = cyc (x.set p o) (k + 0) by rw [Int.add_zero], show cyc x k = cyc x (k + 0) by rw [Int.add_zero]]
  by_cases z0 : t = 0
  · have g := m2 0 (.inl z0.symm)
    have gx := mx2 0 (.inl z0.symm)
    rw [g, g, g, gx, cyc_set_at o hp _ (by omega) (by omega), cyc_set_at o hp _ (by omega) (by omega), cyc_set_at o hp _ (by omega) (by omega), if_neg (by decide), if_neg (show ¬ (0 : Int) + 1 = 0 by decide)]
    exact Or.inr (Or.inl ⟨(am _ (by decide)).trans (by rw [Int.add_zero, Int.add_zero]), (am _ (by decide)).trans (by rw [Int.add_zero, Int.add_zero])⟩)
  by_cases z1 : t = 1
  · have g := m2 1 (.inl z1.symm)
    have gx := mx2 1 (.inl z1.symm)
    rw [g, g, g, gx, cyc_set_at o hp (1 + 0) (by omega) (by omega), cyc_set_at o hp (1 + 1) (by omega) (by omega), if_neg (by decide), if_neg (by decide)]
    exact Or.inr (Or.inr ⟨rfl, (am _ (by decide)).trans (am (1 + 0) (by decide)).symm⟩)
  by_cases z2 : t = x.length - 1
  · have g := m2 (-1) (.inr (by omega))
    have gx := mx2 (-1) (.inr (by omega))
    rw [g, g, g, gx, cyc_set_at o hp (-1 + -1) (by omega) (by omega), cyc_set_at o hp (-1 + 0) (by omega) (by omega), if_neg (by decide), if_neg (by decide)]
    exact Or.inl ⟨(am (-1 + -1) (by decide)).trans (am (-1 + 0) (by decide)).symm, rfl⟩
  · rw [m, m, m, cyc_set_at o hp (t + -1) (by omega) (by omega), cyc_set_at o hp (t + 0) (by omega) (by omega), cyc_set_at o hp (t + 1) (by omega) (by omega), if_neg (by omega), if_neg (by omega), if_neg (by omega), ← mx, ← mx, ← mx]
    have := C.smooth.at_ k
    rw [show k - 1 = k + -1 by omega, show cyc x k = cyc x (k + 0) by rw [Int.add_zero]] at this
    exact this
theorem Amid.not_calm {x : List Int} {p : Nat} (A : Amid x p) (hw : 4 ≤ x.length) {o : Int} (ho : o ≠ cyc x p) : ¬ Calm (x.set p o) := fun C => by
  have hp := A.lt
  have e0 : cyc (x.set p o) (p : Int) = o := by
    have := cyc_set_at o hp 0 (by omega) (by omega)
    rw [if_pos rfl, Int.add_zero] at this
    exact this
  rcases C (p : Int) with e | e
  · rw [e0, show (p : Int) - 1 = (p : Int) + -1 by omega, cyc_set_at o hp (-1) (by omega) (by omega), if_neg (by decide), A.at_ _ (by decide)] at e
    exact ho e
  · rw [e0, cyc_set_at o hp 1 (by omega) (by omega), if_neg (by decide), A.at_ _ (by decide)] at e
    exact ho e
end L2
namespace L2
open PySem PySem.Spec PyProof.Rows
def farI (c : Bool) (h : Nat) (i : Int) : Int := if c then (h : Int) - 1 - i else i
def letV (lo hi : Int) (t : Nat) (p q : Int) : Int := if p < 0 ∨ q < 0 ∨ p + q < t then hi else lo
def letF (lo hi : Int) (h w : Nat) (c0 c1 : Bool) (t : Nat) : List (List Int) := (List.range h).map fun i : Nat => (List.range w).map fun j : Nat => letV lo hi t (farI c0 h i) (farI c1 w j)
theorem letF_rows (lo hi : Int) {h w : Nat} (c0 c1 : Bool) (t : Nat) (h1 : 1 ≤ h) (hs : h ≤ 1000) (w1 : 1 ≤ w) (ws : w ≤ 1000) : Rows (letF lo hi h w c0 c1 t) h w := by
  refine ⟨by unfold letF; simp, fun r hr => ?_, h1, hs, w1, ws⟩
  obtain ⟨i, _, rfl⟩ := List.mem_map.mp hr
  simp
theorem letF_get {lo hi : Int} {h w : Nat} {c0 c1 : Bool} {t : Nat} {i : Nat} (hi' : i < h) : (letF lo hi h w c0 c1 t)[i]? = some ((List.range w).map fun j : Nat => letV lo hi t (farI c0 h i) (farI c1 w j)) := by
  unfold letF
  rw [List.getElem?_map, List.getElem?_range hi']; rfl
theorem letF_at {lo hi : Int} {h w : Nat} {c0 c1 : Bool} {t : Nat} {i j : Int} (i0 : 0 ≤ i) (i1 : i < h) (j0 : 0 ≤ j) (j1 : j < w) : cellAt (rowsF (letF lo hi h w c0 c1 t)) i j = some (letV lo hi t (farI c0 h i) (farI c1 w j)) := by
  unfold cellAt rowsF
  rw [List.getElem?_map, letF_get (by omega)]
  show Option.join ((((List.range w).map fun j : Nat => letV lo hi t (farI c0 h i.toNat) (farI c1 w j)).map some)[j.toNat]?) = _
  rw [List.getElem?_map, List.getElem?_map, List.getElem?_range (by omega)]
  show some (letV lo hi t (farI c0 h (i.toNat : Int)) (farI c1 w (j.toNat : Int))) = _
  rw [Int.toNat_of_nonneg i0, Int.toNat_of_nonneg j0]
def Nigh (c : Bool) (h : Nat) (i : Int) : Prop := (0 ≤ i ∧ i < h) ∨ farI c h i < 0
theorem stands_let {lo hi : Int} {h w : Nat} (c0 c1 : Bool) (t : Nat) (h1 : 1 ≤ h) (hs : h ≤ 1000) (w1 : 1 ≤ w) (ws : w ≤ 1000) {i j : Int} (hi' : Nigh c0 h i) (hj : Nigh c1 w j) :
    stands (rowsF (letF lo hi h w c0 c1 t)) (.told (some hi)) i j = [some (letV lo hi t (farI c0 h i) (farI c1 w j))] := by
  have R := letF_rows lo hi c0 c1 t h1 hs w1 ws
  by_cases z : inF (rowsF (letF lo hi h w c0 c1 t)) i j = true
  · rw [stands_in _ z]
    unfold inF at z
    rw [rowsF_len, R.len, R.wide] at z
    simp only [Bool.and_eq_true, decide_eq_true_eq] at z
    rw [letF_at z.1.1 z.1.2 z.2.1 z.2.2]
  · unfold stands
    rw [if_neg z]
    show [some hi] = _
    unfold inF at z
    rw [rowsF_len, R.len, R.wide] at z
    simp only [Bool.and_eq_true, decide_eq_true_eq] at z
    unfold letV
    rw [if_pos]
    rcases hi' with a | a
    · rcases hj with b | b
      · exact absurd ⟨⟨a.1, a.2⟩, b.1, b.2⟩ z
      · exact Or.inr (Or.inl b)
    · exact Or.inl a
theorem quad_lo {lo hi a b : Int} {ns : List Int} (hl : ns.length = 4) (hm : ∀ x ∈ ns, x = lo ∨ x = hi) (h : lo < hi) (hp : placeOf 4 a b = 1) : manieth ns a b = some (if 2 ≤ ns.countP (fun x => decide (x ≤ lo)) then lo else hi) := by
  unfold manieth
  rw [hl, hp]
  have l4 : 1 < (sortI ns).length := by rw [sortI_len, hl]; decide
  have c := rise_count (sortI_rise ns) l4 lo
  rw [(sortI_perm ns).countP_eq] at c
  show (sortI ns)[1]? = _
  rw [List.getElem?_eq_getElem l4]
  congr 1
  have me := hm _ (mem_sortI.mp (List.getElem_mem l4))
  by_cases z : 2 ≤ ns.countP (fun x => decide (x ≤ lo))
  · rw [if_pos z]
    have := c.mpr z
    omega
  · rw [if_neg z]
    have : ¬ (sortI ns)[1] ≤ lo := fun e => z (c.mp e)
    omega
theorem quad_hi {lo hi a b : Int} {ns : List Int} (hl : ns.length = 4) (hm : ∀ x ∈ ns, x = lo ∨ x = hi) (h : hi < lo) (hp : placeOf 4 a b = 2) : manieth ns a b = some (if 3 ≤ ns.countP (fun x => decide (x ≤ hi)) then hi else lo) := by
  unfold manieth
  rw [hl, hp]
  have l4 : 2 < (sortI ns).length := by rw [sortI_len, hl]; decide
  have c := rise_count (sortI_rise ns) l4 hi
  rw [(sortI_perm ns).countP_eq] at c
  show (sortI ns)[2]? = _
  rw [List.getElem?_eq_getElem l4]
  congr 1
  have me := hm _ (mem_sortI.mp (List.getElem_mem l4))
  by_cases z : 3 ≤ ns.countP (fun x => decide (x ≤ hi))
  · rw [if_pos z]
    have := c.mpr z
    omega
  · rw [if_neg z]
    have : ¬ (sortI ns)[2] ≤ hi := fun e => z (c.mp e)
    omega
theorem quad_eq {lo a b : Int} {ns : List Int} (hl : ns.length = 4) (hm : ∀ x ∈ ns, x = lo) (hp : Share a b) : manieth ns a b = some lo := by
  obtain ⟨_, e⟩ := manieth_some hp (ns := ns) (fun e => by rw [e] at hl; cases hl)
  rw [e]
  congr 1
  exact hm _ (mem_sortI.mp (List.getElem_mem _))
def letS (lo hi : Int) : Int × Int := if hi < lo then (2, 3) else (1, 2)
theorem letV_two (lo hi : Int) (t : Nat) (p q : Int) : letV lo hi t p q = lo ∨ letV lo hi t p q = hi := by
  unfold letV
  split
  · exact Or.inr rfl
  · exact Or.inl rfl
theorem letV_lo {lo hi : Int} (h : lo < hi) (t : Nat) (p q : Int) : decide (letV lo hi t p q ≤ lo) = !decide (p < 0 ∨ q < 0 ∨ p + q < t) := by
  unfold letV
  by_cases z : p < 0 ∨ q < 0 ∨ p + q < t
  · rw [if_pos z, decide_eq_true z, decide_eq_false (by omega)]; rfl
  · rw [if_neg z, decide_eq_false z, decide_eq_true (by omega)]; rfl
theorem letV_hi {lo hi : Int} (h : hi < lo) (t : Nat) (p q : Int) : decide (letV lo hi t p q ≤ hi) = decide (p < 0 ∨ q < 0 ∨ p + q < t) := by
  unfold letV
  by_cases z : p < 0 ∨ q < 0 ∨ p + q < t
  · rw [if_pos z, decide_eq_true z, decide_eq_true (by omega)]
  · rw [if_neg z, decide_eq_false z, decide_eq_false (by omega)]
theorem four_let {lo hi : Int} (t : Nat) {p q : Int} (hp : 0 ≤ p) (hq : 0 ≤ q) {ns : List Int} (hn : ns.Perm [letV lo hi t (p - 1) (q - 1), letV lo hi t (p - 1) q, letV lo hi t p (q - 1), letV lo hi t p q]) : manieth ns (letS lo hi).1 (letS lo hi).2 = some (letV lo hi (t + 1) p q) := by
  rw [manieth_congr hn]
  have hm : ∀ x ∈ [letV lo hi t (p - 1) (q - 1), letV lo hi t (p - 1) q, letV lo hi t p (q - 1), letV lo hi t p q], x = lo ∨ x = hi := fun x hx => by
    simp only [List.mem_cons, List.not_mem_nil, or_false] at hx
    rcases hx with rfl | rfl | rfl | rfl <;> exact letV_two ..
  unfold letS
  rcases Int.lt_trichotomy lo hi with h | h | h
  · rw [if_neg (by omega), quad_lo rfl hm h rfl]
    congr 1
    simp only [List.countP_cons, List.countP_nil, letV_lo h]
    unfold letV
    by_cases z : p + q < ((t + 1 : Nat) : Int)
    · rw [if_pos (show p < 0 ∨ q < 0 ∨ p + q < ((t + 1 : Nat) : Int) from Or.inr (Or.inr z))]
      rw [decide_eq_true (show p - 1 < 0 ∨ q - 1 < 0 ∨ p - 1 + (q - 1) < (t : Int) by omega), decide_eq_true (show p - 1 < 0 ∨ q < 0 ∨ p - 1 + q < (t : Int) by omega), decide_eq_true (show p < 0 ∨ q - 1 < 0 ∨ p + (q - 1) < (t : Int) by omega)]
      cases decide (p < 0 ∨ q < 0 ∨ p + q < (t : Int)) <;> rfl
    · rw [if_neg (show ¬ (p < 0 ∨ q < 0 ∨ p + q < ((t + 1 : Nat) : Int)) by omega)]
      rw [decide_eq_false (show ¬ (p < 0 ∨ q < 0 ∨ p + q < (t : Int)) by omega)]
      by_cases y : p = 0
      · rw [decide_eq_false (show ¬ (p < 0 ∨ q - 1 < 0 ∨ p + (q - 1) < (t : Int)) by omega)]
        cases decide (p - 1 < 0 ∨ q - 1 < 0 ∨ p - 1 + (q - 1) < (t : Int)) <;> cases decide (p - 1 < 0 ∨ q < 0 ∨ p - 1 + q < (t : Int)) <;> rfl
      · rw [decide_eq_false (show ¬ (p - 1 < 0 ∨ q < 0 ∨ p - 1 + q < (t : Int)) by omega)]
        cases decide (p - 1 < 0 ∨ q - 1 < 0 ∨ p - 1 + (q - 1) < (t : Int)) <;> cases decide (p < 0 ∨ q - 1 < 0 ∨ p + (q - 1) < (t : Int)) <;> rfl
  · subst h
    rw [if_neg (by omega), quad_eq (lo := lo) rfl (fun x hx => (hm x hx).elim id id) ⟨by decide, by decide, by decide, by decide⟩]
    exact congrArg some ((letV_two lo lo (t + 1) p q).elim Eq.symm Eq.symm)
  · rw [if_pos h, quad_hi rfl hm h rfl]
    congr 1
    simp only [List.countP_cons, List.countP_nil, letV_hi h]
    unfold letV
    by_cases z : p + q < ((t + 1 : Nat) : Int)
    · rw [if_pos (show p < 0 ∨ q < 0 ∨ p + q < ((t + 1 : Nat) : Int) from Or.inr (Or.inr z))]
      rw [decide_eq_true (show p - 1 < 0 ∨ q - 1 < 0 ∨ p - 1 + (q - 1) < (t : Int) by omega), decide_eq_true (show p - 1 < 0 ∨ q < 0 ∨ p - 1 + q < (t : Int) by omega), decide_eq_true (show p < 0 ∨ q - 1 < 0 ∨ p + (q - 1) < (t : Int) by omega)]
      cases decide (p < 0 ∨ q < 0 ∨ p + q < (t : Int)) <;> rfl
    · rw [if_neg (show ¬ (p < 0 ∨ q < 0 ∨ p + q < ((t + 1 : Nat) : Int)) by omega)]
      rw [decide_eq_false (show ¬ (p < 0 ∨ q < 0 ∨ p + q < (t : Int)) by omega)]
      by_cases y : p = 0
      · rw [decide_eq_false (show ¬ (p < 0 ∨ q - 1 < 0 ∨ p + (q - 1) < (t : Int)) by omega)]
        cases decide (p - 1 < 0 ∨ q - 1 < 0 ∨ p - 1 + (q - 1) < (t : Int)) <;> cases decide (p - 1 < 0 ∨ q < 0 ∨ p - 1 + q < (t : Int)) <;> rfl
      · rw [decide_eq_false (show ¬ (p - 1 < 0 ∨ q < 0 ∨ p - 1 + q < (t : Int)) by omega)]
        cases decide (p - 1 < 0 ∨ q - 1 < 0 ∨ p - 1 + (q - 1) < (t : Int)) <;> cases decide (p < 0 ∨ q - 1 < 0 ∨ p + (q - 1) < (t : Int)) <;> rfl
def cN (c : Bool) : Nat := if c then 1 else 0
theorem fil_let {lo hi : Int} {h w : Nat} (c0 c1 : Bool) (t : Nat) (h1 : 1 ≤ h) (hs : h ≤ 1000) (w1 : 1 ≤ w) (ws : w ≤ 1000) :
    fil (rowsF (letF lo hi h w c0 c1 t)) (.told (some hi)) (1 - cN c0) (cN c0) (1 - cN c1) (cN c1) (letS lo hi).1 (letS lo hi).2 = rowsF (letF lo hi h w c0 c1 (t + 1)) := by
  have R := letF_rows lo hi c0 c1 t h1 hs w1 ws
  have ew : wideF (rowsF (letF lo hi h w c0 c1 t)) = w := R.wide
  unfold fil
  rw [rowsF_len, R.len, ew]
  unfold rowsF
  conv => rhs; unfold letF
  rw [List.map_map]
  refine List.map_congr_left fun i hi' => ?_
  have i1 := List.mem_range.mp hi'
  show _ = ((List.range w).map fun j : Nat => letV lo hi (t + 1) (farI c0 h i) (farI c1 w j)).map some
  rw [List.map_map]
  refine List.map_congr_left fun j hj => ?_
  have j1 := List.mem_range.mp hj
  show filAt (rowsF (letF lo hi h w c0 c1 t)) _ _ _ _ _ _ _ _ _ = some _
  unfold filAt
  refine four_let t (by unfold farI; split <;> omega) (by unfold farI; split <;> omega) ?_
  have st := fun (a b : Int) (ha : Nigh c0 h a) (hb : Nigh c1 w b) => stands_let (lo := lo) (hi := hi) c0 c1 t h1 hs w1 ws ha hb
  unfold numsAt wc rowCells
  rw [show 1 - cN c0 + cN c0 + 1 = 2 by cases c0 <;> rfl, show 1 - cN c1 + cN c1 + 1 = 2 by cases c1 <;> rfl, show List.range 2 = [0, 1] from rfl]
  simp only [List.flatMap_cons, List.flatMap_nil, List.append_nil]
  rw [st _ _ ?_ ?_, st _ _ ?_ ?_, st _ _ ?_ ?_, st _ _ ?_ ?_]
  · simp only [List.cons_append, List.nil_append, List.filterMap_cons, List.filterMap_nil, id]
    have g0 : ∀ (c : Bool) (n : Nat) (k : Nat), farI c n ((k : Int) - ((1 - cN c : Nat) : Int) + ((0 : Nat) : Int)) = if c then farI c n k else farI c n k - 1 := fun c n k => by cases c <;> simp [farI, cN]
    have g1 : ∀ (c : Bool) (n : Nat) (k : Nat), farI c n ((k : Int) - ((1 - cN c : Nat) : Int) + ((1 : Nat) : Int)) = if c then farI c n k - 1 else farI c n k := fun c n k => by cases c <;> simp [farI, cN] <;> omega
    rw [g0, g0, g1, g1]
    generalize farI c0 h (i : Int) = p
    generalize farI c1 w (j : Int) = q
    cases c0 <;> cases c1
    · exact List.Perm.refl _
    · show List.Perm [letV lo hi t (p - 1) q, letV lo hi t (p - 1) (q - 1), letV lo hi t p q, letV lo hi t p (q - 1)] _
      generalize letV lo hi t (p - 1) q = x1; generalize letV lo hi t (p - 1) (q - 1) = x2; generalize letV lo hi t p q = x3; generalize letV lo hi t p (q - 1) = x4
      refine List.perm_iff_count.mpr fun x => ?_
      simp only [List.count_cons, List.count_nil]; omega
    · show List.Perm [letV lo hi t p (q - 1), letV lo hi t p q, letV lo hi t (p - 1) (q - 1), letV lo hi t (p - 1) q] _
      generalize letV lo hi t (p - 1) q = x1; generalize letV lo hi t (p - 1) (q - 1) = x2; generalize letV lo hi t p q = x3; generalize letV lo hi t p (q - 1) = x4
      refine List.perm_iff_count.mpr fun x => ?_
      simp only [List.count_cons, List.count_nil]; omega
    · show List.Perm [letV lo hi t p q, letV lo hi t p (q - 1), letV lo hi t (p - 1) q, letV lo hi t (p - 1) (q - 1)] _
      generalize letV lo hi t (p - 1) q = x1; generalize letV lo hi t (p - 1) (q - 1) = x2; generalize letV lo hi t p q = x3; generalize letV lo hi t p (q - 1) = x4
      refine List.perm_iff_count.mpr fun x => ?_
      simp only [List.count_cons, List.count_nil]; omega
  all_goals (cases c0 <;> cases c1 <;> unfold Nigh farI cN <;> simp <;> omega)
def lastL (lo hi : Int) (h w : Nat) : Nat := if lo = hi then 0 else h + w - 1
theorem letF_full {lo hi : Int} {h w : Nat} {c0 c1 : Bool} {t : Nat} (ht : lastL lo hi h w ≤ t) : letF lo hi h w c0 c1 (t + 1) = letF lo hi h w c0 c1 t := by
  unfold lastL at ht
  unfold letF
  refine List.map_congr_left fun i hi' => ?_
  refine List.map_congr_left fun j hj => ?_
  have i1 := List.mem_range.mp hi'
  have j1 := List.mem_range.mp hj
  by_cases z : lo = hi
  · subst z
    rw [(letV_two lo lo (t + 1) _ _).elim id id, (letV_two lo lo t _ _).elim id id]
  · rw [if_neg z] at ht
    unfold letV
    have a : farI c0 h i ≤ (h : Int) - 1 := by unfold farI; split <;> omega
    have b : farI c1 w j ≤ (w : Int) - 1 := by unfold farI; split <;> omega
    rw [if_pos (Or.inr (Or.inr (by omega))), if_pos (Or.inr (Or.inr (by omega)))]
theorem letF_apart {lo hi : Int} {h w : Nat} {c0 c1 : Bool} {t t' : Nat} (h1 : 1 ≤ h) (w1 : 1 ≤ w) (h2 : t < t') (h3 : t' ≤ lastL lo hi h w) : letF lo hi h w c0 c1 t ≠ letF lo hi h w c0 c1 t' := fun e => by
  unfold lastL at h3
  by_cases z : lo = hi
  · rw [if_pos z] at h3; omega
  · rw [if_neg z] at h3
    obtain ⟨p, q, hp, hq, e2⟩ : ∃ p q : Nat, p < h ∧ q < w ∧ p + q = t := ⟨min t (h - 1), t - min t (h - 1), by omega, by omega, by omega⟩
    obtain ⟨i, hi', ei⟩ : ∃ i : Nat, i < h ∧ farI c0 h i = p := by
      cases c0
      · exact ⟨p, hp, rfl⟩
      · exact ⟨h - 1 - p, by omega, by show (h : Int) - 1 - ((h - 1 - p : Nat) : Int) = p; omega⟩
    obtain ⟨j, hj, ej⟩ : ∃ j : Nat, j < w ∧ farI c1 w j = q := by
      cases c1
      · exact ⟨q, hq, rfl⟩
      · exact ⟨w - 1 - q, by omega, by show (w : Int) - 1 - ((w - 1 - q : Nat) : Int) = q; omega⟩
    have := congrArg (fun z => cellAt (rowsF z) (i : Int) (j : Int)) e
    rw [letF_at (by omega) (by omega) (by omega) (by omega), letF_at (by omega) (by omega) (by omega) (by omega), ei, ej] at this
    have := Option.some.inj this
    unfold letV at this
    rw [if_neg (by omega), if_pos (by omega)] at this
    exact z this
end L2
namespace L2
open PySem PySem.Spec PyProof.Rows
inductive Ls (N : Addr → Prop) (H : Hp) : List V → List (List Int) → Prop
  | nil : Ls N H [] []
  | cons {a : Addr} {x : List Int} {vs : List V} {xs : List (List Int)} : N a → H a = some (.lst (x.map V.int)) → Ls N H vs xs → Ls N H (.ref a :: vs) (x :: xs)
theorem Ls.keepN {N : Addr → Prop} {H H' : Hp} {vs : List V} {xs : List (List Int)} (h : Ls N H vs xs) (k : ∀ a x, N a → H a = some (.lst x) → H' a = some (.lst x)) : Ls N H' vs xs := by
  induction h with
  | nil => exact .nil
  | cons n e _ ih => exact .cons n (k _ _ n e) ih
theorem Ls.keep {N : Addr → Prop} {H H' : Hp} {vs : List V} {xs : List (List Int)} (h : Ls N H vs xs) (s : Same H H') : Ls N H' vs xs := h.keepN fun _ _ _ e => s _ _ e
theorem Ls.mono {N M : Addr → Prop} {H : Hp} {vs : List V} {xs : List (List Int)} (h : Ls N H vs xs) (k : ∀ a, N a → M a) : Ls M H vs xs := by
  induction h with
  | nil => exact .nil
  | cons n e _ ih => exact .cons (k _ n) e ih
theorem Ls.len {N : Addr → Prop} {H : Hp} {vs : List V} {xs : List (List Int)} (h : Ls N H vs xs) : vs.length = xs.length := by
  induction h with
  | nil => rfl
  | cons n e _ ih => rw [List.length_cons, List.length_cons, ih]
theorem Ls.app {N : Addr → Prop} {H : Hp} {vs ws : List V} {xs ys : List (List Int)} (h : Ls N H vs xs) (h' : Ls N H ws ys) : Ls N H (vs ++ ws) (xs ++ ys) := by
  induction h with
  | nil => exact h'
  | cons n e _ ih => exact .cons n e ih
theorem Ls.get {N : Addr → Prop} {H : Hp} {vs : List V} {xs : List (List Int)} (h : Ls N H vs xs) {i : Nat} {v : V} (e : vs[i]? = some v) : ∃ a x, v = .ref a ∧ xs[i]? = some x ∧ N a ∧ H a = some (.lst (x.map V.int)) := by
  induction h generalizing i with
  | nil => simp at e
  | cons n e' _ ih =>
    cases i with
    | zero => cases e; exact ⟨_, _, rfl, rfl, n, e'⟩
    | succ i => exact ih (by simpa using e)
theorem eqvAll_rows : ∀ xs ys : List (List Int), PyData.eqvAll (xs.map cellsL) (ys.map cellsL) = decide (xs = ys)
  | [], [] => by rw [List.map_nil, PyData.eqvAll, decide_eq_true rfl]
  | [], y :: ys => by rw [List.map_nil, List.map_cons, PyData.eqvAll, decide_eq_false (by simp)] <;> simp
  | x :: xs, [] => by rw [List.map_nil, List.map_cons, PyData.eqvAll, decide_eq_false (by simp)] <;> simp
  | x :: xs, y :: ys => by
    rw [List.map_cons, List.map_cons, PyData.eqvAll, eqv_cellsL, eqvAll_rows xs ys]
    by_cases z : x = y
    · by_cases w : xs = ys
      · rw [decide_eq_true z, decide_eq_true w, decide_eq_true (by rw [z, w])]; rfl
      · rw [decide_eq_true z, decide_eq_false w, decide_eq_false (fun e => w (List.cons.inj e).2)]; rfl
    · rw [decide_eq_false z, decide_eq_false (fun e => z (List.cons.inj e).1)]; rfl
theorem canLay_rowsL : ∀ xs : List (List Int), PyData.canLayAll0 (xs.map cellsL) = true
  | [] => rfl
  | x :: xs => by rw [List.map_cons, PyData.canLayAll0, (cellsL_ok x).1, canLay_rowsL xs]; rfl
theorem depth_rowsL : ∀ xs : List (List Int), PyData.depthAll (xs.map cellsL) ≤ 1
  | [] => by rw [List.map_nil]; exact Nat.zero_le _
  | x :: xs => by
    rw [List.map_cons, PyData.depthAll, (cellsL_ok x).2]
    have := depth_rowsL xs
    omega
theorem rows_reads {P : Program} {w : World} {H : Hp} {h : Heap} (I : HOk P w H h) {N : Addr → Prop} {p : Addr} {vs : List V} {xs : List (List Int)} (hp : H p = some (.lst vs)) (t : Ls N H vs xs) : ∃ as, Reads h (.ref p) (.list (xs.map cellsL)) as := by
  obtain ⟨ll, its, n, r, e⟩ := (show ObjOk P w H h p (.lst vs) from I p _ hp)
  have : ∃ as, ReadsAll h its (xs.map cellsL) as := by
    clear e hp ll
    induction t generalizing its with
    | nil => cases r; exact ⟨_, .nil⟩
    | cons n' e' _ ih =>
      cases r with
      | cons e1 r =>
        cases e1
        obtain ⟨bs, r2⟩ := ih _ r
        rw [ints_cells] at e'
        obtain ⟨as, r1⟩ := list_reads I e' (isCells _)
        exact ⟨_, .cons r1 r2⟩
  obtain ⟨as, r2⟩ := this
  exact ⟨_, .list e rfl rfl (by simpa using r2)⟩
def rNeRR : R2 := fun x y H Q => ∃ (N M : Addr → Prop) (p q : Addr) (vs ws : List V) (xs ys : List (List Int)), x = .ref p ∧ y = .ref q ∧ H p = some (.lst vs) ∧ H q = some (.lst ws) ∧ Ls N H vs xs ∧ Ls M H ws ys ∧ Q (.bl (!decide (xs = ys))) H
def rEqRR : R2 := fun x y H Q => ∃ (N M : Addr → Prop) (p q : Addr) (vs ws : List V) (xs ys : List (List Int)), x = .ref p ∧ y = .ref q ∧ H p = some (.lst vs) ∧ H q = some (.lst ws) ∧ Ls N H vs xs ∧ Ls M H ws ys ∧ Q (.bl (decide (xs = ys))) H
section
variable {X : Cx}
theorem op_neRR (hu : X.A.units + 64 < cLine) : OpR X (compareOp .NotEq) rNeRR := by
  intro pins s σ H x y v u Q I rx ry h
  obtain ⟨N, M, p, q, vs, ws, xs, ys, rfl, rfl, hp, hq, t1, t2, qq⟩ := h
  cases rx
  cases ry
  obtain ⟨as, r1⟩ := rows_reads I.hok hp t1
  obtain ⟨bs, r2⟩ := rows_reads I.hok hq t2
  refine PySem.SeqAt.compareNe_reads r1 r2 (canLay_rowsL xs) (canLay_rowsL ys) (unitsD hu (show PyData.depthAll (xs.map cellsL) + 1 ≤ 20 by have := depth_rowsL xs; omega)) ⟨.bl _, H, I, rfl, ?_⟩
  rw [PyData.eqv, eqvAll_rows]; exact qq
theorem op_eqRR (hu : X.A.units + 64 < cLine) : OpR X (compareOp .Eq) rEqRR := by
  intro pins s σ H x y v u Q I rx ry h
  obtain ⟨N, M, p, q, vs, ws, xs, ys, rfl, rfl, hp, hq, t1, t2, qq⟩ := h
  cases rx
  cases ry
  obtain ⟨as, r1⟩ := rows_reads I.hok hp t1
  obtain ⟨bs, r2⟩ := rows_reads I.hok hq t2
  refine PySem.SeqAt.compareEq_reads r1 r2 (canLay_rowsL xs) (canLay_rowsL ys) (unitsD hu (show PyData.depthAll (xs.map cellsL) + 1 ≤ 20 by have := depth_rowsL xs; omega)) ⟨.bl _, H, I, rfl, ?_⟩
  rw [PyData.eqv, eqvAll_rows]; exact qq
end
end L2
namespace L2
open PySem
variable {rest es : List Expr} {env : Env} {p : Pos} {a b c : Expr}
theorem star_tup {x} : starEach (Expr.Tuple es x p :: rest) env = (false, eval (.Tuple es x p) env) :: starEach rest env := by rfl
theorem star_lst : starEach (Expr.List es p :: rest) env = (false, eval (.List es p) env) :: starEach rest env := by rfl
theorem star_sub : starEach (Expr.Subscript a b p :: rest) env = (false, eval (.Subscript a b p) env) :: starEach rest env := by rfl
theorem star_call {ks} : starEach (Expr.Call a es ks p :: rest) env = (false, eval (.Call a es ks p) env) :: starEach rest env := by rfl
theorem star_bin {o} : starEach (Expr.BinOp a o b p :: rest) env = (false, eval (.BinOp a o b p) env) :: starEach rest env := by rfl
theorem star_un {o} : starEach (Expr.UnaryOp o a p :: rest) env = (false, eval (.UnaryOp o a p) env) :: starEach rest env := by rfl
theorem star_comp {g s} : starEach (Expr.ListComp a g s p :: rest) env = (false, eval (.ListComp a g s p) env) :: starEach rest env := by rfl
theorem star_cmp {o} : starEach (Expr.Compare a o es p :: rest) env = (false, eval (.Compare a o es p) env) :: starEach rest env := by rfl
end L2
namespace MwSort
open PySem PyProof.Rows
section
variable {prog : Program} {w : World} {A : Around} {E : Value → Shared → Prop} {s : Shared}
theorem sorted_few {p : Addr} {T : String} {o : Obj} {vs : List Value} {n : Nat} {ns : List Int} {Q : Value → Shared → Prop} (hT : T = "list" ∨ T = "tuple") (ho : s.heap.get? p = some o) (hc : o.cls = .type T) (hd : o.data = .seq vs.toArray n) (hI : IntsAre vs ns) (hz : vs.length < 64)
    (h : ∀ (h₁ h' : Heap) (t : Nat) (dr : Drawn) (D : Addr) (c : Nat) (out : List Value) (ms : List Int), (∀ b o, s.heap.get? b = some o → h₁.get? b = some o) → (∀ b o, h₁.get? b = some o → h'.get? b = some o) → h₁.objs.size ≤ D → h'.get? D = some (seqObj "list" out.toArray c) → IntsAre out ms → ms.Perm ns → ms.Pairwise (· ≤ ·) → Q (.ref D) { s with heap := h', toks := t, drawn := dr }) :
    wpAny (model prog w) A (call (.builtin "sorted") [.ref p]) Q E s := by
  have zl : vs.length ≤ sizeLine := Nat.le_trans (Nat.le_of_lt hz) (by decide)
  refine Calls.call_function_entry kind_sorted plain_sorted entry_sorted (args_sorted1 _) ?_
  unfold Builtin.«sorted»
  refine wpAny_bind (m := checkCount "sorted" 1 1 _) (wpAny_pure (wpAny_bind (wpAny_collect_seq p hT ho hc hd (fun h₁ hk => wpAny_bind (wpAny_newList ?_)) (by simpa using zl))))
  have g : (h₁.push (seqObj "list" vs.toArray 0)).get? h₁.objs.size = some (seqObj "list" vs.toArray 0) := Heap.get?_push_size _ rfl
  show wpAny _ _ _ _ _ { s with heap := h₁.push (seqObj "list" vs.toArray 0), toks := s.toks, drawn := s.drawn }
  refine wpAny_bind (wpAny_holding (wpAny_call_entry slot_list_sort ⟨_, g, rfl⟩ entry_list_sort (list_sort_tree g hI hz fun out ms i1 i2 i3 => ⟨_, rfl, ?_⟩) (args_list_sort _)))
  obtain ⟨c, gc⟩ := sortedHeap_at (vs := vs) (out := out) g
  exact wpAny_pure ⟨_, rfl, h h₁ _ s.toks s.drawn _ c out.toList ms hk (fun b o e => sortedHeap_keep (Nat.ne_of_lt (Heap.lt_size e)) (Heap.get?_push_of_some _ e)) (Nat.le_refl _) (by simpa using gc) i1 i2 i3⟩
end
end MwSort
namespace L2
open PySem PySem.Spec PyProof.Rows
section
variable {X : Cx}
def rSortedS : List V → Hp → VK → Prop := fun xs H Q => ∃ (p : Addr) (ns : List Int), xs = [.ref p] ∧ (H p = some (.tup (ns.map V.int)) ∨ H p = some (.lst (ns.map V.int))) ∧ ns.length < 64 ∧ ∀ l, H l = none → Q (.ref l) (upd H l (.lst ((sortI ns).map V.int)))
theorem call_sortedS : CallR X (.builtin "sorted") rSortedS := by
  intro pins s σ H xs us Q I r h
  obtain ⟨p, ns, rfl, hp, few, q⟩ := h
  obtain ⟨u, rfl, e⟩ := vals1 r
  obtain rfl : u = Value.ref p := e
  rcases hp with hp | hp
  · obtain ⟨z, its, rv, o, ho, hc, n, hd⟩ := (show ObjOk X.prog X.w H s.heap p (.tup (ns.map V.int)) from I.hok p _ hp)
    have hl := rv.length
    rw [List.length_map] at z hl
    exact MwSort.sorted_few (.inr rfl) ho hc hd (are_ints rv) (by omega) (I.sorted z q)
  · obtain ⟨z, its, n, rv, hg⟩ := (show ObjOk X.prog X.w H s.heap p (.lst (ns.map V.int)) from I.hok p _ hp)
    have hl := rv.length
    rw [List.length_map] at z hl
    exact MwSort.sorted_few (.inl rfl) hg rfl rfl (are_ints rv) (by omega) (I.sorted z q)
end
end L2
set_option maxHeartbeats 4000000
namespace Mw
open PySem L2
def top (i : Nat) : Stmt := PySem.Challenge.pw_midwindow_k26_rows_that_go_round.main.body.getD i (.Pass ⟨0, 0, 0, 0⟩)
abbrev s_is_inside : Stmt := top 1
theorem sc_is_inside : FnScope ["field", "i", "j"] ["field", "i", "j"] (defScope s_is_inside) := ⟨rfl, rfl, rfl, by decide +kernel, rfl, by decide +kernel, by decide +kernel⟩
abbrev s_brought_inside : Stmt := top 2
theorem sc_brought_inside : FnScope ["rule", "place", "length", "there"] ["rule", "place", "length"] (defScope s_brought_inside) := ⟨rfl, rfl, rfl, by decide +kernel, rfl, by decide +kernel, by decide +kernel⟩
abbrev s_stands_at : Stmt := top 3
theorem sc_stands_at : FnScope ["field", "rule", "i", "j", "row"] ["field", "rule", "i", "j"] (defScope s_stands_at) := ⟨rfl, rfl, rfl, by decide +kernel, rfl, by decide +kernel, by decide +kernel⟩
abbrev s_places_around : Stmt := top 4
theorem sc_places_around : FnScope ["place", "ahead", "behind"] ["place", "ahead", "behind"] (defScope s_places_around) := ⟨rfl, rfl, rfl, by decide +kernel, rfl, by decide +kernel, by decide +kernel⟩
abbrev s_window_cells : Stmt := top 5
theorem sc_window_cells : FnScope ["field", "window", "rule", "i", "j", "columns", "cells", "row", "column"] ["field", "window", "rule", "i", "j"] (defScope s_window_cells) := ⟨rfl, rfl, rfl, by decide +kernel, rfl, by decide +kernel, by decide +kernel⟩
abbrev s_place_by_share : Stmt := top 7
theorem sc_place_by_share : FnScope ["how_many", "share"] ["how_many", "share"] (defScope s_place_by_share) := ⟨rfl, rfl, rfl, by decide +kernel, rfl, by decide +kernel, by decide +kernel⟩
abbrev s_so_manieth : Stmt := top 8
theorem sc_so_manieth : FnScope ["numbers", "share"] ["numbers", "share"] (defScope s_so_manieth) := ⟨rfl, rfl, rfl, by decide +kernel, rfl, by decide +kernel, by decide +kernel⟩
abbrev s_without_holes : Stmt := top 9
theorem sc_without_holes : FnScope ["cells"] ["cells"] (defScope s_without_holes) := ⟨rfl, rfl, rfl, by decide +kernel, rfl, by decide +kernel, by decide +kernel⟩
abbrev s_told_of_cells : Stmt := top 10
theorem sc_told_of_cells : FnScope ["cells", "share"] ["cells", "share"] (defScope s_told_of_cells) := ⟨rfl, rfl, rfl, by decide +kernel, rfl, by decide +kernel, by decide +kernel⟩
abbrev s_filtered : Stmt := top 11
theorem sc_filtered : FnScope ["field", "window", "rule", "share", "rows", "i", "row", "j"] ["field", "window", "rule", "share"] (defScope s_filtered) := ⟨rfl, rfl, rfl, by decide +kernel, rfl, by decide +kernel, by decide +kernel⟩
abbrev s_come_again : Stmt := top 13
theorem sc_come_again : FnScope ["field", "times", "ring"] ["field", "times", "ring"] (defScope s_come_again) := ⟨rfl, rfl, rfl, by decide +kernel, rfl, by decide +kernel, by decide +kernel⟩
abbrev s_again : Stmt := top 14
theorem sc_again : FnScope ["field", "window", "rule", "share", "most", "now", "times_of", "times"] ["field", "window", "rule", "share", "most"] (defScope s_again) := ⟨rfl, rfl, rfl, by decide +kernel, rfl, by decide +kernel, by decide +kernel⟩
abbrev s_law_deck : Stmt := top 16
theorem sc_law_deck : FnScope ["script"] ["script"] (defScope s_law_deck) := ⟨rfl, rfl, rfl, by decide +kernel, rfl, by decide +kernel, by decide +kernel⟩
abbrev s_law_draw : Stmt := top 17
theorem sc_law_draw : FnScope ["deck", "most", "cells", "at", "found", "turn", "number", "one"] ["deck", "most"] (defScope s_law_draw) := ⟨rfl, rfl, rfl, by decide +kernel, rfl, by decide +kernel, by decide +kernel⟩
abbrev s_law_number : Stmt := top 18
theorem sc_law_number : FnScope ["deck", "kind"] ["deck", "kind"] (defScope s_law_number) := ⟨rfl, rfl, rfl, by decide +kernel, rfl, by decide +kernel, by decide +kernel⟩
abbrev s_law_same : Stmt := top 23
theorem sc_law_same : FnScope ["found", "due"] ["found", "due"] (defScope s_law_same) := ⟨rfl, rfl, rfl, by decide +kernel, rfl, by decide +kernel, by decide +kernel⟩
abbrev s_law_runs : Stmt := top 24
theorem sc_law_runs : FnScope ["deck", "width", "two", "row", "at", "size"] ["deck", "width"] (defScope s_law_runs) := ⟨rfl, rfl, rfl, by decide +kernel, rfl, by decide +kernel, by decide +kernel⟩
abbrev s_law_moved : Stmt := top 25
theorem sc_law_moved : FnScope ["rows", "by", "found", "row", "cut"] ["rows", "by"] (defScope s_law_moved) := ⟨rfl, rfl, rfl, by decide +kernel, rfl, by decide +kernel, by decide +kernel⟩
abbrev s_law_field_of : Stmt := top 26
theorem sc_law_field_of : FnScope ["rows", "turned"] ["rows", "turned"] (defScope s_law_field_of) := ⟨rfl, rfl, rfl, by decide +kernel, rfl, by decide +kernel, by decide +kernel⟩
abbrev s_law_with_lone : Stmt := top 27
theorem sc_law_with_lone : FnScope ["deck", "rows", "found", "row", "many", "amid", "at", "other"] ["deck", "rows"] (defScope s_law_with_lone) := ⟨rfl, rfl, rfl, by decide +kernel, rfl, by decide +kernel, by decide +kernel⟩
abbrev s_law_due : Stmt := top 28
theorem sc_law_due : FnScope ["first", "rows", "by", "ring", "most", "turned", "ahead"] ["first", "rows", "by", "ring", "most", "turned"] (defScope s_law_due) := ⟨rfl, rfl, rfl, by decide +kernel, rfl, by decide +kernel, by decide +kernel⟩
abbrev s_law_let_in : Stmt := top 29
theorem sc_law_let_in : FnScope ["deck", "low", "high", "height", "width", "corner", "window"] ["deck"] (defScope s_law_let_in) := ⟨rfl, rfl, rfl, by decide +kernel, rfl, by decide +kernel, by decide +kernel⟩
abbrev s_law_let_in_by : Stmt := top 30
theorem sc_law_let_in_by : FnScope ["low", "high", "size", "corner", "times", "rows", "i", "far", "row", "j"] ["low", "high", "size", "corner", "times"] (defScope s_law_let_in_by) := ⟨rfl, rfl, rfl, by decide +kernel, rfl, by decide +kernel, by decide +kernel⟩
abbrev s_law_late_still_right : Stmt := top 31
theorem sc_law_late_still_right : FnScope ["deck", "low", "high", "size", "corner", "window", "share", "field", "last", "most", "due"] ["deck"] (defScope s_law_late_still_right) := ⟨rfl, rfl, rfl, by decide +kernel, rfl, by decide +kernel, by decide +kernel⟩
abbrev s_law : Stmt := top 32
theorem sc_law : FnScope ["script", "deck", "turn", "width", "rows", "ring", "below", "share", "turned", "by", "window", "first", "field", "last", "most", "due"] ["script"] (defScope s_law) := ⟨rfl, rfl, rfl, by decide +kernel, rfl, by decide +kernel, by decide +kernel⟩
structure Txt (K : PySem.W.Frag) (mg : Str → Option Value) : Prop where
  d_is_inside : Raw K mg "is_inside" ["field", "i", "j"] s_is_inside
  d_brought_inside : Raw K mg "brought_inside" ["rule", "place", "length"] s_brought_inside
  d_stands_at : Raw K mg "stands_at" ["field", "rule", "i", "j"] s_stands_at
  d_places_around : Raw K mg "places_around" ["place", "ahead", "behind"] s_places_around
  d_window_cells : Raw K mg "window_cells" ["field", "window", "rule", "i", "j"] s_window_cells
  d_place_by_share : Raw K mg "place_by_share" ["how_many", "share"] s_place_by_share
  d_so_manieth : Raw K mg "so_manieth" ["numbers", "share"] s_so_manieth
  d_without_holes : Raw K mg "without_holes" ["cells"] s_without_holes
  d_told_of_cells : Raw K mg "told_of_cells" ["cells", "share"] s_told_of_cells
  d_filtered : Raw K mg "filtered" ["field", "window", "rule", "share"] s_filtered
  d_come_again : Raw K mg "come_again" ["field", "times", "ring"] s_come_again
  d_again : Raw K mg "again" ["field", "window", "rule", "share", "most"] s_again
  d_law_deck : Raw K mg "_law_deck" ["script"] s_law_deck
  d_law_draw : Raw K mg "_law_draw" ["deck", "most"] s_law_draw
  d_law_number : Raw K mg "_law_number" ["deck", "kind"] s_law_number
  d_law_same : Raw K mg "_law_same" ["found", "due"] s_law_same
  d_law_runs : Raw K mg "_law_runs" ["deck", "width"] s_law_runs
  d_law_moved : Raw K mg "_law_moved" ["rows", "by"] s_law_moved
  d_law_field_of : Raw K mg "_law_field_of" ["rows", "turned"] s_law_field_of
  d_law_with_lone : Raw K mg "_law_with_lone" ["deck", "rows"] s_law_with_lone
  d_law_due : Raw K mg "_law_due" ["first", "rows", "by", "ring", "most", "turned"] s_law_due
  d_law_let_in : Raw K mg "_law_let_in" ["deck"] s_law_let_in
  d_law_let_in_by : Raw K mg "_law_let_in_by" ["low", "high", "size", "corner", "times"] s_law_let_in_by
  d_law_late_still_right : Raw K mg "_law_late_still_right" ["deck"] s_law_late_still_right
  d_law : Raw K mg "law" ["script"] s_law
  n_len : mg "len" = none
  n_sum : mg "sum" = none
  n_max : mg "max" = none
  n_min : mg "min" = none
  n_abs : mg "abs" = none
  n_tuple : mg "tuple" = none
  n_list : mg "list" = none
  n_int : mg "int" = none
  n_bool : mg "bool" = none
  n_str : mg "str" = none
  n_isinstance : mg "isinstance" = none
  n_range : mg "range" = none
  n_sorted : mg "sorted" = none
  n_zip : mg "zip" = none
section
variable {P : Program} {w : World} {K : PySem.W.Frag} {mg : Str → Option Value} {base : Heap}
theorem pickI {x : Int} {ms : List Int} (x0 : 0 ≤ x) (x1 : x < ms.length) : ∃ m : Int, atI (ms.map V.int) x = some (.int m) ∧ m ∈ ms := by
  obtain ⟨v, e3, e4⟩ := atI_mem (xs := ms.map V.int) x0 (by rw [List.length_map]; exact x1)
  obtain ⟨m, hm, rfl⟩ := List.mem_map.mp e4
  exact ⟨m, e3, hm⟩
theorem cut_take (xs : List V) (k : Nat) : cutV xs none (some (k : Int)) = xs.take k := by
  unfold cutV
  rw [HT.sIx_nat]
  show (xs.drop 0).take (min k xs.length - 0) = _
  rw [List.drop_zero, Nat.sub_zero]
  rcases Nat.le_total k xs.length with z | z
  · rw [Nat.min_eq_left z]
  · rw [Nat.min_eq_right z, List.take_of_length_le (Nat.le_refl _), List.take_of_length_le z]
def spPlaceBy (K : PySem.W.Frag) : Sp := fun vs H Q _ => ∃ (n : Nat) (sv : V) (a b : Int), vs = [.int n, sv] ∧ Shr K H sv a b ∧ Share a b ∧ Q (.int (placeOf n a b)) H
theorem df_place_by_share (T : Txt K mg) : Df P w K mg base 1 "place_by_share" ["how_many", "share"] (spPlaceBy K) := by
  refine T.d_place_by_share.ok sc_place_by_share (fun vs H Q E h => ?_) (fun f cdv A outer s H vs Q E hr h => ?_)
  · obtain ⟨n, sv, a, b, rfl, _⟩ := h
    rfl
  · obtain ⟨n, sv, a, b, rfl, hs, ⟨s1, s2, s3, s4⟩, q⟩ := h
    obtain ⟨sa, rfl, hsa⟩ := hs
    refine ⟨_, (@pss_one _ _ _ (@ps_ret _ _ _ _ (@pe_op _ _ _ _ _ _ _ _ op_fdivB (@pe_op _ _ _ _ _ _ _ _ op_mul (@pe_ix _ _ _ _ _ _ _ (ix_seqK (K := K) rfl) (pv 1) pe_int (fun _ _ => rfl)) (@pe_op _ _ _ _ _ _ _ _ op_sub (pv 0) pe_int)) (@pe_ix _ _ _ _ _ _ _ (ix_seqK (K := K) rfl) (pv 1) pe_int (fun _ _ => rfl))))), ?_⟩
    refine ⟨_, rfl, Or.inr (Or.inl ⟨_, _, _, _, rfl, rfl, shr_sq hsa, rfl, _, rfl, _, _, rfl, rfl, _, _, rfl, rfl, Or.inl ⟨by show -(2 ^ 64) < a; omega, by show a < 2 ^ 64; omega⟩, ?_⟩)⟩
    exact ⟨_, rfl, Or.inr (Or.inl ⟨_, _, _, _, rfl, rfl, shr_sq hsa, rfl, _, _, rfl, rfl, ⟨by show 0 < b; omega, by show b < 2 ^ 62; omega⟩, q⟩)⟩
def spManieth (K : PySem.W.Frag) : Sp := fun vs H Q _ => ∃ (p : Addr) (sv : V) (ns : List Int) (a b : Int), vs = [.ref p, sv] ∧ SeqV H p (ns.map V.int) ∧ ns.length < 64 ∧ Shr K H sv a b ∧ Share a b ∧ ∀ H', Same H H' → Q (cellV (manieth ns a b)) H'
theorem df_so_manieth (T : Txt K mg) : Df P w K mg base 2 "so_manieth" ["numbers", "share"] (spManieth K) := by
  refine T.d_so_manieth.ok sc_so_manieth (fun vs H Q E h => ?_) (fun f cdv A outer s H vs Q E hr h => ?_)
  · obtain ⟨p, sv, ns, a, b, rfl, _⟩ := h
    rfl
  · obtain ⟨p, sv, ns, a, b, rfl, hp, few, hs, hS, q⟩ := h
    refine ⟨_, (@pss_cons _ _ _ _ _ (@ps_if _ _ _ _ _ _ _ _ (@pt_cmpR _ _ _ _ _ _ _ _ (op_eqA hr.units) (@pe_callB _ _ _ _ _ _ _ _ _ (call_lenK (K := K) rfl) (by rfl) T.n_len bt_len (@pa_cons _ _ _ _ _ (pv 0) pa_nil (by rfl)) (by decide) (by decide) (by rfl) (by rfl)) pe_int (nomark _)) (@pss_one _ _ _ (@ps_ret _ _ _ _ pe_non)) pss_nil)
      (@pss_one _ _ _ (@ps_ret _ _ _ _ (@pe_ix _ _ _ _ _ _ _ (ix_seqK (K := K) rfl) (@pe_callB _ _ _ _ _ _ _ _ _ call_sortedS (by rfl) T.n_sorted bt_sorted (@pa_cons _ _ _ _ _ (pv 0) pa_nil (by rfl)) (by decide) (by decide) (by rfl) (by rfl)) (@pe_df _ _ _ _ _ _ _ _ _ _ (df_place_by_share T) (hr.mono (by decide)) (@pa_cons _ _ _ _ _ (@pe_callB _ _ _ _ _ _ _ _ _ (call_lenK (K := K) rfl) (by rfl) T.n_len bt_len (@pa_cons _ _ _ _ _ (pv 0) pa_nil (by rfl)) (by decide) (by decide) (by rfl) (by rfl)) (@pa_cons _ _ _ _ _ (pv 1) pa_nil (by rfl)) star_call) (by rfl) (by decide) (by rfl) (by rfl)) (fun _ _ => rfl))))), ?_⟩
    refine ⟨_, rfl, _, _, rfl, hp.len, Or.inl ⟨rfl, _, rfl, ?_⟩⟩
    refine ite2 (fun z => ?_) (fun z => ?_)
    · have e : ns = [] := by
        have z' : V.int (((ns.map V.int).length : Nat) : Int) = V.int 0 := of_decide_eq_true z
        have z2 : (((ns.map V.int).length : Nat) : Int) = 0 := V.int.inj z'
        rw [List.length_map] at z2
        exact List.length_eq_zero_iff.mp (by omega)
      subst e
      have := q H (Same.refl H)
      rw [manieth_nil] at this
      exact this
    · have e : ns ≠ [] := fun e => by subst e; exact z (by decide)
      refine ⟨_, rfl, p, ns, rfl, hp, few, fun l hl => ?_⟩
      have sl := same_upd (o := .lst ((sortI ns).map V.int)) hl
      refine ⟨_, rfl, _, _, rfl, (hp.same sl).len, _, rfl, _, _, a, b, rfl, hs.keep sl.tups, hS, ?_⟩
      obtain ⟨hlt, em⟩ := manieth_some hS e
      have hl1 : 1 ≤ ns.length := by
        cases ns with
        | nil => exact absurd rfl e
        | cons x l => simp
      have pb := place_bounds hS hl1
      have el : (ns.map V.int).length = ns.length := List.length_map ..
      rw [el]
      have en : (((placeOf ns.length a b).toNat : Nat) : Int) = placeOf ns.length a b := Int.toNat_of_nonneg pb.1
      generalize hx : (sortI ns)[(placeOf ns.length a b).toNat] = x at em
      refine Or.inl ⟨_, _, _, .int x, rfl, rfl, SqL.of upd_same, ?_, ?_⟩
      · rw [← en]
        refine atI_nat ?_
        rw [List.getElem?_map, List.getElem?_eq_getElem hlt, hx]
        rfl
      · have := q _ sl
        rw [em] at this
        exact this
def spInside : Sp := fun vs H Q _ => ∃ (fv : V) (F : List (List (Option Int))) (i j : Int), vs = [fv, .int i, .int j] ∧ Rect F ∧ IsD H fv (fieldD F) ∧ Q (.bl (inF F i j)) H
theorem df_is_inside (T : Txt K mg) : Df P w K mg base 1 "is_inside" ["field", "i", "j"] spInside := by
  refine T.d_is_inside.ok sc_is_inside (fun vs H Q E h => ?_) (fun f cdv A outer s H vs Q E hr h => ?_)
  · obtain ⟨fv, F, i, j, rfl, _⟩ := h
    rfl
  · obtain ⟨fv, F, i, j, rfl, R, hf, q⟩ := h
    obtain ⟨a, xs, b, ys, rfl, ha, la, hb0, hb, lb⟩ := field_sizes R hf
    refine ⟨_, (@pss_one _ _ _ (@ps_ret _ _ _ _ (pe_and (pe_chain op_le op_lt pe_int (pv 1) (@pe_callB _ _ _ _ _ _ _ _ _ (call_lenK (K := K) rfl) (by rfl) T.n_len bt_len (@pa_cons _ _ _ _ _ (pv 0) pa_nil (by rfl)) (by decide) (by decide) (by rfl) (by rfl))) (pe_one (pe_chain op_le op_lt pe_int (pv 2) (@pe_callB _ _ _ _ _ _ _ _ _ (call_lenK (K := K) rfl) (by rfl) T.n_len bt_len (@pa_cons _ _ _ _ _ (@pe_ix _ _ _ _ _ _ _ (ix_seqK (K := K) rfl) (pv 0) pe_int (fun _ _ => rfl)) pa_nil star_sub) (by decide) (by decide) (by rfl) (by rfl))))))), ?_⟩
    refine ⟨_, rfl, _, _, rfl, rfl, _, rfl, ?_⟩
    unfold inF at q
    refine ite2 (fun z => ?_) (fun z => ?_)
    · refine ⟨_, rfl, _, _, rfl, Or.inr ⟨_, SqT.of ha, rfl⟩, _, _, rfl, rfl, _, rfl, ?_⟩
      refine ite2 (fun z2 => ?_) (fun z2 => ?_)
      · refine ⟨_, rfl, _, _, rfl, rfl, _, rfl, ?_⟩
        have e1 : (decide (0 ≤ i) && decide (i < (F.length : Int))) = true := by rw [z, ← la, z2]; rfl
        rw [e1, Bool.true_and] at q
        refine ite2 (fun z3 => ?_) (fun z3 => ?_)
        · refine ⟨_, rfl, Or.inr (Or.inl ⟨_, _, _, _, rfl, rfl, SqT.of ha, hb0, _, _, rfl, Or.inr ⟨_, SqT.of hb, rfl⟩, _, _, rfl, rfl, ?_⟩)⟩
          rw [z3, ← lb, Bool.true_and] at q
          exact q
        · rw [Bool.eq_false_iff.mpr z3, Bool.false_and] at q
          exact q
      · have e1 : (decide (0 ≤ i) && decide (i < (F.length : Int))) = false := by rw [← la, Bool.eq_false_iff.mpr z2, Bool.and_false]
        rw [e1, Bool.false_and] at q
        exact q
    · rw [Bool.eq_false_iff.mpr z, Bool.false_and, Bool.false_and] at q
      exact ⟨_, rfl, iteF q⟩
theorem minInt (i j : Int) : (if j < i then j else i) = min i j := by omega
theorem maxInt (i j : Int) : (if j > i then j else i) = max i j := by omega
theorem s_turned_near : ¬ (("turned" : Str) = "near") := by decide +kernel
theorem s_round_near : ¬ (("round" : Str) = "near") := by decide +kernel
theorem s_round_turned : ¬ (("round" : Str) = "turned") := by decide +kernel
theorem s_near_there : ¬ (("near" : Str) = "there") := by decide +kernel
theorem s_turned_there : ¬ (("turned" : Str) = "there") := by decide +kernel
theorem s_round_there : ¬ (("round" : Str) = "there") := by decide +kernel
theorem eqS {x y : Str} (h : x = y) : decide (V.str x = V.str y) = true := decide_eq_true (by rw [h])
theorem neS {x y : Str} (h : ¬ x = y) : decide (V.str x = V.str y) = false := decide_eq_false fun e => h (V.str.inj e)
def Led (r : Rule) (x : Str) : Prop := (r = .near ∧ x = "near") ∨ (r = .turned ∧ x = "turned") ∨ (r = .round ∧ x = "round")
def spBrought : Sp := fun vs H Q _ => ∃ (r : Rule) (x : Str) (p n : Int), vs = [.str x, .int p, .int n] ∧ Led r x ∧ 1 ≤ n ∧ n < 2 ^ 40 ∧ Q (.int (led r p n)) H
theorem df_brought_inside (T : Txt K mg) : Df P w K mg base 1 "brought_inside" ["rule", "place", "length"] spBrought := by
  refine T.d_brought_inside.ok sc_brought_inside (fun vs H Q E h => ?_) (fun f cdv A outer s H vs Q E hr h => ?_)
  · obtain ⟨r, x, p, n, rfl, _⟩ := h
    rfl
  · obtain ⟨r, x, p, n, rfl, hl, n1, n2, q⟩ := h
    refine ⟨_, (@pss_cons _ _ _ _ _ (@ps_if _ _ _ _ _ _ _ _ (@pt_cmpR _ _ _ _ _ _ _ _ (op_eqA hr.units) (pv 0) pe_str (nomark _)) (@pss_one _ _ _ (@ps_ret _ _ _ _ (@pe_callB _ _ _ _ _ _ _ _ _ (call_min2 rfl) (by rfl) T.n_min bt_min (@pa_cons _ _ _ _ _ (@pe_callB _ _ _ _ _ _ _ _ _ (call_max2 rfl) (by rfl) T.n_max bt_max (@pa_cons _ _ _ _ _ (pv 1) (@pa_cons _ _ _ _ _ pe_int pa_nil (by rfl)) (by rfl)) (by decide) (by decide) (by rfl) (by rfl)) (@pa_cons _ _ _ _ _ (@pe_op _ _ _ _ _ _ _ _ op_sub (pv 2) pe_int) pa_nil star_bin) star_call) (by decide) (by decide) (by rfl) (by rfl)))) pss_nil)
      (@pss_cons _ _ _ _ _ (@ps_if _ _ _ _ _ _ _ _ (@pt_cmpR _ _ _ _ _ _ _ _ (op_eqA hr.units) (pv 0) pe_str (nomark _)) (@pss_cons _ _ _ _ _ (@ps_set _ _ 3 _ _ _ _ sc_brought_inside.nd rfl (by first | exact Or.inl rfl | exact Or.inr rfl) (@pe_op _ _ _ _ _ _ _ _ op_mod (pv 1) (@pe_op _ _ _ _ _ _ _ _ op_mul pe_int (pv 2))) (by rfl) (by first | exact .inl rfl | exact .inr rfl))
      (@pss_one _ _ _ (@ps_ret _ _ _ _ (@pe_callB _ _ _ _ _ _ _ _ _ (call_min2 rfl) (by rfl) T.n_min bt_min (@pa_cons _ _ _ _ _ (pv 3) (@pa_cons _ _ _ _ _ (@pe_op _ _ _ _ _ _ _ _ op_sub (@pe_op _ _ _ _ _ _ _ _ op_sub (@pe_op _ _ _ _ _ _ _ _ op_mul pe_int (pv 2)) pe_int) (pv 3)) pa_nil star_bin) (by rfl)) (by decide) (by decide) (by rfl) (by rfl))))) pss_nil)
      (@pss_one _ _ _ (@ps_ret _ _ _ _ (@pe_op _ _ _ _ _ _ _ _ op_mod (pv 1) (pv 2)))))), ?_⟩
    rcases hl with ⟨rfl, rfl⟩ | ⟨rfl, rfl⟩ | ⟨rfl, rfl⟩
    · refine ⟨_, rfl, Or.inl ⟨rfl, _, rfl, ?_⟩⟩
      rw [eqS rfl]
      refine iteT ?_
      refine ⟨_, rfl, _, _, rfl, _, rfl, _, _, rfl, rfl, _, _, rfl, ?_⟩
      rw [minInt, maxInt]
      exact q
    · refine ⟨_, rfl, Or.inl ⟨rfl, _, rfl, ?_⟩⟩
      rw [neS s_turned_near]
      refine iteF ?_
      refine ⟨_, rfl, Or.inl ⟨rfl, _, rfl, ?_⟩⟩
      rw [eqS rfl]
      refine iteT ?_
      refine ⟨_, rfl, _, rfl, _, _, rfl, rfl, Or.inl ⟨by decide, by decide⟩, _, _, rfl, rfl, (by show (0 : Int) < 2 * n; omega), ?_⟩
      refine ⟨_, rfl, _, rfl, _, _, rfl, rfl, Or.inl ⟨by decide, by decide⟩, _, _, rfl, rfl, _, rfl, _, _, rfl, rfl, _, _, rfl, ?_⟩
      rw [minInt]
      exact q
    · refine ⟨_, rfl, Or.inl ⟨rfl, _, rfl, ?_⟩⟩
      rw [neS s_round_near]
      refine iteF ?_
      refine ⟨_, rfl, Or.inl ⟨rfl, _, rfl, ?_⟩⟩
      rw [neS s_round_turned]
      refine iteF ?_
      refine ⟨_, rfl, _, rfl, _, _, rfl, rfl, (by show (0 : Int) < n; omega), ?_⟩
      exact q
def spStandsAt : Sp := fun vs H Q _ => ∃ (fv rv : V) (F : List (List (Option Int))) (r : Rule) (i j : Int), vs = [fv, rv, .int i, .int j] ∧ Rect F ∧ IsD H fv (fieldD F) ∧ IsD H rv (ruleD r) ∧
  ∀ (p : Addr), H p = none → Q (.ref p) (upd H p (.tup ((stands F r i j).map cellV)))
theorem df_stands_at (T : Txt K mg) : Df P w K mg base 2 "stands_at" ["field", "rule", "i", "j"] spStandsAt := by
  refine T.d_stands_at.ok sc_stands_at (fun vs H Q E h => ?_) (fun f cdv A outer s H vs Q E hr h => ?_)
  · obtain ⟨fv, rv, F, r, i, j, rfl, _⟩ := h
    rfl
  · obtain ⟨fv, rv, F, r, i, j, rfl, R, hf, hru, q⟩ := h
    refine ⟨_, (@pss_cons _ _ _ _ _ (@ps_if _ _ _ _ _ _ _ _ (@pt_val _ _ _ (@pe_df _ _ _ _ _ _ _ _ _ _ (df_is_inside T) (hr.mono (by decide)) (@pa_cons _ _ _ _ _ (pv 0) (@pa_cons _ _ _ _ _ (pv 2) (@pa_cons _ _ _ _ _ (pv 3) pa_nil (by rfl)) (by rfl)) (by rfl)) (by rfl) (by decide) (by rfl) (by rfl)) (by intro _; rfl)) (@pss_one _ _ _ (@ps_ret _ _ _ _ (@pe_tup _ _ _ _ _ (@pa_cons _ _ _ _ _ (@pe_ix _ _ _ _ _ _ _ (ix_seqK (K := K) rfl) (@pe_ix _ _ _ _ _ _ _ (ix_seqK (K := K) rfl) (pv 0) (pv 2) (fun _ _ => rfl)) (pv 3) (fun _ _ => rfl)) pa_nil star_sub)))) pss_nil)
      (@pss_cons _ _ _ _ _ (@ps_if _ _ _ _ _ _ _ _ (@pt_cmpR _ _ _ _ _ _ _ _ (op_eqA hr.units) (pv 1) pe_str (nomark _)) (@pss_one _ _ _ (@ps_ret _ _ _ _ (@pe_tup _ _ _ _ _ pa_nil))) pss_nil)
      (@pss_cons _ _ _ _ _ (@ps_if _ _ _ _ _ _ _ _ (@pt_val _ _ _ (@pe_callB _ _ _ _ _ _ _ _ _ (call_isinstK (K := K) rfl) (by rfl) T.n_isinstance bt_isinstance (@pa_cons _ _ _ _ _ (pv 1) (@pa_cons _ _ _ _ _ (pe_bltn (v := .ty "tuple") (by rfl) T.n_tuple bt_tuple rfl) pa_nil (by rfl)) (by rfl)) (by decide) (by decide) (by rfl) (by rfl)) (by intro _; rfl)) (@pss_one _ _ _ (@ps_ret _ _ _ _ (@pe_tup _ _ _ _ _ (@pa_cons _ _ _ _ _ (@pe_ix _ _ _ _ _ _ _ (ix_seqK (K := K) rfl) (pv 1) pe_int (fun _ _ => rfl)) pa_nil star_sub)))) pss_nil)
      (@pss_cons _ _ _ _ _ (@ps_set _ _ 4 _ _ _ _ sc_stands_at.nd rfl (by first | exact Or.inl rfl | exact Or.inr rfl) (@pe_ix _ _ _ _ _ _ _ (ix_seqK (K := K) rfl) (pv 0) (@pe_df _ _ _ _ _ _ _ _ _ _ (df_brought_inside T) (hr.mono (by decide)) (@pa_cons _ _ _ _ _ (pv 1) (@pa_cons _ _ _ _ _ (pv 2) (@pa_cons _ _ _ _ _ (@pe_callB _ _ _ _ _ _ _ _ _ (call_lenK (K := K) rfl) (by rfl) T.n_len bt_len (@pa_cons _ _ _ _ _ (pv 0) pa_nil (by rfl)) (by decide) (by decide) (by rfl) (by rfl)) pa_nil star_call) (by rfl)) (by rfl)) (by rfl) (by decide) (by rfl) (by rfl)) (fun _ _ => rfl)) (by rfl) (by first | exact .inl rfl | exact .inr rfl))
      (@pss_one _ _ _ (@ps_ret _ _ _ _ (@pe_tup _ _ _ _ _ (@pa_cons _ _ _ _ _ (@pe_ix _ _ _ _ _ _ _ (ix_seqK (K := K) rfl) (pv 4) (@pe_df _ _ _ _ _ _ _ _ _ _ (df_brought_inside T) (hr.mono (by decide)) (@pa_cons _ _ _ _ _ (pv 1) (@pa_cons _ _ _ _ _ (pv 3) (@pa_cons _ _ _ _ _ (@pe_callB _ _ _ _ _ _ _ _ _ (call_lenK (K := K) rfl) (by rfl) T.n_len bt_len (@pa_cons _ _ _ _ _ (pv 4) pa_nil (by rfl)) (by decide) (by decide) (by rfl) (by rfl)) pa_nil star_call) (by rfl)) (by rfl)) (by rfl) (by decide) (by rfl) (by rfl)) (fun _ _ => rfl)) pa_nil star_sub)))))))), ?_⟩
    refine ⟨_, rfl, _, rfl, _, rfl, _, F, i, j, rfl, R, hf, _, rfl, ?_⟩
    unfold stands at q
    cases hin : inF F i j with
    | true =>
      refine iteT ?_
      rw [hin, if_pos rfl] at q
      unfold inF at hin
      simp only [Bool.and_eq_true, decide_eq_true_eq] at hin
      obtain ⟨a, xs, b, rr, rfl, ha, hab, hb, hbc, _⟩ := field_cell R hf hin.1.1 hin.1.2 hin.2.1 hin.2.2
      refine ⟨_, rfl, _, rfl, Or.inr (Or.inl ⟨_, _, _, _, rfl, rfl, SqT.of ha, hab, _, rfl, Or.inr (Or.inl ⟨_, _, _, _, rfl, rfl, SqT.of hb, hbc, (by show 1 ≤ sizeLine; decide), fun p hp => ?_⟩)⟩)⟩
      exact q p hp
    | false =>
      refine iteF ?_
      rw [hin, if_neg Bool.false_ne_true] at q
      cases r with
      | there =>
        have e := rule_str hru
        subst e
        refine ⟨_, rfl, Or.inl ⟨rfl, _, rfl, ?_⟩⟩
        rw [eqS rfl]
        refine iteT ?_
        exact ⟨(by show 0 ≤ sizeLine; decide), fun p hp => q p hp⟩
      | told c =>
        obtain ⟨a, xs, rfl, ha, hxs⟩ := hru.tuple_inv
        refine ⟨_, rfl, Or.inr ⟨_, _, hru, .str _, ⟨?_, by decide +kernel, ?_⟩, _, rfl, ?_⟩⟩
        · show PyData.canLayAll0 [.str "told", cellD c] = true
          rw [PyData.canLayAll0, PyData.canLayAll0, canLay_cell]
          decide +kernel
        · show PyData.depthAll [.str "told", cellD c] + 1 ≤ 20
          rw [PyData.depthAll, PyData.depthAll, depth_cell]
          decide
        refine iteF ?_
        refine ⟨_, rfl, _, _, _, _, rfl, Or.inl ⟨rfl, _, ha⟩, rfl, _, rfl, ?_⟩
        refine iteT ?_
        cases hxs with
        | cons h1 h2 =>
          cases h2 with
          | cons h3 h4 =>
            cases h4
            rw [IsD.cell_inv h3] at ha
            refine ⟨_, rfl, Or.inr (Or.inl ⟨_, _, _, _, rfl, rfl, SqT.of ha, rfl, (by show 1 ≤ sizeLine; decide), fun p hp => q p hp⟩)⟩
      | near => 
        have e := rule_str hru
        subst e
        obtain ⟨a, xs, b0, ys, e, ha, la, hb0, hb, lb⟩ := field_sizes R hf
        subst e
        have li := led_in .near i (n := F.length) (by have := R.h1; omega)
        have lj := led_in .near j (n := (F.headD []).length) (by have := R.w1; omega)
        obtain ⟨a', xs', b, rr, e, ha', hab, hb', hbc, lr⟩ := field_cell R hf li.1 li.2 lj.1 lj.2
        cases e
        rw [ha] at ha'; cases ha'
        refine ⟨_, rfl, Or.inl ⟨rfl, _, rfl, ?_⟩⟩
        rw [neS s_near_there]
        refine iteF ?_
        refine ⟨_, rfl, _, _, _, _, rfl, rfl, rfl, _, rfl, ?_⟩
        refine iteF ?_
        refine ⟨_, rfl, _, rfl, _, rfl, _, rfl, _, _, rfl, Or.inr ⟨_, SqT.of ha, rfl⟩, .near, _, _, _, rfl, (by unfold Led; simp), (by have := R.h1; omega), (by have := R.hs; omega), ?_⟩
        refine Or.inr (Or.inl ⟨_, _, _, _, rfl, rfl, SqT.of ha, (by rw [la]; exact hab), ?_⟩)
        refine ⟨_, rfl, _, rfl, _, rfl, _, rfl, _, _, rfl, Or.inr ⟨_, SqT.of hb', rfl⟩, .near, _, _, _, rfl, (by unfold Led; simp), (by rw [lr]; have := R.w1; omega), (by rw [lr]; have := R.ws; omega), ?_⟩
        refine Or.inr (Or.inl ⟨_, _, _, _, rfl, rfl, SqT.of hb', (by rw [lr]; exact hbc), (by show 1 ≤ sizeLine; decide), fun p hp => q p hp⟩)
      | turned => 
        have e := rule_str hru
        subst e
        obtain ⟨a, xs, b0, ys, e, ha, la, hb0, hb, lb⟩ := field_sizes R hf
        subst e
        have li := led_in .turned i (n := F.length) (by have := R.h1; omega)
        have lj := led_in .turned j (n := (F.headD []).length) (by have := R.w1; omega)
        obtain ⟨a', xs', b, rr, e, ha', hab, hb', hbc, lr⟩ := field_cell R hf li.1 li.2 lj.1 lj.2
        cases e
        rw [ha] at ha'; cases ha'
        refine ⟨_, rfl, Or.inl ⟨rfl, _, rfl, ?_⟩⟩
        rw [neS s_turned_there]
        refine iteF ?_
        refine ⟨_, rfl, _, _, _, _, rfl, rfl, rfl, _, rfl, ?_⟩
        refine iteF ?_
        refine ⟨_, rfl, _, rfl, _, rfl, _, rfl, _, _, rfl, Or.inr ⟨_, SqT.of ha, rfl⟩, .turned, _, _, _, rfl, (by unfold Led; simp), (by have := R.h1; omega), (by have := R.hs; omega), ?_⟩
        refine Or.inr (Or.inl ⟨_, _, _, _, rfl, rfl, SqT.of ha, (by rw [la]; exact hab), ?_⟩)
        refine ⟨_, rfl, _, rfl, _, rfl, _, rfl, _, _, rfl, Or.inr ⟨_, SqT.of hb', rfl⟩, .turned, _, _, _, rfl, (by unfold Led; simp), (by rw [lr]; have := R.w1; omega), (by rw [lr]; have := R.ws; omega), ?_⟩
        refine Or.inr (Or.inl ⟨_, _, _, _, rfl, rfl, SqT.of hb', (by rw [lr]; exact hbc), (by show 1 ≤ sizeLine; decide), fun p hp => q p hp⟩)
      | round => 
        have e := rule_str hru
        subst e
        obtain ⟨a, xs, b0, ys, e, ha, la, hb0, hb, lb⟩ := field_sizes R hf
        subst e
        have li := led_in .round i (n := F.length) (by have := R.h1; omega)
        have lj := led_in .round j (n := (F.headD []).length) (by have := R.w1; omega)
        obtain ⟨a', xs', b, rr, e, ha', hab, hb', hbc, lr⟩ := field_cell R hf li.1 li.2 lj.1 lj.2
        cases e
        rw [ha] at ha'; cases ha'
        refine ⟨_, rfl, Or.inl ⟨rfl, _, rfl, ?_⟩⟩
        rw [neS s_round_there]
        refine iteF ?_
        refine ⟨_, rfl, _, _, _, _, rfl, rfl, rfl, _, rfl, ?_⟩
        refine iteF ?_
        refine ⟨_, rfl, _, rfl, _, rfl, _, rfl, _, _, rfl, Or.inr ⟨_, SqT.of ha, rfl⟩, .round, _, _, _, rfl, (by unfold Led; simp), (by have := R.h1; omega), (by have := R.hs; omega), ?_⟩
        refine Or.inr (Or.inl ⟨_, _, _, _, rfl, rfl, SqT.of ha, (by rw [la]; exact hab), ?_⟩)
        refine ⟨_, rfl, _, rfl, _, rfl, _, rfl, _, _, rfl, Or.inr ⟨_, SqT.of hb', rfl⟩, .round, _, _, _, rfl, (by unfold Led; simp), (by rw [lr]; have := R.w1; omega), (by rw [lr]; have := R.ws; omega), ?_⟩
        refine Or.inr (Or.inl ⟨_, _, _, _, rfl, rfl, SqT.of hb', (by rw [lr]; exact hbc), (by show 1 ≤ sizeLine; decide), fun p hp => q p hp⟩)
def spPlaces : Sp := fun vs H Q _ => ∃ (p : Int) (a b : Nat), vs = [.int p, .int a, .int b] ∧ (-(2 ^ 60) < p ∧ p < 2 ^ 60) ∧ a ≤ 100 ∧ b ≤ 100 ∧
  ∀ (l : Addr) (H' : Hp), Same H H' → H' l = some (.lst (upInts (p - a) (a + b + 1))) → Q (.ref l) H'
theorem df_places_around (T : Txt K mg) : Df P w K mg base 1 "places_around" ["place", "ahead", "behind"] spPlaces := by
  refine T.d_places_around.ok sc_places_around (fun vs H Q E h => ?_) (fun f cdv A outer s H vs Q E hr h => ?_)
  · obtain ⟨p, a, b, rfl, _⟩ := h
    rfl
  · obtain ⟨p, a, b, rfl, hp, ha, hb, q⟩ := h
    refine ⟨_, (@pss_one _ _ _ (@ps_ret _ _ _ _ (@pe_callTy _ _ _ _ _ _ _ _ _ (CallR.or (call_listK (K := K) rfl) (call_list_rng rfl)) (by rfl) T.n_list bt_list (@pa_cons _ _ _ _ _ (@pe_callTy _ _ _ _ _ _ _ _ _ call_range2V (by rfl) T.n_range bt_range (@pa_cons _ _ _ _ _ (@pe_op _ _ _ _ _ _ _ _ op_sub (pv 0) (pv 1)) (@pa_cons _ _ _ _ _ (@pe_op _ _ _ _ _ _ _ _ op_add (@pe_op _ _ _ _ _ _ _ _ op_add (pv 0) (pv 2)) pe_int) pa_nil star_bin) star_bin) (by decide) (by decide) (by rfl) (by rfl)) pa_nil star_call) (by decide) (by decide) (by rfl) (by rfl)))), ?_⟩
    refine ⟨_, rfl, _, rfl, _, _, rfl, rfl, _, rfl, _, rfl, _, _, rfl, rfl, _, _, rfl, rfl, ?_⟩
    refine ⟨_, _, rfl, fun r hr => ?_⟩
    have e : (p + (b : Int) + 1 - (p - (a : Int))).toNat = a + b + 1 := by omega
    refine Or.inr ⟨_, _, _, rfl, upd_same, ⟨by omega, by omega, by omega, by omega⟩, by rw [e]; omega, fun l hl => ?_⟩
    rw [e]
    exact q l _ ((same_upd hr).trans (same_upd hl)) upd_same
def spCells : Sp := fun vs H Q _ => ∃ (fv wv rv : V) (F : List (List (Option Int))) (ru : Rule) (u d l r : Nat) (i j : Int), vs = [fv, wv, rv, .int i, .int j] ∧ Rect F ∧ IsD H fv (fieldD F) ∧ IsD H wv (winD u d l r) ∧ IsD H rv (ruleD ru) ∧
  (-(2 ^ 60) < i ∧ i < 2 ^ 60) ∧ (-(2 ^ 60) < j ∧ j < 2 ^ 60) ∧ (u ≤ 100 ∧ d ≤ 100 ∧ l ≤ 100 ∧ r ≤ 100) ∧
  ∀ (p : Addr) (H' : Hp), Same H H' → H' p = some (.tup ((wc F ru u d l r i j).map cellV)) → Q (.ref p) H'
theorem df_window_cells (T : Txt K mg) : Df P w K mg base 3 "window_cells" ["field", "window", "rule", "i", "j"] spCells := by
  refine T.d_window_cells.ok sc_window_cells (fun vs H Q E h => ?_) (fun f cdv A outer s H vs Q E hr h => ?_)
  · obtain ⟨fv, wv, rv, F, ru, u, d, l, r, i, j, rfl, _⟩ := h
    rfl
  · obtain ⟨fv, wv, rv, F, ru, u, d, l, r, i, j, rfl, R, hf, hw, hru, bi, bj, ⟨bu, bd, bl, br⟩, q⟩ := h
    refine ⟨_, (@pss_cons _ _ _ _ _ (@ps_set _ _ 5 _ _ _ _ sc_window_cells.nd rfl (by first | exact Or.inl rfl | exact Or.inr rfl) (@pe_df _ _ _ _ _ _ _ _ _ _ (df_places_around T) (hr.mono (by decide)) (@pa_cons _ _ _ _ _ (pv 4) (@pa_cons _ _ _ _ _ (@pe_ix _ _ _ _ _ _ _ (ix_seqK (K := K) rfl) (pv 1) pe_int (fun _ _ => rfl)) (@pa_cons _ _ _ _ _ (@pe_ix _ _ _ _ _ _ _ (ix_seqK (K := K) rfl) (pv 1) pe_int (fun _ _ => rfl)) pa_nil star_sub) star_sub) (by rfl)) (by rfl) (by decide) (by rfl) (by rfl)) (by rfl) (by first | exact .inl rfl | exact .inr rfl))
      (@pss_cons _ _ _ _ _ (@ps_set _ _ 6 _ _ _ _ sc_window_cells.nd rfl (by first | exact Or.inl rfl | exact Or.inr rfl) (@pe_lst _ _ _ _ pa_nil) (by rfl) (by first | exact .inl rfl | exact .inr rfl))
      (@pss_cons _ _ _ _ _ (@ps_for _ _ _ _ _ _ _ _ PassesOwn.never rfl (pi_seqK (K := K) rfl (@pe_df _ _ _ _ _ _ _ _ _ _ (df_places_around T) (hr.mono (by decide)) (@pa_cons _ _ _ _ _ (pv 3) (@pa_cons _ _ _ _ _ (@pe_ix _ _ _ _ _ _ _ (ix_seqK (K := K) rfl) (pv 1) pe_int (fun _ _ => rfl)) (@pa_cons _ _ _ _ _ (@pe_ix _ _ _ _ _ _ _ (ix_seqK (K := K) rfl) (pv 1) pe_int (fun _ _ => rfl)) pa_nil star_sub) star_sub) (by rfl)) (by rfl) (by decide) (by rfl) (by rfl))) (pg_name (i := 7) sc_window_cells.nd rfl (by first | exact Or.inl rfl | exact Or.inr rfl)) (@pss_one _ _ _ (@ps_for _ _ _ _ _ _ _ _ PassesOwn.never rfl (pi_seqK (K := K) rfl (pv 5)) (pg_name (i := 8) sc_window_cells.nd rfl (by first | exact Or.inl rfl | exact Or.inr rfl)) (@pss_one _ _ _ (@ps_expr _ _ _ _ (pe_bm PySem.F.plainAttrs_list PySem.F.slot_list_extend PySem.F.type_list_extend (MtR.or mt_extend mt_extendT) (pv 6) (@pa_cons _ _ _ _ _ (@pe_df _ _ _ _ _ _ _ _ _ _ (df_stands_at T) (hr.mono (by decide)) (@pa_cons _ _ _ _ _ (pv 0) (@pa_cons _ _ _ _ _ (pv 2) (@pa_cons _ _ _ _ _ (pv 7) (@pa_cons _ _ _ _ _ (pv 8) pa_nil (by rfl)) (by rfl)) (by rfl)) (by rfl)) (by rfl) (by decide) (by rfl) (by rfl)) pa_nil star_call)) (by rfl))) (by intro _; rfl))) (by intro _; rfl))
      (@pss_one _ _ _ (@ps_ret _ _ _ _ (@pe_callTy _ _ _ _ _ _ _ _ _ (call_tupleK (K := K) rfl) (by rfl) T.n_tuple bt_tuple (@pa_cons _ _ _ _ _ (pv 6) pa_nil (by rfl)) (by decide) (by decide) (by rfl) (by rfl))))))), ?_⟩
    obtain ⟨wa, rfl, hwa⟩ := isWin_inv hw
    refine ⟨_, rfl, _, rfl, Or.inr (Or.inl ⟨_, _, _, _, rfl, rfl, SqT.of hwa, rfl, _, rfl, Or.inr (Or.inl ⟨_, _, _, _, rfl, rfl, SqT.of hwa, rfl, ?_⟩)⟩)⟩
    refine ⟨_, _, _, rfl, bj, bl, br, fun lc H1 s1 hlc => ?_⟩
    refine ⟨(by show 0 ≤ sizeLine; decide), fun c hc => ?_⟩
    have s2 := same_upd (o := .lst []) hc
    have S2 := s1.trans s2
    refine Or.inl ?_
    refine ⟨_, rfl, _, rfl, Or.inr (Or.inl ⟨_, _, _, _, rfl, rfl, SqT.of (S2 _ _ hwa), rfl, _, rfl, Or.inr (Or.inl ⟨_, _, _, _, rfl, rfl, SqT.of (S2 _ _ hwa), rfl, ?_⟩)⟩)⟩
    refine ⟨_, _, _, rfl, bi, bu, bd, fun lr H3 s3 hlr => ?_⟩
    refine ⟨_, rfl, ⟨_, SqL.of hlr⟩, ?_⟩
    have hc3 : H3 c = some (.lst []) := s3 _ _ upd_same
    have S3 := S2.trans s3
    have hlc3 := (s2.trans s3) _ _ hlc
    have nlc : lc ≠ c := ne_of_none hlc hc
    have nlr : lr ≠ c := by
      refine ne_of hlr hc3 fun z => ?_
      have := congrArg (fun o => match o with | HO.lst xs => xs.length | _ => 0) z
      simp only [upInts_len, List.length_nil] at this
      omega
    have oldne : ∀ b o, H b = some o → b ≠ c := fun b o e => ne_of_none (s1 b o e) hc
    have keepH : ∀ {H' : Hp}, KeepBut c H3 H' → Same H H' := fun k b o e => k b o (S3 b o e) (oldne b o e)
    refine for_list (xs := upInts (i - u) (u + d + 1)) (fun a σ H' => ∃ v7 v8, σ = [some fv, some (.ref wa), some rv, some (.int i), some (.int j), some (.ref lc), some (.ref c), v7, v8] ∧ KeepBut c H3 H' ∧
        H' c = some (.lst (((List.range a).flatMap fun a => rowCells F ru l r (i - u + (a : Nat)) j).map cellV)))
      ⟨none, none, rfl, KeepBut.refl _ _, hc3⟩ (fun a σ H' _ ⟨_, _, _, k, _⟩ => SqL.of (k _ _ hlr nlr)) ?_ ?_
    · rintro a y _ H4 ha ⟨v7, v8, rfl, k4, hc4⟩
      have ha' : a < u + d + 1 := by
        have := (List.getElem?_eq_some_iff.mp ha).1
        rw [upInts_len] at this; exact this
      have ey : y = .int (i - u + (a : Nat)) := by
        unfold upInts at ha
        rw [List.getElem?_map, List.getElem?_range ha'] at ha
        exact (Option.some.inj ha).symm
      subst ey
      refine Or.inl ?_
      refine ⟨_, rfl, _, rfl, ⟨_, SqL.of (k4 _ _ hlc3 nlc)⟩, ?_⟩
      refine for_list (xs := upInts (j - l) (l + r + 1)) (fun b σ H' => ∃ v8, σ = [some fv, some (.ref wa), some rv, some (.int i), some (.int j), some (.ref lc), some (.ref c), some (.int (i - u + (a : Nat))), v8] ∧ KeepBut c H3 H' ∧
          H' c = some (.lst ((((List.range a).flatMap fun a => rowCells F ru l r (i - u + (a : Nat)) j) ++ (List.range b).flatMap fun b => stands F ru (i - u + (a : Nat)) (j - l + (b : Nat))).map cellV)))
        ⟨v8, rfl, k4, by rw [hc4]; simp⟩ (fun b σ H' _ ⟨_, _, k, _⟩ => SqL.of (k _ _ hlc3 nlc)) ?_ ?_
      · rintro b y _ H5 hb ⟨v8, rfl, k5, hc5⟩
        have hb' : b < l + r + 1 := by
          have := (List.getElem?_eq_some_iff.mp hb).1
          rw [upInts_len] at this; exact this
        have ey : y = .int (j - l + (b : Nat)) := by
          unfold upInts at hb
          rw [List.getElem?_map, List.getElem?_range hb'] at hb
          exact (Option.some.inj hb).symm
        subst ey
        have S5 := keepH k5
        refine ⟨_, rfl, Or.inl ⟨rfl, _, SqL.of hc5⟩, ?_⟩
        refine ⟨_, rfl, _, rfl, _, rfl, _, rfl, _, _, F, ru, _, _, rfl, R, hf.keep S5.tups, hru.keep S5.tups, fun p hp => ?_⟩
        have s6 := same_upd (o := .tup ((stands F ru (i - u + (a : Nat)) (j - l + (b : Nat))).map cellV)) hp
        have np : p ≠ c := (ne_of_none hc5 hp).symm
        refine Or.inr ⟨_, _, _, _, rfl, rfl, s6 _ _ hc5, upd_same, ?_, ?_⟩
        · have l1 := flatMap_len (fun a => rowCells F ru l r (i - u + (a : Nat)) j) (m := 201) (fun k => Nat.le_trans (rowCells_len _ _ _ _ _ _) (by omega)) a
          have l2 := flatMap_len (fun b => stands F ru (i - u + (a : Nat)) (j - l + (b : Nat))) (m := 1) (fun k => stands_len _ _ _ _) b
          have l3 := stands_len F ru (i - u + (a : Nat)) (j - l + (b : Nat))
          have l4 : a * 201 ≤ 201 * 201 := Nat.mul_le_mul_right _ (by omega)
          rw [List.length_map, List.length_map, List.length_append]
          refine Nat.le_trans (m := 50000) ?_ (by decide)
          omega
        · refine ⟨_, rfl, fun b' o e n => ?_, ?_⟩
          · rw [upd_ne n]; exact s6 _ _ (k5 b' o e n)
          · rw [upd_same, flatMap_succ, ← List.map_append, List.append_assoc]
      · rintro _ H5 ⟨v8, rfl, k5, hc5⟩
        refine ⟨_, _, rfl, k5, ?_⟩
        rw [hc5, flatMap_succ, upInts_len]
        rfl
    · rintro _ H4 ⟨v7, v8, rfl, k4, hc4⟩
      rw [upInts_len] at hc4
      refine ⟨_, rfl, _, _, rfl, Or.inl ⟨SqL.of hc4, fun p hp => ?_⟩⟩
      exact q p _ ((keepH k4).trans (same_upd hp)) upd_same
def spHoles : Sp := fun vs H Q _ => ∃ (p : Addr) (cs : List (Option Int)), vs = [.ref p] ∧ SeqV H p (cs.map cellV) ∧ cs.length ≤ 100000 ∧ ∀ (t : Addr) (H' : Hp), Same H H' → H' t = some (.tup ((cs.filterMap id).map V.int)) → Q (.ref t) H'
theorem df_without_holes (T : Txt K mg) : Df P w K mg base 1 "without_holes" ["cells"] spHoles := by
  refine T.d_without_holes.ok sc_without_holes (fun vs H Q E h => ?_) (fun f cdv A outer s H vs Q E hr h => ?_)
  · obtain ⟨p, cs, rfl, _⟩ := h
    rfl
  · obtain ⟨p, cs, rfl, hp, hl, q⟩ := h
    refine ⟨_, (@pss_one _ _ _ (@ps_ret _ _ _ _ (@pe_callTy _ _ _ _ _ _ _ _ _ (call_tupleK (K := K) rfl) (by rfl) T.n_tuple bt_tuple (@pa_cons _ _ _ _ _ (pe_compIf (M := []) (idx := []) rfl (pi_seqK (K := K) rfl (pv 0)) (compOk (by kernel_rfl)) (by decide +kernel) (by first | exact Or.inl rfl | exact Or.inr rfl) (fun _ _ _ _ _ => pts_one (@pt_cmpR _ _ _ _ _ _ _ _ op_notN (pv 0) pe_non (nomark _))) (fun _ _ _ _ _ => (pv 0))) pa_nil star_comp) (by decide) (by decide) (by rfl) (by rfl)))), ?_⟩
    refine comp_seqV (K := K) (xs := cs.map cellV) (fun k h => ⟨_, rfl, h⟩) hp (fun i ys H' => H' = H ∧ ys = ((cs.take i).filterMap id).map V.int) ⟨rfl, rfl⟩ (by rw [List.length_map]; exact Nat.le_trans hl (by decide)) (fun i ys H' _ ⟨e, _⟩ => by rw [e]) ?_ ?_
    · rintro i x ys _ hx ⟨rfl, rfl⟩
      obtain ⟨c, ec, rfl⟩ := cell_at hx
      rw [List.take_add_one, ec, List.filterMap_append, List.map_append]
      cases c with
      | none =>
        refine ⟨_, rfl, rfl, _, rfl, ?_⟩
        refine iteF ?_
        exact ⟨rfl, by simp⟩
      | some n =>
        refine ⟨_, rfl, rfl, _, rfl, ?_⟩
        refine iteT ?_
        exact ⟨_, rfl, rfl, rfl⟩
    · rintro ys _ ⟨rfl, rfl⟩ l hl2
      rw [List.length_map, List.take_length]
      refine ⟨_, _, rfl, Or.inl ⟨SqL.of upd_same, fun t ht => ?_⟩⟩
      exact q t _ ((same_upd hl2).trans (same_upd ht)) upd_same
def spToldOf (K : PySem.W.Frag) : Sp := fun vs H Q _ => ∃ (p : Addr) (sv : V) (cs : List (Option Int)) (a b : Int), vs = [.ref p, sv] ∧ SeqV H p (cs.map cellV) ∧ cs.length ≤ 63 ∧ Shr K H sv a b ∧ Share a b ∧ ∀ H', Same H H' → Q (cellV (manieth (cs.filterMap id) a b)) H'
theorem df_told_of_cells (T : Txt K mg) : Df P w K mg base 3 "told_of_cells" ["cells", "share"] (spToldOf K) := by
  refine T.d_told_of_cells.ok sc_told_of_cells (fun vs H Q E h => ?_) (fun f cdv A outer s H vs Q E hr h => ?_)
  · obtain ⟨p, sv, cs, a, b, rfl, _⟩ := h
    rfl
  · obtain ⟨p, sv, cs, a, b, rfl, hp, hl, hs, hS, q⟩ := h
    refine ⟨_, (@pss_one _ _ _ (@ps_ret _ _ _ _ (@pe_df _ _ _ _ _ _ _ _ _ _ (df_so_manieth T) (hr.mono (by decide)) (@pa_cons _ _ _ _ _ (@pe_df _ _ _ _ _ _ _ _ _ _ (df_without_holes T) (hr.mono (by decide)) (@pa_cons _ _ _ _ _ (pv 0) pa_nil (by rfl)) (by rfl) (by decide) (by rfl) (by rfl)) (@pa_cons _ _ _ _ _ (pv 1) pa_nil (by rfl)) star_call) (by rfl) (by decide) (by rfl) (by rfl)))), ?_⟩
    refine ⟨_, rfl, p, cs, rfl, hp, by omega, fun t H1 s1 ht => ?_⟩
    exact ⟨_, rfl, t, sv, _, a, b, rfl, .inl ht, Nat.lt_of_le_of_lt (Nat.le_trans (List.length_filterMap_le _ _) hl) (by decide), hs.keep s1.tups, hS, fun H2 s2 => q H2 (s1.trans s2)⟩
def spFiltered (K : PySem.W.Frag) : Sp := fun vs H Q _ => ∃ (fv wv rv sv : V) (F : List (List (Option Int))) (ru : Rule) (u d l r : Nat) (a b : Int), vs = [fv, wv, rv, sv] ∧ Rect F ∧ IsD H fv (fieldD F) ∧ IsD H wv (winD u d l r) ∧ IsD H rv (ruleD ru) ∧ Shr K H sv a b ∧ Share a b ∧
  (u ≤ 100 ∧ d ≤ 100 ∧ l ≤ 100 ∧ r ≤ 100) ∧ (u + d + 1) * (l + r + 1) ≤ 63 ∧ ∀ (v : V) (H' : Hp), Same H H' → IsD H' v (fieldD (fil F ru u d l r a b)) → Q v H'
theorem df_filtered (T : Txt K mg) : Df P w K mg base 4 "filtered" ["field", "window", "rule", "share"] (spFiltered K) := by
  refine T.d_filtered.ok sc_filtered (fun vs H Q E h => ?_) (fun f cdv A outer s H vs Q E hr h => ?_)
  · obtain ⟨fv, wv, rv, sv, F, ru, u, d, l, r, a, b, rfl, _⟩ := h
    rfl
  · obtain ⟨fv, wv, rv, sv, F, ru, u, d, l, r, a, b, rfl, R, hf, hw, hru, hs, hS, bb, few, q⟩ := h
    obtain ⟨fa, xs, rfl, hfa, hxs⟩ := isField_inv hf
    have lxs : xs.length = F.length := by rw [hxs.length, List.length_map]
    have hW := R.ws
    have hH := R.hs
    refine ⟨_, (@pss_cons _ _ _ _ _ (@ps_set _ _ 4 _ _ _ _ sc_filtered.nd rfl (by first | exact Or.inl rfl | exact Or.inr rfl) (@pe_lst _ _ _ _ pa_nil) (by rfl) (by first | exact .inl rfl | exact .inr rfl))
      (@pss_cons _ _ _ _ _ (@ps_for _ _ _ _ _ _ _ _ PassesOwn.never rfl (pi_range1 (by rfl) T.n_range (@pa_cons _ _ _ _ _ (@pe_callB _ _ _ _ _ _ _ _ _ (call_lenK (K := K) rfl) (by rfl) T.n_len bt_len (@pa_cons _ _ _ _ _ (pv 0) pa_nil (by rfl)) (by decide) (by decide) (by rfl) (by rfl)) pa_nil star_call)) (pg_name (i := 5) sc_filtered.nd rfl (by first | exact Or.inl rfl | exact Or.inr rfl)) (@pss_cons _ _ _ _ _ (@ps_set _ _ 6 _ _ _ _ sc_filtered.nd rfl (by first | exact Or.inl rfl | exact Or.inr rfl) (@pe_lst _ _ _ _ pa_nil) (by rfl) (by first | exact .inl rfl | exact .inr rfl))
      (@pss_cons _ _ _ _ _ (@ps_for _ _ _ _ _ _ _ _ PassesOwn.never rfl (pi_range1 (by rfl) T.n_range (@pa_cons _ _ _ _ _ (@pe_callB _ _ _ _ _ _ _ _ _ (call_lenK (K := K) rfl) (by rfl) T.n_len bt_len (@pa_cons _ _ _ _ _ (@pe_ix _ _ _ _ _ _ _ (ix_seqK (K := K) rfl) (pv 0) (pv 5) (fun _ _ => rfl)) pa_nil star_sub) (by decide) (by decide) (by rfl) (by rfl)) pa_nil star_call)) (pg_name (i := 7) sc_filtered.nd rfl (by first | exact Or.inl rfl | exact Or.inr rfl)) (@pss_one _ _ _ (@ps_expr _ _ _ _ (pe_bm PySem.F.plainAttrs_list PySem.F.slot_list_append PySem.F.type_list_append mt_append (pv 6) (@pa_cons _ _ _ _ _ (@pe_df _ _ _ _ _ _ _ _ _ _ (df_told_of_cells T) (hr.mono (by decide)) (@pa_cons _ _ _ _ _ (@pe_df _ _ _ _ _ _ _ _ _ _ (df_window_cells T) (hr.mono (by decide)) (@pa_cons _ _ _ _ _ (pv 0) (@pa_cons _ _ _ _ _ (pv 1) (@pa_cons _ _ _ _ _ (pv 2) (@pa_cons _ _ _ _ _ (pv 5) (@pa_cons _ _ _ _ _ (pv 7) pa_nil (by rfl)) (by rfl)) (by rfl)) (by rfl)) (by rfl)) (by rfl) (by decide) (by rfl) (by rfl)) (@pa_cons _ _ _ _ _ (pv 3) pa_nil (by rfl)) star_call) (by rfl) (by decide) (by rfl) (by rfl)) pa_nil star_call)) (by rfl))) (by intro _; rfl))
      (@pss_one _ _ _ (@ps_expr _ _ _ _ (pe_bm PySem.F.plainAttrs_list PySem.F.slot_list_append PySem.F.type_list_append mt_append (pv 4) (@pa_cons _ _ _ _ _ (@pe_callTy _ _ _ _ _ _ _ _ _ (call_tupleK (K := K) rfl) (by rfl) T.n_tuple bt_tuple (@pa_cons _ _ _ _ _ (pv 6) pa_nil (by rfl)) (by decide) (by decide) (by rfl) (by rfl)) pa_nil star_call)) (by rfl))))) (by intro _; rfl))
      (@pss_one _ _ _ (@ps_ret _ _ _ _ (@pe_callTy _ _ _ _ _ _ _ _ _ (call_tupleK (K := K) rfl) (by rfl) T.n_tuple bt_tuple (@pa_cons _ _ _ _ _ (pv 4) pa_nil (by rfl)) (by decide) (by decide) (by rfl) (by rfl)))))), ?_⟩
    refine ⟨(by show 0 ≤ sizeLine; decide), fun c hc => ?_⟩
    have s1 := same_upd (o := .lst []) hc
    have oldne : ∀ b o, H b = some o → b ≠ c := fun b o e => ne_of_none e hc
    have keepH : ∀ {H' : Hp}, KeepBut c (upd H c (.lst [])) H' → Same H H' := fun k b o e => k b o (s1 b o e) (oldne b o e)
    refine ⟨_, rfl, _, _, rfl, Or.inr ⟨_, SqT.of (s1 _ _ hfa), rfl⟩, _, rfl, by omega, by omega, ?_⟩
    have hc1 : upd H c (.lst []) c = some (.lst []) := upd_same
    generalize upd H c (.lst []) = H1 at s1 hc1 keepH ⊢
    refine for_range (n := ((xs.length : Nat) : Int).toNat) (fun i σ H' => ∃ (v5 v6 v7 : Option V) (ys : List V), σ = [some (.ref fa), some wv, some rv, some sv, some (.ref c), v5, v6, v7] ∧ KeepBut c H1 H' ∧ H' c = some (.lst ys) ∧ IsDs H' ys (((fil F ru u d l r a b).take i).map rowD)) ⟨none, none, none, [], rfl, KeepBut.refl _ _, hc1, .nil⟩ ?_ ?_
    · rintro i _ H2 hi ⟨v5, v6, v7, ys, rfl, k2, hc2, hys⟩
      have hi' : i < F.length := by
        have : i < ((xs.length : Nat) : Int).toNat := hi
        omega
      have S2 := keepH k2
      have e0 : (0 : Int) + (i : Int) = (i : Int) := by omega
      rw [e0]
      obtain ⟨ra, era, hra⟩ := isRows_get hxs hi'
      have eW : F[i].length = (F.headD []).length := R.row _ (List.getElem_mem _)
      refine ⟨(by show 0 ≤ sizeLine; decide), fun e he => ?_⟩
      have s3 := same_upd (o := .lst []) he
      have ne : e ≠ c := (ne_of_none hc2 he).symm
      refine ⟨_, rfl, _, rfl, Or.inr (Or.inl ⟨_, _, _, _, rfl, rfl, SqT.of (s3 _ _ (S2 _ _ hfa)), atI_nat era, _, _, rfl, Or.inr ⟨_, SqT.of (s3 _ _ (S2 _ _ hra)), rfl⟩, _, rfl, by rw [List.length_map]; omega, by rw [List.length_map]; omega, ?_⟩)⟩
      have he3 : upd H2 e (.lst []) e = some (.lst []) := upd_same
      have hc3 := s3 _ _ hc2
      have hys3 := hys.keep s3.tups
      have S3 := S2.trans s3
      have K3 : KeepBut c H1 (upd H2 e (.lst [])) := fun b' o e' n => s3 _ _ (k2 b' o e' n)
      have old3 : ∀ b' o, H2 b' = some o → b' ≠ e := fun b' o e' => ne_of_none e' he
      have el : (F[i].map cellV).length = wideF F := by rw [List.length_map]; exact eW
      generalize upd H2 e (.lst []) = H3 at s3 he3 hc3 hys3 S3 K3 ⊢
      refine for_range (n := ((((F[i].map cellV).length : Nat) : Int).toNat)) (fun j σ H' => ∃ (v7 : Option V), σ = [some (.ref fa), some wv, some rv, some sv, some (.ref c), some (.int i), some (.ref e), v7] ∧ KeepBut e H3 H' ∧ H' e = some (.lst (((List.range j).map fun j : Nat => filAt F ru u d l r a b (i : Int) (j : Int)).map cellV))) ⟨v7, rfl, KeepBut.refl _ _, he3⟩ ?_ ?_
      · rintro j _ H4 hj ⟨v7, rfl, k4, he4⟩
        have hj' : j < wideF F := by
          have : j < ((((F[i].map cellV).length : Nat) : Int).toNat) := hj
          omega
        have e0 : (0 : Int) + (j : Int) = (j : Int) := by omega
        rw [e0]
        have S4 : Same H H4 := fun b' o e' => k4 b' o (S3 b' o e') (old3 b' o (S2 b' o e'))
        have hjw : j < (F.headD []).length := hj'
        refine ⟨_, rfl, Or.inl ⟨rfl, _, SqL.of he4⟩, ?_⟩
        refine ⟨_, rfl, _, rfl, _, rfl, _, rfl, _, rfl, _, _, _, F, ru, u, d, l, r, _, _, rfl, R, hf.keep S4.tups, hw.keep S4.tups, hru.keep S4.tups, ⟨by omega, by omega⟩, ⟨by omega, by omega⟩, bb, fun p H5 s5 hp => ?_⟩
        have wl := wc_len F ru u d l r (i : Int) (j : Int)
        have wl2 : (u + d + 1) * (l + r + 1) ≤ 201 * 201 := Nat.mul_le_mul (by omega) (by omega)
        have S5 := S4.trans s5
        have he5 := s5 _ _ he4
        refine ⟨_, rfl, p, sv, wc F ru u d l r i j, a, b, rfl, .inl hp, by omega, hs.keep S5.tups, hS, fun H7 s7 => ?_⟩
        have S6 := S5
        have he7 := s7 _ _ he5
        refine ⟨_, _, _, rfl, rfl, he7, ?_, ?_⟩
        · rw [List.length_map, List.length_map, List.length_range]
          exact Nat.lt_of_lt_of_le (show j < 1001 by omega) (by decide)
        · refine ⟨_, rfl, fun b' o e' n => ?_, ?_⟩
          · rw [upd_ne n]; exact s7 _ _ (s5 _ _ (k4 b' o e' n))
          · rw [upd_same, List.range_succ, List.map_append, List.map_append]
            rfl
      · rintro _ H4 ⟨v7, rfl, k4, he4⟩
        rw [show ((((F[i].map cellV).length : Nat) : Int).toNat) = wideF F by omega] at he4
        have hc4 := k4 _ _ hc3 ne.symm
        refine ⟨_, rfl, Or.inl ⟨rfl, _, SqL.of hc4⟩, _, rfl, _, _, rfl, Or.inl ⟨SqL.of he4, fun t ht => ?_⟩⟩
        have st := same_upd (o := .tup (((List.range (wideF F)).map fun j : Nat => filAt F ru u d l r a b (i : Int) (j : Int)).map cellV)) ht
        have hct := st _ _ hc4
        have ly : ys.length = i := by rw [hys.length, List.length_map, List.length_take, fil_len]; omega
        refine ⟨_, _, _, rfl, rfl, hct, (by rw [ly]; exact Nat.lt_of_lt_of_le (show i < 1001 by omega) (by decide)), ?_⟩
        refine ⟨_, _, _, ys ++ [.ref t], rfl, fun b' o e' n => ?_, upd_same, ?_⟩
        · rw [upd_ne n]
          exact st _ _ (k4 b' o (K3 b' o e' n) (old3 b' o (k2 b' o e' n)))
        · rw [List.take_add_one, fil_row hi', List.map_append]
          have tt : t ≠ c := (ne_of_none hc4 ht).symm
          have u1 : upd (upd H4 t (.tup (((List.range (wideF F)).map fun j : Nat => filAt F ru u d l r a b (i : Int) (j : Int)).map cellV))) c (.lst (ys ++ [.ref t])) t = some (.tup (((List.range (wideF F)).map fun j : Nat => filAt F ru u d l r a b (i : Int) (j : Int)).map cellV)) := by rw [upd_ne tt]; exact upd_same
          have kt : ∀ b' zs, H3 b' = some (.tup zs) → upd (upd H4 t (.tup (((List.range (wideF F)).map fun j : Nat => filAt F ru u d l r a b (i : Int) (j : Int)).map cellV))) c (.lst (ys ++ [.ref t])) b' = some (.tup zs) := fun b' zs e' => by
            have n1 : b' ≠ c := ne_of e' hc3 fun z => by cases z
            have n2 : b' ≠ e := ne_of e' he3 fun z => by cases z
            rw [upd_ne n1]
            exact st _ _ (k4 _ _ e' n2)
          exact (hys3.keep kt).append (.cons (.tup u1 (isCells _)) .nil)
    · rintro _ H2 ⟨v5, v6, v7, ys, rfl, k2, hc2, hys⟩
      refine ⟨_, rfl, _, _, rfl, Or.inl ⟨SqL.of hc2, fun t ht => ?_⟩⟩
      have st := same_upd (o := .tup ys) ht
      refine q (.ref t) _ ((keepH k2).trans st) (.tup upd_same ?_)
      have : (fil F ru u d l r a b).take ((xs.length : Nat) : Int).toNat = fil F ru u d l r a b := List.take_of_length_le (by rw [fil_len]; omega)
      rw [this] at hys
      exact hys.keep st.tups
theorem cells_of (ns : List Int) : ns.map V.int = (ns.map some).map cellV := by rw [List.map_map]; rfl
theorem ne_cellsNil {H : Hp} {p q : Addr} {cs : List (Option Int)} {Q : VK} (hp : H p = some (.lst (cs.map cellV))) (hq : H q = some (.lst [])) (h : Q (.bl (!decide (cs = []))) H) : rNeL (.ref p) (.ref q) H Q := by
  refine ⟨p, q, _, _, cs.map cellD, [], rfl, rfl, hp, hq, isCells cs, .nil, ⟨canLay_cells cs, rfl, ?_⟩, ?_⟩
  · show PyData.depthAll (cs.map cellD) + 1 ≤ 20
    rw [depth_cells]; decide
  · have := eqv_cells cs []
    rw [List.map_nil] at this
    rw [this]; exact h
def spDeck3 (K : PySem.W.Frag) : Sp := fun vs H Q _ => ∃ (a : Addr) (ns : List Int), vs = [.ref a] ∧ SqL K H a (ns.map V.int) ∧ ns.length ≤ 63 ∧ ∀ (d c : Addr) (H' : Hp), H d = none → H c = none → Dk H' d c 0 → Same H H' → Q (.ref d) H'
theorem df_law_deck (T : Txt K mg) : Df P w K mg base 1 "_law_deck" ["script"] (spDeck3 K) := by
  refine T.d_law_deck.ok sc_law_deck (fun vs H Q E h => ?_) (fun f cdv A outer s H vs Q E hr h => ?_)
  · obtain ⟨a, ns, rfl, _⟩ := h
    rfl
  · obtain ⟨a, ns, rfl, hS, hl, q⟩ := h
    refine ⟨_, (@pss_one _ _ _ (@ps_ret _ _ _ _ (@pe_lst _ _ _ _ (@pa_cons _ _ _ _ _ (@pe_op _ _ _ _ _ _ _ _ op_cat (pe_compIf (M := []) (idx := []) rfl (pi_seqK (K := K) rfl (pe_slice (sl_X (K := K) rfl) (pv 0) po_none (po_some pe_int))) (compOk (by kernel_rfl)) (by decide +kernel) (by first | exact Or.inl rfl | exact Or.inr rfl) (fun _ _ _ _ _ => pts_nil) (fun _ _ _ _ _ => (@pe_callB _ _ _ _ _ _ _ _ _ call_abs (by rfl) T.n_abs bt_abs (@pa_cons _ _ _ _ _ (pv 0) pa_nil (by rfl)) (by decide) (by decide) (by rfl) (by rfl)))) (@pe_lst _ _ _ _ (@pa_cons _ _ _ _ _ (@pe_op _ _ _ _ _ _ _ _ op_add (@pe_callB _ _ _ _ _ _ _ _ _ (call_lenK (K := K) rfl) (by rfl) T.n_len bt_len (@pa_cons _ _ _ _ _ (pv 0) pa_nil (by rfl)) (by decide) (by decide) (by rfl) (by rfl)) pe_int) pa_nil star_bin))) (@pa_cons _ _ _ _ _ (@pe_op _ _ _ _ _ _ _ _ op_mod (@pe_callB _ _ _ _ _ _ _ _ _ (call_sumK (K := K) rfl rfl) (by rfl) T.n_sum bt_sum (@pa_cons _ _ _ _ _ (pe_slice (sl_X (K := K) rfl) (pv 0) po_none (po_some pe_int)) pa_nil star_sub) (by decide) (by decide) (by rfl) (by rfl)) pe_int) (@pa_cons _ _ _ _ _ pe_int pa_nil (by rfl)) star_bin) star_bin)))), ?_⟩
    have ecut : cutV (ns.map V.int) none (some 63) = (ns.take 63).map V.int := by
      show cutV (ns.map V.int) none (some ((63 : Nat) : Int)) = _
      rw [cut_take, List.map_take]
    refine Or.inl ?_
    refine ⟨_, rfl, _, rfl, Or.inl ⟨_, _, rfl, hS, fun p hp => ?_⟩⟩
    rw [ecut]
    have s1 := same_upd (o := .lst ((ns.take 63).map V.int)) hp
    have e1 : upd H p (.lst ((ns.take 63).map V.int)) p = some (.lst ((ns.take 63).map V.int)) := upd_same
    generalize upd H p (.lst ((ns.take 63).map V.int)) = H1 at s1 e1 ⊢
    refine ⟨_, rfl, ⟨_, SqL.of e1⟩, ?_⟩
    refine compW_list (xs := (ns.take 63).map V.int) (fun i zs H' => H' = H1 ∧ ∃ ms : List Int, ms.length = i ∧ zs = ms.map V.int) ⟨rfl, [], rfl, rfl⟩ (by rw [List.length_map, List.length_take]; exact Nat.le_trans (Nat.min_le_left _ _) (by decide)) (fun i zs H' _ ⟨e, _⟩ => by rw [e]; exact SqL.of e1) ?_ ?_
    · rintro i x zs _ hx ⟨rfl, ms, lm, rfl⟩
      obtain ⟨z, ez, rfl⟩ := int_at hx
      refine oneT ?_
      refine ⟨_, rfl, _, rfl, rfl, ms ++ [if z < 0 then -z else z], by rw [List.length_append, lm]; rfl, ?_⟩
      rw [List.map_append]; rfl
    rintro zs H1 ⟨rfl, ms, lm, rfl⟩ p2 hp2
    have s2 := same_upd (o := .lst (ms.map V.int)) hp2
    have lms : ms.length ≤ 63 := by rw [lm, List.length_map, List.length_take]; omega
    refine ⟨_, rfl, _, _, rfl, Or.inl ⟨_, (s1.trans s2).seq hS, rfl⟩, _, _, rfl, rfl, ?_⟩
    refine ⟨(by show 1 ≤ sizeLine; decide), fun p3 hp3 => ?_⟩
    have s3 := same_upd (o := .lst [.int ((((ns.map V.int).length : Nat) : Int) + 5)]) hp3
    refine ⟨_, _, _, _, rfl, rfl, s3 _ _ upd_same, upd_same, (by rw [List.length_map]; exact Nat.le_trans (show ms.length + 1 ≤ 64 by omega) (by decide)), fun c hc => ?_⟩
    have s4 := same_upd (o := .lst (ms.map V.int ++ [.int ((((ns.map V.int).length : Nat) : Int) + 5)])) hc
    have S4 := ((s1.trans s2).trans s3).trans s4
    refine ⟨_, rfl, _, rfl, Or.inl ⟨_, _, rfl, S4.seq hS, fun p5 hp5 => ?_⟩⟩
    rw [ecut]
    have s5 := same_upd (o := .lst ((ns.take 63).map V.int)) hp5
    refine ⟨_, _, rfl, SqL.of upd_same, _, _, rfl, rfl, (by show (0 : Int) < 1999999951; decide), ?_⟩
    refine ⟨(by show 3 ≤ sizeLine; decide), fun d hd => ?_⟩
    have s6 := same_upd (o := .lst [.ref c, .int ((ns.take 63).sum % 1999999951), .int 0]) hd
    have S5 := S4.trans s5
    have fd : H d = none := S5.free hd
    have fc : H c = none := ((s1.trans s2).trans s3).free hc
    refine q d c _ fd fc ⟨?_, ms ++ [((((ns.map V.int).length : Nat) : Int) + 5)], _, _, upd_same, ?_, by simp, by rw [List.length_append]; show ms.length + 1 ≤ 64; omega, by decide, by decide⟩ (S5.trans s6)
    · intro e
      subst e
      rw [s5 _ _ upd_same] at hd
      cases hd
    · rw [List.map_append]
      exact s6 _ _ (s5 _ _ upd_same)
def spDraw3 : Sp := fun vs H Q _ => ∃ (d c : Addr) (most : Int) (n : Nat), vs = [.ref d, .int most] ∧ Dk H d c n ∧ 0 < most ∧ most < 2 ^ 40 ∧ n < 2 ^ 40 ∧
  ∀ (x : Int) (H' : Hp), 0 ≤ x → x < most → Dk H' d c (n + 1) → K2 d c H H' → Q (.int x) H'
theorem df_law_draw (T : Txt K mg) : Df P w K mg base 1 "_law_draw" ["deck", "most"] spDraw3 := by
  refine T.d_law_draw.ok sc_law_draw (fun vs H Q E h => ?_) (fun f cdv A outer s H vs Q E hr h => ?_)
  · obtain ⟨d, c, most, n, rfl, _⟩ := h
    rfl
  · obtain ⟨d, c, most, n, rfl, ⟨nde, ns, a, t, hd, hc, l1, l2, t0, t1⟩, m0, m1, n1, q⟩ := h
    refine ⟨_, (@pss_cons _ _ _ _ _ (@ps_asg _ _ _ _ _ _ (@pe_op _ _ _ _ _ _ _ _ op_add (@pe_ix _ _ _ _ _ _ _ (ix_seqK (K := K) rfl) (pv 0) pe_int (fun _ _ => rfl)) pe_int) (pg_sub (pv 0) pe_int set_list) (by rfl) (by rfl) (by rfl))
      (@pss_cons _ _ _ _ _ (@ps_set _ _ 2 _ _ _ _ sc_law_draw.nd rfl (by first | exact Or.inl rfl | exact Or.inr rfl) (@pe_ix _ _ _ _ _ _ _ (ix_seqK (K := K) rfl) (pv 0) pe_int (fun _ _ => rfl)) (by rfl) (by first | exact .inl rfl | exact .inr rfl))
      (@pss_cons _ _ _ _ _ (@ps_set _ _ 3 _ _ _ _ sc_law_draw.nd rfl (by first | exact Or.inl rfl | exact Or.inr rfl) (@pe_op _ _ _ _ _ _ _ _ op_mod (@pe_ix _ _ _ _ _ _ _ (ix_seqK (K := K) rfl) (pv 0) pe_int (fun _ _ => rfl)) (@pe_callB _ _ _ _ _ _ _ _ _ (call_lenK (K := K) rfl) (by rfl) T.n_len bt_len (@pa_cons _ _ _ _ _ (pv 2) pa_nil (by rfl)) (by decide) (by decide) (by rfl) (by rfl))) (by rfl) (by first | exact .inl rfl | exact .inr rfl))
      (@pss_cons _ _ _ _ _ (@ps_if _ _ _ _ _ _ _ _ (@pt_cmpR _ _ _ _ _ _ _ _ op_ge (@pe_ix _ _ _ _ _ _ _ (ix_seqK (K := K) rfl) (pv 2) (pv 3) (fun _ _ => rfl)) (@pe_op _ _ _ _ _ _ _ _ op_pow pe_int pe_int) (nomark _)) (@pss_cons _ _ _ _ _ (@ps_set _ _ 4 _ _ _ _ sc_law_draw.nd rfl (by first | exact Or.inl rfl | exact Or.inr rfl) (@pe_op _ _ _ _ _ _ _ _ op_mod (@pe_ix _ _ _ _ _ _ _ (ix_seqK (K := K) rfl) (pv 2) (pv 3) (fun _ _ => rfl)) (pv 1)) (by rfl) (by first | exact .inl rfl | exact .inr rfl))
      (@pss_cons _ _ _ _ _ (@ps_asg _ _ _ _ _ _ (@pe_op _ _ _ _ _ _ _ _ op_fdivB (@pe_ix _ _ _ _ _ _ _ (ix_seqK (K := K) rfl) (pv 2) (pv 3) (fun _ _ => rfl)) (pv 1)) (pg_sub (pv 2) (pv 3) set_list) (by rfl) (by rfl) (by rfl))
      (@pss_one _ _ _ (@ps_ret _ _ _ _ (pv 4))))) pss_nil)
      (@pss_cons _ _ _ _ _ (@ps_set _ _ 5 _ _ _ _ sc_law_draw.nd rfl (by first | exact Or.inl rfl | exact Or.inr rfl) (@pe_ix _ _ _ _ _ _ _ (ix_seqK (K := K) rfl) (pv 0) pe_int (fun _ _ => rfl)) (by rfl) (by first | exact .inl rfl | exact .inr rfl))
      (@pss_cons _ _ _ _ _ (@ps_set _ _ 6 _ _ _ _ sc_law_draw.nd rfl (by first | exact Or.inl rfl | exact Or.inr rfl) (@pe_op _ _ _ _ _ _ _ _ op_add (@pe_ix _ _ _ _ _ _ _ (ix_seqK (K := K) rfl) (pv 2) (pv 3) (fun _ _ => rfl)) (@pe_ix _ _ _ _ _ _ _ (ix_seqK (K := K) rfl) (pv 0) pe_int (fun _ _ => rfl))) (by rfl) (by first | exact .inl rfl | exact .inr rfl))
      (@pss_cons _ _ _ _ _ (@ps_set _ _ 7 _ _ _ _ sc_law_draw.nd rfl (by first | exact Or.inl rfl | exact Or.inr rfl) (@pe_op _ _ _ _ _ _ _ _ op_mod (@pe_op _ _ _ _ _ _ _ _ op_add (@pe_op _ _ _ _ _ _ _ _ op_add (pv 6) (@pe_op _ _ _ _ _ _ _ _ op_mul (@pe_op _ _ _ _ _ _ _ _ op_mul pe_int (pv 5)) (pv 5))) (@pe_op _ _ _ _ _ _ _ _ op_mul pe_int (pv 5))) pe_int) (by rfl) (by first | exact .inl rfl | exact .inr rfl))
      (@pss_cons _ _ _ _ _ (@ps_set _ _ 7 _ _ _ _ sc_law_draw.nd rfl (by first | exact Or.inl rfl | exact Or.inr rfl) (@pe_op _ _ _ _ _ _ _ _ op_mod (@pe_op _ _ _ _ _ _ _ _ op_mul (pv 7) (pv 7)) pe_int) (by rfl) (by first | exact .inl rfl | exact .inr rfl))
      (@pss_one _ _ _ (@ps_ret _ _ _ _ (@pe_op _ _ _ _ _ _ _ _ op_mod (@pe_op _ _ _ _ _ _ _ _ op_fdivB (@pe_op _ _ _ _ _ _ _ _ op_mod (@pe_op _ _ _ _ _ _ _ _ op_add (@pe_op _ _ _ _ _ _ _ _ op_mul (pv 7) pe_int) (@pe_op _ _ _ _ _ _ _ _ op_mul (pv 5) pe_int)) pe_int) pe_int) (pv 1)))))))))))), ?_⟩
    refine ⟨_, rfl, Or.inl ⟨_, _, _, _, rfl, rfl, SqL.of hd, rfl, _, _, rfl, rfl, ?_⟩⟩
    refine ⟨_, rfl, _, _, _, 2, rfl, rfl, hd, rfl, ?_⟩
    have h1 : upd H d (.lst [.ref c, .int a, .int (t + 1)]) d = some (.lst [.ref c, .int a, .int (t + 1)]) := upd_same
    have hc1 : upd H d (.lst [.ref c, .int a, .int (t + 1)]) c = some (.lst (ns.map V.int)) := by rw [upd_ne nde.symm]; exact hc
    have k1 : K2 d c H (upd H d (.lst [.ref c, .int a, .int (t + 1)])) := fun b' o e hb _ => by rw [upd_ne hb]; exact e
    dsimp only [List.set]
    generalize upd H d (.lst [.ref c, .int a, .int (t + 1)]) = H1 at h1 hc1 k1 ⊢
    refine ⟨_, rfl, Or.inl ⟨_, _, _, _, rfl, rfl, SqL.of h1, rfl, ?_⟩⟩
    refine ⟨_, rfl, Or.inl ⟨_, _, _, _, rfl, rfl, SqL.of h1, rfl, _, rfl, _, _, rfl, Or.inl ⟨_, SqL.of hc1, rfl⟩, _, _, rfl, rfl, (by rw [List.length_map]; show (0 : Int) < (ns.length : Int); omega), ?_⟩⟩
    have a0 : 0 ≤ (t + 1) % (((ns.map V.int).length : Nat) : Int) := Int.emod_nonneg _ (by rw [List.length_map]; omega)
    have a1 : (t + 1) % (((ns.map V.int).length : Nat) : Int) < (((ns.map V.int).length : Nat) : Int) := Int.emod_lt_of_pos _ (by rw [List.length_map]; omega)
    dsimp only [gName, List.set]
    generalize (t + 1) % (((ns.map V.int).length : Nat) : Int) = at_ at a0 a1 ⊢
    obtain ⟨k, rfl⟩ : ∃ k : Nat, at_ = k := ⟨at_.toNat, by omega⟩
    rw [List.length_map] at a1
    have hk : k < ns.length := by omega
    have ek : (ns.map V.int)[k]? = some (.int ns[k]) := by rw [List.getElem?_map, List.getElem?_eq_getElem hk]; rfl
    refine tSeq_cut (fun σ' H' => ∃ v4 : Option V, σ' = [some (.ref d), some (.int most), some (.ref c), some (.int (k : Nat)), v4, none, none, none] ∧ H' = H1) ?_ (fun rest => ?_)
    · rintro _ H1 ⟨v4, rfl, rfl⟩
      refine ⟨_, rfl, Or.inl ⟨_, _, _, _, rfl, rfl, SqL.of h1, rfl, ?_⟩⟩
      refine ⟨_, rfl, _, rfl, Or.inl ⟨_, _, _, _, rfl, rfl, SqL.of hc1, atI_nat ek, ?_⟩⟩
      refine ⟨_, rfl, Or.inl ⟨_, _, _, _, rfl, rfl, SqL.of h1, rfl, _, _, rfl, rfl, ?_⟩⟩
      refine ⟨_, rfl, _, rfl, _, _, rfl, rfl, Or.inl ⟨by decide, by decide⟩, _, rfl, _, _, rfl, rfl, Or.inr ⟨by omega, by omega⟩, _, _, rfl, rfl, ?_⟩
      refine ⟨_, rfl, _, _, rfl, rfl, Or.inl ⟨by decide, by decide⟩, _, _, rfl, rfl, _, _, rfl, rfl, (by show (0 : Int) < 2147483579; decide), ?_⟩
      have b1 : (0 : Int) ≤ (ns[k] + a + 70001 * (t + 1) * (t + 1) + 4999 * (t + 1)) % 2147483579 := Int.emod_nonneg _ (by decide)
      have b2 : (ns[k] + a + 70001 * (t + 1) * (t + 1) + 4999 * (t + 1)) % 2147483579 < (2147483579 : Int) := Int.emod_lt_of_pos _ (by decide)
      generalize (ns[k] + a + 70001 * (t + 1) * (t + 1) + 4999 * (t + 1)) % 2147483579 = o1 at b1 b2
      refine ⟨_, rfl, _, rfl, _, _, rfl, rfl, Or.inl ⟨by omega, by omega⟩, _, _, rfl, rfl, (by show (0 : Int) < 2147483549; decide), ?_⟩
      refine ⟨_, rfl, _, _, rfl, rfl, Or.inr ⟨by decide, by decide⟩, _, rfl, _, _, rfl, rfl, Or.inr ⟨by decide, by decide⟩, _, _, rfl, rfl, _, _, rfl, rfl, (by show (0 : Int) < 2147483543; decide), _, _, rfl, rfl, ⟨(by show (0 : Int) < 17; decide), by show (17 : Int) < 2 ^ 62; decide⟩, _, rfl, _, _, rfl, rfl, m0, ?_⟩
      exact q _ _ (Int.emod_nonneg _ (by omega)) (Int.emod_lt_of_pos _ m0) ⟨nde, ns, a, t + 1, h1, hc1, l1, l2, by omega, by omega⟩ k1
    · refine ⟨_, rfl, _, rfl, Or.inl ⟨_, _, _, _, rfl, rfl, SqL.of hc1, atI_nat ek, ?_⟩⟩
      refine ⟨_, _, rfl, rfl, ⟨by decide, by decide, by decide⟩, _, _, rfl, rfl, _, rfl, ?_⟩
      refine ite2 (fun hz => ?_) (fun hz => rest _ _ ⟨none, rfl, rfl⟩)
      refine ⟨_, rfl, _, rfl, Or.inl ⟨_, _, _, _, rfl, rfl, SqL.of hc1, atI_nat ek, _, rfl, _, _, rfl, rfl, m0, ?_⟩⟩
      refine ⟨_, rfl, _, rfl, Or.inl ⟨_, _, _, _, rfl, rfl, SqL.of hc1, atI_nat ek, _, rfl, _, _, rfl, rfl, ⟨m0, by omega⟩, ?_⟩⟩
      have eix : ixN (ns.map V.int).length (k : Int) = some k := by
        unfold ixN
        rw [List.length_map, if_pos (by omega), if_pos (by omega)]
        rfl
      refine ⟨_, rfl, _, rfl, _, _, _, k, rfl, rfl, hc1, eix, _, rfl, ?_⟩
      refine q _ _ (Int.emod_nonneg _ (by omega)) (Int.emod_lt_of_pos _ m0) ⟨nde, ns.set k (ns[k] / most), a, t + 1, by rw [upd_ne nde]; exact h1, by rw [upd_same, List.map_set], by rw [List.length_set]; exact l1, by rw [List.length_set]; exact l2, by omega, by omega⟩ fun b' o e hb hb2 => ?_
      rw [upd_ne hb2]
      exact k1 b' o e hb hb2
def spNum3 : Sp := fun vs H Q _ => ∃ (d c : Addr) (kind : Int) (n : Nat), vs = [.ref d, .int kind] ∧ Dk H d c n ∧ n ≤ 1000000 ∧ ∀ (x : Int) (H' : Hp), -1000000000 ≤ x → x ≤ 1000000000 → Dk H' d c (n + 3) → K2 d c H H' → Q (.int x) H'
theorem df_law_number (T : Txt K mg) : Df P w K mg base 2 "_law_number" ["deck", "kind"] spNum3 := by
  refine T.d_law_number.ok sc_law_number (fun vs H Q E h => ?_) (fun f cdv A outer s H vs Q E hr h => ?_)
  · obtain ⟨d, c, kind, n, rfl, _⟩ := h
    rfl
  · obtain ⟨d, c, kind, n, rfl, D, hn, q⟩ := h
    refine ⟨_, (@pss_cons _ _ _ _ _ (@ps_if _ _ _ _ _ _ _ _ (@pt_cmpR _ _ _ _ _ _ _ _ (op_eqA hr.units) (pv 1) pe_int (nomark _)) (@pss_one _ _ _ (@ps_ret _ _ _ _ (@pe_op _ _ _ _ _ _ _ _ op_sub (@pe_df _ _ _ _ _ _ _ _ _ _ (df_law_draw T) (hr.mono (by decide)) (@pa_cons _ _ _ _ _ (pv 0) (@pa_cons _ _ _ _ _ pe_int pa_nil (by rfl)) (by rfl)) (by rfl) (by decide) (by rfl) (by rfl)) pe_int))) pss_nil)
      (@pss_cons _ _ _ _ _ (@ps_if _ _ _ _ _ _ _ _ (@pt_cmpR _ _ _ _ _ _ _ _ (op_eqA hr.units) (pv 1) pe_int (nomark _)) (@pss_one _ _ _ (@ps_ret _ _ _ _ (@pe_op _ _ _ _ _ _ _ _ op_sub (@pe_df _ _ _ _ _ _ _ _ _ _ (df_law_draw T) (hr.mono (by decide)) (@pa_cons _ _ _ _ _ (pv 0) (@pa_cons _ _ _ _ _ pe_int pa_nil (by rfl)) (by rfl)) (by rfl) (by decide) (by rfl) (by rfl)) pe_int))) pss_nil)
      (@pss_one _ _ _ (@ps_ret _ _ _ _ (@pe_op _ _ _ _ _ _ _ _ op_sub (@pe_op _ _ _ _ _ _ _ _ op_add (@pe_op _ _ _ _ _ _ _ _ op_mul (@pe_df _ _ _ _ _ _ _ _ _ _ (df_law_draw T) (hr.mono (by decide)) (@pa_cons _ _ _ _ _ (pv 0) (@pa_cons _ _ _ _ _ (@pe_op _ _ _ _ _ _ _ _ op_pow pe_int pe_int) pa_nil star_bin) (by rfl)) (by rfl) (by decide) (by rfl) (by rfl)) (@pe_op _ _ _ _ _ _ _ _ op_pow pe_int pe_int)) (@pe_df _ _ _ _ _ _ _ _ _ _ (df_law_draw T) (hr.mono (by decide)) (@pa_cons _ _ _ _ _ (pv 0) (@pa_cons _ _ _ _ _ (@pe_op _ _ _ _ _ _ _ _ op_pow pe_int pe_int) pa_nil star_bin) (by rfl)) (by rfl) (by decide) (by rfl) (by rfl))) (@pe_ix _ _ _ _ _ _ _ (ix_seqK (K := K) rfl) (@pe_lst _ _ _ _ (@pa_cons _ _ _ _ _ pe_int (@pa_cons _ _ _ _ _ (@pe_op _ _ _ _ _ _ _ _ op_pow pe_int pe_int) pa_nil star_bin) (by rfl))) (@pe_df _ _ _ _ _ _ _ _ _ _ (df_law_draw T) (hr.mono (by decide)) (@pa_cons _ _ _ _ _ (pv 0) (@pa_cons _ _ _ _ _ pe_int pa_nil (by rfl)) (by rfl)) (by rfl) (by decide) (by rfl) (by rfl)) (fun _ _ => rfl))))))), ?_⟩
    refine ⟨_, rfl, Or.inl ⟨rfl, _, rfl, ?_⟩⟩
    refine ite2 (fun _ => ?_) (fun _ => ?_)
    · exact ⟨_, rfl, _, _, _, _, rfl, D, (by decide), (by decide), by omega, fun x H1 x0 x1 D1 k1 => ⟨_, _, rfl, rfl, q (x - 1) H1 (by omega) (by omega) (D1.mono (by omega)) k1⟩⟩
    refine ⟨_, rfl, Or.inl ⟨rfl, _, rfl, ?_⟩⟩
    refine ite2 (fun _ => ?_) (fun _ => ?_)
    · exact ⟨_, rfl, _, _, _, _, rfl, D, (by decide), (by decide), by omega, fun x H1 x0 x1 D1 k1 => ⟨_, _, rfl, rfl, q (x - 20) H1 (by omega) (by omega) (D1.mono (by omega)) k1⟩⟩
    have e5 : (10 : Int) ^ (5 : Int).toNat = 100000 := by decide
    have e4 : (10 : Int) ^ (4 : Int).toNat = 10000 := by decide
    have e9 : (10 : Int) ^ (9 : Int).toNat = 1000000000 := by decide
    refine ⟨_, rfl, _, _, rfl, rfl, ⟨by decide, by decide, by decide⟩, _, _, _, _, rfl, D, (by decide), (by decide), by omega, fun x H1 x0 x1 D1 k1 => ?_⟩
    refine ⟨_, _, rfl, rfl, ⟨by decide, by decide, by decide⟩, _, _, rfl, rfl, Or.inr ⟨by decide, by decide⟩, ?_⟩
    refine ⟨_, rfl, _, _, rfl, rfl, ⟨by decide, by decide, by decide⟩, _, _, _, _, rfl, D1, (by decide), (by decide), by omega, fun y H2 y0 y1 D2 k2 => ?_⟩
    refine ⟨_, _, rfl, rfl, ?_⟩
    refine ⟨_, _, rfl, rfl, ⟨by decide, by decide, by decide⟩, (by show 2 ≤ sizeLine; decide), fun p hp => ?_⟩
    refine ⟨_, rfl, _, _, _, _, rfl, D2.upd hp, (by decide), (by decide), by omega, fun z H3 z0 z1 D3 k3 => ?_⟩
    rw [e5] at x1
    rw [e4] at y1
    have hp3 := k3 p _ upd_same (D2.nd hp).1 (D2.nd hp).2
    obtain ⟨m, em, hm⟩ := pickI (x := z) (ms := [0, (10 : Int) ^ (9 : Int).toNat]) z0 (by exact z1)
    refine Or.inl ⟨_, _, _, _, rfl, rfl, SqL.of hp3, em, _, _, rfl, rfl, ?_⟩
    rw [e9] at hm
    have hm' : m = 0 ∨ m = 1000000000 := by simpa using hm
    refine q _ H3 ?_ ?_ D3 (((k1.trans k2).upd hp).trans k3)
    · show -1000000000 ≤ x * (10 : Int) ^ (4 : Int).toNat + y - m
      rw [e4]; omega
    · show x * (10 : Int) ^ (4 : Int).toNat + y - m ≤ 1000000000
      rw [e4]; omega
def itF (g : Fld → Fld) (F : Fld) : Nat → Fld
  | 0 => F
  | k + 1 => g (itF g F k)
theorem itF_add (g : Fld → Fld) (F : Fld) (j : Nat) : ∀ i, itF g (itF g F j) i = itF g F (j + i)
  | 0 => rfl
  | i + 1 => by
    show g (itF g (itF g F j) i) = g (itF g F (j + i))
    rw [itF_add g F j i]
def Opn (g : Fld → Fld) (F : Fld) (m : Nat) : Prop := ∀ i i', i < i' → i' ≤ m → itF g F i ≠ itF g F i'
structure Back (g : Fld → Fld) (F : Fld) (j k : Nat) : Prop where
  lt : j < k
  eq : itF g F k = itF g F j
  nd : ∀ i i', i < i' → i' < k → itF g F i ≠ itF g F i'
theorem Back.uniq {g : Fld → Fld} {F : Fld} {j k j' k' : Nat} (h : Back g F j k) (h' : Back g F j' k') : j = j' ∧ k = k' := by
  have e : k = k' := by
    rcases Nat.lt_trichotomy k k' with z | z | z
    · exact absurd h.eq.symm (h'.nd j k h.lt z)
    · exact z
    · exact absurd h'.eq.symm (h.nd j' k' h'.lt z)
  subst e
  refine ⟨?_, rfl⟩
  have e2 := h.eq.symm.trans h'.eq
  rcases Nat.lt_trichotomy j j' with z | z | z
  · exact absurd e2 (h.nd j j' z h'.lt)
  · exact z
  · exact absurd e2.symm (h.nd j' j z h.lt)
theorem Back.not_opn {g : Fld → Fld} {F : Fld} {j k m : Nat} (h : Back g F j k) (hm : k ≤ m) : ¬ Opn g F m := fun o => o j k h.lt hm h.eq.symm
def tlD (s : Str) (F : Fld) (ns : List Int) : PyData := .tuple (.str s :: fieldD F :: (ns.map some).map cellD)
inductive TD (g : Fld → Fld) (F : Fld) (m : Nat) : PyData → Prop
  | opn : Opn g F m → TD g F m (tlD "open" (itF g F m) [])
  | still {j : Nat} : Back g F j (j + 1) → j + 1 ≤ m → TD g F m (tlD "still" (itF g F j) [(j : Int)])
  | round {j k : Nat} : Back g F j k → k ≤ m → j + 2 ≤ k → TD g F m (tlD "round" (itF g F j) [(j : Int), (k : Int) - (j : Int)])
theorem TD.still_uniq {g : Fld → Fld} {F : Fld} {m j : Nat} {d : PyData} (h : TD g F m d) (b : Back g F j (j + 1)) (hm : j + 1 ≤ m) : d = tlD "still" (itF g F j) [(j : Int)] := by
  cases h with
  | opn o => exact absurd o (b.not_opn hm)
  | still b' _ => rw [(b'.uniq b).1]
  | round b' _ h2 =>
    have := b'.uniq b
    omega
theorem TD.round_uniq {g : Fld → Fld} {F : Fld} {m j k : Nat} {d : PyData} (h : TD g F m d) (b : Back g F j k) (hm : k ≤ m) (h2 : j + 2 ≤ k) : d = tlD "round" (itF g F j) [(j : Int), (k : Int) - (j : Int)] := by
  cases h with
  | opn o => exact absurd o (b.not_opn hm)
  | still b' _ =>
    have := b'.uniq b
    omega
  | round b' _ _ =>
    obtain ⟨e1, e2⟩ := b'.uniq b
    rw [e1, e2]
def TimesOf (g : Fld → Fld) (F : Fld) (i : Nat) (xs : List (Fld × Addr × Int)) : Prop := xs.map (fun x => (x.1, x.2.2)) = (List.range (i + 1)).map fun k : Nat => (itF g F k, (k : Int))
theorem atF_times {g : Fld → Fld} {F : Fld} {i : Nat} {xs : List (Fld × Addr × Int)} (h : TimesOf g F i xs) (G : Fld) : atF xs G = ((List.range (i + 1)).find? fun k => decide (itF g F k = G)).map fun k : Nat => (k : Int) := by
  unfold TimesOf at h
  have e1 : atF xs G = ((xs.map (fun x => (x.1, x.2.2))).find? fun y => decide (y.1 = G)).map (·.2) := by
    rw [List.find?_map, Option.map_map]
    rfl
  rw [e1, h, List.find?_map, Option.map_map]
  rfl
theorem times_none {g : Fld → Fld} {F : Fld} {i : Nat} {xs : List (Fld × Addr × Int)} (h : TimesOf g F i xs) {G : Fld} (e : atF xs G = none) : ∀ k, k ≤ i → itF g F k ≠ G := fun k hk => by
  rw [atF_times h] at e
  have := List.find?_eq_none.mp (Option.map_eq_none_iff.mp e) k (List.mem_range.mpr (by omega))
  simpa using this
theorem times_some {g : Fld → Fld} {F : Fld} {i : Nat} {xs : List (Fld × Addr × Int)} (h : TimesOf g F i xs) {G : Fld} {n : Int} (e : atF xs G = some n) : ∃ k : Nat, k ≤ i ∧ n = k ∧ itF g F k = G := by
  rw [atF_times h] at e
  obtain ⟨k, e1, e2⟩ := Option.map_eq_some_iff.mp e
  have m := List.mem_of_find?_eq_some e1
  have p := List.find?_some e1
  exact ⟨k, by have := List.mem_range.mp m; omega, e2.symm, by simpa using p⟩
theorem times_snoc {g : Fld → Fld} {F : Fld} {i : Nat} {xs : List (Fld × Addr × Int)} (h : TimesOf g F i xs) (b : Addr) : TimesOf g F (i + 1) (xs ++ [(itF g F (i + 1), b, ((i + 1 : Nat) : Int))]) := by
  unfold TimesOf at h ⊢
  rw [List.map_append, h, List.range_succ (n := i + 1), List.map_append]
  rfl
theorem times_len {g : Fld → Fld} {F : Fld} {i : Nat} {xs : List (Fld × Addr × Int)} (h : TimesOf g F i xs) : xs.length = i + 1 := by
  have := congrArg List.length h
  rwa [List.length_map, List.length_map, List.length_range] at this
theorem times_keys {g : Fld → Fld} {F : Fld} {i : Nat} {xs : List (Fld × Addr × Int)} (h : TimesOf g F i xs) : xs.map (·.1) = (List.range (i + 1)).map (itF g F) := by
  have := congrArg (List.map Prod.fst) h
  rw [List.map_map, List.map_map] at this
  exact this
def gf (ru : Rule) (u d l r : Nat) (a b : Int) : Fld → Fld := fun F => fil F ru u d l r a b
theorem itF_rect {F : Fld} (R : Rect F) (ru : Rule) (u d l r : Nat) (a b : Int) : ∀ k, Rect (itF (gf ru u d l r a b) F k)
  | 0 => R
  | k + 1 => (itF_rect R ru u d l r a b k).fil _ _ _ _ _ _ _
def spCome : Sp := fun vs H Q _ => ∃ (fv : V) (F : Fld) (t r : Int), vs = [fv, .int t, .int r] ∧ IsD H fv (fieldD F) ∧ ∀ (v : V) (H' : Hp), Same H H' → IsD H' v (if r = 1 then tlD "still" F [t] else tlD "round" F [t, r]) → Q v H'
theorem df_come_again (T : Txt K mg) : Df P w K mg base 1 "come_again" ["field", "times", "ring"] spCome := by
  refine T.d_come_again.ok sc_come_again (fun vs H Q E h => ?_) (fun f cdv A outer s H vs Q E hr h => ?_)
  · obtain ⟨fv, F, t, r, rfl, _⟩ := h
    rfl
  · obtain ⟨fv, F, t, r, rfl, hf, q⟩ := h
    refine ⟨_, (@pss_cons _ _ _ _ _ (@ps_if _ _ _ _ _ _ _ _ (@pt_cmpR _ _ _ _ _ _ _ _ (op_eqA hr.units) (pv 2) pe_int (nomark _)) (@pss_one _ _ _ (@ps_ret _ _ _ _ (@pe_tup _ _ _ _ _ (@pa_cons _ _ _ _ _ pe_str (@pa_cons _ _ _ _ _ (pv 0) (@pa_cons _ _ _ _ _ (pv 1) pa_nil (by rfl)) (by rfl)) (by rfl))))) pss_nil)
      (@pss_one _ _ _ (@ps_ret _ _ _ _ (@pe_tup _ _ _ _ _ (@pa_cons _ _ _ _ _ pe_str (@pa_cons _ _ _ _ _ (pv 0) (@pa_cons _ _ _ _ _ (pv 1) (@pa_cons _ _ _ _ _ (pv 2) pa_nil (by rfl)) (by rfl)) (by rfl)) (by rfl)))))), ?_⟩
    refine ⟨_, rfl, Or.inl ⟨rfl, _, rfl, ?_⟩⟩
    refine ite2 (fun z => ?_) (fun z => ?_)
    · have z' : r = 1 := V.int.inj (of_decide_eq_true z)
      refine ⟨_, rfl, _, rfl, (by show 3 ≤ sizeLine; decide), fun p hp => ?_⟩
      have st := same_upd (o := .tup [.str "still", fv, .int t]) hp
      refine q _ _ st ?_
      rw [if_pos z']
      exact .tup upd_same (.cons (.str _) (.cons (hf.keep st.tups) (.cons (.int _) .nil)))
    · have z' : r ≠ 1 := fun e => z (decide_eq_true (by rw [e]))
      refine ⟨_, rfl, _, rfl, _, rfl, (by show 4 ≤ sizeLine; decide), fun p hp => ?_⟩
      have st := same_upd (o := .tup [.str "round", fv, .int t, .int r]) hp
      refine q _ _ st ?_
      rw [if_neg z']
      exact .tup upd_same (.cons (.str _) (.cons (hf.keep st.tups) (.cons (.int _) (.cons (.int _) .nil))))
def spAgain (K : PySem.W.Frag) : Sp := fun vs H Q _ => ∃ (fv wv rv sv : V) (F : Fld) (ru : Rule) (u d l r m : Nat) (a b : Int), vs = [fv, wv, rv, sv, .int m] ∧ Rect F ∧ IsD H fv (fieldD F) ∧ IsD H wv (winD u d l r) ∧ IsD H rv (ruleD ru) ∧ Shr K H sv a b ∧ Share a b ∧
  (u ≤ 100 ∧ d ≤ 100 ∧ l ≤ 100 ∧ r ≤ 100) ∧ (u + d + 1) * (l + r + 1) ≤ 63 ∧ m ≤ 100 ∧ ∀ (v : V) (H' : Hp) (D : PyData), Same H H' → TD (gf ru u d l r a b) F m D → IsD H' v D → Q v H'
theorem df_again (T : Txt K mg) : Df P w K mg base 5 "again" ["field", "window", "rule", "share", "most"] (spAgain K) := by
  refine T.d_again.ok sc_again (fun vs H Q E h => ?_) (fun f cdv A outer s H vs Q E hr h => ?_)
  · obtain ⟨fv, wv, rv, sv, F, ru, u, d, l, r, m, a, b, rfl, _⟩ := h
    rfl
  · obtain ⟨fv, wv, rv, sv, F, ru, u, d, l, r, m, a, b, rfl, R, hf, hw, hru, hs, hS, bb, few, hm, q⟩ := h
    obtain ⟨fa, xs, rfl, hfa, hxs⟩ := isField_inv hf
    refine ⟨_, (@pss_cons _ _ _ _ _ (@ps_set _ _ 5 _ _ _ _ sc_again.nd rfl (by first | exact Or.inl rfl | exact Or.inr rfl) (pv 0) (by rfl) (by first | exact .inl rfl | exact .inr rfl))
      (@pss_cons _ _ _ _ _ (@ps_set _ _ 6 _ _ _ _ sc_again.nd rfl (by first | exact Or.inl rfl | exact Or.inr rfl) (pe_fd1 (hu80 hr) (pps_cons (pv 5) pe_int pps_nil)) (by rfl) (by first | exact .inl rfl | exact .inr rfl))
      (@pss_cons _ _ _ _ _ (@ps_for _ _ _ _ _ _ _ _ PassesOwn.never rfl (pi_range2 (by rfl) T.n_range (@pa_cons _ _ _ _ _ pe_int (@pa_cons _ _ _ _ _ (@pe_op _ _ _ _ _ _ _ _ op_add (pv 4) pe_int) pa_nil star_bin) (by rfl))) (pg_name (i := 7) sc_again.nd rfl (by first | exact Or.inl rfl | exact Or.inr rfl)) (@pss_cons _ _ _ _ _ (@ps_set _ _ 5 _ _ _ _ sc_again.nd rfl (by first | exact Or.inl rfl | exact Or.inr rfl) (@pe_df _ _ _ _ _ _ _ _ _ _ (df_filtered T) (hr.mono (by decide)) (@pa_cons _ _ _ _ _ (pv 5) (@pa_cons _ _ _ _ _ (pv 1) (@pa_cons _ _ _ _ _ (pv 2) (@pa_cons _ _ _ _ _ (pv 3) pa_nil (by rfl)) (by rfl)) (by rfl)) (by rfl)) (by rfl) (by decide) (by rfl) (by rfl)) (by rfl) (by first | exact .inl rfl | exact .inr rfl))
      (@pss_cons _ _ _ _ _ (@ps_if _ _ _ _ _ _ _ _ (@pt_cmpR _ _ _ _ _ _ _ _ (op_fin (hu80 hr)) (pv 5) (pv 6) (by rfl)) (@pss_one _ _ _ (@ps_ret _ _ _ _ (@pe_df _ _ _ _ _ _ _ _ _ _ (df_come_again T) (hr.mono (by decide)) (@pa_cons _ _ _ _ _ (pv 5) (@pa_cons _ _ _ _ _ (pe_fget (hu80 hr) (pv 6) (pv 5) (fun _ _ => rfl)) (@pa_cons _ _ _ _ _ (@pe_op _ _ _ _ _ _ _ _ op_sub (pv 7) (pe_fget (hu80 hr) (pv 6) (pv 5) (fun _ _ => rfl))) pa_nil star_bin) star_sub) (by rfl)) (by rfl) (by decide) (by rfl) (by rfl)))) pss_nil)
      (@pss_one _ _ _ (ps_fput (hu80 hr) (pv 6) (pv 5) (pv 7) rfl)))) (by intro _; rfl))
      (@pss_one _ _ _ (@ps_ret _ _ _ _ (@pe_tup _ _ _ _ _ (@pa_cons _ _ _ _ _ pe_str (@pa_cons _ _ _ _ _ (pv 5) pa_nil (by rfl)) (by rfl)))))))), ?_⟩
    refine ⟨_, rfl, fun c hc => ?_⟩
    have s0 := same_upd (o := FDic c []) hc
    refine ⟨_, rfl, F, fa, 0, rfl, hf.keep s0.tups, upd_same, ?_⟩
    have s1 : Same H (upd (upd H c (FDic c [])) c (FDic c [(F, fa, 0)])) := fun b' o e => by
      rw [upd_ne (ne_of_none e hc), upd_ne (ne_of_none e hc)]; exact e
    have oldne : ∀ b' o, H b' = some o → b' ≠ c := fun b' o e => ne_of_none e hc
    have hc1 : upd (upd H c (FDic c [])) c (FDic c [(F, fa, 0)]) c = some (FDic c [(F, fa, 0)]) := upd_same
    generalize upd (upd H c (FDic c [])) c (FDic c [(F, fa, 0)]) = H1 at s1 hc1 ⊢
    have keepH : ∀ {H' : Hp}, KeepBut c H1 H' → Same H H' := fun k b' o e => k b' o (s1 b' o e) (oldne b' o e)
    have g1 : TimesOf (gf ru u d l r a b) F 0 [(F, fa, 0)] := rfl
    refine ⟨_, rfl, _, _, rfl, rfl, _, _, rfl, ⟨by omega, by omega, by omega, by omega⟩, ?_⟩
    refine for_range (n := ((m : Int) + 1 - 1).toNat) (fun i σ H' => ∃ (nv : V) (v7 : Option V) (xs : List (Fld × Addr × Int)), σ = [some (.ref fa), some wv, some rv, some sv, some (.int m), some nv, some (.ref c), v7] ∧ KeepBut c H1 H' ∧ H' c = some (FDic c xs) ∧ FKeys H' xs ∧ TimesOf (gf ru u d l r a b) F i xs ∧ IsD H' nv (fieldD (itF (gf ru u d l r a b) F i)) ∧ Opn (gf ru u d l r a b) F i)
      ⟨_, none, _, rfl, KeepBut.refl _ _, hc1, ⟨fun x hx => ?_, by simp⟩, g1, hf.keep s1.tups, fun i i' h1 h2 => by omega⟩ ?_ ?_
    · obtain rfl : x = (F, fa, 0) := by simpa using hx
      exact hf.keep s1.tups
    · rintro i _ H2 hi ⟨nv, v7, ys, rfl, k2, hc2, hk2, ht2, hn2, ho2⟩
      have hi' : i < m := by
        have : i < ((m : Int) + 1 - 1).toNat := hi
        omega
      have S2 := keepH k2
      have RI := itF_rect R ru u d l r a b i
      refine ⟨_, rfl, _, rfl, _, rfl, _, rfl, _, _, _, _, _, ru, u, d, l, r, a, b, rfl, RI, hn2, hw.keep S2.tups, hru.keep S2.tups, hs.keep S2.tups, hS, bb, few, fun v H3 s3 hv => ?_⟩
      have S3 := S2.trans s3
      have hc3 := s3 _ _ hc2
      have hk3 := hk2.keep s3.tups
      obtain ⟨va, _, rfl, _, _⟩ := isField_inv hv
      have hv' : IsD H3 (.ref va) (fieldD (itF (gf ru u d l r a b) F (i + 1))) := hv
      have ask : FAsk H3 (.ref c) (.ref va) ys (itF (gf ru u d l r a b) F (i + 1)) := ⟨c, va, rfl, hc3, hk3, rfl, hv'⟩
      refine ⟨_, rfl, _, rfl, _, _, ask, _, rfl, ?_⟩
      cases e : atF ys (itF (gf ru u d l r a b) F (i + 1)) with
      | some n =>
        refine iteT ?_
        obtain ⟨k, hk, rfl, ek⟩ := times_some ht2 e
        have bk : Back (gf ru u d l r a b) F k (i + 1) := ⟨by omega, ek.symm, fun x y h1 h2 => ho2 x y h1 (by omega)⟩
        refine ⟨_, rfl, _, rfl, _, rfl, _, _, _, ask, e, _, rfl, _, rfl, _, rfl, _, _, _, ask, e, _, _, rfl, rfl, _, _, _, _, rfl, hv', fun v H4 s4 h4 => ?_⟩
        refine q v H4 _ (S3.trans s4) ?_ h4
        by_cases z : (1 : Int) + (i : Int) - (k : Int) = 1
        · rw [if_pos z]
          have : k = i := by omega
          subst this
          have := TD.still bk hi'
          rw [show itF (gf ru u d l r a b) F (k + 1) = itF (gf ru u d l r a b) F k from ek.symm]
          exact this
        · rw [if_neg z]
          have := TD.round bk hi' (by omega)
          rw [← ek]
          have e2 : (1 : Int) + (i : Int) - (k : Int) = ((i + 1 : Nat) : Int) - (k : Int) := by omega
          rw [e2]
          exact this
      | none =>
        refine iteF ?_
        have non := times_none ht2 e
        have l2 := times_len ht2
        refine ⟨_, rfl, _, rfl, _, rfl, ys, _, (1 : Int) + (i : Int), c, va, rfl, hc3, hk3, rfl, hv', rfl, e, by omega, ?_⟩
        have kt : KeepT H3 (upd H3 c (FDic c (ys ++ [(itF (gf ru u d l r a b) F (i + 1), va, (1 : Int) + (i : Int))]))) := fun b' zs e' => by
          rw [upd_ne (ne_of e' hc3 fun z => by cases z)]; exact e'
        have e2 : (1 : Int) + (i : Int) = ((i + 1 : Nat) : Int) := by omega
        refine ⟨_, _, _, rfl, fun b' o e' n => ?_, upd_same, ⟨fun x hx => ?_, ?_⟩, by rw [e2]; exact times_snoc ht2 va, hv'.keep kt, fun x y h1 h2 => ?_⟩
        · rw [upd_ne n]; exact s3 _ _ (k2 b' o e' n)
        · rcases List.mem_append.mp hx with z | z
          · exact (hk3.at_ x z).keep kt
          · obtain rfl := List.mem_singleton.mp z
            exact hv'.keep kt
        · rw [List.map_append, List.nodup_append]
          refine ⟨hk2.nd, by simp, fun x hx y hy => ?_⟩
          rw [times_keys ht2] at hx
          obtain ⟨k, hk, rfl⟩ := List.mem_map.mp hx
          obtain rfl : y = itF (gf ru u d l r a b) F (i + 1) := by simpa using hy
          exact non k (by have := List.mem_range.mp hk; omega)
        · by_cases z : y ≤ i
          · exact ho2 x y h1 z
          · obtain rfl : y = i + 1 := by omega
            exact non x (by omega)
    · rintro _ H2 ⟨nv, v7, ys, rfl, k2, hc2, hk2, ht2, hn2, ho2⟩
      have em : ((m : Int) + 1 - 1).toNat = m := by omega
      rw [em] at hn2 ho2
      refine ⟨_, rfl, (by show 2 ≤ sizeLine; decide), fun p hp => ?_⟩
      have st := same_upd (o := .tup [.str "open", nv]) hp
      exact q _ _ _ ((keepH k2).trans st) (.opn ho2) (.tup upd_same (.cons (.str _) (.cons (hn2.keep st.tups) .nil)))
mutual
def plainS : PyData → Bool
  | .none | .int _ | .str _ => true
  | .tuple ds => decide (ds.length ≤ 100000) && plainSs ds
  | _ => false
def plainSs : List PyData → Bool
  | [] => true
  | d :: ds => plainS d && plainSs ds
end
theorem plainSs_get : ∀ {ds : List PyData} {i : Nat} {d : PyData}, plainSs ds = true → ds[i]? = some d → plainS d = true
  | [], i, d, _, e => by simp at e
  | x :: ds, 0, d, h, e => by
    simp at e; subst e
    rw [plainSs, Bool.and_eq_true] at h
    exact h.1
  | x :: ds, i + 1, d, h, e => by
    rw [plainSs, Bool.and_eq_true] at h
    exact plainSs_get (i := i) h.2 (by simpa using e)
theorem plainS_cell (c : Option Int) : plainS (cellD c) = true := by cases c <;> rfl
theorem plainS_cells : ∀ r : List (Option Int), plainSs (r.map cellD) = true
  | [] => rfl
  | c :: r => by rw [List.map_cons, plainSs, plainS_cell, plainS_cells r]; rfl
theorem plainS_row {r : List (Option Int)} (h : r.length ≤ 100000) : plainS (rowD r) = true := by
  show (decide ((r.map cellD).length ≤ 100000) && plainSs (r.map cellD)) = true
  rw [plainS_cells, List.length_map, decide_eq_true h]; rfl
theorem plainS_rows : ∀ {F : List (List (Option Int))}, (∀ r ∈ F, r.length ≤ 100000) → plainSs (F.map rowD) = true
  | [], _ => rfl
  | r :: F, h => by rw [List.map_cons, plainSs, plainS_row (h r List.mem_cons_self), plainS_rows fun r' hr' => h r' (List.mem_cons_of_mem _ hr')]; rfl
theorem plainS_field {F : List (List (Option Int))} (R : Rect F) : plainS (fieldD F) = true := by
  have hs := R.hs
  have ws := R.ws
  show (decide ((F.map rowD).length ≤ 100000) && plainSs (F.map rowD)) = true
  rw [plainS_rows fun r hr => by rw [R.row r hr]; omega, List.length_map, decide_eq_true (by omega)]; rfl
def spSame (e : Nat) : Sp := fun vs H Q _ => ∃ (f d : V) (D : PyData), vs = [f, d] ∧ IsD H f D ∧ IsD H d D ∧ plainS D = true ∧ D.depth < e ∧ ∀ H', Same H H' → Q (.bl true) H'
theorem df_same_at (T : Txt K mg) : ∀ e : Nat, Df P w K mg base e "_law_same" ["found", "due"] (spSame e) := by
  intro e
  induction e with
  | zero => exact T.d_law_same.never fun vs H Q E ⟨f, d, D, _, _, _, _, h, _⟩ => Nat.not_lt_zero _ h
  | succ e ih =>
    refine T.d_law_same.ok sc_law_same (fun vs H Q E h => ?_) (fun f cdv A outer s H vs Q E hr h => ?_)
    · obtain ⟨f, d, D, rfl, _⟩ := h
      rfl
    · obtain ⟨f, d, D, rfl, hf, hd, pl, dp, q⟩ := h
      refine ⟨_, (@pss_cons _ _ _ _ _ (@ps_if _ _ _ _ _ _ _ _ (@pt_val _ _ _ (@pe_callB _ _ _ _ _ _ _ _ _ (call_isinstK (K := K) rfl) (by rfl) T.n_isinstance bt_isinstance (@pa_cons _ _ _ _ _ (pv 1) (@pa_cons _ _ _ _ _ (pe_bltn (v := .ty "tuple") (by rfl) T.n_tuple bt_tuple rfl) pa_nil (by rfl)) (by rfl)) (by decide) (by decide) (by rfl) (by rfl)) (by intro _; rfl)) (@pss_cons _ _ _ _ _ (@ps_if _ _ _ _ _ _ _ _ (pw_or (@pt_not _ _ _ _ (@pt_val _ _ _ (@pe_callB _ _ _ _ _ _ _ _ _ (call_isinstK (K := K) rfl) (by rfl) T.n_isinstance bt_isinstance (@pa_cons _ _ _ _ _ (pv 0) (@pa_cons _ _ _ _ _ (pe_bltn (v := .ty "tuple") (by rfl) T.n_tuple bt_tuple rfl) pa_nil (by rfl)) (by rfl)) (by decide) (by decide) (by rfl) (by rfl)) (by intro _; rfl))) (pw_or1 (@pt_cmpR _ _ _ _ _ _ _ _ (op_neA hr.units) (@pe_callB _ _ _ _ _ _ _ _ _ (call_lenK (K := K) rfl) (by rfl) T.n_len bt_len (@pa_cons _ _ _ _ _ (pv 0) pa_nil (by rfl)) (by decide) (by decide) (by rfl) (by rfl)) (@pe_callB _ _ _ _ _ _ _ _ _ (call_lenK (K := K) rfl) (by rfl) T.n_len bt_len (@pa_cons _ _ _ _ _ (pv 1) pa_nil (by rfl)) (by decide) (by decide) (by rfl) (by rfl)) (nomark _)))).pt (@pss_one _ _ _ (@ps_ret _ _ _ _ pe_bl)) pss_nil)
      (@pss_one _ _ _ (@ps_ret _ _ _ _ (@pe_cmpR _ _ _ _ _ _ _ _ (op_eqX hr.units) (pe_compIf2 (K := K) (M := []) (idx := []) rfl rfl (pi_zip (by rfl) T.n_zip (@pa_cons _ _ _ _ _ (pv 0) (@pa_cons _ _ _ _ _ (pv 1) pa_nil (by rfl)) (by rfl))) (compOk (by kernel_rfl)) (by decide +kernel) (by first | exact Or.inl rfl | exact Or.inr rfl) (by first | exact Or.inl rfl | exact Or.inr rfl) (fun _ _ _ _ _ => pts_one (@pt_not _ _ _ _ (@pt_val _ _ _ (@pe_df _ _ _ _ _ _ _ _ _ _ ih hr (@pa_cons _ _ _ _ _ (pv 0) (@pa_cons _ _ _ _ _ (pv 1) pa_nil (by rfl)) (by rfl)) (by rfl) (by decide) (by rfl) (by rfl)) (by intro _; rfl)))) (fun _ _ _ _ _ => pe_int)) (@pe_lst _ _ _ _ pa_nil) (nomark _))))) pss_nil)
      (@pss_cons _ _ _ _ _ (@ps_if _ _ _ _ _ _ _ _ (@pt_val _ _ _ (@pe_callB _ _ _ _ _ _ _ _ _ (call_isinstK (K := K) rfl) (by rfl) T.n_isinstance bt_isinstance (@pa_cons _ _ _ _ _ (pv 1) (@pa_cons _ _ _ _ _ (pe_bltn (v := .ty "str") (by rfl) T.n_str bt_str rfl) pa_nil (by rfl)) (by rfl)) (by decide) (by decide) (by rfl) (by rfl)) (by intro _; rfl)) (@pss_one _ _ _ (@ps_ret _ _ _ _ (pe_and (@pe_callB _ _ _ _ _ _ _ _ _ (call_isinstK (K := K) rfl) (by rfl) T.n_isinstance bt_isinstance (@pa_cons _ _ _ _ _ (pv 0) (@pa_cons _ _ _ _ _ (pe_bltn (v := .ty "str") (by rfl) T.n_str bt_str rfl) pa_nil (by rfl)) (by rfl)) (by decide) (by decide) (by rfl) (by rfl)) (pe_one (@pe_cmpR _ _ _ _ _ _ _ _ (op_eqA hr.units) (pv 0) (pv 1) (nomark _)))))) pss_nil)
      (@pss_cons _ _ _ _ _ (@ps_if _ _ _ _ _ _ _ _ (@pt_cmpR _ _ _ _ _ _ _ _ op_isN (pv 1) pe_non (nomark _)) (@pss_one _ _ _ (@ps_ret _ _ _ _ (@pe_cmpR _ _ _ _ _ _ _ _ op_isN (pv 0) pe_non (nomark _)))) pss_nil)
      (@pss_one _ _ _ (@ps_ret _ _ _ _ (pe_and (@pe_callB _ _ _ _ _ _ _ _ _ (call_isinstK (K := K) rfl) (by rfl) T.n_isinstance bt_isinstance (@pa_cons _ _ _ _ _ (pv 0) (@pa_cons _ _ _ _ _ (pe_bltn (v := .ty "int") (by rfl) T.n_int bt_int rfl) pa_nil (by rfl)) (by rfl)) (by decide) (by decide) (by rfl) (by rfl)) (pe_and (pe_not (@pe_callB _ _ _ _ _ _ _ _ _ (call_isinstK (K := K) rfl) (by rfl) T.n_isinstance bt_isinstance (@pa_cons _ _ _ _ _ (pv 0) (@pa_cons _ _ _ _ _ (pe_bltn (v := .ty "bool") (by rfl) T.n_bool bt_bool rfl) pa_nil (by rfl)) (by rfl)) (by decide) (by decide) (by rfl) (by rfl))) (pe_one (@pe_cmpR _ _ _ _ _ _ _ _ (op_eqA hr.units) (pv 0) (pv 1) (nomark _)))))))))), ?_⟩
      cases hd with
      | bl b => cases pl
      | str x =>
        cases hf
        refine ⟨_, rfl, _, _, _, _, rfl, rfl, rfl, _, rfl, ?_⟩
        refine iteF ?_
        refine ⟨_, rfl, _, _, _, _, rfl, rfl, rfl, _, rfl, ?_⟩
        refine iteT ?_
        refine ⟨_, rfl, _, _, _, _, rfl, rfl, rfl, _, rfl, ?_⟩
        refine iteT ?_
        refine ⟨_, rfl, _, rfl, Or.inl ⟨rfl, ?_⟩⟩
        have e : decide (V.str x = V.str x) = true := decide_eq_true rfl
        rw [e]
        exact q _ (Same.refl _)
      | non =>
        cases hf
        refine ⟨_, rfl, _, _, _, _, rfl, rfl, rfl, _, rfl, ?_⟩
        refine iteF ?_
        refine ⟨_, rfl, _, _, _, _, rfl, rfl, rfl, _, rfl, ?_⟩
        refine iteF ?_
        refine ⟨_, rfl, rfl, _, rfl, ?_⟩
        refine iteT ?_
        exact ⟨_, rfl, rfl, q _ (Same.refl _)⟩
      | int i =>
        cases hf
        refine ⟨_, rfl, _, _, _, _, rfl, rfl, rfl, _, rfl, ?_⟩
        refine iteF ?_
        refine ⟨_, rfl, _, _, _, _, rfl, rfl, rfl, _, rfl, ?_⟩
        refine iteF ?_
        refine ⟨_, rfl, rfl, _, rfl, ?_⟩
        refine iteF ?_
        refine ⟨_, rfl, _, _, _, _, rfl, rfl, rfl, _, rfl, ?_⟩
        refine iteT ?_
        refine ⟨_, rfl, _, _, _, _, rfl, rfl, rfl, _, rfl, _, rfl, ?_⟩
        refine iteT ?_
        refine ⟨_, rfl, _, rfl, Or.inl ⟨rfl, ?_⟩⟩
        have e : decide (V.int i = V.int i) = true := decide_eq_true rfl
        rw [e]
        exact q _ (Same.refl _)
      | @tup da dxs ds hda hds =>
        obtain ⟨fa, fxs, rfl, hfa, hfs⟩ := hf.tuple_inv
        rw [plainS, Bool.and_eq_true, decide_eq_true_eq] at pl
        have lf := hfs.length
        have ld := hds.length
        refine ⟨_, rfl, _, _, _, _, rfl, Or.inl ⟨rfl, _, hda⟩, rfl, _, rfl, ?_⟩
        refine iteT ?_
        refine ⟨_, rfl, _, _, _, _, rfl, Or.inl ⟨rfl, _, hfa⟩, rfl, _, rfl, ?_⟩
        refine iteF ?_
        refine ⟨_, rfl, _, _, rfl, Or.inr ⟨_, SqT.of hfa, rfl⟩, _, rfl, _, _, rfl, Or.inr ⟨_, SqT.of hda, rfl⟩, Or.inl ⟨rfl, _, rfl, ?_⟩⟩
        have e1 : decide (V.int (fxs.length : Int) = V.int (dxs.length : Int)) = true := decide_eq_true (by rw [lf, ld])
        rw [e1]
        refine iteF ?_
        refine ⟨_, rfl, _, rfl, _, _, fxs, dxs, rfl, hfa, hda, ?_⟩
        refine compW_zip (xs := fxs) (ys := dxs) (by omega) (fun j zs H' => Same H H' ∧ zs = []) ⟨Same.refl _, rfl⟩ (by rw [lf]; exact Nat.le_trans pl.1 (by decide)) (fun j zs H' _ ⟨s2, _⟩ => ⟨s2 _ _ hfa, s2 _ _ hda⟩) ?_ ?_
        · rintro i x y zs H1 t hx hy ⟨s1, rfl⟩ ht
          have hi' : i < ds.length := by have := (List.getElem?_eq_some_iff.mp hy).1; omega
          have ei : ds[i]? = some ds[i] := by simp [hi']
          obtain ⟨x', ex, hx'⟩ := hfs.get ei
          obtain ⟨y', ey', hy'⟩ := hds.get ei
          obtain rfl : x = x' := by rw [hx] at ex; exact Option.some.inj ex
          obtain rfl : y = y' := by rw [hy] at ey'; exact Option.some.inj ey'
          have st := same_upd (o := .tup [x, y]) ht
          have S1 := s1.trans st
          refine ⟨_, _, _, rfl, SqT.of upd_same, ?_⟩
          refine ⟨_, rfl, _, rfl, x, y, ds[i], rfl, hx'.keep S1.tups, hy'.keep S1.tups, plainSs_get pl.2 ei, ?_, fun H2 s2 => ?_⟩
          · have := depthAll_get ei
            have dp' : PyData.depthAll ds + 1 < e + 1 := dp
            omega
          · refine ⟨_, rfl, ?_⟩
            refine iteF ?_
            exact ⟨S1.trans s2, rfl⟩
        · rintro zs H1 ⟨s1, rfl⟩ p hp
          have sp := same_upd (o := .lst []) hp
          refine ⟨(by show 0 ≤ sizeLine; decide), fun p2 hp2 => ?_⟩
          have sp2 := same_upd (o := .lst []) hp2
          exact Or.inr ⟨_, _, _, _, _, _, rfl, rfl, sp2 _ _ upd_same, upd_same, .nil, .nil, ⟨by decide +kernel, by decide +kernel, by decide⟩, q _ ((s1.trans sp).trans sp2)⟩
theorem df_law_same (T : Txt K mg) : Df P w K mg base 5 "_law_same" ["found", "due"] (spSame 5) := df_same_at T 5
theorem cut_drop0 (xs : List V) (k : Nat) : cutV xs (some (k : Int)) none = xs.drop k := by
  unfold cutV
  rw [HT.sIx_nat]
  show (xs.drop (min k xs.length)).take (xs.length - min k xs.length) = _
  rw [List.take_of_length_le (by rw [List.length_drop]; omega)]
  rcases Nat.le_total k xs.length with z | z
  · rw [Nat.min_eq_left z]
  · rw [Nat.min_eq_right z, List.drop_of_length_le (Nat.le_refl _), List.drop_of_length_le z]
def spMoved : Sp := fun vs H Q _ => ∃ (p : Addr) (ws : List V) (xs : List (List Int)) (N : Addr → Prop) (b : Int), vs = [.ref p, .int b] ∧ H p = some (.lst ws) ∧ Ls N H ws xs ∧ (∀ x ∈ xs, 1 ≤ x.length ∧ x.length ≤ 1000) ∧ xs.length ≤ 1000 ∧
  ∀ (q : Addr) (zs : List V) (H' : Hp), Same H H' → H q = none → H' q = some (.lst zs) → Ls (fun a => H a = none) H' zs (xs.map (mv b)) → Q (.ref q) H'
theorem df_law_moved (T : Txt K mg) : Df P w K mg base 1 "_law_moved" ["rows", "by"] spMoved := by
  refine T.d_law_moved.ok sc_law_moved (fun vs H Q E h => ?_) (fun f cdv A outer s H vs Q E hr h => ?_)
  · obtain ⟨p, ws, xs, N, b, rfl, _⟩ := h
    rfl
  · obtain ⟨p, ws, xs, N, b, rfl, hp, hL, hx, hl, q⟩ := h
    refine ⟨_, (@pss_cons _ _ _ _ _ (@ps_set _ _ 2 _ _ _ _ sc_law_moved.nd rfl (by first | exact Or.inl rfl | exact Or.inr rfl) (@pe_lst _ _ _ _ pa_nil) (by rfl) (by first | exact .inl rfl | exact .inr rfl))
      (@pss_cons _ _ _ _ _ (@ps_for _ _ _ _ _ _ _ _ PassesOwn.never rfl (pi_seqK (K := K) rfl (pv 0)) (pg_name (i := 3) sc_law_moved.nd rfl (by first | exact Or.inl rfl | exact Or.inr rfl)) (@pss_cons _ _ _ _ _ (@ps_set _ _ 4 _ _ _ _ sc_law_moved.nd rfl (by first | exact Or.inl rfl | exact Or.inr rfl) (@pe_op _ _ _ _ _ _ _ _ op_sub (@pe_callB _ _ _ _ _ _ _ _ _ (call_lenK (K := K) rfl) (by rfl) T.n_len bt_len (@pa_cons _ _ _ _ _ (pv 3) pa_nil (by rfl)) (by decide) (by decide) (by rfl) (by rfl)) (@pe_op _ _ _ _ _ _ _ _ op_mod (pv 1) (@pe_callB _ _ _ _ _ _ _ _ _ (call_lenK (K := K) rfl) (by rfl) T.n_len bt_len (@pa_cons _ _ _ _ _ (pv 3) pa_nil (by rfl)) (by decide) (by decide) (by rfl) (by rfl)))) (by rfl) (by first | exact .inl rfl | exact .inr rfl))
      (@pss_one _ _ _ (@ps_expr _ _ _ _ (pe_bm PySem.F.plainAttrs_list PySem.F.slot_list_append PySem.F.type_list_append mt_append (pv 2) (@pa_cons _ _ _ _ _ (@pe_op _ _ _ _ _ _ _ _ op_cat (pe_slice (sl_X (K := K) rfl) (pv 3) (po_some (pv 4)) po_none) (pe_slice (sl_X (K := K) rfl) (pv 3) po_none (po_some (pv 4)))) pa_nil star_bin)) (by rfl)))) (by intro _; rfl))
      (@pss_one _ _ _ (@ps_ret _ _ _ _ (pv 2))))), ?_⟩
    refine ⟨(by show 0 ≤ sizeLine; decide), fun c hc => ?_⟩
    have s1 := same_upd (o := .lst []) hc
    have oldne : ∀ b o, H b = some o → b ≠ c := fun b o e => ne_of_none e hc
    have keepH : ∀ {H' : Hp}, KeepBut c (upd H c (.lst [])) H' → Same H H' := fun k b o e => k b o (s1 b o e) (oldne b o e)
    have hc1 : upd H c (.lst []) c = some (.lst []) := upd_same
    generalize upd H c (.lst []) = H1 at s1 hc1 keepH ⊢
    refine for_seqV (K := K) (xs := ws) (fun k h => ⟨_, rfl, h⟩) (.inr (s1 _ _ hp)) (fun i σ H' => ∃ (v3 v4 : Option V) (ys : List V), σ = [some (.ref p), some (.int b), some (.ref c), v3, v4] ∧ KeepBut c H1 H' ∧ H' c = some (.lst ys) ∧ Ls (fun a => H a = none ∧ a ≠ c) H' ys ((xs.take i).map (mv b))) ⟨none, none, [], rfl, KeepBut.refl _ _, hc1, .nil⟩ ?_ ?_ ?_
    · rintro i _ H' _ ⟨_, _, _, _, k, _⟩ _
      rw [k _ _ (s1 _ _ hp) (oldne _ _ hp), s1 _ _ hp]
    · rintro i x _ H2 hxi ⟨v3, v4, ys, rfl, k2, hc2, hys⟩
      have S2 := keepH k2
      obtain ⟨ra, r, rfl, er, _, hra⟩ := hL.get hxi
      have hr2 := S2 _ _ hra
      obtain ⟨r1, r2⟩ := hx r (List.mem_of_getElem? er)
      have lr : (r.map V.int).length = r.length := List.length_map _
      have m0 := Int.emod_nonneg b (show (r.length : Int) ≠ 0 by omega)
      have m1 := Int.emod_lt_of_pos b (show (0 : Int) < r.length by omega)
      refine ⟨_, rfl, _, _, rfl, Or.inl ⟨_, SqL.of hr2, rfl⟩, _, rfl, _, rfl, _, _, rfl, Or.inl ⟨_, SqL.of hr2, rfl⟩, _, _, rfl, rfl, (by rw [lr]; omega), _, _, rfl, rfl, ?_⟩
      have ec : ((r.map V.int).length : Int) - b % ((r.map V.int).length : Int) = ((r.length - (b % r.length).toNat : Nat) : Int) := by rw [lr]; omega
      dsimp only [gName, List.set]
      rw [ec]
      refine ⟨_, rfl, Or.inl ⟨rfl, _, SqL.of hc2⟩, ?_⟩
      refine ⟨_, rfl, _, rfl, _, rfl, Or.inl ⟨_, _, rfl, SqL.of hr2, fun p1 hp1 => ?_⟩⟩
      rw [cut_drop0]
      have t1 := same_upd (o := .lst ((r.map V.int).drop (r.length - (b % r.length).toNat))) hp1
      refine ⟨_, rfl, _, rfl, _, rfl, Or.inl ⟨_, _, rfl, SqL.of (t1 _ _ hr2), fun p2 hp2 => ?_⟩⟩
      rw [cut_take]
      have t2 := same_upd (o := .lst ((r.map V.int).take (r.length - (b % r.length).toNat))) hp2
      refine ⟨_, _, _, _, rfl, rfl, t2 _ _ upd_same, upd_same, (by rw [List.length_drop, List.length_take, lr]; exact Nat.le_trans (show _ ≤ 2000 by omega) (by decide)), fun p3 hp3 => ?_⟩
      have em : (r.map V.int).drop (r.length - (b % r.length).toNat) ++ (r.map V.int).take (r.length - (b % r.length).toNat) = (mv b r).map V.int := by
        unfold mv
        rw [List.map_append, List.map_drop, List.map_take]
      rw [em]
      have t3 := same_upd (o := .lst ((mv b r).map V.int)) hp3
      have t := (t1.trans t2).trans t3
      have e3 := upd_same (H := upd (upd H2 p1 (.lst ((r.map V.int).drop (r.length - (b % r.length).toNat)))) p2 (.lst ((r.map V.int).take (r.length - (b % r.length).toNat)))) (a := p3) (o := .lst ((mv b r).map V.int))
      have n3 : H2 p3 = none := by
        cases e : H2 p3 with
        | none => rfl
        | some o => rw [(t1.trans t2) _ _ e] at hp3; cases hp3
      generalize upd (upd (upd H2 p1 (.lst ((r.map V.int).drop (r.length - (b % r.length).toNat)))) p2 (.lst ((r.map V.int).take (r.length - (b % r.length).toNat)))) p3 (.lst ((mv b r).map V.int)) = H3 at t e3 ⊢
      have hc3 := t _ _ hc2
      have lt : (xs.take i).length = i := by
        rw [List.length_take, Nat.min_eq_left]
        have := (List.getElem?_eq_some_iff.mp er).1
        omega
      have ly : ys.length = i := by rw [hys.len, List.length_map, lt]
      have i1 := (List.getElem?_eq_some_iff.mp er).1
      refine ⟨_, _, _, rfl, rfl, hc3, (by rw [ly]; exact Nat.lt_of_lt_of_le (show i < 1001 by omega) (by decide)), ?_⟩
      have n3c : p3 ≠ c := fun e => by rw [e, hc2] at n3; cases n3
      have n3H : H p3 = none := by
        cases e : H p3 with
        | none => rfl
        | some o => rw [S2 _ _ e] at n3; cases n3
      refine ⟨_, _, ys ++ [.ref p3], rfl, fun b' o e' n => ?_, upd_same, ?_⟩
      · rw [upd_ne n]
        exact t _ _ (k2 b' o e' n)
      · rw [List.take_add_one, er, List.map_append]
        refine Ls.app (hys.keepN fun a' x' n' e' => ?_) (.cons ⟨n3H, n3c⟩ ?_ .nil)
        · rw [upd_ne n'.2]
          exact t _ _ e'
        · rw [upd_ne n3c]
          exact e3
    · rintro _ H2 ⟨v3, v4, ys, rfl, k2, hc2, hys⟩
      refine ⟨_, rfl, ?_⟩
      rw [hL.len, List.take_length] at hys
      exact q c ys H2 (keepH k2) hc hc2 (hys.mono fun _ h => h.1)
def turnR (t : Int) (F : List (List (Option Int))) : List (List (Option Int)) := if t = 1 then turnT F else F
def spFieldOf : Sp := fun vs H Q _ => ∃ (p : Addr) (ws : List V) (xs : List (List Int)) (N : Addr → Prop) (t : Int) (h w : Nat), vs = [.ref p, .int t] ∧ H p = some (.lst ws) ∧ Ls N H ws xs ∧ Rows xs h w ∧
  ∀ (v : V) (H' : Hp), Same H H' → IsD H' v (fieldD (turnR t (rowsF xs))) → Q v H'
theorem df_law_field_of (T : Txt K mg) : Df P w K mg base 1 "_law_field_of" ["rows", "turned"] spFieldOf := by
  refine T.d_law_field_of.ok sc_law_field_of (fun vs H Q E h => ?_) (fun f cdv A outer s H vs Q E hr h => ?_)
  · obtain ⟨p, ws, xs, N, t, h, w, rfl, _⟩ := h
    rfl
  · obtain ⟨p, ws, xs, N, t, h, w, rfl, hp, hL, R, q⟩ := h
    refine ⟨_, (@pss_cons _ _ _ _ _ (@ps_if _ _ _ _ _ _ _ _ (@pt_cmpR _ _ _ _ _ _ _ _ (op_eqA hr.units) (pv 1) pe_int (nomark _)) (@pss_one _ _ _ (@ps_ret _ _ _ _ (@pe_callTy _ _ _ _ _ _ _ _ _ (call_tupleK (K := K) rfl) (by rfl) T.n_tuple bt_tuple (@pa_cons _ _ _ _ _ (pe_compIf (M := ["rows"]) (idx := [0]) rfl (pi_range1 (by rfl) T.n_range (@pa_cons _ _ _ _ _ (@pe_callB _ _ _ _ _ _ _ _ _ (call_lenK (K := K) rfl) (by rfl) T.n_len bt_len (@pa_cons _ _ _ _ _ (@pe_ix _ _ _ _ _ _ _ (ix_seqK (K := K) rfl) (pv 0) pe_int (fun _ _ => rfl)) pa_nil star_sub) (by decide) (by decide) (by rfl) (by rfl)) pa_nil star_call)) (compOk (by kernel_rfl)) (by decide +kernel) (by first | exact Or.inl rfl | exact Or.inr rfl) (fun _ _ _ _ _ => pts_nil) (fun _ _ _ _ _ => (@pe_callTy _ _ _ _ _ _ _ _ _ (call_tupleK (K := K) rfl) (by rfl) T.n_tuple bt_tuple (@pa_cons _ _ _ _ _ (pe_compIf (M := ["k"]) (idx := [0]) rfl (pi_seqK (K := K) rfl (pv 1)) (compOk (by kernel_rfl)) (by decide +kernel) (by first | exact Or.inl rfl | exact Or.inr rfl) (fun _ _ _ _ _ => pts_nil) (fun _ _ _ _ _ => (@pe_ix _ _ _ _ _ _ _ (ix_seqK (K := K) rfl) (pv 0) (pv 1) (fun _ _ => rfl)))) pa_nil star_comp) (by decide) (by decide) (by rfl) (by rfl)))) pa_nil star_comp) (by decide) (by decide) (by rfl) (by rfl)))) pss_nil)
      (@pss_one _ _ _ (@ps_ret _ _ _ _ (@pe_callTy _ _ _ _ _ _ _ _ _ (call_tupleK (K := K) rfl) (by rfl) T.n_tuple bt_tuple (@pa_cons _ _ _ _ _ (pe_compIf (M := []) (idx := []) rfl (pi_seqK (K := K) rfl (pv 0)) (compOk (by kernel_rfl)) (by decide +kernel) (by first | exact Or.inl rfl | exact Or.inr rfl) (fun _ _ _ _ _ => pts_nil) (fun _ _ _ _ _ => (@pe_callTy _ _ _ _ _ _ _ _ _ (call_tupleK (K := K) rfl) (by rfl) T.n_tuple bt_tuple (@pa_cons _ _ _ _ _ (pv 0) pa_nil (by rfl)) (by decide) (by decide) (by rfl) (by rfl)))) pa_nil star_comp) (by decide) (by decide) (by rfl) (by rfl))))), ?_⟩
    have lw : ws.length = xs.length := hL.len
    have lh := R.len
    have h1 := R.h1
    have hs := R.hs
    have w1 := R.w1
    have wS := R.ws
    have ew := R.wide
    refine ⟨_, rfl, Or.inl ⟨rfl, _, rfl, ?_⟩⟩
    refine ite2 (fun z => ?_) (fun z => ?_)
    · have z1 : t = 1 := V.int.inj (of_decide_eq_true z)
      have eT : turnR t (rowsF xs) = turnT (rowsF xs) := if_pos z1
      rw [eT] at q
      have w0 : 0 < ws.length := by omega
      obtain ⟨ra, r, ev, er, _, hra⟩ := hL.get (List.getElem?_eq_getElem w0)
      have lr : r.length = w := R.row _ (List.mem_of_getElem? er)
      have hat : atI ws 0 = some (.ref ra) := atI_nat (j := 0) (by rw [List.getElem?_eq_getElem w0, ev])
      refine ⟨_, rfl, Or.inl ⟨_, _, _, _, rfl, rfl, SqL.of hp, hat, _, _, rfl, Or.inl ⟨_, SqL.of hra, rfl⟩, _, rfl, (by rw [List.length_map, lr]; omega), (by rw [List.length_map, lr]; omega), ?_⟩⟩
      have eW : (((r.map V.int).length : Nat) : Int).toNat = w := by rw [List.length_map, lr]; omega
      rw [eW]
      refine compW_range (fun j zs H' => Same H H' ∧ IsDs H' zs (((List.range j).map fun k => (rowsF xs).map fun r => (r[k]?).join).map rowD)) ⟨Same.refl _, .nil⟩ (Nat.le_trans wS (by decide)) ?_ ?_
      · rintro j zs H3 hj ⟨s3, hzs⟩
        have e0 : (0 : Int) + (j : Int) = (j : Int) := by omega
        rw [e0]
        refine oneT ?_
        refine comp_seqV (K := K) (xs := ws) (fun k h => ⟨_, rfl, h⟩) (.inr (s3 _ _ hp)) (fun i ys H' => H' = H3 ∧ ys = (((rowsF xs).take i).map fun r => (r[j]?).join).map cellV) ⟨rfl, rfl⟩ (by rw [lw, lh]; exact Nat.le_trans hs (by decide)) (fun i ys H' _ ⟨e, _⟩ => by rw [e]) ?_ ?_
        · rintro i x ys _ hxi ⟨rfl, rfl⟩
          obtain ⟨rb, r', rfl, er', _, hrb⟩ := hL.get hxi
          have lr' : r'.length = w := R.row _ (List.mem_of_getElem? er')
          refine oneT ?_
          have hj' : j < r'.length := by omega
          refine ⟨_, rfl, _, rfl, Or.inl ⟨_, _, _, _, rfl, rfl, SqL.of (s3 _ _ hrb), atI_nat (j := j) (by rw [List.getElem?_map, List.getElem?_eq_getElem hj']; rfl), ?_⟩⟩
          refine ⟨rfl, ?_⟩
          have e5 : (rowsF xs)[i]? = some (r'.map some) := by unfold rowsF; rw [List.getElem?_map, er']; rfl
          rw [List.take_add_one, e5, List.map_append, List.map_append]
          show _ = _ ++ [cellV (((r'.map some)[j]?).join)]
          rw [List.getElem?_map, List.getElem?_eq_getElem hj']
          rfl
        · rintro ys H4 ⟨rfl, rfl⟩ l9 hl9
          rw [lw, ← rowsF_len xs, List.take_length]
          refine ⟨_, _, rfl, Or.inl ⟨SqL.of upd_same, fun t9 ht9 => ?_⟩⟩
          have st := (same_upd (o := .lst (((rowsF xs).map fun r => (r[j]?).join).map cellV)) hl9).trans (same_upd (o := .tup (((rowsF xs).map fun r => (r[j]?).join).map cellV)) ht9)
          refine ⟨s3.trans st, ?_⟩
          rw [List.range_succ, List.map_append, List.map_append]
          exact (hzs.keep st.tups).append (.cons (.tup upd_same (isCells _)) .nil)
      · rintro zs H3 ⟨s3, hzs⟩ l9 hl9
        refine ⟨_, _, rfl, Or.inl ⟨SqL.of upd_same, fun t9 ht9 => ?_⟩⟩
        have st := (same_upd (o := .lst zs) hl9).trans (same_upd (o := .tup zs) ht9)
        refine q _ _ (s3.trans st) (.tup upd_same ?_)
        unfold turnT
        rw [ew]
        exact hzs.keep st.tups
    · have z1 : ¬ t = 1 := fun e => z (decide_eq_true (by rw [e]))
      have eT : turnR t (rowsF xs) = rowsF xs := if_neg z1
      rw [eT] at q
      refine comp_seqV (K := K) (xs := ws) (fun k h => ⟨_, rfl, h⟩) (.inr hp) (fun i ys H' => Same H H' ∧ IsDs H' ys (((rowsF xs).take i).map rowD)) ⟨Same.refl _, .nil⟩ (by rw [lw, lh]; exact Nat.le_trans hs (by decide)) (fun i ys H' _ ⟨e, _⟩ => by rw [e _ _ hp, hp]) ?_ ?_
      · rintro i x ys H3 hxi ⟨s3, hys⟩
        obtain ⟨rb, r', rfl, er', _, hrb⟩ := hL.get hxi
        refine oneT ?_
        refine ⟨_, rfl, _, _, rfl, Or.inl ⟨SqL.of (s3 _ _ hrb), fun t9 ht9 => ?_⟩⟩
        have st := same_upd (o := .tup (r'.map V.int)) ht9
        refine ⟨s3.trans st, ?_⟩
        have e5 : (rowsF xs)[i]? = some (r'.map some) := by unfold rowsF; rw [List.getElem?_map, er']; rfl
        rw [List.take_add_one, e5, List.map_append]
        exact (hys.keep st.tups).append (.cons (.tup upd_same (by rw [cells_of]; exact isCells _)) .nil)
      · rintro ys H3 ⟨s3, hys⟩ l9 hl9
        rw [lw, ← rowsF_len xs, List.take_length] at hys
        refine ⟨_, _, rfl, Or.inl ⟨SqL.of upd_same, fun t9 ht9 => ?_⟩⟩
        have st := (same_upd (o := .lst ys) hl9).trans (same_upd (o := .tup ys) ht9)
        exact q _ _ (s3.trans st) (.tup upd_same (hys.keep st.tups))
theorem k2_fresh {d c p : Addr} {H H1 : Hp} {n : Nat} (k : K2 d c H H1) (D : Dk H1 d c n) (hp : H1 p = none) : H p = none := by
  have nb := D.nd hp
  cases e : H p with
  | none => rfl
  | some o => rw [k p o e nb.1 nb.2] at hp; cases hp
def spRuns : Sp := fun vs H Q _ => ∃ (d c : Addr) (n w : Nat), vs = [.ref d, .int (w : Int)] ∧ Dk H d c n ∧ n ≤ 100000 ∧ 4 ≤ w ∧ w ≤ 12 ∧
  ∀ (p : Addr) (x : List Int) (H' : Hp), H p = none → H' p = some (.lst (x.map V.int)) → Lin x → x.length = w → Dk H' d c (n + 20) → K2 d c H H' → Q (.ref p) H'
theorem df_law_runs (T : Txt K mg) : Df P w K mg base 3 "_law_runs" ["deck", "width"] spRuns := by
  refine T.d_law_runs.ok sc_law_runs (fun vs H Q E h => ?_) (fun f cdv A outer s H vs Q E hr h => ?_)
  · obtain ⟨d, c, n, w, rfl, _⟩ := h
    rfl
  · obtain ⟨d, c, n, w, rfl, D, hn, w4, w12, q⟩ := h
    refine ⟨_, (@pss_cons _ _ _ _ _ (@ps_set _ _ 2 _ _ _ _ sc_law_runs.nd rfl (by first | exact Or.inl rfl | exact Or.inr rfl) (@pe_lst _ _ _ _ (@pa_cons _ _ _ _ _ (@pe_df _ _ _ _ _ _ _ _ _ _ (df_law_number T) (hr.mono (by decide)) (@pa_cons _ _ _ _ _ (pv 0) (@pa_cons _ _ _ _ _ (@pe_df _ _ _ _ _ _ _ _ _ _ (df_law_draw T) (hr.mono (by decide)) (@pa_cons _ _ _ _ _ (pv 0) (@pa_cons _ _ _ _ _ pe_int pa_nil (by rfl)) (by rfl)) (by rfl) (by decide) (by rfl) (by rfl)) pa_nil star_call) (by rfl)) (by rfl) (by decide) (by rfl) (by rfl)) (@pa_cons _ _ _ _ _ (@pe_df _ _ _ _ _ _ _ _ _ _ (df_law_number T) (hr.mono (by decide)) (@pa_cons _ _ _ _ _ (pv 0) (@pa_cons _ _ _ _ _ (@pe_df _ _ _ _ _ _ _ _ _ _ (df_law_draw T) (hr.mono (by decide)) (@pa_cons _ _ _ _ _ (pv 0) (@pa_cons _ _ _ _ _ pe_int pa_nil (by rfl)) (by rfl)) (by rfl) (by decide) (by rfl) (by rfl)) pa_nil star_call) (by rfl)) (by rfl) (by decide) (by rfl) (by rfl)) pa_nil star_call) star_call)) (by rfl) (by first | exact .inl rfl | exact .inr rfl))
      (@pss_cons _ _ _ _ _ (@ps_set _ _ 3 _ _ _ _ sc_law_runs.nd rfl (by first | exact Or.inl rfl | exact Or.inr rfl) (@pe_lst _ _ _ _ pa_nil) (by rfl) (by first | exact .inl rfl | exact .inr rfl))
      (@pss_cons _ _ _ _ _ (@ps_set _ _ 4 _ _ _ _ sc_law_runs.nd rfl (by first | exact Or.inl rfl | exact Or.inr rfl) pe_int (by rfl) (by first | exact .inl rfl | exact .inr rfl))
      (@pss_cons _ _ _ _ _ (@ps_while _ _ _ _ _ _ PassesOwn.never (@pt_cmpR _ _ _ _ _ _ _ _ op_lt (@pe_callB _ _ _ _ _ _ _ _ _ (call_lenK (K := K) rfl) (by rfl) T.n_len bt_len (@pa_cons _ _ _ _ _ (pv 3) pa_nil (by rfl)) (by decide) (by decide) (by rfl) (by rfl)) (pv 1) (nomark _)) (@pss_cons _ _ _ _ _ (@ps_set _ _ 5 _ _ _ _ sc_law_runs.nd rfl (by first | exact Or.inl rfl | exact Or.inr rfl) (@pe_op _ _ _ _ _ _ _ _ op_add pe_int (@pe_df _ _ _ _ _ _ _ _ _ _ (df_law_draw T) (hr.mono (by decide)) (@pa_cons _ _ _ _ _ (pv 0) (@pa_cons _ _ _ _ _ pe_int pa_nil (by rfl)) (by rfl)) (by rfl) (by decide) (by rfl) (by rfl))) (by rfl) (by first | exact .inl rfl | exact .inr rfl))
      (@pss_cons _ _ _ _ _ (@ps_if _ _ _ _ _ _ _ _ (@pt_cmpR _ _ _ _ _ _ _ _ op_lt (@pe_op _ _ _ _ _ _ _ _ op_sub (@pe_op _ _ _ _ _ _ _ _ op_sub (pv 1) (@pe_callB _ _ _ _ _ _ _ _ _ (call_lenK (K := K) rfl) (by rfl) T.n_len bt_len (@pa_cons _ _ _ _ _ (pv 3) pa_nil (by rfl)) (by decide) (by decide) (by rfl) (by rfl))) (pv 5)) pe_int (nomark _)) (@pss_one _ _ _ (@ps_set _ _ 5 _ _ _ _ sc_law_runs.nd rfl (by first | exact Or.inl rfl | exact Or.inr rfl) (@pe_op _ _ _ _ _ _ _ _ op_sub (pv 1) (@pe_callB _ _ _ _ _ _ _ _ _ (call_lenK (K := K) rfl) (by rfl) T.n_len bt_len (@pa_cons _ _ _ _ _ (pv 3) pa_nil (by rfl)) (by decide) (by decide) (by rfl) (by rfl))) (by rfl) (by first | exact .inl rfl | exact .inr rfl))) pss_nil)
      (@pss_cons _ _ _ _ _ (@ps_set _ _ 3 _ _ _ _ sc_law_runs.nd rfl (by first | exact Or.inl rfl | exact Or.inr rfl) (@pe_op _ _ _ _ _ _ _ _ op_cat (pv 3) (@pe_op _ _ _ _ _ _ _ _ op_rep (@pe_lst _ _ _ _ (@pa_cons _ _ _ _ _ (@pe_ix _ _ _ _ _ _ _ (ix_seqK (K := K) rfl) (pv 2) (@pe_op _ _ _ _ _ _ _ _ op_mod (pv 4) pe_int) (fun _ _ => rfl)) pa_nil star_sub)) (pv 5))) (by rfl) (by first | exact .inl rfl | exact .inr rfl))
      (@pss_one _ _ _ (@ps_set _ _ 4 _ _ _ _ sc_law_runs.nd rfl (by first | exact Or.inl rfl | exact Or.inr rfl) (@pe_op _ _ _ _ _ _ _ _ op_add (pv 4) pe_int) (by rfl) (by first | exact .inl rfl | exact .inr rfl)))))))
      (@pss_one _ _ _ (@ps_ret _ _ _ _ (pv 3))))))), ?_⟩
    refine ⟨_, rfl, _, rfl, _, _, _, _, rfl, D, (by decide), (by decide), by omega, fun x1 H1 a1 b1 D1 k1 => ?_⟩
    refine ⟨_, _, _, _, rfl, D1, by omega, fun y1 H2 _ _ D2 k2 => ?_⟩
    refine ⟨_, rfl, _, rfl, _, _, _, _, rfl, D2, (by decide), (by decide), by omega, fun x2 H3 a2 b2 D3 k3 => ?_⟩
    refine ⟨_, _, _, _, rfl, D3, by omega, fun y2 H4 _ _ D4 k4 => ?_⟩
    refine ⟨(by show 2 ≤ sizeLine; decide), fun q2 hq2 => ?_⟩
    have K4 : K2 d c H H4 := ((k1.trans k2).trans k3).trans k4
    have D5 := D4.upd (o := .lst [.int y1, .int y2]) hq2
    have K5 : K2 d c H (upd H4 q2 (.lst [.int y1, .int y2])) := K4.upd hq2
    have e5 : upd H4 q2 (.lst [.int y1, .int y2]) q2 = some (.lst [.int y1, .int y2]) := upd_same
    have nq := D4.nd hq2
    generalize upd H4 q2 (.lst [.int y1, .int y2]) = H5 at D5 K5 e5 ⊢
    refine ⟨(by show 0 ≤ sizeLine; decide), fun r0 hr0 => ?_⟩
    have D6 := D5.upd (o := .lst []) hr0
    have K6 : K2 d c H (upd H5 r0 (.lst [])) := K5.upd hr0
    have s6 := same_upd (o := .lst []) hr0
    have e6 := s6 _ _ e5
    have er0 : upd H5 r0 (.lst []) r0 = some (.lst []) := upd_same
    have fr0 := k2_fresh K5 D5 hr0
    generalize upd H5 r0 (.lst []) = H6 at D6 K6 e6 er0 ⊢
    refine while_at (fun σ H' => ∃ (rp : Addr) (x : List Int) (k : Nat) (v5 : Option V), σ = [some (.ref d), some (.int (w : Int)), some (.ref q2), some (.ref rp), some (.int (k : Int)), v5] ∧ H' rp = some (.lst (x.map V.int)) ∧ H rp = none ∧ Lin x ∧ (x.length + 2 ≤ w ∨ x.length = w) ∧ Dk H' d c (n + 8 + x.length) ∧ K2 d c H H' ∧ H' q2 = some (.lst [.int y1, .int y2]))
      (fun σ H' => match σ with | [_, _, _, some (.ref rp), _, _] => (match H' rp with | some (.lst xs) => w - xs.length | _ => 0) | _ => 0) ⟨r0, [], 0, none, rfl, er0, fr0, Lin.nil, Or.inl (by show 0 + 2 ≤ w; omega), D6.mono (by show _ ≤ n + 8 + 0; omega), K6, e6⟩ ?_
    rintro _ H7 ⟨rp, x, k, v5, rfl, erp, frp, lx, hx, D7, K7, e7⟩
    have lm : (x.map V.int).length = x.length := List.length_map _
    have mu : (match H7 rp with | some (.lst xs) => w - xs.length | _ => 0) = w - x.length := by rw [erp]; exact congrArg (w - ·) lm
    refine ⟨_, rfl, _, _, rfl, Or.inl ⟨_, SqL.of erp, rfl⟩, _, rfl, _, _, rfl, rfl, _, rfl, ?_⟩
    refine ite2 (fun z => ?_) (fun z => ?_)
    · have z' : ((x.map V.int).length : Int) < (w : Int) := of_decide_eq_true z
      rw [lm] at z'
      refine ⟨fun σ H' => ∃ (rp' : Addr) (x' : List Int) (k' : Nat) (v5' : Option V), σ = [some (.ref d), some (.int (w : Int)), some (.ref q2), some (.ref rp'), some (.int (k' : Int)), v5'] ∧ x.length < x'.length ∧ H' rp' = some (.lst (x'.map V.int)) ∧ H rp' = none ∧ Lin x' ∧ (x'.length + 2 ≤ w ∨ x'.length = w) ∧ Dk H' d c (n + 8 + x'.length) ∧ K2 d c H H' ∧ H' q2 = some (.lst [.int y1, .int y2]), ?_, ?_⟩
      · rintro _ H' ⟨rp', x', k', v5', rfl, lt, e', f', l', h', D', K', q'⟩
        refine ⟨w - x'.length, ?_, ?_, rp', x', k', v5', rfl, e', f', l', h', D', K', q'⟩
        · show w - x'.length < (match H7 rp with | some (.lst xs) => w - xs.length | _ => 0)
          rw [mu]; omega
        · show w - x'.length = (match H' rp' with | some (.lst xs) => w - xs.length | _ => 0)
          rw [e']; exact congrArg (w - ·) (List.length_map _).symm
      refine ⟨_, rfl, _, _, _, _, rfl, D7, (by decide), (by decide), by omega, fun z1 H8 z10 z11 D8 k8 => ?_⟩
      refine ⟨_, _, rfl, rfl, ?_⟩
      have nrp : rp ≠ d ∧ rp ≠ c := by
        obtain ⟨ne, ns', a', t', g1, g2, _⟩ := D
        exact ⟨fun e => (by rw [e, g1] at frp; cases frp), fun e => (by rw [e, g2] at frp; cases frp)⟩
      have erp8 := k8 _ _ erp nrp.1 nrp.2
      have e8 := k8 _ _ e7 nq.1 nq.2
      have K8 := K7.trans k8
      dsimp only [gName, List.set]
      refine tSeq_cut (fun σ' H' => ∃ (m : Nat), σ' = [some (.ref d), some (.int (w : Int)), some (.ref q2), some (.ref rp), some (.int (k : Int)), some (.int (m : Int))] ∧ H' = H8 ∧ 2 ≤ m ∧ (x.length + m + 2 ≤ w ∨ x.length + m = w)) ?_ (fun rest => ?_)
      · rintro _ _ ⟨m, rfl, rfl, m2, hm⟩
        refine ⟨_, rfl, _, rfl, _, rfl, _, _, rfl, rfl, (show (0 : Int) < 2 by decide), ?_⟩
        obtain ⟨y, ey⟩ : ∃ y : Int, atI [V.int y1, .int y2] ((k : Int) % 2) = some (.int y) := by
          rcases Int.emod_two_eq (k : Int) with e | e
          · rw [e]; exact ⟨y1, rfl⟩
          · rw [e]; exact ⟨y2, rfl⟩
        refine Or.inl ⟨_, _, _, _, rfl, rfl, SqL.of e8, ey, ?_⟩
        refine ⟨(by show 1 ≤ sizeLine; decide), fun p9 hp9 => ?_⟩
        have s9 := same_upd (o := .lst [.int y]) hp9
        refine ⟨_, rfl, _, _, _, rfl, rfl, upd_same, by omega, by omega, (by show 1 * _ ≤ sizeLine; exact Nat.le_trans (show 1 * ((m : Int)).toNat ≤ 100 by omega) (by decide)), fun p10 hp10 => ?_⟩
        have er : (List.replicate ((m : Int)).toNat [V.int y]).flatten = (List.replicate m y).map V.int := by
          rw [Int.toNat_natCast, List.map_replicate]
          clear hm m2 z z1 z10 z11 D8 k8 hp10
          induction m with
          | zero => rfl
          | succ m ih => rw [List.replicate_succ, List.replicate_succ, List.flatten_cons, ih]; rfl
        rw [er]
        have s10 := same_upd (o := .lst ((List.replicate m y).map V.int)) hp10
        have S10 := s9.trans s10
        refine ⟨_, _, _, _, rfl, rfl, S10 _ _ erp8, upd_same, (by rw [lm, List.length_map, List.length_replicate]; exact Nat.le_trans (show _ ≤ 100 by omega) (by decide)), fun p11 hp11 => ?_⟩
        rw [← List.map_append]
        have s11 := same_upd (o := .lst ((x ++ List.replicate m y).map V.int)) hp11
        have S11 := S10.trans s11
        have f11 : H p11 = none := k2_fresh (K8.trans (S10.k2 d c)) (D8.keep S10) hp11
        refine ⟨_, rfl, _, _, rfl, rfl, ?_⟩
        have ll : (x ++ List.replicate m y).length = x.length + m := by rw [List.length_append, List.length_replicate]
        refine ⟨p11, x ++ List.replicate m y, k + 1, _, rfl, by omega, upd_same, f11, lx.more m2 y, by rw [ll]; exact hm, (D8.keep S11).mono (by omega), K8.trans (S11.k2 d c), S11 _ _ e8⟩
      · refine ⟨_, rfl, _, rfl, _, _, rfl, Or.inl ⟨_, SqL.of erp8, rfl⟩, _, _, rfl, rfl, _, rfl, _, _, rfl, rfl, _, _, rfl, rfl, _, rfl, ?_⟩
        refine ite2 (fun y => ?_) (fun y => ?_)
        · refine ⟨_, rfl, _, rfl, _, _, rfl, Or.inl ⟨_, SqL.of erp8, rfl⟩, _, _, rfl, rfl, ?_⟩
          have em : (w : Int) - ((x.map V.int).length : Int) = ((w - x.length : Nat) : Int) := by rw [lm]; omega
          refine rest _ _ ⟨w - x.length, ?_, rfl, by omega, by omega⟩
          show [_, _, _, _, _, some (V.int ((w : Int) - ((x.map V.int).length : Int)))] = _
          rw [em]
        · have y' : ¬ ((w : Int) - ((x.map V.int).length : Int) - (2 + z1) < 2) := fun e => y (decide_eq_true e)
          rw [lm] at y'
          refine rest _ _ ⟨(2 + z1).toNat, ?_, rfl, by omega, by omega⟩
          rw [Int.toNat_of_nonneg (by omega)]
    · have z' : ¬ ((x.map V.int).length : Int) < (w : Int) := fun e => z (decide_eq_true e)
      rw [lm] at z'
      refine ⟨_, rfl, ?_⟩
      have lw : x.length = w := by omega
      exact q rp x H7 frp erp lx lw (D7.mono (by omega)) K7
theorem eq_intsL {H : Hp} {p q : Addr} {xs ys : List Int} {Q : VK} (hp : H p = some (.lst (xs.map V.int))) (hq : H q = some (.lst (ys.map V.int))) (h : Q (.bl (decide (xs = ys))) H) : rEqL (.ref p) (.ref q) H Q := by
  rw [cells_of] at hp hq
  refine ⟨p, q, _, _, (xs.map some).map cellD, (ys.map some).map cellD, rfl, rfl, hp, hq, isCells _, isCells _, ⟨canLay_cells _, canLay_cells _, ?_⟩, ?_⟩
  · show PyData.depthAll ((xs.map some).map cellD) + 1 ≤ 20
    rw [depth_cells]; decide
  · rw [eqv_cells]
    have : decide (xs.map some = ys.map some) = decide (xs = ys) := by
      by_cases z : xs = ys
      · rw [decide_eq_true z, decide_eq_true (by rw [z])]
      · rw [decide_eq_false z, decide_eq_false fun e => z (some_inj.mp e)]
    rw [this]; exact h
def LoneOk (x y : List Int) : Prop := y = x ∨ ∃ (p : Nat) (o : Int), Amid x p ∧ o ≠ cyc x p ∧ y = x.set p o
theorem LoneOk.len {x y : List Int} (h : LoneOk x y) : y.length = x.length := by
  rcases h with rfl | ⟨p, o, _, _, rfl⟩
  · rfl
  · exact List.length_set ..
structure Lones (xs ys : List (List Int)) : Prop where
  len : ys.length = xs.length
  at_ : ∀ (i : Nat) (x y : List Int), xs[i]? = some x → ys[i]? = some y → LoneOk x y
theorem Lones.nil : Lones [] [] := ⟨rfl, fun i x y e => by simp at e⟩
theorem Lones.more {xs ys : List (List Int)} {x y : List Int} (h : Lones xs ys) (o : LoneOk x y) : Lones (xs ++ [x]) (ys ++ [y]) := by
  refine ⟨by rw [List.length_append, List.length_append, h.len]; rfl, fun i u v e1 e2 => ?_⟩
  rw [List.getElem?_append] at e1 e2
  rw [h.len] at e2
  by_cases z : i < xs.length
  · rw [if_pos z] at e1 e2
    exact h.at_ i u v e1 e2
  · rw [if_neg z] at e1 e2
    cases e : i - xs.length with
    | zero => rw [e] at e1 e2; cases e1; cases e2; exact o
    | succ k => rw [e] at e1; simp at e1
theorem amid_of {r : List Int} {k : Nat} (hk : k < r.length) (h : [cyc r ((k : Int) + -2), cyc r ((k : Int) + -1), cyc r ((k : Int) + 1), cyc r ((k : Int) + 2)] = [r[k], r[k], r[k], r[k]]) : Amid r k := by
  refine ⟨hk, fun j hj => ?_⟩
  rw [cyc_nat hk]
  simp only [List.cons.injEq, and_true] at h
  obtain ⟨h1, h2, h3, h4⟩ := h
  rcases hj with rfl | rfl | rfl | rfl
  · exact h1
  · exact h2
  · exact h3
  · exact h4
def spLone : Sp := fun vs H Q _ => ∃ (d e p : Addr) (n : Nat) (ws : List V) (xs : List (List Int)) (N : Addr → Prop), vs = [.ref d, .ref p] ∧ Dk H d e n ∧ n ≤ 100000 ∧ H p = some (.lst ws) ∧ p ≠ d ∧ p ≠ e ∧ Ls N H ws xs ∧ (∀ a, N a → a ≠ d ∧ a ≠ e) ∧ (∀ x ∈ xs, 4 ≤ x.length ∧ x.length ≤ 1000) ∧ xs.length ≤ 5 ∧
  ∀ (q : Addr) (zs : List V) (ys : List (List Int)) (H' : Hp), H q = none → H' q = some (.lst zs) → Ls (fun a => H a = none) H' zs ys → Lones xs ys → Dk H' d e (n + 50) → K2 d e H H' → Q (.ref q) H'
theorem df_law_with_lone (T : Txt K mg) : Df P w K mg base 3 "_law_with_lone" ["deck", "rows"] spLone := by
  refine T.d_law_with_lone.ok sc_law_with_lone (fun vs H Q E h => ?_) (fun f cdv A outer s H vs Q E hr h => ?_)
  · obtain ⟨d, e, p, n, ws, xs, N, rfl, _⟩ := h
    rfl
  · obtain ⟨d, e, p, n, ws, xs, N, rfl, D, hn, hp, npd, npe, hL, hN, hx, hl, q⟩ := h
    refine ⟨_, (@pss_cons _ _ _ _ _ (@ps_set _ _ 2 _ _ _ _ sc_law_with_lone.nd rfl (by first | exact Or.inl rfl | exact Or.inr rfl) (@pe_lst _ _ _ _ pa_nil) (by rfl) (by first | exact .inl rfl | exact .inr rfl))
      (@pss_cons _ _ _ _ _ (@ps_for _ _ _ _ _ _ _ _ PassesOwn.never rfl (pi_seqK (K := K) rfl (pv 1)) (pg_name (i := 3) sc_law_with_lone.nd rfl (by first | exact Or.inl rfl | exact Or.inr rfl)) (@pss_cons _ _ _ _ _ (@ps_set _ _ 4 _ _ _ _ sc_law_with_lone.nd rfl (by first | exact Or.inl rfl | exact Or.inr rfl) (@pe_callB _ _ _ _ _ _ _ _ _ (call_lenK (K := K) rfl) (by rfl) T.n_len bt_len (@pa_cons _ _ _ _ _ (pv 3) pa_nil (by rfl)) (by decide) (by decide) (by rfl) (by rfl)) (by rfl) (by first | exact .inl rfl | exact .inr rfl))
      (@pss_cons _ _ _ _ _ (ps_setComp (i := 5) sc_law_with_lone.nd rfl (by first | exact Or.inl rfl | exact Or.inr rfl) (M := ["row", "many"]) (idx := [3, 4]) rfl (pi_range1 (by rfl) T.n_range (@pa_cons _ _ _ _ _ (pv 4) pa_nil (by rfl))) (compOk (by kernel_rfl)) (by decide +kernel) (by first | exact Or.inl rfl | exact Or.inr rfl) (fun _ _ _ _ _ => pts_one (@pt_cmpR _ _ _ _ _ _ _ _ (op_eqX hr.units) (pe_compIf (M := ["row", "k", "many"]) (idx := [1, 0, 2]) rfl (pi_seqK (K := K) rfl (@pe_tup _ _ _ _ _ (@pa_cons _ _ _ _ _ (@pe_un _ _ _ _ _ _ un_neg pe_int) (@pa_cons _ _ _ _ _ (@pe_un _ _ _ _ _ _ un_neg pe_int) (@pa_cons _ _ _ _ _ pe_int (@pa_cons _ _ _ _ _ pe_int pa_nil (by rfl)) (by rfl)) star_un) star_un))) (compOk (by kernel_rfl)) (by decide +kernel) (by first | exact Or.inl rfl | exact Or.inr rfl) (fun _ _ _ _ _ => pts_nil) (fun _ _ _ _ _ => (@pe_ix _ _ _ _ _ _ _ (ix_seqK (K := K) rfl) (pv 1) (@pe_op _ _ _ _ _ _ _ _ op_mod (@pe_op _ _ _ _ _ _ _ _ op_add (pv 2) (pv 0)) (pv 3)) (fun _ _ => rfl)))) (@pe_op _ _ _ _ _ _ _ _ op_rep (@pe_lst _ _ _ _ (@pa_cons _ _ _ _ _ (@pe_ix _ _ _ _ _ _ _ (ix_seqK (K := K) rfl) (pv 1) (pv 0) (fun _ _ => rfl)) pa_nil star_sub)) pe_int) (nomark _))) (fun _ _ _ _ _ => (pv 0)))
      (@pss_cons _ _ _ _ _ (@ps_set _ _ 3 _ _ _ _ sc_law_with_lone.nd rfl (by first | exact Or.inl rfl | exact Or.inr rfl) (@pe_callTy _ _ _ _ _ _ _ _ _ (CallR.or (call_listK (K := K) rfl) (call_list_rng rfl)) (by rfl) T.n_list bt_list (@pa_cons _ _ _ _ _ (pv 3) pa_nil (by rfl)) (by decide) (by decide) (by rfl) (by rfl)) (by rfl) (by first | exact .inl rfl | exact .inr rfl))
      (@pss_cons _ _ _ _ _ (@ps_if _ _ _ _ _ _ _ _ (pw_and (@pt_cmpR _ _ _ _ _ _ _ _ (op_neX hr.units) (pv 5) (@pe_lst _ _ _ _ pa_nil) (nomark _)) (pw_and1 (@pt_cmpR _ _ _ _ _ _ _ _ (op_eqA hr.units) (@pe_df _ _ _ _ _ _ _ _ _ _ (df_law_draw T) (hr.mono (by decide)) (@pa_cons _ _ _ _ _ (pv 0) (@pa_cons _ _ _ _ _ pe_int pa_nil (by rfl)) (by rfl)) (by rfl) (by decide) (by rfl) (by rfl)) pe_int (nomark _)))).pt (@pss_cons _ _ _ _ _ (@ps_set _ _ 6 _ _ _ _ sc_law_with_lone.nd rfl (by first | exact Or.inl rfl | exact Or.inr rfl) (@pe_ix _ _ _ _ _ _ _ (ix_seqK (K := K) rfl) (pv 5) (@pe_df _ _ _ _ _ _ _ _ _ _ (df_law_draw T) (hr.mono (by decide)) (@pa_cons _ _ _ _ _ (pv 0) (@pa_cons _ _ _ _ _ (@pe_callB _ _ _ _ _ _ _ _ _ (call_lenK (K := K) rfl) (by rfl) T.n_len bt_len (@pa_cons _ _ _ _ _ (pv 5) pa_nil (by rfl)) (by decide) (by decide) (by rfl) (by rfl)) pa_nil star_call) (by rfl)) (by rfl) (by decide) (by rfl) (by rfl)) (fun _ _ => rfl)) (by rfl) (by first | exact .inl rfl | exact .inr rfl))
      (@pss_cons _ _ _ _ _ (@ps_set _ _ 7 _ _ _ _ sc_law_with_lone.nd rfl (by first | exact Or.inl rfl | exact Or.inr rfl) (@pe_df _ _ _ _ _ _ _ _ _ _ (df_law_number T) (hr.mono (by decide)) (@pa_cons _ _ _ _ _ (pv 0) (@pa_cons _ _ _ _ _ (@pe_df _ _ _ _ _ _ _ _ _ _ (df_law_draw T) (hr.mono (by decide)) (@pa_cons _ _ _ _ _ (pv 0) (@pa_cons _ _ _ _ _ pe_int pa_nil (by rfl)) (by rfl)) (by rfl) (by decide) (by rfl) (by rfl)) pa_nil star_call) (by rfl)) (by rfl) (by decide) (by rfl) (by rfl)) (by rfl) (by first | exact .inl rfl | exact .inr rfl))
      (@pss_cons _ _ _ _ _ (@ps_if _ _ _ _ _ _ _ _ (@pt_cmpR _ _ _ _ _ _ _ _ (op_eqA hr.units) (pv 7) (@pe_ix _ _ _ _ _ _ _ (ix_seqK (K := K) rfl) (pv 3) (pv 6) (fun _ _ => rfl)) (nomark _)) (@pss_one _ _ _ (@ps_set _ _ 7 _ _ _ _ sc_law_with_lone.nd rfl (by first | exact Or.inl rfl | exact Or.inr rfl) (@pe_op _ _ _ _ _ _ _ _ op_sub (@pe_op _ _ _ _ _ _ _ _ op_pow pe_int pe_int) pe_int) (by rfl) (by first | exact .inl rfl | exact .inr rfl))) pss_nil)
      (@pss_one _ _ _ (@ps_asg _ _ _ _ _ _ (pv 7) (pg_sub (pv 3) (pv 6) set_list) (by rfl) (by rfl) (by rfl)))))) pss_nil)
      (@pss_one _ _ _ (@ps_expr _ _ _ _ (pe_bm PySem.F.plainAttrs_list PySem.F.slot_list_append PySem.F.type_list_append mt_append (pv 2) (@pa_cons _ _ _ _ _ (pv 3) pa_nil (by rfl))) (by rfl))))))) (by intro _; rfl))
      (@pss_one _ _ _ (@ps_ret _ _ _ _ (pv 2))))), ?_⟩
    refine ⟨(by show 0 ≤ sizeLine; decide), fun c hc => ?_⟩
    have s1 := same_upd (o := .lst []) hc
    have oldne : ∀ b o, H b = some o → b ≠ c := fun b o e => ne_of_none e hc
    have hc1 : upd H c (.lst []) c = some (.lst []) := upd_same
    have D1 := D.keep s1
    have nc := D.nd hc
    generalize upd H c (.lst []) = H1 at s1 hc1 D1 ⊢
    refine for_seqV (K := K) (xs := ws) (fun k h => ⟨_, rfl, h⟩) (.inr (s1 _ _ hp)) (fun i σ H' => ∃ (v3 v4 v5 v6 v7 : Option V) (zs : List V) (ys : List (List Int)), σ = [some (.ref d), some (.ref p), some (.ref c), v3, v4, v5, v6, v7] ∧ (∀ b o, H b = some o → b ≠ d → b ≠ e → H' b = some o) ∧ H' c = some (.lst zs) ∧ Ls (fun a => H a = none ∧ a ≠ c) H' zs ys ∧ Lones (xs.take i) ys ∧ Dk H' d e (n + 10 * i)) ⟨none, none, none, none, none, [], [], rfl, fun b o e _ _ => s1 b o e, hc1, .nil, Lones.nil, D1⟩ ?_ ?_ ?_
    · rintro i _ H' _ ⟨_, _, _, _, _, _, _, _, k, _⟩ _
      rw [k _ _ hp npd npe, s1 _ _ hp]
    · rintro i x _ H2 hxi ⟨v3, v4, v5, v6, v7, zs, ys, rfl, k2, hc2, hzs, lo, D2⟩
      obtain ⟨ra, r, rfl, er, nra, hra⟩ := hL.get hxi
      obtain ⟨nd, ne⟩ := hN ra nra
      have hr2 := k2 _ _ hra nd ne
      obtain ⟨r4, r12⟩ := hx r (List.mem_of_getElem? er)
      have lr : (r.map V.int).length = r.length := List.length_map _
      have i1 := (List.getElem?_eq_some_iff.mp er).1
      refine ⟨_, rfl, _, _, rfl, Or.inl ⟨_, SqL.of hr2, rfl⟩, ?_⟩
      dsimp only [gName, List.set]
      refine ⟨_, rfl, _, rfl, (by rw [lr]; omega), (by rw [lr]; omega), ?_⟩
      have eW : (((r.map V.int).length : Nat) : Int).toNat = r.length := by rw [lr]; omega
      rw [eW]
      refine compW_range (fun j zs H' => Same H2 H' ∧ ∃ ms : List Nat, zs = ms.map (fun m : Nat => V.int (m : Int)) ∧ (∀ m ∈ ms, Amid r m) ∧ ms.length ≤ j) ⟨Same.refl _, [], rfl, fun m hm => absurd hm (by simp), Nat.le_refl _⟩ (Nat.le_trans r12 (by decide)) ?_ ?_
      · rintro j us H3 hj ⟨s3, ms, rfl, hms, lms⟩
        have e0 : (0 : Int) + (j : Int) = (j : Int) := by omega
        rw [e0]
        have hr3 := s3 _ _ hr2
        have hjr : j < r.length := hj
        refine Or.inr ⟨_, rfl, _, rfl, (by show 4 ≤ sizeLine; decide), fun tp htp => ?_⟩
        have s4 := same_upd (o := .tup [.int (-2), .int (-1), .int 1, .int 2]) htp
        have e4 : upd H3 tp (.tup [.int (-2), .int (-1), .int 1, .int 2]) tp = some (.tup [.int (-2), .int (-1), .int 1, .int 2]) := upd_same
        refine ⟨tp, rfl, ⟨_, SqT.of upd_same⟩, ?_⟩
        have hr4 := s4 _ _ hr3
        generalize upd H3 tp (.tup [.int (-2), .int (-1), .int 1, .int 2]) = H4 at s4 e4 hr4 ⊢
        refine compW_tup (xs := [.int (-2), .int (-1), .int 1, .int 2]) (fun j' us H' => H' = H4 ∧ us = ((([-2, -1, 1, 2] : List Int).take j').map fun t => V.int (cyc r ((j : Int) + t)))) ⟨rfl, rfl⟩ (by decide) (fun j' us H' _ ⟨e, _⟩ => SqT.of (by rw [e]; exact e4)) ?_ ?_
        · rintro j' x us _ hx' ⟨rfl, rfl⟩
          obtain ⟨t, et, rfl⟩ := int_at (ns := [-2, -1, 1, 2]) hx'
          refine oneT ?_
          have g0 := Int.emod_nonneg ((j : Int) + t) (show (r.length : Int) ≠ 0 by omega)
          have g1 := Int.emod_lt_of_pos ((j : Int) + t) (show (0 : Int) < r.length by omega)
          have hat : atI (r.map V.int) (((j : Int) + t) % ((r.map V.int).length : Int)) = some (.int (cyc r ((j : Int) + t))) := by
            rw [lr]
            have : (((j : Int) + t) % (r.length : Int)) = (((((j : Int) + t) % (r.length : Int)).toNat : Nat) : Int) := by omega
            rw [this]
            refine atI_nat ?_
            unfold cyc
            rw [List.getElem?_map, List.getD_eq_getElem?_getD, List.getElem?_eq_getElem (by omega)]
            rfl
          refine ⟨_, rfl, _, rfl, _, rfl, _, _, rfl, rfl, _, rfl, _, _, rfl, rfl, (show (0 : Int) < _ by rw [lr]; omega), Or.inl ⟨_, _, _, _, rfl, rfl, SqL.of hr4, hat, ?_⟩⟩
          refine ⟨rfl, ?_⟩
          rw [List.take_add_one, et, List.map_append]
          rfl
        · rintro us _ ⟨rfl, rfl⟩ l5 hl5
          have e5 : ((([-2, -1, 1, 2] : List Int).take [V.int (-2), .int (-1), .int 1, .int 2].length).map fun t => V.int (cyc r ((j : Int) + t))) = [cyc r ((j : Int) + -2), cyc r ((j : Int) + -1), cyc r ((j : Int) + 1), cyc r ((j : Int) + 2)].map V.int := rfl
          rw [e5]
          have s5 := same_upd (o := .lst ([cyc r ((j : Int) + -2), cyc r ((j : Int) + -1), cyc r ((j : Int) + 1), cyc r ((j : Int) + 2)].map V.int)) hl5
          have hat : atI (r.map V.int) ((j : Nat) : Int) = some (.int r[j]) := atI_nat (by rw [List.getElem?_map, List.getElem?_eq_getElem hjr]; rfl)
          refine ⟨_, rfl, _, rfl, Or.inl ⟨_, _, _, _, rfl, rfl, SqL.of (s5 _ _ hr4), hat, (by show 1 ≤ sizeLine; decide), fun l6 hl6 => ?_⟩⟩
          have s6 := same_upd (o := .lst [.int r[j]]) hl6
          refine ⟨_, _, _, rfl, rfl, upd_same, by decide, by decide, (by show 1 * 4 ≤ sizeLine; decide), fun l7 hl7 => ?_⟩
          have e7 : (List.replicate (4 : Int).toNat [V.int r[j]]).flatten = [r[j], r[j], r[j], r[j]].map V.int := rfl
          rw [e7]
          have s7 := same_upd (o := .lst ([r[j], r[j], r[j], r[j]].map V.int)) hl7
          have S7 := ((s4.trans s5).trans s6).trans s7
          refine Or.inr (eq_intsL ((s6.trans s7) _ _ upd_same) upd_same ⟨_, rfl, ?_⟩)
          refine ite2 (fun y => ?_) (fun y => ?_)
          · have am := amid_of hjr (of_decide_eq_true y)
            refine ⟨_, rfl, s3.trans S7, ms ++ [j], by rw [List.map_append]; rfl, fun m hm => ?_, by rw [List.length_append]; show ms.length + 1 ≤ j + 1; omega⟩
            rcases List.mem_append.mp hm with h | h
            · exact hms m h
            · rw [List.mem_singleton.mp h]; exact am
          · exact ⟨s3.trans S7, ms, by simp, hms, by omega⟩
      · rintro us H3 ⟨s3, ms, rfl, hms, lms⟩ am ham
        have s4 := same_upd (o := .lst (ms.map (fun m : Nat => V.int (m : Int)))) ham
        have e4 : upd H3 am (.lst (ms.map (fun m : Nat => V.int (m : Int)))) am = some (.lst (ms.map (fun m : Nat => V.int (m : Int)))) := upd_same
        generalize upd H3 am (.lst (ms.map (fun m : Nat => V.int (m : Int)))) = H4 at s4 e4 ⊢
        have S4 := s3.trans s4
        dsimp only [gName, List.set]
        refine ⟨_, rfl, Or.inl ⟨_, _, rfl, Or.inl (SqL.of (S4 _ _ hr2)), fun r5 hr5 => ?_⟩⟩
        have s5 := same_upd (o := .lst (r.map V.int)) hr5
        have S5 := S4.trans s5
        have e5 : upd H4 r5 (.lst (r.map V.int)) r5 = some (.lst (r.map V.int)) := upd_same
        have am5 := s5 _ _ e4
        have nam : am ≠ r5 := ne_of_none e4 hr5
        have n2 : H2 r5 = none := by
          cases ee : H2 r5 with
          | none => rfl
          | some o => rw [S4 _ _ ee] at hr5; cases hr5
        have nd5 := D2.nd n2
        have nc5 : r5 ≠ c := fun ee => by rw [ee, hc2] at n2; cases n2
        have nH5 : H r5 = none := by
          cases ee : H r5 with
          | none => rfl
          | some o => rw [k2 _ _ ee nd5.1 nd5.2] at n2; cases n2
        have D5 := D2.keep S5
        have nda : am ≠ d ∧ am ≠ e := by
          have : H2 am = none := by
            cases ee : H2 am with
            | none => rfl
            | some o => rw [s3 _ _ ee] at ham; cases ham
          exact D2.nd this
        generalize upd H4 r5 (.lst (r.map V.int)) = H5 at s5 S5 e5 am5 D5 ⊢
        have hc5 := S5 _ _ hc2
        dsimp only [gName, List.set]
        refine tSeq_cut (fun σ' H' => ∃ (y : List Int) (v6 v7 : Option V), σ' = [some (.ref d), some (.ref p), some (.ref c), some (.ref r5), some (.int ((r.map V.int).length : Int)), some (.ref am), v6, v7] ∧ LoneOk r y ∧ H' r5 = some (.lst (y.map V.int)) ∧ Dk H' d e (n + 10 * i + 10) ∧ (∀ b o, H2 b = some o → b ≠ d → b ≠ e → H' b = some o)) ?_ (fun rest => ?_)
        · rintro _ H6 ⟨y, v6, v7, rfl, ly, e6, D6, k6⟩
          have hc6 := k6 _ _ hc2 nc.1 nc.2
          refine ⟨_, rfl, Or.inl ⟨rfl, _, SqL.of hc6⟩, _, rfl, ?_⟩
          have lz : zs.length = i := by rw [hzs.len, lo.len, List.length_take]; omega
          refine ⟨_, _, _, rfl, rfl, hc6, (by rw [lz]; exact Nat.lt_of_lt_of_le (show i < 6 by omega) (by decide)), ?_⟩
          have D7 : Dk (upd H6 c (.lst (zs ++ [.ref r5]))) d e (n + 10 * (i + 1)) := by
            obtain ⟨ne', ns', a', t', g1, g2, g3⟩ := D6
            refine (⟨ne', ns', a', t', ?_, ?_, g3⟩ : Dk _ d e (n + 10 * i + 10)).mono (by omega)
            · rw [upd_ne nc.1.symm]; exact g1
            · rw [upd_ne nc.2.symm]; exact g2
          refine ⟨_, _, _, _, _, zs ++ [.ref r5], ys ++ [y], rfl, fun b o eb nb1 nb2 => ?_, upd_same, ?_, ?_, D7⟩
          · rw [upd_ne (oldne _ _ eb)]
            exact k6 _ _ (k2 _ _ eb nb1 nb2) nb1 nb2
          · refine Ls.app (hzs.keepN fun a' x' n' e' => ?_) (.cons ⟨nH5, nc5⟩ ?_ .nil)
            · rw [upd_ne n'.2]
              refine k6 _ _ e' ?_ ?_
              · rintro rfl
                obtain ⟨_, _, _, _, g1, _⟩ := D
                rw [g1] at n'; cases n'.1
              · rintro rfl
                obtain ⟨_, _, _, _, _, g2, _⟩ := D
                rw [g2] at n'; cases n'.1
            · rw [upd_ne nc5]; exact e6
          · rw [List.take_add_one, er]
            exact lo.more ly
        · refine ⟨_, rfl, (by show 0 ≤ sizeLine; decide), fun e0 he0 => ?_⟩
          have s6 := same_upd (o := .lst []) he0
          have S6 := S5.trans s6
          have ecm : ms.map (fun m : Nat => V.int (m : Int)) = (ms.map (fun m : Nat => (some (m : Int) : Option Int))).map cellV := by rw [List.map_map]; rfl
          have am6 := s6 _ _ am5
          have e6 := s6 _ _ e5
          have D6 := D5.keep s6
          refine Or.inr (ne_cellsNil (cs := ms.map (fun m : Nat => (some (m : Int) : Option Int))) (by rw [← ecm]; exact am6) upd_same ⟨_, rfl, ?_⟩)
          generalize upd H5 e0 (.lst []) = H6 at s6 S6 am6 e6 D6 ⊢
          by_cases z : ms.map (fun m : Nat => (some (m : Int) : Option Int)) = []
          · rw [decide_eq_true z]
            refine iteF ?_
            refine iteF ?_
            exact rest _ _ ⟨r, _, _, rfl, Or.inl rfl, e6, D6.mono (by omega), fun b o eb _ _ => S6 _ _ eb⟩
          · rw [decide_eq_false z]
            refine iteT ?_
            refine ⟨_, rfl, _, _, _, _, rfl, D6, (by decide), (by decide), by omega, fun x7 H7 a7 b7 D7 k7 => ?_⟩
            have e7 := k7 _ _ e6 nd5.1 nd5.2
            have am7 := k7 _ _ am6 nda.1 nda.2
            refine Or.inl ⟨rfl, _, rfl, ?_⟩
            have lms' : (ms.map (fun m : Nat => V.int (m : Int))).length = ms.length := List.length_map _
            have mpos : 1 ≤ ms.length := by
              cases ms with
              | nil => exact absurd rfl z
              | cons => exact Nat.succ_le_succ (Nat.zero_le _)
            refine ite2 (fun y => ?_) (fun y => ?_)
            · refine ⟨_, rfl, _, rfl, _, rfl, _, _, rfl, Or.inl ⟨_, SqL.of am7, rfl⟩, _, _, _, _, rfl, D7, (by rw [lms']; omega), (by rw [lms']; omega), by omega, fun x8 H8 a8 b8 D8 k8 => ?_⟩
              obtain ⟨v, ev, mv'⟩ := atI_mem (xs := ms.map (fun m : Nat => V.int (m : Int))) a8 (by exact b8)
              obtain ⟨m, hm, rfl⟩ := List.mem_map.mp mv'
              have A := hms m hm
              have hml := A.lt
              have e8 := k8 _ _ e7 nd5.1 nd5.2
              have am8 := k8 _ _ am7 nda.1 nda.2
              refine Or.inl ⟨_, _, _, _, rfl, rfl, SqL.of am8, ev, ?_⟩
              refine ⟨_, rfl, _, rfl, _, _, _, _, rfl, D8, (by decide), (by decide), by omega, fun x9 H9 a9 b9 D9 k9 => ?_⟩
              refine ⟨_, _, _, _, rfl, D9, by omega, fun o H10 _ _ D10 k10 => ?_⟩
              have K10 : K2 d e H6 H10 := ((k7.trans k8).trans k9).trans k10
              have e10 := K10 _ _ e6 nd5.1 nd5.2
              dsimp only [gName, List.set]
              have hat : atI (r.map V.int) (m : Int) = some (.int r[m]) := atI_nat (by rw [List.getElem?_map, List.getElem?_eq_getElem hml]; rfl)
              refine tSeq_cut (fun σ' H' => ∃ (o' : Int), σ' = [some (.ref d), some (.ref p), some (.ref c), some (.ref r5), some (.int ((r.map V.int).length : Int)), some (.ref am), some (.int (m : Int)), some (.int o')] ∧ H' = H10) ?_ (fun rest' => ?_)
              · rintro _ H10 ⟨o', rfl, rfl⟩
                refine ⟨_, rfl, _, rfl, _, rfl, _, _, _, m, rfl, rfl, e10, ?_, ?_⟩
                · unfold ixN
                  rw [if_pos (by omega), if_pos (by rw [lr]; omega), Int.toNat_natCast]
                have es : (r.map V.int).set m (.int o') = (r.set m o').map V.int := List.map_set.symm
                rw [es]
                have D11 : Dk (upd H10 r5 (.lst ((r.set m o').map V.int))) d e (n + 10 * i + 10) := by
                  obtain ⟨ne', ns', a', t', g1, g2, g3⟩ := D10
                  refine (⟨ne', ns', a', t', ?_, ?_, g3⟩ : Dk _ d e _).mono (by omega)
                  · rw [upd_ne nd5.1.symm]; exact g1
                  · rw [upd_ne nd5.2.symm]; exact g2
                refine rest _ _ ⟨r.set m o', _, _, rfl, ?_, upd_same, D11, fun b o eb nb1 nb2 => ?_⟩
                · by_cases w : o' = cyc r m
                  · left
                    rw [w, cyc_nat hml, List.set_getElem_self]
                  · exact Or.inr ⟨m, o', A, w, rfl⟩
                · rw [upd_ne (ne_of_none eb n2)]
                  exact K10 _ _ (S6 _ _ eb) nb1 nb2
              · refine ⟨_, rfl, _, rfl, _, rfl, Or.inl ⟨_, _, _, _, rfl, rfl, SqL.of e10, hat, Or.inl ⟨rfl, _, rfl, ?_⟩⟩⟩
                refine ite2 (fun y => ?_) (fun y => ?_)
                · refine ⟨_, _, rfl, rfl, ⟨by decide, by decide, by decide⟩, _, _, rfl, rfl, ?_⟩
                  exact rest' _ _ ⟨_, rfl, rfl⟩
                · exact rest' _ _ ⟨_, rfl, rfl⟩
            · exact rest _ _ ⟨r, _, _, rfl, Or.inl rfl, e7, D7.mono (by omega), fun b o eb nb1 nb2 => k7 _ _ (S6 _ _ eb) nb1 nb2⟩
    · rintro _ H2 ⟨v3, v4, v5, v6, v7, zs, ys, rfl, k2, hc2, hzs, lo, D2⟩
      refine ⟨_, rfl, ?_⟩
      rw [hL.len] at D2
      rw [hL.len, List.take_length] at lo
      exact q c zs ys H2 hc hc2 (hzs.mono fun _ h => h.1) lo (D2.mono (by omega)) k2
theorem turnT_inj {xs ys : List (List Int)} {h w : Nat} (R : Rows xs h w) (S : Rows ys h w) (e : turnT (rowsF xs) = turnT (rowsF ys)) : xs = ys := by
  unfold turnT at e
  rw [R.wide, S.wide] at e
  have col : ∀ k, k < w → ((rowsF xs).map fun r => (r[k]?).join) = ((rowsF ys).map fun r => (r[k]?).join) := fun k hk => by
    have := congrArg (fun z : List (List (Option Int)) => z[k]?) e
    rw [List.getElem?_map, List.getElem?_map, List.getElem?_range hk] at this
    exact Option.some.inj this
  refine List.ext_getElem (by rw [R.len, S.len]) fun i h1 h2 => ?_
  have l1 := R.row _ (List.getElem_mem h1)
  have l2 := S.row _ (List.getElem_mem h2)
  refine List.ext_getElem (by rw [l1, l2]) fun k g1 g2 => ?_
  have := congrArg (fun z : List (Option Int) => z[i]?) (col k (by omega))
  unfold rowsF at this
  rw [List.getElem?_map, List.getElem?_map, List.getElem?_map, List.getElem?_map, List.getElem?_eq_getElem h1, List.getElem?_eq_getElem h2] at this
  have this : ((xs[i].map some)[k]?).join = ((ys[i].map some)[k]?).join := Option.some.inj this
  rw [List.getElem?_map, List.getElem?_map, List.getElem?_eq_getElem g1, List.getElem?_eq_getElem g2] at this
  exact Option.some.inj this
theorem rows_mvs {xs : List (List Int)} {h w : Nat} (R : Rows xs h w) (b : Int) : Rows (xs.map (mv b)) h w := by
  refine ⟨by rw [List.length_map]; exact R.len, fun r hr => ?_, R.h1, R.hs, R.w1, R.ws⟩
  obtain ⟨x, hx, rfl⟩ := List.mem_map.mp hr
  rw [mv_len]; exact R.row x hx
structure RG (xs ys : List (List Int)) (h w n : Nat) (s : Int) (l r : Nat) (a b : Int) : Prop where
  rows : Rows xs h w
  w4 : 4 ≤ w
  calm : ∀ x ∈ xs, Calm x
  lone : Lones xs ys
  ring : Ring xs n
  sgn : s = 1 ∨ s = -1
  sl : (l : Int) - 1 = s
  lr : l + r = 2
  mid : placeOf 3 a b = 1
def seqF (xs ys : List (List Int)) (s : Int) (k : Nat) : List (List Int) := if k = 0 then ys else xs.map (mv (s * (k : Int)))
section
variable {xs ys : List (List Int)} {h w n : Nat} {s : Int} {l r : Nat} {a b : Int}
theorem RG.rows2 (G : RG xs ys h w n s l r a b) : Rows ys h w := by
  refine ⟨by rw [G.lone.len]; exact G.rows.len, fun y hy => ?_, G.rows.h1, G.rows.hs, G.rows.w1, G.rows.ws⟩
  obtain ⟨i, hi, rfl⟩ := List.getElem_of_mem hy
  have hi' : i < xs.length := by rw [← G.lone.len]; exact hi
  rw [(G.lone.at_ i xs[i] ys[i] (List.getElem?_eq_getElem hi') (List.getElem?_eq_getElem hi)).len]
  exact G.rows.row _ (List.getElem_mem _)
theorem RG.seq_rows (G : RG xs ys h w n s l r a b) (k : Nat) : Rows (seqF xs ys s k) h w := by
  unfold seqF
  split
  · exact G.rows2
  · exact rows_mvs G.rows _
theorem RG.it (G : RG xs ys h w n s l r a b) : ∀ k, itF (gf .round 0 0 l r a b) (rowsF ys) k = rowsF (seqF xs ys s k)
  | 0 => rfl
  | k + 1 => by
    show fil (itF (gf .round 0 0 l r a b) (rowsF ys) k) .round 0 0 l r a b = _
    rw [G.it k]
    by_cases z : k = 0
    · subst z
      rw [show seqF xs ys s 0 = ys from rfl, fil_ring G.rows2 G.rows (fun i y x e1 e2 => ?_) G.mid G.lr, G.sl, show seqF xs ys s (0 + 1) = xs.map (mv (s * ((0 + 1 : Nat) : Int))) from rfl]
      · rw [show s * ((0 + 1 : Nat) : Int) = s by rw [Int.natCast_add]; simp]
      · have hx := List.mem_of_getElem? e2
        have lx := G.rows.row x hx
        rcases G.lone.at_ i x y e2 e1 with rfl | ⟨p, o, A, ho, rfl⟩
        · exact (G.calm _ hx).smooth
        · exact A.smooth (by rw [lx]; exact G.w4) (G.calm _ hx) o
    · have e1 : seqF xs ys s k = xs.map (mv (s * (k : Int))) := if_neg z
      have e2 : seqF xs ys s (k + 1) = xs.map (mv (s * ((k + 1 : Nat) : Int))) := if_neg (Nat.succ_ne_zero k)
      have R := rows_mvs G.rows (s * (k : Int))
      rw [e1, e2, fil_ring R R (fun i y x e1 e2 => ?_) G.mid G.lr, G.sl, map_mv]
      · rw [show s + s * (k : Int) = s * ((k + 1 : Nat) : Int) by rw [Int.natCast_add, Int.mul_add, Int.add_comm]; simp]
      · rw [e1] at e2
        obtain rfl := Option.some.inj e2
        obtain ⟨x', hx', rfl⟩ := List.mem_map.mp (List.mem_of_getElem? e1)
        exact ((G.calm x' hx').mv _).smooth
theorem RG.not_first (G : RG xs ys h w n s l r a b) (hne : ys ≠ xs) (t : Int) : ys ≠ xs.map (mv t) := fun e => hne (by
  refine List.ext_getElem G.lone.len fun i h1 h2 => ?_
  rcases G.lone.at_ i xs[i] ys[i] (List.getElem?_eq_getElem h2) (List.getElem?_eq_getElem h1) with q | ⟨p, o, A, ho, q⟩
  · exact q
  · exfalso
    have lx := G.rows.row _ (List.getElem_mem h2)
    refine A.not_calm (by rw [lx]; exact G.w4) ho ?_
    rw [← q]
    have : ys[i]? = (xs.map (mv t))[i]? := by rw [e]
    rw [List.getElem?_eq_getElem h1, List.getElem?_map, List.getElem?_eq_getElem h2] at this
    rw [Option.some.inj this]
    exact (G.calm _ (List.getElem_mem h2)).mv t)
def aheadN (xs ys : List (List Int)) : Nat := if ys = xs then 0 else 1
theorem RG.seq_ge (G : RG xs ys h w n s l r a b) {k : Nat} (hk : aheadN xs ys ≤ k) : seqF xs ys s k = xs.map (mv (s * (k : Int))) := by
  unfold seqF
  by_cases z : k = 0
  · subst z
    unfold aheadN at hk
    by_cases y : ys = xs
    · rw [if_pos rfl, y, show s * ((0 : Nat) : Int) = 0 by simp, map_mv0]
    · rw [if_neg y] at hk; omega
  · rw [if_neg z]
theorem RG.seq_back (G : RG xs ys h w n s l r a b) : seqF xs ys s (aheadN xs ys + n) = seqF xs ys s (aheadN xs ys) := by
  rw [G.seq_ge (Nat.le_add_right _ _), G.seq_ge (Nat.le_refl _), Int.natCast_add]
  exact G.ring.more G.sgn _
theorem RG.seq_apart (G : RG xs ys h w n s l r a b) {i j : Nat} (h1 : i < j) (h2 : j < aheadN xs ys + n) : seqF xs ys s i ≠ seqF xs ys s j := by
  by_cases z : aheadN xs ys ≤ i
  · rw [G.seq_ge z, G.seq_ge (by omega)]
    exact G.ring.apart G.sgn h1 (by omega)
  · have y : ys ≠ xs := fun e => z (by unfold aheadN; rw [if_pos e]; exact Nat.zero_le _)
    have a1 : aheadN xs ys = 1 := if_neg y
    obtain rfl : i = 0 := by omega
    rw [G.seq_ge (by omega : aheadN xs ys ≤ j)]
    exact G.not_first y _
def gT (t : Int) (l r : Nat) (a b : Int) : Fld → Fld := if t = 1 then gf .round l r 0 0 a b else gf .round 0 0 l r a b
theorem RG.itT (G : RG xs ys h w n s l r a b) (t : Int) (k : Nat) : itF (gT t l r a b) (turnR t (rowsF ys)) k = turnR t (rowsF (seqF xs ys s k)) := by
  unfold gT turnR
  by_cases z : t = 1
  · simp only [if_pos z]
    induction k with
    | zero => rfl
    | succ k ih =>
      show fil (itF (gf .round l r 0 0 a b) (turnT (rowsF ys)) k) .round l r 0 0 a b = _
      rw [ih, fil_turn (G.seq_rows k).rect, ← G.it k]
      exact congrArg turnT (G.it (k + 1))
  · simp only [if_neg z]
    exact G.it k
theorem RG.inj (G : RG xs ys h w n s l r a b) (t : Int) {i j : Nat} (e : turnR t (rowsF (seqF xs ys s i)) = turnR t (rowsF (seqF xs ys s j))) : seqF xs ys s i = seqF xs ys s j := by
  unfold turnR at e
  by_cases z : t = 1
  · rw [if_pos z, if_pos z] at e
    exact turnT_inj (G.seq_rows i) (G.seq_rows j) e
  · rw [if_neg z, if_neg z] at e
    exact rowsF_inj e
theorem RG.back (G : RG xs ys h w n s l r a b) (t : Int) : Back (gT t l r a b) (turnR t (rowsF ys)) (aheadN xs ys) (aheadN xs ys + n) := by
  refine ⟨Nat.lt_add_of_pos_right G.ring.pos, ?_, fun i j h1 h2 e => ?_⟩
  · rw [G.itT, G.itT, G.seq_back]
  · rw [G.itT, G.itT] at e
    exact G.seq_apart h1 h2 (G.inj t e)
end
theorem turn_rows {xs : List (List Int)} {h w : Nat} (R : Rows xs h w) (t : Int) : Rect (turnR t (rowsF xs)) := by
  unfold turnR
  split
  · exact R.rect.turnT
  · exact R.rect
def spDue26 : Sp := fun vs H Q _ => ∃ (pf pr : Addr) (us ws : List V) (N M : Addr → Prop) (xs ys : List (List Int)) (h w n most : Nat) (s t : Int) (l r : Nat) (a b : Int), vs = [.ref pf, .ref pr, .int s, .int (n : Int), .int (most : Int), .int t] ∧ H pf = some (.lst us) ∧ H pr = some (.lst ws) ∧ Ls N H us ys ∧ Ls M H ws xs ∧ RG xs ys h w n s l r a b ∧ most ≤ 100 ∧ n ≤ 1000 ∧
  ∀ (v : V) (H' : Hp) (D : PyData), Same H H' → TD (gT t l r a b) (turnR t (rowsF ys)) most D → IsD H' v D → Q v H'
theorem df_law_due (T : Txt K mg) : Df P w K mg base 2 "_law_due" ["first", "rows", "by", "ring", "most", "turned"] spDue26 := by
  refine T.d_law_due.ok sc_law_due (fun vs H Q E h => ?_) (fun f cdv A outer s H vs Q E hr h => ?_)
  · obtain ⟨pf, pr, us, ws, N, M, xs, ys, h, w, n, most, s, t, l, r, a, b, rfl, _⟩ := h
    rfl
  · obtain ⟨pf, pr, us, ws, N, M, xs, ys, h, w, n, most, s, t, l, r, a, b, rfl, hpf, hpr, hL1, hL2, G, hm, hn, q⟩ := h
    refine ⟨_, (@pss_cons _ _ _ _ _ (@ps_set _ _ 6 _ _ _ _ sc_law_due.nd rfl (by first | exact Or.inl rfl | exact Or.inr rfl) (@pe_callTy _ _ _ _ _ _ _ _ _ call_int1 (by rfl) T.n_int bt_int (@pa_cons _ _ _ _ _ (@pe_cmpR _ _ _ _ _ _ _ _ (op_neRR hr.units) (pv 0) (pv 1) (nomark _)) pa_nil star_cmp) (by decide) (by decide) (by rfl) (by rfl)) (by rfl) (by first | exact .inl rfl | exact .inr rfl))
      (@pss_cons _ _ _ _ _ (@ps_if _ _ _ _ _ _ _ _ (pw_and (@pt_cmpR _ _ _ _ _ _ _ _ (op_eqA hr.units) (pv 3) pe_int (nomark _)) (pw_and1 (@pt_cmpR _ _ _ _ _ _ _ _ op_gt (pv 4) (pv 6) (nomark _)))).pt (@pss_one _ _ _ (@ps_ret _ _ _ _ (@pe_tup _ _ _ _ _ (@pa_cons _ _ _ _ _ pe_str (@pa_cons _ _ _ _ _ (@pe_df _ _ _ _ _ _ _ _ _ _ (df_law_field_of T) (hr.mono (by decide)) (@pa_cons _ _ _ _ _ (pv 1) (@pa_cons _ _ _ _ _ (pv 5) pa_nil (by rfl)) (by rfl)) (by rfl) (by decide) (by rfl) (by rfl)) (@pa_cons _ _ _ _ _ (pv 6) pa_nil (by rfl)) star_call) (by rfl))))) pss_nil)
      (@pss_cons _ _ _ _ _ (@ps_if _ _ _ _ _ _ _ _ (pw_and (@pt_cmpR _ _ _ _ _ _ _ _ op_gt (pv 3) pe_int (nomark _)) (pw_and1 (@pt_cmpR _ _ _ _ _ _ _ _ op_ge (pv 4) (@pe_op _ _ _ _ _ _ _ _ op_add (pv 3) (pv 6)) (nomark _)))).pt (@pss_one _ _ _ (@ps_ret _ _ _ _ (@pe_tup _ _ _ _ _ (@pa_cons _ _ _ _ _ pe_str (@pa_cons _ _ _ _ _ (@pe_df _ _ _ _ _ _ _ _ _ _ (df_law_field_of T) (hr.mono (by decide)) (@pa_cons _ _ _ _ _ (@pe_df _ _ _ _ _ _ _ _ _ _ (df_law_moved T) (hr.mono (by decide)) (@pa_cons _ _ _ _ _ (pv 1) (@pa_cons _ _ _ _ _ (@pe_op _ _ _ _ _ _ _ _ op_mul (pv 2) (pv 6)) pa_nil star_bin) (by rfl)) (by rfl) (by decide) (by rfl) (by rfl)) (@pa_cons _ _ _ _ _ (pv 5) pa_nil (by rfl)) star_call) (by rfl) (by decide) (by rfl) (by rfl)) (@pa_cons _ _ _ _ _ (pv 6) (@pa_cons _ _ _ _ _ (pv 3) pa_nil (by rfl)) (by rfl)) star_call) (by rfl))))) pss_nil)
      (@pss_cons _ _ _ _ _ (@ps_if _ _ _ _ _ _ _ _ (@pt_cmpR _ _ _ _ _ _ _ _ (op_eqA hr.units) (pv 4) pe_int (nomark _)) (@pss_one _ _ _ (@ps_ret _ _ _ _ (@pe_tup _ _ _ _ _ (@pa_cons _ _ _ _ _ pe_str (@pa_cons _ _ _ _ _ (@pe_df _ _ _ _ _ _ _ _ _ _ (df_law_field_of T) (hr.mono (by decide)) (@pa_cons _ _ _ _ _ (pv 0) (@pa_cons _ _ _ _ _ (pv 5) pa_nil (by rfl)) (by rfl)) (by rfl) (by decide) (by rfl) (by rfl)) pa_nil star_call) (by rfl))))) pss_nil)
      (@pss_one _ _ _ (@ps_ret _ _ _ _ (@pe_tup _ _ _ _ _ (@pa_cons _ _ _ _ _ pe_str (@pa_cons _ _ _ _ _ (@pe_df _ _ _ _ _ _ _ _ _ _ (df_law_field_of T) (hr.mono (by decide)) (@pa_cons _ _ _ _ _ (@pe_df _ _ _ _ _ _ _ _ _ _ (df_law_moved T) (hr.mono (by decide)) (@pa_cons _ _ _ _ _ (pv 1) (@pa_cons _ _ _ _ _ (@pe_op _ _ _ _ _ _ _ _ op_mul (pv 2) (pv 4)) pa_nil star_bin) (by rfl)) (by rfl) (by decide) (by rfl) (by rfl)) (@pa_cons _ _ _ _ _ (pv 5) pa_nil (by rfl)) star_call) (by rfl) (by decide) (by rfl) (by rfl)) pa_nil star_call) (by rfl))))))))), ?_⟩
    have B := G.back t
    have w1 : ∀ x ∈ xs, 1 ≤ x.length ∧ x.length ≤ 1000 := fun x hx => by rw [G.rows.row x hx]; exact ⟨G.rows.w1, G.rows.ws⟩
    have hl : xs.length ≤ 1000 := by rw [G.rows.len]; exact G.rows.hs
    have np := G.ring.pos
    have hs := G.sgn
    have opn : most < aheadN xs ys + n → Opn (gT t l r a b) (turnR t (rowsF ys)) most := fun hlt i j h1 h2 => B.nd i j h1 (by omega)
    refine ⟨_, rfl, _, rfl, N, M, pf, pr, us, ws, ys, xs, rfl, rfl, hpf, hpr, hL1, hL2, ?_⟩
    have ea : (if (!decide (ys = xs)) = true then (1 : Int) else 0) = ((aheadN xs ys : Nat) : Int) := by
      unfold aheadN
      by_cases z : ys = xs
      · rw [decide_eq_true z, if_pos z]; rfl
      · rw [decide_eq_false z, if_neg z]; rfl
    refine Or.inr ⟨_, rfl, ?_⟩
    dsimp only [gName, List.set, L2.start]
    rw [ea]
    generalize hA : aheadN xs ys = A at B opn ea ⊢
    have A1 : A ≤ 1 := by rw [← hA]; unfold aheadN; split <;> omega
    refine tSeq_cut (fun σ' H' => σ' = [some (.ref pf), some (.ref pr), some (.int s), some (.int (n : Int)), some (.int (most : Int)), some (.int t), some (.int (A : Int))] ∧ H' = H ∧ ¬ (n = 1 ∧ A < most)) ?_ (fun rest => ?_)
    · rintro _ H ⟨rfl, rfl, z1⟩
      refine tSeq_cut (fun σ' H' => σ' = [some (.ref pf), some (.ref pr), some (.int s), some (.int (n : Int)), some (.int (most : Int)), some (.int t), some (.int (A : Int))] ∧ H' = H ∧ ¬ (1 < n ∧ n + A ≤ most)) ?_ (fun rest => ?_)
      · rintro _ H ⟨rfl, rfl, z2⟩
        have O := opn (by omega)
        refine ⟨_, rfl, Or.inl ⟨rfl, _, rfl, ?_⟩⟩
        refine ite2 (fun z3 => ?_) (fun z3 => ?_)
        · have z4 : most = 0 := by have := V.int.inj (of_decide_eq_true z3); omega
          subst z4
          refine ⟨_, rfl, _, rfl, pf, us, ys, N, t, h, w, rfl, hpf, hL1, G.rows2, fun v H1 s1 hv => ?_⟩
          refine ⟨(by show 2 ≤ sizeLine; decide), fun p2 hp2 => ?_⟩
          have s2 := same_upd (o := .tup [.str "open", v]) hp2
          refine q _ _ _ (s1.trans s2) (.opn O) ?_
          exact .tup upd_same (.cons (.str _) (.cons (hv.keep s2.tups) .nil))
        · have z4 : most ≠ 0 := fun e => z3 (decide_eq_true (by rw [e]; rfl))
          refine ⟨_, rfl, _, rfl, _, rfl, _, _, rfl, rfl, Or.inl ⟨by omega, by omega⟩, ?_⟩
          refine ⟨pr, ws, xs, M, _, rfl, hpr, hL2, w1, hl, fun q1 zs H1 s1 f1 e1 l1 => ?_⟩
          refine ⟨_, rfl, q1, zs, _, _, t, h, w, rfl, e1, l1, rows_mvs G.rows _, fun v H2 s2 hv => ?_⟩
          refine ⟨(by show 2 ≤ sizeLine; decide), fun p3 hp3 => ?_⟩
          have s3 := same_upd (o := .tup [.str "open", v]) hp3
          refine q _ _ _ ((s1.trans s2).trans s3) (.opn O) ?_
          rw [G.itT, G.seq_ge (by omega)]
          exact .tup upd_same (.cons (.str _) (.cons (hv.keep s3.tups) .nil))
      · refine ⟨_, rfl, _, _, rfl, rfl, _, rfl, ?_⟩
        refine ite2 (fun z2 => ?_) (fun z2 => ?_)
        · have z2' : (1 : Int) < n := of_decide_eq_true z2
          refine ⟨_, rfl, _, rfl, _, rfl, _, _, rfl, rfl, _, _, rfl, rfl, _, rfl, ?_⟩
          refine ite2 (fun z3 => ?_) (fun z3 => ?_)
          · have z3' : (n : Int) + (A : Int) ≤ (most : Int) := of_decide_eq_true z3
            refine ⟨_, rfl, _, rfl, _, rfl, _, _, rfl, rfl, Or.inl ⟨by omega, by omega⟩, ?_⟩
            refine ⟨pr, ws, xs, M, _, rfl, hpr, hL2, w1, hl, fun q1 zs H1 s1 f1 e1 l1 => ?_⟩
            refine ⟨_, rfl, q1, zs, _, _, t, h, w, rfl, e1, l1, rows_mvs G.rows _, fun v H2 s2 hv => ?_⟩
            refine ⟨_, rfl, _, rfl, (by show 4 ≤ sizeLine; decide), fun p3 hp3 => ?_⟩
            have s3 := same_upd (o := .tup [.str "round", v, .int (A : Int), .int (n : Int)]) hp3
            refine q _ _ _ ((s1.trans s2).trans s3) (.round B (by omega) (by omega)) ?_
            rw [G.itT, G.seq_ge (by omega), show ((A + n : Nat) : Int) - (A : Int) = (n : Int) by omega]
            exact .tup upd_same (.cons (.str _) (.cons (hv.keep s3.tups) (.cons (.int _) (.cons (.int _) .nil))))
          · have z3' : ¬ (n : Int) + (A : Int) ≤ (most : Int) := fun e => z3 (decide_eq_true e)
            exact rest _ _ ⟨rfl, rfl, by omega⟩
        · have z2' : ¬ (1 : Int) < n := fun e => z2 (decide_eq_true e)
          refine iteF ?_
          exact rest _ _ ⟨rfl, rfl, by omega⟩
    · refine ⟨_, rfl, Or.inl ⟨rfl, _, rfl, ?_⟩⟩
      refine ite2 (fun z2 => ?_) (fun z2 => ?_)
      · have z2' : n = 1 := by have := V.int.inj (of_decide_eq_true z2); omega
        refine ⟨_, rfl, _, rfl, _, _, rfl, rfl, _, rfl, ?_⟩
        refine ite2 (fun z3 => ?_) (fun z3 => ?_)
        · have z3' : (A : Int) < (most : Int) := of_decide_eq_true z3
          refine ⟨_, rfl, _, rfl, pr, ws, xs, M, t, h, w, rfl, hpr, hL2, G.rows, fun v H1 s1 hv => ?_⟩
          refine ⟨_, rfl, (by show 3 ≤ sizeLine; decide), fun p2 hp2 => ?_⟩
          have s2 := same_upd (o := .tup [.str "still", v, .int (A : Int)]) hp2
          subst z2'
          refine q _ _ _ (s1.trans s2) (.still B (by omega)) ?_
          have ex : xs.map (mv (s * (A : Int))) = xs := by
            have A0 : A = 0 ∨ A = 1 := by omega
            have m1 := G.ring.more hs 0
            rw [Int.mul_zero, map_mv0, Int.zero_add] at m1
            rcases A0 with rfl | rfl
            · rw [show s * ((0 : Nat) : Int) = 0 by simp, map_mv0]
            · exact m1
          rw [G.itT, G.seq_ge (by omega), ex]
          exact .tup upd_same (.cons (.str _) (.cons (hv.keep s2.tups) (.cons (.int _) .nil)))
        · have z3' : ¬ (A : Int) < (most : Int) := fun e => z3 (decide_eq_true e)
          exact rest _ _ ⟨rfl, rfl, by omega⟩
      · have z2' : n ≠ 1 := fun e => z2 (decide_eq_true (by rw [e]; rfl))
        refine iteF ?_
        exact rest _ _ ⟨rfl, rfl, by omega⟩
theorem TD.uniq {g : Fld → Fld} {F : Fld} {m : Nat} {d d' : PyData} (h : TD g F m d) (h' : TD g F m d') : d' = d := by
  cases h with
  | opn o =>
    cases h' with
    | opn _ => rfl
    | still b hb => exact absurd o (b.not_opn hb)
    | round b hb _ => exact absurd o (b.not_opn hb)
  | still b hb => exact h'.still_uniq b hb
  | round b hb hk => exact h'.round_uniq b hb hk
theorem plainS_told {s : Str} {F : Fld} (R : Rect F) {ns : List Int} (h : ns.length ≤ 1000) : plainS (tlD s F ns) = true := by
  show (decide ((PyData.str s :: fieldD F :: (ns.map some).map cellD).length ≤ 100000) && plainSs (.str s :: fieldD F :: (ns.map some).map cellD)) = true
  rw [plainSs, plainSs, plainS_field R, plainS_cells, decide_eq_true (by simp; omega)]
  rfl
theorem depth_told5 (s : Str) (F : Fld) (ns : List Int) : (tlD s F ns).depth < 5 := by
  have h1 := depth_rows F
  have h2 : (fieldD F).depth = PyData.depthAll (F.map rowD) + 1 := rfl
  have h3 := depth_cells (ns.map some)
  have h4 : (PyData.str s).depth = 0 := rfl
  show max (PyData.str s).depth (max (fieldD F).depth (PyData.depthAll ((ns.map some).map cellD))) + 1 < 5
  omega
theorem TD.plain {ru : Rule} {u d l r : Nat} {a b : Int} {F : Fld} (R : Rect F) {m : Nat} {D : PyData} (h : TD (gf ru u d l r a b) F m D) : plainS D = true ∧ D.depth < 5 := by
  cases h with
  | opn _ => exact ⟨plainS_told (itF_rect R _ _ _ _ _ _ _ _) (by decide), depth_told5 _ _ _⟩
  | still _ _ => exact ⟨plainS_told (itF_rect R _ _ _ _ _ _ _ _) (by simp), depth_told5 _ _ _⟩
  | round _ _ _ => exact ⟨plainS_told (itF_rect R _ _ _ _ _ _ _ _) (by simp), depth_told5 _ _ _⟩
def spLetIn : Sp := fun vs H Q _ => ∃ (d e : Addr) (n : Nat), vs = [.ref d] ∧ Dk H d e n ∧ n ≤ 100000 ∧
  ∀ (p sz co wn : Addr) (lo hi : Int) (h w : Nat) (c0 c1 : Bool) (H' : Hp), H' p = some (.lst [.int lo, .int hi, .ref sz, .ref co, .ref wn]) → H' sz = some (.tup [.int (h : Int), .int (w : Int)]) → H co = none → H' co = some (.lst [.int (cN c0 : Int), .int (cN c1 : Int)]) →
    H' wn = some (.tup [.int ((1 - cN c0 : Nat) : Int), .int (cN c0 : Int), .int ((1 - cN c1 : Nat) : Int), .int (cN c1 : Int)]) → 1 ≤ h → h ≤ 12 → 1 ≤ w → w ≤ 12 → Dk H' d e (n + 12) → K2 d e H H' → Q (.ref p) H'
theorem bit_of {x : Int} (h0 : 0 ≤ x) (h1 : x < 2) : ∃ c : Bool, x = (cN c : Int) := by
  have : x = 0 ∨ x = 1 := by omega
  rcases this with rfl | rfl
  · exact ⟨false, rfl⟩
  · exact ⟨true, rfl⟩
theorem bit_rest (c : Bool) : (1 : Int) - (cN c : Int) = ((1 - cN c : Nat) : Int) := by cases c <;> rfl
theorem df_law_let_in (T : Txt K mg) : Df P w K mg base 3 "_law_let_in" ["deck"] spLetIn := by
  refine T.d_law_let_in.ok sc_law_let_in (fun vs H Q E h => ?_) (fun f cdv A outer s H vs Q E hr h => ?_)
  · obtain ⟨d, e, n, rfl, _⟩ := h
    rfl
  · obtain ⟨d, e, n, rfl, D, hn, q⟩ := h
    refine ⟨_, (@pss_cons _ _ _ _ _ (@ps_set _ _ 1 _ _ _ _ sc_law_let_in.nd rfl (by first | exact Or.inl rfl | exact Or.inr rfl) (@pe_df _ _ _ _ _ _ _ _ _ _ (df_law_number T) (hr.mono (by decide)) (@pa_cons _ _ _ _ _ (pv 0) (@pa_cons _ _ _ _ _ (@pe_df _ _ _ _ _ _ _ _ _ _ (df_law_draw T) (hr.mono (by decide)) (@pa_cons _ _ _ _ _ (pv 0) (@pa_cons _ _ _ _ _ pe_int pa_nil (by rfl)) (by rfl)) (by rfl) (by decide) (by rfl) (by rfl)) pa_nil star_call) (by rfl)) (by rfl) (by decide) (by rfl) (by rfl)) (by rfl) (by first | exact .inl rfl | exact .inr rfl))
      (@pss_cons _ _ _ _ _ (@ps_set _ _ 2 _ _ _ _ sc_law_let_in.nd rfl (by first | exact Or.inl rfl | exact Or.inr rfl) (@pe_df _ _ _ _ _ _ _ _ _ _ (df_law_number T) (hr.mono (by decide)) (@pa_cons _ _ _ _ _ (pv 0) (@pa_cons _ _ _ _ _ (@pe_df _ _ _ _ _ _ _ _ _ _ (df_law_draw T) (hr.mono (by decide)) (@pa_cons _ _ _ _ _ (pv 0) (@pa_cons _ _ _ _ _ pe_int pa_nil (by rfl)) (by rfl)) (by rfl) (by decide) (by rfl) (by rfl)) pa_nil star_call) (by rfl)) (by rfl) (by decide) (by rfl) (by rfl)) (by rfl) (by first | exact .inl rfl | exact .inr rfl))
      (@pss_cons _ _ _ _ _ (@ps_set _ _ 3 _ _ _ _ sc_law_let_in.nd rfl (by first | exact Or.inl rfl | exact Or.inr rfl) (@pe_op _ _ _ _ _ _ _ _ op_add pe_int (@pe_df _ _ _ _ _ _ _ _ _ _ (df_law_draw T) (hr.mono (by decide)) (@pa_cons _ _ _ _ _ (pv 0) (@pa_cons _ _ _ _ _ pe_int pa_nil (by rfl)) (by rfl)) (by rfl) (by decide) (by rfl) (by rfl))) (by rfl) (by first | exact .inl rfl | exact .inr rfl))
      (@pss_cons _ _ _ _ _ (@ps_set _ _ 4 _ _ _ _ sc_law_let_in.nd rfl (by first | exact Or.inl rfl | exact Or.inr rfl) (@pe_op _ _ _ _ _ _ _ _ op_add pe_int (@pe_df _ _ _ _ _ _ _ _ _ _ (df_law_draw T) (hr.mono (by decide)) (@pa_cons _ _ _ _ _ (pv 0) (@pa_cons _ _ _ _ _ pe_int pa_nil (by rfl)) (by rfl)) (by rfl) (by decide) (by rfl) (by rfl))) (by rfl) (by first | exact .inl rfl | exact .inr rfl))
      (@pss_cons _ _ _ _ _ (@ps_set _ _ 5 _ _ _ _ sc_law_let_in.nd rfl (by first | exact Or.inl rfl | exact Or.inr rfl) (@pe_lst _ _ _ _ (@pa_cons _ _ _ _ _ (@pe_df _ _ _ _ _ _ _ _ _ _ (df_law_draw T) (hr.mono (by decide)) (@pa_cons _ _ _ _ _ (pv 0) (@pa_cons _ _ _ _ _ pe_int pa_nil (by rfl)) (by rfl)) (by rfl) (by decide) (by rfl) (by rfl)) (@pa_cons _ _ _ _ _ (@pe_df _ _ _ _ _ _ _ _ _ _ (df_law_draw T) (hr.mono (by decide)) (@pa_cons _ _ _ _ _ (pv 0) (@pa_cons _ _ _ _ _ pe_int pa_nil (by rfl)) (by rfl)) (by rfl) (by decide) (by rfl) (by rfl)) pa_nil star_call) star_call)) (by rfl) (by first | exact .inl rfl | exact .inr rfl))
      (@pss_cons _ _ _ _ _ (@ps_set _ _ 6 _ _ _ _ sc_law_let_in.nd rfl (by first | exact Or.inl rfl | exact Or.inr rfl) (@pe_tup _ _ _ _ _ (@pa_cons _ _ _ _ _ (@pe_op _ _ _ _ _ _ _ _ op_sub pe_int (@pe_ix _ _ _ _ _ _ _ (ix_seqK (K := K) rfl) (pv 5) pe_int (fun _ _ => rfl))) (@pa_cons _ _ _ _ _ (@pe_ix _ _ _ _ _ _ _ (ix_seqK (K := K) rfl) (pv 5) pe_int (fun _ _ => rfl)) (@pa_cons _ _ _ _ _ (@pe_op _ _ _ _ _ _ _ _ op_sub pe_int (@pe_ix _ _ _ _ _ _ _ (ix_seqK (K := K) rfl) (pv 5) pe_int (fun _ _ => rfl))) (@pa_cons _ _ _ _ _ (@pe_ix _ _ _ _ _ _ _ (ix_seqK (K := K) rfl) (pv 5) pe_int (fun _ _ => rfl)) pa_nil star_sub) star_bin) star_sub) star_bin)) (by rfl) (by first | exact .inl rfl | exact .inr rfl))
      (@pss_one _ _ _ (@ps_ret _ _ _ _ (@pe_lst _ _ _ _ (@pa_cons _ _ _ _ _ (pv 1) (@pa_cons _ _ _ _ _ (pv 2) (@pa_cons _ _ _ _ _ (@pe_tup _ _ _ _ _ (@pa_cons _ _ _ _ _ (pv 3) (@pa_cons _ _ _ _ _ (pv 4) pa_nil (by rfl)) (by rfl))) (@pa_cons _ _ _ _ _ (pv 5) (@pa_cons _ _ _ _ _ (pv 6) pa_nil (by rfl)) (by rfl)) star_tup) (by rfl)) (by rfl))))))))))), ?_⟩
    refine ⟨_, rfl, _, rfl, _, _, _, _, rfl, D, (by decide), (by decide), by omega, fun x1 H1 _ _ D1 k1 => ?_⟩
    refine ⟨_, _, _, _, rfl, D1, by omega, fun lo H2 _ _ D2 k2 => ?_⟩
    refine ⟨_, rfl, _, rfl, _, _, _, _, rfl, D2, (by decide), (by decide), by omega, fun x3 H3 _ _ D3 k3 => ?_⟩
    refine ⟨_, _, _, _, rfl, D3, by omega, fun hi H4 _ _ D4 k4 => ?_⟩
    refine ⟨_, rfl, _, _, _, _, rfl, D4, (by decide), (by decide), by omega, fun x5 H5 a5 b5 D5 k5 => ?_⟩
    refine ⟨_, _, rfl, rfl, ?_⟩
    refine ⟨_, rfl, _, _, _, _, rfl, D5, (by decide), (by decide), by omega, fun x6 H6 a6 b6 D6 k6 => ?_⟩
    refine ⟨_, _, rfl, rfl, ?_⟩
    refine ⟨_, rfl, _, _, _, _, rfl, D6, (by decide), (by decide), by omega, fun x7 H7 a7 b7 D7 k7 => ?_⟩
    refine ⟨_, rfl, _, _, _, _, rfl, D7, (by decide), (by decide), by omega, fun x8 H8 a8 b8 D8 k8 => ?_⟩
    refine ⟨(by show 2 ≤ sizeLine; decide), fun co hco => ?_⟩
    have K8 : K2 d e H H8 := ((((((k1.trans k2).trans k3).trans k4).trans k5).trans k6).trans k7).trans k8
    obtain ⟨c0, rfl⟩ := bit_of a7 b7
    obtain ⟨c1, rfl⟩ := bit_of a8 b8
    have fco := k2_fresh K8 D8 hco
    have s9 := same_upd (o := .lst [.int (cN c0 : Int), .int (cN c1 : Int)]) hco
    have e9 : upd H8 co (.lst [.int (cN c0 : Int), .int (cN c1 : Int)]) co = some (.lst [.int (cN c0 : Int), .int (cN c1 : Int)]) := upd_same
    generalize upd H8 co (.lst [.int (cN c0 : Int), .int (cN c1 : Int)]) = H9 at s9 e9 ⊢
    refine ⟨_, rfl, Or.inl ⟨_, _, _, _, rfl, rfl, SqL.of e9, rfl, _, _, rfl, rfl, ?_⟩⟩
    refine ⟨_, rfl, Or.inl ⟨_, _, _, _, rfl, rfl, SqL.of e9, rfl, ?_⟩⟩
    refine ⟨_, rfl, Or.inl ⟨_, _, _, _, rfl, rfl, SqL.of e9, rfl, _, _, rfl, rfl, ?_⟩⟩
    refine ⟨_, rfl, Or.inl ⟨_, _, _, _, rfl, rfl, SqL.of e9, rfl, ?_⟩⟩
    refine ⟨(by show 4 ≤ sizeLine; decide), fun wn hwn => ?_⟩
    dsimp only [gName, List.set, L2.start]
    rw [bit_rest c0, bit_rest c1]
    have s10 := same_upd (o := .tup [.int ((1 - cN c0 : Nat) : Int), .int (cN c0 : Int), .int ((1 - cN c1 : Nat) : Int), .int (cN c1 : Int)]) hwn
    refine ⟨_, rfl, _, rfl, _, rfl, _, rfl, (by show 2 ≤ sizeLine; decide), fun sz hsz => ?_⟩
    have s11 := same_upd (o := .tup [.int (1 + x5), .int (1 + x6)]) hsz
    refine ⟨_, rfl, _, rfl, (by show 5 ≤ sizeLine; decide), fun p hp => ?_⟩
    have s12 := same_upd (o := .lst [.int lo, .int hi, .ref sz, .ref co, .ref wn]) hp
    have S := ((s9.trans s10).trans s11).trans s12
    refine q p sz co wn lo hi (1 + x5).toNat (1 + x6).toNat c0 c1 _ upd_same ?_ fco ((s10.trans (s11.trans s12)) _ _ e9) ((s11.trans s12) _ _ upd_same) (by omega) (by omega) (by omega) (by omega) ((D8.keep S).mono (by omega)) (K8.trans (S.k2 d e))
    rw [Int.toNat_of_nonneg (by omega), Int.toNat_of_nonneg (by omega)]
    exact s12 _ _ upd_same
def spLetBy : Sp := fun vs H Q _ => ∃ (lo hi : Int) (sz co : Addr) (h w t : Nat) (c0 c1 : Bool), vs = [.int lo, .int hi, .ref sz, .ref co, .int (t : Int)] ∧ H sz = some (.tup [.int (h : Int), .int (w : Int)]) ∧ H co = some (.lst [.int (cN c0 : Int), .int (cN c1 : Int)]) ∧ 1 ≤ h ∧ h ≤ 1000 ∧ 1 ≤ w ∧ w ≤ 1000 ∧
  ∀ (v : V) (H' : Hp), Same H H' → IsD H' v (fieldD (rowsF (letF lo hi h w c0 c1 t))) → Q v H'
theorem at_bit {x y : Int} (c : Bool) : atI [V.int x, .int y] (cN c : Int) = some (.int (if c then y else x)) := by cases c <;> rfl
theorem df_law_let_in_by (T : Txt K mg) : Df P w K mg base 1 "_law_let_in_by" ["low", "high", "size", "corner", "times"] spLetBy := by
  refine T.d_law_let_in_by.ok sc_law_let_in_by (fun vs H Q E h => ?_) (fun f cdv A outer s H vs Q E hr h => ?_)
  · obtain ⟨lo, hi, sz, co, h, w, t, c0, c1, rfl, _⟩ := h
    rfl
  · obtain ⟨lo, hi, sz, co, h, w, t, c0, c1, rfl, hsz, hco, h1, hs, w1, wS, q⟩ := h
    refine ⟨_, (@pss_cons _ _ _ _ _ (@ps_set _ _ 5 _ _ _ _ sc_law_let_in_by.nd rfl (by first | exact Or.inl rfl | exact Or.inr rfl) (@pe_lst _ _ _ _ pa_nil) (by rfl) (by first | exact .inl rfl | exact .inr rfl))
      (@pss_cons _ _ _ _ _ (@ps_for _ _ _ _ _ _ _ _ PassesOwn.never rfl (pi_range1 (by rfl) T.n_range (@pa_cons _ _ _ _ _ (@pe_ix _ _ _ _ _ _ _ (ix_seqK (K := K) rfl) (pv 2) pe_int (fun _ _ => rfl)) pa_nil star_sub)) (pg_name (i := 6) sc_law_let_in_by.nd rfl (by first | exact Or.inl rfl | exact Or.inr rfl)) (@pss_cons _ _ _ _ _ (@ps_set _ _ 7 _ _ _ _ sc_law_let_in_by.nd rfl (by first | exact Or.inl rfl | exact Or.inr rfl) (@pe_ix _ _ _ _ _ _ _ (ix_seqK (K := K) rfl) (@pe_lst _ _ _ _ (@pa_cons _ _ _ _ _ (pv 6) (@pa_cons _ _ _ _ _ (@pe_op _ _ _ _ _ _ _ _ op_sub (@pe_op _ _ _ _ _ _ _ _ op_sub (@pe_ix _ _ _ _ _ _ _ (ix_seqK (K := K) rfl) (pv 2) pe_int (fun _ _ => rfl)) pe_int) (pv 6)) pa_nil star_bin) (by rfl))) (@pe_ix _ _ _ _ _ _ _ (ix_seqK (K := K) rfl) (pv 3) pe_int (fun _ _ => rfl)) (fun _ _ => rfl)) (by rfl) (by first | exact .inl rfl | exact .inr rfl))
      (@pss_cons _ _ _ _ _ (@ps_set _ _ 8 _ _ _ _ sc_law_let_in_by.nd rfl (by first | exact Or.inl rfl | exact Or.inr rfl) (@pe_lst _ _ _ _ pa_nil) (by rfl) (by first | exact .inl rfl | exact .inr rfl))
      (@pss_cons _ _ _ _ _ (@ps_for _ _ _ _ _ _ _ _ PassesOwn.never rfl (pi_range1 (by rfl) T.n_range (@pa_cons _ _ _ _ _ (@pe_ix _ _ _ _ _ _ _ (ix_seqK (K := K) rfl) (pv 2) pe_int (fun _ _ => rfl)) pa_nil star_sub)) (pg_name (i := 9) sc_law_let_in_by.nd rfl (by first | exact Or.inl rfl | exact Or.inr rfl)) (@pss_one _ _ _ (@ps_expr _ _ _ _ (pe_bm PySem.F.plainAttrs_list PySem.F.slot_list_append PySem.F.type_list_append mt_append (pv 8) (@pa_cons _ _ _ _ _ (@pe_ix _ _ _ _ _ _ _ (ix_seqK (K := K) rfl) (@pe_lst _ _ _ _ (@pa_cons _ _ _ _ _ (pv 0) (@pa_cons _ _ _ _ _ (pv 1) pa_nil (by rfl)) (by rfl))) (@pe_callTy _ _ _ _ _ _ _ _ _ call_int1 (by rfl) T.n_int bt_int (@pa_cons _ _ _ _ _ (@pe_cmpR _ _ _ _ _ _ _ _ op_lt (@pe_op _ _ _ _ _ _ _ _ op_add (pv 7) (@pe_ix _ _ _ _ _ _ _ (ix_seqK (K := K) rfl) (@pe_lst _ _ _ _ (@pa_cons _ _ _ _ _ (pv 9) (@pa_cons _ _ _ _ _ (@pe_op _ _ _ _ _ _ _ _ op_sub (@pe_op _ _ _ _ _ _ _ _ op_sub (@pe_ix _ _ _ _ _ _ _ (ix_seqK (K := K) rfl) (pv 2) pe_int (fun _ _ => rfl)) pe_int) (pv 9)) pa_nil star_bin) (by rfl))) (@pe_ix _ _ _ _ _ _ _ (ix_seqK (K := K) rfl) (pv 3) pe_int (fun _ _ => rfl)) (fun _ _ => rfl))) (pv 4) (nomark _)) pa_nil star_cmp) (by decide) (by decide) (by rfl) (by rfl)) (fun _ _ => rfl)) pa_nil star_sub)) (by rfl))) (by intro _; rfl))
      (@pss_one _ _ _ (@ps_expr _ _ _ _ (pe_bm PySem.F.plainAttrs_list PySem.F.slot_list_append PySem.F.type_list_append mt_append (pv 5) (@pa_cons _ _ _ _ _ (@pe_callTy _ _ _ _ _ _ _ _ _ (call_tupleK (K := K) rfl) (by rfl) T.n_tuple bt_tuple (@pa_cons _ _ _ _ _ (pv 8) pa_nil (by rfl)) (by decide) (by decide) (by rfl) (by rfl)) pa_nil star_call)) (by rfl)))))) (by intro _; rfl))
      (@pss_one _ _ _ (@ps_ret _ _ _ _ (@pe_callTy _ _ _ _ _ _ _ _ _ (call_tupleK (K := K) rfl) (by rfl) T.n_tuple bt_tuple (@pa_cons _ _ _ _ _ (pv 5) pa_nil (by rfl)) (by decide) (by decide) (by rfl) (by rfl)))))), ?_⟩
    refine ⟨(by show 0 ≤ sizeLine; decide), fun b hb => ?_⟩
    have s1 := same_upd (o := .lst []) hb
    have oldne : ∀ x o, H x = some o → x ≠ b := fun x o e => ne_of_none e hb
    have keepH : ∀ {H' : Hp}, KeepBut b (upd H b (.lst [])) H' → Same H H' := fun k x o e => k x o (s1 x o e) (oldne x o e)
    have hb1 : upd H b (.lst []) b = some (.lst []) := upd_same
    generalize upd H b (.lst []) = H1 at s1 hb1 keepH ⊢
    refine ⟨_, rfl, Or.inr (Or.inl ⟨_, _, _, _, rfl, rfl, SqT.of (s1 _ _ hsz), rfl, _, rfl, by omega, by omega, ?_⟩)⟩
    have R := letF_rows lo hi c0 c1 t h1 hs w1 wS
    have fl : (rowsF (letF lo hi h w c0 c1 t)).length = h := by rw [rowsF_len]; exact R.len
    rw [Int.toNat_natCast]
    refine for_range (n := h) (fun i σ H' => ∃ (v6 v7 v8 v9 : Option V) (ys : List V), σ = [some (.int lo), some (.int hi), some (.ref sz), some (.ref co), some (.int (t : Int)), some (.ref b), v6, v7, v8, v9] ∧ KeepBut b H1 H' ∧ H' b = some (.lst ys) ∧ IsDs H' ys (((rowsF (letF lo hi h w c0 c1 t)).take i).map rowD)) ⟨none, none, none, none, [], rfl, KeepBut.refl _ _, hb1, .nil⟩ ?_ ?_
    · rintro i _ H2 hi' ⟨v6, v7, v8, v9, ys, rfl, k2, hb2, hys⟩
      have S2 := keepH k2
      have e0 : (0 : Int) + (i : Int) = (i : Int) := by omega
      rw [e0]
      refine ⟨_, rfl, _, rfl, Or.inr (Or.inl ⟨_, _, _, _, rfl, rfl, SqT.of (S2 _ _ hsz), rfl, _, _, rfl, rfl, _, rfl, _, _, rfl, rfl, (by show 2 ≤ sizeLine; decide), fun l3 hl3 => ?_⟩)⟩
      have s3 := same_upd (o := .lst [.int (i : Int), .int ((h : Int) - 1 - (i : Int))]) hl3
      refine ⟨_, rfl, Or.inl ⟨_, _, _, _, rfl, rfl, SqL.of ((S2.trans s3) _ _ hco), rfl, ?_⟩⟩
      refine Or.inl ⟨_, _, _, _, rfl, rfl, SqL.of upd_same, at_bit c0, ?_⟩
      have ef : (if c0 = true then (h : Int) - 1 - (i : Int) else (i : Int)) = farI c0 h i := rfl
      rw [ef]
      generalize upd H2 l3 (.lst [.int (i : Int), .int ((h : Int) - 1 - (i : Int))]) = H3 at s3 ⊢
      have hb3 := s3 _ _ hb2
      refine ⟨(by show 0 ≤ sizeLine; decide), fun e he => ?_⟩
      have s4 := same_upd (o := .lst []) he
      have e4 : upd H3 e (.lst []) e = some (.lst []) := upd_same
      have neb : e ≠ b := (ne_of_none hb3 he).symm
      have old4 : ∀ x o, H3 x = some o → x ≠ e := fun x o ex => ne_of_none ex he
      generalize upd H3 e (.lst []) = H4 at s4 e4 ⊢
      have S4 := S2.trans (s3.trans s4)
      dsimp only [gName, List.set]
      refine ⟨_, rfl, Or.inr (Or.inl ⟨_, _, _, _, rfl, rfl, SqT.of (S4 _ _ hsz), rfl, _, rfl, by omega, by omega, ?_⟩)⟩
      rw [Int.toNat_natCast]
      have p0 : 0 ≤ farI c0 h i := by unfold farI; split <;> omega
      refine for_range (n := w) (fun j σ H' => ∃ (v9 : Option V), σ = [some (.int lo), some (.int hi), some (.ref sz), some (.ref co), some (.int (t : Int)), some (.ref b), some (.int (i : Int)), some (.int (farI c0 h i)), some (.ref e), v9] ∧ KeepBut e H4 H' ∧ H' e = some (.lst (((List.range j).map fun j : Nat => letV lo hi t (farI c0 h i) (farI c1 w j)).map V.int))) ⟨v9, rfl, KeepBut.refl _ _, e4⟩ ?_ ?_
      · rintro j _ H5 hj ⟨v9, rfl, k5, e5⟩
        have e0 : (0 : Int) + (j : Int) = (j : Int) := by omega
        rw [e0]
        have old : ∀ x o, H x = some o → H5 x = some o := fun x o ex => k5 _ _ (S4 _ _ ex) (old4 _ _ ((S2.trans s3) _ _ ex))
        refine ⟨_, rfl, Or.inl ⟨rfl, _, SqL.of e5⟩, ?_⟩
        refine ⟨_, rfl, _, rfl, (by show 2 ≤ sizeLine; decide), fun l6 hl6 => ?_⟩
        have s6 := same_upd (o := .lst [.int lo, .int hi]) hl6
        refine ⟨_, rfl, _, rfl, _, rfl, Or.inr (Or.inl ⟨_, _, _, _, rfl, rfl, SqT.of (s6 _ _ (old _ _ hsz)), rfl, _, _, rfl, rfl, _, rfl, _, _, rfl, rfl, (by show 2 ≤ sizeLine; decide), fun l7 hl7 => ?_⟩)⟩
        have s7 := same_upd (o := .lst [.int (j : Int), .int ((w : Int) - 1 - (j : Int))]) hl7
        refine ⟨_, rfl, Or.inl ⟨_, _, _, _, rfl, rfl, SqL.of ((s6.trans s7) _ _ (old _ _ hco)), rfl, ?_⟩⟩
        refine Or.inl ⟨_, _, _, _, rfl, rfl, SqL.of upd_same, at_bit c1, ?_⟩
        have ef : (if c1 = true then (w : Int) - 1 - (j : Int) else (j : Int)) = farI c1 w j := rfl
        rw [ef]
        have q0 : 0 ≤ farI c1 w j := by unfold farI; split <;> omega
        refine ⟨_, _, rfl, rfl, _, rfl, _, _, rfl, rfl, Or.inr ⟨_, rfl, ?_⟩⟩
        have hat : atI [V.int lo, .int hi] (if decide (farI c0 h i + farI c1 w j < (t : Int)) = true then 1 else 0) = some (.int (letV lo hi t (farI c0 h i) (farI c1 w j))) := by
          unfold letV
          by_cases z : farI c0 h i + farI c1 w j < (t : Int)
          · rw [decide_eq_true z, if_pos (Or.inr (Or.inr z))]; rfl
          · rw [decide_eq_false z, if_neg Bool.false_ne_true, if_neg (show ¬ (farI c0 h i < 0 ∨ farI c1 w j < 0 ∨ farI c0 h i + farI c1 w j < (t : Int)) by omega)]; rfl
        refine Or.inl ⟨_, _, _, _, rfl, rfl, SqL.of (s7 _ _ upd_same), hat, ?_⟩
        have S7 := s6.trans s7
        have e7 := S7 _ _ e5
        refine ⟨_, _, _, rfl, rfl, e7, (by rw [List.length_map, List.length_map, List.length_range]; exact Nat.lt_of_lt_of_le (show j < 1001 by omega) (by decide)), ?_⟩
        refine ⟨_, rfl, fun x o ex n => ?_, ?_⟩
        · rw [upd_ne n]
          exact S7 _ _ (k5 _ _ ex n)
        · rw [upd_same, List.range_succ, List.map_append, List.map_append]
          rfl
      · rintro _ H5 ⟨v9, rfl, k5, e5⟩
        have hb5 := k5 _ _ (s4 _ _ hb3) neb.symm
        refine ⟨_, rfl, Or.inl ⟨rfl, _, SqL.of hb5⟩, ?_⟩
        refine ⟨_, rfl, _, _, rfl, Or.inl ⟨SqL.of e5, fun t9 ht9 => ?_⟩⟩
        have st := same_upd (o := .tup (((List.range w).map fun j : Nat => letV lo hi t (farI c0 h i) (farI c1 w j)).map V.int)) ht9
        have hb6 := st _ _ hb5
        have ly : ys.length = i := by rw [hys.length, List.length_map, List.length_take, fl]; omega
        refine ⟨_, _, _, rfl, rfl, hb6, (by rw [ly]; exact Nat.lt_of_lt_of_le (show i < 1001 by omega) (by decide)), ?_⟩
        have tb : t9 ≠ b := (ne_of_none hb5 ht9).symm
        refine ⟨_, _, _, _, ys ++ [.ref t9], rfl, fun x o ex n => ?_, upd_same, ?_⟩
        · rw [upd_ne n]
          have x2 := k2 _ _ ex n
          exact st _ _ (k5 _ _ (s4 _ _ (s3 _ _ x2)) (old4 _ _ (s3 _ _ x2)))
        · have er : (rowsF (letF lo hi h w c0 c1 t))[i]? = some (((List.range w).map fun j : Nat => letV lo hi t (farI c0 h i) (farI c1 w j)).map some) := by
            unfold rowsF
            rw [List.getElem?_map, letF_get hi']; rfl
          rw [List.take_add_one, er, List.map_append]
          have kt : ∀ x zs, H2 x = some (.tup zs) → upd (upd H5 t9 (.tup (((List.range w).map fun j : Nat => letV lo hi t (farI c0 h i) (farI c1 w j)).map V.int))) b (.lst (ys ++ [.ref t9])) x = some (.tup zs) := fun x zs ex => by
            rw [upd_ne (ne_of ex hb2 fun z => by cases z)]
            exact st _ _ (k5 _ _ (s4 _ _ (s3 _ _ ex)) (old4 _ _ (s3 _ _ ex)))
          refine (hys.keep kt).append (.cons (.tup (xs := ((List.range w).map fun j : Nat => letV lo hi t (farI c0 h i) (farI c1 w j)).map V.int) (by rw [upd_ne tb]; exact upd_same) ?_) .nil)
          rw [cells_of]; exact isCells _
    · rintro _ H2 ⟨v6, v7, v8, v9, ys, rfl, k2, hb2, hys⟩
      refine ⟨_, rfl, _, _, rfl, Or.inl ⟨SqL.of hb2, fun t9 ht9 => ?_⟩⟩
      have st := same_upd (o := .tup ys) ht9
      refine q (.ref t9) _ ((keepH k2).trans st) (.tup upd_same ?_)
      rw [List.take_of_length_le (by rw [fl]; exact Nat.le_refl _)] at hys
      exact hys.keep st.tups
section
variable {lo hi : Int} {h w : Nat}
def gL (lo hi : Int) (c0 c1 : Bool) : Fld → Fld := gf (.told (some hi)) (1 - cN c0) (cN c0) (1 - cN c1) (cN c1) (letS lo hi).1 (letS lo hi).2
theorem it_let (c0 c1 : Bool) (h1 : 1 ≤ h) (hs : h ≤ 1000) (w1 : 1 ≤ w) (ws : w ≤ 1000) : ∀ k, itF (gL lo hi c0 c1) (rowsF (letF lo hi h w c0 c1 0)) k = rowsF (letF lo hi h w c0 c1 k)
  | 0 => rfl
  | k + 1 => by
    show fil (itF (gL lo hi c0 c1) (rowsF (letF lo hi h w c0 c1 0)) k) _ _ _ _ _ _ _ = _
    rw [it_let c0 c1 h1 hs w1 ws k]
    exact fil_let c0 c1 k h1 hs w1 ws
theorem back_let (c0 c1 : Bool) (h1 : 1 ≤ h) (hs : h ≤ 1000) (w1 : 1 ≤ w) (ws : w ≤ 1000) : Back (gL lo hi c0 c1) (rowsF (letF lo hi h w c0 c1 0)) (lastL lo hi h w) (lastL lo hi h w + 1) := by
  refine ⟨Nat.lt_succ_self _, ?_, fun i j g1 g2 e => ?_⟩
  · rw [it_let c0 c1 h1 hs w1 ws, it_let c0 c1 h1 hs w1 ws, letF_full (Nat.le_refl _)]
  · rw [it_let c0 c1 h1 hs w1 ws, it_let c0 c1 h1 hs w1 ws] at e
    exact letF_apart h1 w1 g1 (by omega) (rowsF_inj e)
theorem share_let (lo hi : Int) : Share (letS lo hi).1 (letS lo hi).2 := by
  unfold letS
  split
  · exact ⟨by decide, by decide, by decide, by decide⟩
  · exact ⟨by decide, by decide, by decide, by decide⟩
end
def spLate : Sp := fun vs H Q _ => ∃ (d e : Addr) (n : Nat), vs = [.ref d] ∧ Dk H d e n ∧ n ≤ 10000 ∧ ∀ (H' : Hp), Dk H' d e (n + 14) → K2 d e H H' → Q (.bl true) H'
theorem df_law_late_still_right (T : Txt K mg) : Df P w K mg base 6 "_law_late_still_right" ["deck"] spLate := by
  refine T.d_law_late_still_right.ok sc_law_late_still_right (fun vs H Q E h => ?_) (fun f cdv A outer s H vs Q E hr h => ?_)
  · obtain ⟨d, e, n, rfl, _⟩ := h
    rfl
  · obtain ⟨d, e, n, rfl, D, hn, q⟩ := h
    refine ⟨_, (@pss_cons _ _ _ _ _ (@ps_asg _ _ _ _ _ _ (@pe_df _ _ _ _ _ _ _ _ _ _ (df_law_let_in T) (hr.mono (by decide)) (@pa_cons _ _ _ _ _ (pv 0) pa_nil (by rfl)) (by rfl) (by decide) (by rfl) (by rfl)) (pg_lstK (K := K) rfl rfl (pgs_cons (pg_name (i := 1) sc_law_late_still_right.nd rfl (by first | exact Or.inl rfl | exact Or.inr rfl)) (pgs_cons (pg_name (i := 2) sc_law_late_still_right.nd rfl (by first | exact Or.inl rfl | exact Or.inr rfl)) (pgs_cons (pg_name (i := 3) sc_law_late_still_right.nd rfl (by first | exact Or.inl rfl | exact Or.inr rfl)) (pgs_cons (pg_name (i := 4) sc_law_late_still_right.nd rfl (by first | exact Or.inl rfl | exact Or.inr rfl)) (pgs_cons (pg_name (i := 5) sc_law_late_still_right.nd rfl (by first | exact Or.inl rfl | exact Or.inr rfl)) pgs_nil)))))) (by rfl) (by rfl) (by rfl))
      (@pss_cons _ _ _ _ _ (@ps_set _ _ 6 _ _ _ _ sc_law_late_still_right.nd rfl (by first | exact Or.inl rfl | exact Or.inr rfl) (@pe_ix _ _ _ _ _ _ _ (ix_seqK (K := K) rfl) (@pe_lst _ _ _ _ (@pa_cons _ _ _ _ _ (@pe_tup _ _ _ _ _ (@pa_cons _ _ _ _ _ pe_int (@pa_cons _ _ _ _ _ pe_int pa_nil (by rfl)) (by rfl))) (@pa_cons _ _ _ _ _ (@pe_tup _ _ _ _ _ (@pa_cons _ _ _ _ _ pe_int (@pa_cons _ _ _ _ _ pe_int pa_nil (by rfl)) (by rfl))) pa_nil star_tup) star_tup)) (@pe_callTy _ _ _ _ _ _ _ _ _ call_int1 (by rfl) T.n_int bt_int (@pa_cons _ _ _ _ _ (@pe_cmpR _ _ _ _ _ _ _ _ op_lt (pv 2) (pv 1) (nomark _)) pa_nil star_cmp) (by decide) (by decide) (by rfl) (by rfl)) (fun _ _ => rfl)) (by rfl) (by first | exact .inl rfl | exact .inr rfl))
      (@pss_cons _ _ _ _ _ (@ps_set _ _ 7 _ _ _ _ sc_law_late_still_right.nd rfl (by first | exact Or.inl rfl | exact Or.inr rfl) (@pe_df _ _ _ _ _ _ _ _ _ _ (df_law_let_in_by T) (hr.mono (by decide)) (@pa_cons _ _ _ _ _ (pv 1) (@pa_cons _ _ _ _ _ (pv 2) (@pa_cons _ _ _ _ _ (pv 3) (@pa_cons _ _ _ _ _ (pv 4) (@pa_cons _ _ _ _ _ pe_int pa_nil (by rfl)) (by rfl)) (by rfl)) (by rfl)) (by rfl)) (by rfl) (by decide) (by rfl) (by rfl)) (by rfl) (by first | exact .inl rfl | exact .inr rfl))
      (@pss_cons _ _ _ _ _ (@ps_set _ _ 8 _ _ _ _ sc_law_late_still_right.nd rfl (by first | exact Or.inl rfl | exact Or.inr rfl) (@pe_op _ _ _ _ _ _ _ _ op_sub (@pe_op _ _ _ _ _ _ _ _ op_add (@pe_ix _ _ _ _ _ _ _ (ix_seqK (K := K) rfl) (pv 3) pe_int (fun _ _ => rfl)) (@pe_ix _ _ _ _ _ _ _ (ix_seqK (K := K) rfl) (pv 3) pe_int (fun _ _ => rfl))) pe_int) (by rfl) (by first | exact .inl rfl | exact .inr rfl))
      (@pss_cons _ _ _ _ _ (@ps_if _ _ _ _ _ _ _ _ (@pt_cmpR _ _ _ _ _ _ _ _ (op_eqA hr.units) (pv 1) (pv 2) (nomark _)) (@pss_one _ _ _ (@ps_set _ _ 8 _ _ _ _ sc_law_late_still_right.nd rfl (by first | exact Or.inl rfl | exact Or.inr rfl) pe_int (by rfl) (by first | exact .inl rfl | exact .inr rfl))) pss_nil)
      (@pss_cons _ _ _ _ _ (@ps_for _ _ _ _ _ _ _ _ PassesOwn.never rfl (pi_seqK (K := K) rfl (@pe_lst _ _ _ _ (@pa_cons _ _ _ _ _ (@pe_df _ _ _ _ _ _ _ _ _ _ (df_law_draw T) (hr.mono (by decide)) (@pa_cons _ _ _ _ _ (pv 0) (@pa_cons _ _ _ _ _ pe_int pa_nil (by rfl)) (by rfl)) (by rfl) (by decide) (by rfl) (by rfl)) (@pa_cons _ _ _ _ _ (@pe_op _ _ _ _ _ _ _ _ op_add (pv 8) (@pe_df _ _ _ _ _ _ _ _ _ _ (df_law_draw T) (hr.mono (by decide)) (@pa_cons _ _ _ _ _ (pv 0) (@pa_cons _ _ _ _ _ pe_int pa_nil (by rfl)) (by rfl)) (by rfl) (by decide) (by rfl) (by rfl))) pa_nil star_bin) star_call))) (pg_name (i := 9) sc_law_late_still_right.nd rfl (by first | exact Or.inl rfl | exact Or.inr rfl)) (@pss_cons _ _ _ _ _ (@ps_set _ _ 10 _ _ _ _ sc_law_late_still_right.nd rfl (by first | exact Or.inl rfl | exact Or.inr rfl) (@pe_tup _ _ _ _ _ (@pa_cons _ _ _ _ _ pe_str (@pa_cons _ _ _ _ _ (@pe_df _ _ _ _ _ _ _ _ _ _ (df_law_let_in_by T) (hr.mono (by decide)) (@pa_cons _ _ _ _ _ (pv 1) (@pa_cons _ _ _ _ _ (pv 2) (@pa_cons _ _ _ _ _ (pv 3) (@pa_cons _ _ _ _ _ (pv 4) (@pa_cons _ _ _ _ _ (pv 9) pa_nil (by rfl)) (by rfl)) (by rfl)) (by rfl)) (by rfl)) (by rfl) (by decide) (by rfl) (by rfl)) pa_nil star_call) (by rfl))) (by rfl) (by first | exact .inl rfl | exact .inr rfl))
      (@pss_cons _ _ _ _ _ (@ps_if _ _ _ _ _ _ _ _ (@pt_cmpR _ _ _ _ _ _ _ _ op_gt (pv 9) (pv 8) (nomark _)) (@pss_one _ _ _ (@ps_set _ _ 10 _ _ _ _ sc_law_late_still_right.nd rfl (by first | exact Or.inl rfl | exact Or.inr rfl) (@pe_tup _ _ _ _ _ (@pa_cons _ _ _ _ _ pe_str (@pa_cons _ _ _ _ _ (@pe_df _ _ _ _ _ _ _ _ _ _ (df_law_let_in_by T) (hr.mono (by decide)) (@pa_cons _ _ _ _ _ (pv 1) (@pa_cons _ _ _ _ _ (pv 2) (@pa_cons _ _ _ _ _ (pv 3) (@pa_cons _ _ _ _ _ (pv 4) (@pa_cons _ _ _ _ _ (pv 8) pa_nil (by rfl)) (by rfl)) (by rfl)) (by rfl)) (by rfl)) (by rfl) (by decide) (by rfl) (by rfl)) (@pa_cons _ _ _ _ _ (pv 8) pa_nil (by rfl)) star_call) (by rfl))) (by rfl) (by first | exact .inl rfl | exact .inr rfl))) pss_nil)
      (@pss_one _ _ _ (@ps_if _ _ _ _ _ _ _ _ (@pt_not _ _ _ _ (@pt_val _ _ _ (@pe_df _ _ _ _ _ _ _ _ _ _ (df_law_same T) (hr.mono (by decide)) (@pa_cons _ _ _ _ _ (@pe_df _ _ _ _ _ _ _ _ _ _ (df_again T) (hr.mono (by decide)) (@pa_cons _ _ _ _ _ (pv 7) (@pa_cons _ _ _ _ _ (pv 5) (@pa_cons _ _ _ _ _ (@pe_tup _ _ _ _ _ (@pa_cons _ _ _ _ _ pe_str (@pa_cons _ _ _ _ _ (pv 2) pa_nil (by rfl)) (by rfl))) (@pa_cons _ _ _ _ _ (pv 6) (@pa_cons _ _ _ _ _ (pv 9) pa_nil (by rfl)) (by rfl)) star_tup) (by rfl)) (by rfl)) (by rfl) (by decide) (by rfl) (by rfl)) (@pa_cons _ _ _ _ _ (pv 10) pa_nil (by rfl)) star_call) (by rfl) (by decide) (by rfl) (by rfl)) (by intro _; rfl))) (@pss_one _ _ _ (@ps_ret _ _ _ _ pe_bl)) pss_nil)))) (by intro _; rfl))
      (@pss_one _ _ _ (@ps_ret _ _ _ _ pe_bl)))))))), ?_⟩
    refine ⟨_, rfl, _, _, _, rfl, D, by omega, fun p sz co wn lo hi h w c0 c1 H1 hp hsz fco hco hwn h1 h12 w1 w12 D1 k1 => ?_⟩
    refine ⟨_, _, rfl, SqL.of hp, rfl, ?_⟩
    refine ⟨_, _, rfl, _, _, rfl, _, _, rfl, _, _, rfl, _, _, rfl, rfl, ?_⟩
    have nco : co ≠ d ∧ co ≠ e := by
      obtain ⟨_, _, _, _, g1, g2, _⟩ := D
      exact ⟨fun ee => (by rw [ee, g1] at fco; cases fco), fun ee => (by rw [ee, g2] at fco; cases fco)⟩
    dsimp only [gName, List.set, L2.start]
    refine ⟨(by show 2 ≤ sizeLine; decide), fun t1 ht1 => ⟨(by show 2 ≤ sizeLine; decide), fun t2 ht2 => ⟨(by show 2 ≤ sizeLine; decide), fun l3 hl3 => ?_⟩⟩⟩
    have s1 := same_upd (o := .tup [.int 1, .int 2]) ht1
    have s2 := same_upd (o := .tup [.int 2, .int 3]) ht2
    have s3 := same_upd (o := .lst [.ref t1, .ref t2]) hl3
    have S3 := (s1.trans s2).trans s3
    refine ⟨_, rfl, _, rfl, _, _, rfl, rfl, Or.inr ⟨_, rfl, ?_⟩⟩
    obtain ⟨ts, hat, hts⟩ : ∃ ts, atI [V.ref t1, .ref t2] (if decide (hi < lo) = true then 1 else 0) = some (.ref ts) ∧ IsD (upd (upd (upd H1 t1 (.tup [.int 1, .int 2])) t2 (.tup [.int 2, .int 3])) l3 (.lst [.ref t1, .ref t2])) (.ref ts) (placeD (letS lo hi)) := by
      unfold letS
      by_cases z : hi < lo
      · rw [decide_eq_true z, if_pos z]
        exact ⟨t2, rfl, .tup (s3 _ _ upd_same) (.cons (.int _) (.cons (.int _) .nil))⟩
      · rw [decide_eq_false z, if_neg z]
        exact ⟨t1, rfl, .tup (s3 _ _ (s2 _ _ upd_same)) (.cons (.int _) (.cons (.int _) .nil))⟩
    refine Or.inl ⟨_, _, _, _, rfl, rfl, SqL.of upd_same, hat, ?_⟩
    generalize upd (upd (upd H1 t1 (.tup [.int 1, .int 2])) t2 (.tup [.int 2, .int 3])) l3 (.lst [.ref t1, .ref t2]) = H4 at S3 hts ⊢
    refine ⟨_, rfl, _, rfl, _, rfl, _, rfl, lo, hi, sz, co, h, w, 0, c0, c1, rfl, S3 _ _ hsz, S3 _ _ hco, h1, by omega, w1, by omega, fun fv H5 s5 hfv => ?_⟩
    have S5 := S3.trans s5
    refine ⟨_, rfl, Or.inr (Or.inl ⟨_, _, _, _, rfl, rfl, SqT.of (S5 _ _ hsz), rfl, _, rfl, Or.inr (Or.inl ⟨_, _, _, _, rfl, rfl, SqT.of (S5 _ _ hsz), rfl, _, _, rfl, rfl, _, _, rfl, rfl, ?_⟩)⟩)⟩
    dsimp only [gName, List.set]
    have R0 := (letF_rows lo hi c0 c1 0 h1 (show h ≤ 1000 by omega) w1 (show w ≤ 1000 by omega)).rect
    have lL : lastL lo hi h w ≤ 24 := by unfold lastL; split <;> omega
    have B := back_let (lo := lo) (hi := hi) c0 c1 h1 (show h ≤ 1000 by omega) w1 (show w ≤ 1000 by omega)
    have IT := it_let (lo := lo) (hi := hi) c0 c1 h1 (show h ≤ 1000 by omega) w1 (show w ≤ 1000 by omega)
    have eL : ∀ x : Int, ((lo = hi → x = 0) ∧ (¬ lo = hi → x = (h : Int) + (w : Int) - 1)) → x = (lastL lo hi h w : Int) := fun x ⟨e1, e2⟩ => by
      unfold lastL
      by_cases z : lo = hi
      · rw [if_pos z, e1 z]; rfl
      · rw [if_neg z, e2 z]; omega
    generalize lastL lo hi h w = L at lL B eL ⊢
    refine tSeq_cut (fun σ' H' => σ' = [some (.ref d), some (.int lo), some (.int hi), some (.ref sz), some (.ref co), some (.ref wn), some (.ref ts), some fv, some (.int (L : Int)), none, none] ∧ H' = H5) ?_ (fun rest => ?_)
    · rintro _ H5 ⟨rfl, rfl⟩
      have D5 := D1.keep S5
      have K5 := k1.trans (S5.k2 d e)
      refine Or.inl ⟨_, rfl, _, _, _, _, rfl, D5, (by decide), (by decide), by omega, fun x6 H6 a6 b6 D6 k6 => ?_⟩
      refine ⟨_, rfl, _, rfl, _, _, _, _, rfl, D6, (by decide), (by decide), by omega, fun x7 H7 a7 b7 D7 k7 => ?_⟩
      refine ⟨_, _, rfl, rfl, (by show 2 ≤ sizeLine; decide), fun l8 hl8 => ?_⟩
      have T7 : KeepT H5 H7 := fun b xs eb => (k7.tups D6) b xs ((k6.tups D5) b xs eb)
      have f7 := hfv.keep T7
      have ts7 := (hts.keep s5.tups).keep T7
      have sz7 := T7 _ _ (S5 _ _ hsz)
      have wn7 := T7 _ _ (S5 _ _ hwn)
      have co7 := (k6.trans k7) _ _ (S5 _ _ hco) nco.1 nco.2
      have K7 := (K5.trans k6).trans k7
      have s8 := same_upd (o := .lst [.int x6, .int ((L : Int) + x7)]) hl8
      refine ⟨_, rfl, ⟨_, SqL.of upd_same⟩, ?_⟩
      refine for_list (xs := [.int x6, .int ((L : Int) + x7)]) (fun k σ H' => ∃ (v9 v10 : Option V), σ = [some (.ref d), some (.int lo), some (.int hi), some (.ref sz), some (.ref co), some (.ref wn), some (.ref ts), some fv, some (.int (L : Int)), v9, v10] ∧ Same (upd H7 l8 (.lst [.int x6, .int ((L : Int) + x7)])) H') ⟨none, none, rfl, Same.refl _⟩ (fun k σ H' _ ⟨_, _, _, s⟩ => SqL.of (s _ _ upd_same)) ?_ ?_
      · rintro k x _ H9 hx ⟨v9, v10, rfl, s9⟩
        have S9 := s8.trans s9
        obtain ⟨m, rfl, hm⟩ : ∃ m : Nat, x = .int (m : Int) ∧ m ≤ 60 := by
          have : x ∈ [V.int x6, .int ((L : Int) + x7)] := List.mem_of_getElem? hx
          simp only [List.mem_cons, List.not_mem_nil, or_false] at this
          rcases this with rfl | rfl
          · exact ⟨x6.toNat, by rw [Int.toNat_of_nonneg a6], by omega⟩
          · exact ⟨((L : Int) + x7).toNat, by rw [Int.toNat_of_nonneg (by omega)], by omega⟩
        dsimp only [gName, List.set]
        refine ⟨_, rfl, _, rfl, _, rfl, _, rfl, _, rfl, lo, hi, sz, co, h, w, m, c0, c1, rfl, S9 _ _ sz7, S9 _ _ co7, h1, by omega, w1, by omega, fun v H10 s10 hv => ?_⟩
        refine ⟨(by show 2 ≤ sizeLine; decide), fun p11 hp11 => ?_⟩
        have s11 := same_upd (o := .tup [.str "open", v]) hp11
        have S11 := (S9.trans s10).trans s11
        have d11 : IsD (upd H10 p11 (.tup [.str "open", v])) (.ref p11) (tlD "open" (rowsF (letF lo hi h w c0 c1 m)) []) := .tup upd_same (.cons (.str _) (.cons (hv.keep s11.tups) .nil))
        have S11' := (s9.trans s10).trans s11
        generalize upd H10 p11 (.tup [.str "open", v]) = H11 at s11 S11 S11' d11 ⊢
        dsimp only [gName, List.set]
        refine tSeq_cut (fun σ' H' => ∃ (dv : V) (Dd : PyData), σ' = [some (.ref d), some (.int lo), some (.int hi), some (.ref sz), some (.ref co), some (.ref wn), some (.ref ts), some fv, some (.int (L : Int)), some (.int (m : Int)), some dv] ∧ Same H11 H' ∧ IsD H' dv Dd ∧ TD (gL lo hi c0 c1) (rowsF (letF lo hi h w c0 c1 0)) m Dd) ?_ (fun rest => ?_)
        · rintro _ H12 ⟨dv, Dd, rfl, s12, hdv, hTD⟩
          have S12 := S11.trans s12
          refine ⟨_, rfl, _, rfl, _, rfl, (by show 2 ≤ sizeLine; decide), fun p13 hp13 => ?_⟩
          have s13 := same_upd (o := .tup [.str "told", .int hi]) hp13
          have S13 := S12.trans s13
          refine ⟨_, rfl, _, rfl, ?_⟩
          refine ⟨_, _, _, _, rowsF (letF lo hi h w c0 c1 0), .told (some hi), 1 - cN c0, cN c0, 1 - cN c1, cN c1, m, (letS lo hi).1, (letS lo hi).2, rfl, R0, f7.keep S13.tups, isWin (S13 _ _ wn7), .tup upd_same (.cons (.str _) (.cons (.int _) .nil)), Shr.of (ts7.keep S13.tups), share_let lo hi, ?_, ?_, by omega, fun tv H14 D' s14 hD' htv => ?_⟩
          · have b0 : ∀ c, cN c ≤ 1 := fun c => by cases c <;> decide
            have := b0 c0
            have := b0 c1
            omega
          · cases c0 <;> cases c1 <;> decide
          obtain rfl := hTD.uniq hD'
          obtain ⟨pl, dp⟩ := TD.plain R0 hTD
          refine ⟨_, rfl, _, _, _, rfl, htv, hdv.keep (s13.trans s14).tups, pl, dp, fun H15 s15 => ?_⟩
          refine ⟨_, rfl, iteF ?_⟩
          exact ⟨_, _, rfl, (S11'.trans s12).trans ((s13.trans s14).trans s15)⟩
        · refine ⟨_, rfl, _, rfl, _, _, rfl, rfl, _, rfl, ?_⟩
          refine ite2 (fun z => ?_) (fun z => ?_)
          · have z' : (L : Int) < (m : Int) := of_decide_eq_true z
            refine ⟨_, rfl, _, rfl, _, rfl, _, rfl, _, rfl, lo, hi, sz, co, h, w, L, c0, c1, rfl, S11 _ _ sz7, S11 _ _ co7, h1, by omega, w1, by omega, fun v' H12 s12 hv' => ?_⟩
            refine ⟨_, rfl, (by show 3 ≤ sizeLine; decide), fun p13 hp13 => ?_⟩
            have s13 := same_upd (o := .tup [.str "still", v', .int (L : Int)]) hp13
            refine rest _ _ ⟨.ref p13, tlD "still" (itF (gL lo hi c0 c1) (rowsF (letF lo hi h w c0 c1 0)) L) [(L : Int)], rfl, s12.trans s13, ?_, .still B (by omega)⟩
            rw [IT]
            exact .tup upd_same (.cons (.str _) (.cons (hv'.keep s13.tups) (.cons (.int _) .nil)))
          · have z' : ¬ (L : Int) < (m : Int) := fun ee => z (decide_eq_true ee)
            refine rest _ _ ⟨.ref p11, tlD "open" (itF (gL lo hi c0 c1) (rowsF (letF lo hi h w c0 c1 0)) m) [], rfl, Same.refl _, by rw [IT]; exact d11, .opn fun i j g1 g2 => B.nd i j g1 (by omega)⟩
      · rintro _ H9 ⟨v9, v10, rfl, s9⟩
        exact q _ ((D7.keep (s8.trans s9)).mono (by omega)) (K7.trans ((s8.trans s9).k2 d e))
    · refine ⟨_, rfl, _, rfl, Or.inl ⟨rfl, _, rfl, ?_⟩⟩
      refine ite2 (fun z => ?_) (fun z => ?_)
      · have z' : lo = hi := V.int.inj (of_decide_eq_true z)
        refine rest _ _ ⟨?_, rfl⟩
        rw [← eL 0 ⟨fun _ => rfl, fun n => absurd z' n⟩]
        rfl
      · have z' : ¬ lo = hi := fun ee => z (decide_eq_true (by rw [ee]))
        refine rest _ _ ⟨?_, rfl⟩
        rw [← eL ((h : Int) + (w : Int) - 1) ⟨fun n => absurd n z', fun _ => rfl⟩]
        rfl
theorem mid_share {b y : Int} (hb : 2 ≤ b) (y0 : 0 ≤ y) (y1 : y < b / 2) : L2.placeOf 3 ((b + 1) / 2 + y) b = 1 := by
  unfold L2.placeOf
  have h1 : b ≤ ((b + 1) / 2 + y) * (((3 : Nat) : Int) - 1) := by show b ≤ ((b + 1) / 2 + y) * 2; omega
  have h2 : ((b + 1) / 2 + y) * (((3 : Nat) : Int) - 1) < 2 * b := by show ((b + 1) / 2 + y) * 2 < 2 * b; omega
  generalize ((b + 1) / 2 + y) * (((3 : Nat) : Int) - 1) = z at h1 h2
  have g1 := Int.ediv_lt_of_lt_mul (a := z) (b := 2) (c := b) (by omega) (by omega)
  have g2 := Int.le_ediv_of_mul_le (a := 1) (b := z) (c := b) (by omega) (by omega)
  omega
def Found (xs : List (List Int)) (j : Nat) (us : List V) : Prop := (us = [] ∧ ∀ k : Nat, 1 ≤ k → k ≤ j → xs.map (mv (k : Int)) ≠ xs) ∨ ∃ (n : Nat) (vs : List V), us = .int (n : Int) :: vs ∧ Ring xs n ∧ n ≤ j
theorem Found.yes {xs : List (List Int)} {j : Nat} {us : List V} (h : Found xs j us) (e : xs.map (mv ((j + 1 : Nat) : Int)) = xs) : Found xs (j + 1) (us ++ [.int ((j + 1 : Nat) : Int)]) := by
  rcases h with ⟨rfl, hn⟩ | ⟨n, vs, rfl, R, hn⟩
  · exact Or.inr ⟨j + 1, [], rfl, ⟨by omega, e, fun k h1 h2 => hn k h1 (by omega)⟩, Nat.le_refl _⟩
  · exact Or.inr ⟨n, _, rfl, R, by omega⟩
theorem Found.no {xs : List (List Int)} {j : Nat} {us : List V} (h : Found xs j us) (e : ¬ xs.map (mv ((j + 1 : Nat) : Int)) = xs) : Found xs (j + 1) us := by
  rcases h with ⟨rfl, hn⟩ | ⟨n, vs, rfl, R, hn⟩
  · refine Or.inl ⟨rfl, fun k h1 h2 => ?_⟩
    by_cases z : k ≤ j
    · exact hn k h1 z
    · obtain rfl : k = j + 1 := by omega
      exact e
  · exact Or.inr ⟨n, _, rfl, R, by omega⟩
theorem Found.end_ {xs : List (List Int)} {w : Nat} {us : List V} (h : Found xs w us) (w1 : 1 ≤ w) (hw : ∀ x ∈ xs, x.length = w) : ∃ (n : Nat), atI us 0 = some (.int (n : Int)) ∧ Ring xs n ∧ n ≤ w := by
  rcases h with ⟨rfl, hn⟩ | ⟨n, vs, rfl, R, hn⟩
  · exfalso
    refine hn w w1 (Nat.le_refl _) ?_
    rw [List.map_congr_left (g := id) fun x hx => by rw [← hw x hx]; exact mv_all x, List.map_id]
  · exact ⟨n, atI_nat (j := 0) rfl, R, hn⟩
theorem df_law (T : Txt K mg) : Df P w K mg base 8 "law" ["script"] (SpLaw K) := by
  refine T.d_law.ok sc_law (fun vs H Q E h => ?_) (fun f cdv A outer s H vs Q E hr h => ?_)
  · obtain ⟨a, ns, rfl, _⟩ := h
    rfl
  · obtain ⟨a, ns, rfl, hS, hl, q⟩ := h
    refine ⟨_, (@pss_cons _ _ _ _ _ (@ps_set _ _ 1 _ _ _ _ sc_law.nd rfl (by first | exact Or.inl rfl | exact Or.inr rfl) (@pe_df _ _ _ _ _ _ _ _ _ _ (df_law_deck T) (hr.mono (by decide)) (@pa_cons _ _ _ _ _ (pv 0) pa_nil (by rfl)) (by rfl) (by decide) (by rfl) (by rfl)) (by rfl) (by first | exact .inl rfl | exact .inr rfl))
      (@pss_cons _ _ _ _ _ (@ps_if _ _ _ _ _ _ _ _ (pw_and (@pt_cmpR _ _ _ _ _ _ _ _ (op_eqA hr.units) (@pe_df _ _ _ _ _ _ _ _ _ _ (df_law_draw T) (hr.mono (by decide)) (@pa_cons _ _ _ _ _ (pv 1) (@pa_cons _ _ _ _ _ pe_int pa_nil (by rfl)) (by rfl)) (by rfl) (by decide) (by rfl) (by rfl)) pe_int (nomark _)) (pw_and1 (@pt_not _ _ _ _ (@pt_val _ _ _ (@pe_df _ _ _ _ _ _ _ _ _ _ (df_law_late_still_right T) (hr.mono (by decide)) (@pa_cons _ _ _ _ _ (pv 1) pa_nil (by rfl)) (by rfl) (by decide) (by rfl) (by rfl)) (by intro _; rfl))))).pt (@pss_one _ _ _ (@ps_ret _ _ _ _ pe_bl)) pss_nil)
      (@pss_cons _ _ _ _ _ (@ps_for _ _ _ _ _ _ _ _ PassesOwn.never rfl (pi_range1 (by rfl) T.n_range (@pa_cons _ _ _ _ _ pe_int pa_nil (by rfl))) (pg_name (i := 2) sc_law.nd rfl (by first | exact Or.inl rfl | exact Or.inr rfl)) (@pss_cons _ _ _ _ _ (@ps_set _ _ 3 _ _ _ _ sc_law.nd rfl (by first | exact Or.inl rfl | exact Or.inr rfl) (@pe_op _ _ _ _ _ _ _ _ op_add pe_int (@pe_df _ _ _ _ _ _ _ _ _ _ (df_law_draw T) (hr.mono (by decide)) (@pa_cons _ _ _ _ _ (pv 1) (@pa_cons _ _ _ _ _ pe_int pa_nil (by rfl)) (by rfl)) (by rfl) (by decide) (by rfl) (by rfl))) (by rfl) (by first | exact .inl rfl | exact .inr rfl))
      (@pss_cons _ _ _ _ _ (@ps_set _ _ 4 _ _ _ _ sc_law.nd rfl (by first | exact Or.inl rfl | exact Or.inr rfl) (pe_compIf (M := ["deck", "width"]) (idx := [1, 3]) rfl (pi_range1 (by rfl) T.n_range (@pa_cons _ _ _ _ _ (@pe_op _ _ _ _ _ _ _ _ op_add pe_int (@pe_df _ _ _ _ _ _ _ _ _ _ (df_law_draw T) (hr.mono (by decide)) (@pa_cons _ _ _ _ _ (pv 1) (@pa_cons _ _ _ _ _ pe_int pa_nil (by rfl)) (by rfl)) (by rfl) (by decide) (by rfl) (by rfl))) pa_nil star_bin)) (compOk (by kernel_rfl)) (by decide +kernel) (by first | exact Or.inl rfl | exact Or.inr rfl) (fun _ _ _ _ _ => pts_nil) (fun _ _ _ _ _ => (@pe_df _ _ _ _ _ _ _ _ _ _ (df_law_runs T) (hr.mono (by decide)) (@pa_cons _ _ _ _ _ (pv 1) (@pa_cons _ _ _ _ _ (pv 2) pa_nil (by rfl)) (by rfl)) (by rfl) (by decide) (by rfl) (by rfl)))) (by rfl) (by first | exact .inl rfl | exact .inr rfl))
      (@pss_cons _ _ _ _ _ (@ps_set _ _ 5 _ _ _ _ sc_law.nd rfl (by first | exact Or.inl rfl | exact Or.inr rfl) (@pe_ix _ _ _ _ _ _ _ (ix_seqK (K := K) rfl) (pe_compIf (M := ["rows"]) (idx := [4]) rfl (pi_range2 (by rfl) T.n_range (@pa_cons _ _ _ _ _ pe_int (@pa_cons _ _ _ _ _ (@pe_op _ _ _ _ _ _ _ _ op_add (pv 3) pe_int) pa_nil star_bin) (by rfl))) (compOk (by kernel_rfl)) (by decide +kernel) (by first | exact Or.inl rfl | exact Or.inr rfl) (fun _ _ _ _ _ => pts_one (@pt_cmpR _ _ _ _ _ _ _ _ (op_eqRR hr.units) (@pe_df _ _ _ _ _ _ _ _ _ _ (df_law_moved T) (hr.mono (by decide)) (@pa_cons _ _ _ _ _ (pv 1) (@pa_cons _ _ _ _ _ (pv 0) pa_nil (by rfl)) (by rfl)) (by rfl) (by decide) (by rfl) (by rfl)) (pv 1) (nomark _))) (fun _ _ _ _ _ => (pv 0))) pe_int (fun _ _ => rfl)) (by rfl) (by first | exact .inl rfl | exact .inr rfl))
      (@pss_cons _ _ _ _ _ (@ps_set _ _ 6 _ _ _ _ sc_law.nd rfl (by first | exact Or.inl rfl | exact Or.inr rfl) (@pe_op _ _ _ _ _ _ _ _ op_add pe_int (@pe_df _ _ _ _ _ _ _ _ _ _ (df_law_draw T) (hr.mono (by decide)) (@pa_cons _ _ _ _ _ (pv 1) (@pa_cons _ _ _ _ _ (@pe_ix _ _ _ _ _ _ _ (ix_seqK (K := K) rfl) (@pe_lst _ _ _ _ (@pa_cons _ _ _ _ _ pe_int (@pa_cons _ _ _ _ _ pe_int pa_nil (by rfl)) (by rfl))) (@pe_df _ _ _ _ _ _ _ _ _ _ (df_law_draw T) (hr.mono (by decide)) (@pa_cons _ _ _ _ _ (pv 1) (@pa_cons _ _ _ _ _ pe_int pa_nil (by rfl)) (by rfl)) (by rfl) (by decide) (by rfl) (by rfl)) (fun _ _ => rfl)) pa_nil star_sub) (by rfl)) (by rfl) (by decide) (by rfl) (by rfl))) (by rfl) (by first | exact .inl rfl | exact .inr rfl))
      (@pss_cons _ _ _ _ _ (@ps_set _ _ 7 _ _ _ _ sc_law.nd rfl (by first | exact Or.inl rfl | exact Or.inr rfl) (@pe_tup _ _ _ _ _ (@pa_cons _ _ _ _ _ (@pe_op _ _ _ _ _ _ _ _ op_add (@pe_op _ _ _ _ _ _ _ _ op_fdivB (@pe_op _ _ _ _ _ _ _ _ op_add (pv 6) pe_int) pe_int) (@pe_df _ _ _ _ _ _ _ _ _ _ (df_law_draw T) (hr.mono (by decide)) (@pa_cons _ _ _ _ _ (pv 1) (@pa_cons _ _ _ _ _ (@pe_op _ _ _ _ _ _ _ _ op_fdivB (pv 6) pe_int) pa_nil star_bin) (by rfl)) (by rfl) (by decide) (by rfl) (by rfl))) (@pa_cons _ _ _ _ _ (pv 6) pa_nil (by rfl)) star_bin)) (by rfl) (by first | exact .inl rfl | exact .inr rfl))
      (@pss_cons _ _ _ _ _ (@ps_set _ _ 8 _ _ _ _ sc_law.nd rfl (by first | exact Or.inl rfl | exact Or.inr rfl) (@pe_df _ _ _ _ _ _ _ _ _ _ (df_law_draw T) (hr.mono (by decide)) (@pa_cons _ _ _ _ _ (pv 1) (@pa_cons _ _ _ _ _ pe_int pa_nil (by rfl)) (by rfl)) (by rfl) (by decide) (by rfl) (by rfl)) (by rfl) (by first | exact .inl rfl | exact .inr rfl))
      (@pss_cons _ _ _ _ _ (@ps_set _ _ 9 _ _ _ _ sc_law.nd rfl (by first | exact Or.inl rfl | exact Or.inr rfl) (@pe_ix _ _ _ _ _ _ _ (ix_seqK (K := K) rfl) (@pe_lst _ _ _ _ (@pa_cons _ _ _ _ _ pe_int (@pa_cons _ _ _ _ _ (@pe_un _ _ _ _ _ _ un_neg pe_int) pa_nil star_un) (by rfl))) (@pe_df _ _ _ _ _ _ _ _ _ _ (df_law_draw T) (hr.mono (by decide)) (@pa_cons _ _ _ _ _ (pv 1) (@pa_cons _ _ _ _ _ pe_int pa_nil (by rfl)) (by rfl)) (by rfl) (by decide) (by rfl) (by rfl)) (fun _ _ => rfl)) (by rfl) (by first | exact .inl rfl | exact .inr rfl))
      (@pss_cons _ _ _ _ _ (@ps_set _ _ 10 _ _ _ _ sc_law.nd rfl (by first | exact Or.inl rfl | exact Or.inr rfl) (@pe_ix _ _ _ _ _ _ _ (ix_seqK (K := K) rfl) (@pe_ix _ _ _ _ _ _ _ (ix_seqK (K := K) rfl) (@pe_lst _ _ _ _ (@pa_cons _ _ _ _ _ (@pe_lst _ _ _ _ (@pa_cons _ _ _ _ _ (@pe_tup _ _ _ _ _ (@pa_cons _ _ _ _ _ pe_int (@pa_cons _ _ _ _ _ pe_int (@pa_cons _ _ _ _ _ pe_int (@pa_cons _ _ _ _ _ pe_int pa_nil (by rfl)) (by rfl)) (by rfl)) (by rfl))) (@pa_cons _ _ _ _ _ (@pe_tup _ _ _ _ _ (@pa_cons _ _ _ _ _ pe_int (@pa_cons _ _ _ _ _ pe_int (@pa_cons _ _ _ _ _ pe_int (@pa_cons _ _ _ _ _ pe_int pa_nil (by rfl)) (by rfl)) (by rfl)) (by rfl))) pa_nil star_tup) star_tup)) (@pa_cons _ _ _ _ _ (@pe_lst _ _ _ _ (@pa_cons _ _ _ _ _ (@pe_tup _ _ _ _ _ (@pa_cons _ _ _ _ _ pe_int (@pa_cons _ _ _ _ _ pe_int (@pa_cons _ _ _ _ _ pe_int (@pa_cons _ _ _ _ _ pe_int pa_nil (by rfl)) (by rfl)) (by rfl)) (by rfl))) (@pa_cons _ _ _ _ _ (@pe_tup _ _ _ _ _ (@pa_cons _ _ _ _ _ pe_int (@pa_cons _ _ _ _ _ pe_int (@pa_cons _ _ _ _ _ pe_int (@pa_cons _ _ _ _ _ pe_int pa_nil (by rfl)) (by rfl)) (by rfl)) (by rfl))) pa_nil star_tup) star_tup)) pa_nil star_lst) star_lst)) (pv 8) (fun _ _ => rfl)) (@pe_callTy _ _ _ _ _ _ _ _ _ call_int1 (by rfl) T.n_int bt_int (@pa_cons _ _ _ _ _ (@pe_cmpR _ _ _ _ _ _ _ _ op_lt (pv 9) pe_int (nomark _)) pa_nil star_cmp) (by decide) (by decide) (by rfl) (by rfl)) (fun _ _ => rfl)) (by rfl) (by first | exact .inl rfl | exact .inr rfl))
      (@pss_cons _ _ _ _ _ (@ps_set _ _ 11 _ _ _ _ sc_law.nd rfl (by first | exact Or.inl rfl | exact Or.inr rfl) (@pe_df _ _ _ _ _ _ _ _ _ _ (df_law_with_lone T) (hr.mono (by decide)) (@pa_cons _ _ _ _ _ (pv 1) (@pa_cons _ _ _ _ _ (pv 4) pa_nil (by rfl)) (by rfl)) (by rfl) (by decide) (by rfl) (by rfl)) (by rfl) (by first | exact .inl rfl | exact .inr rfl))
      (@pss_cons _ _ _ _ _ (@ps_set _ _ 12 _ _ _ _ sc_law.nd rfl (by first | exact Or.inl rfl | exact Or.inr rfl) (@pe_df _ _ _ _ _ _ _ _ _ _ (df_law_field_of T) (hr.mono (by decide)) (@pa_cons _ _ _ _ _ (pv 11) (@pa_cons _ _ _ _ _ (pv 8) pa_nil (by rfl)) (by rfl)) (by rfl) (by decide) (by rfl) (by rfl)) (by rfl) (by first | exact .inl rfl | exact .inr rfl))
      (@pss_cons _ _ _ _ _ (@ps_set _ _ 13 _ _ _ _ sc_law.nd rfl (by first | exact Or.inl rfl | exact Or.inr rfl) (@pe_op _ _ _ _ _ _ _ _ op_add (pv 5) (@pe_callTy _ _ _ _ _ _ _ _ _ call_int1 (by rfl) T.n_int bt_int (@pa_cons _ _ _ _ _ (@pe_cmpR _ _ _ _ _ _ _ _ (op_neRR hr.units) (pv 11) (pv 4) (nomark _)) pa_nil star_cmp) (by decide) (by decide) (by rfl) (by rfl))) (by rfl) (by first | exact .inl rfl | exact .inr rfl))
      (@pss_one _ _ _ (@ps_for _ _ _ _ _ _ _ _ PassesOwn.never rfl (pi_seqK (K := K) rfl (@pe_lst _ _ _ _ (@pa_cons _ _ _ _ _ (@pe_df _ _ _ _ _ _ _ _ _ _ (df_law_draw T) (hr.mono (by decide)) (@pa_cons _ _ _ _ _ (pv 1) (@pa_cons _ _ _ _ _ pe_int pa_nil (by rfl)) (by rfl)) (by rfl) (by decide) (by rfl) (by rfl)) (@pa_cons _ _ _ _ _ (@pe_op _ _ _ _ _ _ _ _ op_sub (pv 13) pe_int) (@pa_cons _ _ _ _ _ (pv 13) (@pa_cons _ _ _ _ _ (@pe_op _ _ _ _ _ _ _ _ op_add (pv 13) pe_int) pa_nil star_bin) (by rfl)) star_bin) star_call))) (pg_name (i := 14) sc_law.nd rfl (by first | exact Or.inl rfl | exact Or.inr rfl)) (@pss_cons _ _ _ _ _ (@ps_set _ _ 15 _ _ _ _ sc_law.nd rfl (by first | exact Or.inl rfl | exact Or.inr rfl) (@pe_df _ _ _ _ _ _ _ _ _ _ (df_law_due T) (hr.mono (by decide)) (@pa_cons _ _ _ _ _ (pv 11) (@pa_cons _ _ _ _ _ (pv 4) (@pa_cons _ _ _ _ _ (pv 9) (@pa_cons _ _ _ _ _ (pv 5) (@pa_cons _ _ _ _ _ (pv 14) (@pa_cons _ _ _ _ _ (pv 8) pa_nil (by rfl)) (by rfl)) (by rfl)) (by rfl)) (by rfl)) (by rfl)) (by rfl) (by decide) (by rfl) (by rfl)) (by rfl) (by first | exact .inl rfl | exact .inr rfl))
      (@pss_one _ _ _ (@ps_if _ _ _ _ _ _ _ _ (@pt_not _ _ _ _ (@pt_val _ _ _ (@pe_df _ _ _ _ _ _ _ _ _ _ (df_law_same T) (hr.mono (by decide)) (@pa_cons _ _ _ _ _ (@pe_df _ _ _ _ _ _ _ _ _ _ (df_again T) (hr.mono (by decide)) (@pa_cons _ _ _ _ _ (pv 12) (@pa_cons _ _ _ _ _ (pv 10) (@pa_cons _ _ _ _ _ pe_str (@pa_cons _ _ _ _ _ (pv 7) (@pa_cons _ _ _ _ _ (pv 14) pa_nil (by rfl)) (by rfl)) (by rfl)) (by rfl)) (by rfl)) (by rfl) (by decide) (by rfl) (by rfl)) (@pa_cons _ _ _ _ _ (pv 15) pa_nil (by rfl)) star_call) (by rfl) (by decide) (by rfl) (by rfl)) (by intro _; rfl))) (@pss_one _ _ _ (@ps_ret _ _ _ _ pe_bl)) pss_nil))) (by intro _; rfl)))))))))))))) (by intro _; rfl))
      (@pss_one _ _ _ (@ps_ret _ _ _ _ pe_bl))))), ?_⟩
    refine ⟨_, rfl, _, _, rfl, hS, hl, fun d e H1 fd fe D1 s1 => ?_⟩
    dsimp only [gName, List.set, L2.start]
    refine tSeq_cut (fun σ' H' => σ' = [some (.ref a), some (.ref d), none, none, none, none, none, none, none, none, none, none, none, none, none, none] ∧ Dk H' d e 20) ?_ (fun rest => ?_)
    · rintro _ H2 ⟨rfl, D2⟩
      refine ⟨2, rfl, (by decide), (by decide), ?_⟩
      refine for_range (n := 2) (fun i σ H' => ∃ (v2 v3 v4 v5 v6 v7 v8 v9 v10 v11 v12 v13 v14 v15 : Option V), σ = [some (.ref a), some (.ref d), v2, v3, v4, v5, v6, v7, v8, v9, v10, v11, v12, v13, v14, v15] ∧ Dk H' d e (20 + 400 * i)) ⟨none, none, none, none, none, none, none, none, none, none, none, none, none, none, rfl, D2⟩ ?_ ?_
      · rintro i _ H3 hi ⟨v2, v3, v4, v5, v6, v7, v8, v9, v10, v11, v12, v13, v14, v15, rfl, D3⟩
        have hi2 : i < 2 := hi
        refine ⟨_, rfl, _, _, _, _, rfl, D3, (by decide), (by decide), by omega, fun x4 H4 a4 b4 D4 k4 => ?_⟩
        refine ⟨_, _, rfl, rfl, ?_⟩
        obtain ⟨w, hw⟩ : ∃ w : Nat, 4 + x4 = (w : Int) := ⟨(4 + x4).toNat, by omega⟩
        dsimp only [gName, List.set]
        rw [hw]
        have w4 : 4 ≤ w := by omega
        have w12 : w ≤ 12 := by omega
        refine ⟨_, rfl, _, _, _, _, rfl, D4, (by decide), (by decide), by omega, fun x5 H5 a5 b5 D5 k5 => ?_⟩
        refine ⟨_, _, rfl, rfl, _, rfl, by omega, by omega, ?_⟩
        refine compW_range (n := (1 + x5).toNat) (fun j zs H' => K2 d e H5 H' ∧ Dk H' d e (20 + 400 * i + 2 + 20 * j) ∧ ∃ xs : List (List Int), Ls (fun a => H5 a = none) H' zs xs ∧ xs.length = j ∧ ∀ x ∈ xs, Lin x ∧ x.length = w) ⟨K2.refl _ _ _, D5, [], .nil, rfl, fun x hx => absurd hx (by simp)⟩ (Nat.le_trans (show (1 + x5).toNat ≤ 100 by omega) (by decide)) ?_ ?_
        · rintro j zs H6 hj ⟨k6, D6, xs, hzs, lx, hxs⟩
          have hj' : j < (1 + x5).toNat := hj
          refine oneT ?_
          refine ⟨_, rfl, _, rfl, d, e, _, w, rfl, D6, by omega, w4, w12, fun p x H7 fp hp hLx lxx D7 k7 => ?_⟩
          have nda : ∀ a, H5 a = none → a ≠ d ∧ a ≠ e := fun a ha => D5.nd ha
          have fp5 : H5 p = none := k2_fresh k6 D6 fp
          refine ⟨k6.trans k7, D7.mono (by omega), xs ++ [x], Ls.app (hzs.keepN fun a' x' n' e' => k7 _ _ e' (nda a' n').1 (nda a' n').2) (.cons fp5 hp .nil), by rw [List.length_append, lx]; rfl, fun y hy => ?_⟩
          rcases List.mem_append.mp hy with g | g
          · exact hxs y g
          · rw [List.mem_singleton.mp g]; exact ⟨hLx, lxx⟩
        · rintro zs H6 ⟨k6, D6, xs, hzs, lx, hxs⟩ rp hrp
          have s7 := same_upd (o := .lst zs) hrp
          have e7 : upd H6 rp (.lst zs) rp = some (.lst zs) := upd_same
          have nrp := D6.nd hrp
          have D7 := D6.keep s7
          have z7 := (hzs.mono (M := fun a => a ≠ d ∧ a ≠ e) fun a ha => D5.nd ha).keep s7
          generalize upd H6 rp (.lst zs) = H7 at s7 e7 D7 z7 ⊢
          have lh : 1 ≤ xs.length ∧ xs.length ≤ 5 := by omega
          have R : Rows xs xs.length w := ⟨rfl, fun x hx => (hxs x hx).2, lh.1, by omega, by omega, by omega⟩
          have wx : ∀ x ∈ xs, 1 ≤ x.length ∧ x.length ≤ 1000 := fun x hx => by rw [(hxs x hx).2]; omega
          dsimp only [gName, List.set]
          refine ⟨_, rfl, _, _, rfl, rfl, _, _, rfl, ⟨by omega, by omega, by omega, by omega⟩, ?_⟩
          have eW : ((w : Int) + 1 - 1).toNat = w := by omega
          rw [eW]
          refine compW_range (n := w) (fun j us H' => Same H7 H' ∧ Found xs j us) ⟨Same.refl _, Or.inl ⟨rfl, fun k h1 h2 => absurd h1 (by omega)⟩⟩ (Nat.le_trans w12 (by decide)) ?_ ?_
          · rintro j us H8 hj ⟨s8, fo⟩
            have ej : (1 : Int) + (j : Int) = ((j + 1 : Nat) : Int) := by omega
            rw [ej]
            refine ⟨_, rfl, _, rfl, rp, zs, xs, _, _, rfl, s8 _ _ e7, z7.keep s8, wx, by omega, fun q9 zs9 H9 s9 f9 e9 l9 => ?_⟩
            refine ⟨_, rfl, _, _, q9, rp, zs9, zs, _, xs, rfl, rfl, e9, (s8.trans s9) _ _ e7, l9, z7.keep (s8.trans s9), _, rfl, ?_⟩
            refine ite2 (fun y => ?_) (fun y => ?_)
            · exact ⟨_, rfl, s8.trans s9, fo.yes (of_decide_eq_true y)⟩
            · exact ⟨s8.trans s9, by rw [Option.toList_none, List.append_nil]; exact fo.no fun ee => y (decide_eq_true ee)⟩
          rintro us H8 ⟨s8, fo⟩ l9 hl9
          obtain ⟨n, hat, RG1, nw⟩ := fo.end_ (by omega) (fun x hx => (hxs x hx).2)
          refine Or.inl ⟨_, _, _, _, rfl, rfl, SqL.of upd_same, hat, ?_⟩
          have s9 := s8.trans (same_upd (o := .lst us) hl9)
          have D9 := D7.keep s9
          have e9 := s9 _ _ e7
          have z9 := z7.keep s9
          generalize upd H8 l9 (.lst us) = H9 at s9 D9 e9 z9 ⊢
          dsimp only [gName, List.set]
          refine ⟨_, rfl, (by show 2 ≤ sizeLine; decide), fun p10 hp10 => ?_⟩
          refine ⟨_, rfl, _, _, _, _, rfl, D9.upd hp10, (by decide), (by decide), by omega, fun x10 H10 a10 b10 D10 k10 => ?_⟩
          obtain ⟨m, em, hm⟩ := pickI (x := x10) (ms := [2, 999]) a10 (by exact b10)
          have hm' : m = 2 ∨ m = 999 := by simpa using hm
          refine Or.inl ⟨_, _, _, _, rfl, rfl, SqL.of (k10 p10 _ upd_same (D9.nd hp10).1 (D9.nd hp10).2), em, ?_⟩
          refine ⟨_, _, _, _, rfl, D10, by omega, by omega, by omega, fun x11 H11 a11 b11 D11 k11 => ?_⟩
          refine ⟨_, _, rfl, rfl, ?_⟩
          have K11 : K2 d e H9 H11 := (((same_upd (o := .lst [.int 2, .int 999]) hp10).k2 d e).trans k10).trans k11
          dsimp only [gName, List.set]
          generalize hb : 2 + x11 = b
          have b2 : 2 ≤ b ∧ b ≤ 1000 := by omega
          refine ⟨_, rfl, _, _, rfl, rfl, _, _, rfl, rfl, ⟨by decide, by decide⟩, _, rfl, _, rfl, _, _, rfl, rfl, ⟨by decide, by decide⟩, ?_⟩
          refine ⟨_, _, _, _, rfl, D11, by omega, by omega, by omega, fun y H12 y0 y1 D12 k12 => ?_⟩
          refine ⟨_, _, rfl, rfl, _, rfl, (by show 2 ≤ sizeLine; decide), fun t13 ht13 => ?_⟩
          dsimp only [gName, List.set]
          have mid := mid_share b2.1 y0 y1
          have shr : Share ((b + 1) / 2 + y) b := ⟨by omega, by omega, by omega, by omega⟩
          generalize (b + 1) / 2 + y = aa at mid shr ⊢
          have s13 := same_upd (o := .tup [.int aa, .int b]) ht13
          have sh13 : IsD (upd H12 t13 (.tup [.int aa, .int b])) (.ref t13) (placeD (aa, b)) := .tup upd_same (.cons (.int _) (.cons (.int _) .nil))
          have D13 := D12.keep s13
          have K13 : K2 d e H9 (upd H12 t13 (.tup [.int aa, .int b])) := (K11.trans k12).trans (s13.k2 d e)
          generalize upd H12 t13 (.tup [.int aa, .int b]) = H13 at s13 sh13 D13 K13 ⊢
          refine ⟨_, rfl, _, _, _, _, rfl, D13, (by decide), (by decide), by omega, fun t H14 t0 t1 D14 k14 => ?_⟩
          refine ⟨_, rfl, (by show 2 ≤ sizeLine; decide), fun p15 hp15 => ?_⟩
          refine ⟨_, rfl, _, _, _, _, rfl, D14.upd hp15, (by decide), (by decide), by omega, fun x15 H15 a15 b15 D15 k15 => ?_⟩
          obtain ⟨sg, es, hs⟩ := pickI (x := x15) (ms := [1, -1]) a15 (by exact b15)
          have hs' : sg = 1 ∨ sg = -1 := by simpa using hs
          refine Or.inl ⟨_, _, _, _, rfl, rfl, SqL.of (k15 p15 _ upd_same (D14.nd hp15).1 (D14.nd hp15).2), es, ?_⟩
          have K15 : K2 d e H13 H15 := (k14.trans ((same_upd (o := .lst [.int 1, .int (-1)]) hp15).k2 d e)).trans k15
          dsimp only [gName, List.set]
          refine ⟨(by show 4 ≤ sizeLine; decide), fun w1 hw1 => ⟨(by show 4 ≤ sizeLine; decide), fun w2 hw2 => ⟨(by show 2 ≤ sizeLine; decide), fun l1 hl1 => ⟨(by show 4 ≤ sizeLine; decide), fun w3 hw3 => ⟨(by show 4 ≤ sizeLine; decide), fun w4' hw4 => ⟨(by show 2 ≤ sizeLine; decide), fun l2 hl2 => ⟨(by show 2 ≤ sizeLine; decide), fun l3 hl3 => ?_⟩⟩⟩⟩⟩⟩⟩
          have u1 := same_upd (o := .tup [.int 0, .int 0, .int 2, .int 0]) hw1
          have u2 := same_upd (o := .tup [.int 0, .int 0, .int 0, .int 2]) hw2
          have u3 := same_upd (o := .lst [.ref w1, .ref w2]) hl1
          have u4 := same_upd (o := .tup [.int 2, .int 0, .int 0, .int 0]) hw3
          have u5 := same_upd (o := .tup [.int 0, .int 2, .int 0, .int 0]) hw4
          have u6 := same_upd (o := .lst [.ref w3, .ref w4']) hl2
          have u7 := same_upd (o := .lst [.ref l1, .ref l2]) hl3
          have f3 := upd_same (H := upd (upd (upd (upd (upd (upd H15 w1 (.tup [.int 0, .int 0, .int 2, .int 0])) w2 (.tup [.int 0, .int 0, .int 0, .int 2])) l1 (.lst [.ref w1, .ref w2])) w3 (.tup [.int 2, .int 0, .int 0, .int 0])) w4' (.tup [.int 0, .int 2, .int 0, .int 0])) l2 (.lst [.ref w3, .ref w4'])) (a := l3) (o := .lst [.ref l1, .ref l2])
          have f1 := (u4.trans (u5.trans (u6.trans u7))) _ _ (upd_same (H := upd (upd H15 w1 (.tup [.int 0, .int 0, .int 2, .int 0])) w2 (.tup [.int 0, .int 0, .int 0, .int 2])) (a := l1) (o := .lst [.ref w1, .ref w2]))
          have f2 := u7 _ _ (upd_same (H := upd (upd (upd (upd (upd H15 w1 (.tup [.int 0, .int 0, .int 2, .int 0])) w2 (.tup [.int 0, .int 0, .int 0, .int 2])) l1 (.lst [.ref w1, .ref w2])) w3 (.tup [.int 2, .int 0, .int 0, .int 0])) w4' (.tup [.int 0, .int 2, .int 0, .int 0])) (a := l2) (o := .lst [.ref w3, .ref w4']))
          have g1 := (u2.trans (u3.trans (u4.trans (u5.trans (u6.trans u7))))) _ _ (upd_same (H := H15) (a := w1) (o := .tup [.int 0, .int 0, .int 2, .int 0]))
          have g2 := (u3.trans (u4.trans (u5.trans (u6.trans u7)))) _ _ (upd_same (H := upd H15 w1 (.tup [.int 0, .int 0, .int 2, .int 0])) (a := w2) (o := .tup [.int 0, .int 0, .int 0, .int 2]))
          have g3 := (u5.trans (u6.trans u7)) _ _ (upd_same (H := upd (upd (upd H15 w1 (.tup [.int 0, .int 0, .int 2, .int 0])) w2 (.tup [.int 0, .int 0, .int 0, .int 2])) l1 (.lst [.ref w1, .ref w2])) (a := w3) (o := .tup [.int 2, .int 0, .int 0, .int 0]))
          have g4 := (u6.trans u7) _ _ (upd_same (H := upd (upd (upd (upd H15 w1 (.tup [.int 0, .int 0, .int 2, .int 0])) w2 (.tup [.int 0, .int 0, .int 0, .int 2])) l1 (.lst [.ref w1, .ref w2])) w3 (.tup [.int 2, .int 0, .int 0, .int 0])) (a := w4') (o := .tup [.int 0, .int 2, .int 0, .int 0]))
          have U := u1.trans (u2.trans (u3.trans (u4.trans (u5.trans (u6.trans u7)))))
          generalize upd (upd (upd (upd (upd (upd (upd H15 w1 (.tup [.int 0, .int 0, .int 2, .int 0])) w2 (.tup [.int 0, .int 0, .int 0, .int 2])) l1 (.lst [.ref w1, .ref w2])) w3 (.tup [.int 2, .int 0, .int 0, .int 0])) w4' (.tup [.int 0, .int 2, .int 0, .int 0])) l2 (.lst [.ref w3, .ref w4'])) l3 (.lst [.ref l1, .ref l2]) = H16 at f1 f2 f3 g1 g2 g3 g4 U ⊢
          clear u1 u2 u3 u4 u5 u6 u7 hw1 hw2 hw3 hw4 hl1 hl2 hl3
          have t01 : t = 0 ∨ t = 1 := by omega
          obtain ⟨lk, ta, tb, hatk, hlk, hab0, hab1⟩ : ∃ lk ta tb, atI [V.ref l1, .ref l2] t = some (.ref lk) ∧ H16 lk = some (.lst [.ref ta, .ref tb]) ∧ (t = 0 → H16 ta = some (.tup [.int 0, .int 0, .int 2, .int 0]) ∧ H16 tb = some (.tup [.int 0, .int 0, .int 0, .int 2])) ∧ (t = 1 → H16 ta = some (.tup [.int 2, .int 0, .int 0, .int 0]) ∧ H16 tb = some (.tup [.int 0, .int 2, .int 0, .int 0])) := by
            rcases t01 with rfl | rfl
            · exact ⟨l1, w1, w2, rfl, f1, fun _ => ⟨g1, g2⟩, fun h => absurd h (by decide)⟩
            · exact ⟨l2, w3, w4', rfl, f2, fun h => absurd h (by decide), fun _ => ⟨g3, g4⟩⟩
          refine ⟨_, rfl, Or.inl ⟨_, _, _, _, rfl, rfl, SqL.of f3, hatk, ?_⟩⟩
          refine ⟨_, rfl, _, _, rfl, rfl, Or.inr ⟨_, rfl, ?_⟩⟩
          obtain ⟨tk, u, dd, ll, rr, l, r, hat2, hwin, hsl, hlr, hg, bnd⟩ : ∃ (tk : Addr) (u dd ll rr l r : Nat), atI [V.ref ta, .ref tb] (if decide (sg < 0) = true then 1 else 0) = some (.ref tk) ∧ H16 tk = some (.tup [.int (u : Int), .int (dd : Int), .int (ll : Int), .int (rr : Int)]) ∧ (l : Int) - 1 = sg ∧ l + r = 2 ∧ gT t l r aa b = gf .round u dd ll rr aa b ∧ ((u ≤ 100 ∧ dd ≤ 100 ∧ ll ≤ 100 ∧ rr ≤ 100) ∧ (u + dd + 1) * (ll + rr + 1) ≤ 63) := by
            rcases t01 with rfl | rfl <;> rcases hs' with rfl | rfl
            · exact ⟨ta, 0, 0, 2, 0, 2, 0, rfl, (hab0 rfl).1, rfl, rfl, rfl, by decide⟩
            · exact ⟨tb, 0, 0, 0, 2, 0, 2, rfl, (hab0 rfl).2, rfl, rfl, rfl, by decide⟩
            · exact ⟨ta, 2, 0, 0, 0, 2, 0, rfl, (hab1 rfl).1, rfl, rfl, rfl, by decide⟩
            · exact ⟨tb, 0, 2, 0, 0, 0, 2, rfl, (hab1 rfl).2, rfl, rfl, rfl, by decide⟩
          refine Or.inl ⟨_, _, _, _, rfl, rfl, SqL.of hlk, hat2, ?_⟩
          dsimp only [gName, List.set]
          have D16 := D15.keep U
          have K16 : K2 d e H9 H16 := (K13.trans K15).trans (U.k2 d e)
          have e16 := K16 _ _ e9 nrp.1 nrp.2
          have z16 := z9.keepN fun a' x' n' ee => K16 _ _ ee n'.1 n'.2
          have sh16 := (sh13.keep (K15.tups D13)).keep U.tups
          refine ⟨_, rfl, _, rfl, d, e, rp, _, zs, xs, _, rfl, D16, by omega, e16, nrp.1, nrp.2, z16, fun a' n' => n', fun x hx => (by rw [(hxs x hx).2]; omega), lh.2, fun fq fzs ys H17 ffq efq lfq lo D17 k17 => ?_⟩
          have G : RG xs ys xs.length w n sg l r aa b := ⟨R, w4, fun x hx => (hxs x hx).1.calm, lo, RG1, hs', hsl, hlr, mid⟩
          have R2 := G.rows2
          have e17 := k17 _ _ e16 nrp.1 nrp.2
          have z17 := z16.keepN fun a' x' n' ee => k17 _ _ ee n'.1 n'.2
          have sh17 := sh16.keep (k17.tups D16)
          have wn17 := (k17.tups D16) _ _ hwin
          have nfq := D16.nd ffq
          have lfq' := lfq.mono (M := fun a => a ≠ d ∧ a ≠ e) fun a ha => D16.nd ha
          refine ⟨_, rfl, _, rfl, fq, fzs, ys, _, t, xs.length, w, rfl, efq, lfq, R2, fun fv H18 s18 hfv => ?_⟩
          refine ⟨_, rfl, _, rfl, _, rfl, _, _, fq, rp, fzs, zs, ys, xs, rfl, rfl, s18 _ _ efq, s18 _ _ e17, lfq.keep s18, z17.keep s18, Or.inr ⟨_, rfl, _, _, rfl, rfl, ?_⟩⟩
          obtain ⟨A, eA, hA⟩ : ∃ A : Nat, (n : Int) + (if (!decide (ys = xs)) = true then (1 : Int) else 0) = ((n + A : Nat) : Int) ∧ A ≤ 1 := by
            by_cases y : ys = xs
            · rw [decide_eq_true y]; exact ⟨0, by simp, by decide⟩
            · rw [decide_eq_false y]; exact ⟨1, by simp, by decide⟩
          dsimp only [gName, List.set]
          rw [eA]
          have D18 := D17.keep s18
          have np := RG1.pos
          refine Or.inl ⟨_, rfl, _, _, _, _, rfl, D18, (by decide), (by decide), by omega, fun x19 H19 a19 b19 D19 k19 => ?_⟩
          refine ⟨_, rfl, _, _, rfl, rfl, _, rfl, _, rfl, _, _, rfl, rfl, (by show 4 ≤ sizeLine; decide), fun l20 hl20 => ?_⟩
          have T19 := k19.tups D18
          have f19 := hfv.keep T19
          have sh19 := (sh17.keep s18.tups).keep T19
          have wn19 := T19 _ _ (s18 _ _ wn17)
          have e19 := k19 _ _ (s18 _ _ e17) nrp.1 nrp.2
          have z19 := (z17.keep s18).keepN fun a' x' n' ee => k19 _ _ ee n'.1 n'.2
          have q19 := k19 _ _ (s18 _ _ efq) nfq.1 nfq.2
          have l19 := (lfq'.keep s18).keepN fun a' x' n' ee => k19 _ _ ee n'.1 n'.2
          have s20 := same_upd (o := .lst [.int x19, .int (((n + A : Nat) : Int) - 1), .int ((n + A : Nat) : Int), .int (((n + A : Nat) : Int) + 1)]) hl20
          refine ⟨_, rfl, ⟨_, SqL.of upd_same⟩, ?_⟩
          refine for_list (xs := [.int x19, .int (((n + A : Nat) : Int) - 1), .int ((n + A : Nat) : Int), .int (((n + A : Nat) : Int) + 1)]) (fun k σ H' => ∃ (v14 v15 : Option V), σ = [some (.ref a), some (.ref d), some (.int (0 + (i : Int))), some (.int (w : Int)), some (.ref rp), some (.int (n : Int)), some (.int b), some (.ref t13), some (.int t), some (.int sg), some (.ref tk), some (.ref fq), some fv, some (.int ((n + A : Nat) : Int)), v14, v15] ∧ Same (upd H19 l20 (.lst [.int x19, .int (((n + A : Nat) : Int) - 1), .int ((n + A : Nat) : Int), .int (((n + A : Nat) : Int) + 1)])) H') ⟨v14, v15, rfl, Same.refl _⟩ (fun k σ H' _ ⟨_, _, _, s⟩ => SqL.of (s _ _ upd_same)) ?_ ?_
          · rintro k x _ H21 hx ⟨v14, v15, rfl, s21⟩
            have S21 := s20.trans s21
            obtain ⟨m, rfl, hm⟩ : ∃ m : Nat, x = .int (m : Int) ∧ m ≤ 60 := by
              have : x ∈ [V.int x19, .int (((n + A : Nat) : Int) - 1), .int ((n + A : Nat) : Int), .int (((n + A : Nat) : Int) + 1)] := List.mem_of_getElem? hx
              simp only [List.mem_cons, List.not_mem_nil, or_false] at this
              rcases this with rfl | rfl | rfl | rfl
              · exact ⟨x19.toNat, by rw [Int.toNat_of_nonneg a19], by omega⟩
              · exact ⟨n + A - 1, congrArg V.int (by omega), by omega⟩
              · exact ⟨n + A, rfl, by omega⟩
              · exact ⟨n + A + 1, rfl, by omega⟩
            refine ⟨_, rfl, _, rfl, _, rfl, _, rfl, _, rfl, _, rfl, ?_⟩
            refine ⟨fq, rp, fzs, zs, _, _, xs, ys, xs.length, w, n, m, sg, t, l, r, aa, b, rfl, S21 _ _ q19, S21 _ _ e19, l19.keep S21, z19.keep S21, G, by omega, by omega, fun dv H22 Dd s22 hD hdv => ?_⟩
            have S22 := S21.trans s22
            refine ⟨_, rfl, _, rfl, _, rfl, _, rfl, ?_⟩
            have RF := turn_rows R2 t
            refine ⟨_, _, _, _, turnR t (rowsF ys), .round, u, dd, ll, rr, m, aa, b, rfl, RF, f19.keep S22.tups, isWin (S22 _ _ wn19), .str _, Shr.of (sh19.keep S22.tups), shr, bnd.1, bnd.2, by omega, fun tv H23 D' s23 hD' htv => ?_⟩
            rw [hg] at hD
            obtain rfl := hD.uniq hD'
            obtain ⟨pl, dp⟩ := TD.plain RF hD
            refine ⟨_, rfl, _, _, _, rfl, htv, hdv.keep s23.tups, pl, dp, fun H24 s24 => ?_⟩
            refine ⟨_, rfl, iteF ?_⟩
            exact ⟨_, _, rfl, (s21.trans s22).trans (s23.trans s24)⟩
          · rintro _ H21 ⟨v14, v15, rfl, s21⟩
            exact ⟨_, _, _, _, _, _, _, _, _, _, _, _, _, _, rfl, (D19.keep (s20.trans s21)).mono (by omega)⟩
      · rintro _ H3 ⟨v2, v3, v4, v5, v6, v7, v8, v9, v10, v11, v12, v13, v14, v15, rfl, D3⟩
        exact q _
    · refine ⟨_, rfl, _, _, _, _, rfl, D1, (by decide), (by decide), by decide, fun x2 H2 a2 b2 D2 k2 => ?_⟩
      refine Or.inl ⟨rfl, _, rfl, ?_⟩
      refine ite2 (fun z => ?_) (fun z => ?_)
      · refine ⟨_, rfl, d, e, _, rfl, D2, by decide, fun H3 D3 k3 => ?_⟩
        refine ⟨_, rfl, iteF ?_⟩
        exact rest _ _ ⟨rfl, D3.mono (by decide)⟩
      · refine iteF ?_
        exact rest _ _ ⟨rfl, D2.mono (by decide)⟩
end
theorem txt_mk {K : PySem.W.Frag} {h : Heap} {mg : Str → Option Value} (X : K.In h) (G : h.Ns mainGlobals mg) {f_is_inside : Addr} {od_is_inside an_is_inside : Option Addr} {sl_is_inside : Array (Option Value)} {oc_is_inside kV_is_inside dc_is_inside pm_is_inside cd_is_inside ct_is_inside : Value} {f_brought_inside : Addr} {od_brought_inside an_brought_inside : Option Addr} {sl_brought_inside : Array (Option Value)} {oc_brought_inside kV_brought_inside dc_brought_inside pm_brought_inside cd_brought_inside ct_brought_inside : Value} {f_stands_at : Addr} {od_stands_at an_stands_at : Option Addr} {sl_stands_at : Array (Option Value)} {oc_stands_at kV_stands_at dc_stands_at pm_stands_at cd_stands_at ct_stands_at : Value} {f_places_around : Addr} {od_places_around an_places_around : Option Addr} {sl_places_around : Array (Option Value)} {oc_places_around kV_places_around dc_places_around pm_places_around cd_places_around ct_places_around : Value} {f_window_cells : Addr} {od_window_cells an_window_cells : Option Addr} {sl_window_cells : Array (Option Value)} {oc_window_cells kV_window_cells dc_window_cells pm_window_cells cd_window_cells ct_window_cells : Value} {f_place_by_share : Addr} {od_place_by_share an_place_by_share : Option Addr} {sl_place_by_share : Array (Option Value)} {oc_place_by_share kV_place_by_share dc_place_by_share pm_place_by_share cd_place_by_share ct_place_by_share : Value} {f_so_manieth : Addr} {od_so_manieth an_so_manieth : Option Addr} {sl_so_manieth : Array (Option Value)} {oc_so_manieth kV_so_manieth dc_so_manieth pm_so_manieth cd_so_manieth ct_so_manieth : Value} {f_without_holes : Addr} {od_without_holes an_without_holes : Option Addr} {sl_without_holes : Array (Option Value)} {oc_without_holes kV_without_holes dc_without_holes pm_without_holes cd_without_holes ct_without_holes : Value} {f_told_of_cells : Addr} {od_told_of_cells an_told_of_cells : Option Addr} {sl_told_of_cells : Array (Option Value)} {oc_told_of_cells kV_told_of_cells dc_told_of_cells pm_told_of_cells cd_told_of_cells ct_told_of_cells : Value} {f_filtered : Addr} {od_filtered an_filtered : Option Addr} {sl_filtered : Array (Option Value)} {oc_filtered kV_filtered dc_filtered pm_filtered cd_filtered ct_filtered : Value} {f_come_again : Addr} {od_come_again an_come_again : Option Addr} {sl_come_again : Array (Option Value)} {oc_come_again kV_come_again dc_come_again pm_come_again cd_come_again ct_come_again : Value} {f_again : Addr} {od_again an_again : Option Addr} {sl_again : Array (Option Value)} {oc_again kV_again dc_again pm_again cd_again ct_again : Value} {f_law_deck : Addr} {od_law_deck an_law_deck : Option Addr} {sl_law_deck : Array (Option Value)} {oc_law_deck kV_law_deck dc_law_deck pm_law_deck cd_law_deck ct_law_deck : Value} {f_law_draw : Addr} {od_law_draw an_law_draw : Option Addr} {sl_law_draw : Array (Option Value)} {oc_law_draw kV_law_draw dc_law_draw pm_law_draw cd_law_draw ct_law_draw : Value} {f_law_number : Addr} {od_law_number an_law_number : Option Addr} {sl_law_number : Array (Option Value)} {oc_law_number kV_law_number dc_law_number pm_law_number cd_law_number ct_law_number : Value} {f_law_same : Addr} {od_law_same an_law_same : Option Addr} {sl_law_same : Array (Option Value)} {oc_law_same kV_law_same dc_law_same pm_law_same cd_law_same ct_law_same : Value} {f_law_runs : Addr} {od_law_runs an_law_runs : Option Addr} {sl_law_runs : Array (Option Value)} {oc_law_runs kV_law_runs dc_law_runs pm_law_runs cd_law_runs ct_law_runs : Value} {f_law_moved : Addr} {od_law_moved an_law_moved : Option Addr} {sl_law_moved : Array (Option Value)} {oc_law_moved kV_law_moved dc_law_moved pm_law_moved cd_law_moved ct_law_moved : Value} {f_law_field_of : Addr} {od_law_field_of an_law_field_of : Option Addr} {sl_law_field_of : Array (Option Value)} {oc_law_field_of kV_law_field_of dc_law_field_of pm_law_field_of cd_law_field_of ct_law_field_of : Value} {f_law_with_lone : Addr} {od_law_with_lone an_law_with_lone : Option Addr} {sl_law_with_lone : Array (Option Value)} {oc_law_with_lone kV_law_with_lone dc_law_with_lone pm_law_with_lone cd_law_with_lone ct_law_with_lone : Value} {f_law_due : Addr} {od_law_due an_law_due : Option Addr} {sl_law_due : Array (Option Value)} {oc_law_due kV_law_due dc_law_due pm_law_due cd_law_due ct_law_due : Value} {f_law_let_in : Addr} {od_law_let_in an_law_let_in : Option Addr} {sl_law_let_in : Array (Option Value)} {oc_law_let_in kV_law_let_in dc_law_let_in pm_law_let_in cd_law_let_in ct_law_let_in : Value} {f_law_let_in_by : Addr} {od_law_let_in_by an_law_let_in_by : Option Addr} {sl_law_let_in_by : Array (Option Value)} {oc_law_let_in_by kV_law_let_in_by dc_law_let_in_by pm_law_let_in_by cd_law_let_in_by ct_law_let_in_by : Value} {f_law_late_still_right : Addr} {od_law_late_still_right an_law_late_still_right : Option Addr} {sl_law_late_still_right : Array (Option Value)} {oc_law_late_still_right kV_law_late_still_right dc_law_late_still_right pm_law_late_still_right cd_law_late_still_right ct_law_late_still_right : Value} {f_law : Addr} {od_law an_law : Option Addr} {sl_law : Array (Option Value)} {oc_law kV_law dc_law pm_law cd_law ct_law : Value}
    (a_is_inside : PySem.W.nsIn K mainGlobals "is_inside" = some (some (.ref f_is_inside)))
    (l_is_inside : K.lookup f_is_inside = some ⟨oc_is_inside, od_is_inside, .func (PySem.W.fnOf "is_inside" "is_inside" (defArgs s_is_inside) (defBody s_is_inside) (defScope s_is_inside) .none kV_is_inside dc_is_inside pm_is_inside an_is_inside cd_is_inside ct_is_inside), sl_is_inside⟩)
    (c_is_inside : PySem.W.codeIn K cd_is_inside "is_inside" = true)
    (k_is_inside : PySem.W.keepIn K (.ref f_is_inside) = true)
    (a_brought_inside : PySem.W.nsIn K mainGlobals "brought_inside" = some (some (.ref f_brought_inside)))
    (l_brought_inside : K.lookup f_brought_inside = some ⟨oc_brought_inside, od_brought_inside, .func (PySem.W.fnOf "brought_inside" "brought_inside" (defArgs s_brought_inside) (defBody s_brought_inside) (defScope s_brought_inside) .none kV_brought_inside dc_brought_inside pm_brought_inside an_brought_inside cd_brought_inside ct_brought_inside), sl_brought_inside⟩)
    (c_brought_inside : PySem.W.codeIn K cd_brought_inside "brought_inside" = true)
    (k_brought_inside : PySem.W.keepIn K (.ref f_brought_inside) = true)
    (a_stands_at : PySem.W.nsIn K mainGlobals "stands_at" = some (some (.ref f_stands_at)))
    (l_stands_at : K.lookup f_stands_at = some ⟨oc_stands_at, od_stands_at, .func (PySem.W.fnOf "stands_at" "stands_at" (defArgs s_stands_at) (defBody s_stands_at) (defScope s_stands_at) .none kV_stands_at dc_stands_at pm_stands_at an_stands_at cd_stands_at ct_stands_at), sl_stands_at⟩)
    (c_stands_at : PySem.W.codeIn K cd_stands_at "stands_at" = true)
    (k_stands_at : PySem.W.keepIn K (.ref f_stands_at) = true)
    (a_places_around : PySem.W.nsIn K mainGlobals "places_around" = some (some (.ref f_places_around)))
    (l_places_around : K.lookup f_places_around = some ⟨oc_places_around, od_places_around, .func (PySem.W.fnOf "places_around" "places_around" (defArgs s_places_around) (defBody s_places_around) (defScope s_places_around) .none kV_places_around dc_places_around pm_places_around an_places_around cd_places_around ct_places_around), sl_places_around⟩)
    (c_places_around : PySem.W.codeIn K cd_places_around "places_around" = true)
    (k_places_around : PySem.W.keepIn K (.ref f_places_around) = true)
    (a_window_cells : PySem.W.nsIn K mainGlobals "window_cells" = some (some (.ref f_window_cells)))
    (l_window_cells : K.lookup f_window_cells = some ⟨oc_window_cells, od_window_cells, .func (PySem.W.fnOf "window_cells" "window_cells" (defArgs s_window_cells) (defBody s_window_cells) (defScope s_window_cells) .none kV_window_cells dc_window_cells pm_window_cells an_window_cells cd_window_cells ct_window_cells), sl_window_cells⟩)
    (c_window_cells : PySem.W.codeIn K cd_window_cells "window_cells" = true)
    (k_window_cells : PySem.W.keepIn K (.ref f_window_cells) = true)
    (a_place_by_share : PySem.W.nsIn K mainGlobals "place_by_share" = some (some (.ref f_place_by_share)))
    (l_place_by_share : K.lookup f_place_by_share = some ⟨oc_place_by_share, od_place_by_share, .func (PySem.W.fnOf "place_by_share" "place_by_share" (defArgs s_place_by_share) (defBody s_place_by_share) (defScope s_place_by_share) .none kV_place_by_share dc_place_by_share pm_place_by_share an_place_by_share cd_place_by_share ct_place_by_share), sl_place_by_share⟩)
    (c_place_by_share : PySem.W.codeIn K cd_place_by_share "place_by_share" = true)
    (k_place_by_share : PySem.W.keepIn K (.ref f_place_by_share) = true)
    (a_so_manieth : PySem.W.nsIn K mainGlobals "so_manieth" = some (some (.ref f_so_manieth)))
    (l_so_manieth : K.lookup f_so_manieth = some ⟨oc_so_manieth, od_so_manieth, .func (PySem.W.fnOf "so_manieth" "so_manieth" (defArgs s_so_manieth) (defBody s_so_manieth) (defScope s_so_manieth) .none kV_so_manieth dc_so_manieth pm_so_manieth an_so_manieth cd_so_manieth ct_so_manieth), sl_so_manieth⟩)
    (c_so_manieth : PySem.W.codeIn K cd_so_manieth "so_manieth" = true)
    (k_so_manieth : PySem.W.keepIn K (.ref f_so_manieth) = true)
    (a_without_holes : PySem.W.nsIn K mainGlobals "without_holes" = some (some (.ref f_without_holes)))
    (l_without_holes : K.lookup f_without_holes = some ⟨oc_without_holes, od_without_holes, .func (PySem.W.fnOf "without_holes" "without_holes" (defArgs s_without_holes) (defBody s_without_holes) (defScope s_without_holes) .none kV_without_holes dc_without_holes pm_without_holes an_without_holes cd_without_holes ct_without_holes), sl_without_holes⟩)
    (c_without_holes : PySem.W.codeIn K cd_without_holes "without_holes" = true)
    (k_without_holes : PySem.W.keepIn K (.ref f_without_holes) = true)
    (a_told_of_cells : PySem.W.nsIn K mainGlobals "told_of_cells" = some (some (.ref f_told_of_cells)))
    (l_told_of_cells : K.lookup f_told_of_cells = some ⟨oc_told_of_cells, od_told_of_cells, .func (PySem.W.fnOf "told_of_cells" "told_of_cells" (defArgs s_told_of_cells) (defBody s_told_of_cells) (defScope s_told_of_cells) .none kV_told_of_cells dc_told_of_cells pm_told_of_cells an_told_of_cells cd_told_of_cells ct_told_of_cells), sl_told_of_cells⟩)
    (c_told_of_cells : PySem.W.codeIn K cd_told_of_cells "told_of_cells" = true)
    (k_told_of_cells : PySem.W.keepIn K (.ref f_told_of_cells) = true)
    (a_filtered : PySem.W.nsIn K mainGlobals "filtered" = some (some (.ref f_filtered)))
    (l_filtered : K.lookup f_filtered = some ⟨oc_filtered, od_filtered, .func (PySem.W.fnOf "filtered" "filtered" (defArgs s_filtered) (defBody s_filtered) (defScope s_filtered) .none kV_filtered dc_filtered pm_filtered an_filtered cd_filtered ct_filtered), sl_filtered⟩)
    (c_filtered : PySem.W.codeIn K cd_filtered "filtered" = true)
    (k_filtered : PySem.W.keepIn K (.ref f_filtered) = true)
    (a_come_again : PySem.W.nsIn K mainGlobals "come_again" = some (some (.ref f_come_again)))
    (l_come_again : K.lookup f_come_again = some ⟨oc_come_again, od_come_again, .func (PySem.W.fnOf "come_again" "come_again" (defArgs s_come_again) (defBody s_come_again) (defScope s_come_again) .none kV_come_again dc_come_again pm_come_again an_come_again cd_come_again ct_come_again), sl_come_again⟩)
    (c_come_again : PySem.W.codeIn K cd_come_again "come_again" = true)
    (k_come_again : PySem.W.keepIn K (.ref f_come_again) = true)
    (a_again : PySem.W.nsIn K mainGlobals "again" = some (some (.ref f_again)))
    (l_again : K.lookup f_again = some ⟨oc_again, od_again, .func (PySem.W.fnOf "again" "again" (defArgs s_again) (defBody s_again) (defScope s_again) .none kV_again dc_again pm_again an_again cd_again ct_again), sl_again⟩)
    (c_again : PySem.W.codeIn K cd_again "again" = true)
    (k_again : PySem.W.keepIn K (.ref f_again) = true)
    (a_law_deck : PySem.W.nsIn K mainGlobals "_law_deck" = some (some (.ref f_law_deck)))
    (l_law_deck : K.lookup f_law_deck = some ⟨oc_law_deck, od_law_deck, .func (PySem.W.fnOf "_law_deck" "_law_deck" (defArgs s_law_deck) (defBody s_law_deck) (defScope s_law_deck) .none kV_law_deck dc_law_deck pm_law_deck an_law_deck cd_law_deck ct_law_deck), sl_law_deck⟩)
    (c_law_deck : PySem.W.codeIn K cd_law_deck "_law_deck" = true)
    (k_law_deck : PySem.W.keepIn K (.ref f_law_deck) = true)
    (a_law_draw : PySem.W.nsIn K mainGlobals "_law_draw" = some (some (.ref f_law_draw)))
    (l_law_draw : K.lookup f_law_draw = some ⟨oc_law_draw, od_law_draw, .func (PySem.W.fnOf "_law_draw" "_law_draw" (defArgs s_law_draw) (defBody s_law_draw) (defScope s_law_draw) .none kV_law_draw dc_law_draw pm_law_draw an_law_draw cd_law_draw ct_law_draw), sl_law_draw⟩)
    (c_law_draw : PySem.W.codeIn K cd_law_draw "_law_draw" = true)
    (k_law_draw : PySem.W.keepIn K (.ref f_law_draw) = true)
    (a_law_number : PySem.W.nsIn K mainGlobals "_law_number" = some (some (.ref f_law_number)))
    (l_law_number : K.lookup f_law_number = some ⟨oc_law_number, od_law_number, .func (PySem.W.fnOf "_law_number" "_law_number" (defArgs s_law_number) (defBody s_law_number) (defScope s_law_number) .none kV_law_number dc_law_number pm_law_number an_law_number cd_law_number ct_law_number), sl_law_number⟩)
    (c_law_number : PySem.W.codeIn K cd_law_number "_law_number" = true)
    (k_law_number : PySem.W.keepIn K (.ref f_law_number) = true)
    (a_law_same : PySem.W.nsIn K mainGlobals "_law_same" = some (some (.ref f_law_same)))
    (l_law_same : K.lookup f_law_same = some ⟨oc_law_same, od_law_same, .func (PySem.W.fnOf "_law_same" "_law_same" (defArgs s_law_same) (defBody s_law_same) (defScope s_law_same) .none kV_law_same dc_law_same pm_law_same an_law_same cd_law_same ct_law_same), sl_law_same⟩)
    (c_law_same : PySem.W.codeIn K cd_law_same "_law_same" = true)
    (k_law_same : PySem.W.keepIn K (.ref f_law_same) = true)
    (a_law_runs : PySem.W.nsIn K mainGlobals "_law_runs" = some (some (.ref f_law_runs)))
    (l_law_runs : K.lookup f_law_runs = some ⟨oc_law_runs, od_law_runs, .func (PySem.W.fnOf "_law_runs" "_law_runs" (defArgs s_law_runs) (defBody s_law_runs) (defScope s_law_runs) .none kV_law_runs dc_law_runs pm_law_runs an_law_runs cd_law_runs ct_law_runs), sl_law_runs⟩)
    (c_law_runs : PySem.W.codeIn K cd_law_runs "_law_runs" = true)
    (k_law_runs : PySem.W.keepIn K (.ref f_law_runs) = true)
    (a_law_moved : PySem.W.nsIn K mainGlobals "_law_moved" = some (some (.ref f_law_moved)))
    (l_law_moved : K.lookup f_law_moved = some ⟨oc_law_moved, od_law_moved, .func (PySem.W.fnOf "_law_moved" "_law_moved" (defArgs s_law_moved) (defBody s_law_moved) (defScope s_law_moved) .none kV_law_moved dc_law_moved pm_law_moved an_law_moved cd_law_moved ct_law_moved), sl_law_moved⟩)
    (c_law_moved : PySem.W.codeIn K cd_law_moved "_law_moved" = true)
    (k_law_moved : PySem.W.keepIn K (.ref f_law_moved) = true)
    (a_law_field_of : PySem.W.nsIn K mainGlobals "_law_field_of" = some (some (.ref f_law_field_of)))
    (l_law_field_of : K.lookup f_law_field_of = some ⟨oc_law_field_of, od_law_field_of, .func (PySem.W.fnOf "_law_field_of" "_law_field_of" (defArgs s_law_field_of) (defBody s_law_field_of) (defScope s_law_field_of) .none kV_law_field_of dc_law_field_of pm_law_field_of an_law_field_of cd_law_field_of ct_law_field_of), sl_law_field_of⟩)
    (c_law_field_of : PySem.W.codeIn K cd_law_field_of "_law_field_of" = true)
    (k_law_field_of : PySem.W.keepIn K (.ref f_law_field_of) = true)
    (a_law_with_lone : PySem.W.nsIn K mainGlobals "_law_with_lone" = some (some (.ref f_law_with_lone)))
    (l_law_with_lone : K.lookup f_law_with_lone = some ⟨oc_law_with_lone, od_law_with_lone, .func (PySem.W.fnOf "_law_with_lone" "_law_with_lone" (defArgs s_law_with_lone) (defBody s_law_with_lone) (defScope s_law_with_lone) .none kV_law_with_lone dc_law_with_lone pm_law_with_lone an_law_with_lone cd_law_with_lone ct_law_with_lone), sl_law_with_lone⟩)
    (c_law_with_lone : PySem.W.codeIn K cd_law_with_lone "_law_with_lone" = true)
    (k_law_with_lone : PySem.W.keepIn K (.ref f_law_with_lone) = true)
    (a_law_due : PySem.W.nsIn K mainGlobals "_law_due" = some (some (.ref f_law_due)))
    (l_law_due : K.lookup f_law_due = some ⟨oc_law_due, od_law_due, .func (PySem.W.fnOf "_law_due" "_law_due" (defArgs s_law_due) (defBody s_law_due) (defScope s_law_due) .none kV_law_due dc_law_due pm_law_due an_law_due cd_law_due ct_law_due), sl_law_due⟩)
    (c_law_due : PySem.W.codeIn K cd_law_due "_law_due" = true)
    (k_law_due : PySem.W.keepIn K (.ref f_law_due) = true)
    (a_law_let_in : PySem.W.nsIn K mainGlobals "_law_let_in" = some (some (.ref f_law_let_in)))
    (l_law_let_in : K.lookup f_law_let_in = some ⟨oc_law_let_in, od_law_let_in, .func (PySem.W.fnOf "_law_let_in" "_law_let_in" (defArgs s_law_let_in) (defBody s_law_let_in) (defScope s_law_let_in) .none kV_law_let_in dc_law_let_in pm_law_let_in an_law_let_in cd_law_let_in ct_law_let_in), sl_law_let_in⟩)
    (c_law_let_in : PySem.W.codeIn K cd_law_let_in "_law_let_in" = true)
    (k_law_let_in : PySem.W.keepIn K (.ref f_law_let_in) = true)
    (a_law_let_in_by : PySem.W.nsIn K mainGlobals "_law_let_in_by" = some (some (.ref f_law_let_in_by)))
    (l_law_let_in_by : K.lookup f_law_let_in_by = some ⟨oc_law_let_in_by, od_law_let_in_by, .func (PySem.W.fnOf "_law_let_in_by" "_law_let_in_by" (defArgs s_law_let_in_by) (defBody s_law_let_in_by) (defScope s_law_let_in_by) .none kV_law_let_in_by dc_law_let_in_by pm_law_let_in_by an_law_let_in_by cd_law_let_in_by ct_law_let_in_by), sl_law_let_in_by⟩)
    (c_law_let_in_by : PySem.W.codeIn K cd_law_let_in_by "_law_let_in_by" = true)
    (k_law_let_in_by : PySem.W.keepIn K (.ref f_law_let_in_by) = true)
    (a_law_late_still_right : PySem.W.nsIn K mainGlobals "_law_late_still_right" = some (some (.ref f_law_late_still_right)))
    (l_law_late_still_right : K.lookup f_law_late_still_right = some ⟨oc_law_late_still_right, od_law_late_still_right, .func (PySem.W.fnOf "_law_late_still_right" "_law_late_still_right" (defArgs s_law_late_still_right) (defBody s_law_late_still_right) (defScope s_law_late_still_right) .none kV_law_late_still_right dc_law_late_still_right pm_law_late_still_right an_law_late_still_right cd_law_late_still_right ct_law_late_still_right), sl_law_late_still_right⟩)
    (c_law_late_still_right : PySem.W.codeIn K cd_law_late_still_right "_law_late_still_right" = true)
    (k_law_late_still_right : PySem.W.keepIn K (.ref f_law_late_still_right) = true)
    (a_law : PySem.W.nsIn K mainGlobals "law" = some (some (.ref f_law)))
    (l_law : K.lookup f_law = some ⟨oc_law, od_law, .func (PySem.W.fnOf "law" "law" (defArgs s_law) (defBody s_law) (defScope s_law) .none kV_law dc_law pm_law an_law cd_law ct_law), sl_law⟩)
    (c_law : PySem.W.codeIn K cd_law "law" = true)
    (k_law : PySem.W.keepIn K (.ref f_law) = true)
    (z_len : PySem.W.nsIn K mainGlobals "len" = some none)
    (z_sum : PySem.W.nsIn K mainGlobals "sum" = some none)
    (z_max : PySem.W.nsIn K mainGlobals "max" = some none)
    (z_min : PySem.W.nsIn K mainGlobals "min" = some none)
    (z_abs : PySem.W.nsIn K mainGlobals "abs" = some none)
    (z_tuple : PySem.W.nsIn K mainGlobals "tuple" = some none)
    (z_list : PySem.W.nsIn K mainGlobals "list" = some none)
    (z_int : PySem.W.nsIn K mainGlobals "int" = some none)
    (z_bool : PySem.W.nsIn K mainGlobals "bool" = some none)
    (z_str : PySem.W.nsIn K mainGlobals "str" = some none)
    (z_isinstance : PySem.W.nsIn K mainGlobals "isinstance" = some none)
    (z_range : PySem.W.nsIn K mainGlobals "range" = some none)
    (z_sorted : PySem.W.nsIn K mainGlobals "sorted" = some none)
    (z_zip : PySem.W.nsIn K mainGlobals "zip" = some none) : Txt K mg where
    d_is_inside := ⟨_, _, fun_mk (st := s_is_inside) l_is_inside c_is_inside k_is_inside, PySem.W.mg_of X G a_is_inside, (fun_mk (st := s_is_inside) l_is_inside c_is_inside k_is_inside).binds (ps := ["field", "i", "j"]) fun _ _ _ _ _ _ us hl => match us, hl with | [_, _, _], _ => rfl⟩
    d_brought_inside := ⟨_, _, fun_mk (st := s_brought_inside) l_brought_inside c_brought_inside k_brought_inside, PySem.W.mg_of X G a_brought_inside, (fun_mk (st := s_brought_inside) l_brought_inside c_brought_inside k_brought_inside).binds (ps := ["rule", "place", "length"]) fun _ _ _ _ _ _ us hl => match us, hl with | [_, _, _], _ => rfl⟩
    d_stands_at := ⟨_, _, fun_mk (st := s_stands_at) l_stands_at c_stands_at k_stands_at, PySem.W.mg_of X G a_stands_at, (fun_mk (st := s_stands_at) l_stands_at c_stands_at k_stands_at).binds (ps := ["field", "rule", "i", "j"]) fun _ _ _ _ _ _ us hl => match us, hl with | [_, _, _, _], _ => rfl⟩
    d_places_around := ⟨_, _, fun_mk (st := s_places_around) l_places_around c_places_around k_places_around, PySem.W.mg_of X G a_places_around, (fun_mk (st := s_places_around) l_places_around c_places_around k_places_around).binds (ps := ["place", "ahead", "behind"]) fun _ _ _ _ _ _ us hl => match us, hl with | [_, _, _], _ => rfl⟩
    d_window_cells := ⟨_, _, fun_mk (st := s_window_cells) l_window_cells c_window_cells k_window_cells, PySem.W.mg_of X G a_window_cells, (fun_mk (st := s_window_cells) l_window_cells c_window_cells k_window_cells).binds (ps := ["field", "window", "rule", "i", "j"]) fun _ _ _ _ _ _ us hl => match us, hl with | [_, _, _, _, _], _ => rfl⟩
    d_place_by_share := ⟨_, _, fun_mk (st := s_place_by_share) l_place_by_share c_place_by_share k_place_by_share, PySem.W.mg_of X G a_place_by_share, (fun_mk (st := s_place_by_share) l_place_by_share c_place_by_share k_place_by_share).binds (ps := ["how_many", "share"]) fun _ _ _ _ _ _ us hl => match us, hl with | [_, _], _ => rfl⟩
    d_so_manieth := ⟨_, _, fun_mk (st := s_so_manieth) l_so_manieth c_so_manieth k_so_manieth, PySem.W.mg_of X G a_so_manieth, (fun_mk (st := s_so_manieth) l_so_manieth c_so_manieth k_so_manieth).binds (ps := ["numbers", "share"]) fun _ _ _ _ _ _ us hl => match us, hl with | [_, _], _ => rfl⟩
    d_without_holes := ⟨_, _, fun_mk (st := s_without_holes) l_without_holes c_without_holes k_without_holes, PySem.W.mg_of X G a_without_holes, (fun_mk (st := s_without_holes) l_without_holes c_without_holes k_without_holes).binds (ps := ["cells"]) fun _ _ _ _ _ _ us hl => match us, hl with | [_], _ => rfl⟩
    d_told_of_cells := ⟨_, _, fun_mk (st := s_told_of_cells) l_told_of_cells c_told_of_cells k_told_of_cells, PySem.W.mg_of X G a_told_of_cells, (fun_mk (st := s_told_of_cells) l_told_of_cells c_told_of_cells k_told_of_cells).binds (ps := ["cells", "share"]) fun _ _ _ _ _ _ us hl => match us, hl with | [_, _], _ => rfl⟩
    d_filtered := ⟨_, _, fun_mk (st := s_filtered) l_filtered c_filtered k_filtered, PySem.W.mg_of X G a_filtered, (fun_mk (st := s_filtered) l_filtered c_filtered k_filtered).binds (ps := ["field", "window", "rule", "share"]) fun _ _ _ _ _ _ us hl => match us, hl with | [_, _, _, _], _ => rfl⟩
    d_come_again := ⟨_, _, fun_mk (st := s_come_again) l_come_again c_come_again k_come_again, PySem.W.mg_of X G a_come_again, (fun_mk (st := s_come_again) l_come_again c_come_again k_come_again).binds (ps := ["field", "times", "ring"]) fun _ _ _ _ _ _ us hl => match us, hl with | [_, _, _], _ => rfl⟩
    d_again := ⟨_, _, fun_mk (st := s_again) l_again c_again k_again, PySem.W.mg_of X G a_again, (fun_mk (st := s_again) l_again c_again k_again).binds (ps := ["field", "window", "rule", "share", "most"]) fun _ _ _ _ _ _ us hl => match us, hl with | [_, _, _, _, _], _ => rfl⟩
    d_law_deck := ⟨_, _, fun_mk (st := s_law_deck) l_law_deck c_law_deck k_law_deck, PySem.W.mg_of X G a_law_deck, (fun_mk (st := s_law_deck) l_law_deck c_law_deck k_law_deck).binds (ps := ["script"]) fun _ _ _ _ _ _ us hl => match us, hl with | [_], _ => rfl⟩
    d_law_draw := ⟨_, _, fun_mk (st := s_law_draw) l_law_draw c_law_draw k_law_draw, PySem.W.mg_of X G a_law_draw, (fun_mk (st := s_law_draw) l_law_draw c_law_draw k_law_draw).binds (ps := ["deck", "most"]) fun _ _ _ _ _ _ us hl => match us, hl with | [_, _], _ => rfl⟩
    d_law_number := ⟨_, _, fun_mk (st := s_law_number) l_law_number c_law_number k_law_number, PySem.W.mg_of X G a_law_number, (fun_mk (st := s_law_number) l_law_number c_law_number k_law_number).binds (ps := ["deck", "kind"]) fun _ _ _ _ _ _ us hl => match us, hl with | [_, _], _ => rfl⟩
    d_law_same := ⟨_, _, fun_mk (st := s_law_same) l_law_same c_law_same k_law_same, PySem.W.mg_of X G a_law_same, (fun_mk (st := s_law_same) l_law_same c_law_same k_law_same).binds (ps := ["found", "due"]) fun _ _ _ _ _ _ us hl => match us, hl with | [_, _], _ => rfl⟩
    d_law_runs := ⟨_, _, fun_mk (st := s_law_runs) l_law_runs c_law_runs k_law_runs, PySem.W.mg_of X G a_law_runs, (fun_mk (st := s_law_runs) l_law_runs c_law_runs k_law_runs).binds (ps := ["deck", "width"]) fun _ _ _ _ _ _ us hl => match us, hl with | [_, _], _ => rfl⟩
    d_law_moved := ⟨_, _, fun_mk (st := s_law_moved) l_law_moved c_law_moved k_law_moved, PySem.W.mg_of X G a_law_moved, (fun_mk (st := s_law_moved) l_law_moved c_law_moved k_law_moved).binds (ps := ["rows", "by"]) fun _ _ _ _ _ _ us hl => match us, hl with | [_, _], _ => rfl⟩
    d_law_field_of := ⟨_, _, fun_mk (st := s_law_field_of) l_law_field_of c_law_field_of k_law_field_of, PySem.W.mg_of X G a_law_field_of, (fun_mk (st := s_law_field_of) l_law_field_of c_law_field_of k_law_field_of).binds (ps := ["rows", "turned"]) fun _ _ _ _ _ _ us hl => match us, hl with | [_, _], _ => rfl⟩
    d_law_with_lone := ⟨_, _, fun_mk (st := s_law_with_lone) l_law_with_lone c_law_with_lone k_law_with_lone, PySem.W.mg_of X G a_law_with_lone, (fun_mk (st := s_law_with_lone) l_law_with_lone c_law_with_lone k_law_with_lone).binds (ps := ["deck", "rows"]) fun _ _ _ _ _ _ us hl => match us, hl with | [_, _], _ => rfl⟩
    d_law_due := ⟨_, _, fun_mk (st := s_law_due) l_law_due c_law_due k_law_due, PySem.W.mg_of X G a_law_due, (fun_mk (st := s_law_due) l_law_due c_law_due k_law_due).binds (ps := ["first", "rows", "by", "ring", "most", "turned"]) fun _ _ _ _ _ _ us hl => match us, hl with | [_, _, _, _, _, _], _ => rfl⟩
    d_law_let_in := ⟨_, _, fun_mk (st := s_law_let_in) l_law_let_in c_law_let_in k_law_let_in, PySem.W.mg_of X G a_law_let_in, (fun_mk (st := s_law_let_in) l_law_let_in c_law_let_in k_law_let_in).binds (ps := ["deck"]) fun _ _ _ _ _ _ us hl => match us, hl with | [_], _ => rfl⟩
    d_law_let_in_by := ⟨_, _, fun_mk (st := s_law_let_in_by) l_law_let_in_by c_law_let_in_by k_law_let_in_by, PySem.W.mg_of X G a_law_let_in_by, (fun_mk (st := s_law_let_in_by) l_law_let_in_by c_law_let_in_by k_law_let_in_by).binds (ps := ["low", "high", "size", "corner", "times"]) fun _ _ _ _ _ _ us hl => match us, hl with | [_, _, _, _, _], _ => rfl⟩
    d_law_late_still_right := ⟨_, _, fun_mk (st := s_law_late_still_right) l_law_late_still_right c_law_late_still_right k_law_late_still_right, PySem.W.mg_of X G a_law_late_still_right, (fun_mk (st := s_law_late_still_right) l_law_late_still_right c_law_late_still_right k_law_late_still_right).binds (ps := ["deck"]) fun _ _ _ _ _ _ us hl => match us, hl with | [_], _ => rfl⟩
    d_law := ⟨_, _, fun_mk (st := s_law) l_law c_law k_law, PySem.W.mg_of X G a_law, (fun_mk (st := s_law) l_law c_law k_law).binds (ps := ["script"]) fun _ _ _ _ _ _ us hl => match us, hl with | [_], _ => rfl⟩
    n_len := PySem.W.mg_none_of X G z_len
    n_sum := PySem.W.mg_none_of X G z_sum
    n_max := PySem.W.mg_none_of X G z_max
    n_min := PySem.W.mg_none_of X G z_min
    n_abs := PySem.W.mg_none_of X G z_abs
    n_tuple := PySem.W.mg_none_of X G z_tuple
    n_list := PySem.W.mg_none_of X G z_list
    n_int := PySem.W.mg_none_of X G z_int
    n_bool := PySem.W.mg_none_of X G z_bool
    n_str := PySem.W.mg_none_of X G z_str
    n_isinstance := PySem.W.mg_none_of X G z_isinstance
    n_range := PySem.W.mg_none_of X G z_range
    n_sorted := PySem.W.mg_none_of X G z_sorted
    n_zip := PySem.W.mg_none_of X G z_zip
end Mw
open PySem PySem.W PyProof.Rows
set_option maxHeartbeats 0 in
theorem PySem.Challenge.cw_midwindow_k26_rows_that_go_round_holds : PySem.Challenge.rw_midwindow_k26_rows_that_go_round.Holds := by
  w_on; o_law; k_head; (case hw => w_witness2)
  k_fill
  refine L2.walk_df (l := PySem.Challenge.rw_midwindow_k26_rows_that_go_round) (k := 8) (st := Mw.s_law) rfl rfl rfl ⟨rfl, by decide, by decide⟩ (fun w h Y => PySem.W.kIn_of Y) (fun _ _ _ _ _ _ _ => rfl) ?F
  case F =>
    intro w mg h KX G
    have T : Mw.Txt (L2.KOf KX) mg := by
      dsimp only [L2.KOf]
      refine' Mw.txt_mk KX G ?a_is_inside ?l_is_inside ?c_is_inside ?k_is_inside ?a_brought_inside ?l_brought_inside ?c_brought_inside ?k_brought_inside ?a_stands_at ?l_stands_at ?c_stands_at ?k_stands_at ?a_places_around ?l_places_around ?c_places_around ?k_places_around ?a_window_cells ?l_window_cells ?c_window_cells ?k_window_cells ?a_place_by_share ?l_place_by_share ?c_place_by_share ?k_place_by_share ?a_so_manieth ?l_so_manieth ?c_so_manieth ?k_so_manieth ?a_without_holes ?l_without_holes ?c_without_holes ?k_without_holes ?a_told_of_cells ?l_told_of_cells ?c_told_of_cells ?k_told_of_cells ?a_filtered ?l_filtered ?c_filtered ?k_filtered ?a_come_again ?l_come_again ?c_come_again ?k_come_again ?a_again ?l_again ?c_again ?k_again ?a_law_deck ?l_law_deck ?c_law_deck ?k_law_deck ?a_law_draw ?l_law_draw ?c_law_draw ?k_law_draw ?a_law_number ?l_law_number ?c_law_number ?k_law_number ?a_law_same ?l_law_same ?c_law_same ?k_law_same ?a_law_runs ?l_law_runs ?c_law_runs ?k_law_runs ?a_law_moved ?l_law_moved ?c_law_moved ?k_law_moved ?a_law_field_of ?l_law_field_of ?c_law_field_of ?k_law_field_of ?a_law_with_lone ?l_law_with_lone ?c_law_with_lone ?k_law_with_lone ?a_law_due ?l_law_due ?c_law_due ?k_law_due ?a_law_let_in ?l_law_let_in ?c_law_let_in ?k_law_let_in ?a_law_let_in_by ?l_law_let_in_by ?c_law_let_in_by ?k_law_let_in_by ?a_law_late_still_right ?l_law_late_still_right ?c_law_late_still_right ?k_law_late_still_right ?a_law ?l_law ?c_law ?k_law ?z_len ?z_sum ?z_max ?z_min ?z_abs ?z_tuple ?z_list ?z_int ?z_bool ?z_str ?z_isinstance ?z_range ?z_sorted ?z_zip
      (case a_is_inside => k_is)
      (case l_is_inside => k_is)
      (case c_is_inside => k_is)
      (case k_is_inside => k_is)
      (case a_brought_inside => k_is)
      (case l_brought_inside => k_is)
      (case c_brought_inside => k_is)
      (case k_brought_inside => k_is)
      (case a_stands_at => k_is)
      (case l_stands_at => k_is)
      (case c_stands_at => k_is)
      (case k_stands_at => k_is)
      (case a_places_around => k_is)
      (case l_places_around => k_is)
      (case c_places_around => k_is)
      (case k_places_around => k_is)
      (case a_window_cells => k_is)
      (case l_window_cells => k_is)
      (case c_window_cells => k_is)
      (case k_window_cells => k_is)
      (case a_place_by_share => k_is)
      (case l_place_by_share => k_is)
      (case c_place_by_share => k_is)
      (case k_place_by_share => k_is)
      (case a_so_manieth => k_is)
      (case l_so_manieth => k_is)
      (case c_so_manieth => k_is)
      (case k_so_manieth => k_is)
      (case a_without_holes => k_is)
      (case l_without_holes => k_is)
      (case c_without_holes => k_is)
      (case k_without_holes => k_is)
      (case a_told_of_cells => k_is)
      (case l_told_of_cells => k_is)
      (case c_told_of_cells => k_is)
      (case k_told_of_cells => k_is)
      (case a_filtered => k_is)
      (case l_filtered => k_is)
      (case c_filtered => k_is)
      (case k_filtered => k_is)
      (case a_come_again => k_is)
      (case l_come_again => k_is)
      (case c_come_again => k_is)
      (case k_come_again => k_is)
      (case a_again => k_is)
      (case l_again => k_is)
      (case c_again => k_is)
      (case k_again => k_is)
      (case a_law_deck => k_is)
      (case l_law_deck => k_is)
      (case c_law_deck => k_is)
      (case k_law_deck => k_is)
      (case a_law_draw => k_is)
      (case l_law_draw => k_is)
      (case c_law_draw => k_is)
      (case k_law_draw => k_is)
      (case a_law_number => k_is)
      (case l_law_number => k_is)
      (case c_law_number => k_is)
      (case k_law_number => k_is)
      (case a_law_same => k_is)
      (case l_law_same => k_is)
      (case c_law_same => k_is)
      (case k_law_same => k_is)
      (case a_law_runs => k_is)
      (case l_law_runs => k_is)
      (case c_law_runs => k_is)
      (case k_law_runs => k_is)
      (case a_law_moved => k_is)
      (case l_law_moved => k_is)
      (case c_law_moved => k_is)
      (case k_law_moved => k_is)
      (case a_law_field_of => k_is)
      (case l_law_field_of => k_is)
      (case c_law_field_of => k_is)
      (case k_law_field_of => k_is)
      (case a_law_with_lone => k_is)
      (case l_law_with_lone => k_is)
      (case c_law_with_lone => k_is)
      (case k_law_with_lone => k_is)
      (case a_law_due => k_is)
      (case l_law_due => k_is)
      (case c_law_due => k_is)
      (case k_law_due => k_is)
      (case a_law_let_in => k_is)
      (case l_law_let_in => k_is)
      (case c_law_let_in => k_is)
      (case k_law_let_in => k_is)
      (case a_law_let_in_by => k_is)
      (case l_law_let_in_by => k_is)
      (case c_law_let_in_by => k_is)
      (case k_law_let_in_by => k_is)
      (case a_law_late_still_right => k_is)
      (case l_law_late_still_right => k_is)
      (case c_law_late_still_right => k_is)
      (case k_law_late_still_right => k_is)
      (case a_law => k_is)
      (case l_law => k_is)
      (case c_law => k_is)
      (case k_law => k_is)
      (case z_len => k_is)
      (case z_sum => k_is)
      (case z_max => k_is)
      (case z_min => k_is)
      (case z_abs => k_is)
      (case z_tuple => k_is)
      (case z_list => k_is)
      (case z_int => k_is)
      (case z_bool => k_is)
      (case z_str => k_is)
      (case z_isinstance => k_is)
      (case z_range => k_is)
      (case z_sorted => k_is)
      (case z_zip => k_is)
    exact ⟨T.d_law, fun base => Mw.df_law T⟩
